import PyProof.Rows.All
import Wide.All
import OpenK.AllK
import Wide.FinOn
import HandS.ForMost
import HandS.Defaults
import HandS.TupMul
import HandS.TupAny
import HandS.IsInst
import HandS.Conv
import KE.SortData
import KE.GoesMore
import HandS.Style
import HandS.Walk
import HandS.Zip
import HandS.TupLe
import HandS.DictComp
import KE.KDictSum
import HandS.ExcValue
import PySem.Challenge.RW_pairfolds_k26_what_has_no_number
import KE.KDictZip
import HandS.Text
import KE.DataCmp
import HandS.Exc
import HandS.ExcOwn
import HandS.ExcIs
import HandS.TryMany
import HandS.Wide
import PyProof.ReprLen
import HandS.Lambda
import HandS.EndTab
import KE.KNest
import HandS.TupSets
import PyProof.FactsAll.subtypes_4
import PyProof.Transfer
import HandS.WordsExc
import HandS.Codes
import HandS.SetFor
import PyProof.Rows.CountFlat
set_option Elab.async false
set_option linter.all false
set_option maxRecDepth 100000
set_option maxHeartbeats 4000000
namespace Pf
open PySem PySem.Spec PyProof.Rows L2

/-! ### a def that may be called: its promise, its name, its binding -/
structure Ca (P : Program) (w : World) (K : PySem.W.Frag) (mg : Str → Option Value) (base : Heap) (k : Nat) (x : Str) (ps : List Str) (sp : Sp) : Prop where
  ex : ∃ f fd, FnOk P w K mg base CX0 k f fd ps sp ∧ mg x = some (.ref f) ∧ PySem.W.keepIn K (.ref f) = true ∧ Binds K fd ps []
structure CaK (P : Program) (w : World) (K : PySem.W.Frag) (mg : Str → Option Value) (base : Heap) (k : Nat) (x : Str) (ps ks : List Str) (gV : List V → List V → List V) (sp : Sp) : Prop where
  ex : ∃ f fd g, FnOk P w K mg base CX0 k f fd ps sp ∧ mg x = some (.ref f) ∧ PySem.W.keepIn K (.ref f) = true ∧ KBn K fd ps 0 ks g gV
section
variable {X : Cx} {k : Nat} {x : Str} {ps ks : List Str} {sp : Sp} {p pos : Pos} {e : Expr} {es : List Expr} {kws : List Keyword} {t tk : TA} {gV : List V → List V → List V}
theorem pe_ca (c : Ca X.prog X.w X.K X.mg X.base k x ps sp) (hr : Room k X.A) (hg : Gl X x) (ha : PA X (e :: es) t) (hdb : (x == ("__debug__" : Str)) = false := by decide)
    (he : starEach (e :: es) X.env = (false, eval e X.env) :: starEach es X.env := by rfl) (hpl : (backTo pos (starEach es X.env)).any (·.1) = false := by rfl) :
    PE X (.Call (.Name x p) (e :: es) [] pos) (tCall sp [] E0 t) := by
  obtain ⟨f, fd, F, hm, hk, hb⟩ := c.ex
  exact pe_call F hr hg hm hk hb .nil pass0 ha hdb he hpl
theorem pe_ca0 (c : Ca X.prog X.w X.K X.mg X.base k x ps sp) (hr : Room k X.A) (hg : Gl X x) (hdb : (x == ("__debug__" : Str)) = false := by decide) :
    PE X (.Call (.Name x p) [] [] pos) (tCall sp [] E0 tNil) := by
  obtain ⟨f, fd, F, hm, hk, hb⟩ := c.ex
  exact pe_call0 F hr hg hm hk hb .nil pass0 hdb
/-- f(k = v, ..), by names alone -/
theorem pe_caK (c : CaK X.prog X.w X.K X.mg X.base k x ps ks gV sp) (hr : Room k X.A) (hg : Gl X x) (hkw : PK X kws tk)
    (hall : (backToKw pos (keywordEach kws X.env)).all (·.1.isSome) = true := by rfl) (hks : (backToKw pos (keywordEach kws X.env)).filterMap (·.1) = ks := by rfl) (hdb : (x == ("__debug__" : Str)) = false := by decide)
    (hpl : ((backTo pos (starEach [] X.env)).any (·.1) || (backToKw pos (keywordEach kws X.env)).any (·.1.isNone)) = false := by rfl) :
    PE X (.Call (.Name x p) [] kws pos) (tCallN 0 ks.length sp gV E0 tNil tk) := by
  obtain ⟨f, fd, g, F, hm, hk, hb⟩ := c.ex
  refine ⟨fun pins s σ H Q I h => ?_⟩
  refine wpAny_Call_Name_kw (ld_glob I hg hm ?_ hdb)
  refine PySem.W.callWith_KW0 (h₀ := X.base) I.ok.mod.kin hk hall ?_ hpl
  refine thn (hkw.run pos pins s σ H _ I h) fun ws s2 ⟨zs, H2, I2, rz, l1, l2, q2⟩ => ⟨I2.kIn, ?_⟩
  rw [hks]
  exact run_fnN (us := []) (vs := []) F hr hb pass0 I2 .nil rz rfl l2 q2
end

/-! ### rules that read a list or a tuple, the written part by its letter -/
theorem ixL (K : PySem.W.Frag) {X : Cx} (h : X.K = K := by rfl) : IxR X (rIxL K) := h ▸ ix_list
theorem ixT (K : PySem.W.Frag) {X : Cx} (h : X.K = K := by rfl) : IxR X (rIxT K) := h ▸ ix_tup
theorem ixA (K : PySem.W.Frag) {X : Cx} (h : X.K = K := by rfl) : IxR X (rIx K) := h ▸ ix_seq
def rLenA (K : PySem.W.Frag) : List V → Hp → VK → Prop := fun xs H Q => ∃ x n, xs = [x] ∧ LenV K x H n ∧ Q (.int n) H
theorem lenA (K : PySem.W.Frag) {X : Cx} (h : X.K = K := by rfl) : CallR X (.builtin "len") (rLenA K) := by
  subst h
  exact call_len
theorem repT (K : PySem.W.Frag) {X : Cx} (h : X.K = K := by rfl) : OpR X (binaryOp .Mult) (rRepT K) := h ▸ op_repT
theorem slL (K : PySem.W.Frag) {X : Cx} (h : X.K = K := by rfl) : SlR X (rSlL K) := h ▸ sl_list
theorem slT (K : PySem.W.Frag) {X : Cx} (h : X.K = K := by rfl) : SlR X (rSlT K) := h ▸ sl_tup
theorem eqD (K : PySem.W.Frag) {X : Cx} (hu : X.A.units + 64 < cLine) (h : X.K = K := by rfl) : OpR X (compareOp .Eq) (rEqD K) := h ▸ op_eqD hu
theorem neD (K : PySem.W.Frag) {X : Cx} (hu : X.A.units + 64 < cLine) (h : X.K = K := by rfl) : OpR X (compareOp .NotEq) (rNeD K) := h ▸ op_neD hu
theorem catT (K : PySem.W.Frag) {X : Cx} (h : X.K = K := by rfl) : OpR X (binaryOp .Add) (rCatT K) := h ▸ op_catT
theorem catA (K : PySem.W.Frag) {X : Cx} (h : X.K = K := by rfl) : OpR X (binaryOp .Add) (rCatA K) := h ▸ op_catA
theorem slA (K : PySem.W.Frag) {X : Cx} (h : X.K = K := by rfl) : SlR X (rSlA K) := h ▸ sl_tupA
theorem isi1 (K : PySem.W.Frag) {X : Cx} (h : X.K = K := by rfl) : CallR X (.builtin "isinstance") (rIsi K) := h ▸ call_isi
theorem pgT (K : PySem.W.Frag) {X : Cx} {es : List Expr} {k n : Nat} {t : TGs} {pos : Pos} (hc : X.calm = true) (h : PGs X es t) (hK : X.K = K := by rfl) (hn : (assignEach es X.env).length = n := by rfl) (hst : (assignEach es X.env).findIdx? (·.1) = none := by rfl) :
    PG X (.Tuple es k pos) (gTup K n t) := by
  subst hK
  exact pg_tup hc h hn hst
def rLen (K : PySem.W.Frag) : List V → Hp → VK → Prop := fun xs H Q => ∃ p ys, xs = [.ref p] ∧ (SqL K H p ys ∨ SqT K H p ys) ∧ Q (.int ys.length) H
theorem lenQ (K : PySem.W.Frag) {X : Cx} (h : X.K = K := by rfl) : CallR X (.builtin "len") (rLen K) := by
  subst h
  exact call_len_seq
def rListOf (K : PySem.W.Frag) : List V → Hp → VK → Prop := fun xs H Q => ∃ p ys, xs = [.ref p] ∧ (SqL K H p ys ∨ SqT K H p ys) ∧ ∀ l, H l = none → Q (.ref l) (upd H l (.lst ys))
theorem listOf (K : PySem.W.Frag) {X : Cx} (h : X.K = K := by rfl) : CallR X (.type "list") (rListOf K) := by
  subst h
  exact call_list_of
def rTupleOf (K : PySem.W.Frag) : List V → Hp → VK → Prop := fun xs H Q => ∃ p ys, xs = [.ref p] ∧ ((SqL K H p ys ∧ ∀ l, H l = none → Q (.ref l) (upd H l (.tup ys))) ∨ (SqT K H p ys ∧ Q (.ref p) H))
theorem tupleOf (K : PySem.W.Frag) {X : Cx} (h : X.K = K := by rfl) : CallR X (.type "tuple") (rTupleOf K) := by
  subst h
  exact call_tuple_of

/-! ### repr of a plain thing -/
def repV : V → Str
  | .non => "None"
  | .bl b => if b then "True" else "False"
  | .int i => toString i
  | _ => ""
def RepOk : V → Prop
  | .non => True
  | .bl _ => True
  | .int i => i.natAbs.log2 < 1920
  | _ => False
theorem call_repr {X : Cx} : CallR X (.builtin "repr") (fun xs H Q => ∃ v, xs = [v] ∧ RepOk v ∧ Q (.str (repV v)) H) := by
  intro pins s σ H xs us Q I r h
  obtain ⟨v, rfl, hz, q⟩ := h
  cases v with
  | non =>
    obtain ⟨u, rfl, rfl⟩ := vals1 r
    exact PySem.P.repr_of_none ⟨.str _, H, I.tok _, ⟨_, rfl⟩, q⟩
  | bl b =>
    obtain ⟨u, rfl, rfl⟩ := vals1 r
    exact PySem.P.repr_of_bool ⟨.str _, H, I.tok _, ⟨_, rfl⟩, by cases b <;> exact q⟩
  | int i =>
    obtain ⟨u, rfl, t, rfl⟩ := vals1 r
    exact PySem.P.repr_of_int hz ⟨.str _, H, I.tok _, ⟨_, rfl⟩, q⟩
  | str _ => exact hz.elim
  | byt _ => exact hz.elim
  | flt _ => exact hz.elim
  | ref _ => exact hz.elim
  | ty _ => exact hz.elim

/-! ### texts of small letters -/
def Small (x : Str) : Prop := ∀ c ∈ x.cps.toList, 97 ≤ c ∧ c ≤ 122
theorem Small.app {a b : Str} (ha : Small a) (hb : Small b) : Small (a ++ b) := fun c h => by
  rw [Str.cps_append, Array.toList_append, List.mem_append] at h
  rcases h with h | h
  · exact ha c h
  · exact hb c h
theorem Small.one {c : Nat} (h : 97 ≤ c ∧ c ≤ 122) : Small ⟨#[c]⟩ := fun d hd => by
  have e : d = c := by simpa using hd
  subst e
  exact h
theorem Small.at {x : Str} (h : Small x) {i c : Nat} (hi : x.cps[i]? = some c) : 97 ≤ c ∧ c ≤ 122 := by
  refine h c ?_
  have := Array.mem_of_getElem? hi
  exact Array.mem_toList_iff.mpr this
theorem Small.ok {x : Str} (h : Small x) : PyData.strOk x = true := by
  show x.cps.all (· < 0x110000) = true
  rw [Array.all_eq_true_iff_forall_mem]
  intro c hc
  have := h c (Array.mem_toList_iff.mpr hc)
  exact decide_eq_true (by omega)
/-! ### a chain of three comparisons -/
def tChain3 (r1 r2 r3 : R2) (ta tb tc td : TE) : TE := fun σ H Q => ta σ H fun x H1 => tb σ H1 fun y H2 => r1 x y H2 fun z H3 => ∃ k, z = .bl k ∧
  (if k = true then tc σ H3 fun u H4 => r2 y u H4 fun z2 H5 => ∃ k2, z2 = .bl k2 ∧ (if k2 = true then td σ H5 fun v H6 => r3 u v H6 Q else Q (.bl false) H5) else Q (.bl false) H3)
theorem pt_chain3 {X : Cx} {o1 o2 o3 : CmpOp} {r1 r2 r3 : R2} {a b c d : Expr} {ta tb tc td : TE} {pos : Pos} (h1 : OpR X (compareOp o1) r1) (h2 : OpR X (compareOp o2) r2) (h3 : OpR X (compareOp o3) r3)
    (ha : PE X a ta) (hb : PE X b tb) (hc : PE X c tc) (hd : PE X d td) (hm : lastMarks [o1, o2, o3] [b, c, d] = false := by with_unfolding_all rfl) :
    PT X (.Compare a [o1, o2, o3] [b, c, d] pos) (tTest (tChain3 r1 r2 r3 ta tb tc td)) := by
  refine ⟨fun pins s σ H Q I h => isTrue_chain (thn (ha.run pins s σ H _ I h) fun v s1 ⟨x, H1, I1, e1, q1⟩ => test_link ?_) hm⟩
  refine thn (hb.run pins s1 σ H1 _ I1 q1) fun u s2 ⟨y, H2, I2, e2, q2⟩ => ?_
  refine thn (h1 pins s2 σ H2 x y v u _ I2 e1 e2 q2) fun dv s3 ⟨z, H3, I3, e3, k, ek, q3⟩ => ?_
  subst ek
  cases e3
  refine wpAny_truthy_bool ?_
  cases k with
  | false =>
    obtain ⟨k', e', q'⟩ := q3
    cases e'
    exact ite_ff ⟨H3, I3, q'⟩
  | true =>
    refine ite_tt (test_link ?_)
    refine thn (hc.run pins s3 σ H3 _ I3 q3) fun u4 s4 ⟨y4, H4, I4, e4, q4⟩ => ?_
    refine thn (h2 pins s4 σ H4 y y4 u u4 _ I4 e2 e4 q4) fun dv5 s5 ⟨z5, H5, I5, e5, k5, ek5, q5⟩ => ?_
    subst ek5
    cases e5
    refine wpAny_truthy_bool ?_
    cases k5 with
    | false =>
      obtain ⟨k', e', q'⟩ := q5
      cases e'
      exact ite_ff ⟨H5, I5, q'⟩
    | true =>
      refine ite_tt (test_last ?_)
      refine thn (hd.run pins s5 σ H5 _ I5 q5) fun u6 s6 ⟨y6, H6, I6, e6, q6⟩ => ?_
      refine thn (h3 pins s6 σ H6 y4 y6 u4 u6 _ I6 e4 e6 q6) fun dv7 s7 ⟨z7, H7, I7, e7, k7, ek7, q7⟩ => ?_
      subst ek7
      cases e7
      exact wpAny_truthy_bool ⟨H7, I7, q7⟩
theorem inSeq (K : PySem.W.Frag) {X : Cx} (h : X.K = K := by rfl) : OpR X (compareOp .In) (rIn K false) := h ▸ op_in_seq
theorem notInSeq (K : PySem.W.Frag) {X : Cx} (h : X.K = K := by rfl) : OpR X (compareOp .NotIn) (rIn K true) := h ▸ op_notIn_seq
/-! ### join with nothing between -/
theorem join_str (ys : List Str) : Txt.join "" ys = Str.join "" ys := eq_of_beq (join_closes (ys := ys) rfl)
theorem sjoin_le {m : Nat} : ∀ {ys : List Str}, (∀ y ∈ ys, y.length ≤ m) → (Str.join "" ys).length ≤ ys.length * m
  | [], _ => Nat.zero_le _
  | [y], h => by
    have := h y (List.mem_cons_self ..)
    show y.length ≤ 1 * m
    omega
  | y :: z :: r, h => by
    have h1 := h y (List.mem_cons_self ..)
    have h2 := sjoin_le (ys := z :: r) fun x hx => h x (List.mem_cons_of_mem _ hx)
    show (y ++ "" ++ Str.join "" (z :: r)).length ≤ _
    rw [Str.length_append, Str.length_append, List.length_cons, Nat.succ_mul]
    show y.length + 0 + _ ≤ _
    omega
theorem small_nil : Small "" := by
  unfold Small
  decide +kernel
theorem sjoin_small : ∀ {ys : List Str}, (∀ y ∈ ys, Small y) → Small (Str.join "" ys)
  | [], _ => small_nil
  | [y], h => h y (List.mem_cons_self ..)
  | y :: z :: r, h => ((h y (List.mem_cons_self ..)).app small_nil).app (sjoin_small (ys := z :: r) fun x hx => h x (List.mem_cons_of_mem _ hx))
theorem join_le {m : Nat} {ys : List Str} (h : ∀ y ∈ ys, y.length ≤ m) : (Txt.join "" ys).length ≤ ys.length * m := by
  rw [join_str]
  exact sjoin_le h
theorem join_small {ys : List Str} (h : ∀ y ∈ ys, Small y) : Small (Txt.join "" ys) := by
  rw [join_str]
  exact sjoin_small h

/-! ### a walk over a text's signs -/
theorem for_str {x : Str} {g : TG} {tb : TS} {D : Ends} {σ : L2.St} {H : Hp} (Pv : Nat → L2.St → Hp → Prop) (h0 : Pv 0 σ H)
    (hs : ∀ i c σ H, x.cps[i]? = some c → Pv i σ H → g (.str ⟨#[c]⟩) σ H fun σ2 H2 => tb { D with nx := Pv (i + 1), ct := Pv (i + 1), bk := D.nx } σ2 H2) (hd : ∀ σ H, Pv x.cps.size σ H → D.nx σ H) :
    ∃ W : Nat → Nat → L2.St → Hp → Prop, (∃ m, W 0 m σ H) ∧ ∀ i m σ H, W i m σ H →
      ((Its x).stop i H ∧ D.nx σ H) ∨ ((Its x).go i H ∧ ∃ N : L2.St → Hp → Prop, (∀ σ' H', N σ' H' → ∃ m', m' < m ∧ W (i + 1) m' σ' H') ∧ ∀ y H', (Its x).yld i H y H' → g y σ H' fun σ2 H2 => tb { D with nx := N, ct := N, bk := D.nx } σ2 H2) := by
  refine ⟨fun i m σ H => m = x.cps.size - i ∧ i ≤ x.cps.size ∧ Pv i σ H, ⟨x.cps.size, by simp, Nat.zero_le _, h0⟩, ?_⟩
  rintro i m σ H ⟨rfl, hi, p⟩
  by_cases hlt : i < x.cps.size
  · refine .inr ⟨hlt, Pv (i + 1), fun σ' H' p' => ⟨x.cps.size - (i + 1), by omega, rfl, hlt, p'⟩, fun y H' z => ?_⟩
    obtain ⟨e, c, hc, ev⟩ := z
    subst e ev
    exact hs i c σ _ hc p
  · have e : i = x.cps.size := by omega
    subst e
    exact .inl ⟨Nat.le_refl _, hd σ H p⟩
theorem lc_str {x : Str} {g : TG} {tt : TT} {te : TE} {vs : List Nat} {σ : L2.St} {H1 : Hp} {D : Addr} {Qd : Hp → Prop} (Pv : Nat → Hp → Prop) (h0 : Pv 0 (upd H1 D (.lst [])))
    (hs : ∀ i c H, x.cps[i]? = some c → Pv i H → g (.str ⟨#[c]⟩) (wipe σ vs) H fun σ2 H2 => wipe σ2 vs = wipe σ vs ∧ tt σ2 H2 fun b H3 =>
      if b = true then te σ2 H3 fun y H4 => ∃ acc, H4 D = some (.lst acc) ∧ acc.length < sizeLine ∧ Pv (i + 1) (upd H4 D (.lst (acc ++ [y]))) else Pv (i + 1) H3) (hd : ∀ H, Pv x.cps.size H → Qd H) :
    ∃ W : Nat → Nat → Hp → Prop, (∃ m, W 0 m (upd H1 D (.lst []))) ∧ ∀ i m H, W i m H →
      ((Its x).stop i H ∧ Qd H) ∨ ((Its x).go i H ∧ ∃ Nx : Hp → Prop, (∀ H', Nx H' → ∃ m', m' < m ∧ W (i + 1) m' H') ∧ ∀ y H', (Its x).yld i H y H' → g y (wipe σ vs) H' fun σ2 H2 => wipe σ2 vs = wipe σ vs ∧ tt σ2 H2 fun b H3 =>
        if b = true then te σ2 H3 fun y H4 => ∃ acc, H4 D = some (.lst acc) ∧ acc.length < sizeLine ∧ Nx (upd H4 D (.lst (acc ++ [y]))) else Nx H3) := by
  refine ⟨fun i m H => m = x.cps.size - i ∧ i ≤ x.cps.size ∧ Pv i H, ⟨x.cps.size, by simp, Nat.zero_le _, h0⟩, ?_⟩
  rintro i m H ⟨rfl, hi, p⟩
  by_cases hlt : i < x.cps.size
  · refine .inr ⟨hlt, Pv (i + 1), fun H' p' => ⟨x.cps.size - (i + 1), by omega, rfl, hlt, p'⟩, fun y H' z => ?_⟩
    obtain ⟨e, c, hc, ev⟩ := z
    subst e ev
    exact hs i c _ hc p
  · have e : i = x.cps.size := by omega
    subst e
    exact .inl ⟨Nat.le_refl _, hd H p⟩

/-! ### what stays in the heap, but the thing at p -/
def Kp (p : Addr) (H H' : Hp) : Prop := ∀ b o, b ≠ p → H b = some o → H' b = some o
theorem Kp.refl {p : Addr} {H : Hp} : Kp p H H := fun _ _ _ e => e
theorem Kp.trans {p : Addr} {H H1 H2 : Hp} (a : Kp p H H1) (b : Kp p H1 H2) : Kp p H H2 := fun c o n e => b c o n (a c o n e)
theorem Kp.new {p q : Addr} {H : Hp} {o : HO} (h : H q = none) : Kp p H (upd H q o) := fun b x _ e => by
  rw [upd_ne (ne_of_none e h)]
  exact e
theorem Kp.at {p : Addr} {H : Hp} {o : HO} : Kp p H (upd H p o) := fun b x n e => by
  rw [upd_ne n]
  exact e
/-- a change of what stood nowhere in H -/
theorem Kp.put {p q : Addr} {H H1 : Hp} {o : HO} (k : Kp p H H1) (h : H q = none) : Kp p H (upd H1 q o) := fun b x n e => by
  rw [upd_ne (ne_of_none e h)]
  exact k b x n e
theorem Kp.tup {p : Addr} {H H' : Hp} {ys : List V} {b : Addr} {xs : List V} (k : Kp p H H') (hp : H p = some (.lst ys)) (h : H b = some (.tup xs)) : H' b = some (.tup xs) :=
  k b _ (ne_of h hp (by intro z; cases z)) h
theorem Kp.some {p : Addr} {H H' : Hp} (k : Kp p H H') (hp : ∃ o, H' p = some o) {b : Addr} (h : H' b = none) : H b = none := by
  cases e : H b with
  | none => rfl
  | some o =>
    by_cases n : b = p
    · subst n
      obtain ⟨o', e'⟩ := hp
      rw [e'] at h
      cases h
    · rw [k b o n e] at h
      cases h

/-! ### arguments by names, in another order -/
def permV (js : List Nat) : List V → List V → List V := fun _ zs => js.map fun j => zs.getD j .non
def permU (js : List Nat) : List Value → List Value → List Value := fun _ ws => js.map fun j => ws.getD j .none
theorem vals_getD : ∀ {zs : List V} {ws : List Value} (j : Nat), Vals zs ws → RelV (zs.getD j .non) (ws.getD j .none)
  | _, _, _, .nil => rfl
  | _, _, 0, .cons r _ => r
  | _, _, j + 1, .cons _ t => vals_getD j t
theorem perm_rel {zs : List V} {ws : List Value} (r : Vals zs ws) : ∀ js : List Nat, Vals (js.map fun j => zs.getD j .non) (js.map fun j => ws.getD j .none)
  | [] => .nil
  | j :: js => .cons (vals_getD j r) (perm_rel r js)
theorem kbn_of {K : PySem.W.Frag} {fd : FuncData} {ps ks : List Str} (js : List Nat) (h : ∀ ws : List Value, ws.length = ks.length → bindArgs fd ⟨[], ks.zip ws⟩ = pure (ps.zip (js.map fun j => ws.getD j .none))) :
    KBn K fd ps 0 ks (permU js) (permV js) where
  to := fun s us ws _ hu hw => by
    obtain rfl := List.length_eq_zero_iff.mp hu
    exact .of_eq (h ws hw)
  rel := fun _ r => perm_rel r js
/-! ### what is added, and nothing changed -/
def Ext (H H' : Hp) : Prop := ∀ b o, H b = some o → H' b = some o
theorem Ext.refl {H : Hp} : Ext H H := fun _ _ e => e
theorem Ext.trans {H H1 H2 : Hp} (a : Ext H H1) (b : Ext H1 H2) : Ext H H2 := fun c o e => b c o (a c o e)
theorem Ext.new {q : Addr} {H : Hp} {o : HO} (h : H q = none) : Ext H (upd H q o) := fun b x e => by
  rw [upd_ne (ne_of_none e h)]
  exact e
theorem Ext.put {q : Addr} {H H1 : Hp} {o : HO} (k : Ext H H1) (h : H q = none) : Ext H (upd H1 q o) := fun b x e => by
  rw [upd_ne (ne_of_none e h)]
  exact k b x e
theorem Ext.none {H H' : Hp} (k : Ext H H') {q : Addr} (h : H' q = none) : H q = none := by
  cases e : H q with
  | none => rfl
  | some o =>
    rw [k q o e] at h
    cases h

theorem atI_get {α : Type} {xs : List α} {i : Int} (h0 : 0 ≤ i) (h1 : i < xs.length) : atI xs i = some (xs[i.toNat]'(by omega)) := by
  unfold atI ixN
  rw [if_pos h0, if_pos h1]
  exact List.getElem?_eq_getElem _
theorem atI_ints {ns : List Int} {i : Int} (h0 : 0 ≤ i) (h1 : i < ns.length) : ∃ z, z ∈ ns ∧ atI (ns.map V.int) i = some (.int z) := by
  have h2 : i < (ns.map V.int).length := by rw [List.length_map]; exact h1
  refine ⟨ns[i.toNat]'(by omega), List.getElem_mem _, ?_⟩
  rw [atI_get h0 h2, List.getElem_map]
theorem atI_mem {α : Type} {xs : List α} {i : Int} (h0 : 0 ≤ i) (h1 : i < xs.length) : ∃ v, v ∈ xs ∧ atI xs i = some v :=
  ⟨xs[i.toNat]'(by omega), List.getElem_mem _, atI_get h0 h1⟩
theorem len_pos {x : Str} (h : ¬ x = "") : 1 ≤ x.length := by
  obtain ⟨⟨l⟩⟩ := x
  cases l with
  | nil => exact absurd (by decide +kernel) h
  | cons a r =>
    show 1 ≤ (a :: r).length
    exact Nat.succ_pos _
theorem natAbs_lt_of {i : Int} {n : Nat} (h0 : -(n : Int) < i) (h1 : i < n) : i.natAbs < n := by omega
theorem log2_small {i : Int} (h : i.natAbs < 2 ^ 64) : i.natAbs.log2 < 1920 := by
  by_cases z : i.natAbs = 0
  · rw [z]
    decide
  · exact (Nat.log2_lt z).mpr (Nat.lt_of_lt_of_le h (Nat.pow_le_pow_right (by decide) (by decide)))
theorem szL {n : Nat} (h : n ≤ 1000000) : n ≤ sizeLine := by
  rw [sizeLine_eq]
  omega
theorem szLt {n : Nat} (h : n < 1000000) : n < sizeLine := by
  rw [sizeLine_eq]
  omega
end Pf


namespace Pf
open PySem PySem.Spec PyProof.Rows L2
/-! ### the law's own call: made by nobody, nothing being shown meanwhile -/
structure FnG (P : Program) (w : World) (K : PySem.W.Frag) (mg : Str → Option Value) (base : Heap) (f : Addr) (fd : FuncData) (ps : List Str) (sp : Sp) : Prop where
  run : ∀ (s : Shared) (H : Hp) (args : Args) (us : List Value) (vs : List V) (Q : VK) (E : XK), Env0 P w K mg base callerA [] s H → BindsTo s fd args (ps.zip us) → Vals vs us → sp vs H Q E →
    codeAny (model P w) callerA (.call (.ref f) args) (CR CX0 [] P w H s Q E) s
theorem FnG.of {P : Program} {w : World} {K : PySem.W.Frag} {mg : Str → Option Value} {base : Heap} {k : Nat} {f : Addr} {fd : FuncData} {x qual : Str} {st : Stmt} {N ps : List Str} {sp : Sp} (F : Fun K x qual st f fd) (S : FnScope N ps (defScope st))
    (room : Room (k + 1) callerA) (len : ∀ vs H Q E, sp vs H Q E → vs.length = ps.length)
    (body : ∀ (cdv : Value) (s : Shared) (H : Hp) (vs : List V) (Q : VK) (E : XK), Room k (callerA.deeper (envOfC qual (defScope st) s.heap.objs.size f cdv)) → (callerA.deeper (envOfC qual (defScope st) s.heap.objs.size f cdv)).guards = some [] → sp vs H Q E →
      ∃ t, PSs (cxOf CX0 P w K mg base N qual (defScope st) f cdv callerA [] s H E).nox (defBody st) t ∧ t { nx := fun _ H' => Q .non H', rt := Q } (start N vs) H) : FnG P w K mg base f fd ps sp := by
  obtain ⟨oc, od, kV, doc, pm, an, cdv, ct, osl, rfl, lk, hcd⟩ := F.ex
  refine ⟨fun s H args us vs Q E env0 bnd rel hsp => ?_⟩
  have inS : K.In s.heap := env0.mod.kin.keeps fun b o e => (env0.bs b o e).1
  have limS : s.heap.NoLimit := env0.mod.nolimit.keeps fun b o e => (env0.bs b o e).1
  have kinds : ∀ y ∈ ps.zip us, (defScope st).names.lookup y.1 = some .local ∨ ((defScope st).names.lookup y.1 = some .cell ∧ ((cellsFrom (s.heap.objs.size + 1) (defScope st).names []).lookup y.1).isSome = true) := by
    rintro ⟨n, v⟩ hy
    cases S.par n (List.of_mem_zip hy).1 with
    | inl q => exact .inl q
    | inr q => exact .inr ⟨q, PySem.W.cellsFrom_some _ _ _ (.inl q)⟩
  refine codeAny_call_function room.depth (inS _ _ lk) rfl S.co S.gen rfl (PySem.W.codeRec_of inS hcd) (bnd _ _ _ _ ?_)
  refine wpAny_newFunctionEnv_cells S.kind kinds fun env0' he s1 inC => ?_
  subst he
  refine ⟨limS.keeps inC.toInCall.keep, codeAny_func ?_⟩
  obtain ⟨t, ht, hq⟩ := body cdv s H vs Q E (room.deeper _) rfl hsp
  have I0 : Inv (cxOf CX0 P w K mg base N qual (defScope st) f cdv callerA [] s H E) [] (start N vs) H s1 := inv_start S room.hd env0 (len _ _ _ _ hsp) rel inC
  refine wpAny_mono (ht.nox.run [] s1 (start N vs) H _ I0 hq) (fun fl s' hs => ?_) fun _ _ z => z
  cases fl with
  | ret u =>
    obtain ⟨v, σ', H', J, rv, q⟩ := hs
    exact ⟨v, H', J.os, J.bare, J.base, J.hok, rv, q⟩
  | next =>
    obtain ⟨σ', H', J, q⟩ := hs
    exact ⟨.non, H', J.os, J.bare, J.base, J.hok, rfl, q⟩
  | brk => exact False.elim (by obtain ⟨_, _, _, q⟩ := hs; exact q)
  | cont => exact False.elim (by obtain ⟨_, _, _, q⟩ := hs; exact q)
/-- its end: from an abstract heap that holds the script or nothing -/
theorem FnG.ends {P : Program} {w : World} {K : PySem.W.Frag} {mg mb : Str → Option Value} {fa a : Addr} {fd : FuncData} {x : Str} {sp : Sp} {s1 : Shared} {vs : List Value} {ns : List Int}
    (inK : K.In s1.heap) (gl : s1.heap.Ns mainGlobals mg) (bl : s1.heap.Ns builtinsNs mb) (bb : ∀ x : Str, x ≠ "__name__" → mb x = bootBuiltins x) (lim : s1.heap.NoLimit) (gens : s1.gens = #[])
    (hscr : s1.heap.get? a = some { cls := .type "list", data := .seq vs.toArray }) (hin : IntsAre vs ns) (F : ∀ base : Heap, K.In base → base.Ns mainGlobals mg → FnG P w K mg base fa fd [x] sp) (bnd : ∀ (s : Shared) (u : Value), BindsTo s fd ⟨[u], []⟩ [(x, u)])
    {H : Hp} (only : Only H) (hsp : sp [.ref a] H (fun v _ => v = .bl true) fun _ _ _ => False) (hok : HOk P w H s1.heap) (hA : ∀ b, H b ≠ none → b = a) (hK : H a ≠ none → K.lookup a = none) :
    codeAny (model P w) callerA (.call (.ref fa) ⟨[.ref a], []⟩) (fun r s' => r = .ok (.ret (.bool true)) ∧ OldK s1.heap s'.heap ∧ s'.os = s1.os ∧ AllBare s'.gens) s1 := by
  have isA : ∀ {b : Addr} {u : HO}, H b = some u → b = a := fun {b u} q => hA b (by rw [q]; exact Option.some_ne_none _)
  have hid : ∀ {b : Addr} {o : Obj}, s1.heap.get? b = some o → H b = none → (hidT s1.heap H).get? b = some o := fun e n => hidT_get e n
  have dictN : ∀ {b : Addr} {o : Obj} {es : Array DictEntry} {ep : Nat}, s1.heap.get? b = some o → o.data = .dict es ep → H b = none := by
    intro b o es ep e d
    cases q : H b with
    | none => rfl
    | some u =>
      obtain rfl := isA q
      rw [hscr] at e
      cases e
      exact nomatch d
  have nsH : ∀ {b : Addr} {m : Str → Option Value}, s1.heap.Ns b m → (hidT s1.heap H).Ns b m := by
    rintro b m ⟨o, es, ep, e, d, r⟩
    exact ⟨o, es, ep, hid e (dictN e d), d, r⟩
  have inB : K.In (hidT s1.heap H) := by
    intro b o e
    refine hid (inK b o e) ?_
    cases q : H b with
    | none => rfl
    | some u =>
      obtain rfl := isA q
      rw [hK (by rw [q]; exact Option.some_ne_none _)] at e
      cases e
  have limB : (hidT s1.heap H).NoLimit := by
    obtain ⟨mc, h1, h2⟩ := lim
    exact ⟨mc, nsH h1, h2⟩
  have env0 : Env0 P w K mg (hidT s1.heap H) callerA [] s1 H :=
    ⟨rfl, ⟨inB, nsH gl, ⟨mb, nsH bl, bb⟩, limB⟩, fun b o e => of_hidT e, Nat.le_of_eq (hidT_size _ _), trivial, fun b hb => (nomatch (show b ∈ ([] : List Addr) from hb)), hok, .of_eq gens⟩
  refine codeAny_mono ((F _ inB (nsH gl)).run s1 H ⟨[.ref a], []⟩ [.ref a] [.ref a] _ _ env0 (bnd s1 (.ref a)) (.cons rfl .nil) hsp) fun r s' h => ?_
  match r, h with
  | .error _, h => exact False.elim h
  | .ok .next, h => exact False.elim h
  | .ok .brk, h => exact False.elim h
  | .ok .cont, h => exact False.elim h
  | .ok (.ret u), h =>
    obtain ⟨v, H', os, bare, un, hok', rel, q⟩ := h
    obtain rfl : v = .bl true := q
    obtain rfl : u = Value.bool true := rel
    refine ⟨rfl, OldK.of_keep fun b o e => ?_, os, bare⟩
    cases q : H b with
    | none => exact un.keep b o e q (fun z => (nomatch (show b ∈ ([] : List Addr) from z))) (by simp)
    | some u =>
      cases only b with
      | inl z => rw [q] at z; cases z
      | inr z =>
        obtain ⟨ob, xs, z⟩ := z
        have kept := (hok' b _ (un.frzs b ob _ z)).1
        have was := (hok b _ z).1
        rw [e] at was
        cases was
        exact kept
theorem walk_g {l : PySem.W.OpenLaw} {n : Nat} {q : Program} {loose : List Str} {XP : (Str → Option Value) → Heap → Prop} {YP : World → Heap → Prop} {d : DefRec} {K : Params → PySem.W.Frag} {sp : World → Sp} {x : Str}
    (hn : l.most = some n) (hn2 : n ≤ sizeLine) (hdf : d.params.defaults = []) (hY : ∀ (w : World) (h : Heap), YP w h → (K w.params).In h)
    (F : ∀ (w : World) (mg : Str → Option Value) (fa : Addr) (h : Heap), (K w.params).In h → h.Ns mainGlobals mg → mg d.name = some (.ref fa) →
      ∃ fd : FuncData, (∀ (s : Shared) (u : Value), BindsTo s fd ⟨[u], []⟩ [(x, u)]) ∧ ∀ base : Heap, (K w.params).In base → base.Ns mainGlobals mg → FnG l.prog w (K w.params) mg base fa fd [x] (sp w))
    (hsp : ∀ (w : World) (H : Hp) (a : Addr) (ns : List Int), ns.length ≤ n → SqL (K w.params) H a (ns.map V.int) → sp w [.ref a] H (fun v _ => v = .bl true) fun _ _ _ => False) :
    PySem.W.WalkO q loose XP YP l.row.toRowW d [] (fun f vs => PySem.call f vs) := by
  refine Att.attach_call hn hdf fun w s0 s1 mg mb fa o pm cd doc a vs ns G Y ho hd hcd hmg hobj hints hlen hg => ?_
  have inK := hY w _ Y
  obtain ⟨fd, bnd, hF⟩ := F w mg fa _ inK G.T.g hmg
  have szs : ns.length ≤ sizeLine := Nat.le_trans hlen hn2
  have vals := vals_ints hints
  cases hk : (K w.params).lookup a with
  | some ob =>
    have e := inK a ob hk
    rw [hobj] at e
    cases e
    have here : SqL (K w.params) (fun _ => none) a (ns.map V.int) := .inr ⟨_, vs.toArray, _, hk, rfl, rfl, rfl, by rw [List.size_toArray, hints.length]; exact szs, by simpa using vals⟩
    exact FnG.ends inK G.T.g G.T.b G.T.builtins G.T.nolimit hg hobj hints hF bnd (fun _ => .inl rfl) (hsp w _ a ns hlen here) (fun _ _ z => (nomatch z)) (fun b z => absurd rfl z) fun z => absurd rfl z
  | none =>
    have here : SqL (K w.params) (fun b => if b = a then some (.frz { cls := .type "list", data := .seq vs.toArray } (.lst (ns.map V.int))) else none) a (ns.map V.int) := .inl (.inr ⟨_, if_pos rfl⟩)
    refine FnG.ends inK G.T.g G.T.b G.T.builtins G.T.nolimit hg hobj hints hF bnd (fun b => ?_) (hsp w _ a ns hlen here) (fun b u z => ?_) (fun b z => ?_) fun _ => hk
    · exact if h : b = a then .inr ⟨_, _, if_pos h⟩ else .inl (if_neg h)
    · by_cases h : b = a
      · rw [if_pos h] at z
        cases z
        subst h
        exact ⟨hobj, by rw [List.length_map]; exact szs, vs, _, vals, hobj⟩
      · rw [if_neg h] at z
        cases z
    · by_cases h : b = a
      · exact h
      · exact absurd (if_neg h) z
/-! ### data that are small: how much they weigh, how deep they are -/
structure Sm (m k : Nat) (d : PyData) : Prop where
  lay : d.canLay0 = true
  sho : d.showable = true
  ish : d.intsShort 13 = true
  wt : d.weight ≤ m
  dep : d.depth ≤ k
theorem Sm.le {m k m' k' : Nat} {d : PyData} (h : Sm m k d) (hm : m ≤ m') (hk : k ≤ k') : Sm m' k' d := ⟨h.lay, h.sho, h.ish, Nat.le_trans h.wt hm, Nat.le_trans h.dep hk⟩
theorem Sm.non : Sm 0 0 .none := ⟨by simp [PyData.canLay0], by simp [PyData.showable], by simp [PyData.intsShort], by simp [PyData.weight], by simp [PyData.depth]⟩
theorem Sm.bl (b : Bool) : Sm 0 0 (.bool b) := ⟨by simp [PyData.canLay0], by simp [PyData.showable], by simp [PyData.intsShort], by simp [PyData.weight], by simp [PyData.depth]⟩
theorem Sm.int {i : Int} (h0 : -1000000000 < i) (h1 : i < 1000000000) : Sm 64 0 (.int i) := by
  have hb : i.natAbs < 2 ^ 64 := by omega
  have hl : i.natAbs.log2 < 64 := by
    by_cases z : i.natAbs = 0
    · rw [z]
      decide
    · exact (Nat.log2_lt z).mpr hb
  refine ⟨by simp [PyData.canLay0], ?_, ?_, ?_, by simp [PyData.depth]⟩
  · simp only [PyData.showable]
    exact decide_eq_true (by omega)
  · simp only [PyData.intsShort, PyData.shown]
    refine decide_eq_true ?_
    by_cases hn : i < 0
    · rw [len_text_neg hn]
      have := toString_length_le (v := 0 - i) (k := 9) (by omega) (by decide) (by omega)
      omega
    · have := toString_length_le (v := i) (k := 9) (by omega) (by decide) (by omega)
      omega
  · simp only [PyData.weight]
    split <;> omega
theorem Sm.str {x : Str} {n : Nat} (h : PyData.strOk x = true) (hn : x.length ≤ n) : Sm n 0 (.str x) :=
  ⟨by simpa only [PyData.canLay0] using h, by simp [PyData.showable], by simp [PyData.intsShort], by simp only [PyData.weight]; exact hn, by simp [PyData.depth]⟩
structure SmA (n m k : Nat) (ds : List PyData) : Prop where
  lay : PyData.canLayAll0 ds = true
  sho : PyData.showableAll ds = true
  ish : PyData.intsShortAll 13 ds = true
  wt : PyData.weightAll ds ≤ ds.length * (m + 1)
  dep : PyData.depthAll ds ≤ k
theorem SmA.of {m k : Nat} : ∀ {ds : List PyData}, (∀ d ∈ ds, Sm m k d) → SmA ds.length m k ds
  | [], _ => ⟨by simp [PyData.canLayAll0], by simp [PyData.showableAll], by simp [PyData.intsShortAll], by simp [PyData.weightAll], by simp [PyData.depthAll]⟩
  | d :: ds, h => by
    have h1 := h d (List.mem_cons_self ..)
    have h2 := SmA.of (ds := ds) fun x hx => h x (List.mem_cons_of_mem _ hx)
    refine ⟨by simp [PyData.canLayAll0, h1.lay, h2.lay], by simp [PyData.showableAll, h1.sho, h2.sho], by simp [PyData.intsShortAll, h1.ish, h2.ish], ?_, ?_⟩
    · have e1 := h1.wt
      have e2 := h2.wt
      simp only [PyData.weightAll, List.length_cons, Nat.succ_mul]
      omega
    · simp only [PyData.depthAll]
      exact Nat.max_le.mpr ⟨h1.dep, h2.dep⟩
theorem Sm.lst {n m k M : Nat} {ds : List PyData} (hn : ds.length ≤ n) (h : ∀ d ∈ ds, Sm m k d) (hM : n * (m + 1) ≤ M) : Sm M (k + 1) (.list ds) := by
  have a := SmA.of h
  have hw : ds.length * (m + 1) ≤ n * (m + 1) := Nat.mul_le_mul_right _ hn
  exact ⟨by simpa only [PyData.canLay0] using a.lay, by simpa only [PyData.showable] using a.sho, by simpa only [PyData.intsShort] using a.ish, by simp only [PyData.weight]; exact Nat.le_trans a.wt (Nat.le_trans hw hM), by simp only [PyData.depth]; exact Nat.succ_le_succ a.dep⟩
theorem Sm.tup {n m k M : Nat} {ds : List PyData} (hn : ds.length ≤ n) (h : ∀ d ∈ ds, Sm m k d) (hM : n * (m + 1) ≤ M) : Sm M (k + 1) (.tuple ds) := by
  have a := SmA.of h
  have hw : ds.length * (m + 1) ≤ n * (m + 1) := Nat.mul_le_mul_right _ hn
  exact ⟨by simpa only [PyData.canLay0] using a.lay, by simpa only [PyData.showable] using a.sho, by simpa only [PyData.intsShort] using a.ish, by simp only [PyData.weight]; exact Nat.le_trans a.wt (Nat.le_trans hw hM), by simp only [PyData.depth]; exact Nat.succ_le_succ a.dep⟩
theorem Sm.shaped {m k : Nat} {d : PyData} (h : Sm m k d) (hk : k ≤ 50) : SeqAt.shaped d = true := by
  show (d.canLay0 && decide (d.depth ≤ 64)) = true
  rw [h.lay, decide_eq_true (show d.depth ≤ 64 from Nat.le_trans h.dep (by omega))]
  rfl
theorem Sm.short {m k : Nat} {d : PyData} (h : Sm m k d) (hm : m ≤ 1000000) (hk : k ≤ 50) : d.shown.length ≤ sizeLine := by
  have e : PyData.layable0 d = true := by
    show (d.canLay0 && decide (d.depth ≤ 64) && decide (d.weight ≤ 2 ^ 20)) = true
    rw [h.lay, decide_eq_true (show d.depth ≤ 64 from Nat.le_trans h.dep (by omega)), decide_eq_true (show d.weight ≤ 2 ^ 20 from Nat.le_trans h.wt (by omega))]
    rfl
  have := shown_le13 e h.ish
  rw [sizeLine_eq]
  omega
/-! ### repr of data at any depth -/
def rShow (K : PySem.W.Frag) : List V → Hp → VK → Prop := fun xs H Q => ∃ v d m k, xs = [v] ∧ Dp K H v d ∧ Sm m k d ∧ m ≤ 1000000 ∧ k ≤ 50 ∧ Q (.str d.shown) H
theorem call_show (K : PySem.W.Frag) {X : Cx} (hg : X.A.guards = some []) (hu : X.A.units + 64 < cLine) (hK : X.K = K := by rfl) : CallR X (.builtin "repr") (rShow K) := by
  subst hK
  intro pins s σ H xs us Q I r h
  obtain ⟨v, d, m, k, rfl, hd, sh, hm, hk, q⟩ := h
  have hdep := sh.dep
  have hz := sh.short hm hk
  cases hd with
  | non =>
    obtain ⟨u, rfl, rfl⟩ := vals1 r
    exact PySem.P.repr_of_none ⟨.str _, H, I.tok _, ⟨_, rfl⟩, by simpa only [PyData.shown] using q⟩
  | bl b =>
    obtain ⟨u, rfl, rfl⟩ := vals1 r
    refine PySem.P.repr_of_bool ⟨.str _, H, I.tok _, ⟨_, rfl⟩, ?_⟩
    simp only [PyData.shown] at q
    cases b <;> exact q
  | int i =>
    obtain ⟨u, rfl, t, rfl⟩ := vals1 r
    have hi : i.natAbs.log2 < 1920 := by simpa [PyData.showable] using sh.sho
    exact PySem.P.repr_of_int hi ⟨.str _, H, I.tok _, ⟨_, rfl⟩, by simpa only [PyData.shown] using q⟩
  | str x =>
    obtain ⟨u, rfl, t, rfl⟩ := vals1 r
    simp only [PyData.shown] at q hz
    exact PySem.P.repr_of_str ⟨.str _, H, I.tok _, ⟨_, rfl⟩, q⟩ hz
  | @lst a ys ds hs hds =>
    obtain ⟨u, rfl, rfl⟩ := vals1 r
    obtain ⟨as, rd⟩ := Dp.reads I _ _ _ (Dp.lst hs hds) (show RelV (.ref a) (.ref a) from rfl)
    exact PySem.repr_of_reads' rd sh.sho (PyData.noDict_hsm (PyData.hasDict_of_canLay _ sh.lay)) hg (by omega) (fun _ _ e => e) (fun h' u tk keep => ⟨.str _, H, I.kept keep, ⟨_, rfl⟩, q⟩) hz
  | @tup a ys ds hs hds =>
    obtain ⟨u, rfl, rfl⟩ := vals1 r
    obtain ⟨as, rd⟩ := Dp.reads I _ _ _ (Dp.tup hs hds) (show RelV (.ref a) (.ref a) from rfl)
    exact PySem.repr_of_reads' rd sh.sho (PyData.noDict_hsm (PyData.hasDict_of_canLay _ sh.lay)) hg (by omega) (fun _ _ e => e) (fun h' u tk keep => ⟨.str _, H, I.kept keep, ⟨_, rfl⟩, q⟩) hz
/-! ### sorted of data -/
def rSortD (K : PySem.W.Frag) : List V → Hp → VK → Prop := fun vs H Q => ∃ (β : Type) (v : β → V) (d : β → PyData) (a : Addr) (bs : List β), vs = [.ref a] ∧ SqL K H a (bs.map v) ∧ (∀ b ∈ bs, Dp K H (v b) (d b) ∧ (d b).depth ≤ 50) ∧
  PySem.W.AllAlike (bs.map d) ∧ PySem.W.Sortable (bs.map d) ∧ ∀ p, H p = none → Q (.ref p) (upd H p (.lst ((bs.mergeSort (PySem.W.dataLe false d)).map v)))
section
variable {β : Type} {v : β → V} {d : β → PyData}
theorem each_vals : ∀ {bs : List β} {its : List Value}, Vals (bs.map v) its → PySem.W.EachIs (fun (u : Value) (b : β) => RelV (v b) u) its bs
  | [], _, .nil => .nil
  | _ :: _, _, .cons r t => .cons r (each_vals t)
theorem vals_each : ∀ {bs : List β} {its : List Value}, PySem.W.EachIs (fun (u : Value) (b : β) => RelV (v b) u) its bs → Vals (bs.map v) its
  | [], _, .nil => .nil
  | _ :: _, _, .cons r t => .cons r (vals_each t)
theorem each_reads {X : Cx} {pins : List (Addr × Obj)} {σ : L2.St} {H : Hp} {s : Shared} (I : Inv X pins σ H s) : ∀ {bs : List β} {its : List Value}, Vals (bs.map v) its → (∀ b ∈ bs, Dp X.K H (v b) (d b)) → PySem.W.EachIs (fun (u : Value) (b : β) => ∃ as, Reads s.heap u (d b) as) its bs
  | [], _, .nil, _ => .nil
  | b :: _, _, .cons r t, h => .cons (Dp.reads I _ _ _ (h b (List.mem_cons_self ..)) r) (each_reads I t fun x hx => h x (List.mem_cons_of_mem _ hx))
end
theorem cr_sortD (K : PySem.W.Frag) {X : Cx} (hu : X.A.units + 64 < cLine) (hK : X.K = K := by rfl) : CallR X (.builtin "sorted") (rSortD K) := by
  subst hK
  intro pins s σ H vs us Q I r h
  obtain ⟨β, v, d, a, bs, rfl, hs, hd, al, so, q⟩ := h
  obtain ⟨u, rfl, rfl⟩ := vals1 r
  obtain ⟨its, rv, hl, hz⟩ := I.list hs
  rw [List.length_map] at hz
  refine PySem.W.sorted_data (enc := d) (R := fun (u : Value) (b : β) => RelV (v b) u) hl.isList (each_vals rv) (each_reads I rv fun b hb => (hd b hb).1) al so hz (fun b hb => ?_) fun out hlen he => ?_
  · have := (hd b hb).2
    omega
  · obtain ⟨ep, he'⟩ := PyProof.Rows.sortedAll_at s.heap its out.toArray
    have hlen2 : ((bs.mergeSort (PySem.W.dataLe false d)).map v).length ≤ sizeLine := by
      rw [List.length_map, List.length_mergeSort]
      exact hz
    exact ⟨.ref _, upd H (s.heap.objs.size + 1) (.lst ((bs.mergeSort (PySem.W.dataLe false d)).map v)), I.laid (t' := s.toks) (fun _ _ => PyProof.Rows.sortedAll_old) (Nat.le_succ _) ⟨hlen2, out, ep, vals_each he, by simpa using he'⟩, rfl, q _ (I.hok.fresh (Nat.le_succ _))⟩
end Pf


namespace Pf
open PySem PySem.Spec PyProof.Rows L2
/-! ### tuples stay -/
structure TupK (H H' : Hp) : Prop where
  tup : ∀ b xs, H b = some (.tup xs) → H' b = some (.tup xs)
  frz : ∀ b o u, H b = some (.frz o u) → H' b = some (.frz o u)
instance {H H' : Hp} : CoeFun (TupK H H') (fun _ => ∀ b xs, H b = some (.tup xs) → H' b = some (.tup xs)) := ⟨TupK.tup⟩
theorem TupK.refl {H : Hp} : TupK H H := ⟨fun _ _ e => e, fun _ _ _ e => e⟩
theorem TupK.trans {H H1 H2 : Hp} (a : TupK H H1) (b : TupK H1 H2) : TupK H H2 := ⟨fun c xs e => b.tup c xs (a.tup c xs e), fun c o u e => b.frz c o u (a.frz c o u e)⟩
theorem TupK.ext {H H' : Hp} (k : Ext H H') : TupK H H' := ⟨fun b _ e => k b _ e, fun b _ _ e => k b _ e⟩
theorem TupK.new {q : Addr} {H : Hp} {o : HO} (h : H q = none) : TupK H (upd H q o) := TupK.ext (Ext.new h)
theorem TupK.lst {q : Addr} {H : Hp} {o : HO} {ys : List V} (h : H q = some (.lst ys)) : TupK H (upd H q o) := by
  refine ⟨fun b xs e => ?_, fun b o u e => ?_⟩
  · rw [upd_ne (ne_of e h (by intro z; cases z))]
    exact e
  · rw [upd_ne (ne_of e h (by intro z; cases z))]
    exact e
theorem paired_imp {α β : Type} {R S : α → β → Prop} (h : ∀ a b, R a b → S a b) : ∀ {xs : List α} {ys : List β}, Paired R xs ys → Paired S xs ys
  | _, _, .nil => .nil
  | _, _, .cons r t => .cons (h _ _ r) (paired_imp h t)
theorem paired_get {α β : Type} {R : α → β → Prop} : ∀ {xs : List α} {ys : List β} {i : Nat} {x : α}, Paired R xs ys → xs[i]? = some x → ∃ y, ys[i]? = some y ∧ R x y
  | _, _, _, _, .nil, e => by simp at e
  | _, _, 0, _, .cons r _, e => by
    simp at e
    subst e
    exact ⟨_, rfl, r⟩
  | _, _, i + 1, x, .cons _ t, e => by
    obtain ⟨y, h1, h2⟩ := paired_get (i := i) (x := x) t (by simpa using e)
    exact ⟨y, by simpa using h1, h2⟩
theorem paired_len {α β : Type} {R : α → β → Prop} : ∀ {xs : List α} {ys : List β}, Paired R xs ys → xs.length = ys.length
  | _, _, .nil => rfl
  | _, _, .cons _ t => by rw [List.length_cons, List.length_cons, paired_len t]
theorem paired_app {α β : Type} {R : α → β → Prop} : ∀ {xs xs' : List α} {ys ys' : List β}, Paired R xs ys → Paired R xs' ys' → Paired R (xs ++ xs') (ys ++ ys')
  | _, _, _, _, .nil, s => s
  | _, _, _, _, .cons r t, s => .cons r (paired_app t s)
/-! ### things as they lie in the heap -/
def PairAt (H : Hp) (v : V) (x : Str × Int) : Prop := ∃ a, v = .ref a ∧ H a = some (.tup [.str x.1, .int x.2])
def StackAt (H : Hp) (v : V) (x : Str × Str × Int) : Prop := ∃ a, v = .ref a ∧ H a = some (.tup [.str x.1, .str x.2.1, .int x.2.2])
def TwoAt (H : Hp) (v : V) (x : Int × Int) : Prop := ∃ a, v = .ref a ∧ H a = some (.tup [.int x.1, .int x.2])
def TupOf {α : Type} (R : Hp → V → α → Prop) (H : Hp) (v : V) (xs : List α) : Prop := ∃ a vs, v = .ref a ∧ H a = some (.tup vs) ∧ Paired (R H) vs xs
def Mono {α : Type} (R : Hp → V → α → Prop) : Prop := ∀ H H' v x, TupK H H' → R H v x → R H' v x
theorem PairAt.mono : Mono PairAt := fun H H' v x k ⟨a, e, h⟩ => ⟨a, e, k _ _ h⟩
theorem StackAt.mono : Mono StackAt := fun H H' v x k ⟨a, e, h⟩ => ⟨a, e, k _ _ h⟩
theorem TwoAt.mono : Mono TwoAt := fun H H' v x k ⟨a, e, h⟩ => ⟨a, e, k _ _ h⟩
theorem TupOf.mono {α : Type} {R : Hp → V → α → Prop} (m : Mono R) : Mono (TupOf R) := fun H H' v x k ⟨a, vs, e, h, r⟩ => ⟨a, vs, e, k _ _ h, paired_imp (fun _ _ => m _ _ _ _ k) r⟩
/-- a tuple whose object is known to have no dict -/
def FrzOf {α : Type} (R : Hp → V → α → Prop) (H : Hp) (v : V) (xs : List α) : Prop := ∃ (a : Addr) (o : Obj) (vs : List V), v = .ref a ∧ H a = some (.frz o (.tup vs)) ∧ o.dict = none ∧ Paired (R H) vs xs
theorem FrzOf.mono {α : Type} {R : Hp → V → α → Prop} (m : Mono R) : Mono (FrzOf R) := fun H H' v x k ⟨a, o, vs, e, h, hd, r⟩ => ⟨a, o, vs, e, k.frz _ _ _ h, hd, paired_imp (fun _ _ => m _ _ _ _ k) r⟩
theorem SqT.fz {K : PySem.W.Frag} {H : Hp} {a : Addr} {o : Obj} {xs : List V} (h : H a = some (.frz o (.tup xs))) : SqT K H a xs := .inl (.inr ⟨o, h⟩)
def IntAt (_ : Hp) (v : V) (x : Int) : Prop := v = .int x
theorem IntAt.mono : Mono IntAt := fun _ _ _ _ _ e => e
theorem paired_ints {H : Hp} : ∀ ns : List Int, Paired (IntAt H) (ns.map V.int) ns
  | [] => .nil
  | _ :: r => .cons rfl (paired_ints r)
structure Rl where
  letters : Str
  prs : List (Str × Int)
  span : Int
  loops : List Int
  stk : List (Str × Str × Int)
def RulesAt (H : Hp) (v : V) (r : Rl) : Prop := ∃ a vp vl vs, v = .ref a ∧ H a = some (.tup [.str r.letters, vp, .int r.span, vl, vs]) ∧ FrzOf PairAt H vp r.prs ∧ TupOf IntAt H vl r.loops ∧ TupOf StackAt H vs r.stk
theorem RulesAt.mono : Mono RulesAt := fun H H' v x k ⟨a, vp, vl, vs, e, h, h1, h2, h3⟩ => ⟨a, vp, vl, vs, e, k _ _ h, FrzOf.mono PairAt.mono _ _ _ _ k h1, TupOf.mono IntAt.mono _ _ _ _ k h2, TupOf.mono StackAt.mono _ _ _ _ k h3⟩
/-- pairs as a tuple of either make -/
def PrsW (H : Hp) (v : V) (xs : List (Str × Int)) : Prop := ∃ (a : Addr) (vs : List V), v = .ref a ∧ ((∃ o, H a = some (.frz o (.tup vs))) ∨ H a = some (.tup vs)) ∧ Paired (PairAt H) vs xs
theorem PrsW.mono : Mono PrsW := fun H H' v x k ⟨a, vs, e, h, r⟩ => ⟨a, vs, e, h.elim (fun ⟨o, h⟩ => .inl ⟨o, k.frz _ _ _ h⟩) (fun h => .inr (k _ _ h)), paired_imp (fun _ _ => PairAt.mono _ _ _ _ k) r⟩
theorem SqT.w {K : PySem.W.Frag} {H : Hp} {a : Addr} {xs : List V} (h : (∃ o, H a = some (.frz o (.tup xs))) ∨ H a = some (.tup xs)) : SqT K H a xs := h.elim (fun ⟨_, h⟩ => SqT.fz h) (fun h => SqT.of h)
def RulesW (H : Hp) (v : V) (r : Rl) : Prop := ∃ a vp vl vs, v = .ref a ∧ H a = some (.tup [.str r.letters, vp, .int r.span, vl, vs]) ∧ PrsW H vp r.prs ∧ TupOf IntAt H vl r.loops ∧ TupOf StackAt H vs r.stk
theorem RulesW.mono : Mono RulesW := fun H H' v x k ⟨a, vp, vl, vs, e, h, h1, h2, h3⟩ => ⟨a, vp, vl, vs, e, k _ _ h, PrsW.mono _ _ _ _ k h1, TupOf.mono IntAt.mono _ _ _ _ k h2, TupOf.mono StackAt.mono _ _ _ _ k h3⟩
theorem RulesAt.w {H : Hp} {v : V} {r : Rl} (h : RulesAt H v r) : RulesW H v r := by
  obtain ⟨a, vp, vl, vs, e, h, ⟨ap, o, us, e1, h1, _, p⟩, h2, h3⟩ := h
  exact ⟨a, vp, vl, vs, e, h, ⟨ap, us, e1, .inl ⟨o, h1⟩, p⟩, h2, h3⟩
def Two (t : Str) : Prop := t.length = 2 ∧ Small t
structure RlOk (r : Rl) : Prop where
  let6 : r.letters.length ≤ 6
  let1 : 1 ≤ r.letters.length
  small : Small r.letters
  prs : r.prs.length ≤ 12
  pr : ∀ x ∈ r.prs, Two x.1 ∧ -99 ≤ x.2 ∧ x.2 ≤ 99
  sp0 : 0 ≤ r.span
  sp3 : r.span ≤ 3
  lo9 : r.loops.length = 9
  lo : ∀ x ∈ r.loops, -99 ≤ x ∧ x ≤ 99
  stk : r.stk.length ≤ 12
  st : ∀ x ∈ r.stk, Two x.1 ∧ Two x.2.1 ∧ -99 ≤ x.2.2 ∧ x.2.2 ≤ 99
  nd : (r.stk.map fun x => (x.1, x.2.1)).Nodup
  pn : (r.prs.map (·.1)).Nodup
/-! ### a dict by two texts -/
def encE (x : Str × Str × Int) : List Key × V := ([.inr x.1, .inr x.2.1], .int x.2.2)
def putE (es : List (Str × Str × Int)) (a b : Str) (i : Int) : List (Str × Str × Int) :=
  if (es.any fun x => decide (x.1 = a ∧ x.2.1 = b)) = true then es.map (fun x => if x.1 = a ∧ x.2.1 = b then (x.1, x.2.1, i) else x) else es ++ [(a, b, i)]
theorem encE_key (x : Str × Str × Int) (a b : Str) : ((encE x).1 = [Sum.inr a, Sum.inr b]) ↔ (x.1 = a ∧ x.2.1 = b) := by
  unfold encE
  constructor
  · intro h
    injection h with h1 h2
    injection h2 with h3 _
    exact ⟨Sum.inr.inj h1, Sum.inr.inj h3⟩
  · rintro ⟨h1, h2⟩
    rw [h1, h2]
theorem put_enc (es : List (Str × Str × Int)) (a b : Str) (i : Int) : putK (es.map encE) [Sum.inr a, Sum.inr b] (.int i) = (putE es a b i).map encE := by
  have hany : ((es.map encE).any fun kv => decide (kv.1 = [Sum.inr a, Sum.inr b])) = es.any fun x => decide (x.1 = a ∧ x.2.1 = b) := by
    rw [List.any_map]
    congr 1
    funext x
    exact decide_eq_decide.mpr (encE_key x a b)
  unfold putK putE
  rw [hany]
  by_cases h : (es.any fun x => decide (x.1 = a ∧ x.2.1 = b)) = true
  · rw [if_pos h, if_pos h, List.map_map, List.map_map]
    refine List.map_congr_left fun x _ => ?_
    show (if (encE x).1 = [Sum.inr a, Sum.inr b] then ((encE x).1, V.int i) else encE x) = encE (if x.1 = a ∧ x.2.1 = b then (x.1, x.2.1, i) else x)
    by_cases e : x.1 = a ∧ x.2.1 = b
    · rw [if_pos ((encE_key x a b).mpr e), if_pos e]
      rfl
    · rw [if_neg (fun z => e ((encE_key x a b).mp z)), if_neg e]
  · rw [if_neg h, if_neg h, List.map_append]
    rfl
theorem putE_keys (es : List (Str × Str × Int)) (a b : Str) (i : Int) (hn : (es.map fun x => (x.1, x.2.1)).Nodup) : ((putE es a b i).map fun x => (x.1, x.2.1)).Nodup := by
  unfold putE
  split
  · rw [List.map_map]
    have e : ((fun x : Str × Str × Int => (x.1, x.2.1)) ∘ fun x => if x.1 = a ∧ x.2.1 = b then (x.1, x.2.1, i) else x) = fun x => (x.1, x.2.1) := by
      funext x
      show (fun x : Str × Str × Int => (x.1, x.2.1)) (if x.1 = a ∧ x.2.1 = b then (x.1, x.2.1, i) else x) = _
      split <;> rfl
    rw [e]
    exact hn
  · rename_i h
    rw [List.map_append]
    refine List.nodup_append.mpr ⟨hn, by simp, fun x hx y hy e => ?_⟩
    obtain ⟨z, hz, rfl⟩ := List.mem_map.mp hx
    have hy' : y = (a, b) := by simpa using hy
    rw [hy'] at e
    injection e with e1 e2
    exact h (List.any_eq_true.mpr ⟨z, hz, decide_eq_true ⟨e1, e2⟩⟩)
theorem putE_len (es : List (Str × Str × Int)) (a b : Str) (i : Int) : (putE es a b i).length ≤ es.length + 1 := by
  unfold putE
  split
  · rw [List.length_map]
    omega
  · rw [List.length_append]
    exact Nat.le_refl _
theorem putE_all {Pd : Str × Str × Int → Prop} {es : List (Str × Str × Int)} {a b : Str} {i : Int} (h : ∀ x ∈ es, Pd x) (hn : Pd (a, b, i)) : ∀ x ∈ putE es a b i, Pd x := by
  intro x hx
  unfold putE at hx
  split at hx
  · obtain ⟨y, hy, rfl⟩ := List.mem_map.mp hx
    split
    · rename_i e
      rw [e.1, e.2]
      exact hn
    · exact h y hy
  · rcases List.mem_append.mp hx with hx | hx
    · exact h x hx
    · rw [List.mem_singleton.mp hx]
      exact hn
theorem val_enc {es : List (Str × Str × Int)} {a b : Str} {i : Int} (hn : (es.map fun x => (x.1, x.2.1)).Nodup) (h : (a, b, i) ∈ es) : valV (es.map encE) [Sum.inr a, Sum.inr b] = some (.int i) := by
  induction es with
  | nil => cases h
  | cons y r ih =>
    rw [List.map_cons]
    rw [List.map_cons, List.nodup_cons] at hn
    by_cases e : y.1 = a ∧ y.2.1 = b
    · rw [valV_pos ((encE_key y a b).mpr e)]
      rcases List.mem_cons.mp h with z | z
      · rw [← z]
        rfl
      · exact absurd (List.mem_map.mpr ⟨_, z, by rw [e.1, e.2]⟩) hn.1
    · rw [valV_neg (fun z => e ((encE_key y a b).mp z))]
      rcases List.mem_cons.mp h with z | z
      · rw [← z] at e
        exact absurd ⟨rfl, rfl⟩ e
      · exact ih hn.2 z
theorem map_erase {α β : Type} (f : α → β) : ∀ (xs : List α) (k : Nat), (xs.map f).eraseIdx k = (xs.eraseIdx k).map f
  | [], _ => rfl
  | _ :: _, 0 => rfl
  | x :: r, k + 1 => by
    show f x :: (r.map f).eraseIdx k = f x :: (r.eraseIdx k).map f
    rw [map_erase f r k]
theorem dpStrs {K : PySem.W.Frag} {H : Hp} : ∀ us : List Str, DpAll K H (us.map V.str) (us.map PyData.str)
  | [] => .nil
  | _ :: r => .cons (.str _) (dpStrs r)
theorem sm_strs {us : List Str} {n m : Nat} (hn : us.length ≤ n) (h : ∀ t ∈ us, Small t ∧ t.length ≤ m) (hM : n * (m + 1) ≤ 1000000) : Sm 1000000 1 (.list (us.map PyData.str)) := by
  refine Sm.lst (n := n) (m := m) (k := 0) (by rw [List.length_map]; exact hn) (fun d hd => ?_) hM
  obtain ⟨t, ht, rfl⟩ := List.mem_map.mp hd
  exact Sm.str (h t ht).1.ok (h t ht).2
theorem keys_zip {H : Hp} : ∀ {es : List (Str × Str × Int)} {bs : List Addr}, IsKeys H (es.map encE) bs → ∃ bes : List (Addr × (Str × Str × Int)), bes.map (·.1) = bs ∧ bes.map (·.2) = es ∧ ∀ x ∈ bes, H x.1 = some (.tup [.str x.2.1, .str x.2.2.1])
  | [], _, .nil => ⟨[], rfl, rfl, fun x h => by cases h⟩
  | e :: es, b :: bs, .cons r t => by
    obtain ⟨bes, h1, h2, h3⟩ := keys_zip (es := es) t
    refine ⟨(b, e) :: bes, by rw [List.map_cons, h1], by rw [List.map_cons, h2], fun x hx => ?_⟩
    rcases List.mem_cons.mp hx with rfl | hx
    · exact r
    · exact h3 x hx
theorem ixN_in {n : Nat} {i : Int} (h0 : 0 ≤ i) (h1 : i < n) : seqIndex? i n = some i.toNat := by
  refine (ixN_seq ?_).1
  unfold ixN
  rw [if_pos h0, if_pos h1]
end Pf


namespace Pf
open PySem PySem.Spec PyProof.Rows L2
/-! ### enumerate of a text -/
def ItES (x : Str) : It :=
  ⟨fun i _ => i < x.cps.size, fun i H v H' => ∃ T c, v = .ref T ∧ H T = none ∧ H' = upd H T (.tup [.int (i : Nat), .str ⟨#[c]⟩]) ∧ x.cps[i]? = some c, fun i _ => i = x.cps.size⟩
theorem turn_es {P : Program} {w : World} {K : PySem.W.Frag} {elts : List Expr} {kk : Nat} {tpos : Pos} (x : Str) (t : Tok) (e it : Addr) :
    Turn P w K (.Tuple elts kk tpos) (ItES x) [e, it] e (fun i h => (∃ old, IsEnum h e it ((i : Nat) : Int) old) ∧ h.IsStrIter it (strIterType x) x t i ∧ e ≠ it) where
  mem := by simp
  obj := fun i h st b hb => by
    obtain ⟨⟨old, he⟩, ⟨o, ho, hc, hd⟩, _⟩ := st
    have e' : b = e ∨ b = it := by simpa using hb
    cases e' with
    | inl z =>
      rw [z]
      exact ⟨_, he, fun v q => nomatch q⟩
    | inr z =>
      rw [z]
      exact ⟨o, ho, fun v q => by rw [hd] at q; cases q⟩
  keep := fun i h h' st k => by
    obtain ⟨⟨old, he⟩, ⟨o, ho, r⟩, hne⟩ := st
    exact ⟨⟨old, k e (by simp) _ he⟩, ⟨o, k it (by simp) o ho, r⟩, hne⟩
  item := by
    intro X hP hw hK hc i pins s σ H E I hf st hg
    subst hP hw hK
    obtain ⟨⟨old, he⟩, hit, hne⟩ := st
    have hel : e < s.heap.objs.size := Heap.lt_size he
    have hil : it < s.heap.objs.size := by
      obtain ⟨_, q, _⟩ := hit
      exact Heap.lt_size q
    have D := Draws.text (prog := X.prog) (w := X.w) (A := X.A.in1) (show X.A.in1.handled = none from I.ok.hd hc) it x t
    refine wpAny_pyNext_enum_itemD D he hit hg hne (by simpa using hne) fun u h' tk hu ho hit' hT hsz hk => ?_
    obtain ⟨c, t2, hcx, rfl⟩ := hu
    refine ⟨_, rfl, wpAny_letOwnedTupleGo_enum (s := { s with heap := h', toks := tk + 1 }) ho fun h'' he' sb => ?_⟩
    have hT2 := (sb.2 _ (Nat.ne_of_gt hel)).trans hT
    have new : ObjOk X.prog X.w (upd H s.heap.objs.size (.tup [.int (i : Nat), .str ⟨#[c]⟩])) h'' s.heap.objs.size (.tup [.int (i : Nat), .str ⟨#[c]⟩]) :=
      ⟨by show 2 ≤ sizeLine; decide, [.int i tk, .str ⟨#[c]⟩ t2], .cons ⟨_, rfl⟩ (.cons ⟨_, rfl⟩ .nil), ⟨_, hT2, rfl, _, rfl⟩⟩
    have I1 : Inv X pins σ (upd H s.heap.objs.size (.tup [.int (i : Nat), .str ⟨#[c]⟩])) { s with heap := h'', toks := tk + 1 } :=
      I.turnedNew (ch := [e, it]) (fun b ob hb q => (sb.2 b (fun z => hb (by simp [z]))).trans (hk b ob (fun z => hb (by simp [z])) (fun z => hb (by simp [z])) q)) hf (Nat.le_refl _) new
    obtain ⟨oi, hoi, ri⟩ := hit'
    refine ⟨.ref s.heap.objs.size, _, I1, rfl, ⟨_, c, rfl, I.hok.fresh (Nat.le_refl _), rfl, hcx⟩, ⟨⟨.str ⟨#[c]⟩ t2, ?_⟩, ⟨oi, (sb.2 it (Ne.symm hne)).trans hoi, ri⟩, hne⟩, fun b hb => ?_⟩
    · have e1 : ((i + 1 : Nat) : Int) = (i : Int) + 1 := by omega
      rw [e1]
      exact he'
    · have hb' : b < s.heap.objs.size := by
        have e' : b = e ∨ b = it := by simpa using hb
        cases e' with
        | inl z => rw [z]; exact hel
        | inr z => rw [z]; exact hil
      rw [upd_ne (Nat.ne_of_lt hb')]
      exact (hf b hb).1
  done := by
    intro X hP hw hK hc i pins s σ H E I hf st hg
    subst hP hw hK
    obtain ⟨⟨old, he⟩, hit, hne⟩ := st
    have hi : i = x.cps.size := hg
    subst hi
    obtain ⟨f0, f1, f2, f3, f4, f5⟩ := hf it (by simp)
    have D := Draws.text (prog := X.prog) (w := X.w) (A := X.A.in1) (show X.A.in1.handled = none from I.ok.hd hc) it x t
    exact wpAny_pyNext_enum_endD D he hit fun h' eb => ⟨rfl, I.turned (t' := s.toks) (fun b o hb q => eb b o hb q) f0 f1 f3 f4 f5⟩
  self := fun A i s Q E st h => by
    obtain ⟨⟨_, he⟩, _⟩ := st
    exact wpAny_pyIter_enum he h
def iEnumS (ta : TA) : TI := fun σ H R => ta σ H fun vs H1 => ∃ x, vs = [.str x] ∧ R (ItES x) H1
theorem pi_enumS {X : Cx} {e : Expr} {ta : TA} {p pos tpos : Pos} {elts : List Expr} {kk : Nat} (hg : Gl X "enumerate") (hm : X.mg "enumerate" = none) (ha : PA X [e] ta) (hs : starEach [e] X.env = [(false, eval e X.env)] := by rfl) :
    PI X (.Tuple elts kk tpos) (.Call (.Name "enumerate" p) [e] [] pos) (iEnumS ta) := by
  refine ⟨fun pins s σ H R I h => ?_⟩
  refine Call_ (ld_blt I hg hm boot_enumerate (PyProof.Rows.callWith_type1 (thn (ha.run pos pins s σ H _ I h) fun us s1 ⟨vs, H1, I1, r1, q1⟩ => ?_) hs rfl))
  obtain ⟨x, rfl, q⟩ := q1
  obtain ⟨u, rfl, t, rfl⟩ := vals1 r1
  refine call_enumerate_str fun h' he hit hsz hk => wpAny_pyIter_enum he ?_
  refine ⟨s1.heap.objs.size + 1, [s1.heap.objs.size + 1, s1.heap.objs.size], _, _, H1, rfl, I1.kept (t' := s1.toks) hk, turn_es x t (s1.heap.objs.size + 1) s1.heap.objs.size, ⟨⟨.none, he⟩, hit, Nat.succ_ne_self _⟩, fun b hb => ?_, q⟩
  have e' : b = s1.heap.objs.size + 1 ∨ b = s1.heap.objs.size := by simpa using hb
  have hle : s1.heap.objs.size ≤ b := by
    cases e' with
    | inl z => rw [z]; exact Nat.le_add_right _ _
    | inr z => rw [z]; exact Nat.le_refl _
  exact I1.fpOk hle (I1.hok.fresh hle)
theorem for_es {x : Str} {g : TG} {tb : TS} {D : Ends} {σ : L2.St} {H : Hp} (Pv : Nat → L2.St → Hp → Prop) (h0 : Pv 0 σ H)
    (hs : ∀ i c T σ H, x.cps[i]? = some c → Pv i σ H → H T = none → g (.ref T) σ (upd H T (.tup [.int (i : Nat), .str ⟨#[c]⟩])) fun σ2 H2 => tb { D with nx := Pv (i + 1), ct := Pv (i + 1), bk := D.nx } σ2 H2) (hd : ∀ σ H, Pv x.cps.size σ H → D.nx σ H) :
    ∃ W : Nat → Nat → L2.St → Hp → Prop, (∃ m, W 0 m σ H) ∧ ∀ i m σ H, W i m σ H →
      ((ItES x).stop i H ∧ D.nx σ H) ∨ ((ItES x).go i H ∧ ∃ N : L2.St → Hp → Prop, (∀ σ' H', N σ' H' → ∃ m', m' < m ∧ W (i + 1) m' σ' H') ∧ ∀ y H', (ItES x).yld i H y H' → g y σ H' fun σ2 H2 => tb { D with nx := N, ct := N, bk := D.nx } σ2 H2) := by
  refine ⟨fun i m σ H => m = x.cps.size - i ∧ i ≤ x.cps.size ∧ Pv i σ H, ⟨x.cps.size, by simp, Nat.zero_le _, h0⟩, ?_⟩
  rintro i m σ H ⟨rfl, hi, p⟩
  by_cases hlt : i < x.cps.size
  · refine .inr ⟨hlt, Pv (i + 1), fun σ' H' p' => ⟨x.cps.size - (i + 1), by omega, rfl, hlt, p'⟩, fun y H' z => ?_⟩
    obtain ⟨T, c, rfl, hT, rfl, hc⟩ := z
    exact hs i c T σ _ hc p hT
  · have e : i = x.cps.size := by omega
    subst e
    exact .inl ⟨rfl, hd σ H p⟩
theorem lc_es {x : Str} {g : TG} {tt : TT} {te : TE} {vs : List Nat} {σ : L2.St} {H1 : Hp} {D : Addr} {Qd : Hp → Prop} (Pv : Nat → Hp → Prop) (h0 : Pv 0 (upd H1 D (.lst [])))
    (hs : ∀ i c T H, x.cps[i]? = some c → Pv i H → H T = none → g (.ref T) (wipe σ vs) (upd H T (.tup [.int (i : Nat), .str ⟨#[c]⟩])) fun σ2 H2 => wipe σ2 vs = wipe σ vs ∧ tt σ2 H2 fun b H3 =>
      if b = true then te σ2 H3 fun y H4 => ∃ acc, H4 D = some (.lst acc) ∧ acc.length < sizeLine ∧ Pv (i + 1) (upd H4 D (.lst (acc ++ [y]))) else Pv (i + 1) H3) (hd : ∀ H, Pv x.cps.size H → Qd H) :
    ∃ W : Nat → Nat → Hp → Prop, (∃ m, W 0 m (upd H1 D (.lst []))) ∧ ∀ i m H, W i m H →
      ((ItES x).stop i H ∧ Qd H) ∨ ((ItES x).go i H ∧ ∃ Nx : Hp → Prop, (∀ H', Nx H' → ∃ m', m' < m ∧ W (i + 1) m' H') ∧ ∀ y H', (ItES x).yld i H y H' → g y (wipe σ vs) H' fun σ2 H2 => wipe σ2 vs = wipe σ vs ∧ tt σ2 H2 fun b H3 =>
        if b = true then te σ2 H3 fun y H4 => ∃ acc, H4 D = some (.lst acc) ∧ acc.length < sizeLine ∧ Nx (upd H4 D (.lst (acc ++ [y]))) else Nx H3) := by
  refine ⟨fun i m H => m = x.cps.size - i ∧ i ≤ x.cps.size ∧ Pv i H, ⟨x.cps.size, by simp, Nat.zero_le _, h0⟩, ?_⟩
  rintro i m H ⟨rfl, hi, p⟩
  by_cases hlt : i < x.cps.size
  · refine .inr ⟨hlt, Pv (i + 1), fun H' p' => ⟨x.cps.size - (i + 1), by omega, rfl, hlt, p'⟩, fun y H' z => ?_⟩
    obtain ⟨T, c, rfl, hT, rfl, hc⟩ := z
    exact hs i c T _ hc p hT
  · have e : i = x.cps.size := by omega
    subst e
    exact .inl ⟨rfl, hd H p⟩
/-! ### a text backwards: some text, no longer -/
def tRevS (te : TE) : TE := fun σ H Q => te σ H fun x H1 => ∃ z : Str, x = .str z ∧ z.length ≤ sizeLine ∧ ∀ y : Str, y.length ≤ z.length → (∀ c ∈ y.cps.toList, c ∈ z.cps.toList) → Q (.str y) H1
theorem sliceBy_mem (x : Str) (l u : Option (Int × Tok)) (st : Int × Tok) : ∀ c ∈ (Txt.sliceBy x l u st).cps.toList, c ∈ x.cps.toList := by
  intro c hc
  unfold Txt.sliceBy at hc
  split at hc
  · exact hc
  · have hc : c ∈ List.filterMap (x.cps[·]?) _ := hc
    obtain ⟨i, _, hi⟩ := List.mem_filterMap.mp hc
    exact Array.mem_toList_iff.mpr (Array.mem_of_getElem? hi)
theorem pe_revS {X : Cx} {e : Expr} {te : TE} {k : Nat} {p1 p2 p3 pos : Pos} (he : PE X e te) : PE X (.Subscript e (.Slice none none (some (.UnaryOp .USub (.Constant (.int 1) k p1) p2)) p3) pos) (tRevS te) := by
  refine ⟨fun pins s σ H Q I h => ?_⟩
  refine Subscript_ (thn (he.run pins s σ H _ I h) fun v s1 ⟨x, H1, I1, r1, q1⟩ => ?_)
  obtain ⟨z, rfl, hz, q⟩ := q1
  obtain ⟨t, rfl⟩ := r1
  have hst : PO X (some (.UnaryOp .USub (.Constant (.int 1) k p1) p2)) (tPart (tUn (rU fun i => .int (-i)) (tC (.int 1)))) := po_some (pe_un un_neg pe_int)
  refine wpAny_Slice (thn (po_none.run pins s1 σ H1 (fun o H2 => o = none ∧ H2 = H1) I1 ⟨rfl, rfl⟩) fun vl s2 ⟨l, H2, I2, pl, el, e2⟩ => ?_)
  subst el e2
  refine thn (po_none.run pins s2 σ H2 (fun o H3 => o = none ∧ H3 = H2) I2 ⟨rfl, rfl⟩) fun vu s3 ⟨u, H3, I3, pu, eu, e3⟩ => ?_
  subst eu e3
  refine thn (hst.run pins s3 σ H3 (fun o H4 => o = some (-1) ∧ H4 = H3) I3 ⟨1, rfl, -1, rfl, rfl, rfl⟩) fun vs s4 ⟨o, H4, I4, ps, eo, e4⟩ => ?_
  subst eo e4
  cases pl
  cases pu
  cases ps with
  | int i t5 =>
    refine tail_any (ops := [.str z t, .ref s4.heap.objs.size]) (typeIs_str _ _ _) (PySem.F.slot_str_getitem.lookup) ?_ (by with_unfolding_all rfl)
    refine wpAny_getItem_str_slice (l := none) (u := none) (st := some (-1, t5)) ⟨_, Heap.get?_push_size _ rfl, rfl, rfl⟩ rfl ?_
    refine post_val_or_str ⟨Nat.le_trans (Txt.sliceBy_le z none none (-1, t5) (show (-1 : Int) ≠ 0 by decide)) hz, fun t6 tk => ?_⟩
    exact ⟨.str _, H4, (I4.kept (t' := tk) fun b ob q => Heap.get?_push_of_some _ q), ⟨_, rfl⟩, q _ (Txt.sliceBy_le z none none (-1, t5) (show (-1 : Int) ≠ 0 by decide)) (sliceBy_mem z none none (-1, t5))⟩
end Pf


namespace Pf
open PySem PySem.Spec PyProof.Rows L2
/-! ### enumerate of a tuple -/
abbrev EnO (a : Addr) : Obj := { cls := .type "enumerate", data := .fields #[.none, .bool false, .ref a, rawInt 0, .none, .none] }
theorem meets_en1 {u : Value} {ob : Obj} {G : Heap → Prop} (B : Begins u ob G) : Meets (Builtin.«enumerate.__new__» ⟨[.type "enumerate", u], []⟩) (fun _ R s => G s.heap ∧ R (.ok (.ret (.ref (s.heap.push ob).objs.size))) { s with heap := (s.heap.push ob).push (EnO s.heap.objs.size) }) :=
  .of_wp fun prog w A R s z => by
    obtain ⟨hp, g, d, tk, os⟩ := s
    obtain ⟨z1, z⟩ := z
    have hse := sub_enumerate
    have q : ∀ {A' : Around} {E : Value → Shared → Prop} {Q : Value → Shared → Prop}, Q (.ref hp.objs.size) ⟨hp.push ob, g, d, tk, os⟩ → wpAny (model prog w) A' (pyIter u) Q E ⟨hp, g, d, tk, os⟩ := fun r => B.iter prog w _ _ ⟨hp, g, d, tk, os⟩ _ z1 r
    wp_walk using q
    refine wpAny_stack_any fun sk => wpAny_pure ?_
    split
    · rename_i c _ _ _ _ _
      cases ec : (c == Value.type "enumerate")
      · wp_walk using q
        exact ⟨_, rfl, z⟩
      · wp_walk using q
        exact ⟨_, rfl, z⟩
    · wp_walk using q
      exact ⟨_, rfl, z⟩
theorem en1_begins {P : Program} {w : World} {A : Around} {E : Value → Shared → Prop} {s : Shared} {u : Value} {ob : Obj} {G : Heap → Prop} {Q : Value → Shared → Prop} (B : Begins u ob G) (z1 : G s.heap)
    (z : ∀ h', IsEnum h' (s.heap.objs.size + 1) s.heap.objs.size 0 .none → h'.get? s.heap.objs.size = some ob → h'.objs.size = s.heap.objs.size + 2 → (∀ b o, s.heap.get? b = some o → h'.get? b = some o) → Q (.ref (s.heap.objs.size + 1)) { s with heap := h' }) :
    wpAny (model P w) A (call (.type "enumerate") [u]) Q E s := by
  refine callType_new F.called_enumerate (by decide) (F.typeCall_enumerate_1 _) (F.newCall_enumerate_1 _) (fun obj => F.args_object_init_2 obj _) F.entry_enumerate_new (meets_en1 B) ⟨z1, ?_⟩
  have e1 : (s.heap.push ob).objs.size = s.heap.objs.size + 1 := Heap.size_push ..
  show _ ∧ _
  rw [e1]
  have hen : IsEnum ((s.heap.push ob).push (EnO s.heap.objs.size)) (s.heap.objs.size + 1) s.heap.objs.size 0 .none := by
    have := Heap.get?_push_size (s.heap.push ob) (o := EnO s.heap.objs.size) rfl
    rw [e1] at this
    exact this
  exact ⟨⟨_, hen, rfl⟩, z _ hen (Heap.get?_push_of_some _ (Heap.get?_push_size _ B.free)) (by rw [Heap.size_push, e1]) fun b o y => Heap.get?_push_of_some _ (Heap.get?_push_of_some _ y)⟩
def ItET (K : PySem.W.Frag) (a : Addr) : It :=
  ⟨fun i H => ∃ (xs : List V) (x : V), SqT K H a xs ∧ xs[i]? = some x, fun i H v H' => ∃ T x, v = .ref T ∧ H T = none ∧ H' = upd H T (.tup [.int (i : Nat), x]) ∧ ∀ xs, SqT K H a xs → xs[i]? = some x, fun i H => ∃ xs : List V, SqT K H a xs ∧ xs.length = i⟩
theorem turn_et {P : Program} {w : World} {K : PySem.W.Frag} {elts : List Expr} {kk : Nat} {tpos : Pos} (a e it : Addr) :
    Turn P w K (.Tuple elts kk tpos) (ItET K a) [e, it] e (fun i h => (∃ old, IsEnum h e it ((i : Nat) : Int) old) ∧ h.IsTupleIter it a i ∧ e ≠ it ∧ e ≠ a ∧ a ≠ it) where
  mem := by simp
  obj := fun i h st b hb => by
    obtain ⟨⟨old, he⟩, ⟨o, ho, hc, hd⟩, _⟩ := st
    have e' : b = e ∨ b = it := by simpa using hb
    cases e' with
    | inl z =>
      rw [z]
      exact ⟨_, he, fun v q => nomatch q⟩
    | inr z =>
      rw [z]
      exact ⟨o, ho, fun v q => by rw [hd] at q; cases q⟩
  keep := fun i h h' st k => by
    obtain ⟨⟨old, he⟩, ⟨o, ho, r⟩, hne⟩ := st
    exact ⟨⟨old, k e (by simp) _ he⟩, ⟨o, k it (by simp) o ho, r⟩, hne⟩
  item := by
    intro X hP hw hK hc i pins s σ H E I hf st hg
    subst hP hw hK
    obtain ⟨⟨old, he⟩, hit, hne, hea, hai⟩ := st
    obtain ⟨xs, x, hq, hx⟩ := hg
    obtain ⟨its, rv, pt, hz⟩ := I.tuple hq
    obtain ⟨u, hu, ru⟩ := rv.get hx
    have hel : e < s.heap.objs.size := Heap.lt_size he
    have hil : it < s.heap.objs.size := by
      obtain ⟨_, q, _⟩ := hit
      exact Heap.lt_size q
    have hti : s.heap.IsTuple a its.toArray := pt
    have D := Draws.tuple (prog := X.prog) (w := X.w) (A := X.A.in1) (show X.A.in1.handled = none from I.ok.hd hc) it a hai its.toArray
    refine wpAny_pyNext_enum_itemD D he ⟨hit, hti⟩ (by have := (List.getElem?_eq_some_iff.mp hu).1; simpa using this) hne (by simp [hne, hea]) fun y h' tk hy ho hit' hT hsz hk => ?_
    have ey : y = u := by
      have h2 : its[i]? = some y := by simpa using hy
      rw [hu] at h2
      exact (Option.some.inj h2).symm
    subst ey
    refine ⟨_, rfl, wpAny_letOwnedTupleGo_enum (s := { s with heap := h', toks := tk + 1 }) ho fun h'' he' sb => ?_⟩
    have hT2 := (sb.2 _ (Nat.ne_of_gt hel)).trans hT
    have new : ObjOk X.prog X.w (upd H s.heap.objs.size (.tup [.int (i : Nat), x])) h'' s.heap.objs.size (.tup [.int (i : Nat), x]) :=
      ⟨by show 2 ≤ sizeLine; decide, [.int i tk, y], .cons ⟨_, rfl⟩ (.cons ru .nil), ⟨_, hT2, rfl, _, rfl⟩⟩
    have I1 : Inv X pins σ (upd H s.heap.objs.size (.tup [.int (i : Nat), x])) { s with heap := h'', toks := tk + 1 } :=
      I.turnedNew (ch := [e, it]) (fun b ob hb q => (sb.2 b (fun z => hb (by simp [z]))).trans (hk b ob (fun z => hb (by simp [z])) (fun z => hb (by simp [z])) q)) hf (Nat.le_refl _) new
    obtain ⟨oi, hoi, ri⟩ := hit'.1
    refine ⟨.ref s.heap.objs.size, _, I1, rfl, ⟨_, x, rfl, I.hok.fresh (Nat.le_refl _), rfl, fun ys hy => by rw [I.tuple_inj hy hq]; exact hx⟩, ⟨⟨y, ?_⟩, ⟨oi, (sb.2 it (Ne.symm hne)).trans hoi, ri⟩, hne, hea, hai⟩, fun b hb => ?_⟩
    · have e1 : ((i + 1 : Nat) : Int) = (i : Int) + 1 := by omega
      rw [e1]
      exact he'
    · have hb' : b < s.heap.objs.size := by
        have e' : b = e ∨ b = it := by simpa using hb
        cases e' with
        | inl z => rw [z]; exact hel
        | inr z => rw [z]; exact hil
      rw [upd_ne (Nat.ne_of_lt hb')]
      exact (hf b hb).1
  done := by
    intro X hP hw hK hc i pins s σ H E I hf st hg
    subst hP hw hK
    obtain ⟨⟨old, he⟩, hit, hne, hea, hai⟩ := st
    obtain ⟨xs, hq, hx⟩ := hg
    obtain ⟨its, rv, pt, hz⟩ := I.tuple hq
    have hln := rv.length
    obtain ⟨f0, f1, f2, f3, f4, f5⟩ := hf it (by simp)
    have hti : s.heap.IsTuple a its.toArray := pt
    have D := Draws.tuple (prog := X.prog) (w := X.w) (A := X.A.in1) (show X.A.in1.handled = none from I.ok.hd hc) it a hai its.toArray
    have ei : its.toArray.size = i := by
      rw [List.size_toArray]
      omega
    exact wpAny_pyNext_enum_endD D he ⟨by rw [ei]; exact hit, hti⟩ fun h' eb => ⟨rfl, I.turned (t' := s.toks) (fun b o hb q => eb b o hb q) f0 f1 f3 f4 f5⟩
  self := fun A i s Q E st h => by
    obtain ⟨⟨_, he⟩, _⟩ := st
    exact wpAny_pyIter_enum he h
def iEnumT (K : PySem.W.Frag) (ta : TA) : TI := fun σ H R => ta σ H fun vs H1 => ∃ a xs, vs = [.ref a] ∧ SqT K H1 a xs ∧ R (ItET K a) H1
theorem pi_enumT {X : Cx} {e : Expr} {ta : TA} {p pos tpos : Pos} {elts : List Expr} {kk : Nat} (hg : Gl X "enumerate") (hm : X.mg "enumerate" = none) (ha : PA X [e] ta) (hs : starEach [e] X.env = [(false, eval e X.env)] := by rfl) :
    PI X (.Tuple elts kk tpos) (.Call (.Name "enumerate" p) [e] [] pos) (iEnumT X.K ta) := by
  refine ⟨fun pins s σ H R I h => ?_⟩
  refine Call_ (ld_blt I hg hm boot_enumerate (PyProof.Rows.callWith_type1 (thn (ha.run pos pins s σ H _ I h) fun us s1 ⟨vs, H1, I1, r1, q1⟩ => ?_) hs rfl))
  obtain ⟨a, xs, rfl, hq, q⟩ := q1
  obtain ⟨u, rfl, er⟩ := vals1 r1
  cases er
  obtain ⟨its, rv, pt, hz⟩ := I1.tuple hq
  have hti : s1.heap.IsTuple a its.toArray := pt
  have hal : a < s1.heap.objs.size := by
    obtain ⟨_, q, _⟩ := hti
    exact Heap.lt_size q
  refine en1_begins (begins_tuple a its.toArray) hti fun h' he hit hsz hk => wpAny_pyIter_enum he ?_
  refine ⟨s1.heap.objs.size + 1, [s1.heap.objs.size + 1, s1.heap.objs.size], _, _, H1, rfl, I1.kept (t' := s1.toks) hk, turn_et a (s1.heap.objs.size + 1) s1.heap.objs.size, ⟨⟨.none, he⟩, ⟨_, hit, rfl, rfl⟩, Nat.succ_ne_self _, Nat.ne_of_gt (Nat.lt_succ_of_lt hal), Nat.ne_of_lt hal⟩, fun b hb => ?_, q⟩
  have e' : b = s1.heap.objs.size + 1 ∨ b = s1.heap.objs.size := by simpa using hb
  have hle : s1.heap.objs.size ≤ b := by
    cases e' with
    | inl z => rw [z]; exact Nat.le_add_right _ _
    | inr z => rw [z]; exact Nat.le_refl _
  exact I1.fpOk hle (I1.hok.fresh hle)
theorem walk_et {K : PySem.W.Frag} {a : Addr} {xs : List V} : Walk (ItET K a) xs.length (fun H => SqT K H a xs) (YPair (fun i => some (.int (i : Nat))) (fun i => xs[i]?)) :=
  ⟨fun i H hi q => ⟨xs, _, q, List.getElem?_eq_getElem hi⟩, fun H q => ⟨xs, q, rfl⟩, fun i H x H' hi q ⟨T, y, e1, e2, e3, e4⟩ => ⟨T, _, y, e1, e2, e3, rfl, e4 xs q⟩⟩
theorem walk_zt {K : PySem.W.Frag} {a b : Addr} {xs ys : List V} {n : Nat} (hn : n = min xs.length ys.length) : Walk (RZ.ItzT K a b) n (fun H => SqT K H a xs ∧ SqT K H b ys) (YPair (fun i => xs[i]?) (fun i => ys[i]?)) := by
  subst hn
  refine ⟨fun i H hi q => ⟨xs, ys, _, _, q.1, q.2, List.getElem?_eq_getElem (by omega), List.getElem?_eq_getElem (by omega)⟩, fun H q => ⟨xs, ys, q.1, q.2, by omega⟩, fun i H x H' hi q ⟨T, y, z, e1, e2, e3, e4, e5⟩ => ⟨T, y, z, e1, e2, e3, e4 xs q.1, e5 ys q.2⟩⟩
/-! ### two fors in a comprehension -/
def LcIn (J1 : It) (g1 : TG) (tt1 : TT) (te : TE) (vs1 : List Nat) (σ2 : L2.St) (D : Addr) (H4 : Hp) (Nx : Hp → Prop) : Prop := ∃ W1 : Nat → Nat → Hp → Prop, (∃ m, W1 0 m H4) ∧ ∀ j k H, W1 j k H →
  (J1.stop j H ∧ Nx H) ∨ (J1.go j H ∧ ∃ Nx1 : Hp → Prop, (∀ H', Nx1 H' → ∃ k', k' < k ∧ W1 (j + 1) k' H') ∧ ∀ x H', J1.yld j H x H' → g1 x (wipe σ2 vs1) H' fun σ3 H5 => wipe σ3 vs1 = wipe σ2 vs1 ∧ tt1 σ3 H5 fun b H6 => if b = true then te σ3 H6 fun y H7 => ∃ acc, H7 D = some (.lst acc) ∧ acc.length < sizeLine ∧ Nx1 (upd H7 D (.lst (acc ++ [y]))) else Nx1 H6)
theorem lc_in {J1 : It} {n : Nat} {G : Hp → Prop} {Y : Nat → Hp → V → Hp → Prop} (w : Walk J1 n G Y) {g1 : TG} {tt1 : TT} {te : TE} {vs1 : List Nat} {σ2 : L2.St} {D : Addr} {H4 : Hp} {Nx : Hp → Prop} (Pv : Nat → Hp → Prop) (h0 : Pv 0 H4) (hG : ∀ i H, i ≤ n → Pv i H → G H)
    (hs : ∀ i x H H', i < n → Pv i H → Y i H x H' → g1 x (wipe σ2 vs1) H' fun σ3 H5 => wipe σ3 vs1 = wipe σ2 vs1 ∧ tt1 σ3 H5 fun b H6 => if b = true then te σ3 H6 fun y H7 => ∃ acc, H7 D = some (.lst acc) ∧ acc.length < sizeLine ∧ Pv (i + 1) (upd H7 D (.lst (acc ++ [y]))) else Pv (i + 1) H6)
    (hd : ∀ H, Pv n H → Nx H) : LcIn J1 g1 tt1 te vs1 σ2 D H4 Nx := by
  refine ⟨fun i m H => m = n - i ∧ i ≤ n ∧ Pv i H, ⟨n, rfl, Nat.zero_le _, h0⟩, ?_⟩
  rintro i m H ⟨rfl, hi, pv⟩
  have hq := hG i H hi pv
  by_cases hlt : i < n
  · exact .inr ⟨w.goes i H hlt hq, Pv (i + 1), fun H' p' => ⟨n - (i + 1), by omega, rfl, hlt, p'⟩, fun x H' y => hs i x H H' hlt pv (w.yields i H x H' hlt hq y)⟩
  · obtain rfl : i = n := by omega
    exact .inl ⟨w.stops H hq, hd H pv⟩
theorem lc_two {J : It} {n : Nat} {G : Hp → Prop} {Y : Nat → Hp → V → Hp → Prop} (w : Walk J n G Y) {g : TG} {tt : TT} {wi1 : TI} {g1 : TG} {tt1 : TT} {te : TE} {vs vs1 : List Nat} {σ : L2.St} {H1 : Hp} {D : Addr} {Qd : Hp → Prop} (Pv : Nat → Hp → Prop) (h0 : Pv 0 (upd H1 D (.lst []))) (hG : ∀ i H, i ≤ n → Pv i H → G H)
    (hs : ∀ i x H H', i < n → Pv i H → Y i H x H' → g x (wipe σ vs) H' fun σ2 H2 => wipe σ2 vs = wipe σ vs ∧ tt σ2 H2 fun b H3 => if b = true then wi1 σ2 H3 fun J1 H4 => LcIn J1 g1 tt1 te vs1 σ2 D H4 (Pv (i + 1)) else Pv (i + 1) H3)
    (hd : ∀ H, Pv n H → Qd H) :
    ∃ W : Nat → Nat → Hp → Prop, (∃ m, W 0 m (upd H1 D (.lst []))) ∧ ∀ i m H, W i m H → (J.stop i H ∧ Qd H) ∨ (J.go i H ∧ ∃ Nx : Hp → Prop, (∀ H', Nx H' → ∃ m', m' < m ∧ W (i + 1) m' H') ∧ ∀ x H', J.yld i H x H' → g x (wipe σ vs) H' fun σ2 H2 => wipe σ2 vs = wipe σ vs ∧ tt σ2 H2 fun b H3 =>
      if b = true then wi1 σ2 H3 fun J1 H4 => LcIn J1 g1 tt1 te vs1 σ2 D H4 Nx else Nx H3) := by
  refine ⟨fun i m H => m = n - i ∧ i ≤ n ∧ Pv i H, ⟨n, rfl, Nat.zero_le _, h0⟩, ?_⟩
  rintro i m H ⟨rfl, hi, pv⟩
  have hq := hG i H hi pv
  by_cases hlt : i < n
  · exact .inr ⟨w.goes i H hlt hq, Pv (i + 1), fun H' p' => ⟨n - (i + 1), by omega, rfl, hlt, p'⟩, fun x H' y => hs i x H H' hlt pv (w.yields i H x H' hlt hq y)⟩
  · obtain rfl : i = n := by omega
    exact .inl ⟨w.stops H hq, hd H pv⟩
/-! ### tuples of numbers compared; truths by identity -/
theorem ltT (K : PySem.W.Frag) {X : Cx} (hu : X.A.units < cLine) (h : X.K = K := by rfl) : OpR X (compareOp .Lt) (rLtT K) := h ▸ op_ltT hu
theorem lex2 (a b c d : Int) : HT.lexLt [a, b] [c, d] = decide (a < c ∨ (a = c ∧ b < d)) := by
  rw [HT.lexLt_cons, HT.lexLt_cons, HT.lexLt_nil_nil]
  by_cases e : a = c
  · rw [if_pos e]
    by_cases e2 : b = d
    · rw [if_pos e2]
      exact (decide_eq_false (by omega)).symm
    · rw [if_neg e2]
      exact decide_eq_decide.mpr (by omega)
  · rw [if_neg e]
    exact decide_eq_decide.mpr (by omega)
/-! ### parts of tuples -/
theorem piT (K : PySem.W.Frag) {X : Cx} {tg l : Expr} {tl : TE} (hl : PE X l tl) (h : X.K = K := by rfl) : PI X tg l (iTup K tl) := by
  subst h
  exact pi_tup hl
theorem piL (K : PySem.W.Frag) {X : Cx} {tg l : Expr} {tl : TE} (hl : PE X l tl) (h : X.K = K := by rfl) : PI X tg l (iList K tl) := by
  subst h
  exact pi_list hl
/-- a part of a tuple: the same one, or another -/
def rSlE (K : PySem.W.Frag) : V → Option Int → Option Int → Hp → VK → Prop := fun x lo hi H Q => ∃ a xs, x = .ref a ∧ H a = some (.tup xs) ∧ ∀ p H', Ext H H' → H' p = some (.tup (cutV xs lo hi)) → Q (.ref p) H'
theorem slE (K : PySem.W.Frag) {X : Cx} (h : X.K = K := by rfl) : SlR X (rSlE K) := fun pins s σ H x v vl vu lo hi sl Q I rx hs pl pu ⟨a, xs, ex, ha, q⟩ => by
  refine slA K h pins s σ H x v vl vu lo hi sl Q I rx hs pl pu ⟨a, xs, ex, SqT.of ha, fun z => ?_, fun _ p hp => q p _ (Ext.new hp) upd_same⟩
  refine q a H Ext.refl ?_
  have e : cutV xs lo hi = xs := by
    unfold cutV
    rw [z.1, z.2, List.drop_zero, Nat.sub_zero, List.take_length]
  rw [e]
  exact ha
theorem cut_from {xs : List V} {k : Nat} : cutV xs (some (k : Int)) none = xs.drop k := by
  unfold cutV
  have e1 : HT.sIx xs.length 0 (some (k : Int)) = min k xs.length := HT.sIx_nat _ _ _
  have e2 : HT.sIx xs.length xs.length none = xs.length := rfl
  rw [e1, e2, List.take_of_length_le (by rw [List.length_drop]; omega)]
  by_cases h : k ≤ xs.length
  · rw [Nat.min_eq_left h]
  · rw [Nat.min_eq_right (by omega), List.drop_length, List.drop_eq_nil_of_le (by omega)]
theorem cut_to {xs : List V} {k : Nat} : cutV xs none (some (k : Int)) = xs.take k := by
  unfold cutV
  have e1 : HT.sIx xs.length 0 none = 0 := rfl
  have e2 : HT.sIx xs.length xs.length (some (k : Int)) = min k xs.length := HT.sIx_nat _ _ _
  rw [e1, e2, List.drop_zero, Nat.sub_zero]
  by_cases h : k ≤ xs.length
  · rw [Nat.min_eq_left h]
  · rw [Nat.min_eq_right (by omega), List.take_length, List.take_of_length_le (by omega)]
theorem paired_take {α β : Type} {R : α → β → Prop} : ∀ {xs : List α} {ys : List β} (k : Nat), Paired R xs ys → Paired R (xs.take k) (ys.take k)
  | _, _, 0, _ => by rw [List.take_zero, List.take_zero]; exact .nil
  | _, _, k + 1, .nil => by rw [List.take_nil, List.take_nil]; exact .nil
  | _, _, k + 1, .cons r t => by rw [List.take_succ_cons, List.take_succ_cons]; exact .cons r (paired_take k t)
theorem paired_drop {α β : Type} {R : α → β → Prop} : ∀ {xs : List α} {ys : List β} (k : Nat), Paired R xs ys → Paired R (xs.drop k) (ys.drop k)
  | _, _, 0, h => by rw [List.drop_zero, List.drop_zero]; exact h
  | _, _, k + 1, .nil => by rw [List.drop_nil, List.drop_nil]; exact .nil
  | _, _, k + 1, .cons r t => by rw [List.drop_succ_cons, List.drop_succ_cons]; exact paired_drop k t
/-- two tuples put together: one of them, or another -/
def rCatE (K : PySem.W.Frag) : R2 := fun x y H Q => ∃ a b xs ys, x = .ref a ∧ y = .ref b ∧ H a = some (.tup xs) ∧ H b = some (.tup ys) ∧ xs.length + ys.length ≤ sizeLine ∧ ∀ p H', Ext H H' → H' p = some (.tup (xs ++ ys)) → Q (.ref p) H'
theorem catE (K : PySem.W.Frag) {X : Cx} (h : X.K = K := by rfl) : OpR X (binaryOp .Add) (rCatE K) := fun pins s σ H x y v u Q I rx ry ⟨a, b, xs, ys, ex, ey, ha, hb, hz, q⟩ => by
  refine catA K h pins s σ H x y v u Q I rx ry ⟨a, b, xs, ys, ex, ey, SqT.of ha, SqT.of hb, hz, fun z => ?_, fun _ z => ?_, fun _ _ p hp => q p _ (Ext.new hp) upd_same⟩
  · exact q b H Ext.refl (by rw [z]; exact hb)
  · exact q a H Ext.refl (by rw [z, List.append_nil]; exact ha)
end Pf


namespace Pf
open PySem PySem.Spec PyProof.Rows L2
/-! ### sorting tuples, the first of them empty -/
section
open PySem.W PySem.SeqAt PySem.Calls
variable {prog : Program} {w : World} {A : Around} {E : Value → Shared → Prop} {s : Shared}
theorem tup_lt1 {Q : Bool → Shared → Prop} {a b : Value} {xs ys : List PyData} {as bs : List Addr} (ra : Reads s.heap a (.tuple xs) as) (rb : Reads s.heap b (.tuple ys) bs) (hal : alikeAll xs ys = true)
    (hu : A.units + min (PyData.tuple xs).depth (PyData.tuple ys).depth < cLine) (hq : Q (dataLt (.tuple xs) (.tuple ys)) s) : wpAny (model prog w) A (oneLt' true a b) Q E s := by
  cases ra with
  | @tuple l o vs n _ as₁ h1 h2 h3 h4 =>
    cases rb with
    | @tuple m p ws k _ bs₁ g1 g2 g3 g4 =>
      have z1 : vs.size = xs.length := by simpa using ReadsAll.length _ _ _ h4
      have z2 : ws.size = ys.length := by simpa using ReadsAll.length _ _ _ g4
      rw [dataLt_tuple, ← firstLt_toks xs ys hal, ← z1, ← z2] at hq
      obtain ⟨ocls, odd, odata, osl⟩ := o
      obtain ⟨pcls, pdd, pdata, psl⟩ := p
      simp only at h2 h3 g2 g3
      subst h2 h3 g2 g3
      rw [oneLt'_eq]
      simp only [if_true]
      refine wpAny_bind (wpAny_cRoomFor (room_here hu) (wpAny_bind (wpAny_callSpecialIfBound?_slot (T := "tuple") ⟨_, h1, rfl⟩ F.slot_tuple_lt ?_)))
      refine call_meets F.slot_tuple_lt ⟨_, h1, rfl⟩ F.entry_tuple_lt (F.args_tuple_lt_2 _ _) (tuple_ltAt l m vs ws n k odd pdd osl psl (pairEq xs ys) (fun j => dataLt (xs.getD j .none) (ys.getD j .none))) ⟨h1, g1, fun j j1 j2 => ?_, fun j j1 j2 hj => ?_, wpAny_truthy_bool hq⟩
      · have y := eqAt_alikeAll xs ys A.in1 s vs.toList ws.toList _ _ h4 g4 hal (room_in hu) j (by simpa using j1) (by simpa using j2)
        simpa using y
      · have y := rcLt_alikeAll xs ys A.in1 s vs.toList ws.toList _ _ h4 g4 hal (room_in hu) j (by simpa using j1) (by simpa using j2) hj
        simpa using y
theorem ft_at {M : Model} {v : Value} {ds : List PyData} {as : List Addr} (r : Reads s.heap v (.tuple ds) as) : ∃ f : Option Value, (ds = [] → f = none) ∧ ∀ Q : Option Value → Shared → Prop, Q f s → wpAny M A (firstOfTuple' v) Q E s := by
  cases r with
  | @tuple a o xs n _ _ ho hc hd hr =>
    refine ⟨xs[0]?, fun e => ?_, fun Q q => ?_⟩
    · subst e
      cases q : xs.toList with
      | nil =>
        rw [← Array.getElem?_toList, q]
        rfl
      | cons f fr =>
        rw [q] at hr
        cases hr
    · rw [kas_first_eq]
      refine wpAny_bind (Looks.here (show Looks M s.heap (typeOf (.ref a)) o.cls from (Looks.ld ho).andThen .now) ?_)
      rw [hc, if_neg (by simp)]
      exact wpAny_bind (listItems_at ho hd (wpAny_pure q))
theorem fts_at {M : Model} : ∀ {vs : List Value} {ds : List PyData}, EachIs (fun v d => ∃ as, Reads s.heap v d as) vs ds → (∀ d ∈ ds, ∃ xs, d = .tuple xs) → ∃ fs : List (Option Value), (∀ r, ds = .tuple [] :: r → ∃ t, fs = none :: t) ∧ ∀ Q : List (Option Value) → Shared → Prop, Q fs s → wpAny M A (vs.mapM firstOfTuple') Q E s
  | _, _, .nil, _ => ⟨[], (fun r z => by cases z), fun Q q => by rw [List.mapM_nil]; exact wpAny_pure q⟩
  | _, _, .cons (b := d) ⟨as, r⟩ t, ht => by
    obtain ⟨fs, _, h2⟩ := fts_at (M := M) t fun d hd => ht d (List.mem_cons_of_mem _ hd)
    obtain ⟨xs, rfl⟩ := ht d (List.mem_cons_self ..)
    obtain ⟨f, e1, e2⟩ := ft_at (M := M) (A := A) (E := E) r
    refine ⟨f :: fs, fun r z => ⟨fs, ?_⟩, fun Q q => ?_⟩
    · injection z with z _
      injection z with z
      rw [e1 z]
    · rw [List.mapM_cons]
      exact wpAny_bind (e2 _ (wpAny_bind (h2 _ (wpAny_pure q))))
theorem kind_empt {M : Model} {vs : List Value} {ds : List PyData} {Q : SortKind → Shared → Prop} (e : EachIs (fun v d => ∃ as, Reads s.heap v d as) vs (.tuple [] :: ds)) (ht : ∀ d ∈ PyData.tuple [] :: ds, ∃ xs, d = .tuple xs) (q : Q oneType' s) : wpAny M A (keyKind' vs.toArray) Q E s := by
  obtain ⟨fs, h1, h2⟩ := fts_at (M := M) (A := A) (E := E) e ht
  obtain ⟨t, rfl⟩ := h1 ds rfl
  obtain ⟨v0, vr, rfl⟩ : ∃ v0 vr, vs = v0 :: vr := by
    cases e with
    | cons z zs => exact ⟨_, _, rfl⟩
  rw [keyKind'_eq, List.mapM_toArray, map_eq_pure_bind]
  refine wpAny_bind (wpAny_bind (h2 _ (wpAny_pure ?_)))
  rw [if_neg (by simp), if_neg (by simp), oneTypeOnly'_eq, List.mapM_toArray, map_eq_pure_bind]
  refine wpAny_bind (wpAny_bind (wpAny_bind (kas_mapM (r := Value.type "tuple") _ (fun v hv Q' hq => ?_) (wpAny_pure ?_))))
  · obtain ⟨d, hd, as, r⟩ := e.left v hv
    obtain ⟨xs, rfl⟩ := ht d hd
    exact (looks_reads r).here hq
  · have h0 : (List.map (fun _ => Value.type "tuple") (v0 :: vr)).toArray[0]? = some (Value.type "tuple") := by simp
    rw [h0]
    have ha : ((List.map (fun _ : Value => Value.type "tuple") (v0 :: vr)).toArray.all fun x => x == Value.type "tuple") = true := by
      simp only [List.all_toArray, List.all_map, List.all_eq_true]
      intro _ _
      rfl
    simp only [ha, if_true]
    exact wpAny_pure (wpAny_pure q)
theorem sorts_empt {vs : List Value} {ds : List PyData} (e : EachIs (fun v d => ∃ as, Reads s.heap v d as) vs (.tuple [] :: ds)) (hal : AllAlike (.tuple [] :: ds)) (ht : ∀ d ∈ PyData.tuple [] :: ds, ∃ xs, d = .tuple xs) (hu : ∀ d ∈ PyData.tuple [] :: ds, A.units + d.depth < cLine) : SortsAt prog w A s (dataKind s.heap (.tuple [] :: ds)) vs := by
  refine ⟨fun v hv => ?_, oneType', ?_, fun h2 E Q hq => kind_empt e ht hq⟩
  · obtain ⟨d, hd, as, r⟩ := e.left v hv
    exact ⟨_, dataKind_some hal hd r⟩
  · intro E x y a b Q ha hb hq
    obtain ⟨d, as, hd, ra, rfl⟩ := dataKind_inv ha
    obtain ⟨d', as', hd', rb, rfl⟩ := dataKind_inv hb
    have hdd := hal d hd d' hd'
    have hroom : A.units + min d.depth d'.depth < cLine := Nat.lt_of_le_of_lt (Nat.add_le_add_left (Nat.min_le_left _ _) _) (hu d hd)
    obtain ⟨xs, rfl⟩ := ht d hd
    obtain ⟨ys, rfl⟩ := ht d' hd'
    rw [keyLt'_oneType]
    exact tup_lt1 ra rb (by simpa [alike] using hdd) hroom hq
theorem sorted_empt {β : Type} {vs : List Value} {bs : List β} {enc : β → PyData} {R : Value → β → Prop} {l : Addr} {r : List PyData} {Q : Value → Shared → Prop} (hl : s.heap.IsList l vs.toArray) (e : EachIs R vs bs) (er : EachIs (fun v b => ∃ as, Reads s.heap v (enc b) as) vs bs) (hal : AllAlike (bs.map enc)) (h0 : bs.map enc = .tuple [] :: r) (ht : ∀ d ∈ bs.map enc, ∃ xs, d = .tuple xs) (hL : bs.length ≤ sizeLine)
    (hu : ∀ b, b ∈ bs → A.units + 2 + (enc b).depth < cLine) (h : ∀ out, out.length = bs.length → EachIs R out (bs.mergeSort (dataLe false enc)) → Q (.ref (s.heap.objs.size + 1)) { s with heap := sortedAll s.heap vs (List.toArray out) }) :
    wpAny (model prog w) A (call (.builtin "sorted") [.ref l]) Q E s := by
  have er2 : EachIs (fun v b => ∃ as, Reads (sortingHeap (copyHeap s.heap vs) (s.heap.objs.size + 1) vs) v (enc b) as) vs bs := er.mono fun _ _ ⟨as, z⟩ => ⟨as, PyProof.Rows.Reads.keeps (fun _ _ => sorting_copy_old) z⟩
  have em := each_map (R := fun v d => ∃ as, Reads (sortingHeap (copyHeap s.heap vs) (s.heap.objs.size + 1) vs) v d as) enc er2
  have bm := bound_map (A := A.in1.in1) (bs := bs) (enc := enc) hu
  have S : SortsAt prog w A.in1.in1 { s with heap := sortingHeap (copyHeap s.heap vs) (s.heap.objs.size + 1) vs } (dataKind (sortingHeap (copyHeap s.heap vs) (s.heap.objs.size + 1) vs) (bs.map enc)) vs := by
    rw [h0] at em bm ht hal ⊢
    exact sorts_empt (s := { s with heap := sortingHeap (copyHeap s.heap vs) (s.heap.objs.size + 1) vs }) em hal ht bm
  exact sorted_vals hl S (by rw [e.length]; exact hL) (h _ (by rw [sortVals_length false rfl]; exact e.length) (sortVals_data false e er2 hal))
end
/-- sorted of tuples, the first of them empty -/
def rSortE (K : PySem.W.Frag) : List V → Hp → VK → Prop := fun vs H Q => ∃ (β : Type) (v : β → V) (d : β → PyData) (a : Addr) (bs : List β) (r : List PyData), vs = [.ref a] ∧ SqL K H a (bs.map v) ∧ (∀ b ∈ bs, Dp K H (v b) (d b) ∧ (d b).depth ≤ 50) ∧
  PySem.W.AllAlike (bs.map d) ∧ bs.map d = .tuple [] :: r ∧ (∀ e ∈ bs.map d, ∃ xs, e = .tuple xs) ∧ ∀ p, H p = none → Q (.ref p) (upd H p (.lst ((bs.mergeSort (PySem.W.dataLe false d)).map v)))
theorem cr_sortE (K : PySem.W.Frag) {X : Cx} (hu : X.A.units + 64 < cLine) (hK : X.K = K := by rfl) : CallR X (.builtin "sorted") (rSortE K) := by
  subst hK
  intro pins s σ H vs us Q I r h
  obtain ⟨β, v, d, a, bs, rd, rfl, hs, hd, al, h0, ht, q⟩ := h
  obtain ⟨u, rfl, rfl⟩ := vals1 r
  obtain ⟨its, rv, hl, hz⟩ := I.list hs
  rw [List.length_map] at hz
  refine sorted_empt (enc := d) (R := fun (u : Value) (b : β) => RelV (v b) u) hl.isList (each_vals rv) (each_reads I rv fun b hb => (hd b hb).1) al h0 ht hz (fun b hb => ?_) fun out hlen he => ?_
  · have := (hd b hb).2
    omega
  · obtain ⟨ep, he'⟩ := PyProof.Rows.sortedAll_at s.heap its out.toArray
    have hlen2 : ((bs.mergeSort (PySem.W.dataLe false d)).map v).length ≤ sizeLine := by
      rw [List.length_map, List.length_mergeSort]
      exact hz
    exact ⟨.ref _, upd H (s.heap.objs.size + 1) (.lst ((bs.mergeSort (PySem.W.dataLe false d)).map v)), I.laid (t' := s.toks) (fun _ _ => PyProof.Rows.sortedAll_old) (Nat.le_succ _) ⟨hlen2, out, ep, vals_each he, by simpa using he'⟩, rfl, q _ (I.hok.fresh (Nat.le_succ _))⟩
end Pf


namespace Pf
open PySem PySem.Spec PyProof.Rows L2
/-! ### a dict by tuples, made in a comprehension -/
theorem dset_t {X : Cx} {pins : List (Addr × Obj)} {σ : L2.St} {H : Hp} {s : Shared} {E : Value → Shared → Prop} {D b : Addr} {kvs : List (List Key × V)} {ks : List Key} {z : V} {u : Value} {Q : Unit → Shared → Prop} (hu : X.A.units < cLine) (I : Inv X pins σ H s) (hD : H D = some (.dT kvs)) (hb : H b = some (.tup (ks.map kV))) (hz : kvs.length < sizeLine)
    (rz : RelV z u) (go : ∀ s', Inv X pins σ (upd H D (.dT (putK kvs ks z))) s' → Q () s') : wpAny (model X.prog X.w) X.A (dictSet D (.ref b) u) Q E s := by
  obtain ⟨len, nsys, xs, rel, dd⟩ := dt_of I.hok hD
  have lx : xs.length ≤ sizeLine := Paired.length rel ▸ len
  have lp := length_putK kvs ks z
  refine wpAny_dictSet_heap (hsz := lx) (show (tupleKind (mixKind X.prog X.w)).room X.A from hu) (key_of I.hok hb) dd fun h' dd' same => go _ ?_
  obtain ⟨ob, es, ep, e1, e2, e3, e4, _, e5⟩ := dd'
  have stays : ∀ c ys, H c = some (.tup ys) → (upd H D (.dT (putK kvs ks z))) c = some (.tup ys) := fun c ys ec => by
    rw [upd_ne (ne_of ec hD (by intro y; cases y))]
    exact ec
  exact d_write I (by rw [hD]; exact True.intro) same ⟨ob, e1⟩ ⟨by omega, nsys, _, (rel.put ks hb rz).keeps stays, ob, es, ep, e1, e2, e3, e4, e5⟩
/-- what is asked of a turn's key and value -/
def PutT (D : Addr) (y z : V) (H : Hp) (N : Hp → Prop) : Prop := ∃ kvs ks b, y = .ref b ∧ H b = some (.tup (ks.map kV)) ∧ H D = some (.dT kvs) ∧ kvs.length < sizeLine ∧ N (upd H D (.dT (putK kvs ks z)))
def tDcT (wi : TI) (g : TG) (tk tv : TE) (vs : List Nat) : TE := fun σ H Q => wi σ H fun J H1 => ∀ D, H1 D = none → ∃ W : Nat → Nat → Hp → Prop, (∃ m, W 0 m (upd H1 D (.dT []))) ∧ ∀ i m H, W i m H →
  (J.stop i H ∧ Q (.ref D) H) ∨ (J.go i H ∧ ∃ Nx : Hp → Prop, (∀ H', Nx H' → ∃ m', m' < m ∧ W (i + 1) m' H') ∧ ∀ x H', J.yld i H x H' → g x (wipe σ vs) H' fun σ2 H2 => wipe σ2 vs = wipe σ vs ∧ tk σ2 H2 fun y H3 => tv σ2 H3 fun z H4 => PutT D y z H4 Nx)
/-- the block's context is free of what the walk itself holds -/
theorem blk_free {X : Cx} {s : Shared} {H : Hp} {scope : Scope} {ce : Env} {fp : List Addr} {σ' : L2.St} {H' : Hp} {s' : Shared} (J : Inv (X.blk s H scope ce fp) [] σ' H' s') (nn : ∀ b ∈ fp, H' b = none) : ∀ b ∈ fp, FpOk (X.blk s H scope ce fp) [] H' b := fun b hb =>
  ⟨nn b hb, (J.ok.exf b hb).1, J.ok.exfs b hb, .inl hb, fun x c e => (J.ok.exf b hb).2 x c e, fun p hp => by
    have hp : p ∈ ([] : List (Addr × Obj)) ++ [] := hp
    cases hp⟩
/-- a turn is over: the block again as it began, but for the heap -/
theorem blk_turn {X Y : Cx} {fp : List Addr} {it : Addr} {tg : Expr} {J : It} {tn : Nat → Heap → Prop} {P : Program} {w : World} {K : PySem.W.Frag} (T : Turn P w K tg J fp it tn) {i : Nat} {h7 : Heap} (st : tn (i + 1) h7) {σ0 σ8 : L2.St} {vs : List Nat} {H' : Hp} {s' : Shared} (hw : wipe σ8 vs = wipe σ0 vs)
    (JJ : Inv Y ([] ++ pinsAt fp h7) σ8 H' s') : Inv Y [] (wipe σ0 vs) H' s' ∧ tn (i + 1) s'.heap ∧ ∀ b ∈ fp, H' b = none := by
  have held : ∀ b ∈ fp, ∀ o, h7.get? b = some o → s'.heap.get? b = some o ∧ H' b = none := fun b hb o e => by
    have z := JJ.pin (b, o) (List.mem_append_right _ (List.mem_append_right _ (mem_pinsAt hb e)))
    exact ⟨z.1, z.2.1⟩
  refine ⟨(JJ.unpinned (pins := [])).weak (by rw [← hw, wipe_length]) (fun j v e => ?_), T.keep _ _ _ st fun b hb o e => (held b hb o e).1, fun b hb => ?_⟩
  · rw [← hw] at e
    exact (wipe_some e).1
  · obtain ⟨o, e, _⟩ := T.obj _ _ st b hb
    exact (held b hb o e).2
theorem dcT_core {X : Cx} {pins : List (Addr × Obj)} {s : Shared} {σ : L2.St} {H : Hp} {Q : VK} {kx vx tg iter : Expr} {scope : Scope} {own : List (Str × Nat)} {pos pos' : Pos} {wi : TI} {g : TG} {tk tv : TE} {use : Option (Value → Sem Unit)} {Qf : Value → Shared → Prop} (hu : X.A.units < cLine) (calm : X.calm = true) (nd : X.N.Nodup) (I : Inv X pins σ H s) (hi : PI X tg iter wi) (ok : BlkOk X.N X.env.scope scope own)
    (hg : ∀ (s : Shared) (H : Hp) (C : Addr) (cl : List (Str × Addr)) (fp : List Addr), PG (X.blk s H scope (compEnvC scope cl C X.env) fp) tg g)
    (hk : ∀ (s : Shared) (H : Hp) (C : Addr) (cl : List (Str × Addr)) (fp : List Addr), PE (X.blk s H scope (compEnvC scope cl C X.env) fp) kx tk)
    (hv : ∀ (s : Shared) (H : Hp) (C : Addr) (cl : List (Str × Addr)) (fp : List Addr), PE (X.blk s H scope (compEnvC scope cl C X.env) fp) vx tv) (hfs : ∀ x, foldedSetIterable iter X.env x = pure x) (h : tDcT wi g tk tv (own.map (·.2)) σ H Q)
    (fin : ∀ D C s' m H', Inv X pins σ H' s' → Q (.ref D) H' → s'.heap.Ns C m → FpOk X pins H' C → compPost (model X.prog X.w) X.A X.xe use Qf (.ref D) C (.ok .next) s') :
    wpAny (model X.prog X.w) X.A (comprehension (.DictComp kx vx [⟨tg, iter, [], 0⟩] scope pos) scope X.env pos' newDict false (eval iter X.env) use) Qf X.xe s := by
  have cells : ∀ y ∈ scope.names, y.2 = .free → ∃ c, X.env.cells.lookup y.1 = some c := fun y hy e => (ok.free y hy e).elim (fun k => I.ok.has _ (.inl k)) fun k => I.ok.has _ (.inr k)
  refine wpAny_comprehension_free (use := use) rfl hfs (closure_ok cells) ok.kind (fun y hy e => by rw [ok.uniq y hy, e]) (thn (hi.run pins s σ H _ I h) fun xv sa ha => thn ha fun itv sb hb => ?_)
  obtain ⟨it, fp, tn, J, Hb, rfl, Ib, T, stb, fb, rest⟩ := hb
  refine wpAny_newObj_type (newEnv_comp ?_)
  obtain ⟨W, ⟨m0, w0⟩, turn⟩ := rest sb.heap.objs.size (Ib.hok.fresh (Nat.le_refl _))
  have Ic : Inv X pins σ (upd Hb sb.heap.objs.size (.dT [])) { sb with heap := sb.heap.push { cls := .type "dict", data := .dict #[] } } := Ib.laid (t' := sb.toks) (fun b o e => Heap.get?_push_of_some _ e) (Nat.le_refl _) (dt_empty sb.heap Ib.big)
  have stc : tn 0 (sb.heap.push { cls := .type "dict", data := .dict #[] }) := T.keep _ _ _ stb fun b _ o e => Heap.get?_push_of_some _ e
  have below : ∀ b ∈ fp, b < sb.heap.objs.size := fun b hb => by
    obtain ⟨o, e, _⟩ := T.obj _ _ stb b hb
    exact Heap.lt_size e
  have fc : ∀ b ∈ fp, FpOk X pins (upd Hb sb.heap.objs.size (.dT [])) b ∧ b < (sb.heap.push { cls := .type "dict", data := .dict #[] }).objs.size := fun b hb => by
    refine ⟨⟨?_, (fb b hb).2⟩, ?_⟩
    · rw [upd_ne (Nat.ne_of_lt (below b hb))]
      exact (fb b hb).1
    · rw [Heap.size_push]
      exact Nat.lt_succ_of_lt (below b hb)
  generalize sb.heap.objs.size = D at turn w0 Ic fc ⊢
  generalize hsc : ({ sb with heap := sb.heap.push { cls := .type "dict", data := .dict #[] } } : Shared) = sc at Ic ⊢
  have stc : tn 0 sc.heap := by rw [← hsc]; exact stc
  generalize upd Hb D (.dT []) = Hc at w0 Ic fc
  have fc : ∀ b ∈ fp, FpOk X pins Hc b ∧ b < sc.heap.objs.size := by rw [← hsc]; exact fc
  have Id := block_start Ic ok nd fc
  have pg := hg sc Hc sc.heap.objs.size (cellsFrom (sc.heap.objs.size + 1) scope.names (cloFrom X.env.cells scope.names [])) fp
  have pk := hk sc Hc sc.heap.objs.size (cellsFrom (sc.heap.objs.size + 1) scope.names (cloFrom X.env.cells scope.names [])) fp
  have pv := hv sc Hc sc.heap.objs.size (cellsFrom (sc.heap.objs.size + 1) scope.names (cloFrom X.env.cells scope.names [])) fp
  show codeAny _ _ (.compStart _ 0 (.ref it) (.ref D) (compEnvC scope (cellsFrom (sc.heap.objs.size + 1) scope.names (cloFrom X.env.cells scope.names [])) sc.heap.objs.size X.env)) (compPost _ _ _ _ _ (.ref D) sc.heap.objs.size) { sc with heap := pushCells (sc.heap.push { cls := .type "dict", data := .dict #[] }) scope.names }
  have std : tn 0 (pushCells (sc.heap.push { cls := .type "dict", data := .dict #[] }) scope.names) := T.keep _ _ _ stc fun b _ o e => pushCells_keeps _ _ _ _ (Heap.get?_push_of_some _ e)
  generalize ec : compEnvC scope (cellsFrom (sc.heap.objs.size + 1) scope.names (cloFrom X.env.cells scope.names [])) sc.heap.objs.size X.env = ce at Id pg pk pv ⊢
  have cl : ce.locals = sc.heap.objs.size := by rw [← ec]; rfl
  generalize ed : ({ sc with heap := pushCells (sc.heap.push { cls := .type "dict", data := .dict #[] }) scope.names } : Shared) = sd at Id ⊢
  have std : tn 0 sd.heap := by rw [← ed]; exact std
  have loop : codeAny (model X.prog X.w) X.A (.compLoop (.DictComp kx vx [⟨tg, iter, [], 0⟩] scope pos) 0 (.ref it) (.ref D) ce) (compPost (model X.prog X.w) X.A X.xe use Qf (.ref D) sc.heap.objs.size) sd := by
    refine compLoop_anyD (fun n s' => ∃ i H', Inv (X.blk sc Hc scope ce fp) [] (wipe σ (own.map (·.2))) H' s' ∧ tn i s'.heap ∧ (∀ b ∈ fp, H' b = none) ∧ W i n H') ?_ m0 ⟨0, Hc, Id, std, fun b hb => (fc b hb).1.1, w0⟩
    rintro n s5 ⟨i, H5, I5, st5, n5, w5⟩
    rcases turn i n H5 w5 with ⟨ends, qq⟩ | ⟨goes, Nx, hNx, step⟩
    · refine thnF (T.done (X.blk sc Hc scope ce fp) rfl rfl rfl calm i [] s5 _ H5 (fun _ _ => False) I5 (blk_free I5 n5) st5 ends) fun r s6 ⟨er, I6⟩ => ?_
      subst er
      have I7 : Inv X pins σ H5 s6 := Ic.call' (ch := fp) I6.os I6.base I6.hok I6.bare fun b hb => ⟨(fc b hb).1.2.2.2.1, (fc b hb).1.2.1, (fc b hb).1.2.2.2.2.1, (fc b hb).1.2.2.2.2.2⟩
      have nl : H5 sc.heap.objs.size = none := by
        rw [← cl]
        exact I6.free
      obtain ⟨m, hn, _⟩ := I6.loc
      have hn : s6.heap.Ns ce.locals m := hn
      rw [cl] at hn
      exact fin D sc.heap.objs.size s6 m H5 I7 qq hn (Ic.fpOk (Nat.le_refl _) nl)
    · refine thnF (T.item (X.blk sc Hc scope ce fp) rfl rfl rfl calm i [] s5 _ H5 (fun _ _ => False) I5 (blk_free I5 n5) st5 goes) fun r s6 ⟨u, er, h6⟩ => ?_
      subst er
      refine thnF h6 fun _ s7 ⟨x, H7, I7, r7, y7, st7, n7⟩ => ?_
      refine thnF (pg.run _ s7 _ H7 x u _ (I7.pinned (blk_free I7 n7) (T.obj _ _ st7)) r7 (step x H7 y7)) fun _ s8 ⟨σ8, H8, I8, hw8, q8⟩ => ?_
      rw [List.forIn_nil]
      refine wpAny_pure ?_
      rw [if_pos rfl]
      refine thnF (pk.run _ s8 σ8 H8 _ I8 q8) fun v9 s9 ⟨y9, H9, I9, r9, q9⟩ => ?_
      refine thnF (pv.run _ s9 σ8 H9 _ I9 q9) fun v10 s10 ⟨z10, H10, I10, r10, kvs, ks, b, ey, eb, eD, lz, nx⟩ => ?_
      subst ey
      cases (show v9 = Value.ref b from r9)
      refine dset_t (X := X.blk sc Hc scope ce fp) hu I10 eD eb lz r10 fun s11 I11 => ?_
      obtain ⟨m', hm, w'⟩ := hNx _ nx
      obtain ⟨a1, a2, a3⟩ := blk_turn (X := X) T st7 hw8 I11
      exact ⟨m', hm, i + 1, _, a1, a2, a3, w'⟩
  exact codeAny_compStart_dict loop (T.self X.A 0 _ _ _ std loop)
theorem pe_dcT {X : Cx} {kx vx tg iter : Expr} {scope : Scope} {own : List (Str × Nat)} {pos : Pos} {wi : TI} {g : TG} {tk tv : TE} (hu : X.A.units < cLine) (calm : X.calm = true) (nd : X.N.Nodup) (hi : PI X tg iter wi) (ok : BlkOk X.N X.env.scope scope own)
    (hg : ∀ (s : Shared) (H : Hp) (C : Addr) (cl : List (Str × Addr)) (fp : List Addr), PG (X.blk s H scope (compEnvC scope cl C X.env) fp) tg g)
    (hk : ∀ (s : Shared) (H : Hp) (C : Addr) (cl : List (Str × Addr)) (fp : List Addr), PE (X.blk s H scope (compEnvC scope cl C X.env) fp) kx tk)
    (hv : ∀ (s : Shared) (H : Hp) (C : Addr) (cl : List (Str × Addr)) (fp : List Addr), PE (X.blk s H scope (compEnvC scope cl C X.env) fp) vx tv) (hfs : ∀ x, foldedSetIterable iter X.env x = pure x := by intro _; rfl) :
    PE X (.DictComp kx vx [⟨tg, iter, [], 0⟩] scope pos) (tDcT wi g tk tv (own.map (·.2))) := by
  refine ⟨fun pins s σ H Q I h => ?_⟩
  rw [arm_eval_DictComp]
  refine dcT_core hu calm nd I hi ok hg hk hv hfs h fun D C s' m H' I' q hn f => ⟨m, hn, fun h'' sb => ?_⟩
  obtain ⟨f0, f1, f2, f3, f4, f5⟩ := f
  exact ⟨.ref D, H', I'.turned (t' := s'.toks) (fun b o hb e => (sb.2 b hb).trans e) f0 f1 f3 f4 f5, rfl, q⟩
/-- a name on the same line takes it, before the block's own names go -/
theorem ps_setDcT {X : Cx} {i : Nat} {y : Str} {py : Pos} {kx vx tg iter : Expr} {scope : Scope} {own : List (Str × Nat)} {pos spos : Pos} {wi : TI} {g : TG} {tk tv : TE} (hu : X.A.units < cLine) (calm : X.calm = true) (nd : X.N.Nodup) (at_ : X.N[i]? = some y) (loc : X.env.scope.names.lookup y = some .local)
    (sw : swapsWith (.DictComp kx vx [⟨tg, iter, [], 0⟩] scope pos) (some (.Name y py)) spos.line X.env = pure true) (hi : PI X tg iter wi) (ok : BlkOk X.N X.env.scope scope own)
    (hg : ∀ (s : Shared) (H : Hp) (C : Addr) (cl : List (Str × Addr)) (fp : List Addr), PG (X.blk s H scope (compEnvC scope cl C X.env) fp) tg g)
    (hk : ∀ (s : Shared) (H : Hp) (C : Addr) (cl : List (Str × Addr)) (fp : List Addr), PE (X.blk s H scope (compEnvC scope cl C X.env) fp) kx tk)
    (hv : ∀ (s : Shared) (H : Hp) (C : Addr) (cl : List (Str × Addr)) (fp : List Addr), PE (X.blk s H scope (compEnvC scope cl C X.env) fp) vx tv) (hfs : ∀ x, foldedSetIterable iter X.env x = pure x := by intro _; rfl) :
    PS X (.Assign [.Name y py] (.DictComp kx vx [⟨tg, iter, [], 0⟩] scope pos) spos) (tAsg (tDcT wi g tk tv (own.map (·.2))) (gName i)) := by
  refine ⟨fun pins s σ H D I h => ?_⟩
  rw [exec_Assign_Name_used _ _ _ _ sw]
  refine wpAny_bind (wpAny_standAt (wpAny_bind ?_))
  show wpAny _ X.A (do let _ ← comprehension (.DictComp kx vx [⟨tg, iter, [], 0⟩] scope pos) scope X.env (firstIterPos [⟨tg, iter, [], 0⟩] pos) newDict false (eval iter X.env) (some (assign (.Name y py) X.env))) _ _ s
  have h : tDcT wi g tk tv (own.map (·.2)) σ H (fun x H1 => gName i x σ H1 D.nx) := h
  refine wpAny_bind (thn (dcT_core (Qf := fun _ s' => SP X pins D .next s') hu calm nd I hi ok hg hk hv hfs h fun L C s' m H' I' q hn f => ?_) fun _ s' hq => wpAny_pure (wpAny_pure hq))
  show wpAny _ _ (assign (.Name y py) X.env (.ref L)) _ _ _
  refine wpAny_assign_Name (store_ok2 (v := V.ref L) I' nd at_ (.inl loc) rfl (fun s2 I2 ⟨a, sb, ha⟩ => ?_) (.inr loc))
  obtain ⟨f0, f1, f2, f3, f4, f5⟩ := f
  have apart : C ≠ a := by
    rcases ha with z | z
    · rw [z]
      exact f1
    · exact fun e => f4 y a z e.symm
  exact ⟨m, hn.sameBut sb apart, fun h3 sb3 => ⟨_, H', I2.turned (t' := s2.toks) (fun b o hb e => (sb3.2 b hb).trans e) f0 f1 f3 f4 f5, q⟩⟩
theorem swD_true {kx vx : Expr} {gs : List Comprehension} {scope : Scope} {pos py : Pos} {y : Str} {l : Nat} {env : Env} (hk : env.scope.kind = .function) (hy : env.scope.names.lookup y = some .local) (hl : (py.line == pos.line) = true)
    (ha : (scope.names.any fun (n, k) => n == y && (k == .local || k == .cell)) = false) : swapsWith (.DictComp kx vx gs scope pos) (some (.Name y py)) l env = pure true := by
  have ky : env.kindOf y = some .local := hy
  have hb : env.blockKind = .function := by unfold Env.blockKind; rw [hk]; rfl
  unfold swapsWith
  simp only [hb, ky, ha, Expr.pos, hl]
  rfl
theorem dcT_it {J : It} {n : Nat} {G : Hp → Prop} {Y : Nat → Hp → V → Hp → Prop} (w : Walk J n G Y) {g : TG} {tk tv : TE} {vs : List Nat} {σ : L2.St} {H1 : Hp} {D : Addr} {Qd : Hp → Prop} (Pv : Nat → Hp → Prop) (h0 : Pv 0 (upd H1 D (.dT []))) (hG : ∀ i H, i ≤ n → Pv i H → G H)
    (hs : ∀ i x H H', i < n → Pv i H → Y i H x H' → g x (wipe σ vs) H' fun σ2 H2 => wipe σ2 vs = wipe σ vs ∧ tk σ2 H2 fun y H3 => tv σ2 H3 fun z H4 => PutT D y z H4 (Pv (i + 1))) (hd : ∀ H, Pv n H → Qd H) :
    ∃ W : Nat → Nat → Hp → Prop, (∃ m, W 0 m (upd H1 D (.dT []))) ∧ ∀ i m H, W i m H → (J.stop i H ∧ Qd H) ∨ (J.go i H ∧ ∃ Nx : Hp → Prop, (∀ H', Nx H' → ∃ m', m' < m ∧ W (i + 1) m' H') ∧ ∀ x H', J.yld i H x H' → g x (wipe σ vs) H' fun σ2 H2 => wipe σ2 vs = wipe σ vs ∧ tk σ2 H2 fun y H3 => tv σ2 H3 fun z H4 => PutT D y z H4 Nx) := by
  refine ⟨fun i m H => m = n - i ∧ i ≤ n ∧ Pv i H, ⟨n, rfl, Nat.zero_le _, h0⟩, ?_⟩
  rintro i m H ⟨rfl, hi, pv⟩
  have hq := hG i H hi pv
  by_cases hlt : i < n
  · exact .inr ⟨w.goes i H hlt hq, Pv (i + 1), fun H' p' => ⟨n - (i + 1), by omega, rfl, hlt, p'⟩, fun x H' y => hs i x H H' hlt pv (w.yields i H x H' hlt hq y)⟩
  · obtain rfl : i = n := by omega
    exact .inl ⟨w.stops H hq, hd H pv⟩
end Pf


namespace Pf
open PySem PySem.Spec PyProof.Rows L2
/-! ### a list lengthened in its place -/
theorem lk_iadd : typeLookup (.type "list") (dunderI "add") = pure (some (.builtin "list.__iadd__")) := PySem.F.slot_list_iadd.lookup
theorem nf_list : fillsNumberSlot (.type "list") "add" = pure false := by kernel_rfl
theorem iadd_lst {M : Model} {A : Around} {E : Value → Shared → Prop} {s : Shared} {a b : Value} {Q : Value → Shared → Prop} (ha : s.TypeIs a "list") (hb : s.TypeIs b "list") (hc : wpAny M A (call (.builtin "list.__iadd__") [a, b]) Q E s) : wpAny M A (inplaceOp .Add a b) Q E s := by
  unfold inplaceOp
  refine wpAny_holding ?_
  have h1 : fillsInplaceSlot (.type "list") "add" (Operator.Add == .Add) = pure false := by
    unfold fillsInplaceSlot
    show (typeLookup (.type "list") (dunderI "add") >>= fun z => pure (z.isSome && !isSeqSlot z)) = pure false
    rw [lk_iadd]
    kernel_rfl
  have h2 : seqSlot? (.type "list") (dunderI "add") = pure (some (.builtin "list.__iadd__")) := PySem.seqSlot_of lk_iadd (by kernel_rfl)
  refine wpAny_bind (wpAny_typeOf ha (wpAny_bind (wpAny_of_eq h1 ?_)))
  show wpAny M A (if false = true then _ else _) Q E s
  rw [if_neg Bool.false_ne_true]
  exact wpAny_bind (wpAny_binaryOp1_none (nm := "add") ha hb nf_list (wpAny_bind (wpAny_of_eq h2 (wpAny_bind (wpAny_rule hc)))))
def rIext : TIp := fun x y H Q => ∃ l b xs zs, x = .ref l ∧ y = .ref b ∧ H l = some (.lst xs) ∧ H b = some (.lst zs) ∧ xs.length + zs.length ≤ sizeLine ∧ Q (.ref l) (upd H l (.lst (xs ++ zs)))
theorem ip_ext {X : Cx} : PIp X .Add rIext := by
  intro pins s σ H x y v u Q I rx ry h
  obtain ⟨l, b, xs, zs, rfl, rfl, hH, hB, hz, q⟩ := h
  cases rx
  cases ry
  obtain ⟨z, its, n, r, hl, e⟩ := I.lstM hH
  obtain ⟨z2, its2, n2, r2, hl2, e2⟩ := I.lstM hB
  have hs2 : its.toArray.size + its2.toArray.size ≤ sizeLine := by
    rw [List.size_toArray, List.size_toArray]
    omega
  have long : ¬ (!its.toArray.isEmpty && Builtin.List.listTooLong (its.toArray.size + its2.toArray.size)) = true := by
    rw [notLongL hs2, Bool.and_false]
    exact Bool.false_ne_true
  refine iadd_lst ⟨_, e, rfl⟩ ⟨_, e2, rfl⟩ (call_meets PySem.F.slot_list_iadd ⟨_, e, rfl⟩ PySem.F.entry_list_iadd (PySem.F.args_list_iadd_2 _ _) (AutoSeq1.list___iadd___list_list_0 l its.toArray n b its2.toArray n2 long (by rw [List.size_toArray]; omega) (by omega)) ⟨e, e2, ?_⟩)
  refine ⟨.ref l, _, I.lset (its' := its ++ its2) hH e (by simp) (r.append r2) ?_, rfl, q⟩
  rw [List.length_append]
  omega
end Pf


namespace Pf
open PySem PySem.Spec PyProof.Rows L2
/-! ### sorted of a dict by tuples -/
theorem obj_there {P : Program} {w : World} {H : Hp} {h : Heap} {a : Addr} {o : HO} (x : ObjOk P w H h a o) : ∃ u, h.get? a = some u := by
  cases o with
  | lst _ =>
    obtain ⟨_, _, _, _, e⟩ := x
    exact ⟨_, e⟩
  | tup _ =>
    obtain ⟨_, _, _, u, e, _⟩ := x
    exact ⟨u, e⟩
  | dK _ =>
    obtain ⟨_, _, _, _, u, _, _, e, _⟩ := x
    exact ⟨u, e⟩
  | dT _ =>
    obtain ⟨_, _, _, _, u, _, _, e, _⟩ := x
    exact ⟨u, e⟩
  | set _ _ =>
    obtain ⟨u, _, _, _, e, _⟩ := x
    exact ⟨u, e⟩
  | ins _ _ _ =>
    obtain ⟨_, _, _, e, _⟩ := x
    exact ⟨_, e⟩
  | own _ => exact x
  | xd _ =>
    obtain ⟨_, ⟨u, _, _, e, _⟩, _⟩ := x
    exact ⟨u, e⟩
  | rng _ _ =>
    obtain ⟨_, _, _, e⟩ := x
    exact ⟨_, e⟩
  | frz u _ => exact ⟨u, x.1⟩
  | tbl _ => exact ⟨_, x⟩
  | met _ _ => exact ⟨_, x⟩
  | ext _ => exact x.2.1
def rSortKT (K : PySem.W.Frag) : List V → Hp → VK → Prop := fun vs H Q => ∃ (d : Addr) (kvs : List (List Key × V)), vs = [.ref d] ∧ Rd H d (.dT kvs) ∧ ∀ bs : List Addr, IsKeys H kvs bs → ∃ (β : Type) (ad : β → Addr) (dd : β → PyData) (ys : List β), bs = ys.map ad ∧ (∀ y ∈ ys, Dp K H (.ref (ad y)) (dd y) ∧ (dd y).depth ≤ 50) ∧
  PySem.W.AllAlike (ys.map dd) ∧ PySem.W.Sortable (ys.map dd) ∧ ∀ p, H p = none → Q (.ref p) (upd H p (.lst ((ys.mergeSort (PySem.W.dataLe false dd)).map fun y => .ref (ad y))))
theorem cr_sortKT (K : PySem.W.Frag) {X : Cx} (calm : X.calm = true) (hu : X.A.units + 64 < cLine) (hK : X.K = K := by rfl) : CallR X (.builtin "sorted") (rSortKT K) := by
  subst hK
  intro pins s σ H vs us Q I r h
  obtain ⟨d, kvs, rfl, hd, q⟩ := h
  obtain ⟨u, rfl, er⟩ := vals1 r
  cases er
  obtain ⟨z, hs, ks, pr, o, es, ep, ho, hx, hdt, he, hn⟩ := (show ObjOk X.prog X.w H s.heap d (.dT kvs) from hd.ok I.hok)
  have l1 : es.size = ks.length := size_of_entries he
  have l2 : kvs.length = ks.length := Paired.length pr
  obtain ⟨β, ad, dd, ys, eys, hy, al, so, qq⟩ := q _ (isKeys_of pr)
  have hyl : ys.length = ks.length := by
    have := congrArg List.length eys
    rw [List.length_map, List.length_map] at this
    exact this.symm
  refine Calls.call_function_entry kind_sorted plain_sorted entry_sorted (args_sorted1 _) ?_
  unfold Builtin.«sorted»
  refine wpAny_bind (m := checkCount "sorted" 1 1 _) (wpAny_pure ?_)
  refine wpAny_bind (PySem.W.kdu_collect (kdl_raw hs hx hdt) (I.ok.hd calm) ho (by omega) fun h1 tk acc kp items => ?_)
  have ea : acc.toList = ys.map fun y => Value.ref (ad y) := by
    have e0 : (ks.map fun x => x.2.1).map Value.ref = ys.map fun y => Value.ref (ad y) := by
      rw [eys, List.map_map]
      rfl
    rw [← e0]
    refine List.ext_getElem? fun j => ?_
    rw [List.getElem?_map, List.getElem?_map]
    cases hj : acc.toList[j]? with
    | none =>
      have := List.getElem?_eq_none_iff.mp hj
      rw [Array.length_toList, items.1] at this
      rw [List.getElem?_eq_none (by omega)]
      rfl
    | some v =>
      obtain ⟨en, hen, hv⟩ := items.2 j v (by rw [← Array.getElem?_toList]; exact hj)
      have qe := entry_at he j
      rw [hen] at qe
      cases hb : ks[j]? with
      | none =>
        rw [hb] at qe
        exact nomatch (show some en = none from qe)
      | some b =>
        rw [hb] at qe
        rw [hv, Option.some.inj (show some en = some (entryOfKey (tupleKind (mixKind X.prog X.w)) b) from qe)]
        rfl
  have hz2 : acc.toList.length ≤ sizeLine := by
    rw [ea, List.length_map]
    omega
  refine wpAny_bind (wpAny_newList ?_ hz2)
  have hat : (h1.push (seqObj "list" acc.toList.toArray 0)).get? h1.objs.size = some (seqObj "list" acc.toList.toArray 0) := Heap.get?_push_size _ rfl
  have hlt : ∀ b ob, s.heap.get? b = some ob → b ≠ h1.objs.size := fun b ob e => Nat.ne_of_lt (Heap.lt_size (kp b ob e))
  have old : ∀ b ob, s.heap.get? b = some ob → (h1.push (seqObj "list" acc.toList.toArray 0)).get? b = some ob := fun b ob e => Heap.get?_push_of_some _ (kp b ob e)
  have rel : PySem.W.EachIs (fun (v : Value) (y : β) => RelV (V.ref (ad y)) v) acc.toList ys := by
    rw [ea]
    clear q qq eys hy al so hyl ea
    induction ys with
    | nil => exact .nil
    | cons y t ih => exact .cons rfl ih
  have rv : Vals (ys.map fun y => V.ref (ad y)) acc.toList := vals_each (v := fun y => V.ref (ad y)) rel
  have rd : PySem.W.EachIs (fun (v : Value) (y : β) => ∃ as, Reads (PySem.W.sortingHeap (h1.push (seqObj "list" acc.toList.toArray 0)) h1.objs.size acc.toList) v (dd y) as) acc.toList ys := (each_reads (v := fun y => V.ref (ad y)) I rv fun y hy' => (hy y hy').1).mono fun _ _ ⟨as, w⟩ => ⟨as, PyProof.Rows.Reads.keeps (fun b ob e => PySem.W.sortingHeap_old (hlt b ob e) (old b ob e)) w⟩
  have hub : ∀ y ∈ ys, X.A.in1.in1.units + (dd y).depth < cLine := fun y hy' => by
    have := (hy y hy').2
    show X.A.units + 2 + (dd y).depth < cLine
    omega
  have S := PySem.W.SortsAt.data (prog := X.prog) (w := X.w) (A := X.A.in1.in1) (s := { s with heap := PySem.W.sortingHeap (h1.push (seqObj "list" acc.toList.toArray 0)) h1.objs.size acc.toList, toks := tk }) (PySem.W.each_map (R := fun v d => ∃ as, Reads (PySem.W.sortingHeap (h1.push (seqObj "list" acc.toList.toArray 0)) h1.objs.size acc.toList) v d as) dd rd) al so (PySem.W.bound_map hub)
  refine wpAny_bind (wpAny_holding (wpAny_call_entry slot_list_sort ⟨_, hat, rfl⟩ entry_list_sort ?body (args_list_sort _)))
  case body =>
    refine PySem.W.list_sort_vals (s := { s with heap := h1.push (seqObj "list" acc.toList.toArray 0), toks := tk }) hat S hz2 ⟨_, rfl, wpAny_pure ⟨_, rfl, ?_⟩⟩
    have each := PySem.W.sortVals_data false rel rd al
    generalize PySem.W.sortVals (PySem.W.dataKind (PySem.W.sortingHeap (h1.push (seqObj "list" acc.toList.toArray 0)) h1.objs.size acc.toList) (ys.map dd)) false acc.toList acc.toList = out at each ⊢
    obtain ⟨ee, he'⟩ := PyProof.Rows.sortedHeap_at (vs := acc.toList) (out := out.toArray) hat
    have hl2 : ((ys.mergeSort (PySem.W.dataLe false dd)).map fun y => V.ref (ad y)).length ≤ sizeLine := by
      rw [List.length_map, List.length_mergeSort]
      omega
    have gone : s.heap.get? h1.objs.size = none := by
      cases e : s.heap.get? h1.objs.size with
      | none => rfl
      | some ob => exact absurd rfl (hlt _ ob e)
    have free : H h1.objs.size = none := by
      cases e : H h1.objs.size with
      | none => rfl
      | some u =>
        obtain ⟨ob, e2⟩ := obj_there (I.hok _ _ e)
        rw [gone] at e2
        cases e2
    exact ⟨.ref h1.objs.size, upd H h1.objs.size (.lst ((ys.mergeSort (PySem.W.dataLe false dd)).map fun y => V.ref (ad y))), I.laidN (t' := tk) (fun b ob e => by rw [PyProof.Rows.sortedHeap_old (hlt b ob e) (Heap.lt_size (old b ob e))]; exact old b ob e) gone free ⟨hl2, out, ee, vals_each (v := fun y => V.ref (ad y)) each, by simpa using he'⟩, rfl, qq _ free⟩
end Pf


namespace Pf
open PySem PySem.Spec PyProof.Rows L2
/-! ### a text so many times: some text of its letters, no longer than it may be -/
theorem rep_cps (x : Array Nat) : ∀ (n : Nat) (acc : Array Nat), (((List.replicate n x).foldl (· ++ ·) acc).size = acc.size + x.size * n) ∧ ∀ c ∈ ((List.replicate n x).foldl (· ++ ·) acc).toList, c ∈ acc.toList ∨ c ∈ x.toList
  | 0, acc => ⟨by rw [Nat.mul_zero]; rfl, fun c h => .inl h⟩
  | n + 1, acc => by
    have ih := rep_cps x n (acc ++ x)
    rw [List.replicate_succ, List.foldl_cons]
    refine ⟨?_, fun c h => ?_⟩
    · rw [ih.1, Array.size_append, Nat.mul_succ]
      omega
    · rcases ih.2 c h with z | z
      · rw [Array.toList_append, List.mem_append] at z
        exact z
      · exact .inr z
def rRepS : R2 := fun x y H Q => ∃ (z : Str) (k : Int), x = .str z ∧ y = .int k ∧ 0 ≤ k ∧ k ≤ 1000 ∧ z.length ≤ 1000 ∧ ∀ w : Str, w.length ≤ z.length * k.toNat → (∀ c ∈ w.cps.toList, c ∈ z.cps.toList) → Q (.str w) H
theorem op_repS {X : Cx} : OpR X (binaryOp .Mult) rRepS := by
  intro pins s σ H x y v u Q I rx ry h
  obtain ⟨z, k, rfl, rfl, k0, k1, hz, q⟩ := h
  obtain ⟨t, rfl⟩ := rx
  obtain ⟨t2, rfl⟩ := ry
  have hm : z.length * k.toNat ≤ 1000 * 1000 := Nat.mul_le_mul hz (by omega)
  have hbig : (z.length : Int) * k ≤ 1000 * 1000 := Int.mul_le_mul (by omega) k1 k0 (by decide)
  refine PySem.P.mul_str (by rw [decide_eq_false (by omega), decide_eq_false (by omega)]; rfl) (fun h1 _ z2 => ?_) (fun _ _ => ?_) ?_
  · have h3 : (1000 : Int) ≤ (2 ^ 63 - 1) / k := by
      rw [Int.le_ediv_iff_mul_le (by omega)]
      omega
    omega
  · unfold Builtin.Str.tooLong
    exact decide_eq_false (by rw [sizeLine_eq]; omega)
  · by_cases c1 : k < 1
    · rw [if_pos c1]
      exact ⟨by decide, .str Str.empty, H, I.tok _, ⟨_, rfl⟩, q _ (Nat.zero_le _) (fun c hc => by cases hc)⟩
    · rw [if_neg c1]
      by_cases c2 : (k == 1 || z.length == 0) = true
      · rw [if_pos c2]
        refine ⟨.str z, H, I, ⟨_, rfl⟩, q z ?_ fun _ hc => hc⟩
        exact Nat.le_mul_of_pos_right _ (by omega)
      · rw [if_neg c2]
        have hr := rep_cps z.cps k.toNat #[]
        have hl : (⟨(List.replicate k.toNat z.cps).foldl (· ++ ·) #[]⟩ : Str).length = z.length * k.toNat := by
          show ((List.replicate k.toNat z.cps).foldl (· ++ ·) #[]).size = _
          rw [hr.1]
          show 0 + z.length * k.toNat = _
          omega
        refine ⟨?_, .str _, H, I.tok _, ⟨_, rfl⟩, q _ (Nat.le_of_eq hl) fun c hc => ?_⟩
        · rw [hl, sizeLine_eq]
          omega
        · rcases hr.2 c hc with y | y
          · cases y
          · exact y
/-! ### a list under way -/
section
variable {β : Type} {R : Hp → V → β → Prop} {D : Addr} {H H1 H4 : Hp} {ys : List β} {v : V} {b : β}
def GenL (R : Hp → V → β → Prop) (D : Addr) (H1 : Hp) (ys : List β) (H : Hp) : Prop := ∃ vs, H D = some (.lst vs) ∧ Paired (R H) vs ys ∧ Ext H1 H
theorem genl_new (hD : H1 D = none) : GenL R D H1 [] (upd H1 D (.lst [])) := ⟨[], upd_same, .nil, Ext.new hD⟩
theorem GenL.ext (h : GenL R D H1 ys H) : Ext H1 H := by
  obtain ⟨_, _, _, k⟩ := h
  exact k
theorem GenL.keep (m : Mono R) (h : GenL R D H1 ys H) (k : Ext H H4) : GenL R D H1 ys H4 := by
  obtain ⟨vs, hL, hP, k1⟩ := h
  exact ⟨vs, k _ _ hL, paired_imp (fun _ _ => m _ _ _ _ (TupK.ext k)) hP, k1.trans k⟩
theorem genl_step (m : Mono R) (hD : H1 D = none) (h : GenL R D H1 ys H) (k : Ext H H4) (hv : R H4 v b) (hn : ys.length < 1000000) : ∃ acc, H4 D = some (.lst acc) ∧ acc.length < sizeLine ∧ GenL R D H1 (ys ++ [b]) (upd H4 D (.lst (acc ++ [v]))) := by
  obtain ⟨vs, hL, hP, k1⟩ := h
  have hl := paired_len hP
  have hL4 := k _ _ hL
  exact ⟨vs, hL4, szLt (by omega), vs ++ [v], upd_same, paired_app (paired_imp (fun _ _ => m _ _ _ _ ((TupK.ext k).trans (TupK.lst hL4))) hP) (.cons (m _ _ _ _ (TupK.lst hL4) hv) .nil), (k1.trans k).put hD⟩
/-- one more at its end -/
theorem app_ok {Q : VK} (m : Mono R) (hD : H1 D = none) (h : GenL R D H1 ys H) (k : Ext H H4) (hv : R H4 v b) (hn : ys.length < 1000000) (q : ∀ H', GenL R D H1 (ys ++ [b]) H' → Q .non H') : rAppend (.ref D) [v] H4 Q := by
  obtain ⟨acc, h1, h2, h3⟩ := genl_step m hD h k hv hn
  exact ⟨D, acc, v, rfl, rfl, h1, h2, q _ h3⟩
theorem GenL.sq {K : PySem.W.Frag} (h : GenL R D H1 ys H) : ∃ vs, SqL K H D vs := by
  obtain ⟨vs, h1, _⟩ := h
  exact ⟨vs, SqL.of h1⟩
end
theorem putT_len (c : List (List Key × V)) (k : List Key) (v : V) : (putK c k v).length ≤ c.length + 1 := by
  unfold putK
  split
  · rw [List.length_map]
    omega
  · rw [List.length_append, List.length_singleton]
    exact Nat.le_refl _
end Pf


namespace Pf
open PySem PySem.Spec PyProof.Rows L2
def topS (i : Nat) : Stmt := PySem.Challenge.pw_pairfolds_k26_what_has_no_number.main.body.getD i (.Pass ⟨0, 0, 0, 0⟩)
/-! ### the pen: a list of cells, a place, a rest -/
def Pen (H : Hp) (p c : Addr) (n : Nat) : Prop := ∃ (cells : List Int) (a r : Int), H p = some (.lst [.ref c, .int a, .int r]) ∧ H c = some (.lst (cells.map V.int)) ∧ 0 ≤ a ∧ a ≤ n ∧ 0 ≤ r ∧ cells.length ≤ 63
section
variable {H H' : Hp} {p c q : Addr} {n m : Nat} {o : HO}
theorem Pen.mono (h : Pen H p c n) (l : n ≤ m) : Pen H p c m := by
  obtain ⟨cells, a, r, h1, h2, h3, h4, h5, h6⟩ := h
  exact ⟨cells, a, r, h1, h2, h3, by omega, h5, h6⟩
theorem Pen.put (h : Pen H p c n) (hp : q ≠ p) (hc : q ≠ c) : Pen (upd H q o) p c n := by
  obtain ⟨cells, a, r, h1, h2, h3⟩ := h
  exact ⟨cells, a, r, by rw [upd_ne hp.symm]; exact h1, by rw [upd_ne hc.symm]; exact h2, h3⟩
theorem Pen.ne (h : Pen H p c n) (hq : H q = none) : q ≠ p ∧ q ≠ c := by
  obtain ⟨cells, a, r, h1, h2, h3⟩ := h
  exact ⟨(ne_of_none h1 hq).symm, (ne_of_none h2 hq).symm⟩
theorem Pen.new (h : Pen H p c n) (hq : H q = none) : Pen (upd H q o) p c n := h.put (h.ne hq).1 (h.ne hq).2
theorem Pen.tup (h : Pen H p c n) {b : Addr} {xs : List V} (e : H b = some (.tup xs)) : b ≠ p := by
  obtain ⟨cells, a, r, h1, _⟩ := h
  exact ne_of e h1 (by intro z; cases z)
theorem Pen.frz (h : Pen H p c n) {b : Addr} {ob : Obj} {u : HO} (e : H b = some (.frz ob u)) : b ≠ p := by
  obtain ⟨cells, a, r, h1, _⟩ := h
  exact ne_of e h1 (by intro z; cases z)
theorem Pen.ext (h : Pen H p c n) (k : Ext H H') : Pen H' p c n := by
  obtain ⟨cells, a, r, h1, h2, h3⟩ := h
  exact ⟨cells, a, r, k _ _ h1, k _ _ h2, h3⟩
end
theorem TupK.of {p c : Addr} {n : Nat} {H H' : Hp} (k : Kp p H H') (hP : Pen H p c n) : TupK H H' := ⟨fun b _ e => k b _ (hP.tup e) e, fun b _ _ e => k b _ (hP.frz e) e⟩
theorem Kp.ext {p : Addr} {H H' : Hp} (k : Ext H H') : Kp p H H' := fun b o _ e => k b o e
theorem dpInts {K : PySem.W.Frag} {H : Hp} : ∀ cells : List Int, DpAll K H (cells.map V.int) (cells.map PyData.int)
  | [] => .nil
  | _ :: r => .cons (.int _) (dpInts r)
theorem cut_ints (ns : List Int) (lo hi : Option Int) : ∃ cs : List Int, cutV (ns.map V.int) lo hi = cs.map V.int ∧ cs.length ≤ ns.length := by
  unfold cutV
  refine ⟨(ns.drop _).take _, by rw [List.map_take, List.map_drop], ?_⟩
  rw [List.length_take, List.length_drop]
  omega
theorem mod_b (z m : Int) (h : 0 < m) (h2 : m < 2 ^ 64) : -(2 ^ 64) < z % m ∧ z % m < 2 ^ 64 := by
  have h3 := Int.emod_nonneg z (show m ≠ 0 by omega)
  have h4 := Int.emod_lt_of_pos z h
  omega
theorem draw_b1 {z a : Int} (a0 : 0 ≤ a) (a1 : a ≤ 1000000) : (z % 2147483477 + 70001 * a + 541).natAbs < 2 ^ 64 := by
  have h3 := Int.emod_nonneg z (show (2147483477 : Int) ≠ 0 by decide)
  have h4 := Int.emod_lt_of_pos z (show (0 : Int) < 2147483477 by decide)
  omega
theorem draw_b3 (z : Int) {a : Int} (a0 : 0 ≤ a) (a1 : a ≤ 1000000) : (z % 2147483629 * (a + 9) + 91033 * a * a + 7).natAbs < 2 ^ 64 := by
  have h3 := Int.emod_nonneg z (show (2147483629 : Int) ≠ 0 by decide)
  have h4 := Int.emod_lt_of_pos z (show (0 : Int) < 2147483629 by decide)
  have h1 : z % 2147483629 * (a + 9) ≤ 2147483629 * 1000009 := Int.mul_le_mul (by omega) (by omega) (by omega) (by decide)
  have h2 : 0 ≤ z % 2147483629 * (a + 9) := Int.mul_nonneg h3 (by omega)
  have h5 : 91033 * a * a ≤ 91033 * 1000000 * 1000000 := Int.mul_le_mul (by omega) a1 a0 (by decide)
  have h6 : 0 ≤ 91033 * a * a := Int.mul_nonneg (by omega) a0
  omega
section
variable {P : Program} {w : World} {K : PySem.W.Frag} {mg : Str → Option Value} {base : Heap}
abbrev s_law_start : Stmt := topS 54
theorem sc_law_start : FnScope ["_law_script"] ["_law_script"] (defScope s_law_start) :=
  ⟨rfl, rfl, rfl, by decide +kernel, rfl, by decide +kernel, by decide +kernel⟩
def spStart (K : PySem.W.Frag) : Sp := fun vs H Q _ => ∃ (a : Addr) (ns : List Int), vs = [.ref a] ∧ SqL K H a (ns.map V.int) ∧ ns.length ≤ 63 ∧ ∀ p c H', Pen H' p c 0 → Ext H H' → Q (.ref p) H'
theorem ok_start {f : Addr} {fd : FuncData} {k : Nat} (F : Fun K "_law_start" "_law_start" s_law_start f fd) (mlist : mg "list" = none) : FnOk P w K mg base CX0 (k + 1) f fd ["_law_script"] (spStart K) := by
  refine F.ok sc_law_start (fun vs H Q E h => ?_) (fun cdv A outer s H vs Q E hr h => ?_)
  · obtain ⟨a, ns, rfl, _⟩ := h
    rfl
  · obtain ⟨a, ns, rfl, hS, hns, q⟩ := h
    refine ⟨_, (pss_one (ps_ret (pe_lst (pa_cons (pe_callTy (listOf K) (by rfl) mlist (by decide +kernel) (pa_cons (pe_slice (slL K) (pv 0) po_none (po_some pe_int)) pa_nil)) (pa_cons pe_int (pa_cons pe_int pa_nil)))))), ?_⟩
    obtain ⟨cs, hcs, hcl⟩ := cut_ints ns none (some 63)
    refine ⟨_, rfl, 63, rfl, a, _, rfl, hS, fun c0 hc0 => ?_⟩
    rw [hcs]
    refine ⟨c0, _, rfl, .inl (SqL.of upd_same), fun c hc => ⟨szL (show 3 ≤ 1000000 by decide), fun p hp => ?_⟩⟩
    refine q p c _ ⟨cs, 0, 0, upd_same, ?_, by decide, by decide, by decide, by omega⟩ ((Ext.new hc0).trans ((Ext.new hc).trans (Ext.new hp)))
    exact Ext.new hp _ _ upd_same
abbrev s_law_draw : Stmt := topS 55
theorem sc_law_draw : FnScope ["_law_pen", "_law_many", "_law_digit", "_law_used", "_law_cell", "_law_low", "_law_high"] ["_law_pen", "_law_many"] (defScope s_law_draw) :=
  ⟨rfl, rfl, rfl, by decide +kernel, rfl, by decide +kernel, by decide +kernel⟩
def spDraw : Sp := fun vs H Q _ => ∃ (p c : Addr) (m : Int) (n : Nat), vs = [.ref p, .int m] ∧ Pen H p c n ∧ n < 1000000 ∧ 0 < m ∧ m < 1000000 ∧
  ∀ r H', 0 ≤ r → r < m → Kp p H H' → Pen H' p c (n + 1) → Q (.int r) H'
theorem ok_draw {f : Addr} {fd : FuncData} {k : Nat} (F : Fun K "_law_draw" "_law_draw" s_law_draw f fd) (mlen : mg "len" = none) (mabs : mg "abs" = none) : FnOk P w K mg base CX0 (k + 1) f fd ["_law_pen", "_law_many"] spDraw := by
  refine F.ok sc_law_draw (fun vs H Q E h => ?_) (fun cdv A outer s H vs Q E hr h => ?_)
  · obtain ⟨p, c, m, n, rfl, _⟩ := h
    rfl
  · obtain ⟨p, c, m, n, rfl, hP, hn, m0, m1, q⟩ := h
    obtain ⟨cells, a, r, hp, hc, a0, a1, r0, cl⟩ := hP
    refine ⟨_, (pss_cons (ps_if (pt_cmpR op_gt (pe_ix (ixL K) (pv 0) pe_int (fun _ _ => rfl)) pe_int (nomark _)) (pss_cons (ps_set (i := 2) sc_law_draw.nd rfl (.inl rfl) (pe_op op_mod (pe_ix (ixL K) (pv 0) pe_int (fun _ _ => rfl)) (pv 1)))
      (pss_cons (ps_asg (pe_op op_fdiv (pe_ix (ixL K) (pv 0) pe_int (fun _ _ => rfl)) (pv 1)) (pg_sub (pv 0) pe_int set_list))
      (pss_one (ps_ret (pv 2))))) pss_nil)
      (pss_cons (ps_set (i := 3) sc_law_draw.nd rfl (.inl rfl) (pe_ix (ixL K) (pv 0) pe_int (fun _ _ => rfl)))
      (pss_cons (ps_asg (pe_op op_add (pv 3) pe_int) (pg_sub (pv 0) pe_int set_list))
      (pss_cons (ps_set (i := 4) sc_law_draw.nd rfl (.inl rfl) (pe_op op_add (pe_op op_add (pe_op op_mul (pe_op op_mul pe_int (pv 3)) (pv 3)) (pe_op op_mul pe_int (pv 3))) pe_int))
      (pss_cons (ps_if (pt_cmpR (neD K hr.units) (pe_ix (ixL K) (pv 0) pe_int (fun _ _ => rfl)) (pe_lst pa_nil) (nomark _)) (pss_one (ps_set (i := 4) sc_law_draw.nd rfl (.inl rfl) (pe_ix (ixL K) (pe_ix (ixL K) (pv 0) pe_int (fun _ _ => rfl)) (pe_op op_mod (pv 3) (pe_callB (lenQ K) (by rfl) mlen (by decide +kernel) (pa_cons (pe_ix (ixL K) (pv 0) pe_int (fun _ _ => rfl)) pa_nil))) (fun _ _ => rfl)))) pss_nil)
      (pss_cons (ps_if (PW.pt (pw_and (pt_cmpR op_lt (pv 3) (pe_callB (lenQ K) (by rfl) mlen (by decide +kernel) (pa_cons (pe_ix (ixL K) (pv 0) pe_int (fun _ _ => rfl)) pa_nil)) (nomark _)) (pw_and1 (pt_cmpR op_ge (pe_callB call_abs (by rfl) mabs (by decide +kernel) (pa_cons (pv 4) pa_nil)) (pe_op op_pow pe_int pe_int) (nomark _))))) (pss_cons (ps_asg (pe_op op_fdiv (pe_callB call_abs (by rfl) mabs (by decide +kernel) (pa_cons (pv 4) pa_nil)) (pv 1)) (pg_sub (pv 0) pe_int set_list))
      (pss_one (ps_ret (pe_op op_mod (pe_callB call_abs (by rfl) mabs (by decide +kernel) (pa_cons (pv 4) pa_nil)) (pv 1))))) pss_nil)
      (pss_cons (ps_set (i := 5) sc_law_draw.nd rfl (.inl rfl) (pe_op op_mod (pe_op op_pow (pe_op op_add (pe_op op_add (pe_op op_mod (pv 4) pe_int) (pe_op op_mul pe_int (pv 3))) pe_int) pe_int) pe_int))
      (pss_cons (ps_set (i := 6) sc_law_draw.nd rfl (.inl rfl) (pe_op op_mod (pe_op op_pow (pe_op op_add (pe_op op_add (pe_op op_mul (pv 5) (pe_op op_add (pv 3) pe_int)) (pe_op op_mul (pe_op op_mul pe_int (pv 3)) (pv 3))) pe_int) pe_int) pe_int))
      (pss_one (ps_ret (pe_op op_mod (pe_op op_fdiv (pe_op op_mod (pe_op op_add (pv 6) (pe_op op_mul (pe_op op_mod (pv 5) pe_int) pe_int)) pe_int) pe_int) (pv 1)))))))))))), ?_⟩
    have ncp : c ≠ p := ne_of hc hp (by
      intro z
      injection z with z
      cases cells with
      | nil => cases z
      | cons x y => injection z with z1 _; cases z1)
    refine ⟨.ref p, rfl, p, _, 2, .int r, rfl, rfl, SqL.of hp, rfl, _, _, rfl, rfl, _, rfl, ite2 (fun e => ?_) (fun e => ?_)⟩
    · refine ⟨.ref p, rfl, p, _, 2, .int r, rfl, rfl, SqL.of hp, rfl, .int m, rfl, r, m, rfl, rfl, m0, ?_⟩
      refine ⟨.ref p, rfl, p, _, 2, .int r, rfl, rfl, SqL.of hp, rfl, .int m, rfl, r, m, rfl, rfl, ⟨m0, by omega⟩, .ref p, rfl, p, _, 2, 2, rfl, rfl, hp, rfl, ?_⟩
      refine ⟨_, rfl, q _ _ (Int.emod_nonneg _ (by omega)) (Int.emod_lt_of_pos _ m0) Kp.at ⟨cells, a, r / m, upd_same, ?_, a0, by omega, Int.ediv_nonneg r0 (by omega), cl⟩⟩
      rw [upd_ne ncp]
      exact hc
    · refine ⟨.ref p, rfl, p, _, 1, .int a, rfl, rfl, SqL.of hp, rfl, ?_⟩
      refine ⟨.int a, rfl, a, 1, rfl, rfl, .ref p, rfl, p, _, 1, 1, rfl, rfl, hp, rfl, ?_⟩
      have hp1 : (upd H p (.lst [.ref c, .int (a + 1), .int r])) p = some (.lst [.ref c, .int (a + 1), .int r]) := upd_same
      have hc1 : (upd H p (.lst [.ref c, .int (a + 1), .int r])) c = some (.lst (cells.map V.int)) := by
        rw [upd_ne ncp]
        exact hc
      -- cell
      refine ⟨.int a, rfl, 53017, a, rfl, rfl, .inl ⟨by decide, by decide⟩, .int a, rfl, _, a, rfl, rfl, .inl ⟨by omega, by omega⟩, .int a, rfl, 719, a, rfl, rfl, .inl ⟨by decide, by decide⟩, _, _, rfl, rfl, _, 43, rfl, rfl, ?_⟩
      refine ⟨.ref p, rfl, p, _, 0, .ref c, rfl, rfl, SqL.of hp1, rfl, Nat.zero_le _, fun l hl => ?_⟩
      have nlp : l ≠ p := (ne_of_none hp1 hl).symm
      have nlc : l ≠ c := (ne_of_none hc1 hl).symm
      have hl0 : H l = none := by
        have h := hl
        rw [upd_ne nlp] at h
        exact h
      have hp2 : (upd (upd H p (.lst [.ref c, .int (a + 1), .int r])) l (.lst [])) p = some (.lst [.ref c, .int (a + 1), .int r]) := by
        rw [upd_ne nlp.symm]
        exact hp1
      have hc2 : (upd (upd H p (.lst [.ref c, .int (a + 1), .int r])) l (.lst [])) c = some (.lst (cells.map V.int)) := by
        rw [upd_ne nlc.symm]
        exact hc1
      have k2 : Kp p H (upd (upd H p (.lst [.ref c, .int (a + 1), .int r])) l (.lst [])) := Kp.at.put hl0
      refine ⟨.list (cells.map .int), .list [], .lst (SqL.of hc2) (dpInts cells), .lst (SqL.of upd_same) .nil, PySem.W.shaped_ints _, by decide, _, rfl, ite2 (fun e1 => ?_) (fun e1 => ?_)⟩
      have hne : 0 < cells.length := by
        cases cells with
        | nil => cases e1
        | cons x y => exact Nat.succ_pos _
      have hl1 : ((cells.map V.int).length : Int) = cells.length := by rw [List.length_map]
      obtain ⟨z, _, hat⟩ := atI_ints (ns := cells) (Int.emod_nonneg a (show ((cells.map V.int).length : Int) ≠ 0 by omega)) (by
        have := Int.emod_lt_of_pos a (show (0 : Int) < ((cells.map V.int).length : Int) by omega)
        omega)
      have hl2 : (0 : Int) < ((cells.map V.int).length : Int) := by omega
      refine ⟨.ref p, rfl, p, _, 0, .ref c, rfl, rfl, SqL.of hp2, rfl, .int a, rfl, .ref p, rfl, p, _, 0, .ref c, rfl, rfl, SqL.of hp2, rfl, c, _, rfl, .inl (SqL.of hc2), _, _, rfl, rfl, hl2, c, _, _, _, rfl, rfl, SqL.of hc2, hat, ?_⟩
      all_goals
        refine ⟨.int a, rfl, .ref p, rfl, p, _, 0, .ref c, rfl, rfl, SqL.of hp2, rfl, c, _, rfl, .inl (SqL.of hc2), _, _, rfl, rfl, _, rfl, ite2 (fun e2 => ?_) (fun e2 => ?_)⟩
        refine ⟨_, rfl, _, rfl, 10, 18, rfl, rfl, ⟨by decide, by decide, by decide⟩, _, _, rfl, rfl, _, rfl, ite2 (fun e3 => ?_) (fun e3 => ?_)⟩
        · refine ⟨_, rfl, _, rfl, .int m, rfl, _, m, rfl, rfl, ⟨m0, by omega⟩, .ref p, rfl, p, _, 2, 2, rfl, rfl, hp2, rfl, ?_⟩
          refine ⟨_, rfl, _, rfl, .int m, rfl, _, m, rfl, rfl, m0, q _ _ (Int.emod_nonneg _ (by omega)) (Int.emod_lt_of_pos _ m0) (k2.trans Kp.at) ⟨cells, a + 1, _, upd_same, ?_, by omega, by omega, Int.ediv_nonneg ?_ (by omega), cl⟩⟩
          · rw [upd_ne ncp]
            exact hc2
          · split <;> omega
        all_goals
          refine ⟨_, rfl, _, 2147483477, rfl, rfl, (show (0 : Int) < 2147483477 by decide), .int a, rfl, 70001, a, rfl, rfl, .inl ⟨by decide, by decide⟩, _, _, rfl, rfl, _, 541, rfl, rfl, _, 5, rfl, rfl, ⟨by decide, by decide, draw_b1 a0 (by omega)⟩, _, 2147483629, rfl, rfl, (show (0 : Int) < 2147483629 by decide), ?_⟩
          refine ⟨_, rfl, .int a, rfl, a, 9, rfl, rfl, _, _, rfl, rfl, .inl (mod_b _ 2147483629 (by decide) (by decide)), .int a, rfl, 91033, a, rfl, rfl, .inl ⟨by decide, by decide⟩, .int a, rfl, _, a, rfl, rfl, .inl ⟨by omega, by omega⟩, _, _, rfl, rfl, _, 7, rfl, rfl, _, 3, rfl, rfl, ⟨by decide, by decide, draw_b3 _ a0 (by omega)⟩, _, 2147483549, rfl, rfl, (show (0 : Int) < 2147483549 by decide), ?_⟩
          refine ⟨_, rfl, _, rfl, _, 42013, rfl, rfl, (show (0 : Int) < 42013 by decide), _, 31981, rfl, rfl, .inr ⟨by decide, by decide⟩, _, _, rfl, rfl, _, 2147483423, rfl, rfl, (show (0 : Int) < 2147483423 by decide), _, 64, rfl, rfl, ⟨by decide, by decide⟩, .int m, rfl, _, m, rfl, rfl, m0, q _ _ (Int.emod_nonneg _ (by omega)) (Int.emod_lt_of_pos _ m0) k2 ⟨cells, a + 1, r, hp2, hc2, by omega, by omega, r0, cl⟩⟩
abbrev CDraw (P : Program) (w : World) (K : PySem.W.Frag) (mg : Str → Option Value) (base : Heap) : Prop := Ca P w K mg base 1 "_law_draw" ["_law_pen", "_law_many"] spDraw
abbrev s_law_worth : Stmt := topS 56
theorem sc_law_worth : FnScope ["_law_pen"] ["_law_pen"] (defScope s_law_worth) :=
  ⟨rfl, rfl, rfl, by decide +kernel, rfl, by decide +kernel, by decide +kernel⟩
def spWorth : Sp := fun vs H Q _ => ∃ (p c : Addr) (n : Nat), vs = [.ref p] ∧ Pen H p c n ∧ n + 3 < 1000000 ∧
  ∀ (i : Int) H', -99 ≤ i → i ≤ 99 → Kp p H H' → Pen H' p c (n + 4) → Q (.int i) H'
theorem ok_worth {f : Addr} {fd : FuncData} (F : Fun K "_law_worth" "_law_worth" s_law_worth f fd) (c_law_draw : CDraw P w K mg base) : FnOk P w K mg base CX0 2 f fd ["_law_pen"] spWorth := by
  refine F.ok sc_law_worth (fun vs H Q E h => ?_) (fun cdv A outer s H vs Q E hr h => ?_)
  · obtain ⟨p, c, n, rfl, _⟩ := h
    rfl
  · obtain ⟨p, c, n, rfl, hP, hn, q⟩ := h
    refine ⟨_, (pss_one (ps_ret (pe_ix (ixL K) (pe_lst (pa_cons pe_int (pa_cons pe_int (pa_cons (pe_un un_neg pe_int) (pa_cons pe_int (pa_cons (pe_op op_sub (pe_ca c_law_draw (hr.mono (by decide)) (by rfl) (pa_cons (pv 0) (pa_cons pe_int pa_nil))) pe_int) (pa_cons (pe_op op_sub (pe_ca c_law_draw (hr.mono (by decide)) (by rfl) (pa_cons (pv 0) (pa_cons pe_int pa_nil))) pe_int) (pa_cons (pe_op op_sub (pe_ca c_law_draw (hr.mono (by decide)) (by rfl) (pa_cons (pv 0) (pa_cons pe_int pa_nil))) pe_int) (pa_cons (pe_un un_neg pe_int) pa_nil))))))))) (pe_ca c_law_draw (hr.mono (by decide)) (by rfl) (pa_cons (pv 0) (pa_cons pe_int pa_nil))) (fun _ _ => rfl)))), ?_⟩
    refine ⟨1, rfl, _, rfl, p, c, 9, n, rfl, hP, by omega, by decide, by decide, fun r1 H1 r1a r1b k1 hP1 => ⟨r1, 4, rfl, rfl, ?_⟩⟩
    refine ⟨_, rfl, p, c, 9, n + 1, rfl, hP1, by omega, by decide, by decide, fun r2 H2 r2a r2b k2 hP2 => ⟨r2, 4, rfl, rfl, ?_⟩⟩
    refine ⟨_, rfl, p, c, 199, n + 2, rfl, hP2, by omega, by decide, by decide, fun r3 H3 r3a r3b k3 hP3 => ⟨r3, 99, rfl, rfl, 99, rfl, ?_⟩⟩
    refine ⟨szL (show 8 ≤ 1000000 by decide), fun l hl => ?_⟩
    refine ⟨_, rfl, p, c, 8, n + 3, rfl, hP3.new hl, by omega, by decide, by decide, fun r4 H4 r4a r4b k4 hP4 => ?_⟩
    obtain ⟨z, hz, hat⟩ := atI_ints (ns := [0, 0, -1, 1, r1 - 4, r2 - 4, r3 - 99, -99]) r4a r4b
    have hz2 : -99 ≤ z ∧ z ≤ 99 := by
      simp only [List.mem_cons, List.not_mem_nil, or_false] at hz
      omega
    exact ⟨l, _, r4, _, rfl, rfl, SqL.of (k4 _ _ (hP3.ne hl).1 upd_same), hat, q z _ hz2.1 hz2.2 (((k1.trans k2).trans k3).trans ((Kp.new hl).trans k4)) hP4⟩
abbrev CWorth (P : Program) (w : World) (K : PySem.W.Frag) (mg : Str → Option Value) (base : Heap) : Prop := Ca P w K mg base 2 "_law_worth" ["_law_pen"] spWorth
end
end Pf


namespace Pf
open PySem PySem.Spec PyProof.Rows L2
theorem sum_len_le {m : Nat} : ∀ {ys : List Str}, (∀ y ∈ ys, y.length ≤ m) → (ys.map (·.length)).sum ≤ ys.length * m
  | [], _ => Nat.zero_le _
  | y :: r, h => by
    have h1 := h y (List.mem_cons_self ..)
    have h2 := sum_len_le (ys := r) fun x hx => h x (List.mem_cons_of_mem _ hx)
    rw [List.map_cons, List.sum_cons, List.length_cons, Nat.succ_mul]
    omega
theorem fits_join {ys : List Str} {k m : Nat} (hk : ys.length ≤ k) (h : ∀ y ∈ ys, y.length ≤ m) (hm : k * m ≤ 1000000) : (ys.map (·.length)).sum + ys.length * ("" : Str).length ≤ 16777216 := by
  have h1 := sum_len_le h
  have h2 : ys.length * m ≤ k * m := Nat.mul_le_mul_right m hk
  have h3 : ("" : Str).length = 0 := by decide +kernel
  rw [h3, Nat.mul_zero]
  omega
def Of (L x : Str) : Prop := ∀ c ∈ x.cps.toList, c ∈ L.cps.toList
theorem Of.small {L x : Str} (h : Of L x) (hs : Small L) : Small x := fun c hc => hs c (h c hc)
theorem Of.app {L a b : Str} (ha : Of L a) (hb : Of L b) : Of L (a ++ b) := fun c h => by
  rw [Str.cps_append, Array.toList_append, List.mem_append] at h
  exact h.elim (ha c) (hb c)
theorem of_nil (L : Str) : Of L "" := by
  have : ("" : Str).cps.toList = [] := by decide +kernel
  intro c hc
  rw [this] at hc
  cases hc
theorem sjoin_of {L : Str} : ∀ {ys : List Str}, (∀ y ∈ ys, Of L y) → Of L (Str.join "" ys)
  | [], _ => of_nil L
  | [y], h => h y (List.mem_cons_self ..)
  | y :: z :: r, h => ((h y (List.mem_cons_self ..)).app (of_nil L)).app (sjoin_of (ys := z :: r) fun x hx => h x (List.mem_cons_of_mem _ hx))
theorem cutS_of {L x : Str} (h : Of L x) (lo hi : Option Int) : Of L (cutS x lo hi) := fun c hc => by
  unfold cutS at hc
  exact h c (List.mem_of_mem_drop (List.mem_of_mem_take hc))
theorem cutS_one (x : Str) : (cutS x none (some 1)).length ≤ 1 := by
  show (((x.cps.toList.drop (HT.sIx x.length 0 none)).take (HT.sIx x.length x.length (some 1) - HT.sIx x.length 0 none)).toArray).size ≤ 1
  rw [List.size_toArray, List.length_take]
  have : HT.sIx x.length x.length (some ((1 : Nat) : Int)) = min 1 x.length := HT.sIx_nat _ _ _
  have h2 : HT.sIx x.length x.length (some (1 : Int)) = min 1 x.length := this
  rw [h2]
  omega
section
variable {P : Program} {w : World} {K : PySem.W.Frag} {mg : Str → Option Value} {base : Heap}
abbrev s_law_letters : Stmt := topS 58
theorem sc_law_letters : FnScope ["_law_pen", "_law_book", "_law_most", "_law_size", "_law_found", "_law_k"] ["_law_pen", "_law_book", "_law_most"] (defScope s_law_letters) :=
  ⟨rfl, rfl, rfl, by decide +kernel, rfl, by decide +kernel, by decide +kernel⟩
def spLetters : Sp := fun vs H Q _ => ∃ (p c : Addr) (v : V) (r : Rl) (m : Int) (n : Nat), vs = [.ref p, v, .int m] ∧ RulesAt H v r ∧ RlOk r ∧ 0 ≤ m ∧ m ≤ 20 ∧ Pen H p c n ∧ n + 30 < 1000000 ∧
  ∀ (x : Str) H', (x.length : Int) ≤ m → Of r.letters x → Kp p H H' → Pen H' p c (n + 30) → Q (.str x) H'
theorem ok_letters {f : Addr} {fd : FuncData} (F : Fun K "_law_letters" "_law_letters" s_law_letters f fd) (c_law_draw : CDraw P w K mg base) (mrange : mg "range" = none) (mlen : mg "len" = none) (mmin : mg "min" = none) : FnOk P w K mg base CX0 2 f fd ["_law_pen", "_law_book", "_law_most"] spLetters := by
  refine F.ok sc_law_letters (fun vs H Q E h => ?_) (fun cdv A outer s H vs Q E hr h => ?_)
  · obtain ⟨p, c, v, r, m, n, rfl, _⟩ := h
    rfl
  · obtain ⟨p, c, v, r, m, n, rfl, ⟨a, vp, vl, vs, rfl, hA, hpp, hl, hs⟩, ok, m0, m1, hP, hn, q⟩ := h
    refine ⟨_, (pss_cons (ps_set (i := 3) sc_law_letters.nd rfl (.inl rfl) (pe_ix (ixL K) (pe_lst (pa_cons (pe_ca c_law_draw (hr.mono (by decide)) (by rfl) (pa_cons (pv 0) (pa_cons (pe_op op_add (pv 2) pe_int) pa_nil))) (pa_cons (pv 2) (pa_cons (pe_ca c_law_draw (hr.mono (by decide)) (by rfl) (pa_cons (pv 0) (pa_cons (pe_op op_add (pv 2) pe_int) pa_nil))) (pa_cons (pe_callB (call_min2 rfl) (by rfl) mmin (by decide +kernel) (pa_cons (pv 2) (pa_cons pe_int pa_nil))) pa_nil))))) (pe_ca c_law_draw (hr.mono (by decide)) (by rfl) (pa_cons (pv 0) (pa_cons pe_int pa_nil))) (fun _ _ => rfl)))
      (pss_cons (ps_set (i := 4) sc_law_letters.nd rfl (.inl rfl) (pe_join pe_str (pe_lc (own := [("_law_k", 5)]) (g := gName 5) (by rfl) sc_law_letters.nd (pi_range1 (by rfl) mrange (pa_cons (pv 3) pa_nil)) (blkOk_by (own := [("_law_k", 5)]) (N := ["_law_pen", "_law_book", "_law_most", "_law_size", "_law_found", "_law_k"]) (sc := defScope s_law_letters) (by decide +kernel)) (fun _ _ _ _ _ => (pg_name (i := 5) sc_law_letters.nd rfl (.inl rfl))) (fun _ _ _ _ _ => pts_nil) (fun _ _ _ _ _ => (pe_ix ix_str (pe_ix (ixT K) (pv 1) pe_int (fun _ _ => rfl)) (pe_ca c_law_draw (hr.mono (by decide)) (by rfl) (pa_cons (pv 0) (pa_cons (pe_callB call_len_str (by rfl) mlen (by decide +kernel) (pa_cons (pe_ix (ixT K) (pv 1) pe_int (fun _ _ => rfl)) pa_nil)) pa_nil))) (fun _ _ => rfl))))))
      (pss_cons (ps_if (pt_cmpR op_eq (pe_ca c_law_draw (hr.mono (by decide)) (by rfl) (pa_cons (pv 0) (pa_cons pe_int pa_nil))) pe_int (nomark _)) (pss_one (ps_ret (pe_op op_repS (pe_slice sl_str (pv 4) po_none (po_some pe_int)) (pv 3)))) pss_nil)
      (pss_one (ps_ret (pv 4)))))), ?_⟩
    have hl6 := ok.let6
    have hl1 := ok.let1
    refine ⟨_, rfl, _, rfl, m, 1, rfl, rfl, p, c, m + 1, n, rfl, hP, by omega, by omega, by omega, fun r1 H1 r1a r1b k1 hP1 => ?_⟩
    refine ⟨_, rfl, _, rfl, _, rfl, m, 1, rfl, rfl, p, c, m + 1, n + 1, rfl, hP1, by omega, by omega, by omega, fun r2 H2 r2a r2b k2 hP2 => ?_⟩
    refine ⟨_, rfl, m, 4, rfl, szL (show 4 ≤ 1000000 by decide), fun d hd => ?_⟩
    refine ⟨_, rfl, p, c, 4, n + 2, rfl, hP2.new hd, by omega, by decide, by decide, fun r3 H3 r3a r3b k3 hP3 => ?_⟩
    obtain ⟨sz, hsz, hat⟩ := atI_ints (ns := [r1, m, r2, if 4 < m then 4 else m]) r3a r3b
    have hsz2 : 0 ≤ sz ∧ sz ≤ m := by
      simp only [List.mem_cons, List.not_mem_nil, or_false] at hsz
      rcases hsz with rfl | rfl | rfl | rfl
      · omega
      · omega
      · omega
      · split <;> omega
    refine ⟨d, _, r3, _, rfl, rfl, SqL.of (k3 _ _ (hP2.ne hd).1 upd_same), hat, ?_⟩
    have kp3 : Kp p H H3 := ((k1.trans k2).trans (Kp.new hd)).trans k3
    have hA3 := kp3 _ _ (hP.tup hA) hA
    refine ⟨⟨_, rfl⟩, _, rfl, sz, rfl, by omega, by omega, fun D hD => lc_range (lo := 0) (n := sz.toNat) (fun i H4 => ∃ ys : List Str, ys.length = i ∧ (∀ y ∈ ys, y.length = 1 ∧ Of r.letters y) ∧ H4 D = some (.lst (ys.map V.str)) ∧ Kp p H3 H4 ∧ Pen H4 p c (n + 4 + i)) ⟨[], rfl, (fun y h => by cases h), upd_same, Kp.new hD, (hP3.new hD).mono (by omega)⟩ (fun i H4 hi hv => ?_) (fun H4 hv => ?_)⟩
    · obtain ⟨ys, hyl, hyo, hL4, k4, hP4⟩ := hv
      have hA4 := k4 _ _ (hP3.tup hA3) hA3
      refine ⟨rfl, _, rfl, a, _, 0, _, rfl, rfl, SqT.of hA4, rfl, _, rfl, _, rfl, a, _, 0, _, rfl, rfl, SqT.of hA4, rfl, r.letters, rfl, szL (by omega), p, c, (r.letters.length : Int), _, rfl, hP4, by omega, by omega, by omega, fun r5 H5 r5a r5b k5 hP5 => ?_⟩
      obtain ⟨ch, hch, hat5⟩ := atI_mem (xs := r.letters.cps.toList) r5a (by rw [Array.length_toList]; exact r5b)
      have nD := hP3.ne hD
      refine ⟨r.letters, r5, ch, rfl, rfl, szL (by omega), hat5, _, k5 _ _ nD.1 hL4, szLt ?_, ys ++ [⟨#[ch]⟩], ?_, fun y hy => ?_, ?_, (k4.trans k5).put hD, (hP5.put nD.1 nD.2)⟩
      · rw [List.length_map]
        omega
      · rw [List.length_append, List.length_singleton]
        omega
      · rcases List.mem_append.mp hy with hy | hy
        · exact hyo y hy
        · rw [List.mem_singleton.mp hy]
          refine ⟨rfl, fun c hc => ?_⟩
          have : c = ch := by simpa using hc
          rw [this]
          exact hch
      · rw [upd_same, List.map_append]
        rfl
    obtain ⟨ys, hyl, hyo, hL4, k4, hP4⟩ := hv
    refine ⟨"", D, ys, rfl, rfl, .inl (SqL.of hL4), fits_join (k := 20) (m := 1) (by omega) (fun y hy => Nat.le_of_eq (hyo y hy).1) (by decide), ?_⟩
    rw [join_str]
    have hj1 := sjoin_le (m := 1) fun y hy => Nat.le_of_eq (hyo y hy).1
    have hj2 := sjoin_of (L := r.letters) fun y hy => (hyo y hy).2
    refine ⟨_, rfl, p, c, 4, _, rfl, hP4, by omega, by decide, by decide, fun r6 H6 r6a r6b k6 hP6 => ⟨rfl, _, rfl, ite2 (fun e => ?_) (fun e => ?_)⟩⟩
    · have c1 := cutS_one (Str.join "" ys)
      refine ⟨_, rfl, 1, rfl, Str.join "" ys, rfl, szL (by omega), _, rfl, _, sz, rfl, rfl, hsz2.1, by omega, by omega, fun y hy hc => q y _ ?_ (fun c h => cutS_of hj2 _ _ c (hc c h)) ((kp3.trans k4).trans k6) (hP6.mono (by omega))⟩
      have : (cutS (Str.join "" ys) none (some 1)).length * sz.toNat ≤ 1 * sz.toNat := Nat.mul_le_mul_right _ c1
      omega
    · exact ⟨_, rfl, q _ _ (by omega) hj2 ((kp3.trans k4).trans k6) (hP6.mono (by omega))⟩
abbrev CLetters (P : Program) (w : World) (K : PySem.W.Frag) (mg : Str → Option Value) (base : Heap) : Prop := Ca P w K mg base 2 "_law_letters" ["_law_pen", "_law_book", "_law_most"] spLetters
end
end Pf


namespace Pf
open PySem PySem.Spec PyProof.Rows L2
/-! ### dict(zip(a, b)) of two tuples -/
section
variable {P : Program} {w : World} {A : Around} {E : Value → Shared → Prop} {s : Shared} {q U O G j1 j2 m1 m2 : Addr} {f : Bool} {og : Obj} {k1 k2 : Nat} {us vs : Array Value}
theorem zn_item {u v : Value} {R : Value → Shared → Prop} (D : ZipApart q U O j1 j2 m1 m2) (hq : IsZipHeld s.heap q U O G f) (hG : s.heap.get? G = some og) (hU : IsPair s.heap U (.ref j1) (.ref j2)) (t1 : s.heap.IsTupleIter j1 m1 k1) (t2 : s.heap.IsTupleIter j2 m2 k2) (b1 : s.heap.IsTuple m1 us) (b2 : s.heap.IsTuple m2 vs) (eu : us[k1]? = some u) (ev : vs[k2]? = some v)
    (next : ∀ h', IsZipHeld h' q U O G true → h'.IsTupleIter j1 m1 (k1 + 1) → h'.IsTupleIter j2 m2 (k2 + 1) → IsPair h' s.heap.objs.size u v → (∀ c o, c ≠ q → c ≠ j1 → c ≠ j2 → s.heap.get? c = some o → h'.get? c = some o) → R (.ref s.heap.objs.size) { s with heap := h' }) :
    wpAny (model P w) A (Builtin.«zip.__next__» ⟨[.ref q], []⟩) (fun fin s' => ∃ v, fin = .done (.ret v) ∧ R v s') E s := by
  show wpAny _ _ (field (.ref q) 2 >>= _) _ _ _
  refine wpAny_bind (wpAny_field hq rfl (x := .bool false) rfl ?_)
  show wpAny _ _ (field (.ref q) 3 >>= _) _ _ _
  refine wpAny_bind (wpAny_field hq rfl (x := .ref U) rfl (wpAny_bind (wpAny_seqItems hU rfl ?_)))
  show wpAny _ _ (Builtin.SmallTypes.ownedTupleIsFree (.ref q) >>= _) _ _ _
  refine wpAny_bind (wpAny_tupleHeld_zip hq hG fun g1 q1 e1 => ?_)
  simp only [Bool.false_eq_true, if_false]; refine wpAny_bind ?_; rw [← Array.forIn_toList]; simp only [List.forIn_cons, List.forIn_nil]
  refine wpAny_bind (wpAny_bind (wpAny_holding ?_))
  show wpAny _ _ (Builtin.SmallTypes.nextOf (.ref j1) >>= _) _ _ _
  refine wpAny_bind (RZ.nextOf_tuple_item (s := { s with heap := g1 }) (t1.extBut e1.extBut D.i1z) (b1.extBut e1.extBut D.l1z) eu fun g2 t1b e2 => wpAny_pure (wpAny_pure ?_))
  refine wpAny_bind (wpAny_bind (wpAny_holding ?_))
  show wpAny _ _ (Builtin.SmallTypes.nextOf (.ref j2) >>= _) _ _ _
  refine wpAny_bind (RZ.nextOf_tuple_item (s := { s with heap := g2 }) ((t2.extBut e1.extBut D.i2z).extBut e2.extBut D.i12.symm) ((b2.extBut e1.extBut D.l2z).extBut e2.extBut D.l2i1) ev fun g3 t2b e3 => wpAny_pure (wpAny_pure (wpAny_pure ?_)))
  show wpAny _ _ (newTuple [u, v] >>= _) _ _ _
  refine wpAny_bind (wpAny_newTuple (wpAny_pure ⟨_, rfl, ?_⟩))
  have sz : g3.objs.size = s.heap.objs.size := by rw [e3.1, e2.1, e1.1]
  have q3 : IsZipHeld g3 q U O G true := e3.extBut _ _ D.i2z.symm (e2.extBut _ _ D.i1z.symm q1)
  have pr : IsPair (g3.push { cls := .type "tuple", data := .seq #[u, v] }) g3.objs.size u v := Heap.get?_push_size _ rfl
  show R (.ref g3.objs.size) _
  rw [sz] at pr ⊢
  exact next _ (Heap.get?_push_of_some _ q3) ((t1b.extBut e3.extBut D.i12).at fun o e => Heap.get?_push_of_some _ e) (t2b.at fun o e => Heap.get?_push_of_some _ e) pr fun c o c1 c2 c3 e => Heap.get?_push_of_some _ (e3.extBut _ _ c3 (e2.extBut _ _ c2 (e1.extBut _ _ c1 e)))
theorem zn_end {R : Fin → Shared → Prop} (hh : A.handled = none) (D : ZipApart q U O j1 j2 m1 m2) (hq : IsZipHeld s.heap q U O G f) (hG : s.heap.get? G = some og) (hU : IsPair s.heap U (.ref j1) (.ref j2)) (t1 : s.heap.IsTupleIter j1 m1 k1) (b1 : s.heap.IsTuple m1 us) (eu : us[k1]? = none)
    (next : ∀ h' e, (∀ c o, c ≠ q → c ≠ j1 → s.heap.get? c = some o → h'.get? c = some o) → (∃ o, h'.get? e = some o ∧ o.cls = .type "StopIteration") → E (.ref e) { s with heap := h' }) :
    wpAny (model P w) A (Builtin.«zip.__next__» ⟨[.ref q], []⟩) R E s := by
  show wpAny _ _ (field (.ref q) 2 >>= _) _ _ _
  refine wpAny_bind (wpAny_field hq rfl (x := .bool false) rfl ?_)
  show wpAny _ _ (field (.ref q) 3 >>= _) _ _ _
  refine wpAny_bind (wpAny_field hq rfl (x := .ref U) rfl (wpAny_bind (wpAny_seqItems hU rfl ?_)))
  show wpAny _ _ (Builtin.SmallTypes.ownedTupleIsFree (.ref q) >>= _) _ _ _
  refine wpAny_bind (wpAny_tupleHeld_zip hq hG fun g1 q1 e1 => ?_)
  simp only [Bool.false_eq_true, if_false]; refine wpAny_bind ?_; rw [← Array.forIn_toList]; simp only [List.forIn_cons, List.forIn_nil]
  refine wpAny_bind (wpAny_bind (wpAny_holding ?_))
  show wpAny _ _ (Builtin.SmallTypes.nextOf (.ref j1) >>= _) _ _ _
  exact wpAny_bind (RZ.nextOf_tuple_end (s := { s with heap := g1 }) hh (t1.extBut e1.extBut D.i1z) (b1.extBut e1.extBut D.l1z) eu fun g2 e e2 he => next g2 e (fun c o c1 c2 x => e2 _ _ c2 (e1.extBut _ _ c1 x)) he)
theorem zp_item {u v : Value} {R : Option Value → Shared → Prop} (D : ZipApart q U O j1 j2 m1 m2) (hq : IsZipHeld s.heap q U O G f) (hG : s.heap.get? G = some og) (hU : IsPair s.heap U (.ref j1) (.ref j2)) (t1 : s.heap.IsTupleIter j1 m1 k1) (t2 : s.heap.IsTupleIter j2 m2 k2) (b1 : s.heap.IsTuple m1 us) (b2 : s.heap.IsTuple m2 vs) (eu : us[k1]? = some u) (ev : vs[k2]? = some v)
    (next : ∀ h', IsZipHeld h' q U O G true → h'.IsTupleIter j1 m1 (k1 + 1) → h'.IsTupleIter j2 m2 (k2 + 1) → IsPair h' s.heap.objs.size u v → (∀ c o, c ≠ q → c ≠ j1 → c ≠ j2 → s.heap.get? c = some o → h'.get? c = some o) → R (some (.ref s.heap.objs.size)) { s with heap := h' }) :
    wpAny (model P w) A (pyNext (.ref q)) R E s := by
  have ty : s.TypeIs (.ref q) "zip" := ⟨_, hq, rfl⟩
  unfold pyNext
  exact wpAny_bind (wpAny_attempt (wpAny_callSpecial?_slot (name := Str.ofString "__next__") ty F.slot_zip_next (wpAny_call_entry F.slot_zip_next ty F.entry_zip_next (zn_item D hq hG hU t1 t2 b1 b2 eu ev fun h' a1 a3 a4 a5 a7 => wpAny_pure (next h' a1 a3 a4 a5 a7)) (F.args_zip_next_1 _))))
theorem zp_end {R : Option Value → Shared → Prop} (hh : A.handled = none) (D : ZipApart q U O j1 j2 m1 m2) (hq : IsZipHeld s.heap q U O G f) (hG : s.heap.get? G = some og) (hU : IsPair s.heap U (.ref j1) (.ref j2)) (t1 : s.heap.IsTupleIter j1 m1 k1) (b1 : s.heap.IsTuple m1 us) (eu : us[k1]? = none)
    (next : ∀ h', (∀ c o, c ≠ q → c ≠ j1 → s.heap.get? c = some o → h'.get? c = some o) → R none { s with heap := h' }) : wpAny (model P w) A (pyNext (.ref q)) R E s := by
  have ty : s.TypeIs (.ref q) "zip" := ⟨_, hq, rfl⟩
  unfold pyNext
  refine wpAny_bind (wpAny_attempt (wpAny_callSpecial?_slot (name := Str.ofString "__next__") ty F.slot_zip_next (wpAny_call_entry F.slot_zip_next ty F.entry_zip_next (zn_end hh D hq hG hU t1 b1 eu fun h' e kp ⟨o, ho, hc⟩ => ?_) (F.args_zip_next_1 _))))
  exact wpAny_bind (wpAny_isInstance (T := "StopIteration") (b := true) ⟨o, ho, hc⟩ isSubtype_stop (wpAny_pure (next _ kp)))
end
theorem zipT_arg {P : Program} {w : World} (q U O j1 j2 m1 m2 : Addr) (D : ZipApart q U O j1 j2 m1 m2) (us vs : Array Value) (hl : us.size = vs.size) :
    PairArg P w "zip" q [q, U, O, j1, j2, m1, m2] [q, O, j1, j2] us.size (fun i k v => us[i]? = some k ∧ vs[i]? = some v)
      (fun h => IsZip h q U O .none ∧ IsPair h U (.ref j1) (.ref j2) ∧ (∃ a b, IsPair h O a b) ∧ h.IsTupleIter j1 m1 0 ∧ h.IsTupleIter j2 m2 0 ∧ h.IsTuple m1 us ∧ h.IsTuple m2 vs) where
  type := fun s ok => ⟨_, ok.1, rfl⟩
  notDict := by decide
  keep := fun h h' ⟨z0, z1, ⟨a, b, z2⟩, z3, z4, z5, z6⟩ k => ⟨k _ _ z0, k _ _ z1, ⟨a, b, k _ _ z2⟩, z3.at fun o e => k _ o e, z4.at fun o e => k _ o e, z5.at fun o e => k _ o e, z6.at fun o e => k _ o e⟩
  there := fun h ⟨z0, z1, ⟨a, b, z2⟩, ⟨_, z3, _⟩, ⟨_, z4, _⟩, ⟨_, z5, _⟩, ⟨_, z6, _⟩⟩ c hc => by
    simp only [List.mem_cons, List.not_mem_nil, or_false] at hc
    rcases hc with rfl | rfl | rfl | rfl | rfl | rfl | rfl
    · exact ⟨_, z0⟩
    · exact ⟨_, z1⟩
    · exact ⟨_, z2⟩
    · exact ⟨_, z3⟩
    · exact ⟨_, z4⟩
    · exact ⟨_, z5⟩
    · exact ⟨_, z6⟩
  sub := fun b hb => by simp only [List.mem_cons, List.not_mem_nil, or_false] at hb ⊢; rcases hb with rfl | rfl | rfl | rfl <;> simp
  noKeys := fun A s Q E hA ok h => getAttrOr_miss_zip ok.1 rfl rfl rfl zip_no_keys (by decide +kernel) hA h
  iter := fun A s d Q E hA ⟨z0, z1, ⟨a, b, z2⟩, z3, z4, z5, z6⟩ hd hdf h => by
    simp only [List.mem_cons, List.not_mem_nil, or_false, not_or] at hdf
    obtain ⟨d0, d1, d2, d3, d4, d5, d6⟩ := hdf
    refine wpAny_pyIter_zip z0 (h q [q, O, j1, j2] (fun i h => IsPair h U (.ref j1) (.ref j2) ∧ h.IsTupleIter j1 m1 i ∧ h.IsTupleIter j2 m2 i ∧ h.IsTuple m1 us ∧ h.IsTuple m2 vs ∧ ((IsZip h q U O .none ∧ ∃ a b, IsPair h O a b) ∨ ∃ G f og, IsZipHeld h q U O G f ∧ h.get? G = some og ∧ G ≠ q ∧ G ≠ j1 ∧ G ≠ j2 ∧ G ≠ d)) s.heap s.toks ?_ ⟨z1, z3, z4, z5, z6, .inl ⟨z0, a, b, z2⟩⟩ (fun _ _ e => e) fun b hb => .inl hb)
    refine { off := fun hm => ?_, frame := fun i g1 g2 st k => ?_, item := fun i s1 Q1 E1 hi st hds next => ?_, done := fun s1 Q1 E1 st next => ?_ }
    · simp only [List.mem_cons, List.not_mem_nil, or_false] at hm
      rcases hm with e | e | e | e
      · exact d0 e
      · exact d2 e
      · exact d3 e
      · exact d4 e
    · obtain ⟨y1, y3, y4, y5, y6, y⟩ := st
      refine ⟨k _ _ (Ne.symm d1) y1, y3.at fun o e => k _ o (Ne.symm d3) e, y4.at fun o e => k _ o (Ne.symm d4) e, y5.at fun o e => k _ o (Ne.symm d5) e, y6.at fun o e => k _ o (Ne.symm d6) e, ?_⟩
      rcases y with ⟨y0, a, b, y2⟩ | ⟨G, f, og, y0, yG, r1, r2, r3, r4⟩
      · exact .inl ⟨k _ _ (Ne.symm d0) y0, a, b, k _ _ (Ne.symm d2) y2⟩
      · exact .inr ⟨G, f, og, k _ _ (Ne.symm d0) y0, k _ _ r4 yG, r1, r2, r3, r4⟩
    · obtain ⟨y1, y3, y4, y5, y6, y⟩ := st
      have eu := Array.getElem?_eq_getElem hi
      have ev := Array.getElem?_eq_getElem (hl ▸ hi : i < vs.size)
      have lt : ∀ {c o}, s1.heap.get? c = some o → s1.heap.objs.size ≠ c := fun e => Nat.ne_of_gt (Heap.lt_size e)
      have n1 : s1.heap.objs.size ≠ j1 := let ⟨_, e, _⟩ := y3; lt e
      have n2 : s1.heap.objs.size ≠ j2 := let ⟨_, e, _⟩ := y4; lt e
      rcases y with ⟨y0, a, b, y2⟩ | ⟨G, f, og, y0, yG, r1, r2, r3, r4⟩
      · refine RZ.pyNext_zipT_item D y0 y1 y2 y3 y4 y5 y6 eu ev fun h' a1 a2 a3 a4 a5 a6 k => ?_
        refine next s1.heap.objs.size _ _ h' s1.toks ⟨eu, ev⟩ (.inl ⟨_, a5, rfl, _, rfl⟩) ⟨k _ _ D.TIz D.TITO D.TIi1 D.TIi2 y1, a3, a4, y5.at fun o e => k _ o D.l1z D.l1TO D.l1i1 D.l1i2 e, y6.at fun o e => k _ o D.l2z D.l2TO D.l2i1 D.l2i2 e, .inr ⟨s1.heap.objs.size, false, _, a1, a5, lt y0, n1, n2, Nat.ne_of_gt hds⟩⟩ fun c o hc e => ?_
        simp only [List.mem_cons, List.not_mem_nil, or_false, not_or] at hc
        exact k c o hc.1 hc.2.1 hc.2.2.1 hc.2.2.2 e
      · refine zp_item D y0 yG y1 y3 y4 y5 y6 eu ev fun h' a1 a3 a4 a5 k => ?_
        refine next s1.heap.objs.size _ _ h' s1.toks ⟨eu, ev⟩ (.inl ⟨_, a5, rfl, _, rfl⟩) ⟨k _ _ D.TIz D.TIi1 D.TIi2 y1, a3, a4, y5.at fun o e => k _ o D.l1z D.l1i1 D.l1i2 e, y6.at fun o e => k _ o D.l2z D.l2i1 D.l2i2 e, .inr ⟨G, true, og, a1, k _ _ r1 r2 r3 yG, r1, r2, r3, r4⟩⟩ fun c o hc e => ?_
        simp only [List.mem_cons, List.not_mem_nil, or_false, not_or] at hc
        exact k c o hc.1 hc.2.2.1 hc.2.2.2 e
    · obtain ⟨y1, y3, y4, y5, y6, y⟩ := st
      have eu : us[us.size]? = none := Array.getElem?_eq_none (Nat.le_refl _)
      rcases y with ⟨y0, a, b, y2⟩ | ⟨G, f, og, y0, yG, r1, r2, r3, r4⟩
      · refine RZ.pyNext_zipT_end hA D y0 y1 y2 y3 y4 y5 y6 (.inl eu) fun h' k => next h' s1.toks fun c o hc e => ?_
        simp only [List.mem_cons, List.not_mem_nil, or_false, not_or] at hc
        exact k c o hc.1 hc.2.1 hc.2.2.1 hc.2.2.2 e
      · refine zp_end hA D y0 yG y1 y3 y5 eu fun h' k => next h' s1.toks fun c o hc e => ?_
        simp only [List.mem_cons, List.not_mem_nil, or_false, not_or] at hc
        exact k c o hc.1 hc.2.2.1 e
theorem kv_zip {P : Program} {w : World} : ∀ {kvs : List (Key × V)} {its its2 : List Value}, Vals (kvs.map fun x => kV x.1) its → Vals (kvs.map (·.2)) its2 → ∃ prs : List (Key × Value), KV kvs prs ∧ prs.length = kvs.length ∧ ∀ (i : Nat) (key v : Value), its[i]? = some key → its2[i]? = some v → ∃ k, prs[i]? = some (k, v) ∧ (mixKind P w).is k key = true
  | [], _, _, r1, r2 => ⟨[], .nil, rfl, fun i key v e _ => by
      cases r1
      cases e⟩
  | (k, y) :: rest, _, _, r1, r2 => by
    rw [List.map_cons] at r1 r2
    cases r1 with
    | cons a1 t1 =>
      cases r2 with
      | cons a2 t2 =>
        obtain ⟨prs, r, hl, hp⟩ := kv_zip (P := P) (w := w) t1 t2
        refine ⟨(k, _) :: prs, .cons ⟨rfl, a2⟩ r, by rw [List.length_cons, List.length_cons, hl], fun i key v e e2 => ?_⟩
        cases i with
        | zero =>
          rw [List.getElem?_cons_zero] at e e2
          cases e
          cases e2
          exact ⟨k, rfl, kV_is a1⟩
        | succ i =>
          rw [List.getElem?_cons_succ] at e e2
          exact hp i key v e e2
def tDz (K : PySem.W.Frag) (ta : TA) : TE := fun σ H Q => ta σ H fun vs H1 => ∃ (a b : Addr) (kvs : List (Key × V)), vs = [.ref a, .ref b] ∧ SqT K H1 a (kvs.map fun x => kV x.1) ∧ SqT K H1 b (kvs.map (·.2)) ∧ ∀ p, H1 p = none → Q (.ref p) (upd H1 p (.dK (mergeK [] kvs)))
theorem pe_dictZip {X : Cx} {e e2 : Expr} {ta : TA} {p p2 pos pos2 : Pos} (hgd : Gl X "dict") (hmd : X.mg "dict" = none) (hg : Gl X "zip") (hm : X.mg "zip" = none) (hcalm : X.calm = true) (ha : PA X [e, e2] ta)
    (na : starEach [.Call (.Name "zip" p2) [e, e2] [] pos2] X.env = (false, eval (.Call (.Name "zip" p2) [e, e2] [] pos2) X.env) :: starEach [] X.env := by rfl)
    (hs : starEach [e, e2] X.env = (false, eval e X.env) :: starEach [e2] X.env := by rfl) (hpl : (backTo pos2 (starEach [e2] X.env)).any (·.1) = false := by rfl) :
    PE X (.Call (.Name "dict" p) [.Call (.Name "zip" p2) [e, e2] [] pos2] [] pos) (tDz X.K ta) := by
  refine ⟨fun pins s σ H Q I h => ?_⟩
  refine Call_ (ld_blt I hgd hmd PyProof.Rows.boot_dict (PyProof.Rows.callWith_type1 (args_cons (Call_ (ld_blt I hg hm PyProof.Rows.boot_zip (PyProof.Rows.callWith_type1 (thn (ha.run pos2 pins s σ H _ I h) fun us s1 ⟨vs, H1, I1, r1, q1⟩ => ?_) hs hpl))) na) na))
  obtain ⟨a, b, kvs, rfl, ha1, hb1, q⟩ := q1
  cases r1 with
  | cons ra rr =>
    cases rr with
    | cons rb rr =>
      cases rr
      cases ra
      cases rb
      obtain ⟨its, v1, p1, hz1⟩ := I1.tuple ha1
      obtain ⟨its2, v2, p2', hz2⟩ := I1.tuple hb1
      obtain ⟨o1, ho1, y1⟩ := id p1
      obtain ⟨o2, ho2, y2⟩ := id p2'
      obtain ⟨prs, rel, hl, hp⟩ := kv_zip (P := X.prog) (w := X.w) v1 v2
      have l1 : its.length = kvs.length := by
        have := v1.length
        rw [List.length_map] at this
        exact this.symm
      have l2 : its2.length = kvs.length := by
        have := v2.length
        rw [List.length_map] at this
        exact this.symm
      rw [List.length_map] at hz1
      refine RZ.call_zipT (show s1.heap.IsTuple a its.toArray from p1) (show s1.heap.IsTuple b its2.toArray from p2') fun h' hz hTI hTO t1 t2 hsz hk => args_nil ?_
      have D := PySem.W.ktu_apart s1.heap.objs.size a b (Heap.lt_size ho1) (Heap.lt_size ho2)
      refine PySem.call_dict_pairs (knd := mixKind X.prog X.w) (kvs := prs) (zipT_arg _ _ _ _ _ a b D its.toArray its2.toArray (by rw [List.size_toArray, List.size_toArray, l1, l2])) (I1.ok.hd hcalm) ⟨hz, hTI, ⟨_, _, hTO⟩, t1, t2, ⟨o1, hk _ _ ho1, y1⟩, ⟨o2, hk _ _ ho2, y2⟩⟩ ⟨?_, fun i key v e => ?_⟩ ?_ fun h2 tk hd hk2 => ?_
      · rw [hl, List.size_toArray, l1]
      · exact hp i key v (by simpa using e.1) (by simpa using e.2)
      · rw [List.size_toArray, l1]
        exact hz1
      · have keep : ∀ c o, s1.heap.get? c = some o → h2.get? c = some o := fun c o e => by
          have hlt := Heap.lt_size e
          refine hk2 c o (fun hm => ?_) (hk c o e)
          simp only [List.mem_cons, List.not_mem_nil, or_false] at hm
          rcases hm with z | z | z | z
          · exact Nat.not_lt.mpr (Nat.le_add_right _ _) (z ▸ hlt)
          · exact Nat.not_lt.mpr (Nat.le_add_right _ _) (z ▸ hlt)
          · exact Nat.not_lt.mpr (Nat.le_refl _) (z ▸ hlt)
          · exact Nat.not_lt.mpr (Nat.le_add_right _ _) (z ▸ hlt)
        have hle : s1.heap.objs.size ≤ h'.objs.size := by
          rw [hsz]
          exact Nat.le_add_right _ _
        have hm : (h'.objs.size == sysModules) = false := beq_eq_false_iff_ne.mpr (Nat.ne_of_gt (Nat.lt_of_lt_of_le I1.big hle))
        have hlen : (mergeK [] kvs).length ≤ sizeLine := by
          refine Nat.le_trans (length_mergeK kvs []) ?_
          rw [List.length_nil, Nat.zero_add]
          exact hz1
        exact ⟨.ref h'.objs.size, upd H1 h'.objs.size (.dK (mergeK [] kvs)), I1.laid (t' := tk) keep hle (show ObjOk X.prog X.w _ _ _ (.dK (mergeK [] kvs)) from ⟨hlen, hm, merged [] prs, KV.merge rel .nil, hd⟩), rfl, q _ (I1.hok.fresh hle)⟩
end Pf


namespace Pf
open PySem PySem.Spec PyProof.Rows L2
/-! ### sum(lists, start) -/
abbrev LiO (its : List Value) (n : Nat) : Obj := { cls := .type "list", dict := none, data := .seq its.toArray n, slots := #[] }
section
variable {P : Program} {w : World} {A : Around} {R : Result → Shared → Prop} {I l S : Addr} {items : Array Value}
theorem suml_loop (hh : A.in1.handled = none) (nIS : I ≠ S) (nIl : l ≠ I) (nSl : l ≠ S) : ∀ (rest : List (Addr × List Value)) (i : Nat) (s : Shared) (t : Addr) (acc : List Value) (c1 ct : Nat), items.size = i + rest.length → s.heap.IsListIter I l i → s.heap.IsList l items →
    (∀ (j : Nat) (x : Addr × List Value), rest[j]? = some x → items[i + j]? = some (.ref x.1) ∧ x.1 ≠ I ∧ x.1 ≠ S ∧ ∃ c, s.heap.get? x.1 = some (LiO x.2 c)) → s.heap.get? S = some (LiO [.ref t] c1) → s.heap.get? t = some (LiO acc ct) → t ≠ I → t ≠ S →
    acc.length + (rest.map (·.2)).flatten.length ≤ sizeLine →
    (∀ h' tk t' c', h'.get? t' = some (LiO (acc ++ (rest.map (·.2)).flatten) c') → (rest = [] → t' = t) → (rest ≠ [] → s.heap.objs.size ≤ t') → (∀ b o, b ≠ I → b ≠ S → s.heap.get? b = some o → h'.get? b = some o) → R (.ok (.ret (.ref t'))) { s with heap := h', toks := tk }) →
    codeAny (model P w) A (.builtin "sum.loop" ⟨[.ref I, .ref S, rawInt 2, rawInt 0], []⟩) R s
  | [], i, s, t, acc, c1, ct, hn, it, hl, _, hS, ht, _, _, _, hR => by
    refine codeAny_builtin F.entry_sum_loop ?_; rw [Around.under_plainId F.plain_sum_loop _]
    show wpAny _ A.in1 (seqItems? (.ref S) >>= _) _ _ _
    refine wpAny_bind (wpAny_seqItems hS rfl ?_)
    show wpAny _ A.in1 (tryCatch (pyNext (.ref I)) _ >>= _) _ _ _
    refine wpAny_bind (wpAny_tryCatch (wpAny_pyNext_list_end hh it hl (Array.getElem?_eq_none (by rw [hn]; exact Nat.le_refl _)) fun h' he => ?_))
    exact wpAny_pure (hR h' s.toks t ct (by rw [List.map_nil, List.flatten_nil, List.append_nil]; exact he t _ (by assumption) ht) (fun _ => rfl) (fun z => absurd rfl z) fun b o n1 _ e => he b o n1 e)
  | (b, ys) :: rest, i, s, t, acc, c1, ct, hn, it, hl, hx, hS, ht, ntI, ntS, hz, hR => by
    obtain ⟨e0, nbI, nbS, cb, hb⟩ := hx 0 (b, ys) rfl
    rw [List.map_cons, List.flatten_cons] at hR
    rw [List.map_cons, List.flatten_cons, List.length_append] at hz
    have hz : acc.length + (ys.length + (rest.map (·.2)).flatten.length) ≤ sizeLine := hz
    refine codeAny_builtin F.entry_sum_loop ?_; rw [Around.under_plainId F.plain_sum_loop _]
    show wpAny _ A.in1 (seqItems? (.ref S) >>= _) _ _ _
    refine wpAny_bind (wpAny_seqItems hS rfl ?_)
    show wpAny _ A.in1 (tryCatch (pyNext (.ref I)) _ >>= _) _ _ _
    refine wpAny_bind (wpAny_tryCatch (wpAny_pyNext_list_item it hl e0 fun h1 it1 s1 => ?_))
    have hS1 := s1.extBut _ _ nIS.symm hS
    have ht1 := s1.extBut _ _ ntI ht
    have hb1 := s1.extBut _ _ nbI hb
    show wpAny _ A.in1 ((holding [Value.ref b] (binaryOp .Add (.ref t) (.ref b))).attempt >>= _) _ _ _
    refine wpAny_bind (wpAny_attempt (wpAny_holding (PySem.P.add_list (n := ct) (n2 := cb) ht1 hb1 ?_ (by rw [List.size_toArray, List.size_toArray]; show acc.length + ys.length ≤ _; omega))))
    have ea : acc.toArray ++ ys.toArray = (acc ++ ys).toArray := by simp
    rw [ea]
    have sz1 : h1.objs.size = s.heap.objs.size := s1.1
    generalize hh2 : h1.push { cls := Value.type "list", data := Data.seq (acc ++ ys).toArray } = h2
    have up2 : ∀ c o, h1.get? c = some o → h2.get? c = some o := fun c o e => hh2 ▸ Heap.get?_push_of_some _ e
    have new2 : h2.get? h1.objs.size = some (LiO (acc ++ ys) 0) := hh2 ▸ Heap.get?_push_size _ rfl
    have sz2 : h2.objs.size = h1.objs.size + 1 := hh2 ▸ Heap.size_push ..
    have ltS : S < h1.objs.size := Heap.lt_size hS1
    have ltI : I < h1.objs.size := by
      obtain ⟨_, e, _⟩ := it1
      exact Heap.lt_size e
    show wpAny _ A.in1 (updateSeq S (fun _ => #[.ref h1.objs.size]) >>= _) _ _ _
    refine wpAny_bind (wpAny_updateSeq (up2 _ _ hS1) rfl ?_)
    have hS3 := Heap.get?_update_self (Obj.mapSeq fun _ => #[Value.ref h1.objs.size]) (up2 _ _ hS1) rfl
    refine wpAny_bind (wpAny_letGo ?_)
    refine wpAny_bind (wpAny_updateSeq hS3 rfl (wpAny_pure ⟨plainId_quiet F.plain_sum_loop _, ?_⟩))
    have hS4 := Heap.get?_update_self (Obj.mapSeq fun _ => #[Value.ref h1.objs.size]) hS3 rfl
    have up4 : ∀ c o, c ≠ S → h2.get? c = some o → ((h2.update S (Obj.mapSeq fun _ => #[Value.ref h1.objs.size])).update S (Obj.mapSeq fun _ => #[Value.ref h1.objs.size])).get? c = some o := fun c o n e => (Heap.get?_update_other _ _ n.symm).trans ((Heap.get?_update_other _ _ n.symm).trans e)
    have all : ∀ c o, c ≠ I → c ≠ S → s.heap.get? c = some o → ((h2.update S (Obj.mapSeq fun _ => #[Value.ref h1.objs.size])).update S (Obj.mapSeq fun _ => #[Value.ref h1.objs.size])).get? c = some o := fun c o n1 n2 e => up4 c o n2 (up2 _ _ (s1.extBut _ _ n1 e))
    refine suml_loop hh nIS nIl nSl rest (i + 1) { s with heap := (h2.update S (Obj.mapSeq fun _ => #[Value.ref h1.objs.size])).update S (Obj.mapSeq fun _ => #[Value.ref h1.objs.size]) } h1.objs.size (acc ++ ys) _ 0 ?_ ?_ ?_ (fun j x hj => ?_) hS4 (up4 _ _ (Nat.ne_of_gt ltS) new2) (Nat.ne_of_gt ltI) (Nat.ne_of_gt ltS) ?_ fun h' tk t' c' g1 g2 g3 g4 => ?_
    · rw [hn, List.length_cons]
      omega
    · exact it1.at fun o e => up4 _ _ nIS (up2 _ _ e)
    · exact hl.at fun o e => all _ _ nIl nSl e
    · obtain ⟨y1, y2, y3, c, y4⟩ := hx (j + 1) x hj
      exact ⟨by rw [show i + 1 + j = i + (j + 1) by omega]; exact y1, y2, y3, c, all _ _ y2 y3 y4⟩
    · rw [List.length_append]
      omega
    · refine hR h' tk t' c' (by rw [← List.append_assoc]; exact g1) (fun z => nomatch z) (fun _ => ?_) fun b o n1 n2 e => g4 b o n1 n2 (all _ _ n1 n2 e)
      cases hr : rest with
      | nil =>
        rw [g2 hr, sz1]
        exact Nat.le_refl _
      | cons y r =>
        have := g3 (by rw [hr]; intro z; cases z)
        have e4 : ((h2.update S (Obj.mapSeq fun _ => #[Value.ref h1.objs.size])).update S (Obj.mapSeq fun _ => #[Value.ref h1.objs.size])).objs.size = h2.objs.size := by
          rw [Heap.size_update, Heap.size_update]
        exact Nat.le_trans (by rw [← sz1, ← Nat.lt_succ_iff]; show h1.objs.size < _; rw [e4, sz2]; exact Nat.lt_succ_of_le (Nat.le_succ _)) this
end
theorem sub_ls : isSubtype (.type "list") (.type "str") = pure false := by rw [isSubtype_type]; kernel_rfl
theorem sub_lb : isSubtype (.type "list") (.type "bytes") = pure false := by rw [isSubtype_type]; kernel_rfl
theorem sub_la : isSubtype (.type "list") (.type "bytearray") = pure false := by rw [isSubtype_type]; kernel_rfl
theorem args_sum2 (a b : Value) : argsOk "sum" ⟨[a, b], []⟩ := by unfold argsOk; kernel_rfl
theorem lists_of {X : Cx} {pins : List (Addr × Obj)} {σ : L2.St} {H : Hp} {s : Shared} (I : Inv X pins σ H s) : ∀ {ls : List (Addr × List V)}, (∀ x ∈ ls, H x.1 = some (.lst x.2)) → ∃ rest : List (Addr × List Value), rest.map (·.1) = ls.map (·.1) ∧ Vals (ls.map (·.2)).flatten (rest.map (·.2)).flatten ∧ ∀ x ∈ rest, ∃ c, s.heap.get? x.1 = some (LiO x.2 c)
  | [], _ => ⟨[], rfl, .nil, fun x h => by cases h⟩
  | (a, ys) :: ls, h => by
    obtain ⟨rest, r1, r2, r3⟩ := lists_of I (ls := ls) fun x hx => h x (List.mem_cons_of_mem _ hx)
    obtain ⟨_, its, n, r, _, e⟩ := I.lstM (h (a, ys) (List.mem_cons_self ..))
    refine ⟨(a, its) :: rest, by rw [List.map_cons, List.map_cons, r1], ?_, fun x hx => ?_⟩
    · rw [List.map_cons, List.map_cons, List.flatten_cons, List.flatten_cons]
      exact r.append r2
    · rcases List.mem_cons.mp hx with rfl | hx
      · exact ⟨n, e⟩
      · exact r3 x hx
def rSumL (K : PySem.W.Frag) : List V → Hp → VK → Prop := fun vs H Q => ∃ (a b : Addr) (ls : List (Addr × List V)) (xs : List V), vs = [.ref a, .ref b] ∧ SqL K H a (ls.map fun x => .ref x.1) ∧ (∀ x ∈ ls, H x.1 = some (.lst x.2)) ∧ H b = some (.lst xs) ∧ xs.length + (ls.map (·.2)).flatten.length ≤ sizeLine ∧
  (ls = [] → Q (.ref b) H) ∧ (ls ≠ [] → ∀ p, H p = none → Q (.ref p) (upd H p (.lst (xs ++ (ls.map (·.2)).flatten))))
theorem cr_sumL (K : PySem.W.Frag) {X : Cx} (hcalm : X.calm = true) (hK : X.K = K := by rfl) : CallR X (.builtin "sum") (rSumL K) := by
  subst hK
  intro pins s σ H vs us Q I r h
  obtain ⟨a, b, ls, xs, rfl, ha, hls, hb, hz, q0, q1⟩ := h
  cases r with
  | cons ra rr =>
    cases rr with
    | cons rb rr =>
      cases rr
      cases ra
      cases rb
      obtain ⟨its, v1, pl, _⟩ := I.list ha
      obtain ⟨rest, r1, r2, r3⟩ := lists_of I hls
      obtain ⟨_, bs, nb, vb, _, eb⟩ := I.lstM hb
      have hl : s.heap.IsList a its.toArray := pl.isList
      have ei : its = rest.map fun x => Value.ref x.1 := by
        have e1 : (ls.map fun x => V.ref x.1) = (ls.map (·.1)).map V.ref := by rw [List.map_map]; rfl
        rw [e1] at v1
        rw [refs_at v1, ← r1, List.map_map]
        rfl
      refine call_function_tree F.kind_sum F.plain_sum F.entry_sum (args_sum2 _ _) ?_
      unfold Builtin.«sum»; simp only [List.length_cons, List.length_nil]; rw [if_neg (by decide)]
      refine wpAny_bind (wpAny_of_eq (show Builtin.Builtins.bindParams "sum" ["start"] 0 ⟨[.ref b], []⟩ = pure [some (.ref b)] from rfl) ?_)
      refine wpAny_bind (wpAny_pyIter_list hl ?_)
      have tb : ∀ tk, Shared.TypeIs { s with heap := s.heap.push { cls := .type "list_iterator", data := .fields #[.ref a, .int 0 0] }, toks := tk } (.ref b) "list" := fun _ => ⟨_, Heap.get?_push_of_some _ eb, rfl⟩
      refine wpAny_bind (wpAny_pure ?_)
      simp only [List.forIn_cons, List.forIn_nil]
      refine wpAny_bind (wpAny_bind (wpAny_bind (wpAny_isInstance (T := "list") (b := false) (tb _) sub_ls ?_))); simp only [Bool.false_eq_true, if_false]
      refine wpAny_pure (wpAny_bind (wpAny_bind (wpAny_isInstance (T := "list") (b := false) (tb _) sub_lb ?_))); simp only [Bool.false_eq_true, if_false]
      refine wpAny_pure (wpAny_bind (wpAny_bind (wpAny_isInstance (T := "list") (b := false) (tb _) sub_la ?_))); simp only [Bool.false_eq_true, if_false]
      refine wpAny_pure (wpAny_pure (wpAny_bind (wpAny_newObj_type (wpAny_pure ⟨plainId_quiet F.plain_sum_loop _, ?_⟩))))
      have lt : ∀ {c o}, s.heap.get? c = some o → c < s.heap.objs.size := fun e => Heap.lt_size e
      have la : a < s.heap.objs.size := pl.lt
      have lb : b < s.heap.objs.size := lt eb
      have sz : (s.heap.push { cls := .type "list_iterator", data := .fields #[.ref a, .int 0 0] }).objs.size = s.heap.objs.size + 1 := Heap.size_push ..
      have up : ∀ c o, s.heap.get? c = some o → ((s.heap.push { cls := .type "list_iterator", data := .fields #[.ref a, .int 0 0] }).push (LiO [.ref b] 0)).get? c = some o := fun c o e => Heap.get?_push_of_some _ (Heap.get?_push_of_some _ e)
      have off : ∀ {c}, c < s.heap.objs.size + 1 → c ≠ (s.heap.push { cls := .type "list_iterator", data := .fields #[.ref a, .int 0 0] }).objs.size := fun h => by
        rw [sz]
        exact Nat.ne_of_lt h
      refine suml_loop (P := X.prog) (w := X.w) (A := X.A) (I := s.heap.objs.size) (l := a) (S := (s.heap.push { cls := .type "list_iterator", data := .fields #[.ref a, .int 0 0] }).objs.size) (items := its.toArray) (I.ok.hd hcalm) (off (Nat.lt_succ_self _)) (Nat.ne_of_lt la) (off (Nat.lt_succ_of_lt la)) rest 0 { s with heap := (s.heap.push { cls := .type "list_iterator", data := .fields #[.ref a, .int 0 0] }).push (LiO [.ref b] 0) } b bs 0 nb ?_ ⟨_, Heap.get?_push_of_some _ (Heap.get?_push_size _ rfl), rfl, rfl⟩ (hl.at fun o e => up _ _ e) (fun j x hj => ?_) ?_ (up _ _ eb) (Nat.ne_of_lt lb) (off (Nat.lt_succ_of_lt lb)) ?_ fun h' tk t' c' g1 g2 g3 g4 => ?_
      · rw [List.size_toArray, ei, List.length_map, Nat.zero_add]
      · obtain ⟨c, hc⟩ := r3 x (List.mem_of_getElem? hj)
        have lx := lt hc
        refine ⟨?_, Nat.ne_of_lt lx, off (Nat.lt_succ_of_lt lx), c, up _ _ hc⟩
        rw [Nat.zero_add, List.getElem?_toArray, ei, List.getElem?_map, hj]
        rfl
      · exact Heap.get?_push_size _ rfl
      · have := r2.length
        have := vb.length
        omega
      · have keep : ∀ c o, s.heap.get? c = some o → h'.get? c = some o := fun c o e => g4 c o (Nat.ne_of_lt (lt e)) (off (Nat.lt_succ_of_lt (lt e))) (up c o e)
        cases hr : ls with
        | nil =>
          have hrest : rest = [] := by
            rw [hr] at r1
            cases rest with
            | nil => rfl
            | cons y z => cases r1
          rw [g2 hrest]
          exact ⟨.ref b, H, I.kept keep, rfl, q0 hr⟩
        | cons y z =>
          have hrest : rest ≠ [] := fun e => by
            rw [e, hr] at r1
            cases r1
          have hle : s.heap.objs.size ≤ t' := Nat.le_trans (by rw [Heap.size_push, Heap.size_push]; omega) (g3 hrest)
          refine ⟨.ref t', upd H t' (.lst (xs ++ (ls.map (·.2)).flatten)), I.laid keep hle (show ObjOk X.prog X.w _ _ _ (.lst (xs ++ (ls.map (·.2)).flatten)) from ⟨?_, bs ++ (rest.map (·.2)).flatten, c', vb.append r2, g1⟩), rfl, q1 (by rw [hr]; intro e; cases e) _ (I.hok.fresh hle)⟩
          rw [List.length_append]
          exact hz
/-! ### tuple(xs) of a list, its object known; dict(ps) of such a tuple of pairs -/
def rTupleFz (K : PySem.W.Frag) : List V → Hp → VK → Prop := fun xs H Q => ∃ p ys, xs = [.ref p] ∧ SqL K H p ys ∧ ∀ (l : Addr) (o : Obj), H l = none → o.dict = none → Q (.ref l) (upd H l (.frz o (.tup ys)))
theorem tupleFz (K : PySem.W.Frag) {X : Cx} (hK : X.K = K := by rfl) : CallR X (.type "tuple") (rTupleFz K) := by
  subst hK
  intro pins s σ H vs us Q I r h
  obtain ⟨p, ys, rfl, hs, q⟩ := h
  obtain ⟨u, rfl, rfl⟩ := vals1 r
  obtain ⟨its, rv, pl, hz⟩ := I.list hs
  refine call_tuple_list pl.isList (fun h' hk => ?_) (by rw [List.size_toArray, ← rv.length]; exact hz)
  have I1 : Inv X pins σ H { s with heap := h' } := I.kept (t' := s.toks) hk
  refine ⟨.ref h'.objs.size, _, I1.laid (t' := s.toks) (o := .frz { cls := .type "tuple", data := .seq its.toArray } (.tup ys)) (fun b o e => Heap.get?_push_of_some _ e) (Nat.le_refl _) ?_, rfl, q _ _ (I1.hok.fresh (Nat.le_refl _)) rfl⟩
  exact ⟨Heap.get?_push_size _ rfl, hz, its, rv, IsTup.new _ _⟩
theorem trips {X : Cx} {pins : List (Addr × Obj)} {σ : L2.St} {H : Hp} {s : Shared} (I : Inv X pins σ H s) : ∀ {ps : List Addr} {kvs : List (Key × V)}, Paired (fun p kv => SqT X.K H p [kV kv.1, kv.2]) ps kvs →
    ∃ tr : List (Key × Value × Value), tr.length = ps.length ∧ KV kvs (tr.map fun t => (t.1, t.2.2)) ∧ ∀ (j : Nat) (t : Key × Value × Value), tr[j]? = some t → ∃ b : Addr, ps[j]? = some b ∧ IsTup s.heap b #[t.2.1, t.2.2] ∧ (mixKind X.prog X.w).is t.1 t.2.1 = true
  | _, _, .nil => ⟨[], rfl, .nil, fun j t e => by simp at e⟩
  | _, _, .cons (a := p) (b := kv) h t => by
    obtain ⟨tr, hl, r, hp⟩ := trips I t
    obtain ⟨its, rv, ht, _⟩ := I.tuple h
    obtain ⟨u, y, ei, ru, ry⟩ := vals2 rv
    subst ei
    refine ⟨(kv.1, u, y) :: tr, by rw [List.length_cons, List.length_cons, hl], .cons ⟨rfl, ry⟩ r, fun j t e => ?_⟩
    cases j with
    | zero =>
      rw [List.getElem?_cons_zero] at e
      cases e
      exact ⟨p, rfl, ht, kV_is ru⟩
    | succ j =>
      rw [List.getElem?_cons_succ] at e
      obtain ⟨b, e1, e2⟩ := hp j t e
      exact ⟨b, by rw [List.getElem?_cons_succ]; exact e1, e2⟩
def rDictT (K : PySem.W.Frag) : List V → Hp → VK → Prop := fun xs H Q => ∃ (a : Addr) (o : Obj) (ps : List Addr) (kvs : List (Key × V)), xs = [.ref a] ∧ H a = some (.frz o (.tup (ps.map V.ref))) ∧ o.dict = none ∧ Paired (fun p kv => SqT K H p [kV kv.1, kv.2]) ps kvs ∧ ∀ p, H p = none → Q (.ref p) (upd H p (.dK (mergeK [] kvs)))
theorem dictT (K : PySem.W.Frag) {X : Cx} (hcalm : X.calm = true := by rfl) (hK : X.K = K := by rfl) : CallR X (.type "dict") (rDictT K) := by
  subst hK
  intro pins s σ H xs us Q I r h
  obtain ⟨a, o, ps, kvs, rfl, ha, hd, hp, q⟩ := h
  obtain ⟨u, rfl, rfl⟩ := vals1 r
  obtain ⟨e, hz, its, rv, o', e', hc, n, hdat⟩ := I.hok a _ ha
  have eo : o' = o := by
    rw [e] at e'
    exact (Option.some.inj e').symm
  subst eo
  obtain ⟨tr, hl, rel, htr⟩ := trips I hp
  have ei : its = ps.map Value.ref := refs_at rv
  rw [List.length_map] at hz
  refine PySem.call_dict_pairs (knd := mixKind X.prog X.w) (kvs := tr.map fun t => (t.1, t.2.2)) (PairArg.tuple a its.toArray (fun j => ps.getD j 0) (tr.map fun t => (t.2.1, t.2.2))) (I.ok.hd hcalm) ⟨⟨o', n, e, hc, hd, hdat⟩, ?_, fun j k v hj => ?_⟩ ⟨?_, fun i key v hi => ?_⟩ ?_ fun h' tk hd' k => ?_
  · rw [List.size_toArray, ei, List.length_map, List.length_map, hl]
  · rw [List.getElem?_map] at hj
    cases ht : tr[j]? with
    | none =>
      rw [ht] at hj
      cases hj
    | some t =>
      rw [ht] at hj
      cases hj
      obtain ⟨b, e1, e2, _⟩ := htr j t ht
      have eb : ps.getD j 0 = b := by
        rw [List.getD_eq_getElem?_getD, e1]
        rfl
      refine ⟨?_, .inl ?_⟩
      · rw [List.getElem?_toArray, ei, List.getElem?_map, e1]
        show some (Value.ref b) = some (Value.ref (ps.getD j 0))
        rw [eb]
      · show s.heap.IsTuple (ps.getD j 0) _
        rw [eb]
        exact e2
  · rw [List.length_map, List.length_map]
  · have hi : (tr.map fun t => (t.2.1, t.2.2))[i]? = some (key, v) := hi
    rw [List.getElem?_map] at hi
    cases ht : tr[i]? with
    | none =>
      rw [ht] at hi
      cases hi
    | some t =>
      rw [ht] at hi
      cases hi
      obtain ⟨b, _, _, e3⟩ := htr i t ht
      exact ⟨t.1, by rw [List.getElem?_map, ht]; rfl, e3⟩
  · rw [List.length_map, hl]
    exact hz
  · have hm : (s.heap.objs.size == sysModules) = false := beq_eq_false_iff_ne.mpr (Nat.ne_of_gt I.big)
    have hkl : kvs.length = ps.length := by
      have := rel.length
      rw [List.length_map, hl] at this
      exact this
    have hlen : (mergeK [] kvs).length ≤ sizeLine := by
      refine Nat.le_trans (length_mergeK kvs []) ?_
      rw [List.length_nil, Nat.zero_add, hkl]
      exact hz
    exact ⟨.ref s.heap.objs.size, upd H s.heap.objs.size (.dK (mergeK [] kvs)), I.laid (t' := tk) (fun b o e => k b o (fun z => nomatch z) e) (Nat.le_refl _) (show ObjOk X.prog X.w _ _ _ (.dK (mergeK [] kvs)) from ⟨hlen, hm, merged [] _, KV.merge rel .nil, hd'⟩), rfl, q _ (I.hok.fresh (Nat.le_refl _))⟩
end Pf


namespace Pf
open PySem PySem.Spec PyProof.Rows L2
def evL (x : Str) (i : Nat) : List Str := (x.cps.toList.take i).flatMap fun a => x.cps.toList.map fun b => (⟨#[a]⟩ ++ ⟨#[b]⟩ : Str)
def OfP (r : Rl) : Prop := ∀ y ∈ r.prs, Of r.letters y.1
theorem evL_of {x : Str} {i : Nat} {t : Str} (h : t ∈ evL x i) : Of x t := by
  unfold evL at h
  obtain ⟨a, ha, h⟩ := List.mem_flatMap.mp h
  obtain ⟨b, hb, rfl⟩ := List.mem_map.mp h
  have ha := List.mem_of_mem_take ha
  intro c hc
  rw [Str.cps_append, Array.toList_append, List.mem_append] at hc
  rcases hc with hc | hc
  · have : c = a := by simpa using hc
    rw [this]
    exact ha
  · have : c = b := by simpa using hc
    rw [this]
    exact hb
theorem none_of {p : Addr} {H H' : Hp} (k : Kp p H H') {b : Addr} (nb : b ≠ p) (h : H' b = none) : H b = none := by
  cases e : H b with
  | none => rfl
  | some o =>
    rw [k b o nb e] at h
    cases h
section
variable {P : Program} {w : World} {K : PySem.W.Frag} {mg : Str → Option Value} {base : Heap}
abbrev s_law_rules : Stmt := topS 57
theorem sc_law_rules : FnScope ["_law_pen", "_law_letters_here", "_law_texts", "_law_sign", "_law_share", "_law_some", "_law_couples", "_law_apart", "_law_heights", "_law_k", "_law_key", "_law_piles", "_law_text", "_law_other"] ["_law_pen"] (defScope s_law_rules) :=
  ⟨rfl, rfl, rfl, by decide +kernel, rfl, by decide +kernel, by decide +kernel⟩
def spRules : Sp := fun vs H Q _ => ∃ (p c : Addr) (n : Nat), vs = [.ref p] ∧ Pen H p c n ∧ n + 300 < 1000000 ∧
  ∀ v r H', RulesAt H' v r → RlOk r → (OfP r ∧ (113 : Nat) ∉ r.letters.cps.toList) → Kp p H H' → Pen H' p c (n + 300) → Q v H'
theorem ok_rules {f : Addr} {fd : FuncData} (F : Fun K "_law_rules" "_law_rules" s_law_rules f fd) (c_law_draw : CDraw P w K mg base) (c_law_worth : CWorth P w K mg base)
    (mlen : mg "len" = none) (mint : mg "int" = none) (mtuple : mg "tuple" = none) (mrange : mg "range" = none) (msorted : mg "sorted" = none) : FnOk P w K mg base CX0 3 f fd ["_law_pen"] spRules := by
  refine F.ok sc_law_rules (fun vs H Q E h => ?_) (fun cdv A outer s H vs Q E hr h => ?_)
  · obtain ⟨p, c, n, rfl, _⟩ := h
    rfl
  · obtain ⟨p, c, n, rfl, hP, hn, q⟩ := h
    refine ⟨_, (pss_cons (ps_set (i := 1) sc_law_rules.nd rfl (.inl rfl) (pe_ix (ixL K) (pe_lst (pa_cons pe_str (pa_cons pe_str (pa_cons pe_str (pa_cons pe_str pa_nil))))) (pe_ca c_law_draw (hr.mono (by decide)) (by rfl) (pa_cons (pv 0) (pa_cons pe_int pa_nil))) (fun _ _ => rfl)))
      (pss_cons (ps_set (i := 2) sc_law_rules.nd rfl (.inl rfl) (pe_lst pa_nil))
      (pss_cons (ps_for PassesOwn.never rfl (pi_str (pv 1)) (pg_name (i := 3) sc_law_rules.nd rfl (.inr rfl)) (pss_one (ps_set (i := 2) sc_law_rules.nd rfl (.inl rfl) (pe_op op_cat (pv 2) (pe_lc (own := [("_law_other", 13)]) (g := gName 13) (by rfl) sc_law_rules.nd (pi_str (pv 1)) (blkOk_by (own := [("_law_other", 13)]) (N := ["_law_pen", "_law_letters_here", "_law_texts", "_law_sign", "_law_share", "_law_some", "_law_couples", "_law_apart", "_law_heights", "_law_k", "_law_key", "_law_piles", "_law_text", "_law_other"]) (sc := defScope s_law_rules) (by decide +kernel)) (fun _ _ _ _ _ => (pg_name (i := 13) sc_law_rules.nd rfl (.inl rfl))) (fun _ _ _ _ _ => pts_nil) (fun _ _ _ _ _ => (pe_op op_add_str (pv 3) (pv 13))))))))
      (pss_cons (ps_set (i := 4) sc_law_rules.nd rfl (.inr rfl) (pe_ix (ixL K) (pe_lst (pa_cons pe_int (pa_cons pe_int (pa_cons pe_int (pa_cons pe_int pa_nil))))) (pe_ca c_law_draw (hr.mono (by decide)) (by rfl) (pa_cons (pv 0) (pa_cons pe_int pa_nil))) (fun _ _ => rfl)))
      (pss_cons (ps_set (i := 5) sc_law_rules.nd rfl (.inl rfl) (pe_slice (slL K) (pe_lc (own := [("_law_text", 12)]) (g := gName 12) (by rfl) sc_law_rules.nd (pi_list (pv 2)) (blkOk_by (own := [("_law_text", 12)]) (N := ["_law_pen", "_law_letters_here", "_law_texts", "_law_sign", "_law_share", "_law_some", "_law_couples", "_law_apart", "_law_heights", "_law_k", "_law_key", "_law_piles", "_law_text", "_law_other"]) (sc := defScope s_law_rules) (by decide +kernel)) (fun _ _ _ _ _ => (pg_name (i := 12) sc_law_rules.nd rfl (.inl rfl))) (fun _ _ _ _ _ => (pts_one (pt_cmpR op_eq (pe_ca c_law_draw (hr.mono (by decide)) (by rfl) (pa_cons (pv 0) (pa_cons (pv 4) pa_nil))) pe_int (nomark _)))) (fun _ _ _ _ _ => (pv 12))) po_none (po_some pe_int)))
      (pss_cons (ps_set (i := 6) sc_law_rules.nd rfl (.inl rfl) (pe_callTy (tupleFz K) (by rfl) mtuple (by decide +kernel) (pa_cons (pe_lc (own := [("_law_text", 12)]) (g := gName 12) (by rfl) sc_law_rules.nd (pi_list (pe_callB cr_sortedS (by rfl) msorted (by decide +kernel) (pa_cons (pv 5) pa_nil))) (blkOk_by (own := [("_law_text", 12)]) (N := ["_law_pen", "_law_letters_here", "_law_texts", "_law_sign", "_law_share", "_law_some", "_law_couples", "_law_apart", "_law_heights", "_law_k", "_law_key", "_law_piles", "_law_text", "_law_other"]) (sc := defScope s_law_rules) (by decide +kernel)) (fun _ _ _ _ _ => (pg_name (i := 12) sc_law_rules.nd rfl (.inl rfl))) (fun _ _ _ _ _ => pts_nil) (fun _ _ _ _ _ => (pe_tup (pa_cons (pv 12) (pa_cons (pe_ca c_law_worth (hr.mono (by decide)) (by rfl) (pa_cons (pv 0) pa_nil)) pa_nil))))) pa_nil)))
      (pss_cons (ps_set (i := 7) sc_law_rules.nd rfl (.inl rfl) (pe_ix (ixL K) (pe_lst (pa_cons pe_int (pa_cons pe_int (pa_cons pe_int (pa_cons (pe_ca c_law_draw (hr.mono (by decide)) (by rfl) (pa_cons (pv 0) (pa_cons pe_int pa_nil))) pa_nil))))) (pe_ca c_law_draw (hr.mono (by decide)) (by rfl) (pa_cons (pv 0) (pa_cons pe_int pa_nil))) (fun _ _ => rfl)))
      (pss_cons (ps_set (i := 8) sc_law_rules.nd rfl (.inr rfl) pe_dnewT)
      (pss_cons (ps_for PassesOwn.never rfl (pi_range1 (by rfl) mrange (pa_cons (pe_op op_mul (pe_ix (ixL K) (pe_lst (pa_cons pe_int (pa_cons pe_int (pa_cons pe_int pa_nil)))) (pe_ca c_law_draw (hr.mono (by decide)) (by rfl) (pa_cons (pv 0) (pa_cons pe_int pa_nil))) (fun _ _ => rfl)) (pe_callTy call_int1 (by rfl) mint (by decide +kernel) (pa_cons (pe_cmpR (neD K hr.units) (pv 5) (pe_lst pa_nil) (nomark _)) pa_nil))) pa_nil)) (pg_name (i := 9) sc_law_rules.nd rfl (.inl rfl)) (pss_cons (ps_set (i := 10) sc_law_rules.nd rfl (.inl rfl) (pe_tup (pa_cons (pe_ix (ixL K) (pv 5) (pe_ca c_law_draw (hr.mono (by decide)) (by rfl) (pa_cons (pv 0) (pa_cons (pe_callB (lenQ K) (by rfl) mlen (by decide +kernel) (pa_cons (pv 5) pa_nil)) pa_nil))) (fun _ _ => rfl)) (pa_cons (pe_ix (ixL K) (pv 5) (pe_ca c_law_draw (hr.mono (by decide)) (by rfl) (pa_cons (pv 0) (pa_cons (pe_callB (lenQ K) (by rfl) mlen (by decide +kernel) (pa_cons (pv 5) pa_nil)) pa_nil))) (fun _ _ => rfl)) pa_nil))))
      (pss_one (ps_dput (hu_of hr) (pv 8) (pv 10) (pe_ca c_law_worth (hr.mono (by decide)) (by rfl) (pa_cons (pv 0) pa_nil)) rfl))))
      (pss_cons (ps_set (i := 11) sc_law_rules.nd rfl (.inl rfl) (pe_callTy (tupleOf K) (by rfl) mtuple (by decide +kernel) (pa_cons (pe_lc (own := [("_law_key", 10)]) (g := gName 10) (by rfl) sc_law_rules.nd (pi_list (pe_callB (cr_sortKT K rfl hr.units) (by rfl) msorted (by decide +kernel) (pa_cons (pv 8) pa_nil))) (blkOk_by (own := [("_law_key", 10)]) (N := ["_law_pen", "_law_letters_here", "_law_texts", "_law_sign", "_law_share", "_law_some", "_law_couples", "_law_apart", "_law_heights", "_law_k", "_law_key", "_law_piles", "_law_text", "_law_other"]) (sc := defScope s_law_rules) (by decide +kernel)) (fun _ _ _ _ _ => (pg_name (i := 10) sc_law_rules.nd rfl (.inl rfl))) (fun _ _ _ _ _ => pts_nil) (fun _ _ _ _ _ => (pe_op (catT K) (pv 10) (pe_tup (pa_cons (pe_dget (hu_of hr) (pv 8) (pv 10) (fun _ _ => rfl)) pa_nil))))) pa_nil)))
      (pss_one (ps_ret (pe_tup (pa_cons (pv 1) (pa_cons (pv 6) (pa_cons (pv 7) (pa_cons (pe_callTy (tupleOf K) (by rfl) mtuple (by decide +kernel) (pa_cons (pe_lc (own := [("_law_k", 9)]) (g := gName 9) (by rfl) sc_law_rules.nd (pi_range1 (by rfl) mrange (pa_cons pe_int pa_nil)) (blkOk_by (own := [("_law_k", 9)]) (N := ["_law_pen", "_law_letters_here", "_law_texts", "_law_sign", "_law_share", "_law_some", "_law_couples", "_law_apart", "_law_heights", "_law_k", "_law_key", "_law_piles", "_law_text", "_law_other"]) (sc := defScope s_law_rules) (by decide +kernel)) (fun _ _ _ _ _ => (pg_name (i := 9) sc_law_rules.nd rfl (.inl rfl))) (fun _ _ _ _ _ => pts_nil) (fun _ _ _ _ _ => (pe_ca c_law_worth (hr.mono (by decide)) (by rfl) (pa_cons (pv 0) pa_nil)))) pa_nil)) (pa_cons (pv 11) pa_nil)))))))))))))))))), ?_⟩
    -- letters
    refine ⟨szL (show 4 ≤ 1000000 by decide), fun l hl => ⟨_, rfl, p, c, 4, n, rfl, hP.new hl, by omega, by decide, by decide, fun r1 H1 r1a r1b k1 hP1 => ?_⟩⟩
    have hL := k1 _ _ (hP.ne hl).1 upd_same
    obtain ⟨v, hmem, hz⟩ := atI_mem (xs := [V.str "a", .str "ab", .str "abz", .str "gkmx"]) r1a r1b
    have hv : ∀ v ∈ [V.str "a", .str "ab", .str "abz", .str "gkmx"], ∃ x : Str, v = .str x ∧ x.length ≤ 4 ∧ 1 ≤ x.length ∧ Small x ∧ (113 : Nat) ∉ x.cps.toList ∧ (evL x x.cps.size).Nodup := by
      intro v hv
      simp only [List.mem_cons, List.not_mem_nil, or_false] at hv
      rcases hv with rfl | rfl | rfl | rfl <;> exact ⟨_, rfl, by decide, by decide, by unfold Small; decide +kernel, by decide +kernel, by decide +kernel⟩
    obtain ⟨sg, rfl, hs6, hs1, hsm, hqq, hev⟩ := hv _ hmem
    refine ⟨l, _, r1, _, rfl, rfl, SqL.of hL, hz, ?_⟩
    have kp1 : Kp p H H1 := (Kp.new hl).trans k1
    clear hL hz hmem hv k1
    -- texts
    refine ⟨Nat.zero_le _, fun e0 he0 => ?_⟩
    refine ⟨_, rfl, _, rfl, for_str (fun i σ H2 => ∃ (l : Addr) (y3 : Option V) (ts : List Str), σ = [some (.ref p), some (.str sg), some (.ref l), y3, none, none, none, none, none, none, none, none, none, none] ∧ l ≠ p ∧ Ext H1 H2 ∧ H2 l = some (.lst (ts.map V.str)) ∧ ts.length ≤ 4 * i ∧ (∀ t ∈ ts, Two t) ∧ ts = evL sg i)
      ⟨e0, none, [], rfl, (hP1.ne he0).1, Ext.new he0, upd_same, by decide, (fun t h => by cases h), by unfold evL; rw [List.take_zero]; rfl⟩ (fun i ch σ H2 hi hv => ?_) (fun σ H2 hv => ?_)⟩
    · obtain ⟨l, y3, ts, rfl, nl, k2, hL, hts, ht2, hte⟩ := hv
      have hi6 : i < sg.length := (Array.getElem?_eq_some_iff.mp hi).1
      refine ⟨_, rfl, _, rfl, _, rfl, fun D hD => lc_str (fun j H3 => ∃ zs : List Str, zs.length = j ∧ (∀ t ∈ zs, Two t) ∧ Ext H2 H3 ∧ H3 D = some (.lst (zs.map V.str)) ∧ zs = (sg.cps.toList.take j).map fun b => (⟨#[ch]⟩ ++ ⟨#[b]⟩ : Str)) ⟨[], rfl, (fun t h => by cases h), Ext.new hD, upd_same, by rw [List.take_zero]; rfl⟩ (fun j cj H3 hj hv => ?_) (fun H3 hv => ?_)⟩
      · obtain ⟨zs, hzs, hz2, k3, hL3, hze⟩ := hv
        have hj6 : j < sg.length := (Array.getElem?_eq_some_iff.mp hj).1
        refine ⟨rfl, _, rfl, _, rfl, _, _, rfl, rfl, szL (show 1 + 1 ≤ 1000000 by decide), _, hL3, szLt ?_, zs ++ [⟨#[ch]⟩ ++ ⟨#[cj]⟩], ?_, fun t ht => ?_, k3.put hD, ?_, ?_⟩
        · rw [List.length_map]
          omega
        · rw [List.length_append, List.length_singleton]
          omega
        · rcases List.mem_append.mp ht with ht | ht
          · exact hz2 t ht
          · rw [List.mem_singleton.mp ht]
            exact ⟨rfl, (Small.one (hsm.at hi)).app (Small.one (hsm.at hj))⟩
        · rw [upd_same, List.map_append]
          rfl
        · have hj' : sg.cps.toList[j]? = some cj := by
            rw [Array.getElem?_toList]
            exact hj
          rw [List.take_add_one, hj', List.map_append, hze]
          rfl
      · obtain ⟨zs, hzs, hz2, k3, hL3, hze⟩ := hv
        have hzs : zs.length ≤ 4 := by
          have : sg.cps.size ≤ 4 := hs6
          omega
        refine ⟨l, D, _, _, rfl, rfl, k3 _ _ hL, hL3, szL ?_, fun l2 hl2 => ⟨l2, _, ts ++ zs, rfl, (((hP1.ext k2).ext k3).ne hl2).1, (k2.trans k3).trans (Ext.new hl2), ?_, ?_, fun t ht => ?_, ?_⟩⟩
        · rw [List.length_map, List.length_map]
          omega
        · rw [upd_same, List.map_append]
        · rw [List.length_append]
          omega
        · rcases List.mem_append.mp ht with ht | ht
          · exact ht2 t ht
          · exact hz2 t ht
        · have hi' : sg.cps.toList[i]? = some ch := by
            rw [Array.getElem?_toList]
            exact hi
          rw [List.take_of_length_le (by rw [Array.length_toList]; exact Nat.le_refl _)] at hze
          rw [hte, hze]
          unfold evL
          rw [List.take_add_one, hi', List.flatMap_append]
          simp
    obtain ⟨le, y3, ts, rfl, nle, k2, hLe, hts, ht2, hte⟩ := hv
    have htn : ts.Nodup := by
      rw [hte]
      exact hev
    have hts16 : ts.length ≤ 16 := by
      have : sg.cps.size ≤ 4 := hs6
      omega
    have hP2 := hP1.ext k2
    have kp2 : Kp p H H2 := kp1.trans (Kp.ext k2)
    clear hts k2 kp1 hP1
    -- share
    refine ⟨szL (show 4 ≤ 1000000 by decide), fun l4 hl4 => ⟨_, rfl, p, c, 4, _, rfl, hP2.new hl4, by omega, by decide, by decide, fun r4 H4 r4a r4b k4 hP4 => ?_⟩⟩
    obtain ⟨sh, hsh, hat4⟩ := atI_ints (ns := [1, 1, 2, 3]) r4a r4b
    have hsh2 : 0 < sh ∧ sh < 1000000 := by
      simp only [List.mem_cons, List.not_mem_nil, or_false] at hsh
      omega
    refine ⟨l4, _, r4, _, rfl, rfl, SqL.of (k4 _ _ (hP2.ne hl4).1 upd_same), hat4, ?_⟩
    have kp4 : Kp p H2 H4 := (Kp.new hl4).trans k4
    have hLe4 : H4 le = some (.lst (ts.map V.str)) := kp4 _ _ nle hLe
    -- some
    refine ⟨_, rfl, le, rfl, ⟨_, SqL.of hLe4⟩, fun D hD => lc_list (K := K) (xs := ts.map V.str) (fun i H5 => ∃ us : List Str, us.length ≤ i ∧ (∀ t ∈ us, Two t) ∧ H5 D = some (.lst (us.map V.str)) ∧ Kp p H4 H5 ∧ Pen H5 p c (n + 2 + i) ∧ us.Sublist (ts.take i))
      ⟨[], Nat.zero_le _, (fun t h => by cases h), upd_same, Kp.new hD, (hP4.new hD).mono (by omega), List.nil_sublist _⟩ (fun i H5 _ ⟨us, _, _, _, k, _⟩ => SqL.of (k _ _ nle hLe4)) (fun i u H5 hi hv => ?_) (fun H5 hv => ?_)⟩
    · obtain ⟨us, hul, hu2, hL5, k5, hP5, hsub⟩ := hv
      have hil : i < ts.length := by
        have := (List.getElem?_eq_some_iff.mp hi).1
        rw [List.length_map] at this
        exact this
      obtain ⟨t, hti, rfl⟩ : ∃ t, ts[i]? = some t ∧ u = .str t := by
        rw [List.getElem?_map, List.getElem?_eq_getElem hil] at hi
        exact ⟨ts[i], List.getElem?_eq_getElem hil, (Option.some.inj hi).symm⟩
      have ht := List.mem_of_getElem? hti
      refine ⟨rfl, _, rfl, _, rfl, p, c, sh, _, rfl, hP5, by omega, hsh2.1, hsh2.2, fun r6 H6 r6a r6b k6 hP6 => ⟨rfl, _, rfl, ite2 (fun e => ?_) (fun e => ?_)⟩⟩
      · have nD := hP4.ne hD
        refine ⟨_, rfl, _, k6 _ _ nD.1 hL5, szLt ?_, us ++ [t], ?_, fun x hx => ?_, ?_, (k5.trans k6).put hD, (hP6.put nD.1 nD.2).mono (by omega), ?_⟩
        · rw [List.length_map]
          omega
        · rw [List.length_append, List.length_singleton]
          omega
        · rcases List.mem_append.mp hx with hx | hx
          · exact hu2 x hx
          · rw [List.mem_singleton.mp hx]
            exact ht2 t ht
        · rw [upd_same, List.map_append]
          rfl
        · rw [List.take_add_one, hti]
          exact hsub.append (List.Sublist.refl _)
      · refine ⟨us, by omega, hu2, k6 _ _ (hP4.ne hD).1 hL5, k5.trans k6, hP6.mono (by omega), ?_⟩
        rw [List.take_add_one]
        exact hsub.trans (List.sublist_append_left _ _)
    obtain ⟨us0, hul, hu2, hL5, k5, hP5, hsub⟩ := hv
    rw [List.length_map] at hul hP5
    refine ⟨12, rfl, D, _, rfl, SqL.of hL5, fun so hso => ?_⟩
    have ecut : cutV (us0.map V.str) none (some 12) = (us0.take 12).map V.str := by
      have := cut_to (xs := us0.map V.str) (k := 12)
      rw [List.map_take]
      exact this
    rw [ecut]
    obtain ⟨us, eus⟩ : ∃ us, us = us0.take 12 := ⟨_, rfl⟩
    rw [← eus]
    have husub : us.Sublist us0 := by
      rw [eus]
      exact List.take_sublist _ _
    have hu12 : us.length ≤ 12 := by
      rw [eus, List.length_take]
      omega
    have hut : ∀ t ∈ us, Two t := fun t ht => hu2 t (husub.subset ht)
    have hun : us.Nodup := List.Sublist.nodup (husub.trans (hsub.trans (List.take_sublist _ _))) htn
    have nso := hP5.ne hso
    have hP6 := (hP5.new (o := .lst (us.map V.str)) hso).mono (show n + 2 + ts.length ≤ n + 18 by omega)
    have kp6 : Kp p H (upd H5 so (.lst (us.map V.str))) := ((kp2.trans kp4).trans k5).trans (Kp.new hso)
    have hS6 : (upd H5 so (.lst (us.map V.str))) so = some (.lst (us.map V.str)) := upd_same
    generalize upd H5 so (.lst (us.map V.str)) = H6 at hP6 kp6 hS6 ⊢
    clear hP5 hso k5 hL5 hLe4 kp4 kp2 hP2 hP4 hD hLe nle
    -- couples
    refine ⟨_, rfl, so, us, rfl, SqL.of hS6, by omega, fun ut ss perm _ hss => ?_⟩
    have nss := hP6.ne hss
    have hP7 := hP6.new (o := .lst (ut.map V.str)) hss
    have x7 := Ext.new (o := .lst (ut.map V.str)) hss
    have hS7 := x7 _ _ hS6
    have hUt : (upd H6 ss (.lst (ut.map V.str))) ss = some (.lst (ut.map V.str)) := upd_same
    have kp7 := kp6.trans (Kp.ext x7)
    generalize upd H6 ss (.lst (ut.map V.str)) = H7 at hP7 kp7 hS7 hUt ⊢
    have hutl : ut.length ≤ 12 := by
      rw [perm.length_eq]
      exact hu12
    have hut2 : ∀ t ∈ ut, Two t := fun t ht => hut t (perm.mem_iff.mp ht)
    have hutn : ut.Nodup := perm.nodup_iff.mpr hun
    refine ⟨ss, rfl, ⟨_, SqL.of hUt⟩, fun D8 hD8 => lc_list (K := K) (xs := ut.map V.str) (fun i H9 => ∃ (vs : List V) (prs : List (Str × Int)), vs.length = i ∧ H9 D8 = some (.lst vs) ∧ Paired (PairAt H9) vs prs ∧ (∀ x ∈ prs, Two x.1 ∧ -99 ≤ x.2 ∧ x.2 ≤ 99) ∧ Kp p H7 H9 ∧ Pen H9 p c (n + 18 + 4 * i) ∧ prs.map (·.1) = ut.take i)
      ⟨[], [], rfl, upd_same, .nil, (fun t h => by cases h), Kp.new hD8, (hP7.new hD8), by rw [List.take_zero]; rfl⟩ (fun i H9 _ ⟨_, _, _, _, _, _, k, _⟩ => SqL.of (k _ _ nss.1 hUt)) (fun i u H9 hi hv => ?_) (fun H9 hv => ?_)⟩
    · obtain ⟨vs, prs, hvl, hL9, hPr, hOk, k9, hP9, hpu⟩ := hv
      have hil : i < ut.length := by
        have := (List.getElem?_eq_some_iff.mp hi).1
        rw [List.length_map] at this
        exact this
      obtain ⟨t, hti, rfl⟩ : ∃ t, ut[i]? = some t ∧ u = .str t := by
        rw [List.getElem?_map, List.getElem?_eq_getElem hil] at hi
        exact ⟨ut[i], List.getElem?_eq_getElem hil, (Option.some.inj hi).symm⟩
      have ht := List.mem_of_getElem? hti
      refine ⟨rfl, _, rfl, _, rfl, p, c, _, rfl, hP9, by omega, fun i5 H10 i5a i5b k10 hP10 => ⟨szL (show 2 ≤ 1000000 by decide), fun t1 ht1 => ?_⟩⟩
      have nD := hP7.ne hD8
      have hL10 : H10 D8 = some (.lst vs) := k10 _ _ nD.1 hL9
      have e1 := Ext.new (o := .tup [.str t, .int i5]) ht1
      have hL11 := e1 _ _ hL10
      have nDt : D8 ≠ t1 := ne_of_none hL10 ht1
      refine ⟨vs, hL11, szLt (by omega), vs ++ [.ref t1], prs ++ [(t, i5)], ?_, upd_same, ?_, fun x hx => ?_, ?_, ?_, ?_⟩
      · rw [List.length_append, List.length_singleton]
        omega
      · refine (paired_imp (fun _ _ => PairAt.mono _ _ _ _ (((TupK.of k10 hP9).trans (TupK.ext e1)).trans (TupK.lst hL11))) hPr).snoc ⟨t1, rfl, ?_⟩
        rw [upd_ne nDt.symm, upd_same]
      · rcases List.mem_append.mp hx with hx | hx
        · exact hOk x hx
        · rw [List.mem_singleton.mp hx]
          exact ⟨hut2 t ht, i5a, i5b⟩
      · exact ((k9.trans k10).trans (Kp.ext e1)).put hD8
      · exact ((hP10.ext e1).put nD.1 nD.2).mono (by omega)
      · rw [List.take_add_one, hti, List.map_append, hpu]
        rfl
    obtain ⟨vs, prs, hvl, hL9, hPr, hOk, k9, hP9, hpu⟩ := hv
    have hpn : (prs.map (·.1)).Nodup := by
      rw [hpu, List.take_of_length_le (by rw [List.length_map]; exact Nat.le_refl _)]
      exact hutn
    have hofp : ∀ y ∈ prs, Of sg y.1 := fun y hy => by
      have h1 : y.1 ∈ prs.map (·.1) := List.mem_map.mpr ⟨y, hy, rfl⟩
      rw [hpu] at h1
      have h2 := husub.subset (perm.mem_iff.mp (List.mem_of_mem_take h1))
      have h3 := List.mem_of_mem_take (hsub.subset h2)
      rw [hte] at h3
      exact evL_of h3
    rw [List.length_map] at hvl hP9
    refine ⟨D8, _, rfl, SqL.of hL9, fun tp oz htp hoz => ?_⟩
    have hTp : FrzOf PairAt (upd H9 tp (.frz oz (.tup vs))) (.ref tp) prs := ⟨tp, oz, vs, rfl, upd_same, hoz, paired_imp (fun _ _ => PairAt.mono _ _ _ _ (TupK.new htp)) hPr⟩
    have hprl : prs.length ≤ 12 := by
      rw [← paired_len hPr]
      omega
    have hP10 := (hP9.new (o := .frz oz (.tup vs)) htp).mono (show n + 18 + 4 * ut.length ≤ n + 66 by omega)
    have k710 : Kp p H7 (upd H9 tp (.frz oz (.tup vs))) := k9.trans (Kp.new htp)
    have kp10 : Kp p H (upd H9 tp (.frz oz (.tup vs))) := kp7.trans k710
    have hS10 := k710 _ _ nso.1 hS7
    generalize upd H9 tp (.frz oz (.tup vs)) = H10 at hTp hP10 kp10 hS10 ⊢
    clear hPr hL9 k9 hP9 k710 htp hvl hpu
    -- apart
    refine ⟨_, rfl, p, c, 4, _, rfl, hP10, by omega, by decide, by decide, fun ra H11 raa rab k11 hP11 => ⟨szL (show 4 ≤ 1000000 by decide), fun l12 hl12 => ?_⟩⟩
    refine ⟨_, rfl, p, c, 4, _, rfl, hP11.new hl12, by omega, by decide, by decide, fun rb H12 rba rbb k12 hP12 => ?_⟩
    obtain ⟨z, hz, hatz⟩ := atI_ints (ns := [0, 0, 1, ra]) rba rbb
    have hz2 : 0 ≤ z ∧ z ≤ 3 := by
      simp only [List.mem_cons, List.not_mem_nil, or_false] at hz
      omega
    refine ⟨l12, _, rb, _, rfl, rfl, SqL.of (k12 _ _ (hP11.ne hl12).1 upd_same), hatz, ?_⟩
    have k1012 : Kp p H10 H12 := (k11.trans (Kp.new hl12)).trans k12
    -- heights
    refine fun st hst => ?_
    have nst := hP12.ne hst
    have hP13 := hP12.new (o := .dT []) hst
    have k1013 : Kp p H10 (upd H12 st (.dT [])) := k1012.trans (Kp.new hst)
    have hS13 := k1013 _ _ nso.1 hS10
    have hD13 : (upd H12 st (.dT [])) st = some (.dT []) := upd_same
    generalize upd H12 st (.dT []) = H13 at hP13 k1013 hS13 hD13 ⊢
    refine ⟨szL (show 3 ≤ 1000000 by decide), fun l14 hl14 => ⟨_, rfl, p, c, 3, _, rfl, hP13.new hl14, by omega, by decide, by decide, fun rc H14 rca rcb k14 hP14 => ?_⟩⟩
    obtain ⟨y, hy, haty⟩ := atI_ints (ns := [0, 2, 12]) rca rcb
    have hy2 : 0 ≤ y ∧ y ≤ 12 := by
      simp only [List.mem_cons, List.not_mem_nil, or_false] at hy
      omega
    have k1314 : Kp p H13 H14 := (Kp.new hl14).trans k14
    have hS14 := k1314 _ _ nso.1 hS13
    have hD14 := k1314 _ _ nst.1 hD13
    refine ⟨l14, _, rc, _, rfl, rfl, SqL.of (k14 _ _ (hP13.ne hl14).1 upd_same), haty, _, rfl, Nat.zero_le _, fun d15 hd15 => ?_⟩
    have x15 := Ext.new (o := .lst []) hd15
    refine ⟨.list (us.map PyData.str), .list [], .lst (SqL.of (x15 _ _ hS14)) (dpStrs us), .lst (SqL.of upd_same) .nil, (sm_strs (n := 36) (m := 2) (by omega) (fun t ht => ⟨(hut t ht).2, Nat.le_of_eq (hut t ht).1⟩) (by decide)).shaped (by decide), by decide, .inr ⟨_, rfl, y, _, rfl, rfl, .inl ⟨by omega, by omega⟩, ?_⟩⟩
    obtain ⟨cnt, hcnt, cnt0, cnt12, cntU⟩ : ∃ cnt : Int, cnt = y * (if (!PyData.eqv (.list (us.map PyData.str)) (.list [])) = true then 1 else 0) ∧ 0 ≤ cnt ∧ cnt ≤ 12 ∧ (0 < cnt → 0 < us.length) := by
      refine ⟨_, rfl, ?_⟩
      cases us with
      | nil =>
        have : (!PyData.eqv (.list (([] : List Str).map PyData.str)) (.list [])) = false := by simp [PyData.eqv, PyData.eqvAll]
        rw [this]
        simp
      | cons y z =>
        have : (!PyData.eqv (.list ((y :: z).map PyData.str)) (.list [])) = true := by simp [PyData.eqv, PyData.eqvAll]
        rw [this, if_pos rfl, Int.mul_one, List.length_cons]
        omega
    refine ⟨cnt, congrArg (fun z => [V.int z]) hcnt.symm, by omega, by omega, for_range (lo := 0) (n := cnt.toNat) (fun i σ H16 => ∃ (y9 y10 : Option V) (es : List (Str × Str × Int)), σ = [some (.ref p), some (.str sg), some (.ref le), y3, some (.int sh), some (.ref so), some (.ref tp), some (.int z), some (.ref st), y9, y10, none, none, none] ∧ H16 st = some (.dT (es.map encE)) ∧ es.length ≤ i ∧ (es.map fun x => (x.1, x.2.1)).Nodup ∧ (∀ x ∈ es, Two x.1 ∧ Two x.2.1 ∧ -99 ≤ x.2.2 ∧ x.2.2 ≤ 99) ∧ H16 so = some (.lst (us.map V.str)) ∧ TupK H14 H16 ∧ Kp p H H16 ∧ Pen H16 p c (n + 69 + 6 * i))
      ⟨_, _, [], rfl, x15 _ _ hD14, Nat.zero_le _, List.nodup_nil, (fun x h => by cases h), x15 _ _ hS14, TupK.ext x15, ((kp10.trans k1013).trans k1314).trans (Kp.ext x15), (hP14.ext x15).mono (by omega)⟩ (fun i σ H16 hi hv => ?_) (fun σ H16 hv => ?_)⟩
    · obtain ⟨y9, y10, es, rfl, hD16, hel, hnd, hok, hS16, tk16, k16, hP16⟩ := hv
      have hu0 : 0 < us.length := cntU (by omega)
      have hul : (us.map V.str).length = us.length := List.length_map ..
      refine ⟨_, rfl, _, rfl, _, rfl, so, _, rfl, .inl (SqL.of hS16), p, c, _, _, rfl, hP16, by omega, by omega, by omega, fun ra H17 raa rab k17 hP17 => ?_⟩
      have hS17 := k17 _ _ nso.1 hS16
      have hD17 := k17 _ _ nst.1 hD16
      obtain ⟨v1, hv1, hat1⟩ := atI_mem (xs := us.map V.str) raa rab
      obtain ⟨t1, ht1, rfl⟩ := List.mem_map.mp hv1
      refine ⟨so, _, ra, _, rfl, rfl, SqL.of hS17, hat1, ?_⟩
      refine ⟨_, rfl, _, rfl, _, rfl, so, _, rfl, .inl (SqL.of hS17), p, c, _, _, rfl, hP17, by omega, by omega, by omega, fun rb H18 rba rbb k18 hP18 => ?_⟩
      have hS18 := k18 _ _ nso.1 hS17
      have hD18 := k18 _ _ nst.1 hD17
      obtain ⟨v2, hv2, hat2⟩ := atI_mem (xs := us.map V.str) rba rbb
      obtain ⟨t2, ht2', rfl⟩ := List.mem_map.mp hv2
      refine ⟨so, _, rb, _, rfl, rfl, SqL.of hS18, hat2, szL (show 2 ≤ 1000000 by decide), fun tk htk => ?_⟩
      have x19 := Ext.new (o := .tup [.str t1, .str t2]) htk
      have hT19 : (upd H18 tk (.tup [.str t1, .str t2])) tk = some (.tup [.str t1, .str t2]) := upd_same
      refine ⟨_, rfl, p, c, _, rfl, hP18.ext x19, by omega, fun w H20 wa wb k20 hP20 => ?_⟩
      have hP19 := hP18.ext x19
      have hD20 := k20 _ _ nst.1 (x19 _ _ hD18)
      have hS20 := k20 _ _ nso.1 (x19 _ _ hS18)
      have hT20 := k20 _ _ (hP19.tup hT19) hT19
      refine ⟨_, rfl, _, rfl, st, _, rfl, DPut.t (k := [.inr t1, .inr t2]) hD20 hT20 (szLt ?_), ?_⟩
      · rw [List.length_map]
        omega
      · rw [put_enc]
        have tkd : TupK H20 (upd H20 st (.dT ((putE es t1 t2 w).map encE))) := ⟨fun b xs e => by rw [upd_ne (ne_of e hD20 (by intro z; cases z))]; exact e, fun b o u e => by rw [upd_ne (ne_of e hD20 (by intro z; cases z))]; exact e⟩
        refine ⟨_, _, putE es t1 t2 w, rfl, upd_same, ?_, putE_keys _ _ _ _ hnd, putE_all hok ⟨hut t1 ht1, hut t2 ht2', wa, wb⟩, ?_, ?_, ?_, ?_⟩
        · have := putE_len es t1 t2 w
          omega
        · rw [upd_ne (ne_of hS20 hD20 (by intro z; cases z))]
          exact hS20
        · exact ((((tk16.trans (TupK.of k17 hP16)).trans (TupK.of k18 hP17)).trans (TupK.ext x19)).trans (TupK.of k20 hP19)).trans tkd
        · have hst0 : H st = none := none_of ((kp10.trans k1012)) nst.1 hst
          exact ((((k16.trans k17).trans k18).trans (Kp.ext x19)).trans k20).put hst0
        · exact (hP20.put nst.1 nst.2).mono (by omega)
    · obtain ⟨y9, y10, es, rfl, hD16, hel, hnd, hok, hS16, tk16, k16, hP16⟩ := hv
      have hes12 : es.length ≤ 12 := by omega
      -- piles
      refine ⟨_, rfl, st, _, rfl, .inl hD16, fun bs hkeys => ?_⟩
      obtain ⟨bes, hb1, hb2, hb3⟩ := keys_zip hkeys
      refine ⟨_, fun x => x.1, fun x => .tuple [.str x.2.1, .str x.2.2.1], bes, hb1.symm, fun x hx => ⟨.tup (SqT.of (hb3 x hx)) (.cons (.str _) (.cons (.str _) .nil)), by simp [PyData.depth, PyData.depthAll]⟩, ?_, .inl ?_, fun ls hls2 => ?_⟩
      · intro d1 h1 d2 h2
        obtain ⟨x1, _, rfl⟩ := List.mem_map.mp h1
        obtain ⟨x2, _, rfl⟩ := List.mem_map.mp h2
        simp [PySem.W.alike, PySem.W.alikeAll]
      · intro d1 h1
        obtain ⟨x1, _, rfl⟩ := List.mem_map.mp h1
        exact ⟨_, _, rfl⟩
      · obtain ⟨S, hS⟩ : ∃ S, S = bes.mergeSort (PySem.W.dataLe false fun x => PyData.tuple [.str x.2.1, .str x.2.2.1]) := ⟨_, rfl⟩
        rw [← hS]
        have hperm : S.Perm bes := hS ▸ List.mergeSort_perm _ _
        have hSl : S.length ≤ 12 := by
          rw [hperm.length_eq]
          have := congrArg List.length hb2
          rw [List.length_map] at this
          omega
        have e17 := Ext.new (o := .lst (S.map fun x => V.ref x.1)) hls2
        refine ⟨ls, rfl, ⟨_, SqL.of upd_same⟩, fun D hD => lc_list (K := K) (xs := S.map fun x => V.ref x.1) (fun i H18 => ∃ (vs : List V) (stk : List (Str × Str × Int)), H18 D = some (.lst vs) ∧ Paired (StackAt H18) vs stk ∧ stk = (S.take i).map (·.2) ∧ Ext (upd H16 ls (.lst (S.map fun x => V.ref x.1))) H18)
          ⟨[], [], upd_same, .nil, rfl, Ext.new hD⟩ (fun i H18 _ ⟨_, _, _, _, _, k⟩ => SqL.of (k _ _ upd_same)) (fun i u H18 hi hv => ?_) (fun H18 hv => ?_)⟩
        · obtain ⟨vs, stk, hL18, hPr18, hstk, k18⟩ := hv
          rw [List.getElem?_map] at hi
          obtain ⟨x, hx, rfl⟩ : ∃ x, S[i]? = some x ∧ u = V.ref x.1 := by
            cases e : S[i]? with
            | none => rw [e] at hi; cases hi
            | some x => rw [e] at hi; exact ⟨x, rfl, (Option.some.inj hi).symm⟩
          have hxm : x ∈ bes := hperm.mem_iff.mp (List.mem_of_getElem? hx)
          have hxe : x.2 ∈ es := hb2 ▸ List.mem_map.mpr ⟨x, hxm, rfl⟩
          have hb18 := k18 _ _ (e17 _ _ (hb3 x hxm))
          have hD18 := k18 _ _ (e17 _ _ hD16)
          have hdg : DGet H18 st (.ref x.1) (some (.int x.2.2.2)) := val_enc hnd hxe ▸ DGet.t (k := [.inr x.2.1, .inr x.2.2.1]) hD18 hb18
          refine ⟨rfl, _, rfl, _, rfl, _, rfl, st, _, rfl, hdg, szL (show 1 ≤ 1000000 by decide), fun t1 ht1 => ?_⟩
          have e19 := Ext.new (o := .tup [.int x.2.2.2]) ht1
          refine ⟨x.1, t1, _, _, rfl, rfl, SqT.of (e19 _ _ hb18), SqT.of upd_same, (fun z => by cases z), szL (show 2 + 1 ≤ 1000000 by decide), (fun z => by cases z), fun _ t2 ht2 => ?_⟩
          have e20 := e19.trans (Ext.new (o := .tup [.str x.2.1, .str x.2.2.1, .int x.2.2.2]) ht2)
          have hL20 := e20 _ _ hL18
          have nDt : t2 ≠ D := by
            intro z
            rw [← z] at hL20
            rw [upd_same] at hL20
            cases hL20
          have hvl : vs.length ≤ 12 := by
            rw [paired_len hPr18, hstk, List.length_map, List.length_take]
            omega
          refine ⟨vs, hL20, szLt (by omega), vs ++ [.ref t2], stk ++ [x.2], upd_same, ?_, ?_, (k18.trans e20).put hD⟩
          · refine (paired_imp (fun _ _ => StackAt.mono _ _ _ _ ((TupK.ext e20).trans (TupK.lst hL20))) hPr18).snoc ⟨t2, rfl, ?_⟩
            rw [upd_ne nDt, upd_same]
          · rw [List.take_add_one, hx, List.map_append, hstk]
            rfl
        · obtain ⟨vs, stk, hL18, hPr18, hstk, k18⟩ := hv
          rw [List.length_map, List.take_of_length_le (Nat.le_refl _)] at hstk
          have hkeys2 : (stk.map fun x => (x.1, x.2.1)).Nodup := by
            rw [hstk, List.map_map]
            have : (S.map ((fun x : Str × Str × Int => (x.1, x.2.1)) ∘ fun x : Addr × Str × Str × Int => x.2)).Perm (es.map fun x => (x.1, x.2.1)) := by
              rw [← hb2, List.map_map]
              exact hperm.map _
            exact this.nodup_iff.mpr hnd
          have hstE : ∀ x ∈ stk, x ∈ es := fun x hx => by
            rw [hstk] at hx
            obtain ⟨y, hy, rfl⟩ := List.mem_map.mp hx
            exact hb2 ▸ List.mem_map.mpr ⟨y, hperm.mem_iff.mp hy, rfl⟩
          have hst12 : stk.length ≤ 12 := by
            rw [hstk, List.length_map]
            exact hSl
          refine ⟨D, _, rfl, .inl ⟨SqL.of hL18, fun tr htr => ?_⟩⟩
          have e21 := (e17.trans k18).trans (Ext.new (o := .tup vs) htr)
          have hTr : TupOf StackAt (upd H18 tr (.tup vs)) (.ref tr) stk := ⟨tr, vs, rfl, upd_same, paired_imp (fun _ _ => StackAt.mono _ _ _ _ (TupK.new htr)) hPr18⟩
          have hP21 := hP16.ext e21
          have k21 := k16.trans (Kp.ext e21)
          have tk21 := tk16.trans (TupK.ext e21)
          generalize upd H18 tr (.tup vs) = H21 at hTr hP21 k21 tk21 ⊢
          -- loops, and the whole
          refine ⟨_, rfl, _, rfl, _, rfl, 9, rfl, by decide, by decide, fun D22 hD22 => lc_range (lo := 0) (n := 9) (fun i H22 => ∃ ns : List Int, ns.length = i ∧ (∀ x ∈ ns, -99 ≤ x ∧ x ≤ 99) ∧ H22 D22 = some (.lst (ns.map V.int)) ∧ Kp p H21 H22 ∧ Pen H22 p c (n + 141 + 4 * i)) ⟨[], rfl, (fun x h => by cases h), upd_same, Kp.new hD22, (hP21.new hD22).mono (by omega)⟩ (fun i H22 hi hv => ?_) (fun H22 hv => ?_)⟩
          · obtain ⟨ns, hns, hnb, hL22, k22, hP22⟩ := hv
            have nD := hP21.ne hD22
            refine ⟨rfl, _, rfl, p, c, _, rfl, hP22, by omega, fun w H23 wa wb k23 hP23 => ⟨_, k23 _ _ nD.1 hL22, szLt ?_, ns ++ [w], ?_, fun x hx => ?_, ?_, (k22.trans k23).put hD22, (hP23.put nD.1 nD.2).mono (by omega)⟩⟩
            · rw [List.length_map]
              omega
            · rw [List.length_append, List.length_singleton]
              omega
            · rcases List.mem_append.mp hx with hx | hx
              · exact hnb x hx
              · rw [List.mem_singleton.mp hx]
                exact ⟨wa, wb⟩
            · rw [upd_same, List.map_append]
              rfl
          · obtain ⟨ns, hns, hnb, hL22, k22, hP22⟩ := hv
            refine ⟨D22, _, rfl, .inl ⟨SqL.of hL22, fun tl htl => ?_⟩⟩
            have x23 := Ext.new (o := .tup (ns.map V.int)) htl
            have hTl : (upd H22 tl (.tup (ns.map V.int))) tl = some (.tup (ns.map V.int)) := upd_same
            refine ⟨_, rfl, szL (show 5 ≤ 1000000 by decide), fun tR htR => ?_⟩
            have xR := Ext.new (o := .tup [.str sg, .ref tp, .int z, .ref tl, .ref tr]) htR
            have kR := k22.trans (Kp.ext (x23.trans xR))
            have tkR : TupK H10 _ := (((TupK.of k1013 hP10).trans (TupK.of k1314 hP13)).trans tk21).trans (TupK.of kR hP21)
            exact q _ ⟨sg, prs, z, _, stk⟩ _ ⟨tR, .ref tp, .ref tl, .ref tr, rfl, upd_same, FrzOf.mono PairAt.mono _ _ _ _ tkR hTp, ⟨tl, _, rfl, xR _ _ hTl, paired_ints ns⟩, TupOf.mono StackAt.mono _ _ _ _ (TupK.of kR hP21) hTr⟩
              ⟨show sg.length ≤ 6 by omega, hs1, hsm, hprl, hOk, hz2.1, hz2.2, hns, hnb, hst12, fun x hx => hok x (hstE x hx), hkeys2, hpn⟩ ⟨hofp, hqq⟩ (k21.trans kR) ((hP22.ext (x23.trans xR)).mono (by omega))
abbrev CRules (P : Program) (w : World) (K : PySem.W.Frag) (mg : Str → Option Value) (base : Heap) : Prop := Ca P w K mg base 3 "_law_rules" ["_law_pen"] spRules
end
end Pf


namespace Pf
open PySem PySem.Spec PyProof.Rows L2
def sgn (x : Str) (i : Int) : Str := ⟨#[x.cps.toList.getD i.toNat 0]⟩
theorem sgn_at {x : Str} {i : Int} (h0 : 0 ≤ i) (h1 : i < x.length) : atI x.cps.toList i = some (x.cps.toList.getD i.toNat 0) := by
  have h2 : i < x.cps.toList.length := by
    rw [Array.length_toList]
    exact h1
  rw [atI_get h0 h2, List.getD_eq_getElem?_getD, List.getElem?_eq_getElem (by omega)]
  rfl
def tx2 (x : Str) (p : Int × Int) : Str := sgn x p.1 ++ sgn x p.2
def pwV : List (Str × Int) → Str → V
  | [], _ => .non
  | (t, x) :: r, b => if t = b then .int x else pwV r b
theorem pwV_at {prs : List (Str × Int)} {i : Nat} {t : Str} {x : Int} (h : prs[i]? = some (t, x)) (b : Str) : pwV (prs.drop i) b = if t = b then .int x else pwV (prs.drop (i + 1)) b := by
  obtain ⟨hi, e⟩ := List.getElem?_eq_some_iff.mp h
  rw [List.drop_eq_getElem_cons hi, e, pwV]
theorem pwV_end {prs : List (Str × Int)} {i : Nat} (h : prs.length ≤ i) (b : Str) : pwV (prs.drop i) b = .non := by
  rw [List.drop_eq_nil_of_le h, pwV]
theorem pwV_is : ∀ (prs : List (Str × Int)) (b : Str), (!decide (pwV prs b = .non)) = decide (b ∈ prs.map (·.1))
  | [], _ => rfl
  | (t, x) :: r, b => by
    rw [pwV, List.map_cons]
    by_cases e : t = b
    · rw [if_pos e, decide_eq_false (fun z => by cases z), decide_eq_true (by rw [e]; exact List.mem_cons_self ..)]
      rfl
    · rw [if_neg e, pwV_is r b]
      refine decide_eq_decide.mpr ⟨fun h => List.mem_cons_of_mem _ h, fun h => ?_⟩
      rcases List.mem_cons.mp h with h | h
      · exact absurd h.symm e
      · exact h
def mayC (r : Rl) (x : Str) (i j : Int) : Bool := decide (r.span < j - i) && decide (tx2 x (i, j) ∈ r.prs.map (·.1))
def encP (x : Str × Int) : Key × V := (.inr x.1, .int x.2)
theorem val_isSome : ∀ (prs : List (Str × Int)) (b : Str), (valV (prs.map encP) (.inr b)).isSome = decide (b ∈ prs.map (·.1))
  | [], _ => rfl
  | (t, x) :: r, b => by
    rw [List.map_cons, List.map_cons]
    by_cases e : t = b
    · rw [valV_pos (show (encP (t, x)).1 = Sum.inr b by rw [e]; rfl), decide_eq_true (by rw [e]; exact List.mem_cons_self ..)]
      rfl
    · rw [valV_neg (show ¬ (encP (t, x)).1 = Sum.inr b from fun z => e (Sum.inr.inj z)), val_isSome r b]
      refine decide_eq_decide.mpr ⟨fun h => List.mem_cons_of_mem _ h, fun h => ?_⟩
      rcases List.mem_cons.mp h with h | h
      · exact absurd h.symm e
      · exact h
theorem merge_nd : ∀ (kvs acc : List (Key × V)), ((acc ++ kvs).map (·.1)).Nodup → mergeK acc kvs = acc ++ kvs
  | [], acc, _ => by rw [List.append_nil]; rfl
  | (k, v) :: r, acc, h => by
    have hno : (acc.any fun kv => decide (kv.1 = k)) = false := by
      rw [List.any_eq_false]
      intro kv hkv e
      have e := of_decide_eq_true e
      rw [List.map_append, List.map_cons] at h
      have := (List.nodup_append.mp h).2.2 kv.1 (List.mem_map.mpr ⟨kv, hkv, rfl⟩) k (List.mem_cons_self ..)
      exact this e
    have e1 : putK acc k v = acc ++ [(k, v)] := by
      unfold putK
      rw [hno, if_neg Bool.false_ne_true]
    show mergeK (putK acc k v) r = _
    rw [e1, merge_nd r (acc ++ [(k, v)]) (by rw [List.append_assoc]; exact h), List.append_assoc]
    rfl
theorem merge_prs {prs : List (Str × Int)} (h : (prs.map (·.1)).Nodup) : mergeK [] (prs.map encP) = prs.map encP := by
  rw [merge_nd, List.nil_append]
  rw [List.nil_append, List.map_map]
  have e : ((fun x : Key × V => x.1) ∘ encP) = (fun x : Str × Int => (Sum.inr x.1 : Key)) := rfl
  rw [e]
  have e2 : (prs.map fun x : Str × Int => (Sum.inr x.1 : Key)) = (prs.map (·.1)).map Sum.inr := by
    rw [List.map_map]
    rfl
  rw [e2]
  exact List.Pairwise.map _ (fun a b z y => z (Sum.inr.inj y)) h
section
variable {P : Program} {w : World} {K : PySem.W.Frag} {mg : Str → Option Value} {base : Heap}
abbrev s_pair_worth : Stmt := topS 13
theorem sc_pair_worth : FnScope ["rules", "both", "text", "worth"] ["rules", "both"] (defScope s_pair_worth) :=
  ⟨rfl, rfl, rfl, by decide +kernel, rfl, by decide +kernel, by decide +kernel⟩
def spPW : Sp := fun vs H Q _ => ∃ (v : V) (r : Rl) (b : Str), vs = [v, .str b] ∧ RulesW H v r ∧ Q (pwV r.prs b) H
theorem ok_pw {f : Addr} {fd : FuncData} {k : Nat} (F : Fun K "pair_worth" "pair_worth" s_pair_worth f fd) : FnOk P w K mg base CX0 (k + 1) f fd ["rules", "both"] spPW := by
  refine F.ok sc_pair_worth (fun vs H Q E h => ?_) (fun cdv A outer s H vs Q E hr h => ?_)
  · obtain ⟨v, r, b, rfl, _⟩ := h
    rfl
  · obtain ⟨v, r, b, rfl, ⟨a, vp, vl, vs, rfl, hA, ⟨ap, us, rfl, hp, hR⟩, _, _⟩, q⟩ := h
    refine ⟨_, (pss_cons (ps_for PassesOwn.never rfl (pi_tup (pe_ix (ixT K) (pv 0) pe_int (fun _ _ => rfl))) (pg_tup rfl (pgs_cons (pg_name (i := 2) sc_pair_worth.nd rfl (.inl rfl)) (pgs_cons (pg_name (i := 3) sc_pair_worth.nd rfl (.inl rfl)) pgs_nil))) (pss_one (ps_if (pt_cmpR op_eq (pv 2) (pv 1) (nomark _)) (pss_one (ps_ret (pv 3))) pss_nil)))
      (pss_one (ps_ret pe_non))), ?_⟩
    have hlen := paired_len hR
    refine ⟨_, rfl, a, _, 1, _, rfl, rfl, SqT.of hA, rfl, ap, rfl, ⟨_, SqT.w hp⟩, for_tup (xs := us) (fun i σ H2 => ∃ (y2 y3 : Option V), σ = [some (.ref a), some (.str b), y2, y3] ∧ H2 = H ∧ pwV (r.prs.drop i) b = pwV r.prs b)
      ⟨none, none, rfl, rfl, rfl⟩ (fun i σ H2 _ ⟨y2, y3, _, e, _⟩ => SqT.w (by rw [e]; exact hp)) (fun i u σ H2 hi hv => ?_) (fun σ H2 hv => ?_)⟩
    · obtain ⟨y2, y3, rfl, rfl, hd⟩ := hv
      obtain ⟨⟨t, x⟩, hx, a1, rfl, ha1⟩ := paired_get hR hi
      rw [pwV_at hx] at hd
      refine ⟨a1, _, rfl, SqT.of ha1, rfl, _, _, rfl, _, _, rfl, rfl, ?_⟩
      refine ⟨_, rfl, _, rfl, rfl, _, rfl, ite2 (fun e => ?_) (fun e => ?_)⟩
      · have e2 : t = b := V.str.inj (of_decide_eq_true e)
        rw [if_pos e2] at hd
        refine ⟨_, rfl, ?_⟩
        show Q (.int x) _
        rw [hd]
        exact q
      · have e2 : ¬ t = b := fun z => e (decide_eq_true (congrArg V.str z))
        rw [if_neg e2] at hd
        exact ⟨_, _, rfl, rfl, hd⟩
    · obtain ⟨y2, y3, rfl, rfl, hd⟩ := hv
      rw [pwV_end (by omega)] at hd
      show Q .non _
      rw [hd]
      exact q
abbrev CPW (P : Program) (w : World) (K : PySem.W.Frag) (mg : Str → Option Value) (base : Heap) : Prop := Ca P w K mg base 1 "pair_worth" ["rules", "both"] spPW
abbrev s_text_of : Stmt := topS 19
theorem sc_text_of : FnScope ["string", "pair"] ["string", "pair"] (defScope s_text_of) :=
  ⟨rfl, rfl, rfl, by decide +kernel, rfl, by decide +kernel, by decide +kernel⟩
def spTextOf : Sp := fun vs H Q _ => ∃ (x : Str) (t : Addr) (y : Int × Int), vs = [.str x, .ref t] ∧ H t = some (.tup [.int y.1, .int y.2]) ∧ x.length ≤ 1000 ∧ 0 ≤ y.1 ∧ y.1 < x.length ∧ 0 ≤ y.2 ∧ y.2 < x.length ∧ Q (.str (tx2 x y)) H
theorem ok_text_of {f : Addr} {fd : FuncData} {k : Nat} (F : Fun K "text_of" "text_of" s_text_of f fd) : FnOk P w K mg base CX0 (k + 1) f fd ["string", "pair"] spTextOf := by
  refine F.ok sc_text_of (fun vs H Q E h => ?_) (fun cdv A outer s H vs Q E hr h => ?_)
  · obtain ⟨x, t, y, rfl, _⟩ := h
    rfl
  · obtain ⟨x, t, y, rfl, hT, hx, i0, i1, j0, j1, q⟩ := h
    refine ⟨_, (pss_one (ps_ret (pe_op op_add_str (pe_ix ix_str (pv 0) (pe_ix (ixT K) (pv 1) pe_int (fun _ _ => rfl)) (fun _ _ => rfl)) (pe_ix ix_str (pv 0) (pe_ix (ixT K) (pv 1) pe_int (fun _ _ => rfl)) (fun _ _ => rfl))))), ?_⟩
    refine ⟨_, rfl, _, rfl, t, _, 0, _, rfl, rfl, SqT.of hT, rfl, x, y.1, _, rfl, rfl, szL (by omega), sgn_at i0 i1, ?_⟩
    refine ⟨_, rfl, _, rfl, t, _, 1, _, rfl, rfl, SqT.of hT, rfl, x, y.2, _, rfl, rfl, szL (by omega), sgn_at j0 j1, ?_⟩
    exact ⟨_, _, rfl, rfl, szL (show 1 + 1 ≤ 1000000 by decide), q⟩
abbrev CTx (P : Program) (w : World) (K : PySem.W.Frag) (mg : Str → Option Value) (base : Heap) : Prop := Ca P w K mg base 1 "text_of" ["string", "pair"] spTextOf
abbrev s_may_pair : Stmt := topS 20
theorem sc_may_pair : FnScope ["rules", "string", "i", "j"] ["rules", "string", "i", "j"] (defScope s_may_pair) :=
  ⟨rfl, rfl, rfl, by decide +kernel, rfl, by decide +kernel, by decide +kernel⟩
def spMP : Sp := fun vs H Q _ => ∃ (v : V) (r : Rl) (x : Str) (i j : Int), vs = [v, .str x, .int i, .int j] ∧ RulesW H v r ∧ x.length ≤ 1000 ∧ 0 ≤ i ∧ i < j ∧ j < x.length ∧ ∀ H', Ext H H' → Q (.bl (mayC r x i j)) H'
theorem ok_mp {f : Addr} {fd : FuncData} (F : Fun K "may_pair" "may_pair" s_may_pair f fd) (ctext_of : CTx P w K mg base) (cpair_worth : CPW P w K mg base) (mlen : mg "len" = none) : FnOk P w K mg base CX0 2 f fd ["rules", "string", "i", "j"] spMP := by
  refine F.ok sc_may_pair (fun vs H Q E h => ?_) (fun cdv A outer s H vs Q E hr h => ?_)
  · obtain ⟨v, r, x, i, j, rfl, _⟩ := h
    rfl
  · obtain ⟨v, r, x, i, j, rfl, hR, hx, e1, e2, e3, q⟩ := h
    obtain ⟨a, vp, vl, vs, rfl, hA, hp, hl, hs⟩ := id hR
    refine ⟨_, (pss_cons (ps_if (pt_not (pt_chain3 op_le op_lt op_lt pe_int (pv 2) (pv 3) (pe_callB call_len_str (by rfl) mlen (by decide +kernel) (pa_cons (pv 1) pa_nil)))) (pss_one (ps_ret pe_bl)) pss_nil)
      (pss_cons (ps_if (pt_cmpR op_lt (pe_op op_sub (pe_op op_sub (pv 3) (pv 2)) pe_int) (pe_ix (ixT K) (pv 0) pe_int (fun _ _ => rfl)) (nomark _)) (pss_one (ps_ret pe_bl)) pss_nil)
      (pss_one (ps_ret (pe_cmpR op_notN (pe_ca cpair_worth (hr.mono (by decide)) (by rfl) (pa_cons (pv 0) (pa_cons (pe_ca ctext_of (hr.mono (by decide)) (by rfl) (pa_cons (pv 1) (pa_cons (pe_tup (pa_cons (pv 2) (pa_cons (pv 3) pa_nil))) pa_nil))) pa_nil))) pe_non (nomark _)))))), ?_⟩
    refine ⟨_, rfl, 0, i, rfl, rfl, _, rfl, ?_⟩
    rw [decide_eq_true e1]
    refine iteT ⟨_, rfl, i, j, rfl, rfl, _, rfl, ?_⟩
    rw [decide_eq_true e2]
    refine iteT ⟨_, rfl, x, rfl, szL (by omega), _, _, rfl, rfl, _, rfl, ?_⟩
    rw [decide_eq_true e3]
    refine iteF ⟨_, rfl, _, rfl, _, _, rfl, rfl, _, 1, rfl, rfl, _, rfl, a, _, 2, _, rfl, rfl, SqT.of hA, rfl, _, _, rfl, rfl, _, rfl, ite2 (fun e4 => ?_) (fun e4 => ?_)⟩
    · have e4 : j - i - 1 < r.span := of_decide_eq_true e4
      have e : mayC r x i j = false := by
        unfold mayC
        rw [decide_eq_false (show ¬ r.span < j - i by omega), Bool.false_and]
      have := q H Ext.refl
      rw [e] at this
      exact this
    · have e4 : ¬ j - i - 1 < r.span := fun z => e4 (decide_eq_true z)
      refine ⟨_, rfl, _, rfl, _, rfl, _, rfl, szL (show 2 ≤ 1000000 by decide), fun t ht => ?_⟩
      refine ⟨x, t, (i, j), rfl, upd_same, hx, e1, (show i < x.length by omega), (show 0 ≤ j by omega), e3, ?_⟩
      refine ⟨_, r, _, rfl, RulesW.mono _ _ _ _ (TupK.new ht) hR, rfl, ?_⟩
      have e : mayC r x i j = !decide (pwV r.prs (tx2 x (i, j)) = .non) := by
        unfold mayC
        rw [decide_eq_true (show r.span < j - i by omega), Bool.true_and, pwV_is]
      have := q _ (Ext.new (o := .tup [.int i, .int j]) ht)
      rw [e] at this
      exact this
abbrev CMP (P : Program) (w : World) (K : PySem.W.Frag) (mg : Str → Option Value) (base : Heap) : Prop := Ca P w K mg base 2 "may_pair" ["rules", "string", "i", "j"] spMP
abbrev s_is_string : Stmt := topS 17
theorem sc_is_string : FnScope ["rules", "thing", "letter"] ["rules", "thing"] (defScope s_is_string) :=
  ⟨rfl, rfl, rfl, by decide +kernel, rfl, by decide +kernel, by decide +kernel⟩
def spIS : Sp := fun vs H Q _ => ∃ (v : V) (r : Rl) (x : Str), vs = [v, .str x] ∧ RulesW H v r ∧ x.length ≤ 12 ∧ Of r.letters x ∧ ∀ H', Ext H H' → Q (.bl true) H'
theorem ok_is {f : Addr} {fd : FuncData} {k : Nat} (F : Fun K "is_string" "is_string" s_is_string f fd) {tM : Tok} (gMOST_PLACES : mg "MOST_PLACES" = some (.int 12 tM)) (misinstance : mg "isinstance" = none) (mstr : mg "str" = none) (mlen : mg "len" = none) (mall : mg "all" = none) : FnOk P w K mg base CX0 (k + 1) f fd ["rules", "thing"] spIS := by
  refine F.ok sc_is_string (fun vs H Q E h => ?_) (fun cdv A outer s H vs Q E hr h => ?_)
  · obtain ⟨v, r, x, rfl, _⟩ := h
    rfl
  · obtain ⟨v, r, x, rfl, hR, hx, hof, q⟩ := h
    obtain ⟨a, vp, vl, vs, rfl, hA, hp, hl, hs⟩ := id hR
    refine ⟨_, (pss_cons (ps_if (PW.pt (pw_or (pt_not (pt_val (pe_callB (isi1 K) (by rfl) misinstance (by decide +kernel) (pa_cons (pv 1) (pa_cons (pe_bltn (v := .ty "str") (by rfl) mstr (by decide +kernel) rfl) pa_nil))))) (pw_or1 (pt_cmpR op_gt (pe_callB call_len_str (by rfl) mlen (by decide +kernel) (pa_cons (pv 1) pa_nil)) (pe_glob (v := .int 12) (by rfl) gMOST_PLACES ⟨_, rfl⟩) (nomark _))))) (pss_one (ps_ret pe_bl)) pss_nil)
      (pss_one (ps_ret (pe_callB (cr_all rfl) (by rfl) mall (by decide +kernel) (pa_cons (pe_lc (own := [("letter", 2)]) (g := gName 2) (by rfl) sc_is_string.nd (pi_str (pv 1)) (blkOk_by (own := [("letter", 2)]) (N := ["rules", "thing", "letter"]) (sc := defScope s_is_string) (by decide +kernel)) (fun _ _ _ _ _ => (pg_name (i := 2) sc_is_string.nd rfl (.inl rfl))) (fun _ _ _ _ _ => pts_nil) (fun _ _ _ _ _ => (pe_cmpR op_in_sign (pv 2) (pe_ix (ixT K) (pv 0) pe_int (fun _ _ => rfl)) (by rfl)))) pa_nil))))), ?_⟩
    refine ⟨_, rfl, .str x, .ty "str", _, _, true, rfl, .ty _, .base (.str x), kit_ty (by decide +kernel), true, rfl, iteF ?_⟩
    refine ⟨_, rfl, x, rfl, szL (by omega), _, _, rfl, rfl, _, rfl, ?_⟩
    rw [decide_eq_false (show ¬ (x.length : Int) > 12 by omega)]
    refine iteF ⟨_, rfl, _, rfl, fun D hD => lc_str (fun i H2 => H2 D = some (.lst ((List.replicate i true).map V.bl)) ∧ Ext H H2) ⟨upd_same, Ext.new hD⟩ (fun i ch H2 hi hv => ?_) (fun H2 hv => ?_)⟩
    · obtain ⟨hL, k2⟩ := hv
      have hi12 : i < x.length := (Array.getElem?_eq_some_iff.mp hi).1
      have hm : ch ∈ r.letters.cps.toList := hof ch (Array.mem_toList_iff.mpr (Array.mem_of_getElem? hi))
      refine ⟨rfl, _, rfl, _, rfl, a, _, 0, _, rfl, rfl, SqT.of (k2 _ _ hA), rfl, ch, r.letters, rfl, rfl, _, hL, szLt ?_, ?_, k2.put hD⟩
      · rw [List.length_map, List.length_replicate]
        omega
      · rw [upd_same, List.replicate_succ', List.map_append, decide_eq_true hm]
        rfl
    · obtain ⟨hL, k2⟩ := hv
      refine ⟨D, _, rfl, SqL.of hL, ?_⟩
      have : (List.replicate x.cps.size true).all id = true := by
        rw [List.all_replicate]
        simp
      rw [this]
      exact q _ k2
abbrev CIS (P : Program) (w : World) (K : PySem.W.Frag) (mg : Str → Option Value) (base : Heap) : Prop := Ca P w K mg base 1 "is_string" ["rules", "thing"] spIS
abbrev s_need_string : Stmt := topS 18
theorem sc_need_string : FnScope ["rules", "thing"] ["rules", "thing"] (defScope s_need_string) :=
  ⟨rfl, rfl, rfl, by decide +kernel, rfl, by decide +kernel, by decide +kernel⟩
def spNS : Sp := fun vs H Q _ => ∃ (v : V) (r : Rl) (x : Str), vs = [v, .str x] ∧ RulesW H v r ∧ x.length ≤ 12 ∧ Of r.letters x ∧ ∀ H', Ext H H' → Q .non H'
theorem ok_ns {f : Addr} {fd : FuncData} (F : Fun K "need_string" "need_string" s_need_string f fd) (cis_string : CIS P w K mg base) : FnOk P w K mg base CX0 2 f fd ["rules", "thing"] spNS := by
  refine F.ok sc_need_string (fun vs H Q E h => ?_) (fun cdv A outer s H vs Q E hr h => ?_)
  · obtain ⟨v, r, x, rfl, _⟩ := h
    rfl
  · obtain ⟨v, r, x, rfl, hR, hx, hof, q⟩ := h
    refine ⟨_, (pss_one (ps_if (pt_not (pt_val (pe_ca cis_string (hr.mono (by decide)) (by rfl) (pa_cons (pv 0) (pa_cons (pv 1) pa_nil))))) (pss_one ps_never) pss_nil)), ?_⟩
    exact ⟨_, rfl, _, rfl, v, r, x, rfl, hR, hx, hof, fun H' k => ⟨_, rfl, iteF (q H' k)⟩⟩
abbrev CNS (P : Program) (w : World) (K : PySem.W.Frag) (mg : Str → Option Value) (base : Heap) : Prop := Ca P w K mg base 2 "need_string" ["rules", "thing"] spNS
abbrev s_law_may : Stmt := topS 59
theorem sc_law_may : FnScope ["_law_book", "_law_word", "_law_i", "_law_j"] ["_law_book", "_law_word", "_law_i", "_law_j"] (defScope s_law_may) :=
  ⟨rfl, rfl, rfl, by decide +kernel, rfl, by decide +kernel, by decide +kernel⟩
def spMay : Sp := fun vs H Q _ => ∃ (v : V) (r : Rl) (x : Str) (i j : Int), vs = [v, .str x, .int i, .int j] ∧ RulesAt H v r ∧ RlOk r ∧ x.length ≤ 1000 ∧ 0 ≤ i ∧ i < x.length ∧ 0 ≤ j ∧ j < x.length ∧ ∀ H', Ext H H' → Q (.bl (mayC r x i j)) H'
theorem ok_may {f : Addr} {fd : FuncData} {k : Nat} (F : Fun K "_law_may" "_law_may" s_law_may f fd) (mdict : mg "dict" = none) : FnOk P w K mg base CX0 (k + 1) f fd ["_law_book", "_law_word", "_law_i", "_law_j"] spMay := by
  refine F.ok sc_law_may (fun vs H Q E h => ?_) (fun cdv A outer s H vs Q E hr h => ?_)
  · obtain ⟨v, r, x, i, j, rfl, _⟩ := h
    rfl
  · obtain ⟨v, r, x, i, j, rfl, hR, ok, hx, i0, i1, j0, j1, q⟩ := h
    obtain ⟨a, vp, vl, vs, rfl, hA, ⟨ap, oz, pus, rfl, hp, hoz, hRp⟩, _, _⟩ := id hR
    refine ⟨_, (pss_one (ps_ret (pe_and (pe_cmpR op_gt (pe_op op_sub (pv 3) (pv 2)) (pe_ix (ixT K) (pv 0) pe_int (fun _ _ => rfl)) (nomark _)) (pe_one (pe_cmp (pc_din (hu_of hr) (pe_op op_add_str (pe_ix ix_str (pv 1) (pv 2) (fun _ _ => rfl)) (pe_ix ix_str (pv 1) (pv 3) (fun _ _ => rfl))) (pe_callTy (dictT K) (by rfl) mdict (by decide +kernel) (pa_cons (pe_ix (ixT K) (pv 0) pe_int (fun _ _ => rfl)) pa_nil))) rfl))))), ?_⟩
    refine ⟨_, rfl, _, rfl, _, _, rfl, rfl, _, rfl, a, _, 2, _, rfl, rfl, SqT.of hA, rfl, _, _, rfl, rfl, _, rfl, ite2 (fun e => ?_) (fun e => ?_)⟩
    · have e : decide (r.span < j - i) = true := e
      obtain ⟨pas, hpas, hpp⟩ : ∃ pas : List Addr, pus = pas.map V.ref ∧ Paired (fun p kv => SqT K H p [kV kv.1, kv.2]) pas (r.prs.map encP) := by
        have aux : ∀ {us : List V} {ps : List (Str × Int)}, Paired (PairAt H) us ps → ∃ pas : List Addr, us = pas.map V.ref ∧ Paired (fun p kv => SqT K H p [kV kv.1, kv.2]) pas (ps.map encP) := by
          intro us ps h
          induction h with
          | nil => exact ⟨[], rfl, .nil⟩
          | cons h t ih =>
            obtain ⟨pas, e, hpp⟩ := ih
            obtain ⟨a1, e1, h1⟩ := h
            exact ⟨a1 :: pas, by rw [e1, e]; rfl, .cons (SqT.of h1) hpp⟩
        exact aux hRp
      refine ⟨_, rfl, _, rfl, x, i, _, rfl, rfl, szL (by omega), sgn_at i0 i1, _, rfl, _, rfl, x, j, _, rfl, rfl, szL (by omega), sgn_at j0 j1, _, _, rfl, rfl, szL (show 1 + 1 ≤ 1000000 by decide), ?_⟩
      refine ⟨_, rfl, a, _, 1, _, rfl, rfl, SqT.of hA, rfl, ap, oz, pas, r.prs.map encP, rfl, by rw [← hpas]; exact hp, hoz, hpp, fun d hd => ?_⟩
      rw [merge_prs ok.pn]
      refine ⟨d, _, rfl, DGet.k (k := .inr (tx2 x (i, j))) upd_same, ?_⟩
      rw [val_isSome]
      have := q _ (Ext.new (o := .dK (r.prs.map encP)) hd)
      unfold mayC at this
      rw [e, Bool.true_and] at this
      exact this
    · have e : decide (r.span < j - i) = false := Bool.eq_false_iff.mpr e
      have := q H Ext.refl
      unfold mayC at this
      rw [e, Bool.false_and] at this
      exact this
abbrev CMay (P : Program) (w : World) (K : PySem.W.Frag) (mg : Str → Option Value) (base : Heap) : Prop := Ca P w K mg base 1 "_law_may" ["_law_book", "_law_word", "_law_i", "_law_j"] spMay
end
end Pf


namespace Pf
open PySem PySem.Spec PyProof.Rows L2
abbrev Fo : Type := List (Int × Int)
/-! ### all foldings of a stretch, one behind another -/
def seg (r : Rl) (x : Str) (W : Nat → Int → List Fo) (n : Nat) (a : Int) (t : Nat) : List Fo :=
  if mayC r x a (a + 1 + t) = true then (W t (a + 1)).flatMap fun one => (W (n - 1 - t) (a + 2 + t)).map fun other => (a, a + 1 + t) :: (one ++ other) else []
def ws (r : Rl) (x : Str) : Nat → Nat → Int → List Fo
  | 0, _, _ => [[]]
  | _ + 1, 0, _ => [[]]
  | f + 1, n + 1, a => ws r x f n (a + 1) ++ (List.range n).flatMap fun t => seg r x (ws r x f) n a t
theorem seg_congr {r : Rl} {x : Str} {W W' : Nat → Int → List Fo} {n : Nat} {a : Int} {t : Nat} (ht : t < n) (h : ∀ m b, m < n → W m b = W' m b) : seg r x W n a t = seg r x W' n a t := by
  unfold seg
  rw [h t _ ht, h (n - 1 - t) _ (by omega)]
theorem flat_congr {α β : Type} {f g : α → List β} {l : List α} (h : ∀ y ∈ l, f y = g y) : l.flatMap f = l.flatMap g := by
  rw [List.flatMap_def, List.flatMap_def, List.map_congr_left h]
theorem ws_fuel (r : Rl) (x : Str) : ∀ (n f g : Nat) (a : Int), n ≤ f → n ≤ g → ws r x f n a = ws r x g n a := by
  intro n
  induction n using Nat.strongRecOn with
  | ind n ih =>
    intro f g a hf hg
    match n, f, g, hf, hg, ih with
    | 0, 0, 0, _, _, _ => rfl
    | 0, 0, g + 1, _, _, _ => rfl
    | 0, f + 1, 0, _, _, _ => rfl
    | 0, f + 1, g + 1, _, _, _ => rfl
    | n + 1, f + 1, g + 1, hf, hg, ih =>
      rw [ws, ws, ih n (by omega) f g (a + 1) (by omega) (by omega)]
      congr 1
      refine flat_congr fun t ht => ?_
      have ht := List.mem_range.mp ht
      exact seg_congr ht fun m b hm => ih m (by omega) f g b (by omega) (by omega)
def WA (r : Rl) (x : Str) (n : Nat) (a : Int) : List Fo := ws r x n n a
theorem WA_zero (r : Rl) (x : Str) (a : Int) : WA r x 0 a = [[]] := rfl
theorem WA_succ (r : Rl) (x : Str) (n : Nat) (a : Int) : WA r x (n + 1) a = WA r x n (a + 1) ++ (List.range n).flatMap fun t => seg r x (WA r x) n a t := by
  unfold WA
  rw [ws]
  congr 1
  refine flat_congr fun t ht => ?_
  have ht := List.mem_range.mp ht
  exact seg_congr ht fun m b hm => ws_fuel r x m n m b (by omega) (Nat.le_refl _)
theorem WA_one (r : Rl) (x : Str) (a : Int) : WA r x 1 a = [[]] := by
  rw [WA_succ, WA_zero]
  rfl
theorem WA_head (r : Rl) (x : Str) : ∀ (n : Nat) (a : Int), ∃ t, WA r x n a = [] :: t
  | 0, _ => ⟨[], rfl⟩
  | n + 1, a => by
    obtain ⟨t, e⟩ := WA_head r x n (a + 1)
    rw [WA_succ, e]
    exact ⟨_, rfl⟩
/-! ### how many, how long -/
def mz : Nat → Nat → Nat
  | 0, _ => 1
  | _ + 1, 0 => 1
  | f + 1, n + 1 => mz f n + ((List.range n).map fun t => mz f t * mz f (n - 1 - t)).sum
theorem sum_le {f g : Nat → Nat} : ∀ {l : List Nat}, (∀ t ∈ l, f t ≤ g t) → (l.map f).sum ≤ (l.map g).sum
  | [], _ => Nat.le_refl _
  | t :: r, h => by
    have h1 := h t (List.mem_cons_self ..)
    have h2 := sum_le (l := r) fun y hy => h y (List.mem_cons_of_mem _ hy)
    rw [List.map_cons, List.sum_cons, List.map_cons, List.sum_cons]
    omega
theorem flat_len {α β : Type} (f : α → List β) : ∀ l : List α, (l.flatMap f).length = (l.map fun y => (f y).length).sum
  | [] => rfl
  | y :: r => by
    rw [List.flatMap_cons, List.length_append, flat_len f r, List.map_cons, List.sum_cons]
theorem flat_const {α β : Type} {f : α → List β} {c : Nat} : ∀ {l : List α}, (∀ y ∈ l, (f y).length = c) → (l.flatMap f).length = l.length * c
  | [], _ => by rw [List.length_nil, Nat.zero_mul]; rfl
  | y :: r, h => by
    rw [List.flatMap_cons, List.length_append, h y (List.mem_cons_self ..), flat_const fun z hz => h z (List.mem_cons_of_mem _ hz), List.length_cons, Nat.succ_mul]
    omega
theorem seg_len {r : Rl} {x : Str} {W : Nat → Int → List Fo} {n : Nat} {a : Int} {t : Nat} : (seg r x W n a t).length ≤ (W t (a + 1)).length * (W (n - 1 - t) (a + 2 + t)).length := by
  unfold seg
  split
  · rw [flat_const (c := (W (n - 1 - t) (a + 2 + t)).length) fun y _ => List.length_map ..]
    exact Nat.le_refl _
  · exact Nat.zero_le _
theorem ws_len (r : Rl) (x : Str) : ∀ (f n : Nat) (a : Int), (ws r x f n a).length ≤ mz f n
  | 0, _, _ => Nat.le_refl _
  | _ + 1, 0, _ => Nat.le_refl _
  | f + 1, n + 1, a => by
    rw [ws, mz, List.length_append, flat_len]
    refine Nat.add_le_add (ws_len r x f n (a + 1)) (sum_le fun t _ => ?_)
    exact Nat.le_trans seg_len (Nat.mul_le_mul (ws_len r x f t _) (ws_len r x f _ _))
theorem WA_len (r : Rl) (x : Str) {n : Nat} (hn : n ≤ 12) (a : Int) : (WA r x n a).length ≤ 15511 := by
  have h1 := ws_len r x n n a
  have h2 : ∀ m : Nat, m < 13 → mz m m ≤ 15511 := by decide +kernel
  exact Nat.le_trans h1 (h2 n (by omega))
theorem WA_len10 (r : Rl) (x : Str) {n : Nat} (hn : n ≤ 10) (a : Int) : (WA r x n a).length ≤ 2188 := by
  have h1 := ws_len r x n n a
  have h2 : ∀ m : Nat, m < 11 → mz m m ≤ 2188 := by decide +kernel
  exact Nat.le_trans h1 (h2 n (by omega))
/-- each folding of a stretch: places within it, at most half as many pairs -/
theorem WA_in (r : Rl) (x : Str) : ∀ (n : Nat) (a : Int), ∀ q ∈ WA r x n a, (∀ y ∈ q, a ≤ y.1 ∧ y.1 < y.2 ∧ y.2 < a + n) ∧ 2 * q.length ≤ n := by
  intro n
  induction n using Nat.strongRecOn with
  | ind n ih =>
    intro a q hq
    match n, ih, hq with
    | 0, _, hq =>
      rw [WA_zero, List.mem_singleton] at hq
      subst hq
      exact ⟨(fun y hy => by cases hy), Nat.zero_le _⟩
    | n + 1, ih, hq =>
      rw [WA_succ] at hq
      rcases List.mem_append.mp hq with hq | hq
      · have := ih n (by omega) (a + 1) q hq
        exact ⟨fun y hy => by have := this.1 y hy; omega, by omega⟩
      · obtain ⟨t, ht, hq⟩ := List.mem_flatMap.mp hq
        have ht := List.mem_range.mp ht
        unfold seg at hq
        split at hq
        · obtain ⟨one, h1, hq⟩ := List.mem_flatMap.mp hq
          obtain ⟨other, h2, rfl⟩ := List.mem_map.mp hq
          have i1 := ih t (by omega) (a + 1) one h1
          have i2 := ih (n - 1 - t) (by omega) (a + 2 + t) other h2
          refine ⟨fun y hy => ?_, ?_⟩
          · rcases List.mem_cons.mp hy with rfl | hy
            · show a ≤ a ∧ a < a + 1 + t ∧ a + 1 + t < a + (n + 1 : Nat)
              omega
            · rcases List.mem_append.mp hy with hy | hy
              · have := i1.1 y hy
                omega
              · have := i2.1 y hy
                omega
          · rw [List.length_cons, List.length_append]
            omega
        · cases hq
/-! ### foldings in the heap, in a list -/
abbrev FoAt : Hp → V → Fo → Prop := TupOf TwoAt
theorem FoAt.mono : Mono FoAt := TupOf.mono TwoAt.mono
theorem paired_get2 {α β : Type} {R : α → β → Prop} {xs : List α} {ys : List β} {i : Nat} {x : α} (h : Paired R xs ys) (e : xs[i]? = some x) : ∃ y, ys[i]? = some y ∧ R x y := paired_get h e
section
variable {β : Type} {R : Hp → V → β → Prop} {D : Addr} {H H1 H4 : Hp} {bs : List β} {i n : Nat} {v : V} {b : β}
def GenP (R : Hp → V → β → Prop) (D : Addr) (H1 : Hp) (bs : List β) (i : Nat) (H : Hp) : Prop := ∃ vs, H D = some (.lst vs) ∧ Paired (R H) vs (bs.take i) ∧ Ext H1 H
theorem gen_new (hD : H1 D = none) : GenP R D H1 bs 0 (upd H1 D (.lst [])) := ⟨[], upd_same, by rw [List.take_zero]; exact .nil, Ext.new hD⟩
theorem GenP.ext (h : GenP R D H1 bs i H) : Ext H1 H := by
  obtain ⟨_, _, _, k⟩ := h
  exact k
theorem gen_step (m : Mono R) (hD : H1 D = none) (h : GenP R D H1 bs i H) (k : Ext H H4) (hv : R H4 v b) (hb : bs[i]? = some b) (hn : bs.length ≤ 1000000) : ∃ acc, H4 D = some (.lst acc) ∧ acc.length < sizeLine ∧ GenP R D H1 bs (i + 1) (upd H4 D (.lst (acc ++ [v]))) := by
  obtain ⟨vs, hL, hP, k1⟩ := h
  have hl := paired_len hP
  rw [List.length_take] at hl
  have hi := (List.getElem?_eq_some_iff.mp hb).1
  have hL4 := k _ _ hL
  refine ⟨vs, hL4, szLt (by omega), vs ++ [v], upd_same, ?_, (k1.trans k).put hD⟩
  rw [List.take_add_one, hb]
  exact paired_app (paired_imp (fun _ _ => m _ _ _ _ ((TupK.ext k).trans (TupK.lst hL4))) hP) (.cons (m _ _ _ _ (TupK.lst hL4) hv) .nil)
theorem gen_end (h : GenP R D H1 bs n H) (hn : bs.length ≤ n) : ∃ vs, H D = some (.lst vs) ∧ Paired (R H) vs bs ∧ Ext H1 H := by
  obtain ⟨vs, hL, hP, k⟩ := h
  rw [List.take_of_length_le hn] at hP
  exact ⟨vs, hL, hP, k⟩
end
section
variable {P : Program} {w : World} {K : PySem.W.Frag} {mg : Str → Option Value} {base : Heap}
abbrev s_law_ways : Stmt := topS 60
theorem sc_law_ways : FnScope ["_law_book", "_law_word", "_law_first", "_law_end", "_law_found", "_law_k", "_law_inner", "_law_behind", "_law_one", "_law_other"] ["_law_book", "_law_word", "_law_first", "_law_end"] (defScope s_law_ways) :=
  ⟨rfl, rfl, rfl, by decide +kernel, rfl, by decide +kernel, by decide +kernel⟩
def spWays (d : Nat) : Sp := fun vs H Q _ => ∃ (v : V) (r : Rl) (x : Str) (a b : Int), vs = [v, .str x, .int a, .int b] ∧ RulesAt H v r ∧ RlOk r ∧ x.length ≤ 12 ∧ 0 ≤ a ∧ a ≤ b ∧ b ≤ x.length ∧ (b - a).toNat < d ∧
  ∀ (l : Addr) (us : List V) (H' : Hp), H l = none → H' l = some (.lst us) → Paired (FoAt H') us (WA r x (b - a).toNat a) → Ext H H' → Q (.ref l) H'
theorem ok_ways {f : Addr} {fd : FuncData} (F : Fun K "_law_ways" "_law_ways" s_law_ways f fd) (bF : Binds K fd ["_law_book", "_law_word", "_law_first", "_law_end"] []) (gF : mg "_law_ways" = some (.ref f)) (c_law_may : CMay P w K mg base) (mrange : mg "range" = none) :
    ∀ d : Nat, FnOk P w K mg base CX0 (2 + d) f fd ["_law_book", "_law_word", "_law_first", "_law_end"] (spWays d)
  | 0 => ⟨fun vs H Q E h => by
      obtain ⟨v, r, x, a, b, rfl, _⟩ := h
      rfl, fun A outer s H args us vs Q E _ _ _ _ h => by
      obtain ⟨v, r, x, a, b, _, _, _, _, _, _, _, h2, _⟩ := h
      omega⟩
  | d + 1 => by
    have c_law_ways : Ca P w K mg base (2 + d) "_law_ways" ["_law_book", "_law_word", "_law_first", "_law_end"] (spWays d) := ⟨f, fd, ok_ways F bF gF c_law_may mrange d, gF, F.kp, bF⟩
    refine F.ok (k := 2 + d) sc_law_ways (fun vs H Q E h => ?_) (fun cdv A outer s H vs Q E hr h => ?_)
    · obtain ⟨v, r, x, a, b, rfl, _⟩ := h
      rfl
    · obtain ⟨v, r, x, a, b, rfl, hR, ok, hx, a0, ab, bx, hd, q⟩ := h
      refine ⟨_, (pss_cons (ps_if (pt_cmpR op_le (pv 3) (pe_op op_add (pv 2) pe_int) (nomark _)) (pss_one (ps_ret (pe_lst (pa_cons (pe_tup pa_nil) pa_nil)))) pss_nil)
      (pss_cons (ps_set (i := 4) sc_law_ways.nd rfl (.inl rfl) (pe_ca c_law_ways (hr.mono (by omega)) (by rfl) (pa_cons (pv 0) (pa_cons (pv 1) (pa_cons (pe_op op_add (pv 2) pe_int) (pa_cons (pv 3) pa_nil))))))
      (pss_cons (ps_for PassesOwn.never rfl (pi_range2 (by rfl) mrange (pa_cons (pe_op op_add (pv 2) pe_int) (pa_cons (pv 3) pa_nil))) (pg_name (i := 5) sc_law_ways.nd rfl (.inr rfl)) (pss_one (ps_if (pt_val (pe_ca c_law_may (hr.mono (by omega)) (by rfl) (pa_cons (pv 0) (pa_cons (pv 1) (pa_cons (pv 2) (pa_cons (pv 5) pa_nil)))))) (pss_cons (ps_set (i := 6) sc_law_ways.nd rfl (.inl rfl) (pe_ca c_law_ways (hr.mono (by omega)) (by rfl) (pa_cons (pv 0) (pa_cons (pv 1) (pa_cons (pe_op op_add (pv 2) pe_int) (pa_cons (pv 5) pa_nil))))))
      (pss_cons (ps_set (i := 7) sc_law_ways.nd rfl (.inl rfl) (pe_ca c_law_ways (hr.mono (by omega)) (by rfl) (pa_cons (pv 0) (pa_cons (pv 1) (pa_cons (pe_op op_add (pv 5) pe_int) (pa_cons (pv 3) pa_nil))))))
      (pss_one (ps_for PassesOwn.never rfl (pi_list (pv 6)) (pg_name (i := 8) sc_law_ways.nd rfl (.inr rfl)) (pss_one (ps_set (i := 4) sc_law_ways.nd rfl (.inl rfl) (pe_op op_cat (pv 4) (pe_lc (own := [("_law_other", 9)]) (g := gName 9) (by rfl) sc_law_ways.nd (pi_list (pv 7)) (blkOk_by (own := [("_law_other", 9)]) (N := ["_law_book", "_law_word", "_law_first", "_law_end", "_law_found", "_law_k", "_law_inner", "_law_behind", "_law_one", "_law_other"]) (sc := defScope s_law_ways) (by decide +kernel)) (fun _ _ _ _ _ => (pg_name (i := 9) sc_law_ways.nd rfl (.inl rfl))) (fun _ _ _ _ _ => pts_nil) (fun _ _ _ _ _ => (pe_op (catE K) (pe_op (catE K) (pe_tup (pa_cons (pe_tup (pa_cons (pv 2) (pa_cons (pv 5) pa_nil))) pa_nil)) (pv 8)) (pv 9))))))))))) pss_nil)))
      (pss_one (ps_ret (pv 4)))))), ?_⟩
      refine ⟨_, rfl, _, rfl, a, 1, rfl, rfl, _, _, rfl, rfl, _, rfl, ite2 (fun e => ?_) (fun e => ?_)⟩
      · have e : b ≤ a + 1 := of_decide_eq_true e
        refine ⟨Nat.zero_le _, fun t ht => ⟨szL (show 1 ≤ 1000000 by decide), fun l hl => ?_⟩⟩
        have x1 := Ext.new (o := .tup []) ht
        have x2 := Ext.new (o := .lst [.ref t]) hl
        refine q l [.ref t] _ (x1.none hl) upd_same ?_ (x1.trans x2)
        have ew : WA r x (b - a).toNat a = [[]] := by
          by_cases c : b = a
          · rw [show (b - a).toNat = 0 by omega]
            rfl
          · rw [show (b - a).toNat = 1 by omega]
            exact WA_one r x a
        rw [ew]
        exact .cons ⟨t, [], rfl, x2 _ _ upd_same, .nil⟩ .nil
      · have e : ¬ b ≤ a + 1 := fun z => e (decide_eq_true z)
        have hab : (b - (a + 1)).toNat + 1 = (b - a).toNat := by omega
        rw [← hab, WA_succ] at q
        obtain ⟨n, hn⟩ : ∃ n, n = (b - (a + 1)).toNat := ⟨_, rfl⟩
        have hn12 : n + 1 ≤ 12 := by omega
        have wl := WA_len r x (n := n + 1) (by omega) a
        rw [WA_succ, List.length_append] at wl
        refine ⟨_, rfl, _, rfl, _, rfl, a, 1, rfl, rfl, _, rfl, v, r, x, a + 1, b, rfl, hR, ok, hx, by omega, by omega, bx, by omega, fun l1 us1 H1 hl1 hL1 hP1 k1 => ?_⟩
        rw [← hn] at hP1 q
        have rulE : ∀ {H' : Hp}, Ext H H' → RulesAt H' v r := fun k => RulesAt.mono _ _ _ _ (TupK.ext k) hR
        refine ⟨_, rfl, a, 1, rfl, rfl, _, rfl, a + 1, b, rfl, ⟨by omega, by omega, by omega, by omega⟩, for_range (lo := a + 1) (n := (b - (a + 1)).toNat) (fun t σ H2 => ∃ (y5 y6 y7 y8 : Option V) (l : Addr) (us : List V), σ = [some v, some (.str x), some (.int a), some (.int b), some (.ref l), y5, y6, y7, y8, none] ∧ H l = none ∧ H2 l = some (.lst us) ∧ Paired (FoAt H2) us (WA r x n (a + 1) ++ (List.range t).flatMap fun t => seg r x (WA r x) n a t) ∧ Ext H H2)
          ⟨none, none, none, none, l1, us1, rfl, hl1, hL1, by rw [List.range_zero, List.flatMap_nil, List.append_nil]; exact hP1, k1⟩ (fun t σ H2 ht hv => ?_) (fun σ H2 hv => ?_)⟩
        · obtain ⟨y5, y6, y7, y8, l, us, rfl, hl, hL2, hP2, k2⟩ := hv
          have ht' : t < n := by omega
          have eflat : (List.range (t + 1)).flatMap (fun t => seg r x (WA r x) n a t) = (List.range t).flatMap (fun t => seg r x (WA r x) n a t) ++ seg r x (WA r x) n a t := by
            rw [List.range_succ, List.flatMap_append]
            simp
          have esub : ((List.range (t + 1)).flatMap fun t => seg r x (WA r x) n a t).length ≤ ((List.range n).flatMap fun t => seg r x (WA r x) n a t).length := by
            rw [flat_len, flat_len]
            have : (List.range n) = List.range (t + 1) ++ (List.range (n - (t + 1))).map (fun y => (t + 1) + y) := by
              rw [← List.range_add]
              congr 1
              omega
            rw [this, List.map_append, List.sum_append]
            omega
          refine ⟨_, rfl, _, rfl, _, rfl, _, rfl, v, r, x, a, a + 1 + t, rfl, rulE k2, ok, by omega, a0, by omega, by omega, by omega, fun H3 k3 => ⟨_, rfl, ite2 (fun em => ?_) (fun em => ?_)⟩⟩
          · have k03 := k2.trans k3
            have es : seg r x (WA r x) n a t = (WA r x t (a + 1)).flatMap fun one => (WA r x (n - 1 - t) (a + 2 + t)).map fun other => (a, a + 1 + t) :: (one ++ other) := by
              unfold seg
              rw [if_pos em]
            rw [eflat, es, List.length_append] at esub
            -- inner, behind
            refine ⟨_, rfl, _, rfl, _, rfl, a, 1, rfl, rfl, _, rfl, v, r, x, a + 1, a + 1 + t, rfl, rulE k03, ok, hx, by omega, by omega, by omega, by omega, fun l4 us4 H4 hl4 hL4 hP4 k4 => ?_⟩
            rw [show (a + 1 + (t : Int) - (a + 1)).toNat = t by omega] at hP4
            refine ⟨_, rfl, _, rfl, _, rfl, a + 1 + t, 1, rfl, rfl, _, rfl, v, r, x, a + 1 + t + 1, b, rfl, rulE (k03.trans k4), ok, hx, by omega, by omega, by omega, by omega, fun l5 us5 H5 hl5 hL5 hP5 k5 => ?_⟩
            rw [show (b - (a + 1 + (t : Int) + 1)).toNat = n - 1 - t by omega, show a + 1 + (t : Int) + 1 = a + 2 + t by omega] at hP5
            have k05 := (k03.trans k4).trans k5
            have k35 := k4.trans k5
            have h4l := paired_len hP4
            have h5l := paired_len hP5
            refine ⟨_, rfl, l4, rfl, ⟨_, SqL.of (k5 _ _ hL4)⟩, for_list (K := K) (xs := us4) (fun j σ H6 => ∃ (y8 : Option V) (l : Addr) (us : List V), σ = [some v, some (.str x), some (.int a), some (.int b), some (.ref l), some (.int (a + 1 + (t : Int))), some (.ref l4), some (.ref l5), y8, none] ∧ H l = none ∧ H6 l = some (.lst us) ∧ Paired (FoAt H6) us ((WA r x n (a + 1) ++ (List.range t).flatMap fun t => seg r x (WA r x) n a t) ++ ((WA r x t (a + 1)).take j).flatMap fun one => (WA r x (n - 1 - t) (a + 2 + t)).map fun other => (a, a + 1 + t) :: (one ++ other)) ∧ Ext H5 H6)
              ⟨y8, l, us, rfl, hl, k35 _ _ (k3 _ _ hL2), by rw [List.take_zero, List.flatMap_nil, List.append_nil]; exact paired_imp (fun _ _ => FoAt.mono _ _ _ _ (TupK.ext (k3.trans k35))) hP2, Ext.refl⟩ (fun j σ H6 _ ⟨_, _, _, _, _, _, _, k⟩ => SqL.of (k _ _ (k5 _ _ hL4))) (fun j u σ H6 hj hv => ?_) (fun σ H6 hv => ?_)⟩
            · obtain ⟨y8, l, us, rfl, hl, hL6, hP6, k6⟩ := hv
              obtain ⟨one, hone, t1, fs1, rfl, hT1, hF1⟩ := paired_get hP4 hj
              have k46 := k5.trans k6
              have hjl : j < (WA r x t (a + 1)).length := (List.getElem?_eq_some_iff.mp hone).1
              -- the comprehension
              refine ⟨_, rfl, _, rfl, l5, rfl, ⟨_, SqL.of (k6 _ _ hL5)⟩, fun D hD => lc_list (K := K) (xs := us5) (GenP FoAt D H6 ((WA r x (n - 1 - t) (a + 2 + t)).map fun other => (a, a + 1 + (t : Int)) :: (one ++ other))) (gen_new hD) (fun i H7 _ h => SqL.of (h.ext _ _ (k6 _ _ hL5))) (fun i u H7 hi hv => ?_) (fun H7 hv => ?_)⟩
              · obtain ⟨other, hother, t2, fs2, rfl, hT2, hF2⟩ := paired_get hP5 hi
                have k7 := hv.ext
                have k67 := k6.trans k7
                have hone1 := (WA_in r x t (a + 1) one (List.mem_of_getElem? hone)).2
                have hoth1 := (WA_in r x (n - 1 - t) (a + 2 + t) other (List.mem_of_getElem? hother)).2
                have f1l := paired_len hF1
                have f2l := paired_len hF2
                refine ⟨rfl, _, rfl, _, rfl, szL (show 2 ≤ 1000000 by decide), fun tp htp => ⟨szL (show 1 ≤ 1000000 by decide), fun tq htq => ?_⟩⟩
                have x8 := Ext.new (o := .tup [.int a, .int (a + 1 + (t : Int))]) htp
                have x9 := Ext.new (o := .tup [.ref tp]) htq
                have x89 := x8.trans x9
                refine ⟨_, rfl, tq, t1, _, fs1, rfl, rfl, upd_same, (k46.trans (k7.trans x89)) _ _ hT1, szL (by rw [List.length_singleton]; omega), fun p10 H10 k10 hp10 => ?_⟩
                refine ⟨_, rfl, p10, t2, _, fs2, rfl, rfl, hp10, (k67.trans (x89.trans k10)) _ _ hT2, szL (by rw [List.length_append, List.length_singleton]; omega), fun p11 H11 k11 hp11 => ?_⟩
                have kk := x89.trans (k10.trans k11)
                refine gen_step FoAt.mono hD hv kk (b := (a, a + 1 + (t : Int)) :: (one ++ other)) ⟨p11, _, rfl, hp11, ?_⟩ ?_ ?_
                · have eap : [V.ref tp] ++ fs1 ++ fs2 = V.ref tp :: (fs1 ++ fs2) := rfl
                  rw [eap]
                  refine .cons ⟨tp, rfl, (x9.trans (k10.trans k11)) _ _ upd_same⟩ (paired_app (paired_imp (fun _ _ => TwoAt.mono _ _ _ _ (TupK.ext (k46.trans (k7.trans kk)))) hF1) (paired_imp (fun _ _ => TwoAt.mono _ _ _ _ (TupK.ext (k67.trans kk))) hF2))
                · rw [List.getElem?_map, hother]
                  rfl
                · rw [List.length_map]
                  have := WA_len r x (n := n - 1 - t) (by omega) (a + 2 + t)
                  omega
              obtain ⟨vs7, hL7, hP7, k7⟩ := gen_end hv (by rw [List.length_map]; omega)
              clear hv
              have h6l := paired_len hP6
              have h7l := paired_len hP7
              rw [List.length_map] at h7l
              have etake : ((WA r x t (a + 1)).take (j + 1)).flatMap (fun one => (WA r x (n - 1 - t) (a + 2 + t)).map fun other => (a, a + 1 + (t : Int)) :: (one ++ other)) = ((WA r x t (a + 1)).take j).flatMap (fun one => (WA r x (n - 1 - t) (a + 2 + t)).map fun other => (a, a + 1 + (t : Int)) :: (one ++ other)) ++ (WA r x (n - 1 - t) (a + 2 + t)).map fun other => (a, a + 1 + (t : Int)) :: (one ++ other) := by
                rw [List.take_add_one, hone, List.flatMap_append]
                simp
              have esz : us.length + vs7.length ≤ 15511 := by
                have e1 : (((WA r x t (a + 1)).take (j + 1)).flatMap (fun one => (WA r x (n - 1 - t) (a + 2 + t)).map fun other => (a, a + 1 + (t : Int)) :: (one ++ other))).length ≤ ((WA r x t (a + 1)).flatMap (fun one => (WA r x (n - 1 - t) (a + 2 + t)).map fun other => (a, a + 1 + (t : Int)) :: (one ++ other))).length := by
                  rw [flat_const (c := (WA r x (n - 1 - t) (a + 2 + t)).length) (fun y _ => List.length_map ..), flat_const (c := (WA r x (n - 1 - t) (a + 2 + t)).length) (fun y _ => List.length_map ..)]
                  exact Nat.mul_le_mul_right _ (by rw [List.length_take]; omega)
                rw [etake, List.length_append, List.length_map] at e1
                rw [List.length_append, List.length_append] at h6l
                omega
              refine ⟨l, D, us, vs7, rfl, rfl, k7 _ _ hL6, hL7, szL (by omega), fun l8 hl8 => ?_⟩
              have x8 := Ext.new (o := .lst (us ++ vs7)) hl8
              refine ⟨_, l8, us ++ vs7, rfl, (k05.trans (k6.trans k7)).none hl8, upd_same, ?_, (k6.trans k7).trans x8⟩
              rw [etake, ← List.append_assoc]
              exact paired_app (paired_imp (fun _ _ => FoAt.mono _ _ _ _ (TupK.ext (k7.trans x8))) hP6) (paired_imp (fun _ _ => FoAt.mono _ _ _ _ (TupK.ext x8)) hP7)
            · obtain ⟨y8, l, us, rfl, hl, hL6, hP6, k6⟩ := hv
              rw [List.take_of_length_le (by omega)] at hP6
              refine ⟨_, _, _, _, l, us, rfl, hl, hL6, ?_, k05.trans k6⟩
              rw [eflat, es, ← List.append_assoc]
              exact hP6
          · have es : seg r x (WA r x) n a t = [] := by
              unfold seg
              rw [if_neg em]
            refine ⟨_, _, _, _, l, us, rfl, hl, k3 _ _ hL2, ?_, k2.trans k3⟩
            rw [eflat, es, List.append_nil]
            exact paired_imp (fun _ _ => FoAt.mono _ _ _ _ (TupK.ext k3)) hP2
        · obtain ⟨y5, y6, y7, y8, l, us, rfl, hl, hL2, hP2, k2⟩ := hv
          rw [← hn] at hP2
          exact ⟨_, rfl, q l us H2 hl hL2 hP2 k2⟩
abbrev CWays (P : Program) (w : World) (K : PySem.W.Frag) (mg : Str → Option Value) (base : Heap) : Prop := Ca P w K mg base 15 "_law_ways" ["_law_book", "_law_word", "_law_first", "_law_end"] (spWays 13)
/-! ### sorted -/
def dTwo (x : Int × Int) : PyData := .tuple [.int x.1, .int x.2]
def dFo (q : Fo) : PyData := .tuple (q.map dTwo)
theorem dpTwos {K : PySem.W.Frag} {H : Hp} : ∀ {vs : List V} {ps : List (Int × Int)}, Paired (TwoAt H) vs ps → DpAll K H vs (ps.map dTwo)
  | _, _, .nil => .nil
  | _, _, .cons ⟨_, e, h⟩ t => .cons (e ▸ .tup (SqT.of h) (.cons (.int _) (.cons (.int _) .nil))) (dpTwos t)
theorem dp_fo {K : PySem.W.Frag} {H : Hp} {v : V} {q : Fo} (h : FoAt H v q) : Dp K H v (dFo q) := by
  obtain ⟨a, vs, rfl, h1, h2⟩ := h
  exact .tup (SqT.of h1) (dpTwos h2)
theorem dpFos {K : PySem.W.Frag} {H : Hp} : ∀ {vs : List V} {L : List Fo}, Paired (FoAt H) vs L → DpAll K H vs (L.map dFo)
  | _, _, .nil => .nil
  | _, _, .cons h t => .cons (dp_fo h) (dpFos t)
theorem dep_twos : ∀ q : List (Int × Int), PyData.depthAll (q.map dTwo) ≤ 1
  | [] => by simp [PyData.depthAll]
  | y :: r => by
    rw [List.map_cons, PyData.depthAll]
    have := dep_twos r
    have h1 : (dTwo y).depth = 1 := by simp [dTwo, PyData.depth, PyData.depthAll]
    rw [h1]
    omega
theorem dep_fo (q : Fo) : (dFo q).depth ≤ 2 := by
  unfold dFo
  rw [PyData.depth]
  have := dep_twos q
  omega
theorem alike_twos : ∀ q s : List (Int × Int), PySem.W.alikeAll (q.map dTwo) (s.map dTwo) = true
  | [], _ => by simp [PySem.W.alikeAll]
  | _ :: _, [] => by simp [PySem.W.alikeAll]
  | y :: q, z :: s => by
    rw [List.map_cons, List.map_cons, PySem.W.alikeAll, alike_twos q s]
    simp [dTwo, PySem.W.alike, PySem.W.alikeAll]
def SF (L : List Fo) : List Fo := L.mergeSort (PySem.W.dataLe false dFo)
theorem sort_fos {K : PySem.W.Frag} {H : Hp} {l : Addr} {us : List V} {L : List Fo} {t : List Fo} {Q : VK} (hL : H l = some (.lst us)) (hP : Paired (FoAt H) us L) (h0 : L = [] :: t) (q : ∀ (p : Addr) (ws : List V) (H' : Hp), H p = none → H' p = some (.lst ws) → Paired (FoAt H') ws (SF L) → Ext H H' → Q (.ref p) H') : rSortE K [.ref l] H Q := by
  have hz := paired_len hP
  have e1 : (us.zip L).map (·.1) = us := List.map_fst_zip (by omega)
  have e2 : (us.zip L).map (·.2) = L := List.map_snd_zip (by omega)
  have hall : ∀ b ∈ us.zip L, FoAt H b.1 b.2 := by
    clear e1 e2 hz h0 q hL
    induction hP with
    | nil => intro b hb; cases hb
    | cons r _ ih =>
      intro b hb
      rw [List.zip_cons_cons] at hb
      rcases List.mem_cons.mp hb with rfl | hb
      · exact r
      · exact ih b hb
  have ed : (us.zip L).map (fun b => dFo b.2) = L.map dFo := by
    have := congrArg (List.map dFo) e2
    rw [List.map_map] at this
    exact this
  refine ⟨V × Fo, fun b => b.1, fun b => dFo b.2, l, us.zip L, t.map dFo, rfl, SqL.of (by rw [e1]; exact hL), fun b hb => ⟨dp_fo (hall b hb), Nat.le_trans (dep_fo _) (by decide)⟩, ?_, ?_, ?_, fun p hp => ?_⟩
  · intro d1 h1 d2 h2
    obtain ⟨b1, _, rfl⟩ := List.mem_map.mp h1
    obtain ⟨b2, _, rfl⟩ := List.mem_map.mp h2
    show PySem.W.alike (.tuple _) (.tuple _) = true
    rw [PySem.W.alike]
    exact alike_twos _ _
  · rw [ed, h0]
    rfl
  · intro e he
    obtain ⟨b1, _, rfl⟩ := List.mem_map.mp he
    exact ⟨_, rfl⟩
  · have x1 := Ext.new (o := .lst (((us.zip L).mergeSort (PySem.W.dataLe false fun b => dFo b.2)).map fun b => b.1)) hp
    refine q p _ _ hp upd_same ?_ x1
    have es : ((us.zip L).mergeSort (PySem.W.dataLe false fun b => dFo b.2)).map (·.2) = SF L := by
      have hm := List.map_mergeSort (r := PySem.W.dataLe false fun b : V × Fo => dFo b.2) (s := PySem.W.dataLe false dFo) (f := fun b : V × Fo => b.2) (l := us.zip L) (fun a _ b _ => rfl)
      rw [e2] at hm
      exact hm
    rw [← es]
    have hm : ∀ b ∈ (us.zip L).mergeSort (PySem.W.dataLe false fun b => dFo b.2), FoAt H b.1 b.2 := fun b hb => hall b ((List.mergeSort_perm _ _).mem_iff.mp hb)
    generalize (us.zip L).mergeSort (PySem.W.dataLe false fun b => dFo b.2) = S at hm x1
    have : ∀ {T : List (V × Fo)} {H2 : Hp}, (∀ b ∈ T, FoAt H b.1 b.2) → Ext H H2 → Paired (FoAt H2) (T.map (·.1)) (T.map (·.2)) := by
      intro T H2 hT hx
      induction T with
      | nil => exact .nil
      | cons b T ih => exact .cons (FoAt.mono _ _ _ _ (TupK.ext hx) (hT b (List.mem_cons_self ..))) (ih fun c hc => hT c (List.mem_cons_of_mem _ hc))
    exact this hm x1
abbrev s_law_all : Stmt := topS 61
theorem sc_law_all : FnScope ["_law_book", "_law_word"] ["_law_book", "_law_word"] (defScope s_law_all) :=
  ⟨rfl, rfl, rfl, by decide +kernel, rfl, by decide +kernel, by decide +kernel⟩
def spAllL : Sp := fun vs H Q _ => ∃ (v : V) (r : Rl) (x : Str), vs = [v, .str x] ∧ RulesAt H v r ∧ RlOk r ∧ x.length ≤ 12 ∧
  ∀ (p : Addr) (ws : List V) (H' : Hp), H' p = some (.lst ws) → Paired (FoAt H') ws (SF (WA r x x.length 0)) → Ext H H' → Q (.ref p) H'
theorem ok_allL {f : Addr} {fd : FuncData} (F : Fun K "_law_all" "_law_all" s_law_all f fd) (c_law_ways : CWays P w K mg base) (msorted : mg "sorted" = none) (mlen : mg "len" = none) : FnOk P w K mg base CX0 16 f fd ["_law_book", "_law_word"] spAllL := by
  refine F.ok sc_law_all (fun vs H Q E h => ?_) (fun cdv A outer s H vs Q E hr h => ?_)
  · obtain ⟨v, r, x, rfl, _⟩ := h
    rfl
  · obtain ⟨v, r, x, rfl, hR, ok, hx, q⟩ := h
    refine ⟨_, (pss_one (ps_ret (pe_callB (cr_sortE K hr.units) (by rfl) msorted (by decide +kernel) (pa_cons (pe_ca c_law_ways (hr.mono (by decide)) (by rfl) (pa_cons (pv 0) (pa_cons (pv 1) (pa_cons pe_int (pa_cons (pe_callB call_len_str (by rfl) mlen (by decide +kernel) (pa_cons (pv 1) pa_nil)) pa_nil))))) pa_nil)))), ?_⟩
    refine ⟨_, rfl, _, rfl, _, rfl, x, rfl, szL (by omega), v, r, x, 0, (x.length : Int), rfl, hR, ok, hx, by decide, by omega, Int.le_refl _, by omega, fun l us H1 hl hL hP k1 => ?_⟩
    rw [show ((x.length : Int) - 0).toNat = x.length by omega] at hP
    obtain ⟨t, ht⟩ := WA_head r x x.length 0
    delta tNil
    exact sort_fos hL hP ht fun p ws H2 hp hp2 hP2 k2 => q p ws H2 hp2 hP2 (k1.trans k2)
abbrev CAllL (P : Program) (w : World) (K : PySem.W.Frag) (mg : Str → Option Value) (base : Heap) : Prop := Ca P w K mg base 16 "_law_all" ["_law_book", "_law_word"] spAllL
end
end Pf


namespace Pf
open PySem PySem.Spec PyProof.Rows L2
theorem WA_cases {r : Rl} {x : Str} {n : Nat} {a : Int} {q : Fo} (h : q ∈ WA r x (n + 1) a) : q ∈ WA r x n (a + 1) ∨ ∃ t one other, t < n ∧ mayC r x a (a + 1 + (t : Nat)) = true ∧ one ∈ WA r x t (a + 1) ∧ other ∈ WA r x (n - 1 - t) (a + 2 + (t : Nat)) ∧ q = (a, a + 1 + (t : Nat)) :: (one ++ other) := by
  rw [WA_succ] at h
  rcases List.mem_append.mp h with h | h
  · exact .inl h
  · obtain ⟨t, ht, hq⟩ := List.mem_flatMap.mp h
    have ht := List.mem_range.mp ht
    unfold seg at hq
    split at hq
    · rename_i hm
      obtain ⟨one, h1, hq⟩ := List.mem_flatMap.mp hq
      obtain ⟨other, h2, rfl⟩ := List.mem_map.mp hq
      exact .inr ⟨t, one, other, ht, hm, h1, h2, rfl⟩
    · cases hq
theorem filter_none {α : Type} {f : α → Bool} {l : List α} (h : ∀ y ∈ l, f y = false) : l.filter f = [] := by
  rw [List.filter_eq_nil_iff]
  intro y hy
  rw [h y hy]
  exact Bool.false_ne_true
theorem filter_all {α : Type} {f : α → Bool} {l : List α} (h : ∀ y ∈ l, f y = true) : l.filter f = l := List.filter_eq_self.mpr h

theorem sumI (K : PySem.W.Frag) {X : Cx} (hc : X.calm = true := by rfl) (h : X.K = K := by rfl) : CallR X (.builtin "sum") (rSum K) := h ▸ cr_sum hc
end Pf


namespace Pf
open PySem PySem.Spec PyProof.Rows L2
/-! ### all foldings of a stretch, told by what they are -/
structure Fo4 (r : Rl) (x : Str) (a b : Int) (q : Fo) : Prop where
  srt : q.Pairwise fun y z => y.1 < z.1
  inn : ∀ y ∈ q, a ≤ y.1 ∧ y.1 < y.2 ∧ y.2 < b
  may : ∀ y ∈ q, mayC r x y.1 y.2 = true
  sep : ∀ y ∈ q, ∀ z ∈ q, y.1 < z.1 → z.2 < y.2 ∨ y.2 < z.1
theorem fo4_of (r : Rl) (x : Str) : ∀ (n : Nat) (a : Int), ∀ q ∈ WA r x n a, Fo4 r x a (a + n) q := by
  intro n
  induction n using Nat.strongRecOn with
  | ind n ih =>
    intro a q hq
    match n, ih, hq with
    | 0, _, hq =>
      rw [WA_zero, List.mem_singleton] at hq
      subst hq
      exact ⟨.nil, (fun y hy => by cases hy), (fun y hy => by cases hy), (fun y hy => by cases hy)⟩
    | n + 1, ih, hq =>
      rcases WA_cases hq with h | ⟨t, one, other, ht, hm, h1, h2, rfl⟩
      · have := ih n (by omega) _ _ h
        exact ⟨this.srt, fun y hy => by have := this.inn y hy; omega, this.may, this.sep⟩
      · have f1 := ih t (by omega) _ _ h1
        have f2 := ih (n - 1 - t) (by omega) _ _ h2
        refine ⟨?_, fun y hy => ?_, fun y hy => ?_, fun y hy z hz hlt => ?_⟩
        · refine List.pairwise_cons.mpr ⟨fun z hz => ?_, List.pairwise_append.mpr ⟨f1.srt, f2.srt, fun y hy z hz => ?_⟩⟩
          · rcases List.mem_append.mp hz with hz | hz
            · have := f1.inn z hz
              show a < z.1
              omega
            · have := f2.inn z hz
              show a < z.1
              omega
          · have := f1.inn y hy
            have := f2.inn z hz
            omega
        · rcases List.mem_cons.mp hy with rfl | hy
          · show a ≤ a ∧ a < a + 1 + (t : Nat) ∧ a + 1 + (t : Nat) < a + (n + 1 : Nat)
            omega
          · rcases List.mem_append.mp hy with hy | hy
            · have := f1.inn y hy
              omega
            · have := f2.inn y hy
              omega
        · rcases List.mem_cons.mp hy with rfl | hy
          · exact hm
          · rcases List.mem_append.mp hy with hy | hy
            · exact f1.may y hy
            · exact f2.may y hy
        · rcases List.mem_cons.mp hy with rfl | hy
          · rcases List.mem_cons.mp hz with rfl | hz
            · omega
            · rcases List.mem_append.mp hz with hz | hz
              · have := f1.inn z hz
                left
                show z.2 < a + 1 + (t : Nat)
                omega
              · have := f2.inn z hz
                right
                show a + 1 + (t : Nat) < z.1
                omega
          · rcases List.mem_cons.mp hz with rfl | hz
            · have hlt : y.1 < a := hlt
              rcases List.mem_append.mp hy with hy | hy
              · have := f1.inn y hy
                omega
              · have := f2.inn y hy
                omega
            · rcases List.mem_append.mp hy with hy | hy
              · rcases List.mem_append.mp hz with hz | hz
                · exact f1.sep y hy z hz hlt
                · have := f1.inn y hy
                  have := f2.inn z hz
                  right
                  omega
              · rcases List.mem_append.mp hz with hz | hz
                · have := f1.inn z hz
                  have := f2.inn y hy
                  omega
                · exact f2.sep y hy z hz hlt
theorem split_at (k : Int) : ∀ {t : Fo}, t.Pairwise (fun y z => y.1 < z.1) → t = t.filter (fun z => decide (z.1 < k)) ++ t.filter fun z => decide (¬ z.1 < k)
  | [], _ => rfl
  | y :: t, h => by
    have hp := List.pairwise_cons.mp h
    by_cases c : y.1 < k
    · rw [List.filter_cons_of_pos (by simpa using c), List.filter_cons_of_neg (by simpa using c), List.cons_append, ← split_at k hp.2]
    · rw [List.filter_cons_of_neg (by simpa using c), List.filter_cons_of_pos (by simpa using c)]
      have e1 : t.filter (fun z => decide (z.1 < k)) = [] := filter_none fun z hz => decide_eq_false (by have := hp.1 z hz; omega)
      have e2 : t.filter (fun z => decide (¬ z.1 < k)) = t := filter_all fun z hz => decide_eq_true (by have := hp.1 z hz; omega)
      rw [e1, e2]
      rfl
theorem Fo4.sub {r : Rl} {x : Str} {a b a' b' : Int} {q q' : Fo} (h : Fo4 r x a b q) (hs : q'.Sublist q) (hin : ∀ y ∈ q', a' ≤ y.1 ∧ y.1 < y.2 ∧ y.2 < b') : Fo4 r x a' b' q' :=
  ⟨h.srt.sublist hs, hin, fun y hy => h.may y (hs.subset hy), fun y hy z hz => h.sep y (hs.subset hy) z (hs.subset hz)⟩
theorem of_fo4 (r : Rl) (x : Str) : ∀ (n : Nat) (a : Int) (q : Fo), Fo4 r x a (a + n) q → q ∈ WA r x n a := by
  intro n
  induction n using Nat.strongRecOn with
  | ind n ih =>
    intro a q hq
    match n, ih, hq with
    | 0, _, hq =>
      cases q with
      | nil => exact List.mem_cons_self ..
      | cons y t =>
        have := hq.inn y (List.mem_cons_self ..)
        omega
    | n + 1, ih, hq =>
      rw [WA_succ]
      cases q with
      | nil =>
        refine List.mem_append_left _ ?_
        obtain ⟨t, e⟩ := WA_head r x n (a + 1)
        rw [e]
        exact List.mem_cons_self ..
      | cons y t =>
        have hp := List.pairwise_cons.mp hq.srt
        have hy := hq.inn y (List.mem_cons_self ..)
        by_cases c : y.1 = a
        · obtain ⟨i, k⟩ := y
          have c : i = a := c
          subst c
          have hy : i ≤ i ∧ i < k ∧ k < i + ((n + 1 : Nat) : Int) := hy
          obtain ⟨m, hm⟩ : ∃ m : Nat, k = i + 1 + (m : Nat) := ⟨(k - i - 1).toNat, by omega⟩
          have s1 : (t.filter fun z => decide (z.1 < k)).Sublist t := List.filter_sublist
          have s2 : (t.filter fun z => decide (¬ z.1 < k)).Sublist t := List.filter_sublist
          have o1 := ih m (by omega) (i + 1) (t.filter fun z => decide (z.1 < k)) (hq.sub (s1.trans (List.sublist_cons_self ..)) fun z hz => by
            have hzt := s1.subset hz
            have hzk : z.1 < k := of_decide_eq_true (List.mem_filter.mp hz).2
            have h1 := hq.inn z (List.mem_cons_of_mem _ hzt)
            have h2 : i < z.1 := hp.1 z hzt
            have h3 : z.2 < k ∨ k < z.1 := hq.sep (i, k) (List.mem_cons_self ..) z (List.mem_cons_of_mem _ hzt) h2
            omega)
          have o2 := ih (n - 1 - m) (by omega) (i + 2 + (m : Nat)) (t.filter fun z => decide (¬ z.1 < k)) (hq.sub (s2.trans (List.sublist_cons_self ..)) fun z hz => by
            have hzt := s2.subset hz
            have hzk : ¬ z.1 < k := of_decide_eq_true (List.mem_filter.mp hz).2
            have h1 := hq.inn z (List.mem_cons_of_mem _ hzt)
            have h2 : i < z.1 := hp.1 z hzt
            have h3 : z.2 < k ∨ k < z.1 := hq.sep (i, k) (List.mem_cons_self ..) z (List.mem_cons_of_mem _ hzt) h2
            omega)
          refine List.mem_append_right _ (List.mem_flatMap.mpr ⟨m, List.mem_range.mpr (by omega), ?_⟩)
          have hmay : mayC r x i (i + 1 + (m : Nat)) = true := by
            rw [← hm]
            exact hq.may (i, k) (List.mem_cons_self ..)
          unfold seg
          rw [if_pos hmay]
          refine List.mem_flatMap.mpr ⟨_, o1, List.mem_map.mpr ⟨_, o2, ?_⟩⟩
          rw [← split_at k hp.2, hm]
        · refine List.mem_append_left _ (ih n (by omega) (a + 1) _ ⟨hq.srt, fun z hz => ?_, hq.may, hq.sep⟩)
          have h1 := hq.inn z hz
          rcases List.mem_cons.mp hz with rfl | hz
          · omega
          · have h2 := hp.1 z hz
            omega
theorem WA_iff (r : Rl) (x : Str) (n : Nat) (a : Int) (q : Fo) : q ∈ WA r x n a ↔ Fo4 r x a (a + n) q := ⟨fo4_of r x n a q, of_fo4 r x n a q⟩
/-- none stands twice -/
theorem WA_nd (r : Rl) (x : Str) : ∀ (n : Nat) (a : Int), (WA r x n a).Nodup := by
  intro n
  induction n using Nat.strongRecOn with
  | ind n ih =>
    intro a
    match n, ih with
    | 0, _ => exact List.pairwise_singleton _ _
    | n + 1, ih =>
      rw [WA_succ]
      refine List.pairwise_append.mpr ⟨ih n (by omega) (a + 1), List.pairwise_flatMap.mpr ⟨fun t ht => ?_, ?_⟩, fun q hq q' hq' => ?_⟩
      · have ht := List.mem_range.mp ht
        unfold seg
        split
        · refine List.pairwise_flatMap.mpr ⟨fun one h1 => List.pairwise_map.mpr ?_, ?_⟩
          · refine (ih (n - 1 - t) (by omega) (a + 2 + t)).imp fun hne e => hne ?_
            injection e with _ e
            exact List.append_cancel_left e
          · refine List.Pairwise.imp_of_mem (R := (· ≠ ·)) (fun {o1 o2} m1 m2 hne => ?_) (ih t (by omega) (a + 1))
            rintro u hu u' hu' rfl
            obtain ⟨w1, hw1, e1⟩ := List.mem_map.mp hu
            obtain ⟨w2, hw2, e2⟩ := List.mem_map.mp hu'
            rw [← e2] at e1
            injection e1 with _ e1
            refine hne ?_
            have g1 := fo4_of r x t (a + 1) o1 m1
            have g2 := fo4_of r x t (a + 1) o2 m2
            have v1 := fo4_of r x (n - 1 - t) (a + 2 + t) w1 hw1
            have v2 := fo4_of r x (n - 1 - t) (a + 2 + t) w2 hw2
            have c1 : (o1 ++ w1).filter (fun z => decide (z.1 < a + 1 + (t : Nat))) = o1 := by
              rw [List.filter_append, filter_all (fun z hz => decide_eq_true (by have := g1.inn z hz; omega)), filter_none (fun z hz => decide_eq_false (by have := v1.inn z hz; omega)), List.append_nil]
            have c2 : (o2 ++ w2).filter (fun z => decide (z.1 < a + 1 + (t : Nat))) = o2 := by
              rw [List.filter_append, filter_all (fun z hz => decide_eq_true (by have := g2.inn z hz; omega)), filter_none (fun z hz => decide_eq_false (by have := v2.inn z hz; omega)), List.append_nil]
            rw [← c1, ← c2, e1]
        · exact .nil
      · refine List.Pairwise.imp_of_mem (R := (· < ·)) (fun {t1 t2} _ _ hlt => ?_) List.pairwise_lt_range
        rintro u hu u' hu' rfl
        unfold seg at hu hu'
        split at hu
        · split at hu'
          · obtain ⟨o1, _, hu⟩ := List.mem_flatMap.mp hu
            obtain ⟨w1, _, e1⟩ := List.mem_map.mp hu
            obtain ⟨o2, _, hu'⟩ := List.mem_flatMap.mp hu'
            obtain ⟨w2, _, e2⟩ := List.mem_map.mp hu'
            rw [← e2] at e1
            injection e1 with e1 _
            have := congrArg Prod.snd e1
            have : a + 1 + (t1 : Int) = a + 1 + (t2 : Int) := this
            omega
          · cases hu'
        · cases hu
      · rintro rfl
        have h1 := fo4_of r x n (a + 1) q hq
        obtain ⟨t, _, hs⟩ := List.mem_flatMap.mp hq'
        unfold seg at hs
        split at hs
        · obtain ⟨o1, _, hs⟩ := List.mem_flatMap.mp hs
          obtain ⟨w1, _, rfl⟩ := List.mem_map.mp hs
          have := h1.inn (a, a + 1 + (t : Nat)) (List.mem_cons_self ..)
          have : a + 1 ≤ a := this.1
          omega
        · cases hs
/-! ### lists without one twice -/
theorem nd_count {α : Type} [DecidableEq α] {y : α} : ∀ {l : List α}, l.Nodup → y ∈ l → l.count y = 1
  | [], _, h => by cases h
  | z :: l, hl, h => by
    have hp := List.nodup_cons.mp hl
    by_cases e : z = y
    · subst e
      rw [List.count_cons_self, List.count_eq_zero.mpr hp.1]
    · rw [List.count_cons_of_ne (by simpa using e)]
      rcases List.mem_cons.mp h with h | h
      · exact absurd h.symm e
      · exact nd_count hp.2 h
theorem perm_nd {α : Type} [DecidableEq α] {l m : List α} (hl : l.Nodup) (hm : m.Nodup) (h : ∀ y, y ∈ l ↔ y ∈ m) : l.Perm m := List.perm_iff_count.mpr fun y => by
  by_cases c : y ∈ l
  · rw [nd_count hl c, nd_count hm ((h y).mp c)]
  · rw [List.count_eq_zero.mpr c, List.count_eq_zero.mpr fun z => c ((h y).mpr z)]
theorem len_nd {α : Type} [DecidableEq α] : ∀ {l m : List α}, l.Nodup → (∀ y ∈ l, y ∈ m) → l.length ≤ m.length
  | [], _, _, _ => Nat.zero_le _
  | y :: l, m, hl, h => by
    have hp := List.nodup_cons.mp hl
    have hy := h y (List.mem_cons_self ..)
    have := len_nd (l := l) (m := m.erase y) hp.2 fun z hz => (List.mem_erase_of_ne (fun e : z = y => hp.1 (by rw [← e]; exact hz))).mpr (h z (List.mem_cons_of_mem _ hz))
    rw [List.length_erase_of_mem hy] at this
    have : 0 < m.length := List.length_pos_of_mem hy
    rw [List.length_cons]
    omega
end Pf


namespace Pf
open PySem PySem.Spec PyProof.Rows L2
/-! ### how many foldings a stretch has -/
def cn (r : Rl) (x : Str) (n : Nat) (a : Int) : Nat := (WA r x n a).length
theorem sum_filt {α : Type} (p : α → Bool) (f : α → Nat) : ∀ l : List α, (l.map fun t => if p t = true then f t else 0).sum = ((l.filter p).map f).sum
  | [] => rfl
  | y :: l => by
    rw [List.map_cons, List.sum_cons, sum_filt p f l]
    by_cases h : p y = true
    · rw [List.filter_cons_of_pos h, List.map_cons, List.sum_cons, if_pos h]
    · rw [List.filter_cons_of_neg h, if_neg h, Nat.zero_add]
theorem seg_cn (r : Rl) (x : Str) (n : Nat) (a : Int) (t : Nat) : (seg r x (WA r x) n a t).length = if mayC r x a (a + 1 + (t : Nat)) = true then cn r x t (a + 1) * cn r x (n - 1 - t) (a + 2 + (t : Nat)) else 0 := by
  unfold seg
  split
  · rw [flat_const (c := cn r x (n - 1 - t) (a + 2 + (t : Nat))) fun y _ => List.length_map ..]
    rfl
  · rfl
def mayN (r : Rl) (x : Str) (a : Int) (t : Nat) : Bool := mayC r x a (a + 1 + (t : Nat))
theorem cn_zero (r : Rl) (x : Str) (a : Int) : cn r x 0 a = 1 := rfl
theorem cn_one (r : Rl) (x : Str) (a : Int) : cn r x 1 a = 1 := by
  unfold cn
  rw [WA_one]
  rfl
theorem cn_succ (r : Rl) (x : Str) (n : Nat) (a : Int) : cn r x (n + 1) a = cn r x n (a + 1) + ((((List.range n).filter (mayN r x a)).map fun t => cn r x t (a + 1) * cn r x (n - 1 - t) (a + 2 + (t : Nat)))).sum := by
  have e : cn r x (n + 1) a = cn r x n (a + 1) + ((List.range n).map fun t => (seg r x (WA r x) n a t).length).sum := by
    unfold cn
    rw [WA_succ, List.length_append, flat_len]
  rw [e, ← sum_filt]
  congr 2
  exact List.map_congr_left fun t _ => seg_cn r x n a t
theorem cn_le (r : Rl) (x : Str) {n : Nat} (h : n ≤ 12) (a : Int) : cn r x n a ≤ 15511 := WA_len r x h a
theorem cn_cast (r : Rl) (x : Str) (n : Nat) (a : Int) (l : List Nat) : ((l.map fun t : Nat => ((cn r x t (a + 1) : Nat) : Int) * ((cn r x (n - 1 - t) (a + 2 + (t : Nat)) : Nat) : Int)).sum) = (((l.map fun t => cn r x t (a + 1) * cn r x (n - 1 - t) (a + 2 + (t : Nat))).sum : Nat) : Int) := by
  induction l with
  | nil => rfl
  | cons y l ih =>
    rw [List.map_cons, List.sum_cons, List.map_cons, List.sum_cons, ih]
    push_cast
    rfl
/-- what a dict of stretches tells; z: where a stretch ends, told by its last place or the one behind it -/
def CntAt (r : Rl) (x : Str) (kvs : List (List Key × V)) (a b : Int) : Prop := valV kvs [.inl a, .inl b] = some (.int (cn r x (b + 1 - a).toNat a : Nat))
theorem cnt_put {r : Rl} {x : Str} {kvs : List (List Key × V)} {a b i j c : Int} (hc : c = (cn r x (j + 1 - i).toNat i : Nat)) (h : (a = i ∧ b = j) ∨ CntAt r x kvs a b) : CntAt r x (putK kvs [.inl i, .inl j] (.int c)) a b := by
  unfold CntAt
  rw [valV_put]
  by_cases e : a = i ∧ b = j
  · obtain ⟨rfl, rfl⟩ := e
    rw [if_pos rfl, hc]
  · rcases h with h | h
    · exact absurd h e
    · rw [if_neg (fun z => e (by cases z; exact ⟨rfl, rfl⟩))]
      exact h
section
variable {P : Program} {w : World} {K : PySem.W.Frag} {mg : Str → Option Value} {base : Heap}
abbrev s_stretch_counts : Stmt := topS 39
theorem sc_stretch_counts : FnScope ["rules", "string", "length", "i", "made", "j", "ends", "k"] ["rules", "string"] (defScope s_stretch_counts) :=
  ⟨rfl, rfl, rfl, by decide +kernel, rfl, by decide +kernel, by decide +kernel⟩
def spCnt : Sp := fun vs H Q _ => ∃ (v : V) (r : Rl) (x : Str), vs = [v, .str x] ∧ RulesW H v r ∧ x.length ≤ 12 ∧
  ∀ (D : Addr) (kvs : List (List Key × V)) (H' : Hp), H D = none → H' D = some (.dT kvs) → (∀ a b : Int, 0 ≤ a → a ≤ b + 1 → b < x.length → CntAt r x kvs a b) → Ext H H' → Q (.ref D) H'
theorem ok_cnt {f : Addr} {fd : FuncData} (F : Fun K "stretch_counts" "stretch_counts" s_stretch_counts f fd) (cmay_pair : CMP P w K mg base) (mlen : mg "len" = none) (mrange : mg "range" = none) (msum : mg "sum" = none) : FnOk P w K mg base CX0 3 f fd ["rules", "string"] spCnt := by
  refine F.ok sc_stretch_counts (fun vs H Q E h => ?_) (fun cdv A outer s H vs Q E hr h => ?_)
  · obtain ⟨v, r, x, rfl, _⟩ := h
    rfl
  · obtain ⟨v, r, x, rfl, hR, hx, q⟩ := h
    refine ⟨_, (pss_cons (ps_set (i := 2) sc_stretch_counts.nd rfl (.inl rfl) (pe_callB call_len_str (by rfl) mlen (by decide +kernel) (pa_cons (pv 1) pa_nil)))
      (pss_cons (ps_set (i := 4) sc_stretch_counts.nd rfl (.inr rfl) (pe_dcT (own := [("i", 3)]) (g := gName 3) hr.units0 (by rfl) sc_stretch_counts.nd (pi_range1 (by rfl) mrange (pa_cons (pe_op op_add (pv 2) pe_int) pa_nil)) (blkOk_by (own := [("i", 3)]) (N := ["rules", "string", "length", "i", "made", "j", "ends", "k"]) (sc := defScope s_stretch_counts) (by decide +kernel)) (fun _ _ _ _ _ => (pg_name (i := 3) sc_stretch_counts.nd rfl (.inl rfl))) (fun _ _ _ _ _ => (pe_tup (pa_cons (pv 3) (pa_cons (pe_op op_sub (pv 3) pe_int) pa_nil)))) (fun _ _ _ _ _ => pe_int)))
      (pss_cons (ps_for PassesOwn.never rfl (pi_range3 (by rfl) mrange (pa_cons (pe_op op_sub (pv 2) pe_int) (pa_cons (pe_un un_neg pe_int) (pa_cons (pe_un un_neg pe_int) pa_nil)))) (pg_name (i := 3) sc_stretch_counts.nd rfl (.inr rfl)) (pss_one (ps_for PassesOwn.never rfl (pi_range2 (by rfl) mrange (pa_cons (pv 3) (pa_cons (pv 2) pa_nil))) (pg_name (i := 5) sc_stretch_counts.nd rfl (.inr rfl)) (pss_cons (ps_setLc (i := 6) (own := [("k", 7)]) (g := gName 7) (by rfl) sc_stretch_counts.nd rfl rfl (sw_true rfl rfl rfl (by decide +kernel)) (pi_range2 (by rfl) mrange (pa_cons (pe_op op_add (pv 3) pe_int) (pa_cons (pe_op op_add (pv 5) pe_int) pa_nil))) (blkOk_by (own := [("k", 7)]) (N := ["rules", "string", "length", "i", "made", "j", "ends", "k"]) (sc := defScope s_stretch_counts) (by decide +kernel)) (fun _ _ _ _ _ => (pg_name (i := 7) sc_stretch_counts.nd rfl (.inl rfl))) (fun _ _ _ _ _ => (pts_one (pt_val (pe_ca cmay_pair (hr.mono (by decide)) (by rfl) (pa_cons (pv 0) (pa_cons (pv 1) (pa_cons (pv 3) (pa_cons (pv 7) pa_nil)))))))) (fun _ _ _ _ _ => (pv 7)))
      (pss_one (ps_dput (hu_of hr) (pv 4) (pe_tup (pa_cons (pv 3) (pa_cons (pv 5) pa_nil))) (pe_op op_add (pe_dget (hu_of hr) (pv 4) (pe_tup (pa_cons (pe_op op_add (pv 3) pe_int) (pa_cons (pv 5) pa_nil))) (fun _ _ => rfl)) (pe_callB (sumI K) (by rfl) msum (by decide +kernel) (pa_cons (pe_lc (own := [("k", 7)]) (g := gName 7) (by rfl) sc_stretch_counts.nd (pi_list (pv 6)) (blkOk_by (own := [("k", 7)]) (N := ["rules", "string", "length", "i", "made", "j", "ends", "k"]) (sc := defScope s_stretch_counts) (by decide +kernel)) (fun _ _ _ _ _ => (pg_name (i := 7) sc_stretch_counts.nd rfl (.inl rfl))) (fun _ _ _ _ _ => pts_nil) (fun _ _ _ _ _ => (pe_op op_mul (pe_dget (hu_of hr) (pv 4) (pe_tup (pa_cons (pe_op op_add (pv 3) pe_int) (pa_cons (pe_op op_sub (pv 7) pe_int) pa_nil))) (fun _ _ => rfl)) (pe_dget (hu_of hr) (pv 4) (pe_tup (pa_cons (pe_op op_add (pv 7) pe_int) (pa_cons (pv 5) pa_nil))) (fun _ _ => rfl))))) pa_nil))) rfl))))))
      (pss_one (ps_ret (pv 4)))))), ?_⟩
    refine ⟨_, rfl, x, rfl, szL (by omega), ?_⟩
    obtain ⟨L, hL⟩ : ∃ L, L = x.length := ⟨_, rfl⟩
    rw [← hL] at q hx ⊢
    have rulE : ∀ {H' : Hp}, Ext H H' → RulesW H' v r := fun k => RulesW.mono _ _ _ _ (TupK.ext k) hR
    refine ⟨_, rfl, (L : Int), 1, rfl, rfl, (L : Int) + 1, rfl, by omega, by omega, fun D hD => dcT_it walk_range (fun c H2 => ∃ kvs, H2 D = some (.dT kvs) ∧ kvs.length ≤ c ∧ Ext H H2 ∧ ∀ a : Int, 0 ≤ a → a < c → CntAt r x kvs a (a - 1))
      ⟨[], upd_same, Nat.le_refl _, Ext.new hD, fun a h1 h2 => by omega⟩ (fun _ _ _ _ => trivial) (fun c u H2 H2' hc hv hy => ?_) (fun H2 hv => ?_)⟩
    · obtain ⟨kvs, hD2, hkl, k2, hT2⟩ := hv
      obtain ⟨rfl, rfl⟩ := hy
      refine ⟨rfl, _, rfl, _, rfl, (0 : Int) + c, 1, rfl, rfl, szL (show 2 ≤ 1000000 by decide), fun t1 ht1 => ?_⟩
      have x1 := Ext.new (o := .tup [.int ((0 : Int) + c), .int ((0 : Int) + c - 1)]) ht1
      have hD3 := x1 _ _ hD2
      refine ⟨kvs, [.inl ((0 : Int) + c), .inl ((0 : Int) + c - 1)], t1, rfl, upd_same, hD3, szLt (by omega), _, upd_same, ?_, (k2.trans x1).put hD, fun a a0 a1 => ?_⟩
      · have := putT_len kvs [.inl ((0 : Int) + c), .inl ((0 : Int) + c - 1)] (.int 1)
        omega
      · refine cnt_put (by rw [show ((0 : Int) + c - 1 + 1 - (0 + c)).toNat = 0 by omega]; rfl) ?_
        by_cases e : a = (0 : Int) + c
        · exact .inl ⟨e, by omega⟩
        · exact .inr (hT2 a a0 (by omega))
    obtain ⟨kvs0, hD2, hkl, k2, hT2⟩ := hv
    rw [show ((L : Int) + 1).toNat = L + 1 by omega] at hkl
    refine ⟨_, rfl, (L : Int), 1, rfl, rfl, 1, rfl, 1, rfl, (L : Int) - 1, -1, -1, _, rfl, RgC.neg (by omega) (by omega) (by decide) (by decide), for_rangeC (lo := (L : Int) - 1) (c := -1) (n := ((L : Int) - 1 - -1).toNat) (fun t σ H3 => ∃ (y3 y5 y6 : Option V) (kvs : List (List Key × V)), σ = [some v, some (.str x), some (.int L), y3, some (.ref D), y5, y6, none] ∧ H3 D = some (.dT kvs) ∧ kvs.length ≤ 13 + 13 * t ∧ Ext H H3 ∧ ∀ a b : Int, ((0 ≤ a ∧ a ≤ L ∧ b = a - 1) ∨ ((L : Int) - t ≤ a ∧ a ≤ b ∧ b < L)) → CntAt r x kvs a b)
      ⟨_, _, _, kvs0, rfl, hD2, by omega, k2, fun a b h => ?_⟩ (fun t σ H3 ht hv => ?_) (fun σ H3 hv => ?_)⟩
    · rcases h with ⟨h1, h2, rfl⟩ | h
      · exact hT2 a h1 (by omega)
      · omega
    · obtain ⟨y3, y5, y6, kvs, rfl, hD3, hkl3, k3, hT3⟩ := hv
      obtain ⟨i, hi⟩ : ∃ i : Int, i = (L : Int) - 1 + (t : Nat) * (-1) := ⟨_, rfl⟩
      rw [← hi]
      refine ⟨_, rfl, _, rfl, i, (L : Int), rfl, ⟨by omega, by omega, by omega, by omega⟩, for_range (lo := i) (n := ((L : Int) - i).toNat) (fun u σ H4 => ∃ (y5 y6 : Option V) (kvs : List (List Key × V)), σ = [some v, some (.str x), some (.int L), some (.int i), some (.ref D), y5, y6, none] ∧ H4 D = some (.dT kvs) ∧ kvs.length ≤ 13 + 13 * t + u ∧ Ext H H4 ∧ ∀ a b : Int, ((0 ≤ a ∧ a ≤ L ∧ b = a - 1) ∨ ((L : Int) - t ≤ a ∧ a ≤ b ∧ b < L) ∨ (a = i ∧ i ≤ b ∧ b < i + u)) → CntAt r x kvs a b)
        ⟨_, _, kvs, rfl, hD3, by omega, k3, fun a b h => ?_⟩ (fun u σ H4 hu hv => ?_) (fun σ H4 hv => ?_)⟩
      · rcases h with h | h | h
        · exact hT3 a b (.inl h)
        · exact hT3 a b (.inr h)
        · omega
      · obtain ⟨y5, y6, kvs, rfl, hD4, hkl4, k4, hT4⟩ := hv
        -- the stretch from i to i + u
        have hT : ∀ a b : Int, i < a → a ≤ b + 1 → b ≤ i + u → CntAt r x kvs a b := fun a b h1 h2 h3 => by
          by_cases e : b = a - 1
          · exact hT4 a b (.inl ⟨by omega, by omega, e⟩)
          · exact hT4 a b (.inr (.inl ⟨by omega, by omega, by omega⟩))
        have uL : i + (u : Int) < L := by omega
        -- ends
        refine ⟨_, rfl, i, 1, rfl, rfl, _, rfl, i + u, 1, rfl, rfl, i + 1, i + u + 1, rfl, ⟨by omega, by omega, by omega, by omega⟩, fun E1 hE1 => lc_range (lo := i + 1) (n := (i + u + 1 - (i + 1)).toNat) (fun c H5 => H5 E1 = some (.lst ((((List.range c).filter (mayN r x i)).map fun z : Nat => i + 1 + (z : Int)).map V.int)) ∧ Ext H4 H5)
          ⟨upd_same, Ext.new hE1⟩ (fun c H5 hc hv => ?_) (fun H5 hv => ?_)⟩
        · obtain ⟨hL5, k5⟩ := hv
          refine ⟨rfl, _, rfl, _, rfl, _, rfl, _, rfl, v, r, x, i, i + 1 + c, rfl, rulE (k4.trans k5), by omega, by omega, by omega, by omega, fun H6 k6 => ⟨_, rfl, ite2 (fun em => ?_) (fun em => ?_)⟩⟩
          · refine ⟨_, rfl, _, k6 _ _ hL5, szLt ?_, ?_, (k5.trans k6).put hE1⟩
            · rw [List.length_map, List.length_map]
              have := List.length_filter_le (mayN r x i) (List.range c)
              rw [List.length_range] at this
              omega
            · rw [upd_same, List.range_succ, List.filter_append, List.map_append, List.map_append, List.filter_cons_of_pos (show mayN r x i c = true from em)]
              rfl
          · refine ⟨?_, k5.trans k6⟩
            rw [List.range_succ, List.filter_append, List.filter_cons_of_neg (show ¬ mayN r x i c = true from em), List.filter_nil, List.append_nil]
            exact k6 _ _ hL5
        obtain ⟨hL5, k5⟩ := hv
        rw [show (i + (u : Int) + 1 - (i + 1)).toNat = u by omega] at hL5
        obtain ⟨en, hen⟩ : ∃ en, en = (List.range u).filter (mayN r x i) := ⟨_, rfl⟩
        rw [← hen] at hL5
        have enl : en.length ≤ u := by
          rw [hen]
          have := List.length_filter_le (mayN r x i) (List.range u)
          rw [List.length_range] at this
          exact this
        have enb : ∀ z ∈ en, z < u := fun z hz => by
          rw [hen] at hz
          exact List.mem_range.mp (List.mem_filter.mp hz).1
        have k05 := k4.trans k5
        have hD5 := k5 _ _ hD4
        -- made[i + 1, j]
        refine ⟨_, rfl, _, rfl, i, 1, rfl, rfl, _, rfl, szL (show 2 ≤ 1000000 by decide), fun t6 ht6 => ?_⟩
        have x6 := Ext.new (o := .tup [.int (i + 1), .int (i + (u : Int))]) ht6
        have c0 := hT (i + 1) (i + u) (by omega) (by omega) (by omega)
        refine ⟨D, _, rfl, c0 ▸ DGet.t (k := [.inl (i + 1), .inl (i + (u : Int))]) (x6 _ _ hD5) upd_same, ?_⟩
        have hL6 := x6 _ _ hL5
        refine ⟨_, rfl, E1, rfl, ⟨_, SqL.of hL6⟩, fun E2 hE2 => ?_⟩
        generalize upd H5 t6 (.tup [.int (i + 1), .int (i + (u : Int))]) = H6 at x6 hL6 hE2 ⊢
        have k06 := k05.trans x6
        have hD6 := x6 _ _ hD5
        refine lc_list (K := K) (xs := (en.map fun z : Nat => i + 1 + (z : Int)).map V.int) (fun c H7 => H7 E2 = some (.lst (((en.take c).map fun z : Nat => ((cn r x z (i + 1) : Nat) : Int) * ((cn r x (u - 1 - z) (i + 2 + (z : Nat)) : Nat) : Int)).map V.int)) ∧ Ext H6 H7)
          ⟨upd_same, Ext.new hE2⟩ (fun c H7 _ h => SqL.of (h.2 _ _ hL6)) (fun c y H7 hy hv => ?_) (fun H7 hv => ?_)
        · obtain ⟨hL7, k7⟩ := hv
          rw [List.getElem?_map, List.getElem?_map] at hy
          cases hz : en[c]? with
          | none => rw [hz] at hy; cases hy
          | some z =>
            rw [hz] at hy
            cases hy
            have zu := enb z (List.mem_of_getElem? hz)
            have cl : c < en.length := (List.getElem?_eq_some_iff.mp hz).1
            have hD7 := k7 _ _ hD6
            refine ⟨rfl, _, rfl, _, rfl, i, 1, rfl, rfl, _, rfl, i + 1 + z, 1, rfl, rfl, szL (show 2 ≤ 1000000 by decide), fun t8 ht8 => ?_⟩
            have x8 := Ext.new (o := .tup [.int (i + 1), .int (i + 1 + (z : Int) - 1)]) ht8
            have c1 := hT (i + 1) (i + 1 + z - 1) (by omega) (by omega) (by omega)
            refine ⟨D, _, rfl, c1 ▸ DGet.t (k := [.inl (i + 1), .inl (i + 1 + (z : Int) - 1)]) (x8 _ _ hD7) upd_same, ?_⟩
            refine ⟨_, rfl, _, rfl, i + 1 + z, 1, rfl, rfl, _, rfl, szL (show 2 ≤ 1000000 by decide), fun t9 ht9 => ?_⟩
            have x9 := Ext.new (o := .tup [.int (i + 1 + (z : Int) + 1), .int (i + (u : Int))]) ht9
            have c2 := hT (i + 1 + z + 1) (i + u) (by omega) (by omega) (by omega)
            have b1 := cn_le r x (n := (i + 1 + (z : Int) - 1 + 1 - (i + 1)).toNat) (by omega) (i + 1)
            refine ⟨D, _, rfl, c2 ▸ DGet.t (k := [.inl (i + 1 + (z : Int) + 1), .inl (i + (u : Int))]) (x9 _ _ (x8 _ _ hD7)) upd_same, _, _, rfl, rfl, .inl ⟨by omega, by omega⟩, _, x9 _ _ (x8 _ _ hL7), szLt ?_, ?_, (k7.trans (x8.trans x9)).put hE2⟩
            · rw [List.length_map, List.length_map, List.length_take]
              omega
            · rw [upd_same, List.take_add_one, hz, List.map_append, List.map_append]
              have z1 : (i + 1 + (z : Int) - 1 + 1 - (i + 1)).toNat = z := by omega
              have z2 : (i + (u : Int) + 1 - (i + 1 + (z : Int) + 1)).toNat = u - 1 - z := by omega
              rw [z1, z2, show i + 1 + (z : Int) + 1 = i + 2 + (z : Nat) by omega]
              rfl
        · obtain ⟨hL7, k7⟩ := hv
          rw [List.take_of_length_le (by rw [List.length_map, List.length_map]; omega)] at hL7
          refine ⟨E2, _, rfl, SqL.of hL7, _, _, rfl, rfl, ?_⟩
          have k67 := x6.trans k7
          have hD7 := k7 _ _ hD6
          refine ⟨_, rfl, _, rfl, _, rfl, szL (show 2 ≤ 1000000 by decide), fun t1 ht1 => ?_⟩
          have x1 := Ext.new (o := .tup [.int i, .int (i + (u : Int))]) ht1
          refine ⟨D, _, rfl, DPut.t (k := [.inl i, .inl (i + (u : Int))]) (x1 _ _ hD7) upd_same (szLt (by omega)), _, _, _, rfl, upd_same, ?_, (((k06.trans k7)).trans x1).put hD, fun a b h => ?_⟩
          · exact Nat.le_trans (putT_len kvs [.inl i, .inl (i + (u : Int))] _) (by omega)
          · refine cnt_put ?_ ?_
            · rw [show (i + (u : Int) + 1 - i).toNat = u + 1 by omega, cn_succ, ← hen, cn_cast, show (i + (u : Int) + 1 - (i + 1)).toNat = u by omega]
              push_cast
              rfl
            · by_cases e : a = i ∧ b = i + (u : Int)
              · exact .inl e
              · refine .inr (hT4 a b ?_)
                rcases h with h | h | h
                · exact .inl h
                · exact .inr (.inl h)
                · exact .inr (.inr (by omega))
      · obtain ⟨y5, y6, kvs, rfl, hD4, hkl4, k4, hT4⟩ := hv
        refine ⟨_, _, _, kvs, rfl, hD4, by omega, k4, fun a b h => hT4 a b ?_⟩
        rcases h with h | h
        · exact .inl h
        · by_cases e : a = i
          · exact .inr (.inr (by omega))
          · exact .inr (.inl (by omega))
    · obtain ⟨y3, y5, y6, kvs, rfl, hD3, hkl3, k3, hT3⟩ := hv
      refine ⟨_, rfl, q D kvs H3 hD hD3 (fun a b h1 h2 h3 => hT3 a b ?_) k3⟩
      by_cases e : b = a - 1
      · exact .inl ⟨h1, by omega, e⟩
      · exact .inr ⟨by omega, by omega, by omega⟩
abbrev CCnt (P : Program) (w : World) (K : PySem.W.Frag) (mg : Str → Option Value) (base : Heap) : Prop := Ca P w K mg base 3 "stretch_counts" ["rules", "string"] spCnt
abbrev s_how_many : Stmt := topS 40
theorem sc_how_many : FnScope ["rules", "string"] ["rules", "string"] (defScope s_how_many) :=
  ⟨rfl, rfl, rfl, by decide +kernel, rfl, by decide +kernel, by decide +kernel⟩
def spMany : Sp := fun vs H Q _ => ∃ (v : V) (r : Rl) (x : Str), vs = [v, .str x] ∧ RulesW H v r ∧ x.length ≤ 12 ∧ Of r.letters x ∧ ∀ H' : Hp, Ext H H' → Q (.int (cn r x x.length 0 : Nat)) H'
theorem ok_many {f : Addr} {fd : FuncData} (F : Fun K "how_many" "how_many" s_how_many f fd) (cneed_string : CNS P w K mg base) (cstretch_counts : CCnt P w K mg base) (mlen : mg "len" = none) : FnOk P w K mg base CX0 4 f fd ["rules", "string"] spMany := by
  refine F.ok sc_how_many (fun vs H Q E h => ?_) (fun cdv A outer s H vs Q E hr h => ?_)
  · obtain ⟨v, r, x, rfl, _⟩ := h
    rfl
  · obtain ⟨v, r, x, rfl, hR, hx, hO, q⟩ := h
    refine ⟨_, (pss_cons (ps_expr (pe_ca cneed_string (hr.mono (by decide)) (by rfl) (pa_cons (pv 0) (pa_cons (pv 1) pa_nil))))
      (pss_one (ps_ret (pe_dget (hu_of hr) (pe_ca cstretch_counts (hr.mono (by decide)) (by rfl) (pa_cons (pv 0) (pa_cons (pv 1) pa_nil))) (pe_tup (pa_cons pe_int (pa_cons (pe_op op_sub (pe_callB call_len_str (by rfl) mlen (by decide +kernel) (pa_cons (pv 1) pa_nil)) pe_int) pa_nil))) (fun _ _ => rfl))))), ?_⟩
    refine ⟨_, rfl, _, rfl, v, r, x, rfl, hR, hx, hO, fun H1 k1 => ⟨_, rfl, _, rfl, v, r, x, rfl, RulesW.mono _ _ _ _ (TupK.ext k1) hR, hx, fun D kvs H2 hD hD2 hC k2 => ?_⟩⟩
    refine ⟨_, rfl, x, rfl, szL (by omega), _, 1, rfl, rfl, szL (show 2 ≤ 1000000 by decide), fun t ht => ?_⟩
    have xt := Ext.new (o := .tup [.int 0, .int ((x.length : Int) - 1)]) ht
    have c0 := hC 0 ((x.length : Int) - 1) (by omega) (by omega) (by omega)
    unfold CntAt at c0
    rw [show ((x.length : Int) - 1 + 1 - 0).toNat = x.length by omega] at c0
    exact ⟨D, _, rfl, c0 ▸ DGet.t (k := [.inl 0, .inl ((x.length : Int) - 1)]) (xt _ _ hD2) upd_same, q _ ((k1.trans k2).trans xt)⟩
abbrev CMany (P : Program) (w : World) (K : PySem.W.Frag) (mg : Str → Option Value) (base : Heap) : Prop := Ca P w K mg base 4 "how_many" ["rules", "string"] spMany
end
end Pf


namespace Pf
open PySem PySem.Spec PyProof.Rows L2
/-! ### stretches that stand open, pairs that may come next, all foldings in order -/
abbrev Sts : Type := List (Int × Int)
abbrev Nx : Type := (Int × Int) × Sts
def nxt (a e : Int) (rest : Sts) (t : Nat) : Nx := ((a, a + 1 + (t : Nat)), (a + 1, a + 1 + (t : Nat) - 1) :: (a + 1 + (t : Nat) + 1, e) :: rest)
def blk (r : Rl) (x : Str) (n : Nat) (a e : Int) (rest : Sts) : List Nx := ((List.range n).filter (mayN r x a)).map (nxt a e rest)
def np1 (r : Rl) (x : Str) (e : Int) (rest : Sts) : Nat → Int → List Nx
  | 0, _ => []
  | n + 1, a => blk r x n a e rest ++ np1 r x e rest n (a + 1)
def npL (r : Rl) (x : Str) : Sts → List Nx
  | [] => []
  | s :: rest => np1 r x s.2 rest (s.2 + 1 - s.1).toNat s.1 ++ npL r x rest
def sz : Sts → Nat
  | [] => 0
  | s :: rest => (s.2 + 1 - s.1).toNat + sz rest
def pdc (r : Rl) (x : Str) : Sts → Nat
  | [] => 1
  | s :: rest => cn r x (s.2 + 1 - s.1).toNat s.1 * pdc r x rest
theorem pdc_cons (r : Rl) (x : Str) (s : Int × Int) (rest : Sts) : pdc r x (s :: rest) = cn r x (s.2 + 1 - s.1).toNat s.1 * pdc r x rest := rfl
theorem sz_cons (s : Int × Int) (rest : Sts) : sz (s :: rest) = (s.2 + 1 - s.1).toNat + sz rest := rfl
theorem mem_np1 {r : Rl} {x : Str} {e : Int} {rest : Sts} : ∀ {n : Nat} {a : Int} {c : Nx}, c ∈ np1 r x e rest n a → a ≤ c.1.1 ∧ c.1.1 < c.1.2 ∧ c.1.2 < a + n ∧ mayC r x c.1.1 c.1.2 = true ∧ c.2 = (c.1.1 + 1, c.1.2 - 1) :: (c.1.2 + 1, e) :: rest
  | 0, _, _, h => by cases h
  | n + 1, a, c, h => by
    rcases List.mem_append.mp h with h | h
    · obtain ⟨t, ht, rfl⟩ := List.mem_map.mp h
      have h1 := List.mem_range.mp (List.mem_filter.mp ht).1
      have h2 : mayC r x a (a + 1 + (t : Nat)) = true := (List.mem_filter.mp ht).2
      refine ⟨Int.le_refl _, ?_, ?_, h2, rfl⟩
      · show a < a + 1 + (t : Nat)
        omega
      · show a + 1 + (t : Nat) < a + ((n + 1 : Nat) : Int)
        omega
    · obtain ⟨h1, h2, h3, h4, h5⟩ := mem_np1 h
      exact ⟨by omega, h2, by omega, h4, h5⟩
/-- what may come next -/
theorem mem_npL {r : Rl} {x : Str} : ∀ {Ss : Sts} {c : Nx}, c ∈ npL r x Ss → ∃ pre s rest, Ss = pre ++ s :: rest ∧ s.1 ≤ c.1.1 ∧ c.1.1 < c.1.2 ∧ c.1.2 ≤ s.2 ∧ mayC r x c.1.1 c.1.2 = true ∧ c.2 = (c.1.1 + 1, c.1.2 - 1) :: (c.1.2 + 1, s.2) :: rest
  | [], _, h => by cases h
  | s :: rest, c, h => by
    rcases List.mem_append.mp h with h | h
    · obtain ⟨h1, h2, h3, h4, h5⟩ := mem_np1 h
      exact ⟨[], s, rest, rfl, h1, h2, by omega, h4, h5⟩
    · obtain ⟨pre, s', rest', e, h'⟩ := mem_npL h
      exact ⟨s :: pre, s', rest', by rw [e]; rfl, h'⟩
theorem sz_app : ∀ (p q : Sts), sz (p ++ q) = sz p + sz q
  | [], q => by rw [List.nil_append]; exact (Nat.zero_add _).symm
  | s :: p, q => by
    rw [List.cons_append, sz_cons, sz_cons, sz_app p q, Nat.add_assoc]
theorem npL_sz {r : Rl} {x : Str} {Ss : Sts} {c : Nx} (h : c ∈ npL r x Ss) : sz c.2 + 2 ≤ sz Ss ∧ sz c.2 + c.2.length ≤ sz Ss + Ss.length := by
  obtain ⟨pre, s, rest, rfl, h1, h2, h3, _, e⟩ := mem_npL h
  rw [e, sz_app, sz_cons, sz_cons, sz_cons, List.length_cons, List.length_cons, List.length_append, List.length_cons]
  have e1 : (c.1.1 + 1, c.1.2 - 1).2 + 1 - (c.1.1 + 1, c.1.2 - 1).1 = c.1.2 - c.1.1 - 1 := by
    show c.1.2 - 1 + 1 - (c.1.1 + 1) = _
    omega
  have e2 : (c.1.2 + 1, s.2).2 + 1 - (c.1.2 + 1, s.2).1 = s.2 - c.1.2 := by
    show s.2 + 1 - (c.1.2 + 1) = _
    omega
  rw [e1, e2]
  omega
/-! ### how many -/
theorem sum_mulr {α : Type} (f : α → Nat) (k : Nat) : ∀ l : List α, (l.map fun y => f y * k).sum = (l.map f).sum * k
  | [] => by rw [List.map_nil, List.map_nil, List.sum_nil, Nat.zero_mul]
  | y :: l => by rw [List.map_cons, List.map_cons, List.sum_cons, List.sum_cons, sum_mulr f k l, Nat.add_mul]
theorem np1_sum (r : Rl) (x : Str) (e : Int) (rest : Sts) : ∀ (n : Nat) (a : Int), e + 1 - a = n → ((np1 r x e rest n a).map fun c => pdc r x c.2).sum + pdc r x rest = cn r x n a * pdc r x rest
  | 0, a, _ => by
    rw [np1, List.map_nil, List.sum_nil, cn_zero]
    omega
  | n + 1, a, h => by
    have ih := np1_sum r x e rest n (a + 1) (by omega)
    rw [np1, List.map_append, List.sum_append, Nat.add_assoc, ih, cn_succ, Nat.add_mul, Nat.add_comm, ← sum_mulr]
    congr 1
    unfold blk
    rw [List.map_map]
    refine congrArg List.sum (List.map_congr_left fun t ht => ?_)
    have ht := List.mem_range.mp (List.mem_filter.mp ht).1
    show pdc r x ((a + 1, a + 1 + (t : Nat) - 1) :: (a + 1 + (t : Nat) + 1, e) :: rest) = _
    rw [pdc_cons, pdc_cons]
    show cn r x (a + 1 + (t : Nat) - 1 + 1 - (a + 1)).toNat (a + 1) * (cn r x (e + 1 - (a + 1 + (t : Nat) + 1)).toNat (a + 1 + (t : Nat) + 1) * pdc r x rest) = _
    rw [show (a + 1 + (t : Nat) - 1 + 1 - (a + 1)).toNat = t by omega, show (e + 1 - (a + 1 + (t : Nat) + 1)).toNat = n - 1 - t by omega, show a + 1 + (t : Nat) + 1 = a + 2 + (t : Nat) by omega, Nat.mul_assoc]
def Ge1 (Ss : Sts) : Prop := ∀ s ∈ Ss, s.1 ≤ s.2 + 1
theorem pdc_rec (r : Rl) (x : Str) : ∀ Ss : Sts, Ge1 Ss → pdc r x Ss = 1 + ((npL r x Ss).map fun c => pdc r x c.2).sum
  | [], _ => rfl
  | s :: rest, h => by
    have h1 := h s (List.mem_cons_self ..)
    have ih := pdc_rec r x rest fun t ht => h t (List.mem_cons_of_mem _ ht)
    have h2 := np1_sum r x s.2 rest (s.2 + 1 - s.1).toNat s.1 (by omega)
    rw [npL, List.map_append, List.sum_append, pdc_cons]
    omega
/-! ### all of them -/
def gen (r : Rl) (x : Str) : Nat → Sts → List Fo
  | 0, _ => [[]]
  | f + 1, Ss => [] :: (npL r x Ss).flatMap fun c => (gen r x f c.2).map (c.1 :: ·)
theorem gen_fuel (r : Rl) (x : Str) : ∀ (f g : Nat) (Ss : Sts), sz Ss ≤ f → sz Ss ≤ g → gen r x f Ss = gen r x g Ss
  | 0, 0, _, _, _ => rfl
  | 0, g + 1, Ss, h, _ => by
    rw [gen, gen]
    have : npL r x Ss = [] := by
      cases e : npL r x Ss with
      | nil => rfl
      | cons c l =>
        have := (npL_sz (r := r) (x := x) (Ss := Ss) (c := c) (by rw [e]; exact List.mem_cons_self ..)).1
        omega
    rw [this]
    rfl
  | f + 1, 0, Ss, _, h => by
    rw [gen, gen]
    have : npL r x Ss = [] := by
      cases e : npL r x Ss with
      | nil => rfl
      | cons c l =>
        have := (npL_sz (r := r) (x := x) (Ss := Ss) (c := c) (by rw [e]; exact List.mem_cons_self ..)).1
        omega
    rw [this]
    rfl
  | f + 1, g + 1, Ss, h1, h2 => by
    rw [gen, gen]
    congr 1
    refine flat_congr fun c hc => ?_
    have := (npL_sz hc).1
    rw [gen_fuel r x f g c.2 (by omega) (by omega)]
def Gn (r : Rl) (x : Str) (Ss : Sts) : List Fo := gen r x (sz Ss) Ss
theorem Gn_eq (r : Rl) (x : Str) (Ss : Sts) : Gn r x Ss = [] :: (npL r x Ss).flatMap fun c => (Gn r x c.2).map (c.1 :: ·) := by
  unfold Gn
  rw [gen_fuel r x (sz Ss) (sz Ss + 1) Ss (Nat.le_refl _) (Nat.le_succ _), gen]
  congr 1
  refine flat_congr fun c hc => ?_
  have := (npL_sz hc).1
  rw [gen_fuel r x (sz Ss) (sz c.2) c.2 (by omega) (Nat.le_refl _)]
theorem Gn_zero (r : Rl) (x : Str) (Ss : Sts) : (Gn r x Ss)[0]? = some [] := by
  rw [Gn_eq]
  rfl
/-- stretches that stand one behind the other -/
def WfS (Ss : Sts) : Prop := Ss.Pairwise fun s t => s.2 < t.1
theorem WfS.nx {r : Rl} {x : Str} {Ss : Sts} {c : Nx} (h : WfS Ss) (hc : c ∈ npL r x Ss) : WfS c.2 := by
  obtain ⟨pre, s, rest, rfl, h1, h2, h3, _, e⟩ := mem_npL hc
  rw [e]
  have hp := List.pairwise_cons.mp (List.pairwise_append.mp h).2.1
  refine List.pairwise_cons.mpr ⟨fun t ht => ?_, List.pairwise_cons.mpr ⟨fun t ht => hp.1 t ht, hp.2⟩⟩
  rcases List.mem_cons.mp ht with rfl | ht
  · show c.1.2 - 1 < c.1.2 + 1
    omega
  · have := hp.1 t ht
    show c.1.2 - 1 < t.1
    omega
theorem Ge1.nx {r : Rl} {x : Str} {Ss : Sts} {c : Nx} (h : Ge1 Ss) (hc : c ∈ npL r x Ss) : Ge1 c.2 := by
  obtain ⟨pre, s, rest, rfl, h1, h2, h3, _, e⟩ := mem_npL hc
  rw [e]
  intro t ht
  rcases List.mem_cons.mp ht with rfl | ht
  · show c.1.1 + 1 ≤ c.1.2 - 1 + 1
    omega
  · rcases List.mem_cons.mp ht with rfl | ht
    · show c.1.2 + 1 ≤ s.2 + 1
      omega
    · exact h t (List.mem_append_right _ (List.mem_cons_of_mem _ ht))
theorem Gn_len (r : Rl) (x : Str) : ∀ (f : Nat) (Ss : Sts), sz Ss ≤ f → Ge1 Ss → (Gn r x Ss).length = pdc r x Ss := by
  intro f
  induction f with
  | zero =>
    intro Ss h hg
    have : npL r x Ss = [] := by
      cases e : npL r x Ss with
      | nil => rfl
      | cons c l =>
        have := (npL_sz (r := r) (x := x) (Ss := Ss) (c := c) (by rw [e]; exact List.mem_cons_self ..)).1
        omega
    rw [Gn_eq, pdc_rec r x Ss hg, this]
    rfl
  | succ f ih =>
    intro Ss h hg
    rw [Gn_eq, pdc_rec r x Ss hg, List.length_cons, flat_len, Nat.add_comm]
    congr 1
    refine congrArg List.sum (List.map_congr_left fun c hc => ?_)
    have := (npL_sz hc).1
    rw [List.length_map, ih c.2 (by omega) (hg.nx hc)]
/-! ### what they are -/
structure FoS (r : Rl) (x : Str) (Ss : Sts) (q : Fo) : Prop where
  srt : q.Pairwise fun y z => y.1 < z.1
  inn : ∀ y ∈ q, ∃ s ∈ Ss, s.1 ≤ y.1 ∧ y.1 < y.2 ∧ y.2 ≤ s.2
  may : ∀ y ∈ q, mayC r x y.1 y.2 = true
  sep : ∀ y ∈ q, ∀ z ∈ q, y.1 < z.1 → z.2 < y.2 ∨ y.2 < z.1
theorem Gn_FoS (r : Rl) (x : Str) : ∀ (q : Fo) (Ss : Sts), WfS Ss → q ∈ Gn r x Ss → FoS r x Ss q := by
  intro q
  induction q with
  | nil => exact fun _ _ _ => ⟨.nil, (fun y hy => by cases hy), (fun y hy => by cases hy), (fun y hy => by cases hy)⟩
  | cons p g ihq =>
    intro Ss hw h
    rw [Gn_eq] at h
    rcases List.mem_cons.mp h with h | h
    · cases h
    obtain ⟨c, hc, h⟩ := List.mem_flatMap.mp h
    obtain ⟨g', hg, e⟩ := List.mem_map.mp h
    injection e with e1 e2
    subst e1 e2
    have ih := ihq c.2 (hw.nx hc) hg
    obtain ⟨pre, s, rest, rfl, h1, h2, h3, hm, e⟩ := mem_npL hc
    have hp := List.pairwise_cons.mp (List.pairwise_append.mp hw).2.1
    have key : ∀ y ∈ g', c.1.1 < y.1 ∧ (y.2 < c.1.2 ∨ c.1.2 < y.1) := fun y hy => by
      obtain ⟨s', hs', a1, a2, a3⟩ := ih.inn y hy
      rw [e] at hs'
      rcases List.mem_cons.mp hs' with rfl | hs'
      · have a1 : c.1.1 + 1 ≤ y.1 := a1
        have a3 : y.2 ≤ c.1.2 - 1 := a3
        omega
      · rcases List.mem_cons.mp hs' with rfl | hs'
        · have a1 : c.1.2 + 1 ≤ y.1 := a1
          omega
        · have := hp.1 s' hs'
          omega
    refine ⟨List.pairwise_cons.mpr ⟨fun y hy => (key y hy).1, ih.srt⟩, fun y hy => ?_, fun y hy => ?_, fun y hy z hz hlt => ?_⟩
    · rcases List.mem_cons.mp hy with rfl | hy
      · exact ⟨s, List.mem_append_right _ (List.mem_cons_self ..), h1, h2, h3⟩
      · obtain ⟨s', hs', a1, a2, a3⟩ := ih.inn y hy
        rw [e] at hs'
        rcases List.mem_cons.mp hs' with rfl | hs'
        · have a1 : c.1.1 + 1 ≤ y.1 := a1
          have a3 : y.2 ≤ c.1.2 - 1 := a3
          exact ⟨s, List.mem_append_right _ (List.mem_cons_self ..), by omega, a2, by omega⟩
        · rcases List.mem_cons.mp hs' with rfl | hs'
          · have a1 : c.1.2 + 1 ≤ y.1 := a1
            have a3 : y.2 ≤ s.2 := a3
            exact ⟨s, List.mem_append_right _ (List.mem_cons_self ..), by omega, a2, a3⟩
          · exact ⟨s', List.mem_append_right _ (List.mem_cons_of_mem _ hs'), a1, a2, a3⟩
    · rcases List.mem_cons.mp hy with rfl | hy
      · exact hm
      · exact ih.may y hy
    · rcases List.mem_cons.mp hy with rfl | hy
      · rcases List.mem_cons.mp hz with rfl | hz
        · omega
        · exact (key z hz).2
      · rcases List.mem_cons.mp hz with rfl | hz
        · have := (key y hy).1
          omega
        · exact ih.sep y hy z hz hlt
/-! ### their order -/
def lt2 (a b : Int × Int) : Bool := decide (a.1 < b.1 ∨ (a.1 = b.1 ∧ a.2 < b.2))
def ltF (p q : Fo) : Bool := PySem.W.dataLt (dFo p) (dFo q)
theorem blt_int (a b : Int) : itemOrd.blt (Sum.inl a) (Sum.inl b) = decide (a < b) := rfl
theorem toks_nil : PySem.W.keyToks (dFo []) = [.inl 0] := by
  simp [dFo, PySem.W.keyToks, PySem.W.keyToksAll]
theorem toks_cons (y : Int × Int) (q : Fo) : PySem.W.keyToks (dFo (y :: q)) = .inl 1 :: .inl 1 :: .inl y.1 :: .inl 1 :: .inl y.2 :: .inl 0 :: PySem.W.keyToks (dFo q) := by
  simp [dFo, dTwo, PySem.W.keyToks, PySem.W.keyToksAll]
theorem ltF_nn : ltF [] [] = false := by
  unfold ltF PySem.W.dataLt
  rw [toks_nil]
  exact lex_irrefl (O := itemOrd) _
theorem ltF_nc (z : Int × Int) (s : Fo) : ltF [] (z :: s) = true := by
  unfold ltF PySem.W.dataLt
  rw [toks_nil, toks_cons, lex_cons, blt_int]
  rfl
theorem ltF_cn (y : Int × Int) (q : Fo) : ltF (y :: q) [] = false := by
  unfold ltF PySem.W.dataLt
  rw [toks_nil, toks_cons, lex_cons, blt_int, blt_int]
  rfl
theorem lex_int (a b : Int) (l m : List (Int ⊕ List Nat)) : PyProof.Rows.lexLt itemOrd (Sum.inl a :: l) (Sum.inl b :: m) = (decide (a < b) || (!decide (b < a) && PyProof.Rows.lexLt itemOrd l m)) := lex_cons (O := itemOrd) _ _ _ _
theorem ltF_cc (y z : Int × Int) (q s : Fo) : ltF (y :: q) (z :: s) = (lt2 y z || (decide (y = z) && ltF q s)) := by
  unfold ltF PySem.W.dataLt lt2
  rw [toks_cons, toks_cons, lex_int, lex_int, lex_int, lex_int, lex_int, lex_int]
  obtain ⟨y1, y2⟩ := y
  obtain ⟨z1, z2⟩ := z
  dsimp only
  generalize PyProof.Rows.lexLt itemOrd (PySem.W.keyToks (dFo q)) (PySem.W.keyToks (dFo s)) = b
  rw [Bool.eq_iff_iff]
  simp only [Bool.or_eq_true, Bool.and_eq_true, decide_eq_true_eq, Bool.not_eq_true', decide_eq_false_iff_not, Prod.mk.injEq]
  constructor
  · intro h
    cases b <;> simp_all <;> omega
  · intro h
    cases b <;> simp_all <;> omega
theorem ltF_irr (q : Fo) : ltF q q = false := lex_irrefl (O := itemOrd) _
theorem ltF_tr {p q s : Fo} (h1 : ltF p q = true) (h2 : ltF q s = true) : ltF p s = true := lex_trans (O := itemOrd) _ _ _ h1 h2
theorem np1_lt {r : Rl} {x : Str} {e : Int} {rest : Sts} : ∀ (n : Nat) (a : Int), (np1 r x e rest n a).Pairwise fun c d => lt2 c.1 d.1 = true
  | 0, _ => .nil
  | n + 1, a => by
    rw [np1]
    refine List.pairwise_append.mpr ⟨?_, np1_lt n (a + 1), fun c hc d hd => ?_⟩
    · unfold blk
      refine List.pairwise_map.mpr ((List.Pairwise.filter _ List.pairwise_lt_range).imp fun {t u} h => ?_)
      refine decide_eq_true (.inr ⟨rfl, ?_⟩)
      show a + 1 + (t : Nat) < a + 1 + (u : Nat)
      omega
    · obtain ⟨t, _, rfl⟩ := List.mem_map.mp hc
      have := (mem_np1 hd).1
      refine decide_eq_true (.inl ?_)
      show a < d.1.1
      omega
theorem npL_lt {r : Rl} {x : Str} : ∀ {Ss : Sts}, WfS Ss → (npL r x Ss).Pairwise fun c d => lt2 c.1 d.1 = true
  | [], _ => .nil
  | s :: rest, h => by
    have hp := List.pairwise_cons.mp h
    refine List.pairwise_append.mpr ⟨np1_lt _ _, npL_lt hp.2, fun c hc d hd => ?_⟩
    obtain ⟨h1, h2, h3, _⟩ := mem_np1 hc
    obtain ⟨pre, s', rest', e, g1, _⟩ := mem_npL hd
    have := hp.1 s' (by rw [e]; exact List.mem_append_right _ (List.mem_cons_self ..))
    exact decide_eq_true (.inl (by omega))
theorem lt2_ne {a b : Int × Int} (h : lt2 a b = true) : a ≠ b := fun e => by
  have := of_decide_eq_true h
  rw [e] at this
  omega
theorem Gn_lt (r : Rl) (x : Str) : ∀ (f : Nat) (Ss : Sts), sz Ss ≤ f → WfS Ss → (Gn r x Ss).Pairwise fun p q => ltF p q = true := by
  intro f
  induction f with
  | zero =>
    intro Ss h hg
    have : npL r x Ss = [] := by
      cases e : npL r x Ss with
      | nil => rfl
      | cons c l =>
        have := (npL_sz (r := r) (x := x) (Ss := Ss) (c := c) (by rw [e]; exact List.mem_cons_self ..)).1
        omega
    rw [Gn_eq, this]
    exact List.pairwise_singleton _ _
  | succ f ih =>
    intro Ss h hw
    rw [Gn_eq]
    refine List.pairwise_cons.mpr ⟨fun q hq => ?_, List.pairwise_flatMap.mpr ⟨fun c hc => ?_, ?_⟩⟩
    · obtain ⟨c, _, hq⟩ := List.mem_flatMap.mp hq
      obtain ⟨g, _, rfl⟩ := List.mem_map.mp hq
      exact ltF_nc _ _
    · have := (npL_sz hc).1
      refine List.pairwise_map.mpr ((ih c.2 (by omega) (hw.nx hc)).imp fun {p q} h => ?_)
      rw [ltF_cc, h, decide_eq_true rfl]
      simp
    · refine (npL_lt hw).imp fun {c d} hcd => ?_
      intro p hp q hq
      obtain ⟨p', _, rfl⟩ := List.mem_map.mp hp
      obtain ⟨q', _, rfl⟩ := List.mem_map.mp hq
      rw [ltF_cc, hcd, Bool.true_or]
/-! ### they are all foldings, sorted -/
def S0 (x : Str) : Sts := [(0, (x.length : Int) - 1)]
theorem S0_wf (x : Str) : WfS (S0 x) := List.pairwise_singleton _ _
theorem S0_ge (x : Str) : Ge1 (S0 x) := fun s hs => by
  rw [List.mem_singleton.mp hs]
  show (0 : Int) ≤ (x.length : Int) - 1 + 1
  omega
theorem S0_pdc (r : Rl) (x : Str) : pdc r x (S0 x) = cn r x x.length 0 := by
  unfold S0
  rw [pdc_cons]
  show cn r x ((x.length : Int) - 1 + 1 - 0).toNat 0 * 1 = _
  rw [Nat.mul_one, show ((x.length : Int) - 1 + 1 - 0).toNat = x.length by omega]
def GA (r : Rl) (x : Str) : List Fo := Gn r x (S0 x)
theorem GA_len (r : Rl) (x : Str) : (GA r x).length = cn r x x.length 0 := by
  unfold GA
  rw [Gn_len r x _ _ (Nat.le_refl _) (S0_ge x), S0_pdc]
theorem GA_lt (r : Rl) (x : Str) : (GA r x).Pairwise fun p q => ltF p q = true := Gn_lt r x _ _ (Nat.le_refl _) (S0_wf x)
theorem GA_nd (r : Rl) (x : Str) : (GA r x).Nodup := (GA_lt r x).imp fun {p q} h e => by
  rw [e, ltF_irr] at h
  cases h
theorem GA_sub {r : Rl} {x : Str} {q : Fo} (h : q ∈ GA r x) : q ∈ WA r x x.length 0 := by
  have f := Gn_FoS r x q (S0 x) (S0_wf x) h
  refine of_fo4 r x x.length 0 q ⟨f.srt, fun y hy => ?_, f.may, f.sep⟩
  obtain ⟨s, hs, a1, a2, a3⟩ := f.inn y hy
  rw [List.mem_singleton.mp hs] at a1 a3
  have a1 : (0 : Int) ≤ y.1 := a1
  have a3 : y.2 ≤ (x.length : Int) - 1 := a3
  omega
theorem sub_all {α : Type} [DecidableEq α] {l m : List α} (hl : l.Nodup) (h : ∀ y ∈ l, y ∈ m) (e : m.length ≤ l.length) : ∀ y ∈ m, y ∈ l := fun y hy => by
  by_cases c : y ∈ l
  · exact c
  · have h1 := len_nd (l := l) (m := m.erase y) hl fun z hz => (List.mem_erase_of_ne (fun e : z = y => c (by rw [← e]; exact hz))).mpr (h z hz)
    rw [List.length_erase_of_mem hy] at h1
    have : 0 < m.length := List.length_pos_of_mem hy
    omega
theorem GA_perm (r : Rl) (x : Str) : (GA r x).Perm (WA r x x.length 0) :=
  perm_nd (GA_nd r x) (WA_nd r x x.length 0) fun y => ⟨GA_sub, fun h => sub_all (GA_nd r x) (fun z hz => GA_sub hz) (by rw [GA_len]; exact Nat.le_refl _) y h⟩
theorem SF_GA (r : Rl) (x : Str) : SF (WA r x x.length 0) = GA r x := by
  unfold SF
  have T := PySem.W.sortLe_total (listOrd itemOrd) false fun z : Fo => PySem.W.keyToks (dFo z)
  have tot : ∀ a b : Fo, (PySem.W.dataLe false dFo a b || PySem.W.dataLe false dFo b a) = true := fun a b => by
    rcases T.total a b with h | h
    · rw [show PySem.W.dataLe false dFo a b = true from h]
      rfl
    · rw [show PySem.W.dataLe false dFo b a = true from h, Bool.or_true]
  have p1 := List.pairwise_mergeSort (le := PySem.W.dataLe false dFo) T.trans tot (WA r x x.length 0)
  have p2 : (GA r x).Pairwise fun p q => PySem.W.dataLe false dFo p q = true := (GA_lt r x).imp fun {p q} h => by
    show (!PyProof.Rows.lexLt itemOrd (PySem.W.keyToks (dFo q)) (PySem.W.keyToks (dFo p))) = true
    cases c : PyProof.Rows.lexLt itemOrd (PySem.W.keyToks (dFo q)) (PySem.W.keyToks (dFo p)) with
    | false => rfl
    | true =>
      have := ltF_tr h c
      rw [ltF_irr] at this
      cases this
  refine List.Perm.eq_of_pairwise (fun a b _ hb y z => ?_) p1 p2 ((List.mergeSort_perm _ _).trans (GA_perm r x).symm)
  have ha : a ∈ GA r x := (GA_perm r x).mem_iff.mpr ((List.mergeSort_perm _ _).mem_iff.mp ‹_›)
  have y : (!PyProof.Rows.lexLt itemOrd (PySem.W.keyToks (dFo b)) (PySem.W.keyToks (dFo a))) = true := y
  have z : (!PyProof.Rows.lexLt itemOrd (PySem.W.keyToks (dFo a)) (PySem.W.keyToks (dFo b))) = true := z
  have eq : PySem.W.keyToks (dFo a) = PySem.W.keyToks (dFo b) := (listOrd itemOrd).total _ _ (by simpa using z) (by simpa using y)
  have inj : ∀ a b : Fo, PySem.W.keyToks (dFo a) = PySem.W.keyToks (dFo b) → a = b := by
    intro a
    induction a with
    | nil =>
      intro b h
      cases b with
      | nil => rfl
      | cons z b =>
        rw [toks_nil, toks_cons] at h
        simp at h
    | cons y a ih =>
      intro b h
      cases b with
      | nil =>
        rw [toks_nil, toks_cons] at h
        simp at h
      | cons z b =>
        rw [toks_cons, toks_cons] at h
        simp only [List.cons.injEq, Sum.inl.injEq, true_and] at h
        rw [ih b h.2.2, Prod.ext h.1 h.2.1]
  exact inj a b eq
/-! ### places in such a list -/
theorem flat_get {α β : Type} {f : α → List β} : ∀ {l : List α} {t m : Nat} {c : α} {b : β}, l[t]? = some c → (f c)[m]? = some b → (l.flatMap f)[((l.take t).map fun y => (f y).length).sum + m]? = some b
  | [], t, m, c, b, h, _ => by simp at h
  | y :: l, 0, m, c, b, h, h2 => by
    have e : y = c := by simpa using h
    subst e
    rw [List.take_zero, List.map_nil, List.sum_nil, Nat.zero_add, List.flatMap_cons, List.getElem?_append_left (List.getElem?_eq_some_iff.mp h2).1]
    exact h2
  | y :: l, t + 1, m, c, b, h, h2 => by
    have h : l[t]? = some c := by simpa using h
    rw [List.take_succ_cons, List.map_cons, List.sum_cons, List.flatMap_cons, Nat.add_assoc, List.getElem?_append_right (Nat.le_add_right _ _), Nat.add_sub_cancel_left]
    exact flat_get h h2
def pre (r : Rl) (x : Str) (Ss : Sts) (t : Nat) : Nat := (((npL r x Ss).take t).map fun c => pdc r x c.2).sum
theorem pre_zero (r : Rl) (x : Str) (Ss : Sts) : pre r x Ss 0 = 0 := rfl
theorem pre_succ {r : Rl} {x : Str} {Ss : Sts} {t : Nat} {c : Nx} (h : (npL r x Ss)[t]? = some c) : pre r x Ss (t + 1) = pre r x Ss t + pdc r x c.2 := by
  unfold pre
  rw [List.take_add_one, h, List.map_append, List.sum_append]
  rfl
theorem pre_all {r : Rl} {x : Str} {Ss : Sts} (h : Ge1 Ss) : pdc r x Ss = 1 + pre r x Ss (npL r x Ss).length := by
  unfold pre
  rw [List.take_length, pdc_rec r x Ss h]
theorem pre_le {r : Rl} {x : Str} {Ss : Sts} (h : Ge1 Ss) : ∀ t : Nat, 1 + pre r x Ss t ≤ pdc r x Ss := fun t => by
  rw [pre_all h]
  unfold pre
  have e : (npL r x Ss) = (npL r x Ss).take t ++ (npL r x Ss).drop t := (List.take_append_drop ..).symm
  have : (((npL r x Ss).take (npL r x Ss).length).map fun c => pdc r x c.2).sum = (((npL r x Ss).take t).map fun c => pdc r x c.2).sum + (((npL r x Ss).drop t).map fun c => pdc r x c.2).sum := by
    rw [List.take_length, ← List.sum_append, ← List.map_append, ← e]
  omega
/-- the place of a folding: that of its rest, moved on -/
theorem Gn_at {r : Rl} {x : Str} {Ss : Sts} {t m : Nat} {c : Nx} {g : Fo} (hg : Ge1 Ss) (h : (npL r x Ss)[t]? = some c) (h2 : (Gn r x c.2)[m]? = some g) : (Gn r x Ss)[1 + pre r x Ss t + m]? = some (c.1 :: g) := by
  rw [Gn_eq, show 1 + pre r x Ss t + m = (pre r x Ss t + m) + 1 by omega, List.getElem?_cons_succ]
  have e : pre r x Ss t = (((npL r x Ss).take t).map fun y => ((Gn r x y.2).map (y.1 :: ·)).length).sum := by
    unfold pre
    refine congrArg List.sum (List.map_congr_left fun y hy => ?_)
    rw [List.length_map, Gn_len r x _ y.2 (Nat.le_refl _) (hg.nx (List.mem_of_mem_take hy))]
  rw [e]
  exact flat_get h (by rw [List.getElem?_map, h2]; rfl)
theorem Gn_cons {r : Rl} {x : Str} {Ss : Sts} {y : Int × Int} {g : Fo} (h : y :: g ∈ Gn r x Ss) : ∃ (t : Nat) (c : Nx), (npL r x Ss)[t]? = some c ∧ c.1 = y ∧ g ∈ Gn r x c.2 := by
  rw [Gn_eq] at h
  rcases List.mem_cons.mp h with h | h
  · cases h
  obtain ⟨c, hc, h⟩ := List.mem_flatMap.mp h
  obtain ⟨g', hg, e⟩ := List.mem_map.mp h
  injection e with e1 e2
  subst e1 e2
  obtain ⟨t, ht⟩ := List.getElem?_of_mem hc
  exact ⟨t, c, ht, rfl, hg⟩
/-- one pair, one place -/
theorem npL_one {r : Rl} {x : Str} {Ss : Sts} {t u : Nat} {c d : Nx} (hw : WfS Ss) (h1 : (npL r x Ss)[t]? = some c) (h2 : (npL r x Ss)[u]? = some d) (e : c.1 = d.1) : t = u := by
  have hp := List.pairwise_iff_getElem.mp (npL_lt (r := r) (x := x) hw)
  obtain ⟨l1, e1⟩ := List.getElem?_eq_some_iff.mp h1
  obtain ⟨l2, e2⟩ := List.getElem?_eq_some_iff.mp h2
  rcases Nat.lt_trichotomy t u with h | h | h
  · have := hp t u l1 l2 h
    rw [e1, e2] at this
    exact absurd e (lt2_ne this)
  · exact h
  · have := hp u t l2 l1 h
    rw [e1, e2] at this
    exact absurd e.symm (lt2_ne this)
theorem np1_len (r : Rl) (x : Str) (e : Int) (rest : Sts) : ∀ (n : Nat) (a : Int), (np1 r x e rest n a).length ≤ n * n
  | 0, _ => Nat.le_refl _
  | n + 1, a => by
    have ih := np1_len r x e rest n (a + 1)
    have h1 : (blk r x n a e rest).length ≤ n := by
      unfold blk
      rw [List.length_map]
      have := List.length_filter_le (mayN r x a) (List.range n)
      rw [List.length_range] at this
      exact this
    rw [np1, List.length_append, Nat.succ_mul, Nat.mul_succ]
    omega
theorem npL_len (r : Rl) (x : Str) : ∀ Ss : Sts, (npL r x Ss).length ≤ sz Ss * sz Ss
  | [] => Nat.le_refl _
  | s :: rest => by
    have h1 := np1_len r x s.2 rest (s.2 + 1 - s.1).toNat s.1
    have h2 := npL_len r x rest
    rw [npL, List.length_append, sz_cons, Nat.add_mul, Nat.mul_add, Nat.mul_add]
    omega
end Pf


namespace Pf
open PySem PySem.Spec PyProof.Rows L2 HT
/-! ### a product in its place; a tuple lengthened; data compared -/
def ipM : TIp := fun x y H Q => ∃ i j, x = .int i ∧ y = .int j ∧ CMul i j ∧ Q (.int (i * j)) H
theorem ip_mul {X : Cx} : PIp X .Mult ipM := by
  intro pins s σ H x y v u Q I r1 r2 h
  obtain ⟨i, j, e1, e2, hc, q⟩ := h
  subst e1; subst e2
  obtain ⟨t, rfl⟩ := r1
  obtain ⟨t', rfl⟩ := r2
  exact imul_int ⟨.int _, H, I.tok _, ⟨_, rfl⟩, q⟩ hc.ok
theorem no_tup_iadd : typeLookup (.type "tuple") (dunderI "add") = pure none := by kernel_rfl
def rItup : TIp := fun x y H Q => ∃ a b xs ys, x = .ref a ∧ y = .ref b ∧ H a = some (.tup xs) ∧ H b = some (.tup ys) ∧ xs.length + ys.length ≤ sizeLine ∧ ∀ p H', Ext H H' → H' p = some (.tup (xs ++ ys)) → Q (.ref p) H'
theorem ip_tup {X : Cx} : PIp X .Add rItup := by
  intro pins s σ H x y v u Q I rx ry h
  obtain ⟨a, b, xs, ys, rfl, rfl, ha, hb, hz, q⟩ := h
  cases rx
  cases ry
  obtain ⟨its, r1, p1, _⟩ := I.tuple (SqT.of (K := X.K) ha)
  obtain ⟨its2, r2, p2, _⟩ := I.tuple (SqT.of (K := X.K) hb)
  obtain ⟨⟨cls, dd, data, sl⟩, ho, hc, n, hd⟩ := id p1
  obtain ⟨⟨cls2, dd2, data2, sl2⟩, ho2, hc2, n2, hd2⟩ := id p2
  simp only at hc hd hc2 hd2
  subst hc hd hc2 hd2
  have e : its.toArray ++ its2.toArray = (its ++ its2).toArray := by simp
  have go : ∀ {S : PySem.Spec}, PySem.Meets (Builtin.«tuple.__add__» ⟨[.ref a, .ref b], []⟩) S → S X.A (wants (EP X pins σ Q) X.xe) s → wpAny (model X.prog X.w) X.A (inplaceOp .Add (.ref a) (.ref b)) (EP X pins σ Q) X.xe s := fun g h =>
    inplaceOp_concat ⟨_, ho, rfl⟩ ⟨_, ho2, rfl⟩ no_tup_iadd PySem.noFill_tuple_add PySem.seq_tuple_add (call_meets PySem.F.slot_tuple_add ⟨_, ho, rfl⟩ PySem.F.entry_tuple_add (PySem.F.args_tuple_add_2 _ _) g h)
  by_cases h1 : its = []
  · have hx : xs = [] := by
      have := r1.length
      rw [h1] at this
      exact List.eq_nil_of_length_eq_zero this
    exact go (tuple_addW0 a b its.toArray its2.toArray n n2 dd dd2 sl sl2 (by simp [h1])) ⟨ho, ho2, .ref b, H, I, rfl, q b H Ext.refl (by rw [hx]; exact hb)⟩
  · by_cases h2 : its2 = []
    · have hy : ys = [] := by
        have := r2.length
        rw [h2] at this
        exact List.eq_nil_of_length_eq_zero this
      exact go (tuple_addW1 a b its.toArray its2.toArray n n2 dd dd2 sl sl2 (by simpa using h1) (by simp [h2])) ⟨ho, ho2, .ref a, H, I, rfl, q a H Ext.refl (by rw [hy, List.append_nil]; exact ha)⟩
    · refine go (tuple_addW2 a b its.toArray its2.toArray n n2 dd dd2 sl sl2 (by simpa using h1) (by simpa using h2) (by rw [List.size_toArray, List.size_toArray, ← r1.length, ← r2.length]; exact hz)) ⟨ho, ho2, ?_⟩
      rw [e]
      refine ⟨.ref s.heap.objs.size, _, I.laid (t' := s.toks) (o := .tup (xs ++ ys)) (fun b ob q => Heap.get?_push_of_some _ q) (Nat.le_refl _) ?_, rfl, q _ _ (Ext.new (I.hok.fresh (Nat.le_refl _))) upd_same⟩
      exact ⟨by rw [List.length_append]; exact hz, _, r1.append r2, IsTup.new _ _⟩
def rLtD (K : PySem.W.Frag) : R2 := fun x y H Q => ∃ d e, Dp K H x d ∧ Dp K H y e ∧ PySem.W.alike d e = true ∧ d ≠ .none ∧ d.depth ≤ 64 ∧ Q (.bl (PySem.W.dataLt d e)) H
theorem ltD (K : PySem.W.Frag) {X : Cx} (hu : X.A.units + 64 < cLine) (h : X.K = K := by rfl) : OpR X (compareOp .Lt) (rLtD K) := by
  subst h
  intro pins s σ H x y v u Q I rx ry h
  obtain ⟨d, e, hd, he, ha, hn, hdp, q⟩ := h
  obtain ⟨as, r1⟩ := Dp.reads I d x v hd rx
  obtain ⟨bs, r2⟩ := Dp.reads I e y u he ry
  exact PySem.W.lt_data r1 r2 ha hn (by have := Nat.min_le_left d.depth e.depth; omega) ⟨.bl _, H, I, rfl, q⟩
end Pf


namespace Pf
open PySem PySem.Spec PyProof.Rows L2
/-! ### what is a folding -/
def go2 (p q : Int × Int) : Bool := decide (p.2 < q.1) || decide (q.2 < p.2)
def risL (qs : List (Int × Int)) : List Bool := (qs.zip (qs.drop 1)).map fun z => lt2 z.1 z.2
def goL : List (Int × Int) → List Bool
  | [] => []
  | p :: r => r.map (go2 p) ++ goL r
def isF (r : Rl) (x : Str) (qs : List (Int × Int)) : Bool := (qs.map fun y => mayC r x y.1 y.2).all id && ((risL qs).all id && (goL qs).all id)
theorem goL_len : ∀ qs : List (Int × Int), (goL qs).length ≤ qs.length * qs.length
  | [] => Nat.le_refl _
  | p :: r => by
    have h := goL_len r
    rw [goL, List.length_append, List.length_map, List.length_cons, Nat.succ_mul, Nat.mul_succ]
    omega
theorem goL_at {qs : List (Int × Int)} {i : Nat} {p : Int × Int} (h : qs[i]? = some p) : goL (qs.drop i) = (qs.drop (i + 1)).map (go2 p) ++ goL (qs.drop (i + 1)) := by
  obtain ⟨hi, e⟩ := List.getElem?_eq_some_iff.mp h
  rw [List.drop_eq_getElem_cons hi, e, goL]
theorem isF_true {r : Rl} {x : Str} {qs : Fo} (h : Fo4 r x 0 x.length qs) : isF r x qs = true := by
  unfold isF
  rw [Bool.and_eq_true, Bool.and_eq_true]
  refine ⟨List.all_eq_true.mpr fun b hb => ?_, List.all_eq_true.mpr fun b hb => ?_, ?_⟩
  · obtain ⟨y, hy, rfl⟩ := List.mem_map.mp hb
    exact h.may y hy
  · obtain ⟨z, hz, rfl⟩ := List.mem_map.mp hb
    obtain ⟨i, hi⟩ := List.getElem?_of_mem hz
    obtain ⟨h1, h2⟩ := (List.getElem?_zip_eq_some (z := z)).mp hi
    rw [List.getElem?_drop] at h2
    obtain ⟨l1, e1⟩ := List.getElem?_eq_some_iff.mp h1
    obtain ⟨l2, e2⟩ := List.getElem?_eq_some_iff.mp h2
    have := List.pairwise_iff_getElem.mp h.srt i (1 + i) l1 l2 (by omega)
    rw [e1, e2] at this
    exact decide_eq_true (.inl this)
  · have aux : ∀ l : Fo, l.Sublist qs → (goL l).all id = true := by
      intro l
      induction l with
      | nil => intro _; rfl
      | cons p l ih =>
        intro hs
        rw [goL, List.all_append, ih ((List.sublist_cons_self p l).trans hs), Bool.and_true]
        refine List.all_eq_true.mpr fun b hb => ?_
        obtain ⟨y, hy, rfl⟩ := List.mem_map.mp hb
        have h1 := (List.pairwise_cons.mp (h.srt.sublist hs)).1 y hy
        have h2 := h.sep p (hs.subset (List.mem_cons_self ..)) y (hs.subset (List.mem_cons_of_mem _ hy)) h1
        show (decide (p.2 < y.1) || decide (y.2 < p.2)) = true
        rcases h2 with h2 | h2
        · rw [decide_eq_true h2, Bool.or_true]
        · rw [decide_eq_true h2, Bool.true_or]
    exact aux qs (List.Sublist.refl _)
section
variable {P : Program} {w : World} {K : PySem.W.Frag} {mg : Str → Option Value} {base : Heap}
abbrev s_is_whole : Stmt := topS 10
theorem sc_is_whole : FnScope ["thing"] ["thing"] (defScope s_is_whole) :=
  ⟨rfl, rfl, rfl, by decide +kernel, rfl, by decide +kernel, by decide +kernel⟩
def spWhI : Sp := fun vs H Q _ => ∃ i : Int, vs = [.int i] ∧ Q (.bl true) H
theorem ok_whI {f : Addr} {fd : FuncData} {k : Nat} (F : Fun K "is_whole" "is_whole" s_is_whole f fd) (misinstance : mg "isinstance" = none) (mint : mg "int" = none) (mbool : mg "bool" = none) : FnOk P w K mg base CX0 (k + 1) f fd ["thing"] spWhI := by
  refine F.ok sc_is_whole (fun vs H Q E h => ?_) (fun cdv A outer s H vs Q E hr h => ?_)
  · obtain ⟨i, rfl, _⟩ := h
    rfl
  · obtain ⟨i, rfl, q⟩ := h
    refine ⟨_, (pss_one (ps_ret (pe_and (pe_callB (isi1 K) (by rfl) misinstance (by decide +kernel) (pa_cons (pv 0) (pa_cons (pe_bltn (v := .ty "int") (by rfl) mint (by decide +kernel) rfl) pa_nil))) (pe_one (pe_not (pe_callB (isi1 K) (by rfl) misinstance (by decide +kernel) (pa_cons (pv 0) (pa_cons (pe_bltn (v := .ty "bool") (by rfl) mbool (by decide +kernel) rfl) pa_nil)))))))), ?_⟩
    refine ⟨_, rfl, .int i, .ty "int", _, _, true, rfl, .ty _, .base (.int i), kit_ty (by decide +kernel), true, rfl, iteT ?_⟩
    exact ⟨_, rfl, .int i, .ty "bool", _, _, false, rfl, .ty _, .base (.int i), kit_ty (by decide +kernel), false, rfl, q⟩
abbrev s_is_row : Stmt := topS 11
theorem sc_is_row : FnScope ["thing", "size"] ["thing", "size"] (defScope s_is_row) :=
  ⟨rfl, rfl, rfl, by decide +kernel, rfl, by decide +kernel, by decide +kernel⟩
def spRow2 : Sp := fun vs H Q _ => ∃ (t : Addr) (xs : List V) (n : Int), vs = [.ref t, .int n] ∧ H t = some (.tup xs) ∧ Q (.bl (decide ((xs.length : Int) = n))) H
theorem ok_row2 {f : Addr} {fd : FuncData} {k : Nat} (F : Fun K "is_row" "is_row" s_is_row f fd) (misinstance : mg "isinstance" = none) (mtuple : mg "tuple" = none) (mlen : mg "len" = none) : FnOk P w K mg base CX0 (k + 1) f fd ["thing", "size"] spRow2 := by
  refine F.ok sc_is_row (fun vs H Q E h => ?_) (fun cdv A outer s H vs Q E hr h => ?_)
  · obtain ⟨t, xs, n, rfl, _⟩ := h
    rfl
  · obtain ⟨t, xs, n, rfl, hT, q⟩ := h
    refine ⟨_, (pss_one (ps_ret (pe_and (pe_callB (isi1 K) (by rfl) misinstance (by decide +kernel) (pa_cons (pv 0) (pa_cons (pe_bltn (v := .ty "tuple") (by rfl) mtuple (by decide +kernel) rfl) pa_nil))) (pe_one (pe_cmpR op_eq (pe_callB (lenQ K) (by rfl) mlen (by decide +kernel) (pa_cons (pv 0) pa_nil)) (pv 1) (nomark _)))))), ?_⟩
    refine ⟨_, rfl, .ref t, .ty "tuple", _, _, true, rfl, .ty _, .base (.tup hT), kit_ty (by decide +kernel), true, rfl, iteT ?_⟩
    refine ⟨_, rfl, t, xs, rfl, .inr (SqT.of hT), _, rfl, rfl, ?_⟩
    have e : decide ((V.int (xs.length : Nat)) = V.int n) = decide ((xs.length : Int) = n) := decide_eq_decide.mpr ⟨V.int.inj, congrArg V.int⟩
    rw [e]
    exact q
abbrev CWhI (P : Program) (w : World) (K : PySem.W.Frag) (mg : Str → Option Value) (base : Heap) : Prop := Ca P w K mg base 1 "is_whole" ["thing"] spWhI
abbrev CRow2 (P : Program) (w : World) (K : PySem.W.Frag) (mg : Str → Option Value) (base : Heap) : Prop := Ca P w K mg base 1 "is_row" ["thing", "size"] spRow2
abbrev s_is_pair : Stmt := topS 45
theorem sc_is_pair : FnScope ["rules", "string", "thing"] ["rules", "string", "thing"] (defScope s_is_pair) :=
  ⟨rfl, rfl, rfl, by decide +kernel, rfl, by decide +kernel, by decide +kernel⟩
def spIP : Sp := fun vs H Q _ => ∃ (v : V) (r : Rl) (x : Str) (t : Addr) (y : Int × Int), vs = [v, .str x, .ref t] ∧ RulesW H v r ∧ x.length ≤ 1000 ∧ H t = some (.tup [.int y.1, .int y.2]) ∧ 0 ≤ y.1 ∧ y.1 < y.2 ∧ y.2 < x.length ∧ ∀ H', Ext H H' → Q (.bl (mayC r x y.1 y.2)) H'
theorem ok_ip {f : Addr} {fd : FuncData} (F : Fun K "is_pair" "is_pair" s_is_pair f fd) (cis_row : CRow2 P w K mg base) (cis_whole : CWhI P w K mg base) (cmay_pair : CMP P w K mg base) : FnOk P w K mg base CX0 3 f fd ["rules", "string", "thing"] spIP := by
  refine F.ok sc_is_pair (fun vs H Q E h => ?_) (fun cdv A outer s H vs Q E hr h => ?_)
  · obtain ⟨v, r, x, t, y, rfl, _⟩ := h
    rfl
  · obtain ⟨v, r, x, t, y, rfl, hR, hx, hT, b1, b2, b3, q⟩ := h
    refine ⟨_, (pss_cons (ps_if (PW.pt (pw_or (pt_not (pt_val (pe_ca cis_row (hr.mono (by decide)) (by rfl) (pa_cons (pv 2) (pa_cons pe_int pa_nil))))) (pw_or (pt_not (pt_val (pe_ca cis_whole (hr.mono (by decide)) (by rfl) (pa_cons (pe_ix (ixT K) (pv 2) pe_int (fun _ _ => rfl)) pa_nil)))) (pw_or1 (pt_not (pt_val (pe_ca cis_whole (hr.mono (by decide)) (by rfl) (pa_cons (pe_ix (ixT K) (pv 2) pe_int (fun _ _ => rfl)) pa_nil)))))))) (pss_one (ps_ret pe_bl)) pss_nil)
      (pss_one (ps_ret (pe_ca cmay_pair (hr.mono (by decide)) (by rfl) (pa_cons (pv 0) (pa_cons (pv 1) (pa_cons (pe_ix (ixT K) (pv 2) pe_int (fun _ _ => rfl)) (pa_cons (pe_ix (ixT K) (pv 2) pe_int (fun _ _ => rfl)) pa_nil)))))))), ?_⟩
    refine ⟨_, rfl, t, _, 2, rfl, hT, true, rfl, iteF ?_⟩
    refine ⟨_, rfl, t, _, 0, _, rfl, rfl, SqT.of hT, rfl, y.1, rfl, true, rfl, iteF ?_⟩
    refine ⟨_, rfl, t, _, 1, _, rfl, rfl, SqT.of hT, rfl, y.2, rfl, true, rfl, iteF ?_⟩
    exact ⟨_, rfl, _, rfl, _, rfl, t, _, 0, _, rfl, rfl, SqT.of hT, rfl, _, rfl, t, _, 1, _, rfl, rfl, SqT.of hT, rfl, v, r, x, y.1, y.2, rfl, hR, hx, b1, b2, b3, q⟩
abbrev s_go_together : Stmt := topS 46
theorem sc_go_together : FnScope ["pair", "later"] ["pair", "later"] (defScope s_go_together) :=
  ⟨rfl, rfl, rfl, by decide +kernel, rfl, by decide +kernel, by decide +kernel⟩
def spGT : Sp := fun vs H Q _ => ∃ (t u : Addr) (p y : Int × Int), vs = [.ref t, .ref u] ∧ H t = some (.tup [.int p.1, .int p.2]) ∧ H u = some (.tup [.int y.1, .int y.2]) ∧ Q (.bl (go2 p y)) H
theorem ok_gt {f : Addr} {fd : FuncData} {k : Nat} (F : Fun K "go_together" "go_together" s_go_together f fd) : FnOk P w K mg base CX0 (k + 1) f fd ["pair", "later"] spGT := by
  refine F.ok sc_go_together (fun vs H Q E h => ?_) (fun cdv A outer s H vs Q E hr h => ?_)
  · obtain ⟨t, u, p, y, rfl, _⟩ := h
    rfl
  · obtain ⟨t, u, p, y, rfl, hT, hU, q⟩ := h
    refine ⟨_, (pss_one (ps_ret (pe_or (pe_cmpR op_lt (pe_ix (ixT K) (pv 0) pe_int (fun _ _ => rfl)) (pe_ix (ixT K) (pv 1) pe_int (fun _ _ => rfl)) (nomark _)) (pe_one (pe_cmpR op_lt (pe_ix (ixT K) (pv 1) pe_int (fun _ _ => rfl)) (pe_ix (ixT K) (pv 0) pe_int (fun _ _ => rfl)) (nomark _)))))), ?_⟩
    unfold go2 at q
    refine ⟨_, rfl, t, _, 1, _, rfl, rfl, SqT.of hT, rfl, _, rfl, u, _, 0, _, rfl, rfl, SqT.of hU, rfl, _, _, rfl, rfl, _, rfl, ite2 (fun e => ?_) (fun e => ?_)⟩
    · have e : decide (p.2 < y.1) = true := e
      rw [e, Bool.true_or] at q
      exact q
    · have e : decide (p.2 < y.1) = false := Bool.eq_false_iff.mpr e
      rw [e, Bool.false_or] at q
      exact ⟨_, rfl, u, _, 1, _, rfl, rfl, SqT.of hU, rfl, _, rfl, t, _, 1, _, rfl, rfl, SqT.of hT, rfl, _, _, rfl, rfl, q⟩
abbrev s_rises : Stmt := topS 12
theorem sc_rises : FnScope ["things", "thing", "after"] ["things"] (defScope s_rises) :=
  ⟨rfl, rfl, rfl, by decide +kernel, rfl, by decide +kernel, by decide +kernel⟩
def spRi : Sp := fun vs H Q _ => ∃ (v : V) (qs : List (Int × Int)), vs = [v] ∧ TupOf TwoAt H v qs ∧ qs.length ≤ 100 ∧ ∀ H', Ext H H' → Q (.bl ((risL qs).all id)) H'
theorem ok_ri {f : Addr} {fd : FuncData} {k : Nat} (F : Fun K "rises" "rises" s_rises f fd) (mall : mg "all" = none) (mzip : mg "zip" = none) : FnOk P w K mg base CX0 (k + 1) f fd ["things"] spRi := by
  refine F.ok sc_rises (fun vs H Q E h => ?_) (fun cdv A outer s H vs Q E hr h => ?_)
  · obtain ⟨v, qs, rfl, _⟩ := h
    rfl
  · obtain ⟨v, qs, rfl, ⟨af, fs, rfl, hF, hPs⟩, hql, q⟩ := h
    refine ⟨_, (pss_one (ps_ret (pe_callB (cr_all rfl) (by rfl) mall (by decide +kernel) (pa_cons (pe_lc (own := [("thing", 1), ("after", 2)]) (g := gTup K 2 (gCons (gName 1) (gCons (gName 2) gNil))) (by rfl) sc_rises.nd (RZ.pi_zipA (by rfl) mzip (pa_cons (pv 0) (pa_cons (pe_slice (slE K) (pv 0) (po_some pe_int) po_none) pa_nil))) (blkOk_by (own := [("thing", 1), ("after", 2)]) (N := ["things", "thing", "after"]) (sc := defScope s_rises) (by decide +kernel)) (fun _ _ _ _ _ => (pgT K rfl (pgs_cons (pg_name (i := 1) sc_rises.nd rfl (.inl rfl)) (pgs_cons (pg_name (i := 2) sc_rises.nd rfl (.inl rfl)) pgs_nil)))) (fun _ _ _ _ _ => pts_nil) (fun _ _ _ _ _ => (pe_cmpR (ltT K hr.units0) (pv 1) (pv 2) (nomark _)))) pa_nil)))), ?_⟩
    have hfl := paired_len hPs
    refine ⟨_, rfl, _, rfl, 1, rfl, af, fs, rfl, hF, fun t H1 k1 hT => ?_⟩
    have ec : cutV fs (some 1) none = fs.drop 1 := cut_from (k := 1)
    rw [ec] at hT
    have hrl : (risL qs).length = fs.length - 1 := by
      unfold risL
      rw [List.length_map, List.length_zip, List.length_drop]
      omega
    refine ⟨af, t, fs, fs.drop 1, rfl, .inr ⟨SqT.of (k1 _ _ hF), SqT.of hT, fun D hD => lc_it (walk_zt (n := fs.length - 1) (by rw [List.length_drop]; omega)) (fun i H2 => H2 D = some (.lst (((risL qs).take i).map V.bl)) ∧ Ext H1 H2)
      ⟨upd_same, Ext.new hD⟩ (fun i H2 _ ⟨_, k⟩ => ⟨SqT.of (k _ _ (k1 _ _ hF)), SqT.of (k _ _ hT)⟩) (fun i u H2 H3 hi hv hy => ?_) (fun H2 hv => ?_)⟩⟩
    · obtain ⟨hL, k2⟩ := hv
      obtain ⟨T, a, b, rfl, hTn, rfl, ha, hb⟩ := hy
      obtain ⟨y1, hy1, a1, rfl, ha1⟩ := paired_get hPs ha
      have hb : (fs.drop 1)[i]? = some b := hb
      rw [List.getElem?_drop] at hb
      obtain ⟨y2, hy2, a2, rfl, ha2⟩ := paired_get hPs hb
      have e3 := Ext.new (o := .tup [.ref a1, .ref a2]) hTn
      have k03 := (k1.trans k2).trans e3
      refine ⟨T, _, rfl, SqT.of upd_same, rfl, _, _, rfl, _, _, rfl, rfl, rfl, _, rfl, _, rfl, a1, a2, [y1.1, y1.2], [y2.1, y2.2], rfl, rfl, SqT.of (k03 _ _ ha1), SqT.of (k03 _ _ ha2), _, e3 _ _ hL, szLt ?_, ?_, (k2.trans e3).put hD⟩
      · rw [List.length_map, List.length_take]
        omega
      · have er : (risL qs)[i]? = some (lt2 y1 y2) := by
          unfold risL
          rw [List.getElem?_map, (List.getElem?_zip_eq_some (z := (y1, y2))).mpr ⟨hy1, by rw [List.getElem?_drop]; exact hy2⟩]
          rfl
        rw [upd_same, List.take_add_one, er, List.map_append, lex2]
        rfl
    · obtain ⟨hL, k2⟩ := hv
      rw [List.take_of_length_le (by omega)] at hL
      exact ⟨D, risL qs, rfl, SqL.of hL, q _ (k1.trans k2)⟩
abbrev CIP (P : Program) (w : World) (K : PySem.W.Frag) (mg : Str → Option Value) (base : Heap) : Prop := Ca P w K mg base 3 "is_pair" ["rules", "string", "thing"] spIP
abbrev CGT (P : Program) (w : World) (K : PySem.W.Frag) (mg : Str → Option Value) (base : Heap) : Prop := Ca P w K mg base 1 "go_together" ["pair", "later"] spGT
abbrev CRi (P : Program) (w : World) (K : PySem.W.Frag) (mg : Str → Option Value) (base : Heap) : Prop := Ca P w K mg base 1 "rises" ["things"] spRi
abbrev s_is_folding : Stmt := topS 47
theorem sc_is_folding : FnScope ["rules", "string", "thing", "at", "pair", "later"] ["rules", "string", "thing"] (defScope s_is_folding) :=
  ⟨rfl, rfl, rfl, by decide +kernel, rfl, by decide +kernel, by decide +kernel⟩
def spIF : Sp := fun vs H Q _ => ∃ (v vf : V) (r : Rl) (x : Str) (qs : List (Int × Int)), vs = [v, .str x, vf] ∧ RulesW H v r ∧ x.length ≤ 1000 ∧ TupOf TwoAt H vf qs ∧ qs.length ≤ 100 ∧ (∀ y ∈ qs, 0 ≤ y.1 ∧ y.1 < y.2 ∧ y.2 < x.length) ∧ ∀ H', Ext H H' → Q (.bl (isF r x qs)) H'
theorem ok_if {f : Addr} {fd : FuncData} (F : Fun K "is_folding" "is_folding" s_is_folding f fd) (cis_pair : CIP P w K mg base) (cgo_together : CGT P w K mg base) (crises : CRi P w K mg base) (misinstance : mg "isinstance" = none) (mtuple : mg "tuple" = none) (mall : mg "all" = none) (menumerate : mg "enumerate" = none) : FnOk P w K mg base CX0 4 f fd ["rules", "string", "thing"] spIF := by
  refine F.ok sc_is_folding (fun vs H Q E h => ?_) (fun cdv A outer s H vs Q E hr h => ?_)
  · obtain ⟨v, vf, r, x, qs, rfl, _⟩ := h
    rfl
  · obtain ⟨v, vf, r, x, qs, rfl, hR, hx, ⟨af, fs, rfl, hF, hPs⟩, hql, hb, q⟩ := h
    refine ⟨_, (pss_cons (ps_if (PW.pt (pw_or (pt_not (pt_val (pe_callB (isi1 K) (by rfl) misinstance (by decide +kernel) (pa_cons (pv 2) (pa_cons (pe_bltn (v := .ty "tuple") (by rfl) mtuple (by decide +kernel) rfl) pa_nil))))) (pw_or1 (pt_not (pt_val (pe_callB (cr_all rfl) (by rfl) mall (by decide +kernel) (pa_cons (pe_lc (own := [("pair", 4)]) (g := gName 4) (by rfl) sc_is_folding.nd (pi_tup (pv 2)) (blkOk_by (own := [("pair", 4)]) (N := ["rules", "string", "thing", "at", "pair", "later"]) (sc := defScope s_is_folding) (by decide +kernel)) (fun _ _ _ _ _ => (pg_name (i := 4) sc_is_folding.nd rfl (.inl rfl))) (fun _ _ _ _ _ => pts_nil) (fun _ _ _ _ _ => (pe_ca cis_pair (hr.mono (by decide)) (by rfl) (pa_cons (pv 0) (pa_cons (pv 1) (pa_cons (pv 4) pa_nil)))))) pa_nil))))))) (pss_one (ps_ret pe_bl)) pss_nil)
      (pss_cons (ps_if (pt_not (pt_val (pe_ca crises (hr.mono (by decide)) (by rfl) (pa_cons (pv 2) pa_nil)))) (pss_one (ps_ret pe_bl)) pss_nil)
      (pss_one (ps_ret (pe_callB (cr_all rfl) (by rfl) mall (by decide +kernel) (pa_cons (pe_lc2 (own := [("at", 3), ("pair", 4), ("later", 5)]) (vs1 := [5]) (g := gTup K 2 (gCons (gName 3) (gCons (gName 4) gNil))) (g1 := gName 5) (by rfl) sc_is_folding.nd (pi_enumT (by rfl) menumerate (pa_cons (pv 2) pa_nil)) (blkOk_by (own := [("at", 3), ("pair", 4), ("later", 5)]) (N := ["rules", "string", "thing", "at", "pair", "later"]) (sc := defScope s_is_folding) (by decide +kernel)) (by decide) (fun _ _ _ _ _ => (pgT K rfl (pgs_cons (pg_name (i := 3) sc_is_folding.nd rfl (.inl rfl)) (pgs_cons (pg_name (i := 4) sc_is_folding.nd rfl (.inl rfl)) pgs_nil)))) (fun _ _ _ _ _ => pts_nil) (fun _ _ _ _ _ => (piT K (pe_slice (slE K) (pv 2) (po_some (pe_op op_add (pv 3) pe_int)) po_none))) (fun _ _ _ _ _ => (pg_name (i := 5) sc_is_folding.nd rfl (.inl rfl))) (fun _ _ _ _ _ => pts_nil) (fun _ _ _ _ _ => (pe_ca cgo_together (hr.mono (by decide)) (by rfl) (pa_cons (pv 4) (pa_cons (pv 5) pa_nil))))) pa_nil)))))), ?_⟩
    have hfl := paired_len hPs
    refine ⟨_, rfl, .ref af, .ty "tuple", _, _, true, rfl, .ty _, .base (.tup hF), kit_ty (by decide +kernel), true, rfl, iteF ?_⟩
    -- all([is_pair(..)])
    refine ⟨_, rfl, af, rfl, ⟨_, SqT.of hF⟩, fun D hD => lc_tup (K := K) (xs := fs) (fun i H2 => H2 D = some (.lst (((qs.take i).map fun y => mayC r x y.1 y.2).map V.bl)) ∧ Ext H H2)
      ⟨upd_same, Ext.new hD⟩ (fun i H2 _ ⟨_, k⟩ => SqT.of (k _ _ hF)) (fun i u H2 hi hv => ?_) (fun H2 hv => ?_)⟩
    · obtain ⟨hL, k2⟩ := hv
      obtain ⟨y, hy, a1, rfl, ha1⟩ := paired_get hPs hi
      refine ⟨rfl, _, rfl, _, rfl, _, rfl, v, r, x, a1, y, rfl, RulesW.mono _ _ _ _ (TupK.ext k2) hR, hx, k2 _ _ ha1, (hb y (List.mem_of_getElem? hy)).1, (hb y (List.mem_of_getElem? hy)).2.1, (hb y (List.mem_of_getElem? hy)).2.2, fun H3 k3 => ⟨_, k3 _ _ hL, szLt ?_, ?_, (k2.trans k3).put hD⟩⟩
      · rw [List.length_map, List.length_map, List.length_take]
        omega
      · rw [upd_same, List.take_add_one, hy, List.map_append, List.map_append]
        rfl
    · obtain ⟨hL, k2⟩ := hv
      rw [List.take_of_length_le (by omega)] at hL
      refine ⟨D, _, rfl, SqL.of hL, _, rfl, ite2 (fun e => ?_) (fun e => ?_)⟩
      · have e : ((qs.map fun y => mayC r x y.1 y.2).all id) = false := by simpa using e
        have := q H2 k2
        unfold isF at this
        rw [e, Bool.false_and] at this
        exact this
      · have e : ((qs.map fun y => mayC r x y.1 y.2).all id) = true := by simpa using e
        have q1 : ∀ H', Ext H H' → Q (.bl ((risL qs).all id && (goL qs).all id)) H' := fun H' k => by
          have := q H' k
          unfold isF at this
          rw [e, Bool.true_and] at this
          exact this
        refine ⟨_, rfl, .ref af, qs, rfl, ⟨af, fs, rfl, k2 _ _ hF, paired_imp (fun _ _ => TwoAt.mono _ _ _ _ (TupK.ext k2)) hPs⟩, hql, fun H3 k3 => ⟨_, rfl, ite2 (fun e2 => ?_) (fun e2 => ?_)⟩⟩
        · have e2 : (risL qs).all id = false := by simpa using e2
          have := q1 H3 (k2.trans k3)
          rw [e2, Bool.false_and] at this
          exact this
        · have e2 : (risL qs).all id = true := by simpa using e2
          have q2 : ∀ H', Ext H H' → Q (.bl ((goL qs).all id)) H' := fun H' k => by
            have := q1 H' k
            rw [e2, Bool.true_and] at this
            exact this
          have k03 := k2.trans k3
          have hgl := goL_len qs
          have hgm : qs.length * qs.length ≤ 100 * 100 := Nat.mul_le_mul hql hql
          refine ⟨_, rfl, af, fs, rfl, SqT.of (k03 _ _ hF), fun D2 hD2 => lc_two walk_et (fun i H4 => ∃ bs : List Bool, goL qs = bs ++ goL (qs.drop i) ∧ H4 D2 = some (.lst (bs.map V.bl)) ∧ Ext H3 H4)
            ⟨[], rfl, upd_same, Ext.new hD2⟩ (fun i H4 _ ⟨_, _, _, k⟩ => SqT.of (k _ _ (k03 _ _ hF))) (fun i u H4 H5 hi hv hy => ?_) (fun H4 hv => ?_)⟩
          · obtain ⟨bs, hbs, hL4, k4⟩ := hv
            obtain ⟨T, a, b, rfl, hTn, rfl, ha, hb⟩ := hy
            cases ha
            obtain ⟨p, hp, a1, rfl, ha1⟩ := paired_get hPs hb
            have e5 := Ext.new (o := .tup [.int (i : Nat), .ref a1]) hTn
            have k05 := (k03.trans k4).trans e5
            refine ⟨T, _, rfl, SqT.of upd_same, rfl, _, _, rfl, _, _, rfl, rfl, rfl, ?_⟩
            refine ⟨_, rfl, _, rfl, _, 1, rfl, rfl, _, rfl, af, fs, rfl, k05 _ _ hF, fun t H6 k6 hT => ?_⟩
            have ec : cutV fs (some ((i : Int) + 1)) none = fs.drop (i + 1) := cut_from (k := i + 1)
            rw [ec] at hT
            have k06 := k05.trans k6
            rw [goL_at hp, ← List.append_assoc] at hbs
            refine ⟨t, rfl, ⟨_, SqT.of hT⟩, lc_in (walk_tup (xs := fs.drop (i + 1))) (fun j H7 => H7 D2 = some (.lst ((bs ++ ((qs.drop (i + 1)).take j).map (go2 p)).map V.bl)) ∧ H7 t = some (.tup (fs.drop (i + 1))) ∧ Ext H3 H7)
              ⟨?_, hT, (k4.trans e5).trans k6⟩ (fun j H7 _ ⟨_, h, _⟩ => SqT.of h) (fun j u H7 H8 hj hv hy => ?_) (fun H7 hv => ?_)⟩
            · rw [List.take_zero, List.map_nil, List.append_nil]
              exact k6 _ _ (e5 _ _ hL4)
            · obtain ⟨hL7, hT7, k7⟩ := hv
              obtain ⟨rfl, hu⟩ := hy
              obtain ⟨y, hy, a2, rfl, ha2⟩ := paired_get (paired_drop (i + 1) hPs) hu
              have k07 := k03.trans k7
              refine ⟨rfl, _, rfl, _, rfl, a1, a2, p, y, rfl, k07 _ _ ha1, k07 _ _ ha2, _, hL7, szLt ?_, ?_, ?_, k7.put hD2⟩
              · have hz := congrArg List.length hbs
                rw [List.length_append, List.length_append, List.length_map] at hz
                rw [List.length_map, List.length_append, List.length_map, List.length_take]
                omega
              · rw [upd_same, List.take_add_one, hy]
                simp only [List.map_append, List.append_assoc]
                rfl
              · rw [upd_ne (ne_of hT7 hL7 (by intro z; cases z))]
                exact hT7
            · obtain ⟨hL7, _, k7⟩ := hv
              rw [List.take_of_length_le (by rw [List.length_drop, List.length_drop]; omega)] at hL7
              exact ⟨_, hbs, hL7, k7⟩
          · obtain ⟨bs, hbs, hL4, k4⟩ := hv
            rw [List.drop_eq_nil_of_le (by omega)] at hbs
            rw [show goL [] = [] from rfl, List.append_nil] at hbs
            subst hbs
            exact ⟨D2, goL qs, rfl, SqL.of hL4, q2 _ (k03.trans k4)⟩
abbrev CIF (P : Program) (w : World) (K : PySem.W.Frag) (mg : Str → Option Value) (base : Heap) : Prop := Ca P w K mg base 4 "is_folding" ["rules", "string", "thing"] spIF
end
end Pf


namespace Pf
open PySem PySem.Spec PyProof.Rows L2
/-! ### next pairs in the heap -/
def NxAt (D : Addr) (H : Hp) (v : V) (c : Nx) : Prop := ∃ (a b l : Addr) (us : List V), v = .ref a ∧ H a = some (.tup [.ref b, .ref l]) ∧ H b = some (.tup [.int c.1.1, .int c.1.2]) ∧ l ≠ D ∧ H l = some (.lst us) ∧ Paired (TwoAt H) us c.2
theorem NxAt.ext {D : Addr} {H H' : Hp} {v : V} {c : Nx} (k : Ext H H') (h : NxAt D H v c) : NxAt D H' v c := by
  obtain ⟨a, b, l, us, e, h1, h2, h3, h4, h5⟩ := h
  exact ⟨a, b, l, us, e, k _ _ h1, k _ _ h2, h3, k _ _ h4, paired_imp (fun _ _ => TwoAt.mono _ _ _ _ (TupK.ext k)) h5⟩
theorem NxAt.put {D : Addr} {H : Hp} {v : V} {c : Nx} {vs ws : List V} (hD : H D = some (.lst vs)) (h : NxAt D H v c) : NxAt D (upd H D (.lst ws)) v c := by
  obtain ⟨a, b, l, us, e, h1, h2, h3, h4, h5⟩ := h
  refine ⟨a, b, l, us, e, ?_, ?_, h3, ?_, paired_imp (fun _ _ => TwoAt.mono _ _ _ _ (TupK.lst hD)) h5⟩
  · rw [upd_ne (ne_of h1 hD (by intro z; cases z))]
    exact h1
  · rw [upd_ne (ne_of h2 hD (by intro z; cases z))]
    exact h2
  · rw [upd_ne h3]
    exact h4
structure StOk (x : Str) (Ss : Sts) : Prop where
  bd : ∀ s ∈ Ss, 0 ≤ s.1 ∧ s.1 ≤ s.2 + 1 ∧ s.2 < x.length
  sz : sz Ss + Ss.length ≤ 13
  wf : WfS Ss
theorem StOk.ge {x : Str} {Ss : Sts} (h : StOk x Ss) : Ge1 Ss := fun s hs => (h.bd s hs).2.1
theorem StOk.nx {r : Rl} {x : Str} {Ss : Sts} {c : Nx} (h : StOk x Ss) (hc : c ∈ npL r x Ss) : StOk x c.2 := by
  refine ⟨?_, Nat.le_trans (npL_sz hc).2 h.sz, h.wf.nx hc⟩
  obtain ⟨pre, s, rest, rfl, h1, h2, h3, _, e⟩ := mem_npL hc
  have hs := h.bd s (List.mem_append_right _ (List.mem_cons_self ..))
  rw [e]
  intro t ht
  rcases List.mem_cons.mp ht with rfl | ht
  · show 0 ≤ c.1.1 + 1 ∧ c.1.1 + 1 ≤ c.1.2 - 1 + 1 ∧ c.1.2 - 1 < x.length
    omega
  · rcases List.mem_cons.mp ht with rfl | ht
    · show 0 ≤ c.1.2 + 1 ∧ c.1.2 + 1 ≤ s.2 + 1 ∧ s.2 < x.length
      omega
    · exact h.bd t (List.mem_append_right _ (List.mem_cons_of_mem _ ht))
theorem StOk.S0 {x : Str} (h : x.length ≤ 12) : StOk x (S0 x) := by
  refine ⟨fun s hs => ?_, ?_, S0_wf x⟩
  · rw [List.mem_singleton.mp hs]
    show (0 : Int) ≤ 0 ∧ (0 : Int) ≤ (x.length : Int) - 1 + 1 ∧ (x.length : Int) - 1 < x.length
    omega
  · show ((x.length : Int) - 1 + 1 - 0).toNat + 0 + 1 ≤ 13
    omega
theorem npL_small {r : Rl} {x : Str} {Ss : Sts} (h : StOk x Ss) : (npL r x Ss).length ≤ 169 := by
  have h1 := npL_len r x Ss
  have h2 := h.sz
  have : sz Ss * sz Ss ≤ 13 * 13 := Nat.mul_le_mul (by omega) (by omega)
  omega
section
variable {P : Program} {w : World} {K : PySem.W.Frag} {mg : Str → Option Value} {base : Heap}
abbrev s_next_pairs : Stmt := topS 49
theorem sc_next_pairs : FnScope ["rules", "string", "stretches", "found", "at", "i", "j", "p", "q"] ["rules", "string", "stretches"] (defScope s_next_pairs) :=
  ⟨rfl, rfl, rfl, by decide +kernel, rfl, by decide +kernel, by decide +kernel⟩
def spNP : Sp := fun vs H Q _ => ∃ (v : V) (r : Rl) (x : Str) (l : Addr) (us : List V) (Ss : Sts), vs = [v, .str x, .ref l] ∧ RulesW H v r ∧ x.length ≤ 12 ∧ H l = some (.lst us) ∧ Paired (TwoAt H) us Ss ∧ StOk x Ss ∧
  ∀ (D : Addr) (ws : List V) (H' : Hp), H D = none → H' D = some (.lst ws) → Paired (NxAt D H') ws (npL r x Ss) → Ext H H' → Q (.ref D) H'
theorem ok_np {f : Addr} {fd : FuncData} (F : Fun K "next_pairs" "next_pairs" s_next_pairs f fd) (cmay_pair : CMP P w K mg base) (mrange : mg "range" = none) (menumerate : mg "enumerate" = none) : FnOk P w K mg base CX0 3 f fd ["rules", "string", "stretches"] spNP := by
  refine F.ok sc_next_pairs (fun vs H Q E h => ?_) (fun cdv A outer s H vs Q E hr h => ?_)
  · obtain ⟨v, r, x, l, us, Ss, rfl, _⟩ := h
    rfl
  · obtain ⟨v, r, x, l, us, Ss, rfl, hR, hx, hl, hP, hS, q⟩ := h
    have hul := paired_len hP
    have hnl := npL_small (r := r) hS
    have rulE : ∀ {H' : Hp}, Ext H H' → RulesW H' v r := fun k => RulesW.mono _ _ _ _ (TupK.ext k) hR
    refine ⟨_, (pss_cons (ps_set (i := 3) sc_next_pairs.nd rfl (.inl rfl) (pe_lst pa_nil))
      (pss_cons (ps_for PassesOwn.never rfl (pi_enum (by rfl) menumerate (pa_cons (pv 2) pa_nil)) (pg_tup rfl (pgs_cons (pg_name (i := 4) sc_next_pairs.nd rfl (.inl rfl)) (pgs_cons (pg_tup rfl (pgs_cons (pg_name (i := 5) sc_next_pairs.nd rfl (.inl rfl)) (pgs_cons (pg_name (i := 6) sc_next_pairs.nd rfl (.inl rfl)) pgs_nil))) pgs_nil))) (pss_one (ps_for PassesOwn.never rfl (pi_range2 (by rfl) mrange (pa_cons (pv 5) (pa_cons (pv 6) pa_nil))) (pg_name (i := 7) sc_next_pairs.nd rfl (.inl rfl)) (pss_one (ps_for PassesOwn.never rfl (pi_range2 (by rfl) mrange (pa_cons (pe_op op_add (pv 7) pe_int) (pa_cons (pe_op op_add (pv 6) pe_int) pa_nil))) (pg_name (i := 8) sc_next_pairs.nd rfl (.inl rfl)) (pss_one (ps_if (pt_val (pe_ca cmay_pair (hr.mono (by decide)) (by rfl) (pa_cons (pv 0) (pa_cons (pv 1) (pa_cons (pv 7) (pa_cons (pv 8) pa_nil)))))) (pss_one (ps_expr (pe_bm PySem.F.plainAttrs_list PySem.F.slot_list_append PySem.F.type_list_append mt_append (pv 3) (pa_cons (pe_tup (pa_cons (pe_tup (pa_cons (pv 7) (pa_cons (pv 8) pa_nil))) (pa_cons (pe_op op_cat (pe_lst (pa_cons (pe_tup (pa_cons (pe_op op_add (pv 7) pe_int) (pa_cons (pe_op op_sub (pv 8) pe_int) pa_nil))) (pa_cons (pe_tup (pa_cons (pe_op op_add (pv 8) pe_int) (pa_cons (pv 6) pa_nil))) pa_nil))) (pe_slice (slL K) (pv 2) (po_some (pe_op op_add (pv 4) pe_int)) po_none)) pa_nil))) pa_nil)))) pss_nil)))))))
      (pss_one (ps_ret (pv 3))))), ?_⟩
    refine ⟨Nat.zero_le _, fun D hD => ?_⟩
    refine ⟨_, rfl, l, us, rfl, SqL.of (Ext.new hD _ _ hl), for_it (walk_enum (xs := us)) (fun i σ H2 => ∃ (y4 y5 y6 y7 y8 : Option V) (ws : List V) (acc : List Nx), σ = [some v, some (.str x), some (.ref l), some (.ref D), y4, y5, y6, y7, y8] ∧ H2 D = some (.lst ws) ∧ Paired (NxAt D H2) ws acc ∧ acc ++ npL r x (Ss.drop i) = npL r x Ss ∧ Ext H H2)
      ⟨none, none, none, none, none, [], [], rfl, upd_same, .nil, rfl, Ext.new hD⟩ (fun i σ H2 _ hv => ?_) (fun i u σ H2 H3 hi hv hy => ?_) (fun σ H2 hv => ?_)⟩
    · obtain ⟨_, _, _, _, _, _, _, _, _, _, _, k⟩ := hv
      exact SqL.of (k _ _ hl)
    · obtain ⟨y4, y5, y6, y7, y8, ws, acc, rfl, hW, hN, hacc, k2⟩ := hv
      obtain ⟨T, a, b, rfl, hTn, rfl, ha, hb⟩ := hy
      cases ha
      obtain ⟨s, hs, a1, rfl, ha1⟩ := paired_get hP hb
      have e3 := Ext.new (o := .tup [.int (i : Nat), .ref a1]) hTn
      have k3 := k2.trans e3
      have hsb := hS.bd s (List.mem_of_getElem? hs)
      obtain ⟨rest, hrest⟩ : ∃ rest, rest = Ss.drop (i + 1) := ⟨_, rfl⟩
      have edrop : Ss.drop i = s :: rest := by
        obtain ⟨hi', e⟩ := List.getElem?_eq_some_iff.mp hs
        rw [List.drop_eq_getElem_cons hi', e, hrest]
      have hPr : Paired (TwoAt H) (us.drop (i + 1)) rest := by
        rw [hrest]
        exact paired_drop (i + 1) hP
      obtain ⟨N, hN'⟩ : ∃ N, N = (s.2 + 1 - s.1).toNat := ⟨_, rfl⟩
      rw [edrop, npL, ← hN', ← List.append_assoc] at hacc
      refine ⟨T, _, rfl, SqT.of upd_same, rfl, _, _, rfl, _, _, rfl, a1, _, rfl, SqT.of (k3 _ _ ha1), rfl, _, _, rfl, _, _, rfl, rfl, rfl, ?_⟩
      refine ⟨_, rfl, _, rfl, s.1, s.2, rfl, ⟨by omega, by omega, by omega, by omega⟩, for_range (lo := s.1) (n := (s.2 - s.1).toNat) (fun u σ H4 => ∃ (y7 y8 : Option V) (ws : List V) (acc : List Nx), σ = [some v, some (.str x), some (.ref l), some (.ref D), some (.int (i : Nat)), some (.int s.1), some (.int s.2), y7, y8] ∧ H4 D = some (.lst ws) ∧ Paired (NxAt D H4) ws acc ∧ acc ++ np1 r x s.2 rest (N - u) (s.1 + (u : Nat)) ++ npL r x rest = npL r x Ss ∧ Ext H H4)
        ⟨_, _, ws, acc, rfl, e3 _ _ hW, paired_imp (fun _ _ => NxAt.ext e3) hN, by rw [Nat.sub_zero, show s.1 + ((0 : Nat) : Int) = s.1 by omega]; exact hacc, k3⟩ (fun u σ H4 hu hv => ?_) (fun σ H4 hv => ?_)⟩
      · obtain ⟨y7, y8, ws, acc, rfl, hW4, hN4, hacc4, k4⟩ := hv
        obtain ⟨p, hp⟩ : ∃ p : Int, p = s.1 + (u : Nat) := ⟨_, rfl⟩
        obtain ⟨m, hm⟩ : ∃ m : Nat, N - u = m + 1 := ⟨N - u - 1, by omega⟩
        rw [hm, ← hp, np1] at hacc4
        rw [← hp]
        have hpm : p + m = s.2 := by omega
        refine ⟨_, rfl, p, 1, rfl, rfl, _, rfl, s.2, 1, rfl, rfl, p + 1, s.2 + 1, rfl, ⟨by omega, by omega, by omega, by omega⟩, for_range (lo := p + 1) (n := (s.2 + 1 - (p + 1)).toNat) (fun t σ H5 => ∃ (y8 : Option V) (ws : List V), σ = [some v, some (.str x), some (.ref l), some (.ref D), some (.int (i : Nat)), some (.int s.1), some (.int s.2), some (.int p), y8] ∧ H5 D = some (.lst ws) ∧ Paired (NxAt D H5) ws (acc ++ ((List.range t).filter (mayN r x p)).map (nxt p s.2 rest)) ∧ Ext H H5)
          ⟨_, ws, rfl, hW4, by rw [List.range_zero, List.filter_nil, List.map_nil, List.append_nil]; exact hN4, k4⟩ (fun t σ H5 ht hv => ?_) (fun σ H5 hv => ?_)⟩
        · obtain ⟨y8, ws, rfl, hW5, hN5, k5⟩ := hv
          have htm : t < m := by omega
          have h5l := paired_len hN5
          refine ⟨_, rfl, _, rfl, _, rfl, _, rfl, v, r, x, p, p + 1 + (t : Nat), rfl, rulE k5, by omega, by omega, by omega, by omega, fun H6 k6 => ⟨_, rfl, ite2 (fun em => ?_) (fun em => ?_)⟩⟩
          · have elist : acc ++ ((List.range (t + 1)).filter (mayN r x p)).map (nxt p s.2 rest) = (acc ++ ((List.range t).filter (mayN r x p)).map (nxt p s.2 rest)) ++ [nxt p s.2 rest t] := by
              rw [List.range_succ, List.filter_append, List.map_append, List.filter_cons_of_pos (show mayN r x p t = true from em), List.append_assoc]
              rfl
            have hlen : ws.length ≤ 169 := by
              rw [h5l, List.length_append, List.length_map]
              have h7 := congrArg List.length hacc4
              rw [List.length_append, List.length_append, List.length_append, blk, List.length_map] at h7
              have h8 : ((List.range t).filter (mayN r x p)).length ≤ ((List.range m).filter (mayN r x p)).length := by
                have es : List.range m = List.range t ++ (List.range (m - t)).map (fun y => t + y) := by
                  rw [← List.range_add]
                  congr 1
                  omega
                rw [es, List.filter_append, List.length_append]
                omega
              omega
            have k06 := k5.trans k6
            have hl6 := k06 _ _ hl
            have hD6 := k6 _ _ hW5
            refine ⟨_, rfl, .inl ⟨rfl, _, SqL.of hD6⟩, _, rfl, _, rfl, szL (show 2 ≤ 1000000 by decide), fun tb htb => ?_⟩
            have x1 := Ext.new (o := .tup [.int p, .int (p + 1 + (t : Nat))]) htb
            refine ⟨_, rfl, p, 1, rfl, rfl, _, rfl, p + 1 + (t : Nat), 1, rfl, rfl, szL (show 2 ≤ 1000000 by decide), fun t1 ht1 => ?_⟩
            have x2 := Ext.new (o := .tup [.int (p + 1), .int (p + 1 + (t : Nat) - 1)]) ht1
            refine ⟨_, rfl, p + 1 + (t : Nat), 1, rfl, rfl, _, rfl, szL (show 2 ≤ 1000000 by decide), fun t2 ht2 => ?_⟩
            have x3 := Ext.new (o := .tup [.int (p + 1 + (t : Nat) + 1), .int s.2]) ht2
            refine ⟨szL (show 2 ≤ 1000000 by decide), fun l1 hl1 => ?_⟩
            have x4 := Ext.new (o := .lst [.ref t1, .ref t2]) hl1
            have x14 := ((x1.trans x2).trans x3).trans x4
            refine ⟨_, rfl, _, rfl, _, 1, rfl, rfl, _, rfl, l, us, rfl, SqL.of (x14 _ _ hl6), fun l2 hl2 => ?_⟩
            have ec : cutV us (some ((i : Int) + 1)) none = us.drop (i + 1) := cut_from (k := i + 1)
            rw [ec]
            have x5 := Ext.new (o := .lst (us.drop (i + 1))) hl2
            refine ⟨l1, l2, [.ref t1, .ref t2], us.drop (i + 1), rfl, rfl, x5 _ _ upd_same, upd_same, szL (by rw [List.length_drop, hul]; have := hS.sz; show 2 + (Ss.length - (i + 1)) ≤ 1000000; omega), fun l3 hl3 => ?_⟩
            have x6 := Ext.new (o := .lst ([.ref t1, .ref t2] ++ us.drop (i + 1))) hl3
            refine ⟨szL (show 2 ≤ 1000000 by decide), fun ta hta => ?_⟩
            have x7 := Ext.new (o := .tup [.ref tb, .ref l3]) hta
            have x47 := x4.trans ((x5.trans x6).trans x7)
            have x17 := ((x1.trans x2).trans x3).trans x47
            have hD7 := x17 _ _ hD6
            refine ⟨D, ws, _, rfl, rfl, hD7, szLt (by omega), ?_⟩
            refine ⟨_, _, rfl, upd_same, ?_, (k06.trans x17).put hD⟩
            rw [elist]
            refine paired_app (paired_imp (fun _ _ h => NxAt.put hD7 (NxAt.ext (k6.trans x17) h)) hN5) (.cons (NxAt.put hD7 ?_) .nil)
            have nDl : l3 ≠ D := fun z => by
              have := (x14.trans x5) _ _ hD6
              rw [z, this] at hl3
              cases hl3
            refine ⟨ta, tb, l3, _, rfl, upd_same, (((x2.trans x3).trans x47) _ _ upd_same), nDl, x7 _ _ upd_same, ?_⟩
            exact .cons ⟨t1, rfl, (x3.trans x47) _ _ upd_same⟩ (.cons ⟨t2, rfl, x47 _ _ upd_same⟩ (paired_imp (fun _ _ => TwoAt.mono _ _ _ _ (TupK.ext (k06.trans x17))) hPr))
          · refine ⟨_, ws, rfl, k6 _ _ hW5, ?_, k5.trans k6⟩
            rw [List.range_succ, List.filter_append, List.filter_cons_of_neg (show ¬ mayN r x p t = true from em), List.filter_nil, List.append_nil]
            exact paired_imp (fun _ _ => NxAt.ext k6) hN5
        · obtain ⟨y8, ws, rfl, hW5, hN5, k5⟩ := hv
          rw [show (s.2 + 1 - (p + 1)).toNat = m by omega] at hN5
          refine ⟨_, _, ws, _, rfl, hW5, hN5, ?_, k5⟩
          rw [show N - (u + 1) = m by omega, show s.1 + ((u + 1 : Nat) : Int) = p + 1 by omega]
          unfold blk at hacc4
          rw [← hacc4]
          simp only [List.append_assoc]
      · obtain ⟨y7, y8, ws, acc, rfl, hW4, hN4, hacc4, k4⟩ := hv
        refine ⟨_, _, _, _, _, ws, acc, rfl, hW4, hN4, ?_, k4⟩
        have e0 : np1 r x s.2 rest (N - (s.2 - s.1).toNat) (s.1 + ((s.2 - s.1).toNat : Nat)) = [] := by
          by_cases c : N - (s.2 - s.1).toNat = 0
          · rw [c]
            rfl
          · rw [show N - (s.2 - s.1).toNat = 1 by omega]
            rfl
        rw [e0, List.append_nil] at hacc4
        rw [← hrest]
        exact hacc4
    · obtain ⟨y4, y5, y6, y7, y8, ws, acc, rfl, hW, hN, hacc, k2⟩ := hv
      rw [List.drop_eq_nil_of_le (by omega), show npL r x [] = [] from rfl, List.append_nil] at hacc
      rw [hacc] at hN
      exact ⟨_, rfl, q D ws H2 hD hW hN k2⟩
abbrev CNP (P : Program) (w : World) (K : PySem.W.Frag) (mg : Str → Option Value) (base : Heap) : Prop := Ca P w K mg base 3 "next_pairs" ["rules", "string", "stretches"] spNP
abbrev s_many_in : Stmt := topS 50
theorem sc_many_in : FnScope ["counts", "stretches", "many", "stretch"] ["counts", "stretches"] (defScope s_many_in) :=
  ⟨rfl, rfl, rfl, by decide +kernel, rfl, by decide +kernel, by decide +kernel⟩
def spMI : Sp := fun vs H Q _ => ∃ (r : Rl) (x : Str) (D l : Addr) (kvs : List (List Key × V)) (us : List V) (Ss : Sts), vs = [.ref D, .ref l] ∧ H D = some (.dT kvs) ∧ (∀ a b : Int, 0 ≤ a → a ≤ b + 1 → b < x.length → CntAt r x kvs a b) ∧ x.length ≤ 12 ∧ H l = some (.lst us) ∧ Paired (TwoAt H) us Ss ∧ StOk x Ss ∧ pdc r x Ss ≤ 100000 ∧ Q (.int (pdc r x Ss : Nat)) H
theorem pdc_app (r : Rl) (x : Str) : ∀ p q : Sts, pdc r x (p ++ q) = pdc r x p * pdc r x q
  | [], q => (Nat.one_mul _).symm
  | s :: p, q => by rw [List.cons_append, pdc_cons, pdc_cons, pdc_app r x p q, Nat.mul_assoc]
theorem cn_pos (r : Rl) (x : Str) (n : Nat) (a : Int) : 1 ≤ cn r x n a := by
  unfold cn
  obtain ⟨t, e⟩ := WA_head r x n a
  rw [e, List.length_cons]
  omega
theorem pdc_pos (r : Rl) (x : Str) : ∀ Ss : Sts, 1 ≤ pdc r x Ss
  | [] => Nat.le_refl _
  | s :: rest => by
    rw [pdc_cons]
    exact Nat.mul_pos (cn_pos r x _ _) (pdc_pos r x rest)
theorem ok_mi {f : Addr} {fd : FuncData} {k : Nat} (F : Fun K "many_in" "many_in" s_many_in f fd) : FnOk P w K mg base CX0 (k + 1) f fd ["counts", "stretches"] spMI := by
  refine F.ok sc_many_in (fun vs H Q E h => ?_) (fun cdv A outer s H vs Q E hr h => ?_)
  · obtain ⟨r, x, D, l, kvs, us, Ss, rfl, _⟩ := h
    rfl
  · obtain ⟨r, x, D, l, kvs, us, Ss, rfl, hD, hC, hx, hl, hP, hS, hb, q⟩ := h
    have hul := paired_len hP
    refine ⟨_, (pss_cons (ps_set (i := 2) sc_many_in.nd rfl (.inl rfl) pe_int)
      (pss_cons (ps_for PassesOwn.never rfl (pi_list (pv 1)) (pg_name (i := 3) sc_many_in.nd rfl (.inl rfl)) (pss_one (ps_aug (i := 2) sc_many_in.nd rfl (.inl rfl) (pe_dget (hu_of hr) (pv 0) (pv 3) (fun _ _ => rfl)) ip_mul)))
      (pss_one (ps_ret (pv 2))))), ?_⟩
    refine ⟨_, rfl, l, rfl, ⟨_, SqL.of hl⟩, for_list (K := K) (xs := us) (fun i σ H2 => ∃ (y3 : Option V), σ = [some (.ref D), some (.ref l), some (.int (pdc r x (Ss.take i) : Nat)), y3] ∧ H2 = H)
      ⟨none, rfl, rfl⟩ (fun i σ H2 _ ⟨_, _, e⟩ => by rw [e]; exact SqL.of hl) (fun i u σ H2 hi hv => ?_) (fun σ H2 hv => ?_)⟩
    · obtain ⟨y3, rfl, rfl⟩ := hv
      obtain ⟨s, hs, a1, rfl, ha1⟩ := paired_get hP hi
      have hsb := hS.bd s (List.mem_of_getElem? hs)
      have c0 := hC s.1 s.2 hsb.1 hsb.2.1 hsb.2.2
      have es : pdc r x (Ss.take (i + 1)) = pdc r x (Ss.take i) * cn r x (s.2 + 1 - s.1).toNat s.1 := by
        rw [List.take_add_one, hs, pdc_app]
        show _ * (cn r x (s.2 + 1 - s.1).toNat s.1 * 1) = _
        rw [Nat.mul_one]
      have b1 : pdc r x (Ss.take (i + 1)) ≤ 100000 := by
        have e := congrArg (pdc r x) (List.take_append_drop (i + 1) Ss)
        rw [pdc_app] at e
        have h1 := pdc_pos r x (Ss.drop (i + 1))
        have h2 : pdc r x (Ss.take (i + 1)) * 1 ≤ pdc r x (Ss.take (i + 1)) * pdc r x (Ss.drop (i + 1)) := Nat.mul_le_mul_left _ h1
        omega
      have c1 := cn_pos r x (s.2 + 1 - s.1).toNat s.1
      have b0 : pdc r x (Ss.take i) ≤ 100000 := by
        have h2 : pdc r x (Ss.take i) * 1 ≤ pdc r x (Ss.take i) * cn r x (s.2 + 1 - s.1).toNat s.1 := Nat.mul_le_mul_left _ c1
        omega
      refine ⟨_, rfl, _, rfl, _, rfl, D, _, rfl, c0 ▸ DGet.t (k := [.inl s.1, .inl s.2]) hD ha1, _, _, rfl, rfl, .inl ⟨by omega, by omega⟩, ?_⟩
      refine ⟨some (.ref a1), ?_, rfl⟩
      rw [es]
      push_cast
      rfl
    · obtain ⟨y3, rfl, rfl⟩ := hv
      rw [List.take_of_length_le (by omega)]
      exact ⟨_, rfl, q⟩
abbrev CMI (P : Program) (w : World) (K : PySem.W.Frag) (mg : Str → Option Value) (base : Heap) : Prop := Ca P w K mg base 1 "many_in" ["counts", "stretches"] spMI
end
end Pf


namespace Pf
open PySem PySem.Spec PyProof.Rows L2
theorem GA_one {r : Rl} {x : Str} {m n : Nat} {f : Fo} (h1 : (GA r x)[m]? = some f) (h2 : (GA r x)[n]? = some f) : m = n := by
  obtain ⟨l1, e1⟩ := List.getElem?_eq_some_iff.mp h1
  obtain ⟨l2, e2⟩ := List.getElem?_eq_some_iff.mp h2
  have hp := List.pairwise_iff_getElem.mp (GA_nd r x)
  rcases Nat.lt_trichotomy m n with h | h | h
  · exact absurd (e1.trans e2.symm) (hp m n l1 l2 h)
  · exact h
  · exact absurd (e2.trans e1.symm) (hp n m l2 l1 h)
theorem pre_next {r : Rl} {x : Str} {Ss : Sts} {t : Nat} {c : Nx} (hg : Ge1 Ss) (h : (npL r x Ss)[t]? = some c) : 1 + pre r x Ss t + pdc r x c.2 ≤ pdc r x Ss := by
  have := pre_le (r := r) (x := x) hg (t + 1)
  rw [pre_succ h] at this
  omega
section
variable {P : Program} {w : World} {K : PySem.W.Frag} {mg : Str → Option Value} {base : Heap}
abbrev s_folding_of : Stmt := topS 51
theorem sc_folding_of : FnScope ["rules", "string", "number", "counts", "stretches", "folding", "ahead", "following", "pair", "behind", "many"] ["rules", "string", "number"] (defScope s_folding_of) :=
  ⟨rfl, rfl, rfl, by decide +kernel, rfl, by decide +kernel, by decide +kernel⟩
def spFO : Sp := fun vs H Q _ => ∃ (v : V) (r : Rl) (x : Str) (n : Nat) (f : Fo), vs = [v, .str x, .int (n : Nat)] ∧ RulesW H v r ∧ x.length ≤ 12 ∧ Of r.letters x ∧ (GA r x)[n]? = some f ∧ ∀ (t : V) (H' : Hp), FoAt H' t f → Ext H H' → Q t H'
theorem ok_fo {f : Addr} {fd : FuncData} (F : Fun K "folding_of" "folding_of" s_folding_of f fd) (cneed_string : CNS P w K mg base) (cstretch_counts : CCnt P w K mg base) (cis_whole : CWhI P w K mg base) (cmany_in : CMI P w K mg base) (cnext_pairs : CNP P w K mg base) (mlen : mg "len" = none) : FnOk P w K mg base CX0 4 f fd ["rules", "string", "number"] spFO := by
  refine F.ok sc_folding_of (fun vs H Q E h => ?_) (fun cdv A outer s H vs Q E hr h => ?_)
  · obtain ⟨v, r, x, n, f, rfl, _⟩ := h
    rfl
  · obtain ⟨v, r, x, n, fo, rfl, hR, hx, hO, hn, q⟩ := h
    refine ⟨_, (pss_cons (ps_expr (pe_ca cneed_string (hr.mono (by decide)) (by rfl) (pa_cons (pv 0) (pa_cons (pv 1) pa_nil))))
      (pss_cons (ps_set (i := 3) sc_folding_of.nd rfl (.inl rfl) (pe_ca cstretch_counts (hr.mono (by decide)) (by rfl) (pa_cons (pv 0) (pa_cons (pv 1) pa_nil))))
      (pss_cons (ps_set (i := 4) sc_folding_of.nd rfl (.inl rfl) (pe_lst (pa_cons (pe_tup (pa_cons pe_int (pa_cons (pe_op op_sub (pe_callB call_len_str (by rfl) mlen (by decide +kernel) (pa_cons (pv 1) pa_nil)) pe_int) pa_nil))) pa_nil)))
      (pss_cons (ps_if (PW.pt (pw_or (pt_not (pt_val (pe_ca cis_whole (hr.mono (by decide)) (by rfl) (pa_cons (pv 2) pa_nil)))) (pw_or1 (pt_not (pt_chain op_le op_lt pe_int (pv 2) (pe_ca cmany_in (hr.mono (by decide)) (by rfl) (pa_cons (pv 3) (pa_cons (pv 4) pa_nil)))))))) (pss_one ps_never) pss_nil)
      (pss_cons (ps_set (i := 5) sc_folding_of.nd rfl (.inl rfl) (pe_tup pa_nil))
      (pss_cons (ps_set (i := 6) sc_folding_of.nd rfl (.inl rfl) (pv 2))
      (pss_cons (ps_while PassesOwn.never (pt_cmpR op_gt (pv 6) pe_int (nomark _)) (pss_cons (ps_aug (i := 6) sc_folding_of.nd rfl (.inl rfl) pe_int ip_sub)
      (pss_cons (ps_set (i := 7) sc_folding_of.nd rfl (.inl rfl) (pe_ca cnext_pairs (hr.mono (by decide)) (by rfl) (pa_cons (pv 0) (pa_cons (pv 1) (pa_cons (pv 4) pa_nil)))))
      (pss_one (ps_for PassesOwn.never rfl (pi_list (pv 7)) (pg_tup rfl (pgs_cons (pg_name (i := 8) sc_folding_of.nd rfl (.inl rfl)) (pgs_cons (pg_name (i := 9) sc_folding_of.nd rfl (.inl rfl)) pgs_nil))) (pss_cons (ps_set (i := 10) sc_folding_of.nd rfl (.inl rfl) (pe_ca cmany_in (hr.mono (by decide)) (by rfl) (pa_cons (pv 3) (pa_cons (pv 9) pa_nil))))
      (pss_cons (ps_if (pt_cmpR op_lt (pv 6) (pv 10) (nomark _)) (pss_cons (ps_aug (i := 5) sc_folding_of.nd rfl (.inl rfl) (pe_tup (pa_cons (pv 8) pa_nil)) ip_tup)
      (pss_cons (ps_set (i := 4) sc_folding_of.nd rfl (.inl rfl) (pv 9))
      (pss_one ps_break))) pss_nil)
      (pss_one (ps_aug (i := 6) sc_folding_of.nd rfl (.inl rfl) (pv 10) ip_sub)))))))))
      (pss_one (ps_ret (pv 5)))))))))), ?_⟩
    have nlt : n < pdc r x (S0 x) := by
      rw [S0_pdc, ← GA_len]
      exact (List.getElem?_eq_some_iff.mp hn).1
    have pb : pdc r x (S0 x) ≤ 15511 := by
      rw [S0_pdc]
      exact cn_le r x hx 0
    refine ⟨_, rfl, _, rfl, v, r, x, rfl, hR, hx, hO, fun H1 k1 => ?_⟩
    refine ⟨_, rfl, _, rfl, v, r, x, rfl, RulesW.mono _ _ _ _ (TupK.ext k1) hR, hx, fun D kvs H2 hD hD2 hC k2 => ?_⟩
    refine ⟨_, rfl, x, rfl, szL (by omega), _, 1, rfl, rfl, szL (show 2 ≤ 1000000 by decide), fun t3 ht3 => ⟨szL (show 1 ≤ 1000000 by decide), fun l3 hl3 => ?_⟩⟩
    have x3 := Ext.new (o := .tup [.int 0, .int ((x.length : Int) - 1)]) ht3
    have x4 := Ext.new (o := .lst [.ref t3]) hl3
    have k4 := (k1.trans k2).trans (x3.trans x4)
    have hD4 := (x3.trans x4) _ _ hD2
    have hS4 : Paired (TwoAt (upd (upd H2 t3 (.tup [.int 0, .int ((x.length : Int) - 1)])) l3 (.lst [.ref t3]))) [.ref t3] (S0 x) := .cons ⟨t3, rfl, x4 _ _ upd_same⟩ .nil
    have hl4 : upd (upd H2 t3 (.tup [.int 0, .int ((x.length : Int) - 1)])) l3 (.lst [.ref t3]) l3 = some (.lst [.ref t3]) := upd_same
    generalize upd (upd H2 t3 (.tup [.int 0, .int ((x.length : Int) - 1)])) l3 (.lst [.ref t3]) = H4 at x4 k4 hD4 hS4 hl4 ⊢
    refine ⟨_, rfl, (n : Int), rfl, true, rfl, iteF ?_⟩
    refine ⟨_, rfl, 0, (n : Int), rfl, rfl, _, rfl, ?_⟩
    rw [decide_eq_true (show (0 : Int) ≤ (n : Int) by omega)]
    refine iteT ⟨_, rfl, _, rfl, r, x, D, l3, kvs, _, S0 x, rfl, hD4, hC, hx, hl4, hS4, StOk.S0 hx, by omega, _, _, rfl, rfl, _, rfl, ?_⟩
    rw [decide_eq_true (show (n : Int) < ((pdc r x (S0 x) : Nat) : Int) by omega)]
    refine iteF ⟨Nat.zero_le _, fun t5 ht5 => ⟨_, rfl, ?_⟩⟩
    have x5 := Ext.new (o := .tup []) ht5
    refine ⟨fun m σ H6 => ∃ (y7 y8 y9 y10 : Option V) (l a : Addr) (us fs : List V) (Ss : Sts) (fd : Fo) (b : Nat), σ = [some v, some (.str x), some (.int (n : Nat)), some (.ref D), some (.ref l), some (.ref a), some (.int (b : Nat)), y7, y8, y9, y10] ∧ m = b ∧ Ext H4 H6 ∧ H6 l = some (.lst us) ∧ Paired (TwoAt H6) us Ss ∧ StOk x Ss ∧ b < pdc r x Ss ∧ pdc r x Ss ≤ pdc r x (S0 x) ∧ H6 a = some (.tup fs) ∧ Paired (TwoAt H6) fs fd ∧ (sz Ss + 2 * fd.length ≤ 12) ∧ (∀ g, (Gn r x Ss)[b]? = some g → fo = fd ++ g),
      ⟨n, none, none, none, none, l3, t5, _, [], S0 x, [], n, rfl, rfl, x5, x5 _ _ hl4, paired_imp (fun _ _ => TwoAt.mono _ _ _ _ (TupK.ext x5)) hS4, StOk.S0 hx, nlt, Nat.le_refl _, upd_same, .nil, ?_, fun g hg => ?_⟩, fun m σ H6 hv => ?_⟩
    · show ((x.length : Int) - 1 + 1 - 0).toNat + 0 + 2 * 0 ≤ 12
      omega
    · have hg : (GA r x)[n]? = some g := hg
      rw [hn] at hg
      exact Option.some.inj hg
    · obtain ⟨y7, y8, y9, y10, l, a, us, fs, Ss, fd, b, rfl, rfl, k6, hl, hP, hS, hb, hpd, ha, hF, hz, hf⟩ := hv
      refine ⟨_, rfl, _, _, rfl, rfl, _, rfl, ite2 (fun e => ?_) (fun e => ?_)⟩
      · have e : 0 < m := by
          have := of_decide_eq_true e
          omega
        have k06 := k4.trans k6
        refine ⟨_, fun σ' H' h => h, ?_⟩
        refine ⟨_, rfl, _, _, rfl, rfl, ?_⟩
        refine ⟨_, rfl, _, rfl, _, rfl, v, r, x, l, us, Ss, rfl, RulesW.mono _ _ _ _ (TupK.ext k06) hR, hx, hl, hP, hS, fun D7 ws7 H7 hD7 hL7 hN7 k7 => ?_⟩
        have h7l := paired_len hN7
        refine ⟨_, rfl, D7, rfl, ⟨_, SqL.of hL7⟩, for_list (K := K) (xs := ws7) (fun i σ H8 => ∃ (y8 y9 y10 : Option V) (b : Nat), σ = [some v, some (.str x), some (.int (n : Nat)), some (.ref D), some (.ref l), some (.ref a), some (.int (b : Nat)), some (.ref D7), y8, y9, y10] ∧ m = 1 + pre r x Ss i + b ∧ H8 = H7)
          ⟨y8, y9, y10, m - 1, ?_, ?_, rfl⟩ (fun i σ H8 _ ⟨_, _, _, _, _, _, e⟩ => by rw [e]; exact SqL.of hL7) (fun i u σ H8 hi hv => ?_) (fun σ H8 hv => ?_)⟩
        · show _ = _
          rw [show ((m - 1 : Nat) : Int) = (m : Int) - 1 by omega]
          rfl
        · rw [pre_zero]
          omega
        · obtain ⟨y8, y9, y10, b, rfl, hm, rfl⟩ := hv
          obtain ⟨c, hc, a1, b1, l1, us1, rfl, h1, h2, _, h4, h5⟩ := paired_get hN7 hi
          have hcm := List.mem_of_getElem? hc
          have hpn := pre_next (r := r) (x := x) hS.ge hc
          refine ⟨a1, _, rfl, SqT.of h1, rfl, _, _, rfl, _, _, rfl, rfl, ?_⟩
          refine ⟨_, rfl, _, rfl, r, x, D, l1, kvs, us1, c.2, rfl, (k6.trans k7) _ _ hD4, hC, hx, h4, h5, hS.nx hcm, by omega, ?_⟩
          refine ⟨_, rfl, _, rfl, _, _, rfl, rfl, _, rfl, ite2 (fun e2 => ?_) (fun e2 => ?_)⟩
          · have e2 : b < pdc r x c.2 := by
              have := of_decide_eq_true e2
              omega
            refine ⟨_, rfl, _, rfl, szL (show 1 ≤ 1000000 by decide), fun t9 ht9 => ?_⟩
            have x9 := Ext.new (o := .tup [.ref b1]) ht9
            have k79 := k7.trans x9
            have hfl := paired_len hF
            refine ⟨a, t9, fs, [.ref b1], rfl, rfl, k79 _ _ ha, upd_same, szL (by rw [List.length_singleton]; omega), fun p10 H10 k10 hp10 => ⟨_, rfl, ?_⟩⟩
            have k710 := x9.trans k10
            refine ⟨b, by omega, _, _, _, _, l1, p10, us1, fs ++ [.ref b1], c.2, fd ++ [c.1], b, rfl, rfl, k6.trans (k7.trans k710), k710 _ _ h4, paired_imp (fun _ _ => TwoAt.mono _ _ _ _ (TupK.ext k710)) h5, hS.nx hcm, e2, by omega, hp10, ?_, ?_, fun g hg => ?_⟩
            · exact paired_app (paired_imp (fun _ _ => TwoAt.mono _ _ _ _ (TupK.ext (k7.trans k710))) hF) (.cons ⟨b1, rfl, k710 _ _ h2⟩ .nil)
            · have := (npL_sz hcm).1
              rw [List.length_append, List.length_singleton]
              omega
            · have := hf (c.1 :: g) (by rw [hm]; exact Gn_at hS.ge hc hg)
              rw [this, List.append_assoc]
              rfl
          · have e2 : pdc r x c.2 ≤ b := by
              have : ¬ ((b : Nat) : Int) < ((pdc r x c.2 : Nat) : Int) := fun z => e2 (decide_eq_true z)
              omega
            refine ⟨_, rfl, _, rfl, _, _, rfl, rfl, ?_⟩
            refine ⟨some (.ref b1), some (.ref l1), some (.int (pdc r x c.2 : Nat)), b - pdc r x c.2, ?_, ?_, rfl⟩
            · show _ = _
              rw [show ((b - pdc r x c.2 : Nat) : Int) = (b : Int) - ((pdc r x c.2 : Nat) : Int) by omega]
              rfl
            · rw [pre_succ hc]
              omega
        · obtain ⟨y8, y9, y10, b, rfl, hm, rfl⟩ := hv
          have := pre_all (r := r) (x := x) hS.ge
          rw [h7l] at hm
          omega
      · have e : m = 0 := by
          have : ¬ ((m : Nat) : Int) > 0 := fun z => e (decide_eq_true z)
          omega
        subst e
        have := hf [] (Gn_zero r x Ss)
        rw [List.append_nil] at this
        rw [this] at q
        exact ⟨_, rfl, q _ _ ⟨a, fs, rfl, ha, hF⟩ (k4.trans k6)⟩
abbrev CFO (P : Program) (w : World) (K : PySem.W.Frag) (mg : Str → Option Value) (base : Heap) : Prop := Ca P w K mg base 4 "folding_of" ["rules", "string", "number"] spFO
abbrev s_number_of : Stmt := topS 52
theorem sc_number_of : FnScope ["rules", "string", "folding", "counts", "stretches", "number", "pair", "following", "other", "behind"] ["rules", "string", "folding"] (defScope s_number_of) :=
  ⟨rfl, rfl, rfl, by decide +kernel, rfl, by decide +kernel, by decide +kernel⟩
def spNO : Sp := fun vs H Q _ => ∃ (v vf : V) (r : Rl) (x : Str) (n : Nat) (f : Fo), vs = [v, .str x, vf] ∧ RulesW H v r ∧ x.length ≤ 12 ∧ Of r.letters x ∧ FoAt H vf f ∧ (GA r x)[n]? = some f ∧ ∀ (H' : Hp), Ext H H' → Q (.int (n : Nat)) H'
theorem eqv_two (y z : Int × Int) : PyData.eqv (dTwo y) (dTwo z) = decide (y = z) := by
  obtain ⟨y1, y2⟩ := y
  obtain ⟨z1, z2⟩ := z
  simp [dTwo, PyData.eqv, PyData.eqvAll, Prod.mk.injEq]
  rw [Bool.eq_iff_iff]
  simp
theorem shaped_two (y : Int × Int) : SeqAt.shaped (dTwo y) = true := by
  simp [dTwo, SeqAt.shaped, PyData.canLay0, PyData.canLayAll0, PyData.depth, PyData.depthAll]
theorem dp_two {H : Hp} {a : Addr} {y : Int × Int} (h : H a = some (.tup [.int y.1, .int y.2])) : Dp K H (.ref a) (dTwo y) := .tup (SqT.of h) (.cons (.int _) (.cons (.int _) .nil))
theorem ok_no {f : Addr} {fd : FuncData} (F : Fun K "number_of" "number_of" s_number_of f fd) (cneed_string : CNS P w K mg base) (cis_folding : CIF P w K mg base) (cstretch_counts : CCnt P w K mg base) (cmany_in : CMI P w K mg base) (cnext_pairs : CNP P w K mg base) (mlen : mg "len" = none) : FnOk P w K mg base CX0 5 f fd ["rules", "string", "folding"] spNO := by
  refine F.ok sc_number_of (fun vs H Q E h => ?_) (fun cdv A outer s H vs Q E hr h => ?_)
  · obtain ⟨v, vf, r, x, n, f, rfl, _⟩ := h
    rfl
  · obtain ⟨v, vf, r, x, n, fo, rfl, hR, hx, hO, ⟨af, fs, rfl, haf, hF⟩, hn, q⟩ := h
    refine ⟨_, (pss_cons (ps_expr (pe_ca cneed_string (hr.mono (by decide)) (by rfl) (pa_cons (pv 0) (pa_cons (pv 1) pa_nil))))
      (pss_cons (ps_if (pt_not (pt_val (pe_ca cis_folding (hr.mono (by decide)) (by rfl) (pa_cons (pv 0) (pa_cons (pv 1) (pa_cons (pv 2) pa_nil)))))) (pss_one ps_never) pss_nil)
      (pss_cons (ps_set (i := 3) sc_number_of.nd rfl (.inl rfl) (pe_ca cstretch_counts (hr.mono (by decide)) (by rfl) (pa_cons (pv 0) (pa_cons (pv 1) pa_nil))))
      (pss_cons (ps_set (i := 4) sc_number_of.nd rfl (.inl rfl) (pe_lst (pa_cons (pe_tup (pa_cons pe_int (pa_cons (pe_op op_sub (pe_callB call_len_str (by rfl) mlen (by decide +kernel) (pa_cons (pv 1) pa_nil)) pe_int) pa_nil))) pa_nil)))
      (pss_cons (ps_set (i := 5) sc_number_of.nd rfl (.inl rfl) pe_int)
      (pss_cons (ps_for PassesOwn.never rfl (pi_tup (pv 2)) (pg_name (i := 6) sc_number_of.nd rfl (.inl rfl)) (pss_cons (ps_aug (i := 5) sc_number_of.nd rfl (.inl rfl) pe_int ip_add)
      (pss_cons (ps_set (i := 7) sc_number_of.nd rfl (.inl rfl) (pe_ca cnext_pairs (hr.mono (by decide)) (by rfl) (pa_cons (pv 0) (pa_cons (pv 1) (pa_cons (pv 4) pa_nil)))))
      (pss_one (ps_for PassesOwn.never rfl (pi_list (pv 7)) (pg_tup rfl (pgs_cons (pg_name (i := 8) sc_number_of.nd rfl (.inl rfl)) (pgs_cons (pg_name (i := 9) sc_number_of.nd rfl (.inl rfl)) pgs_nil))) (pss_cons (ps_if (pt_cmpR (eqD K hr.units) (pv 8) (pv 6) (nomark _)) (pss_cons (ps_set (i := 4) sc_number_of.nd rfl (.inl rfl) (pv 9))
      (pss_one ps_break)) pss_nil)
      (pss_one (ps_aug (i := 5) sc_number_of.nd rfl (.inl rfl) (pe_ca cmany_in (hr.mono (by decide)) (by rfl) (pa_cons (pv 3) (pa_cons (pv 9) pa_nil))) ip_add))))))))
      (pss_one (ps_ret (pv 5))))))))), ?_⟩
    have fmem : fo ∈ GA r x := List.mem_of_getElem? hn
    have f4 : Fo4 r x 0 x.length fo := by
      have := fo4_of r x x.length 0 fo (GA_sub fmem)
      rw [Int.zero_add] at this
      exact this
    have fhalf := (WA_in r x x.length 0 fo (GA_sub fmem)).2
    have pb : pdc r x (S0 x) ≤ 15511 := by
      rw [S0_pdc]
      exact cn_le r x hx 0
    have hfl := paired_len hF
    refine ⟨_, rfl, _, rfl, v, r, x, rfl, hR, hx, hO, fun H1 k1 => ?_⟩
    refine ⟨_, rfl, _, rfl, _, rfl, v, .ref af, r, x, fo, rfl, RulesW.mono _ _ _ _ (TupK.ext k1) hR, by omega, ⟨af, fs, rfl, k1 _ _ haf, paired_imp (fun _ _ => TwoAt.mono _ _ _ _ (TupK.ext k1)) hF⟩, by omega, fun y hy => f4.inn y hy, fun H1' k1' => ?_⟩
    rw [isF_true f4]
    refine ⟨_, rfl, iteF ?_⟩
    have k1 := k1.trans k1'
    refine ⟨_, rfl, _, rfl, v, r, x, rfl, RulesW.mono _ _ _ _ (TupK.ext k1) hR, hx, fun D kvs H2 hD hD2 hC k2 => ?_⟩
    refine ⟨_, rfl, x, rfl, szL (by omega), _, 1, rfl, rfl, szL (show 2 ≤ 1000000 by decide), fun t3 ht3 => ⟨szL (show 1 ≤ 1000000 by decide), fun l3 hl3 => ?_⟩⟩
    have x3 := Ext.new (o := .tup [.int 0, .int ((x.length : Int) - 1)]) ht3
    have x4 := Ext.new (o := .lst [.ref t3]) hl3
    have k4 := (k1.trans k2).trans (x3.trans x4)
    have hD4 := (x3.trans x4) _ _ hD2
    have hS4 : Paired (TwoAt (upd (upd H2 t3 (.tup [.int 0, .int ((x.length : Int) - 1)])) l3 (.lst [.ref t3]))) [.ref t3] (S0 x) := .cons ⟨t3, rfl, x4 _ _ upd_same⟩ .nil
    have hl4 : upd (upd H2 t3 (.tup [.int 0, .int ((x.length : Int) - 1)])) l3 (.lst [.ref t3]) l3 = some (.lst [.ref t3]) := upd_same
    generalize upd (upd H2 t3 (.tup [.int 0, .int ((x.length : Int) - 1)])) l3 (.lst [.ref t3]) = H4 at x4 k4 hD4 hS4 hl4 ⊢
    refine ⟨_, rfl, af, rfl, ⟨_, SqT.of (k4 _ _ haf)⟩, for_tup (K := K) (xs := fs) (fun i σ H6 => ∃ (y6 y7 y8 y9 : Option V) (l : Addr) (us : List V) (Ss : Sts) (b : Nat), σ = [some v, some (.str x), some (.ref af), some (.ref D), some (.ref l), some (.int (b : Nat)), y6, y7, y8, y9] ∧ Ext H4 H6 ∧ H6 l = some (.lst us) ∧ Paired (TwoAt H6) us Ss ∧ StOk x Ss ∧ pdc r x Ss ≤ pdc r x (S0 x) ∧ fo.drop i ∈ Gn r x Ss ∧ ∀ m, (Gn r x Ss)[m]? = some (fo.drop i) → n = b + m)
      ⟨none, none, none, none, l3, _, S0 x, 0, rfl, Ext.refl, hl4, hS4, StOk.S0 hx, Nat.le_refl _, fmem, fun m hm => ?_⟩ (fun i σ H6 _ hv => ?_) (fun i u σ H6 hi hv => ?_) (fun σ H6 hv => ?_)⟩
    · rw [List.drop_zero] at hm
      have := GA_one hn hm
      omega
    · obtain ⟨_, _, _, _, _, _, _, _, _, k, _⟩ := hv
      exact SqT.of (k _ _ (k4 _ _ haf))
    · obtain ⟨y6, y7, y8, y9, l, us, Ss, b, rfl, k6, hl, hP, hS, hpd, hmem, hb⟩ := hv
      obtain ⟨y, hy, a1, rfl, ha1⟩ := paired_get hF hi
      have k06 := k4.trans k6
      have edrop : fo.drop i = y :: fo.drop (i + 1) := by
        obtain ⟨hi', e⟩ := List.getElem?_eq_some_iff.mp hy
        rw [List.drop_eq_getElem_cons hi', e]
      rw [edrop] at hmem hb
      obtain ⟨t0, c0, ht0, ec0, hg0⟩ := Gn_cons hmem
      refine ⟨_, rfl, _, _, rfl, rfl, ?_⟩
      refine ⟨_, rfl, _, rfl, _, rfl, v, r, x, l, us, Ss, rfl, RulesW.mono _ _ _ _ (TupK.ext k06) hR, hx, hl, hP, hS, fun D7 ws7 H7 hD7 hL7 hN7 k7 => ?_⟩
      have h7l := paired_len hN7
      refine ⟨_, rfl, D7, rfl, ⟨_, SqL.of hL7⟩, for_list (K := K) (xs := ws7) (fun j σ H8 => ∃ (y8 y9 : Option V), σ = [some v, some (.str x), some (.ref af), some (.ref D), some (.ref l), some (.int ((b + 1 + pre r x Ss j : Nat) : Int)), some (.ref a1), some (.ref D7), y8, y9] ∧ j ≤ t0 ∧ H8 = H7)
        ⟨y8, y9, ?_, Nat.zero_le _, rfl⟩ (fun j σ H8 _ ⟨_, _, _, _, e⟩ => by rw [e]; exact SqL.of hL7) (fun j u σ H8 hj hv => ?_) (fun σ H8 hv => ?_)⟩
      · rw [pre_zero]
        rfl
      · obtain ⟨y8, y9, rfl, hjt, rfl⟩ := hv
        obtain ⟨c, hc, a2, b2, l2, us2, rfl, h1, h2, _, h4, h5⟩ := paired_get hN7 hj
        have hcm := List.mem_of_getElem? hc
        have hpn := pre_next (r := r) (x := x) hS.ge hc
        have k07 := k06.trans k7
        refine ⟨a2, _, rfl, SqT.of h1, rfl, _, _, rfl, _, _, rfl, rfl, ?_⟩
        refine ⟨_, rfl, _, rfl, dTwo c.1, dTwo y, dp_two h2, dp_two (k07 _ _ ha1), shaped_two _, shaped_two _, _, rfl, ?_⟩
        rw [eqv_two]
        refine ite2 (fun e => ?_) (fun e => ?_)
        · have e : c.1 = y := of_decide_eq_true e
          have ej := npL_one hS.wf hc ht0 (e.trans ec0.symm)
          subst ej
          rw [hc] at ht0
          have ecc := Option.some.inj ht0
          subst ecc
          refine ⟨_, rfl, ?_⟩
          refine ⟨_, _, _, _, l2, us2, c.2, b + 1 + pre r x Ss j, rfl, k6.trans k7, h4, h5, hS.nx hcm, by omega, hg0, fun m hm => ?_⟩
          have h8 := Gn_at hS.ge hc hm
          rw [e] at h8
          have := hb _ h8
          omega
        · have e : ¬ c.1 = y := fun z => e (decide_eq_true z)
          refine ⟨_, rfl, _, rfl, _, rfl, r, x, D, l2, kvs, us2, c.2, rfl, (k6.trans k7) _ _ hD4, hC, hx, h4, h5, hS.nx hcm, by omega, _, _, rfl, rfl, ?_⟩
          refine ⟨some (.ref b2), some (.ref l2), ?_, ?_, rfl⟩
          · show _ = _
            rw [pre_succ hc, show ((b + 1 + (pre r x Ss j + pdc r x c.2) : Nat) : Int) = ((b + 1 + pre r x Ss j : Nat) : Int) + ((pdc r x c.2 : Nat) : Int) by omega]
            rfl
          · have : j ≠ t0 := fun z => by
              rw [z, ht0] at hc
              exact e (by rw [← Option.some.inj hc]; exact ec0)
            omega
      · obtain ⟨y8, y9, rfl, hjt, rfl⟩ := hv
        have := (List.getElem?_eq_some_iff.mp ht0).1
        omega
    · obtain ⟨y6, y7, y8, y9, l, us, Ss, b, rfl, k6, hl, hP, hS, hpd, hmem, hb⟩ := hv
      rw [List.drop_eq_nil_of_le (by omega)] at hb
      have e := hb 0 (Gn_zero r x Ss)
      have e : n = b := by omega
      subst e
      exact ⟨_, rfl, q _ (k4.trans k6)⟩
abbrev CNO (P : Program) (w : World) (K : PySem.W.Frag) (mg : Str → Option Value) (base : Heap) : Prop := Ca P w K mg base 5 "number_of" ["rules", "string", "folding"] spNO
end
end Pf


namespace Pf
open PySem PySem.Spec PyProof.Rows L2
/-! ### an exception that was caught, kept in a variable -/
/-- the object at a: an exception of the class cls with the dict d -/
def ExI (cls : Value) (d : Option Addr) (a : Addr) : HO := .ext fun hp => ∃ (ob : Obj) (fl : Array Value), hp.get? a = some ob ∧ Zc cls d ob ∧ ob.data = .fields fl
theorem exI_ok {P : Program} {w : World} {H : Hp} {hp : Heap} {a : Addr} {cls : Value} {d : Option Addr} {ob : Obj} {fl : Array Value} (e : hp.get? a = some ob) (z : Zc cls d ob) (dt : ob.data = .fields fl) : ObjOk P w H hp a (ExI cls d a) :=
  ⟨⟨ob, fl, e, z, dt⟩, ⟨ob, e⟩, fun _ _ ⟨o, v, q, r⟩ k => ⟨o, v, k o q, r⟩⟩
/-- an object that stands in the heap, and was not there at the entry, is told from now on -/
theorem told_now {X : Cx} {pins : List (Addr × Obj)} {σ : L2.St} {H : Hp} {s : Shared} {a : Addr} {o : HO} (I : Inv X pins σ H s) (ha : H a = none) (h0 : X.s_0.heap.get? a = none) (nL : a ≠ X.env.locals) (nC : ∀ x c, X.env.cells.lookup x = some c → c ≠ a) (np : ∀ p ∈ X.pn ++ pins, p.1 ≠ a)
    (new : ObjOk X.prog X.w (upd H a o) s.heap a o) : Inv X pins σ (upd H a o) s := by
  have ne : ∀ {b : Addr} {u : HO}, H b = some u → b ≠ a := fun e z => by
    rw [z, ha] at e
    cases e
  refine ⟨I.ok, I.os, I.bare, ⟨I.base.keep, I.base.slot, fun b u e hn hx => ?_, I.base.there, fun b xs e => ?_, fun b u xs e => ?_, fun b ps e => ?_⟩, I.loc, I.cell, ?_, fun x c e => ?_, fun p hp => ?_, fun b u e => ?_, I.len⟩
  · rw [upd_ne (fun z => by rw [z, h0] at e; cases e)]
    exact I.base.free b u e hn hx
  · have q := I.base.tups b xs e
    rw [upd_ne (ne q)]
    exact q
  · have q := I.base.frzs b u xs e
    rw [upd_ne (ne q)]
    exact q
  · obtain ⟨m, q⟩ := I.base.tbls b ps e
    exact ⟨m, by rw [upd_ne (ne q)]; exact q⟩
  · rw [upd_ne nL.symm]
    exact I.free
  · rw [upd_ne (nC x c e)]
    exact I.freeC x c e
  · obtain ⟨p1, p2, p3⟩ := I.pin p hp
    exact ⟨p1, by rw [upd_ne (np p hp)]; exact p2, p3⟩
  · by_cases hb : b = a
    · subst hb
      rw [upd_same] at e
      cases e
      exact new
    · rw [upd_ne hb] at e
      exact (I.hok b u e).stay (fun c v _ q => q) (fun c q => by rw [upd_ne (ne_of_none q ha)]; exact q) fun c xs q => by rw [upd_ne (ne_of_none q ha)]; exact q
def wKeep (K : PySem.W.Frag) (ks : List Value) (i : Nat) (ts : Addr → Value → Option Addr → TS) (D : Ends) : WX := fun cls d σ H => PySem.W.exmAny K cls ks = some true ∧ ∀ a, H a = none → ts a cls d { nx := fun σ' H' => D.nx (σ'.set i none) (upd H' a (ExI cls d a)), rt := fun _ _ => False } (σ.set i (some (.ref a))) H
theorem ps_try_keep {X : Cx} {x1 x2 x3 n : Str} {c1 c2 c3 : Value} {i kk : Nat} {body rest : List Stmt} {st1 : Stmt} {q1 q2 q3 qt pos pos' : Pos} {tb : WX → TS} {ts : Addr → Value → Option Addr → TS}
    (hs : X.stack = X.env :: X.outer) (hf : X.env.frame = some X.env.locals) (hex : X.ex = []) (hN : X.N.Nodup) (hi : X.N[i]? = some n) (hln : X.env.kindOf n = some .local) (n1 : Names X x1 c1) (n2 : Names X x2 c2) (n3 : Names X x3 c3)
    (hb : ∀ (W : WX) (pn : List (Addr × Obj)) (xe : Value → Shared → Prop), Takes (X.tr pn xe) W →
      PassesOwn (model X.prog X.w) X.A X.env xe → PSs (X.tr pn xe) body (tb W))
    (hsu : ∀ (a : Addr) (ob : Obj) (cls : Value) (d : Option Addr) (pn : List (Addr × Obj)), Zc cls d ob →
      (∃ fl, ob.data = .fields fl) → PSs (X.suite a ((a, ob) :: pn)) (st1 :: rest) (ts a cls d)) :
    PS X (.Try body [.ExceptHandler (some (.Tuple [.Name x1 q1, .Name x2 q2, .Name x3 q3] kk qt)) (some n) (st1 :: rest) pos'] [] [] pos) (fun D σ H => tb (wKeep X.K [c1, c2, c3] i ts D) D σ H) := by
  refine ⟨fun pins s σ H D I h => ?_⟩
  have okX := I.ok
  have frs0 : X.A.frames = some (X.env :: X.outer) := okX.frames.trans (by rw [hs])
  have lc : Loc X.env.scope n := .inl hln
  refine wpAny_Try_except ?_
  refine wpAny_mono ((hb (wKeep X.K [c1, c2, c3] i ts D) (X.pn ++ pins)
    (fun u t0 => wpAny (model X.prog X.w) X.A (noteFrame u X.env)
      (fun _ t1 => wpAny (model X.prog X.w) X.A (setFlight u none)
        (fun _ t2 => wpAny (model X.prog X.w) X.A
          (handleBy u X.env [.ExceptHandler (some (.Tuple [.Name x1 q1, .Name x2 q2, .Name x3 q3] kk qt)) (some n) (st1 :: rest) pos'])
          (L2.SP X pins D) X.xe t2) X.xe t1) X.xe t0)
    (fun u t0 xx => ?_) PassesOwn.looking).run [] s σ H D (I.toTry _) h) (fun f t1 hsp => ?_) (fun e t1 he => he)
  · -- the catch
    obtain ⟨a, B, sI, pins2, σ2, H2, cls, d, rfl, J0, nb, up, sky, na, os, ag, hm, hgo⟩ := xx
    have J : Inv X pins σ2 H2 sI := J0.ofTry okX
    rw [hs] at sky
    show wpAny (model X.prog X.w) X.A (noteFrame (.ref a) X.env) _ _ _
    refine Sky.land Zc.steady frs0 hf sky fun hA flA upA => ?_
    have JA : Inv X pins σ2 H2 { t0 with heap := hA } := J.landed nb flA.1 (up.trans upA) os ag
    obtain ⟨obA, fvA, heA, hzA, hdA⟩ := flA.there
    have notF : ∀ {g : Heap} {o : Obj} {fv : Array Value}, g.FunFrames B (X.env :: X.outer) → g.get? a = some o →
        o.data = .fields fv → a ∉ frs (X.env :: X.outer) := fun ff e dd hmem => by
      obtain ⟨_, o2, e2, hnf⟩ := ff.mem hmem
      rw [e] at e2
      cases e2
      exact hnf _ dd
    have nfr := notF flA.2.2.1 heA hdA
    have nL : a ≠ X.env.locals := fun z =>
      nfr (List.mem_filterMap.mpr ⟨X.env, List.mem_cons_self, by rw [hf, z]⟩)
    have nF : a ∉ X.fs := fun hmem => by
      obtain ⟨e, he, q⟩ := List.mem_filterMap.mp hmem
      exact nfr (List.mem_filterMap.mpr ⟨e, List.mem_cons_of_mem _ he, q⟩)
    have nI : sI.heap.get? a = none := by
      cases e : sI.heap.get? a with
      | none => rfl
      | some o =>
        have z := nb a o e (by rw [hs]; exact nfr)
        rw [flA.2.1] at z
        cases z
    have n0 : X.s_0.heap.get? a = none := by
      cases e : X.s_0.heap.get? a with
      | none => rfl
      | some o =>
        obtain ⟨o2, z⟩ := J.base.there a o e (by rw [hex]; exact fun q => nomatch q)
        rw [nI] at z
        cases z
    have npin : ∀ p ∈ X.pn ++ pins, p.1 ≠ a := fun p hp z => by
      have := (J.pin p hp).1
      rw [z, nI] at this
      cases this
    have SA := JA.suite heA hdA na nL nF
    refine wpAny_handleBy_cons (codeAny_handlers_test ?_) (by intro q; cases q)
    have nameIs : ∀ {y : Str} {c : Value} {yp : Pos} {Q : Value → Shared → Prop} {E : Value → Shared → Prop}, Names X y c → Q c { t0 with heap := hA } →
        wpAny (model X.prog X.w) (X.A.mark (some (.ref a))) (eval (.Name y yp) X.env) Q E { t0 with heap := hA } := fun hc q => by
      obtain ⟨hg, hdbg, hm2 | ⟨hm2, hv, hnn⟩⟩ := hc
      · exact ld_glob (X := X.suite a ((a, obA) :: (X.pn ++ pins))) SA hg hm2 q hdbg
      · exact ld_blt (X := X.suite a ((a, obA) :: (X.pn ++ pins))) SA hg hm2 hv q hnn hdbg
    have hpush : ∀ b o, hA.get? b = some o → (hA.push { cls := .type "tuple", data := .seq #[c1, c2, c3] }).get? b = some o := fun b o e => Heap.get?_push_of_some _ e
    have szN : (hA.push { cls := .type "tuple", data := .seq #[c1, c2, c3] }).get? hA.objs.size = some { cls := .type "tuple", data := .seq #[c1, c2, c3] } := Heap.get?_push_size _ rfl
    refine wpAny_Tuple_spliced ?_
    refine Calls.spliced_cons (nameIs n1 (Calls.spliced_cons (nameIs n2 (Calls.spliced_cons (nameIs n3 (Calls.spliced_nil ⟨?_, ?_⟩))))))
    · show 3 ≤ sizeLine
      rw [sizeLine_eq]
      decide
    have flP : HandSPX.FlyingZ B (X.env :: X.outer) a (Zc cls d) (hA.push { cls := .type "tuple", data := .seq #[c1, c2, c3] }) := by
      obtain ⟨f1, f2, f3, ob, fv, T, oT, tv, g1, g2, g3, g4, g5, g6, g7, g8, g9⟩ := id flA
      exact ⟨fun b o e => hpush b o (f1 b o e), f2, f3.of_keeps fun b o e _ => ⟨o, hpush b o e, rfl⟩, ob, fv, T, oT, tv, hpush _ _ g1, g2, g3, g4, g5, g6, hpush _ _ g7, g8, g9⟩
    have upP : hA.UpToSlots (hA.push { cls := .type "tuple", data := .seq #[c1, c2, c3] }) := .of_keeps hpush
    have LT : PySem.W.Looks (model X.prog X.w) (hA.push { cls := .type "tuple", data := .seq #[c1, c2, c3] }) (typeOf (.ref a)) cls := fun A Q E u k q =>
      wpAny_typeOf_ref (k _ _ (hpush _ _ heA)) (by rw [hzA.1]; exact q)
    have KP : X.K.In (hA.push { cls := .type "tuple", data := .seq #[c1, c2, c3] }) := JA.kIn.keeps hpush
    refine (PySem.W.exm_tup3 (M := model X.prog X.w) KP LT szN hm).here ?_
    refine codeAny_handlers_suite_as ?_
    refine HandSPX.lands_againZ flP fun hB flB upB => ?_
    have JB : Inv X pins σ2 H2 { t0 with heap := hB } := J.landed nb flB.1 (((up.trans upA).trans upP).trans upB) os ag
    obtain ⟨obB, fvB, heB, hzB, hdB⟩ := flB.there
    have SB := JB.suite heB hdB na nL nF
    refine store_ok (X := X.suite a ((a, obB) :: (X.pn ++ pins))) (v := .ref a) SB hN hi lc rfl (fun t5 S5 => ?_) (.inr hln)
    refine wpAny_mono ((hsu a obB cls d (X.pn ++ pins) hzB ⟨_, hdB⟩).run [] t5 _ H2 _ S5 (hgo a na)) (fun f t6 hsp => ?_) (fun _ _ z => False.elim z)
    cases f with
    | next =>
      obtain ⟨σ6, H6, S6, q6⟩ := hsp
      have P6 : Inv X ((a, obB) :: pins) σ6 H6 t6 := (S6.unsuite okX).pins_of fun p hp => by
        rcases List.mem_cons.mp hp with e | hp
        · rw [e]
          exact S6.pin (a, obB) (List.mem_append_left _ List.mem_cons_self)
        · exact S6.pin p (List.mem_append_left _ (List.mem_cons_of_mem _ (List.mem_append_right _ hp)))
      refine gone_ok P6 hN hi hln fun t7 J7 => ?_
      have pa := J7.pin (a, obB) (List.mem_append_right _ List.mem_cons_self)
      have J8 : Inv X pins (σ6.set i none) H6 t7 := J7.pins_of fun p hp => J7.pin p (List.mem_append_right _ (List.mem_cons_of_mem _ hp))
      refine ⟨_, _, told_now (o := ExI cls d a) J8 pa.2.1 n0 nL (fun x c e z => ?_) npin (exI_ok pa.1 hzB hdB), q6⟩
      obtain ⟨v, o, ho, hcd⟩ := J8.cell x c e
      rw [z, pa.1] at ho
      cases ho
      exact pa.2.2.2.2 v hcd
    | ret u =>
      obtain ⟨v6, σ6, H6, S6, r6, q6⟩ := hsp
      exact q6.elim
    | brk =>
      obtain ⟨σ6, H6, S6, q6⟩ := hsp
      exact False.elim q6
    | cont =>
      obtain ⟨σ6, H6, S6, q6⟩ := hsp
      exact False.elim q6
  · cases f with
    | next =>
      obtain ⟨σ2, H2, J2, q⟩ := hsp
      exact wpAny_execs_nil ⟨σ2, H2, J2.ofTry okX, q⟩
    | ret u =>
      obtain ⟨v, σ2, H2, J2, r, q⟩ := hsp
      exact ⟨v, σ2, H2, J2.ofTry okX, r, q⟩
    | brk =>
      obtain ⟨σ2, H2, J2, q⟩ := hsp
      exact ⟨σ2, H2, J2.ofTry okX, q⟩
    | cont =>
      obtain ⟨σ2, H2, J2, q⟩ := hsp
      exact ⟨σ2, H2, J2.ofTry okX, q⟩
/-- isinstance of an exception that was kept: by one class -/
def rIsX (K : PySem.W.Frag) : List V → Hp → VK → Prop := fun xs H Q => ∃ (a C : Addr) (c : V) (cv : Value) (b : Bool), xs = [.ref a, c] ∧ H a = some (ExI (.ref C) none a) ∧ ExcC K C ∧ (∀ u, RelV c u → u = cv) ∧ PySem.W.kitOne K (.ref C) cv = some b ∧ Q (.bl b) H
theorem exI_at {X : Cx} {pins : List (Addr × Obj)} {σ : L2.St} {H : Hp} {s : Shared} {a C : Addr} (I : Inv X pins σ H s) (h : H a = some (ExI (.ref C) none a)) : ∃ ob, PySem.W.InstAt s.heap a ob C none := by
  obtain ⟨⟨ob, fl, e, z, dt⟩, _⟩ := I.hok a _ h
  obtain ⟨oc, od, oda, osl⟩ := ob
  obtain ⟨z1, z2⟩ := z
  dsimp only at z1 z2 dt
  subst z1 z2 dt
  exact ⟨_, e, rfl, rfl, trivial⟩
theorem call_isX (K : PySem.W.Frag) {X : Cx} (hK : X.K = K := by rfl) : CallR X (.builtin "isinstance") (rIsX K) := by
  subst hK
  intro pins s σ H xs us Q I r h
  obtain ⟨a, C, c, cv, b, rfl, hA, hC, hcv, e, q⟩ := h
  obtain ⟨ob, J⟩ := exI_at I hA
  cases r with
  | cons rx rr =>
    cases rr with
    | cons rt rr =>
      cases rr
      cases rx
      have ec := hcv _ rt
      subst ec
      exact PySem.W.kia_one (PySem.W.handS_kitx_exc hC.hg hC.hk hC.hs hC.hd hC.ha hC.hn hC.ht hC.hm) I.kIn J e
        (fun z => nomatch z) fun tk => ⟨.bl b, H, I.kept (t' := tk) fun _ _ z => z, rfl, q⟩
theorem vals_refs : ∀ {Cs : List Addr} {us : List Value}, Vals (Cs.map V.ref) us → us = Cs.map Value.ref
  | [], _, r => by cases r; rfl
  | C :: Cs, _, r => by
    cases r with
    | cons r1 r2 =>
      rw [List.map_cons, ← vals_refs r2]
      have r1 : _ = Value.ref C := r1
      rw [r1]
/-- isinstance of an exception that was kept: by a tuple of classes -/
def rIsXT (K : PySem.W.Frag) : List V → Hp → VK → Prop := fun xs H Q => ∃ (a C t : Addr) (Cs : List Addr) (b : Bool), xs = [.ref a, .ref t] ∧ H a = some (ExI (.ref C) none a) ∧ ExcC K C ∧ H t = some (.tup (Cs.map V.ref)) ∧ PySem.W.kitAny K (.ref C) (Cs.map Value.ref) = some b ∧ Q (.bl b) H
theorem call_isXT (K : PySem.W.Frag) {X : Cx} (hK : X.K = K := by rfl) : CallR X (.builtin "isinstance") (rIsXT K) := by
  subst hK
  intro pins s σ H xs us Q I r h
  obtain ⟨a, C, t, Cs, b, rfl, hA, hC, hT, e, q⟩ := h
  obtain ⟨ob, J⟩ := exI_at I hA
  cases r with
  | cons rx rr =>
    cases rr with
    | cons rt rr =>
      cases rr
      cases rx
      cases rt
      obtain ⟨_, ws, rv, ot, ho, hcl, nn, hdt⟩ := I.hok t _ hT
      obtain ⟨oc, od, oda, osl⟩ := ot
      dsimp only at hcl hdt
      subst hcl hdt
      have ew := vals_refs rv
      subst ew
      exact PySem.W.kia_tup (PySem.W.handS_kitx_exc hC.hg hC.hk hC.hs hC.hd hC.ha hC.hn hC.ht hC.hm) I.kIn J ho e
        (fun z => nomatch z) fun tk => ⟨.bl b, H, I.kept (t' := tk) fun _ _ z => z, rfl, q⟩
/-- a def that may raise, by its promise; called within a try -/
structure CaX (P : Program) (w : World) (K : PySem.W.Frag) (mg : Str → Option Value) (base : Heap) (k : Nat) (x : Str) (ps : List Str) (sp : Sp) : Prop where
  ex : ∃ f fd, FnOk P w K mg base (L2.CX P w) k f fd ps sp ∧ mg x = some (.ref f) ∧ PySem.W.keepIn K (.ref f) = true ∧ Binds K fd ps []
theorem pe_caX {X : Cx} {W : WX} {k : Nat} {x : Str} {ps : List Str} {sp : Sp} {p pos : Pos} {e : Expr} {es : List Expr} {t : TA} (c : CaX X.prog X.w X.K X.mg X.base k x ps sp) (hr : Room k X.A) (hg : Gl X x) (tk : Takes X W)
    (ha : PA X (e :: es) t) (hdb : (x == ("__debug__" : Str)) = false := by decide)
    (he : starEach (e :: es) X.env = (false, eval e X.env) :: starEach es X.env := by rfl)
    (hpl : (backTo pos (starEach es X.env)).any (·.1) = false := by rfl) : PE X (.Call (.Name x p) (e :: es) [] pos) (tCallS sp (WE W) t) := by
  obtain ⟨f, fd, F, hm, hk, hb⟩ := c.ex
  exact pe_callS F hr hg hm hk hb (fun σ => passAt tk σ) ha hdb he hpl
end Pf
namespace Pf
open PySem PySem.Spec PyProof.Rows L2
/-! ### which class is under which, out of what the top holds -/
theorem under_cls {K : PySem.W.Frag} {t : Value} {C : Addr} {b : Bool} (h1 : PySem.W.typeIn K (.ref C) = some (.type "type")) (h2 : PySem.W.isClsIn K C = true) (h3 : PySem.W.subIn K t (.ref C) = some b) : PySem.W.kitCls K t (.ref C) = some b := by
  have h4 : (PySem.W.clsIn K C).isSome = true := h2
  unfold PySem.W.kitCls
  simp only [h1, h3, h4]
  simp
theorem under_one {K : PySem.W.Frag} {t : Value} {C : Addr} {b : Bool} (h : PySem.W.kitCls K t (.ref C) = some b) (hn : (t == Value.ref C) = false) : PySem.W.kitOne K t (.ref C) = some b := by
  unfold PySem.W.kitOne
  rw [hn]
  exact h
theorem under_self {K : PySem.W.Frag} {C : Addr} : PySem.W.kitOne K (.ref C) (.ref C) = some true := by
  unfold PySem.W.kitOne
  rw [if_pos (by simp)]
theorem meets_one {K : PySem.W.Frag} {t : Value} {C : Addr} {b : Bool} (h0 : PySem.W.subIn K (.ref C) (.type "BaseException") = some true) (h : PySem.W.kitCls K t (.ref C) = some b) : PySem.W.exmOne K t (.ref C) = some b := by
  unfold PySem.W.exmOne
  rw [h0]
  exact h
theorem any_no {K : PySem.W.Frag} {t : Value} {c : Value} {r : List Value} {b : Bool} (h1 : PySem.W.kitOne K t c = some false) (h2 : PySem.W.kitAny K t r = some b) : PySem.W.kitAny K t (c :: r) = some b := by
  show (match PySem.W.kitOne K t c with | some true => some true | some false => PySem.W.kitAny K t r | none => none) = _
  rw [h1]
  exact h2
theorem any_yes {K : PySem.W.Frag} {t : Value} {c : Value} {r : List Value} (h1 : PySem.W.kitOne K t c = some true) : PySem.W.kitAny K t (c :: r) = some true := by
  show (match PySem.W.kitOne K t c with | some true => some true | some false => PySem.W.kitAny K t r | none => none) = _
  rw [h1]
theorem meets_more {K : PySem.W.Frag} {t : Value} {c : Value} {r : List Value} {b d : Bool} (h1 : PySem.W.exmOne K t c = some b) (h2 : PySem.W.exmAny K t r = some d) : PySem.W.exmAny K t (c :: r) = some (b || d) := by
  show (match PySem.W.exmOne K t c, PySem.W.exmAny K t r with | some b, some d => some (b || d) | _, _ => none) = _
  rw [h1, h2]
end Pf


namespace Pf
open PySem PySem.Spec PyProof.Rows L2
/-! ### a def that is called while nothing is being shown -/
structure FnOg (P : Program) (w : World) (K : PySem.W.Frag) (mg : Str → Option Value) (base : Heap) (k : Nat) (f : Addr) (fd : FuncData) (ps : List Str) (sp : Sp) : Prop where
  len : ∀ vs H Q E, sp vs H Q E → vs.length = ps.length
  run : ∀ (A : Around) (outer : List Env) (s : Shared) (H : Hp) (args : Args) (us : List Value) (vs : List V) (Q : VK) (E : XK), A.guards = some [] → Room k A → Env0 P w K mg base A outer s H → BindsTo s fd args (ps.zip us) → Vals vs us → sp vs H Q E →
    codeAny (model P w) A (.call (.ref f) args) (CR CX0 outer P w H s Q E) s
theorem FnOg.of {P : Program} {w : World} {K : PySem.W.Frag} {mg : Str → Option Value} {base : Heap} {k : Nat} {f : Addr} {fd : FuncData} {x qual : Str} {st : Stmt} {N ps : List Str} {sp : Sp} (F : Fun K x qual st f fd) (S : FnScope N ps (defScope st))
    (len : ∀ vs H Q E, sp vs H Q E → vs.length = ps.length)
    (body : ∀ (cdv : Value) (A : Around) (outer : List Env) (s : Shared) (H : Hp) (vs : List V) (Q : VK) (E : XK), Room k (A.deeper (envOfC qual (defScope st) s.heap.objs.size f cdv)) → (A.deeper (envOfC qual (defScope st) s.heap.objs.size f cdv)).guards = some [] → sp vs H Q E →
      ∃ t, PSs (cxOf CX0 P w K mg base N qual (defScope st) f cdv A outer s H E).nox (defBody st) t ∧ t { nx := fun _ H' => Q .non H', rt := Q } (start N vs) H) : FnOg P w K mg base (k + 1) f fd ps sp := by
  obtain ⟨oc, od, kV, doc, pm, an, cdv, ct, osl, rfl, lk, hcd⟩ := F.ex
  refine ⟨len, fun A outer s H args us vs Q E hG room env0 bnd rel hsp => ?_⟩
  have inS : K.In s.heap := env0.mod.kin.keeps fun b o e => (env0.bs b o e).1
  have limS : s.heap.NoLimit := env0.mod.nolimit.keeps fun b o e => (env0.bs b o e).1
  have kinds : ∀ y ∈ ps.zip us, (defScope st).names.lookup y.1 = some .local ∨ ((defScope st).names.lookup y.1 = some .cell ∧ ((cellsFrom (s.heap.objs.size + 1) (defScope st).names []).lookup y.1).isSome = true) := by
    rintro ⟨n, v⟩ hy
    cases S.par n (List.of_mem_zip hy).1 with
    | inl q => exact .inl q
    | inr q => exact .inr ⟨q, PySem.W.cellsFrom_some _ _ _ (.inl q)⟩
  refine codeAny_call_function room.depth (inS _ _ lk) rfl S.co S.gen rfl (PySem.W.codeRec_of inS hcd) (bnd _ _ _ _ ?_)
  refine wpAny_newFunctionEnv_cells S.kind kinds fun env0' he s1 inC => ?_
  subst he
  refine ⟨limS.keeps inC.toInCall.keep, codeAny_func ?_⟩
  obtain ⟨t, ht, hq⟩ := body cdv A outer s H vs Q E (room.deeper _) hG hsp
  have I0 : Inv (cxOf CX0 P w K mg base N qual (defScope st) f cdv A outer s H E) [] (start N vs) H s1 := inv_start S room.hd env0 (len _ _ _ _ hsp) rel inC
  refine wpAny_mono (ht.nox.run [] s1 (start N vs) H _ I0 hq) (fun fl s' hs => ?_) fun _ _ z => z
  cases fl with
  | ret u =>
    obtain ⟨v, σ', H', J, rv, q⟩ := hs
    exact ⟨v, H', J.os, J.bare, J.base, J.hok, rv, q⟩
  | next =>
    obtain ⟨σ', H', J, q⟩ := hs
    exact ⟨.non, H', J.os, J.bare, J.base, J.hok, rfl, q⟩
  | brk => exact False.elim (by obtain ⟨_, _, _, q⟩ := hs; exact q)
  | cont => exact False.elim (by obtain ⟨_, _, _, q⟩ := hs; exact q)
structure CaG (P : Program) (w : World) (K : PySem.W.Frag) (mg : Str → Option Value) (base : Heap) (k : Nat) (x : Str) (ps : List Str) (sp : Sp) : Prop where
  ex : ∃ f fd, FnOg P w K mg base k f fd ps sp ∧ mg x = some (.ref f) ∧ PySem.W.keepIn K (.ref f) = true ∧ Binds K fd ps []
/-- a def whose last arguments are left out -/
structure CaD (P : Program) (w : World) (K : PySem.W.Frag) (mg : Str → Option Value) (base : Heap) (k : Nat) (x : Str) (ps : List Str) (dvs : List V) (sp : Sp) : Prop where
  ex : ∃ f fd ds, FnOk P w K mg base CX0 k f fd ps sp ∧ mg x = some (.ref f) ∧ PySem.W.keepIn K (.ref f) = true ∧ Vals dvs ds ∧ Binds K fd ps ds
section
variable {X : Cx} {k : Nat} {x : Str} {ps ks : List Str} {sp : Sp} {p pos : Pos} {e : Expr} {es : List Expr} {kws : List Keyword} {t tk : TA} {gV : List V → List V → List V} {dvs : List V}
theorem run_fnG {f : Addr} {fd : FuncData} {pins : List (Addr × Obj)} {σ : L2.St} {H : Hp} {s : Shared} {Q : VK} {us : List Value} {vs : List V} (F : FnOg X.prog X.w X.K X.mg X.base k f fd ps sp) (hG : X.A.guards = some []) (hr : Room k X.A) (hb : Binds X.K fd ps [])
    (I : Inv X pins σ H s) (r : Vals vs us) (h : sp (vs ++ []) H Q E0) : wpAny (model X.prog X.w) X.A (call (.ref f) us) (EP X pins σ Q) X.xe s := by
  have r2 : Vals (vs ++ []) (us ++ []) := r.append .nil
  have hl : (us ++ []).length = ps.length := by rw [← r2.length]; exact F.len _ _ _ _ h
  refine wpAny_call (codeAny_mono (F.run X.A X.stack s H ⟨us, []⟩ (us ++ []) (vs ++ []) Q E0 hG hr I.env0 (hb s us I.kIn hl) r2 h) fun r s' hq => ?_)
  cases r with
  | error e => exact False.elim hq
  | ok fl =>
    cases fl with
    | ret u => exact I.after hq
    | next => exact False.elim hq
    | brk => exact False.elim hq
    | cont => exact False.elim hq
theorem pe_caG (c : CaG X.prog X.w X.K X.mg X.base k x ps sp) (hG : X.A.guards = some []) (hr : Room k X.A) (hg : Gl X x) (ha : PA X (e :: es) t) (hdb : (x == ("__debug__" : Str)) = false := by decide)
    (he : starEach (e :: es) X.env = (false, eval e X.env) :: starEach es X.env := by rfl) (hpl : (backTo pos (starEach es X.env)).any (·.1) = false := by rfl) :
    PE X (.Call (.Name x p) (e :: es) [] pos) (tCall sp [] E0 t) := by
  obtain ⟨f, fd, F, hm, hk, hb⟩ := c.ex
  refine ⟨fun pins s σ H Q I h => ?_⟩
  refine wpAny_Call_Name_kw (ld_glob I hg hm ?_ hdb)
  refine PySem.W.callWith_K (h₀ := X.base) I.ok.mod.kin hk (thn (ha.run pos pins s σ H _ I h) fun us s1 ⟨vs, H1, I1, r, q⟩ => ⟨I1.kIn, ?_⟩) he hpl
  exact run_fnG F hG hr hb I1 r q
theorem pe_caD (c : CaD X.prog X.w X.K X.mg X.base k x ps dvs sp) (hr : Room k X.A) (hg : Gl X x) (ha : PA X (e :: es) t) (hdb : (x == ("__debug__" : Str)) = false := by decide)
    (he : starEach (e :: es) X.env = (false, eval e X.env) :: starEach es X.env := by rfl) (hpl : (backTo pos (starEach es X.env)).any (·.1) = false := by rfl) :
    PE X (.Call (.Name x p) (e :: es) [] pos) (tCall sp dvs E0 t) := by
  obtain ⟨f, fd, ds, F, hm, hk, hv, hb⟩ := c.ex
  exact pe_call F hr hg hm hk hb hv pass0 ha hdb he hpl
end
/-- nobody calls it -/
theorem fn_false {P : Program} {w : World} {K : PySem.W.Frag} {mg : Str → Option Value} {base : Heap} {f : Addr} {fd : FuncData} {ps : List Str} : FnOk P w K mg base CX0 0 f fd ps (fun _ _ _ _ => False) :=
  ⟨fun _ _ _ _ h => h.elim, fun _ _ _ _ _ _ _ _ _ _ _ _ _ h => h.elim⟩
/-- by names alone, of a def with defaults -/
theorem kb_D {K : PySem.W.Frag} {x qual : Str} {params : Arguments} {body : List Stmt} {scope : Scope} {dvs : List V} {f : Addr} {fd : FuncData} {ps ks : List Str} (F : FunD K x qual params body scope dvs [] f fd) (js : List Nat) (hd : dvs ≠ [])
    (h : ∀ (T : Addr) (kV doc pm : Value) (an : Option Addr) (cdv ct : Value) (ws its : List Value), ws.length = ks.length → its.length = dvs.length →
      ∃ k, bindArgs (PySem.W.fnOf x qual params body scope (.ref T) kV doc pm an cdv ct) ⟨[], ks.zip ws⟩ = seqItems? (.ref T) >>= k ∧ k (some its.toArray) = pure (ps.zip (js.map fun j => ws.getD j .none))) : KBn K fd ps 0 ks (permU js) (permV js) := by
  obtain ⟨oc, od, dV, kV, doc, pm, an, cdv, ct, osl, rfl, lk, hcd, hD, hK⟩ := F.ex
  rcases hD with ⟨e, _⟩ | ⟨_, T, o, its, m, rfl, lT, oT, rT⟩
  · exact absurd e hd
  · refine ⟨fun s us ws X hu hw => ?_, fun _ r => perm_rel r js⟩
    obtain rfl := List.length_eq_zero_iff.mp hu
    obtain ⟨k, e1, e2⟩ := h T kV doc pm an cdv ct ws its hw rT.length.symm
    refine BindsTo.of_looks fun M => ?_
    rw [e1]
    exact looks_items X lT oT (.of_pure e2)
/-! ### // by a great divisor of either sign -/
def CDivNW (_ j : Int) : Prop := j ≠ 0 ∧ j.natAbs.log2 < 9000
theorem op_fdivNW {X : Cx} : OpR X (binaryOp .FloorDiv) (rI CDivNW fun i j => .int (i.fdiv j)) := opI fun i j _ _ _ _ _ hc q => floordiv_int hc.1 q (.inl (PyProof.noPylong_of_log2 hc.2))
/-! ### repr of data with great numbers -/
structure Bg (B m k : Nat) (d : PyData) : Prop where
  lay : d.canLay0 = true
  sho : d.showable = true
  ish : d.leavesShort B = true
  wt : d.weight ≤ m
  dep : d.depth ≤ k
theorem Bg.int {i : Int} {B : Nat} (hB : 1 < B) (h9 : B ≤ 1900) (h : i.natAbs < 2 ^ B) : Bg (B + 1) B 0 (.int i) := by
  have hl : i.natAbs.log2 < B := PySem.Flt.log2_lt_of (by omega) h
  have h10 : (2 : Nat) ^ B ≤ 10 ^ B := Nat.pow_le_pow_left (by decide) B
  refine ⟨by simp [PyData.canLay0], ?_, ?_, ?_, by simp [PyData.depth]⟩
  · simp only [PyData.showable]
    exact decide_eq_true (by omega)
  · simp only [PyData.leavesShort, PyData.shown]
    refine decide_eq_true ?_
    have hc : ((10 ^ B : Nat) : Int) = (10 : Int) ^ B := by simp
    have hh : (i.natAbs : Int) < (10 : Int) ^ B := by
      rw [← hc]
      exact Int.ofNat_lt.mpr (Nat.lt_of_lt_of_le h h10)
    by_cases hn : i < 0
    · rw [len_text_neg hn]
      have := toString_length_le (v := 0 - i) (k := B) (by omega) (by omega) (by omega)
      omega
    · have := toString_length_le (v := i) (k := B) (by omega) (by omega) (by omega)
      omega
  · simp only [PyData.weight]
    split <;> omega
theorem Bg.le {B m k m' k' : Nat} {d : PyData} (h : Bg B m k d) (hm : m ≤ m') (hk : k ≤ k') : Bg B m' k' d := ⟨h.lay, h.sho, h.ish, Nat.le_trans h.wt hm, Nat.le_trans h.dep hk⟩
structure BgA (B m k : Nat) (ds : List PyData) : Prop where
  lay : PyData.canLayAll0 ds = true
  sho : PyData.showableAll ds = true
  ish : PyData.leavesShortAll B ds = true
  wt : PyData.weightAll ds ≤ ds.length * (m + 1)
  dep : PyData.depthAll ds ≤ k
theorem BgA.of {B m k : Nat} : ∀ {ds : List PyData}, (∀ d ∈ ds, Bg B m k d) → BgA B m k ds
  | [], _ => ⟨by simp [PyData.canLayAll0], by simp [PyData.showableAll], by simp [PyData.leavesShortAll], by simp [PyData.weightAll], by simp [PyData.depthAll]⟩
  | d :: ds, h => by
    have h1 := h d (List.mem_cons_self ..)
    have h2 := BgA.of (ds := ds) fun x hx => h x (List.mem_cons_of_mem _ hx)
    refine ⟨by simp [PyData.canLayAll0, h1.lay, h2.lay], by simp [PyData.showableAll, h1.sho, h2.sho], by simp [PyData.leavesShortAll, h1.ish, h2.ish], ?_, ?_⟩
    · have e1 := h1.wt
      have e2 := h2.wt
      simp only [PyData.weightAll, List.length_cons, Nat.succ_mul]
      omega
    · simp only [PyData.depthAll]
      exact Nat.max_le.mpr ⟨h1.dep, h2.dep⟩
theorem Bg.lst {B n m k M : Nat} {ds : List PyData} (hn : ds.length ≤ n) (h : ∀ d ∈ ds, Bg B m k d) (hM : n * (m + 1) ≤ M) : Bg B M (k + 1) (.list ds) := by
  have a := BgA.of h
  have hw : ds.length * (m + 1) ≤ n * (m + 1) := Nat.mul_le_mul_right _ hn
  exact ⟨by simpa only [PyData.canLay0] using a.lay, by simpa only [PyData.showable] using a.sho, by simpa only [PyData.leavesShort] using a.ish, by simp only [PyData.weight]; exact Nat.le_trans a.wt (Nat.le_trans hw hM), by simp only [PyData.depth]; exact Nat.succ_le_succ a.dep⟩
theorem Bg.tup {B n m k M : Nat} {ds : List PyData} (hn : ds.length ≤ n) (h : ∀ d ∈ ds, Bg B m k d) (hM : n * (m + 1) ≤ M) : Bg B M (k + 1) (.tuple ds) := by
  have a := BgA.of h
  have hw : ds.length * (m + 1) ≤ n * (m + 1) := Nat.mul_le_mul_right _ hn
  exact ⟨by simpa only [PyData.canLay0] using a.lay, by simpa only [PyData.showable] using a.sho, by simpa only [PyData.leavesShort] using a.ish, by simp only [PyData.weight]; exact Nat.le_trans a.wt (Nat.le_trans hw hM), by simp only [PyData.depth]; exact Nat.succ_le_succ a.dep⟩
theorem Bg.short {B m k : Nat} {d : PyData} (h : Bg B m k d) (hB : 8 ≤ B) (hm : (B + 2) * m + B ≤ 15000000) : d.shown.length ≤ sizeLine := by
  have h1 := PyData.shown_le B hB d h.ish
  have h2 : (B + 2) * d.weight ≤ (B + 2) * m := Nat.mul_le_mul_left _ h.wt
  rw [sizeLine_eq]
  omega
def rShowB (K : PySem.W.Frag) : List V → Hp → VK → Prop := fun xs H Q => ∃ v d B m k, xs = [v] ∧ Dp K H v d ∧ Bg B m k d ∧ 8 ≤ B ∧ (B + 2) * m + B ≤ 15000000 ∧ k ≤ 50 ∧ Q (.str d.shown) H
theorem call_showB (K : PySem.W.Frag) {X : Cx} (hg : X.A.guards = some []) (hu : X.A.units + 64 < cLine) (hK : X.K = K := by rfl) : CallR X (.builtin "repr") (rShowB K) := by
  subst hK
  intro pins s σ H xs us Q I r h
  obtain ⟨v, d, B, m, k, rfl, hd, sh, hB, hm, hk, q⟩ := h
  have hdep := sh.dep
  have hz := sh.short hB hm
  cases hd with
  | non =>
    obtain ⟨u, rfl, rfl⟩ := vals1 r
    exact PySem.P.repr_of_none ⟨.str _, H, I.tok _, ⟨_, rfl⟩, by simpa only [PyData.shown] using q⟩
  | bl b =>
    obtain ⟨u, rfl, rfl⟩ := vals1 r
    refine PySem.P.repr_of_bool ⟨.str _, H, I.tok _, ⟨_, rfl⟩, ?_⟩
    simp only [PyData.shown] at q
    cases b <;> exact q
  | int i =>
    obtain ⟨u, rfl, t, rfl⟩ := vals1 r
    have hi : i.natAbs.log2 < 1920 := by simpa [PyData.showable] using sh.sho
    exact PySem.P.repr_of_int hi ⟨.str _, H, I.tok _, ⟨_, rfl⟩, by simpa only [PyData.shown] using q⟩
  | str x =>
    obtain ⟨u, rfl, t, rfl⟩ := vals1 r
    simp only [PyData.shown] at q hz
    exact PySem.P.repr_of_str ⟨.str _, H, I.tok _, ⟨_, rfl⟩, q⟩ hz
  | @lst a ys ds hs hds =>
    obtain ⟨u, rfl, rfl⟩ := vals1 r
    obtain ⟨as, rd⟩ := Dp.reads I _ _ _ (Dp.lst hs hds) (show RelV (.ref a) (.ref a) from rfl)
    exact PySem.repr_of_reads' rd sh.sho (PyData.noDict_hsm (PyData.hasDict_of_canLay _ sh.lay)) hg (by omega) (fun _ _ e => e) (fun h' u tk keep => ⟨.str _, H, I.kept keep, ⟨_, rfl⟩, q⟩) hz
  | @tup a ys ds hs hds =>
    obtain ⟨u, rfl, rfl⟩ := vals1 r
    obtain ⟨as, rd⟩ := Dp.reads I _ _ _ (Dp.tup hs hds) (show RelV (.ref a) (.ref a) from rfl)
    exact PySem.repr_of_reads' rd sh.sho (PyData.noDict_hsm (PyData.hasDict_of_canLay _ sh.lay)) hg (by omega) (fun _ _ e => e) (fun h' u tk keep => ⟨.str _, H, I.kept keep, ⟨_, rfl⟩, q⟩) hz
end Pf


namespace Pf
open PySem PySem.Spec PyProof.Rows L2 LamX
/-! ### try: .. except C as e: kept = e, by one class -/
def wKeep1 (K : PySem.W.Frag) (c : Value) (i : Nat) (ts : Addr → Value → Option Addr → TS) (D : Ends) : WX := fun cls d σ H => PySem.W.exmOne K cls c = some true ∧ ∀ a, H a = none → ts a cls d { nx := fun σ' H' => D.nx (σ'.set i none) (upd H' a (ExI cls d a)), rt := fun _ _ => False } (σ.set i (some (.ref a))) H
theorem ps_try_keep1 {X : Cx} {x1 n : Str} {c1 : Value} {i : Nat} {body rest : List Stmt} {st1 : Stmt} {q1 pos pos' : Pos} {tb : WX → TS} {ts : Addr → Value → Option Addr → TS}
    (hs : X.stack = X.env :: X.outer) (hf : X.env.frame = some X.env.locals) (hex : X.ex = []) (hN : X.N.Nodup) (hi : X.N[i]? = some n) (hln : X.env.kindOf n = some .local) (n1 : Names X x1 c1)
    (hb : ∀ (W : WX) (pn : List (Addr × Obj)) (xe : Value → Shared → Prop), Takes (X.tr pn xe) W →
      PassesOwn (model X.prog X.w) X.A X.env xe → PSs (X.tr pn xe) body (tb W))
    (hsu : ∀ (a : Addr) (ob : Obj) (cls : Value) (d : Option Addr) (pn : List (Addr × Obj)), Zc cls d ob →
      (∃ fl, ob.data = .fields fl) → PSs (X.suite a ((a, ob) :: pn)) (st1 :: rest) (ts a cls d)) :
    PS X (.Try body [.ExceptHandler (some (.Name x1 q1)) (some n) (st1 :: rest) pos'] [] [] pos) (fun D σ H => tb (wKeep1 X.K c1 i ts D) D σ H) := by
  refine ⟨fun pins s σ H D I h => ?_⟩
  have okX := I.ok
  have frs0 : X.A.frames = some (X.env :: X.outer) := okX.frames.trans (by rw [hs])
  have lc : Loc X.env.scope n := .inl hln
  refine wpAny_Try_except ?_
  refine wpAny_mono ((hb (wKeep1 X.K c1 i ts D) (X.pn ++ pins)
    (fun u t0 => wpAny (model X.prog X.w) X.A (noteFrame u X.env)
      (fun _ t1 => wpAny (model X.prog X.w) X.A (setFlight u none)
        (fun _ t2 => wpAny (model X.prog X.w) X.A
          (handleBy u X.env [.ExceptHandler (some (.Name x1 q1)) (some n) (st1 :: rest) pos'])
          (L2.SP X pins D) X.xe t2) X.xe t1) X.xe t0)
    (fun u t0 xx => ?_) PassesOwn.looking).run [] s σ H D (I.toTry _) h) (fun f t1 hsp => ?_) (fun e t1 he => he)
  · -- the catch
    obtain ⟨a, B, sI, pins2, σ2, H2, cls, d, rfl, J0, nb, up, sky, na, os, ag, hm, hgo⟩ := xx
    have J : Inv X pins σ2 H2 sI := J0.ofTry okX
    rw [hs] at sky
    show wpAny (model X.prog X.w) X.A (noteFrame (.ref a) X.env) _ _ _
    refine Sky.land Zc.steady frs0 hf sky fun hA flA upA => ?_
    have JA : Inv X pins σ2 H2 { t0 with heap := hA } := J.landed nb flA.1 (up.trans upA) os ag
    obtain ⟨obA, fvA, heA, hzA, hdA⟩ := flA.there
    have notF : ∀ {g : Heap} {o : Obj} {fv : Array Value}, g.FunFrames B (X.env :: X.outer) → g.get? a = some o →
        o.data = .fields fv → a ∉ frs (X.env :: X.outer) := fun ff e dd hmem => by
      obtain ⟨_, o2, e2, hnf⟩ := ff.mem hmem
      rw [e] at e2
      cases e2
      exact hnf _ dd
    have nfr := notF flA.2.2.1 heA hdA
    have nL : a ≠ X.env.locals := fun z =>
      nfr (List.mem_filterMap.mpr ⟨X.env, List.mem_cons_self, by rw [hf, z]⟩)
    have nF : a ∉ X.fs := fun hmem => by
      obtain ⟨e, he, q⟩ := List.mem_filterMap.mp hmem
      exact nfr (List.mem_filterMap.mpr ⟨e, List.mem_cons_of_mem _ he, q⟩)
    have nI : sI.heap.get? a = none := by
      cases e : sI.heap.get? a with
      | none => rfl
      | some o =>
        have z := nb a o e (by rw [hs]; exact nfr)
        rw [flA.2.1] at z
        cases z
    have n0 : X.s_0.heap.get? a = none := by
      cases e : X.s_0.heap.get? a with
      | none => rfl
      | some o =>
        obtain ⟨o2, z⟩ := J.base.there a o e (by rw [hex]; exact fun q => nomatch q)
        rw [nI] at z
        cases z
    have npin : ∀ p ∈ X.pn ++ pins, p.1 ≠ a := fun p hp z => by
      have := (J.pin p hp).1
      rw [z, nI] at this
      cases this
    have SA := JA.suite heA hdA na nL nF
    refine wpAny_handleBy_cons (codeAny_handlers_test ?_) (by intro q; cases q)
    have nameIs : ∀ {Q : Value → Shared → Prop} {E : Value → Shared → Prop}, Q c1 { t0 with heap := hA } →
        wpAny (model X.prog X.w) (X.A.mark (some (.ref a))) (eval (.Name x1 q1) X.env) Q E { t0 with heap := hA } := fun q => by
      obtain ⟨hg, hdbg, hm2 | ⟨hm2, hv, hnn⟩⟩ := n1
      · exact ld_glob (X := X.suite a ((a, obA) :: (X.pn ++ pins))) SA hg hm2 q hdbg
      · exact ld_blt (X := X.suite a ((a, obA) :: (X.pn ++ pins))) SA hg hm2 hv q hnn hdbg
    have LT : PySem.W.Looks (model X.prog X.w) hA (typeOf (.ref a)) cls := fun A Q E u k q =>
      wpAny_typeOf_ref (k _ _ heA) (by rw [hzA.1]; exact q)
    have LM := PySem.W.exm_one (M := model X.prog X.w) (JA.kIn) LT hm
    refine nameIs (LM.here ?_)
    refine codeAny_handlers_suite_as ?_
    refine HandSPX.lands_againZ flA fun hB flB upB => ?_
    have JB : Inv X pins σ2 H2 { t0 with heap := hB } := J.landed nb flB.1 ((up.trans upA).trans upB) os ag
    obtain ⟨obB, fvB, heB, hzB, hdB⟩ := flB.there
    have SB := JB.suite heB hdB na nL nF
    refine store_ok (X := X.suite a ((a, obB) :: (X.pn ++ pins))) (v := .ref a) SB hN hi lc rfl (fun t5 S5 => ?_) (.inr hln)
    refine wpAny_mono ((hsu a obB cls d (X.pn ++ pins) hzB ⟨_, hdB⟩).run [] t5 _ H2 _ S5 (hgo a na)) (fun f t6 hsp => ?_) (fun _ _ z => False.elim z)
    cases f with
    | next =>
      obtain ⟨σ6, H6, S6, q6⟩ := hsp
      have P6 : Inv X ((a, obB) :: pins) σ6 H6 t6 := (S6.unsuite okX).pins_of fun p hp => by
        rcases List.mem_cons.mp hp with e | hp
        · rw [e]
          exact S6.pin (a, obB) (List.mem_append_left _ List.mem_cons_self)
        · exact S6.pin p (List.mem_append_left _ (List.mem_cons_of_mem _ (List.mem_append_right _ hp)))
      refine gone_ok P6 hN hi hln fun t7 J7 => ?_
      have pa := J7.pin (a, obB) (List.mem_append_right _ List.mem_cons_self)
      have J8 : Inv X pins (σ6.set i none) H6 t7 := J7.pins_of fun p hp => J7.pin p (List.mem_append_right _ (List.mem_cons_of_mem _ hp))
      refine ⟨_, _, told_now (o := ExI cls d a) J8 pa.2.1 n0 nL (fun x c e z => ?_) npin (exI_ok pa.1 hzB hdB), q6⟩
      obtain ⟨v, o, ho, hcd⟩ := J8.cell x c e
      rw [z, pa.1] at ho
      cases ho
      exact pa.2.2.2.2 v hcd
    | ret u =>
      obtain ⟨v6, σ6, H6, S6, r6, q6⟩ := hsp
      exact q6.elim
    | brk =>
      obtain ⟨σ6, H6, S6, q6⟩ := hsp
      exact False.elim q6
    | cont =>
      obtain ⟨σ6, H6, S6, q6⟩ := hsp
      exact False.elim q6
  · cases f with
    | next =>
      obtain ⟨σ2, H2, J2, q⟩ := hsp
      exact wpAny_execs_nil ⟨σ2, H2, J2.ofTry okX, q⟩
    | ret u =>
      obtain ⟨v, σ2, H2, J2, r, q⟩ := hsp
      exact ⟨v, σ2, H2, J2.ofTry okX, r, q⟩
    | brk =>
      obtain ⟨σ2, H2, J2, q⟩ := hsp
      exact ⟨σ2, H2, J2.ofTry okX, q⟩
    | cont =>
      obtain ⟨σ2, H2, J2, q⟩ := hsp
      exact ⟨σ2, H2, J2.ofTry okX, q⟩
/-! ### a promise that may raise, kept where nothing is raised -/
theorem FnOk.calm {P : Program} {w : World} {K : PySem.W.Frag} {mg : Str → Option Value} {base : Heap} {k : Nat} {f : Addr} {fd : FuncData} {ps : List Str} {sp sp' : Sp} (F : FnOk P w K mg base (L2.CX P w) k f fd ps sp)
    (h : ∀ vs H Q E, sp' vs H Q E → sp vs H Q E0) : FnOk P w K mg base CX0 k f fd ps sp' where
  len := fun vs H Q E z => F.len vs H Q E0 (h vs H Q E z)
  run := fun A outer s H args us vs Q E hr e0 hb r z => by
    refine codeAny_mono (F.run A outer s H args us vs Q E0 hr e0 hb r (h _ _ _ _ z)) fun r s' hq => ?_
    cases r with
    | error e =>
      obtain ⟨_, _, _, _, _, _, _, _, _, _, _, _, z⟩ := show L2.CX P w outer H s E0 e s' from hq
      exact False.elim z
    | ok fl => cases fl <;> exact hq
end Pf


namespace Pf
open PySem PySem.Spec PyProof.Rows L2 LamX
section
variable {P : Program} {w : World} {K : PySem.W.Frag} {mg : Str → Option Value} {base : Heap}
/-! ### what behind a refusal is never reached -/
theorem pss_void {X : Cx} {l : List Stmt} : PSs X l (fun _ _ _ => False) := ⟨fun _ _ _ _ _ _ h => h.elim⟩
/-- two promises of one def: it may be asked by either -/
theorem FnOk.orX {k : Nat} {f : Addr} {fd : FuncData} {ps : List Str} {sp1 sp2 : Sp} (F : FnOk P w K mg base CX0 k f fd ps sp1) (G : FnOk P w K mg base (L2.CX P w) k f fd ps sp2) :
    FnOk P w K mg base (L2.CX P w) k f fd ps (fun vs H Q E => sp1 vs H Q L2.E0 ∨ sp2 vs H Q E) where
  len := fun vs H Q E z => z.elim (F.len vs H Q _) (G.len vs H Q _)
  run := fun A outer s H args us vs Q E hr e0 hb r z => by
    rcases z with z | z
    · refine codeAny_mono (F.run A outer s H args us vs Q L2.E0 hr e0 hb r z) fun r s' hq => ?_
      cases r with
      | error e => exact (show False from hq).elim
      | ok fl => cases fl <;> exact hq
    · exact G.run A outer s H args us vs Q E hr e0 hb r z
/-! ### defs that make lambdas: the code object that they run is known -/
theorem Fun.okC {x qual : Str} {st : Stmt} {f : Addr} {fd : FuncData} {N ps : List Str} {k : Nat} {sp : Sp} (F : Fun K x qual st f fd) (S : FnScope N ps (defScope st)) (len : ∀ vs H Q E, sp vs H Q E → vs.length = ps.length)
    (body : ∀ (cdv : Value) (A : Around) (outer : List Env) (s : Shared) (H : Hp) (vs : List V) (Q : VK) (E : XK), fd.code = cdv → Room k (A.deeper (envOfC qual (defScope st) s.heap.objs.size f cdv)) → sp vs H Q E →
      ∃ t, PSs (cxOf CX0 P w K mg base N qual (defScope st) f cdv A outer s H E).nox (defBody st) t ∧ t { nx := fun _ H' => Q .non H', rt := Q } (start N vs) H) : FnOk P w K mg base CX0 (k + 1) f fd ps sp := by
  obtain ⟨oc, od, kV, doc, pm, an, cdv, ct, osl, rfl, look, code⟩ := F.ex
  refine fn_of look code S len fun A outer s H vs Q E hr h => ?_
  obtain ⟨t, d, z⟩ := body cdv A outer s H vs Q E rfl hr h
  exact ⟨t, d.nox, z⟩
theorem FnG.ofC {k : Nat} {f : Addr} {fd : FuncData} {x qual : Str} {st : Stmt} {N ps : List Str} {sp : Sp} (F : Fun K x qual st f fd) (S : FnScope N ps (defScope st))
    (room : Room (k + 1) callerA) (len : ∀ vs H Q E, sp vs H Q E → vs.length = ps.length)
    (body : ∀ (cdv : Value) (s : Shared) (H : Hp) (vs : List V) (Q : VK) (E : XK), fd.code = cdv → Room k (callerA.deeper (envOfC qual (defScope st) s.heap.objs.size f cdv)) → (callerA.deeper (envOfC qual (defScope st) s.heap.objs.size f cdv)).guards = some [] → sp vs H Q E →
      ∃ t, PSs (cxOf CX0 P w K mg base N qual (defScope st) f cdv callerA [] s H E).nox (defBody st) t ∧ t { nx := fun _ H' => Q .non H', rt := Q } (start N vs) H) : FnG P w K mg base f fd ps sp := by
  obtain ⟨oc, od, kV, doc, pm, an, cdv, ct, osl, rfl, lk, hcd⟩ := F.ex
  refine ⟨fun s H args us vs Q E env0 bnd rel hsp => ?_⟩
  have inS : K.In s.heap := env0.mod.kin.keeps fun b o e => (env0.bs b o e).1
  have limS : s.heap.NoLimit := env0.mod.nolimit.keeps fun b o e => (env0.bs b o e).1
  have kinds : ∀ y ∈ ps.zip us, (defScope st).names.lookup y.1 = some .local ∨ ((defScope st).names.lookup y.1 = some .cell ∧ ((cellsFrom (s.heap.objs.size + 1) (defScope st).names []).lookup y.1).isSome = true) := by
    rintro ⟨n, v⟩ hy
    cases S.par n (List.of_mem_zip hy).1 with
    | inl q => exact .inl q
    | inr q => exact .inr ⟨q, PySem.W.cellsFrom_some _ _ _ (.inl q)⟩
  refine codeAny_call_function room.depth (inS _ _ lk) rfl S.co S.gen rfl (PySem.W.codeRec_of inS hcd) (bnd _ _ _ _ ?_)
  refine wpAny_newFunctionEnv_cells S.kind kinds fun env0' he s1 inC => ?_
  subst he
  refine ⟨limS.keeps inC.toInCall.keep, codeAny_func ?_⟩
  obtain ⟨t, ht, hq⟩ := body cdv s H vs Q E rfl (room.deeper _) rfl hsp
  have I0 : Inv (cxOf CX0 P w K mg base N qual (defScope st) f cdv callerA [] s H E) [] (start N vs) H s1 := inv_start S room.hd env0 (len _ _ _ _ hsp) rel inC
  refine wpAny_mono (ht.nox.run [] s1 (start N vs) H _ I0 hq) (fun fl s' hs => ?_) fun _ _ z => z
  cases fl with
  | ret u =>
    obtain ⟨v, σ', H', J, rv, q⟩ := hs
    exact ⟨v, H', J.os, J.bare, J.base, J.hok, rv, q⟩
  | next =>
    obtain ⟨σ', H', J, q⟩ := hs
    exact ⟨.non, H', J.os, J.bare, J.base, J.hok, rfl, q⟩
  | brk => exact False.elim (by obtain ⟨_, _, _, q⟩ := hs; exact q)
  | cont => exact False.elim (by obtain ⟨_, _, _, q⟩ := hs; exact q)
/-! ### a def that is handed a lambda, and calls it -/
/-- TT: what it makes of the lambda's reading -/
structure CaL (P : Program) (w : World) (K : PySem.W.Frag) (mg : Str → Option Value) (base : Heap) (x : Str) (TT : (XK → Hp → VK → Prop) → Hp → VK → Prop) : Prop where
  ex : ∃ (st : Stmt) (Ng : List Str) (a : Str) (g : Addr) (od an : Option Addr) (oc kV doc pm cdv ct : Value) (osl : Array (Option Value)),
    mg x = some (.ref g) ∧ PySem.W.keepIn K (.ref g) = true ∧ K.lookup g = some ⟨oc, od, .func (PySem.W.fnOf x x (defArgs st) (defBody st) (defScope st) .none kV doc pm an cdv ct), osl⟩ ∧ PySem.W.codeIn K cdv x = true ∧
    Binds K (PySem.W.fnOf x x (defArgs st) (defBody st) (defScope st) .none kV doc pm an cdv ct) [a] [] ∧ FnScope Ng [a] (defScope st) ∧ Ng[0]? = some a ∧ Vis (defScope st) a ∧ (a == ("__debug__" : Str)) = false ∧ (a == ("__classdict__" : Str)) = false ∧
    ∀ (X : Cx) (q : Str), GivesTo { X with prog := P, w := w, K := K, mg := mg, base := base } Ng x (defScope st) g cdv (defBody st) a q TT
theorem pe_lam {X : Cx} {T : List (Addr × Str)} {TT : (XK → Hp → VK → Prop) → Hp → VK → Prop} {x : Str} {c P : Addr} {k : Nat} {params : Arguments} {body : Expr} {scope : Scope} {t : XK → TE} {p lpos pos : Pos}
    (C : CaL X.prog X.w X.K X.mg X.base x TT) (hg : Gl X x) (TB : TabB X.base X.mg c P) (hcode : X.env.code = .ref c) (hmT : (P, X.env.qual ++ "<lambda>") ∈ T) (hu : ∀ p ∈ T, p.1 = P → p.2 = X.env.qual ++ "<lambda>")
    (hr : Room (k + 2) X.A) (L : LamS X.env.scope scope) (hdef : defaultsOf params X.env = ([], []))
    (hbind : ∀ (q : Str) (cl : List (Str × Addr)) (pm cv ctv : Value), bindArgs (PySem.W.kla_fn "<lambda>" q params body scope cl pm cv ctv) ⟨[], []⟩ = pure [])
    (hbody : ∀ (A : Around) (outer : List Env) (s : Shared) (H : Hp) (E : XK) (f c' : Addr), Room k (A.deeper (lamEnv X scope s.heap.objs.size f c')) → PE (lamCx X A outer s H E scope f c') body (t E))
    (hdb : (x == ("__debug__" : Str)) = false := by decide) : PE X (.Call (.Name x p) [.Lambda params body scope lpos] [] pos) (tLam T TT t) := by
  obtain ⟨st, Ng, a, g, od, an, oc, kV, doc, pm, cdv, ct, osl, e1, e2, e3, e4, e5, e6, e7, e8, e9, e10, e11⟩ := C.ex
  exact pe_lamcall hg e1 e2 e3 e4 e5 e6 e7 e8 (e11 X _) TB hcode hmT hu hr L hdef hbind hbody hdb e9 e10
theorem takes_len {X : Cx} {W : WX} (tk : Takes X W) : Takes X (fun c d σ H => σ.length = X.N.length → W c d σ H) := fun u s' z => by
  obtain ⟨a, B, sI, pins, σ, H, cls, d, e, I, nb, up, sky, na, os, ag, hw⟩ := z
  exact tk u s' ⟨a, B, sI, pins, σ, H, cls, d, e, I, nb, up, sky, na, os, ag, hw I.len⟩
/-- the row a() of such a def, within its try -/
def tAsk (f c' : Addr) (q : Str) (n : Nat) (tl : XK → Hp → VK → Prop) (W : WX) : TS := fun D σ H =>
  ∃ E1 : XK, (∀ cls d σ' H', σ'.length = n → E1 cls d H' → W cls d σ' H') ∧ σ[0]? = some (some (.ref f)) ∧ H c' = some (CodeO c' q) ∧ tl E1 H fun _ H' => D.nx σ H'
theorem pss_ask {X : Cx} {Ng : List Str} {x a q : Str} {sg : Scope} {g f c' : Addr} {cdg : Value} {s : Shared} {H : Hp} {tl : XK → Hp → VK → Prop} {W : WX} {pn : List (Addr × Obj)} {xe : Value → Shared → Prop} {p1 p2 p3 : Pos}
    (act : ∀ (W : WX) (pn : List (Addr × Obj)) (xe : Value → Shared → Prop) (E : XK) (p1 p2 : Pos), Takes ((cxOf C8.CX0 X.prog X.w X.K X.mg X.base Ng x sg g cdg X.A X.stack s H C8.E0).tr pn xe) W → (∀ cls d σ' H', E cls d H' → W cls d σ' H') →
      PE ((cxOf C8.CX0 X.prog X.w X.K X.mg X.base Ng x sg g cdg X.A X.stack s H C8.E0).tr pn xe) (.Call (.Name a p1) [] [] p2) (fun σZ HZ Q => σZ[0]? = some (some (.ref f)) ∧ HZ c' = some (CodeO c' q) ∧ tl E HZ Q))
    (tk : Takes ((cxOf C8.CX0 X.prog X.w X.K X.mg X.base Ng x sg g cdg X.A X.stack s H C8.E0).nox.tr pn xe) W) :
    PSs ((cxOf C8.CX0 X.prog X.w X.K X.mg X.base Ng x sg g cdg X.A X.stack s H C8.E0).nox.tr pn xe) [.Expr (.Call (.Name a p1) [] [] p2) p3] (tAsk f c' q Ng.length tl W) := by
  refine ⟨fun pins s' σ H' D I h' => ?_⟩
  obtain ⟨E1, hW, h1, h2, h3⟩ := h'
  have tk2 := takes_len tk
  have hp := act (fun c d σ H => σ.length = Ng.length → W c d σ H) pn xe E1 p1 p2 tk2 (fun cls d σ' H' hE hl => hW cls d σ' H' hl hE)
  exact (pss_one (ps_expr (pos := p3) hp)).run pins s' σ H' D I ⟨h1, h2, h3⟩
end
/-! ### what stays where tables of code objects grow -/
theorem ExtN.ext {H H' : Hp} (k : Ext H H') : ExtN H H' := fun b o e _ => k b o e
theorem ExtN.tr {H H1 H2 : Hp} (a : ExtN H H1) (b : ExtN H1 H2) : ExtN H H2 := a.trans b
theorem ExtN.tupk {H H' : Hp} (k : ExtN H H') : TupK H H' := ⟨fun b xs e => k b _ e (fun _ z => by cases z), fun b o u e => k b _ e (fun _ z => by cases z)⟩
theorem ExtN.upd {H H' : Hp} {l : Addr} {o : HO} (k : ExtN H H') (h : H l = none) : ExtN H (upd H' l o) := fun b u e n => by
  rw [upd_ne (ne_of_none e h)]
  exact k b u e n
theorem tabs_lst {T : List (Addr × Str)} {H : Hp} {l : Addr} {xs ys : List V} (t : Tabs T H) (h : H l = some (.lst xs)) : Tabs T (L2.upd H l (.lst ys)) := fun p hp => by
  obtain ⟨ps, h1, h2, h3⟩ := t p hp
  refine ⟨ps, ?_, h2, fun pos cv hc => ?_⟩
  · rw [upd_ne (fun z => by rw [z, h] at h1; cases h1)]
    exact h1
  · obtain ⟨c, e1, e2⟩ := h3 pos cv hc
    refine ⟨c, e1, ?_⟩
    rw [upd_ne (fun z => by rw [z, h] at e2; unfold CodeO at e2; cases e2)]
    exact e2
theorem Kp.tabs {T : List (Addr × Str)} {p : Addr} {H H' : Hp} {xs : List V} (k : Kp p H H') (hp : H p = Option.some (.lst xs)) (t : Tabs T H) : Tabs T H' := fun q hq => by
  obtain ⟨ps, h1, h2, h3⟩ := t q hq
  refine ⟨ps, k _ _ (fun z => ?_) h1, h2, fun pos cv hc => ?_⟩
  · rw [z, hp] at h1
    cases h1
  · obtain ⟨c, e1, e2⟩ := h3 pos cv hc
    refine ⟨c, e1, k _ _ (fun z => ?_) e2⟩
    rw [z, hp] at e2
    unfold CodeO at e2
    cases e2
/-! ### the end of a law, with tables -/
def HasTab (mg : Str → Option Value) (h : Heap) (x : Str) : Prop := ∃ (a : Addr) (o : Obj) (fd : FuncData) (c P : Addr), mg x = some (.ref a) ∧ h.get? a = some o ∧ o.data = .func fd ∧ fd.code = .ref c ∧ PySem.W.CodeHd h c P ∧ h.get? P = some { cls := .none, data := .fields #[] }
theorem hasTab_at {K : PySem.W.Frag} {h : Heap} {mg : Str → Option Value} {x : Str} {f c P : Addr} {oc e : Value} {od dd : Option Addr} {fd : FuncData} {sl sl2 : Array (Option Value)} {vs : Array Value} (T : HasTab mg h x) (X : K.In h) (hm : mg x = some (.ref f))
    (l : K.lookup f = some ⟨oc, od, .func fd, sl⟩) (hc : fd.code = .ref c) (tc : K.lookup c = some ⟨e, dd, .fields vs, sl2⟩) (h11 : vs[11]? = some (.ref P)) : PySem.W.CodeHd h c P ∧ h.get? P = some { cls := .none, data := .fields #[] } := by
  obtain ⟨a, o, fd2, c2, P2, g1, g2, g3, g4, g5, g6⟩ := T
  rw [hm] at g1
  cases g1
  rw [X _ _ l] at g2
  cases g2
  cases g3
  rw [hc] at g4
  cases g4
  have g5' := g5
  obtain ⟨o3, us, file, tf, flags, tg, inF, text, tt, k1, k2, k3, k4, _⟩ := g5'
  rw [X _ _ tc] at k1
  cases k1
  cases k3
  rw [h11] at k4
  cases k4
  exact ⟨g5, g6⟩
end Pf


namespace Pf
open PySem PySem.Spec PyProof.Rows L2 LamX
/-- the end of a law's own call, with tables of code objects: from an abstract heap that holds the script or not, and the tables -/
theorem FnG.endsT {P : Program} {w : World} {K : PySem.W.Frag} {mg mb : Str → Option Value} {fa a : Addr} {tabs : List (Addr × Addr)} {fd : FuncData} {x : Str} {sp : Sp} {s1 : Shared} {vs : List Value} {ns : List Int}
    (inK : K.In s1.heap) (gl : s1.heap.Ns mainGlobals mg) (bl : s1.heap.Ns builtinsNs mb) (bb : ∀ x : Str, x ≠ "__name__" → mb x = bootBuiltins x) (lim : s1.heap.NoLimit) (gens : s1.gens = #[])
    (tabE : ∀ p ∈ tabs, s1.heap.get? p.2 = some { cls := .none, data := .fields #[] }) (tabK : ∀ p ∈ tabs, K.lookup p.2 = none) (tabC : ∀ p ∈ tabs, PySem.W.CodeHd s1.heap p.1 p.2)
    (bmain : ∃ (bm : Addr) (ob : Obj), mg "__builtins__" = some (.ref bm) ∧ bm ≠ builtinsNs ∧ s1.heap.get? bm = some ob ∧ ob.cls = .type "module" ∧ ob.dict = some builtinsNs ∧ ob.data = .plain)
    (hscr : s1.heap.get? a = some { cls := .type "list", data := .seq vs.toArray }) (hin : IntsAre vs ns)
    (F : ∀ base : Heap, K.In base → base.Ns mainGlobals mg → (∀ p ∈ tabs, TabB base mg p.1 p.2) → FnG P w K mg base fa fd [x] sp) (bnd : ∀ (s : Shared) (u : Value), BindsTo s fd ⟨[u], []⟩ [(x, u)])
    {H : Hp} (only : ∀ b, H b = none ∨ b ∈ tabs.map (·.2) ∨ ∃ o xs, H b = some (.frz o (.lst xs))) (tabH : ∀ p ∈ tabs, H p.2 = some (.tbl #[])) (hsp : sp [.ref a] H (fun v _ => v = .bl true) fun _ _ _ => False) (hok : HOk P w H s1.heap)
    (hA : ∀ b, H b ≠ none → b = a ∨ b ∈ tabs.map (·.2)) (hK : H a ≠ none → K.lookup a = none) :
    codeAny (model P w) callerA (.call (.ref fa) ⟨[.ref a], []⟩) (fun r s' => r = .ok (.ret (.bool true)) ∧ OldK s1.heap s'.heap ∧ s'.os = s1.os ∧ AllBare s'.gens) s1 := by
  have mem_tab : ∀ {b : Addr}, b ∈ tabs.map (·.2) → ∃ p ∈ tabs, p.2 = b := fun hb => by
    obtain ⟨p, hp, e⟩ := List.mem_map.mp hb
    exact ⟨p, hp, e⟩
  have hid : ∀ {b : Addr} {o : Obj}, s1.heap.get? b = some o → H b = none → (hidT s1.heap H).get? b = some o := fun e n => hidT_get e n
  -- what is no list and no empty table is not tracked
  have loose : ∀ {b : Addr} {o : Obj}, s1.heap.get? b = some o → (∀ (us : Array Value) (n : Nat), o.data ≠ .seq us n) → (o.data ≠ .fields #[]) → H b = none := by
    intro b o e n1 n2
    cases q : H b with
    | none => rfl
    | some u =>
      rcases hA b (by rw [q]; exact Option.some_ne_none _) with z | z
      · subst z
        rw [hscr] at e
        cases e
        exact absurd rfl (n1 _ _)
      · obtain ⟨p, hp, rfl⟩ := mem_tab z
        rw [tabE p hp] at e
        cases e
        exact absurd rfl n2
  have nsH : ∀ {b : Addr} {m : Str → Option Value}, s1.heap.Ns b m → (hidT s1.heap H).Ns b m := by
    rintro b m ⟨o, es, ep, e, d, r⟩
    exact ⟨o, es, ep, hid e (loose e (fun us n z => by rw [d] at z; cases z) fun z => by rw [d] at z; cases z), d, r⟩
  have inB : K.In (hidT s1.heap H) := by
    intro b o e
    refine hid (inK b o e) ?_
    cases q : H b with
    | none => rfl
    | some u =>
      rcases hA b (by rw [q]; exact Option.some_ne_none _) with z | z
      · subst z
        rw [hK (by rw [q]; exact Option.some_ne_none _)] at e
        cases e
      · obtain ⟨p, hp, rfl⟩ := mem_tab z
        rw [tabK p hp] at e
        cases e
  have limB : (hidT s1.heap H).NoLimit := by
    obtain ⟨mc, h1, h2⟩ := lim
    exact ⟨mc, nsH h1, h2⟩
  have tabB : ∀ p ∈ tabs, TabB (hidT s1.heap H) mg p.1 p.2 := by
    intro p hp
    have eT := tabE p hp
    constructor
    · obtain ⟨o, us, file, tf, flags, tg, inF, text, tt, k1, k2, k3, k4, k5⟩ := tabC p hp
      refine ⟨o, us, file, tf, flags, tg, inF, text, tt, hid k1 (loose k1 (fun _ _ z => by rw [k3] at z; cases z) fun z => ?_), k2, k3, k4, k5⟩
      rw [k3] at z
      injection z with z
      rw [z] at k4
      cases k4
    · obtain ⟨bm, ob, b1, b2, b3, b4, b5, b6⟩ := bmain
      refine ⟨bm, ob, b1, b2, fun z => ?_, fun z => ?_, hid b3 (loose b3 (fun _ _ z => by rw [b6] at z; cases z) fun z => by rw [b6] at z; cases z), b4, b5, b6⟩
      · obtain ⟨o, es, ep, e, d, _⟩ := gl
        rw [← z, b3] at e
        cases e
        rw [d] at b6
        cases b6
      · rw [z, eT] at b3
        cases b3
        cases b6
    · intro z
      obtain ⟨o, es, ep, e, d, _⟩ := gl
      rw [z, eT] at e
      cases e
      cases d
  have env0 : Env0 P w K mg (hidT s1.heap H) callerA [] s1 H :=
    ⟨rfl, ⟨inB, nsH gl, ⟨mb, nsH bl, bb⟩, limB⟩, fun b o e => of_hidT e, Nat.le_of_eq (hidT_size _ _), trivial, fun b hb => (nomatch (show b ∈ ([] : List Addr) from hb)), hok, .of_eq gens⟩
  refine codeAny_mono ((F _ inB (nsH gl) tabB).run s1 H ⟨[.ref a], []⟩ [.ref a] [.ref a] _ _ env0 (bnd s1 (.ref a)) (.cons rfl .nil) hsp) fun r s' h => ?_
  match r, h with
  | .error _, h => exact False.elim h
  | .ok .next, h => exact False.elim h
  | .ok .brk, h => exact False.elim h
  | .ok .cont, h => exact False.elim h
  | .ok (.ret u), h =>
    obtain ⟨v, H', os, bare, un, hok', rel, q⟩ := h
    obtain rfl : v = .bl true := q
    obtain rfl : u = Value.bool true := rel
    have kept : ∀ b o, b ∉ tabs.map (·.2) → s1.heap.get? b = some o → s'.heap.get? b = some o := by
      intro b o nb e
      cases q : H b with
      | none => exact un.keep b o e q (fun z => (nomatch (show b ∈ ([] : List Addr) from z))) (by simp)
      | some u =>
        rcases only b with z | z | ⟨ob, xs, z⟩
        · rw [q] at z; cases z
        · exact absurd z nb
        · have now := (hok' b _ (un.frzs b ob _ z)).1
          have was := (hok b _ z).1
          rw [e] at was
          cases was
          exact now
    have grew : ∀ p ∈ tabs, ∃ more : Array Value, s'.heap.get? p.2 = some { cls := .none, data := .fields more } := by
      intro p hp
      obtain ⟨more, z⟩ := un.tbls p.2 #[] (tabH p hp)
      have z2 := hok' p.2 _ z
      exact ⟨_, z2⟩
    refine ⟨rfl, ⟨fun b o e => ?_, fun b o e => ?_⟩, os, bare⟩
    · by_cases hb : b ∈ tabs.map (·.2)
      · obtain ⟨p, hp, rfl⟩ := mem_tab hb
        obtain ⟨more, hm⟩ := grew p hp
        have eT := tabE p hp
        rw [eT] at e
        cases e
        refine .inr (.inl ⟨((tabC p hp).tab eT).isCodeTable, rfl, #[], more, rfl, ?_⟩)
        rw [Array.empty_append]
        exact hm
      · exact .inl (kept b o hb e)
    · by_cases hb : b ∈ tabs.map (·.2)
      · obtain ⟨p, hp, rfl⟩ := mem_tab hb
        obtain ⟨more, hm⟩ := grew p hp
        exact ⟨_, hm⟩
      · exact ⟨o, kept b o hb e⟩
theorem walk_gT {l : PySem.W.OpenLaw} {n : Nat} {q : Program} {loose : List Str} {XP : (Str → Option Value) → Heap → Prop} {YP : World → Heap → Prop} {d : DefRec} {K : Params → PySem.W.Frag} {x : Str} (ds : List Str)
    (hn : l.most = some n) (hn2 : n ≤ sizeLine) (hdf : d.params.defaults = []) (hds : (ds.all fun y => (recsOf q).any fun e => e.name == y) = true) (hY : ∀ (w : World) (h : Heap), YP w h → (K w.params).In h)
    (F : ∀ (w : World) (mg : Str → Option Value) (fa : Addr) (h : Heap), (K w.params).In h → h.Ns mainGlobals mg → mg d.name = some (.ref fa) → (∀ y ∈ ds, HasTab mg h y) →
      ∃ (fd : FuncData) (tabs : List (Addr × Addr)) (sp : Sp), (∀ p ∈ tabs, h.get? p.2 = some { cls := .none, data := .fields #[] }) ∧ (∀ p ∈ tabs, (K w.params).lookup p.2 = none) ∧ (∀ p ∈ tabs, PySem.W.CodeHd h p.1 p.2) ∧
        (∀ (s : Shared) (u : Value), BindsTo s fd ⟨[u], []⟩ [(x, u)]) ∧
        (∀ (H : Hp) (a : Addr) (ns : List Int), ns.length ≤ n → (∀ p ∈ tabs, H p.2 = some (.tbl #[])) → SqL (K w.params) H a (ns.map V.int) → sp [.ref a] H (fun v _ => v = .bl true) fun _ _ _ => False) ∧
        ∀ base : Heap, (K w.params).In base → base.Ns mainGlobals mg → (∀ p ∈ tabs, TabB base mg p.1 p.2) → FnG l.prog w (K w.params) mg base fa fd [x] sp) :
    PySem.W.WalkO q loose XP YP l.row.toRowW d [] (fun f vs => PySem.call f vs) := by
  refine Att.attach_call hn hdf fun w s0 s1 mg mb fa o pm cd doc a vs ns G Y ho hd hcd hmg hobj hints hlen hg => ?_
  have inK := hY w _ Y
  have has : ∀ y ∈ ds, HasTab mg s1.heap y := by
    intro y hy
    obtain ⟨e, he, en⟩ := List.any_eq_true.mp (List.all_eq_true.mp hds y hy)
    have en : e.name = y := beq_iff_eq.mp en
    obtain ⟨b, ob, fb, cb, pb, h1, h2, h3, h4, h5, h6⟩ := G.T.tab e he
    rw [en] at h1
    have h7 := h6.2
    exact ⟨b, ob, fb, cb, pb, h1, h2, h3, h4, PySem.W.CodeHd.of h5 h6, h7⟩
  obtain ⟨fd, tabs, sp, tabE, tabK, tabC, bnd, hsp, hF⟩ := F w mg fa _ inK G.T.g hmg has
  have szs : ns.length ≤ sizeLine := Nat.le_trans hlen hn2
  have vals := vals_ints hints
  have memT : ∀ p ∈ tabs, p.2 ∈ tabs.map (·.2) := fun p hp => List.mem_map.mpr ⟨p, hp, rfl⟩
  have isT : ∀ b, b ∈ tabs.map (·.2) → s1.heap.get? b = some { cls := .none, data := .fields #[] } := fun b hb => by
    obtain ⟨p, hp, e⟩ := List.mem_map.mp hb
    rw [← e]
    exact tabE p hp
  have aT : a ∉ tabs.map (·.2) := fun z => by
    have e := isT a z
    rw [hobj] at e
    cases e
  cases hk : (K w.params).lookup a with
  | some ob =>
    have e := inK a ob hk
    rw [hobj] at e
    cases e
    refine FnG.endsT inK G.T.g G.T.b G.T.builtins G.T.nolimit hg tabE tabK tabC G.T.bmain hobj hints hF bnd (H := fun b => if b ∈ tabs.map (·.2) then some (.tbl #[]) else none) (fun b => ?_) (fun p hp => if_pos (memT p hp))
      (hsp _ a ns hlen (fun p hp => if_pos (memT p hp)) (.inr ⟨_, vs.toArray, _, hk, rfl, rfl, rfl, by rw [List.size_toArray, hints.length]; exact szs, by simpa using vals⟩)) (fun b u z => ?_) (fun b z => ?_) fun z => absurd (if_neg aT) z
    · by_cases hb : b ∈ tabs.map (·.2)
      · exact .inr (.inl hb)
      · exact .inl (if_neg hb)
    · by_cases hb : b ∈ tabs.map (·.2)
      · have y := (if_pos hb).symm.trans z
        cases y
        exact isT b hb
      · have y := (if_neg hb).symm.trans z
        cases y
    · by_cases hb : b ∈ tabs.map (·.2)
      · exact .inr hb
      · exact absurd (if_neg hb) z
  | none =>
    have nA : ∀ p ∈ tabs, ¬ p.2 = a := fun p hp z => aT (by rw [← z]; exact memT p hp)
    refine FnG.endsT inK G.T.g G.T.b G.T.builtins G.T.nolimit hg tabE tabK tabC G.T.bmain hobj hints hF bnd (H := fun b => if b = a then some (.frz { cls := .type "list", data := .seq vs.toArray } (.lst (ns.map V.int))) else if b ∈ tabs.map (·.2) then some (.tbl #[]) else none) (fun b => ?_)
      (fun p hp => (if_neg (nA p hp)).trans (if_pos (memT p hp))) (hsp _ a ns hlen (fun p hp => (if_neg (nA p hp)).trans (if_pos (memT p hp))) (.inl (.inr ⟨_, if_pos rfl⟩))) (fun b u z => ?_) (fun b z => ?_) fun _ => hk
    · by_cases h : b = a
      · exact .inr (.inr ⟨_, _, if_pos h⟩)
      · by_cases hb : b ∈ tabs.map (·.2)
        · exact .inr (.inl hb)
        · exact .inl ((if_neg h).trans (if_neg hb))
    · by_cases h : b = a
      · have y := (if_pos h).symm.trans z
        cases y
        subst h
        exact ⟨hobj, by rw [List.length_map]; exact szs, vs, _, vals, hobj⟩
      · have y := (if_neg h).symm.trans z
        by_cases hb : b ∈ tabs.map (·.2)
        · have y2 := (if_pos hb).symm.trans y
          cases y2
          exact isT b hb
        · have y2 := (if_neg hb).symm.trans y
          cases y2
    · by_cases h : b = a
      · exact .inl h
      · by_cases hb : b ∈ tabs.map (·.2)
        · exact .inr hb
        · exact absurd ((if_neg h).trans (if_neg hb)) z
end Pf


namespace Pf
open PySem PySem.Spec PyProof.Rows L2
/-! ### a tuple's items, gathered -/
section
variable {prog : Program} {w : World} {A : Around} {E : Value → Shared → Prop} {s : Shared}
theorem gather_tup {a : Addr} {us : List Value} {Q : List Value → Shared → Prop} (ht : s.heap.IsTuple a us.toArray) (hz : us.length ≤ sizeLine)
    (q : Q us { s with heap := (s.heap.push (seqObj "list" #[] 0)).update s.heap.objs.size (Obj.mapSeq (· ++ us.toArray)) }) : wpAny (model prog w) A (collect (.ref a)) Q E s := by
  obtain ⟨ob, hob, hcl, n, hda⟩ := id ht
  have hob1 : (s.heap.push (seqObj "list" #[] 0)).get? a = some ob := Heap.get?_push_of_some _ hob
  have hnew : (s.heap.push (seqObj "list" #[] 0)).get? s.heap.objs.size = some (seqObj "list" #[] 0) := Heap.get?_push_size _ rfl
  unfold collect
  refine wpAny_bind (wpAny_runValue ?_)
  refine codeAny_builtin entry_proto_collect' ?_
  show wpAny _ _ (do again (.builtin "list.__iadd__" ⟨[← newList [], .ref a], []⟩)) _ _ s
  refine wpAny_bind (wpAny_newList (wpAny_pure ⟨Code.quiet_builtin _ (by decide +kernel), ?_⟩))
  refine codeAny_builtin entry_list_iadd' ?_
  show wpAny _ _ (Builtin.List.listExtendWith (.ref s.heap.objs.size) (.ref a) _) _ _ { s with heap := s.heap.push (seqObj "list" #[] 0) }
  unfold Builtin.List.listExtendWith
  refine wpAny_bind (wpAny_typeOf (T := "tuple") ⟨ob, hob1, hcl⟩ ?_)
  rw [if_pos (by rw [show (Value.type "tuple" == Value.type "tuple") = true from rfl, Bool.or_true])]
  refine wpAny_bind (listItems_at hob1 hda ?_)
  refine wpAny_bind (listItems_at (xs := #[]) (n := 0) hnew rfl ?_)
  rw [if_neg (by simp)]
  have hsz : ((#[] : Array Value) ++ us.toArray).size ≤ sizeLine + 1 := by
    rw [Array.size_append, List.size_toArray]
    show 0 + us.length ≤ _
    omega
  refine wpAny_bind (listUpdate_at (xs := #[]) (n := 0) hnew rfl ?_ (Nat.zero_le _) hsz)
  refine wpAny_pure ?_
  refine wpAny_bind (wpAny_load (get?_update_seq hnew _) ?_)
  have e : ((#[] : Array Value) ++ us.toArray).toList = us := by simp
  show wpAny _ _ (pure ((#[] : Array Value) ++ us.toArray).toList) Q E _
  rw [e]
  exact wpAny_pure q
theorem sorted_tup {β : Type} {R : Value → β → Prop} {enc : β → PyData} {a : Addr} {us : List Value} {bs : List β} {Q : Value → Shared → Prop} (ht : s.heap.IsTuple a us.toArray) (e : PySem.W.EachIs R us bs) (er : PySem.W.EachIs (fun v b => ∃ as, Reads s.heap v (enc b) as) us bs) (al : PySem.W.AllAlike (bs.map enc)) (so : PySem.W.Sortable (bs.map enc))
    (hz : bs.length ≤ sizeLine) (hu : ∀ b, b ∈ bs → A.units + 2 + (enc b).depth < cLine) (q : ∀ out, out.length = bs.length → PySem.W.EachIs R out (bs.mergeSort (PySem.W.dataLe false enc)) → Q (.ref (s.heap.objs.size + 1)) { s with heap := sortedAll s.heap us out.toArray }) :
    wpAny (model prog w) A (call (.builtin "sorted") [.ref a]) Q E s := by
  have hul : us.length ≤ sizeLine := by
    rw [e.length]
    exact hz
  refine Calls.call_function_entry kind_sorted plain_sorted
    entry_sorted (args_sorted1 _) ?_
  unfold Builtin.«sorted»
  refine wpAny_bind (m := checkCount "sorted" 1 1 _) (wpAny_pure ?_)
  refine wpAny_bind (gather_tup ht hul ?_)
  refine wpAny_bind (wpAny_newList ?_ hul)
  have hsz : ((s.heap.push (seqObj "list" #[] 0)).update s.heap.objs.size (Obj.mapSeq (· ++ us.toArray))).objs.size = s.heap.objs.size + 1 := by
    rw [Heap.size_update, size_push']
  have er2 : PySem.W.EachIs (fun v b => ∃ as, Reads (PySem.W.copyHeap s.heap us) v (enc b) as ∧ s.heap.objs.size + 1 ∉ as) us bs := er.mono fun v b ⟨as, r⟩ => by
    refine ⟨as, PyProof.Rows.Reads.keeps (fun _ _ h => PySem.W.copyHeap_old h) r, fun hm => ?_⟩
    obtain ⟨o, ho⟩ := PyProof.On.reads_mem_get r _ hm
    exact absurd (Nat.lt_of_succ_lt (Heap.lt_size ho)) (Nat.lt_irrefl _)
  show wpAny _ _ _ _ _ { s with heap := PySem.W.copyHeap s.heap us }
  rw [hsz]
  refine wpAny_bind (wpAny_holding (PySem.W.list_sort_data (s := { s with heap := PySem.W.copyHeap s.heap us }) (PySem.W.copyHeap_at s.heap us) e er2 al so hz (fun b hb => ?_) fun out h1 h2 => ?_))
  · have := hu b hb
    have e1 : A.in1.units = A.units + 1 := rfl
    rw [e1]
    exact this
  · exact wpAny_pure ⟨_, rfl, q out h1 h2⟩
end
def rSortTD (K : PySem.W.Frag) : List V → Hp → VK → Prop := fun vs H Q => ∃ (β : Type) (v : β → V) (d : β → PyData) (a : Addr) (bs : List β), vs = [.ref a] ∧ SqT K H a (bs.map v) ∧ (∀ b ∈ bs, Dp K H (v b) (d b) ∧ (d b).depth ≤ 50) ∧
  PySem.W.AllAlike (bs.map d) ∧ PySem.W.Sortable (bs.map d) ∧ ∀ p, H p = none → Q (.ref p) (upd H p (.lst ((bs.mergeSort (PySem.W.dataLe false d)).map v)))
/-- sorted(xs), xs a tuple of data -/
theorem cr_sortTD (K : PySem.W.Frag) {X : Cx} (hu : X.A.units + 64 < cLine) (hK : X.K = K := by rfl) : CallR X (.builtin "sorted") (rSortTD K) := by
  subst hK
  intro pins s σ H vs us Q I r h
  obtain ⟨β, v, d, a, bs, rfl, hs, hd, al, so, q⟩ := h
  obtain ⟨u, rfl, rfl⟩ := vals1 r
  obtain ⟨its, rv, ht, hz⟩ := I.tuple hs
  rw [List.length_map] at hz
  refine sorted_tup (enc := d) (R := fun (u : Value) (b : β) => RelV (v b) u) (show s.heap.IsTuple a its.toArray from ht) (each_vals rv) (each_reads I rv fun b hb => (hd b hb).1) al so hz (fun b hb => by have := (hd b hb).2; omega) fun out hlen he => ?_
  obtain ⟨ep, he'⟩ := PyProof.Rows.sortedAll_at s.heap its out.toArray
  have hlen2 : ((bs.mergeSort (PySem.W.dataLe false d)).map v).length ≤ sizeLine := by
    rw [List.length_map, List.length_mergeSort]
    exact hz
  exact ⟨.ref _, upd H (s.heap.objs.size + 1) (.lst ((bs.mergeSort (PySem.W.dataLe false d)).map v)), I.laid (t' := s.toks) (fun _ _ => PyProof.Rows.sortedAll_old) (Nat.le_succ _) ⟨hlen2, out, ep, vals_each he, by simpa using he'⟩, rfl, q _ (I.hok.fresh (Nat.le_succ _))⟩
def rSortLT (K : PySem.W.Frag) : List V → Hp → VK → Prop := fun vs H Q => rSortD K vs H Q ∨ rSortTD K vs H Q
/-- sorted(xs), xs a list or a tuple of data -/
theorem cr_sortLT (K : PySem.W.Frag) {X : Cx} (hu : X.A.units + 64 < cLine) (hK : X.K = K := by rfl) : CallR X (.builtin "sorted") (rSortLT K) := fun pins s σ H vs us Q I r h => h.elim (cr_sortD K hu hK pins s σ H vs us Q I r) (cr_sortTD K hu hK pins s σ H vs us Q I r)
/-! ### going through a list or a tuple -/
def iSeq (K : PySem.W.Frag) (tl : TE) : TI := fun σ H R => tl σ H fun x H1 => ∃ a, x = .ref a ∧ (((∃ xs, SqL K H1 a xs) ∧ R (Itl K a) H1) ∨ ((∃ xs, SqT K H1 a xs) ∧ R (Itt K a) H1))
theorem pi_seq {X : Cx} {tg l : Expr} {tl : TE} (K : PySem.W.Frag) (hl : PE X l tl) (hK : X.K = K := by rfl) : PI X tg l (iSeq K tl) := by
  subst hK
  refine ⟨fun pins s σ H R I h => ?_⟩
  have h1 := hl.run pins s σ H _ I h
  refine thn h1 fun v s1 ⟨x, H1, I1, r1, q1⟩ => ?_
  obtain ⟨a, rfl, ⟨hq, q⟩ | ⟨hq, q⟩⟩ := q1
  · obtain ⟨xs, hq⟩ := hq
    cases r1
    obtain ⟨its, rv, hp, hz⟩ := I1.list hq
    refine wpAny_pyIter_list hp.isList ?_
    have kk := I1.kept (h' := s1.heap.push { cls := .type "list_iterator", data := .fields #[.ref a, .int 0 0] }) (t' := s1.toks) fun b o e => Heap.get?_push_of_some _ e
    exact ⟨s1.heap.objs.size, [s1.heap.objs.size], _, _, H1, rfl, kk, turn_list a _, ⟨_, Heap.get?_push_size _ rfl, rfl, rfl⟩, fun b hb => by
      rw [show b = s1.heap.objs.size by simpa using hb]
      exact I1.fpOk (Nat.le_refl s1.heap.objs.size) (I1.hok.fresh (Nat.le_refl _)), q⟩
  · obtain ⟨xs, hq⟩ := hq
    cases r1
    obtain ⟨its, rv, hp, hz⟩ := I1.tuple hq
    refine wpAny_pyIter_tuple (show s1.heap.IsTuple a its.toArray from hp) ?_
    exact ⟨s1.heap.objs.size, [s1.heap.objs.size], _, _, H1, rfl, I1.kept (t' := s1.toks) (fun b o e => Heap.get?_push_of_some _ e), turn_tuple a _, ⟨_, Heap.get?_push_size _ rfl, rfl, rfl⟩, fun b hb => by
      rw [show b = s1.heap.objs.size by simpa using hb]
      exact I1.fpOk (Nat.le_refl s1.heap.objs.size) (I1.hok.fresh (Nat.le_refl _)), q⟩
/-- a list (true) or a tuple -/
def bo (b : Bool) (us : List V) : HO := match b with
  | true => .lst us
  | false => .tup us
def Sq2 (K : PySem.W.Frag) (H : Hp) (a : Addr) (xs : List V) (b : Bool) : Prop := match b with
  | true => SqL K H a xs
  | false => SqT K H a xs
theorem Sq2.of {K : PySem.W.Frag} {H : Hp} {a : Addr} {xs : List V} {b : Bool} (h : H a = some (bo b xs)) : Sq2 K H a xs b := by
  cases b with
  | true => exact SqL.of h
  | false => exact SqT.of h
theorem for_seq {K : PySem.W.Frag} {a : Addr} {xs : List V} {b : Bool} {g : TG} {tb : TS} {D : Ends} {σ : L2.St} {H : Hp} (e : Sq2 K H a xs b) (Pv : Nat → L2.St → Hp → Prop) (h0 : Pv 0 σ H) (hl : ∀ i σ H, i ≤ xs.length → Pv i σ H → Sq2 K H a xs b)
    (hs : ∀ i x σ H, xs[i]? = some x → Pv i σ H → g x σ H fun σ2 H2 => tb { D with nx := Pv (i + 1), ct := Pv (i + 1), bk := D.nx } σ2 H2) (hd : ∀ σ H, Pv xs.length σ H → D.nx σ H) :
    ((∃ xs, SqL K H a xs) ∧ ∃ W : Nat → Nat → L2.St → Hp → Prop, (∃ m, W 0 m σ H) ∧ ∀ i m σ H, W i m σ H →
      ((Itl K a).stop i H ∧ D.nx σ H) ∨ ((Itl K a).go i H ∧ ∃ N : L2.St → Hp → Prop, (∀ σ' H', N σ' H' → ∃ m', m' < m ∧ W (i + 1) m' σ' H') ∧ ∀ x H', (Itl K a).yld i H x H' → g x σ H' fun σ2 H2 => tb { D with nx := N, ct := N, bk := D.nx } σ2 H2)) ∨
    ((∃ xs, SqT K H a xs) ∧ ∃ W : Nat → Nat → L2.St → Hp → Prop, (∃ m, W 0 m σ H) ∧ ∀ i m σ H, W i m σ H →
      ((Itt K a).stop i H ∧ D.nx σ H) ∨ ((Itt K a).go i H ∧ ∃ N : L2.St → Hp → Prop, (∀ σ' H', N σ' H' → ∃ m', m' < m ∧ W (i + 1) m' σ' H') ∧ ∀ x H', (Itt K a).yld i H x H' → g x σ H' fun σ2 H2 => tb { D with nx := N, ct := N, bk := D.nx } σ2 H2)) := by
  cases b with
  | true => exact .inl ⟨⟨xs, e⟩, for_list Pv h0 hl hs hd⟩
  | false => exact .inr ⟨⟨xs, e⟩, for_tup Pv h0 hl hs hd⟩
theorem sort_lt {K : PySem.W.Frag} {β : Type} {v : β → V} {d : β → PyData} {a : Addr} {bs : List β} {b : Bool} {H : Hp} {Q : VK} (h : Sq2 K H a (bs.map v) b) (hd : ∀ y ∈ bs, Dp K H (v y) (d y) ∧ (d y).depth ≤ 50) (al : PySem.W.AllAlike (bs.map d)) (so : PySem.W.Sortable (bs.map d)) (q : ∀ p, H p = none → Q (.ref p) (upd H p (.lst ((bs.mergeSort (PySem.W.dataLe false d)).map v)))) : rSortLT K [.ref a] H Q := by
  cases b with
  | true => exact .inl ⟨β, v, d, a, bs, rfl, h, hd, al, so, q⟩
  | false => exact .inr ⟨β, v, d, a, bs, rfl, h, hd, al, so, q⟩
/-! ### set(xs), xs a tuple of tuples of ints -/
section
variable {P : Program} {w : World} {A : Around} {E : Value → Shared → Prop} {s : Shared}
abbrev newS (w : World) : Obj := { cls := .type "set", dict := none, data := .set #[] 0 (.fresh 0 0 (!w.params.followText "set-order")) }
theorem set_of_tup {a : Addr} {items : Array Value} (ks : List (Addr × List Int)) {Q : Value → Shared → Prop} (hh : A.handled = none) (ht : s.heap.IsTuple a items) (hit : items.toList = ks.map fun p => Value.ref p.1)
    (hk : ∀ p ∈ ks, IsT P w s.heap p.2 p.1) (hfew : ks.length < 64) (hu : A.units + 3 < cLine)
    (q : ∀ (h' : Heap) (tk : Nat) L es ep t, SetTR P w h' s.heap.objs.size L es ep t → Got ks ks.length L → (∀ b o, s.heap.get? b = some o → h'.get? b = some o) → Q (.ref s.heap.objs.size) { s with heap := h', toks := tk }) :
    wpAny (model P w) A (call (.type "set") [.ref a]) Q E s := by
  have hsz : items.size = ks.length := by
    have z := congrArg List.length hit
    rwa [Array.length_toList, List.length_map] at z
  obtain ⟨c, tl, hmro⟩ := F.called_set.mro
  have hmade := F.called_set.made
  have hsub := F.called_set.sub
  have h1 := F.called_set.notType
  have h2 := F.called_set.canCreate
  have hct := F.typeCall_set_1 (.ref a)
  refine wpAny_call (codeAny_of_tree ?_)
  show wpAny _ _ (callAny (.type "set") _) _ _ _
  refine wpAny_pure ⟨Code.quiet_builtin _ (by decide +kernel), ?_⟩
  refine codeAny_builtin F.entry_type_call ?_
  rw [Around.under_plain (weight_type_call_type "set" [.ref a] []) rfl]
  repeat (any_goals (first
    | assumption
    | wp_step))
  refine codeAny_mono (code_set_led1 (.ref a) (E := E) (Q₁ := fun obj s₁ => obj = .ref s.heap.objs.size ∧ s₁ = { s with heap := s.heap.push (newS w) }) ⟨rfl, rfl⟩) fun r s₁ hr => ?_
  cases r with
  | error e => exact hr
  | ok fl =>
    cases fl with
    | ret obj =>
      obtain ⟨rfl, rfl⟩ := hr
      have hS : (s.heap.push (newS w)).get? s.heap.objs.size = some (newS w) := Heap.get?_push_size _ rfl
      have hT : Shared.TypeIs { s with heap := s.heap.push (newS w) } (.ref s.heap.objs.size) "set" := ⟨_, hS, rfl⟩
      have hli := F.called_set.init.lookup
      have hbi := F.called_set.init.bind (.ref s.heap.objs.size)
      repeat (any_goals (first
        | assumption
        | wp_step))
      refine codeAny_mono (codeAny_call_builtin (R := wants (fun r s₂ => r = .none ∧ ∃ h' tk L es ep t, s₂ = { s with heap := h', toks := tk } ∧ SetTR P w h' s.heap.objs.size L es ep t ∧ Got ks ks.length L ∧ (∀ b o, s.heap.get? b = some o → h'.get? b = some o)) E)
        F.called_set.init.plain F.entry_set_init (check_set_init_1 hT ?_)) fun r₂ s₂ hr₂ => ?_
      · have ht1 : (s.heap.push (newS w)).IsTuple a items := ht.push _
        obtain ⟨ob, hob, hcl, nl, hda⟩ := id ht1
        obtain ⟨ocls, odict, odata, oslots⟩ := ob
        simp only at hcl hda
        subst hcl; subst hda
        have hsls := PySem.F.sub_tuple_set
        have hslf := PySem.F.sub_tuple_frozenset
        have hne : (Value.type "tuple" == Value.type "dict") = false := by decide
        unfold Builtin.«set.__init__» noKeywords Builtin.Frozenset.updateFrom
        generalize hPI : pyIter = PI
        wp_walk
        subst hPI
        refine wpAny_pyIter_tuple ht1 ?_
        refine wpAny_bind (wpAny_runValue ?_)
        obtain ⟨ob0, hob0, _⟩ := ht
        have hlt : a < s.heap.objs.size := Heap.lt_size hob0
        have hin : A.in1.in1.in1.handled = none := by simp [hh]
        have hz1 : (s.heap.push (newS w)).objs.size = s.heap.objs.size + 1 := Heap.size_push ..
        have hneI : a ≠ (s.heap.push (newS w)).objs.size := by
          rw [hz1]
          exact Nat.ne_of_lt (Nat.lt_succ_of_lt hlt)
        have hSf : s.heap.objs.size ∉ [(s.heap.push (newS w)).objs.size, a] := fun hm => by
          rw [hz1] at hm
          rcases List.mem_cons.mp hm with e | hm
          · exact absurd e (Nat.ne_of_lt (Nat.lt_succ_self _))
          · exact absurd (List.mem_singleton.mp hm) (Nat.ne_of_gt hlt)
        have hval : ∀ (i : Nat) (v : Value), items[i]? = some v → ∃ p, ks[i]? = some p ∧ v = .ref p.1 := fun i v hv => by
          rw [← Array.getElem?_toList, hit, List.getElem?_map] at hv
          obtain ⟨p, hp, e⟩ := Option.map_eq_some_iff.mp hv
          exact ⟨p, hp, e.symm⟩
        have gone : ∀ b, s.heap.objs.size ≤ b → s.heap.get? b = none := fun b hb => by
          cases z : s.heap.get? b with
          | none => rfl
          | some o => exact absurd (Nat.lt_of_lt_of_le (Heap.lt_size z) hb) (Nat.lt_irrefl _)
        have hgone : ∀ b ∈ [(s.heap.push (newS w)).objs.size], s.heap.get? b = none := fun b hb => gone b (by
          rw [List.mem_singleton.mp hb, hz1]
          exact Nat.le_succ _)
        refine set_update_tups ((Walks.tuple hin _ a hneI items).toS) s.heap.objs.size hSf ks hsz hfew hval s.heap hk (gone _ (Nat.le_refl _)) hgone hu (items.size - 0) 0 _ (by omega) (Nat.zero_le _)
          ⟨⟨_, Heap.get?_push_size _ rfl, rfl, rfl⟩, ht1.push _⟩ (fun b o e => Heap.get?_push_of_some _ (Heap.get?_push_of_some _ e)) ⟨[], #[], 0, _, setTR_fresh (Heap.get?_push_of_some _ hS), Got.zero ks⟩ fun s' L es ep t hm hS' g' hkp => ?_
        obtain ⟨h', g2, d', tk', os'⟩ := s'
        have eg : g2 = s.gens := hm.gens
        have ed : d' = s.drawn := hm.drawn
        have eo : os' = s.os := hm.os
        subst eg ed eo
        rw [hsz] at g'
        show wpAny _ _ _ _ _ _
        refine wpAny_pure ?_
        show wpAny _ _ (ret Value.none) _ _ _
        exact wpAny_pure ⟨rfl, h', tk', L, es, ep, t, rfl, hS', g', hkp⟩
      · cases r₂ with
        | error e => exact hr₂
        | ok fl₂ =>
          cases fl₂ with
          | ret r =>
            obtain ⟨rfl, h', tk, L, es, ep, t, rfl, hS', g', hk'⟩ := hr₂
            repeat (any_goals (first
              | assumption
              | wp_step))
            exact q _ _ _ _ _ _ hS' g' hk'
          | _ => exact hr₂.elim
    | _ => exact hr.elim
end
def rSetT (K : PySem.W.Frag) (P : Program) (w : World) : List V → Hp → VK → Prop := fun xs H Q => ∃ (l : Addr) (ks : List (Addr × List Int)), xs = [V.ref l] ∧ SqT K H l (ks.map fun p => V.ref p.1) ∧ (∀ p ∈ ks, SqT K H p.1 (p.2.map V.int)) ∧ ks.length < 64 ∧
  ∀ a L, H a = none → (∀ p ∈ L, p ∈ ks) → (∀ p ∈ ks, p.2 ∈ L.map (·.2)) → Q (.ref a) (upd H a (SetTO P w a L))
/-- set(xs), xs a tuple of fewer than 64 tuples of ints -/
theorem cr_setT {X : Cx} (hc : X.calm = true) (hu : X.A.units + 64 < cLine) : CallR X (.type "set") (rSetT X.K X.prog X.w) := by
  intro pins s σ H xs us Q I r h
  obtain ⟨l, ks, rfl, hl, hk, hf, q⟩ := h
  rw [Vals.ref1 r]
  obtain ⟨its, rv, ht, hz⟩ := I.tuple hl
  refine set_of_tup (P := X.prog) (w := X.w) ks (I.ok.hd hc) (show s.heap.IsTuple l its.toArray from ht) (by simpa using refs_of_vals rv) (fun p hp => I.isT (hk p hp)) hf (by omega) fun h' tk L es ep t R g k => ?_
  have hn : H s.heap.objs.size = none := I.hok.fresh (Nat.le_refl _)
  exact ⟨.ref s.heap.objs.size, upd H s.heap.objs.size (SetTO X.prog X.w s.heap.objs.size L), I.laid (t' := tk) k (Nat.le_refl _) (setTO_new R.t0), rfl, q _ L hn (fun p hp => List.mem_of_mem_take (g.sub p hp)) fun p hp => g.all p (by rw [List.take_length]; exact hp)⟩
theorem setT {X : Cx} {P : Program} {w : World} (K : PySem.W.Frag) (hc : X.calm = true) (hu : X.A.units + 64 < cLine) (h1 : X.K = K := by rfl) (h2 : X.prog = P := by rfl) (h3 : X.w = w := by rfl) : CallR X (.type "set") (rSetT K P w) := by
  subst h1 h2 h3
  exact cr_setT hc hu
theorem sortedT {X : Cx} {P : Program} {w : World} (K : PySem.W.Frag) (hc : X.calm = true) (h1 : X.K = K := by rfl) (h2 : X.prog = P := by rfl) (h3 : X.w = w := by rfl) : CallR X (.builtin "sorted") (rSortedT K P w) := by
  subst h1 h2 h3
  exact cr_sortedT hc
end Pf


namespace Pf
open PySem PySem.Spec PyProof.Rows L2
/-! ### things of any kind -/
inductive Dq (K : PySem.W.Frag) (H : Hp) : V → PyData → Prop
  | dp {v : V} {d : PyData} : Dp K H v d → Dq K H v d
  | emp {a : Addr} : H a = some (.dK []) → Dq K H (.ref a) (.dict [])
def tyD : PyData → String
  | .none => "NoneType"
  | .bool _ => "bool"
  | .int _ => "int"
  | .str _ => "str"
  | .list _ => "list"
  | .tuple _ => "tuple"
  | .dict _ => "dict"
theorem sqT_ty {K : PySem.W.Frag} {H : Hp} {a : Addr} {xs : List V} (h : SqT K H a xs) : TyX K H (.ref a) (.type "tuple") := by
  rcases h with (h | ⟨o, h⟩) | ⟨o, _, _, h, c, _⟩
  · exact .base (.tup h)
  · exact .fTuple h
  · exact .kTuple h c
theorem sqL_ty {K : PySem.W.Frag} {H : Hp} {a : Addr} {xs : List V} (h : SqL K H a xs) : TyX K H (.ref a) (.type "list") := by
  rcases h with (h | ⟨o, h⟩) | ⟨o, _, _, h, c, _⟩
  · exact .base (.lst h)
  · exact .base (.frz h)
  · exact .kList h c
theorem Dq.ty {K : PySem.W.Frag} {H : Hp} {v : V} {d : PyData} (h : Dq K H v d) : TyX K H v (.type (tyD d)) := by
  cases h with
  | emp h => exact .base (.dK h)
  | dp h =>
    cases h with
    | non => exact .base .non
    | bl b => exact .base (.bl b)
    | int i => exact .base (.int i)
    | str x => exact .base (.str x)
    | lst h _ => exact sqL_ty h
    | tup h _ => exact sqT_ty h
def isTup : PyData → Bool
  | .tuple _ => true
  | _ => false
def isIntB : PyData → Bool
  | .int _ => true
  | .bool _ => true
  | _ => false
def isBl : PyData → Bool
  | .bool _ => true
  | _ => false
def isLst : PyData → Bool
  | .list _ => true
  | _ => false
def isStr : PyData → Bool
  | .str _ => true
  | _ => false
theorem kit_tup {K : PySem.W.Frag} (d : PyData) : PySem.W.kitOne K (.type (tyD d)) (.type "tuple") = some (isTup d) := by
  cases d <;> (simp only [tyD, isTup]; exact kit_ty (by decide +kernel))
theorem kit_lst {K : PySem.W.Frag} (d : PyData) : PySem.W.kitOne K (.type (tyD d)) (.type "list") = some (isLst d) := by
  cases d <;> (simp only [tyD, isLst]; exact kit_ty (by decide +kernel))
theorem kit_int {K : PySem.W.Frag} (d : PyData) : PySem.W.kitOne K (.type (tyD d)) (.type "int") = some (isIntB d) := by
  cases d <;> (simp only [tyD, isIntB]; exact kit_ty (by decide +kernel))
theorem kit_bool {K : PySem.W.Frag} (d : PyData) : PySem.W.kitOne K (.type (tyD d)) (.type "bool") = some (isBl d) := by
  cases d <;> (simp only [tyD, isBl]; exact kit_ty (by decide +kernel))
theorem kit_str {K : PySem.W.Frag} (d : PyData) : PySem.W.kitOne K (.type (tyD d)) (.type "str") = some (isStr d) := by
  cases d <;> (simp only [tyD, isStr]; exact kit_ty (by decide +kernel))
theorem dpAll_len {K : PySem.W.Frag} {H : Hp} : ∀ {vs : List V} {ds : List PyData}, DpAll K H vs ds → vs.length = ds.length
  | _, _, .nil => rfl
  | _, _, .cons _ t => by rw [List.length_cons, List.length_cons, dpAll_len t]
theorem dpAll_get {K : PySem.W.Frag} {H : Hp} : ∀ {vs : List V} {ds : List PyData} {i : Nat} {v : V}, DpAll K H vs ds → vs[i]? = some v → ∃ d, ds[i]? = some d ∧ Dp K H v d
  | _, _, _, _, .nil, e => by simp at e
  | _, _, 0, _, .cons r _, e => by
    simp at e
    subst e
    exact ⟨_, rfl, r⟩
  | _, _, i + 1, v, .cons _ t, e => by
    obtain ⟨d, h1, h2⟩ := dpAll_get (i := i) (v := v) t (by simpa using e)
    exact ⟨d, by simpa using h1, h2⟩
theorem sqT_ext {K : PySem.W.Frag} {H H' : Hp} {a : Addr} {xs : List V} (k : Ext H H') (h : SqT K H a xs) : SqT K H' a xs := by
  rcases h with (h | ⟨o, h⟩) | h
  · exact .inl (.inl (k _ _ h))
  · exact .inl (.inr ⟨o, k _ _ h⟩)
  · exact .inr h
theorem sqL_ext {K : PySem.W.Frag} {H H' : Hp} {a : Addr} {xs : List V} (k : Ext H H') (h : SqL K H a xs) : SqL K H' a xs := by
  rcases h with (h | ⟨o, h⟩) | h
  · exact .inl (.inl (k _ _ h))
  · exact .inl (.inr ⟨o, k _ _ h⟩)
  · exact .inr h
mutual
theorem dp_ext {K : PySem.W.Frag} {H H' : Hp} (k : Ext H H') : ∀ {v : V} {d : PyData}, Dp K H v d → Dp K H' v d
  | _, _, .non => .non
  | _, _, .bl b => .bl b
  | _, _, .int i => .int i
  | _, _, .str x => .str x
  | _, _, .lst h r => .lst (sqL_ext k h) (dpAll_ext k r)
  | _, _, .tup h r => .tup (sqT_ext k h) (dpAll_ext k r)
theorem dpAll_ext {K : PySem.W.Frag} {H H' : Hp} (k : Ext H H') : ∀ {vs : List V} {ds : List PyData}, DpAll K H vs ds → DpAll K H' vs ds
  | _, _, .nil => .nil
  | _, _, .cons r t => .cons (dp_ext k r) (dpAll_ext k t)
end
theorem Dq.ext {K : PySem.W.Frag} {H H' : Hp} {v : V} {d : PyData} (h : Dq K H v d) (k : Ext H H') : Dq K H' v d := by
  cases h with
  | dp h => exact .dp (dp_ext k h)
  | emp h => exact .emp (k _ _ h)
/-! ### two numbers in a tuple of any make -/
def TwoS (K : PySem.W.Frag) (H : Hp) (v : V) (y : Int × Int) : Prop := ∃ a, v = .ref a ∧ SqT K H a [.int y.1, .int y.2]
theorem TwoS.ext {K : PySem.W.Frag} {H H' : Hp} (k : Ext H H') {v : V} {y : Int × Int} (h : TwoS K H v y) : TwoS K H' v y := by
  obtain ⟨a, e, h⟩ := h
  exact ⟨a, e, sqT_ext k h⟩
theorem TwoS.of {K : PySem.W.Frag} {H : Hp} {v : V} {y : Int × Int} (h : TwoAt H v y) : TwoS K H v y := by
  obtain ⟨a, e, h⟩ := h
  exact ⟨a, e, SqT.of h⟩
/-- the two numbers of a thing, if it is such a tuple -/
def twoD : PyData → Option (Int × Int)
  | .tuple [.int i, .int j] => some (i, j)
  | _ => none
theorem twoD_some {d : PyData} {y : Int × Int} (h : twoD d = some y) : d = .tuple [.int y.1, .int y.2] := by
  unfold twoD at h
  split at h
  · cases h
    rfl
  · cases h
theorem two_dp {K : PySem.W.Frag} {H : Hp} {v : V} {d : PyData} {y : Int × Int} (h : Dp K H v d) (e : twoD d = some y) : TwoS K H v y := by
  have e := twoD_some e
  subst e
  cases h with
  | tup h r =>
    cases r with
    | cons r1 r =>
      cases r with
      | cons r2 r =>
        cases r
        cases r1
        cases r2
        exact ⟨_, rfl, h⟩
theorem paired_two {K : PySem.W.Frag} {H : Hp} : ∀ {vs : List V} {ds : List PyData} {qs : List (Int × Int)}, DpAll K H vs ds → ds.mapM twoD = some qs → Paired (TwoS K H) vs qs
  | _, [], qs, .nil, e => by
    rw [List.mapM_nil] at e
    cases e
    exact .nil
  | _, d :: ds, qs, .cons h t, e => by
    rw [List.mapM_cons] at e
    cases h1 : twoD d with
    | none =>
      rw [h1] at e
      cases e
    | some y =>
      rw [h1] at e
      cases h2 : ds.mapM twoD with
      | none =>
        rw [h2] at e
        cases e
      | some ys =>
        rw [h2] at e
        cases e
        exact .cons (two_dp h h1) (paired_two t h2)
def dTw (y : Int × Int) : PyData := .tuple [.int y.1, .int y.2]
theorem dp_twos {K : PySem.W.Frag} {H : Hp} : ∀ {vs : List V} {qs : List (Int × Int)}, Paired (TwoS K H) vs qs → DpAll K H vs (qs.map dTw)
  | _, _, .nil => .nil
  | _, _, .cons ⟨_, e, h⟩ t => .cons (e ▸ .tup h (.cons (.int _) (.cons (.int _) .nil))) (dp_twos t)
theorem mapM_len {α β : Type} {f : α → Option β} : ∀ {xs : List α} {ys : List β}, xs.mapM f = some ys → ys.length = xs.length
  | [], ys, e => by
    rw [List.mapM_nil] at e
    cases e
    rfl
  | x :: xs, ys, e => by
    rw [List.mapM_cons] at e
    cases h1 : f x with
    | none =>
      rw [h1] at e
      cases e
    | some y =>
      rw [h1] at e
      cases h2 : xs.mapM f with
      | none =>
        rw [h2] at e
        cases e
      | some zs =>
        rw [h2] at e
        cases e
        rw [List.length_cons, List.length_cons, mapM_len h2]
theorem mapM_snoc {α β : Type} {f : α → Option β} : ∀ {xs : List α} {ys : List β} {x : α} {y : β}, xs.mapM f = some ys → f x = some y → (xs ++ [x]).mapM f = some (ys ++ [y])
  | xs, ys, x, y, e, e2 => by
    rw [List.mapM_append, e]
    show (do let z ← [x].mapM f; pure (ys ++ z)) = _
    rw [List.mapM_cons, e2, List.mapM_nil]
    rfl
theorem mapM_get {α β : Type} {f : α → Option β} : ∀ {xs : List α} {ys : List β} {i : Nat} {x : α}, xs.mapM f = some ys → xs[i]? = some x → ∃ y, f x = some y ∧ ys[i]? = some y
  | [], _, _, _, _, e2 => by simp at e2
  | x :: xs, ys, i, z, e, e2 => by
    rw [List.mapM_cons] at e
    cases h1 : f x with
    | none =>
      rw [h1] at e
      cases e
    | some y =>
      rw [h1] at e
      cases h2 : xs.mapM f with
      | none =>
        rw [h2] at e
        cases e
      | some zs =>
        rw [h2] at e
        cases e
        cases i with
        | zero =>
          simp at e2
          subst e2
          exact ⟨y, h1, rfl⟩
        | succ i =>
          obtain ⟨y2, q1, q2⟩ := mapM_get (i := i) h2 (by simpa using e2)
          exact ⟨y2, q1, by simpa using q2⟩
theorem mapM_none {α β : Type} {f : α → Option β} : ∀ {xs : List α} {x : α}, x ∈ xs → f x = none → xs.mapM f = none
  | y :: xs, x, h, e => by
    rw [List.mapM_cons]
    rcases List.mem_cons.mp h with rfl | h
    · rw [e]
      rfl
    · cases h1 : f y with
      | none => rfl
      | some z =>
        show (do let zs ← xs.mapM f; pure (z :: zs)) = none
        rw [mapM_none h e]
        rfl
/-! ### repr of a tuple of two, the second anything -/
mutual
def plainD : PyData → Bool
  | .none => true
  | .bool _ => true
  | .int _ => true
  | .str _ => true
  | .list _ => false
  | .tuple ds => plainDs ds
  | .dict _ => false
def plainDs : List PyData → Bool
  | [] => true
  | d :: r => plainD d && plainDs r
end
theorem plainDs_all {ds : List PyData} (h : ∀ d ∈ ds, plainD d = true) : plainDs ds = true := by
  induction ds with
  | nil => rfl
  | cons d r ih =>
    rw [plainDs, h d (List.mem_cons_self ..), ih fun x hx => h x (List.mem_cons_of_mem _ hx)]
    rfl
mutual
theorem reads_plain {h : Heap} : ∀ (d : PyData) (u : Value) (as : List Addr), plainD d = true → Reads h u d as → as = []
  | .none, _, _, _, r => by cases r; rfl
  | .bool _, _, _, _, r => by cases r; rfl
  | .int _, _, _, _, r => by cases r; rfl
  | .str _, _, _, _, r => by cases r; rfl
  | .list _, _, _, e, _ => by simp [plainD] at e
  | .tuple ds, _, _, e, r => by
    cases r with
    | tuple _ _ _ r => exact reads_plains ds _ _ (by simpa [plainD] using e) r
  | .dict _, _, _, e, _ => by simp [plainD] at e
theorem reads_plains {h : Heap} : ∀ (ds : List PyData) (us : List Value) (as : List Addr), plainDs ds = true → ReadsAll h us ds as → as = []
  | [], _, _, _, r => by cases r; rfl
  | d :: ds, _, _, e, r => by
    rw [plainDs, Bool.and_eq_true] at e
    cases r with
    | cons r1 r2 => rw [reads_plain d _ _ e.1 r1, reads_plains ds _ _ e.2 r2]; rfl
end
end Pf


namespace Pf
open PySem PySem.Spec PyProof.Rows L2 LamX
/-! ### a def that is held by a name, called; it may raise -/
def FnV (P : Program) (w : World) (K : PySem.W.Frag) (mg : Str → Option Value) (base : Heap) (k : Nat) (f : Addr) (sp : Sp) : Prop :=
  ∃ (fd : FuncData) (ps : List Str), FnOk P w K mg base (L2.CX P w) k f fd ps sp ∧ PySem.W.keepIn K (.ref f) = true ∧ Binds K fd ps []
section
variable {X : Cx} {W : WX} {k i : Nat} {sp : Sp} {x : Str} {e : Expr} {es : List Expr} {t : TA} {p pos : Pos} {E : XK} {kws : List Keyword} {ps ks : List Str} {gV : List V → List V → List V} {tk : TA}
def tCallVs (P : Program) (w : World) (K : PySem.W.Frag) (mg : Str → Option Value) (base : Heap) (i k : Nat) (sp : Sp) (E : L2.St → XK) (t : TA) : TE := fun σ H Q => ∃ f : Addr, σ[i]? = some (some (.ref f)) ∧ FnV P w K mg base k f sp ∧ t σ H fun vs H1 => sp vs H1 Q (E σ)
theorem pe_callVs {P : Program} {w : World} {K : PySem.W.Frag} {mg : Str → Option Value} {base : Heap} (hX : X.prog = P ∧ X.w = w ∧ X.K = K ∧ X.mg = mg ∧ X.base = base) (hr : Room k X.A) (tkx : Takes X W) (hN : X.N[i]? = some x) (hv : Vis X.env.scope x) (ha : PA X (e :: es) t)
    (hd : (x == ("__debug__" : Str)) = false := by decide) (hcd : (x == ("__classdict__" : Str)) = false := by decide)
    (he : starEach (e :: es) X.env = (false, eval e X.env) :: starEach es X.env := by rfl) (hpl : (backTo pos (starEach es X.env)).any (·.1) = false := by rfl) : PE X (.Call (.Name x p) (e :: es) [] pos) (tCallVs P w K mg base i k sp (WE W) t) := by
  obtain ⟨rfl, rfl, rfl, rfl, rfl⟩ := hX
  constructor
  intro pins s σ H Q I h
  obtain ⟨f, hs, ⟨fd, ps, F, hk, hb⟩, h⟩ := h
  have hp := (pe_var (X := X) (pos := p) (i := i) hN hv hd hcd).run pins s σ H (fun v H1 => v = .ref f ∧ H1 = H) I ⟨.ref f, hs, rfl, rfl⟩
  refine wpAny_Call_Name_kw (thn hp fun u s1 hu => ?_)
  obtain ⟨v, H1, I1, r1, ev, eH⟩ := hu
  subst ev eH
  cases r1
  refine PySem.W.callWith_K (h₀ := X.base) I.ok.mod.kin hk (thn (ha.run pos pins s1 σ H1 _ I1 h) fun us s2 hu => ?_) he hpl
  obtain ⟨vs, H2, I2, r, q⟩ := hu
  exact ⟨I2.kIn, run_fnS F hr hb (passAt tkx σ) I2 r q⟩
/-- a def that may raise, called by names -/
structure CaXK (P : Program) (w : World) (K : PySem.W.Frag) (mg : Str → Option Value) (base : Heap) (k : Nat) (x : Str) (ps ks : List Str) (gV : List V → List V → List V) (sp : Sp) : Prop where
  ex : ∃ f fd g, FnOk P w K mg base (L2.CX P w) k f fd ps sp ∧ mg x = some (.ref f) ∧ PySem.W.keepIn K (.ref f) = true ∧ KBn K fd ps 0 ks g gV
theorem pe_caXK (c : CaXK X.prog X.w X.K X.mg X.base k x ps ks gV sp) (hr : Room k X.A) (hg : Gl X x) (tkx : Takes X (fun cls d _ H => E cls d H)) (hkw : PK X kws tk)
    (hall : (backToKw pos (keywordEach kws X.env)).all (·.1.isSome) = true := by rfl) (hks : (backToKw pos (keywordEach kws X.env)).filterMap (·.1) = ks := by rfl) (hdb : (x == ("__debug__" : Str)) = false := by decide)
    (hpl : ((backTo pos (starEach [] X.env)).any (·.1) || (backToKw pos (keywordEach kws X.env)).any (·.1.isNone)) = false := by rfl) :
    PE X (.Call (.Name x p) [] kws pos) (tCallN 0 ks.length sp gV E tNil tk) := by
  obtain ⟨f, fd, g, F, hm, hk, hb⟩ := c.ex
  refine ⟨fun pins s σ H Q I h => ?_⟩
  refine wpAny_Call_Name_kw (ld_glob I hg hm ?_ hdb)
  refine PySem.W.callWith_KW0 (h₀ := X.base) I.ok.mod.kin hk hall ?_ hpl
  refine thn (hkw.run pos pins s σ H _ I h) fun ws s2 ⟨zs, H2, I2, rz, l1, l2, q2⟩ => ⟨I2.kIn, ?_⟩
  rw [hks]
  exact run_fnN (us := []) (vs := []) F hr hb (passes_call tkx fun _ _ _ _ h => h) I2 .nil rz rfl l2 q2
end
/-! ### an own class under a built-in one -/
theorem under_ty {K : PySem.W.Frag} {C : Addr} {T : String} {b : Bool} (hm : PySem.W.kitMeta T = true) (h : PySem.W.subIn K (.ref C) (.type T) = some b) : PySem.W.kitOne K (.ref C) (.type T) = some b := by
  unfold PySem.W.kitOne
  rw [show (Value.ref C == Value.type T) = false from rfl]
  show PySem.W.kitCls K (.ref C) (.type T) = some b
  unfold PySem.W.kitCls
  simp only [hm, h, if_true]
/-! ### a thing, and what it is -/
def Tx (K : PySem.W.Frag) (H : Hp) (v : V) (d : PyData) : Prop := TyX K H v (.type (tyD d)) ∧ ∀ x, d = .str x → v = .str x ∧ x.length ≤ 100
theorem Tx.str {K : PySem.W.Frag} {H : Hp} {x : Str} (h : x.length ≤ 100) : Tx K H (.str x) (.str x) := ⟨.base (.str x), fun y e => by cases e; exact ⟨rfl, h⟩⟩
theorem Tx.non {K : PySem.W.Frag} {H : Hp} : Tx K H .non .none := ⟨.base .non, fun y e => by cases e⟩
theorem Tx.bl {K : PySem.W.Frag} {H : Hp} (b : Bool) : Tx K H (.bl b) (.bool b) := ⟨.base (.bl b), fun y e => by cases e⟩
theorem Tx.int {K : PySem.W.Frag} {H : Hp} (i : Int) : Tx K H (.int i) (.int i) := ⟨.base (.int i), fun y e => by cases e⟩
theorem Tx.tup {K : PySem.W.Frag} {H : Hp} {a : Addr} {xs : List V} (h : H a = some (.tup xs)) : Tx K H (.ref a) (.tuple []) := ⟨.base (.tup h), fun y e => by cases e⟩
theorem Tx.lst {K : PySem.W.Frag} {H : Hp} {a : Addr} {xs : List V} (h : H a = some (.lst xs)) : Tx K H (.ref a) (.list []) := ⟨.base (.lst h), fun y e => by cases e⟩
theorem Tx.dK {K : PySem.W.Frag} {H : Hp} {a : Addr} {kvs : List (Key × V)} (h : H a = some (.dK kvs)) : Tx K H (.ref a) (.dict []) := ⟨.base (.dK h), fun y e => by cases e⟩
/-- a thing of which it is told what it is, wherever tables alone change -/
inductive ThX (H : Hp) : V → PyData → Prop where
  | str {x : Str} (h : x.length ≤ 100) : ThX H (.str x) (.str x)
  | non : ThX H .non .none
  | bl (b : Bool) : ThX H (.bl b) (.bool b)
  | int (i : Int) : ThX H (.int i) (.int i)
  | tup {a : Addr} {xs : List V} (h : H a = some (.tup xs)) : ThX H (.ref a) (.tuple [])
  | lst {a : Addr} {xs : List V} (h : H a = some (.lst xs)) : ThX H (.ref a) (.list [])
  | dK {a : Addr} {kvs : List (Key × V)} (h : H a = some (.dK kvs)) : ThX H (.ref a) (.dict [])
theorem ThX.tx {K : PySem.W.Frag} {H : Hp} {v : V} {d : PyData} (h : ThX H v d) : Tx K H v d := by
  cases h with
  | str h => exact .str h
  | non => exact .non
  | bl b => exact .bl b
  | int i => exact .int i
  | tup h => exact .tup h
  | lst h => exact .lst h
  | dK h => exact .dK h
theorem ThX.extN {H H' : Hp} {v : V} {d : PyData} (h : ThX H v d) (k : ExtN H H') : ThX H' v d := by
  cases h with
  | str h => exact .str h
  | non => exact .non
  | bl b => exact .bl b
  | int i => exact .int i
  | tup h => exact .tup (k _ _ h fun _ z => by cases z)
  | lst h => exact .lst (k _ _ h fun _ z => by cases z)
  | dK h => exact .dK (k _ _ h fun _ z => by cases z)
theorem ThX.ext {H H' : Hp} {v : V} {d : PyData} (h : ThX H v d) (k : Ext H H') : ThX H' v d := h.extN (ExtN.ext k)
/-! ### a text so many times, once at least: how long it is -/
def rRepX : R2 := fun x y H Q => ∃ (z : Str) (k : Int), x = .str z ∧ y = .int k ∧ 1 ≤ k ∧ k ≤ 1000 ∧ z.length ≤ 1000 ∧ ∀ w : Str, w.length = z.length * k.toNat → (∀ c ∈ w.cps.toList, c ∈ z.cps.toList) → Q (.str w) H
theorem op_repX {X : Cx} : OpR X (binaryOp .Mult) rRepX := by
  intro pins s σ H x y v u Q I rx ry h
  obtain ⟨z, k, rfl, rfl, k0, k1, hz, q⟩ := h
  obtain ⟨t, rfl⟩ := rx
  obtain ⟨t2, rfl⟩ := ry
  have hm : z.length * k.toNat ≤ 1000 * 1000 := Nat.mul_le_mul hz (by omega)
  have hbig : (z.length : Int) * k ≤ 1000 * 1000 := Int.mul_le_mul (by omega) k1 (by omega) (by decide)
  refine PySem.P.mul_str (by rw [decide_eq_false (by omega), decide_eq_false (by omega)]; rfl) (fun h1 _ z2 => ?_) (fun _ _ => ?_) ?_
  · have h3 : (1000 : Int) ≤ (2 ^ 63 - 1) / k := by
      rw [Int.le_ediv_iff_mul_le (by omega)]
      omega
    omega
  · unfold Builtin.Str.tooLong
    exact decide_eq_false (by rw [sizeLine_eq]; omega)
  · rw [if_neg (show ¬ k < 1 by omega)]
    by_cases c2 : (k == 1 || z.length == 0) = true
    · rw [if_pos c2]
      refine ⟨.str z, H, I, ⟨_, rfl⟩, q z ?_ fun _ hc => hc⟩
      rw [Bool.or_eq_true] at c2
      rcases c2 with c2 | c2
      · rw [show k = 1 from beq_iff_eq.mp c2]
        exact (Nat.mul_one _).symm
      · rw [show z.length = 0 from beq_iff_eq.mp c2, Nat.zero_mul]
    · rw [if_neg c2]
      have hr := rep_cps z.cps k.toNat #[]
      have hl : (⟨(List.replicate k.toNat z.cps).foldl (· ++ ·) #[]⟩ : Str).length = z.length * k.toNat := by
        show ((List.replicate k.toNat z.cps).foldl (· ++ ·) #[]).size = _
        rw [hr.1]
        show 0 + z.length * k.toNat = _
        omega
      refine ⟨?_, .str _, H, I.tok _, ⟨_, rfl⟩, q _ hl fun c hc => ?_⟩
      · rw [hl, sizeLine_eq]
        omega
      · rcases hr.2 c hc with y | y
        · cases y
        · exact y
end Pf


namespace Pf
open PySem PySem.Spec PyProof.Rows L2 LamX
/-! ### what is a string of the rules, of things of any kind -/
def inLx (r : Rl) (c : Nat) : Bool := decide (c ∈ r.letters.cps.toList)
def isSx (r : Rl) : PyData → Bool
  | .str x => decide (x.length ≤ 12) && (x.cps.toList.map (inLx r)).all id
  | _ => false
theorem isSx_no {r : Rl} {d : PyData} (h : isStr d = false) : isSx r d = false := by
  cases d with
  | str x => cases h
  | _ => rfl
theorem isStrx_yes {d : PyData} (h : isStr d = true) : ∃ x, d = .str x := by
  cases d with
  | str x => exact ⟨x, rfl⟩
  | _ => cases h
theorem isSx_of {r : Rl} {x : Str} (hx : x.length ≤ 12) (h : Of r.letters x) : isSx r (.str x) = true := by
  show (decide (x.length ≤ 12) && (x.cps.toList.map (inLx r)).all id) = true
  rw [decide_eq_true hx, Bool.true_and, List.all_map]
  exact List.all_eq_true.mpr fun c hc => decide_eq_true (h c hc)
theorem isSx_not {r : Rl} {x : Str} {c : Nat} (hc : c ∈ x.cps.toList) (h : c ∉ r.letters.cps.toList) : isSx r (.str x) = false := by
  show (decide (x.length ≤ 12) && (x.cps.toList.map (inLx r)).all id) = false
  have : (x.cps.toList.map (inLx r)).all id = false := by
    rw [List.all_map]
    refine Bool.eq_false_iff.mpr fun z => ?_
    have := List.all_eq_true.mp z c hc
    exact h (of_decide_eq_true this)
  rw [this, Bool.and_false]
theorem isSx_long {r : Rl} {x : Str} (h : 12 < x.length) : isSx r (.str x) = false := by
  show (decide (x.length ≤ 12) && _) = false
  rw [decide_eq_false (by omega), Bool.false_and]
section
variable {P : Program} {w : World} {K : PySem.W.Frag} {mg : Str → Option Value} {base : Heap}
def spISx (K : PySem.W.Frag) : Sp := fun vs H Q _ => ∃ (v t : V) (r : Rl) (d : PyData), vs = [v, t] ∧ RulesW H v r ∧ Tx K H t d ∧ ∀ H', Ext H H' → Q (.bl (isSx r d)) H'
theorem ok_isx {f : Addr} {fd : FuncData} {k : Nat} (F : Fun K "is_string" "is_string" s_is_string f fd) {tM : Tok} (gMOST_PLACES : mg "MOST_PLACES" = some (.int 12 tM)) (misinstance : mg "isinstance" = none) (mstr : mg "str" = none) (mlen : mg "len" = none) (mall : mg "all" = none) : FnOk P w K mg base CX0 (k + 1) f fd ["rules", "thing"] (spISx K) := by
  refine F.ok sc_is_string (fun vs H Q E h => ?_) (fun cdv A outer s H vs Q E hr h => ?_)
  · obtain ⟨v, t, r, d, rfl, _⟩ := h
    rfl
  · obtain ⟨v, t, r, d, rfl, hR, ⟨hty, hsx⟩, q⟩ := h
    obtain ⟨a, vp, vl, vs, rfl, hA, hp, hlo, hs⟩ := id hR
    refine ⟨_, (pss_cons (ps_if (PW.pt (pw_or (pt_not (pt_val (pe_callB (isi1 K) (by rfl) misinstance (by decide +kernel) (pa_cons (pv 1) (pa_cons (pe_bltn (v := .ty "str") (by rfl) mstr (by decide +kernel) rfl) pa_nil))))) (pw_or1 (pt_cmpR op_gt (pe_callB call_len_str (by rfl) mlen (by decide +kernel) (pa_cons (pv 1) pa_nil)) (pe_glob (v := .int 12) (by rfl) gMOST_PLACES ⟨_, rfl⟩) (nomark _))))) (pss_one (ps_ret pe_bl)) pss_nil)
      (pss_one (ps_ret (pe_callB (cr_all rfl) (by rfl) mall (by decide +kernel) (pa_cons (pe_lc (own := [("letter", 2)]) (g := gName 2) (by rfl) sc_is_string.nd (pi_str (pv 1)) (blkOk_by (own := [("letter", 2)]) (N := ["rules", "thing", "letter"]) (sc := defScope s_is_string) (by decide +kernel)) (fun _ _ _ _ _ => (pg_name (i := 2) sc_is_string.nd rfl (.inl rfl))) (fun _ _ _ _ _ => pts_nil) (fun _ _ _ _ _ => (pe_cmpR op_in_sign (pv 2) (pe_ix (ixT K) (pv 0) pe_int (fun _ _ => rfl)) (by rfl)))) pa_nil))))), ?_⟩
    refine ⟨_, rfl, t, .ty "str", _, _, isStr d, rfl, .ty _, hty, kit_str d, isStr d, rfl, ?_⟩
    cases hst : isStr d with
    | false =>
      have := q H Ext.refl
      rw [isSx_no hst] at this
      exact iteT this
    | true =>
      obtain ⟨x, rfl⟩ := isStrx_yes hst
      obtain ⟨rfl, hx⟩ := hsx x rfl
      refine iteF ⟨_, rfl, x, rfl, szL (by omega), _, _, rfl, rfl, _, rfl, ?_⟩
      by_cases e1 : (x.length : Int) > 12
      · rw [decide_eq_true e1]
        have := q H Ext.refl
        rw [isSx_long (by omega)] at this
        exact iteT this
      · rw [decide_eq_false e1]
        refine iteF ⟨_, rfl, _, rfl, fun D hD => lc_str (fun i H2 => H2 D = some (.lst (((x.cps.toList.take i).map (inLx r)).map V.bl)) ∧ Ext H H2) ⟨upd_same, Ext.new hD⟩ (fun i ch H2 hi hv => ?_) (fun H2 hv => ?_)⟩
        · obtain ⟨hL, k2⟩ := hv
          have hi12 : i < x.length := (Array.getElem?_eq_some_iff.mp hi).1
          refine ⟨rfl, _, rfl, _, rfl, a, _, 0, _, rfl, rfl, SqT.of (k2 _ _ hA), rfl, ch, r.letters, rfl, rfl, _, hL, szLt ?_, ?_, k2.put hD⟩
          · rw [List.length_map, List.length_map, List.length_take]
            omega
          · rw [upd_same, List.take_add_one, show x.cps.toList[i]? = some ch by rw [Array.getElem?_toList]; exact hi, List.map_append, List.map_append]
            rfl
        · obtain ⟨hL, k2⟩ := hv
          have e3 : x.cps.toList.take x.cps.size = x.cps.toList := List.take_of_length_le (by rw [Array.length_toList]; exact Nat.le_refl _)
          rw [e3] at hL
          refine ⟨D, _, rfl, SqL.of hL, ?_⟩
          have := q H2 k2
          have e2 : isSx r (.str x) = (x.cps.toList.map (inLx r)).all id := by
            show (decide (x.length ≤ 12) && _) = _
            rw [decide_eq_true (by omega), Bool.true_and]
          rw [e2] at this
          exact this
abbrev CISx (P : Program) (w : World) (K : PySem.W.Frag) (mg : Str → Option Value) (base : Heap) : Prop := Ca P w K mg base 1 "is_string" ["rules", "thing"] (spISx K)
/-- of anything: it tells nothing, or raises -/
def spNSx (K : PySem.W.Frag) (C : Addr) : Sp := fun vs H Q E => ∃ (v t : V) (r : Rl) (d : PyData), vs = [v, t] ∧ RulesW H v r ∧ Tx K H t d ∧ (isSx r d = true → ∀ H', Ext H H' → Q .non H') ∧ (isSx r d = false → ∀ H', Ext H H' → E (.ref C) none H')
theorem ok_nsx {f aNoString : Addr} {fd : FuncData} (F : Fun K "need_string" "need_string" s_need_string f fd) (cis_string : CISx P w K mg base) (gNoString : mg "NoString" = some (.ref aNoString))
    (xNoString : PySem.W.excIn K aNoString [.type "ValueError", .type "Exception", .type "BaseException", .type "object"] "ValueError.__new__" = true) (kNoString : PySem.W.keepIn K (.ref aNoString) = true)
    (bNoString : PySem.W.subIn K (.ref aNoString) (.type "BaseException") = some true) (tNoString : PySem.W.typeIn K (.ref aNoString) = some (.type "type")) : FnOk P w K mg base (L2.CX P w) 2 f fd ["rules", "thing"] (spNSx K aNoString) := by
  refine F.okX sc_need_string (fun vs H Q E h => ?_) (fun cdv A outer s H vs Q E hr h => ?_)
  · obtain ⟨v, t, r, d, rfl, _⟩ := h
    rfl
  · obtain ⟨v, t, r, d, rfl, hR, hd, q1, q2⟩ := h
    refine ⟨_, (pss_one (ps_if (pt_not (pt_val (pe_ca cis_string (hr.mono (by decide)) (by rfl) (pa_cons (pv 0) (pa_cons (pv 1) pa_nil))))) (pss_one (ps_raise rfl (takes_of rfl rfl rfl rfl) (pmk_own PySem.F.excBase_ValueError xNoString gNoString kNoString (raises_own bNoString tNoString) rfl))) pss_nil)), ?_⟩
    refine ⟨_, rfl, _, rfl, v, t, r, d, rfl, hR, hd, fun H' k => ⟨_, rfl, ?_⟩⟩
    cases hi : isSx r d with
    | true => exact iteF (q1 hi H' k)
    | false => exact iteT (q2 hi H' k)
abbrev CNSx (P : Program) (w : World) (K : PySem.W.Frag) (mg : Str → Option Value) (base : Heap) (C : Addr) : Prop := CaX P w K mg base 2 "need_string" ["rules", "thing"] (spNSx K C)
end
end Pf


namespace Pf
open PySem PySem.Spec PyProof.Rows L2
theorem tt_len (r x : Str) : (tupleText [r, x]).length = r.length + x.length + 4 := by
  have e1 : ("(" : Str).length = 1 := by decide +kernel
  have e2 : (", " : Str).length = 2 := by decide +kernel
  have e3 : ((")" : String) : Str).length = 1 := by decide +kernel
  show (("(" : Str) ++ (r ++ ", " ++ x) ++ ((")" : String) : Str)).length = _
  rw [Str.length_append, Str.length_append, Str.length_append, Str.length_append, e1, e2, e3]
  omega
theorem len_emp (d : PyData) : (PyData.tuple [d, .dict []]).shown.length = (PyData.tuple [d, .tuple []]).shown.length := by
  have e1 : (dictText []).length = 2 := by decide +kernel
  have e2 : (tupleText []).length = 2 := by decide +kernel
  simp only [PyData.shown, PyData.shownAll, PyData.shownKv]
  rw [tt_len, tt_len, e1, e2]
def rShow2 (K : PySem.W.Frag) : List V → Hp → VK → Prop := fun xs H Q => ∃ (t : Addr) (x y : V) (dx dy : PyData) (m k : Nat), xs = [.ref t] ∧ SqT K H t [x, y] ∧ Dp K H x dx ∧ plainD dx = true ∧ Dq K H y dy ∧ Sm m k dx ∧ (Sm m k dy ∨ dy = .dict []) ∧ m ≤ 200000 ∧ k ≤ 40 ∧ Q (.str (PyData.tuple [dx, dy]).shown) H
theorem sm_two' {m k : Nat} {a b : PyData} (ha : Sm m k a) (hb : Sm m k b) (hm : m ≤ 200000) : Sm 1000000 (k + 1) (.tuple [a, b]) :=
  Sm.tup (n := 2) (m := m) (k := k) (Nat.le_refl _) (fun d hd => by
    simp only [List.mem_cons, List.not_mem_nil, or_false] at hd
    rcases hd with rfl | rfl
    · exact ha
    · exact hb) (by omega)
theorem call_show2 (K : PySem.W.Frag) {X : Cx} (hg : X.A.guards = some []) (hu : X.A.units + 64 < cLine) (hK : X.K = K := by rfl) : CallR X (.builtin "repr") (rShow2 K) := by
  subst hK
  intro pins s σ H xs us Q I r h
  obtain ⟨t, x, y, dx, dy, m, k, rfl, hT, hx, px, hy, sx, sy, hm, hk, q⟩ := h
  cases hy with
  | dp hy =>
    have sy : Sm m k dy := sy.elim id fun e => by
      subst e
      cases hy
    exact call_show X.K hg hu rfl pins s σ H _ us Q I r ⟨.ref t, _, _, _, rfl, .tup hT (.cons hx (.cons hy .nil)), sm_two' sx sy hm, Nat.le_refl _, by omega, q⟩
  | @emp a hA =>
    obtain ⟨u, rfl, rfl⟩ := vals1 r
    obtain ⟨its, rv, ⟨o, ho, hc, n, hd⟩, hz⟩ := I.tuple hT
    obtain ⟨_, hsys, vs, rel, od, es, ep, h1, h2, h3, _, h5, _⟩ := dk_of I.hok hA
    cases rel
    have hes : es.toList = [] := List.length_eq_zero_iff.mp h5.length
    cases rv with
    | cons r1 r2 =>
      cases r2 with
      | cons r3 r4 =>
        cases r4
        cases r3
        obtain ⟨as, ra⟩ := Dp.reads I _ _ _ hx r1
        have ea := reads_plain _ _ _ px ra
        subst ea
        have rb : Reads s.heap (.ref a) (.dict []) (a :: [] ++ []) := Reads.dict h1 h2.1 h3 (by rw [hes]; exact .nil) (by rw [hes]; exact .nil)
        have rt : Reads s.heap (.ref t) (.tuple [dx, .dict []]) ([] ++ ((a :: [] ++ []) ++ [])) := Reads.tuple ho hc hd (.cons ra (.cons rb .nil))
        have s0 : Sm m (k + 1) (.tuple []) := (Sm.tup (n := 0) (m := 0) (k := k) (M := 0) (ds := []) (Nat.le_refl _) (fun d hd => by cases hd) (Nat.le_refl _)).le (Nat.zero_le _) (Nat.le_refl _)
        have s2 := sm_two' (sx.le (Nat.le_refl _) (Nat.le_succ k)) s0 hm
        refine PySem.repr_of_reads' rt ?_ (fun _ z => ?_) hg ?_ (fun _ _ e => e) (fun h' u tk keep => ⟨.str _, H, I.kept keep, ⟨_, rfl⟩, q⟩) ?_
        · have := sx.sho
          simp [PyData.showable, PyData.showableAll, PyData.showableKv, this]
        · have e : sysModules = a := by simpa using z
          rw [← e] at hsys
          cases hsys
        · have := sx.dep
          simp only [PyData.depth, PyData.depthAll, PyData.depthKv]
          omega
        · rw [len_emp]
          exact s2.short (Nat.le_refl _) (by omega)
/-! ### how many unlike ones -/
theorem dd_len : ∀ (ns acc : List Int), acc.Nodup → ((ns.foldl step_dedup acc).length = acc.length + ns.length ↔ (acc ++ ns).Nodup)
  | [], acc, h => by simp [h]
  | x :: r, acc, h => by
    rw [List.foldl_cons]
    unfold step_dedup
    by_cases c : acc.any (· == x) = true
    · rw [if_pos c]
      have hx : x ∈ acc := by
        obtain ⟨y, hy, e⟩ := List.any_eq_true.mp c
        rw [← eq_of_beq e]
        exact hy
      have hle := foldl_step_dedup_length_le acc r
      constructor
      · intro e
        rw [List.length_cons] at e
        unfold step_dedup at hle
        omega
      · intro e
        have := (List.nodup_append.mp e).2.2 x hx x (List.mem_cons_self ..)
        exact absurd rfl this
    · rw [if_neg c]
      have hx : x ∉ acc := fun z => c (List.any_eq_true.mpr ⟨x, z, beq_self_eq_true x⟩)
      have hn : (acc ++ [x]).Nodup := List.nodup_append.mpr ⟨h, by simp, fun a ha b hb e => by
        rw [List.mem_singleton] at hb
        subst hb
        subst e
        exact hx ha⟩
      have ih := dd_len r (acc ++ [x]) hn
      rw [List.length_append, List.length_singleton, List.append_assoc, List.singleton_append] at ih
      rw [List.length_cons]
      unfold step_dedup at ih
      constructor
      · intro e
        exact ih.mp (by omega)
      · intro e
        have := ih.mpr e
        omega
theorem range_getD (ns : List Int) : (List.range ns.length).map (fun i => ns.getD i 0) = ns := by
  refine List.ext_getElem? fun i => ?_
  rw [List.getElem?_map]
  by_cases h : i < ns.length
  · rw [List.getElem?_range h, List.getElem?_eq_getElem h]
    simp [h]
  · rw [List.getElem?_eq_none (by rw [List.length_range]; omega), List.getElem?_eq_none (by omega)]
    rfl
theorem met_lt (ns : List Int) : (firstMet (fun i => ns.getD i 0) ns.length).length < ns.length ↔ ¬ ns.Nodup := by
  unfold firstMet
  rw [range_getD]
  have h1 := dd_len ns [] List.nodup_nil
  have h2 := foldl_step_dedup_nil_length_le ns
  rw [List.nil_append, List.length_nil, Nat.zero_add] at h1
  constructor
  · intro e h
    have := h1.mpr h
    omega
  · intro e
    by_cases c : (ns.foldl step_dedup []).length = ns.length
    · exact absurd (h1.mp c) e
    · omega
section
variable {X : Cx}
def tLenSetM (K : PySem.W.Frag) (ta : TE) : TE := fun σ H Q => ta σ H fun x H1 => ∃ (l : Addr) (ns : List Int), x = V.ref l ∧ SqL K H1 l (ns.map V.int) ∧ ns.length < 1000 ∧ ∀ n : Nat, (n < ns.length ↔ ¬ ns.Nodup) → n ≤ ns.length → Q (.int n) H1
theorem pe_lenSetM {a : Expr} {ta : TE} {p p2 q pos : Pos} (hc : X.calm = true) (hg : Gl X "len") (hm : X.mg "len" = none) (hg2 : Gl X "set") (hm2 : X.mg "set" = none) (ha : PE X a ta)
    (na : starEach [a] X.env = (false, eval a X.env) :: starEach [] X.env := by rfl) : PE X (.Call (.Name "len" p) [.Call (.Name "set" p2) [a] [] q] [] pos) (tLenSetM X.K ta) := by
  refine ⟨fun pins s σ H Q I h => ?_⟩
  refine Call_ (ld_blt I hg hm PySem.boot_len (PyProof.Rows.callWith_builtin1 (PyProof.Rows.args_cons ?_ rfl) rfl rfl))
  refine Call_ (ld_blt I hg2 hm2 PyProof.Rows.boot_set ?_)
  refine PyProof.Rows.callWith_type1 (PyProof.Rows.args_cons (thn (ha.run pins s σ H _ I h) fun v s1 ⟨x, H1, I1, r1, q1⟩ => PyProof.Rows.args_nil ?_) na) na rfl
  obtain ⟨l, ns, ex, hL, hn, q2⟩ := q1
  subst ex
  cases r1
  obtain ⟨its, r, pl, hz⟩ := I1.list hL
  have el : its.length = ns.length := by
    have := r.length
    rw [List.length_map] at this
    exact this.symm
  have hmet : (firstMet (fun i => ns.getD i 0) ns.length).length ≤ ns.length := firstMet_length_le _ _
  refine call_set_list (I1.ok.hd hc) pl.isList (ns := ns) (intsAre_of r) (by rw [List.size_toArray, el]; unfold scanBound; omega) fun h' tk hS hk => ?_
  have el2 : its.toArray.size = ns.length := by rw [List.size_toArray, el]
  rw [el2] at hS
  obtain ⟨o, es, ep, t, ho, hex, hd, _, _, _, hf, hsz⟩ := hS
  have I2 : Inv X pins σ H1 { s1 with heap := h', toks := tk } := I1.kept fun b u e => hk b u (Heap.lt_size e) e
  refine PyProof.Rows.args_nil ?_
  exact call_len_set ho hex hd hf (by omega) ⟨.int (firstMet (fun i => ns.getD i 0) ns.length).length, H1, I2.tok _, ⟨_, by rw [hsz]⟩, q2 _ (met_lt ns) hmet⟩
end
/-! ### a tuple backwards -/
theorem sl_back {pg : Program} {ww : World} {AA : Around} {EE : Value → Shared → Prop} {st : Shared} {sa : Addr} {vl vu vs : Value} {n : Nat} {Q : Int × Int × Nat → Shared → Prop} (hS : st.heap.IsSliceOf sa vl vu vs) (pl : IsPart vl none) (pu : IsPart vu none) (ps : IsPart vs (some (-1)))
    (q : Q ((n : Int) - 1, -1, n) st) : wpAny (model pg ww) AA (Builtin.Slice.sliceApplied (.ref sa) (pure (n : Int))) Q EE st := by
  obtain ⟨o1, ho1, _, hd1⟩ := id hS
  unfold Builtin.Slice.sliceApplied Builtin.Slice.sliceFields
  refine wpAny_bind (wpAny_bind (wpAny_field ho1 hd1 (x := vl) rfl (wpAny_bind (wpAny_field ho1 hd1 (x := vu) rfl (wpAny_bind (wpAny_field ho1 hd1 (x := vs) rfl (wpAny_pure (wpAny_bind (HT.slicePart_ ps ?_)))))))))
  show wpAny _ _ (if ((-1 : Int) == 0) = true then _ else _) _ _ st
  rw [if_neg (by decide)]
  refine wpAny_bind (HT.slicePart_ pl (wpAny_bind (HT.slicePart_ pu (wpAny_bind (wpAny_pure ?_)))))
  have e1 : Builtin.Slice.sliceAdjust none none (-1) (n : Int) = ((n : Int) - 1, -1) := rfl
  have e2 : Builtin.Slice.slicePlaces ((n : Int) - 1) (-1) (-1) = n := by
    unfold Builtin.Slice.slicePlaces
    rw [if_neg (by decide)]
    simp only [Int.reduceNeg, Int.neg_neg, Int.ediv_one]
    split <;> omega
  show wpAny _ _ (match Builtin.Slice.sliceAdjust none none (-1) (n : Int) with | (a, b) => pure (a, (-1 : Int), Builtin.Slice.slicePlaces a b (-1))) _ _ st
  rw [e1]
  show wpAny _ _ (pure ((n : Int) - 1, (-1 : Int), Builtin.Slice.slicePlaces ((n : Int) - 1) (-1) (-1))) _ _ st
  rw [e2]
  exact wpAny_pure q
theorem pick_back (xs : Array Value) : ((List.range xs.size).filterMap fun (m : Nat) => xs[(((xs.size : Int) - 1) + (m : Int) * -1).toNat]?).toArray = xs.toList.reverse.toArray := by
  congr 1
  have e : ∀ m ∈ List.range xs.size, xs[(((xs.size : Int) - 1) + (m : Int) * -1).toNat]? = some (xs.toList.reverse.getD m .none) := fun m hm => by
    have hm := List.mem_range.mp hm
    rw [show (((xs.size : Int) - 1) + (m : Int) * -1).toNat = xs.size - 1 - m by omega, List.getD_eq_getElem?_getD, List.getElem?_reverse (by rw [Array.length_toList]; exact hm), Array.length_toList, Array.getElem?_toList, Array.getElem?_eq_getElem (by omega)]
    rfl
  have e2 : ∀ l : List Nat, (∀ m ∈ l, xs[(((xs.size : Int) - 1) + (m : Int) * -1).toNat]? = some (xs.toList.reverse.getD m .none)) → (l.filterMap fun (m : Nat) => xs[(((xs.size : Int) - 1) + (m : Int) * -1).toNat]?) = l.map fun m => xs.toList.reverse.getD m .none := by
    intro l
    induction l with
    | nil => intro _; rfl
    | cons m r ih =>
      intro h
      rw [List.filterMap_cons, h m (List.mem_cons_self ..), List.map_cons, ih fun z hz => h z (List.mem_cons_of_mem _ hz)]
  rw [e2 _ e]
  refine List.ext_getElem? fun i => ?_
  rw [List.getElem?_map]
  by_cases h : i < xs.size
  · rw [List.getElem?_range h]
    show some (xs.toList.reverse.getD i .none) = _
    rw [List.getD_eq_getElem?_getD, List.getElem?_eq_getElem (by rw [List.length_reverse, Array.length_toList]; exact h)]
    rfl
  · rw [List.getElem?_eq_none (by rw [List.length_range]; omega), List.getElem?_eq_none (by rw [List.length_reverse, Array.length_toList]; omega)]
    rfl
theorem getItem_tuple_back {pg : Program} {ww : World} {AA : Around} {EE : Value → Shared → Prop} {st : Shared} {tp sa : Addr} {items : Array Value} {vl vu vs : Value} {Q : Value → Shared → Prop} (hT : IsTup st.heap tp items) (hS : st.heap.IsSliceOf sa vl vu vs) (pl : IsPart vl none) (pu : IsPart vu none) (ps : IsPart vs (some (-1)))
    (q : Q (.ref st.heap.objs.size) { st with heap := st.heap.push { cls := .type "tuple", data := .seq items.toList.reverse.toArray } }) (hz : items.size ≤ sizeLine) : wpAny (model pg ww) AA (getItem (.ref tp) (.ref sa)) Q EE st := by
  have hfit : sizeOk (.seq items.toList.reverse.toArray) := by
    show items.toList.reverse.toArray.size ≤ sizeLine
    rw [List.size_toArray, List.length_reverse, Array.length_toList]
    exact hz
  have hSl : st.TypeIs (.ref sa) "slice" := let ⟨o, h1, h2, _⟩ := hS; ⟨o, h1, h2⟩
  unfold getItem; try with_reducible refine wpAny_holding ?_
  first | refine wpAny_bind (wpAny_pure ?_) | skip
  refine wpAny_bind (wpAny_sequenceKey hT.typeIs (by decide) (wpAny_bind (wpAny_callSpecial?_slot (name := Str.ofString "__getitem__") hT.typeIs slot_tuple_getitem (wpAny_call_entry slot_tuple_getitem hT.typeIs entry_tuple_getitem ?_ (args_tuple_getitem _ _)))))
  show wpAny _ _ (Builtin.Tuple.tupleItemsOf (.ref tp) >>= _) _ _ st
  refine wpAny_bind (tupleItemsOf_ hT (wpAny_bind (wpAny_typeOf hSl ?_)))
  rw [if_pos (by decide)]
  refine wpAny_bind (sl_back hS pl pu ps ?_)
  have no : ¬ (((((items.size : Int) - 1) == 0 && (-1 : Int) == 1 && items.size == items.size)) = true) := fun z => by
    rw [Bool.and_eq_true, Bool.and_eq_true] at z
    exact absurd z.1.2 (by decide)
  show wpAny _ _ (if ((((items.size : Int) - 1) == 0 && (-1 : Int) == 1 && items.size == items.size)) = true then _ else _) _ _ st
  rw [if_neg no, pick_back]
  first
    | exact wpAny_bind (m := Builtin.Tuple.tupleExact _) (wpAny_newObj_type (wpAny_pure ⟨_, rfl, wpAny_pure q⟩) hfit)
    | exact wpAny_bind (m := Builtin.Tuple.tupleExact _) (wpAny_newObj_type (wpAny_bind (wpAny_pure (wpAny_pure ⟨_, rfl, wpAny_pure q⟩))) hfit)
    | exact wpAny_bind (wpAny_bind (m := Builtin.Tuple.tupleExact _) (wpAny_newObj_type (wpAny_pure (wpAny_pure ⟨_, rfl, wpAny_pure q⟩)) hfit))
    | exact wpAny_bind (wpAny_bind (m := Builtin.Tuple.tupleExact _) (wpAny_newObj_type (wpAny_pure ⟨_, rfl, wpAny_pure q⟩) hfit))
def tRevT (K : PySem.W.Frag) (te : TE) : TE := fun σ H Q => te σ H fun x H1 => ∃ a xs, x = .ref a ∧ SqT K H1 a xs ∧ ∀ p, H1 p = none → Q (.ref p) (upd H1 p (.tup xs.reverse))
theorem pe_revT {X : Cx} {e : Expr} {te : TE} {k : Nat} {p1 p2 p3 pos : Pos} (he : PE X e te) : PE X (.Subscript e (.Slice none none (some (.UnaryOp .USub (.Constant (.int 1) k p1) p2)) p3) pos) (tRevT X.K te) := by
  refine ⟨fun pins s σ H Q I h => ?_⟩
  refine Subscript_ (thn (he.run pins s σ H _ I h) fun v s1 ⟨x, H1, I1, r1, a, xs, ex, hx, q⟩ => ?_)
  subst ex
  cases r1
  have hst : PO X (some (.UnaryOp .USub (.Constant (.int 1) k p1) p2)) (tPart (tUn (rU fun i => .int (-i)) (tC (.int 1)))) := po_some (pe_un un_neg pe_int)
  refine wpAny_Slice (thn (po_none.run pins s1 σ H1 (fun o H2 => o = none ∧ H2 = H1) I1 ⟨rfl, rfl⟩) fun vl s2 ⟨l, H2, I2, pl, el, e2⟩ => ?_)
  subst el e2
  refine thn (po_none.run pins s2 σ H2 (fun o H3 => o = none ∧ H3 = H2) I2 ⟨rfl, rfl⟩) fun vu s3 ⟨u, H3, I3, pu, eu, e3⟩ => ?_
  subst eu e3
  refine thn (hst.run pins s3 σ H3 (fun o H4 => o = some (-1) ∧ H4 = H3) I3 ⟨1, rfl, -1, rfl, rfl, rfl⟩) fun vs s4 ⟨o, H4, I4, ps, eo, e4⟩ => ?_
  subst eo e4
  have I5 : Inv X pins σ H4 { s4 with heap := s4.heap.push { cls := .type "slice", data := .fields #[vl, vu, vs] } } := I4.kept (t' := s4.toks) fun b ob z => Heap.get?_push_of_some _ z
  obtain ⟨its, r, ht, hz⟩ := I5.tuple hx
  have hlen : its.toArray.size = xs.length := by rw [List.size_toArray]; exact r.length.symm
  refine tail_any (ops := [.ref a, .ref s4.heap.objs.size]) ht.typeIs PyProof.Rows.slot_tuple_getitem.lookup ?_ (by with_unfolding_all rfl)
  refine getItem_tuple_back ht (Heap.IsSliceOf.new _ vl vu vs) pl pu ps ?_ (by rw [hlen]; exact hz)
  refine ⟨.ref _, _, I5.laid (t' := s4.toks) (o := .tup xs.reverse) (fun b ob z => Heap.get?_push_of_some _ z) (Nat.le_refl _) ?_, rfl, q _ (I5.hok.fresh (Nat.le_refl _))⟩
  exact ⟨by rw [List.length_reverse]; exact hz, _, r.reverse, IsTup.new _ _⟩
/-- a part of a tuple of any make; two put together -/
def rSlS (K : PySem.W.Frag) : V → Option Int → Option Int → Hp → VK → Prop := fun x lo hi H Q => ∃ a xs, x = .ref a ∧ SqT K H a xs ∧ ∀ p H', Ext H H' → SqT K H' p (cutV xs lo hi) → Q (.ref p) H'
theorem slS (K : PySem.W.Frag) {X : Cx} (h : X.K = K := by rfl) : SlR X (rSlS K) := fun pins s σ H x v vl vu lo hi sl Q I rx hs pl pu ⟨a, xs, ex, ha, q⟩ => by
  refine slA K h pins s σ H x v vl vu lo hi sl Q I rx hs pl pu ⟨a, xs, ex, ha, fun z => q a H Ext.refl ?_, fun _ p hp => q p _ (Ext.new hp) (SqT.of upd_same)⟩
  have e : cutV xs lo hi = xs := by
    unfold cutV
    rw [z.1, z.2, List.drop_zero, Nat.sub_zero, List.take_length]
  rw [e]
  exact ha
def rCatS (K : PySem.W.Frag) : R2 := fun x y H Q => ∃ a b xs ys, x = .ref a ∧ y = .ref b ∧ SqT K H a xs ∧ SqT K H b ys ∧ xs.length + ys.length ≤ sizeLine ∧ ∀ p H', Ext H H' → SqT K H' p (xs ++ ys) → Q (.ref p) H'
theorem catS (K : PySem.W.Frag) {X : Cx} (h : X.K = K := by rfl) : OpR X (binaryOp .Add) (rCatS K) := fun pins s σ H x y v u Q I rx ry ⟨a, b, xs, ys, ex, ey, ha, hb, hz, q⟩ => by
  refine catA K h pins s σ H x y v u Q I rx ry ⟨a, b, xs, ys, ex, ey, ha, hb, hz, fun z => q b H Ext.refl (by rw [z]; exact hb), fun _ z => q a H Ext.refl (by rw [z, List.append_nil]; exact ha), fun _ _ p hp => q p _ (Ext.new hp) (SqT.of upd_same)⟩
/-- sum of a list of lists and a list -/
def rSumS (K : PySem.W.Frag) : List V → Hp → VK → Prop := fun vs H Q => ∃ (a b : Addr) (ls : List (Addr × List V)) (xs : List V), vs = [.ref a, .ref b] ∧ SqL K H a (ls.map fun x => .ref x.1) ∧ (∀ x ∈ ls, H x.1 = some (.lst x.2)) ∧ H b = some (.lst xs) ∧ xs.length + (ls.map (·.2)).flatten.length ≤ sizeLine ∧
  ∀ p H', Ext H H' → SqL K H' p (xs ++ (ls.map (·.2)).flatten) → Q (.ref p) H'
theorem sumS (K : PySem.W.Frag) {X : Cx} (hcalm : X.calm = true) (hK : X.K = K := by rfl) : CallR X (.builtin "sum") (rSumS K) := fun pins s σ H vs us Q I r ⟨a, b, ls, xs, e, h1, h2, h3, h4, q⟩ =>
  cr_sumL K hcalm hK pins s σ H vs us Q I r ⟨a, b, ls, xs, e, h1, h2, h3, h4, fun z => q b H Ext.refl (by rw [z]; show SqL K H b (xs ++ []); rw [List.append_nil]; exact SqL.of h3), fun _ p hp => q p _ (Ext.new hp) (SqL.of upd_same)⟩
end Pf


namespace Pf
open PySem PySem.Spec PyProof.Rows L2
/-! ### data in plain tuples and lists; a heap with two places hidden -/
mutual
inductive Ds (H : Hp) : V → PyData → Prop
  | non : Ds H .non .none
  | bl (b : Bool) : Ds H (.bl b) (.bool b)
  | int (i : Int) : Ds H (.int i) (.int i)
  | str (x : Str) : Ds H (.str x) (.str x)
  | lst {a : Addr} {xs : List V} {ds : List PyData} : H a = some (.lst xs) → DsAll H xs ds → Ds H (.ref a) (.list ds)
  | tup {a : Addr} {xs : List V} {ds : List PyData} : H a = some (.tup xs) → DsAll H xs ds → Ds H (.ref a) (.tuple ds)
inductive DsAll (H : Hp) : List V → List PyData → Prop
  | nil : DsAll H [] []
  | cons {v : V} {vs : List V} {d : PyData} {ds : List PyData} : Ds H v d → DsAll H vs ds → DsAll H (v :: vs) (d :: ds)
end
mutual
theorem ds_ext {H H' : Hp} (k : Ext H H') : ∀ {v : V} {d : PyData}, Ds H v d → Ds H' v d
  | _, _, .non => .non
  | _, _, .bl b => .bl b
  | _, _, .int i => .int i
  | _, _, .str x => .str x
  | _, _, .lst h r => .lst (k _ _ h) (dsAll_ext k r)
  | _, _, .tup h r => .tup (k _ _ h) (dsAll_ext k r)
theorem dsAll_ext {H H' : Hp} (k : Ext H H') : ∀ {vs : List V} {ds : List PyData}, DsAll H vs ds → DsAll H' vs ds
  | _, _, .nil => .nil
  | _, _, .cons r t => .cons (ds_ext k r) (dsAll_ext k t)
end
mutual
theorem Ds.dp {K : PySem.W.Frag} {H : Hp} : ∀ {v : V} {d : PyData}, Ds H v d → Dp K H v d
  | _, _, .non => .non
  | _, _, .bl b => .bl b
  | _, _, .int i => .int i
  | _, _, .str x => .str x
  | _, _, .lst h r => .lst (SqL.of h) (DsAll.dp r)
  | _, _, .tup h r => .tup (SqT.of h) (DsAll.dp r)
theorem DsAll.dp {K : PySem.W.Frag} {H : Hp} : ∀ {vs : List V} {ds : List PyData}, DsAll H vs ds → DpAll K H vs ds
  | _, _, .nil => .nil
  | _, _, .cons r t => .cons (Ds.dp r) (DsAll.dp t)
end
theorem dsAll_len {H : Hp} : ∀ {vs : List V} {ds : List PyData}, DsAll H vs ds → vs.length = ds.length
  | _, _, .nil => rfl
  | _, _, .cons _ t => by rw [List.length_cons, List.length_cons, dsAll_len t]
theorem dsAll_get {H : Hp} : ∀ {vs : List V} {ds : List PyData} {i : Nat} {v : V}, DsAll H vs ds → vs[i]? = some v → ∃ d, ds[i]? = some d ∧ Ds H v d
  | _, _, _, _, .nil, e => by simp at e
  | _, _, 0, _, .cons r _, e => by
    simp at e
    subst e
    exact ⟨_, rfl, r⟩
  | _, _, i + 1, v, .cons _ t, e => by
    obtain ⟨d, h1, h2⟩ := dsAll_get (i := i) (v := v) t (by simpa using e)
    exact ⟨d, by simpa using h1, h2⟩
theorem dsAll_snoc {H : Hp} : ∀ {vs : List V} {ds : List PyData} {v : V} {d : PyData}, DsAll H vs ds → Ds H v d → DsAll H (vs ++ [v]) (ds ++ [d])
  | _, _, _, _, .nil, h => .cons h .nil
  | _, _, _, _, .cons r t, h => .cons r (dsAll_snoc t h)
/-- anything: data, or an empty dict -/
def Dz (H : Hp) (v : V) (d : PyData) : Prop := Ds H v d ∨ ∃ a, v = .ref a ∧ H a = some (.dK []) ∧ d = .dict []
theorem Dz.ext {H H' : Hp} {v : V} {d : PyData} (h : Dz H v d) (k : Ext H H') : Dz H' v d := by
  rcases h with h | ⟨a, e, h, e2⟩
  · exact .inl (ds_ext k h)
  · exact .inr ⟨a, e, k _ _ h, e2⟩
theorem Dz.dq {K : PySem.W.Frag} {H : Hp} {v : V} {d : PyData} (h : Dz H v d) : Dq K H v d := by
  rcases h with h | ⟨a, rfl, h, rfl⟩
  · exact .dp h.dp
  · exact .emp h
theorem Bg.non {B : Nat} : Bg B 0 0 .none := ⟨by simp [PyData.canLay0], by simp [PyData.showable], by simp [PyData.leavesShort], by simp [PyData.weight], by simp [PyData.depth]⟩
theorem Bg.bl {B : Nat} (b : Bool) : Bg B 0 0 (.bool b) := ⟨by simp [PyData.canLay0], by simp [PyData.showable], by simp [PyData.leavesShort], by simp [PyData.weight], by simp [PyData.depth]⟩
theorem Bg.str {B : Nat} {x : Str} {n : Nat} (h : PyData.strOk x = true) (h2 : (x.cps.toList.all fun c => decide (c < 16 ^ 8)) = true) (hn : x.length ≤ n) : Bg B n 0 (.str x) :=
  ⟨by simpa only [PyData.canLay0] using h, by simp [PyData.showable], by simp only [PyData.leavesShort]; exact h2, by simp only [PyData.weight]; exact hn, by simp [PyData.depth]⟩
theorem Bg.shaped {B m k : Nat} {d : PyData} (h : Bg B m k d) (hk : k ≤ 50) : SeqAt.shaped d = true := by
  show (d.canLay0 && decide (d.depth ≤ 64)) = true
  rw [h.lay, decide_eq_true (show d.depth ≤ 64 from Nat.le_trans h.dep (by omega))]
  rfl
/-- data of so much weight and depth -/
def Dk (m k : Nat) (H : Hp) (v : V) : Prop := ∃ d, Ds H v d ∧ Bg 141 m k d
theorem Dk.le {m k m' k' : Nat} {H : Hp} {v : V} (h : Dk m k H v) (hm : m ≤ m') (hk : k ≤ k') : Dk m' k' H v := by
  obtain ⟨d, h1, h2⟩ := h
  exact ⟨d, h1, h2.le hm hk⟩
theorem Dk.ext {m k : Nat} {H H' : Hp} {v : V} (h : Dk m k H v) (e : Ext H H') : Dk m k H' v := by
  obtain ⟨d, h1, h2⟩ := h
  exact ⟨d, ds_ext e h1, h2⟩
theorem Dk.non {H : Hp} : Dk 200 0 H .non := ⟨_, .non, Bg.non.le (by decide) (Nat.le_refl _)⟩
theorem Dk.bl {H : Hp} (b : Bool) : Dk 200 0 H (.bl b) := ⟨_, .bl b, (Bg.bl b).le (by decide) (Nat.le_refl _)⟩
theorem Dk.int {H : Hp} {i : Int} (h : i.natAbs < 2 ^ 140) : Dk 200 0 H (.int i) := ⟨_, .int i, (Bg.int (B := 140) (by decide) (by decide) h).le (by decide) (Nat.le_refl _)⟩
theorem Dk.intS {H : Hp} {i : Int} (h0 : -1000000 < i) (h1 : i < 1000000) : Dk 200 0 H (.int i) := Dk.int (Nat.lt_of_lt_of_le (show i.natAbs < 1000000 by omega) (by decide +kernel))
theorem Dk.str {H : Hp} {x : Str} (h : PyData.strOk x = true) (h2 : (x.cps.toList.all fun c => decide (c < 16 ^ 8)) = true) (hn : x.length ≤ 100) : Dk 200 0 H (.str x) := ⟨_, .str x, (Bg.str h h2 hn).le (by decide) (Nat.le_refl _)⟩
theorem Dk.text {H : Hp} {n : Nat} (hn : n ≤ 20) : Dk 200 0 H (.str (Str.ofString (toString (n : Int)))) := by
  have key : ((List.range 21).all fun n => PyData.strOk (Str.ofString (toString (n : Int))) && ((Str.ofString (toString (n : Int))).cps.toList.all fun c => decide (c < 16 ^ 8)) && decide ((Str.ofString (toString (n : Int))).length ≤ 100)) = true := by decide +kernel
  have := List.all_eq_true.mp key n (List.mem_range.mpr (by omega))
  rw [Bool.and_eq_true, Bool.and_eq_true] at this
  exact Dk.str this.1.1 this.1.2 (of_decide_eq_true this.2)
theorem dk_all {m k : Nat} {H : Hp} : ∀ {us : List V}, (∀ u ∈ us, Dk m k H u) → ∃ ds, DsAll H us ds ∧ ∀ d ∈ ds, Bg 141 m k d
  | [], _ => ⟨[], .nil, fun d h => by cases h⟩
  | u :: us, h => by
    obtain ⟨d, h1, h2⟩ := h u (List.mem_cons_self ..)
    obtain ⟨ds, h3, h4⟩ := dk_all fun x hx => h x (List.mem_cons_of_mem _ hx)
    refine ⟨d :: ds, .cons h1 h3, fun z hz => ?_⟩
    rcases List.mem_cons.mp hz with rfl | hz
    · exact h2
    · exact h4 z hz
theorem Dk.tup {m k n M : Nat} {H : Hp} {a : Addr} {us : List V} (h : H a = some (.tup us)) (hu : ∀ u ∈ us, Dk m k H u) (hn : us.length ≤ n) (hM : n * (m + 1) ≤ M) : Dk M (k + 1) H (.ref a) := by
  obtain ⟨ds, h1, h2⟩ := dk_all hu
  have := dsAll_len h1
  exact ⟨_, .tup h h1, Bg.tup (n := n) (by omega) h2 hM⟩
theorem Dk.lst {m k n M : Nat} {H : Hp} {a : Addr} {us : List V} (h : H a = some (.lst us)) (hu : ∀ u ∈ us, Dk m k H u) (hn : us.length ≤ n) (hM : n * (m + 1) ≤ M) : Dk M (k + 1) H (.ref a) := by
  obtain ⟨ds, h1, h2⟩ := dk_all hu
  have := dsAll_len h1
  exact ⟨_, .lst h h1, Bg.lst (n := n) (by omega) h2 hM⟩
/-- a thing that may be shown -/
def Thg (H : Hp) (v : V) : Prop := Dk 20000 3 H v ∨ ∃ a, v = .ref a ∧ H a = some (.dK [])
theorem Thg.ext {H H' : Hp} {v : V} (h : Thg H v) (e : Ext H H') : Thg H' v := by
  rcases h with h | ⟨a, e1, h⟩
  · exact .inl (h.ext e)
  · exact .inr ⟨a, e1, e _ _ h⟩
theorem Thg.dz {H : Hp} {v : V} (h : Thg H v) : ∃ d, Dz H v d ∧ (Bg 141 20000 3 d ∨ d = .dict []) := by
  rcases h with ⟨d, h1, h2⟩ | ⟨a, e, h⟩
  · exact ⟨d, .inl h1, .inl h2⟩
  · exact ⟨_, .inr ⟨a, e, h, rfl⟩, .inr rfl⟩
def hd2 (p D : Addr) (H : Hp) : Hp := fun b => if b = p ∨ b = D then none else H b
theorem hd2_ne {p D a : Addr} {H : Hp} (h1 : a ≠ p) (h2 : a ≠ D) : hd2 p D H a = H a := if_neg fun z => z.elim h1 h2
theorem hd2_le {p D : Addr} {H : Hp} : Ext (hd2 p D H) H := fun b o h => by
  unfold hd2 at h
  split at h
  · cases h
  · exact h
theorem hd2_kp {p D : Addr} {H H' : Hp} (k : Kp p H H') : Ext (hd2 p D H) (hd2 p D H') := fun b o h => by
  unfold hd2 at h ⊢
  split at h
  · cases h
  · rename_i n
    rw [if_neg n]
    exact k _ _ (fun z => n (.inl z)) h
theorem hd2_ext {p D : Addr} {H H' : Hp} (k : Ext H H') : Ext (hd2 p D H) (hd2 p D H') := hd2_kp fun b o _ h => k b o h
theorem hd2_upd {p D : Addr} {H : Hp} {o : HO} : hd2 p D (upd H D o) = hd2 p D H := by
  funext b
  unfold hd2
  split
  · rfl
  · rename_i n
    rw [upd_ne fun z => n (.inr z)]
theorem hd2_tup {p D a : Addr} {H : Hp} {xs ys zs : List V} (h : H a = some (.tup xs)) (hp : H p = some (.lst ys)) (hD : H D = some (.lst zs)) : hd2 p D H a = some (.tup xs) := by
  rw [hd2_ne]
  · exact h
  · intro z
    rw [z, hp] at h
    cases h
  · intro z
    rw [z, hD] at h
    cases h
theorem hd2_new {p D a : Addr} {H : Hp} {o o1 o2 : HO} (hp : H p = some o1) (hD : H D = some o2) (ha : H a = none) : hd2 p D (upd H a o) a = some o := by
  rw [hd2_ne]
  · exact upd_same
  · intro z
    rw [z, hp] at ha
    cases ha
  · intro z
    rw [z, hD] at ha
    cases ha
/-! ### repr of anything -/
def rShowE (K : PySem.W.Frag) : List V → Hp → VK → Prop := fun xs H Q => ∃ (v : V) (d : PyData), xs = [v] ∧ Dz H v d ∧ (Bg 141 20000 3 d ∨ d = .dict []) ∧ Q (.str d.shown) H
theorem call_showE (K : PySem.W.Frag) {X : Cx} (hg : X.A.guards = some []) (hu : X.A.units + 64 < cLine) (hK : X.K = K := by rfl) : CallR X (.builtin "repr") (rShowE K) := by
  subst hK
  intro pins s σ H xs us Q I r h
  obtain ⟨v, d, rfl, hd, hs, q⟩ := h
  rcases hd with hd | ⟨a, rfl, hA, rfl⟩
  · have hs : Bg 141 20000 3 d := hs.elim id fun e => by
      subst e
      cases hd
    exact call_showB X.K hg hu rfl pins s σ H _ us Q I r ⟨v, d, 141, 20000, 3, rfl, hd.dp, hs, by decide, by decide, by decide, q⟩
  · obtain ⟨u, rfl, rfl⟩ := vals1 r
    obtain ⟨_, hsys, vs, rel, od, es, ep, h1, h2, h3, _, h5, _⟩ := dk_of I.hok hA
    cases rel
    have hes : es.toList = [] := List.length_eq_zero_iff.mp h5.length
    have rb : Reads s.heap (.ref a) (.dict []) (a :: [] ++ []) := Reads.dict h1 h2.1 h3 (by rw [hes]; exact .nil) (by rw [hes]; exact .nil)
    refine PySem.repr_of_reads' rb ?_ (fun _ z => ?_) hg ?_ (fun _ _ e => e) (fun h' u tk keep => ⟨.str _, H, I.kept keep, ⟨_, rfl⟩, q⟩) ?_
    · simp [PyData.showable, PyData.showableKv]
    · have e : sysModules = a := by simpa using z
      rw [← e] at hsys
      cases hsys
    · simp only [PyData.depth, PyData.depthKv]
      omega
    · have e1 : (dictText []).length = 2 := by decide +kernel
      simp only [PyData.shown, PyData.shownKv]
      rw [e1]
      decide
/-! ### parts and sums of plain tuples -/
def rSlN : V → Option Int → Option Int → Hp → VK → Prop := fun x lo hi H Q => ∃ a xs, x = .ref a ∧ H a = some (.tup xs) ∧ ∀ p H', Ext H H' → H' p = some (.tup (cutV xs lo hi)) → Q (.ref p) H'
theorem slN (K : PySem.W.Frag) {X : Cx} (h : X.K = K := by rfl) : SlR X rSlN := fun pins s σ H x v vl vu lo hi sl Q I rx hs pl pu ⟨a, xs, ex, ha, q⟩ => by
  refine slA K h pins s σ H x v vl vu lo hi sl Q I rx hs pl pu ⟨a, xs, ex, SqT.of ha, fun z => q a H Ext.refl ?_, fun _ p hp => q p _ (Ext.new hp) upd_same⟩
  have e : cutV xs lo hi = xs := by
    unfold cutV
    rw [z.1, z.2, List.drop_zero, Nat.sub_zero, List.take_length]
  rw [e]
  exact ha
def rCatN : R2 := fun x y H Q => ∃ a b xs ys, x = .ref a ∧ y = .ref b ∧ H a = some (.tup xs) ∧ H b = some (.tup ys) ∧ xs.length + ys.length ≤ sizeLine ∧ ∀ p H', Ext H H' → H' p = some (.tup (xs ++ ys)) → Q (.ref p) H'
theorem catN (K : PySem.W.Frag) {X : Cx} (h : X.K = K := by rfl) : OpR X (binaryOp .Add) rCatN := fun pins s σ H x y v u Q I rx ry ⟨a, b, xs, ys, ex, ey, ha, hb, hz, q⟩ => by
  refine catA K h pins s σ H x y v u Q I rx ry ⟨a, b, xs, ys, ex, ey, SqT.of ha, SqT.of hb, hz, fun z => q b H Ext.refl (by rw [z]; exact hb), fun _ z => q a H Ext.refl (by rw [z, List.append_nil]; exact ha), fun _ _ p hp => q p _ (Ext.new hp) upd_same⟩
end Pf


namespace Pf
open PySem PySem.Spec PyProof.Rows L2
/-! ### what is shown as a folding is one -/
def cL (x : Str) : List Nat := x.cps.toList
theorem cL_app (x y : Str) : cL (x ++ y) = cL x ++ cL y := by
  unfold cL
  rw [Str.cps_append, Array.toList_append]
def shL (d : PyData) : List Nat := cL d.shown
def jnL : List (List Nat) → List Nat
  | [] => []
  | [x] => x
  | x :: y :: r => x ++ 44 :: 32 :: jnL (y :: r)
theorem cL_join : ∀ ts : List Str, cL (Str.join ", " ts) = jnL (ts.map cL)
  | [] => rfl
  | [x] => rfl
  | x :: y :: r => by
    show cL (x ++ ", " ++ Str.join ", " (y :: r)) = cL x ++ 44 :: 32 :: jnL (cL y :: r.map cL)
    rw [cL_app, cL_app, cL_join (y :: r), List.append_assoc]
    rfl
theorem shownAll_map : ∀ ds : List PyData, (PyData.shownAll ds).map cL = ds.map shL
  | [] => by simp [PyData.shownAll]
  | d :: ds => by
    rw [PyData.shownAll, List.map_cons, List.map_cons, shownAll_map ds]
    rfl
theorem shownAll_len : ∀ ds : List PyData, (PyData.shownAll ds).length = ds.length
  | [] => by simp [PyData.shownAll]
  | d :: ds => by
    rw [PyData.shownAll, List.length_cons, List.length_cons, shownAll_len ds]
def endT (n : Nat) : List Nat := if n = 1 then [44, 41] else [41]
theorem shL_tup (ds : List PyData) : shL (.tuple ds) = 40 :: (jnL (ds.map shL) ++ endT ds.length) := by
  unfold shL
  rw [PyData.shown, tupleText, cL_app, cL_app, cL_join, shownAll_map, shownAll_len]
  unfold endT
  by_cases h : ds.length = 1
  · rw [if_pos h, if_pos (by simp [h])]
    rfl
  · rw [if_neg h, if_neg (by simp [h])]
    rfl
theorem foldl_head (q : Nat) (f : Nat → List Nat) : ∀ (l : List Nat) (acc : Array Nat), (∃ t, acc.toList = q :: t) → ∃ t, (l.foldl (fun out c => out ++ (f c).toArray) acc).toList = q :: t
  | [], acc, h => h
  | c :: r, acc, ⟨t, h⟩ => by
    rw [List.foldl_cons]
    refine foldl_head q f r _ ⟨t ++ f c, ?_⟩
    rw [Array.toList_append, h]
    rfl
theorem textFrom_pre : ∀ (ts : List Str) (k : Nat) (acc : Str), ∃ t, cL (textFrom k acc ts) = cL acc ++ t
  | [], k, acc => ⟨[], (List.append_nil _).symm⟩
  | x :: ts, k, acc => by
    obtain ⟨t, h⟩ := textFrom_pre ts (k + 1) (acc ++ (if k > 0 then ", " else "" : String) ++ x)
    rw [cL_app, cL_app, List.append_assoc, List.append_assoc] at h
    exact ⟨_, h⟩
/-- how a thing that is shown begins -/
inductive Beg : PyData → Nat → Prop where
  | non : Beg .none 78
  | yes : Beg (.bool true) 84
  | no : Beg (.bool false) 70
  | neg {i : Int} (h : i < 0) : Beg (.int i) 45
  | str1 (x : Str) : Beg (.str x) 39
  | str2 (x : Str) : Beg (.str x) 34
  | lst (ds : List PyData) : Beg (.list ds) 91
  | tup (ds : List PyData) : Beg (.tuple ds) 40
  | dict (ks : List (PyData × PyData)) : Beg (.dict ks) 123
theorem quote_is (x : Str) : reprQuote x = 39 ∨ reprQuote x = 34 := by
  unfold reprQuote
  split
  · exact .inr rfl
  · exact .inl rfl
theorem shL_int (n : Nat) : shL (.int (n : Int)) = TL.numL n := TL.tl_num n
theorem shL_beg (d : PyData) : (∃ n : Nat, d = .int n ∧ shL d = TL.numL n) ∨ ∃ c t, Beg d c ∧ shL d = c :: t := by
  cases d with
  | none => exact .inr ⟨78, [111, 110, 101], .non, by simp only [shL, PyData.shown]; decide +kernel⟩
  | bool b =>
    cases b with
    | true => exact .inr ⟨84, [114, 117, 101], .yes, by simp only [shL, PyData.shown]; decide +kernel⟩
    | false => exact .inr ⟨70, [97, 108, 115, 101], .no, by simp only [shL, PyData.shown]; decide +kernel⟩
  | int i =>
    cases i with
    | ofNat n => exact .inl ⟨n, rfl, shL_int n⟩
    | negSucc n =>
      refine .inr ⟨45, cL (Str.ofString (Nat.repr (n + 1))), .neg (Int.negSucc_lt_zero n), ?_⟩
      unfold shL
      rw [PyData.shown]
      have e : toString (Int.negSucc n) = "-" ++ Nat.repr (n + 1) := rfl
      rw [e, Str.ofString_eq_toList, Str.ofString_eq_toList]
      unfold cL
      rw [String.toList_append, List.map_append]
      rfl
  | str x =>
    obtain ⟨t, h⟩ := foldl_head (reprQuote x) (Builtin.Str.reprChar (reprQuote x)) x.cps.toList #[reprQuote x] ⟨[], rfl⟩
    have e : shL (.str x) = reprQuote x :: (t ++ [reprQuote x]) := by
      unfold shL cL
      rw [PyData.shown]
      unfold reprText
      show (Array.push _ _).toList = _
      rw [Array.toList_push, ← Array.foldl_toList, h]
      rfl
    rcases quote_is x with q | q
    · rw [q] at e
      exact .inr ⟨_, _, .str1 x, e⟩
    · rw [q] at e
      exact .inr ⟨_, _, .str2 x, e⟩
  | list ds =>
    obtain ⟨t, h⟩ := textFrom_pre (PyData.shownAll ds) 0 "["
    refine .inr ⟨91, t ++ [93], .lst ds, ?_⟩
    unfold shL
    rw [PyData.shown]
    unfold listText
    rw [cL_app, h]
    rfl
  | tuple ds => exact .inr ⟨40, _, .tup ds, shL_tup ds⟩
  | dict ks =>
    refine .inr ⟨123, cL (Str.join ", " (PyData.shownKv ks)) ++ [125], .dict ks, ?_⟩
    unfold shL
    rw [PyData.shown]
    unfold dictText
    rw [cL_app, cL_app]
    rfl

/-- digits, then something else, are read one way -/
theorem digs_eq : ∀ {a b s s' : List Nat}, (∀ c ∈ a, 48 ≤ c ∧ c ≤ 57) → (∀ c ∈ b, 48 ≤ c ∧ c ≤ 57) → (∀ c t, s = c :: t → c < 48) → (∀ c t, s' = c :: t → c < 48) → a ++ s = b ++ s' → a = b ∧ s = s'
  | [], [], s, s', _, _, _, _, h => ⟨rfl, h⟩
  | [], c :: b, s, s', _, hb, hs, _, h => by
    have h1 := hs c (b ++ s') h
    have h2 := hb c (List.mem_cons_self ..)
    omega
  | c :: a, [], s, s', ha, _, _, hs', h => by
    have h1 := hs' c (a ++ s) h.symm
    have h2 := ha c (List.mem_cons_self ..)
    omega
  | c :: a, e :: b, s, s', ha, hb, hs, hs', h => by
    injection h with h1 h2
    obtain ⟨h3, h4⟩ := digs_eq (fun x hx => ha x (List.mem_cons_of_mem _ hx)) (fun x hx => hb x (List.mem_cons_of_mem _ hx)) hs hs' h2
    exact ⟨by rw [h1, h3], h4⟩
theorem num_head (n : Nat) : ∃ c t, TL.numL n = c :: t ∧ 48 ≤ c ∧ c ≤ 57 := by
  cases e : TL.numL n with
  | nil => exact absurd e (TL.numL_ne n)
  | cons c t =>
    have h := TL.numL_digits n c (by rw [e]; exact List.mem_cons_self ..)
    exact ⟨c, t, rfl, h.1, h.2⟩
theorem beg_digit {d : PyData} {c : Nat} (h : Beg d c) : ¬ (48 ≤ c ∧ c ≤ 57) := by
  cases h <;> omega
/-- a number -/
theorem sh_int {d : PyData} {n : Nat} {s s' : List Nat} (hs : ∀ c t, s = c :: t → c < 48) (hs' : ∀ c t, s' = c :: t → c < 48) (h : shL d ++ s = TL.numL n ++ s') : d = .int n ∧ s = s' := by
  rcases shL_beg d with ⟨m, rfl, e⟩ | ⟨c, t, hb, e⟩
  · rw [e] at h
    obtain ⟨h1, h2⟩ := digs_eq (TL.numL_digits m) (TL.numL_digits n) hs hs' h
    rw [TL.numL_inj h1]
    exact ⟨rfl, h2⟩
  · obtain ⟨c2, t2, e2, b1, b2⟩ := num_head n
    rw [e, e2] at h
    injection h with h1 _
    subst h1
    exact absurd ⟨b1, b2⟩ (beg_digit hb)
theorem beg_tup {d : PyData} (h : Beg d 40) : ∃ ds, d = .tuple ds := by
  cases h
  exact ⟨_, rfl⟩
theorem sh_open {d : PyData} {s t : List Nat} (h : shL d ++ s = 40 :: t) : ∃ ds, d = .tuple ds := by
  rcases shL_beg d with ⟨m, rfl, e⟩ | ⟨c, t, hb, e⟩
  · obtain ⟨c2, t2, e2, b1, b2⟩ := num_head m
    rw [e, e2] at h
    injection h with h1 _
    omega
  · rw [e] at h
    injection h with h1 _
    rw [h1] at hb
    exact beg_tup hb
/-- what is shown is not nothing, and begins as no end does -/
theorem sh_first (d : PyData) : ∃ c t, shL d = c :: t ∧ c ≠ 41 ∧ c ≠ 44 ∧ c ≠ 32 := by
  rcases shL_beg d with ⟨m, rfl, e⟩ | ⟨c, t, hb, e⟩
  · obtain ⟨c2, t2, e2, b1, b2⟩ := num_head m
    exact ⟨c2, t2, e.trans e2, by omega, by omega, by omega⟩
  · exact ⟨c, t, e, by cases hb <;> decide, by cases hb <;> decide, by cases hb <;> decide⟩
def dT2 (y : Nat × Nat) : PyData := .tuple [.int (y.1 : Int), .int (y.2 : Int)]
theorem shL_two (y : Nat × Nat) : shL (dT2 y) = 40 :: (TL.numL y.1 ++ 44 :: 32 :: (TL.numL y.2 ++ [41])) := by
  show shL (.tuple [.int (y.1 : Int), .int (y.2 : Int)]) = _
  rw [shL_tup]
  show 40 :: ((shL (.int (y.1 : Int)) ++ 44 :: 32 :: shL (.int (y.2 : Int))) ++ [41]) = _
  rw [shL_int, shL_int]
  simp
/-- two numbers in a tuple -/
theorem sh_two {d : PyData} {y : Nat × Nat} {s s' : List Nat} (h : shL d ++ s = shL (dT2 y) ++ s') : d = dT2 y ∧ s = s' := by
  rw [shL_two] at h
  obtain ⟨ds, rfl⟩ := sh_open h
  rw [shL_tup] at h
  have h : jnL (ds.map shL) ++ endT ds.length ++ s = TL.numL y.1 ++ 44 :: 32 :: (TL.numL y.2 ++ [41]) ++ s' := by
    injection h
  obtain ⟨c1, t1, e1, a1, a2⟩ := num_head y.1
  obtain ⟨c2, t2, e2, b1, b2⟩ := num_head y.2
  match ds, h with
  | [], h =>
    rw [e1] at h
    have h : 41 :: s = c1 :: (t1 ++ 44 :: 32 :: (TL.numL y.2 ++ [41]) ++ s') := h
    injection h with h1 _
    omega
  | [d0], h =>
    have h : shL d0 ++ [44, 41] ++ s = TL.numL y.1 ++ 44 :: 32 :: (TL.numL y.2 ++ [41]) ++ s' := h
    rw [List.append_assoc, List.append_assoc] at h
    obtain ⟨_, h2⟩ := sh_int (fun c t e => by injection e with e _; omega) (fun c t e => by injection e with e _; omega) h
    injection h2 with _ h2
    injection h2 with h2 _
    cases h2
  | d0 :: d1 :: r, h =>
    have hj : jnL ((d0 :: d1 :: r).map shL) = shL d0 ++ 44 :: 32 :: jnL ((d1 :: r).map shL) := rfl
    rw [hj, List.append_assoc, List.append_assoc, List.append_assoc] at h
    obtain ⟨rfl, h2⟩ := sh_int (fun c t e => by injection e with e _; omega) (fun c t e => by injection e with e _; omega) h
    injection h2 with _ h2
    injection h2 with _ h2
    match r, h2 with
    | [], h2 =>
      have h2 : shL d1 ++ (41 :: s) = TL.numL y.2 ++ [41] ++ s' := h2
      rw [List.append_assoc] at h2
      obtain ⟨rfl, h3⟩ := sh_int (fun c t e => by injection e with e _; omega) (fun c t e => by injection e with e _; omega) h2
      injection h3 with _ h3
      exact ⟨rfl, h3⟩
    | d2 :: r, h2 =>
      have hj2 : jnL ((d1 :: d2 :: r).map shL) = shL d1 ++ 44 :: 32 :: jnL ((d2 :: r).map shL) := rfl
      rw [hj2] at h2
      have h2 : shL d1 ++ (44 :: 32 :: (jnL ((d2 :: r).map shL) ++ (endT (r.length + 1 + 1 + 1) ++ s))) = TL.numL y.2 ++ (41 :: s') := by
        simpa using h2
      obtain ⟨_, h3⟩ := sh_int (fun c t e => by injection e with e _; omega) (fun c t e => by injection e with e _; omega) h2
      injection h3 with h3 _
      cases h3
/-- more of them -/
theorem sh_more : ∀ {ds : List PyData} {ys : List (Nat × Nat)} {s s' : List Nat}, ds ≠ [] → ys ≠ [] → (jnL (ds.map shL) ++ 41 :: s = jnL (ys.map fun y => shL (dT2 y)) ++ 41 :: s') → ds = ys.map dT2
  | [], _, _, _, h, _, _ => absurd rfl h
  | _, [], _, _, _, h, _ => absurd rfl h
  | [d], [y], s, s', _, _, h => by
    obtain ⟨rfl, _⟩ := sh_two (d := d) (y := y) h
    rfl
  | [d], y :: z :: r, s, s', _, _, h => by
    have h : shL d ++ 41 :: s = shL (dT2 y) ++ (44 :: 32 :: (jnL ((z :: r).map fun y => shL (dT2 y)) ++ 41 :: s')) := by
      have hj : jnL ((y :: z :: r).map fun y => shL (dT2 y)) = shL (dT2 y) ++ 44 :: 32 :: jnL ((z :: r).map fun y => shL (dT2 y)) := rfl
      rw [hj, List.append_assoc] at h
      exact h
    obtain ⟨_, h2⟩ := sh_two h
    injection h2 with h2 _
    cases h2
  | d :: e :: r, [y], s, s', _, _, h => by
    have h : shL d ++ (44 :: 32 :: (jnL ((e :: r).map shL) ++ 41 :: s)) = shL (dT2 y) ++ 41 :: s' := by
      have hj : jnL ((d :: e :: r).map shL) = shL d ++ 44 :: 32 :: jnL ((e :: r).map shL) := rfl
      rw [hj, List.append_assoc] at h
      exact h
    obtain ⟨_, h2⟩ := sh_two h
    injection h2 with h2 _
    cases h2
  | d :: e :: r, y :: z :: q, s, s', _, _, h => by
    have h : shL d ++ (44 :: 32 :: (jnL ((e :: r).map shL) ++ 41 :: s)) = shL (dT2 y) ++ (44 :: 32 :: (jnL ((z :: q).map fun y => shL (dT2 y)) ++ 41 :: s')) := by
      have hj : jnL ((d :: e :: r).map shL) = shL d ++ 44 :: 32 :: jnL ((e :: r).map shL) := rfl
      have hj2 : jnL ((y :: z :: q).map fun y => shL (dT2 y)) = shL (dT2 y) ++ 44 :: 32 :: jnL ((z :: q).map fun y => shL (dT2 y)) := rfl
      rw [hj, hj2, List.append_assoc, List.append_assoc] at h
      exact h
    obtain ⟨rfl, h2⟩ := sh_two h
    injection h2 with _ h2
    injection h2 with _ h2
    have := sh_more (List.cons_ne_nil e r) (List.cons_ne_nil z q) h2
    rw [this]
    rfl
/-- a thing that is shown as a tuple of such is one -/
theorem sh_fold {d : PyData} {ys : List (Nat × Nat)} (h : d.shown = (PyData.tuple (ys.map dT2)).shown) : d = .tuple (ys.map dT2) := by
  have h : shL d = shL (.tuple (ys.map dT2)) := congrArg cL h
  have h0 := h
  rw [shL_tup] at h
  obtain ⟨ds, rfl⟩ := sh_open (s := []) (by rw [List.append_nil]; exact h)
  rw [shL_tup] at h
  have h : jnL (ds.map shL) ++ endT ds.length = jnL ((ys.map dT2).map shL) ++ endT (ys.map dT2).length := by injection h
  rw [List.map_map, List.length_map] at h
  have h : jnL (ds.map shL) ++ endT ds.length = jnL (ys.map fun y => shL (dT2 y)) ++ endT ys.length := h
  congr 1
  match ds, ys, h with
  | [], [], _ => rfl
  | [], [y], h =>
    rw [show jnL ([y].map fun y => shL (dT2 y)) = shL (dT2 y) from rfl, shL_two] at h
    have h : [41] = 40 :: _ := h
    injection h with h _
    cases h
  | [], y :: z :: r, h =>
    rw [show jnL ((y :: z :: r).map fun y => shL (dT2 y)) = shL (dT2 y) ++ 44 :: 32 :: jnL ((z :: r).map fun y => shL (dT2 y)) from rfl, shL_two] at h
    have h : [41] = 40 :: _ := h
    injection h with h _
    cases h
  | [d], [], h =>
    obtain ⟨c, t, e, c1, _⟩ := sh_first d
    have h : shL d ++ [44, 41] = [41] := h
    rw [e] at h
    injection h with h _
    exact absurd h c1
  | d :: e :: r, [], h =>
    obtain ⟨c, t, e1, c1, _⟩ := sh_first d
    have h : shL d ++ 44 :: 32 :: jnL ((e :: r).map shL) ++ endT (d :: e :: r).length = [41] := h
    rw [e1] at h
    injection h with h _
    exact absurd h c1
  | [d], [y], h =>
    obtain ⟨rfl, _⟩ := sh_two (d := d) (y := y) h
    rfl
  | [d], y :: z :: r, h =>
    have hj2 : jnL ((y :: z :: r).map fun y => shL (dT2 y)) = shL (dT2 y) ++ 44 :: 32 :: jnL ((z :: r).map fun y => shL (dT2 y)) := rfl
    rw [hj2, List.append_assoc] at h
    obtain ⟨_, h2⟩ := sh_two (d := d) (y := y) h
    injection h2 with _ h2
    injection h2 with h2 _
    cases h2
  | d :: e :: r, [y], h =>
    have hj : jnL ((d :: e :: r).map shL) = shL d ++ 44 :: 32 :: jnL ((e :: r).map shL) := rfl
    rw [hj, List.append_assoc] at h
    obtain ⟨_, h2⟩ := sh_two (d := d) (y := y) h
    injection h2 with _ h2
    injection h2 with h2 _
    cases h2
  | d :: e :: r, y :: z :: q, h =>
    have e1 : endT (d :: e :: r).length = [41] := if_neg (by simp)
    have e2 : endT (y :: z :: q).length = [41] := if_neg (by simp)
    rw [e1, e2] at h
    exact sh_more (List.cons_ne_nil _ _) (List.cons_ne_nil _ _) h
end Pf


namespace Pf
open PySem PySem.Spec PyProof.Rows L2 LamX
/-! ### who may pair; what is a folding, of things of any kind -/
def mayP (r : Rl) (x : Str) (i j : Int) : Bool := decide (0 ≤ i ∧ i < j ∧ j < x.length) && mayC r x i j
def whD : PyData → Bool
  | .int _ => true
  | _ => false
theorem whD_is (d : PyData) : whD d = (isIntB d && !isBl d) := by cases d <;> rfl
def rowD (n : Int) : PyData → Bool
  | .tuple ds => decide ((ds.length : Int) = n)
  | _ => false
def prD (r : Rl) (x : Str) (d : PyData) : Bool := match twoD d with
  | some y => mayP r x y.1 y.2
  | none => false
def restF (qs : List (Int × Int)) : Bool := (risL qs).all id && (goL qs).all id
def foD (r : Rl) (x : Str) (d : PyData) : Bool := match d with
  | .tuple ds => match ds.mapM twoD with
    | some qs => (qs.map fun y => mayP r x y.1 y.2).all id && restF qs
    | none => false
  | _ => false
theorem two_no {d e : PyData} (h : whD d = false ∨ whD e = false) : twoD (.tuple [d, e]) = none := by
  unfold twoD
  split
  · rename_i h2
    cases h2
    rcases h with h | h <;> cases h
  · rfl
theorem ds_pair {H : Hp} {xs : List V} {ds : List PyData} (h : DsAll H xs ds) (hl : ds.length = 2) : ∃ u0 u1 d0 d1, xs = [u0, u1] ∧ ds = [d0, d1] ∧ Ds H u0 d0 ∧ Ds H u1 d1 := by
  cases h with
  | nil => cases hl
  | cons h0 h =>
    cases h with
    | nil => cases hl
    | cons h1 h =>
      cases h with
      | nil => exact ⟨_, _, _, _, rfl, rfl, h0, h1⟩
      | cons _ _ => simp at hl
theorem all_prD {r : Rl} {x : Str} : ∀ {ds : List PyData}, (ds.map (prD r x)).all id = true → ∃ qs, ds.mapM twoD = some qs ∧ (qs.map fun y => mayP r x y.1 y.2).all id = true
  | [], _ => ⟨[], List.mapM_nil, rfl⟩
  | d :: ds, h => by
    rw [List.map_cons, List.all_cons, Bool.and_eq_true] at h
    obtain ⟨qs, h1, h2⟩ := all_prD h.2
    cases e : twoD d with
    | none =>
      have := h.1
      unfold prD at this
      rw [e] at this
      cases this
    | some y =>
      refine ⟨y :: qs, ?_, ?_⟩
      · rw [List.mapM_cons, e, h1]
        rfl
      · rw [List.map_cons, List.all_cons, h2, Bool.and_true]
        have := h.1
        unfold prD at this
        rw [e] at this
        exact this
theorem mapM_all {r : Rl} {x : Str} : ∀ {ds : List PyData} {qs : List (Int × Int)}, ds.mapM twoD = some qs → (qs.map fun y => mayP r x y.1 y.2).all id = (ds.map (prD r x)).all id
  | [], qs, e => by
    rw [List.mapM_nil] at e
    cases e
    rfl
  | d :: ds, qs, e => by
    rw [List.mapM_cons] at e
    cases h1 : twoD d with
    | none => rw [h1] at e; cases e
    | some y =>
      rw [h1] at e
      cases h3 : ds.mapM twoD with
      | none => rw [h3] at e; cases e
      | some q2 =>
        rw [h3] at e
        cases e
        rw [List.map_cons, List.map_cons, List.all_cons, List.all_cons, mapM_all h3]
        unfold prD
        rw [h1]
theorem fo_no {r : Rl} {x : Str} {ds : List PyData} (h : (ds.map (prD r x)).all id = false) : foD r x (.tuple ds) = false := by
  show (match ds.mapM twoD with | some qs => (qs.map fun y => mayP r x y.1 y.2).all id && restF qs | none => false) = false
  cases e : ds.mapM twoD with
  | none => rfl
  | some qs =>
    show ((qs.map fun y => mayP r x y.1 y.2).all id && restF qs) = false
    rw [mapM_all e, h, Bool.false_and]
theorem ds_twos {H : Hp} : ∀ {vs : List V} {ds : List PyData} {qs : List (Int × Int)}, DsAll H vs ds → ds.mapM twoD = some qs → Paired (TwoAt H) vs qs
  | _, _, qs, .nil, e => by
    rw [List.mapM_nil] at e
    cases e
    exact .nil
  | _, _, qs, .cons (v := v) (d := d) (ds := ds) h t, e => by
    rw [List.mapM_cons] at e
    cases h1 : twoD d with
    | none => rw [h1] at e; cases e
    | some y =>
      rw [h1] at e
      cases h3 : ds.mapM twoD with
      | none => rw [h3] at e; cases e
      | some q2 =>
        rw [h3] at e
        cases e
        refine .cons ?_ (ds_twos t h3)
        have hd := twoD_some h1
        subst hd
        cases h with
        | tup ha hds =>
          obtain ⟨u0, u1, d0, d1, rfl, e2, k0, k1⟩ := ds_pair hds rfl
          cases e2
          cases k0
          cases k1
          exact ⟨_, rfl, ha⟩
section
variable {P : Program} {w : World} {K : PySem.W.Frag} {mg : Str → Option Value} {base : Heap}
def spMPS : Sp := fun vs H Q _ => ∃ (v : V) (r : Rl) (x : Str) (i j : Int), vs = [v, .str x, .int i, .int j] ∧ RulesW H v r ∧ x.length ≤ 1000 ∧ ∀ H', Ext H H' → Q (.bl (mayP r x i j)) H'
theorem ok_mpS {f : Addr} {fd : FuncData} (F : Fun K "may_pair" "may_pair" s_may_pair f fd) (ctext_of : CTx P w K mg base) (cpair_worth : CPW P w K mg base) (mlen : mg "len" = none) : FnOk P w K mg base CX0 2 f fd ["rules", "string", "i", "j"] spMPS := by
  refine F.ok sc_may_pair (fun vs H Q E h => ?_) (fun cdv A outer s H vs Q E hr h => ?_)
  · obtain ⟨v, r, x, i, j, rfl, _⟩ := h
    rfl
  · obtain ⟨v, r, x, i, j, rfl, hR, hx, q⟩ := h
    obtain ⟨a, vp, vl, vs, rfl, hA, hp, hl, hs⟩ := id hR
    refine ⟨_, (pss_cons (ps_if (pt_not (pt_chain3 op_le op_lt op_lt pe_int (pv 2) (pv 3) (pe_callB call_len_str (by rfl) mlen (by decide +kernel) (pa_cons (pv 1) pa_nil)))) (pss_one (ps_ret pe_bl)) pss_nil)
      (pss_cons (ps_if (pt_cmpR op_lt (pe_op op_sub (pe_op op_sub (pv 3) (pv 2)) pe_int) (pe_ix (ixT K) (pv 0) pe_int (fun _ _ => rfl)) (nomark _)) (pss_one (ps_ret pe_bl)) pss_nil)
      (pss_one (ps_ret (pe_cmpR op_notN (pe_ca cpair_worth (hr.mono (by decide)) (by rfl) (pa_cons (pv 0) (pa_cons (pe_ca ctext_of (hr.mono (by decide)) (by rfl) (pa_cons (pv 1) (pa_cons (pe_tup (pa_cons (pv 2) (pa_cons (pv 3) pa_nil))) pa_nil))) pa_nil))) pe_non (nomark _)))))), ?_⟩
    have qF : ¬ (0 ≤ i ∧ i < j ∧ j < x.length) → Q (.bl false) H := fun h => by
      have e : mayP r x i j = false := by
        unfold mayP
        rw [decide_eq_false h]
        rfl
      rw [← e]
      exact q H Ext.refl
    refine ⟨_, rfl, 0, i, rfl, rfl, _, rfl, ite2 (fun e1 => ?_) (fun e1 => ?_)⟩
    · have e1 : 0 ≤ i := of_decide_eq_true e1
      refine ⟨_, rfl, i, j, rfl, rfl, _, rfl, ite2 (fun e2 => ?_) (fun e2 => ?_)⟩
      · have e2 : i < j := of_decide_eq_true e2
        refine ⟨_, rfl, x, rfl, szL (by omega), _, _, rfl, rfl, _, rfl, ?_⟩
        by_cases e3 : j < x.length
        · rw [decide_eq_true e3]
          refine iteF ⟨_, rfl, _, rfl, _, _, rfl, rfl, _, 1, rfl, rfl, _, rfl, a, _, 2, _, rfl, rfl, SqT.of hA, rfl, _, _, rfl, rfl, _, rfl, ite2 (fun e4 => ?_) (fun e4 => ?_)⟩
          · have e4 : j - i - 1 < r.span := of_decide_eq_true e4
            have e : mayP r x i j = false := by
              unfold mayP mayC
              rw [decide_eq_false (show ¬ r.span < j - i by omega), Bool.false_and, Bool.and_false]
            have := q H Ext.refl
            rw [e] at this
            exact this
          · have e4 : ¬ j - i - 1 < r.span := fun z => e4 (decide_eq_true z)
            refine ⟨_, rfl, _, rfl, _, rfl, _, rfl, szL (show 2 ≤ 1000000 by decide), fun t ht => ?_⟩
            refine ⟨x, t, (i, j), rfl, upd_same, hx, e1, (show i < x.length by omega), (show 0 ≤ j by omega), e3, ?_⟩
            refine ⟨_, r, _, rfl, RulesW.mono _ _ _ _ (TupK.new ht) hR, rfl, ?_⟩
            have e : mayP r x i j = !decide (pwV r.prs (tx2 x (i, j)) = .non) := by
              unfold mayP mayC
              rw [decide_eq_true (show 0 ≤ i ∧ i < j ∧ j < x.length from ⟨e1, e2, e3⟩), decide_eq_true (show r.span < j - i by omega), Bool.true_and, Bool.true_and, pwV_is]
            have := q _ (Ext.new (o := .tup [.int i, .int j]) ht)
            rw [e] at this
            exact this
        · rw [decide_eq_false e3]
          exact iteT (qF fun h => e3 h.2.2)
      · refine ⟨_, rfl, ?_⟩
        exact iteT (qF fun h => e2 (decide_eq_true h.2.1))
    · refine ⟨_, rfl, ?_⟩
      exact iteT (qF fun h => e1 (decide_eq_true h.1))
abbrev CMPS (P : Program) (w : World) (K : PySem.W.Frag) (mg : Str → Option Value) (base : Heap) : Prop := Ca P w K mg base 2 "may_pair" ["rules", "string", "i", "j"] spMPS
def spWhS (K : PySem.W.Frag) : Sp := fun vs H Q _ => ∃ (v : V) (d : PyData), vs = [v] ∧ TyX K H v (.type (tyD d)) ∧ Q (.bl (whD d)) H
theorem ok_whS {f : Addr} {fd : FuncData} {k : Nat} (F : Fun K "is_whole" "is_whole" s_is_whole f fd) (misinstance : mg "isinstance" = none) (mint : mg "int" = none) (mbool : mg "bool" = none) : FnOk P w K mg base CX0 (k + 1) f fd ["thing"] (spWhS K) := by
  refine F.ok sc_is_whole (fun vs H Q E h => ?_) (fun cdv A outer s H vs Q E hr h => ?_)
  · obtain ⟨v, d, rfl, _⟩ := h
    rfl
  · obtain ⟨v, d, rfl, hd, q⟩ := h
    refine ⟨_, (pss_one (ps_ret (pe_and (pe_callB (isi1 K) (by rfl) misinstance (by decide +kernel) (pa_cons (pv 0) (pa_cons (pe_bltn (v := .ty "int") (by rfl) mint (by decide +kernel) rfl) pa_nil))) (pe_one (pe_not (pe_callB (isi1 K) (by rfl) misinstance (by decide +kernel) (pa_cons (pv 0) (pa_cons (pe_bltn (v := .ty "bool") (by rfl) mbool (by decide +kernel) rfl) pa_nil)))))))), ?_⟩
    rw [whD_is] at q
    refine ⟨_, rfl, v, .ty "int", _, _, isIntB d, rfl, .ty _, hd, kit_int d, isIntB d, rfl, ite2 (fun e => ?_) (fun e => ?_)⟩
    · rw [e, Bool.true_and] at q
      exact ⟨_, rfl, v, .ty "bool", _, _, isBl d, rfl, .ty _, hd, kit_bool d, isBl d, rfl, q⟩
    · have e : isIntB d = false := by simpa using e
      rw [e, Bool.false_and] at q
      exact q
abbrev CWhS (P : Program) (w : World) (K : PySem.W.Frag) (mg : Str → Option Value) (base : Heap) : Prop := Ca P w K mg base 1 "is_whole" ["thing"] (spWhS K)
def spRowS : Sp := fun vs H Q _ => ∃ (v : V) (d : PyData) (n : Int), vs = [v, .int n] ∧ Ds H v d ∧ Q (.bl (rowD n d)) H
theorem ok_rowS {f : Addr} {fd : FuncData} {k : Nat} (F : Fun K "is_row" "is_row" s_is_row f fd) (misinstance : mg "isinstance" = none) (mtuple : mg "tuple" = none) (mlen : mg "len" = none) : FnOk P w K mg base CX0 (k + 1) f fd ["thing", "size"] spRowS := by
  refine F.ok sc_is_row (fun vs H Q E h => ?_) (fun cdv A outer s H vs Q E hr h => ?_)
  · obtain ⟨v, d, n, rfl, _⟩ := h
    rfl
  · obtain ⟨v, d, n, rfl, hd, q⟩ := h
    refine ⟨_, (pss_one (ps_ret (pe_and (pe_callB (isi1 K) (by rfl) misinstance (by decide +kernel) (pa_cons (pv 0) (pa_cons (pe_bltn (v := .ty "tuple") (by rfl) mtuple (by decide +kernel) rfl) pa_nil))) (pe_one (pe_cmpR op_eq (pe_callB (lenQ K) (by rfl) mlen (by decide +kernel) (pa_cons (pv 0) pa_nil)) (pv 1) (nomark _)))))), ?_⟩
    refine ⟨_, rfl, v, .ty "tuple", _, _, isTup d, rfl, .ty _, (Dq.dp (K := K) hd.dp).ty, kit_tup d, isTup d, rfl, ite2 (fun e => ?_) (fun e => ?_)⟩
    · cases hd with
      | @tup a xs ds hs hds =>
        refine ⟨_, rfl, _, _, rfl, .inr (SqT.of hs), _, rfl, rfl, ?_⟩
        have e2 : decide ((V.int (xs.length : Nat)) = V.int n) = decide ((ds.length : Int) = n) := by
          rw [dsAll_len hds]
          exact decide_eq_decide.mpr ⟨V.int.inj, congrArg V.int⟩
        rw [e2]
        exact q
      | _ => cases e
    · have e : isTup d = false := by simpa using e
      cases d with
      | tuple ds => cases e
      | _ => exact q
abbrev CRowS (P : Program) (w : World) (K : PySem.W.Frag) (mg : Str → Option Value) (base : Heap) : Prop := Ca P w K mg base 1 "is_row" ["thing", "size"] spRowS
def spIPS : Sp := fun vs H Q _ => ∃ (v t : V) (r : Rl) (x : Str) (d : PyData), vs = [v, .str x, t] ∧ RulesW H v r ∧ x.length ≤ 1000 ∧ Ds H t d ∧ ∀ H', Ext H H' → Q (.bl (prD r x d)) H'
theorem ok_ipS {f : Addr} {fd : FuncData} (F : Fun K "is_pair" "is_pair" s_is_pair f fd) (cis_row : CRowS P w K mg base) (cis_whole : CWhS P w K mg base) (cmay_pair : CMPS P w K mg base) : FnOk P w K mg base CX0 3 f fd ["rules", "string", "thing"] spIPS := by
  refine F.ok sc_is_pair (fun vs H Q E h => ?_) (fun cdv A outer s H vs Q E hr h => ?_)
  · obtain ⟨v, t, r, x, d, rfl, _⟩ := h
    rfl
  · obtain ⟨v, t, r, x, d, rfl, hR, hx, hd, q⟩ := h
    refine ⟨_, (pss_cons (ps_if (PW.pt (pw_or (pt_not (pt_val (pe_ca cis_row (hr.mono (by decide)) (by rfl) (pa_cons (pv 2) (pa_cons pe_int pa_nil))))) (pw_or (pt_not (pt_val (pe_ca cis_whole (hr.mono (by decide)) (by rfl) (pa_cons (pe_ix (ixT K) (pv 2) pe_int (fun _ _ => rfl)) pa_nil)))) (pw_or1 (pt_not (pt_val (pe_ca cis_whole (hr.mono (by decide)) (by rfl) (pa_cons (pe_ix (ixT K) (pv 2) pe_int (fun _ _ => rfl)) pa_nil)))))))) (pss_one (ps_ret pe_bl)) pss_nil)
      (pss_one (ps_ret (pe_ca cmay_pair (hr.mono (by decide)) (by rfl) (pa_cons (pv 0) (pa_cons (pv 1) (pa_cons (pe_ix (ixT K) (pv 2) pe_int (fun _ _ => rfl)) (pa_cons (pe_ix (ixT K) (pv 2) pe_int (fun _ _ => rfl)) pa_nil)))))))), ?_⟩
    have qF : twoD d = none → Q (.bl false) H := fun e => by
      have := q H Ext.refl
      unfold prD at this
      rw [e] at this
      exact this
    refine ⟨_, rfl, t, d, 2, rfl, hd, rowD 2 d, rfl, ?_⟩
    cases hrow : rowD 2 d with
    | false =>
      refine iteT (qF ?_)
      unfold twoD
      split
      · cases hrow
      · rfl
    | true =>
      refine iteF ?_
      cases hd with
      | @tup a xs ds hs hds =>
        have hl : ds.length = 2 := by
          have : decide ((ds.length : Int) = 2) = true := hrow
          have := of_decide_eq_true this
          omega
        obtain ⟨u0, u1, d0, d1, rfl, rfl, h0, h1⟩ := ds_pair hds hl
        refine ⟨_, rfl, a, _, 0, u0, rfl, rfl, SqT.of hs, rfl, u0, d0, rfl, (Dq.dp (K := K) h0.dp).ty, whD d0, rfl, ?_⟩
        cases e0 : whD d0 with
        | false => exact iteT (qF (two_no (.inl e0)))
        | true =>
          refine iteF ⟨_, rfl, a, _, 1, u1, rfl, rfl, SqT.of hs, rfl, u1, d1, rfl, (Dq.dp (K := K) h1.dp).ty, whD d1, rfl, ?_⟩
          cases e1 : whD d1 with
          | false => exact iteT (qF (two_no (.inr e1)))
          | true =>
            cases h0 with
            | int i =>
              cases h1 with
              | int j => exact iteF ⟨_, rfl, _, rfl, _, rfl, a, _, 0, _, rfl, rfl, SqT.of hs, rfl, _, rfl, a, _, 1, _, rfl, rfl, SqT.of hs, rfl, v, r, x, i, j, rfl, hR, hx, q⟩
              | _ => cases e1
            | _ => cases e0
      | _ => cases hrow
abbrev CIPS (P : Program) (w : World) (K : PySem.W.Frag) (mg : Str → Option Value) (base : Heap) : Prop := Ca P w K mg base 3 "is_pair" ["rules", "string", "thing"] spIPS
end
end Pf


namespace Pf
open PySem PySem.Spec PyProof.Rows L2 LamX
theorem pw_ris : ∀ {qs : List (Int × Int)}, (risL qs).all id = true → qs.Pairwise fun a b => lt2 a b = true
  | [], _ => .nil
  | [_], _ => List.pairwise_singleton _ _
  | a :: b :: r, h => by
    have h : (lt2 a b && (risL (b :: r)).all id) = true := h
    rw [Bool.and_eq_true] at h
    have ih := pw_ris h.2
    refine List.pairwise_cons.mpr ⟨fun y hy => ?_, ih⟩
    rcases List.mem_cons.mp hy with rfl | hy
    · exact h.1
    · have h2 := of_decide_eq_true ((List.pairwise_cons.mp ih).1 y hy)
      have h1 := of_decide_eq_true h.1
      exact decide_eq_true (by omega)
theorem pw_go : ∀ {qs : List (Int × Int)}, (goL qs).all id = true → qs.Pairwise fun a b => go2 a b = true
  | [], _ => .nil
  | a :: r, h => by
    rw [goL, List.all_append, Bool.and_eq_true, List.all_map, List.all_eq_true] at h
    exact List.pairwise_cons.mpr ⟨fun y hy => h.1 y hy, pw_go h.2⟩
theorem fo4_rest {r : Rl} {x : Str} {qs : Fo} (h : (qs.map fun y => mayP r x y.1 y.2).all id = true) (h2 : restF qs = true) : Fo4 r x 0 x.length qs := by
  have hm : ∀ y ∈ qs, mayP r x y.1 y.2 = true := fun y hy => by
    rw [List.all_map, List.all_eq_true] at h
    exact h y hy
  have hin : ∀ y ∈ qs, 0 ≤ y.1 ∧ y.1 < y.2 ∧ y.2 < x.length := fun y hy => by
    have := hm y hy
    unfold mayP at this
    rw [Bool.and_eq_true] at this
    exact of_decide_eq_true this.1
  have hmay : ∀ y ∈ qs, mayC r x y.1 y.2 = true := fun y hy => by
    have := hm y hy
    unfold mayP at this
    rw [Bool.and_eq_true] at this
    exact this.2
  unfold restF at h2
  rw [Bool.and_eq_true] at h2
  have h3 := (pw_ris h2.1).and (pw_go h2.2)
  have ap : qs.Pairwise fun a b => a.1 < b.1 ∧ (a.2 < b.1 ∨ b.2 < a.2) := by
    refine h3.imp_of_mem fun {a b} ha hb h => ?_
    have ha := hin a ha
    have hb := hin b hb
    have h1 := of_decide_eq_true h.1
    have h2 : (decide (a.2 < b.1) || decide (b.2 < a.2)) = true := h.2
    rw [Bool.or_eq_true, decide_eq_true_iff, decide_eq_true_iff] at h2
    exact ⟨by omega, h2⟩
  refine ⟨ap.imp fun h => h.1, hin, hmay, ?_⟩
  intro y hy z hz hlt
  obtain ⟨i, hi, ei⟩ := List.getElem_of_mem hy
  obtain ⟨j, hj, ej⟩ := List.getElem_of_mem hz
  have hij : i < j := by
    rcases Nat.lt_trichotomy i j with c | c | c
    · exact c
    · subst c
      rw [ei] at ej
      subst ej
      omega
    · have := List.pairwise_iff_getElem.mp ap j i hj hi c
      rw [ei, ej] at this
      omega
  have := (List.pairwise_iff_getElem.mp ap i j hi hj hij).2
  rw [ei, ej] at this
  omega
theorem mapM_is : ∀ {ds : List PyData} {qs : List (Int × Int)}, ds.mapM twoD = some qs → ds = qs.map dTwo
  | [], qs, e => by
    rw [List.mapM_nil] at e
    cases e
    rfl
  | d :: ds, qs, e => by
    rw [List.mapM_cons] at e
    cases h1 : twoD d with
    | none => rw [h1] at e; cases e
    | some y =>
      rw [h1] at e
      cases h3 : ds.mapM twoD with
      | none => rw [h3] at e; cases e
      | some q2 =>
        rw [h3] at e
        cases e
        rw [List.map_cons, mapM_is h3, twoD_some h1]
        rfl
theorem mapM_dTwo : ∀ qs : Fo, (qs.map dTwo).mapM twoD = some qs
  | [] => List.mapM_nil
  | y :: qs => by
    rw [List.map_cons, List.mapM_cons, mapM_dTwo qs]
    rfl
/-- a thing is a folding just where it is one of all -/
theorem foD_yes {r : Rl} {x : Str} {d : PyData} (h : foD r x d = true) : ∃ q ∈ WA r x x.length 0, d = dFo q := by
  unfold foD at h
  split at h
  · rename_i ds
    split at h
    · rename_i qs e
      rw [Bool.and_eq_true] at h
      refine ⟨qs, of_fo4 r x x.length 0 qs (by rw [Int.zero_add]; exact fo4_rest h.1 h.2), ?_⟩
      rw [mapM_is e]
      rfl
    · cases h
  · cases h
theorem foD_of {r : Rl} {x : Str} {q : Fo} (h : q ∈ WA r x x.length 0) : foD r x (dFo q) = true := by
  have f4 : Fo4 r x 0 x.length q := by
    have := fo4_of r x x.length 0 q h
    rw [Int.zero_add] at this
    exact this
  show (match (q.map dTwo).mapM twoD with | some qs => (qs.map fun y => mayP r x y.1 y.2).all id && restF qs | none => false) = true
  rw [mapM_dTwo]
  show ((q.map fun y => mayP r x y.1 y.2).all id && restF q) = true
  have hF := isF_true f4
  unfold isF at hF
  rw [Bool.and_eq_true] at hF
  have h1 : (q.map fun y => mayP r x y.1 y.2).all id = true := by
    rw [List.all_map, List.all_eq_true]
    intro y hy
    show mayP r x y.1 y.2 = true
    unfold mayP
    rw [f4.may y hy, decide_eq_true (f4.inn y hy)]
    rfl
  rw [h1, Bool.true_and]
  exact hF.2
section
variable {P : Program} {w : World} {K : PySem.W.Frag} {mg : Str → Option Value} {base : Heap}
def spIFS : Sp := fun vs H Q _ => ∃ (v t : V) (r : Rl) (x : Str) (d : PyData), vs = [v, .str x, t] ∧ RulesW H v r ∧ x.length ≤ 1000 ∧ Dz H t d ∧ (∀ ds, d = .tuple ds → ds.length ≤ 100) ∧ ∀ H', Ext H H' → Q (.bl (foD r x d)) H'
theorem ok_ifS {f : Addr} {fd : FuncData} (F : Fun K "is_folding" "is_folding" s_is_folding f fd) (cis_pair : CIPS P w K mg base) (cgo_together : CGT P w K mg base) (crises : CRi P w K mg base) (misinstance : mg "isinstance" = none) (mtuple : mg "tuple" = none) (mall : mg "all" = none) (menumerate : mg "enumerate" = none) : FnOk P w K mg base CX0 4 f fd ["rules", "string", "thing"] spIFS := by
  refine F.ok sc_is_folding (fun vs H Q E h => ?_) (fun cdv A outer s H vs Q E hr h => ?_)
  · obtain ⟨v, t, r, x, d, rfl, _⟩ := h
    rfl
  · obtain ⟨v, t, r, x, d, rfl, hR, hx, hd, hl, q⟩ := h
    refine ⟨_, (pss_cons (ps_if (PW.pt (pw_or (pt_not (pt_val (pe_callB (isi1 K) (by rfl) misinstance (by decide +kernel) (pa_cons (pv 2) (pa_cons (pe_bltn (v := .ty "tuple") (by rfl) mtuple (by decide +kernel) rfl) pa_nil))))) (pw_or1 (pt_not (pt_val (pe_callB (cr_all rfl) (by rfl) mall (by decide +kernel) (pa_cons (pe_lc (own := [("pair", 4)]) (g := gName 4) (by rfl) sc_is_folding.nd (pi_tup (pv 2)) (blkOk_by (own := [("pair", 4)]) (N := ["rules", "string", "thing", "at", "pair", "later"]) (sc := defScope s_is_folding) (by decide +kernel)) (fun _ _ _ _ _ => (pg_name (i := 4) sc_is_folding.nd rfl (.inl rfl))) (fun _ _ _ _ _ => pts_nil) (fun _ _ _ _ _ => (pe_ca cis_pair (hr.mono (by decide)) (by rfl) (pa_cons (pv 0) (pa_cons (pv 1) (pa_cons (pv 4) pa_nil)))))) pa_nil))))))) (pss_one (ps_ret pe_bl)) pss_nil)
      (pss_cons (ps_if (pt_not (pt_val (pe_ca crises (hr.mono (by decide)) (by rfl) (pa_cons (pv 2) pa_nil)))) (pss_one (ps_ret pe_bl)) pss_nil)
      (pss_one (ps_ret (pe_callB (cr_all rfl) (by rfl) mall (by decide +kernel) (pa_cons (pe_lc2 (own := [("at", 3), ("pair", 4), ("later", 5)]) (vs1 := [5]) (g := gTup K 2 (gCons (gName 3) (gCons (gName 4) gNil))) (g1 := gName 5) (by rfl) sc_is_folding.nd (pi_enumT (by rfl) menumerate (pa_cons (pv 2) pa_nil)) (blkOk_by (own := [("at", 3), ("pair", 4), ("later", 5)]) (N := ["rules", "string", "thing", "at", "pair", "later"]) (sc := defScope s_is_folding) (by decide +kernel)) (by decide) (fun _ _ _ _ _ => (pgT K rfl (pgs_cons (pg_name (i := 3) sc_is_folding.nd rfl (.inl rfl)) (pgs_cons (pg_name (i := 4) sc_is_folding.nd rfl (.inl rfl)) pgs_nil)))) (fun _ _ _ _ _ => pts_nil) (fun _ _ _ _ _ => (piT K (pe_slice (slE K) (pv 2) (po_some (pe_op op_add (pv 3) pe_int)) po_none))) (fun _ _ _ _ _ => (pg_name (i := 5) sc_is_folding.nd rfl (.inl rfl))) (fun _ _ _ _ _ => pts_nil) (fun _ _ _ _ _ => (pe_ca cgo_together (hr.mono (by decide)) (by rfl) (pa_cons (pv 4) (pa_cons (pv 5) pa_nil))))) pa_nil)))))), ?_⟩
    refine ⟨_, rfl, t, .ty "tuple", _, _, isTup d, rfl, .ty _, (hd.dq (K := K)).ty, kit_tup d, isTup d, rfl, ite2 (fun e => ?_) (fun e => ?_)⟩
    · have e : isTup d = false := by simpa using e
      have := q H Ext.refl
      cases d with
      | tuple ds => cases e
      | _ => exact this
    obtain ⟨ds, rfl⟩ : ∃ ds, d = .tuple ds := by
      have e : isTup d = true := by simpa using e
      cases d with
      | tuple ds => exact ⟨ds, rfl⟩
      | _ => cases e
    obtain ⟨af, fs, rfl, hF, hds⟩ : ∃ af fs, t = .ref af ∧ H af = some (.tup fs) ∧ DsAll H fs ds := by
      rcases hd with hd | ⟨_, _, _, z⟩
      · cases hd with
        | tup h1 h2 => exact ⟨_, _, rfl, h1, h2⟩
      · cases z
    have hql0 := hl ds rfl
    have hfl0 := dsAll_len hds
    refine ⟨_, rfl, af, rfl, ⟨_, SqT.of hF⟩, fun D hD => lc_tup (K := K) (xs := fs) (fun i H2 => H2 D = some (.lst (((ds.take i).map (prD r x)).map V.bl)) ∧ Ext H H2)
      ⟨upd_same, Ext.new hD⟩ (fun i H2 _ ⟨_, k⟩ => SqT.of (k _ _ hF)) (fun i u H2 hi hv => ?_) (fun H2 hv => ?_)⟩
    · obtain ⟨hL, k2⟩ := hv
      obtain ⟨d1, hd1, hu⟩ := dsAll_get hds hi
      refine ⟨rfl, _, rfl, _, rfl, _, rfl, v, u, r, x, d1, rfl, RulesW.mono _ _ _ _ (TupK.ext k2) hR, hx, ds_ext k2 hu, fun H3 k3 => ⟨_, k3 _ _ hL, szLt ?_, ?_, (k2.trans k3).put hD⟩⟩
      · rw [List.length_map, List.length_map, List.length_take]
        omega
      · rw [upd_same, List.take_add_one, hd1, List.map_append, List.map_append]
        rfl
    · obtain ⟨hL, k2⟩ := hv
      rw [List.take_of_length_le (by omega)] at hL
      refine ⟨D, _, rfl, SqL.of hL, _, rfl, ite2 (fun e => ?_) (fun e => ?_)⟩
      · have e : ((ds.map (prD r x)).all id) = false := by simpa using e
        have := q H2 k2
        rw [fo_no e] at this
        exact this
      · have e : ((ds.map (prD r x)).all id) = true := by simpa using e
        obtain ⟨qs, hqs, hall⟩ := all_prD e
        have hPs : Paired (TwoAt H) fs qs := ds_twos hds hqs
        have hfl := paired_len hPs
        have hql : qs.length ≤ 100 := by omega
        have q1 : ∀ H', Ext H H' → Q (.bl ((risL qs).all id && (goL qs).all id)) H' := fun H' k => by
          have := q H' k
          have e9 : foD r x (.tuple ds) = ((risL qs).all id && (goL qs).all id) := by
            show (match (ds.mapM twoD : Option (List (Int × Int))) with | some qs => (qs.map fun (y : Int × Int) => mayP r x y.1 y.2).all id && restF qs | none => false) = _
            rw [hqs]
            show ((qs.map fun (y : Int × Int) => mayP r x y.1 y.2).all id && restF qs) = _
            rw [hall, Bool.true_and]
            rfl
          rw [e9] at this
          exact this
        refine ⟨_, rfl, .ref af, qs, rfl, ⟨af, fs, rfl, k2 _ _ hF, paired_imp (fun _ _ => TwoAt.mono _ _ _ _ (TupK.ext k2)) hPs⟩, hql, fun H3 k3 => ⟨_, rfl, ite2 (fun e2 => ?_) (fun e2 => ?_)⟩⟩
        · have e2 : (risL qs).all id = false := by simpa using e2
          have := q1 H3 (k2.trans k3)
          rw [e2, Bool.false_and] at this
          exact this
        · have e2 : (risL qs).all id = true := by simpa using e2
          have q2 : ∀ H', Ext H H' → Q (.bl ((goL qs).all id)) H' := fun H' k => by
            have := q1 H' k
            rw [e2, Bool.true_and] at this
            exact this
          have k03 := k2.trans k3
          have hgl := goL_len qs
          have hgm : qs.length * qs.length ≤ 100 * 100 := Nat.mul_le_mul hql hql
          refine ⟨_, rfl, af, fs, rfl, SqT.of (k03 _ _ hF), fun D2 hD2 => lc_two walk_et (fun i H4 => ∃ bs : List Bool, goL qs = bs ++ goL (qs.drop i) ∧ H4 D2 = some (.lst (bs.map V.bl)) ∧ Ext H3 H4)
            ⟨[], rfl, upd_same, Ext.new hD2⟩ (fun i H4 _ ⟨_, _, _, k⟩ => SqT.of (k _ _ (k03 _ _ hF))) (fun i u H4 H5 hi hv hy => ?_) (fun H4 hv => ?_)⟩
          · obtain ⟨bs, hbs, hL4, k4⟩ := hv
            obtain ⟨T, a, b, rfl, hTn, rfl, ha, hb⟩ := hy
            cases ha
            obtain ⟨p, hp, a1, rfl, ha1⟩ := paired_get hPs hb
            have e5 := Ext.new (o := .tup [.int (i : Nat), .ref a1]) hTn
            have k05 := (k03.trans k4).trans e5
            refine ⟨T, _, rfl, SqT.of upd_same, rfl, _, _, rfl, _, _, rfl, rfl, rfl, ?_⟩
            refine ⟨_, rfl, _, rfl, _, 1, rfl, rfl, _, rfl, af, fs, rfl, k05 _ _ hF, fun t H6 k6 hT => ?_⟩
            have ec : cutV fs (some ((i : Int) + 1)) none = fs.drop (i + 1) := cut_from (k := i + 1)
            rw [ec] at hT
            have k06 := k05.trans k6
            rw [goL_at hp, ← List.append_assoc] at hbs
            refine ⟨t, rfl, ⟨_, SqT.of hT⟩, lc_in (walk_tup (xs := fs.drop (i + 1))) (fun j H7 => H7 D2 = some (.lst ((bs ++ ((qs.drop (i + 1)).take j).map (go2 p)).map V.bl)) ∧ H7 t = some (.tup (fs.drop (i + 1))) ∧ Ext H3 H7)
              ⟨?_, hT, (k4.trans e5).trans k6⟩ (fun j H7 _ ⟨_, h, _⟩ => SqT.of h) (fun j u H7 H8 hj hv hy => ?_) (fun H7 hv => ?_)⟩
            · rw [List.take_zero, List.map_nil, List.append_nil]
              exact k6 _ _ (e5 _ _ hL4)
            · obtain ⟨hL7, hT7, k7⟩ := hv
              obtain ⟨rfl, hu⟩ := hy
              obtain ⟨y, hy, a2, rfl, ha2⟩ := paired_get (paired_drop (i + 1) hPs) hu
              have k07 := k03.trans k7
              refine ⟨rfl, _, rfl, _, rfl, a1, a2, p, y, rfl, k07 _ _ ha1, k07 _ _ ha2, _, hL7, szLt ?_, ?_, ?_, k7.put hD2⟩
              · have hz := congrArg List.length hbs
                rw [List.length_append, List.length_append, List.length_map] at hz
                rw [List.length_map, List.length_append, List.length_map, List.length_take]
                omega
              · rw [upd_same, List.take_add_one, hy]
                simp only [List.map_append, List.append_assoc]
                rfl
              · rw [upd_ne (ne_of hT7 hL7 (by intro z; cases z))]
                exact hT7
            · obtain ⟨hL7, _, k7⟩ := hv
              rw [List.take_of_length_le (by rw [List.length_drop, List.length_drop]; omega)] at hL7
              exact ⟨_, hbs, hL7, k7⟩
          · obtain ⟨bs, hbs, hL4, k4⟩ := hv
            rw [List.drop_eq_nil_of_le (by omega)] at hbs
            rw [show goL [] = [] from rfl, List.append_nil] at hbs
            subst hbs
            exact ⟨D2, goL qs, rfl, SqL.of hL4, q2 _ (k03.trans k4)⟩
abbrev CIFS (P : Program) (w : World) (K : PySem.W.Frag) (mg : Str → Option Value) (base : Heap) : Prop := Ca P w K mg base 4 "is_folding" ["rules", "string", "thing"] spIFS
/-! ### what has no number -/
def spNOx (K : PySem.W.Frag) (C1 C2 : Addr) : Sp := fun vs H Q E => ∃ (v t u : V) (r : Rl), vs = [v, t, u] ∧ RulesW H v r ∧
  ((∃ d, Tx K H t d ∧ isSx r d = false ∧ ∀ H', Ext H H' → E (.ref C1) none H') ∨ ∃ (x : Str) (d : PyData), t = .str x ∧ x.length ≤ 12 ∧ Of r.letters x ∧ Dz H u d ∧ (∀ ds, d = .tuple ds → ds.length ≤ 100) ∧ foD r x d = false ∧ ∀ H', Ext H H' → E (.ref C2) none H')
theorem ok_nox {f aNoString aNoFolding : Addr} {fd : FuncData} (F : Fun K "number_of" "number_of" s_number_of f fd) (cneed_stringX : CNSx P w K mg base aNoString) (cis_foldingS : CIFS P w K mg base) (gNoFolding : mg "NoFolding" = some (.ref aNoFolding))
    (xNoFolding : PySem.W.excIn K aNoFolding [.type "ValueError", .type "Exception", .type "BaseException", .type "object"] "ValueError.__new__" = true) (kNoFolding : PySem.W.keepIn K (.ref aNoFolding) = true)
    (bNoFolding : PySem.W.subIn K (.ref aNoFolding) (.type "BaseException") = some true) (tNoFolding : PySem.W.typeIn K (.ref aNoFolding) = some (.type "type")) : FnOk P w K mg base (L2.CX P w) 5 f fd ["rules", "string", "folding"] (spNOx K aNoString aNoFolding) := by
  refine F.okX sc_number_of (fun vs H Q E h => ?_) (fun cdv A outer s H vs Q E hr h => ?_)
  · obtain ⟨v, t, u, r, rfl, _⟩ := h
    rfl
  · obtain ⟨v, t, u, r, rfl, hR, h⟩ := h
    refine ⟨_, (pss_cons (ps_expr (pe_caX cneed_stringX (hr.mono (by decide)) (by rfl) (takes_of rfl rfl rfl rfl) (pa_cons (pv 0) (pa_cons (pv 1) pa_nil)))) (pss_cons (ps_if (pt_not (pt_val (pe_ca cis_foldingS (hr.mono (by decide)) (by rfl) (pa_cons (pv 0) (pa_cons (pv 1) (pa_cons (pv 2) pa_nil)))))) (pss_one (ps_raise rfl (takes_of rfl rfl rfl rfl) (pmk_own PySem.F.excBase_ValueError xNoFolding gNoFolding kNoFolding (raises_own bNoFolding tNoFolding) rfl))) pss_nil) pss_void)), ?_⟩
    rcases h with ⟨d, hd, ho, q⟩ | ⟨x, d, rfl, hx, hO, hd, hl, hno, q⟩
    · exact ⟨_, rfl, _, rfl, v, t, r, d, rfl, hR, hd, fun z => Bool.noConfusion (ho.symm.trans z), fun _ H1 k1 => q H1 k1⟩
    · refine ⟨_, rfl, _, rfl, v, .str x, r, .str x, rfl, hR, Tx.str (by omega), fun _ H1 k1 => ?_, fun z => Bool.noConfusion (z.symm.trans (isSx_of hx hO))⟩
      refine ⟨_, rfl, _, rfl, _, rfl, v, u, r, x, d, rfl, RulesW.mono _ _ _ _ (TupK.ext k1) hR, by omega, hd.ext k1, hl, fun H2 k2 => ?_⟩
      rw [hno]
      exact ⟨_, rfl, iteT (q _ (k1.trans k2))⟩
def spFOx (K : PySem.W.Frag) (C1 C2 : Addr) : Sp := fun vs H Q E => ∃ (v t u : V) (r : Rl), vs = [v, t, u] ∧ RulesW H v r ∧
  ((∃ d, Tx K H t d ∧ isSx r d = false ∧ ∀ H', Ext H H' → E (.ref C1) none H') ∨ ∃ (x : Str) (d : PyData), t = .str x ∧ x.length ≤ 12 ∧ Of r.letters x ∧ ThX H u d ∧ (∀ i : Int, d = .int i → u = .int i ∧ (i < 0 ∨ ((GA r x).length : Int) ≤ i)) ∧ ∀ H', Ext H H' → E (.ref C2) none H')
theorem ok_fox {f aNoString aNoNumber : Addr} {fd : FuncData} (F : Fun K "folding_of" "folding_of" s_folding_of f fd) (cneed_stringX : CNSx P w K mg base aNoString) (cstretch_counts : CCnt P w K mg base) (cis_wholeS : CWhS P w K mg base) (cmany_in : CMI P w K mg base) (mlen : mg "len" = none) (gNoNumber : mg "NoNumber" = some (.ref aNoNumber))
    (xNoNumber : PySem.W.excIn K aNoNumber [.type "IndexError", .type "LookupError", .type "Exception", .type "BaseException", .type "object"] "IndexError.__new__" = true) (kNoNumber : PySem.W.keepIn K (.ref aNoNumber) = true)
    (bNoNumber : PySem.W.subIn K (.ref aNoNumber) (.type "BaseException") = some true) (tNoNumber : PySem.W.typeIn K (.ref aNoNumber) = some (.type "type")) : FnOk P w K mg base (L2.CX P w) 4 f fd ["rules", "string", "number"] (spFOx K aNoString aNoNumber) := by
  refine F.okX sc_folding_of (fun vs H Q E h => ?_) (fun cdv A outer s H vs Q E hr h => ?_)
  · obtain ⟨v, t, u, r, rfl, _⟩ := h
    rfl
  · obtain ⟨v, t, u, r, rfl, hR, h⟩ := h
    refine ⟨_, (pss_cons (ps_expr (pe_caX cneed_stringX (hr.mono (by decide)) (by rfl) (takes_of rfl rfl rfl rfl) (pa_cons (pv 0) (pa_cons (pv 1) pa_nil)))) (pss_cons (ps_set (i := 3) sc_folding_of.nd rfl (.inl rfl) (pe_ca cstretch_counts (hr.mono (by decide)) (by rfl) (pa_cons (pv 0) (pa_cons (pv 1) pa_nil)))) (pss_cons (ps_set (i := 4) sc_folding_of.nd rfl (.inl rfl) (pe_lst (pa_cons (pe_tup (pa_cons pe_int (pa_cons (pe_op op_sub (pe_callB call_len_str (by rfl) mlen (by decide +kernel) (pa_cons (pv 1) pa_nil)) pe_int) pa_nil))) pa_nil))) (pss_cons (ps_if (PW.pt (pw_or (pt_not (pt_val (pe_ca cis_wholeS (hr.mono (by decide)) (by rfl) (pa_cons (pv 2) pa_nil)))) (pw_or1 (pt_not (pt_chain op_le op_lt pe_int (pv 2) (pe_ca cmany_in (hr.mono (by decide)) (by rfl) (pa_cons (pv 3) (pa_cons (pv 4) pa_nil)))))))) (pss_one (ps_raise rfl (takes_of rfl rfl rfl rfl) (pmk_own PySem.F.excBase_IndexError xNoNumber gNoNumber kNoNumber (raises_own bNoNumber tNoNumber) rfl))) pss_nil) pss_void)))), ?_⟩
    rcases h with ⟨d, hd, ho, q⟩ | ⟨x, d, rfl, hx, hO, hd, hno, q⟩
    · exact ⟨_, rfl, _, rfl, v, t, r, d, rfl, hR, hd, fun z => Bool.noConfusion (ho.symm.trans z), fun _ H1 k1 => q H1 k1⟩
    · refine ⟨_, rfl, _, rfl, v, .str x, r, .str x, rfl, hR, Tx.str (by omega), fun _ H1 k1 => ?_, fun z => Bool.noConfusion (z.symm.trans (isSx_of hx hO))⟩
      have pb : pdc r x (S0 x) ≤ 15511 := by
        rw [S0_pdc]
        exact cn_le r x hx 0
      have pe : pdc r x (S0 x) = (GA r x).length := by rw [S0_pdc, GA_len]
      refine ⟨_, rfl, _, rfl, v, r, x, rfl, RulesW.mono _ _ _ _ (TupK.ext k1) hR, hx, fun D kvs H2 hD hD2 hC k2 => ?_⟩
      refine ⟨_, rfl, x, rfl, szL (by omega), _, 1, rfl, rfl, szL (show 2 ≤ 1000000 by decide), fun t3 ht3 => ⟨szL (show 1 ≤ 1000000 by decide), fun l3 hl3 => ?_⟩⟩
      have x3 := Ext.new (o := .tup [.int 0, .int ((x.length : Int) - 1)]) ht3
      have x4 := Ext.new (o := .lst [.ref t3]) hl3
      have k4 := (k1.trans k2).trans (x3.trans x4)
      have hD4 := (x3.trans x4) _ _ hD2
      have hS4 : Paired (TwoAt (upd (upd H2 t3 (.tup [.int 0, .int ((x.length : Int) - 1)])) l3 (.lst [.ref t3]))) [.ref t3] (S0 x) := .cons ⟨t3, rfl, x4 _ _ upd_same⟩ .nil
      have hl4 : upd (upd H2 t3 (.tup [.int 0, .int ((x.length : Int) - 1)])) l3 (.lst [.ref t3]) l3 = some (.lst [.ref t3]) := upd_same
      generalize upd (upd H2 t3 (.tup [.int 0, .int ((x.length : Int) - 1)])) l3 (.lst [.ref t3]) = H4 at x4 k4 hD4 hS4 hl4 ⊢
      refine ⟨_, rfl, u, d, rfl, ((hd.ext k4).tx (K := K)).1, whD d, rfl, ?_⟩
      cases hw : whD d with
      | false => exact iteT (q _ k4)
      | true =>
        obtain ⟨i, rfl⟩ : ∃ i, d = .int i := by
          cases d with
          | int i => exact ⟨i, rfl⟩
          | _ => cases hw
        obtain ⟨rfl, hi⟩ := hno i rfl
        refine iteF ⟨_, rfl, 0, i, rfl, rfl, _, rfl, ?_⟩
        by_cases h0 : 0 ≤ i
        · rw [decide_eq_true h0]
          refine iteT ⟨_, rfl, _, rfl, r, x, D, l3, kvs, _, S0 x, rfl, hD4, hC, hx, hl4, hS4, StOk.S0 hx, by omega, _, _, rfl, rfl, _, rfl, ?_⟩
          rw [decide_eq_false (show ¬ i < ((pdc r x (S0 x) : Nat) : Int) by omega)]
          exact iteT (q _ k4)
        · rw [decide_eq_false h0]
          exact iteF ⟨_, rfl, iteT (q _ k4)⟩
abbrev CNOx (P : Program) (w : World) (K : PySem.W.Frag) (mg : Str → Option Value) (base : Heap) (C1 C2 : Addr) : Prop := CaX P w K mg base 5 "number_of" ["rules", "string", "folding"] (fun vs H Q E => spNO vs H Q L2.E0 ∨ spNOx K C1 C2 vs H Q E)
abbrev CFOx (P : Program) (w : World) (K : PySem.W.Frag) (mg : Str → Option Value) (base : Heap) (C1 C2 : Addr) : Prop := CaX P w K mg base 5 "folding_of" ["rules", "string", "number"] (fun vs H Q E => spFO vs H Q L2.E0 ∨ spFOx K C1 C2 vs H Q E)
def spOdd2 (K : PySem.W.Frag) (C : Addr) : Sp := fun vs H Q E => ∃ (v t : V) (r : Rl) (d : PyData), vs = [v, t] ∧ RulesW H v r ∧ Tx K H t d ∧ isSx r d = false ∧ ∀ H', Ext H H' → E (.ref C) none H'
abbrev s_by_worths : Stmt := topS 41
theorem sc_by_worths : FnScope ["rules", "string", "tally"] ["rules", "string"] (defScope s_by_worths) :=
  ⟨rfl, rfl, rfl, by decide +kernel, rfl, by decide +kernel, by decide +kernel⟩
theorem ok_bwx {f aNoString : Addr} {fd : FuncData} (F : Fun K "by_worths" "by_worths" s_by_worths f fd) (cneed_stringX : CNSx P w K mg base aNoString) : FnOk P w K mg base (L2.CX P w) 5 f fd ["rules", "string"] (spOdd2 K aNoString) := by
  refine F.okX sc_by_worths (fun vs H Q E h => ?_) (fun cdv A outer s H vs Q E hr h => ?_)
  · obtain ⟨v, t, r, d, rfl, _⟩ := h
    rfl
  · obtain ⟨v, t, r, d, rfl, hR, hd, ho, q⟩ := h
    refine ⟨_, (pss_cons (ps_expr (pe_caX cneed_stringX (hr.mono (by decide)) (by rfl) (takes_of rfl rfl rfl rfl) (pa_cons (pv 0) (pa_cons (pv 1) pa_nil)))) pss_void), ?_⟩
    exact ⟨_, rfl, _, rfl, v, t, r, d, rfl, hR, hd, fun z => Bool.noConfusion (ho.symm.trans z), fun _ H1 k1 => q H1 k1⟩
abbrev s_all_foldings : Stmt := topS 43
theorem sc_all_foldings : FnScope ["rules", "string", "length", "i", "told", "j"] ["rules", "string"] (defScope s_all_foldings) :=
  ⟨rfl, rfl, rfl, by decide +kernel, rfl, by decide +kernel, by decide +kernel⟩
theorem ok_afx {f aNoString : Addr} {fd : FuncData} (F : Fun K "all_foldings" "all_foldings" s_all_foldings f fd) (cneed_stringX : CNSx P w K mg base aNoString) : FnOk P w K mg base (L2.CX P w) 5 f fd ["rules", "string"] (spOdd2 K aNoString) := by
  refine F.okX sc_all_foldings (fun vs H Q E h => ?_) (fun cdv A outer s H vs Q E hr h => ?_)
  · obtain ⟨v, t, r, d, rfl, _⟩ := h
    rfl
  · obtain ⟨v, t, r, d, rfl, hR, hd, ho, q⟩ := h
    refine ⟨_, (pss_cons (ps_expr (pe_caX cneed_stringX (hr.mono (by decide)) (by rfl) (takes_of rfl rfl rfl rfl) (pa_cons (pv 0) (pa_cons (pv 1) pa_nil)))) pss_void), ?_⟩
    exact ⟨_, rfl, _, rfl, v, t, r, d, rfl, hR, hd, fun z => Bool.noConfusion (ho.symm.trans z), fun _ H1 k1 => q H1 k1⟩
theorem ok_hmx {f aNoString : Addr} {fd : FuncData} (F : Fun K "how_many" "how_many" s_how_many f fd) (cneed_stringX : CNSx P w K mg base aNoString) : FnOk P w K mg base (L2.CX P w) 5 f fd ["rules", "string"] (spOdd2 K aNoString) := by
  refine F.okX sc_how_many (fun vs H Q E h => ?_) (fun cdv A outer s H vs Q E hr h => ?_)
  · obtain ⟨v, t, r, d, rfl, _⟩ := h
    rfl
  · obtain ⟨v, t, r, d, rfl, hR, hd, ho, q⟩ := h
    refine ⟨_, (pss_cons (ps_expr (pe_caX cneed_stringX (hr.mono (by decide)) (by rfl) (takes_of rfl rfl rfl rfl) (pa_cons (pv 0) (pa_cons (pv 1) pa_nil)))) pss_void), ?_⟩
    exact ⟨_, rfl, _, rfl, v, t, r, d, rfl, hR, hd, fun z => Bool.noConfusion (ho.symm.trans z), fun _ H1 k1 => q H1 k1⟩
abbrev CBWx (P : Program) (w : World) (K : PySem.W.Frag) (mg : Str → Option Value) (base : Heap) (C : Addr) : Prop := CaX P w K mg base 5 "by_worths" ["rules", "string"] (spOdd2 K C)
abbrev CAFx (P : Program) (w : World) (K : PySem.W.Frag) (mg : Str → Option Value) (base : Heap) (C : Addr) : Prop := CaX P w K mg base 5 "all_foldings" ["rules", "string"] (spOdd2 K C)
abbrev CHMx (P : Program) (w : World) (K : PySem.W.Frag) (mg : Str → Option Value) (base : Heap) (C : Addr) : Prop := CaX P w K mg base 5 "how_many" ["rules", "string"] (spOdd2 K C)
end
end Pf


namespace Pf
open PySem PySem.Spec PyProof.Rows L2 LamX
/-! ### how often a truth stands in a list of truths -/
theorem bools_eqs (k : Bool) : ∀ {bs : List Bool} {us : List Value}, Vals (bs.map V.bl) us → (∀ y ∈ us, ∀ (A : Around) (s : Shared), SeqAt.EqAt A s y (.bool k) (isBoolOf k y)) ∧ us.countP (isBoolOf k) = bs.count k
  | [], _, r => by
    cases r
    exact ⟨fun y hy => (List.not_mem_nil hy).elim, rfl⟩
  | b :: bs, _, r => by
    cases r with
    | cons rx rr =>
      cases rx
      obtain ⟨h1, h2⟩ := bools_eqs k rr
      refine ⟨fun y hy A s => ?_, ?_⟩
      · rcases List.mem_cons.mp hy with e | hy
        · rw [e]; exact SeqAt.EqAt.bool_bool b k
        · exact h1 y hy A s
      · rw [List.countP_cons, List.count_cons, h2]
        rfl
section
variable {X : Cx}
def rCntB (K : PySem.W.Frag) : V → List V → Hp → VK → Prop := fun x xs H Q => ∃ (p : Addr) (bs : List Bool) (k : Bool), x = .ref p ∧ xs = [.bl k] ∧ SqL K H p (bs.map V.bl) ∧ Q (.int (bs.count k : Nat)) H
theorem mt_cntB : MtR X "list.count" (rCntB X.K) := by
  intro pins s σ H x xs v us Q I rx rxs h
  obtain ⟨p, bs, k, rfl, rfl, hs, q⟩ := h
  cases rx
  obtain ⟨u, rfl, ru⟩ := rxs.one
  cases ru
  obtain ⟨its, rv, ⟨⟨cls, dd, data, sl⟩, n, ho, hc, hdn, hd⟩, hlen⟩ := I.list hs
  simp only at hc hd
  subst hc hd
  obtain ⟨h1, h2⟩ := bools_eqs k rv
  refine call_meets PySem.F.slot_list_count ⟨_, ho, rfl⟩ PySem.F.entry_list_count (PySem.F.args_list_count_2 _ _)
    (SeqAt.list_countAt p its.toArray n dd sl (.bool k) (isBoolOf k)) ⟨ho, fun y hy => h1 y (by simpa using hy) _ _, ?_⟩
  refine ⟨.int (bs.count k : Nat), H, I.tok _, ⟨s.toks, ?_⟩, q⟩
  show Value.int ((its.toArray.toList.countP (isBoolOf k) : Nat) : Int) s.toks = Value.int ((bs.count k : Nat) : Int) s.toks
  rw [show its.toArray.toList = its from rfl, h2]
end
end Pf


namespace Pf
open PySem PySem.Spec PyProof.Rows L2 LamX
section
variable {P : Program} {w : World} {K : PySem.W.Frag} {mg : Str → Option Value} {base : Heap}
/-! ### what is heard -/
abbrev s_law_heard : Stmt := topS 62
theorem sc_law_heard : FnScope ["_law_asker", "_law_caught", "e", "_law_some"] ["_law_asker"] (defScope s_law_heard) :=
  ⟨rfl, rfl, rfl, by decide +kernel, rfl, by decide +kernel, by decide +kernel⟩
def TThd (R1 R2 R3 : Addr) : (XK → Hp → VK → Prop) → Hp → VK → Prop := fun tl H Q => ∀ Q' : VK, (∀ v H', (∀ H'', Ext H' H'' → Q (.str "told") H'') → Q' v H') →
  tl (fun cls d H' => d = none ∧ ((cls = .ref R1 ∧ ∀ H'', Ext H' H'' → Q (.str "string") H'') ∨ (cls = .ref R2 ∧ ∀ H'', Ext H' H'' → Q (.str "folding") H'') ∨ (cls = .ref R3 ∧ ∀ H'', Ext H' H'' → Q (.str "number") H''))) H Q'
theorem cal_heard {f aNoString aFoldError aNoNumber aNoPlace aNoFolding aNoRules aNoText : Addr} {fd : FuncData} (F : Fun K "_law_heard" "_law_heard" s_law_heard f fd) (hm : mg "_law_heard" = some (.ref f)) (hb : Binds K fd ["_law_asker"] [])
    (misinstance : mg "isinstance" = none) (mValueError : mg "ValueError" = none) (mIndexError : mg "IndexError" = none) (mint : mg "int" = none) (gNoString : mg "NoString" = some (.ref aNoString)) (gFoldError : mg "FoldError" = some (.ref aFoldError)) (gNoFolding : mg "NoFolding" = some (.ref aNoFolding)) (gNoRules : mg "NoRules" = some (.ref aNoRules)) (gNoText : mg "NoText" = some (.ref aNoText))
    (gNoNumber : mg "NoNumber" = some (.ref aNoNumber)) (gNoPlace : mg "NoPlace" = some (.ref aNoPlace))
    (e1 : PySem.W.exmAny K (.ref aNoString) [.ref aFoldError, .ref aNoNumber, .ref aNoPlace] = some true) (e2 : PySem.W.exmAny K (.ref aNoFolding) [.ref aFoldError, .ref aNoNumber, .ref aNoPlace] = some true) (e3 : PySem.W.exmAny K (.ref aNoNumber) [.ref aFoldError, .ref aNoNumber, .ref aNoPlace] = some true)
    (hC1 : ExcC K aNoString) (hC2 : ExcC K aNoFolding) (hC3 : ExcC K aNoNumber)
    (n1 : PySem.W.kitOne K (.ref aNoString) (.ref aNoNumber) = some false) (n2 : PySem.W.kitOne K (.ref aNoFolding) (.ref aNoNumber) = some false) (n3 : PySem.W.kitOne K (.ref aNoNumber) (.ref aNoNumber) = some true)
    (i3 : PySem.W.kitOne K (.ref aNoNumber) (.type "IndexError") = some true) (t3 : PySem.W.kitAny K (.ref aNoNumber) [.ref aFoldError, .ref aNoPlace] = some false)
    (t1 : PySem.W.kitAny K (.ref aNoString) [.ref aNoPlace, .ref aNoRules, .ref aNoText] = some false) (t2 : PySem.W.kitAny K (.ref aNoFolding) [.ref aNoPlace, .ref aNoRules, .ref aNoText] = some false)
    (v1 : PySem.W.kitOne K (.ref aNoString) (.type "ValueError") = some true) (v2 : PySem.W.kitOne K (.ref aNoFolding) (.type "ValueError") = some true)
    (s1 : PySem.W.kitOne K (.ref aNoString) (.ref aNoString) = some true) (s2 : PySem.W.kitOne K (.ref aNoFolding) (.ref aNoString) = some false) (f1 : PySem.W.kitOne K (.ref aNoString) (.ref aNoFolding) = some false) (f2 : PySem.W.kitOne K (.ref aNoFolding) (.ref aNoFolding) = some true) :
    CaL P w K mg base "_law_heard" (TThd aNoString aNoFolding aNoNumber) := by
  have F0 := F
  obtain ⟨oc, od, kV, doc, pm, an, cdv, ct, osl, rfl, lk, hcd⟩ := F.ex
  refine ⟨s_law_heard, ["_law_asker", "_law_caught", "e", "_law_some"], "_law_asker", f, od, an, oc, kV, doc, pm, cdv, ct, osl, hm, F0.kp, lk, hcd, hb, sc_law_heard, rfl, .inl rfl, by decide, by decide, fun X q f c' s H Q tl act hc h => ?_⟩
  refine ⟨_, (pss_cons (ps_set (i := 1) sc_law_heard.nd rfl (.inl rfl) pe_non)
      (pss_cons (ps_try_keep (i := 2) rfl rfl rfl sc_law_heard.nd rfl rfl ⟨rfl, by decide, .inl gFoldError⟩ ⟨rfl, by decide, .inl gNoNumber⟩ ⟨rfl, by decide, .inl gNoPlace⟩ (fun W pn xe tk _ => (pss_ask act tk)) (fun a oe cls d pn hz hf => (pss_one (ps_set (i := 1) sc_law_heard.nd rfl (.inl rfl) (pv 2)))))
      (pss_cons (ps_if (pt_cmpR op_isN (pv 1) pe_non (nomark _)) (pss_one (ps_ret pe_str)) pss_nil)
      (pss_cons (ps_if (pt_val (pe_callB (call_isX K) (by rfl) misinstance (by decide +kernel) (pa_cons (pv 1) (pa_cons (pe_glob (v := .ref aNoNumber) (by rfl) gNoNumber rfl) pa_nil)))) (pss_one (ps_ret (pe_ix (ixL K) (pe_lst (pa_cons pe_str (pa_cons pe_str pa_nil))) (pe_callTy call_int1 (by rfl) mint (by decide +kernel) (pa_cons (pe_and (pe_callB (call_isX K) (by rfl) misinstance (by decide +kernel) (pa_cons (pv 1) (pa_cons (pe_bltn (v := .ty "IndexError") (by rfl) mIndexError (by decide +kernel) rfl) pa_nil))) (pe_one (pe_not (pe_callB (call_isXT K) (by rfl) misinstance (by decide +kernel) (pa_cons (pv 1) (pa_cons (pe_tup (pa_cons (pe_glob (v := .ref aFoldError) (by rfl) gFoldError rfl) (pa_cons (pe_glob (v := .ref aNoPlace) (by rfl) gNoPlace rfl) pa_nil))) pa_nil)))))) pa_nil)) (fun _ _ => rfl)))) pss_nil)
      (pss_cons (ps_if (PW.pt (pw_or (pt_val (pe_callB (call_isXT K) (by rfl) misinstance (by decide +kernel) (pa_cons (pv 1) (pa_cons (pe_tup (pa_cons (pe_glob (v := .ref aNoPlace) (by rfl) gNoPlace rfl) (pa_cons (pe_glob (v := .ref aNoRules) (by rfl) gNoRules rfl) (pa_cons (pe_glob (v := .ref aNoText) (by rfl) gNoText rfl) pa_nil)))) pa_nil)))) (pw_or1 (pt_not (pt_val (pe_callB (call_isX K) (by rfl) misinstance (by decide +kernel) (pa_cons (pv 1) (pa_cons (pe_bltn (v := .ty "ValueError") (by rfl) mValueError (by decide +kernel) rfl) pa_nil)))))))) (pss_one (ps_ret pe_str)) pss_nil)
      (pss_cons (ps_set (i := 3) sc_law_heard.nd rfl (.inl rfl) (pe_lst (pa_cons (pe_callB (call_isX K) (by rfl) misinstance (by decide +kernel) (pa_cons (pv 1) (pa_cons (pe_glob (v := .ref aNoString) (by rfl) gNoString rfl) pa_nil))) (pa_cons (pe_callB (call_isX K) (by rfl) misinstance (by decide +kernel) (pa_cons (pv 1) (pa_cons (pe_glob (v := .ref aNoFolding) (by rfl) gNoFolding rfl) pa_nil))) pa_nil))))
      (pss_one (ps_ret (pe_ix (ixL K) (pe_ix (ixL K) (pe_lst (pa_cons (pe_lst (pa_cons pe_str (pa_cons pe_str pa_nil))) (pa_cons (pe_lst (pa_cons pe_str (pa_cons pe_str pa_nil))) pa_nil))) (pe_callTy call_int1 (by rfl) mint (by decide +kernel) (pa_cons (pe_cmpR op_eq (pe_bm PySem.F.plainAttrs_list PySem.F.slot_list_count PySem.F.type_list_count mt_cntB (pv 3) (pa_cons pe_bl pa_nil)) pe_int (nomark _)) pa_nil)) (fun _ _ => rfl)) (pe_callTy call_int1 (by rfl) mint (by decide +kernel) (pa_cons (pe_ix (ixL K) (pv 3) pe_int (fun _ _ => rfl)) pa_nil)) (fun _ _ => rfl)))))))))), ?_⟩
  refine ⟨_, fun cls d σ' H' hl hE => ?_, rfl, hc, h _ (fun v H' hq => ?_)⟩
  · obtain ⟨rfl, hE⟩ := hE
    obtain ⟨y0, y1, y2, y3, rfl⟩ : ∃ y0 y1 y2 y3, σ' = [y0, y1, y2, y3] := by
      match σ', hl with
      | [a, b, c, d], _ => exact ⟨a, b, c, d, rfl⟩
    rcases hE with ⟨rfl, hE⟩ | ⟨rfl, hE⟩ | ⟨rfl, hE⟩
    · refine ⟨e1, fun a ha => ⟨_, rfl, ?_⟩⟩
      have xa := Ext.new (o := ExI (.ref aNoString) none a) ha
      have hA : upd H' a (ExI (.ref aNoString) none a) a = some (ExI (.ref aNoString) none a) := upd_same
      refine ⟨_, rfl, rfl, false, rfl, iteF ?_⟩
      refine ⟨_, rfl, a, aNoString, .ref aNoNumber, .ref aNoNumber, false, rfl, hA, hC1, fun u z => z, n1, false, rfl, iteF ?_⟩
      refine ⟨_, rfl, szL (show 3 ≤ 1000000 by decide), fun t ht => ?_⟩
      have x2 := xa.trans (Ext.new (o := .tup [.ref aNoPlace, .ref aNoRules, .ref aNoText]) ht)
      have hA2 := Ext.new (o := .tup [.ref aNoPlace, .ref aNoRules, .ref aNoText]) ht _ _ hA
      refine ⟨a, aNoString, t, [aNoPlace, aNoRules, aNoText], false, rfl, hA2, hC1, upd_same, t1, false, rfl, iteF ?_⟩
      refine ⟨_, rfl, a, aNoString, .ty "ValueError", .type "ValueError", true, rfl, hA2, hC1, fun u z => z, v1, true, rfl, iteF ?_⟩
      refine ⟨_, rfl, a, aNoString, .ref aNoString, .ref aNoString, true, rfl, hA2, hC1, fun u z => z, s1, ?_⟩
      refine ⟨_, rfl, a, aNoString, .ref aNoFolding, .ref aNoFolding, false, rfl, hA2, hC1, fun u z => z, f1, szL (show 2 ≤ 1000000 by decide), fun l hl => ?_⟩
      have x3 := Ext.new (o := .lst [.bl true, .bl false]) hl
      refine ⟨szL (show 2 ≤ 1000000 by decide), fun l1 h1 => ⟨szL (show 2 ≤ 1000000 by decide), fun l2 h2 => ⟨szL (show 2 ≤ 1000000 by decide), fun l3 h3 => ?_⟩⟩⟩
      have x4 := Ext.new (o := .lst [.str "odd", .str "odd"]) h1
      have x5 := Ext.new (o := .lst [.str "folding", .str "string"]) h2
      have x6 := Ext.new (o := .lst [.ref l1, .ref l2]) h3
      have k6 := x4.trans (x5.trans x6)
      have hl6 := k6 l _ (upd_same (o := .lst [.bl true, .bl false]))
      refine ⟨_, rfl, .inl ⟨rfl, _, SqL.of hl6⟩, l, [true, false], true, rfl, rfl, SqL.of hl6, rfl, .inr ⟨_, rfl, ?_⟩⟩
      refine ⟨l3, [.ref l1, .ref l2], 1, .ref l2, rfl, rfl, SqL.of upd_same, rfl, ?_⟩
      refine ⟨_, rfl, l, [.bl true, .bl false], 0, .bl true, rfl, rfl, SqL.of hl6, rfl, .inr ⟨_, rfl, ?_⟩⟩
      exact ⟨l2, [.str "folding", .str "string"], 1, .str "string", rfl, rfl, SqL.of (x6 _ _ upd_same), rfl, hE _ (x2.trans (x3.trans k6))⟩
    · refine ⟨e2, fun a ha => ⟨_, rfl, ?_⟩⟩
      have xa := Ext.new (o := ExI (.ref aNoFolding) none a) ha
      have hA : upd H' a (ExI (.ref aNoFolding) none a) a = some (ExI (.ref aNoFolding) none a) := upd_same
      refine ⟨_, rfl, rfl, false, rfl, iteF ?_⟩
      refine ⟨_, rfl, a, aNoFolding, .ref aNoNumber, .ref aNoNumber, false, rfl, hA, hC2, fun u z => z, n2, false, rfl, iteF ?_⟩
      refine ⟨_, rfl, szL (show 3 ≤ 1000000 by decide), fun t ht => ?_⟩
      have x2 := xa.trans (Ext.new (o := .tup [.ref aNoPlace, .ref aNoRules, .ref aNoText]) ht)
      have hA2 := Ext.new (o := .tup [.ref aNoPlace, .ref aNoRules, .ref aNoText]) ht _ _ hA
      refine ⟨a, aNoFolding, t, [aNoPlace, aNoRules, aNoText], false, rfl, hA2, hC2, upd_same, t2, false, rfl, iteF ?_⟩
      refine ⟨_, rfl, a, aNoFolding, .ty "ValueError", .type "ValueError", true, rfl, hA2, hC2, fun u z => z, v2, true, rfl, iteF ?_⟩
      refine ⟨_, rfl, a, aNoFolding, .ref aNoString, .ref aNoString, false, rfl, hA2, hC2, fun u z => z, s2, ?_⟩
      refine ⟨_, rfl, a, aNoFolding, .ref aNoFolding, .ref aNoFolding, true, rfl, hA2, hC2, fun u z => z, f2, szL (show 2 ≤ 1000000 by decide), fun l hl => ?_⟩
      have x3 := Ext.new (o := .lst [.bl false, .bl true]) hl
      refine ⟨szL (show 2 ≤ 1000000 by decide), fun l1 h1 => ⟨szL (show 2 ≤ 1000000 by decide), fun l2 h2 => ⟨szL (show 2 ≤ 1000000 by decide), fun l3 h3 => ?_⟩⟩⟩
      have x4 := Ext.new (o := .lst [.str "odd", .str "odd"]) h1
      have x5 := Ext.new (o := .lst [.str "folding", .str "string"]) h2
      have x6 := Ext.new (o := .lst [.ref l1, .ref l2]) h3
      have k6 := x4.trans (x5.trans x6)
      have hl6 := k6 l _ (upd_same (o := .lst [.bl false, .bl true]))
      refine ⟨_, rfl, .inl ⟨rfl, _, SqL.of hl6⟩, l, [false, true], true, rfl, rfl, SqL.of hl6, rfl, .inr ⟨_, rfl, ?_⟩⟩
      refine ⟨l3, [.ref l1, .ref l2], 1, .ref l2, rfl, rfl, SqL.of upd_same, rfl, ?_⟩
      refine ⟨_, rfl, l, [.bl false, .bl true], 0, .bl false, rfl, rfl, SqL.of hl6, rfl, .inr ⟨_, rfl, ?_⟩⟩
      exact ⟨l2, [.str "folding", .str "string"], 0, .str "folding", rfl, rfl, SqL.of (x6 _ _ upd_same), rfl, hE _ (x2.trans (x3.trans k6))⟩
    · refine ⟨e3, fun a ha => ⟨_, rfl, ?_⟩⟩
      have xa := Ext.new (o := ExI (.ref aNoNumber) none a) ha
      have hA : upd H' a (ExI (.ref aNoNumber) none a) a = some (ExI (.ref aNoNumber) none a) := upd_same
      refine ⟨_, rfl, rfl, false, rfl, iteF ?_⟩
      refine ⟨_, rfl, a, aNoNumber, .ref aNoNumber, .ref aNoNumber, true, rfl, hA, hC3, fun u z => z, n3, true, rfl, iteT ?_⟩
      refine ⟨szL (show 2 ≤ 1000000 by decide), fun l1 h1 => ?_⟩
      have x1 := Ext.new (o := .lst [.str "odd", .str "number"]) h1
      refine ⟨_, rfl, a, aNoNumber, .ty "IndexError", .type "IndexError", true, rfl, x1 _ _ hA, hC3, fun u z => z, i3, true, rfl, iteT ?_⟩
      refine ⟨_, rfl, szL (show 2 ≤ 1000000 by decide), fun t ht => ?_⟩
      have x2 := Ext.new (o := .tup [.ref aFoldError, .ref aNoPlace]) ht
      refine ⟨a, aNoNumber, t, [aFoldError, aNoPlace], false, rfl, x2 _ _ (x1 _ _ hA), hC3, upd_same, t3, false, rfl, .inr ⟨_, rfl, ?_⟩⟩
      exact ⟨l1, [.str "odd", .str "number"], 1, .str "number", rfl, rfl, SqL.of (x2 _ _ upd_same), rfl, hE _ (xa.trans (x1.trans x2))⟩
  · exact ⟨_, rfl, rfl, true, rfl, iteT (hq _ (fun _ _ h => h))⟩
end
end Pf


namespace Pf
open PySem PySem.Spec PyProof.Rows L2 LamX
section
variable {P : Program} {w : World} {K : PySem.W.Frag} {mg : Str → Option Value} {base : Heap}
/-! ### what is no string -/
theorem gow_name {i : Nat} {v : V} {σ : L2.St} {H : Hp} {Q : L2.St → Hp → Prop} (h : Q (σ.set i (some v)) H) : gName i v σ H Q := h
theorem cut_one {x : Str} (h : 1 ≤ x.length) : (cutS x none (some 1)).length = 1 := by
  show (((x.cps.toList.drop (HT.sIx x.length 0 none)).take (HT.sIx x.length x.length (some 1) - HT.sIx x.length 0 none)).toArray).size = 1
  rw [List.size_toArray, List.length_take, List.length_drop]
  have : HT.sIx x.length x.length (some ((1 : Nat) : Int)) = min 1 x.length := HT.sIx_nat _ _ _
  have h2 : HT.sIx x.length x.length (some (1 : Int)) = min 1 x.length := this
  have h3 : HT.sIx x.length 0 none = 0 := rfl
  have h4 : x.cps.toList.length = x.length := Array.length_toList
  rw [h2, h3, h4]
  omega
abbrev s_law_strings_right : Stmt := topS 64
theorem sc_law_strings_right : FnScope ["_law_book", "_law_word", "_law_odd", "_law_some", "_law_thing"] ["_law_book", "_law_word"] (defScope s_law_strings_right) :=
  ⟨rfl, rfl, rfl, by decide +kernel, rfl, by decide +kernel, by decide +kernel⟩
def spSR (T : List (Addr × Str)) : Sp := fun vs H Q _ => ∃ (v : V) (r : Rl) (x : Str), vs = [v, .str x] ∧ RulesAt H v r ∧ RlOk r ∧ (113 : Nat) ∉ r.letters.cps.toList ∧ x.length ≤ 12 ∧ Tabs T H ∧ ∀ H', ExtN H H' → Tabs T H' → Q (.bl true) H'
theorem ok_sr {f aNoString aNoFolding aNoNumber c P0 : Addr} {T : List (Addr × Str)} {fd : FuncData} (F : Fun K "_law_strings_right" "_law_strings_right" s_law_strings_right f fd) (hcode : fd.code = .ref c) (TB : TabB base mg c P0) (hmT : (P0, ("_law_strings_right" : Str) ++ ".<locals>." ++ "<lambda>") ∈ T) (hu : ∀ p ∈ T, p.1 = P0 → p.2 = ("_law_strings_right" : Str) ++ ".<locals>." ++ "<lambda>")
    (c_law_heardL : CaL P w K mg base "_law_heard" (TThd aNoString aNoFolding aNoNumber)) (chow_manyX : CHMx P w K mg base aNoString) (cby_worthsX : CBWx P w K mg base aNoString) (call_foldingsX : CAFx P w K mg base aNoString) (cfolding_ofX : CFOx P w K mg base aNoString aNoNumber) (cnumber_ofX : CNOx P w K mg base aNoString aNoFolding) :
    FnOk P w K mg base CX0 13 f fd ["_law_book", "_law_word"] (spSR T) := by
  refine Fun.okC F sc_law_strings_right (fun vs H Q E h => ?_) (fun cdv A outer s H vs Q E hcd hr h => ?_)
  · obtain ⟨v, r, x, rfl, _⟩ := h
    rfl
  · obtain rfl : cdv = .ref c := hcd.symm.trans hcode
    obtain ⟨v, r, x, rfl, hR, ok, hq, hx, hT, q⟩ := h
    refine ⟨_, (pss_cons (ps_set (i := 2) sc_law_strings_right.nd rfl (.inl rfl) (pe_lst (pa_cons pe_non (pa_cons pe_int (pa_cons pe_bl (pa_cons (pe_lst (pa_cons pe_str pa_nil)) (pa_cons (pe_tup (pa_cons pe_str pa_nil)) (pa_cons pe_dnewK (pa_cons (pe_op op_add_str (pv 1) pe_str) (pa_cons pe_str (pa_cons (pe_op op_repX (pe_slice sl_str (pe_ix (ixT K) (pv 0) pe_int (fun _ _ => rfl)) po_none (po_some pe_int)) pe_int) (pa_cons (pe_op op_add_str (pv 1) pe_str) (pa_cons (pe_op op_pow pe_int pe_int) pa_nil)))))))))))))
      (pss_cons (ps_for PassesOwn.never rfl (pi_list (pv 2)) (pg_name (i := 4) sc_law_strings_right.nd rfl (.inr rfl)) (pss_cons (ps_set (i := 3) sc_law_strings_right.nd rfl (.inl rfl) (pe_lst (pa_cons (pe_lam (k := 5) c_law_heardL (by rfl) TB rfl hmT hu (hr.mono (by decide)) (lamS_by (sc := defScope s_law_strings_right) (by decide +kernel)) rfl (fun _ _ _ _ _ => rfl) (fun A outer s H E f c2 hr => (pe_caX chow_manyX (hr.mono (by decide)) (by rfl) (takes_of rfl rfl rfl rfl) (pa_cons (pv 0) (pa_cons (pv 4) pa_nil))))) pa_nil)))
      (pss_cons (ps_expr (pe_bm PySem.F.plainAttrs_list PySem.F.slot_list_append PySem.F.type_list_append mt_append (pv 3) (pa_cons (pe_lam (k := 5) c_law_heardL (by rfl) TB rfl hmT hu (hr.mono (by decide)) (lamS_by (sc := defScope s_law_strings_right) (by decide +kernel)) rfl (fun _ _ _ _ _ => rfl) (fun A outer s H E f c2 hr => (pe_caX cby_worthsX (hr.mono (by decide)) (by rfl) (takes_of rfl rfl rfl rfl) (pa_cons (pv 0) (pa_cons (pv 4) pa_nil))))) pa_nil)))
      (pss_cons (ps_expr (pe_bm PySem.F.plainAttrs_list PySem.F.slot_list_append PySem.F.type_list_append mt_append (pv 3) (pa_cons (pe_lam (k := 5) c_law_heardL (by rfl) TB rfl hmT hu (hr.mono (by decide)) (lamS_by (sc := defScope s_law_strings_right) (by decide +kernel)) rfl (fun _ _ _ _ _ => rfl) (fun A outer s H E f c2 hr => (pe_caX call_foldingsX (hr.mono (by decide)) (by rfl) (takes_of rfl rfl rfl rfl) (pa_cons (pv 0) (pa_cons (pv 4) pa_nil))))) pa_nil)))
      (pss_cons (ps_expr (pe_bm PySem.F.plainAttrs_list PySem.F.slot_list_append PySem.F.type_list_append mt_append (pv 3) (pa_cons (pe_lam (k := 5) c_law_heardL (by rfl) TB rfl hmT hu (hr.mono (by decide)) (lamS_by (sc := defScope s_law_strings_right) (by decide +kernel)) rfl (fun _ _ _ _ _ => rfl) (fun A outer s H E f c2 hr => (pe_caX cfolding_ofX (hr.mono (by decide)) (by rfl) (takes_of rfl rfl rfl rfl) (pa_cons (pv 0) (pa_cons (pv 4) (pa_cons (pe_un un_neg pe_int) pa_nil)))))) pa_nil)))
      (pss_cons (ps_expr (pe_bm PySem.F.plainAttrs_list PySem.F.slot_list_append PySem.F.type_list_append mt_append (pv 3) (pa_cons (pe_lam (k := 5) c_law_heardL (by rfl) TB rfl hmT hu (hr.mono (by decide)) (lamS_by (sc := defScope s_law_strings_right) (by decide +kernel)) rfl (fun _ _ _ _ _ => rfl) (fun A outer s H E f c2 hr => (pe_caX cnumber_ofX (hr.mono (by decide)) (by rfl) (takes_of rfl rfl rfl rfl) (pa_cons (pv 0) (pa_cons (pv 4) (pa_cons pe_non pa_nil)))))) pa_nil)))
      (pss_one (ps_if (pt_cmpR (neD K hr.units) (pv 3) (pe_op op_rep (pe_lst (pa_cons pe_str pa_nil)) pe_int) (nomark _)) (pss_one (ps_ret pe_bl)) pss_nil))))))))
      (pss_one (ps_ret pe_bl)))), ?_⟩
    obtain ⟨a, vp, vl, vs, rfl, hA, hp, hlo, hs⟩ := id hR
    have nlet : ∀ ch : Nat, ch < 97 → ch ∉ r.letters.cps.toList := fun ch h z => by
      have := ok.small ch z
      omega
    refine ⟨szL (show 1 ≤ 1000000 by decide), fun l1 hl1 => ⟨szL (show 1 ≤ 1000000 by decide), fun t2 ht2 => fun t3 ht3 => ?_⟩⟩
    have x1 := Ext.new (o := .lst [.str "a"]) hl1
    have x2 := Ext.new (o := .tup [.str "a"]) ht2
    have x3 := Ext.new (o := .dK []) ht3
    have k3 := x1.trans (x2.trans x3)
    refine ⟨_, rfl, _, _, rfl, rfl, szL (show x.length + 1 ≤ 1000000 by omega), _, rfl, a, _, 0, _, rfl, rfl, SqT.of (k3 _ _ hA), rfl, 1, rfl, _, rfl, szL (by have := ok.let6; omega), cutS r.letters none (some 1), 13, rfl, rfl, by decide, by decide, by rw [cut_one ok.let1]; decide, fun w13 h13 _ => ?_⟩
    rw [cut_one ok.let1] at h13
    refine ⟨_, rfl, _, _, rfl, rfl, szL (show x.length + 1 ≤ 1000000 by omega), _, _, rfl, rfl, ⟨by decide, by decide, by decide⟩, szL (show 11 ≤ 1000000 by decide), fun l5 hl5 => ?_⟩
    obtain ⟨us, hus⟩ : ∃ us, us = [V.non, .int 7, .bl true, .ref l1, .ref t2, .ref t3, .str (x ++ "q"), .str "A", .str w13, .str (x ++ " "), .int (10 ^ (60 : Int).toNat)] := ⟨_, rfl⟩
    rw [← hus]
    have x5 := Ext.new (o := .lst us) hl5
    have k5 := k3.trans x5
    have T1 : ThX (upd (upd (upd (upd H l1 (.lst [.str "a"])) t2 (.tup [.str "a"])) t3 (.dK [])) l5 (.lst us)) (.ref l1) (.list []) := .lst ((x2.trans (x3.trans x5)) _ _ upd_same)
    have T2 : ThX (upd (upd (upd (upd H l1 (.lst [.str "a"])) t2 (.tup [.str "a"])) t3 (.dK [])) l5 (.lst us)) (.ref t2) (.tuple []) := .tup ((x3.trans x5) _ _ upd_same)
    have T3 : ThX (upd (upd (upd (upd H l1 (.lst [.str "a"])) t2 (.tup [.str "a"])) t3 (.dK [])) l5 (.lst us)) (.ref t3) (.dict []) := .dK (x5 _ _ upd_same)
    have hL5 : upd (upd (upd (upd H l1 (.lst [.str "a"])) t2 (.tup [.str "a"])) t3 (.dK [])) l5 (.lst us) l5 = some (.lst us) := upd_same
    have hT5 := hT.ext k5
    generalize upd (upd (upd (upd H l1 (.lst [.str "a"])) t2 (.tup [.str "a"])) t3 (.dK [])) l5 (.lst us) = H5 at k5 T1 T2 T3 hL5 hT5 ⊢
    have tus : ∀ u ∈ us, ∃ d, ThX H5 u d ∧ isSx r d = false := by
      intro u hu
      rw [hus] at hu
      simp only [List.mem_cons, List.not_mem_nil, or_false] at hu
      have app : ∀ {z : Str} {ch : Nat}, z.length = 1 → ch ∈ z.cps.toList → ch ∉ r.letters.cps.toList → ∃ d, ThX H5 (.str (x ++ z)) d ∧ isSx r d = false := fun {z ch} h1 h2 h3 => by
        refine ⟨_, .str ?_, isSx_not (c := ch) ?_ h3⟩
        · show (x ++ z).cps.size ≤ 100
          rw [Str.cps_append, Array.size_append]
          have e1 : x.cps.size ≤ 12 := hx
          have e2 : z.cps.size = 1 := h1
          omega
        · rw [Str.cps_append, Array.toList_append]
          exact List.mem_append_right _ h2
      rcases hu with rfl | rfl | rfl | rfl | rfl | rfl | rfl | rfl | rfl | rfl | rfl
      · exact ⟨_, .non, rfl⟩
      · exact ⟨_, .int _, rfl⟩
      · exact ⟨_, .bl _, rfl⟩
      · exact ⟨_, T1, rfl⟩
      · exact ⟨_, T2, rfl⟩
      · exact ⟨_, T3, rfl⟩
      · exact app (ch := 113) (by decide +kernel) (by decide +kernel) hq
      · exact ⟨_, .str (by decide +kernel), isSx_not (c := 65) (by decide +kernel) (nlet 65 (by decide))⟩
      · exact ⟨_, .str (by rw [h13]; decide), isSx_long (by rw [h13]; decide)⟩
      · exact app (ch := 32) (by decide +kernel) (by decide +kernel) (nlet 32 (by decide))
      · exact ⟨_, .int _, rfl⟩
    clear hus T1 T2 T3
    refine gow_name ?_
    dsimp only
    have n05 := ExtN.ext k5
    refine ⟨_, rfl, l5, rfl, ⟨_, SqL.of hL5⟩, for_list (K := K) (xs := us) (fun i σ H4 => ∃ (y3 y4 : Option V), σ = [some (.ref a), some (.str x), some (.ref l5), y3, y4] ∧ ExtN H5 H4 ∧ Tabs T H4)
      ⟨none, none, rfl, ExtN.refl _, hT5⟩ (fun i σ H4 _ h => by obtain ⟨_, _, _, k, _⟩ := h; exact SqL.of (k _ _ hL5 (fun _ z => by cases z))) (fun i u σ H6 hi hv => ?_) (fun σ H4 hv => ?_)⟩
    · obtain ⟨y3, y4, rfl, n56, hT6⟩ := hv
      obtain ⟨d, hd, hno⟩ := tus u (List.mem_of_getElem? hi)
      refine gow_name ?_
      dsimp only
      have n06 := n05.trans n56
      refine ⟨hT6, fun H7 n67 hT7 Q7 _ => ?_⟩
      refine ⟨_, rfl, _, rfl, .ref a, u, r, d, rfl, (RulesAt.mono _ _ _ _ (ExtN.tupk (n06.trans n67)) hR).w, (hd.extN (n56.trans n67)).tx, hno, fun H8 k8 => ⟨rfl, .inl ⟨rfl, fun H9 k9 => ⟨szL (show 1 ≤ 1000000 by decide), fun lc hlc => ?_⟩⟩⟩⟩
      have x10 := Ext.new (o := .lst [.str "string"]) hlc
      have hL10 : upd H9 lc (.lst [.str "string"]) lc = some (.lst (List.replicate 1 (.str "string"))) := upd_same
      have hT10 := ((hT7.ext k8).ext k9).ext x10
      have n10 : ExtN H9 (upd H9 lc (.lst [.str "string"])) := ExtN.ext x10
      have n69 : ExtN H6 H9 := n67.trans ((ExtN.ext k8).trans (ExtN.ext k9))
      have hA9 : RulesAt H9 (.ref a) r := RulesAt.mono _ _ _ _ (ExtN.tupk (n06.trans n69)) hR
      have hd9 := hd.extN (n56.trans n69)
      clear k8 k9 n67 hT7
      generalize upd H9 lc (.lst [.str "string"]) = H10 at x10 hL10 hT10 n10 ⊢
      refine gow_name ?_
      dsimp only
      refine ⟨_, rfl, .inl ⟨rfl, _, SqL.of hL10⟩, hT10, fun H7 n67 hT7 Q7 _ => ?_⟩
      have n97 := n10.trans n67
      have hR7 := (RulesAt.mono _ _ _ _ (ExtN.tupk n97) hA9).w
      have hd7 := hd9.extN n97
      refine ⟨_, rfl, _, rfl, .ref a, u, r, d, rfl, hR7, hd7.tx, hno, fun H8 k8 => ⟨rfl, .inl ⟨rfl, fun H11 k9 => ?_⟩⟩⟩
      have hL11 := k9 _ _ (k8 _ _ (n67 _ _ hL10 (fun _ z => by cases z)))
      refine ⟨lc, _, _, rfl, rfl, hL11, szLt (show (List.replicate 1 (V.str "string")).length < 1000000 by decide), ?_⟩
      have hL12 : upd H11 lc (.lst (List.replicate 1 (.str "string") ++ [.str "string"])) lc = some (.lst (List.replicate 2 (.str "string"))) := upd_same
      have hT12 := tabs_lst (ys := List.replicate 1 (.str "string") ++ [.str "string"]) ((hT7.ext k8).ext k9) hL11
      have n12 : ExtN H9 (upd H11 lc (.lst (List.replicate 1 (.str "string") ++ [.str "string"]))) := ExtN.upd (n97.trans ((ExtN.ext k8).trans (ExtN.ext k9))) hlc
      generalize upd H11 lc (.lst (List.replicate 1 (.str "string") ++ [.str "string"])) = H12 at hL12 hT12 n12 ⊢
      clear hL10 hT10 n10 n67 hT7 n97 k8 k9 hL11 hR7 hd7
      have hL10 := hL12
      have hT10 := hT12
      have n10 := n12
      clear hL12 hT12 n12
      refine ⟨_, rfl, .inl ⟨rfl, _, SqL.of hL10⟩, hT10, fun H7 n67 hT7 Q7 _ => ?_⟩
      have n97 := n10.trans n67
      have hR7 := (RulesAt.mono _ _ _ _ (ExtN.tupk n97) hA9).w
      have hd7 := hd9.extN n97
      refine ⟨_, rfl, _, rfl, .ref a, u, r, d, rfl, hR7, hd7.tx, hno, fun H8 k8 => ⟨rfl, .inl ⟨rfl, fun H11 k9 => ?_⟩⟩⟩
      have hL11 := k9 _ _ (k8 _ _ (n67 _ _ hL10 (fun _ z => by cases z)))
      refine ⟨lc, _, _, rfl, rfl, hL11, szLt (show (List.replicate 2 (V.str "string")).length < 1000000 by decide), ?_⟩
      have hL12 : upd H11 lc (.lst (List.replicate 2 (.str "string") ++ [.str "string"])) lc = some (.lst (List.replicate 3 (.str "string"))) := upd_same
      have hT12 := tabs_lst (ys := List.replicate 2 (.str "string") ++ [.str "string"]) ((hT7.ext k8).ext k9) hL11
      have n12 : ExtN H9 (upd H11 lc (.lst (List.replicate 2 (.str "string") ++ [.str "string"]))) := ExtN.upd (n97.trans ((ExtN.ext k8).trans (ExtN.ext k9))) hlc
      generalize upd H11 lc (.lst (List.replicate 2 (.str "string") ++ [.str "string"])) = H12 at hL12 hT12 n12 ⊢
      clear hL10 hT10 n10 n67 hT7 n97 k8 k9 hL11 hR7 hd7
      have hL10 := hL12
      have hT10 := hT12
      have n10 := n12
      clear hL12 hT12 n12
      refine ⟨_, rfl, .inl ⟨rfl, _, SqL.of hL10⟩, hT10, fun H7 n67 hT7 Q7 _ => ?_⟩
      have n97 := n10.trans n67
      have hR7 := (RulesAt.mono _ _ _ _ (ExtN.tupk n97) hA9).w
      have hd7 := hd9.extN n97
      refine ⟨_, rfl, _, rfl, _, rfl, .inr ⟨.ref a, u, .int (-1), r, rfl, hR7, .inl ⟨d, hd7.tx, hno, fun H8 k8 => ⟨rfl, .inl ⟨rfl, fun H11 k9 => ?_⟩⟩⟩⟩⟩
      have hL11 := k9 _ _ (k8 _ _ (n67 _ _ hL10 (fun _ z => by cases z)))
      refine ⟨lc, _, _, rfl, rfl, hL11, szLt (show (List.replicate 3 (V.str "string")).length < 1000000 by decide), ?_⟩
      have hL12 : upd H11 lc (.lst (List.replicate 3 (.str "string") ++ [.str "string"])) lc = some (.lst (List.replicate 4 (.str "string"))) := upd_same
      have hT12 := tabs_lst (ys := List.replicate 3 (.str "string") ++ [.str "string"]) ((hT7.ext k8).ext k9) hL11
      have n12 : ExtN H9 (upd H11 lc (.lst (List.replicate 3 (.str "string") ++ [.str "string"]))) := ExtN.upd (n97.trans ((ExtN.ext k8).trans (ExtN.ext k9))) hlc
      generalize upd H11 lc (.lst (List.replicate 3 (.str "string") ++ [.str "string"])) = H12 at hL12 hT12 n12 ⊢
      clear hL10 hT10 n10 n67 hT7 n97 k8 k9 hL11 hR7 hd7
      have hL10 := hL12
      have hT10 := hT12
      have n10 := n12
      clear hL12 hT12 n12
      refine ⟨_, rfl, .inl ⟨rfl, _, SqL.of hL10⟩, hT10, fun H7 n67 hT7 Q7 _ => ?_⟩
      have n97 := n10.trans n67
      have hR7 := (RulesAt.mono _ _ _ _ (ExtN.tupk n97) hA9).w
      have hd7 := hd9.extN n97
      refine ⟨_, rfl, _, rfl, .inr ⟨.ref a, u, .non, r, rfl, hR7, .inl ⟨d, hd7.tx, hno, fun H8 k8 => ⟨rfl, .inl ⟨rfl, fun H11 k9 => ?_⟩⟩⟩⟩⟩
      have hL11 := k9 _ _ (k8 _ _ (n67 _ _ hL10 (fun _ z => by cases z)))
      refine ⟨lc, _, _, rfl, rfl, hL11, szLt (show (List.replicate 4 (V.str "string")).length < 1000000 by decide), ?_⟩
      have hL12 : upd H11 lc (.lst (List.replicate 4 (.str "string") ++ [.str "string"])) lc = some (.lst (List.replicate 5 (.str "string"))) := upd_same
      have hT12 := tabs_lst (ys := List.replicate 4 (.str "string") ++ [.str "string"]) ((hT7.ext k8).ext k9) hL11
      have n12 : ExtN H9 (upd H11 lc (.lst (List.replicate 4 (.str "string") ++ [.str "string"]))) := ExtN.upd (n97.trans ((ExtN.ext k8).trans (ExtN.ext k9))) hlc
      generalize upd H11 lc (.lst (List.replicate 4 (.str "string") ++ [.str "string"])) = H12 at hL12 hT12 n12 ⊢
      clear hL10 hT10 n10 n67 hT7 n97 k8 k9 hL11 hR7 hd7
      have hL10 := hL12
      have hT10 := hT12
      have n10 := n12
      clear hL12 hT12 n12
      refine ⟨_, rfl, szL (show 1 ≤ 1000000 by decide), fun l6 hl6 => ?_⟩
      have x6 := Ext.new (o := .lst [.str "string"]) hl6
      refine ⟨l6, 5, _, rfl, rfl, upd_same, by decide, by decide, szL (show 5 ≤ 1000000 by decide), fun l7 hl7 => ?_⟩
      have x7 := Ext.new (o := .lst (List.replicate (Int.toNat 5) [V.str "string"]).flatten) hl7
      have k12 := x6.trans x7
      refine ⟨.list (List.replicate 5 (.str "string")), .list (List.replicate 5 (.str "string")), .lst (SqL.of (k12 _ _ hL10)) (.cons (.str _) (.cons (.str _) (.cons (.str _) (.cons (.str _) (.cons (.str _) .nil))))), .lst (SqL.of upd_same) (.cons (.str _) (.cons (.str _) (.cons (.str _) (.cons (.str _) (.cons (.str _) .nil))))), by decide +kernel, by decide +kernel, _, rfl, iteF ?_⟩
      exact ⟨_, _, rfl, n56.trans (n69.trans (n10.trans (ExtN.ext k12))), hT10.ext k12⟩
    · obtain ⟨y3, y4, rfl, n54, hT4⟩ := hv
      exact q _ (n05.trans n54) hT4
abbrev CSR (P : Program) (w : World) (K : PySem.W.Frag) (mg : Str → Option Value) (base : Heap) (T : List (Addr × Str)) : Prop := Ca P w K mg base 13 "_law_strings_right" ["_law_book", "_law_word"] (spSR T)
end
end Pf


namespace Pf
open PySem PySem.Spec PyProof.Rows L2 LamX
/-! ### a folding with something otherwise -/
def Thh (H : Hp) (v : V) : Prop := ∃ d, Dz H v d ∧ (Bg 141 20000 3 d ∨ d = .dict []) ∧ ∀ ds, d = .tuple ds → ds.length ≤ 100
theorem Thh.ext {H H' : Hp} {v : V} (h : Thh H v) (e : Ext H H') : Thh H' v := by
  obtain ⟨d, h1, h2⟩ := h
  exact ⟨d, h1.ext e, h2⟩
theorem Thh.flat {H : Hp} {v : V} (h : Dk 200 0 H v) (hv : ∀ a, v ≠ .ref a) : Thh H v := by
  obtain ⟨d, h1, h2⟩ := h
  refine ⟨d, .inl h1, .inl (h2.le (by decide) (by decide)), fun ds e => ?_⟩
  subst e
  cases h1 with
  | tup h _ => exact (hv _ rfl).elim
theorem Thh.tup {H : Hp} {a : Addr} {us : List V} (h : H a = some (.tup us)) (hu : ∀ u ∈ us, Dk 1000 1 H u) (hn : us.length ≤ 19) : Thh H (.ref a) := by
  obtain ⟨ds, h1, h2⟩ := dk_all hu
  have hl := dsAll_len h1
  refine ⟨.tuple ds, .inl (.tup h h1), .inl ((Bg.tup (n := 19) (M := 20000) (by omega) h2 (by decide)).le (Nat.le_refl _) (by decide)), fun es e => ?_⟩
  cases e
  omega
theorem Thh.lst {H : Hp} {a : Addr} {us : List V} (h : H a = some (.lst us)) (hu : ∀ u ∈ us, Dk 1000 1 H u) (hn : us.length ≤ 19) : Thh H (.ref a) := by
  obtain ⟨ds, h1, h2⟩ := dk_all hu
  have hl := dsAll_len h1
  refine ⟨.list ds, .inl (.lst h h1), .inl ((Bg.lst (n := 19) (M := 20000) (by omega) h2 (by decide)).le (Nat.le_refl _) (by decide)), fun es e => ?_⟩
  cases e
theorem Thh.emp {H : Hp} {a : Addr} (h : H a = some (.dK [])) : Thh H (.ref a) := ⟨.dict [], .inr ⟨a, rfl, h, rfl⟩, .inr rfl, fun ds e => by cases e⟩
/-- what a tuple or a list of flat things is -/
theorem dk_tup {H : Hp} {a : Addr} {us : List V} (h : H a = some (.tup us)) (hu : ∀ u ∈ us, Dk 200 0 H u) (hn : us.length ≤ 3) : Dk 1000 1 H (.ref a) := Dk.tup (n := 3) h hu hn (by decide)
theorem dk_lst {H : Hp} {a : Addr} {us : List V} (h : H a = some (.lst us)) (hu : ∀ u ∈ us, Dk 200 0 H u) (hn : us.length ≤ 3) : Dk 1000 1 H (.ref a) := Dk.lst (n := 3) h hu hn (by decide)
theorem dk_up {H : Hp} {v : V} (h : Dk 200 0 H v) : Dk 1000 1 H v := h.le (by decide) (by decide)
theorem all1 {p : V → Prop} {u : V} (h : p u) : ∀ z ∈ [u], p z := fun z hz => by rw [List.mem_singleton.mp hz]; exact h
theorem all2 {p : V → Prop} {u v : V} (h : p u) (h2 : p v) : ∀ z ∈ [u, v], p z := fun z hz => by
  rcases List.mem_cons.mp hz with rfl | hz
  · exact h
  · exact all1 h2 z hz
theorem all3 {p : V → Prop} {u v x : V} (h : p u) (h2 : p v) (h3 : p x) : ∀ z ∈ [u, v, x], p z := fun z hz => by
  rcases List.mem_cons.mp hz with rfl | hz
  · exact h
  · exact all2 h2 h3 z hz
theorem allC {p p' : V → Prop} {u : V} {us : List V} (h : ∀ z ∈ us, p z) (k : ∀ z, p z → p' z) (hu : p' u) : ∀ z ∈ u :: us, p' z := fun z hz => by
  rcases List.mem_cons.mp hz with rfl | hz
  · exact hu
  · exact k z (h z hz)
theorem mem_cutV {xs : List V} {lo hi : Option Int} {u : V} (h : u ∈ cutV xs lo hi) : u ∈ xs := by
  unfold cutV at h
  exact List.mem_of_mem_drop (List.mem_of_mem_take h)
theorem cutV_len (xs : List V) (lo hi : Option Int) : (cutV xs lo hi).length ≤ xs.length := by
  unfold cutV
  rw [List.length_take, List.length_drop]
  omega
def Bq (q : Fo) : Prop := q.length ≤ 6 ∧ ∀ y ∈ q, (0 ≤ y.1 ∧ y.1 ≤ 20) ∧ 0 ≤ y.2 ∧ y.2 ≤ 20
section
variable {P : Program} {w : World} {K : PySem.W.Frag} {mg : Str → Option Value} {base : Heap}
abbrev s_law_bent : Stmt := topS 63
theorem sc_law_bent : FnScope ["_law_pen", "_law_shape", "_law_way", "_law_odd", "_law_at", "_law_i", "_law_j", "_law_some"] ["_law_pen", "_law_shape"] (defScope s_law_bent) :=
  ⟨rfl, rfl, rfl, by decide +kernel, rfl, by decide +kernel, by decide +kernel⟩
def spBent : Sp := fun vs H Q _ => ∃ (p c : Addr) (sh : V) (q : Fo) (n : Nat), vs = [.ref p, sh] ∧ FoAt H sh q ∧ Bq q ∧ Pen H p c n ∧ n + 3 < 1000000 ∧ ∀ v H', Thh H' v → Kp p H H' → Pen H' p c (n + 3) → Q v H'
theorem ok_bent {f : Addr} {fd : FuncData} (F : Fun K "_law_bent" "_law_bent" s_law_bent f fd) (c_law_draw : CDraw P w K mg base) (mlen : mg "len" = none) (mlist : mg "list" = none) (mstr : mg "str" = none) : FnOk P w K mg base CX0 3 f fd ["_law_pen", "_law_shape"] spBent := by
  refine F.ok sc_law_bent (fun vs H Q E h => ?_) (fun cdv A outer s H vs Q E hr h => ?_)
  · obtain ⟨p, c, sh, q, n, rfl, _⟩ := h
    rfl
  · obtain ⟨p, c, sh, q, n, rfl, ⟨sa, fs, rfl, hS, hPf⟩, ⟨hq6, hqb⟩, hP, hn, qq⟩ := h
    refine ⟨_, (pss_cons (ps_set (i := 2) sc_law_bent.nd rfl (.inl rfl) (pe_ca c_law_draw (hr.mono (by decide)) (by rfl) (pa_cons (pv 0) (pa_cons pe_int pa_nil))))
      (pss_cons (ps_set (i := 3) sc_law_bent.nd rfl (.inl rfl) (pe_lst (pa_cons pe_non (pa_cons pe_bl (pa_cons pe_int (pa_cons pe_str (pa_cons (pe_lst pa_nil) (pa_cons pe_dnewK (pa_cons (pe_tup (pa_cons (pe_tup (pa_cons pe_int pa_nil)) pa_nil)) (pa_cons (pe_tup (pa_cons (pe_tup (pa_cons pe_int (pa_cons pe_int pa_nil))) pa_nil)) (pa_cons (pe_tup (pa_cons (pe_tup (pa_cons pe_int (pa_cons pe_int pa_nil))) pa_nil)) (pa_cons (pe_tup (pa_cons (pe_tup (pa_cons pe_int (pa_cons pe_int pa_nil))) pa_nil)) (pa_cons (pe_tup (pa_cons (pe_tup (pa_cons pe_bl (pa_cons pe_int pa_nil))) pa_nil)) (pa_cons (pe_tup (pa_cons (pe_tup (pa_cons pe_int (pa_cons pe_int pa_nil))) (pa_cons (pe_tup (pa_cons pe_int (pa_cons pe_int pa_nil))) pa_nil))) pa_nil))))))))))))))
      (pss_cons (ps_set (i := 3) sc_law_bent.nd rfl (.inl rfl) (pe_op op_cat (pv 3) (pe_lst (pa_cons (pe_callTy (listOf K) (by rfl) mlist (by decide +kernel) (pa_cons (pv 1) pa_nil)) (pa_cons (pe_op (catN K) (pv 1) (pe_slice (slN K) (pv 1) po_none (po_some pe_int))) (pa_cons (pe_revT (pv 1)) (pa_cons (pe_slice (slN K) (pv 1) (po_some pe_int) po_none) (pa_cons (pe_slice (slN K) (pv 1) po_none (po_some (pe_un un_neg pe_int))) (pa_cons (pe_tup (pa_cons (pe_lst (pa_cons pe_int (pa_cons pe_int pa_nil))) pa_nil)) (pa_cons (pe_tup (pa_cons pe_int (pa_cons pe_int pa_nil))) (pa_cons pe_str pa_nil)))))))))))
      (pss_cons (ps_if (PW.pt (pw_or (pt_cmpR op_lt (pv 2) pe_int (nomark _)) (pw_or1 (pt_cmpR (eqD K hr.units) (pv 1) (pe_tup pa_nil) (nomark _))))) (pss_one (ps_ret (pe_ix (ixL K) (pv 3) (pe_ca c_law_draw (hr.mono (by decide)) (by rfl) (pa_cons (pv 0) (pa_cons (pe_callB (lenQ K) (by rfl) mlen (by decide +kernel) (pa_cons (pv 3) pa_nil)) pa_nil))) (fun _ _ => rfl)))) pss_nil)
      (pss_cons (ps_set (i := 4) sc_law_bent.nd rfl (.inl rfl) (pe_ca c_law_draw (hr.mono (by decide)) (by rfl) (pa_cons (pv 0) (pa_cons (pe_callB (lenQ K) (by rfl) mlen (by decide +kernel) (pa_cons (pv 1) pa_nil)) pa_nil))))
      (pss_cons (ps_asg (pe_ix (ixT K) (pv 1) (pv 4) (fun _ _ => rfl)) (pg_tup rfl (pgs_cons (pg_name (i := 5) sc_law_bent.nd rfl (.inl rfl)) (pgs_cons (pg_name (i := 6) sc_law_bent.nd rfl (.inl rfl)) pgs_nil))))
      (pss_cons (ps_set (i := 7) sc_law_bent.nd rfl (.inl rfl) (pe_lst (pa_cons (pe_tup (pa_cons (pe_op op_add (pv 5) pe_int) (pa_cons (pv 6) pa_nil))) (pa_cons (pe_tup (pa_cons (pv 5) (pa_cons (pe_op op_sub (pv 6) pe_int) pa_nil))) (pa_cons (pe_tup (pa_cons (pv 6) (pa_cons (pv 5) pa_nil))) (pa_cons (pe_tup (pa_cons (pe_op op_sub (pv 5) pe_int) (pa_cons (pv 6) pa_nil))) (pa_cons (pe_tup (pa_cons (pv 5) (pa_cons (pe_op op_add (pv 6) pe_int) pa_nil))) (pa_cons (pe_lst (pa_cons (pv 5) (pa_cons (pv 6) pa_nil))) (pa_cons (pe_tup (pa_cons (pv 5) (pa_cons (pv 6) (pa_cons pe_int pa_nil)))) (pa_cons (pe_tup (pa_cons (pv 5) pa_nil)) (pa_cons (pe_tup (pa_cons (pe_callTy call_str_int (by rfl) mstr (by decide +kernel) (pa_cons (pv 5) pa_nil)) (pa_cons (pv 6) pa_nil))) (pa_cons (pe_tup (pa_cons (pv 5) (pa_cons pe_bl pa_nil))) pa_nil))))))))))))
      (pss_one (ps_ret (pe_op (catN K) (pe_op (catN K) (pe_slice (slN K) (pv 1) po_none (po_some (pv 4))) (pe_tup (pa_cons (pe_ix (ixL K) (pv 7) (pe_ca c_law_draw (hr.mono (by decide)) (by rfl) (pa_cons (pv 0) (pa_cons pe_int pa_nil))) (fun _ _ => rfl)) pa_nil))) (pe_slice (slN K) (pv 1) (po_some (pe_op op_add (pv 4) pe_int)) po_none))))))))))), ?_⟩
    have hfl := paired_len hPf
    obtain ⟨op, hop⟩ : ∃ zs, H p = some (.lst zs) := by
      obtain ⟨cells, a, r, hp, _⟩ := hP
      exact ⟨_, hp⟩
    have nsp : ∀ {b : Addr} {xs : List V}, H b = some (.tup xs) → b ≠ p := fun e z => by
      rw [z, hop] at e
      cases e
    have up : ∀ {H' : Hp}, Kp p H H' → ∀ {b : Addr} {xs : List V}, H b = some (.tup xs) → H' b = some (.tup xs) := fun {H'} k {b xs} e => k _ _ (nsp e) e
    have gS := hd2_tup (p := p) (D := p) hS hop hop
    have hFs : ∀ u ∈ fs, Dk 1000 1 (hd2 p p H) u := fun u hu => by
      obtain ⟨i, hi⟩ := List.mem_iff_getElem?.mp hu
      obtain ⟨y, hy, a1, rfl, ha1⟩ := paired_get hPf hi
      have hb := hqb y (List.mem_of_getElem? hy)
      exact dk_tup (hd2_tup ha1 hop hop) (all2 (Dk.intS (by omega) (by omega)) (Dk.intS (by omega) (by omega))) (show 2 ≤ 3 by decide)
    refine ⟨_, rfl, p, c, 8, n, rfl, hP, by omega, by decide, by decide, fun way H1 w0 w1 k1 hP1 => ?_⟩
    obtain ⟨zs0, hp0⟩ : ∃ zs, H1 p = some (.lst zs) := by
      obtain ⟨cells, a, r, hp, _⟩ := hP1
      exact ⟨_, hp⟩
    have e0 := hd2_kp (D := p) k1
    have hS0 := up k1 hS
    have kk0 : Ext H1 H1 := Ext.refl
    have al0 : ∀ z ∈ [V.str "", .int 0, .bl true, .non], Thh (hd2 p p H1) z := fun z hz => by
      simp only [List.mem_cons, List.not_mem_nil, or_false] at hz
      rcases hz with rfl | rfl | rfl | rfl
      · exact .flat (Dk.str (by decide +kernel) (by decide +kernel) (by decide +kernel)) (fun _ z => by cases z)
      · exact .flat (Dk.intS (by decide) (by decide)) (fun _ z => by cases z)
      · exact .flat (Dk.bl true) (fun _ z => by cases z)
      · exact .flat Dk.non (fun _ z => by cases z)
    refine ⟨Nat.zero_le _, fun lA hlA => ?_⟩
    have x1 := Ext.new (o := .lst []) hlA
    have glA : hd2 p p (upd H1 lA (.lst [])) lA = some (.lst []) := hd2_new hp0 hp0 hlA
    have olA : (upd H1 lA (.lst [])) lA = some (.lst []) := upd_same
    generalize upd H1 lA (.lst []) = G1 at x1 glA olA ⊢
    have hp1 := x1 _ _ hp0
    have kk1 := kk0.trans x1
    have al1 := allC (p' := Thh (hd2 p p G1)) al0 (fun z h => h.ext (hd2_ext (x1))) (.lst glA (fun z hz => by cases hz) (Nat.zero_le _))
    refine fun tB htB => ?_
    have x2 := Ext.new (o := .dK []) htB
    have gtB : hd2 p p (upd G1 tB (.dK [])) tB = some (.dK []) := hd2_new hp1 hp1 htB
    have otB : (upd G1 tB (.dK [])) tB = some (.dK []) := upd_same
    generalize upd G1 tB (.dK []) = G2 at x2 gtB otB ⊢
    have hp2 := x2 _ _ hp1
    have kk2 := kk1.trans x2
    have al2 := allC (p' := Thh (hd2 p p G2)) al1 (fun z h => h.ext (hd2_ext (x2))) (.emp gtB)
    refine ⟨szL (show 1 ≤ 1000000 by decide), fun c1 hc1 => ?_⟩
    have x3 := Ext.new (o := .tup [.int 0]) hc1
    have gc1 : hd2 p p (upd G2 c1 (.tup [.int 0])) c1 = some (.tup [.int 0]) := hd2_new hp2 hp2 hc1
    have oc1 : (upd G2 c1 (.tup [.int 0])) c1 = some (.tup [.int 0]) := upd_same
    generalize upd G2 c1 (.tup [.int 0]) = G3 at x3 gc1 oc1 ⊢
    have hp3 := x3 _ _ hp2
    have kk3 := kk2.trans x3
    have Dc1 : Dk 1000 1 (hd2 p p G3) (.ref c1) := dk_tup gc1 (all1 (Dk.intS (by decide) (by decide))) (show 1 ≤ 3 by decide)
    refine ⟨szL (show 1 ≤ 1000000 by decide), fun dd1 hdd1 => ?_⟩
    have x4 := Ext.new (o := .tup [.ref c1]) hdd1
    have gdd1 : hd2 p p (upd G3 dd1 (.tup [.ref c1])) dd1 = some (.tup [.ref c1]) := hd2_new hp3 hp3 hdd1
    have odd1 : (upd G3 dd1 (.tup [.ref c1])) dd1 = some (.tup [.ref c1]) := upd_same
    generalize upd G3 dd1 (.tup [.ref c1]) = G4 at x4 gdd1 odd1 ⊢
    have hp4 := x4 _ _ hp3
    have kk4 := kk3.trans x4
    have al4 := allC (p' := Thh (hd2 p p G4)) al2 (fun z h => h.ext (hd2_ext (x3.trans (x4)))) (.tup gdd1 (all1 (Dc1.ext (hd2_ext (x4)))) (show 1 ≤ 19 by decide))
    refine ⟨szL (show 2 ≤ 1000000 by decide), fun c2 hc2 => ?_⟩
    have x5 := Ext.new (o := .tup [.int 0, .int 0]) hc2
    have gc2 : hd2 p p (upd G4 c2 (.tup [.int 0, .int 0])) c2 = some (.tup [.int 0, .int 0]) := hd2_new hp4 hp4 hc2
    have oc2 : (upd G4 c2 (.tup [.int 0, .int 0])) c2 = some (.tup [.int 0, .int 0]) := upd_same
    generalize upd G4 c2 (.tup [.int 0, .int 0]) = G5 at x5 gc2 oc2 ⊢
    have hp5 := x5 _ _ hp4
    have kk5 := kk4.trans x5
    have Dc2 : Dk 1000 1 (hd2 p p G5) (.ref c2) := dk_tup gc2 (all2 (Dk.intS (by decide) (by decide)) (Dk.intS (by decide) (by decide))) (show 2 ≤ 3 by decide)
    refine ⟨szL (show 1 ≤ 1000000 by decide), fun dd2 hdd2 => ?_⟩
    have x6 := Ext.new (o := .tup [.ref c2]) hdd2
    have gdd2 : hd2 p p (upd G5 dd2 (.tup [.ref c2])) dd2 = some (.tup [.ref c2]) := hd2_new hp5 hp5 hdd2
    have odd2 : (upd G5 dd2 (.tup [.ref c2])) dd2 = some (.tup [.ref c2]) := upd_same
    generalize upd G5 dd2 (.tup [.ref c2]) = G6 at x6 gdd2 odd2 ⊢
    have hp6 := x6 _ _ hp5
    have kk6 := kk5.trans x6
    have al6 := allC (p' := Thh (hd2 p p G6)) al4 (fun z h => h.ext (hd2_ext (x5.trans (x6)))) (.tup gdd2 (all1 (Dc2.ext (hd2_ext (x6)))) (show 1 ≤ 19 by decide))
    refine ⟨szL (show 2 ≤ 1000000 by decide), fun c3 hc3 => ?_⟩
    have x7 := Ext.new (o := .tup [.int 1, .int 0]) hc3
    have gc3 : hd2 p p (upd G6 c3 (.tup [.int 1, .int 0])) c3 = some (.tup [.int 1, .int 0]) := hd2_new hp6 hp6 hc3
    have oc3 : (upd G6 c3 (.tup [.int 1, .int 0])) c3 = some (.tup [.int 1, .int 0]) := upd_same
    generalize upd G6 c3 (.tup [.int 1, .int 0]) = G7 at x7 gc3 oc3 ⊢
    have hp7 := x7 _ _ hp6
    have kk7 := kk6.trans x7
    have Dc3 : Dk 1000 1 (hd2 p p G7) (.ref c3) := dk_tup gc3 (all2 (Dk.intS (by decide) (by decide)) (Dk.intS (by decide) (by decide))) (show 2 ≤ 3 by decide)
    refine ⟨szL (show 1 ≤ 1000000 by decide), fun dd3 hdd3 => ?_⟩
    have x8 := Ext.new (o := .tup [.ref c3]) hdd3
    have gdd3 : hd2 p p (upd G7 dd3 (.tup [.ref c3])) dd3 = some (.tup [.ref c3]) := hd2_new hp7 hp7 hdd3
    have odd3 : (upd G7 dd3 (.tup [.ref c3])) dd3 = some (.tup [.ref c3]) := upd_same
    generalize upd G7 dd3 (.tup [.ref c3]) = G8 at x8 gdd3 odd3 ⊢
    have hp8 := x8 _ _ hp7
    have kk8 := kk7.trans x8
    have al8 := allC (p' := Thh (hd2 p p G8)) al6 (fun z h => h.ext (hd2_ext (x7.trans (x8)))) (.tup gdd3 (all1 (Dc3.ext (hd2_ext (x8)))) (show 1 ≤ 19 by decide))
    refine ⟨szL (show 2 ≤ 1000000 by decide), fun c4 hc4 => ?_⟩
    have x9 := Ext.new (o := .tup [.int 0, .int 99]) hc4
    have gc4 : hd2 p p (upd G8 c4 (.tup [.int 0, .int 99])) c4 = some (.tup [.int 0, .int 99]) := hd2_new hp8 hp8 hc4
    have oc4 : (upd G8 c4 (.tup [.int 0, .int 99])) c4 = some (.tup [.int 0, .int 99]) := upd_same
    generalize upd G8 c4 (.tup [.int 0, .int 99]) = G9 at x9 gc4 oc4 ⊢
    have hp9 := x9 _ _ hp8
    have kk9 := kk8.trans x9
    have Dc4 : Dk 1000 1 (hd2 p p G9) (.ref c4) := dk_tup gc4 (all2 (Dk.intS (by decide) (by decide)) (Dk.intS (by decide) (by decide))) (show 2 ≤ 3 by decide)
    refine ⟨szL (show 1 ≤ 1000000 by decide), fun dd4 hdd4 => ?_⟩
    have x10 := Ext.new (o := .tup [.ref c4]) hdd4
    have gdd4 : hd2 p p (upd G9 dd4 (.tup [.ref c4])) dd4 = some (.tup [.ref c4]) := hd2_new hp9 hp9 hdd4
    have odd4 : (upd G9 dd4 (.tup [.ref c4])) dd4 = some (.tup [.ref c4]) := upd_same
    generalize upd G9 dd4 (.tup [.ref c4]) = G10 at x10 gdd4 odd4 ⊢
    have hp10 := x10 _ _ hp9
    have kk10 := kk9.trans x10
    have al10 := allC (p' := Thh (hd2 p p G10)) al8 (fun z h => h.ext (hd2_ext (x9.trans (x10)))) (.tup gdd4 (all1 (Dc4.ext (hd2_ext (x10)))) (show 1 ≤ 19 by decide))
    refine ⟨szL (show 2 ≤ 1000000 by decide), fun c5 hc5 => ?_⟩
    have x11 := Ext.new (o := .tup [.bl false, .int 1]) hc5
    have gc5 : hd2 p p (upd G10 c5 (.tup [.bl false, .int 1])) c5 = some (.tup [.bl false, .int 1]) := hd2_new hp10 hp10 hc5
    have oc5 : (upd G10 c5 (.tup [.bl false, .int 1])) c5 = some (.tup [.bl false, .int 1]) := upd_same
    generalize upd G10 c5 (.tup [.bl false, .int 1]) = G11 at x11 gc5 oc5 ⊢
    have hp11 := x11 _ _ hp10
    have kk11 := kk10.trans x11
    have Dc5 : Dk 1000 1 (hd2 p p G11) (.ref c5) := dk_tup gc5 (all2 (Dk.bl false) (Dk.intS (by decide) (by decide))) (show 2 ≤ 3 by decide)
    refine ⟨szL (show 1 ≤ 1000000 by decide), fun dd5 hdd5 => ?_⟩
    have x12 := Ext.new (o := .tup [.ref c5]) hdd5
    have gdd5 : hd2 p p (upd G11 dd5 (.tup [.ref c5])) dd5 = some (.tup [.ref c5]) := hd2_new hp11 hp11 hdd5
    have odd5 : (upd G11 dd5 (.tup [.ref c5])) dd5 = some (.tup [.ref c5]) := upd_same
    generalize upd G11 dd5 (.tup [.ref c5]) = G12 at x12 gdd5 odd5 ⊢
    have hp12 := x12 _ _ hp11
    have kk12 := kk11.trans x12
    have al12 := allC (p' := Thh (hd2 p p G12)) al10 (fun z h => h.ext (hd2_ext (x11.trans (x12)))) (.tup gdd5 (all1 (Dc5.ext (hd2_ext (x12)))) (show 1 ≤ 19 by decide))
    refine ⟨szL (show 2 ≤ 1000000 by decide), fun c6 hc6 => ?_⟩
    have x13 := Ext.new (o := .tup [.int 0, .int 1]) hc6
    have gc6 : hd2 p p (upd G12 c6 (.tup [.int 0, .int 1])) c6 = some (.tup [.int 0, .int 1]) := hd2_new hp12 hp12 hc6
    have oc6 : (upd G12 c6 (.tup [.int 0, .int 1])) c6 = some (.tup [.int 0, .int 1]) := upd_same
    generalize upd G12 c6 (.tup [.int 0, .int 1]) = G13 at x13 gc6 oc6 ⊢
    have hp13 := x13 _ _ hp12
    have kk13 := kk12.trans x13
    have Dc6 : Dk 1000 1 (hd2 p p G13) (.ref c6) := dk_tup gc6 (all2 (Dk.intS (by decide) (by decide)) (Dk.intS (by decide) (by decide))) (show 2 ≤ 3 by decide)
    refine ⟨szL (show 2 ≤ 1000000 by decide), fun c7 hc7 => ?_⟩
    have x14 := Ext.new (o := .tup [.int 0, .int 1]) hc7
    have gc7 : hd2 p p (upd G13 c7 (.tup [.int 0, .int 1])) c7 = some (.tup [.int 0, .int 1]) := hd2_new hp13 hp13 hc7
    have oc7 : (upd G13 c7 (.tup [.int 0, .int 1])) c7 = some (.tup [.int 0, .int 1]) := upd_same
    generalize upd G13 c7 (.tup [.int 0, .int 1]) = G14 at x14 gc7 oc7 ⊢
    have hp14 := x14 _ _ hp13
    have kk14 := kk13.trans x14
    have Dc7 : Dk 1000 1 (hd2 p p G14) (.ref c7) := dk_tup gc7 (all2 (Dk.intS (by decide) (by decide)) (Dk.intS (by decide) (by decide))) (show 2 ≤ 3 by decide)
    refine ⟨szL (show 2 ≤ 1000000 by decide), fun dd6 hdd6 => ?_⟩
    have x15 := Ext.new (o := .tup [.ref c6, .ref c7]) hdd6
    have gdd6 : hd2 p p (upd G14 dd6 (.tup [.ref c6, .ref c7])) dd6 = some (.tup [.ref c6, .ref c7]) := hd2_new hp14 hp14 hdd6
    have odd6 : (upd G14 dd6 (.tup [.ref c6, .ref c7])) dd6 = some (.tup [.ref c6, .ref c7]) := upd_same
    generalize upd G14 dd6 (.tup [.ref c6, .ref c7]) = G15 at x15 gdd6 odd6 ⊢
    have hp15 := x15 _ _ hp14
    have kk15 := kk14.trans x15
    have al15 := allC (p' := Thh (hd2 p p G15)) al12 (fun z h => h.ext (hd2_ext (x13.trans (x14.trans (x15))))) (.tup gdd6 (all2 (Dc6.ext (hd2_ext (x14.trans (x15)))) (Dc7.ext (hd2_ext (x15)))) (show 2 ≤ 19 by decide))
    refine ⟨szL (show 12 ≤ 1000000 by decide), fun l1 hl1 => ?_⟩
    have x16 := Ext.new (o := .lst [.non, .bl true, .int 0, .str "", .ref lA, .ref tB, .ref dd1, .ref dd2, .ref dd3, .ref dd4, .ref dd5, .ref dd6]) hl1
    have gl1 : hd2 p p (upd G15 l1 (.lst [.non, .bl true, .int 0, .str "", .ref lA, .ref tB, .ref dd1, .ref dd2, .ref dd3, .ref dd4, .ref dd5, .ref dd6])) l1 = some (.lst [.non, .bl true, .int 0, .str "", .ref lA, .ref tB, .ref dd1, .ref dd2, .ref dd3, .ref dd4, .ref dd5, .ref dd6]) := hd2_new hp15 hp15 hl1
    have ol1 : (upd G15 l1 (.lst [.non, .bl true, .int 0, .str "", .ref lA, .ref tB, .ref dd1, .ref dd2, .ref dd3, .ref dd4, .ref dd5, .ref dd6])) l1 = some (.lst [.non, .bl true, .int 0, .str "", .ref lA, .ref tB, .ref dd1, .ref dd2, .ref dd3, .ref dd4, .ref dd5, .ref dd6]) := upd_same
    generalize upd G15 l1 (.lst [.non, .bl true, .int 0, .str "", .ref lA, .ref tB, .ref dd1, .ref dd2, .ref dd3, .ref dd4, .ref dd5, .ref dd6]) = G16 at x16 gl1 ol1 ⊢
    have hp16 := x16 _ _ hp15
    have kk16 := kk15.trans x16
    refine gow_name ?_
    dsimp only
    refine ⟨_, rfl, ?_⟩
    refine ⟨_, rfl, sa, fs, rfl, .inr (SqT.of (kk16 _ _ hS0)), fun lS hlS => ?_⟩
    have x17 := Ext.new (o := .lst fs) hlS
    have glS : hd2 p p (upd G16 lS (.lst fs)) lS = some (.lst fs) := hd2_new hp16 hp16 hlS
    have olS : (upd G16 lS (.lst fs)) lS = some (.lst fs) := upd_same
    generalize upd G16 lS (.lst fs) = G17 at x17 glS olS ⊢
    have hp17 := x17 _ _ hp16
    have kk17 := kk16.trans x17
    have al17 := allC (p' := Thh (hd2 p p G17)) al15 (fun z h => h.ext (hd2_ext (x16.trans (x17)))) (.lst glS (fun u hu => ((hFs u hu).ext e0).ext (hd2_ext kk17)) (by omega))
    refine ⟨_, rfl, _, rfl, 1, rfl, sa, fs, rfl, kk17 _ _ hS0, fun q1 J1 f1 hq1 => ?_⟩
    have x18 := f1
    have hp18 := x18 _ _ hp17
    have kk18 := kk17.trans x18
    have gq1 := hd2_tup (p := p) (D := p) hq1 hp18 hp18
    have hc1 := cutV_len fs none (some 1)
    refine ⟨sa, q1, _, _, rfl, rfl, kk18 _ _ hS0, hq1, szL (by omega), fun q2 J2 f2 hq2 => ?_⟩
    have x19 := f2
    have hp19 := x19 _ _ hp18
    have kk19 := kk18.trans x19
    have gq2 := hd2_tup (p := p) (D := p) hq2 hp19 hp19
    have al19 := allC (p' := Thh (hd2 p p J2)) al17 (fun z h => h.ext (hd2_ext (x18.trans (x19)))) (.tup gq2 (fun u hu => by
      have hF : ∀ u ∈ fs, Dk 1000 1 (hd2 p p J2) u := (fun u hu => ((hFs u hu).ext e0).ext (hd2_ext kk19))
      rcases List.mem_append.mp hu with hu | hu
      · exact hF u hu
      · exact hF u (mem_cutV hu)) (by rw [List.length_append]; omega))
    refine ⟨_, rfl, sa, fs, rfl, SqT.of (kk19 _ _ hS0), fun q3 hq3 => ?_⟩
    have x20 := Ext.new (o := .tup fs.reverse) hq3
    have gq3 : hd2 p p (upd J2 q3 (.tup fs.reverse)) q3 = some (.tup fs.reverse) := hd2_new hp19 hp19 hq3
    have oq3 : (upd J2 q3 (.tup fs.reverse)) q3 = some (.tup fs.reverse) := upd_same
    generalize upd J2 q3 (.tup fs.reverse) = G20 at x20 gq3 oq3 ⊢
    have hp20 := x20 _ _ hp19
    have kk20 := kk19.trans x20
    have al20 := allC (p' := Thh (hd2 p p G20)) al19 (fun z h => h.ext (hd2_ext (x20))) (.tup gq3 (fun u hu => by
      have hF : ∀ u ∈ fs, Dk 1000 1 (hd2 p p G20) u := (fun u hu => ((hFs u hu).ext e0).ext (hd2_ext kk20))
      exact hF u (List.mem_reverse.mp hu)) (by rw [List.length_reverse]; omega))
    refine ⟨_, rfl, 1, rfl, sa, fs, rfl, kk20 _ _ hS0, fun q4 J4 f4 hq4 => ?_⟩
    have x21 := f4
    have hp21 := x21 _ _ hp20
    have kk21 := kk20.trans x21
    have gq4 := hd2_tup (p := p) (D := p) hq4 hp21 hp21
    have al21 := allC (p' := Thh (hd2 p p J4)) al20 (fun z h => h.ext (hd2_ext (x21))) (.tup gq4 (fun u hu => by
      have hF : ∀ u ∈ fs, Dk 1000 1 (hd2 p p J4) u := (fun u hu => ((hFs u hu).ext e0).ext (hd2_ext kk21))
      exact hF u (mem_cutV hu)) (by have := cutV_len fs (some 1) none; omega))
    refine ⟨_, rfl, _, rfl, _, rfl, sa, fs, rfl, kk21 _ _ hS0, fun q5 J5 f5 hq5 => ?_⟩
    have x22 := f5
    have hp22 := x22 _ _ hp21
    have kk22 := kk21.trans x22
    have gq5 := hd2_tup (p := p) (D := p) hq5 hp22 hp22
    have al22 := allC (p' := Thh (hd2 p p J5)) al21 (fun z h => h.ext (hd2_ext (x22))) (.tup gq5 (fun u hu => by
      have hF : ∀ u ∈ fs, Dk 1000 1 (hd2 p p J5) u := (fun u hu => ((hFs u hu).ext e0).ext (hd2_ext kk22))
      exact hF u (mem_cutV hu)) (by have := cutV_len fs none (some (-1)); omega))
    refine ⟨szL (show 2 ≤ 1000000 by decide), fun c8 hc8 => ?_⟩
    have x23 := Ext.new (o := .lst [.int 0, .int 1]) hc8
    have gc8 : hd2 p p (upd J5 c8 (.lst [.int 0, .int 1])) c8 = some (.lst [.int 0, .int 1]) := hd2_new hp22 hp22 hc8
    have oc8 : (upd J5 c8 (.lst [.int 0, .int 1])) c8 = some (.lst [.int 0, .int 1]) := upd_same
    generalize upd J5 c8 (.lst [.int 0, .int 1]) = G23 at x23 gc8 oc8 ⊢
    have hp23 := x23 _ _ hp22
    have kk23 := kk22.trans x23
    have Dc8 : Dk 1000 1 (hd2 p p G23) (.ref c8) := dk_lst gc8 (all2 (Dk.intS (by decide) (by decide)) (Dk.intS (by decide) (by decide))) (show 2 ≤ 3 by decide)
    refine ⟨szL (show 1 ≤ 1000000 by decide), fun dd7 hdd7 => ?_⟩
    have x24 := Ext.new (o := .tup [.ref c8]) hdd7
    have gdd7 : hd2 p p (upd G23 dd7 (.tup [.ref c8])) dd7 = some (.tup [.ref c8]) := hd2_new hp23 hp23 hdd7
    have odd7 : (upd G23 dd7 (.tup [.ref c8])) dd7 = some (.tup [.ref c8]) := upd_same
    generalize upd G23 dd7 (.tup [.ref c8]) = G24 at x24 gdd7 odd7 ⊢
    have hp24 := x24 _ _ hp23
    have kk24 := kk23.trans x24
    have al24 := allC (p' := Thh (hd2 p p G24)) al22 (fun z h => h.ext (hd2_ext (x23.trans (x24)))) (.tup gdd7 (all1 (Dc8.ext (hd2_ext (x24)))) (show 1 ≤ 19 by decide))
    refine ⟨szL (show 2 ≤ 1000000 by decide), fun dd8 hdd8 => ?_⟩
    have x25 := Ext.new (o := .tup [.int 0, .int 1]) hdd8
    have gdd8 : hd2 p p (upd G24 dd8 (.tup [.int 0, .int 1])) dd8 = some (.tup [.int 0, .int 1]) := hd2_new hp24 hp24 hdd8
    have odd8 : (upd G24 dd8 (.tup [.int 0, .int 1])) dd8 = some (.tup [.int 0, .int 1]) := upd_same
    generalize upd G24 dd8 (.tup [.int 0, .int 1]) = G25 at x25 gdd8 odd8 ⊢
    have hp25 := x25 _ _ hp24
    have kk25 := kk24.trans x25
    have al25 := allC (p' := Thh (hd2 p p G25)) al24 (fun z h => h.ext (hd2_ext (x25))) (.tup gdd8 (all2 (dk_up (Dk.intS (by decide) (by decide))) (dk_up (Dk.intS (by decide) (by decide)))) (show 2 ≤ 19 by decide))
    refine ⟨szL (show 8 ≤ 1000000 by decide), fun l2 hl2 => ?_⟩
    have x26 := Ext.new (o := .lst [.ref lS, .ref q2, .ref q3, .ref q4, .ref q5, .ref dd7, .ref dd8, .str "()"]) hl2
    have gl2 : hd2 p p (upd G25 l2 (.lst [.ref lS, .ref q2, .ref q3, .ref q4, .ref q5, .ref dd7, .ref dd8, .str "()"])) l2 = some (.lst [.ref lS, .ref q2, .ref q3, .ref q4, .ref q5, .ref dd7, .ref dd8, .str "()"]) := hd2_new hp25 hp25 hl2
    have ol2 : (upd G25 l2 (.lst [.ref lS, .ref q2, .ref q3, .ref q4, .ref q5, .ref dd7, .ref dd8, .str "()"])) l2 = some (.lst [.ref lS, .ref q2, .ref q3, .ref q4, .ref q5, .ref dd7, .ref dd8, .str "()"]) := upd_same
    generalize upd G25 l2 (.lst [.ref lS, .ref q2, .ref q3, .ref q4, .ref q5, .ref dd7, .ref dd8, .str "()"]) = G26 at x26 gl2 ol2 ⊢
    have hp26 := x26 _ _ hp25
    have kk26 := kk25.trans x26
    refine ⟨l1, l2, _, _, rfl, rfl, (x17.trans (x18.trans (x19.trans (x20.trans (x21.trans (x22.trans (x23.trans (x24.trans (x25.trans (x26)))))))))) _ _ ol1, ol2, szL (show 20 ≤ 1000000 by decide), fun l3 hl3 => ?_⟩
    obtain ⟨us, hus⟩ : ∃ us, us = [V.non, .bl true, .int 0, .str "", .ref lA, .ref tB, .ref dd1, .ref dd2, .ref dd3, .ref dd4, .ref dd5, .ref dd6] ++ [.ref lS, .ref q2, .ref q3, .ref q4, .ref q5, .ref dd7, .ref dd8, .str "()"] := ⟨_, rfl⟩
    rw [← hus]
    have x27 := Ext.new (o := .lst us) hl3
    have gl3 : hd2 p p (upd G26 l3 (.lst us)) l3 = some (.lst us) := hd2_new hp26 hp26 hl3
    have ol3 : (upd G26 l3 (.lst us)) l3 = some (.lst us) := upd_same
    generalize upd G26 l3 (.lst us) = G27 at x27 gl3 ol3 ⊢
    have hp27 := x27 _ _ hp26
    have kk27 := kk26.trans x27
    have alE : ∀ u ∈ us, Thh (hd2 p p G27) u := fun u hu => by
      rw [hus] at hu
      have hu : u ∈ [V.non, .bl true, .int 0, .str "", .ref lA, .ref tB, .ref dd1, .ref dd2, .ref dd3, .ref dd4, .ref dd5, .ref dd6, .ref lS, .ref q2, .ref q3, .ref q4, .ref q5, .ref dd7, .ref dd8, .str "()"] := hu
      simp only [List.mem_cons, List.not_mem_nil, or_false] at hu
      rcases hu with rfl | rfl | rfl | rfl | rfl | rfl | rfl | rfl | rfl | rfl | rfl | rfl | rfl | rfl | rfl | rfl | rfl | rfl | rfl | rfl
      · exact (al25 _ (by simp only [List.mem_cons, true_or, or_true])).ext (hd2_ext (x26.trans (x27)))
      · exact (al25 _ (by simp only [List.mem_cons, true_or, or_true])).ext (hd2_ext (x26.trans (x27)))
      · exact (al25 _ (by simp only [List.mem_cons, true_or, or_true])).ext (hd2_ext (x26.trans (x27)))
      · exact (al25 _ (by simp only [List.mem_cons, true_or, or_true])).ext (hd2_ext (x26.trans (x27)))
      · exact (al25 _ (by simp only [List.mem_cons, true_or, or_true])).ext (hd2_ext (x26.trans (x27)))
      · exact (al25 _ (by simp only [List.mem_cons, true_or, or_true])).ext (hd2_ext (x26.trans (x27)))
      · exact (al25 _ (by simp only [List.mem_cons, true_or, or_true])).ext (hd2_ext (x26.trans (x27)))
      · exact (al25 _ (by simp only [List.mem_cons, true_or, or_true])).ext (hd2_ext (x26.trans (x27)))
      · exact (al25 _ (by simp only [List.mem_cons, true_or, or_true])).ext (hd2_ext (x26.trans (x27)))
      · exact (al25 _ (by simp only [List.mem_cons, true_or, or_true])).ext (hd2_ext (x26.trans (x27)))
      · exact (al25 _ (by simp only [List.mem_cons, true_or, or_true])).ext (hd2_ext (x26.trans (x27)))
      · exact (al25 _ (by simp only [List.mem_cons, true_or, or_true])).ext (hd2_ext (x26.trans (x27)))
      · exact (al25 _ (by simp only [List.mem_cons, true_or, or_true])).ext (hd2_ext (x26.trans (x27)))
      · exact (al25 _ (by simp only [List.mem_cons, true_or, or_true])).ext (hd2_ext (x26.trans (x27)))
      · exact (al25 _ (by simp only [List.mem_cons, true_or, or_true])).ext (hd2_ext (x26.trans (x27)))
      · exact (al25 _ (by simp only [List.mem_cons, true_or, or_true])).ext (hd2_ext (x26.trans (x27)))
      · exact (al25 _ (by simp only [List.mem_cons, true_or, or_true])).ext (hd2_ext (x26.trans (x27)))
      · exact (al25 _ (by simp only [List.mem_cons, true_or, or_true])).ext (hd2_ext (x26.trans (x27)))
      · exact (al25 _ (by simp only [List.mem_cons, true_or, or_true])).ext (hd2_ext (x26.trans (x27)))
      · exact .flat (Dk.str (by decide +kernel) (by decide +kernel) (by decide +kernel)) (fun _ z => by cases z)
    have ul : us.length = 20 := by rw [hus]; rfl
    have hS5 := kk27 _ _ hS0
    have kA : Kp p H G27 := k1.trans (Kp.ext kk27)
    have hPA : Pen G27 p c (n + 1) := hP1.ext kk27
    have hF5 : ∀ u ∈ fs, Dk 1000 1 (hd2 p p G27) u := (fun u hu => ((hFs u hu).ext e0).ext (hd2_ext kk27))
    have hl35 := ol3
    have nl3 : l3 ≠ p := fun z => by
      rw [z, hp26] at hl3
      cases hl3
    generalize G27 = H5 at alE hS5 kA hPA hF5 hl35 ⊢
    refine gow_name ?_
    dsimp only
    have xr : Ext H5 H5 := Ext.refl
    refine ⟨_, rfl, way, 4, rfl, rfl, _, rfl, ite2 (fun e => ?_) (fun e => ?_)⟩
    · clear e
      refine iteT ?_
      refine ⟨_, rfl, _, rfl, _, rfl, l3, us, rfl, .inl (SqL.of (xr _ _ hl35)), p, c, _, n + 1, rfl, hPA.ext xr, by omega, by omega, by omega, fun e H6 e0 e1 k6 hP6 => ?_⟩
      obtain ⟨u, hu, hat⟩ := atI_mem (xs := us) e0 (by omega)
      refine ⟨l3, us, e, u, rfl, rfl, SqL.of (k6 _ _ nl3 (xr _ _ hl35)), hat, ?_⟩
      exact qq _ _ ((((alE u hu).ext (hd2_ext xr)).ext (hd2_kp k6)).ext hd2_le) ((kA.trans (Kp.ext xr)).trans k6) (hP6.mono (by omega))
    clear e
    obtain ⟨ds, hds, hbg⟩ := dk_all hF5
    have hdl := dsAll_len hds
    refine ⟨_, rfl, Nat.zero_le _, fun t0 ht0 => ?_⟩
    have x0 := Ext.new (o := .tup []) ht0
    have ot0 : upd H5 t0 (.tup []) t0 = some (.tup []) := upd_same
    generalize upd H5 t0 (.tup []) = H5b at x0 ot0 ⊢
    refine ⟨.tuple ds, .tuple [], .tup (SqT.of (x0 _ _ hS5)) ((dsAll_ext x0 (dsAll_ext hd2_le hds)).dp), .tup (SqT.of ot0) .nil, ((Bg.tup (n := 19) (M := 20000) (by omega) hbg (by decide)).shaped (by decide)), by decide +kernel, _, rfl, ?_⟩
    have q0 : ∀ {b : Bool}, PyData.eqv (.tuple ds) (.tuple []) = b → (b = true ↔ ds = []) := fun {b} e => by
      subst e
      cases ds with
      | nil => simp [PyData.eqv, PyData.eqvAll]
      | cons d0 ds0 => simp [PyData.eqv, PyData.eqvAll]
    have q1 := q0 rfl
    generalize PyData.eqv (.tuple ds) (.tuple []) = bq at q1 ⊢
    refine ite2 (fun e => ?_) (fun e => ?_)
    · clear e q0 q1
      refine ⟨_, rfl, _, rfl, _, rfl, l3, us, rfl, .inl (SqL.of (x0 _ _ hl35)), p, c, _, n + 1, rfl, hPA.ext x0, by omega, by omega, by omega, fun e H6 e0 e1 k6 hP6 => ?_⟩
      obtain ⟨u, hu, hat⟩ := atI_mem (xs := us) e0 (by omega)
      refine ⟨l3, us, e, u, rfl, rfl, SqL.of (k6 _ _ nl3 (x0 _ _ hl35)), hat, ?_⟩
      exact qq _ _ ((((alE u hu).ext (hd2_ext x0)).ext (hd2_kp k6)).ext hd2_le) ((kA.trans (Kp.ext x0)).trans k6) (hP6.mono (by omega))
    have fl0 : 0 < fs.length := by
      cases fs with
      | nil =>
        cases ds with
        | nil => exact absurd (q1.mpr rfl) e
        | cons _ _ => cases hdl
      | cons _ _ => exact Nat.succ_pos _
    clear e q0 q1
    have hF6 : ∀ u ∈ fs, Dk 1000 1 (hd2 p p H5b) u := fun u hu => (hF5 u hu).ext (hd2_ext x0)
    refine ⟨_, rfl, _, rfl, sa, fs, rfl, .inr (SqT.of (x0 _ _ hS5)), p, c, _, n + 1, rfl, hPA.ext x0, by omega, by omega, by omega, fun at7 H7 a0 a1 k7 hP7 => ?_⟩
    have k17 := (kA.trans (Kp.ext x0)).trans k7
    have hS7 := up k17 hS
    have hF7 : ∀ u ∈ fs, Dk 1000 1 (hd2 p p H7) u := fun u hu => (hF6 u hu).ext (hd2_kp k7)
    obtain ⟨u, hu, hat⟩ := atI_mem (xs := fs) a0 (by omega)
    obtain ⟨i, hi⟩ := List.mem_iff_getElem?.mp hu
    obtain ⟨⟨yi, yj⟩, hy, a1', rfl, ha1⟩ := paired_get hPf hi
    have hb := hqb _ (List.mem_of_getElem? hy)
    dsimp only at hb ha1
    have ha7 := up k17 ha1
    obtain ⟨zs7, hp7⟩ : ∃ zs, H7 p = some (.lst zs) := by
      obtain ⟨cells, a, r, hp, _⟩ := hP7
      exact ⟨_, hp⟩
    refine ⟨_, rfl, _, rfl, sa, fs, at7, _, rfl, rfl, SqT.of hS7, hat, a1', _, rfl, SqT.of ha7, rfl, _, _, rfl, _, _, rfl, rfl, ?_⟩
    have lg : yi.natAbs.log2 < 1920 := by
      have : yi.natAbs.log2 ≤ yi.natAbs := Nat.log2_le_self _
      omega
    obtain ⟨ti, hti⟩ : ∃ s : Str, s = Str.ofString (toString yi) := ⟨_, rfl⟩
    have dti : ∀ {H' : Hp}, Dk 200 0 H' (.str ti) := fun {H'} => by
      obtain ⟨mn, rfl⟩ : ∃ mn : Nat, yi = (mn : Int) := ⟨yi.toNat, by omega⟩
      rw [hti]
      exact Dk.text (by omega)
    clear alE hus hl35 ul hPA hF5 hF6 hP hP1 hPf hds hbg x0 ot0
    have dI : ∀ {H' : Hp} {i : Int}, -100 ≤ i → i ≤ 100 → Dk 200 0 H' (.int i) := fun h1 h2 => Dk.intS (by omega) (by omega)
    have jj0 : Ext H7 H7 := Ext.refl
    have ip0 := hp7
    refine ⟨_, rfl, _, _, rfl, rfl, _, rfl, szL (show 2 ≤ 1000000 by decide), fun m1 hm1 => ?_⟩
    have y1 := Ext.new (o := .tup [.int (yi + 1), .int yj]) hm1
    have gm1 : hd2 p p (upd H7 m1 (.tup [.int (yi + 1), .int yj])) m1 = some (.tup [.int (yi + 1), .int yj]) := hd2_new ip0 ip0 hm1
    generalize upd H7 m1 (.tup [.int (yi + 1), .int yj]) = E1 at y1 gm1 ⊢
    have ip1 := y1 _ _ ip0
    have jj1 := jj0.trans y1
    have Dm1 : Dk 1000 1 (hd2 p p E1) (.ref m1) := dk_tup gm1 (all2 (dI (by omega) (by omega)) (dI (by omega) (by omega))) (show 2 ≤ 3 by decide)
    refine ⟨_, rfl, _, rfl, _, _, rfl, rfl, szL (show 2 ≤ 1000000 by decide), fun m2 hm2 => ?_⟩
    have y2 := Ext.new (o := .tup [.int yi, .int (yj - 1)]) hm2
    have gm2 : hd2 p p (upd E1 m2 (.tup [.int yi, .int (yj - 1)])) m2 = some (.tup [.int yi, .int (yj - 1)]) := hd2_new ip1 ip1 hm2
    generalize upd E1 m2 (.tup [.int yi, .int (yj - 1)]) = E2 at y2 gm2 ⊢
    have ip2 := y2 _ _ ip1
    have jj2 := jj1.trans y2
    have Dm2 : Dk 1000 1 (hd2 p p E2) (.ref m2) := dk_tup gm2 (all2 (dI (by omega) (by omega)) (dI (by omega) (by omega))) (show 2 ≤ 3 by decide)
    refine ⟨_, rfl, _, rfl, szL (show 2 ≤ 1000000 by decide), fun m3 hm3 => ?_⟩
    have y3 := Ext.new (o := .tup [.int yj, .int yi]) hm3
    have gm3 : hd2 p p (upd E2 m3 (.tup [.int yj, .int yi])) m3 = some (.tup [.int yj, .int yi]) := hd2_new ip2 ip2 hm3
    generalize upd E2 m3 (.tup [.int yj, .int yi]) = E3 at y3 gm3 ⊢
    have ip3 := y3 _ _ ip2
    have jj3 := jj2.trans y3
    have Dm3 : Dk 1000 1 (hd2 p p E3) (.ref m3) := dk_tup gm3 (all2 (dI (by omega) (by omega)) (dI (by omega) (by omega))) (show 2 ≤ 3 by decide)
    refine ⟨_, rfl, _, _, rfl, rfl, _, rfl, szL (show 2 ≤ 1000000 by decide), fun m4 hm4 => ?_⟩
    have y4 := Ext.new (o := .tup [.int (yi - 1), .int yj]) hm4
    have gm4 : hd2 p p (upd E3 m4 (.tup [.int (yi - 1), .int yj])) m4 = some (.tup [.int (yi - 1), .int yj]) := hd2_new ip3 ip3 hm4
    generalize upd E3 m4 (.tup [.int (yi - 1), .int yj]) = E4 at y4 gm4 ⊢
    have ip4 := y4 _ _ ip3
    have jj4 := jj3.trans y4
    have Dm4 : Dk 1000 1 (hd2 p p E4) (.ref m4) := dk_tup gm4 (all2 (dI (by omega) (by omega)) (dI (by omega) (by omega))) (show 2 ≤ 3 by decide)
    refine ⟨_, rfl, _, rfl, _, _, rfl, rfl, szL (show 2 ≤ 1000000 by decide), fun m5 hm5 => ?_⟩
    have y5 := Ext.new (o := .tup [.int yi, .int (yj + 1)]) hm5
    have gm5 : hd2 p p (upd E4 m5 (.tup [.int yi, .int (yj + 1)])) m5 = some (.tup [.int yi, .int (yj + 1)]) := hd2_new ip4 ip4 hm5
    generalize upd E4 m5 (.tup [.int yi, .int (yj + 1)]) = E5 at y5 gm5 ⊢
    have ip5 := y5 _ _ ip4
    have jj5 := jj4.trans y5
    have Dm5 : Dk 1000 1 (hd2 p p E5) (.ref m5) := dk_tup gm5 (all2 (dI (by omega) (by omega)) (dI (by omega) (by omega))) (show 2 ≤ 3 by decide)
    refine ⟨_, rfl, _, rfl, szL (show 2 ≤ 1000000 by decide), fun m6 hm6 => ?_⟩
    have y6 := Ext.new (o := .lst [.int yi, .int yj]) hm6
    have gm6 : hd2 p p (upd E5 m6 (.lst [.int yi, .int yj])) m6 = some (.lst [.int yi, .int yj]) := hd2_new ip5 ip5 hm6
    generalize upd E5 m6 (.lst [.int yi, .int yj]) = E6 at y6 gm6 ⊢
    have ip6 := y6 _ _ ip5
    have jj6 := jj5.trans y6
    have Dm6 : Dk 1000 1 (hd2 p p E6) (.ref m6) := dk_lst gm6 (all2 (dI (by omega) (by omega)) (dI (by omega) (by omega))) (show 2 ≤ 3 by decide)
    refine ⟨_, rfl, _, rfl, szL (show 3 ≤ 1000000 by decide), fun m7 hm7 => ?_⟩
    have y7 := Ext.new (o := .tup [.int yi, .int yj, .int 0]) hm7
    have gm7 : hd2 p p (upd E6 m7 (.tup [.int yi, .int yj, .int 0])) m7 = some (.tup [.int yi, .int yj, .int 0]) := hd2_new ip6 ip6 hm7
    generalize upd E6 m7 (.tup [.int yi, .int yj, .int 0]) = E7 at y7 gm7 ⊢
    have ip7 := y7 _ _ ip6
    have jj7 := jj6.trans y7
    have Dm7 : Dk 1000 1 (hd2 p p E7) (.ref m7) := dk_tup gm7 (all3 (dI (by omega) (by omega)) (dI (by omega) (by omega)) (dI (by omega) (by omega))) (show 3 ≤ 3 by decide)
    refine ⟨_, rfl, szL (show 1 ≤ 1000000 by decide), fun m8 hm8 => ?_⟩
    have y8 := Ext.new (o := .tup [.int yi]) hm8
    have gm8 : hd2 p p (upd E7 m8 (.tup [.int yi])) m8 = some (.tup [.int yi]) := hd2_new ip7 ip7 hm8
    generalize upd E7 m8 (.tup [.int yi]) = E8 at y8 gm8 ⊢
    have ip8 := y8 _ _ ip7
    have jj8 := jj7.trans y8
    have Dm8 : Dk 1000 1 (hd2 p p E8) (.ref m8) := dk_tup gm8 (all1 (dI (by omega) (by omega))) (show 1 ≤ 3 by decide)
    refine ⟨_, rfl, yi, rfl, lg, ?_⟩
    show ∃ a_1, _ ∧ _
    rw [← hti]
    refine ⟨_, rfl, szL (show 2 ≤ 1000000 by decide), fun m9 hm9 => ?_⟩
    have y9 := Ext.new (o := .tup [.str ti, .int yj]) hm9
    have gm9 : hd2 p p (upd E8 m9 (.tup [.str ti, .int yj])) m9 = some (.tup [.str ti, .int yj]) := hd2_new ip8 ip8 hm9
    generalize upd E8 m9 (.tup [.str ti, .int yj]) = E9 at y9 gm9 ⊢
    have ip9 := y9 _ _ ip8
    have jj9 := jj8.trans y9
    have Dm9 : Dk 1000 1 (hd2 p p E9) (.ref m9) := dk_tup gm9 (all2 dti (dI (by omega) (by omega))) (show 2 ≤ 3 by decide)
    refine ⟨_, rfl, szL (show 2 ≤ 1000000 by decide), fun m10 hm10 => ?_⟩
    have y10 := Ext.new (o := .tup [.int yi, .bl true]) hm10
    have gm10 : hd2 p p (upd E9 m10 (.tup [.int yi, .bl true])) m10 = some (.tup [.int yi, .bl true]) := hd2_new ip9 ip9 hm10
    generalize upd E9 m10 (.tup [.int yi, .bl true]) = E10 at y10 gm10 ⊢
    have ip10 := y10 _ _ ip9
    have jj10 := jj9.trans y10
    have Dm10 : Dk 1000 1 (hd2 p p E10) (.ref m10) := dk_tup gm10 (all2 (dI (by omega) (by omega)) (Dk.bl true)) (show 2 ≤ 3 by decide)
    refine ⟨szL (show 10 ≤ 1000000 by decide), fun l4 hl4 => ?_⟩
    have alM : ∀ u ∈ [V.ref m1, .ref m2, .ref m3, .ref m4, .ref m5, .ref m6, .ref m7, .ref m8, .ref m9, .ref m10], Dk 1000 1 (hd2 p p E10) u := fun u hu => by
      simp only [List.mem_cons, List.not_mem_nil, or_false] at hu
      rcases hu with rfl | rfl | rfl | rfl | rfl | rfl | rfl | rfl | rfl | rfl
      · exact Dm1.ext (hd2_ext (y2.trans (y3.trans (y4.trans (y5.trans (y6.trans (y7.trans (y8.trans (y9.trans (y10))))))))))
      · exact Dm2.ext (hd2_ext (y3.trans (y4.trans (y5.trans (y6.trans (y7.trans (y8.trans (y9.trans (y10)))))))))
      · exact Dm3.ext (hd2_ext (y4.trans (y5.trans (y6.trans (y7.trans (y8.trans (y9.trans (y10))))))))
      · exact Dm4.ext (hd2_ext (y5.trans (y6.trans (y7.trans (y8.trans (y9.trans (y10)))))))
      · exact Dm5.ext (hd2_ext (y6.trans (y7.trans (y8.trans (y9.trans (y10))))))
      · exact Dm6.ext (hd2_ext (y7.trans (y8.trans (y9.trans (y10)))))
      · exact Dm7.ext (hd2_ext (y8.trans (y9.trans (y10))))
      · exact Dm8.ext (hd2_ext (y9.trans (y10)))
      · exact Dm9.ext (hd2_ext (y10))
      · exact Dm10
    have xl4 := Ext.new (o := .lst [.ref m1, .ref m2, .ref m3, .ref m4, .ref m5, .ref m6, .ref m7, .ref m8, .ref m9, .ref m10]) hl4
    have ol4 : upd E10 l4 (.lst [.ref m1, .ref m2, .ref m3, .ref m4, .ref m5, .ref m6, .ref m7, .ref m8, .ref m9, .ref m10]) l4 = some (.lst [.ref m1, .ref m2, .ref m3, .ref m4, .ref m5, .ref m6, .ref m7, .ref m8, .ref m9, .ref m10]) := upd_same
    have ull : [V.ref m1, .ref m2, .ref m3, .ref m4, .ref m5, .ref m6, .ref m7, .ref m8, .ref m9, .ref m10].length = 10 := rfl
    have nl4 : l4 ≠ p := fun z => by
      rw [z, ip10] at hl4
      cases hl4
    generalize [V.ref m1, .ref m2, .ref m3, .ref m4, .ref m5, .ref m6, .ref m7, .ref m8, .ref m9, .ref m10] = ws at alM xl4 ol4 ull ⊢
    generalize upd E10 l4 (.lst ws) = H8 at xl4 ol4 ⊢
    have x78 := jj10.trans xl4
    have alW : ∀ u ∈ ws, Dk 1000 1 (hd2 p p H8) u := fun u hu => (alM u hu).ext (hd2_ext xl4)
    have hS8 := x78 _ _ hS7
    have hF8 : ∀ u ∈ fs, Dk 1000 1 (hd2 p p H8) u := fun u hu => (hF7 u hu).ext (hd2_ext x78)
    have k18 := k17.trans (Kp.ext x78)
    have hP8 := hP7.ext x78
    refine gow_name ?_
    dsimp only
    refine ⟨_, rfl, _, rfl, _, rfl, sa, fs, rfl, hS8, fun r1 H9 x9 hr1 => ?_⟩
    refine ⟨_, rfl, _, rfl, p, c, 10, _, rfl, hP8.ext x9, by omega, by decide, by decide, fun e H10 e0 e1 k10 hP10 => ?_⟩
    obtain ⟨u, hu, hat⟩ := atI_mem (xs := ws) e0 (by omega)
    obtain ⟨zs9, hp9⟩ : ∃ zs, H9 p = some (.lst zs) := by
      obtain ⟨cells, a, r, hp, _⟩ := hP8.ext x9
      exact ⟨_, hp⟩
    have k810 := (Kp.ext (p := p) x9).trans k10
    refine ⟨l4, ws, e, u, rfl, rfl, SqL.of (k810 _ _ nl4 ol4), hat, szL (show 1 ≤ 1000000 by decide), fun r2 hr2 => ?_⟩
    have x11 := Ext.new (o := .tup [u]) hr2
    have or2 : upd H10 r2 (.tup [u]) r2 = some (.tup [u]) := upd_same
    have nr1 : r1 ≠ p := fun z => by
      rw [z, hp9] at hr1
      cases hr1
    have or1 := x11 _ _ (k10 _ _ nr1 hr1)
    have k811 := k810.trans (Kp.ext x11)
    have hP11 := hP10.ext x11
    generalize upd H10 r2 (.tup [u]) = H11 at x11 or2 or1 k811 hP11 ⊢
    have c1 := cutV_len fs none (some at7)
    have u1 : ([u] : List V).length = 1 := rfl
    refine ⟨r1, r2, _, _, rfl, rfl, or1, or2, szL (by omega), fun r3 H12 x12 hr3 => ?_⟩
    refine ⟨_, rfl, _, rfl, _, _, rfl, rfl, _, rfl, sa, fs, rfl, up ((k18.trans k811).trans (Kp.ext x12)) hS, fun r4 H13 x13 hr4 => ?_⟩
    have c2 := cutV_len fs (some (at7 + 1)) none
    refine ⟨r3, r4, _, _, rfl, rfl, x13 _ _ hr3, hr4, szL (by rw [List.length_append]; omega), fun r5 H14 x14 hr5 => ?_⟩
    have k814 := k811.trans (Kp.ext (x12.trans (x13.trans x14)))
    have hP14 := hP11.ext (x12.trans (x13.trans x14))
    obtain ⟨zs14, hp14⟩ : ∃ zs, H14 p = some (.lst zs) := by
      obtain ⟨cells, a, r, hp, _⟩ := hP14
      exact ⟨_, hp⟩
    refine qq _ _ (.tup hr5 (fun z hz => ?_) (by rw [List.length_append, List.length_append]; omega)) (k18.trans k814) (hP14.mono (by omega))
    have hF14 : ∀ u ∈ fs, Dk 1000 1 H14 u := fun u hu => ((hF8 u hu).ext (hd2_kp k814)).ext hd2_le
    rcases List.mem_append.mp hz with hz | hz
    · rcases List.mem_append.mp hz with hz | hz
      · exact hF14 z (mem_cutV hz)
      · rw [List.mem_singleton.mp hz]
        exact ((alW u hu).ext (hd2_kp k814)).ext hd2_le
    · exact hF14 z (mem_cutV hz)
abbrev CBent (P : Program) (w : World) (K : PySem.W.Frag) (mg : Str → Option Value) (base : Heap) : Prop := Ca P w K mg base 3 "_law_bent" ["_law_pen", "_law_shape"] spBent
end
end Pf


namespace Pf
open PySem PySem.Spec PyProof.Rows L2
/-! ### rules as data -/
theorem dpIntsAt {K : PySem.W.Frag} {H : Hp} : ∀ {vs : List V} {ns : List Int}, Paired (IntAt H) vs ns → DpAll K H vs (ns.map PyData.int)
  | _, _, .nil => .nil
  | _, _, .cons e t => .cons ((show _ = V.int _ from e) ▸ .int _) (dpIntsAt t)
def dPr (x : Str × Int) : PyData := .tuple [.str x.1, .int x.2]
theorem dpPairs {K : PySem.W.Frag} {H : Hp} : ∀ {vs : List V} {prs : List (Str × Int)}, Paired (PairAt H) vs prs → DpAll K H vs (prs.map dPr)
  | _, _, .nil => .nil
  | _, _, .cons ⟨_, e, h⟩ t => .cons (e ▸ .tup (SqT.of h) (.cons (.str _) (.cons (.int _) .nil))) (dpPairs t)
theorem sm_prs {prs : List (Str × Int)} (hn : prs.length ≤ 12) (h : ∀ x ∈ prs, Two x.1 ∧ -99 ≤ x.2 ∧ x.2 ≤ 99) : Sm 2000 2 (.tuple (prs.map dPr)) := by
  refine Sm.tup (n := 12) (m := 130) (k := 1) (by rw [List.length_map]; exact hn) (fun d hd => ?_) (by decide)
  obtain ⟨x, hx, rfl⟩ := List.mem_map.mp hd
  have h1 := h x hx
  refine Sm.tup (n := 2) (m := 64) (k := 0) (Nat.le_refl _) (fun d hd => ?_) (by decide)
  simp only [List.mem_cons, List.not_mem_nil, or_false] at hd
  rcases hd with rfl | rfl
  · exact (Sm.str h1.1.2.ok (Nat.le_refl _)).le (by rw [h1.1.1]; decide) (Nat.le_refl _)
  · exact Sm.int (by omega) (by omega)
def dSt (x : Str × Str × Int) : PyData := .tuple [.str x.1, .str x.2.1, .int x.2.2]
theorem dpStacks {K : PySem.W.Frag} {H : Hp} : ∀ {vs : List V} {ps : List (Str × Str × Int)}, Paired (StackAt H) vs ps → DpAll K H vs (ps.map dSt)
  | _, _, .nil => .nil
  | _, _, .cons ⟨_, e, h⟩ t => .cons (e ▸ .tup (SqT.of h) (.cons (.str _) (.cons (.str _) (.cons (.int _) .nil)))) (dpStacks t)
def dRl (r : Rl) : PyData := .tuple [.str r.letters, .tuple (r.prs.map dPr), .int r.span, .tuple (r.loops.map PyData.int), .tuple (r.stk.map dSt)]
theorem dp_rules {K : PySem.W.Frag} {H : Hp} {v : V} {r : Rl} (h : RulesAt H v r) : Dp K H v (dRl r) := by
  obtain ⟨a, vp, vl, vs, rfl, hA, ⟨ap, oz, us, rfl, hp, _, hP⟩, ⟨al, ls, rfl, hl, hL⟩, ⟨as, ss, rfl, hs, hS⟩⟩ := h
  exact .tup (SqT.of hA) (.cons (.str _) (.cons (.tup (SqT.fz hp) (dpPairs hP)) (.cons (.int _) (.cons (.tup (SqT.of hl) (dpIntsAt hL)) (.cons (.tup (SqT.of hs) (dpStacks hS)) .nil)))))
theorem sm_rules {r : Rl} (ok : RlOk r) : Sm 50000 3 (dRl r) := by
  refine Sm.tup (n := 5) (m := 5000) (k := 2) (Nat.le_refl _) (fun d hd => ?_) (by decide)
  simp only [List.mem_cons, List.not_mem_nil, or_false] at hd
  have h3 := ok.sp0
  have h4 := ok.sp3
  rcases hd with rfl | rfl | rfl | rfl | rfl
  · exact (Sm.str ok.small.ok ok.let6).le (by decide) (by decide)
  · exact (sm_prs ok.prs ok.pr).le (by decide) (by decide)
  · exact (Sm.int (by omega) (by omega)).le (by decide) (by decide)
  · refine (Sm.tup (n := 9) (m := 64) (k := 0) (by rw [List.length_map, ok.lo9]; exact Nat.le_refl _) (fun d hd => ?_) (Nat.le_refl _)).le (by decide) (by decide)
    obtain ⟨z, hz, rfl⟩ := List.mem_map.mp hd
    have := ok.lo z hz
    exact Sm.int (by omega) (by omega)
  · refine (Sm.tup (n := 12) (m := 200) (k := 1) (by rw [List.length_map]; exact ok.stk) (fun d hd => ?_) (Nat.le_refl _)).le (by decide) (by decide)
    obtain ⟨z, hz, rfl⟩ := List.mem_map.mp hd
    have hk := ok.st z hz
    refine Sm.tup (n := 3) (m := 64) (k := 0) (Nat.le_refl _) (fun d hd => ?_) (by decide)
    simp only [List.mem_cons, List.not_mem_nil, or_false] at hd
    rcases hd with rfl | rfl | rfl
    · exact (Sm.str hk.1.2.ok (Nat.le_of_eq hk.1.1)).le (by decide) (by decide)
    · exact (Sm.str hk.2.1.2.ok (Nat.le_of_eq hk.2.1.1)).le (by decide) (by decide)
    · exact Sm.int (by omega) (by omega)
def dKept (r : Rl) (x : Str) : PyData := .tuple [dRl r, .str x]
theorem sm_kept {r : Rl} (ok : RlOk r) {x : Str} (hx : x.length ≤ 20) (hs : Of r.letters x) : Sm 200000 4 (dKept r x) := by
  refine Sm.tup (n := 2) (m := 60000) (k := 3) (Nat.le_refl _) (fun d hd => ?_) (by decide)
  simp only [List.mem_cons, List.not_mem_nil, or_false] at hd
  rcases hd with rfl | rfl
  · exact (sm_rules ok).le (by decide) (by decide)
  · exact (Sm.str (hs.small ok.small).ok hx).le (by decide) (by decide)
/-! ### foldings as data -/
theorem sm_i32 {i : Int} (h0 : 0 ≤ i) (h1 : i < 32) : Sm 5 0 (.int i) := by
  have h := Sm.int (i := i) (by omega) (by omega)
  refine ⟨h.lay, h.sho, h.ish, ?_, h.dep⟩
  have hl : i.natAbs.log2 < 5 := by
    by_cases z : i.natAbs = 0
    · rw [z]
      decide
    · exact (Nat.log2_lt z).mpr (by omega)
  simp only [PyData.weight]
  split <;> omega
theorem sm_fo {q : Fo} (hn : q.length ≤ 6) (h : ∀ y ∈ q, 0 ≤ y.1 ∧ y.1 < 32 ∧ 0 ≤ y.2 ∧ y.2 < 32) : Sm 78 2 (dFo q) := by
  refine Sm.tup (n := 6) (m := 12) (k := 1) (by rw [List.length_map]; exact hn) (fun d hd => ?_) (by decide)
  obtain ⟨y, hy, rfl⟩ := List.mem_map.mp hd
  have := h y hy
  refine Sm.tup (n := 2) (m := 5) (k := 0) (Nat.le_refl _) (fun d hd => ?_) (by decide)
  simp only [List.mem_cons, List.not_mem_nil, or_false] at hd
  rcases hd with rfl | rfl
  · exact sm_i32 (by omega) (by omega)
  · exact sm_i32 (by omega) (by omega)
theorem sm_fos {r : Rl} {x : Str} {n : Nat} (hn : n ≤ 10) {L : List Fo} (hp : L.Perm (WA r x n 0)) : Sm 1000000 3 (.list (L.map dFo)) := by
  have hl := WA_len10 r x hn 0
  refine Sm.lst (n := 2188) (m := 78) (k := 2) (by rw [List.length_map, hp.length_eq]; exact hl) (fun d hd => ?_) (by decide)
  obtain ⟨q, hq, rfl⟩ := List.mem_map.mp hd
  have hi := WA_in r x n 0 q (hp.mem_iff.mp hq)
  refine sm_fo (by omega) fun y hy => ?_
  have := hi.1 y hy
  omega
theorem SF_perm (L : List Fo) : (SF L).Perm L := List.mergeSort_perm _ _
end Pf


namespace Pf
open PySem PySem.Spec PyProof.Rows L2 LamX
theorem Pen.extN {H H' : Hp} {p c : Addr} {n : Nat} (h : Pen H p c n) (k : ExtN H H') : Pen H' p c n := by
  obtain ⟨cells, a, r, h1, h2, h3⟩ := h
  exact ⟨cells, a, r, k _ _ h1 (fun _ z => by cases z), k _ _ h2 (fun _ z => by cases z), h3⟩
theorem Pen.tabs {T : List (Addr × Str)} {H H' : Hp} {p c : Addr} {n : Nat} (h : Pen H p c n) (k : Kp p H H') (t : Tabs T H) : Tabs T H' := by
  obtain ⟨cells, a, r, h1, h2, h3⟩ := h
  exact k.tabs h1 t
theorem no_pen {H : Hp} {p c q : Addr} {n : Nat} {ws : List V} {L : List Fo} (hP : Pen H p c n) (hL : H q = some (.lst ws)) (h : Paired (FoAt H) ws L) : q ≠ p := fun z => by
  obtain ⟨cells, a, r, hp, _⟩ := hP
  rw [z, hp] at hL
  injection hL with e
  injection e with e
  rw [← e] at h
  cases h with
  | cons _ t =>
    cases t with
    | cons h2 _ =>
      obtain ⟨_, _, e, _⟩ := h2
      cases e
mutual
theorem ds_extN {H H' : Hp} (k : ExtN H H') : ∀ {v : V} {d : PyData}, Ds H v d → Ds H' v d
  | _, _, .non => .non
  | _, _, .bl b => .bl b
  | _, _, .int i => .int i
  | _, _, .str x => .str x
  | _, _, .lst h r => .lst (k _ _ h (fun _ z => by cases z)) (dsAll_extN k r)
  | _, _, .tup h r => .tup (k _ _ h (fun _ z => by cases z)) (dsAll_extN k r)
theorem dsAll_extN {H H' : Hp} (k : ExtN H H') : ∀ {vs : List V} {ds : List PyData}, DsAll H vs ds → DsAll H' vs ds
  | _, _, .nil => .nil
  | _, _, .cons r t => .cons (ds_extN k r) (dsAll_extN k t)
end
theorem Dz.extN {H H' : Hp} {v : V} {d : PyData} (h : Dz H v d) (k : ExtN H H') : Dz H' v d := by
  rcases h with h | ⟨a, e, h, e2⟩
  · exact .inl (ds_extN k h)
  · exact .inr ⟨a, e, k _ _ h (fun _ z => by cases z), e2⟩
/-! ### a folding by its data -/
theorem two_of {H : Hp} {v : V} {y : Int × Int} (h : Ds H v (dTwo y)) : TwoAt H v y := by
  cases h with
  | tup h1 h2 =>
    cases h2 with
    | cons a h2 =>
      cases h2 with
      | cons b h2 =>
        cases h2
        cases a
        cases b
        exact ⟨_, rfl, h1⟩
theorem twos_of {H : Hp} : ∀ {vs : List V} {q : Fo}, DsAll H vs (q.map dTwo) → Paired (TwoAt H) vs q
  | _, [], h => by
    cases h
    exact .nil
  | _, y :: q, h => by
    cases h with
    | cons a t => exact .cons (two_of a) (twos_of t)
theorem fo_of {H : Hp} {v : V} {q : Fo} (h : Dz H v (dFo q)) : FoAt H v q := by
  rcases h with h | ⟨a, e, h, e2⟩
  · cases h with
    | tup h1 h2 => exact ⟨_, _, rfl, h1, twos_of h2⟩
  · cases e2
theorem foN {q : Fo} (h : ∀ y ∈ q, 0 ≤ y.1 ∧ 0 ≤ y.2) : dFo q = .tuple ((q.map fun y => (y.1.toNat, y.2.toNat)).map dT2) := by
  unfold dFo
  rw [List.map_map]
  congr 1
  refine List.map_congr_left fun y hy => ?_
  have := h y hy
  show dTwo y = dT2 (y.1.toNat, y.2.toNat)
  unfold dTwo dT2
  rw [Int.toNat_of_nonneg this.1, Int.toNat_of_nonneg this.2]
theorem due_is {r : Rl} {x : Str} {d : PyData} : inV (.str d.shown) (((GA r x).map fun q => (dFo q).shown).map V.str) = foD r x d := by
  rw [Bool.eq_iff_iff]
  unfold inV
  rw [List.any_eq_true]
  constructor
  · rintro ⟨y, hy, e⟩
    obtain ⟨s, hs, rfl⟩ := List.mem_map.mp hy
    obtain ⟨q, hq, rfl⟩ := List.mem_map.mp hs
    have e : ((dFo q).shown == d.shown) = true := e
    have hw := GA_sub hq
    have hin := (WA_in r x x.length 0 q hw).1
    have e2 := (eq_of_beq e).symm
    rw [foN (q := q) fun y hy => by have := hin y hy; omega] at e2
    have e3 := sh_fold e2
    rw [← foN (q := q) fun y hy => by have := hin y hy; omega] at e3
    rw [e3]
    exact foD_of hw
  · intro h
    obtain ⟨q, hq, rfl⟩ := foD_yes h
    exact ⟨_, List.mem_map.mpr ⟨_, List.mem_map.mpr ⟨q, (GA_perm r x).mem_iff.mpr hq, rfl⟩, rfl⟩, beq_self_eq_true (dFo q).shown⟩
theorem due_at (b : Bool) : atI [V.str "folding", .str "told"] (if b = true then 1 else 0) = some (.str (if b = true then "told" else "folding")) := by
  cases b <;> rfl
/-- what is no number of a folding -/
def OdN (m : Int) (H : Hp) (u : V) : Prop := ∃ d, ThX H u d ∧ ∀ i : Int, d = .int i → u = .int i ∧ (i < 0 ∨ m ≤ i)
theorem OdN.int {m i : Int} {H : Hp} (h : i < 0 ∨ m ≤ i) : OdN m H (.int i) := ⟨_, .int i, fun j e => by cases e; exact ⟨rfl, h⟩⟩
theorem OdN.ext {m : Int} {H H' : Hp} {u : V} (h : OdN m H u) (k : Ext H H') : OdN m H' u := by
  obtain ⟨d, h1, h2⟩ := h
  exact ⟨d, h1.ext k, h2⟩
section
variable {P : Program} {w : World} {K : PySem.W.Frag} {mg : Str → Option Value} {base : Heap}
abbrev CStart (P : Program) (w : World) (K : PySem.W.Frag) (mg : Str → Option Value) (base : Heap) : Prop := Ca P w K mg base 1 "_law_start" ["_law_script"] (spStart K)
abbrev s_law : Stmt := topS 65
theorem sc_law : FnScope ["_law_script", "_law_pen", "_law_turn", "_law_shapes", "_law_kept", "_law_odd", "_law_k", "_law_shown", "_law_due", "_law_book", "_law_many", "_law_thing", "_law_word", "_law_shape"] ["_law_script"] (defScope s_law) :=
  ⟨rfl, rfl, rfl, by decide +kernel, rfl, by decide +kernel, by decide +kernel⟩
def spLaw (K : PySem.W.Frag) (T : List (Addr × Str)) : Sp := fun vs H Q _ => ∃ (a : Addr) (ns : List Int), vs = [.ref a] ∧ SqL K H a (ns.map V.int) ∧ ns.length ≤ 63 ∧ Tabs T H ∧ ∀ H', Q (.bl true) H'
theorem ok_law {f aNoString aNoFolding aNoNumber c0 P0 : Addr} {fd : FuncData} {T : List (Addr × Str)} (F : Fun K "law" "law" s_law f fd) (hcode : fd.code = .ref c0) (TB : TabB base mg c0 P0) (hmT : (P0, ("law" : Str) ++ ".<locals>." ++ "<lambda>") ∈ T) (hu : ∀ p ∈ T, p.1 = P0 → p.2 = ("law" : Str) ++ ".<locals>." ++ "<lambda>")
    (room : Room 18 callerA) (c_law_start : CStart P w K mg base) (c_law_draw : CDraw P w K mg base) (c_law_rules : CRules P w K mg base) (c_law_letters : CLetters P w K mg base) (c_law_all : CAllL P w K mg base) (c_law_strings_right : CSR P w K mg base T) (c_law_bent : CBent P w K mg base)
    (c_law_heardL : CaL P w K mg base "_law_heard" (TThd aNoString aNoFolding aNoNumber)) (cfolding_ofX : CFOx P w K mg base aNoString aNoNumber) (cnumber_ofX : CNOx P w K mg base aNoString aNoFolding)
    (mrange : mg "range" = none) (mlen : mg "len" = none) (mrepr : mg "repr" = none) (mint : mg "int" = none) : FnG P w K mg base f fd ["_law_script"] (spLaw K T) := by
  refine FnG.ofC (k := 17) F sc_law room (fun vs H Q E h => ?_) (fun cdv s H vs Q E hcd hr hG h => ?_)
  · obtain ⟨a, ns, rfl, _⟩ := h
    rfl
  · obtain rfl : cdv = .ref c0 := hcd.symm.trans hcode
    obtain ⟨a, ns, rfl, hS, hns, hT, q⟩ := h
    refine ⟨_, (pss_cons (ps_set (i := 1) sc_law.nd rfl (.inl rfl) (pe_ca c_law_start (hr.mono (by decide)) (by rfl) (pa_cons (pv 0) pa_nil)))
      (pss_cons (ps_for PassesOwn.never rfl (pi_range1 (by rfl) mrange (pa_cons pe_int pa_nil)) (pg_name (i := 2) sc_law.nd rfl (.inl rfl)) (pss_cons (ps_set (i := 9) sc_law.nd rfl (.inr rfl) (pe_ca c_law_rules (hr.mono (by decide)) (by rfl) (pa_cons (pv 1) pa_nil)))
      (pss_cons (ps_set (i := 12) sc_law.nd rfl (.inr rfl) (pe_ca c_law_letters (hr.mono (by decide)) (by rfl) (pa_cons (pv 1) (pa_cons (pv 9) (pa_cons pe_int pa_nil)))))
      (pss_cons (ps_set (i := 3) sc_law.nd rfl (.inl rfl) (pe_ca c_law_all (hr.mono (by decide)) (by rfl) (pa_cons (pv 9) (pa_cons (pv 12) pa_nil))))
      (pss_cons (ps_set (i := 4) sc_law.nd rfl (.inl rfl) (pe_callB (call_show K hG hr.units) (by rfl) mrepr (by decide +kernel) (pa_cons (pe_tup (pa_cons (pv 9) (pa_cons (pv 12) pa_nil))) pa_nil)))
      (pss_cons (ps_if (pt_not (pt_val (pe_ca c_law_strings_right (hr.mono (by decide)) (by rfl) (pa_cons (pv 9) (pa_cons (pv 12) pa_nil))))) (pss_one (ps_ret pe_bl)) pss_nil)
      (pss_cons (ps_set (i := 10) sc_law.nd rfl (.inr rfl) (pe_callB (lenQ K) (by rfl) mlen (by decide +kernel) (pa_cons (pv 3) pa_nil)))
      (pss_cons (ps_set (i := 5) sc_law.nd rfl (.inl rfl) (pe_lst (pa_cons (pe_un un_neg pe_int) (pa_cons (pv 10) (pa_cons (pe_op op_add (pv 10) pe_int) (pa_cons (pe_op op_add (pv 10) (pe_ca c_law_draw (hr.mono (by decide)) (by rfl) (pa_cons (pv 1) (pa_cons pe_int pa_nil)))) (pa_cons (pe_op op_sub pe_int (pv 10)) (pa_cons (pe_op op_pow pe_int pe_int) (pa_cons pe_bl (pa_cons pe_bl (pa_cons pe_non (pa_cons pe_str (pa_cons (pe_tup (pa_cons pe_int pa_nil)) (pa_cons (pe_lst pa_nil) pa_nil))))))))))))))
      (pss_cons (ps_for PassesOwn.never rfl (pi_list (pe_op op_cat (pv 5) (pe_lst (pa_cons pe_dnewK pa_nil)))) (pg_name (i := 11) sc_law.nd rfl (.inr rfl)) (pss_one (ps_if (pt_cmpR op_ne (pe_lam (k := 5) c_law_heardL (by rfl) TB rfl hmT hu (hr.mono (by decide)) (lamS_by (sc := defScope s_law) (by decide +kernel)) rfl (fun _ _ _ _ _ => rfl) (fun A outer s H E f c2 hr => (pe_caX cfolding_ofX (hr.mono (by decide)) (by rfl) (takes_of rfl rfl rfl rfl) (pa_cons (pv 9) (pa_cons (pv 12) (pa_cons (pv 11) pa_nil)))))) pe_str (nomark _)) (pss_one (ps_ret pe_bl)) pss_nil)))
      (pss_cons (ps_if (pt_cmpR op_ne (pe_lam (k := 5) c_law_heardL (by rfl) TB rfl hmT hu (hr.mono (by decide)) (lamS_by (sc := defScope s_law) (by decide +kernel)) rfl (fun _ _ _ _ _ => rfl) (fun A outer s H E f c2 hr => (pe_caX cfolding_ofX (hr.mono (by decide)) (by rfl) (takes_of rfl rfl rfl rfl) (pa_cons (pv 9) (pa_cons (pv 12) (pa_cons (pe_op op_sub (pv 10) pe_int) pa_nil)))))) pe_str (nomark _)) (pss_one (ps_ret pe_bl)) pss_nil)
      (pss_cons (ps_for PassesOwn.never rfl (pi_range1 (by rfl) mrange (pa_cons pe_int pa_nil)) (pg_name (i := 6) sc_law.nd rfl (.inl rfl)) (pss_cons (ps_set (i := 11) sc_law.nd rfl (.inr rfl) (pe_ca c_law_bent (hr.mono (by decide)) (by rfl) (pa_cons (pv 1) (pa_cons (pe_ix (ixL K) (pv 3) (pe_ca c_law_draw (hr.mono (by decide)) (by rfl) (pa_cons (pv 1) (pa_cons (pv 10) pa_nil))) (fun _ _ => rfl)) pa_nil))))
      (pss_cons (ps_set (i := 7) sc_law.nd rfl (.inl rfl) (pe_callB (call_showE K hG hr.units) (by rfl) mrepr (by decide +kernel) (pa_cons (pv 11) pa_nil)))
      (pss_cons (ps_set (i := 8) sc_law.nd rfl (.inl rfl) (pe_ix (ixL K) (pe_lst (pa_cons pe_str (pa_cons pe_str pa_nil))) (pe_callTy call_int1 (by rfl) mint (by decide +kernel) (pa_cons (pe_cmpR (inSeq K) (pv 7) (pe_lc (own := [("_law_shape", 13)]) (g := gName 13) (by rfl) sc_law.nd (pi_list (pv 3)) (blkOk_by (own := [("_law_shape", 13)]) (N := ["_law_script", "_law_pen", "_law_turn", "_law_shapes", "_law_kept", "_law_odd", "_law_k", "_law_shown", "_law_due", "_law_book", "_law_many", "_law_thing", "_law_word", "_law_shape"]) (sc := defScope s_law) (by decide +kernel)) (fun _ _ _ _ _ => (pg_name (i := 13) sc_law.nd rfl (.inl rfl))) (fun _ _ _ _ _ => pts_nil) (fun _ _ _ _ _ => (pe_callB (call_show K hG hr.units) (by rfl) mrepr (by decide +kernel) (pa_cons (pv 13) pa_nil)))) (by rfl)) pa_nil)) (fun _ _ => rfl)))
      (pss_one (ps_if (PW.pt (pw_or (pt_cmpR op_ne (pe_lam (k := 5) c_law_heardL (by rfl) TB rfl hmT hu (hr.mono (by decide)) (lamS_by (sc := defScope s_law) (by decide +kernel)) rfl (fun _ _ _ _ _ => rfl) (fun A outer s H E f c2 hr => (pe_caX cnumber_ofX (hr.mono (by decide)) (by rfl) (takes_of rfl rfl rfl rfl) (pa_cons (pv 9) (pa_cons (pv 12) (pa_cons (pv 11) pa_nil)))))) (pv 8) (nomark _)) (pw_or1 (pt_cmpR op_ne (pe_callB (call_showE K hG hr.units) (by rfl) mrepr (by decide +kernel) (pa_cons (pv 11) pa_nil)) (pv 7) (nomark _))))) (pss_one (ps_ret pe_bl)) pss_nil))))))
      (pss_one (ps_if (pt_cmpR op_ne (pe_callB (call_show K hG hr.units) (by rfl) mrepr (by decide +kernel) (pa_cons (pe_tup (pa_cons (pv 9) (pa_cons (pv 12) pa_nil))) pa_nil)) (pv 4) (nomark _)) (pss_one (ps_ret pe_bl)) pss_nil)))))))))))))
      (pss_one (ps_ret pe_bl)))), ?_⟩
    refine ⟨_, rfl, a, ns, rfl, hS, hns, fun p c H1 hP1 k1 => ?_⟩
    refine gow_name ?_
    dsimp only
    refine ⟨3, rfl, by decide, by decide, for_range (n := 3) (fun i σ H2 => ∃ (y2 y3 y4 y5 y6 y7 y8 y9 y10 y11 y12 : Option V), σ = [some (.ref a), some (.ref p), y2, y3, y4, y5, y6, y7, y8, y9, y10, y11, y12, none] ∧ Pen H2 p c (1000 * i) ∧ Tabs T H2)
      ⟨none, none, none, none, none, none, none, none, none, none, none, rfl, hP1, hT.ext k1⟩ (fun i σ H2 hi hv => ?_) (fun σ H2 hv => ?_)⟩
    · obtain ⟨y2, y3, y4, y5, y6, y7, y8, y9, y10, y11, y12, rfl, hP2, hT2⟩ := hv
      refine gow_name ?_
      dsimp only
      refine ⟨_, rfl, p, c, _, rfl, hP2, by omega, fun v r H3 hr3 ok hofq k3 hP3 => ?_⟩
      have hT3 := hP2.tabs k3 hT2
      refine gow_name ?_
      dsimp only
      refine ⟨_, rfl, _, rfl, p, c, v, r, 6, _, rfl, hr3, ok, by decide, by decide, hP3, by omega, fun x H4 hxm hO k4 hP4 => ?_⟩
      have hT4 := hP3.tabs k4 hT3
      have hr4 := RulesAt.mono _ _ _ _ (TupK.of k4 hP3) hr3
      have hx6 : x.length ≤ 6 := by omega
      have hx : x.length ≤ 12 := by omega
      clear hT3 hr3 hT2 k4 k3 hP3 hP2
      refine gow_name ?_
      dsimp only
      refine ⟨_, rfl, _, rfl, v, r, x, rfl, hr4, ok, hx, fun pf wf H5 hLf hPf k5 => ?_⟩
      rw [SF_GA] at hPf
      have hwf := paired_len hPf
      have hgl : (GA r x).length ≤ 15511 := by
        rw [GA_len]
        exact cn_le r x hx 0
      have hgp : 1 ≤ (GA r x).length := by
        rw [GA_len]
        exact cn_pos r x _ _
      have hP5 := hP4.ext k5
      have hr5 := RulesAt.mono _ _ _ _ (TupK.ext k5) hr4
      have hT5 := hT4.ext k5
      clear hP4 hr4 hT4 k5
      refine gow_name ?_
      dsimp only
      -- kept
      have hsk := sm_kept ok (x := x) (by omega) hO
      refine ⟨_, rfl, _, rfl, szL (show 2 ≤ 1000000 by decide), fun t6 ht6 => ?_⟩
      have e6 := Ext.new (o := .tup [v, .str x]) ht6
      have ot6 : upd H5 t6 (.tup [v, .str x]) t6 = some (.tup [v, .str x]) := upd_same
      generalize upd H5 t6 (.tup [v, .str x]) = H6 at e6 ot6 ⊢
      have hr6 := RulesAt.mono _ _ _ _ (TupK.ext e6) hr5
      refine ⟨.ref t6, dKept r x, _, _, rfl, .tup (SqT.of ot6) (.cons (dp_rules hr6) (.cons (.str _) .nil)), hsk, by decide, by decide, ?_⟩
      generalize hTX : (dKept r x).shown = TX
      refine gow_name ?_
      dsimp only
      refine ⟨_, rfl, _, rfl, v, r, x, rfl, hr6, ok, hofq.2, hx, hT5.ext e6, fun H7 n7 hT7 => ⟨true, rfl, iteF ?_⟩⟩
      have n57 := (ExtN.ext e6).trans n7
      have hP7 := hP5.extN n57
      have hr7 := RulesAt.mono _ _ _ _ (ExtN.tupk n57) hr5
      have hLf7 := n57 _ _ hLf (fun _ z => by cases z)
      have hPf7 := paired_imp (fun _ _ => FoAt.mono _ _ _ _ (ExtN.tupk n57)) hPf
      clear n57 n7 hr6 e6 ot6 ht6 hT5 hr5 hP5 hPf hLf
      -- what is no number
      refine ⟨_, rfl, pf, wf, rfl, .inl (SqL.of hLf7), ?_⟩
      refine gow_name ?_
      dsimp only
      have npf := no_pen hP7 hLf7 hPf7
      refine ⟨_, rfl, _, rfl, _, rfl, _, _, rfl, rfl, _, rfl, _, rfl, p, c, 99, _, rfl, hP7, by omega, by decide, by decide, fun dr H8 d0 d1 k8 hP8 => ⟨_, _, rfl, rfl, ?_⟩⟩
      have hT8 := hP7.tabs k8 hT7
      have hr8 := RulesAt.mono _ _ _ _ (TupK.of k8 hP7) hr7
      have hLf8 := k8 _ _ npf hLf7
      have hPf8 := paired_imp (fun _ _ => FoAt.mono _ _ _ _ (TupK.of k8 hP7)) hPf7
      clear hr7 hLf7 hPf7 hT7 k8 hP7
      refine ⟨_, rfl, _, _, rfl, rfl, _, _, rfl, rfl, ⟨by decide, by decide, by decide⟩, szL (show 1 ≤ 1000000 by decide), fun t1 ht1 => ⟨Nat.zero_le _, fun t2 ht2 => ⟨szL (show 12 ≤ 1000000 by decide), fun l3 hl3 => ?_⟩⟩⟩
      obtain ⟨us, hus⟩ : ∃ us, us = [V.int (-1), .int (wf.length : Int), .int ((wf.length : Int) + 1), .int ((wf.length : Int) + dr), .int (0 - (wf.length : Int)), .int (10 ^ (60 : Int).toNat), .bl true, .bl false, .non, .str "0", .ref t1, .ref t2] := ⟨_, rfl⟩
      have x1 := Ext.new (o := .tup [.int 0]) ht1
      have x2 := Ext.new (o := .lst []) ht2
      have x3 := Ext.new (o := .lst us) hl3
      have O1 : OdN ((wf.length : Nat) : Int) (upd (upd (upd H8 t1 (.tup [.int 0])) t2 (.lst [])) l3 (.lst us)) (.ref t1) := ⟨_, .tup ((x2.trans x3) _ _ upd_same), fun i e => by cases e⟩
      have O2 : OdN ((wf.length : Nat) : Int) (upd (upd (upd H8 t1 (.tup [.int 0])) t2 (.lst [])) l3 (.lst us)) (.ref t2) := ⟨_, .lst (x3 _ _ upd_same), fun i e => by cases e⟩
      have hL9 : upd (upd (upd H8 t1 (.tup [.int 0])) t2 (.lst [])) l3 (.lst us) l3 = some (.lst us) := upd_same
      have k9 := x1.trans (x2.trans x3)
      rw [← hus]
      generalize upd (upd (upd H8 t1 (.tup [.int 0])) t2 (.lst [])) l3 (.lst us) = H9 at O1 O2 hL9 k9 ⊢
      have hus9 : ∀ u ∈ us, OdN ((wf.length : Nat) : Int) H9 u := fun u hu => by
        rw [hus] at hu
        simp only [List.mem_cons, List.not_mem_nil, or_false] at hu
        rcases hu with rfl | rfl | rfl | rfl | rfl | rfl | rfl | rfl | rfl | rfl | rfl | rfl
        · exact .int (.inl (by decide))
        · exact .int (.inr (Int.le_refl _))
        · exact .int (.inr (by omega))
        · exact .int (.inr (by omega))
        · exact .int (.inl (by omega))
        · have hz : (15511 : Int) ≤ 10 ^ (60 : Int).toNat := by decide +kernel
          exact .int (.inr (by omega))
        · exact ⟨_, .bl _, fun i e => by cases e⟩
        · exact ⟨_, .bl _, fun i e => by cases e⟩
        · exact ⟨_, .non, fun i e => by cases e⟩
        · exact ⟨_, .str (by decide +kernel), fun i e => by cases e⟩
        · exact O1
        · exact O2
      have hul : us.length = 12 := by rw [hus]; rfl
      clear hus O1 O2 x1 x2 x3 hl3 ht1 ht2
      have hP9 := hP8.ext k9
      have hT9 := hT8.ext k9
      have hr9 := RulesAt.mono _ _ _ _ (TupK.ext k9) hr8
      have hLf9 := k9 _ _ hLf8
      have hPf9 := paired_imp (fun _ _ => FoAt.mono _ _ _ _ (TupK.ext k9)) hPf8
      clear hP8 hT8 hr8 hLf8 hPf8 k9
      refine gow_name ?_
      dsimp only
      refine ⟨_, rfl, fun tb htb => ⟨szL (show 1 ≤ 1000000 by decide), fun l4 hl4 => ?_⟩⟩
      have z1 := Ext.new (o := .dK []) htb
      have z2 := Ext.new (o := .lst [.ref tb]) hl4
      have k10 := z1.trans z2
      have O3 : OdN ((wf.length : Nat) : Int) (upd (upd H9 tb (.dK [])) l4 (.lst [.ref tb])) (.ref tb) := ⟨_, .dK (z2 _ _ upd_same), fun i e => by cases e⟩
      have hL10 : upd (upd H9 tb (.dK [])) l4 (.lst [.ref tb]) l4 = some (.lst [.ref tb]) := upd_same
      generalize upd (upd H9 tb (.dK [])) l4 (.lst [.ref tb]) = H10 at O3 hL10 k10 ⊢
      refine ⟨l3, l4, us, [.ref tb], rfl, rfl, k10 _ _ hL9, hL10, szL (show us.length + 1 ≤ 1000000 by omega), fun l5 hl5 => ?_⟩
      have z3 := Ext.new (o := .lst (us ++ [.ref tb])) hl5
      have k11 := k10.trans z3
      have hL11 : upd H10 l5 (.lst (us ++ [.ref tb])) l5 = some (.lst (us ++ [V.ref tb])) := upd_same
      have hws : ∀ u ∈ us ++ [V.ref tb], OdN ((wf.length : Nat) : Int) (upd H10 l5 (.lst (us ++ [.ref tb]))) u := fun u hu => by
        rcases List.mem_append.mp hu with hu | hu
        · exact (hus9 u hu).ext k11
        · rw [List.mem_singleton.mp hu]
          exact O3.ext z3
      generalize us ++ [V.ref tb] = ws at hL11 hws z3 k11 ⊢
      generalize upd H10 l5 (.lst ws) = H11 at hL11 hws k11 z3 ⊢
      have hP11 := hP9.ext k11
      have hT11 := hT9.ext k11
      have hr11 := RulesAt.mono _ _ _ _ (TupK.ext k11) hr9
      have hLf11 := k11 _ _ hLf9
      have hPf11 := paired_imp (fun _ _ => FoAt.mono _ _ _ _ (TupK.ext k11)) hPf9
      clear hP9 hT9 hr9 hLf9 hPf9 k11 k10 z1 z2 z3 O3 hL10 hus9 hL9 hul htb hl4 hl5
      refine ⟨l5, rfl, ⟨_, SqL.of hL11⟩, for_list (K := K) (xs := ws) (fun j σ H12 => ∃ (y11 : Option V), σ = [some (.ref a), some (.ref p), some (.int (0 + (i : Int))), some (.ref pf), some (.str TX), some (.ref l3), y6, y7, y8, some v, some (.int (wf.length : Int)), y11, some (.str x), none] ∧ ExtN H11 H12 ∧ Tabs T H12)
        ⟨_, rfl, ExtN.refl _, hT11⟩ (fun j σ H12 _ h => by obtain ⟨_, _, k, _⟩ := h; exact SqL.of (k _ _ hL11 (fun _ z => by cases z))) (fun j u σ H12 hj hv => ?_) (fun σ H12 hv => ?_)⟩
      · obtain ⟨z11, rfl, n12, hT12⟩ := hv
        obtain ⟨d, hd, hdi⟩ := hws u (List.mem_of_getElem? hj)
        refine gow_name ?_
        dsimp only
        refine ⟨hT12, fun H13 n13 hT13 Q' _ => ?_⟩
        have n1113 := n12.trans n13
        refine ⟨_, rfl, _, rfl, _, rfl, .inr ⟨v, .str x, u, r, rfl, (RulesAt.mono _ _ _ _ (ExtN.tupk n1113) hr11).w, .inr ⟨x, d, rfl, hx, hO, hd.extN n1113, fun i e => ⟨(hdi i e).1, by have := (hdi i e).2; omega⟩, fun H14 k14 => ⟨rfl, .inr (.inr ⟨rfl, fun H15 k15 => ?_⟩)⟩⟩⟩⟩
        refine ⟨rfl, _, rfl, iteNS rfl ?_⟩
        exact ⟨_, rfl, n12.trans (n13.trans (ExtN.ext (k14.trans k15))), hT13.ext (k14.trans k15)⟩
      · obtain ⟨z11, rfl, n12, hT12⟩ := hv
        have hr12 := RulesAt.mono _ _ _ _ (ExtN.tupk n12) hr11
        have hP12 := hP11.extN n12
        have hLf12 := n12 _ _ hLf11 (fun _ z => by cases z)
        have hPf12 := paired_imp (fun _ _ => FoAt.mono _ _ _ _ (ExtN.tupk n12)) hPf11
        clear n12 hr11 hP11 hLf11 hPf11 hT11 hws hL11
        obtain ⟨fl, hfl⟩ : ∃ fl, (GA r x)[wf.length - 1]? = some fl := ⟨_, List.getElem?_eq_getElem (by omega)⟩
        refine ⟨hT12, fun H13 n13 hT13 Q' tl => ?_⟩
        have hr13 := RulesAt.mono _ _ _ _ (ExtN.tupk n13) hr12
        refine ⟨_, rfl, _, rfl, _, rfl, _, _, rfl, rfl, .inl ⟨v, r, x, wf.length - 1, fl, ?_, hr13.w, hx, hO, hfl, fun tv H14 _ k14 => tl _ _ fun H15 k15 => ⟨rfl, _, rfl, iteNS rfl ?_⟩⟩⟩
        · show [v, V.str x, V.int ((wf.length : Int) - 1)] = _
          rw [show ((wf.length : Int) - 1) = ((wf.length - 1 : Nat) : Int) by omega]
        have n15 := n13.trans (ExtN.ext (k14.trans k15))
        have hr15 := RulesAt.mono _ _ _ _ (ExtN.tupk n15) hr12
        have hP15 := hP12.extN n15
        have hLf15 := n15 _ _ hLf12 (fun _ z => by cases z)
        have hPf15 := paired_imp (fun _ _ => FoAt.mono _ _ _ _ (ExtN.tupk n15)) hPf12
        have hT15 := hT13.ext (k14.trans k15)
        clear n15 n13 k14 k15 hr13 hT13 hr12 hP12 hLf12 hPf12 hT12 tl
        refine ⟨10, rfl, by decide, by decide, for_range (n := 10) (fun k σ H16 => ∃ (y6 y7 y8 y11 : Option V), σ = [some (.ref a), some (.ref p), some (.int (0 + (i : Int))), some (.ref pf), some (.str TX), some (.ref l3), y6, y7, y8, some v, some (.int (wf.length : Int)), y11, some (.str x), none] ∧ RulesAt H16 v r ∧ Pen H16 p c (1000 * i + 331 + 4 * k) ∧ H16 pf = some (.lst wf) ∧ Paired (FoAt H16) wf (GA r x) ∧ Tabs T H16)
          ⟨_, _, _, _, rfl, hr15, hP15.mono (by omega), hLf15, hPf15, hT15⟩ (fun k σ H16 hk hv => ?_) (fun σ H16 hv => ?_)⟩
        · obtain ⟨w6, w7, w8, w11, rfl, hr16, hP16, hLf16, hPf16, hT16⟩ := hv
          refine gow_name ?_
          dsimp only
          refine ⟨_, rfl, _, rfl, _, rfl, _, rfl, p, c, _, _, rfl, hP16, by omega, by omega, by omega, fun e H17 e0 e1 k17 hP17 => ?_⟩
          obtain ⟨u, hu, hat⟩ := atI_mem (xs := wf) e0 (by omega)
          obtain ⟨iu, hiu⟩ := List.mem_iff_getElem?.mp hu
          have hr17 := RulesAt.mono _ _ _ _ (TupK.of k17 hP16) hr16
          have hT17 := hP16.tabs k17 hT16
          have hLf17 := k17 _ _ npf hLf16
          have hPf17 := paired_imp (fun _ _ => FoAt.mono _ _ _ _ (TupK.of k17 hP16)) hPf16
          obtain ⟨qu, hqu, hFu⟩ := paired_get hPf17 hiu
          have hbq : ∀ q ∈ GA r x, q.length ≤ 6 ∧ ∀ y ∈ q, (0 ≤ y.1 ∧ y.1 ≤ 20) ∧ 0 ≤ y.2 ∧ y.2 ≤ 20 := fun q hq => by
            have h := WA_in r x x.length 0 q (GA_sub hq)
            have h2 := h.2
            refine ⟨by omega, fun y hy => ?_⟩
            have := h.1 y hy
            omega
          refine ⟨pf, wf, e, u, rfl, rfl, SqL.of hLf17, hat, p, c, u, qu, _, rfl, hFu, hbq qu (List.mem_of_getElem? hqu), hP17, by omega, fun th H18 hth k18 hP18 => ?_⟩
          have hr18 := RulesAt.mono _ _ _ _ (TupK.of k18 hP17) hr17
          have hT18 := hP17.tabs k18 hT17
          have hLf18 := k18 _ _ npf hLf17
          have hPf18 := paired_imp (fun _ _ => FoAt.mono _ _ _ _ (TupK.of k18 hP17)) hPf17
          clear hr17 hT17 hLf17 hPf17 hr16 hT16 hLf16 hPf16 k17 k18 hFu hP17 hP16
          obtain ⟨d, hd, hbg, hdl⟩ := hth
          refine gow_name ?_
          dsimp only
          refine ⟨_, rfl, th, d, rfl, hd, hbg, ?_⟩
          refine gow_name ?_
          dsimp only
          refine ⟨szL (show 2 ≤ 1000000 by decide), fun lq hlq => ?_⟩
          have x19 := Ext.new (o := .lst [.str "folding", .str "told"]) hlq
          have oq : upd H18 lq (.lst [.str "folding", .str "told"]) lq = some (.lst [.str "folding", .str "told"]) := upd_same
          generalize upd H18 lq (.lst [.str "folding", .str "told"]) = H19 at x19 oq ⊢
          have hLf19 := x19 _ _ hLf18
          have hPf19 := paired_imp (fun _ _ => FoAt.mono _ _ _ _ (TupK.ext x19)) hPf18
          refine ⟨_, rfl, _, rfl, pf, rfl, ⟨_, SqL.of hLf19⟩, fun D hD => lc_list (K := K) (xs := wf) (fun t H20 => H20 D = some (.lst ((((GA r x).take t).map fun q => (dFo q).shown).map V.str)) ∧ Ext H19 H20) ⟨upd_same, Ext.new hD⟩ (fun t H20 _ hv => SqL.of (hv.2 _ _ hLf19)) (fun t u H20 hi hv => ?_) (fun H20 hv => ?_)⟩
          · obtain ⟨hL20, k20⟩ := hv
            obtain ⟨w0, hw, hF⟩ := paired_get hPf19 hi
            have hb := hbq w0 (List.mem_of_getElem? hw)
            refine ⟨rfl, _, rfl, u, dFo w0, _, _, rfl, dp_fo (FoAt.mono _ _ _ _ (TupK.ext k20) hF), sm_fo hb.1 (fun y hy => by have := hb.2 y hy; omega), by decide, by decide, _, hL20, szLt ?_, ?_, k20.put hD⟩
            · rw [List.length_map, List.length_map, List.length_take]
              omega
            · rw [upd_same, List.take_add_one, hw, List.map_append, List.map_append]
              rfl
          obtain ⟨hD20, k20⟩ := hv
          rw [List.take_of_length_le (by omega)] at hD20
          refine ⟨D, _, rfl, .inl (SqL.of hD20), rfl, ?_, .inr ⟨foD r x d, ?_, ?_⟩⟩
          · rw [List.all_map]
            exact List.all_eq_true.mpr fun _ _ => rfl
          · show [V.bl (inV _ _)] = _
            rw [due_is]
          refine ⟨lq, _, _, _, rfl, rfl, SqL.of (k20 _ _ oq), due_at _, ?_⟩
          have k1820 := x19.trans k20
          have hr20 := RulesAt.mono _ _ _ _ (TupK.ext k1820) hr18
          have hP20 := hP18.ext k1820
          have hT20 := hT18.ext k1820
          have hLf20 := k1820 _ _ hLf18
          have hPf20 := paired_imp (fun _ _ => FoAt.mono _ _ _ _ (TupK.ext k1820)) hPf18
          have hd20 := hd.ext k1820
          clear hr18 hP18 hT18 hLf18 hPf18 hd hLf19 hPf19 x19 oq k20 hD20 hlq k1820
          refine gow_name ?_
          dsimp only
          have fin : ∀ H23, ExtN H20 H23 → Tabs T H23 → Dz H23 th d ∧ RulesAt H23 v r ∧ Pen H23 p c (1000 * i + 331 + 4 * (k + 1)) ∧ H23 pf = some (.lst wf) ∧ Paired (FoAt H23) wf (GA r x) := fun H23 n23 hT23 =>
            ⟨hd20.extN n23, RulesAt.mono _ _ _ _ (ExtN.tupk n23) hr20, (hP20.extN n23).mono (by omega), n23 _ _ hLf20 (fun _ z => by cases z), paired_imp (fun _ _ => FoAt.mono _ _ _ _ (ExtN.tupk n23)) hPf20⟩
          refine ⟨hT20, fun H21 n21 hT21 Q' tl => ?_⟩
          have hr21 := RulesAt.mono _ _ _ _ (ExtN.tupk n21) hr20
          have hd21 := hd20.extN n21
          refine ⟨_, rfl, _, rfl, _, rfl, ?_⟩
          cases hfd : foD r x d with
          | true =>
            rw [hfd] at tl
            obtain ⟨q', hq', rfl⟩ := foD_yes hfd
            obtain ⟨nq, hnq⟩ := List.mem_iff_getElem?.mp ((GA_perm r x).mem_iff.mpr hq')
            refine .inl ⟨v, th, r, x, nq, q', rfl, hr21.w, hx, hO, fo_of hd21, hnq, fun H22 k22 => tl _ _ fun H23 k23 => ?_⟩
            have n23 := n21.trans (ExtN.ext (k22.trans k23))
            have hT23 := hT21.ext (k22.trans k23)
            obtain ⟨f1, f2, f3, f4, f5⟩ := fin H23 n23 hT23
            refine ⟨_, rfl, rfl, _, rfl, iteNS rfl ?_⟩
            refine ⟨_, rfl, th, _, rfl, f1, hbg, _, rfl, rfl, _, rfl, iteNS rfl ?_⟩
            exact ⟨_, _, _, _, rfl, f2, f3, f4, f5, hT23⟩
          | false =>
            refine .inr ⟨v, .str x, th, r, rfl, hr21.w, .inr ⟨x, d, rfl, hx, hO, hd21, hdl, hfd, fun H22 k22 => ⟨rfl, .inr (.inl ⟨rfl, fun H23 k23 => ?_⟩)⟩⟩⟩
            have n23 := n21.trans (ExtN.ext (k22.trans k23))
            have hT23 := hT21.ext (k22.trans k23)
            obtain ⟨f1, f2, f3, f4, f5⟩ := fin H23 n23 hT23
            refine ⟨_, rfl, rfl, _, rfl, iteNS rfl ?_⟩
            refine ⟨_, rfl, th, _, rfl, f1, hbg, _, rfl, rfl, _, rfl, iteNS rfl ?_⟩
            exact ⟨_, _, _, _, rfl, f2, f3, f4, f5, hT23⟩
        · obtain ⟨w6, w7, w8, w11, rfl, hr16, hP16, hLf16, hPf16, hT16⟩ := hv
          refine ⟨_, rfl, _, rfl, szL (show 2 ≤ 1000000 by decide), fun t7 ht7 => ?_⟩
          have e7 := Ext.new (o := .tup [v, .str x]) ht7
          refine ⟨.ref t7, dKept r x, _, _, rfl, .tup (SqT.of upd_same) (.cons (dp_rules (RulesAt.mono _ _ _ _ (TupK.ext e7) hr16)) (.cons (.str _) .nil)), hsk, by decide, by decide, ?_⟩
          rw [hTX]
          refine ⟨_, rfl, rfl, _, rfl, iteNS rfl ?_⟩
          exact ⟨_, _, _, _, _, _, _, _, _, _, _, rfl, (hP16.ext e7).mono (by omega), hT16.ext e7⟩
    · exact q _
end
end Pf


namespace Pf
open PySem PySem.Spec PyProof.Rows L2 LamX
/-! ### what the top has written; the law's own head -/
theorem all_mk {l : PySem.W.OpenLaw} {w : World} {K : PySem.W.Frag} {h : Heap} {mg : Str → Option Value} {fa f0 f1 f2 f3 f4 f5 f6 f7 f8 f9 f10 f11 f12 f13 f14 f15 f16 f17 f18 f19 f20 f21 f22 f23 f24 f25 f26 f27 f28 f29 f30 : Addr} (X : K.In h) (G : h.Ns mainGlobals mg) (hfa : mg "law" = some (.ref fa))
    {od0 an0 od1 an1 od2 an2 od3 an3 od4 an4 od5 an5 od6 an6 od7 an7 od8 an8 od9 an9 od10 an10 od11 an11 od12 an12 od13 an13 od14 an14 od15 an15 od16 an16 od17 an17 od18 an18 od19 an19 od20 an20 od21 an21 od22 an22 od23 an23 od24 an24 od25 an25 od26 an26 od27 an27 od28 an28 od29 an29 od30 an30 : Option Addr} {sl0 sl1 sl2 sl3 sl4 sl5 sl6 sl7 sl8 sl9 sl10 sl11 sl12 sl13 sl14 sl15 sl16 sl17 sl18 sl19 sl20 sl21 sl22 sl23 sl24 sl25 sl26 sl27 sl28 sl29 sl30 : Array (Option Value)} {oc0 kV0 dc0 pm0 cd0 ct0 oc1 kV1 dc1 pm1 cd1 ct1 oc2 kV2 dc2 pm2 cd2 ct2 oc3 kV3 dc3 pm3 cd3 ct3 oc4 kV4 dc4 pm4 cd4 ct4 oc5 kV5 dc5 pm5 cd5 ct5 oc6 kV6 dc6 pm6 cd6 ct6 oc7 kV7 dc7 pm7 cd7 ct7 oc8 kV8 dc8 pm8 cd8 ct8 oc9 kV9 dc9 pm9 cd9 ct9 oc10 kV10 dc10 pm10 cd10 ct10 oc11 kV11 dc11 pm11 cd11 ct11 oc12 kV12 dc12 pm12 cd12 ct12 oc13 kV13 dc13 pm13 cd13 ct13 oc14 kV14 dc14 pm14 cd14 ct14 oc15 kV15 dc15 pm15 cd15 ct15 oc16 kV16 dc16 pm16 cd16 ct16 oc17 kV17 dc17 pm17 cd17 ct17 oc18 kV18 dc18 pm18 cd18 ct18 oc19 kV19 dc19 pm19 cd19 ct19 oc20 kV20 dc20 pm20 cd20 ct20 oc21 kV21 dc21 pm21 cd21 ct21 oc22 kV22 dc22 pm22 cd22 ct22 oc23 kV23 dc23 pm23 cd23 ct23 oc24 kV24 dc24 pm24 cd24 ct24 oc25 kV25 dc25 pm25 cd25 ct25 oc26 kV26 dc26 pm26 cd26 ct26 oc27 kV27 dc27 pm27 cd27 ct27 oc28 kV28 dc28 pm28 cd28 ct28 oc29 kV29 dc29 pm29 ct29 oc30 kV30 dc30 pm30 ct30 : Value} {cc29 P29 : Addr} {te29 : Value} {td29 : Option Addr} {tv29 : Array Value} {ts29 : Array (Option Value)} {cc30 P30 : Addr} {te30 : Value} {td30 : Option Addr} {tv30 : Array Value} {ts30 : Array (Option Value)} {tI0 : Tok} {aFoldError : Addr} {aNoRules : Addr} {aNoString : Addr} {aNoFolding : Addr} {aNoText : Addr} {aNoNumber : Addr} {aNoPlace : Addr} 
    (a0 : PySem.W.nsIn K mainGlobals "_law_start" = some (some (.ref f0))) (l0 : K.lookup f0 = some ⟨oc0, od0, .func (PySem.W.fnOf "_law_start" "_law_start" (defArgs s_law_start) (defBody s_law_start) (defScope s_law_start) .none kV0 dc0 pm0 an0 cd0 ct0), sl0⟩) (c0 : PySem.W.codeIn K cd0 "_law_start" = true) (k0 : PySem.W.keepIn K (.ref f0) = true)
    (a1 : PySem.W.nsIn K mainGlobals "_law_draw" = some (some (.ref f1))) (l1 : K.lookup f1 = some ⟨oc1, od1, .func (PySem.W.fnOf "_law_draw" "_law_draw" (defArgs s_law_draw) (defBody s_law_draw) (defScope s_law_draw) .none kV1 dc1 pm1 an1 cd1 ct1), sl1⟩) (c1 : PySem.W.codeIn K cd1 "_law_draw" = true) (k1 : PySem.W.keepIn K (.ref f1) = true)
    (a2 : PySem.W.nsIn K mainGlobals "_law_worth" = some (some (.ref f2))) (l2 : K.lookup f2 = some ⟨oc2, od2, .func (PySem.W.fnOf "_law_worth" "_law_worth" (defArgs s_law_worth) (defBody s_law_worth) (defScope s_law_worth) .none kV2 dc2 pm2 an2 cd2 ct2), sl2⟩) (c2 : PySem.W.codeIn K cd2 "_law_worth" = true) (k2 : PySem.W.keepIn K (.ref f2) = true)
    (a3 : PySem.W.nsIn K mainGlobals "_law_rules" = some (some (.ref f3))) (l3 : K.lookup f3 = some ⟨oc3, od3, .func (PySem.W.fnOf "_law_rules" "_law_rules" (defArgs s_law_rules) (defBody s_law_rules) (defScope s_law_rules) .none kV3 dc3 pm3 an3 cd3 ct3), sl3⟩) (c3 : PySem.W.codeIn K cd3 "_law_rules" = true) (k3 : PySem.W.keepIn K (.ref f3) = true)
    (a4 : PySem.W.nsIn K mainGlobals "_law_letters" = some (some (.ref f4))) (l4 : K.lookup f4 = some ⟨oc4, od4, .func (PySem.W.fnOf "_law_letters" "_law_letters" (defArgs s_law_letters) (defBody s_law_letters) (defScope s_law_letters) .none kV4 dc4 pm4 an4 cd4 ct4), sl4⟩) (c4 : PySem.W.codeIn K cd4 "_law_letters" = true) (k4 : PySem.W.keepIn K (.ref f4) = true)
    (a5 : PySem.W.nsIn K mainGlobals "_law_may" = some (some (.ref f5))) (l5 : K.lookup f5 = some ⟨oc5, od5, .func (PySem.W.fnOf "_law_may" "_law_may" (defArgs s_law_may) (defBody s_law_may) (defScope s_law_may) .none kV5 dc5 pm5 an5 cd5 ct5), sl5⟩) (c5 : PySem.W.codeIn K cd5 "_law_may" = true) (k5 : PySem.W.keepIn K (.ref f5) = true)
    (a6 : PySem.W.nsIn K mainGlobals "_law_ways" = some (some (.ref f6))) (l6 : K.lookup f6 = some ⟨oc6, od6, .func (PySem.W.fnOf "_law_ways" "_law_ways" (defArgs s_law_ways) (defBody s_law_ways) (defScope s_law_ways) .none kV6 dc6 pm6 an6 cd6 ct6), sl6⟩) (c6 : PySem.W.codeIn K cd6 "_law_ways" = true) (k6 : PySem.W.keepIn K (.ref f6) = true)
    (a7 : PySem.W.nsIn K mainGlobals "_law_all" = some (some (.ref f7))) (l7 : K.lookup f7 = some ⟨oc7, od7, .func (PySem.W.fnOf "_law_all" "_law_all" (defArgs s_law_all) (defBody s_law_all) (defScope s_law_all) .none kV7 dc7 pm7 an7 cd7 ct7), sl7⟩) (c7 : PySem.W.codeIn K cd7 "_law_all" = true) (k7 : PySem.W.keepIn K (.ref f7) = true)
    (a8 : PySem.W.nsIn K mainGlobals "pair_worth" = some (some (.ref f8))) (l8 : K.lookup f8 = some ⟨oc8, od8, .func (PySem.W.fnOf "pair_worth" "pair_worth" (defArgs s_pair_worth) (defBody s_pair_worth) (defScope s_pair_worth) .none kV8 dc8 pm8 an8 cd8 ct8), sl8⟩) (c8 : PySem.W.codeIn K cd8 "pair_worth" = true) (k8 : PySem.W.keepIn K (.ref f8) = true)
    (a9 : PySem.W.nsIn K mainGlobals "text_of" = some (some (.ref f9))) (l9 : K.lookup f9 = some ⟨oc9, od9, .func (PySem.W.fnOf "text_of" "text_of" (defArgs s_text_of) (defBody s_text_of) (defScope s_text_of) .none kV9 dc9 pm9 an9 cd9 ct9), sl9⟩) (c9 : PySem.W.codeIn K cd9 "text_of" = true) (k9 : PySem.W.keepIn K (.ref f9) = true)
    (a10 : PySem.W.nsIn K mainGlobals "may_pair" = some (some (.ref f10))) (l10 : K.lookup f10 = some ⟨oc10, od10, .func (PySem.W.fnOf "may_pair" "may_pair" (defArgs s_may_pair) (defBody s_may_pair) (defScope s_may_pair) .none kV10 dc10 pm10 an10 cd10 ct10), sl10⟩) (c10 : PySem.W.codeIn K cd10 "may_pair" = true) (k10 : PySem.W.keepIn K (.ref f10) = true)
    (a11 : PySem.W.nsIn K mainGlobals "is_string" = some (some (.ref f11))) (l11 : K.lookup f11 = some ⟨oc11, od11, .func (PySem.W.fnOf "is_string" "is_string" (defArgs s_is_string) (defBody s_is_string) (defScope s_is_string) .none kV11 dc11 pm11 an11 cd11 ct11), sl11⟩) (c11 : PySem.W.codeIn K cd11 "is_string" = true) (k11 : PySem.W.keepIn K (.ref f11) = true)
    (a12 : PySem.W.nsIn K mainGlobals "need_string" = some (some (.ref f12))) (l12 : K.lookup f12 = some ⟨oc12, od12, .func (PySem.W.fnOf "need_string" "need_string" (defArgs s_need_string) (defBody s_need_string) (defScope s_need_string) .none kV12 dc12 pm12 an12 cd12 ct12), sl12⟩) (c12 : PySem.W.codeIn K cd12 "need_string" = true) (k12 : PySem.W.keepIn K (.ref f12) = true)
    (a13 : PySem.W.nsIn K mainGlobals "stretch_counts" = some (some (.ref f13))) (l13 : K.lookup f13 = some ⟨oc13, od13, .func (PySem.W.fnOf "stretch_counts" "stretch_counts" (defArgs s_stretch_counts) (defBody s_stretch_counts) (defScope s_stretch_counts) .none kV13 dc13 pm13 an13 cd13 ct13), sl13⟩) (c13 : PySem.W.codeIn K cd13 "stretch_counts" = true) (k13 : PySem.W.keepIn K (.ref f13) = true)
    (a14 : PySem.W.nsIn K mainGlobals "how_many" = some (some (.ref f14))) (l14 : K.lookup f14 = some ⟨oc14, od14, .func (PySem.W.fnOf "how_many" "how_many" (defArgs s_how_many) (defBody s_how_many) (defScope s_how_many) .none kV14 dc14 pm14 an14 cd14 ct14), sl14⟩) (c14 : PySem.W.codeIn K cd14 "how_many" = true) (k14 : PySem.W.keepIn K (.ref f14) = true)
    (a15 : PySem.W.nsIn K mainGlobals "is_whole" = some (some (.ref f15))) (l15 : K.lookup f15 = some ⟨oc15, od15, .func (PySem.W.fnOf "is_whole" "is_whole" (defArgs s_is_whole) (defBody s_is_whole) (defScope s_is_whole) .none kV15 dc15 pm15 an15 cd15 ct15), sl15⟩) (c15 : PySem.W.codeIn K cd15 "is_whole" = true) (k15 : PySem.W.keepIn K (.ref f15) = true)
    (a16 : PySem.W.nsIn K mainGlobals "is_row" = some (some (.ref f16))) (l16 : K.lookup f16 = some ⟨oc16, od16, .func (PySem.W.fnOf "is_row" "is_row" (defArgs s_is_row) (defBody s_is_row) (defScope s_is_row) .none kV16 dc16 pm16 an16 cd16 ct16), sl16⟩) (c16 : PySem.W.codeIn K cd16 "is_row" = true) (k16 : PySem.W.keepIn K (.ref f16) = true)
    (a17 : PySem.W.nsIn K mainGlobals "rises" = some (some (.ref f17))) (l17 : K.lookup f17 = some ⟨oc17, od17, .func (PySem.W.fnOf "rises" "rises" (defArgs s_rises) (defBody s_rises) (defScope s_rises) .none kV17 dc17 pm17 an17 cd17 ct17), sl17⟩) (c17 : PySem.W.codeIn K cd17 "rises" = true) (k17 : PySem.W.keepIn K (.ref f17) = true)
    (a18 : PySem.W.nsIn K mainGlobals "is_pair" = some (some (.ref f18))) (l18 : K.lookup f18 = some ⟨oc18, od18, .func (PySem.W.fnOf "is_pair" "is_pair" (defArgs s_is_pair) (defBody s_is_pair) (defScope s_is_pair) .none kV18 dc18 pm18 an18 cd18 ct18), sl18⟩) (c18 : PySem.W.codeIn K cd18 "is_pair" = true) (k18 : PySem.W.keepIn K (.ref f18) = true)
    (a19 : PySem.W.nsIn K mainGlobals "go_together" = some (some (.ref f19))) (l19 : K.lookup f19 = some ⟨oc19, od19, .func (PySem.W.fnOf "go_together" "go_together" (defArgs s_go_together) (defBody s_go_together) (defScope s_go_together) .none kV19 dc19 pm19 an19 cd19 ct19), sl19⟩) (c19 : PySem.W.codeIn K cd19 "go_together" = true) (k19 : PySem.W.keepIn K (.ref f19) = true)
    (a20 : PySem.W.nsIn K mainGlobals "is_folding" = some (some (.ref f20))) (l20 : K.lookup f20 = some ⟨oc20, od20, .func (PySem.W.fnOf "is_folding" "is_folding" (defArgs s_is_folding) (defBody s_is_folding) (defScope s_is_folding) .none kV20 dc20 pm20 an20 cd20 ct20), sl20⟩) (c20 : PySem.W.codeIn K cd20 "is_folding" = true) (k20 : PySem.W.keepIn K (.ref f20) = true)
    (a21 : PySem.W.nsIn K mainGlobals "next_pairs" = some (some (.ref f21))) (l21 : K.lookup f21 = some ⟨oc21, od21, .func (PySem.W.fnOf "next_pairs" "next_pairs" (defArgs s_next_pairs) (defBody s_next_pairs) (defScope s_next_pairs) .none kV21 dc21 pm21 an21 cd21 ct21), sl21⟩) (c21 : PySem.W.codeIn K cd21 "next_pairs" = true) (k21 : PySem.W.keepIn K (.ref f21) = true)
    (a22 : PySem.W.nsIn K mainGlobals "many_in" = some (some (.ref f22))) (l22 : K.lookup f22 = some ⟨oc22, od22, .func (PySem.W.fnOf "many_in" "many_in" (defArgs s_many_in) (defBody s_many_in) (defScope s_many_in) .none kV22 dc22 pm22 an22 cd22 ct22), sl22⟩) (c22 : PySem.W.codeIn K cd22 "many_in" = true) (k22 : PySem.W.keepIn K (.ref f22) = true)
    (a23 : PySem.W.nsIn K mainGlobals "folding_of" = some (some (.ref f23))) (l23 : K.lookup f23 = some ⟨oc23, od23, .func (PySem.W.fnOf "folding_of" "folding_of" (defArgs s_folding_of) (defBody s_folding_of) (defScope s_folding_of) .none kV23 dc23 pm23 an23 cd23 ct23), sl23⟩) (c23 : PySem.W.codeIn K cd23 "folding_of" = true) (k23 : PySem.W.keepIn K (.ref f23) = true)
    (a24 : PySem.W.nsIn K mainGlobals "number_of" = some (some (.ref f24))) (l24 : K.lookup f24 = some ⟨oc24, od24, .func (PySem.W.fnOf "number_of" "number_of" (defArgs s_number_of) (defBody s_number_of) (defScope s_number_of) .none kV24 dc24 pm24 an24 cd24 ct24), sl24⟩) (c24 : PySem.W.codeIn K cd24 "number_of" = true) (k24 : PySem.W.keepIn K (.ref f24) = true)
    (a25 : PySem.W.nsIn K mainGlobals "by_worths" = some (some (.ref f25))) (l25 : K.lookup f25 = some ⟨oc25, od25, .func (PySem.W.fnOf "by_worths" "by_worths" (defArgs s_by_worths) (defBody s_by_worths) (defScope s_by_worths) .none kV25 dc25 pm25 an25 cd25 ct25), sl25⟩) (c25 : PySem.W.codeIn K cd25 "by_worths" = true) (k25 : PySem.W.keepIn K (.ref f25) = true)
    (a26 : PySem.W.nsIn K mainGlobals "all_foldings" = some (some (.ref f26))) (l26 : K.lookup f26 = some ⟨oc26, od26, .func (PySem.W.fnOf "all_foldings" "all_foldings" (defArgs s_all_foldings) (defBody s_all_foldings) (defScope s_all_foldings) .none kV26 dc26 pm26 an26 cd26 ct26), sl26⟩) (c26 : PySem.W.codeIn K cd26 "all_foldings" = true) (k26 : PySem.W.keepIn K (.ref f26) = true)
    (a27 : PySem.W.nsIn K mainGlobals "_law_heard" = some (some (.ref f27))) (l27 : K.lookup f27 = some ⟨oc27, od27, .func (PySem.W.fnOf "_law_heard" "_law_heard" (defArgs s_law_heard) (defBody s_law_heard) (defScope s_law_heard) .none kV27 dc27 pm27 an27 cd27 ct27), sl27⟩) (c27 : PySem.W.codeIn K cd27 "_law_heard" = true) (k27 : PySem.W.keepIn K (.ref f27) = true)
    (a28 : PySem.W.nsIn K mainGlobals "_law_bent" = some (some (.ref f28))) (l28 : K.lookup f28 = some ⟨oc28, od28, .func (PySem.W.fnOf "_law_bent" "_law_bent" (defArgs s_law_bent) (defBody s_law_bent) (defScope s_law_bent) .none kV28 dc28 pm28 an28 cd28 ct28), sl28⟩) (c28 : PySem.W.codeIn K cd28 "_law_bent" = true) (k28 : PySem.W.keepIn K (.ref f28) = true)
    (a29 : PySem.W.nsIn K mainGlobals "_law_strings_right" = some (some (.ref f29))) (l29 : K.lookup f29 = some ⟨oc29, od29, .func (PySem.W.fnOf "_law_strings_right" "_law_strings_right" (defArgs s_law_strings_right) (defBody s_law_strings_right) (defScope s_law_strings_right) .none kV29 dc29 pm29 an29 (.ref cc29) ct29), sl29⟩) (c29 : PySem.W.codeIn K (.ref cc29) "_law_strings_right" = true) (k29 : PySem.W.keepIn K (.ref f29) = true) (tc29 : K.lookup cc29 = some ⟨te29, td29, .fields tv29, ts29⟩) (th29 : tv29[11]? = some (.ref P29)) (nk29 : K.lookup P29 = none) (ht29 : HasTab mg h "_law_strings_right")
    (a30 : PySem.W.nsIn K mainGlobals "law" = some (some (.ref f30))) (l30 : K.lookup f30 = some ⟨oc30, od30, .func (PySem.W.fnOf "law" "law" (defArgs s_law) (defBody s_law) (defScope s_law) .none kV30 dc30 pm30 an30 (.ref cc30) ct30), sl30⟩) (c30 : PySem.W.codeIn K (.ref cc30) "law" = true) (k30 : PySem.W.keepIn K (.ref f30) = true) (tc30 : K.lookup cc30 = some ⟨te30, td30, .fields tv30, ts30⟩) (th30 : tv30[11]? = some (.ref P30)) (nk30 : K.lookup P30 = none) (ht30 : HasTab mg h "law")
    (z0 : PySem.W.nsIn K mainGlobals "len" = some none)
    (z1 : PySem.W.nsIn K mainGlobals "abs" = some none)
    (z2 : PySem.W.nsIn K mainGlobals "int" = some none)
    (z3 : PySem.W.nsIn K mainGlobals "tuple" = some none)
    (z4 : PySem.W.nsIn K mainGlobals "range" = some none)
    (z5 : PySem.W.nsIn K mainGlobals "list" = some none)
    (z6 : PySem.W.nsIn K mainGlobals "sorted" = some none)
    (z7 : PySem.W.nsIn K mainGlobals "repr" = some none)
    (z8 : PySem.W.nsIn K mainGlobals "min" = some none)
    (z9 : PySem.W.nsIn K mainGlobals "dict" = some none)
    (z10 : PySem.W.nsIn K mainGlobals "isinstance" = some none)
    (z11 : PySem.W.nsIn K mainGlobals "str" = some none)
    (z12 : PySem.W.nsIn K mainGlobals "all" = some none)
    (z13 : PySem.W.nsIn K mainGlobals "sum" = some none)
    (z14 : PySem.W.nsIn K mainGlobals "zip" = some none)
    (z15 : PySem.W.nsIn K mainGlobals "bool" = some none)
    (z16 : PySem.W.nsIn K mainGlobals "enumerate" = some none)
    (z17 : PySem.W.nsIn K mainGlobals "ValueError" = some none)
    (z18 : PySem.W.nsIn K mainGlobals "IndexError" = some none)
    (aI0 : PySem.W.nsIn K mainGlobals "MOST_PLACES" = some (some (.int 12 tI0)))
    (aCFoldError : PySem.W.nsIn K mainGlobals "FoldError" = some (some (.ref aFoldError)))
    (aCNoRules : PySem.W.nsIn K mainGlobals "NoRules" = some (some (.ref aNoRules)))
    (aCNoString : PySem.W.nsIn K mainGlobals "NoString" = some (some (.ref aNoString)))
    (aCNoFolding : PySem.W.nsIn K mainGlobals "NoFolding" = some (some (.ref aNoFolding)))
    (aCNoText : PySem.W.nsIn K mainGlobals "NoText" = some (some (.ref aNoText)))
    (aCNoNumber : PySem.W.nsIn K mainGlobals "NoNumber" = some (some (.ref aNoNumber)))
    (aCNoPlace : PySem.W.nsIn K mainGlobals "NoPlace" = some (some (.ref aNoPlace)))
    (xNoString_hg : PySem.W.findIn K (.ref aNoString) "__getattribute__" = some (some (.builtin "BaseException.__getattribute__")))
    (xNoString_hk : PySem.W.findIn K (.ref aNoString) "__getattr__" = some none)
    (xNoString_hs : PySem.W.subIn K (.ref aNoString) (.type "BaseException") = some true)
    (xNoString_hd : PySem.W.hasDictIn K aNoString = true)
    (xNoString_ha : PySem.W.findIn K (.ref aNoString) "__class__" = some (some (.builtin "object.__class__")))
    (xNoString_hn : PySem.W.specialIn K (.builtin "object.__class__") "__get__" = some (some (.builtin "getset_descriptor.__get__")))
    (xNoString_ht : PySem.W.takesIn K (.builtin "object.__class__") = some true)
    (xNoString_hm : PySem.W.mroIn K aNoString (.type "object") = some true)
    (xNoFolding_hg : PySem.W.findIn K (.ref aNoFolding) "__getattribute__" = some (some (.builtin "BaseException.__getattribute__")))
    (xNoFolding_hk : PySem.W.findIn K (.ref aNoFolding) "__getattr__" = some none)
    (xNoFolding_hs : PySem.W.subIn K (.ref aNoFolding) (.type "BaseException") = some true)
    (xNoFolding_hd : PySem.W.hasDictIn K aNoFolding = true)
    (xNoFolding_ha : PySem.W.findIn K (.ref aNoFolding) "__class__" = some (some (.builtin "object.__class__")))
    (xNoFolding_hn : PySem.W.specialIn K (.builtin "object.__class__") "__get__" = some (some (.builtin "getset_descriptor.__get__")))
    (xNoFolding_ht : PySem.W.takesIn K (.builtin "object.__class__") = some true)
    (xNoFolding_hm : PySem.W.mroIn K aNoFolding (.type "object") = some true)
    (xNoNumber_hg : PySem.W.findIn K (.ref aNoNumber) "__getattribute__" = some (some (.builtin "BaseException.__getattribute__")))
    (xNoNumber_hk : PySem.W.findIn K (.ref aNoNumber) "__getattr__" = some none)
    (xNoNumber_hs : PySem.W.subIn K (.ref aNoNumber) (.type "BaseException") = some true)
    (xNoNumber_hd : PySem.W.hasDictIn K aNoNumber = true)
    (xNoNumber_ha : PySem.W.findIn K (.ref aNoNumber) "__class__" = some (some (.builtin "object.__class__")))
    (xNoNumber_hn : PySem.W.specialIn K (.builtin "object.__class__") "__get__" = some (some (.builtin "getset_descriptor.__get__")))
    (xNoNumber_ht : PySem.W.takesIn K (.builtin "object.__class__") = some true)
    (xNoNumber_hm : PySem.W.mroIn K aNoNumber (.type "object") = some true)
    (xxNoString : PySem.W.excIn K aNoString [.type "ValueError", .type "Exception", .type "BaseException", .type "object"] "ValueError.__new__" = true)
    (xkNoString : PySem.W.keepIn K (.ref aNoString) = true)
    (xxNoFolding : PySem.W.excIn K aNoFolding [.type "ValueError", .type "Exception", .type "BaseException", .type "object"] "ValueError.__new__" = true)
    (xkNoFolding : PySem.W.keepIn K (.ref aNoFolding) = true)
    (xxNoNumber : PySem.W.excIn K aNoNumber [.type "IndexError", .type "LookupError", .type "Exception", .type "BaseException", .type "object"] "IndexError.__new__" = true)
    (xkNoNumber : PySem.W.keepIn K (.ref aNoNumber) = true)
    (subVS : PySem.W.subIn K (.ref aNoString) (.type "ValueError") = some true)
    (subVF : PySem.W.subIn K (.ref aNoFolding) (.type "ValueError") = some true)
    (subIE : PySem.W.subIn K (.ref aNoNumber) (.type "IndexError") = some true)
    (typFoldError : PySem.W.typeIn K (.ref aFoldError) = some (.type "type"))
    (clsFoldError : PySem.W.isClsIn K aFoldError = true)
    (basFoldError : PySem.W.subIn K (.ref aFoldError) (.type "BaseException") = some true)
    (typNoRules : PySem.W.typeIn K (.ref aNoRules) = some (.type "type"))
    (clsNoRules : PySem.W.isClsIn K aNoRules = true)
    (basNoRules : PySem.W.subIn K (.ref aNoRules) (.type "BaseException") = some true)
    (typNoString : PySem.W.typeIn K (.ref aNoString) = some (.type "type"))
    (clsNoString : PySem.W.isClsIn K aNoString = true)
    (basNoString : PySem.W.subIn K (.ref aNoString) (.type "BaseException") = some true)
    (typNoFolding : PySem.W.typeIn K (.ref aNoFolding) = some (.type "type"))
    (clsNoFolding : PySem.W.isClsIn K aNoFolding = true)
    (basNoFolding : PySem.W.subIn K (.ref aNoFolding) (.type "BaseException") = some true)
    (typNoText : PySem.W.typeIn K (.ref aNoText) = some (.type "type"))
    (clsNoText : PySem.W.isClsIn K aNoText = true)
    (basNoText : PySem.W.subIn K (.ref aNoText) (.type "BaseException") = some true)
    (typNoNumber : PySem.W.typeIn K (.ref aNoNumber) = some (.type "type"))
    (clsNoNumber : PySem.W.isClsIn K aNoNumber = true)
    (basNoNumber : PySem.W.subIn K (.ref aNoNumber) (.type "BaseException") = some true)
    (typNoPlace : PySem.W.typeIn K (.ref aNoPlace) = some (.type "type"))
    (clsNoPlace : PySem.W.isClsIn K aNoPlace = true)
    (basNoPlace : PySem.W.subIn K (.ref aNoPlace) (.type "BaseException") = some true)
    (subNoStringFoldError : PySem.W.subIn K (.ref aNoString) (.ref aFoldError) = some true)
    (neNoStringFoldError : (Value.ref aNoString == Value.ref aFoldError) = false)
    (subNoStringNoRules : PySem.W.subIn K (.ref aNoString) (.ref aNoRules) = some false)
    (neNoStringNoRules : (Value.ref aNoString == Value.ref aNoRules) = false)
    (subNoStringNoString : PySem.W.subIn K (.ref aNoString) (.ref aNoString) = some true)
    (subNoStringNoFolding : PySem.W.subIn K (.ref aNoString) (.ref aNoFolding) = some false)
    (neNoStringNoFolding : (Value.ref aNoString == Value.ref aNoFolding) = false)
    (subNoStringNoText : PySem.W.subIn K (.ref aNoString) (.ref aNoText) = some false)
    (neNoStringNoText : (Value.ref aNoString == Value.ref aNoText) = false)
    (subNoStringNoNumber : PySem.W.subIn K (.ref aNoString) (.ref aNoNumber) = some false)
    (neNoStringNoNumber : (Value.ref aNoString == Value.ref aNoNumber) = false)
    (subNoStringNoPlace : PySem.W.subIn K (.ref aNoString) (.ref aNoPlace) = some false)
    (neNoStringNoPlace : (Value.ref aNoString == Value.ref aNoPlace) = false)
    (subNoFoldingFoldError : PySem.W.subIn K (.ref aNoFolding) (.ref aFoldError) = some true)
    (neNoFoldingFoldError : (Value.ref aNoFolding == Value.ref aFoldError) = false)
    (subNoFoldingNoRules : PySem.W.subIn K (.ref aNoFolding) (.ref aNoRules) = some false)
    (neNoFoldingNoRules : (Value.ref aNoFolding == Value.ref aNoRules) = false)
    (subNoFoldingNoString : PySem.W.subIn K (.ref aNoFolding) (.ref aNoString) = some false)
    (neNoFoldingNoString : (Value.ref aNoFolding == Value.ref aNoString) = false)
    (subNoFoldingNoFolding : PySem.W.subIn K (.ref aNoFolding) (.ref aNoFolding) = some true)
    (subNoFoldingNoText : PySem.W.subIn K (.ref aNoFolding) (.ref aNoText) = some false)
    (neNoFoldingNoText : (Value.ref aNoFolding == Value.ref aNoText) = false)
    (subNoFoldingNoNumber : PySem.W.subIn K (.ref aNoFolding) (.ref aNoNumber) = some false)
    (neNoFoldingNoNumber : (Value.ref aNoFolding == Value.ref aNoNumber) = false)
    (subNoFoldingNoPlace : PySem.W.subIn K (.ref aNoFolding) (.ref aNoPlace) = some false)
    (neNoFoldingNoPlace : (Value.ref aNoFolding == Value.ref aNoPlace) = false)
    (subNoNumberFoldError : PySem.W.subIn K (.ref aNoNumber) (.ref aFoldError) = some false)
    (neNoNumberFoldError : (Value.ref aNoNumber == Value.ref aFoldError) = false)
    (subNoNumberNoRules : PySem.W.subIn K (.ref aNoNumber) (.ref aNoRules) = some false)
    (neNoNumberNoRules : (Value.ref aNoNumber == Value.ref aNoRules) = false)
    (subNoNumberNoString : PySem.W.subIn K (.ref aNoNumber) (.ref aNoString) = some false)
    (neNoNumberNoString : (Value.ref aNoNumber == Value.ref aNoString) = false)
    (subNoNumberNoFolding : PySem.W.subIn K (.ref aNoNumber) (.ref aNoFolding) = some false)
    (neNoNumberNoFolding : (Value.ref aNoNumber == Value.ref aNoFolding) = false)
    (subNoNumberNoText : PySem.W.subIn K (.ref aNoNumber) (.ref aNoText) = some false)
    (neNoNumberNoText : (Value.ref aNoNumber == Value.ref aNoText) = false)
    (subNoNumberNoNumber : PySem.W.subIn K (.ref aNoNumber) (.ref aNoNumber) = some true)
    (subNoNumberNoPlace : PySem.W.subIn K (.ref aNoNumber) (.ref aNoPlace) = some false)
    (neNoNumberNoPlace : (Value.ref aNoNumber == Value.ref aNoPlace) = false)
    (np29_30 : P29 ≠ P30) :
    ∃ (fd : FuncData) (tabs : List (Addr × Addr)) (sp : Sp), (∀ p ∈ tabs, h.get? p.2 = some { cls := .none, data := .fields #[] }) ∧ (∀ p ∈ tabs, K.lookup p.2 = none) ∧ (∀ p ∈ tabs, PySem.W.CodeHd h p.1 p.2) ∧
        (∀ (s : Shared) (u : Value), BindsTo s fd ⟨[u], []⟩ [("_law_script", u)]) ∧
        (∀ (H : Hp) (a : Addr) (ns : List Int), ns.length ≤ 63 → (∀ p ∈ tabs, H p.2 = some (.tbl #[])) → SqL K H a (ns.map V.int) → sp [.ref a] H (fun v _ => v = .bl true) fun _ _ _ => False) ∧
        ∀ base : Heap, K.In base → base.Ns mainGlobals mg → (∀ p ∈ tabs, TabB base mg p.1 p.2) → FnG l.prog w K mg base fa fd ["_law_script"] sp := by
  have e := hfa.symm.trans (PySem.W.mg_of X G a30)
  cases e
  have F0 := fun_mk (st := s_law_start) l0 c0 k0
  have F1 := fun_mk (st := s_law_draw) l1 c1 k1
  have F2 := fun_mk (st := s_law_worth) l2 c2 k2
  have F3 := fun_mk (st := s_law_rules) l3 c3 k3
  have F4 := fun_mk (st := s_law_letters) l4 c4 k4
  have F5 := fun_mk (st := s_law_may) l5 c5 k5
  have F6 := fun_mk (st := s_law_ways) l6 c6 k6
  have F7 := fun_mk (st := s_law_all) l7 c7 k7
  have F8 := fun_mk (st := s_pair_worth) l8 c8 k8
  have F9 := fun_mk (st := s_text_of) l9 c9 k9
  have F10 := fun_mk (st := s_may_pair) l10 c10 k10
  have F11 := fun_mk (st := s_is_string) l11 c11 k11
  have F12 := fun_mk (st := s_need_string) l12 c12 k12
  have F13 := fun_mk (st := s_stretch_counts) l13 c13 k13
  have F14 := fun_mk (st := s_how_many) l14 c14 k14
  have F15 := fun_mk (st := s_is_whole) l15 c15 k15
  have F16 := fun_mk (st := s_is_row) l16 c16 k16
  have F17 := fun_mk (st := s_rises) l17 c17 k17
  have F18 := fun_mk (st := s_is_pair) l18 c18 k18
  have F19 := fun_mk (st := s_go_together) l19 c19 k19
  have F20 := fun_mk (st := s_is_folding) l20 c20 k20
  have F21 := fun_mk (st := s_next_pairs) l21 c21 k21
  have F22 := fun_mk (st := s_many_in) l22 c22 k22
  have F23 := fun_mk (st := s_folding_of) l23 c23 k23
  have F24 := fun_mk (st := s_number_of) l24 c24 k24
  have F25 := fun_mk (st := s_by_worths) l25 c25 k25
  have F26 := fun_mk (st := s_all_foldings) l26 c26 k26
  have F27 := fun_mk (st := s_law_heard) l27 c27 k27
  have F28 := fun_mk (st := s_law_bent) l28 c28 k28
  have F29 := fun_mk (st := s_law_strings_right) l29 c29 k29
  have HT29 := hasTab_at ht29 X (PySem.W.mg_of X G a29) l29 rfl tc29 th29
  have F30 := fun_mk (st := s_law) l30 c30 k30
  have HT30 := hasTab_at ht30 X (PySem.W.mg_of X G a30) l30 rfl tc30 th30
  have mlen := PySem.W.mg_none_of X G z0
  have mabs := PySem.W.mg_none_of X G z1
  have mint := PySem.W.mg_none_of X G z2
  have mtuple := PySem.W.mg_none_of X G z3
  have mrange := PySem.W.mg_none_of X G z4
  have mlist := PySem.W.mg_none_of X G z5
  have msorted := PySem.W.mg_none_of X G z6
  have mrepr := PySem.W.mg_none_of X G z7
  have mmin := PySem.W.mg_none_of X G z8
  have mdict := PySem.W.mg_none_of X G z9
  have misinstance := PySem.W.mg_none_of X G z10
  have mstr := PySem.W.mg_none_of X G z11
  have mall := PySem.W.mg_none_of X G z12
  have msum := PySem.W.mg_none_of X G z13
  have mzip := PySem.W.mg_none_of X G z14
  have mbool := PySem.W.mg_none_of X G z15
  have menumerate := PySem.W.mg_none_of X G z16
  have mValueError := PySem.W.mg_none_of X G z17
  have mIndexError := PySem.W.mg_none_of X G z18
  have gMOST_PLACES := PySem.W.mg_of X G aI0
  have gFoldError := PySem.W.mg_of X G aCFoldError
  have gNoRules := PySem.W.mg_of X G aCNoRules
  have gNoString := PySem.W.mg_of X G aCNoString
  have gNoFolding := PySem.W.mg_of X G aCNoFolding
  have gNoText := PySem.W.mg_of X G aCNoText
  have gNoNumber := PySem.W.mg_of X G aCNoNumber
  have gNoPlace := PySem.W.mg_of X G aCNoPlace
  have hCNoString : ExcC K aNoString := ⟨xNoString_hg, xNoString_hk, xNoString_hs, xNoString_hd, xNoString_ha, xNoString_hn, xNoString_ht, xNoString_hm⟩
  have hCNoFolding : ExcC K aNoFolding := ⟨xNoFolding_hg, xNoFolding_hk, xNoFolding_hs, xNoFolding_hd, xNoFolding_ha, xNoFolding_hn, xNoFolding_ht, xNoFolding_hm⟩
  have hCNoNumber : ExcC K aNoNumber := ⟨xNoNumber_hg, xNoNumber_hk, xNoNumber_hs, xNoNumber_hd, xNoNumber_ha, xNoNumber_hn, xNoNumber_ht, xNoNumber_hm⟩
  have kcNoStringFoldError := under_cls typFoldError clsFoldError subNoStringFoldError
  have kkNoStringFoldError := under_one kcNoStringFoldError neNoStringFoldError
  have keNoStringFoldError := meets_one basFoldError kcNoStringFoldError
  have kcNoStringNoRules := under_cls typNoRules clsNoRules subNoStringNoRules
  have kkNoStringNoRules := under_one kcNoStringNoRules neNoStringNoRules
  have keNoStringNoRules := meets_one basNoRules kcNoStringNoRules
  have kcNoStringNoString := under_cls typNoString clsNoString subNoStringNoString
  have kkNoStringNoString := under_self (K := K) (C := aNoString)
  have keNoStringNoString := meets_one basNoString kcNoStringNoString
  have kcNoStringNoFolding := under_cls typNoFolding clsNoFolding subNoStringNoFolding
  have kkNoStringNoFolding := under_one kcNoStringNoFolding neNoStringNoFolding
  have keNoStringNoFolding := meets_one basNoFolding kcNoStringNoFolding
  have kcNoStringNoText := under_cls typNoText clsNoText subNoStringNoText
  have kkNoStringNoText := under_one kcNoStringNoText neNoStringNoText
  have keNoStringNoText := meets_one basNoText kcNoStringNoText
  have kcNoStringNoNumber := under_cls typNoNumber clsNoNumber subNoStringNoNumber
  have kkNoStringNoNumber := under_one kcNoStringNoNumber neNoStringNoNumber
  have keNoStringNoNumber := meets_one basNoNumber kcNoStringNoNumber
  have kcNoStringNoPlace := under_cls typNoPlace clsNoPlace subNoStringNoPlace
  have kkNoStringNoPlace := under_one kcNoStringNoPlace neNoStringNoPlace
  have keNoStringNoPlace := meets_one basNoPlace kcNoStringNoPlace
  have kcNoFoldingFoldError := under_cls typFoldError clsFoldError subNoFoldingFoldError
  have kkNoFoldingFoldError := under_one kcNoFoldingFoldError neNoFoldingFoldError
  have keNoFoldingFoldError := meets_one basFoldError kcNoFoldingFoldError
  have kcNoFoldingNoRules := under_cls typNoRules clsNoRules subNoFoldingNoRules
  have kkNoFoldingNoRules := under_one kcNoFoldingNoRules neNoFoldingNoRules
  have keNoFoldingNoRules := meets_one basNoRules kcNoFoldingNoRules
  have kcNoFoldingNoString := under_cls typNoString clsNoString subNoFoldingNoString
  have kkNoFoldingNoString := under_one kcNoFoldingNoString neNoFoldingNoString
  have keNoFoldingNoString := meets_one basNoString kcNoFoldingNoString
  have kcNoFoldingNoFolding := under_cls typNoFolding clsNoFolding subNoFoldingNoFolding
  have kkNoFoldingNoFolding := under_self (K := K) (C := aNoFolding)
  have keNoFoldingNoFolding := meets_one basNoFolding kcNoFoldingNoFolding
  have kcNoFoldingNoText := under_cls typNoText clsNoText subNoFoldingNoText
  have kkNoFoldingNoText := under_one kcNoFoldingNoText neNoFoldingNoText
  have keNoFoldingNoText := meets_one basNoText kcNoFoldingNoText
  have kcNoFoldingNoNumber := under_cls typNoNumber clsNoNumber subNoFoldingNoNumber
  have kkNoFoldingNoNumber := under_one kcNoFoldingNoNumber neNoFoldingNoNumber
  have keNoFoldingNoNumber := meets_one basNoNumber kcNoFoldingNoNumber
  have kcNoFoldingNoPlace := under_cls typNoPlace clsNoPlace subNoFoldingNoPlace
  have kkNoFoldingNoPlace := under_one kcNoFoldingNoPlace neNoFoldingNoPlace
  have keNoFoldingNoPlace := meets_one basNoPlace kcNoFoldingNoPlace
  have kcNoNumberFoldError := under_cls typFoldError clsFoldError subNoNumberFoldError
  have kkNoNumberFoldError := under_one kcNoNumberFoldError neNoNumberFoldError
  have keNoNumberFoldError := meets_one basFoldError kcNoNumberFoldError
  have kcNoNumberNoRules := under_cls typNoRules clsNoRules subNoNumberNoRules
  have kkNoNumberNoRules := under_one kcNoNumberNoRules neNoNumberNoRules
  have keNoNumberNoRules := meets_one basNoRules kcNoNumberNoRules
  have kcNoNumberNoString := under_cls typNoString clsNoString subNoNumberNoString
  have kkNoNumberNoString := under_one kcNoNumberNoString neNoNumberNoString
  have keNoNumberNoString := meets_one basNoString kcNoNumberNoString
  have kcNoNumberNoFolding := under_cls typNoFolding clsNoFolding subNoNumberNoFolding
  have kkNoNumberNoFolding := under_one kcNoNumberNoFolding neNoNumberNoFolding
  have keNoNumberNoFolding := meets_one basNoFolding kcNoNumberNoFolding
  have kcNoNumberNoText := under_cls typNoText clsNoText subNoNumberNoText
  have kkNoNumberNoText := under_one kcNoNumberNoText neNoNumberNoText
  have keNoNumberNoText := meets_one basNoText kcNoNumberNoText
  have kcNoNumberNoNumber := under_cls typNoNumber clsNoNumber subNoNumberNoNumber
  have kkNoNumberNoNumber := under_self (K := K) (C := aNoNumber)
  have keNoNumberNoNumber := meets_one basNoNumber kcNoNumberNoNumber
  have kcNoNumberNoPlace := under_cls typNoPlace clsNoPlace subNoNumberNoPlace
  have kkNoNumberNoPlace := under_one kcNoNumberNoPlace neNoNumberNoPlace
  have keNoNumberNoPlace := meets_one basNoPlace kcNoNumberNoPlace
  have e1 := meets_more keNoStringFoldError (meets_more keNoStringNoNumber (meets_more (r := []) keNoStringNoPlace rfl))
  have e2 := meets_more keNoFoldingFoldError (meets_more keNoFoldingNoNumber (meets_more (r := []) keNoFoldingNoPlace rfl))
  have e3 := meets_more keNoNumberFoldError (meets_more keNoNumberNoNumber (meets_more (r := []) keNoNumberNoPlace rfl))
  have t1 := any_no kkNoStringNoPlace (any_no kkNoStringNoRules (any_no (r := []) kkNoStringNoText rfl))
  have t2 := any_no kkNoFoldingNoPlace (any_no kkNoFoldingNoRules (any_no (r := []) kkNoFoldingNoText rfl))
  have t3 := any_no kkNoNumberFoldError (any_no (r := []) kkNoNumberNoPlace rfl)
  refine ⟨PySem.W.fnOf "law" "law" (defArgs s_law) (defBody s_law) (defScope s_law) .none kV30 dc30 pm30 an30 (.ref cc30) ct30, [(cc29, P29), (cc30, P30)], spLaw K [(P29, ("_law_strings_right" : Str) ++ ".<locals>." ++ "<lambda>"), (P30, ("law" : Str) ++ ".<locals>." ++ "<lambda>")], ?_, ?_, ?_, fun s v => .of_eq rfl, ?_, fun base _ _ TBs => ?_⟩
  · exact fun p hp => by
      simp only [List.mem_cons, List.not_mem_nil, or_false] at hp
      rcases hp with rfl | rfl
      · exact HT29.2
      · exact HT30.2
  · exact fun p hp => by
      simp only [List.mem_cons, List.not_mem_nil, or_false] at hp
      rcases hp with rfl | rfl
      · exact nk29
      · exact nk30
  · exact fun p hp => by
      simp only [List.mem_cons, List.not_mem_nil, or_false] at hp
      rcases hp with rfl | rfl
      · exact HT29.1
      · exact HT30.1
  · refine fun H a ns hn hH hS => ⟨a, ns, rfl, hS, hn, ?_, fun _ => rfl⟩
    exact fun p hp => by
      simp only [List.mem_cons, List.not_mem_nil, or_false] at hp
      rcases hp with rfl | rfl
      · exact TabS.nil (hH (cc29, P29) (by simp))
      · exact TabS.nil (hH (cc30, P30) (by simp))
  have TB29 : TabB base mg cc29 P29 := TBs (cc29, P29) (by simp)
  have mT29 : (P29, ("_law_strings_right" : Str) ++ ".<locals>." ++ "<lambda>") ∈ [(P29, ("_law_strings_right" : Str) ++ ".<locals>." ++ "<lambda>"), (P30, ("law" : Str) ++ ".<locals>." ++ "<lambda>")] := by simp
  have uT29 : ∀ p ∈ [(P29, ("_law_strings_right" : Str) ++ ".<locals>." ++ "<lambda>"), (P30, ("law" : Str) ++ ".<locals>." ++ "<lambda>")], p.1 = P29 → p.2 = ("_law_strings_right" : Str) ++ ".<locals>." ++ "<lambda>" := by
    intro p hp e
    simp only [List.mem_cons, List.not_mem_nil, or_false] at hp
    rcases hp with rfl | rfl
    · rfl
    · exact absurd e (Ne.symm np29_30)
  have TB30 : TabB base mg cc30 P30 := TBs (cc30, P30) (by simp)
  have mT30 : (P30, ("law" : Str) ++ ".<locals>." ++ "<lambda>") ∈ [(P29, ("_law_strings_right" : Str) ++ ".<locals>." ++ "<lambda>"), (P30, ("law" : Str) ++ ".<locals>." ++ "<lambda>")] := by simp
  have uT30 : ∀ p ∈ [(P29, ("_law_strings_right" : Str) ++ ".<locals>." ++ "<lambda>"), (P30, ("law" : Str) ++ ".<locals>." ++ "<lambda>")], p.1 = P30 → p.2 = ("law" : Str) ++ ".<locals>." ++ "<lambda>" := by
    intro p hp e
    simp only [List.mem_cons, List.not_mem_nil, or_false] at hp
    rcases hp with rfl | rfl
    · exact absurd e np29_30
    · rfl
  have c_law_start : Ca l.prog w K mg base 1 "_law_start" ["_law_script"] (spStart K) := ⟨f0, _, ok_start F0 mlist, PySem.W.mg_of X G a0, F0.kp, F0.binds fun _ _ _ _ _ _ us hl => match us, hl with | [_], _ => rfl⟩
  have c_law_draw : Ca l.prog w K mg base 1 "_law_draw" ["_law_pen", "_law_many"] spDraw := ⟨f1, _, ok_draw F1 mlen mabs, PySem.W.mg_of X G a1, F1.kp, F1.binds fun _ _ _ _ _ _ us hl => match us, hl with | [_, _], _ => rfl⟩
  have c_law_worth : Ca l.prog w K mg base 2 "_law_worth" ["_law_pen"] spWorth := ⟨f2, _, ok_worth F2 c_law_draw, PySem.W.mg_of X G a2, F2.kp, F2.binds fun _ _ _ _ _ _ us hl => match us, hl with | [_], _ => rfl⟩
  have c_law_rules : Ca l.prog w K mg base 3 "_law_rules" ["_law_pen"] spRules := ⟨f3, _, ok_rules F3 c_law_draw c_law_worth mlen mint mtuple mrange msorted, PySem.W.mg_of X G a3, F3.kp, F3.binds fun _ _ _ _ _ _ us hl => match us, hl with | [_], _ => rfl⟩
  have c_law_letters : Ca l.prog w K mg base 2 "_law_letters" ["_law_pen", "_law_book", "_law_most"] spLetters := ⟨f4, _, ok_letters F4 c_law_draw mrange mlen mmin, PySem.W.mg_of X G a4, F4.kp, F4.binds fun _ _ _ _ _ _ us hl => match us, hl with | [_, _, _], _ => rfl⟩
  have c_law_may : Ca l.prog w K mg base 1 "_law_may" ["_law_book", "_law_word", "_law_i", "_law_j"] spMay := ⟨f5, _, ok_may F5 mdict, PySem.W.mg_of X G a5, F5.kp, F5.binds fun _ _ _ _ _ _ us hl => match us, hl with | [_, _, _, _], _ => rfl⟩
  have c_law_ways : Ca l.prog w K mg base 15 "_law_ways" ["_law_book", "_law_word", "_law_first", "_law_end"] (spWays 13) := ⟨f6, _, ok_ways F6 (F6.binds fun _ _ _ _ _ _ us hl => match us, hl with | [_, _, _, _], _ => rfl) (PySem.W.mg_of X G a6) c_law_may mrange 13, PySem.W.mg_of X G a6, F6.kp, F6.binds fun _ _ _ _ _ _ us hl => match us, hl with | [_, _, _, _], _ => rfl⟩
  have c_law_all : Ca l.prog w K mg base 16 "_law_all" ["_law_book", "_law_word"] spAllL := ⟨f7, _, ok_allL F7 c_law_ways msorted mlen, PySem.W.mg_of X G a7, F7.kp, F7.binds fun _ _ _ _ _ _ us hl => match us, hl with | [_, _], _ => rfl⟩
  have cpair_worth : Ca l.prog w K mg base 1 "pair_worth" ["rules", "both"] spPW := ⟨f8, _, ok_pw F8, PySem.W.mg_of X G a8, F8.kp, F8.binds fun _ _ _ _ _ _ us hl => match us, hl with | [_, _], _ => rfl⟩
  have ctext_of : Ca l.prog w K mg base 1 "text_of" ["string", "pair"] spTextOf := ⟨f9, _, ok_text_of F9, PySem.W.mg_of X G a9, F9.kp, F9.binds fun _ _ _ _ _ _ us hl => match us, hl with | [_, _], _ => rfl⟩
  have cmay_pair : Ca l.prog w K mg base 2 "may_pair" ["rules", "string", "i", "j"] spMP := ⟨f10, _, ok_mp F10 ctext_of cpair_worth mlen, PySem.W.mg_of X G a10, F10.kp, F10.binds fun _ _ _ _ _ _ us hl => match us, hl with | [_, _, _, _], _ => rfl⟩
  have cmay_pairS : CMPS l.prog w K mg base := ⟨f10, _, ok_mpS F10 ctext_of cpair_worth mlen, PySem.W.mg_of X G a10, F10.kp, F10.binds fun _ _ _ _ _ _ us hl => match us, hl with | [_, _, _, _], _ => rfl⟩
  have cis_string : Ca l.prog w K mg base 1 "is_string" ["rules", "thing"] spIS := ⟨f11, _, ok_is F11 gMOST_PLACES misinstance mstr mlen mall, PySem.W.mg_of X G a11, F11.kp, F11.binds fun _ _ _ _ _ _ us hl => match us, hl with | [_, _], _ => rfl⟩
  have cis_stringZ : CISx l.prog w K mg base := ⟨f11, _, ok_isx F11 gMOST_PLACES misinstance mstr mlen mall, PySem.W.mg_of X G a11, F11.kp, F11.binds fun _ _ _ _ _ _ us hl => match us, hl with | [_, _], _ => rfl⟩
  have cneed_string : Ca l.prog w K mg base 2 "need_string" ["rules", "thing"] spNS := ⟨f12, _, ok_ns F12 cis_string, PySem.W.mg_of X G a12, F12.kp, F12.binds fun _ _ _ _ _ _ us hl => match us, hl with | [_, _], _ => rfl⟩
  have cneed_stringX : CNSx l.prog w K mg base aNoString := ⟨f12, _, ok_nsx F12 cis_stringZ gNoString xxNoString xkNoString basNoString typNoString, PySem.W.mg_of X G a12, F12.kp, F12.binds fun _ _ _ _ _ _ us hl => match us, hl with | [_, _], _ => rfl⟩
  have cstretch_counts : Ca l.prog w K mg base 3 "stretch_counts" ["rules", "string"] spCnt := ⟨f13, _, ok_cnt F13 cmay_pair mlen mrange msum, PySem.W.mg_of X G a13, F13.kp, F13.binds fun _ _ _ _ _ _ us hl => match us, hl with | [_, _], _ => rfl⟩
  have chow_many : Ca l.prog w K mg base 4 "how_many" ["rules", "string"] spMany := ⟨f14, _, ok_many F14 cneed_string cstretch_counts mlen, PySem.W.mg_of X G a14, F14.kp, F14.binds fun _ _ _ _ _ _ us hl => match us, hl with | [_, _], _ => rfl⟩
  have chow_manyX : CHMx l.prog w K mg base aNoString := ⟨f14, _, ok_hmx F14 cneed_stringX, PySem.W.mg_of X G a14, F14.kp, F14.binds fun _ _ _ _ _ _ us hl => match us, hl with | [_, _], _ => rfl⟩
  have cis_whole : Ca l.prog w K mg base 1 "is_whole" ["thing"] spWhI := ⟨f15, _, ok_whI F15 misinstance mint mbool, PySem.W.mg_of X G a15, F15.kp, F15.binds fun _ _ _ _ _ _ us hl => match us, hl with | [_], _ => rfl⟩
  have cis_wholeS : CWhS l.prog w K mg base := ⟨f15, _, ok_whS F15 misinstance mint mbool, PySem.W.mg_of X G a15, F15.kp, F15.binds fun _ _ _ _ _ _ us hl => match us, hl with | [_], _ => rfl⟩
  have cis_row : Ca l.prog w K mg base 1 "is_row" ["thing", "size"] spRow2 := ⟨f16, _, ok_row2 F16 misinstance mtuple mlen, PySem.W.mg_of X G a16, F16.kp, F16.binds fun _ _ _ _ _ _ us hl => match us, hl with | [_, _], _ => rfl⟩
  have cis_rowS : CRowS l.prog w K mg base := ⟨f16, _, ok_rowS F16 misinstance mtuple mlen, PySem.W.mg_of X G a16, F16.kp, F16.binds fun _ _ _ _ _ _ us hl => match us, hl with | [_, _], _ => rfl⟩
  have crises : Ca l.prog w K mg base 1 "rises" ["things"] spRi := ⟨f17, _, ok_ri F17 mall mzip, PySem.W.mg_of X G a17, F17.kp, F17.binds fun _ _ _ _ _ _ us hl => match us, hl with | [_], _ => rfl⟩
  have cis_pair : Ca l.prog w K mg base 3 "is_pair" ["rules", "string", "thing"] spIP := ⟨f18, _, ok_ip F18 cis_row cis_whole cmay_pair, PySem.W.mg_of X G a18, F18.kp, F18.binds fun _ _ _ _ _ _ us hl => match us, hl with | [_, _, _], _ => rfl⟩
  have cis_pairS : CIPS l.prog w K mg base := ⟨f18, _, ok_ipS F18 cis_rowS cis_wholeS cmay_pairS, PySem.W.mg_of X G a18, F18.kp, F18.binds fun _ _ _ _ _ _ us hl => match us, hl with | [_, _, _], _ => rfl⟩
  have cgo_together : Ca l.prog w K mg base 1 "go_together" ["pair", "later"] spGT := ⟨f19, _, ok_gt F19, PySem.W.mg_of X G a19, F19.kp, F19.binds fun _ _ _ _ _ _ us hl => match us, hl with | [_, _], _ => rfl⟩
  have cis_folding : Ca l.prog w K mg base 4 "is_folding" ["rules", "string", "thing"] spIF := ⟨f20, _, ok_if F20 cis_pair cgo_together crises misinstance mtuple mall menumerate, PySem.W.mg_of X G a20, F20.kp, F20.binds fun _ _ _ _ _ _ us hl => match us, hl with | [_, _, _], _ => rfl⟩
  have cis_foldingS : CIFS l.prog w K mg base := ⟨f20, _, ok_ifS F20 cis_pairS cgo_together crises misinstance mtuple mall menumerate, PySem.W.mg_of X G a20, F20.kp, F20.binds fun _ _ _ _ _ _ us hl => match us, hl with | [_, _, _], _ => rfl⟩
  have cnext_pairs : Ca l.prog w K mg base 3 "next_pairs" ["rules", "string", "stretches"] spNP := ⟨f21, _, ok_np F21 cmay_pair mrange menumerate, PySem.W.mg_of X G a21, F21.kp, F21.binds fun _ _ _ _ _ _ us hl => match us, hl with | [_, _, _], _ => rfl⟩
  have cmany_in : Ca l.prog w K mg base 1 "many_in" ["counts", "stretches"] spMI := ⟨f22, _, ok_mi F22, PySem.W.mg_of X G a22, F22.kp, F22.binds fun _ _ _ _ _ _ us hl => match us, hl with | [_, _], _ => rfl⟩
  have cfolding_of : Ca l.prog w K mg base 4 "folding_of" ["rules", "string", "number"] spFO := ⟨f23, _, ok_fo F23 cneed_string cstretch_counts cis_whole cmany_in cnext_pairs mlen, PySem.W.mg_of X G a23, F23.kp, F23.binds fun _ _ _ _ _ _ us hl => match us, hl with | [_, _, _], _ => rfl⟩
  have cfolding_ofX : CFOx l.prog w K mg base aNoString aNoNumber := ⟨f23, _, (FnOk.orX (ok_fo F23 cneed_string cstretch_counts cis_whole cmany_in cnext_pairs mlen) (ok_fox F23 cneed_stringX cstretch_counts cis_wholeS cmany_in mlen gNoNumber xxNoNumber xkNoNumber basNoNumber typNoNumber)).mono (by decide), PySem.W.mg_of X G a23, F23.kp, F23.binds fun _ _ _ _ _ _ us hl => match us, hl with | [_, _, _], _ => rfl⟩
  have cnumber_of : Ca l.prog w K mg base 5 "number_of" ["rules", "string", "folding"] spNO := ⟨f24, _, ok_no F24 cneed_string cis_folding cstretch_counts cmany_in cnext_pairs mlen, PySem.W.mg_of X G a24, F24.kp, F24.binds fun _ _ _ _ _ _ us hl => match us, hl with | [_, _, _], _ => rfl⟩
  have cnumber_ofX : CNOx l.prog w K mg base aNoString aNoFolding := ⟨f24, _, FnOk.orX (ok_no F24 cneed_string cis_folding cstretch_counts cmany_in cnext_pairs mlen) (ok_nox F24 cneed_stringX cis_foldingS gNoFolding xxNoFolding xkNoFolding basNoFolding typNoFolding), PySem.W.mg_of X G a24, F24.kp, F24.binds fun _ _ _ _ _ _ us hl => match us, hl with | [_, _, _], _ => rfl⟩
  have cby_worthsX : CBWx l.prog w K mg base aNoString := ⟨f25, _, ok_bwx F25 cneed_stringX, PySem.W.mg_of X G a25, F25.kp, F25.binds fun _ _ _ _ _ _ us hl => match us, hl with | [_, _], _ => rfl⟩
  have call_foldingsX : CAFx l.prog w K mg base aNoString := ⟨f26, _, ok_afx F26 cneed_stringX, PySem.W.mg_of X G a26, F26.kp, F26.binds fun _ _ _ _ _ _ us hl => match us, hl with | [_, _], _ => rfl⟩
  have c_law_heardL := cal_heard (P := l.prog) (w := w) (base := base) F27 (PySem.W.mg_of X G a27) (F27.binds fun _ _ _ _ _ _ us hl => match us, hl with | [_], _ => rfl) misinstance mValueError mIndexError mint gNoString gFoldError gNoFolding gNoRules gNoText gNoNumber gNoPlace e1 e2 e3 hCNoString hCNoFolding hCNoNumber kkNoStringNoNumber kkNoFoldingNoNumber kkNoNumberNoNumber (under_ty (by decide +kernel) subIE) t3 t1 t2 (under_ty (by decide +kernel) subVS) (under_ty (by decide +kernel) subVF) kkNoStringNoString kkNoFoldingNoString kkNoStringNoFolding kkNoFoldingNoFolding
  have c_law_bent : Ca l.prog w K mg base 3 "_law_bent" ["_law_pen", "_law_shape"] spBent := ⟨f28, _, ok_bent F28 c_law_draw mlen mlist mstr, PySem.W.mg_of X G a28, F28.kp, F28.binds fun _ _ _ _ _ _ us hl => match us, hl with | [_, _], _ => rfl⟩
  have c_law_strings_right : CSR l.prog w K mg base [(P29, ("_law_strings_right" : Str) ++ ".<locals>." ++ "<lambda>"), (P30, ("law" : Str) ++ ".<locals>." ++ "<lambda>")] := ⟨f29, _, ok_sr F29 rfl TB29 mT29 uT29 c_law_heardL chow_manyX cby_worthsX call_foldingsX cfolding_ofX cnumber_ofX, PySem.W.mg_of X G a29, F29.kp, F29.binds fun _ _ _ _ _ _ us hl => match us, hl with | [_, _], _ => rfl⟩
  exact ok_law F30 rfl TB30 mT30 uT30 ⟨rfl, by decide, by decide⟩ c_law_start c_law_draw c_law_rules c_law_letters c_law_all c_law_strings_right c_law_bent c_law_heardL cfolding_ofX cnumber_ofX mrange mlen mrepr mint
end Pf
open PySem PySem.W PyProof.Rows
set_option maxHeartbeats 0 in
theorem PySem.Challenge.cw_pairfolds_k26_what_has_no_number_holds : PySem.Challenge.rw_pairfolds_k26_what_has_no_number.Holds := by
  w_on; o_law; k_head; (case hw => w_witness2)
  k_fill
  refine Pf.walk_gT (l := PySem.Challenge.rw_pairfolds_k26_what_has_no_number) (n := 63) (x := "_law_script") ["_law_strings_right", "law"] rfl (by decide) rfl (by decide +kernel) (fun w h Y => PySem.W.km_in_of Y) ?F
  case F =>
    intro w mg fa h KX G hmg HTs
    refine' Pf.all_mk KX G hmg ?a0 ?l0 ?c0 ?k0 ?a1 ?l1 ?c1 ?k1 ?a2 ?l2 ?c2 ?k2 ?a3 ?l3 ?c3 ?k3 ?a4 ?l4 ?c4 ?k4 ?a5 ?l5 ?c5 ?k5 ?a6 ?l6 ?c6 ?k6 ?a7 ?l7 ?c7 ?k7 ?a8 ?l8 ?c8 ?k8 ?a9 ?l9 ?c9 ?k9 ?a10 ?l10 ?c10 ?k10 ?a11 ?l11 ?c11 ?k11 ?a12 ?l12 ?c12 ?k12 ?a13 ?l13 ?c13 ?k13 ?a14 ?l14 ?c14 ?k14 ?a15 ?l15 ?c15 ?k15 ?a16 ?l16 ?c16 ?k16 ?a17 ?l17 ?c17 ?k17 ?a18 ?l18 ?c18 ?k18 ?a19 ?l19 ?c19 ?k19 ?a20 ?l20 ?c20 ?k20 ?a21 ?l21 ?c21 ?k21 ?a22 ?l22 ?c22 ?k22 ?a23 ?l23 ?c23 ?k23 ?a24 ?l24 ?c24 ?k24 ?a25 ?l25 ?c25 ?k25 ?a26 ?l26 ?c26 ?k26 ?a27 ?l27 ?c27 ?k27 ?a28 ?l28 ?c28 ?k28 ?a29 ?l29 ?c29 ?k29 ?tc29 ?th29 ?nk29 ?ht29 ?a30 ?l30 ?c30 ?k30 ?tc30 ?th30 ?nk30 ?ht30 ?z0 ?z1 ?z2 ?z3 ?z4 ?z5 ?z6 ?z7 ?z8 ?z9 ?z10 ?z11 ?z12 ?z13 ?z14 ?z15 ?z16 ?z17 ?z18 ?aI0 ?aCFoldError ?aCNoRules ?aCNoString ?aCNoFolding ?aCNoText ?aCNoNumber ?aCNoPlace ?xNoString_hg ?xNoString_hk ?xNoString_hs ?xNoString_hd ?xNoString_ha ?xNoString_hn ?xNoString_ht ?xNoString_hm ?xNoFolding_hg ?xNoFolding_hk ?xNoFolding_hs ?xNoFolding_hd ?xNoFolding_ha ?xNoFolding_hn ?xNoFolding_ht ?xNoFolding_hm ?xNoNumber_hg ?xNoNumber_hk ?xNoNumber_hs ?xNoNumber_hd ?xNoNumber_ha ?xNoNumber_hn ?xNoNumber_ht ?xNoNumber_hm ?xxNoString ?xkNoString ?xxNoFolding ?xkNoFolding ?xxNoNumber ?xkNoNumber ?subVS ?subVF ?subIE ?typFoldError ?clsFoldError ?basFoldError ?typNoRules ?clsNoRules ?basNoRules ?typNoString ?clsNoString ?basNoString ?typNoFolding ?clsNoFolding ?basNoFolding ?typNoText ?clsNoText ?basNoText ?typNoNumber ?clsNoNumber ?basNoNumber ?typNoPlace ?clsNoPlace ?basNoPlace ?subNoStringFoldError ?neNoStringFoldError ?subNoStringNoRules ?neNoStringNoRules ?subNoStringNoString ?subNoStringNoFolding ?neNoStringNoFolding ?subNoStringNoText ?neNoStringNoText ?subNoStringNoNumber ?neNoStringNoNumber ?subNoStringNoPlace ?neNoStringNoPlace ?subNoFoldingFoldError ?neNoFoldingFoldError ?subNoFoldingNoRules ?neNoFoldingNoRules ?subNoFoldingNoString ?neNoFoldingNoString ?subNoFoldingNoFolding ?subNoFoldingNoText ?neNoFoldingNoText ?subNoFoldingNoNumber ?neNoFoldingNoNumber ?subNoFoldingNoPlace ?neNoFoldingNoPlace ?subNoNumberFoldError ?neNoNumberFoldError ?subNoNumberNoRules ?neNoNumberNoRules ?subNoNumberNoString ?neNoNumberNoString ?subNoNumberNoFolding ?neNoNumberNoFolding ?subNoNumberNoText ?neNoNumberNoText ?subNoNumberNoNumber ?subNoNumberNoPlace ?neNoNumberNoPlace ?np29_30
    (case a0 => k_is); (case l0 => k_is); (case c0 => k_is); (case k0 => k_is); (case a1 => k_is); (case l1 => k_is); (case c1 => k_is); (case k1 => k_is); (case a2 => k_is); (case l2 => k_is); (case c2 => k_is); (case k2 => k_is); (case a3 => k_is); (case l3 => k_is); (case c3 => k_is); (case k3 => k_is); (case a4 => k_is); (case l4 => k_is); (case c4 => k_is); (case k4 => k_is); (case a5 => k_is); (case l5 => k_is); (case c5 => k_is); (case k5 => k_is); (case a6 => k_is); (case l6 => k_is); (case c6 => k_is); (case k6 => k_is); (case a7 => k_is); (case l7 => k_is); (case c7 => k_is); (case k7 => k_is); (case a8 => k_is); (case l8 => k_is); (case c8 => k_is); (case k8 => k_is); (case a9 => k_is); (case l9 => k_is); (case c9 => k_is); (case k9 => k_is); (case a10 => k_is); (case l10 => k_is); (case c10 => k_is); (case k10 => k_is); (case a11 => k_is); (case l11 => k_is); (case c11 => k_is); (case k11 => k_is); (case a12 => k_is); (case l12 => k_is); (case c12 => k_is); (case k12 => k_is); (case a13 => k_is); (case l13 => k_is); (case c13 => k_is); (case k13 => k_is); (case a14 => k_is); (case l14 => k_is); (case c14 => k_is); (case k14 => k_is); (case a15 => k_is); (case l15 => k_is); (case c15 => k_is); (case k15 => k_is); (case a16 => k_is); (case l16 => k_is); (case c16 => k_is); (case k16 => k_is); (case a17 => k_is); (case l17 => k_is); (case c17 => k_is); (case k17 => k_is); (case a18 => k_is); (case l18 => k_is); (case c18 => k_is); (case k18 => k_is); (case a19 => k_is); (case l19 => k_is); (case c19 => k_is); (case k19 => k_is); (case a20 => k_is); (case l20 => k_is); (case c20 => k_is); (case k20 => k_is); (case a21 => k_is); (case l21 => k_is); (case c21 => k_is); (case k21 => k_is); (case a22 => k_is); (case l22 => k_is); (case c22 => k_is); (case k22 => k_is); (case a23 => k_is); (case l23 => k_is); (case c23 => k_is); (case k23 => k_is); (case a24 => k_is); (case l24 => k_is); (case c24 => k_is); (case k24 => k_is); (case a25 => k_is); (case l25 => k_is); (case c25 => k_is); (case k25 => k_is); (case a26 => k_is); (case l26 => k_is); (case c26 => k_is); (case k26 => k_is); (case a27 => k_is); (case l27 => k_is); (case c27 => k_is); (case k27 => k_is); (case a28 => k_is); (case l28 => k_is); (case c28 => k_is); (case k28 => k_is); (case a29 => k_is); (case l29 => k_is); (case c29 => k_is); (case k29 => k_is); (case tc29 => k_is); (case th29 => rfl); (case nk29 => kernel_rfl); (case ht29 => exact HTs _ (by simp)); (case a30 => k_is); (case l30 => k_is); (case c30 => k_is); (case k30 => k_is); (case tc30 => k_is); (case th30 => rfl); (case nk30 => kernel_rfl); (case ht30 => exact HTs _ (by simp)); (case z0 => k_is); (case z1 => k_is); (case z2 => k_is); (case z3 => k_is); (case z4 => k_is); (case z5 => k_is); (case z6 => k_is); (case z7 => k_is); (case z8 => k_is); (case z9 => k_is); (case z10 => k_is); (case z11 => k_is); (case z12 => k_is); (case z13 => k_is); (case z14 => k_is); (case z15 => k_is); (case z16 => k_is); (case z17 => k_is); (case z18 => k_is); (case aI0 => k_is); (case aCFoldError => k_is); (case aCNoRules => k_is); (case aCNoString => k_is); (case aCNoFolding => k_is); (case aCNoText => k_is); (case aCNoNumber => k_is); (case aCNoPlace => k_is); (case xNoString_hg => k_is); (case xNoString_hk => k_is); (case xNoString_hs => k_is); (case xNoString_hd => k_is); (case xNoString_ha => k_is); (case xNoString_hn => k_is); (case xNoString_ht => k_is); (case xNoString_hm => k_is); (case xNoFolding_hg => k_is); (case xNoFolding_hk => k_is); (case xNoFolding_hs => k_is); (case xNoFolding_hd => k_is); (case xNoFolding_ha => k_is); (case xNoFolding_hn => k_is); (case xNoFolding_ht => k_is); (case xNoFolding_hm => k_is); (case xNoNumber_hg => k_is); (case xNoNumber_hk => k_is); (case xNoNumber_hs => k_is); (case xNoNumber_hd => k_is); (case xNoNumber_ha => k_is); (case xNoNumber_hn => k_is); (case xNoNumber_ht => k_is); (case xNoNumber_hm => k_is); (case xxNoString => k_exc); (case xkNoString => k_is); (case xxNoFolding => k_exc); (case xkNoFolding => k_is); (case xxNoNumber => k_exc); (case xkNoNumber => k_is); (case subVS => k_is); (case subVF => k_is); (case subIE => k_is); (case typFoldError => k_is); (case clsFoldError => k_is); (case basFoldError => k_is); (case typNoRules => k_is); (case clsNoRules => k_is); (case basNoRules => k_is); (case typNoString => k_is); (case clsNoString => k_is); (case basNoString => k_is); (case typNoFolding => k_is); (case clsNoFolding => k_is); (case basNoFolding => k_is); (case typNoText => k_is); (case clsNoText => k_is); (case basNoText => k_is); (case typNoNumber => k_is); (case clsNoNumber => k_is); (case basNoNumber => k_is); (case typNoPlace => k_is); (case clsNoPlace => k_is); (case basNoPlace => k_is); (case subNoStringFoldError => k_is); (case neNoStringFoldError => rfl); (case subNoStringNoRules => k_is); (case neNoStringNoRules => rfl); (case subNoStringNoString => k_is); (case subNoStringNoFolding => k_is); (case neNoStringNoFolding => rfl); (case subNoStringNoText => k_is); (case neNoStringNoText => rfl); (case subNoStringNoNumber => k_is); (case neNoStringNoNumber => rfl); (case subNoStringNoPlace => k_is); (case neNoStringNoPlace => rfl); (case subNoFoldingFoldError => k_is); (case neNoFoldingFoldError => rfl); (case subNoFoldingNoRules => k_is); (case neNoFoldingNoRules => rfl); (case subNoFoldingNoString => k_is); (case neNoFoldingNoString => rfl); (case subNoFoldingNoFolding => k_is); (case subNoFoldingNoText => k_is); (case neNoFoldingNoText => rfl); (case subNoFoldingNoNumber => k_is); (case neNoFoldingNoNumber => rfl); (case subNoFoldingNoPlace => k_is); (case neNoFoldingNoPlace => rfl); (case subNoNumberFoldError => k_is); (case neNoNumberFoldError => rfl); (case subNoNumberNoRules => k_is); (case neNoNumberNoRules => rfl); (case subNoNumberNoString => k_is); (case neNoNumberNoString => rfl); (case subNoNumberNoFolding => k_is); (case neNoNumberNoFolding => rfl); (case subNoNumberNoText => k_is); (case neNoNumberNoText => rfl); (case subNoNumberNoNumber => k_is); (case subNoNumberNoPlace => k_is); (case neNoNumberNoPlace => rfl); (case np29_30 => decide)
