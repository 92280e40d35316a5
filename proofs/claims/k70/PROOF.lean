import PyProof.Rows.All
import Wide.All
import OpenK.AllK
import Wide.FinOn
import HandS.ForMost
import HandS.Defaults
import HandS.TupMul
import HandS.TupAny
import HandS.IsInst
import HandS.Conv
import KE.SortData
import KE.GoesMore
import HandS.Style
import HandS.Walk
import HandS.Zip
import HandS.TupLe
import HandS.DictComp
import KE.KDictSum
import HandS.ExcValue
import PySem.Challenge.RW_pairfolds_k70_whole_crossed_and_turned
import HandS.Sort
import PyProof.SumWalkG
import HandS.ListItems
import HandS.More
import HandS.Flt
import KE.KDictZip
import KE.DataCmp
import HandS.Text
import HandS.MakeKwOnly
import KE.KDictKeyed
import HandS.TryOnly
import HandS.SortKw
import KE.KMinKey
import HandS.Comp
import PyProof.CollectStr
import PyProof.Rows.StrRev
import PyProof.TupleKey
import HandS.TupSets
import PyProof.FactsAll.subtypes_4
import PyProof.Transfer
import HandS.SetFor
import HandS.Strs
set_option Elab.async false
set_option linter.all false
set_option maxRecDepth 100000
set_option maxHeartbeats 4000000
namespace Pf
open PySem PySem.Spec PyProof.Rows L2

/-! ### a def that may be called: its promise, its name, its binding -/
structure Ca (P : Program) (w : World) (K : PySem.W.Frag) (mg : Str → Option Value) (base : Heap) (k : Nat) (x : Str) (ps : List Str) (sp : Sp) : Prop where
  ex : ∃ f fd, FnOk P w K mg base CX0 k f fd ps sp ∧ mg x = some (.ref f) ∧ PySem.W.keepIn K (.ref f) = true ∧ Binds K fd ps []
structure CaK (P : Program) (w : World) (K : PySem.W.Frag) (mg : Str → Option Value) (base : Heap) (k : Nat) (x : Str) (ps ks : List Str) (gV : List V → List V → List V) (sp : Sp) : Prop where
  ex : ∃ f fd g, FnOk P w K mg base CX0 k f fd ps sp ∧ mg x = some (.ref f) ∧ PySem.W.keepIn K (.ref f) = true ∧ KBn K fd ps 0 ks g gV
section
variable {X : Cx} {k : Nat} {x : Str} {ps ks : List Str} {sp : Sp} {p pos : Pos} {e : Expr} {es : List Expr} {kws : List Keyword} {t tk : TA} {gV : List V → List V → List V}
theorem pe_ca (c : Ca X.prog X.w X.K X.mg X.base k x ps sp) (hr : Room k X.A) (hg : Gl X x) (ha : PA X (e :: es) t) (hdb : (x == ("__debug__" : Str)) = false := by decide)
    (he : starEach (e :: es) X.env = (false, eval e X.env) :: starEach es X.env := by rfl) (hpl : (backTo pos (starEach es X.env)).any (·.1) = false := by rfl) :
    PE X (.Call (.Name x p) (e :: es) [] pos) (tCall sp [] E0 t) := by
  obtain ⟨f, fd, F, hm, hk, hb⟩ := c.ex
  exact pe_call F hr hg hm hk hb .nil pass0 ha hdb he hpl
theorem pe_ca0 (c : Ca X.prog X.w X.K X.mg X.base k x ps sp) (hr : Room k X.A) (hg : Gl X x) (hdb : (x == ("__debug__" : Str)) = false := by decide) :
    PE X (.Call (.Name x p) [] [] pos) (tCall sp [] E0 tNil) := by
  obtain ⟨f, fd, F, hm, hk, hb⟩ := c.ex
  exact pe_call0 F hr hg hm hk hb .nil pass0 hdb
/-- f(k = v, ..), by names alone -/
theorem pe_caK (c : CaK X.prog X.w X.K X.mg X.base k x ps ks gV sp) (hr : Room k X.A) (hg : Gl X x) (hkw : PK X kws tk)
    (hall : (backToKw pos (keywordEach kws X.env)).all (·.1.isSome) = true := by rfl) (hks : (backToKw pos (keywordEach kws X.env)).filterMap (·.1) = ks := by rfl) (hdb : (x == ("__debug__" : Str)) = false := by decide)
    (hpl : ((backTo pos (starEach [] X.env)).any (·.1) || (backToKw pos (keywordEach kws X.env)).any (·.1.isNone)) = false := by rfl) :
    PE X (.Call (.Name x p) [] kws pos) (tCallN 0 ks.length sp gV E0 tNil tk) := by
  obtain ⟨f, fd, g, F, hm, hk, hb⟩ := c.ex
  refine ⟨fun pins s σ H Q I h => ?_⟩
  refine wpAny_Call_Name_kw (ld_glob I hg hm ?_ hdb)
  refine PySem.W.callWith_KW0 (h₀ := X.base) I.ok.mod.kin hk hall ?_ hpl
  refine thn (hkw.run pos pins s σ H _ I h) fun ws s2 ⟨zs, H2, I2, rz, l1, l2, q2⟩ => ⟨I2.kIn, ?_⟩
  rw [hks]
  exact run_fnN (us := []) (vs := []) F hr hb pass0 I2 .nil rz rfl l2 q2
end

/-! ### rules that read a list or a tuple, the written part by its letter -/
theorem ixL (K : PySem.W.Frag) {X : Cx} (h : X.K = K := by rfl) : IxR X (rIxL K) := h ▸ ix_list
theorem ixT (K : PySem.W.Frag) {X : Cx} (h : X.K = K := by rfl) : IxR X (rIxT K) := h ▸ ix_tup
theorem ixA (K : PySem.W.Frag) {X : Cx} (h : X.K = K := by rfl) : IxR X (rIx K) := h ▸ ix_seq
def rLenA (K : PySem.W.Frag) : List V → Hp → VK → Prop := fun xs H Q => ∃ x n, xs = [x] ∧ LenV K x H n ∧ Q (.int n) H
theorem lenA (K : PySem.W.Frag) {X : Cx} (h : X.K = K := by rfl) : CallR X (.builtin "len") (rLenA K) := by
  subst h
  exact call_len
theorem repT (K : PySem.W.Frag) {X : Cx} (h : X.K = K := by rfl) : OpR X (binaryOp .Mult) (rRepT K) := h ▸ op_repT
theorem slL (K : PySem.W.Frag) {X : Cx} (h : X.K = K := by rfl) : SlR X (rSlL K) := h ▸ sl_list
theorem slT (K : PySem.W.Frag) {X : Cx} (h : X.K = K := by rfl) : SlR X (rSlT K) := h ▸ sl_tup
theorem eqD (K : PySem.W.Frag) {X : Cx} (hu : X.A.units + 64 < cLine) (h : X.K = K := by rfl) : OpR X (compareOp .Eq) (rEqD K) := h ▸ op_eqD hu
theorem neD (K : PySem.W.Frag) {X : Cx} (hu : X.A.units + 64 < cLine) (h : X.K = K := by rfl) : OpR X (compareOp .NotEq) (rNeD K) := h ▸ op_neD hu
theorem catT (K : PySem.W.Frag) {X : Cx} (h : X.K = K := by rfl) : OpR X (binaryOp .Add) (rCatT K) := h ▸ op_catT
theorem catA (K : PySem.W.Frag) {X : Cx} (h : X.K = K := by rfl) : OpR X (binaryOp .Add) (rCatA K) := h ▸ op_catA
theorem slA (K : PySem.W.Frag) {X : Cx} (h : X.K = K := by rfl) : SlR X (rSlA K) := h ▸ sl_tupA
theorem isi1 (K : PySem.W.Frag) {X : Cx} (h : X.K = K := by rfl) : CallR X (.builtin "isinstance") (rIsi K) := h ▸ call_isi
theorem pgT (K : PySem.W.Frag) {X : Cx} {es : List Expr} {k n : Nat} {t : TGs} {pos : Pos} (hc : X.calm = true) (h : PGs X es t) (hK : X.K = K := by rfl) (hn : (assignEach es X.env).length = n := by rfl) (hst : (assignEach es X.env).findIdx? (·.1) = none := by rfl) :
    PG X (.Tuple es k pos) (gTup K n t) := by
  subst hK
  exact pg_tup hc h hn hst
def rLen (K : PySem.W.Frag) : List V → Hp → VK → Prop := fun xs H Q => ∃ p ys, xs = [.ref p] ∧ (SqL K H p ys ∨ SqT K H p ys) ∧ Q (.int ys.length) H
theorem lenQ (K : PySem.W.Frag) {X : Cx} (h : X.K = K := by rfl) : CallR X (.builtin "len") (rLen K) := by
  subst h
  exact call_len_seq
def rListOf (K : PySem.W.Frag) : List V → Hp → VK → Prop := fun xs H Q => ∃ p ys, xs = [.ref p] ∧ (SqL K H p ys ∨ SqT K H p ys) ∧ ∀ l, H l = none → Q (.ref l) (upd H l (.lst ys))
theorem listOf (K : PySem.W.Frag) {X : Cx} (h : X.K = K := by rfl) : CallR X (.type "list") (rListOf K) := by
  subst h
  exact call_list_of
def rTupleOf (K : PySem.W.Frag) : List V → Hp → VK → Prop := fun xs H Q => ∃ p ys, xs = [.ref p] ∧ ((SqL K H p ys ∧ ∀ l, H l = none → Q (.ref l) (upd H l (.tup ys))) ∨ (SqT K H p ys ∧ Q (.ref p) H))
theorem tupleOf (K : PySem.W.Frag) {X : Cx} (h : X.K = K := by rfl) : CallR X (.type "tuple") (rTupleOf K) := by
  subst h
  exact call_tuple_of

/-! ### repr of a plain thing -/
def repV : V → Str
  | .non => "None"
  | .bl b => if b then "True" else "False"
  | .int i => toString i
  | _ => ""
def RepOk : V → Prop
  | .non => True
  | .bl _ => True
  | .int i => i.natAbs.log2 < 1920
  | _ => False
theorem call_repr {X : Cx} : CallR X (.builtin "repr") (fun xs H Q => ∃ v, xs = [v] ∧ RepOk v ∧ Q (.str (repV v)) H) := by
  intro pins s σ H xs us Q I r h
  obtain ⟨v, rfl, hz, q⟩ := h
  cases v with
  | non =>
    obtain ⟨u, rfl, rfl⟩ := vals1 r
    exact PySem.P.repr_of_none ⟨.str _, H, I.tok _, ⟨_, rfl⟩, q⟩
  | bl b =>
    obtain ⟨u, rfl, rfl⟩ := vals1 r
    exact PySem.P.repr_of_bool ⟨.str _, H, I.tok _, ⟨_, rfl⟩, by cases b <;> exact q⟩
  | int i =>
    obtain ⟨u, rfl, t, rfl⟩ := vals1 r
    exact PySem.P.repr_of_int hz ⟨.str _, H, I.tok _, ⟨_, rfl⟩, q⟩
  | str _ => exact hz.elim
  | byt _ => exact hz.elim
  | flt _ => exact hz.elim
  | ref _ => exact hz.elim
  | ty _ => exact hz.elim

/-! ### texts of small letters -/
def Small (x : Str) : Prop := ∀ c ∈ x.cps.toList, 97 ≤ c ∧ c ≤ 122
theorem Small.app {a b : Str} (ha : Small a) (hb : Small b) : Small (a ++ b) := fun c h => by
  rw [Str.cps_append, Array.toList_append, List.mem_append] at h
  rcases h with h | h
  · exact ha c h
  · exact hb c h
theorem Small.one {c : Nat} (h : 97 ≤ c ∧ c ≤ 122) : Small ⟨#[c]⟩ := fun d hd => by
  have e : d = c := by simpa using hd
  subst e
  exact h
theorem Small.at {x : Str} (h : Small x) {i c : Nat} (hi : x.cps[i]? = some c) : 97 ≤ c ∧ c ≤ 122 := by
  refine h c ?_
  have := Array.mem_of_getElem? hi
  exact Array.mem_toList_iff.mpr this
theorem Small.ok {x : Str} (h : Small x) : PyData.strOk x = true := by
  show x.cps.all (· < 0x110000) = true
  rw [Array.all_eq_true_iff_forall_mem]
  intro c hc
  have := h c (Array.mem_toList_iff.mpr hc)
  exact decide_eq_true (by omega)
/-! ### a chain of three comparisons -/
def tChain3 (r1 r2 r3 : R2) (ta tb tc td : TE) : TE := fun σ H Q => ta σ H fun x H1 => tb σ H1 fun y H2 => r1 x y H2 fun z H3 => ∃ k, z = .bl k ∧
  (if k = true then tc σ H3 fun u H4 => r2 y u H4 fun z2 H5 => ∃ k2, z2 = .bl k2 ∧ (if k2 = true then td σ H5 fun v H6 => r3 u v H6 Q else Q (.bl false) H5) else Q (.bl false) H3)
theorem pt_chain3 {X : Cx} {o1 o2 o3 : CmpOp} {r1 r2 r3 : R2} {a b c d : Expr} {ta tb tc td : TE} {pos : Pos} (h1 : OpR X (compareOp o1) r1) (h2 : OpR X (compareOp o2) r2) (h3 : OpR X (compareOp o3) r3)
    (ha : PE X a ta) (hb : PE X b tb) (hc : PE X c tc) (hd : PE X d td) (hm : lastMarks [o1, o2, o3] [b, c, d] = false := by with_unfolding_all rfl) :
    PT X (.Compare a [o1, o2, o3] [b, c, d] pos) (tTest (tChain3 r1 r2 r3 ta tb tc td)) := by
  refine ⟨fun pins s σ H Q I h => isTrue_chain (thn (ha.run pins s σ H _ I h) fun v s1 ⟨x, H1, I1, e1, q1⟩ => test_link ?_) hm⟩
  refine thn (hb.run pins s1 σ H1 _ I1 q1) fun u s2 ⟨y, H2, I2, e2, q2⟩ => ?_
  refine thn (h1 pins s2 σ H2 x y v u _ I2 e1 e2 q2) fun dv s3 ⟨z, H3, I3, e3, k, ek, q3⟩ => ?_
  subst ek
  cases e3
  refine wpAny_truthy_bool ?_
  cases k with
  | false =>
    obtain ⟨k', e', q'⟩ := q3
    cases e'
    exact ite_ff ⟨H3, I3, q'⟩
  | true =>
    refine ite_tt (test_link ?_)
    refine thn (hc.run pins s3 σ H3 _ I3 q3) fun u4 s4 ⟨y4, H4, I4, e4, q4⟩ => ?_
    refine thn (h2 pins s4 σ H4 y y4 u u4 _ I4 e2 e4 q4) fun dv5 s5 ⟨z5, H5, I5, e5, k5, ek5, q5⟩ => ?_
    subst ek5
    cases e5
    refine wpAny_truthy_bool ?_
    cases k5 with
    | false =>
      obtain ⟨k', e', q'⟩ := q5
      cases e'
      exact ite_ff ⟨H5, I5, q'⟩
    | true =>
      refine ite_tt (test_last ?_)
      refine thn (hd.run pins s5 σ H5 _ I5 q5) fun u6 s6 ⟨y6, H6, I6, e6, q6⟩ => ?_
      refine thn (h3 pins s6 σ H6 y4 y6 u4 u6 _ I6 e4 e6 q6) fun dv7 s7 ⟨z7, H7, I7, e7, k7, ek7, q7⟩ => ?_
      subst ek7
      cases e7
      exact wpAny_truthy_bool ⟨H7, I7, q7⟩
theorem inSeq (K : PySem.W.Frag) {X : Cx} (h : X.K = K := by rfl) : OpR X (compareOp .In) (rIn K false) := h ▸ op_in_seq
theorem notInSeq (K : PySem.W.Frag) {X : Cx} (h : X.K = K := by rfl) : OpR X (compareOp .NotIn) (rIn K true) := h ▸ op_notIn_seq
/-! ### join with nothing between -/
theorem join_str (ys : List Str) : Txt.join "" ys = Str.join "" ys := eq_of_beq (join_closes (ys := ys) rfl)
theorem sjoin_le {m : Nat} : ∀ {ys : List Str}, (∀ y ∈ ys, y.length ≤ m) → (Str.join "" ys).length ≤ ys.length * m
  | [], _ => Nat.zero_le _
  | [y], h => by
    have := h y (List.mem_cons_self ..)
    show y.length ≤ 1 * m
    omega
  | y :: z :: r, h => by
    have h1 := h y (List.mem_cons_self ..)
    have h2 := sjoin_le (ys := z :: r) fun x hx => h x (List.mem_cons_of_mem _ hx)
    show (y ++ "" ++ Str.join "" (z :: r)).length ≤ _
    rw [Str.length_append, Str.length_append, List.length_cons, Nat.succ_mul]
    show y.length + 0 + _ ≤ _
    omega
theorem small_nil : Small "" := by
  unfold Small
  decide +kernel
theorem sjoin_small : ∀ {ys : List Str}, (∀ y ∈ ys, Small y) → Small (Str.join "" ys)
  | [], _ => small_nil
  | [y], h => h y (List.mem_cons_self ..)
  | y :: z :: r, h => ((h y (List.mem_cons_self ..)).app small_nil).app (sjoin_small (ys := z :: r) fun x hx => h x (List.mem_cons_of_mem _ hx))
theorem join_le {m : Nat} {ys : List Str} (h : ∀ y ∈ ys, y.length ≤ m) : (Txt.join "" ys).length ≤ ys.length * m := by
  rw [join_str]
  exact sjoin_le h
theorem join_small {ys : List Str} (h : ∀ y ∈ ys, Small y) : Small (Txt.join "" ys) := by
  rw [join_str]
  exact sjoin_small h

/-! ### a walk over a text's signs -/
theorem for_str {x : Str} {g : TG} {tb : TS} {D : Ends} {σ : L2.St} {H : Hp} (Pv : Nat → L2.St → Hp → Prop) (h0 : Pv 0 σ H)
    (hs : ∀ i c σ H, x.cps[i]? = some c → Pv i σ H → g (.str ⟨#[c]⟩) σ H fun σ2 H2 => tb { D with nx := Pv (i + 1), ct := Pv (i + 1), bk := D.nx } σ2 H2) (hd : ∀ σ H, Pv x.cps.size σ H → D.nx σ H) :
    ∃ W : Nat → Nat → L2.St → Hp → Prop, (∃ m, W 0 m σ H) ∧ ∀ i m σ H, W i m σ H →
      ((Its x).stop i H ∧ D.nx σ H) ∨ ((Its x).go i H ∧ ∃ N : L2.St → Hp → Prop, (∀ σ' H', N σ' H' → ∃ m', m' < m ∧ W (i + 1) m' σ' H') ∧ ∀ y H', (Its x).yld i H y H' → g y σ H' fun σ2 H2 => tb { D with nx := N, ct := N, bk := D.nx } σ2 H2) := by
  refine ⟨fun i m σ H => m = x.cps.size - i ∧ i ≤ x.cps.size ∧ Pv i σ H, ⟨x.cps.size, by simp, Nat.zero_le _, h0⟩, ?_⟩
  rintro i m σ H ⟨rfl, hi, p⟩
  by_cases hlt : i < x.cps.size
  · refine .inr ⟨hlt, Pv (i + 1), fun σ' H' p' => ⟨x.cps.size - (i + 1), by omega, rfl, hlt, p'⟩, fun y H' z => ?_⟩
    obtain ⟨e, c, hc, ev⟩ := z
    subst e ev
    exact hs i c σ _ hc p
  · have e : i = x.cps.size := by omega
    subst e
    exact .inl ⟨Nat.le_refl _, hd σ H p⟩
theorem lc_str {x : Str} {g : TG} {tt : TT} {te : TE} {vs : List Nat} {σ : L2.St} {H1 : Hp} {D : Addr} {Qd : Hp → Prop} (Pv : Nat → Hp → Prop) (h0 : Pv 0 (upd H1 D (.lst [])))
    (hs : ∀ i c H, x.cps[i]? = some c → Pv i H → g (.str ⟨#[c]⟩) (wipe σ vs) H fun σ2 H2 => wipe σ2 vs = wipe σ vs ∧ tt σ2 H2 fun b H3 =>
      if b = true then te σ2 H3 fun y H4 => ∃ acc, H4 D = some (.lst acc) ∧ acc.length < sizeLine ∧ Pv (i + 1) (upd H4 D (.lst (acc ++ [y]))) else Pv (i + 1) H3) (hd : ∀ H, Pv x.cps.size H → Qd H) :
    ∃ W : Nat → Nat → Hp → Prop, (∃ m, W 0 m (upd H1 D (.lst []))) ∧ ∀ i m H, W i m H →
      ((Its x).stop i H ∧ Qd H) ∨ ((Its x).go i H ∧ ∃ Nx : Hp → Prop, (∀ H', Nx H' → ∃ m', m' < m ∧ W (i + 1) m' H') ∧ ∀ y H', (Its x).yld i H y H' → g y (wipe σ vs) H' fun σ2 H2 => wipe σ2 vs = wipe σ vs ∧ tt σ2 H2 fun b H3 =>
        if b = true then te σ2 H3 fun y H4 => ∃ acc, H4 D = some (.lst acc) ∧ acc.length < sizeLine ∧ Nx (upd H4 D (.lst (acc ++ [y]))) else Nx H3) := by
  refine ⟨fun i m H => m = x.cps.size - i ∧ i ≤ x.cps.size ∧ Pv i H, ⟨x.cps.size, by simp, Nat.zero_le _, h0⟩, ?_⟩
  rintro i m H ⟨rfl, hi, p⟩
  by_cases hlt : i < x.cps.size
  · refine .inr ⟨hlt, Pv (i + 1), fun H' p' => ⟨x.cps.size - (i + 1), by omega, rfl, hlt, p'⟩, fun y H' z => ?_⟩
    obtain ⟨e, c, hc, ev⟩ := z
    subst e ev
    exact hs i c _ hc p
  · have e : i = x.cps.size := by omega
    subst e
    exact .inl ⟨Nat.le_refl _, hd H p⟩

/-! ### what stays in the heap, but the thing at p -/
def Kp (p : Addr) (H H' : Hp) : Prop := ∀ b o, b ≠ p → H b = some o → H' b = some o
theorem Kp.refl {p : Addr} {H : Hp} : Kp p H H := fun _ _ _ e => e
theorem Kp.trans {p : Addr} {H H1 H2 : Hp} (a : Kp p H H1) (b : Kp p H1 H2) : Kp p H H2 := fun c o n e => b c o n (a c o n e)
theorem Kp.new {p q : Addr} {H : Hp} {o : HO} (h : H q = none) : Kp p H (upd H q o) := fun b x _ e => by
  rw [upd_ne (ne_of_none e h)]
  exact e
theorem Kp.at {p : Addr} {H : Hp} {o : HO} : Kp p H (upd H p o) := fun b x n e => by
  rw [upd_ne n]
  exact e
/-- a change of what stood nowhere in H -/
theorem Kp.put {p q : Addr} {H H1 : Hp} {o : HO} (k : Kp p H H1) (h : H q = none) : Kp p H (upd H1 q o) := fun b x n e => by
  rw [upd_ne (ne_of_none e h)]
  exact k b x n e
theorem Kp.tup {p : Addr} {H H' : Hp} {ys : List V} {b : Addr} {xs : List V} (k : Kp p H H') (hp : H p = some (.lst ys)) (h : H b = some (.tup xs)) : H' b = some (.tup xs) :=
  k b _ (ne_of h hp (by intro z; cases z)) h
theorem Kp.some {p : Addr} {H H' : Hp} (k : Kp p H H') (hp : ∃ o, H' p = some o) {b : Addr} (h : H' b = none) : H b = none := by
  cases e : H b with
  | none => rfl
  | some o =>
    by_cases n : b = p
    · subst n
      obtain ⟨o', e'⟩ := hp
      rw [e'] at h
      cases h
    · rw [k b o n e] at h
      cases h

/-! ### arguments by names, in another order -/
def permV (js : List Nat) : List V → List V → List V := fun _ zs => js.map fun j => zs.getD j .non
def permU (js : List Nat) : List Value → List Value → List Value := fun _ ws => js.map fun j => ws.getD j .none
theorem vals_getD : ∀ {zs : List V} {ws : List Value} (j : Nat), Vals zs ws → RelV (zs.getD j .non) (ws.getD j .none)
  | _, _, _, .nil => rfl
  | _, _, 0, .cons r _ => r
  | _, _, j + 1, .cons _ t => vals_getD j t
theorem perm_rel {zs : List V} {ws : List Value} (r : Vals zs ws) : ∀ js : List Nat, Vals (js.map fun j => zs.getD j .non) (js.map fun j => ws.getD j .none)
  | [] => .nil
  | j :: js => .cons (vals_getD j r) (perm_rel r js)
theorem kbn_of {K : PySem.W.Frag} {fd : FuncData} {ps ks : List Str} (js : List Nat) (h : ∀ ws : List Value, ws.length = ks.length → bindArgs fd ⟨[], ks.zip ws⟩ = pure (ps.zip (js.map fun j => ws.getD j .none))) :
    KBn K fd ps 0 ks (permU js) (permV js) where
  to := fun s us ws _ hu hw => by
    obtain rfl := List.length_eq_zero_iff.mp hu
    exact .of_eq (h ws hw)
  rel := fun _ r => perm_rel r js
/-! ### what is added, and nothing changed -/
def Ext (H H' : Hp) : Prop := ∀ b o, H b = some o → H' b = some o
theorem Ext.refl {H : Hp} : Ext H H := fun _ _ e => e
theorem Ext.trans {H H1 H2 : Hp} (a : Ext H H1) (b : Ext H1 H2) : Ext H H2 := fun c o e => b c o (a c o e)
theorem Ext.new {q : Addr} {H : Hp} {o : HO} (h : H q = none) : Ext H (upd H q o) := fun b x e => by
  rw [upd_ne (ne_of_none e h)]
  exact e
theorem Ext.put {q : Addr} {H H1 : Hp} {o : HO} (k : Ext H H1) (h : H q = none) : Ext H (upd H1 q o) := fun b x e => by
  rw [upd_ne (ne_of_none e h)]
  exact k b x e
theorem Ext.none {H H' : Hp} (k : Ext H H') {q : Addr} (h : H' q = none) : H q = none := by
  cases e : H q with
  | none => rfl
  | some o =>
    rw [k q o e] at h
    cases h

theorem atI_get {α : Type} {xs : List α} {i : Int} (h0 : 0 ≤ i) (h1 : i < xs.length) : atI xs i = some (xs[i.toNat]'(by omega)) := by
  unfold atI ixN
  rw [if_pos h0, if_pos h1]
  exact List.getElem?_eq_getElem _
theorem atI_ints {ns : List Int} {i : Int} (h0 : 0 ≤ i) (h1 : i < ns.length) : ∃ z, z ∈ ns ∧ atI (ns.map V.int) i = some (.int z) := by
  have h2 : i < (ns.map V.int).length := by rw [List.length_map]; exact h1
  refine ⟨ns[i.toNat]'(by omega), List.getElem_mem _, ?_⟩
  rw [atI_get h0 h2, List.getElem_map]
theorem atI_mem {α : Type} {xs : List α} {i : Int} (h0 : 0 ≤ i) (h1 : i < xs.length) : ∃ v, v ∈ xs ∧ atI xs i = some v :=
  ⟨xs[i.toNat]'(by omega), List.getElem_mem _, atI_get h0 h1⟩
theorem len_pos {x : Str} (h : ¬ x = "") : 1 ≤ x.length := by
  obtain ⟨⟨l⟩⟩ := x
  cases l with
  | nil => exact absurd (by decide +kernel) h
  | cons a r =>
    show 1 ≤ (a :: r).length
    exact Nat.succ_pos _
theorem natAbs_lt_of {i : Int} {n : Nat} (h0 : -(n : Int) < i) (h1 : i < n) : i.natAbs < n := by omega
theorem log2_small {i : Int} (h : i.natAbs < 2 ^ 64) : i.natAbs.log2 < 1920 := by
  by_cases z : i.natAbs = 0
  · rw [z]
    decide
  · exact (Nat.log2_lt z).mpr (Nat.lt_of_lt_of_le h (Nat.pow_le_pow_right (by decide) (by decide)))
theorem szL {n : Nat} (h : n ≤ 1000000) : n ≤ sizeLine := by
  rw [sizeLine_eq]
  omega
theorem szLt {n : Nat} (h : n < 1000000) : n < sizeLine := by
  rw [sizeLine_eq]
  omega
end Pf


namespace Pf
open PySem PySem.Spec PyProof.Rows L2
/-! ### the law's own call: made by nobody, nothing being shown meanwhile -/
structure FnG (P : Program) (w : World) (K : PySem.W.Frag) (mg : Str → Option Value) (base : Heap) (f : Addr) (fd : FuncData) (ps : List Str) (sp : Sp) : Prop where
  run : ∀ (s : Shared) (H : Hp) (args : Args) (us : List Value) (vs : List V) (Q : VK) (E : XK), Env0 P w K mg base callerA [] s H → BindsTo s fd args (ps.zip us) → Vals vs us → sp vs H Q E →
    codeAny (model P w) callerA (.call (.ref f) args) (CR CX0 [] P w H s Q E) s
theorem FnG.of {P : Program} {w : World} {K : PySem.W.Frag} {mg : Str → Option Value} {base : Heap} {k : Nat} {f : Addr} {fd : FuncData} {x qual : Str} {st : Stmt} {N ps : List Str} {sp : Sp} (F : Fun K x qual st f fd) (S : FnScope N ps (defScope st))
    (room : Room (k + 1) callerA) (len : ∀ vs H Q E, sp vs H Q E → vs.length = ps.length)
    (body : ∀ (cdv : Value) (s : Shared) (H : Hp) (vs : List V) (Q : VK) (E : XK), Room k (callerA.deeper (envOfC qual (defScope st) s.heap.objs.size f cdv)) → (callerA.deeper (envOfC qual (defScope st) s.heap.objs.size f cdv)).guards = some [] → sp vs H Q E →
      ∃ t, PSs (cxOf CX0 P w K mg base N qual (defScope st) f cdv callerA [] s H E).nox (defBody st) t ∧ t { nx := fun _ H' => Q .non H', rt := Q } (start N vs) H) : FnG P w K mg base f fd ps sp := by
  obtain ⟨oc, od, kV, doc, pm, an, cdv, ct, osl, rfl, lk, hcd⟩ := F.ex
  refine ⟨fun s H args us vs Q E env0 bnd rel hsp => ?_⟩
  have inS : K.In s.heap := env0.mod.kin.keeps fun b o e => (env0.bs b o e).1
  have limS : s.heap.NoLimit := env0.mod.nolimit.keeps fun b o e => (env0.bs b o e).1
  have kinds : ∀ y ∈ ps.zip us, (defScope st).names.lookup y.1 = some .local ∨ ((defScope st).names.lookup y.1 = some .cell ∧ ((cellsFrom (s.heap.objs.size + 1) (defScope st).names []).lookup y.1).isSome = true) := by
    rintro ⟨n, v⟩ hy
    cases S.par n (List.of_mem_zip hy).1 with
    | inl q => exact .inl q
    | inr q => exact .inr ⟨q, PySem.W.cellsFrom_some _ _ _ (.inl q)⟩
  refine codeAny_call_function room.depth (inS _ _ lk) rfl S.co S.gen rfl (PySem.W.codeRec_of inS hcd) (bnd _ _ _ _ ?_)
  refine wpAny_newFunctionEnv_cells S.kind kinds fun env0' he s1 inC => ?_
  subst he
  refine ⟨limS.keeps inC.toInCall.keep, codeAny_func ?_⟩
  obtain ⟨t, ht, hq⟩ := body cdv s H vs Q E (room.deeper _) rfl hsp
  have I0 : Inv (cxOf CX0 P w K mg base N qual (defScope st) f cdv callerA [] s H E) [] (start N vs) H s1 := inv_start S room.hd env0 (len _ _ _ _ hsp) rel inC
  refine wpAny_mono (ht.nox.run [] s1 (start N vs) H _ I0 hq) (fun fl s' hs => ?_) fun _ _ z => z
  cases fl with
  | ret u =>
    obtain ⟨v, σ', H', J, rv, q⟩ := hs
    exact ⟨v, H', J.os, J.bare, J.base, J.hok, rv, q⟩
  | next =>
    obtain ⟨σ', H', J, q⟩ := hs
    exact ⟨.non, H', J.os, J.bare, J.base, J.hok, rfl, q⟩
  | brk => exact False.elim (by obtain ⟨_, _, _, q⟩ := hs; exact q)
  | cont => exact False.elim (by obtain ⟨_, _, _, q⟩ := hs; exact q)
/-- its end: from an abstract heap that holds the script or nothing -/
theorem FnG.ends {P : Program} {w : World} {K : PySem.W.Frag} {mg mb : Str → Option Value} {fa a : Addr} {fd : FuncData} {x : Str} {sp : Sp} {s1 : Shared} {vs : List Value} {ns : List Int}
    (inK : K.In s1.heap) (gl : s1.heap.Ns mainGlobals mg) (bl : s1.heap.Ns builtinsNs mb) (bb : ∀ x : Str, x ≠ "__name__" → mb x = bootBuiltins x) (lim : s1.heap.NoLimit) (gens : s1.gens = #[])
    (hscr : s1.heap.get? a = some { cls := .type "list", data := .seq vs.toArray }) (hin : IntsAre vs ns) (F : ∀ base : Heap, K.In base → base.Ns mainGlobals mg → FnG P w K mg base fa fd [x] sp) (bnd : ∀ (s : Shared) (u : Value), BindsTo s fd ⟨[u], []⟩ [(x, u)])
    {H : Hp} (only : Only H) (hsp : sp [.ref a] H (fun v _ => v = .bl true) fun _ _ _ => False) (hok : HOk P w H s1.heap) (hA : ∀ b, H b ≠ none → b = a) (hK : H a ≠ none → K.lookup a = none) :
    codeAny (model P w) callerA (.call (.ref fa) ⟨[.ref a], []⟩) (fun r s' => r = .ok (.ret (.bool true)) ∧ OldK s1.heap s'.heap ∧ s'.os = s1.os ∧ AllBare s'.gens) s1 := by
  have isA : ∀ {b : Addr} {u : HO}, H b = some u → b = a := fun {b u} q => hA b (by rw [q]; exact Option.some_ne_none _)
  have hid : ∀ {b : Addr} {o : Obj}, s1.heap.get? b = some o → H b = none → (hidT s1.heap H).get? b = some o := fun e n => hidT_get e n
  have dictN : ∀ {b : Addr} {o : Obj} {es : Array DictEntry} {ep : Nat}, s1.heap.get? b = some o → o.data = .dict es ep → H b = none := by
    intro b o es ep e d
    cases q : H b with
    | none => rfl
    | some u =>
      obtain rfl := isA q
      rw [hscr] at e
      cases e
      exact nomatch d
  have nsH : ∀ {b : Addr} {m : Str → Option Value}, s1.heap.Ns b m → (hidT s1.heap H).Ns b m := by
    rintro b m ⟨o, es, ep, e, d, r⟩
    exact ⟨o, es, ep, hid e (dictN e d), d, r⟩
  have inB : K.In (hidT s1.heap H) := by
    intro b o e
    refine hid (inK b o e) ?_
    cases q : H b with
    | none => rfl
    | some u =>
      obtain rfl := isA q
      rw [hK (by rw [q]; exact Option.some_ne_none _)] at e
      cases e
  have limB : (hidT s1.heap H).NoLimit := by
    obtain ⟨mc, h1, h2⟩ := lim
    exact ⟨mc, nsH h1, h2⟩
  have env0 : Env0 P w K mg (hidT s1.heap H) callerA [] s1 H :=
    ⟨rfl, ⟨inB, nsH gl, ⟨mb, nsH bl, bb⟩, limB⟩, fun b o e => of_hidT e, Nat.le_of_eq (hidT_size _ _), trivial, fun b hb => (nomatch (show b ∈ ([] : List Addr) from hb)), hok, .of_eq gens⟩
  refine codeAny_mono ((F _ inB (nsH gl)).run s1 H ⟨[.ref a], []⟩ [.ref a] [.ref a] _ _ env0 (bnd s1 (.ref a)) (.cons rfl .nil) hsp) fun r s' h => ?_
  match r, h with
  | .error _, h => exact False.elim h
  | .ok .next, h => exact False.elim h
  | .ok .brk, h => exact False.elim h
  | .ok .cont, h => exact False.elim h
  | .ok (.ret u), h =>
    obtain ⟨v, H', os, bare, un, hok', rel, q⟩ := h
    obtain rfl : v = .bl true := q
    obtain rfl : u = Value.bool true := rel
    refine ⟨rfl, OldK.of_keep fun b o e => ?_, os, bare⟩
    cases q : H b with
    | none => exact un.keep b o e q (fun z => (nomatch (show b ∈ ([] : List Addr) from z))) (by simp)
    | some u =>
      cases only b with
      | inl z => rw [q] at z; cases z
      | inr z =>
        obtain ⟨ob, xs, z⟩ := z
        have kept := (hok' b _ (un.frzs b ob _ z)).1
        have was := (hok b _ z).1
        rw [e] at was
        cases was
        exact kept
theorem walk_g {l : PySem.W.OpenLaw} {n : Nat} {q : Program} {loose : List Str} {XP : (Str → Option Value) → Heap → Prop} {YP : World → Heap → Prop} {d : DefRec} {K : Params → PySem.W.Frag} {sp : World → Sp} {x : Str}
    (hn : l.most = some n) (hn2 : n ≤ sizeLine) (hdf : d.params.defaults = []) (hY : ∀ (w : World) (h : Heap), YP w h → (K w.params).In h)
    (F : ∀ (w : World) (mg : Str → Option Value) (fa : Addr) (h : Heap), (K w.params).In h → h.Ns mainGlobals mg → mg d.name = some (.ref fa) →
      ∃ fd : FuncData, (∀ (s : Shared) (u : Value), BindsTo s fd ⟨[u], []⟩ [(x, u)]) ∧ ∀ base : Heap, (K w.params).In base → base.Ns mainGlobals mg → FnG l.prog w (K w.params) mg base fa fd [x] (sp w))
    (hsp : ∀ (w : World) (H : Hp) (a : Addr) (ns : List Int), ns.length ≤ n → SqL (K w.params) H a (ns.map V.int) → sp w [.ref a] H (fun v _ => v = .bl true) fun _ _ _ => False) :
    PySem.W.WalkO q loose XP YP l.row.toRowW d [] (fun f vs => PySem.call f vs) := by
  refine Att.attach_call hn hdf fun w s0 s1 mg mb fa o pm cd doc a vs ns G Y ho hd hcd hmg hobj hints hlen hg => ?_
  have inK := hY w _ Y
  obtain ⟨fd, bnd, hF⟩ := F w mg fa _ inK G.T.g hmg
  have szs : ns.length ≤ sizeLine := Nat.le_trans hlen hn2
  have vals := vals_ints hints
  cases hk : (K w.params).lookup a with
  | some ob =>
    have e := inK a ob hk
    rw [hobj] at e
    cases e
    have here : SqL (K w.params) (fun _ => none) a (ns.map V.int) := .inr ⟨_, vs.toArray, _, hk, rfl, rfl, rfl, by rw [List.size_toArray, hints.length]; exact szs, by simpa using vals⟩
    exact FnG.ends inK G.T.g G.T.b G.T.builtins G.T.nolimit hg hobj hints hF bnd (fun _ => .inl rfl) (hsp w _ a ns hlen here) (fun _ _ z => (nomatch z)) (fun b z => absurd rfl z) fun z => absurd rfl z
  | none =>
    have here : SqL (K w.params) (fun b => if b = a then some (.frz { cls := .type "list", data := .seq vs.toArray } (.lst (ns.map V.int))) else none) a (ns.map V.int) := .inl (.inr ⟨_, if_pos rfl⟩)
    refine FnG.ends inK G.T.g G.T.b G.T.builtins G.T.nolimit hg hobj hints hF bnd (fun b => ?_) (hsp w _ a ns hlen here) (fun b u z => ?_) (fun b z => ?_) fun _ => hk
    · exact if h : b = a then .inr ⟨_, _, if_pos h⟩ else .inl (if_neg h)
    · by_cases h : b = a
      · rw [if_pos h] at z
        cases z
        subst h
        exact ⟨hobj, by rw [List.length_map]; exact szs, vs, _, vals, hobj⟩
      · rw [if_neg h] at z
        cases z
    · by_cases h : b = a
      · exact h
      · exact absurd (if_neg h) z
/-! ### data that are small: how much they weigh, how deep they are -/
structure Sm (m k : Nat) (d : PyData) : Prop where
  lay : d.canLay0 = true
  sho : d.showable = true
  ish : d.intsShort 13 = true
  wt : d.weight ≤ m
  dep : d.depth ≤ k
theorem Sm.le {m k m' k' : Nat} {d : PyData} (h : Sm m k d) (hm : m ≤ m') (hk : k ≤ k') : Sm m' k' d := ⟨h.lay, h.sho, h.ish, Nat.le_trans h.wt hm, Nat.le_trans h.dep hk⟩
theorem Sm.non : Sm 0 0 .none := ⟨by simp [PyData.canLay0], by simp [PyData.showable], by simp [PyData.intsShort], by simp [PyData.weight], by simp [PyData.depth]⟩
theorem Sm.bl (b : Bool) : Sm 0 0 (.bool b) := ⟨by simp [PyData.canLay0], by simp [PyData.showable], by simp [PyData.intsShort], by simp [PyData.weight], by simp [PyData.depth]⟩
theorem Sm.int {i : Int} (h0 : -1000000000 < i) (h1 : i < 1000000000) : Sm 64 0 (.int i) := by
  have hb : i.natAbs < 2 ^ 64 := by omega
  have hl : i.natAbs.log2 < 64 := by
    by_cases z : i.natAbs = 0
    · rw [z]
      decide
    · exact (Nat.log2_lt z).mpr hb
  refine ⟨by simp [PyData.canLay0], ?_, ?_, ?_, by simp [PyData.depth]⟩
  · simp only [PyData.showable]
    exact decide_eq_true (by omega)
  · simp only [PyData.intsShort, PyData.shown]
    refine decide_eq_true ?_
    by_cases hn : i < 0
    · rw [len_text_neg hn]
      have := toString_length_le (v := 0 - i) (k := 9) (by omega) (by decide) (by omega)
      omega
    · have := toString_length_le (v := i) (k := 9) (by omega) (by decide) (by omega)
      omega
  · simp only [PyData.weight]
    split <;> omega
theorem Sm.str {x : Str} {n : Nat} (h : PyData.strOk x = true) (hn : x.length ≤ n) : Sm n 0 (.str x) :=
  ⟨by simpa only [PyData.canLay0] using h, by simp [PyData.showable], by simp [PyData.intsShort], by simp only [PyData.weight]; exact hn, by simp [PyData.depth]⟩
structure SmA (n m k : Nat) (ds : List PyData) : Prop where
  lay : PyData.canLayAll0 ds = true
  sho : PyData.showableAll ds = true
  ish : PyData.intsShortAll 13 ds = true
  wt : PyData.weightAll ds ≤ ds.length * (m + 1)
  dep : PyData.depthAll ds ≤ k
theorem SmA.of {m k : Nat} : ∀ {ds : List PyData}, (∀ d ∈ ds, Sm m k d) → SmA ds.length m k ds
  | [], _ => ⟨by simp [PyData.canLayAll0], by simp [PyData.showableAll], by simp [PyData.intsShortAll], by simp [PyData.weightAll], by simp [PyData.depthAll]⟩
  | d :: ds, h => by
    have h1 := h d (List.mem_cons_self ..)
    have h2 := SmA.of (ds := ds) fun x hx => h x (List.mem_cons_of_mem _ hx)
    refine ⟨by simp [PyData.canLayAll0, h1.lay, h2.lay], by simp [PyData.showableAll, h1.sho, h2.sho], by simp [PyData.intsShortAll, h1.ish, h2.ish], ?_, ?_⟩
    · have e1 := h1.wt
      have e2 := h2.wt
      simp only [PyData.weightAll, List.length_cons, Nat.succ_mul]
      omega
    · simp only [PyData.depthAll]
      exact Nat.max_le.mpr ⟨h1.dep, h2.dep⟩
theorem Sm.lst {n m k M : Nat} {ds : List PyData} (hn : ds.length ≤ n) (h : ∀ d ∈ ds, Sm m k d) (hM : n * (m + 1) ≤ M) : Sm M (k + 1) (.list ds) := by
  have a := SmA.of h
  have hw : ds.length * (m + 1) ≤ n * (m + 1) := Nat.mul_le_mul_right _ hn
  exact ⟨by simpa only [PyData.canLay0] using a.lay, by simpa only [PyData.showable] using a.sho, by simpa only [PyData.intsShort] using a.ish, by simp only [PyData.weight]; exact Nat.le_trans a.wt (Nat.le_trans hw hM), by simp only [PyData.depth]; exact Nat.succ_le_succ a.dep⟩
theorem Sm.tup {n m k M : Nat} {ds : List PyData} (hn : ds.length ≤ n) (h : ∀ d ∈ ds, Sm m k d) (hM : n * (m + 1) ≤ M) : Sm M (k + 1) (.tuple ds) := by
  have a := SmA.of h
  have hw : ds.length * (m + 1) ≤ n * (m + 1) := Nat.mul_le_mul_right _ hn
  exact ⟨by simpa only [PyData.canLay0] using a.lay, by simpa only [PyData.showable] using a.sho, by simpa only [PyData.intsShort] using a.ish, by simp only [PyData.weight]; exact Nat.le_trans a.wt (Nat.le_trans hw hM), by simp only [PyData.depth]; exact Nat.succ_le_succ a.dep⟩
theorem Sm.shaped {m k : Nat} {d : PyData} (h : Sm m k d) (hk : k ≤ 50) : SeqAt.shaped d = true := by
  show (d.canLay0 && decide (d.depth ≤ 64)) = true
  rw [h.lay, decide_eq_true (show d.depth ≤ 64 from Nat.le_trans h.dep (by omega))]
  rfl
theorem Sm.short {m k : Nat} {d : PyData} (h : Sm m k d) (hm : m ≤ 1000000) (hk : k ≤ 50) : d.shown.length ≤ sizeLine := by
  have e : PyData.layable0 d = true := by
    show (d.canLay0 && decide (d.depth ≤ 64) && decide (d.weight ≤ 2 ^ 20)) = true
    rw [h.lay, decide_eq_true (show d.depth ≤ 64 from Nat.le_trans h.dep (by omega)), decide_eq_true (show d.weight ≤ 2 ^ 20 from Nat.le_trans h.wt (by omega))]
    rfl
  have := shown_le13 e h.ish
  rw [sizeLine_eq]
  omega
/-! ### repr of data at any depth -/
def rShow (K : PySem.W.Frag) : List V → Hp → VK → Prop := fun xs H Q => ∃ v d m k, xs = [v] ∧ Dp K H v d ∧ Sm m k d ∧ m ≤ 1000000 ∧ k ≤ 50 ∧ Q (.str d.shown) H
theorem call_show (K : PySem.W.Frag) {X : Cx} (hg : X.A.guards = some []) (hu : X.A.units + 64 < cLine) (hK : X.K = K := by rfl) : CallR X (.builtin "repr") (rShow K) := by
  subst hK
  intro pins s σ H xs us Q I r h
  obtain ⟨v, d, m, k, rfl, hd, sh, hm, hk, q⟩ := h
  have hdep := sh.dep
  have hz := sh.short hm hk
  cases hd with
  | non =>
    obtain ⟨u, rfl, rfl⟩ := vals1 r
    exact PySem.P.repr_of_none ⟨.str _, H, I.tok _, ⟨_, rfl⟩, by simpa only [PyData.shown] using q⟩
  | bl b =>
    obtain ⟨u, rfl, rfl⟩ := vals1 r
    refine PySem.P.repr_of_bool ⟨.str _, H, I.tok _, ⟨_, rfl⟩, ?_⟩
    simp only [PyData.shown] at q
    cases b <;> exact q
  | int i =>
    obtain ⟨u, rfl, t, rfl⟩ := vals1 r
    have hi : i.natAbs.log2 < 1920 := by simpa [PyData.showable] using sh.sho
    exact PySem.P.repr_of_int hi ⟨.str _, H, I.tok _, ⟨_, rfl⟩, by simpa only [PyData.shown] using q⟩
  | str x =>
    obtain ⟨u, rfl, t, rfl⟩ := vals1 r
    simp only [PyData.shown] at q hz
    exact PySem.P.repr_of_str ⟨.str _, H, I.tok _, ⟨_, rfl⟩, q⟩ hz
  | @lst a ys ds hs hds =>
    obtain ⟨u, rfl, rfl⟩ := vals1 r
    obtain ⟨as, rd⟩ := Dp.reads I _ _ _ (Dp.lst hs hds) (show RelV (.ref a) (.ref a) from rfl)
    exact PySem.repr_of_reads' rd sh.sho (PyData.noDict_hsm (PyData.hasDict_of_canLay _ sh.lay)) hg (by omega) (fun _ _ e => e) (fun h' u tk keep => ⟨.str _, H, I.kept keep, ⟨_, rfl⟩, q⟩) hz
  | @tup a ys ds hs hds =>
    obtain ⟨u, rfl, rfl⟩ := vals1 r
    obtain ⟨as, rd⟩ := Dp.reads I _ _ _ (Dp.tup hs hds) (show RelV (.ref a) (.ref a) from rfl)
    exact PySem.repr_of_reads' rd sh.sho (PyData.noDict_hsm (PyData.hasDict_of_canLay _ sh.lay)) hg (by omega) (fun _ _ e => e) (fun h' u tk keep => ⟨.str _, H, I.kept keep, ⟨_, rfl⟩, q⟩) hz
/-! ### sorted of data -/
def rSortD (K : PySem.W.Frag) : List V → Hp → VK → Prop := fun vs H Q => ∃ (β : Type) (v : β → V) (d : β → PyData) (a : Addr) (bs : List β), vs = [.ref a] ∧ SqL K H a (bs.map v) ∧ (∀ b ∈ bs, Dp K H (v b) (d b) ∧ (d b).depth ≤ 50) ∧
  PySem.W.AllAlike (bs.map d) ∧ PySem.W.Sortable (bs.map d) ∧ ∀ p, H p = none → Q (.ref p) (upd H p (.lst ((bs.mergeSort (PySem.W.dataLe false d)).map v)))
section
variable {β : Type} {v : β → V} {d : β → PyData}
theorem each_vals : ∀ {bs : List β} {its : List Value}, Vals (bs.map v) its → PySem.W.EachIs (fun (u : Value) (b : β) => RelV (v b) u) its bs
  | [], _, .nil => .nil
  | _ :: _, _, .cons r t => .cons r (each_vals t)
theorem vals_each : ∀ {bs : List β} {its : List Value}, PySem.W.EachIs (fun (u : Value) (b : β) => RelV (v b) u) its bs → Vals (bs.map v) its
  | [], _, .nil => .nil
  | _ :: _, _, .cons r t => .cons r (vals_each t)
theorem each_reads {X : Cx} {pins : List (Addr × Obj)} {σ : L2.St} {H : Hp} {s : Shared} (I : Inv X pins σ H s) : ∀ {bs : List β} {its : List Value}, Vals (bs.map v) its → (∀ b ∈ bs, Dp X.K H (v b) (d b)) → PySem.W.EachIs (fun (u : Value) (b : β) => ∃ as, Reads s.heap u (d b) as) its bs
  | [], _, .nil, _ => .nil
  | b :: _, _, .cons r t, h => .cons (Dp.reads I _ _ _ (h b (List.mem_cons_self ..)) r) (each_reads I t fun x hx => h x (List.mem_cons_of_mem _ hx))
end
theorem cr_sortD (K : PySem.W.Frag) {X : Cx} (hu : X.A.units + 64 < cLine) (hK : X.K = K := by rfl) : CallR X (.builtin "sorted") (rSortD K) := by
  subst hK
  intro pins s σ H vs us Q I r h
  obtain ⟨β, v, d, a, bs, rfl, hs, hd, al, so, q⟩ := h
  obtain ⟨u, rfl, rfl⟩ := vals1 r
  obtain ⟨its, rv, hl, hz⟩ := I.list hs
  rw [List.length_map] at hz
  refine PySem.W.sorted_data (enc := d) (R := fun (u : Value) (b : β) => RelV (v b) u) hl.isList (each_vals rv) (each_reads I rv fun b hb => (hd b hb).1) al so hz (fun b hb => ?_) fun out hlen he => ?_
  · have := (hd b hb).2
    omega
  · obtain ⟨ep, he'⟩ := PyProof.Rows.sortedAll_at s.heap its out.toArray
    have hlen2 : ((bs.mergeSort (PySem.W.dataLe false d)).map v).length ≤ sizeLine := by
      rw [List.length_map, List.length_mergeSort]
      exact hz
    exact ⟨.ref _, upd H (s.heap.objs.size + 1) (.lst ((bs.mergeSort (PySem.W.dataLe false d)).map v)), I.laid (t' := s.toks) (fun _ _ => PyProof.Rows.sortedAll_old) (Nat.le_succ _) ⟨hlen2, out, ep, vals_each he, by simpa using he'⟩, rfl, q _ (I.hok.fresh (Nat.le_succ _))⟩
end Pf


namespace Pf
open PySem PySem.Spec PyProof.Rows L2
/-! ### tuples stay -/
structure TupK (H H' : Hp) : Prop where
  tup : ∀ b xs, H b = some (.tup xs) → H' b = some (.tup xs)
  frz : ∀ b o u, H b = some (.frz o u) → H' b = some (.frz o u)
instance {H H' : Hp} : CoeFun (TupK H H') (fun _ => ∀ b xs, H b = some (.tup xs) → H' b = some (.tup xs)) := ⟨TupK.tup⟩
theorem TupK.refl {H : Hp} : TupK H H := ⟨fun _ _ e => e, fun _ _ _ e => e⟩
theorem TupK.trans {H H1 H2 : Hp} (a : TupK H H1) (b : TupK H1 H2) : TupK H H2 := ⟨fun c xs e => b.tup c xs (a.tup c xs e), fun c o u e => b.frz c o u (a.frz c o u e)⟩
theorem TupK.ext {H H' : Hp} (k : Ext H H') : TupK H H' := ⟨fun b _ e => k b _ e, fun b _ _ e => k b _ e⟩
theorem TupK.new {q : Addr} {H : Hp} {o : HO} (h : H q = none) : TupK H (upd H q o) := TupK.ext (Ext.new h)
theorem TupK.lst {q : Addr} {H : Hp} {o : HO} {ys : List V} (h : H q = some (.lst ys)) : TupK H (upd H q o) := by
  refine ⟨fun b xs e => ?_, fun b o u e => ?_⟩
  · rw [upd_ne (ne_of e h (by intro z; cases z))]
    exact e
  · rw [upd_ne (ne_of e h (by intro z; cases z))]
    exact e
theorem paired_imp {α β : Type} {R S : α → β → Prop} (h : ∀ a b, R a b → S a b) : ∀ {xs : List α} {ys : List β}, Paired R xs ys → Paired S xs ys
  | _, _, .nil => .nil
  | _, _, .cons r t => .cons (h _ _ r) (paired_imp h t)
theorem paired_get {α β : Type} {R : α → β → Prop} : ∀ {xs : List α} {ys : List β} {i : Nat} {x : α}, Paired R xs ys → xs[i]? = some x → ∃ y, ys[i]? = some y ∧ R x y
  | _, _, _, _, .nil, e => by simp at e
  | _, _, 0, _, .cons r _, e => by
    simp at e
    subst e
    exact ⟨_, rfl, r⟩
  | _, _, i + 1, x, .cons _ t, e => by
    obtain ⟨y, h1, h2⟩ := paired_get (i := i) (x := x) t (by simpa using e)
    exact ⟨y, by simpa using h1, h2⟩
theorem paired_len {α β : Type} {R : α → β → Prop} : ∀ {xs : List α} {ys : List β}, Paired R xs ys → xs.length = ys.length
  | _, _, .nil => rfl
  | _, _, .cons _ t => by rw [List.length_cons, List.length_cons, paired_len t]
theorem paired_app {α β : Type} {R : α → β → Prop} : ∀ {xs xs' : List α} {ys ys' : List β}, Paired R xs ys → Paired R xs' ys' → Paired R (xs ++ xs') (ys ++ ys')
  | _, _, _, _, .nil, s => s
  | _, _, _, _, .cons r t, s => .cons r (paired_app t s)
/-! ### things as they lie in the heap -/
def PairAt (H : Hp) (v : V) (x : Str × Int) : Prop := ∃ a, v = .ref a ∧ H a = some (.tup [.str x.1, .int x.2])
def StackAt (H : Hp) (v : V) (x : Str × Str × Int) : Prop := ∃ a, v = .ref a ∧ H a = some (.tup [.str x.1, .str x.2.1, .int x.2.2])
def TwoAt (H : Hp) (v : V) (x : Int × Int) : Prop := ∃ a, v = .ref a ∧ H a = some (.tup [.int x.1, .int x.2])
def TupOf {α : Type} (R : Hp → V → α → Prop) (H : Hp) (v : V) (xs : List α) : Prop := ∃ a vs, v = .ref a ∧ H a = some (.tup vs) ∧ Paired (R H) vs xs
def Mono {α : Type} (R : Hp → V → α → Prop) : Prop := ∀ H H' v x, TupK H H' → R H v x → R H' v x
theorem PairAt.mono : Mono PairAt := fun H H' v x k ⟨a, e, h⟩ => ⟨a, e, k _ _ h⟩
theorem StackAt.mono : Mono StackAt := fun H H' v x k ⟨a, e, h⟩ => ⟨a, e, k _ _ h⟩
theorem TwoAt.mono : Mono TwoAt := fun H H' v x k ⟨a, e, h⟩ => ⟨a, e, k _ _ h⟩
theorem TupOf.mono {α : Type} {R : Hp → V → α → Prop} (m : Mono R) : Mono (TupOf R) := fun H H' v x k ⟨a, vs, e, h, r⟩ => ⟨a, vs, e, k _ _ h, paired_imp (fun _ _ => m _ _ _ _ k) r⟩
/-- a tuple whose object is known to have no dict -/
def FrzOf {α : Type} (R : Hp → V → α → Prop) (H : Hp) (v : V) (xs : List α) : Prop := ∃ (a : Addr) (o : Obj) (vs : List V), v = .ref a ∧ H a = some (.frz o (.tup vs)) ∧ o.dict = none ∧ Paired (R H) vs xs
theorem FrzOf.mono {α : Type} {R : Hp → V → α → Prop} (m : Mono R) : Mono (FrzOf R) := fun H H' v x k ⟨a, o, vs, e, h, hd, r⟩ => ⟨a, o, vs, e, k.frz _ _ _ h, hd, paired_imp (fun _ _ => m _ _ _ _ k) r⟩
theorem SqT.fz {K : PySem.W.Frag} {H : Hp} {a : Addr} {o : Obj} {xs : List V} (h : H a = some (.frz o (.tup xs))) : SqT K H a xs := .inl (.inr ⟨o, h⟩)
def IntAt (_ : Hp) (v : V) (x : Int) : Prop := v = .int x
theorem IntAt.mono : Mono IntAt := fun _ _ _ _ _ e => e
theorem paired_ints {H : Hp} : ∀ ns : List Int, Paired (IntAt H) (ns.map V.int) ns
  | [] => .nil
  | _ :: r => .cons rfl (paired_ints r)
structure Rl where
  letters : Str
  prs : List (Str × Int)
  span : Int
  loops : List Int
  stk : List (Str × Str × Int)
def RulesAt (H : Hp) (v : V) (r : Rl) : Prop := ∃ a vp vl vs, v = .ref a ∧ H a = some (.tup [.str r.letters, vp, .int r.span, vl, vs]) ∧ FrzOf PairAt H vp r.prs ∧ TupOf IntAt H vl r.loops ∧ TupOf StackAt H vs r.stk
theorem RulesAt.mono : Mono RulesAt := fun H H' v x k ⟨a, vp, vl, vs, e, h, h1, h2, h3⟩ => ⟨a, vp, vl, vs, e, k _ _ h, FrzOf.mono PairAt.mono _ _ _ _ k h1, TupOf.mono IntAt.mono _ _ _ _ k h2, TupOf.mono StackAt.mono _ _ _ _ k h3⟩
/-- pairs as a tuple of either make -/
def PrsW (H : Hp) (v : V) (xs : List (Str × Int)) : Prop := ∃ (a : Addr) (vs : List V), v = .ref a ∧ ((∃ o, H a = some (.frz o (.tup vs))) ∨ H a = some (.tup vs)) ∧ Paired (PairAt H) vs xs
theorem PrsW.mono : Mono PrsW := fun H H' v x k ⟨a, vs, e, h, r⟩ => ⟨a, vs, e, h.elim (fun ⟨o, h⟩ => .inl ⟨o, k.frz _ _ _ h⟩) (fun h => .inr (k _ _ h)), paired_imp (fun _ _ => PairAt.mono _ _ _ _ k) r⟩
theorem SqT.w {K : PySem.W.Frag} {H : Hp} {a : Addr} {xs : List V} (h : (∃ o, H a = some (.frz o (.tup xs))) ∨ H a = some (.tup xs)) : SqT K H a xs := h.elim (fun ⟨_, h⟩ => SqT.fz h) (fun h => SqT.of h)
def RulesW (H : Hp) (v : V) (r : Rl) : Prop := ∃ a vp vl vs, v = .ref a ∧ H a = some (.tup [.str r.letters, vp, .int r.span, vl, vs]) ∧ PrsW H vp r.prs ∧ TupOf IntAt H vl r.loops ∧ TupOf StackAt H vs r.stk
theorem RulesW.mono : Mono RulesW := fun H H' v x k ⟨a, vp, vl, vs, e, h, h1, h2, h3⟩ => ⟨a, vp, vl, vs, e, k _ _ h, PrsW.mono _ _ _ _ k h1, TupOf.mono IntAt.mono _ _ _ _ k h2, TupOf.mono StackAt.mono _ _ _ _ k h3⟩
theorem RulesAt.w {H : Hp} {v : V} {r : Rl} (h : RulesAt H v r) : RulesW H v r := by
  obtain ⟨a, vp, vl, vs, e, h, ⟨ap, o, us, e1, h1, _, p⟩, h2, h3⟩ := h
  exact ⟨a, vp, vl, vs, e, h, ⟨ap, us, e1, .inl ⟨o, h1⟩, p⟩, h2, h3⟩
def Two (t : Str) : Prop := t.length = 2 ∧ Small t
structure RlOk (r : Rl) : Prop where
  let6 : r.letters.length ≤ 6
  let1 : 1 ≤ r.letters.length
  small : Small r.letters
  prs : r.prs.length ≤ 12
  pr : ∀ x ∈ r.prs, Two x.1 ∧ -99 ≤ x.2 ∧ x.2 ≤ 99
  sp0 : 0 ≤ r.span
  sp3 : r.span ≤ 3
  lo9 : r.loops.length = 9
  lo : ∀ x ∈ r.loops, -99 ≤ x ∧ x ≤ 99
  stk : r.stk.length ≤ 12
  st : ∀ x ∈ r.stk, Two x.1 ∧ Two x.2.1 ∧ -99 ≤ x.2.2 ∧ x.2.2 ≤ 99
  nd : (r.stk.map fun x => (x.1, x.2.1)).Nodup
  pn : (r.prs.map (·.1)).Nodup
/-! ### a dict by two texts -/
def encE (x : Str × Str × Int) : List Key × V := ([.inr x.1, .inr x.2.1], .int x.2.2)
def putE (es : List (Str × Str × Int)) (a b : Str) (i : Int) : List (Str × Str × Int) :=
  if (es.any fun x => decide (x.1 = a ∧ x.2.1 = b)) = true then es.map (fun x => if x.1 = a ∧ x.2.1 = b then (x.1, x.2.1, i) else x) else es ++ [(a, b, i)]
theorem encE_key (x : Str × Str × Int) (a b : Str) : ((encE x).1 = [Sum.inr a, Sum.inr b]) ↔ (x.1 = a ∧ x.2.1 = b) := by
  unfold encE
  constructor
  · intro h
    injection h with h1 h2
    injection h2 with h3 _
    exact ⟨Sum.inr.inj h1, Sum.inr.inj h3⟩
  · rintro ⟨h1, h2⟩
    rw [h1, h2]
theorem put_enc (es : List (Str × Str × Int)) (a b : Str) (i : Int) : putK (es.map encE) [Sum.inr a, Sum.inr b] (.int i) = (putE es a b i).map encE := by
  have hany : ((es.map encE).any fun kv => decide (kv.1 = [Sum.inr a, Sum.inr b])) = es.any fun x => decide (x.1 = a ∧ x.2.1 = b) := by
    rw [List.any_map]
    congr 1
    funext x
    exact decide_eq_decide.mpr (encE_key x a b)
  unfold putK putE
  rw [hany]
  by_cases h : (es.any fun x => decide (x.1 = a ∧ x.2.1 = b)) = true
  · rw [if_pos h, if_pos h, List.map_map, List.map_map]
    refine List.map_congr_left fun x _ => ?_
    show (if (encE x).1 = [Sum.inr a, Sum.inr b] then ((encE x).1, V.int i) else encE x) = encE (if x.1 = a ∧ x.2.1 = b then (x.1, x.2.1, i) else x)
    by_cases e : x.1 = a ∧ x.2.1 = b
    · rw [if_pos ((encE_key x a b).mpr e), if_pos e]
      rfl
    · rw [if_neg (fun z => e ((encE_key x a b).mp z)), if_neg e]
  · rw [if_neg h, if_neg h, List.map_append]
    rfl
theorem putE_keys (es : List (Str × Str × Int)) (a b : Str) (i : Int) (hn : (es.map fun x => (x.1, x.2.1)).Nodup) : ((putE es a b i).map fun x => (x.1, x.2.1)).Nodup := by
  unfold putE
  split
  · rw [List.map_map]
    have e : ((fun x : Str × Str × Int => (x.1, x.2.1)) ∘ fun x => if x.1 = a ∧ x.2.1 = b then (x.1, x.2.1, i) else x) = fun x => (x.1, x.2.1) := by
      funext x
      show (fun x : Str × Str × Int => (x.1, x.2.1)) (if x.1 = a ∧ x.2.1 = b then (x.1, x.2.1, i) else x) = _
      split <;> rfl
    rw [e]
    exact hn
  · rename_i h
    rw [List.map_append]
    refine List.nodup_append.mpr ⟨hn, by simp, fun x hx y hy e => ?_⟩
    obtain ⟨z, hz, rfl⟩ := List.mem_map.mp hx
    have hy' : y = (a, b) := by simpa using hy
    rw [hy'] at e
    injection e with e1 e2
    exact h (List.any_eq_true.mpr ⟨z, hz, decide_eq_true ⟨e1, e2⟩⟩)
theorem putE_len (es : List (Str × Str × Int)) (a b : Str) (i : Int) : (putE es a b i).length ≤ es.length + 1 := by
  unfold putE
  split
  · rw [List.length_map]
    omega
  · rw [List.length_append]
    exact Nat.le_refl _
theorem putE_all {Pd : Str × Str × Int → Prop} {es : List (Str × Str × Int)} {a b : Str} {i : Int} (h : ∀ x ∈ es, Pd x) (hn : Pd (a, b, i)) : ∀ x ∈ putE es a b i, Pd x := by
  intro x hx
  unfold putE at hx
  split at hx
  · obtain ⟨y, hy, rfl⟩ := List.mem_map.mp hx
    split
    · rename_i e
      rw [e.1, e.2]
      exact hn
    · exact h y hy
  · rcases List.mem_append.mp hx with hx | hx
    · exact h x hx
    · rw [List.mem_singleton.mp hx]
      exact hn
theorem val_enc {es : List (Str × Str × Int)} {a b : Str} {i : Int} (hn : (es.map fun x => (x.1, x.2.1)).Nodup) (h : (a, b, i) ∈ es) : valV (es.map encE) [Sum.inr a, Sum.inr b] = some (.int i) := by
  induction es with
  | nil => cases h
  | cons y r ih =>
    rw [List.map_cons]
    rw [List.map_cons, List.nodup_cons] at hn
    by_cases e : y.1 = a ∧ y.2.1 = b
    · rw [valV_pos ((encE_key y a b).mpr e)]
      rcases List.mem_cons.mp h with z | z
      · rw [← z]
        rfl
      · exact absurd (List.mem_map.mpr ⟨_, z, by rw [e.1, e.2]⟩) hn.1
    · rw [valV_neg (fun z => e ((encE_key y a b).mp z))]
      rcases List.mem_cons.mp h with z | z
      · rw [← z] at e
        exact absurd ⟨rfl, rfl⟩ e
      · exact ih hn.2 z
theorem map_erase {α β : Type} (f : α → β) : ∀ (xs : List α) (k : Nat), (xs.map f).eraseIdx k = (xs.eraseIdx k).map f
  | [], _ => rfl
  | _ :: _, 0 => rfl
  | x :: r, k + 1 => by
    show f x :: (r.map f).eraseIdx k = f x :: (r.eraseIdx k).map f
    rw [map_erase f r k]
theorem dpStrs {K : PySem.W.Frag} {H : Hp} : ∀ us : List Str, DpAll K H (us.map V.str) (us.map PyData.str)
  | [] => .nil
  | _ :: r => .cons (.str _) (dpStrs r)
theorem sm_strs {us : List Str} {n m : Nat} (hn : us.length ≤ n) (h : ∀ t ∈ us, Small t ∧ t.length ≤ m) (hM : n * (m + 1) ≤ 1000000) : Sm 1000000 1 (.list (us.map PyData.str)) := by
  refine Sm.lst (n := n) (m := m) (k := 0) (by rw [List.length_map]; exact hn) (fun d hd => ?_) hM
  obtain ⟨t, ht, rfl⟩ := List.mem_map.mp hd
  exact Sm.str (h t ht).1.ok (h t ht).2
theorem keys_zip {H : Hp} : ∀ {es : List (Str × Str × Int)} {bs : List Addr}, IsKeys H (es.map encE) bs → ∃ bes : List (Addr × (Str × Str × Int)), bes.map (·.1) = bs ∧ bes.map (·.2) = es ∧ ∀ x ∈ bes, H x.1 = some (.tup [.str x.2.1, .str x.2.2.1])
  | [], _, .nil => ⟨[], rfl, rfl, fun x h => by cases h⟩
  | e :: es, b :: bs, .cons r t => by
    obtain ⟨bes, h1, h2, h3⟩ := keys_zip (es := es) t
    refine ⟨(b, e) :: bes, by rw [List.map_cons, h1], by rw [List.map_cons, h2], fun x hx => ?_⟩
    rcases List.mem_cons.mp hx with rfl | hx
    · exact r
    · exact h3 x hx
theorem ixN_in {n : Nat} {i : Int} (h0 : 0 ≤ i) (h1 : i < n) : seqIndex? i n = some i.toNat := by
  refine (ixN_seq ?_).1
  unfold ixN
  rw [if_pos h0, if_pos h1]
end Pf


namespace Pf
open PySem PySem.Spec PyProof.Rows L2
/-! ### enumerate of a text -/
def ItES (x : Str) : It :=
  ⟨fun i _ => i < x.cps.size, fun i H v H' => ∃ T c, v = .ref T ∧ H T = none ∧ H' = upd H T (.tup [.int (i : Nat), .str ⟨#[c]⟩]) ∧ x.cps[i]? = some c, fun i _ => i = x.cps.size⟩
theorem turn_es {P : Program} {w : World} {K : PySem.W.Frag} {elts : List Expr} {kk : Nat} {tpos : Pos} (x : Str) (t : Tok) (e it : Addr) :
    Turn P w K (.Tuple elts kk tpos) (ItES x) [e, it] e (fun i h => (∃ old, IsEnum h e it ((i : Nat) : Int) old) ∧ h.IsStrIter it (strIterType x) x t i ∧ e ≠ it) where
  mem := by simp
  obj := fun i h st b hb => by
    obtain ⟨⟨old, he⟩, ⟨o, ho, hc, hd⟩, _⟩ := st
    have e' : b = e ∨ b = it := by simpa using hb
    cases e' with
    | inl z =>
      rw [z]
      exact ⟨_, he, fun v q => nomatch q⟩
    | inr z =>
      rw [z]
      exact ⟨o, ho, fun v q => by rw [hd] at q; cases q⟩
  keep := fun i h h' st k => by
    obtain ⟨⟨old, he⟩, ⟨o, ho, r⟩, hne⟩ := st
    exact ⟨⟨old, k e (by simp) _ he⟩, ⟨o, k it (by simp) o ho, r⟩, hne⟩
  item := by
    intro X hP hw hK hc i pins s σ H E I hf st hg
    subst hP hw hK
    obtain ⟨⟨old, he⟩, hit, hne⟩ := st
    have hel : e < s.heap.objs.size := Heap.lt_size he
    have hil : it < s.heap.objs.size := by
      obtain ⟨_, q, _⟩ := hit
      exact Heap.lt_size q
    have D := Draws.text (prog := X.prog) (w := X.w) (A := X.A.in1) (show X.A.in1.handled = none from I.ok.hd hc) it x t
    refine wpAny_pyNext_enum_itemD D he hit hg hne (by simpa using hne) fun u h' tk hu ho hit' hT hsz hk => ?_
    obtain ⟨c, t2, hcx, rfl⟩ := hu
    refine ⟨_, rfl, wpAny_letOwnedTupleGo_enum (s := { s with heap := h', toks := tk + 1 }) ho fun h'' he' sb => ?_⟩
    have hT2 := (sb.2 _ (Nat.ne_of_gt hel)).trans hT
    have new : ObjOk X.prog X.w (upd H s.heap.objs.size (.tup [.int (i : Nat), .str ⟨#[c]⟩])) h'' s.heap.objs.size (.tup [.int (i : Nat), .str ⟨#[c]⟩]) :=
      ⟨by show 2 ≤ sizeLine; decide, [.int i tk, .str ⟨#[c]⟩ t2], .cons ⟨_, rfl⟩ (.cons ⟨_, rfl⟩ .nil), ⟨_, hT2, rfl, _, rfl⟩⟩
    have I1 : Inv X pins σ (upd H s.heap.objs.size (.tup [.int (i : Nat), .str ⟨#[c]⟩])) { s with heap := h'', toks := tk + 1 } :=
      I.turnedNew (ch := [e, it]) (fun b ob hb q => (sb.2 b (fun z => hb (by simp [z]))).trans (hk b ob (fun z => hb (by simp [z])) (fun z => hb (by simp [z])) q)) hf (Nat.le_refl _) new
    obtain ⟨oi, hoi, ri⟩ := hit'
    refine ⟨.ref s.heap.objs.size, _, I1, rfl, ⟨_, c, rfl, I.hok.fresh (Nat.le_refl _), rfl, hcx⟩, ⟨⟨.str ⟨#[c]⟩ t2, ?_⟩, ⟨oi, (sb.2 it (Ne.symm hne)).trans hoi, ri⟩, hne⟩, fun b hb => ?_⟩
    · have e1 : ((i + 1 : Nat) : Int) = (i : Int) + 1 := by omega
      rw [e1]
      exact he'
    · have hb' : b < s.heap.objs.size := by
        have e' : b = e ∨ b = it := by simpa using hb
        cases e' with
        | inl z => rw [z]; exact hel
        | inr z => rw [z]; exact hil
      rw [upd_ne (Nat.ne_of_lt hb')]
      exact (hf b hb).1
  done := by
    intro X hP hw hK hc i pins s σ H E I hf st hg
    subst hP hw hK
    obtain ⟨⟨old, he⟩, hit, hne⟩ := st
    have hi : i = x.cps.size := hg
    subst hi
    obtain ⟨f0, f1, f2, f3, f4, f5⟩ := hf it (by simp)
    have D := Draws.text (prog := X.prog) (w := X.w) (A := X.A.in1) (show X.A.in1.handled = none from I.ok.hd hc) it x t
    exact wpAny_pyNext_enum_endD D he hit fun h' eb => ⟨rfl, I.turned (t' := s.toks) (fun b o hb q => eb b o hb q) f0 f1 f3 f4 f5⟩
  self := fun A i s Q E st h => by
    obtain ⟨⟨_, he⟩, _⟩ := st
    exact wpAny_pyIter_enum he h
def iEnumS (ta : TA) : TI := fun σ H R => ta σ H fun vs H1 => ∃ x, vs = [.str x] ∧ R (ItES x) H1
theorem pi_enumS {X : Cx} {e : Expr} {ta : TA} {p pos tpos : Pos} {elts : List Expr} {kk : Nat} (hg : Gl X "enumerate") (hm : X.mg "enumerate" = none) (ha : PA X [e] ta) (hs : starEach [e] X.env = [(false, eval e X.env)] := by rfl) :
    PI X (.Tuple elts kk tpos) (.Call (.Name "enumerate" p) [e] [] pos) (iEnumS ta) := by
  refine ⟨fun pins s σ H R I h => ?_⟩
  refine Call_ (ld_blt I hg hm boot_enumerate (PyProof.Rows.callWith_type1 (thn (ha.run pos pins s σ H _ I h) fun us s1 ⟨vs, H1, I1, r1, q1⟩ => ?_) hs rfl))
  obtain ⟨x, rfl, q⟩ := q1
  obtain ⟨u, rfl, t, rfl⟩ := vals1 r1
  refine call_enumerate_str fun h' he hit hsz hk => wpAny_pyIter_enum he ?_
  refine ⟨s1.heap.objs.size + 1, [s1.heap.objs.size + 1, s1.heap.objs.size], _, _, H1, rfl, I1.kept (t' := s1.toks) hk, turn_es x t (s1.heap.objs.size + 1) s1.heap.objs.size, ⟨⟨.none, he⟩, hit, Nat.succ_ne_self _⟩, fun b hb => ?_, q⟩
  have e' : b = s1.heap.objs.size + 1 ∨ b = s1.heap.objs.size := by simpa using hb
  have hle : s1.heap.objs.size ≤ b := by
    cases e' with
    | inl z => rw [z]; exact Nat.le_add_right _ _
    | inr z => rw [z]; exact Nat.le_refl _
  exact I1.fpOk hle (I1.hok.fresh hle)
theorem for_es {x : Str} {g : TG} {tb : TS} {D : Ends} {σ : L2.St} {H : Hp} (Pv : Nat → L2.St → Hp → Prop) (h0 : Pv 0 σ H)
    (hs : ∀ i c T σ H, x.cps[i]? = some c → Pv i σ H → H T = none → g (.ref T) σ (upd H T (.tup [.int (i : Nat), .str ⟨#[c]⟩])) fun σ2 H2 => tb { D with nx := Pv (i + 1), ct := Pv (i + 1), bk := D.nx } σ2 H2) (hd : ∀ σ H, Pv x.cps.size σ H → D.nx σ H) :
    ∃ W : Nat → Nat → L2.St → Hp → Prop, (∃ m, W 0 m σ H) ∧ ∀ i m σ H, W i m σ H →
      ((ItES x).stop i H ∧ D.nx σ H) ∨ ((ItES x).go i H ∧ ∃ N : L2.St → Hp → Prop, (∀ σ' H', N σ' H' → ∃ m', m' < m ∧ W (i + 1) m' σ' H') ∧ ∀ y H', (ItES x).yld i H y H' → g y σ H' fun σ2 H2 => tb { D with nx := N, ct := N, bk := D.nx } σ2 H2) := by
  refine ⟨fun i m σ H => m = x.cps.size - i ∧ i ≤ x.cps.size ∧ Pv i σ H, ⟨x.cps.size, by simp, Nat.zero_le _, h0⟩, ?_⟩
  rintro i m σ H ⟨rfl, hi, p⟩
  by_cases hlt : i < x.cps.size
  · refine .inr ⟨hlt, Pv (i + 1), fun σ' H' p' => ⟨x.cps.size - (i + 1), by omega, rfl, hlt, p'⟩, fun y H' z => ?_⟩
    obtain ⟨T, c, rfl, hT, rfl, hc⟩ := z
    exact hs i c T σ _ hc p hT
  · have e : i = x.cps.size := by omega
    subst e
    exact .inl ⟨rfl, hd σ H p⟩
theorem lc_es {x : Str} {g : TG} {tt : TT} {te : TE} {vs : List Nat} {σ : L2.St} {H1 : Hp} {D : Addr} {Qd : Hp → Prop} (Pv : Nat → Hp → Prop) (h0 : Pv 0 (upd H1 D (.lst [])))
    (hs : ∀ i c T H, x.cps[i]? = some c → Pv i H → H T = none → g (.ref T) (wipe σ vs) (upd H T (.tup [.int (i : Nat), .str ⟨#[c]⟩])) fun σ2 H2 => wipe σ2 vs = wipe σ vs ∧ tt σ2 H2 fun b H3 =>
      if b = true then te σ2 H3 fun y H4 => ∃ acc, H4 D = some (.lst acc) ∧ acc.length < sizeLine ∧ Pv (i + 1) (upd H4 D (.lst (acc ++ [y]))) else Pv (i + 1) H3) (hd : ∀ H, Pv x.cps.size H → Qd H) :
    ∃ W : Nat → Nat → Hp → Prop, (∃ m, W 0 m (upd H1 D (.lst []))) ∧ ∀ i m H, W i m H →
      ((ItES x).stop i H ∧ Qd H) ∨ ((ItES x).go i H ∧ ∃ Nx : Hp → Prop, (∀ H', Nx H' → ∃ m', m' < m ∧ W (i + 1) m' H') ∧ ∀ y H', (ItES x).yld i H y H' → g y (wipe σ vs) H' fun σ2 H2 => wipe σ2 vs = wipe σ vs ∧ tt σ2 H2 fun b H3 =>
        if b = true then te σ2 H3 fun y H4 => ∃ acc, H4 D = some (.lst acc) ∧ acc.length < sizeLine ∧ Nx (upd H4 D (.lst (acc ++ [y]))) else Nx H3) := by
  refine ⟨fun i m H => m = x.cps.size - i ∧ i ≤ x.cps.size ∧ Pv i H, ⟨x.cps.size, by simp, Nat.zero_le _, h0⟩, ?_⟩
  rintro i m H ⟨rfl, hi, p⟩
  by_cases hlt : i < x.cps.size
  · refine .inr ⟨hlt, Pv (i + 1), fun H' p' => ⟨x.cps.size - (i + 1), by omega, rfl, hlt, p'⟩, fun y H' z => ?_⟩
    obtain ⟨T, c, rfl, hT, rfl, hc⟩ := z
    exact hs i c T _ hc p hT
  · have e : i = x.cps.size := by omega
    subst e
    exact .inl ⟨rfl, hd H p⟩
/-! ### a text backwards: some text, no longer -/
def tRevS (te : TE) : TE := fun σ H Q => te σ H fun x H1 => ∃ z : Str, x = .str z ∧ z.length ≤ sizeLine ∧ ∀ y : Str, y.length ≤ z.length → (∀ c ∈ y.cps.toList, c ∈ z.cps.toList) → Q (.str y) H1
theorem sliceBy_mem (x : Str) (l u : Option (Int × Tok)) (st : Int × Tok) : ∀ c ∈ (Txt.sliceBy x l u st).cps.toList, c ∈ x.cps.toList := by
  intro c hc
  unfold Txt.sliceBy at hc
  split at hc
  · exact hc
  · have hc : c ∈ List.filterMap (x.cps[·]?) _ := hc
    obtain ⟨i, _, hi⟩ := List.mem_filterMap.mp hc
    exact Array.mem_toList_iff.mpr (Array.mem_of_getElem? hi)
theorem pe_revS {X : Cx} {e : Expr} {te : TE} {k : Nat} {p1 p2 p3 pos : Pos} (he : PE X e te) : PE X (.Subscript e (.Slice none none (some (.UnaryOp .USub (.Constant (.int 1) k p1) p2)) p3) pos) (tRevS te) := by
  refine ⟨fun pins s σ H Q I h => ?_⟩
  refine Subscript_ (thn (he.run pins s σ H _ I h) fun v s1 ⟨x, H1, I1, r1, q1⟩ => ?_)
  obtain ⟨z, rfl, hz, q⟩ := q1
  obtain ⟨t, rfl⟩ := r1
  have hst : PO X (some (.UnaryOp .USub (.Constant (.int 1) k p1) p2)) (tPart (tUn (rU fun i => .int (-i)) (tC (.int 1)))) := po_some (pe_un un_neg pe_int)
  refine wpAny_Slice (thn (po_none.run pins s1 σ H1 (fun o H2 => o = none ∧ H2 = H1) I1 ⟨rfl, rfl⟩) fun vl s2 ⟨l, H2, I2, pl, el, e2⟩ => ?_)
  subst el e2
  refine thn (po_none.run pins s2 σ H2 (fun o H3 => o = none ∧ H3 = H2) I2 ⟨rfl, rfl⟩) fun vu s3 ⟨u, H3, I3, pu, eu, e3⟩ => ?_
  subst eu e3
  refine thn (hst.run pins s3 σ H3 (fun o H4 => o = some (-1) ∧ H4 = H3) I3 ⟨1, rfl, -1, rfl, rfl, rfl⟩) fun vs s4 ⟨o, H4, I4, ps, eo, e4⟩ => ?_
  subst eo e4
  cases pl
  cases pu
  cases ps with
  | int i t5 =>
    refine tail_any (ops := [.str z t, .ref s4.heap.objs.size]) (typeIs_str _ _ _) (PySem.F.slot_str_getitem.lookup) ?_ (by with_unfolding_all rfl)
    refine wpAny_getItem_str_slice (l := none) (u := none) (st := some (-1, t5)) ⟨_, Heap.get?_push_size _ rfl, rfl, rfl⟩ rfl ?_
    refine post_val_or_str ⟨Nat.le_trans (Txt.sliceBy_le z none none (-1, t5) (show (-1 : Int) ≠ 0 by decide)) hz, fun t6 tk => ?_⟩
    exact ⟨.str _, H4, (I4.kept (t' := tk) fun b ob q => Heap.get?_push_of_some _ q), ⟨_, rfl⟩, q _ (Txt.sliceBy_le z none none (-1, t5) (show (-1 : Int) ≠ 0 by decide)) (sliceBy_mem z none none (-1, t5))⟩
end Pf


namespace Pf
open PySem PySem.Spec PyProof.Rows L2
/-! ### enumerate of a tuple -/
abbrev EnO (a : Addr) : Obj := { cls := .type "enumerate", data := .fields #[.none, .bool false, .ref a, rawInt 0, .none, .none] }
theorem meets_en1 {u : Value} {ob : Obj} {G : Heap → Prop} (B : Begins u ob G) : Meets (Builtin.«enumerate.__new__» ⟨[.type "enumerate", u], []⟩) (fun _ R s => G s.heap ∧ R (.ok (.ret (.ref (s.heap.push ob).objs.size))) { s with heap := (s.heap.push ob).push (EnO s.heap.objs.size) }) :=
  .of_wp fun prog w A R s z => by
    obtain ⟨hp, g, d, tk, os⟩ := s
    obtain ⟨z1, z⟩ := z
    have hse := sub_enumerate
    have q : ∀ {A' : Around} {E : Value → Shared → Prop} {Q : Value → Shared → Prop}, Q (.ref hp.objs.size) ⟨hp.push ob, g, d, tk, os⟩ → wpAny (model prog w) A' (pyIter u) Q E ⟨hp, g, d, tk, os⟩ := fun r => B.iter prog w _ _ ⟨hp, g, d, tk, os⟩ _ z1 r
    wp_walk using q
    refine wpAny_stack_any fun sk => wpAny_pure ?_
    split
    · rename_i c _ _ _ _ _
      cases ec : (c == Value.type "enumerate")
      · wp_walk using q
        exact ⟨_, rfl, z⟩
      · wp_walk using q
        exact ⟨_, rfl, z⟩
    · wp_walk using q
      exact ⟨_, rfl, z⟩
theorem en1_begins {P : Program} {w : World} {A : Around} {E : Value → Shared → Prop} {s : Shared} {u : Value} {ob : Obj} {G : Heap → Prop} {Q : Value → Shared → Prop} (B : Begins u ob G) (z1 : G s.heap)
    (z : ∀ h', IsEnum h' (s.heap.objs.size + 1) s.heap.objs.size 0 .none → h'.get? s.heap.objs.size = some ob → h'.objs.size = s.heap.objs.size + 2 → (∀ b o, s.heap.get? b = some o → h'.get? b = some o) → Q (.ref (s.heap.objs.size + 1)) { s with heap := h' }) :
    wpAny (model P w) A (call (.type "enumerate") [u]) Q E s := by
  refine callType_new F.called_enumerate (by decide) (F.typeCall_enumerate_1 _) (F.newCall_enumerate_1 _) (fun obj => F.args_object_init_2 obj _) F.entry_enumerate_new (meets_en1 B) ⟨z1, ?_⟩
  have e1 : (s.heap.push ob).objs.size = s.heap.objs.size + 1 := Heap.size_push ..
  show _ ∧ _
  rw [e1]
  have hen : IsEnum ((s.heap.push ob).push (EnO s.heap.objs.size)) (s.heap.objs.size + 1) s.heap.objs.size 0 .none := by
    have := Heap.get?_push_size (s.heap.push ob) (o := EnO s.heap.objs.size) rfl
    rw [e1] at this
    exact this
  exact ⟨⟨_, hen, rfl⟩, z _ hen (Heap.get?_push_of_some _ (Heap.get?_push_size _ B.free)) (by rw [Heap.size_push, e1]) fun b o y => Heap.get?_push_of_some _ (Heap.get?_push_of_some _ y)⟩
def ItET (K : PySem.W.Frag) (a : Addr) : It :=
  ⟨fun i H => ∃ (xs : List V) (x : V), SqT K H a xs ∧ xs[i]? = some x, fun i H v H' => ∃ T x, v = .ref T ∧ H T = none ∧ H' = upd H T (.tup [.int (i : Nat), x]) ∧ ∀ xs, SqT K H a xs → xs[i]? = some x, fun i H => ∃ xs : List V, SqT K H a xs ∧ xs.length = i⟩
theorem turn_et {P : Program} {w : World} {K : PySem.W.Frag} {elts : List Expr} {kk : Nat} {tpos : Pos} (a e it : Addr) :
    Turn P w K (.Tuple elts kk tpos) (ItET K a) [e, it] e (fun i h => (∃ old, IsEnum h e it ((i : Nat) : Int) old) ∧ h.IsTupleIter it a i ∧ e ≠ it ∧ e ≠ a ∧ a ≠ it) where
  mem := by simp
  obj := fun i h st b hb => by
    obtain ⟨⟨old, he⟩, ⟨o, ho, hc, hd⟩, _⟩ := st
    have e' : b = e ∨ b = it := by simpa using hb
    cases e' with
    | inl z =>
      rw [z]
      exact ⟨_, he, fun v q => nomatch q⟩
    | inr z =>
      rw [z]
      exact ⟨o, ho, fun v q => by rw [hd] at q; cases q⟩
  keep := fun i h h' st k => by
    obtain ⟨⟨old, he⟩, ⟨o, ho, r⟩, hne⟩ := st
    exact ⟨⟨old, k e (by simp) _ he⟩, ⟨o, k it (by simp) o ho, r⟩, hne⟩
  item := by
    intro X hP hw hK hc i pins s σ H E I hf st hg
    subst hP hw hK
    obtain ⟨⟨old, he⟩, hit, hne, hea, hai⟩ := st
    obtain ⟨xs, x, hq, hx⟩ := hg
    obtain ⟨its, rv, pt, hz⟩ := I.tuple hq
    obtain ⟨u, hu, ru⟩ := rv.get hx
    have hel : e < s.heap.objs.size := Heap.lt_size he
    have hil : it < s.heap.objs.size := by
      obtain ⟨_, q, _⟩ := hit
      exact Heap.lt_size q
    have hti : s.heap.IsTuple a its.toArray := pt
    have D := Draws.tuple (prog := X.prog) (w := X.w) (A := X.A.in1) (show X.A.in1.handled = none from I.ok.hd hc) it a hai its.toArray
    refine wpAny_pyNext_enum_itemD D he ⟨hit, hti⟩ (by have := (List.getElem?_eq_some_iff.mp hu).1; simpa using this) hne (by simp [hne, hea]) fun y h' tk hy ho hit' hT hsz hk => ?_
    have ey : y = u := by
      have h2 : its[i]? = some y := by simpa using hy
      rw [hu] at h2
      exact (Option.some.inj h2).symm
    subst ey
    refine ⟨_, rfl, wpAny_letOwnedTupleGo_enum (s := { s with heap := h', toks := tk + 1 }) ho fun h'' he' sb => ?_⟩
    have hT2 := (sb.2 _ (Nat.ne_of_gt hel)).trans hT
    have new : ObjOk X.prog X.w (upd H s.heap.objs.size (.tup [.int (i : Nat), x])) h'' s.heap.objs.size (.tup [.int (i : Nat), x]) :=
      ⟨by show 2 ≤ sizeLine; decide, [.int i tk, y], .cons ⟨_, rfl⟩ (.cons ru .nil), ⟨_, hT2, rfl, _, rfl⟩⟩
    have I1 : Inv X pins σ (upd H s.heap.objs.size (.tup [.int (i : Nat), x])) { s with heap := h'', toks := tk + 1 } :=
      I.turnedNew (ch := [e, it]) (fun b ob hb q => (sb.2 b (fun z => hb (by simp [z]))).trans (hk b ob (fun z => hb (by simp [z])) (fun z => hb (by simp [z])) q)) hf (Nat.le_refl _) new
    obtain ⟨oi, hoi, ri⟩ := hit'.1
    refine ⟨.ref s.heap.objs.size, _, I1, rfl, ⟨_, x, rfl, I.hok.fresh (Nat.le_refl _), rfl, fun ys hy => by rw [I.tuple_inj hy hq]; exact hx⟩, ⟨⟨y, ?_⟩, ⟨oi, (sb.2 it (Ne.symm hne)).trans hoi, ri⟩, hne, hea, hai⟩, fun b hb => ?_⟩
    · have e1 : ((i + 1 : Nat) : Int) = (i : Int) + 1 := by omega
      rw [e1]
      exact he'
    · have hb' : b < s.heap.objs.size := by
        have e' : b = e ∨ b = it := by simpa using hb
        cases e' with
        | inl z => rw [z]; exact hel
        | inr z => rw [z]; exact hil
      rw [upd_ne (Nat.ne_of_lt hb')]
      exact (hf b hb).1
  done := by
    intro X hP hw hK hc i pins s σ H E I hf st hg
    subst hP hw hK
    obtain ⟨⟨old, he⟩, hit, hne, hea, hai⟩ := st
    obtain ⟨xs, hq, hx⟩ := hg
    obtain ⟨its, rv, pt, hz⟩ := I.tuple hq
    have hln := rv.length
    obtain ⟨f0, f1, f2, f3, f4, f5⟩ := hf it (by simp)
    have hti : s.heap.IsTuple a its.toArray := pt
    have D := Draws.tuple (prog := X.prog) (w := X.w) (A := X.A.in1) (show X.A.in1.handled = none from I.ok.hd hc) it a hai its.toArray
    have ei : its.toArray.size = i := by
      rw [List.size_toArray]
      omega
    exact wpAny_pyNext_enum_endD D he ⟨by rw [ei]; exact hit, hti⟩ fun h' eb => ⟨rfl, I.turned (t' := s.toks) (fun b o hb q => eb b o hb q) f0 f1 f3 f4 f5⟩
  self := fun A i s Q E st h => by
    obtain ⟨⟨_, he⟩, _⟩ := st
    exact wpAny_pyIter_enum he h
def iEnumT (K : PySem.W.Frag) (ta : TA) : TI := fun σ H R => ta σ H fun vs H1 => ∃ a xs, vs = [.ref a] ∧ SqT K H1 a xs ∧ R (ItET K a) H1
theorem pi_enumT {X : Cx} {e : Expr} {ta : TA} {p pos tpos : Pos} {elts : List Expr} {kk : Nat} (hg : Gl X "enumerate") (hm : X.mg "enumerate" = none) (ha : PA X [e] ta) (hs : starEach [e] X.env = [(false, eval e X.env)] := by rfl) :
    PI X (.Tuple elts kk tpos) (.Call (.Name "enumerate" p) [e] [] pos) (iEnumT X.K ta) := by
  refine ⟨fun pins s σ H R I h => ?_⟩
  refine Call_ (ld_blt I hg hm boot_enumerate (PyProof.Rows.callWith_type1 (thn (ha.run pos pins s σ H _ I h) fun us s1 ⟨vs, H1, I1, r1, q1⟩ => ?_) hs rfl))
  obtain ⟨a, xs, rfl, hq, q⟩ := q1
  obtain ⟨u, rfl, er⟩ := vals1 r1
  cases er
  obtain ⟨its, rv, pt, hz⟩ := I1.tuple hq
  have hti : s1.heap.IsTuple a its.toArray := pt
  have hal : a < s1.heap.objs.size := by
    obtain ⟨_, q, _⟩ := hti
    exact Heap.lt_size q
  refine en1_begins (begins_tuple a its.toArray) hti fun h' he hit hsz hk => wpAny_pyIter_enum he ?_
  refine ⟨s1.heap.objs.size + 1, [s1.heap.objs.size + 1, s1.heap.objs.size], _, _, H1, rfl, I1.kept (t' := s1.toks) hk, turn_et a (s1.heap.objs.size + 1) s1.heap.objs.size, ⟨⟨.none, he⟩, ⟨_, hit, rfl, rfl⟩, Nat.succ_ne_self _, Nat.ne_of_gt (Nat.lt_succ_of_lt hal), Nat.ne_of_lt hal⟩, fun b hb => ?_, q⟩
  have e' : b = s1.heap.objs.size + 1 ∨ b = s1.heap.objs.size := by simpa using hb
  have hle : s1.heap.objs.size ≤ b := by
    cases e' with
    | inl z => rw [z]; exact Nat.le_add_right _ _
    | inr z => rw [z]; exact Nat.le_refl _
  exact I1.fpOk hle (I1.hok.fresh hle)
theorem walk_et {K : PySem.W.Frag} {a : Addr} {xs : List V} : Walk (ItET K a) xs.length (fun H => SqT K H a xs) (YPair (fun i => some (.int (i : Nat))) (fun i => xs[i]?)) :=
  ⟨fun i H hi q => ⟨xs, _, q, List.getElem?_eq_getElem hi⟩, fun H q => ⟨xs, q, rfl⟩, fun i H x H' hi q ⟨T, y, e1, e2, e3, e4⟩ => ⟨T, _, y, e1, e2, e3, rfl, e4 xs q⟩⟩
theorem walk_zt {K : PySem.W.Frag} {a b : Addr} {xs ys : List V} {n : Nat} (hn : n = min xs.length ys.length) : Walk (RZ.ItzT K a b) n (fun H => SqT K H a xs ∧ SqT K H b ys) (YPair (fun i => xs[i]?) (fun i => ys[i]?)) := by
  subst hn
  refine ⟨fun i H hi q => ⟨xs, ys, _, _, q.1, q.2, List.getElem?_eq_getElem (by omega), List.getElem?_eq_getElem (by omega)⟩, fun H q => ⟨xs, ys, q.1, q.2, by omega⟩, fun i H x H' hi q ⟨T, y, z, e1, e2, e3, e4, e5⟩ => ⟨T, y, z, e1, e2, e3, e4 xs q.1, e5 ys q.2⟩⟩
/-! ### two fors in a comprehension -/
def LcIn (J1 : It) (g1 : TG) (tt1 : TT) (te : TE) (vs1 : List Nat) (σ2 : L2.St) (D : Addr) (H4 : Hp) (Nx : Hp → Prop) : Prop := ∃ W1 : Nat → Nat → Hp → Prop, (∃ m, W1 0 m H4) ∧ ∀ j k H, W1 j k H →
  (J1.stop j H ∧ Nx H) ∨ (J1.go j H ∧ ∃ Nx1 : Hp → Prop, (∀ H', Nx1 H' → ∃ k', k' < k ∧ W1 (j + 1) k' H') ∧ ∀ x H', J1.yld j H x H' → g1 x (wipe σ2 vs1) H' fun σ3 H5 => wipe σ3 vs1 = wipe σ2 vs1 ∧ tt1 σ3 H5 fun b H6 => if b = true then te σ3 H6 fun y H7 => ∃ acc, H7 D = some (.lst acc) ∧ acc.length < sizeLine ∧ Nx1 (upd H7 D (.lst (acc ++ [y]))) else Nx1 H6)
theorem lc_in {J1 : It} {n : Nat} {G : Hp → Prop} {Y : Nat → Hp → V → Hp → Prop} (w : Walk J1 n G Y) {g1 : TG} {tt1 : TT} {te : TE} {vs1 : List Nat} {σ2 : L2.St} {D : Addr} {H4 : Hp} {Nx : Hp → Prop} (Pv : Nat → Hp → Prop) (h0 : Pv 0 H4) (hG : ∀ i H, i ≤ n → Pv i H → G H)
    (hs : ∀ i x H H', i < n → Pv i H → Y i H x H' → g1 x (wipe σ2 vs1) H' fun σ3 H5 => wipe σ3 vs1 = wipe σ2 vs1 ∧ tt1 σ3 H5 fun b H6 => if b = true then te σ3 H6 fun y H7 => ∃ acc, H7 D = some (.lst acc) ∧ acc.length < sizeLine ∧ Pv (i + 1) (upd H7 D (.lst (acc ++ [y]))) else Pv (i + 1) H6)
    (hd : ∀ H, Pv n H → Nx H) : LcIn J1 g1 tt1 te vs1 σ2 D H4 Nx := by
  refine ⟨fun i m H => m = n - i ∧ i ≤ n ∧ Pv i H, ⟨n, rfl, Nat.zero_le _, h0⟩, ?_⟩
  rintro i m H ⟨rfl, hi, pv⟩
  have hq := hG i H hi pv
  by_cases hlt : i < n
  · exact .inr ⟨w.goes i H hlt hq, Pv (i + 1), fun H' p' => ⟨n - (i + 1), by omega, rfl, hlt, p'⟩, fun x H' y => hs i x H H' hlt pv (w.yields i H x H' hlt hq y)⟩
  · obtain rfl : i = n := by omega
    exact .inl ⟨w.stops H hq, hd H pv⟩
theorem lc_two {J : It} {n : Nat} {G : Hp → Prop} {Y : Nat → Hp → V → Hp → Prop} (w : Walk J n G Y) {g : TG} {tt : TT} {wi1 : TI} {g1 : TG} {tt1 : TT} {te : TE} {vs vs1 : List Nat} {σ : L2.St} {H1 : Hp} {D : Addr} {Qd : Hp → Prop} (Pv : Nat → Hp → Prop) (h0 : Pv 0 (upd H1 D (.lst []))) (hG : ∀ i H, i ≤ n → Pv i H → G H)
    (hs : ∀ i x H H', i < n → Pv i H → Y i H x H' → g x (wipe σ vs) H' fun σ2 H2 => wipe σ2 vs = wipe σ vs ∧ tt σ2 H2 fun b H3 => if b = true then wi1 σ2 H3 fun J1 H4 => LcIn J1 g1 tt1 te vs1 σ2 D H4 (Pv (i + 1)) else Pv (i + 1) H3)
    (hd : ∀ H, Pv n H → Qd H) :
    ∃ W : Nat → Nat → Hp → Prop, (∃ m, W 0 m (upd H1 D (.lst []))) ∧ ∀ i m H, W i m H → (J.stop i H ∧ Qd H) ∨ (J.go i H ∧ ∃ Nx : Hp → Prop, (∀ H', Nx H' → ∃ m', m' < m ∧ W (i + 1) m' H') ∧ ∀ x H', J.yld i H x H' → g x (wipe σ vs) H' fun σ2 H2 => wipe σ2 vs = wipe σ vs ∧ tt σ2 H2 fun b H3 =>
      if b = true then wi1 σ2 H3 fun J1 H4 => LcIn J1 g1 tt1 te vs1 σ2 D H4 Nx else Nx H3) := by
  refine ⟨fun i m H => m = n - i ∧ i ≤ n ∧ Pv i H, ⟨n, rfl, Nat.zero_le _, h0⟩, ?_⟩
  rintro i m H ⟨rfl, hi, pv⟩
  have hq := hG i H hi pv
  by_cases hlt : i < n
  · exact .inr ⟨w.goes i H hlt hq, Pv (i + 1), fun H' p' => ⟨n - (i + 1), by omega, rfl, hlt, p'⟩, fun x H' y => hs i x H H' hlt pv (w.yields i H x H' hlt hq y)⟩
  · obtain rfl : i = n := by omega
    exact .inl ⟨w.stops H hq, hd H pv⟩
/-! ### tuples of numbers compared; truths by identity -/
theorem ltT (K : PySem.W.Frag) {X : Cx} (hu : X.A.units < cLine) (h : X.K = K := by rfl) : OpR X (compareOp .Lt) (rLtT K) := h ▸ op_ltT hu
theorem lex2 (a b c d : Int) : HT.lexLt [a, b] [c, d] = decide (a < c ∨ (a = c ∧ b < d)) := by
  rw [HT.lexLt_cons, HT.lexLt_cons, HT.lexLt_nil_nil]
  by_cases e : a = c
  · rw [if_pos e]
    by_cases e2 : b = d
    · rw [if_pos e2]
      exact (decide_eq_false (by omega)).symm
    · rw [if_neg e2]
      exact decide_eq_decide.mpr (by omega)
  · rw [if_neg e]
    exact decide_eq_decide.mpr (by omega)
/-! ### parts of tuples -/
theorem piT (K : PySem.W.Frag) {X : Cx} {tg l : Expr} {tl : TE} (hl : PE X l tl) (h : X.K = K := by rfl) : PI X tg l (iTup K tl) := by
  subst h
  exact pi_tup hl
theorem piL (K : PySem.W.Frag) {X : Cx} {tg l : Expr} {tl : TE} (hl : PE X l tl) (h : X.K = K := by rfl) : PI X tg l (iList K tl) := by
  subst h
  exact pi_list hl
/-- a part of a tuple: the same one, or another -/
def rSlE (K : PySem.W.Frag) : V → Option Int → Option Int → Hp → VK → Prop := fun x lo hi H Q => ∃ a xs, x = .ref a ∧ H a = some (.tup xs) ∧ ∀ p H', Ext H H' → H' p = some (.tup (cutV xs lo hi)) → Q (.ref p) H'
theorem slE (K : PySem.W.Frag) {X : Cx} (h : X.K = K := by rfl) : SlR X (rSlE K) := fun pins s σ H x v vl vu lo hi sl Q I rx hs pl pu ⟨a, xs, ex, ha, q⟩ => by
  refine slA K h pins s σ H x v vl vu lo hi sl Q I rx hs pl pu ⟨a, xs, ex, SqT.of ha, fun z => ?_, fun _ p hp => q p _ (Ext.new hp) upd_same⟩
  refine q a H Ext.refl ?_
  have e : cutV xs lo hi = xs := by
    unfold cutV
    rw [z.1, z.2, List.drop_zero, Nat.sub_zero, List.take_length]
  rw [e]
  exact ha
theorem cut_from {xs : List V} {k : Nat} : cutV xs (some (k : Int)) none = xs.drop k := by
  unfold cutV
  have e1 : HT.sIx xs.length 0 (some (k : Int)) = min k xs.length := HT.sIx_nat _ _ _
  have e2 : HT.sIx xs.length xs.length none = xs.length := rfl
  rw [e1, e2, List.take_of_length_le (by rw [List.length_drop]; omega)]
  by_cases h : k ≤ xs.length
  · rw [Nat.min_eq_left h]
  · rw [Nat.min_eq_right (by omega), List.drop_length, List.drop_eq_nil_of_le (by omega)]
theorem cut_to {xs : List V} {k : Nat} : cutV xs none (some (k : Int)) = xs.take k := by
  unfold cutV
  have e1 : HT.sIx xs.length 0 none = 0 := rfl
  have e2 : HT.sIx xs.length xs.length (some (k : Int)) = min k xs.length := HT.sIx_nat _ _ _
  rw [e1, e2, List.drop_zero, Nat.sub_zero]
  by_cases h : k ≤ xs.length
  · rw [Nat.min_eq_left h]
  · rw [Nat.min_eq_right (by omega), List.take_length, List.take_of_length_le (by omega)]
theorem paired_take {α β : Type} {R : α → β → Prop} : ∀ {xs : List α} {ys : List β} (k : Nat), Paired R xs ys → Paired R (xs.take k) (ys.take k)
  | _, _, 0, _ => by rw [List.take_zero, List.take_zero]; exact .nil
  | _, _, k + 1, .nil => by rw [List.take_nil, List.take_nil]; exact .nil
  | _, _, k + 1, .cons r t => by rw [List.take_succ_cons, List.take_succ_cons]; exact .cons r (paired_take k t)
theorem paired_drop {α β : Type} {R : α → β → Prop} : ∀ {xs : List α} {ys : List β} (k : Nat), Paired R xs ys → Paired R (xs.drop k) (ys.drop k)
  | _, _, 0, h => by rw [List.drop_zero, List.drop_zero]; exact h
  | _, _, k + 1, .nil => by rw [List.drop_nil, List.drop_nil]; exact .nil
  | _, _, k + 1, .cons r t => by rw [List.drop_succ_cons, List.drop_succ_cons]; exact paired_drop k t
/-- two tuples put together: one of them, or another -/
def rCatE (K : PySem.W.Frag) : R2 := fun x y H Q => ∃ a b xs ys, x = .ref a ∧ y = .ref b ∧ H a = some (.tup xs) ∧ H b = some (.tup ys) ∧ xs.length + ys.length ≤ sizeLine ∧ ∀ p H', Ext H H' → H' p = some (.tup (xs ++ ys)) → Q (.ref p) H'
theorem catE (K : PySem.W.Frag) {X : Cx} (h : X.K = K := by rfl) : OpR X (binaryOp .Add) (rCatE K) := fun pins s σ H x y v u Q I rx ry ⟨a, b, xs, ys, ex, ey, ha, hb, hz, q⟩ => by
  refine catA K h pins s σ H x y v u Q I rx ry ⟨a, b, xs, ys, ex, ey, SqT.of ha, SqT.of hb, hz, fun z => ?_, fun _ z => ?_, fun _ _ p hp => q p _ (Ext.new hp) upd_same⟩
  · exact q b H Ext.refl (by rw [z]; exact hb)
  · exact q a H Ext.refl (by rw [z, List.append_nil]; exact ha)
end Pf


namespace Pf
open PySem PySem.Spec PyProof.Rows L2
/-! ### sorting tuples, the first of them empty -/
section
open PySem.W PySem.SeqAt PySem.Calls
variable {prog : Program} {w : World} {A : Around} {E : Value → Shared → Prop} {s : Shared}
theorem tup_lt1 {Q : Bool → Shared → Prop} {a b : Value} {xs ys : List PyData} {as bs : List Addr} (ra : Reads s.heap a (.tuple xs) as) (rb : Reads s.heap b (.tuple ys) bs) (hal : alikeAll xs ys = true)
    (hu : A.units + min (PyData.tuple xs).depth (PyData.tuple ys).depth < cLine) (hq : Q (dataLt (.tuple xs) (.tuple ys)) s) : wpAny (model prog w) A (oneLt' true a b) Q E s := by
  cases ra with
  | @tuple l o vs n _ as₁ h1 h2 h3 h4 =>
    cases rb with
    | @tuple m p ws k _ bs₁ g1 g2 g3 g4 =>
      have z1 : vs.size = xs.length := by simpa using ReadsAll.length _ _ _ h4
      have z2 : ws.size = ys.length := by simpa using ReadsAll.length _ _ _ g4
      rw [dataLt_tuple, ← firstLt_toks xs ys hal, ← z1, ← z2] at hq
      obtain ⟨ocls, odd, odata, osl⟩ := o
      obtain ⟨pcls, pdd, pdata, psl⟩ := p
      simp only at h2 h3 g2 g3
      subst h2 h3 g2 g3
      rw [oneLt'_eq]
      simp only [if_true]
      refine wpAny_bind (wpAny_cRoomFor (room_here hu) (wpAny_bind (wpAny_callSpecialIfBound?_slot (T := "tuple") ⟨_, h1, rfl⟩ F.slot_tuple_lt ?_)))
      refine call_meets F.slot_tuple_lt ⟨_, h1, rfl⟩ F.entry_tuple_lt (F.args_tuple_lt_2 _ _) (tuple_ltAt l m vs ws n k odd pdd osl psl (pairEq xs ys) (fun j => dataLt (xs.getD j .none) (ys.getD j .none))) ⟨h1, g1, fun j j1 j2 => ?_, fun j j1 j2 hj => ?_, wpAny_truthy_bool hq⟩
      · have y := eqAt_alikeAll xs ys A.in1 s vs.toList ws.toList _ _ h4 g4 hal (room_in hu) j (by simpa using j1) (by simpa using j2)
        simpa using y
      · have y := rcLt_alikeAll xs ys A.in1 s vs.toList ws.toList _ _ h4 g4 hal (room_in hu) j (by simpa using j1) (by simpa using j2) hj
        simpa using y
theorem ft_at {M : Model} {v : Value} {ds : List PyData} {as : List Addr} (r : Reads s.heap v (.tuple ds) as) : ∃ f : Option Value, (ds = [] → f = none) ∧ ∀ Q : Option Value → Shared → Prop, Q f s → wpAny M A (firstOfTuple' v) Q E s := by
  cases r with
  | @tuple a o xs n _ _ ho hc hd hr =>
    refine ⟨xs[0]?, fun e => ?_, fun Q q => ?_⟩
    · subst e
      cases q : xs.toList with
      | nil =>
        rw [← Array.getElem?_toList, q]
        rfl
      | cons f fr =>
        rw [q] at hr
        cases hr
    · rw [kas_first_eq]
      refine wpAny_bind (Looks.here (show Looks M s.heap (typeOf (.ref a)) o.cls from (Looks.ld ho).andThen .now) ?_)
      rw [hc, if_neg (by simp)]
      exact wpAny_bind (listItems_at ho hd (wpAny_pure q))
theorem fts_at {M : Model} : ∀ {vs : List Value} {ds : List PyData}, EachIs (fun v d => ∃ as, Reads s.heap v d as) vs ds → (∀ d ∈ ds, ∃ xs, d = .tuple xs) → ∃ fs : List (Option Value), (∀ r, ds = .tuple [] :: r → ∃ t, fs = none :: t) ∧ ∀ Q : List (Option Value) → Shared → Prop, Q fs s → wpAny M A (vs.mapM firstOfTuple') Q E s
  | _, _, .nil, _ => ⟨[], (fun r z => by cases z), fun Q q => by rw [List.mapM_nil]; exact wpAny_pure q⟩
  | _, _, .cons (b := d) ⟨as, r⟩ t, ht => by
    obtain ⟨fs, _, h2⟩ := fts_at (M := M) t fun d hd => ht d (List.mem_cons_of_mem _ hd)
    obtain ⟨xs, rfl⟩ := ht d (List.mem_cons_self ..)
    obtain ⟨f, e1, e2⟩ := ft_at (M := M) (A := A) (E := E) r
    refine ⟨f :: fs, fun r z => ⟨fs, ?_⟩, fun Q q => ?_⟩
    · injection z with z _
      injection z with z
      rw [e1 z]
    · rw [List.mapM_cons]
      exact wpAny_bind (e2 _ (wpAny_bind (h2 _ (wpAny_pure q))))
theorem kind_empt {M : Model} {vs : List Value} {ds : List PyData} {Q : SortKind → Shared → Prop} (e : EachIs (fun v d => ∃ as, Reads s.heap v d as) vs (.tuple [] :: ds)) (ht : ∀ d ∈ PyData.tuple [] :: ds, ∃ xs, d = .tuple xs) (q : Q oneType' s) : wpAny M A (keyKind' vs.toArray) Q E s := by
  obtain ⟨fs, h1, h2⟩ := fts_at (M := M) (A := A) (E := E) e ht
  obtain ⟨t, rfl⟩ := h1 ds rfl
  obtain ⟨v0, vr, rfl⟩ : ∃ v0 vr, vs = v0 :: vr := by
    cases e with
    | cons z zs => exact ⟨_, _, rfl⟩
  rw [keyKind'_eq, List.mapM_toArray, map_eq_pure_bind]
  refine wpAny_bind (wpAny_bind (h2 _ (wpAny_pure ?_)))
  rw [if_neg (by simp), if_neg (by simp), oneTypeOnly'_eq, List.mapM_toArray, map_eq_pure_bind]
  refine wpAny_bind (wpAny_bind (wpAny_bind (kas_mapM (r := Value.type "tuple") _ (fun v hv Q' hq => ?_) (wpAny_pure ?_))))
  · obtain ⟨d, hd, as, r⟩ := e.left v hv
    obtain ⟨xs, rfl⟩ := ht d hd
    exact (looks_reads r).here hq
  · have h0 : (List.map (fun _ => Value.type "tuple") (v0 :: vr)).toArray[0]? = some (Value.type "tuple") := by simp
    rw [h0]
    have ha : ((List.map (fun _ : Value => Value.type "tuple") (v0 :: vr)).toArray.all fun x => x == Value.type "tuple") = true := by
      simp only [List.all_toArray, List.all_map, List.all_eq_true]
      intro _ _
      rfl
    simp only [ha, if_true]
    exact wpAny_pure (wpAny_pure q)
theorem sorts_empt {vs : List Value} {ds : List PyData} (e : EachIs (fun v d => ∃ as, Reads s.heap v d as) vs (.tuple [] :: ds)) (hal : AllAlike (.tuple [] :: ds)) (ht : ∀ d ∈ PyData.tuple [] :: ds, ∃ xs, d = .tuple xs) (hu : ∀ d ∈ PyData.tuple [] :: ds, A.units + d.depth < cLine) : SortsAt prog w A s (dataKind s.heap (.tuple [] :: ds)) vs := by
  refine ⟨fun v hv => ?_, oneType', ?_, fun h2 E Q hq => kind_empt e ht hq⟩
  · obtain ⟨d, hd, as, r⟩ := e.left v hv
    exact ⟨_, dataKind_some hal hd r⟩
  · intro E x y a b Q ha hb hq
    obtain ⟨d, as, hd, ra, rfl⟩ := dataKind_inv ha
    obtain ⟨d', as', hd', rb, rfl⟩ := dataKind_inv hb
    have hdd := hal d hd d' hd'
    have hroom : A.units + min d.depth d'.depth < cLine := Nat.lt_of_le_of_lt (Nat.add_le_add_left (Nat.min_le_left _ _) _) (hu d hd)
    obtain ⟨xs, rfl⟩ := ht d hd
    obtain ⟨ys, rfl⟩ := ht d' hd'
    rw [keyLt'_oneType]
    exact tup_lt1 ra rb (by simpa [alike] using hdd) hroom hq
theorem sorted_empt {β : Type} {vs : List Value} {bs : List β} {enc : β → PyData} {R : Value → β → Prop} {l : Addr} {r : List PyData} {Q : Value → Shared → Prop} (hl : s.heap.IsList l vs.toArray) (e : EachIs R vs bs) (er : EachIs (fun v b => ∃ as, Reads s.heap v (enc b) as) vs bs) (hal : AllAlike (bs.map enc)) (h0 : bs.map enc = .tuple [] :: r) (ht : ∀ d ∈ bs.map enc, ∃ xs, d = .tuple xs) (hL : bs.length ≤ sizeLine)
    (hu : ∀ b, b ∈ bs → A.units + 2 + (enc b).depth < cLine) (h : ∀ out, out.length = bs.length → EachIs R out (bs.mergeSort (dataLe false enc)) → Q (.ref (s.heap.objs.size + 1)) { s with heap := sortedAll s.heap vs (List.toArray out) }) :
    wpAny (model prog w) A (call (.builtin "sorted") [.ref l]) Q E s := by
  have er2 : EachIs (fun v b => ∃ as, Reads (sortingHeap (copyHeap s.heap vs) (s.heap.objs.size + 1) vs) v (enc b) as) vs bs := er.mono fun _ _ ⟨as, z⟩ => ⟨as, PyProof.Rows.Reads.keeps (fun _ _ => sorting_copy_old) z⟩
  have em := each_map (R := fun v d => ∃ as, Reads (sortingHeap (copyHeap s.heap vs) (s.heap.objs.size + 1) vs) v d as) enc er2
  have bm := bound_map (A := A.in1.in1) (bs := bs) (enc := enc) hu
  have S : SortsAt prog w A.in1.in1 { s with heap := sortingHeap (copyHeap s.heap vs) (s.heap.objs.size + 1) vs } (dataKind (sortingHeap (copyHeap s.heap vs) (s.heap.objs.size + 1) vs) (bs.map enc)) vs := by
    rw [h0] at em bm ht hal ⊢
    exact sorts_empt (s := { s with heap := sortingHeap (copyHeap s.heap vs) (s.heap.objs.size + 1) vs }) em hal ht bm
  exact sorted_vals hl S (by rw [e.length]; exact hL) (h _ (by rw [sortVals_length false rfl]; exact e.length) (sortVals_data false e er2 hal))
end
/-- sorted of tuples, the first of them empty -/
def rSortE (K : PySem.W.Frag) : List V → Hp → VK → Prop := fun vs H Q => ∃ (β : Type) (v : β → V) (d : β → PyData) (a : Addr) (bs : List β) (r : List PyData), vs = [.ref a] ∧ SqL K H a (bs.map v) ∧ (∀ b ∈ bs, Dp K H (v b) (d b) ∧ (d b).depth ≤ 50) ∧
  PySem.W.AllAlike (bs.map d) ∧ bs.map d = .tuple [] :: r ∧ (∀ e ∈ bs.map d, ∃ xs, e = .tuple xs) ∧ ∀ p, H p = none → Q (.ref p) (upd H p (.lst ((bs.mergeSort (PySem.W.dataLe false d)).map v)))
theorem cr_sortE (K : PySem.W.Frag) {X : Cx} (hu : X.A.units + 64 < cLine) (hK : X.K = K := by rfl) : CallR X (.builtin "sorted") (rSortE K) := by
  subst hK
  intro pins s σ H vs us Q I r h
  obtain ⟨β, v, d, a, bs, rd, rfl, hs, hd, al, h0, ht, q⟩ := h
  obtain ⟨u, rfl, rfl⟩ := vals1 r
  obtain ⟨its, rv, hl, hz⟩ := I.list hs
  rw [List.length_map] at hz
  refine sorted_empt (enc := d) (R := fun (u : Value) (b : β) => RelV (v b) u) hl.isList (each_vals rv) (each_reads I rv fun b hb => (hd b hb).1) al h0 ht hz (fun b hb => ?_) fun out hlen he => ?_
  · have := (hd b hb).2
    omega
  · obtain ⟨ep, he'⟩ := PyProof.Rows.sortedAll_at s.heap its out.toArray
    have hlen2 : ((bs.mergeSort (PySem.W.dataLe false d)).map v).length ≤ sizeLine := by
      rw [List.length_map, List.length_mergeSort]
      exact hz
    exact ⟨.ref _, upd H (s.heap.objs.size + 1) (.lst ((bs.mergeSort (PySem.W.dataLe false d)).map v)), I.laid (t' := s.toks) (fun _ _ => PyProof.Rows.sortedAll_old) (Nat.le_succ _) ⟨hlen2, out, ep, vals_each he, by simpa using he'⟩, rfl, q _ (I.hok.fresh (Nat.le_succ _))⟩
end Pf


namespace Pf
open PySem PySem.Spec PyProof.Rows L2
/-! ### a dict by tuples, made in a comprehension -/
theorem dset_t {X : Cx} {pins : List (Addr × Obj)} {σ : L2.St} {H : Hp} {s : Shared} {E : Value → Shared → Prop} {D b : Addr} {kvs : List (List Key × V)} {ks : List Key} {z : V} {u : Value} {Q : Unit → Shared → Prop} (hu : X.A.units < cLine) (I : Inv X pins σ H s) (hD : H D = some (.dT kvs)) (hb : H b = some (.tup (ks.map kV))) (hz : kvs.length < sizeLine)
    (rz : RelV z u) (go : ∀ s', Inv X pins σ (upd H D (.dT (putK kvs ks z))) s' → Q () s') : wpAny (model X.prog X.w) X.A (dictSet D (.ref b) u) Q E s := by
  obtain ⟨len, nsys, xs, rel, dd⟩ := dt_of I.hok hD
  have lx : xs.length ≤ sizeLine := Paired.length rel ▸ len
  have lp := length_putK kvs ks z
  refine wpAny_dictSet_heap (hsz := lx) (show (tupleKind (mixKind X.prog X.w)).room X.A from hu) (key_of I.hok hb) dd fun h' dd' same => go _ ?_
  obtain ⟨ob, es, ep, e1, e2, e3, e4, _, e5⟩ := dd'
  have stays : ∀ c ys, H c = some (.tup ys) → (upd H D (.dT (putK kvs ks z))) c = some (.tup ys) := fun c ys ec => by
    rw [upd_ne (ne_of ec hD (by intro y; cases y))]
    exact ec
  exact d_write I (by rw [hD]; exact True.intro) same ⟨ob, e1⟩ ⟨by omega, nsys, _, (rel.put ks hb rz).keeps stays, ob, es, ep, e1, e2, e3, e4, e5⟩
/-- what is asked of a turn's key and value -/
def PutT (D : Addr) (y z : V) (H : Hp) (N : Hp → Prop) : Prop := ∃ kvs ks b, y = .ref b ∧ H b = some (.tup (ks.map kV)) ∧ H D = some (.dT kvs) ∧ kvs.length < sizeLine ∧ N (upd H D (.dT (putK kvs ks z)))
def tDcT (wi : TI) (g : TG) (tk tv : TE) (vs : List Nat) : TE := fun σ H Q => wi σ H fun J H1 => ∀ D, H1 D = none → ∃ W : Nat → Nat → Hp → Prop, (∃ m, W 0 m (upd H1 D (.dT []))) ∧ ∀ i m H, W i m H →
  (J.stop i H ∧ Q (.ref D) H) ∨ (J.go i H ∧ ∃ Nx : Hp → Prop, (∀ H', Nx H' → ∃ m', m' < m ∧ W (i + 1) m' H') ∧ ∀ x H', J.yld i H x H' → g x (wipe σ vs) H' fun σ2 H2 => wipe σ2 vs = wipe σ vs ∧ tk σ2 H2 fun y H3 => tv σ2 H3 fun z H4 => PutT D y z H4 Nx)
/-- the block's context is free of what the walk itself holds -/
theorem blk_free {X : Cx} {s : Shared} {H : Hp} {scope : Scope} {ce : Env} {fp : List Addr} {σ' : L2.St} {H' : Hp} {s' : Shared} (J : Inv (X.blk s H scope ce fp) [] σ' H' s') (nn : ∀ b ∈ fp, H' b = none) : ∀ b ∈ fp, FpOk (X.blk s H scope ce fp) [] H' b := fun b hb =>
  ⟨nn b hb, (J.ok.exf b hb).1, J.ok.exfs b hb, .inl hb, fun x c e => (J.ok.exf b hb).2 x c e, fun p hp => by
    have hp : p ∈ ([] : List (Addr × Obj)) ++ [] := hp
    cases hp⟩
/-- a turn is over: the block again as it began, but for the heap -/
theorem blk_turn {X Y : Cx} {fp : List Addr} {it : Addr} {tg : Expr} {J : It} {tn : Nat → Heap → Prop} {P : Program} {w : World} {K : PySem.W.Frag} (T : Turn P w K tg J fp it tn) {i : Nat} {h7 : Heap} (st : tn (i + 1) h7) {σ0 σ8 : L2.St} {vs : List Nat} {H' : Hp} {s' : Shared} (hw : wipe σ8 vs = wipe σ0 vs)
    (JJ : Inv Y ([] ++ pinsAt fp h7) σ8 H' s') : Inv Y [] (wipe σ0 vs) H' s' ∧ tn (i + 1) s'.heap ∧ ∀ b ∈ fp, H' b = none := by
  have held : ∀ b ∈ fp, ∀ o, h7.get? b = some o → s'.heap.get? b = some o ∧ H' b = none := fun b hb o e => by
    have z := JJ.pin (b, o) (List.mem_append_right _ (List.mem_append_right _ (mem_pinsAt hb e)))
    exact ⟨z.1, z.2.1⟩
  refine ⟨(JJ.unpinned (pins := [])).weak (by rw [← hw, wipe_length]) (fun j v e => ?_), T.keep _ _ _ st fun b hb o e => (held b hb o e).1, fun b hb => ?_⟩
  · rw [← hw] at e
    exact (wipe_some e).1
  · obtain ⟨o, e, _⟩ := T.obj _ _ st b hb
    exact (held b hb o e).2
theorem dcT_core {X : Cx} {pins : List (Addr × Obj)} {s : Shared} {σ : L2.St} {H : Hp} {Q : VK} {kx vx tg iter : Expr} {scope : Scope} {own : List (Str × Nat)} {pos pos' : Pos} {wi : TI} {g : TG} {tk tv : TE} {use : Option (Value → Sem Unit)} {Qf : Value → Shared → Prop} (hu : X.A.units < cLine) (calm : X.calm = true) (nd : X.N.Nodup) (I : Inv X pins σ H s) (hi : PI X tg iter wi) (ok : BlkOk X.N X.env.scope scope own)
    (hg : ∀ (s : Shared) (H : Hp) (C : Addr) (cl : List (Str × Addr)) (fp : List Addr), PG (X.blk s H scope (compEnvC scope cl C X.env) fp) tg g)
    (hk : ∀ (s : Shared) (H : Hp) (C : Addr) (cl : List (Str × Addr)) (fp : List Addr), PE (X.blk s H scope (compEnvC scope cl C X.env) fp) kx tk)
    (hv : ∀ (s : Shared) (H : Hp) (C : Addr) (cl : List (Str × Addr)) (fp : List Addr), PE (X.blk s H scope (compEnvC scope cl C X.env) fp) vx tv) (hfs : ∀ x, foldedSetIterable iter X.env x = pure x) (h : tDcT wi g tk tv (own.map (·.2)) σ H Q)
    (fin : ∀ D C s' m H', Inv X pins σ H' s' → Q (.ref D) H' → s'.heap.Ns C m → FpOk X pins H' C → compPost (model X.prog X.w) X.A X.xe use Qf (.ref D) C (.ok .next) s') :
    wpAny (model X.prog X.w) X.A (comprehension (.DictComp kx vx [⟨tg, iter, [], 0⟩] scope pos) scope X.env pos' newDict false (eval iter X.env) use) Qf X.xe s := by
  have cells : ∀ y ∈ scope.names, y.2 = .free → ∃ c, X.env.cells.lookup y.1 = some c := fun y hy e => (ok.free y hy e).elim (fun k => I.ok.has _ (.inl k)) fun k => I.ok.has _ (.inr k)
  refine wpAny_comprehension_free (use := use) rfl hfs (closure_ok cells) ok.kind (fun y hy e => by rw [ok.uniq y hy, e]) (thn (hi.run pins s σ H _ I h) fun xv sa ha => thn ha fun itv sb hb => ?_)
  obtain ⟨it, fp, tn, J, Hb, rfl, Ib, T, stb, fb, rest⟩ := hb
  refine wpAny_newObj_type (newEnv_comp ?_)
  obtain ⟨W, ⟨m0, w0⟩, turn⟩ := rest sb.heap.objs.size (Ib.hok.fresh (Nat.le_refl _))
  have Ic : Inv X pins σ (upd Hb sb.heap.objs.size (.dT [])) { sb with heap := sb.heap.push { cls := .type "dict", data := .dict #[] } } := Ib.laid (t' := sb.toks) (fun b o e => Heap.get?_push_of_some _ e) (Nat.le_refl _) (dt_empty sb.heap Ib.big)
  have stc : tn 0 (sb.heap.push { cls := .type "dict", data := .dict #[] }) := T.keep _ _ _ stb fun b _ o e => Heap.get?_push_of_some _ e
  have below : ∀ b ∈ fp, b < sb.heap.objs.size := fun b hb => by
    obtain ⟨o, e, _⟩ := T.obj _ _ stb b hb
    exact Heap.lt_size e
  have fc : ∀ b ∈ fp, FpOk X pins (upd Hb sb.heap.objs.size (.dT [])) b ∧ b < (sb.heap.push { cls := .type "dict", data := .dict #[] }).objs.size := fun b hb => by
    refine ⟨⟨?_, (fb b hb).2⟩, ?_⟩
    · rw [upd_ne (Nat.ne_of_lt (below b hb))]
      exact (fb b hb).1
    · rw [Heap.size_push]
      exact Nat.lt_succ_of_lt (below b hb)
  generalize sb.heap.objs.size = D at turn w0 Ic fc ⊢
  generalize hsc : ({ sb with heap := sb.heap.push { cls := .type "dict", data := .dict #[] } } : Shared) = sc at Ic ⊢
  have stc : tn 0 sc.heap := by rw [← hsc]; exact stc
  generalize upd Hb D (.dT []) = Hc at w0 Ic fc
  have fc : ∀ b ∈ fp, FpOk X pins Hc b ∧ b < sc.heap.objs.size := by rw [← hsc]; exact fc
  have Id := block_start Ic ok nd fc
  have pg := hg sc Hc sc.heap.objs.size (cellsFrom (sc.heap.objs.size + 1) scope.names (cloFrom X.env.cells scope.names [])) fp
  have pk := hk sc Hc sc.heap.objs.size (cellsFrom (sc.heap.objs.size + 1) scope.names (cloFrom X.env.cells scope.names [])) fp
  have pv := hv sc Hc sc.heap.objs.size (cellsFrom (sc.heap.objs.size + 1) scope.names (cloFrom X.env.cells scope.names [])) fp
  show codeAny _ _ (.compStart _ 0 (.ref it) (.ref D) (compEnvC scope (cellsFrom (sc.heap.objs.size + 1) scope.names (cloFrom X.env.cells scope.names [])) sc.heap.objs.size X.env)) (compPost _ _ _ _ _ (.ref D) sc.heap.objs.size) { sc with heap := pushCells (sc.heap.push { cls := .type "dict", data := .dict #[] }) scope.names }
  have std : tn 0 (pushCells (sc.heap.push { cls := .type "dict", data := .dict #[] }) scope.names) := T.keep _ _ _ stc fun b _ o e => pushCells_keeps _ _ _ _ (Heap.get?_push_of_some _ e)
  generalize ec : compEnvC scope (cellsFrom (sc.heap.objs.size + 1) scope.names (cloFrom X.env.cells scope.names [])) sc.heap.objs.size X.env = ce at Id pg pk pv ⊢
  have cl : ce.locals = sc.heap.objs.size := by rw [← ec]; rfl
  generalize ed : ({ sc with heap := pushCells (sc.heap.push { cls := .type "dict", data := .dict #[] }) scope.names } : Shared) = sd at Id ⊢
  have std : tn 0 sd.heap := by rw [← ed]; exact std
  have loop : codeAny (model X.prog X.w) X.A (.compLoop (.DictComp kx vx [⟨tg, iter, [], 0⟩] scope pos) 0 (.ref it) (.ref D) ce) (compPost (model X.prog X.w) X.A X.xe use Qf (.ref D) sc.heap.objs.size) sd := by
    refine compLoop_anyD (fun n s' => ∃ i H', Inv (X.blk sc Hc scope ce fp) [] (wipe σ (own.map (·.2))) H' s' ∧ tn i s'.heap ∧ (∀ b ∈ fp, H' b = none) ∧ W i n H') ?_ m0 ⟨0, Hc, Id, std, fun b hb => (fc b hb).1.1, w0⟩
    rintro n s5 ⟨i, H5, I5, st5, n5, w5⟩
    rcases turn i n H5 w5 with ⟨ends, qq⟩ | ⟨goes, Nx, hNx, step⟩
    · refine thnF (T.done (X.blk sc Hc scope ce fp) rfl rfl rfl calm i [] s5 _ H5 (fun _ _ => False) I5 (blk_free I5 n5) st5 ends) fun r s6 ⟨er, I6⟩ => ?_
      subst er
      have I7 : Inv X pins σ H5 s6 := Ic.call' (ch := fp) I6.os I6.base I6.hok I6.bare fun b hb => ⟨(fc b hb).1.2.2.2.1, (fc b hb).1.2.1, (fc b hb).1.2.2.2.2.1, (fc b hb).1.2.2.2.2.2⟩
      have nl : H5 sc.heap.objs.size = none := by
        rw [← cl]
        exact I6.free
      obtain ⟨m, hn, _⟩ := I6.loc
      have hn : s6.heap.Ns ce.locals m := hn
      rw [cl] at hn
      exact fin D sc.heap.objs.size s6 m H5 I7 qq hn (Ic.fpOk (Nat.le_refl _) nl)
    · refine thnF (T.item (X.blk sc Hc scope ce fp) rfl rfl rfl calm i [] s5 _ H5 (fun _ _ => False) I5 (blk_free I5 n5) st5 goes) fun r s6 ⟨u, er, h6⟩ => ?_
      subst er
      refine thnF h6 fun _ s7 ⟨x, H7, I7, r7, y7, st7, n7⟩ => ?_
      refine thnF (pg.run _ s7 _ H7 x u _ (I7.pinned (blk_free I7 n7) (T.obj _ _ st7)) r7 (step x H7 y7)) fun _ s8 ⟨σ8, H8, I8, hw8, q8⟩ => ?_
      rw [List.forIn_nil]
      refine wpAny_pure ?_
      rw [if_pos rfl]
      refine thnF (pk.run _ s8 σ8 H8 _ I8 q8) fun v9 s9 ⟨y9, H9, I9, r9, q9⟩ => ?_
      refine thnF (pv.run _ s9 σ8 H9 _ I9 q9) fun v10 s10 ⟨z10, H10, I10, r10, kvs, ks, b, ey, eb, eD, lz, nx⟩ => ?_
      subst ey
      cases (show v9 = Value.ref b from r9)
      refine dset_t (X := X.blk sc Hc scope ce fp) hu I10 eD eb lz r10 fun s11 I11 => ?_
      obtain ⟨m', hm, w'⟩ := hNx _ nx
      obtain ⟨a1, a2, a3⟩ := blk_turn (X := X) T st7 hw8 I11
      exact ⟨m', hm, i + 1, _, a1, a2, a3, w'⟩
  exact codeAny_compStart_dict loop (T.self X.A 0 _ _ _ std loop)
theorem pe_dcT {X : Cx} {kx vx tg iter : Expr} {scope : Scope} {own : List (Str × Nat)} {pos : Pos} {wi : TI} {g : TG} {tk tv : TE} (hu : X.A.units < cLine) (calm : X.calm = true) (nd : X.N.Nodup) (hi : PI X tg iter wi) (ok : BlkOk X.N X.env.scope scope own)
    (hg : ∀ (s : Shared) (H : Hp) (C : Addr) (cl : List (Str × Addr)) (fp : List Addr), PG (X.blk s H scope (compEnvC scope cl C X.env) fp) tg g)
    (hk : ∀ (s : Shared) (H : Hp) (C : Addr) (cl : List (Str × Addr)) (fp : List Addr), PE (X.blk s H scope (compEnvC scope cl C X.env) fp) kx tk)
    (hv : ∀ (s : Shared) (H : Hp) (C : Addr) (cl : List (Str × Addr)) (fp : List Addr), PE (X.blk s H scope (compEnvC scope cl C X.env) fp) vx tv) (hfs : ∀ x, foldedSetIterable iter X.env x = pure x := by intro _; rfl) :
    PE X (.DictComp kx vx [⟨tg, iter, [], 0⟩] scope pos) (tDcT wi g tk tv (own.map (·.2))) := by
  refine ⟨fun pins s σ H Q I h => ?_⟩
  rw [arm_eval_DictComp]
  refine dcT_core hu calm nd I hi ok hg hk hv hfs h fun D C s' m H' I' q hn f => ⟨m, hn, fun h'' sb => ?_⟩
  obtain ⟨f0, f1, f2, f3, f4, f5⟩ := f
  exact ⟨.ref D, H', I'.turned (t' := s'.toks) (fun b o hb e => (sb.2 b hb).trans e) f0 f1 f3 f4 f5, rfl, q⟩
/-- a name on the same line takes it, before the block's own names go -/
theorem ps_setDcT {X : Cx} {i : Nat} {y : Str} {py : Pos} {kx vx tg iter : Expr} {scope : Scope} {own : List (Str × Nat)} {pos spos : Pos} {wi : TI} {g : TG} {tk tv : TE} (hu : X.A.units < cLine) (calm : X.calm = true) (nd : X.N.Nodup) (at_ : X.N[i]? = some y) (loc : X.env.scope.names.lookup y = some .local)
    (sw : swapsWith (.DictComp kx vx [⟨tg, iter, [], 0⟩] scope pos) (some (.Name y py)) spos.line X.env = pure true) (hi : PI X tg iter wi) (ok : BlkOk X.N X.env.scope scope own)
    (hg : ∀ (s : Shared) (H : Hp) (C : Addr) (cl : List (Str × Addr)) (fp : List Addr), PG (X.blk s H scope (compEnvC scope cl C X.env) fp) tg g)
    (hk : ∀ (s : Shared) (H : Hp) (C : Addr) (cl : List (Str × Addr)) (fp : List Addr), PE (X.blk s H scope (compEnvC scope cl C X.env) fp) kx tk)
    (hv : ∀ (s : Shared) (H : Hp) (C : Addr) (cl : List (Str × Addr)) (fp : List Addr), PE (X.blk s H scope (compEnvC scope cl C X.env) fp) vx tv) (hfs : ∀ x, foldedSetIterable iter X.env x = pure x := by intro _; rfl) :
    PS X (.Assign [.Name y py] (.DictComp kx vx [⟨tg, iter, [], 0⟩] scope pos) spos) (tAsg (tDcT wi g tk tv (own.map (·.2))) (gName i)) := by
  refine ⟨fun pins s σ H D I h => ?_⟩
  rw [exec_Assign_Name_used _ _ _ _ sw]
  refine wpAny_bind (wpAny_standAt (wpAny_bind ?_))
  show wpAny _ X.A (do let _ ← comprehension (.DictComp kx vx [⟨tg, iter, [], 0⟩] scope pos) scope X.env (firstIterPos [⟨tg, iter, [], 0⟩] pos) newDict false (eval iter X.env) (some (assign (.Name y py) X.env))) _ _ s
  have h : tDcT wi g tk tv (own.map (·.2)) σ H (fun x H1 => gName i x σ H1 D.nx) := h
  refine wpAny_bind (thn (dcT_core (Qf := fun _ s' => SP X pins D .next s') hu calm nd I hi ok hg hk hv hfs h fun L C s' m H' I' q hn f => ?_) fun _ s' hq => wpAny_pure (wpAny_pure hq))
  show wpAny _ _ (assign (.Name y py) X.env (.ref L)) _ _ _
  refine wpAny_assign_Name (store_ok2 (v := V.ref L) I' nd at_ (.inl loc) rfl (fun s2 I2 ⟨a, sb, ha⟩ => ?_) (.inr loc))
  obtain ⟨f0, f1, f2, f3, f4, f5⟩ := f
  have apart : C ≠ a := by
    rcases ha with z | z
    · rw [z]
      exact f1
    · exact fun e => f4 y a z e.symm
  exact ⟨m, hn.sameBut sb apart, fun h3 sb3 => ⟨_, H', I2.turned (t' := s2.toks) (fun b o hb e => (sb3.2 b hb).trans e) f0 f1 f3 f4 f5, q⟩⟩
theorem swD_true {kx vx : Expr} {gs : List Comprehension} {scope : Scope} {pos py : Pos} {y : Str} {l : Nat} {env : Env} (hk : env.scope.kind = .function) (hy : env.scope.names.lookup y = some .local) (hl : (py.line == pos.line) = true)
    (ha : (scope.names.any fun (n, k) => n == y && (k == .local || k == .cell)) = false) : swapsWith (.DictComp kx vx gs scope pos) (some (.Name y py)) l env = pure true := by
  have ky : env.kindOf y = some .local := hy
  have hb : env.blockKind = .function := by unfold Env.blockKind; rw [hk]; rfl
  unfold swapsWith
  simp only [hb, ky, ha, Expr.pos, hl]
  rfl
theorem dcT_it {J : It} {n : Nat} {G : Hp → Prop} {Y : Nat → Hp → V → Hp → Prop} (w : Walk J n G Y) {g : TG} {tk tv : TE} {vs : List Nat} {σ : L2.St} {H1 : Hp} {D : Addr} {Qd : Hp → Prop} (Pv : Nat → Hp → Prop) (h0 : Pv 0 (upd H1 D (.dT []))) (hG : ∀ i H, i ≤ n → Pv i H → G H)
    (hs : ∀ i x H H', i < n → Pv i H → Y i H x H' → g x (wipe σ vs) H' fun σ2 H2 => wipe σ2 vs = wipe σ vs ∧ tk σ2 H2 fun y H3 => tv σ2 H3 fun z H4 => PutT D y z H4 (Pv (i + 1))) (hd : ∀ H, Pv n H → Qd H) :
    ∃ W : Nat → Nat → Hp → Prop, (∃ m, W 0 m (upd H1 D (.dT []))) ∧ ∀ i m H, W i m H → (J.stop i H ∧ Qd H) ∨ (J.go i H ∧ ∃ Nx : Hp → Prop, (∀ H', Nx H' → ∃ m', m' < m ∧ W (i + 1) m' H') ∧ ∀ x H', J.yld i H x H' → g x (wipe σ vs) H' fun σ2 H2 => wipe σ2 vs = wipe σ vs ∧ tk σ2 H2 fun y H3 => tv σ2 H3 fun z H4 => PutT D y z H4 Nx) := by
  refine ⟨fun i m H => m = n - i ∧ i ≤ n ∧ Pv i H, ⟨n, rfl, Nat.zero_le _, h0⟩, ?_⟩
  rintro i m H ⟨rfl, hi, pv⟩
  have hq := hG i H hi pv
  by_cases hlt : i < n
  · exact .inr ⟨w.goes i H hlt hq, Pv (i + 1), fun H' p' => ⟨n - (i + 1), by omega, rfl, hlt, p'⟩, fun x H' y => hs i x H H' hlt pv (w.yields i H x H' hlt hq y)⟩
  · obtain rfl : i = n := by omega
    exact .inl ⟨w.stops H hq, hd H pv⟩
end Pf


namespace Pf
open PySem PySem.Spec PyProof.Rows L2
/-! ### a list lengthened in its place -/
theorem lk_iadd : typeLookup (.type "list") (dunderI "add") = pure (some (.builtin "list.__iadd__")) := PySem.F.slot_list_iadd.lookup
theorem nf_list : fillsNumberSlot (.type "list") "add" = pure false := by kernel_rfl
theorem iadd_lst {M : Model} {A : Around} {E : Value → Shared → Prop} {s : Shared} {a b : Value} {Q : Value → Shared → Prop} (ha : s.TypeIs a "list") (hb : s.TypeIs b "list") (hc : wpAny M A (call (.builtin "list.__iadd__") [a, b]) Q E s) : wpAny M A (inplaceOp .Add a b) Q E s := by
  unfold inplaceOp
  refine wpAny_holding ?_
  have h1 : fillsInplaceSlot (.type "list") "add" (Operator.Add == .Add) = pure false := by
    unfold fillsInplaceSlot
    show (typeLookup (.type "list") (dunderI "add") >>= fun z => pure (z.isSome && !isSeqSlot z)) = pure false
    rw [lk_iadd]
    kernel_rfl
  have h2 : seqSlot? (.type "list") (dunderI "add") = pure (some (.builtin "list.__iadd__")) := PySem.seqSlot_of lk_iadd (by kernel_rfl)
  refine wpAny_bind (wpAny_typeOf ha (wpAny_bind (wpAny_of_eq h1 ?_)))
  show wpAny M A (if false = true then _ else _) Q E s
  rw [if_neg Bool.false_ne_true]
  exact wpAny_bind (wpAny_binaryOp1_none (nm := "add") ha hb nf_list (wpAny_bind (wpAny_of_eq h2 (wpAny_bind (wpAny_rule hc)))))
def rIext : TIp := fun x y H Q => ∃ l b xs zs, x = .ref l ∧ y = .ref b ∧ H l = some (.lst xs) ∧ H b = some (.lst zs) ∧ xs.length + zs.length ≤ sizeLine ∧ Q (.ref l) (upd H l (.lst (xs ++ zs)))
theorem ip_ext {X : Cx} : PIp X .Add rIext := by
  intro pins s σ H x y v u Q I rx ry h
  obtain ⟨l, b, xs, zs, rfl, rfl, hH, hB, hz, q⟩ := h
  cases rx
  cases ry
  obtain ⟨z, its, n, r, hl, e⟩ := I.lstM hH
  obtain ⟨z2, its2, n2, r2, hl2, e2⟩ := I.lstM hB
  have hs2 : its.toArray.size + its2.toArray.size ≤ sizeLine := by
    rw [List.size_toArray, List.size_toArray]
    omega
  have long : ¬ (!its.toArray.isEmpty && Builtin.List.listTooLong (its.toArray.size + its2.toArray.size)) = true := by
    rw [notLongL hs2, Bool.and_false]
    exact Bool.false_ne_true
  refine iadd_lst ⟨_, e, rfl⟩ ⟨_, e2, rfl⟩ (call_meets PySem.F.slot_list_iadd ⟨_, e, rfl⟩ PySem.F.entry_list_iadd (PySem.F.args_list_iadd_2 _ _) (AutoSeq1.list___iadd___list_list_0 l its.toArray n b its2.toArray n2 long (by rw [List.size_toArray]; omega) (by omega)) ⟨e, e2, ?_⟩)
  refine ⟨.ref l, _, I.lset (its' := its ++ its2) hH e (by simp) (r.append r2) ?_, rfl, q⟩
  rw [List.length_append]
  omega
end Pf


namespace Pf
open PySem PySem.Spec PyProof.Rows L2
/-! ### sorted of a dict by tuples -/
theorem obj_there {P : Program} {w : World} {H : Hp} {h : Heap} {a : Addr} {o : HO} (x : ObjOk P w H h a o) : ∃ u, h.get? a = some u := by
  cases o with
  | lst _ =>
    obtain ⟨_, _, _, _, e⟩ := x
    exact ⟨_, e⟩
  | tup _ =>
    obtain ⟨_, _, _, u, e, _⟩ := x
    exact ⟨u, e⟩
  | dK _ =>
    obtain ⟨_, _, _, _, u, _, _, e, _⟩ := x
    exact ⟨u, e⟩
  | dT _ =>
    obtain ⟨_, _, _, _, u, _, _, e, _⟩ := x
    exact ⟨u, e⟩
  | set _ _ =>
    obtain ⟨u, _, _, _, e, _⟩ := x
    exact ⟨u, e⟩
  | ins _ _ _ =>
    obtain ⟨_, _, _, e, _⟩ := x
    exact ⟨_, e⟩
  | own _ => exact x
  | xd _ =>
    obtain ⟨_, ⟨u, _, _, e, _⟩, _⟩ := x
    exact ⟨u, e⟩
  | rng _ _ =>
    obtain ⟨_, _, _, e⟩ := x
    exact ⟨_, e⟩
  | frz u _ => exact ⟨u, x.1⟩
  | tbl _ => exact ⟨_, x⟩
  | met _ _ => exact ⟨_, x⟩
  | ext _ => exact x.2.1
def rSortKT (K : PySem.W.Frag) : List V → Hp → VK → Prop := fun vs H Q => ∃ (d : Addr) (kvs : List (List Key × V)), vs = [.ref d] ∧ Rd H d (.dT kvs) ∧ ∀ bs : List Addr, IsKeys H kvs bs → ∃ (β : Type) (ad : β → Addr) (dd : β → PyData) (ys : List β), bs = ys.map ad ∧ (∀ y ∈ ys, Dp K H (.ref (ad y)) (dd y) ∧ (dd y).depth ≤ 50) ∧
  PySem.W.AllAlike (ys.map dd) ∧ PySem.W.Sortable (ys.map dd) ∧ ∀ p, H p = none → Q (.ref p) (upd H p (.lst ((ys.mergeSort (PySem.W.dataLe false dd)).map fun y => .ref (ad y))))
theorem cr_sortKT (K : PySem.W.Frag) {X : Cx} (calm : X.calm = true) (hu : X.A.units + 64 < cLine) (hK : X.K = K := by rfl) : CallR X (.builtin "sorted") (rSortKT K) := by
  subst hK
  intro pins s σ H vs us Q I r h
  obtain ⟨d, kvs, rfl, hd, q⟩ := h
  obtain ⟨u, rfl, er⟩ := vals1 r
  cases er
  obtain ⟨z, hs, ks, pr, o, es, ep, ho, hx, hdt, he, hn⟩ := (show ObjOk X.prog X.w H s.heap d (.dT kvs) from hd.ok I.hok)
  have l1 : es.size = ks.length := size_of_entries he
  have l2 : kvs.length = ks.length := Paired.length pr
  obtain ⟨β, ad, dd, ys, eys, hy, al, so, qq⟩ := q _ (isKeys_of pr)
  have hyl : ys.length = ks.length := by
    have := congrArg List.length eys
    rw [List.length_map, List.length_map] at this
    exact this.symm
  refine Calls.call_function_entry kind_sorted plain_sorted entry_sorted (args_sorted1 _) ?_
  unfold Builtin.«sorted»
  refine wpAny_bind (m := checkCount "sorted" 1 1 _) (wpAny_pure ?_)
  refine wpAny_bind (PySem.W.kdu_collect (kdl_raw hs hx hdt) (I.ok.hd calm) ho (by omega) fun h1 tk acc kp items => ?_)
  have ea : acc.toList = ys.map fun y => Value.ref (ad y) := by
    have e0 : (ks.map fun x => x.2.1).map Value.ref = ys.map fun y => Value.ref (ad y) := by
      rw [eys, List.map_map]
      rfl
    rw [← e0]
    refine List.ext_getElem? fun j => ?_
    rw [List.getElem?_map, List.getElem?_map]
    cases hj : acc.toList[j]? with
    | none =>
      have := List.getElem?_eq_none_iff.mp hj
      rw [Array.length_toList, items.1] at this
      rw [List.getElem?_eq_none (by omega)]
      rfl
    | some v =>
      obtain ⟨en, hen, hv⟩ := items.2 j v (by rw [← Array.getElem?_toList]; exact hj)
      have qe := entry_at he j
      rw [hen] at qe
      cases hb : ks[j]? with
      | none =>
        rw [hb] at qe
        exact nomatch (show some en = none from qe)
      | some b =>
        rw [hb] at qe
        rw [hv, Option.some.inj (show some en = some (entryOfKey (tupleKind (mixKind X.prog X.w)) b) from qe)]
        rfl
  have hz2 : acc.toList.length ≤ sizeLine := by
    rw [ea, List.length_map]
    omega
  refine wpAny_bind (wpAny_newList ?_ hz2)
  have hat : (h1.push (seqObj "list" acc.toList.toArray 0)).get? h1.objs.size = some (seqObj "list" acc.toList.toArray 0) := Heap.get?_push_size _ rfl
  have hlt : ∀ b ob, s.heap.get? b = some ob → b ≠ h1.objs.size := fun b ob e => Nat.ne_of_lt (Heap.lt_size (kp b ob e))
  have old : ∀ b ob, s.heap.get? b = some ob → (h1.push (seqObj "list" acc.toList.toArray 0)).get? b = some ob := fun b ob e => Heap.get?_push_of_some _ (kp b ob e)
  have rel : PySem.W.EachIs (fun (v : Value) (y : β) => RelV (V.ref (ad y)) v) acc.toList ys := by
    rw [ea]
    clear q qq eys hy al so hyl ea
    induction ys with
    | nil => exact .nil
    | cons y t ih => exact .cons rfl ih
  have rv : Vals (ys.map fun y => V.ref (ad y)) acc.toList := vals_each (v := fun y => V.ref (ad y)) rel
  have rd : PySem.W.EachIs (fun (v : Value) (y : β) => ∃ as, Reads (PySem.W.sortingHeap (h1.push (seqObj "list" acc.toList.toArray 0)) h1.objs.size acc.toList) v (dd y) as) acc.toList ys := (each_reads (v := fun y => V.ref (ad y)) I rv fun y hy' => (hy y hy').1).mono fun _ _ ⟨as, w⟩ => ⟨as, PyProof.Rows.Reads.keeps (fun b ob e => PySem.W.sortingHeap_old (hlt b ob e) (old b ob e)) w⟩
  have hub : ∀ y ∈ ys, X.A.in1.in1.units + (dd y).depth < cLine := fun y hy' => by
    have := (hy y hy').2
    show X.A.units + 2 + (dd y).depth < cLine
    omega
  have S := PySem.W.SortsAt.data (prog := X.prog) (w := X.w) (A := X.A.in1.in1) (s := { s with heap := PySem.W.sortingHeap (h1.push (seqObj "list" acc.toList.toArray 0)) h1.objs.size acc.toList, toks := tk }) (PySem.W.each_map (R := fun v d => ∃ as, Reads (PySem.W.sortingHeap (h1.push (seqObj "list" acc.toList.toArray 0)) h1.objs.size acc.toList) v d as) dd rd) al so (PySem.W.bound_map hub)
  refine wpAny_bind (wpAny_holding (wpAny_call_entry slot_list_sort ⟨_, hat, rfl⟩ entry_list_sort ?body (args_list_sort _)))
  case body =>
    refine PySem.W.list_sort_vals (s := { s with heap := h1.push (seqObj "list" acc.toList.toArray 0), toks := tk }) hat S hz2 ⟨_, rfl, wpAny_pure ⟨_, rfl, ?_⟩⟩
    have each := PySem.W.sortVals_data false rel rd al
    generalize PySem.W.sortVals (PySem.W.dataKind (PySem.W.sortingHeap (h1.push (seqObj "list" acc.toList.toArray 0)) h1.objs.size acc.toList) (ys.map dd)) false acc.toList acc.toList = out at each ⊢
    obtain ⟨ee, he'⟩ := PyProof.Rows.sortedHeap_at (vs := acc.toList) (out := out.toArray) hat
    have hl2 : ((ys.mergeSort (PySem.W.dataLe false dd)).map fun y => V.ref (ad y)).length ≤ sizeLine := by
      rw [List.length_map, List.length_mergeSort]
      omega
    have gone : s.heap.get? h1.objs.size = none := by
      cases e : s.heap.get? h1.objs.size with
      | none => rfl
      | some ob => exact absurd rfl (hlt _ ob e)
    have free : H h1.objs.size = none := by
      cases e : H h1.objs.size with
      | none => rfl
      | some u =>
        obtain ⟨ob, e2⟩ := obj_there (I.hok _ _ e)
        rw [gone] at e2
        cases e2
    exact ⟨.ref h1.objs.size, upd H h1.objs.size (.lst ((ys.mergeSort (PySem.W.dataLe false dd)).map fun y => V.ref (ad y))), I.laidN (t' := tk) (fun b ob e => by rw [PyProof.Rows.sortedHeap_old (hlt b ob e) (Heap.lt_size (old b ob e))]; exact old b ob e) gone free ⟨hl2, out, ee, vals_each (v := fun y => V.ref (ad y)) each, by simpa using he'⟩, rfl, qq _ free⟩
end Pf


namespace Pf
open PySem PySem.Spec PyProof.Rows L2
/-! ### a text so many times: some text of its letters, no longer than it may be -/
theorem rep_cps (x : Array Nat) : ∀ (n : Nat) (acc : Array Nat), (((List.replicate n x).foldl (· ++ ·) acc).size = acc.size + x.size * n) ∧ ∀ c ∈ ((List.replicate n x).foldl (· ++ ·) acc).toList, c ∈ acc.toList ∨ c ∈ x.toList
  | 0, acc => ⟨by rw [Nat.mul_zero]; rfl, fun c h => .inl h⟩
  | n + 1, acc => by
    have ih := rep_cps x n (acc ++ x)
    rw [List.replicate_succ, List.foldl_cons]
    refine ⟨?_, fun c h => ?_⟩
    · rw [ih.1, Array.size_append, Nat.mul_succ]
      omega
    · rcases ih.2 c h with z | z
      · rw [Array.toList_append, List.mem_append] at z
        exact z
      · exact .inr z
def rRepS : R2 := fun x y H Q => ∃ (z : Str) (k : Int), x = .str z ∧ y = .int k ∧ 0 ≤ k ∧ k ≤ 1000 ∧ z.length ≤ 1000 ∧ ∀ w : Str, w.length ≤ z.length * k.toNat → (∀ c ∈ w.cps.toList, c ∈ z.cps.toList) → Q (.str w) H
theorem op_repS {X : Cx} : OpR X (binaryOp .Mult) rRepS := by
  intro pins s σ H x y v u Q I rx ry h
  obtain ⟨z, k, rfl, rfl, k0, k1, hz, q⟩ := h
  obtain ⟨t, rfl⟩ := rx
  obtain ⟨t2, rfl⟩ := ry
  have hm : z.length * k.toNat ≤ 1000 * 1000 := Nat.mul_le_mul hz (by omega)
  have hbig : (z.length : Int) * k ≤ 1000 * 1000 := Int.mul_le_mul (by omega) k1 k0 (by decide)
  refine PySem.P.mul_str (by rw [decide_eq_false (by omega), decide_eq_false (by omega)]; rfl) (fun h1 _ z2 => ?_) (fun _ _ => ?_) ?_
  · have h3 : (1000 : Int) ≤ (2 ^ 63 - 1) / k := by
      rw [Int.le_ediv_iff_mul_le (by omega)]
      omega
    omega
  · unfold Builtin.Str.tooLong
    exact decide_eq_false (by rw [sizeLine_eq]; omega)
  · by_cases c1 : k < 1
    · rw [if_pos c1]
      exact ⟨by decide, .str Str.empty, H, I.tok _, ⟨_, rfl⟩, q _ (Nat.zero_le _) (fun c hc => by cases hc)⟩
    · rw [if_neg c1]
      by_cases c2 : (k == 1 || z.length == 0) = true
      · rw [if_pos c2]
        refine ⟨.str z, H, I, ⟨_, rfl⟩, q z ?_ fun _ hc => hc⟩
        exact Nat.le_mul_of_pos_right _ (by omega)
      · rw [if_neg c2]
        have hr := rep_cps z.cps k.toNat #[]
        have hl : (⟨(List.replicate k.toNat z.cps).foldl (· ++ ·) #[]⟩ : Str).length = z.length * k.toNat := by
          show ((List.replicate k.toNat z.cps).foldl (· ++ ·) #[]).size = _
          rw [hr.1]
          show 0 + z.length * k.toNat = _
          omega
        refine ⟨?_, .str _, H, I.tok _, ⟨_, rfl⟩, q _ (Nat.le_of_eq hl) fun c hc => ?_⟩
        · rw [hl, sizeLine_eq]
          omega
        · rcases hr.2 c hc with y | y
          · cases y
          · exact y
/-! ### a list under way -/
section
variable {β : Type} {R : Hp → V → β → Prop} {D : Addr} {H H1 H4 : Hp} {ys : List β} {v : V} {b : β}
def GenL (R : Hp → V → β → Prop) (D : Addr) (H1 : Hp) (ys : List β) (H : Hp) : Prop := ∃ vs, H D = some (.lst vs) ∧ Paired (R H) vs ys ∧ Ext H1 H
theorem genl_new (hD : H1 D = none) : GenL R D H1 [] (upd H1 D (.lst [])) := ⟨[], upd_same, .nil, Ext.new hD⟩
theorem GenL.ext (h : GenL R D H1 ys H) : Ext H1 H := by
  obtain ⟨_, _, _, k⟩ := h
  exact k
theorem GenL.keep (m : Mono R) (h : GenL R D H1 ys H) (k : Ext H H4) : GenL R D H1 ys H4 := by
  obtain ⟨vs, hL, hP, k1⟩ := h
  exact ⟨vs, k _ _ hL, paired_imp (fun _ _ => m _ _ _ _ (TupK.ext k)) hP, k1.trans k⟩
theorem genl_step (m : Mono R) (hD : H1 D = none) (h : GenL R D H1 ys H) (k : Ext H H4) (hv : R H4 v b) (hn : ys.length < 1000000) : ∃ acc, H4 D = some (.lst acc) ∧ acc.length < sizeLine ∧ GenL R D H1 (ys ++ [b]) (upd H4 D (.lst (acc ++ [v]))) := by
  obtain ⟨vs, hL, hP, k1⟩ := h
  have hl := paired_len hP
  have hL4 := k _ _ hL
  exact ⟨vs, hL4, szLt (by omega), vs ++ [v], upd_same, paired_app (paired_imp (fun _ _ => m _ _ _ _ ((TupK.ext k).trans (TupK.lst hL4))) hP) (.cons (m _ _ _ _ (TupK.lst hL4) hv) .nil), (k1.trans k).put hD⟩
/-- one more at its end -/
theorem app_ok {Q : VK} (m : Mono R) (hD : H1 D = none) (h : GenL R D H1 ys H) (k : Ext H H4) (hv : R H4 v b) (hn : ys.length < 1000000) (q : ∀ H', GenL R D H1 (ys ++ [b]) H' → Q .non H') : rAppend (.ref D) [v] H4 Q := by
  obtain ⟨acc, h1, h2, h3⟩ := genl_step m hD h k hv hn
  exact ⟨D, acc, v, rfl, rfl, h1, h2, q _ h3⟩
theorem GenL.sq {K : PySem.W.Frag} (h : GenL R D H1 ys H) : ∃ vs, SqL K H D vs := by
  obtain ⟨vs, h1, _⟩ := h
  exact ⟨vs, SqL.of h1⟩
end
theorem putT_len (c : List (List Key × V)) (k : List Key) (v : V) : (putK c k v).length ≤ c.length + 1 := by
  unfold putK
  split
  · rw [List.length_map]
    omega
  · rw [List.length_append, List.length_singleton]
    exact Nat.le_refl _
end Pf


namespace Pf
open PySem PySem.Spec PyProof.Rows L2
def topS (i : Nat) : Stmt := PySem.Challenge.pw_pairfolds_k70_whole_crossed_and_turned.main.body.getD i (.Pass ⟨0, 0, 0, 0⟩)
/-! ### the pen: a list of cells, a place, a rest -/
def Pen (H : Hp) (p c : Addr) (n : Nat) : Prop := ∃ (cells : List Int) (a r : Int), H p = some (.lst [.ref c, .int a, .int r]) ∧ H c = some (.lst (cells.map V.int)) ∧ 0 ≤ a ∧ a ≤ n ∧ 0 ≤ r ∧ cells.length ≤ 63
section
variable {H H' : Hp} {p c q : Addr} {n m : Nat} {o : HO}
theorem Pen.mono (h : Pen H p c n) (l : n ≤ m) : Pen H p c m := by
  obtain ⟨cells, a, r, h1, h2, h3, h4, h5, h6⟩ := h
  exact ⟨cells, a, r, h1, h2, h3, by omega, h5, h6⟩
theorem Pen.put (h : Pen H p c n) (hp : q ≠ p) (hc : q ≠ c) : Pen (upd H q o) p c n := by
  obtain ⟨cells, a, r, h1, h2, h3⟩ := h
  exact ⟨cells, a, r, by rw [upd_ne hp.symm]; exact h1, by rw [upd_ne hc.symm]; exact h2, h3⟩
theorem Pen.ne (h : Pen H p c n) (hq : H q = none) : q ≠ p ∧ q ≠ c := by
  obtain ⟨cells, a, r, h1, h2, h3⟩ := h
  exact ⟨(ne_of_none h1 hq).symm, (ne_of_none h2 hq).symm⟩
theorem Pen.new (h : Pen H p c n) (hq : H q = none) : Pen (upd H q o) p c n := h.put (h.ne hq).1 (h.ne hq).2
theorem Pen.tup (h : Pen H p c n) {b : Addr} {xs : List V} (e : H b = some (.tup xs)) : b ≠ p := by
  obtain ⟨cells, a, r, h1, _⟩ := h
  exact ne_of e h1 (by intro z; cases z)
theorem Pen.frz (h : Pen H p c n) {b : Addr} {ob : Obj} {u : HO} (e : H b = some (.frz ob u)) : b ≠ p := by
  obtain ⟨cells, a, r, h1, _⟩ := h
  exact ne_of e h1 (by intro z; cases z)
theorem Pen.ext (h : Pen H p c n) (k : Ext H H') : Pen H' p c n := by
  obtain ⟨cells, a, r, h1, h2, h3⟩ := h
  exact ⟨cells, a, r, k _ _ h1, k _ _ h2, h3⟩
end
theorem TupK.of {p c : Addr} {n : Nat} {H H' : Hp} (k : Kp p H H') (hP : Pen H p c n) : TupK H H' := ⟨fun b _ e => k b _ (hP.tup e) e, fun b _ _ e => k b _ (hP.frz e) e⟩
theorem Kp.ext {p : Addr} {H H' : Hp} (k : Ext H H') : Kp p H H' := fun b o _ e => k b o e
theorem dpInts {K : PySem.W.Frag} {H : Hp} : ∀ cells : List Int, DpAll K H (cells.map V.int) (cells.map PyData.int)
  | [] => .nil
  | _ :: r => .cons (.int _) (dpInts r)
theorem cut_ints (ns : List Int) (lo hi : Option Int) : ∃ cs : List Int, cutV (ns.map V.int) lo hi = cs.map V.int ∧ cs.length ≤ ns.length := by
  unfold cutV
  refine ⟨(ns.drop _).take _, by rw [List.map_take, List.map_drop], ?_⟩
  rw [List.length_take, List.length_drop]
  omega
theorem mod_b (z m : Int) (h : 0 < m) (h2 : m < 2 ^ 64) : -(2 ^ 64) < z % m ∧ z % m < 2 ^ 64 := by
  have h3 := Int.emod_nonneg z (show m ≠ 0 by omega)
  have h4 := Int.emod_lt_of_pos z h
  omega
theorem draw_b1 {z a : Int} (a0 : 0 ≤ a) (a1 : a ≤ 1000000) : (z % 2147483579 + 43793 * a + 97).natAbs < 2 ^ 64 := by
  have h3 := Int.emod_nonneg z (show (2147483579 : Int) ≠ 0 by decide)
  have h4 := Int.emod_lt_of_pos z (show (0 : Int) < 2147483579 by decide)
  omega
theorem draw_b3 (z : Int) {a : Int} (a0 : 0 ≤ a) (a1 : a ≤ 1000000) : (z % 2147483647 * (a + 39119) + 81667 * a * a).natAbs < 2 ^ 64 := by
  have h3 := Int.emod_nonneg z (show (2147483647 : Int) ≠ 0 by decide)
  have h4 := Int.emod_lt_of_pos z (show (0 : Int) < 2147483647 by decide)
  have h1 : z % 2147483647 * (a + 39119) ≤ 2147483647 * 1039119 := Int.mul_le_mul (by omega) (by omega) (by omega) (by decide)
  have h2 : 0 ≤ z % 2147483647 * (a + 39119) := Int.mul_nonneg h3 (by omega)
  have h5 : 81667 * a * a ≤ 81667 * 1000000 * 1000000 := Int.mul_le_mul (by omega) a1 a0 (by decide)
  have h6 : 0 ≤ 81667 * a * a := Int.mul_nonneg (by omega) a0
  omega
section
variable {P : Program} {w : World} {K : PySem.W.Frag} {mg : Str → Option Value} {base : Heap}
abbrev s_law_pen : Stmt := topS 28
theorem sc_law_pen : FnScope ["_law_script"] ["_law_script"] (defScope s_law_pen) :=
  ⟨rfl, rfl, rfl, by decide +kernel, rfl, by decide +kernel, by decide +kernel⟩
def spStart (K : PySem.W.Frag) : Sp := fun vs H Q _ => ∃ (a : Addr) (ns : List Int), vs = [.ref a] ∧ SqL K H a (ns.map V.int) ∧ ns.length ≤ 63 ∧ ∀ p c H', Pen H' p c 0 → Q (.ref p) H'
theorem ok_start {f : Addr} {fd : FuncData} {k : Nat} (F : Fun K "_law_pen" "_law_pen" s_law_pen f fd) (mlist : mg "list" = none) : FnOk P w K mg base CX0 (k + 1) f fd ["_law_script"] (spStart K) := by
  refine F.ok sc_law_pen (fun vs H Q E h => ?_) (fun cdv A outer s H vs Q E hr h => ?_)
  · obtain ⟨a, ns, rfl, _⟩ := h
    rfl
  · obtain ⟨a, ns, rfl, hS, hns, q⟩ := h
    refine ⟨_, (pss_one (ps_ret (pe_lst (pa_cons (pe_callTy (listOf K) (by rfl) mlist (by decide +kernel) (pa_cons (pe_slice (slL K) (pv 0) po_none (po_some pe_int)) pa_nil)) (pa_cons pe_int (pa_cons pe_int pa_nil)))))), ?_⟩
    obtain ⟨cs, hcs, hcl⟩ := cut_ints ns none (some 63)
    refine ⟨_, rfl, 63, rfl, a, _, rfl, hS, fun c0 hc0 => ?_⟩
    rw [hcs]
    refine ⟨c0, _, rfl, .inl (SqL.of upd_same), fun c hc => ⟨szL (show 3 ≤ 1000000 by decide), fun p hp => ?_⟩⟩
    refine q p c _ ⟨cs, 0, 0, upd_same, ?_, by decide, by decide, by decide, by omega⟩
    exact Ext.new hp _ _ upd_same
abbrev s_law_pick : Stmt := topS 29
theorem sc_law_pick : FnScope ["_law_pen_here", "_law_upto", "_law_digit", "_law_turn", "_law_cell", "_law_great", "_law_stirred"] ["_law_pen_here", "_law_upto"] (defScope s_law_pick) :=
  ⟨rfl, rfl, rfl, by decide +kernel, rfl, by decide +kernel, by decide +kernel⟩
def spDraw : Sp := fun vs H Q _ => ∃ (p c : Addr) (m : Int) (n : Nat), vs = [.ref p, .int m] ∧ Pen H p c n ∧ n < 1000000 ∧ 0 < m ∧ m < 1000000 ∧
  ∀ r H', 0 ≤ r → r < m → Kp p H H' → Pen H' p c (n + 1) → Q (.int r) H'
theorem ok_draw {f : Addr} {fd : FuncData} {k : Nat} (F : Fun K "_law_pick" "_law_pick" s_law_pick f fd) (mlen : mg "len" = none) (mabs : mg "abs" = none) (mint : mg "int" = none) : FnOk P w K mg base CX0 (k + 1) f fd ["_law_pen_here", "_law_upto"] spDraw := by
  refine F.ok sc_law_pick (fun vs H Q E h => ?_) (fun cdv A outer s H vs Q E hr h => ?_)
  · obtain ⟨p, c, m, n, rfl, _⟩ := h
    rfl
  · obtain ⟨p, c, m, n, rfl, hP, hn, m0, m1, q⟩ := h
    obtain ⟨cells, a, r, hp, hc, a0, a1, r0, cl⟩ := hP
    refine ⟨_, (pss_cons (ps_if (pt_cmpR op_gt (pe_ix (ixL K) (pv 0) pe_int (fun _ _ => rfl)) pe_int (nomark _)) (pss_cons (ps_set (i := 2) sc_law_pick.nd rfl (.inl rfl) (pe_op op_mod (pe_ix (ixL K) (pv 0) pe_int (fun _ _ => rfl)) (pv 1)))
      (pss_cons (ps_asg (pe_op op_fdiv (pe_ix (ixL K) (pv 0) pe_int (fun _ _ => rfl)) (pv 1)) (pg_sub (pv 0) pe_int set_list))
      (pss_one (ps_ret (pv 2))))) pss_nil)
      (pss_cons (ps_set (i := 3) sc_law_pick.nd rfl (.inl rfl) (pe_ix (ixL K) (pv 0) pe_int (fun _ _ => rfl)))
      (pss_cons (ps_asg (pe_op op_add (pv 3) pe_int) (pg_sub (pv 0) pe_int set_list))
      (pss_cons (ps_set (i := 4) sc_law_pick.nd rfl (.inl rfl) (pe_op op_add (pe_op op_mul pe_int (pv 3)) pe_int))
      (pss_cons (ps_if (pt_cmpR (neD K hr.units) (pe_ix (ixL K) (pv 0) pe_int (fun _ _ => rfl)) (pe_lst pa_nil) (nomark _)) (pss_one (ps_set (i := 4) sc_law_pick.nd rfl (.inl rfl) (pe_ix (ixL K) (pe_ix (ixL K) (pv 0) pe_int (fun _ _ => rfl)) (pe_op op_mod (pv 3) (pe_callB (lenQ K) (by rfl) mlen (by decide +kernel) (pa_cons (pe_ix (ixL K) (pv 0) pe_int (fun _ _ => rfl)) pa_nil))) (fun _ _ => rfl)))) pss_nil)
      (pss_cons (ps_if (PW.pt (pw_and (pt_cmpR op_lt (pv 3) (pe_callB (lenQ K) (by rfl) mlen (by decide +kernel) (pa_cons (pe_ix (ixL K) (pv 0) pe_int (fun _ _ => rfl)) pa_nil)) (nomark _)) (pw_and1 (pt_cmpR op_ge (pe_callB call_abs (by rfl) mabs (by decide +kernel) (pa_cons (pv 4) pa_nil)) (pe_op op_pow pe_int pe_int) (nomark _))))) (pss_cons (ps_set (i := 5) sc_law_pick.nd rfl (.inl rfl) (pe_op op_add (pe_op op_mul pe_int (pe_callB call_abs (by rfl) mabs (by decide +kernel) (pa_cons (pv 4) pa_nil))) (pe_callTy call_int1 (by rfl) mint (by decide +kernel) (pa_cons (pe_cmpR op_lt (pv 4) pe_int (nomark _)) pa_nil))))
      (pss_cons (ps_asg (pe_op op_fdiv (pv 5) (pv 1)) (pg_sub (pv 0) pe_int set_list))
      (pss_one (ps_ret (pe_op op_mod (pv 5) (pv 1)))))) pss_nil)
      (pss_cons (ps_set (i := 6) sc_law_pick.nd rfl (.inl rfl) (pe_op op_mod (pe_op op_pow (pe_op op_add (pe_op op_add (pe_op op_mod (pv 4) pe_int) (pe_op op_mul pe_int (pv 3))) pe_int) pe_int) pe_int))
      (pss_cons (ps_set (i := 6) sc_law_pick.nd rfl (.inl rfl) (pe_op op_mod (pe_op op_pow (pe_op op_add (pe_op op_mul (pv 6) (pe_op op_add (pv 3) pe_int)) (pe_op op_mul (pe_op op_mul pe_int (pv 3)) (pv 3))) pe_int) pe_int))
      (pss_one (ps_ret (pe_op op_mod (pe_op op_fdiv (pv 6) pe_int) (pv 1)))))))))))), ?_⟩
    have ncp : c ≠ p := ne_of hc hp (by
      intro z
      injection z with z
      cases cells with
      | nil => cases z
      | cons x y => injection z with z1 _; cases z1)
    refine ⟨.ref p, rfl, p, _, 2, .int r, rfl, rfl, SqL.of hp, rfl, _, _, rfl, rfl, _, rfl, ite2 (fun e => ?_) (fun e => ?_)⟩
    · refine ⟨.ref p, rfl, p, _, 2, .int r, rfl, rfl, SqL.of hp, rfl, .int m, rfl, r, m, rfl, rfl, m0, ?_⟩
      refine ⟨.ref p, rfl, p, _, 2, .int r, rfl, rfl, SqL.of hp, rfl, .int m, rfl, r, m, rfl, rfl, ⟨m0, by omega⟩, .ref p, rfl, p, _, 2, 2, rfl, rfl, hp, rfl, ?_⟩
      refine ⟨_, rfl, q _ _ (Int.emod_nonneg _ (by omega)) (Int.emod_lt_of_pos _ m0) Kp.at ⟨cells, a, r / m, upd_same, ?_, a0, by omega, Int.ediv_nonneg r0 (by omega), cl⟩⟩
      rw [upd_ne ncp]
      exact hc
    · refine ⟨.ref p, rfl, p, _, 1, .int a, rfl, rfl, SqL.of hp, rfl, ?_⟩
      refine ⟨.int a, rfl, a, 1, rfl, rfl, .ref p, rfl, p, _, 1, 1, rfl, rfl, hp, rfl, ?_⟩
      have hp1 : (upd H p (.lst [.ref c, .int (a + 1), .int r])) p = some (.lst [.ref c, .int (a + 1), .int r]) := upd_same
      have hc1 : (upd H p (.lst [.ref c, .int (a + 1), .int r])) c = some (.lst (cells.map V.int)) := by
        rw [upd_ne ncp]
        exact hc
      -- cell
      refine ⟨.int a, rfl, 2017, a, rfl, rfl, .inl ⟨by decide, by decide⟩, _, 89, rfl, rfl, ?_⟩
      refine ⟨.ref p, rfl, p, _, 0, .ref c, rfl, rfl, SqL.of hp1, rfl, Nat.zero_le _, fun l hl => ?_⟩
      have nlp : l ≠ p := (ne_of_none hp1 hl).symm
      have nlc : l ≠ c := (ne_of_none hc1 hl).symm
      have hl0 : H l = none := by
        have h := hl
        rw [upd_ne nlp] at h
        exact h
      have hp2 : (upd (upd H p (.lst [.ref c, .int (a + 1), .int r])) l (.lst [])) p = some (.lst [.ref c, .int (a + 1), .int r]) := by
        rw [upd_ne nlp.symm]
        exact hp1
      have hc2 : (upd (upd H p (.lst [.ref c, .int (a + 1), .int r])) l (.lst [])) c = some (.lst (cells.map V.int)) := by
        rw [upd_ne nlc.symm]
        exact hc1
      have k2 : Kp p H (upd (upd H p (.lst [.ref c, .int (a + 1), .int r])) l (.lst [])) := Kp.at.put hl0
      refine ⟨.list (cells.map .int), .list [], .lst (SqL.of hc2) (dpInts cells), .lst (SqL.of upd_same) .nil, PySem.W.shaped_ints _, by decide, _, rfl, ite2 (fun e1 => ?_) (fun e1 => ?_)⟩
      have hne : 0 < cells.length := by
        cases cells with
        | nil => cases e1
        | cons x y => exact Nat.succ_pos _
      have hl1 : ((cells.map V.int).length : Int) = cells.length := by rw [List.length_map]
      obtain ⟨z, _, hat⟩ := atI_ints (ns := cells) (Int.emod_nonneg a (show ((cells.map V.int).length : Int) ≠ 0 by omega)) (by
        have := Int.emod_lt_of_pos a (show (0 : Int) < ((cells.map V.int).length : Int) by omega)
        omega)
      have hl2 : (0 : Int) < ((cells.map V.int).length : Int) := by omega
      refine ⟨.ref p, rfl, p, _, 0, .ref c, rfl, rfl, SqL.of hp2, rfl, .int a, rfl, .ref p, rfl, p, _, 0, .ref c, rfl, rfl, SqL.of hp2, rfl, c, _, rfl, .inl (SqL.of hc2), _, _, rfl, rfl, hl2, c, _, _, _, rfl, rfl, SqL.of hc2, hat, ?_⟩
      all_goals
        refine ⟨.int a, rfl, .ref p, rfl, p, _, 0, .ref c, rfl, rfl, SqL.of hp2, rfl, c, _, rfl, .inl (SqL.of hc2), _, _, rfl, rfl, _, rfl, ite2 (fun e2 => ?_) (fun e2 => ?_)⟩
        refine ⟨_, rfl, _, rfl, 10, 18, rfl, rfl, ⟨by decide, by decide, by decide⟩, _, _, rfl, rfl, _, rfl, ite2 (fun e3 => ?_) (fun e3 => ?_)⟩
        · refine ⟨_, rfl, _, rfl, 2, _, rfl, rfl, .inl ⟨by decide, by decide⟩, _, rfl, _, _, rfl, rfl, .inr ⟨_, rfl, ?_⟩⟩
          refine ⟨_, _, rfl, rfl, ?_⟩
          refine ⟨_, rfl, .int m, rfl, _, m, rfl, rfl, ⟨m0, by omega⟩, .ref p, rfl, p, _, 2, 2, rfl, rfl, hp2, rfl, ?_⟩
          refine ⟨_, rfl, .int m, rfl, _, m, rfl, rfl, m0, q _ _ (Int.emod_nonneg _ (by omega)) (Int.emod_lt_of_pos _ m0) (k2.trans Kp.at) ⟨cells, a + 1, _, upd_same, ?_, by omega, by omega, Int.ediv_nonneg ?_ (by omega), cl⟩⟩
          · rw [upd_ne ncp]
            exact hc2
          · split <;> split <;> omega
        all_goals
          refine ⟨_, rfl, _, 2147483579, rfl, rfl, (show (0 : Int) < 2147483579 by decide), .int a, rfl, 43793, a, rfl, rfl, .inl ⟨by decide, by decide⟩, _, _, rfl, rfl, _, 97, rfl, rfl, _, 5, rfl, rfl, ⟨by decide, by decide, draw_b1 a0 (by omega)⟩, _, 2147483647, rfl, rfl, (show (0 : Int) < 2147483647 by decide), ?_⟩
          refine ⟨_, rfl, .int a, rfl, a, 39119, rfl, rfl, _, _, rfl, rfl, .inl (mod_b _ 2147483647 (by decide) (by decide)), .int a, rfl, 81667, a, rfl, rfl, .inl ⟨by decide, by decide⟩, .int a, rfl, _, a, rfl, rfl, .inl ⟨by omega, by omega⟩, _, _, rfl, rfl, _, 3, rfl, rfl, ⟨by decide, by decide, draw_b3 _ a0 (by omega)⟩, _, 2147483563, rfl, rfl, (show (0 : Int) < 2147483563 by decide), ?_⟩
          refine ⟨_, rfl, _, 32, rfl, rfl, ⟨by decide, by decide⟩, .int m, rfl, _, m, rfl, rfl, m0, q _ _ (Int.emod_nonneg _ (by omega)) (Int.emod_lt_of_pos _ m0) k2 ⟨cells, a + 1, r, hp2, hc2, by omega, by omega, r0, cl⟩⟩
abbrev CDraw (P : Program) (w : World) (K : PySem.W.Frag) (mg : Str → Option Value) (base : Heap) : Prop := Ca P w K mg base 1 "_law_pick" ["_law_pen_here", "_law_upto"] spDraw
abbrev s_law_some_worth : Stmt := topS 30
theorem sc_law_some_worth : FnScope ["_law_pen_here", "_law_far"] ["_law_pen_here"] (defScope s_law_some_worth) :=
  ⟨rfl, rfl, rfl, by decide +kernel, rfl, by decide +kernel, by decide +kernel⟩
def spWorth : Sp := fun vs H Q _ => ∃ (p c : Addr) (n : Nat), vs = [.ref p] ∧ Pen H p c n ∧ n + 4 < 1000000 ∧
  ∀ (i : Int) H', -99 ≤ i → i ≤ 99 → Kp p H H' → Pen H' p c (n + 4) → Q (.int i) H'
theorem ok_worth {f : Addr} {fd : FuncData} (F : Fun K "_law_some_worth" "_law_some_worth" s_law_some_worth f fd) (c_law_pick : CDraw P w K mg base) : FnOk P w K mg base CX0 2 f fd ["_law_pen_here"] spWorth := by
  refine F.ok sc_law_some_worth (fun vs H Q E h => ?_) (fun cdv A outer s H vs Q E hr h => ?_)
  · obtain ⟨p, c, n, rfl, _⟩ := h
    rfl
  · obtain ⟨p, c, n, rfl, hP, hn, q⟩ := h
    refine ⟨_, (pss_cons (ps_set (i := 1) sc_law_some_worth.nd rfl (.inl rfl) (pe_op op_sub (pe_ca c_law_pick (hr.mono (by decide)) (by rfl) (pa_cons (pv 0) (pa_cons pe_int pa_nil))) pe_int))
      (pss_one (ps_ret (pe_ix (ixL K) (pe_lst (pa_cons pe_int (pa_cons (pe_op op_sub (pe_ca c_law_pick (hr.mono (by decide)) (by rfl) (pa_cons (pv 0) (pa_cons pe_int pa_nil))) pe_int) (pa_cons pe_int (pa_cons (pe_un un_neg pe_int) (pa_cons (pe_op op_sub (pe_ca c_law_pick (hr.mono (by decide)) (by rfl) (pa_cons (pv 0) (pa_cons pe_int pa_nil))) pe_int) (pa_cons (pe_un un_neg pe_int) (pa_cons (pv 1) (pa_cons (pe_ix (ixL K) (pe_lst (pa_cons pe_int (pa_cons (pe_un un_neg pe_int) pa_nil))) (pe_op op_mod (pv 1) pe_int) (fun _ _ => rfl)) pa_nil))))))))) (pe_ca c_law_pick (hr.mono (by decide)) (by rfl) (pa_cons (pv 0) (pa_cons pe_int pa_nil))) (fun _ _ => rfl))))), ?_⟩
    refine ⟨_, rfl, p, c, 199, n, rfl, hP, by omega, by decide, by decide, fun r1 H1 r1a r1b k1 hP1 => ⟨r1, 99, rfl, rfl, ?_⟩⟩
    refine ⟨_, rfl, p, c, 9, n + 1, rfl, hP1, by omega, by decide, by decide, fun r2 H2 r2a r2b k2 hP2 => ⟨r2, 6, rfl, rfl, 1, rfl, ?_⟩⟩
    refine ⟨_, rfl, p, c, 5, n + 2, rfl, hP2, by omega, by decide, by decide, fun r3 H3 r3a r3b k3 hP3 => ⟨r3, 2, rfl, rfl, 3, rfl, _, rfl, 99, rfl, ?_⟩⟩
    refine ⟨szL (show 2 ≤ 1000000 by decide), fun l0 hl0 => ?_⟩
    have m0 := Int.emod_nonneg (r1 - 99) (show (2 : Int) ≠ 0 by decide)
    have m1 := Int.emod_lt_of_pos (r1 - 99) (show (0 : Int) < 2 by decide)
    obtain ⟨y, hy, hat0⟩ := atI_ints (ns := [99, -99]) m0 m1
    have hy2 : -99 ≤ y ∧ y ≤ 99 := by
      simp only [List.mem_cons, List.not_mem_nil, or_false] at hy
      omega
    refine ⟨_, rfl, _, 2, rfl, rfl, (show (0 : Int) < 2 by decide), l0, _, _, _, rfl, rfl, SqL.of upd_same, hat0, ?_⟩
    refine ⟨szL (show 8 ≤ 1000000 by decide), fun l hl => ?_⟩
    have hP4 := (hP3.new (o := .lst [.int 99, .int (-99)]) hl0).new (o := .lst [.int 0, .int (r2 - 6), .int 1, .int (-1), .int (r3 - 2), .int (-3), .int (r1 - 99), .int y]) hl
    refine ⟨_, rfl, p, c, 8, n + 3, rfl, hP4, by omega, by decide, by decide, fun r4 H4 r4a r4b k4 hP5 => ?_⟩
    obtain ⟨z, hz, hat⟩ := atI_ints (ns := [0, r2 - 6, 1, -1, r3 - 2, -3, r1 - 99, y]) r4a r4b
    have hz2 : -99 ≤ z ∧ z ≤ 99 := by
      simp only [List.mem_cons, List.not_mem_nil, or_false] at hz
      omega
    exact ⟨l, _, r4, _, rfl, rfl, SqL.of (k4 _ _ ((hP3.new hl0).ne hl).1 upd_same), hat, q z _ hz2.1 hz2.2 ((((k1.trans k2).trans k3).trans (Kp.new hl0)).trans ((Kp.new hl).trans k4)) hP5⟩
abbrev CWorth (P : Program) (w : World) (K : PySem.W.Frag) (mg : Str → Option Value) (base : Heap) : Prop := Ca P w K mg base 2 "_law_some_worth" ["_law_pen_here"] spWorth
end
end Pf


namespace Pf
open PySem PySem.Spec PyProof.Rows L2
/-! ### the sum of a dict's values -/
theorem preSum_is (is : List Int) : ∀ n, n ≤ is.length → preSum (fun i => is.getD i 0) n = (is.take n).sum
  | 0, _ => by rw [List.take_zero]; rfl
  | n + 1, h => by
    have ih := preSum_is is n (by omega)
    have e : is[n]? = some (is.getD n 0) := by
      rw [List.getD_eq_getElem?_getD, List.getElem?_eq_getElem (by omega)]
      rfl
    rw [List.take_add_one, e, List.sum_append, ← ih]
    simp [preSum]
def tSumV (td : TE) : TE := fun σ H Q => td σ H fun x H1 => ∃ (a : Addr) (kvs : List (Key × V)) (is : List Int), x = V.ref a ∧ H1 a = some (.dK kvs) ∧ kvs.map (·.2) = is.map V.int ∧ Q (.int is.sum) H1
theorem pe_sumV {X : Cx} {o : Expr} {p pos apos mpos : Pos} {td : TE} (calm : X.calm = true) (gl : Gl X "sum") (free : X.mg "sum" = none) (ho : PE X o td) (b0 : attributeBase o "values" X.env (eval o X.env) = eval o X.env := by rfl) (l0 : (apos.endLine == mpos.line) = true := by rfl)
    (st : starEach [Expr.Call (.Attribute o "values" apos) [] [] mpos] X.env = [(false, eval (Expr.Call (.Attribute o "values" apos) [] [] mpos) X.env)] := by rfl) : PE X (.Call (.Name "sum" p) [.Call (.Attribute o "values" apos) [] [] mpos] [] pos) (tSumV td) := by
  refine ⟨fun pins s σ H Q I h => wpAny_Call_Name_kw (ld_blt I gl free (u := .builtin "sum") (by decide +kernel) ?_ (by decide) (by decide))⟩
  rw [st]
  refine PySem.callWith_builtin1 (wpAny_Call_method0_late b0 l0 (thn (ho.run pins s σ H _ I h) fun v s1 ⟨x, H1, I1, r1, a, kvs, is, ex, ha, hv, q⟩ => ?_))
  subst ex
  obtain rfl : v = Value.ref a := r1
  obtain ⟨_, nsys, vs, rel, dof⟩ := dk_of I1.hok ha
  obtain ⟨ep, dat⟩ := dof.dictAt
  obtain ⟨ob, es, hob, ex, _⟩ := id dat
  have low : a < s1.heap.objs.size := Heap.lt_size hob
  refine ⟨"dict", "dict.values", F.plainAttrs_dict, F.slot_dict_values, F.type_dict_values, ⟨ob, hob, ex.1⟩, fun b e => by cases e; exact ⟨ob, hob, ex.2.1⟩, Calls.callWith_builtin rfl (PySem.evalArgs_none ?_)⟩
  refine call_meetsIn F.slot_dict_values ⟨ob, hob, ex.1⟩ F.entry_dict_values (F.args_dict_values_1 _) (meets_dict_values (mixKind X.prog X.w) a nsys) ⟨⟨vs, dof⟩, ?_⟩
  have len : vs.length = is.length := by
    have e1 := congrArg List.length hv
    rw [List.length_map, List.length_map] at e1
    exact (KV.length rel).symm.trans e1
  have each : ∀ (i : Nat) (v : Value), (∃ k, vs[i]? = some (k, v)) → ∃ t, v = Value.int (is.getD i 0) t := fun i v ⟨k, hk⟩ => by
    obtain ⟨y, h1, h2⟩ := KV.at' rel hk
    have e1 : (kvs.map (·.2))[i]? = some y := by
      rw [List.getElem?_map, h1]
      rfl
    rw [hv, List.getElem?_map] at e1
    obtain ⟨j, hj, rfl⟩ := Option.map_eq_some_iff.mp e1
    obtain ⟨t, h3⟩ := h2
    refine ⟨t, ?_⟩
    rw [h3, List.getD_eq_getElem?_getD, hj]
    rfl
  have stay : ∀ b u, s1.heap.get? b = some u → (s1.heap.push { cls := .type "dict_values", data := .fields #[.ref a] }).get? b = some u := fun b u e => Heap.get?_push_of_some _ e
  have dat1 : (s1.heap.push { cls := .type "dict_values", data := .fields #[.ref a] }).DictAt (mixKind X.prog X.w) a vs ep := dat.keep stay
  have grown : (s1.heap.push { cls := .type "dict_values", data := .fields #[.ref a] }).objs.size = s1.heap.objs.size + 1 := Heap.size_push _ _
  refine call_sum_walkG (wpAny_pyIter_values (v := s1.heap.objs.size) (d := a) ⟨_, Heap.get?_push_size _ rfl, rfl, rfl⟩ dat1 ?_)
  refine ⟨_, _, _, _, _, _, fun i => is.getD i 0, rfl, Walks.dictValues (knd := mixKind X.prog X.w) (A := X.A.in1) (I.ok.hd calm) (s1.heap.push { cls := .type "dict_values", data := .fields #[.ref a] }).objs.size a (by rw [grown]; exact Nat.ne_of_lt (Nat.lt_succ_of_lt low)) vs ep,
    ⟨⟨_, Heap.get?_push_size _ rfl, rfl, rfl⟩, dat1.keep fun b u e => Heap.get?_push_of_some _ e⟩, fun b hb => ?_, each, fun h' tk t' hk => ?_⟩
  · show b < ((s1.heap.push _).push _).objs.size
    rw [Heap.size_push, Heap.size_push]
    rw [grown] at hb
    simp only [List.mem_cons, List.not_mem_nil, or_false] at hb
    rcases hb with rfl | rfl
    · exact Nat.lt_succ_self _
    · exact Nat.lt_succ_of_lt (Nat.lt_succ_of_lt low)
  · have e0 := preSum_is is vs.length (by omega)
    rw [len, List.take_length] at e0
    refine ⟨.int is.sum, H1, I1.kept (t' := tk) fun b u e => hk b u (fun hmem => ?_) (Heap.get?_push_of_some _ (stay b u e)), ⟨t', ?_⟩, q⟩
    · have e1 := List.mem_singleton.mp hmem
      have e2 := Heap.lt_size e
      rw [grown] at e1
      rw [e1] at e2
      exact absurd e2 (Nat.not_lt.mpr (Nat.le_succ _))
    · rw [len, e0]
end Pf


namespace Pf
open PySem PySem.Spec PyProof.Rows L2
/-! ### what is sorted once it is gathered -/
theorem sort_tail {X : Cx} {pins : List (Addr × Obj)} {σ : L2.St} {H : Hp} {s : Shared} {Q : VK} (I : Inv X pins σ H s) (hu : X.A.units + 64 < cLine) {β : Type} {v : β → V} {dd : β → PyData} {ys : List β} {acc : List Value} (rv : Vals (ys.map v) acc) (hy : ∀ y ∈ ys, Dp X.K H (v y) (dd y) ∧ (dd y).depth ≤ 50)
    (al : PySem.W.AllAlike (ys.map dd)) (so : PySem.W.Sortable (ys.map dd)) (hn : ys.length ≤ sizeLine) (qq : ∀ p, H p = none → Q (.ref p) (upd H p (.lst ((ys.mergeSort (PySem.W.dataLe false dd)).map v)))) {R : PySem.Fin → Shared → Prop} {E : Value → Shared → Prop}
    (hR : ∀ l s', EP X pins σ Q l s' → R (.done (.ret l)) s') :
    wpAny (model X.prog X.w) X.A.in1 (do let l ← newList acc; let _ ← holding [l] (call (.builtin "list.sort") [l] []); ret l) R E s := by
  have hz2 : acc.length ≤ sizeLine := by
    rw [← rv.length, List.length_map]
    exact hn
  refine wpAny_bind (wpAny_newList ?_ hz2)
  have hat : (s.heap.push (seqObj "list" acc.toArray 0)).get? s.heap.objs.size = some (seqObj "list" acc.toArray 0) := Heap.get?_push_size _ rfl
  have hlt : ∀ b ob, s.heap.get? b = some ob → b ≠ s.heap.objs.size := fun b ob e => Nat.ne_of_lt (Heap.lt_size e)
  have old : ∀ b ob, s.heap.get? b = some ob → (s.heap.push (seqObj "list" acc.toArray 0)).get? b = some ob := fun b ob e => Heap.get?_push_of_some _ e
  have rel : PySem.W.EachIs (fun (u : Value) (y : β) => RelV (v y) u) acc ys := each_vals (v := v) rv
  have rd : PySem.W.EachIs (fun (u : Value) (y : β) => ∃ as, Reads (PySem.W.sortingHeap (s.heap.push (seqObj "list" acc.toArray 0)) s.heap.objs.size acc) u (dd y) as) acc ys := (each_reads (v := v) I rv fun y hy' => (hy y hy').1).mono fun _ _ ⟨as, w⟩ => ⟨as, PyProof.Rows.Reads.keeps (fun b ob e => PySem.W.sortingHeap_old (hlt b ob e) (old b ob e)) w⟩
  have hub : ∀ y ∈ ys, X.A.in1.in1.units + (dd y).depth < cLine := fun y hy' => by
    have := (hy y hy').2
    show X.A.units + 2 + (dd y).depth < cLine
    omega
  have S := PySem.W.SortsAt.data (prog := X.prog) (w := X.w) (A := X.A.in1.in1) (s := { s with heap := PySem.W.sortingHeap (s.heap.push (seqObj "list" acc.toArray 0)) s.heap.objs.size acc }) (PySem.W.each_map (R := fun v d => ∃ as, Reads (PySem.W.sortingHeap (s.heap.push (seqObj "list" acc.toArray 0)) s.heap.objs.size acc) v d as) dd rd) al so (PySem.W.bound_map hub)
  refine wpAny_bind (wpAny_holding (wpAny_call_entry slot_list_sort ⟨_, hat, rfl⟩ entry_list_sort ?body (args_list_sort _)))
  case body =>
    refine PySem.W.list_sort_vals (s := { s with heap := s.heap.push (seqObj "list" acc.toArray 0) }) hat S hz2 ⟨_, rfl, wpAny_pure (hR _ _ ?_)⟩
    have each := PySem.W.sortVals_data false rel rd al
    generalize PySem.W.sortVals (PySem.W.dataKind (PySem.W.sortingHeap (s.heap.push (seqObj "list" acc.toArray 0)) s.heap.objs.size acc) (ys.map dd)) false acc acc = out at each ⊢
    obtain ⟨ee, he'⟩ := PyProof.Rows.sortedHeap_at (vs := acc) (out := out.toArray) hat
    have hl2 : ((ys.mergeSort (PySem.W.dataLe false dd)).map v).length ≤ sizeLine := by
      rw [List.length_map, List.length_mergeSort]
      omega
    have free : H s.heap.objs.size = none := I.hok.fresh (Nat.le_refl _)
    have gone : s.heap.get? s.heap.objs.size = none := by
      cases e : s.heap.get? s.heap.objs.size with
      | none => rfl
      | some ob => exact absurd rfl (hlt _ ob e)
    exact ⟨.ref s.heap.objs.size, upd H s.heap.objs.size (.lst ((ys.mergeSort (PySem.W.dataLe false dd)).map v)), I.laidN (t' := s.toks) (fun b ob e => by rw [PyProof.Rows.sortedHeap_old (hlt b ob e) (Heap.lt_size (old b ob e))]; exact old b ob e) gone free ⟨hl2, out, ee, vals_each (v := v) each, by simpa using he'⟩, rfl, qq _ free⟩
/-! ### sorted(d): a dict by numbers -/
def rSortKI (K : PySem.W.Frag) : List V → Hp → VK → Prop := fun vs H Q => ∃ (a : Addr) (kvs : List (Key × V)) (ks : List Int), vs = [.ref a] ∧ Rd H a (.dK kvs) ∧ kvs.map (·.1) = ks.map Sum.inl ∧ ∀ p, H p = none → Q (.ref p) (upd H p (.lst ((ks.mergeSort (PySem.W.dataLe false PyData.int)).map V.int)))
theorem cr_sortKI (K : PySem.W.Frag) {X : Cx} (calm : X.calm = true) (hu : X.A.units + 64 < cLine) (hK : X.K = K := by rfl) : CallR X (.builtin "sorted") (rSortKI K) := by
  subst hK
  intro pins s σ H xs us Q I r q
  obtain ⟨a, kvs, ks, ex, hd, hks, q⟩ := q
  subst ex
  obtain ⟨u, eu, rx⟩ := vals1 r
  subst eu
  cases rx
  obtain ⟨z, lo, vs, rel, dd⟩ := dk_rd I.hok hd
  obtain ⟨ep, hat⟩ := dd.dictAt
  have hkeys : vs.map (·.1) = ks.map Sum.inl := rel.keys.symm.trans hks
  have hl : vs.length = ks.length := by
    have e := congrArg List.length hkeys
    rw [List.length_map, List.length_map] at e
    exact e
  have hkl : kvs.length = ks.length := by
    have e := congrArg List.length hks
    rw [List.length_map, List.length_map] at e
    exact e
  have h16 : vs.length ≤ sizeLine := by omega
  refine Calls.call_function_entry PyProof.Rows.kind_sorted PyProof.Rows.plain_sorted PyProof.Rows.entry_sorted (PyProof.Rows.args_sorted1 _) ?_
  unfold Builtin.«sorted»
  refine wpAny_bind (m := checkCount "sorted" 1 1 _) (wpAny_pure ?_)
  refine wpAny_bind (PySem.W.kdu_collect (A := X.A.in1) (PySem.W.kdl_dict (knd := mixKind X.prog X.w) (kvs := vs) (ep := ep) lo) (I.ok.hd calm) hat h16 fun h' tk acc hk hacc => ?_)
  have hal : acc.toList.length = ks.length := by rw [Array.length_toList, hacc.1, hl]
  have hS : IntsAre acc.toList ks := ints_each hal fun j v e => by
    obtain ⟨k, x, e1, e2⟩ := hacc.2 j v (by rw [← Array.getElem?_toList]; exact e)
    have e3 : (vs.map (·.1))[j]? = some k := by rw [List.getElem?_map, e1]; rfl
    rw [hkeys, List.getElem?_map] at e3
    cases e4 : ks[j]? with
    | none => rw [e4] at e3; cases e3
    | some y =>
      rw [e4] at e3
      have e5 : Sum.inl y = k := Option.some.inj e3
      subst e5
      rcases keyIs_shape (show keyIs (Sum.inl y) v = true from e2) with ⟨i, t, ek, ev⟩ | ⟨z, t, ek, ev⟩
      · cases ek
        exact ⟨y, t, rfl, ev⟩
      · cases ek
  have I1 : Inv X pins σ H { s with heap := h', toks := tk } := I.kept hk
  refine sort_tail I1 hu (v := V.int) (dd := PyData.int) (ys := ks) (vals_of_ints hS) (fun y _ => ⟨.int _, by simp [PyData.depth]⟩) (PySem.W.AllAlike.of fun b b' => by simp [PySem.W.alike]) (PySem.W.Sortable.others fun b => ⟨(fun z => by cases z), fun xs z => by cases z⟩) (by omega) q fun l s' h => ⟨_, rfl, h⟩
/-! ### sorted(d.items()): a dict by numbers, of numbers -/
theorem laid_tuples {X : Cx} {pins : List (Addr × Obj)} {σ : L2.St} {H : Hp} {s : Shared} {h' : Heap} {tk : Nat} {kvs : List (Key × V)} {vs : List (Key × Value)} {as : List Addr} (I : Inv X pins σ H s) (kv : KV kvs vs)
    (hk : ∀ b o, s.heap.get? b = some o → h'.get? b = some o) (hl : as.length = vs.length) (hG : PySem.W.KdxG (mixKind X.prog X.w) vs s.heap.objs.size h' as) :
    ∃ H' : Hp, Ext H H' ∧ Paired (fun (t : Addr) (q : Key × V) => H' t = some (.tup [kV q.1, q.2])) as kvs ∧ Inv X pins σ H' { s with heap := h', toks := tk } := by
  have lk : kvs.length = vs.length := Paired.length kv
  have nd : as.Nodup := List.Pairwise.imp (fun {a b} (h : a < b) => Nat.ne_of_lt h) hG.rise
  have new : ∀ t ∈ as, H t = none := fun t ht => I.hok.fresh (Nat.le_of_lt (hG.above t ht))
  have atP := LiI.putT_at as kvs H (by omega) nd
  have off : ∀ b, b ∉ as → LiI.putT H as kvs b = H b := fun b h1 => LiI.putT_off as kvs _ h1
  have low : ∀ b o, s.heap.get? b = some o → b ∉ as := fun b o e z => absurd (Heap.lt_size e) (Nat.not_lt.mpr (Nat.le_of_lt (hG.above b z)))
  have kp : ∀ b u, H b = some u → (LiI.putT H as kvs) b = some u := fun b u e => by
    rw [off b (fun z => by rw [new b z] at e; cases e)]
    exact e
  refine ⟨LiI.putT H as kvs, kp, atP, ?_⟩
  refine I.call' (ch := []) rfl ⟨fun b o q _ _ _ => hk b o q, fun b o q _ _ _ => ⟨o.slots, hk b o q⟩, fun b o q n _ => ?_, fun b o q _ => ⟨o, hk b o q⟩, fun b xs q => kp b _ q, fun b o u q => kp b _ q, fun b ps q => ⟨#[], by rw [kp b _ q]; simp⟩⟩ (fun b u q => ?_) I.bare fun b z => by simp at z
  · rw [off b (low b o q)]
    exact n
  · by_cases hb : b ∈ as
    · obtain ⟨j, pk, e1, e2, e3⟩ := LiI.paired_ix atP hb
      rw [e3] at q
      cases q
      obtain ⟨key, k, x, f1, f2, f3⟩ := hG.pairs j b e1
      obtain ⟨qv, g1, g2, g3⟩ := LiI.paired_get kv e2
      rw [f1] at g1
      cases g1
      have rk : RelV (kV pk.1) key := by
        rw [g2]
        exact relV_key (show keyIs k key = true from f2)
      exact ⟨by show 2 ≤ sizeLine; decide, [key, x], .cons rk (.cons g3 .nil), ⟨_, f3, rfl, _, rfl⟩⟩
    · rw [off b hb] at q
      exact (I.hok b u q).stay (fun d v _ y => hk d v y) (fun d y => kp d _ y) fun d xs y => kp d _ y
def d2 (y : Addr × Int × Int) : PyData := .tuple [.int y.2.1, .int y.2.2]
def tSortItems (te : TE) : TE := fun σ H Q => te σ H fun x H1 => ∃ (d : Addr) (t : List (Int × Int)), x = .ref d ∧ H1 d = some (.dK (t.map fun y => (.inl y.1, .int y.2))) ∧
  ∀ (p : Addr) (ys : List (Addr × Int × Int)) (H' : Hp), H1 p = none → Ext H1 H' → H' p = some (.lst (ys.map fun y => .ref y.1)) → (∀ y ∈ ys, H' y.1 = some (.tup [.int y.2.1, .int y.2.2])) → ys.map (·.2) = t.mergeSort (PySem.W.dataLe false fun z : Int × Int => PyData.tuple [.int z.1, .int z.2]) → Q (.ref p) H'
theorem pe_sortItems {X : Cx} {o : Expr} {p pos apos mpos : Pos} {td : TE} (calm : X.calm = true) (hu : X.A.units + 64 < cLine) (gl : Gl X "sorted") (free : X.mg "sorted" = none) (ho : PE X o td) (b0 : attributeBase o "items" X.env (eval o X.env) = eval o X.env := by rfl) (l0 : (apos.endLine == mpos.line) = true := by rfl)
    (st : starEach [Expr.Call (.Attribute o "items" apos) [] [] mpos] X.env = [(false, eval (Expr.Call (.Attribute o "items" apos) [] [] mpos) X.env)] := by rfl) : PE X (.Call (.Name "sorted" p) [.Call (.Attribute o "items" apos) [] [] mpos] [] pos) (tSortItems td) := by
  refine ⟨fun pins s σ H Q I h => wpAny_Call_Name_kw (ld_blt I gl free (u := .builtin "sorted") (by decide +kernel) ?_ (by decide) (by decide))⟩
  rw [st]
  refine PySem.callWith_builtin1 (wpAny_Call_method0_late b0 l0 (thn (ho.run pins s σ H _ I h) fun v s1 ⟨x, H1, I1, r1, a, t, ex, ha, q⟩ => ?_))
  subst ex
  obtain rfl : v = Value.ref a := r1
  obtain ⟨hz, nsys, vs, rel, dof⟩ := dk_of I1.hok ha
  obtain ⟨ep, dat⟩ := dof.dictAt
  obtain ⟨ob, es, hob, ex, _⟩ := id dat
  have low : a < s1.heap.objs.size := Heap.lt_size hob
  refine ⟨"dict", "dict.items", F.plainAttrs_dict, F.slot_dict_items, F.type_dict_items, ⟨ob, hob, ex.1⟩, fun b e => by cases e; exact ⟨ob, hob, ex.2.1⟩, Calls.callWith_builtin rfl (PySem.evalArgs_none ?_)⟩
  refine call_meetsIn F.slot_dict_items ⟨ob, hob, ex.1⟩ F.entry_dict_items (F.args_dict_items_1 _) (meets_dict_items (mixKind X.prog X.w) a nsys) ⟨⟨vs, dof⟩, ?_⟩
  have len : vs.length = t.length := by
    have e1 := KV.length rel
    rw [List.length_map] at e1
    exact e1.symm
  have hz' : t.length ≤ sizeLine := by
    rw [List.length_map] at hz
    exact hz
  have I2 : Inv X pins σ H1 { s1 with heap := s1.heap.push { cls := .type "dict_items", data := .fields #[.ref a] } } := I1.kept (t' := s1.toks) fun b ob q => Heap.get?_push_of_some _ q
  refine Calls.call_function_entry PyProof.Rows.kind_sorted PyProof.Rows.plain_sorted PyProof.Rows.entry_sorted (PyProof.Rows.args_sorted1 _) ?_
  unfold Builtin.«sorted»
  refine wpAny_bind (m := checkCount "sorted" 1 1 _) (wpAny_pure ?_)
  refine wpAny_bind (PySem.W.kdx_collect (A := X.A.in1) (knd := mixKind X.prog X.w) (kvs := vs) (ep := ep) (I.ok.hd calm) ⟨_, Heap.get?_push_size _ rfl, rfl, rfl⟩ (dat.push _) (by omega) fun h' tk as hk hl hG => ?_)
  obtain ⟨H', k1, k6, J⟩ := laid_tuples (tk := tk) I2 rel hk hl hG
  have hal : as.length = t.length := by omega
  have e1 : (as.zip t).map (·.1) = as := List.map_fst_zip (by omega)
  have e2 : (as.zip t).map (·.2) = t := List.map_snd_zip (by omega)
  have hat : ∀ y ∈ as.zip t, H' y.1 = some (.tup [.int y.2.1, .int y.2.2]) := by
    have : ∀ {as : List Addr} {t : List (Int × Int)}, Paired (fun (b : Addr) (q : Key × V) => H' b = some (.tup [kV q.1, q.2])) as (t.map fun y => ((.inl y.1 : Key), V.int y.2)) → ∀ y ∈ as.zip t, H' y.1 = some (.tup [.int y.2.1, .int y.2.2]) := by
      intro as
      induction as with
      | nil => intro t _ y hy; cases hy
      | cons b as ih =>
        intro t hp y hy
        cases t with
        | nil => cases hy
        | cons z t =>
          rw [List.map_cons] at hp
          cases hp with
          | cons r tl =>
            rcases List.mem_cons.mp hy with rfl | hy
            · exact r
            · exact ih tl y hy
    exact this k6
  have rv : Vals ((as.zip t).map fun y => V.ref y.1) (as.map Value.ref) := by
    have e3 : ((as.zip t).map fun y => V.ref y.1) = as.map V.ref := by
      have := congrArg (List.map V.ref) e1
      rw [List.map_map] at this
      exact this
    rw [e3]
    exact LiI.vals_refs as
  refine sort_tail J hu (v := fun y : Addr × Int × Int => V.ref y.1) (dd := d2) (ys := as.zip t) rv (fun y hy => ⟨.tup (SqT.of (hat y hy)) (.cons (.int _) (.cons (.int _) .nil)), by simp [d2, PyData.depth, PyData.depthAll]⟩) (PySem.W.AllAlike.of fun b b' => by simp [d2, PySem.W.alike, PySem.W.alikeAll]) (PySem.W.Sortable.tuples fun b => ⟨_, _, rfl⟩) (by rw [List.length_zip]; omega) (fun p hp => ?_) fun l s' h => ⟨_, rfl, h⟩
  have xp := Ext.new (o := .lst (((as.zip t).mergeSort (PySem.W.dataLe false d2)).map fun y => V.ref y.1)) hp
  refine q p _ _ (k1.none hp) (k1.trans xp) upd_same (fun y hy => xp _ _ (hat y ((List.mergeSort_perm _ _).mem_iff.mp hy))) ?_
  have hm := List.map_mergeSort (r := PySem.W.dataLe false d2) (s := PySem.W.dataLe false fun z : Int × Int => PyData.tuple [.int z.1, .int z.2]) (f := fun b : Addr × Int × Int => b.2) (l := as.zip t) (fun a _ b _ => rfl)
  rw [e2] at hm
  exact hm
end Pf


namespace Pf
open PySem PySem.Spec PyProof.Rows L2
/-! ### sorted(d.items()): a dict by texts, of numbers -/
def d2S (y : Addr × Str × Int) : PyData := .tuple [.str y.2.1, .int y.2.2]
def tSortItemsS (te : TE) : TE := fun σ H Q => te σ H fun x H1 => ∃ (d : Addr) (t : List (Str × Int)), x = .ref d ∧ H1 d = some (.dK (t.map fun y => (.inr y.1, .int y.2))) ∧
  ∀ (p : Addr) (ys : List (Addr × Str × Int)) (H' : Hp), H1 p = none → Ext H1 H' → H' p = some (.lst (ys.map fun y => .ref y.1)) → (∀ y ∈ ys, H' y.1 = some (.tup [.str y.2.1, .int y.2.2])) → ys.map (·.2) = t.mergeSort (PySem.W.dataLe false fun z : Str × Int => PyData.tuple [.str z.1, .int z.2]) → Q (.ref p) H'
theorem pe_sortItemsS {X : Cx} {o : Expr} {p pos apos mpos : Pos} {td : TE} (calm : X.calm = true) (hu : X.A.units + 64 < cLine) (gl : Gl X "sorted") (free : X.mg "sorted" = none) (ho : PE X o td) (b0 : attributeBase o "items" X.env (eval o X.env) = eval o X.env := by rfl) (l0 : (apos.endLine == mpos.line) = true := by rfl)
    (st : starEach [Expr.Call (.Attribute o "items" apos) [] [] mpos] X.env = [(false, eval (Expr.Call (.Attribute o "items" apos) [] [] mpos) X.env)] := by rfl) : PE X (.Call (.Name "sorted" p) [.Call (.Attribute o "items" apos) [] [] mpos] [] pos) (tSortItemsS td) := by
  refine ⟨fun pins s σ H Q I h => wpAny_Call_Name_kw (ld_blt I gl free (u := .builtin "sorted") (by decide +kernel) ?_ (by decide) (by decide))⟩
  rw [st]
  refine PySem.callWith_builtin1 (wpAny_Call_method0_late b0 l0 (thn (ho.run pins s σ H _ I h) fun v s1 ⟨x, H1, I1, r1, a, t, ex, ha, q⟩ => ?_))
  subst ex
  obtain rfl : v = Value.ref a := r1
  obtain ⟨hz, nsys, vs, rel, dof⟩ := dk_of I1.hok ha
  obtain ⟨ep, dat⟩ := dof.dictAt
  obtain ⟨ob, es, hob, ex, _⟩ := id dat
  have low : a < s1.heap.objs.size := Heap.lt_size hob
  refine ⟨"dict", "dict.items", F.plainAttrs_dict, F.slot_dict_items, F.type_dict_items, ⟨ob, hob, ex.1⟩, fun b e => by cases e; exact ⟨ob, hob, ex.2.1⟩, Calls.callWith_builtin rfl (PySem.evalArgs_none ?_)⟩
  refine call_meetsIn F.slot_dict_items ⟨ob, hob, ex.1⟩ F.entry_dict_items (F.args_dict_items_1 _) (meets_dict_items (mixKind X.prog X.w) a nsys) ⟨⟨vs, dof⟩, ?_⟩
  have len : vs.length = t.length := by
    have e1 := KV.length rel
    rw [List.length_map] at e1
    exact e1.symm
  have hz' : t.length ≤ sizeLine := by
    rw [List.length_map] at hz
    exact hz
  have I2 : Inv X pins σ H1 { s1 with heap := s1.heap.push { cls := .type "dict_items", data := .fields #[.ref a] } } := I1.kept (t' := s1.toks) fun b ob q => Heap.get?_push_of_some _ q
  refine Calls.call_function_entry PyProof.Rows.kind_sorted PyProof.Rows.plain_sorted PyProof.Rows.entry_sorted (PyProof.Rows.args_sorted1 _) ?_
  unfold Builtin.«sorted»
  refine wpAny_bind (m := checkCount "sorted" 1 1 _) (wpAny_pure ?_)
  refine wpAny_bind (PySem.W.kdx_collect (A := X.A.in1) (knd := mixKind X.prog X.w) (kvs := vs) (ep := ep) (I.ok.hd calm) ⟨_, Heap.get?_push_size _ rfl, rfl, rfl⟩ (dat.push _) (by omega) fun h' tk as hk hl hG => ?_)
  obtain ⟨H', k1, k6, J⟩ := laid_tuples (tk := tk) I2 rel hk hl hG
  have hal : as.length = t.length := by omega
  have e1 : (as.zip t).map (·.1) = as := List.map_fst_zip (by omega)
  have e2 : (as.zip t).map (·.2) = t := List.map_snd_zip (by omega)
  have hat : ∀ y ∈ as.zip t, H' y.1 = some (.tup [.str y.2.1, .int y.2.2]) := by
    have : ∀ {as : List Addr} {t : List (Str × Int)}, Paired (fun (b : Addr) (q : Key × V) => H' b = some (.tup [kV q.1, q.2])) as (t.map fun y => ((.inr y.1 : Key), V.int y.2)) → ∀ y ∈ as.zip t, H' y.1 = some (.tup [.str y.2.1, .int y.2.2]) := by
      intro as
      induction as with
      | nil => intro t _ y hy; cases hy
      | cons b as ih =>
        intro t hp y hy
        cases t with
        | nil => cases hy
        | cons z t =>
          rw [List.map_cons] at hp
          cases hp with
          | cons r tl =>
            rcases List.mem_cons.mp hy with rfl | hy
            · exact r
            · exact ih tl y hy
    exact this k6
  have rv : Vals ((as.zip t).map fun y => V.ref y.1) (as.map Value.ref) := by
    have e3 : ((as.zip t).map fun y => V.ref y.1) = as.map V.ref := by
      have := congrArg (List.map V.ref) e1
      rw [List.map_map] at this
      exact this
    rw [e3]
    exact LiI.vals_refs as
  refine sort_tail J hu (v := fun y : Addr × Str × Int => V.ref y.1) (dd := d2S) (ys := as.zip t) rv (fun y hy => ⟨.tup (SqT.of (hat y hy)) (.cons (.str _) (.cons (.int _) .nil)), by simp [d2S, PyData.depth, PyData.depthAll]⟩) (PySem.W.AllAlike.of fun b b' => by simp [d2S, PySem.W.alike, PySem.W.alikeAll]) (PySem.W.Sortable.tuples fun b => ⟨_, _, rfl⟩) (by rw [List.length_zip]; omega) (fun p hp => ?_) fun l s' h => ⟨_, rfl, h⟩
  have xp := Ext.new (o := .lst (((as.zip t).mergeSort (PySem.W.dataLe false d2S)).map fun y => V.ref y.1)) hp
  refine q p _ _ (k1.none hp) (k1.trans xp) upd_same (fun y hy => xp _ _ (hat y ((List.mergeSort_perm _ _).mem_iff.mp hy))) ?_
  have hm := List.map_mergeSort (r := PySem.W.dataLe false d2S) (s := PySem.W.dataLe false fun z : Str × Int => PyData.tuple [.str z.1, .int z.2]) (f := fun b : Addr × Str × Int => b.2) (l := as.zip t) (fun a _ b _ => rfl)
  rw [e2] at hm
  exact hm
/-! ### the least of three -/
def rMin3 : List V → Hp → VK → Prop := fun xs H Q => ∃ i j k : Int, xs = [.int i, .int j, .int k] ∧ ∀ m : Int, m ≤ i → m ≤ j → m ≤ k → (m = i ∨ m = j ∨ m = k) → Q (.int m) H
theorem call_min3 {X : Cx} (hc : X.calm = true) : CallR X (.builtin "min") rMin3 := fun pins s σ H xs us Q I r h => by
  obtain ⟨i, j, k, ex, q⟩ := h
  refine call_min3Nu hc pins s σ H xs us Q I r ⟨.int i, .int j, .int k, .int (if k < (if j < i then j else i) then k else (if j < i then j else i)), ex, ?_, q _ ?_ ?_ ?_ ?_⟩
  · have e1 : nuMin2 (.int i) (.int j) = some (.int (if j < i then j else i)) := by
      show some (if decide (j < i) = true then V.int j else V.int i) = _
      by_cases h : j < i
      · rw [if_pos (decide_eq_true h), if_pos h]
      · rw [if_neg (fun z => h (of_decide_eq_true z)), if_neg h]
    show (nuMin2 (.int i) (.int j)).bind _ = _
    rw [e1]
    generalize (if j < i then j else i) = m
    show some (if decide (k < m) = true then V.int k else V.int m) = _
    by_cases h : k < m
    · rw [if_pos (decide_eq_true h), if_pos h]
    · rw [if_neg (fun z => h (of_decide_eq_true z)), if_neg h]
  all_goals (split <;> split <;> omega)
end Pf


namespace Pf
open PySem PySem.Spec PyProof.Rows L2
/-! ### dict(zip(a, b)) of two tuples -/
section
variable {P : Program} {w : World} {A : Around} {E : Value → Shared → Prop} {s : Shared} {q U O G j1 j2 m1 m2 : Addr} {f : Bool} {og : Obj} {k1 k2 : Nat} {us vs : Array Value}
theorem zn_item {u v : Value} {R : Value → Shared → Prop} (D : ZipApart q U O j1 j2 m1 m2) (hq : IsZipHeld s.heap q U O G f) (hG : s.heap.get? G = some og) (hU : IsPair s.heap U (.ref j1) (.ref j2)) (t1 : s.heap.IsTupleIter j1 m1 k1) (t2 : s.heap.IsTupleIter j2 m2 k2) (b1 : s.heap.IsTuple m1 us) (b2 : s.heap.IsTuple m2 vs) (eu : us[k1]? = some u) (ev : vs[k2]? = some v)
    (next : ∀ h', IsZipHeld h' q U O G true → h'.IsTupleIter j1 m1 (k1 + 1) → h'.IsTupleIter j2 m2 (k2 + 1) → IsPair h' s.heap.objs.size u v → (∀ c o, c ≠ q → c ≠ j1 → c ≠ j2 → s.heap.get? c = some o → h'.get? c = some o) → R (.ref s.heap.objs.size) { s with heap := h' }) :
    wpAny (model P w) A (Builtin.«zip.__next__» ⟨[.ref q], []⟩) (fun fin s' => ∃ v, fin = .done (.ret v) ∧ R v s') E s := by
  show wpAny _ _ (field (.ref q) 2 >>= _) _ _ _
  refine wpAny_bind (wpAny_field hq rfl (x := .bool false) rfl ?_)
  show wpAny _ _ (field (.ref q) 3 >>= _) _ _ _
  refine wpAny_bind (wpAny_field hq rfl (x := .ref U) rfl (wpAny_bind (wpAny_seqItems hU rfl ?_)))
  show wpAny _ _ (Builtin.SmallTypes.ownedTupleIsFree (.ref q) >>= _) _ _ _
  refine wpAny_bind (wpAny_tupleHeld_zip hq hG fun g1 q1 e1 => ?_)
  simp only [Bool.false_eq_true, if_false]; refine wpAny_bind ?_; rw [← Array.forIn_toList]; simp only [List.forIn_cons, List.forIn_nil]
  refine wpAny_bind (wpAny_bind (wpAny_holding ?_))
  show wpAny _ _ (Builtin.SmallTypes.nextOf (.ref j1) >>= _) _ _ _
  refine wpAny_bind (RZ.nextOf_tuple_item (s := { s with heap := g1 }) (t1.extBut e1.extBut D.i1z) (b1.extBut e1.extBut D.l1z) eu fun g2 t1b e2 => wpAny_pure (wpAny_pure ?_))
  refine wpAny_bind (wpAny_bind (wpAny_holding ?_))
  show wpAny _ _ (Builtin.SmallTypes.nextOf (.ref j2) >>= _) _ _ _
  refine wpAny_bind (RZ.nextOf_tuple_item (s := { s with heap := g2 }) ((t2.extBut e1.extBut D.i2z).extBut e2.extBut D.i12.symm) ((b2.extBut e1.extBut D.l2z).extBut e2.extBut D.l2i1) ev fun g3 t2b e3 => wpAny_pure (wpAny_pure (wpAny_pure ?_)))
  show wpAny _ _ (newTuple [u, v] >>= _) _ _ _
  refine wpAny_bind (wpAny_newTuple (wpAny_pure ⟨_, rfl, ?_⟩))
  have sz : g3.objs.size = s.heap.objs.size := by rw [e3.1, e2.1, e1.1]
  have q3 : IsZipHeld g3 q U O G true := e3.extBut _ _ D.i2z.symm (e2.extBut _ _ D.i1z.symm q1)
  have pr : IsPair (g3.push { cls := .type "tuple", data := .seq #[u, v] }) g3.objs.size u v := Heap.get?_push_size _ rfl
  show R (.ref g3.objs.size) _
  rw [sz] at pr ⊢
  exact next _ (Heap.get?_push_of_some _ q3) ((t1b.extBut e3.extBut D.i12).at fun o e => Heap.get?_push_of_some _ e) (t2b.at fun o e => Heap.get?_push_of_some _ e) pr fun c o c1 c2 c3 e => Heap.get?_push_of_some _ (e3.extBut _ _ c3 (e2.extBut _ _ c2 (e1.extBut _ _ c1 e)))
theorem zn_end {R : Fin → Shared → Prop} (hh : A.handled = none) (D : ZipApart q U O j1 j2 m1 m2) (hq : IsZipHeld s.heap q U O G f) (hG : s.heap.get? G = some og) (hU : IsPair s.heap U (.ref j1) (.ref j2)) (t1 : s.heap.IsTupleIter j1 m1 k1) (b1 : s.heap.IsTuple m1 us) (eu : us[k1]? = none)
    (next : ∀ h' e, (∀ c o, c ≠ q → c ≠ j1 → s.heap.get? c = some o → h'.get? c = some o) → (∃ o, h'.get? e = some o ∧ o.cls = .type "StopIteration") → E (.ref e) { s with heap := h' }) :
    wpAny (model P w) A (Builtin.«zip.__next__» ⟨[.ref q], []⟩) R E s := by
  show wpAny _ _ (field (.ref q) 2 >>= _) _ _ _
  refine wpAny_bind (wpAny_field hq rfl (x := .bool false) rfl ?_)
  show wpAny _ _ (field (.ref q) 3 >>= _) _ _ _
  refine wpAny_bind (wpAny_field hq rfl (x := .ref U) rfl (wpAny_bind (wpAny_seqItems hU rfl ?_)))
  show wpAny _ _ (Builtin.SmallTypes.ownedTupleIsFree (.ref q) >>= _) _ _ _
  refine wpAny_bind (wpAny_tupleHeld_zip hq hG fun g1 q1 e1 => ?_)
  simp only [Bool.false_eq_true, if_false]; refine wpAny_bind ?_; rw [← Array.forIn_toList]; simp only [List.forIn_cons, List.forIn_nil]
  refine wpAny_bind (wpAny_bind (wpAny_holding ?_))
  show wpAny _ _ (Builtin.SmallTypes.nextOf (.ref j1) >>= _) _ _ _
  exact wpAny_bind (RZ.nextOf_tuple_end (s := { s with heap := g1 }) hh (t1.extBut e1.extBut D.i1z) (b1.extBut e1.extBut D.l1z) eu fun g2 e e2 he => next g2 e (fun c o c1 c2 x => e2 _ _ c2 (e1.extBut _ _ c1 x)) he)
theorem zp_item {u v : Value} {R : Option Value → Shared → Prop} (D : ZipApart q U O j1 j2 m1 m2) (hq : IsZipHeld s.heap q U O G f) (hG : s.heap.get? G = some og) (hU : IsPair s.heap U (.ref j1) (.ref j2)) (t1 : s.heap.IsTupleIter j1 m1 k1) (t2 : s.heap.IsTupleIter j2 m2 k2) (b1 : s.heap.IsTuple m1 us) (b2 : s.heap.IsTuple m2 vs) (eu : us[k1]? = some u) (ev : vs[k2]? = some v)
    (next : ∀ h', IsZipHeld h' q U O G true → h'.IsTupleIter j1 m1 (k1 + 1) → h'.IsTupleIter j2 m2 (k2 + 1) → IsPair h' s.heap.objs.size u v → (∀ c o, c ≠ q → c ≠ j1 → c ≠ j2 → s.heap.get? c = some o → h'.get? c = some o) → R (some (.ref s.heap.objs.size)) { s with heap := h' }) :
    wpAny (model P w) A (pyNext (.ref q)) R E s := by
  have ty : s.TypeIs (.ref q) "zip" := ⟨_, hq, rfl⟩
  unfold pyNext
  exact wpAny_bind (wpAny_attempt (wpAny_callSpecial?_slot (name := Str.ofString "__next__") ty F.slot_zip_next (wpAny_call_entry F.slot_zip_next ty F.entry_zip_next (zn_item D hq hG hU t1 t2 b1 b2 eu ev fun h' a1 a3 a4 a5 a7 => wpAny_pure (next h' a1 a3 a4 a5 a7)) (F.args_zip_next_1 _))))
theorem zp_end {R : Option Value → Shared → Prop} (hh : A.handled = none) (D : ZipApart q U O j1 j2 m1 m2) (hq : IsZipHeld s.heap q U O G f) (hG : s.heap.get? G = some og) (hU : IsPair s.heap U (.ref j1) (.ref j2)) (t1 : s.heap.IsTupleIter j1 m1 k1) (b1 : s.heap.IsTuple m1 us) (eu : us[k1]? = none)
    (next : ∀ h', (∀ c o, c ≠ q → c ≠ j1 → s.heap.get? c = some o → h'.get? c = some o) → R none { s with heap := h' }) : wpAny (model P w) A (pyNext (.ref q)) R E s := by
  have ty : s.TypeIs (.ref q) "zip" := ⟨_, hq, rfl⟩
  unfold pyNext
  refine wpAny_bind (wpAny_attempt (wpAny_callSpecial?_slot (name := Str.ofString "__next__") ty F.slot_zip_next (wpAny_call_entry F.slot_zip_next ty F.entry_zip_next (zn_end hh D hq hG hU t1 b1 eu fun h' e kp ⟨o, ho, hc⟩ => ?_) (F.args_zip_next_1 _))))
  exact wpAny_bind (wpAny_isInstance (T := "StopIteration") (b := true) ⟨o, ho, hc⟩ isSubtype_stop (wpAny_pure (next _ kp)))
end
theorem zipT_arg {P : Program} {w : World} (q U O j1 j2 m1 m2 : Addr) (D : ZipApart q U O j1 j2 m1 m2) (us vs : Array Value) (hl : us.size = vs.size) :
    PairArg P w "zip" q [q, U, O, j1, j2, m1, m2] [q, O, j1, j2] us.size (fun i k v => us[i]? = some k ∧ vs[i]? = some v)
      (fun h => IsZip h q U O .none ∧ IsPair h U (.ref j1) (.ref j2) ∧ (∃ a b, IsPair h O a b) ∧ h.IsTupleIter j1 m1 0 ∧ h.IsTupleIter j2 m2 0 ∧ h.IsTuple m1 us ∧ h.IsTuple m2 vs) where
  type := fun s ok => ⟨_, ok.1, rfl⟩
  notDict := by decide
  keep := fun h h' ⟨z0, z1, ⟨a, b, z2⟩, z3, z4, z5, z6⟩ k => ⟨k _ _ z0, k _ _ z1, ⟨a, b, k _ _ z2⟩, z3.at fun o e => k _ o e, z4.at fun o e => k _ o e, z5.at fun o e => k _ o e, z6.at fun o e => k _ o e⟩
  there := fun h ⟨z0, z1, ⟨a, b, z2⟩, ⟨_, z3, _⟩, ⟨_, z4, _⟩, ⟨_, z5, _⟩, ⟨_, z6, _⟩⟩ c hc => by
    simp only [List.mem_cons, List.not_mem_nil, or_false] at hc
    rcases hc with rfl | rfl | rfl | rfl | rfl | rfl | rfl
    · exact ⟨_, z0⟩
    · exact ⟨_, z1⟩
    · exact ⟨_, z2⟩
    · exact ⟨_, z3⟩
    · exact ⟨_, z4⟩
    · exact ⟨_, z5⟩
    · exact ⟨_, z6⟩
  sub := fun b hb => by simp only [List.mem_cons, List.not_mem_nil, or_false] at hb ⊢; rcases hb with rfl | rfl | rfl | rfl <;> simp
  noKeys := fun A s Q E hA ok h => getAttrOr_miss_zip ok.1 rfl rfl rfl zip_no_keys (by decide +kernel) hA h
  iter := fun A s d Q E hA ⟨z0, z1, ⟨a, b, z2⟩, z3, z4, z5, z6⟩ hd hdf h => by
    simp only [List.mem_cons, List.not_mem_nil, or_false, not_or] at hdf
    obtain ⟨d0, d1, d2, d3, d4, d5, d6⟩ := hdf
    refine wpAny_pyIter_zip z0 (h q [q, O, j1, j2] (fun i h => IsPair h U (.ref j1) (.ref j2) ∧ h.IsTupleIter j1 m1 i ∧ h.IsTupleIter j2 m2 i ∧ h.IsTuple m1 us ∧ h.IsTuple m2 vs ∧ ((IsZip h q U O .none ∧ ∃ a b, IsPair h O a b) ∨ ∃ G f og, IsZipHeld h q U O G f ∧ h.get? G = some og ∧ G ≠ q ∧ G ≠ j1 ∧ G ≠ j2 ∧ G ≠ d)) s.heap s.toks ?_ ⟨z1, z3, z4, z5, z6, .inl ⟨z0, a, b, z2⟩⟩ (fun _ _ e => e) fun b hb => .inl hb)
    refine { off := fun hm => ?_, frame := fun i g1 g2 st k => ?_, item := fun i s1 Q1 E1 hi st hds next => ?_, done := fun s1 Q1 E1 st next => ?_ }
    · simp only [List.mem_cons, List.not_mem_nil, or_false] at hm
      rcases hm with e | e | e | e
      · exact d0 e
      · exact d2 e
      · exact d3 e
      · exact d4 e
    · obtain ⟨y1, y3, y4, y5, y6, y⟩ := st
      refine ⟨k _ _ (Ne.symm d1) y1, y3.at fun o e => k _ o (Ne.symm d3) e, y4.at fun o e => k _ o (Ne.symm d4) e, y5.at fun o e => k _ o (Ne.symm d5) e, y6.at fun o e => k _ o (Ne.symm d6) e, ?_⟩
      rcases y with ⟨y0, a, b, y2⟩ | ⟨G, f, og, y0, yG, r1, r2, r3, r4⟩
      · exact .inl ⟨k _ _ (Ne.symm d0) y0, a, b, k _ _ (Ne.symm d2) y2⟩
      · exact .inr ⟨G, f, og, k _ _ (Ne.symm d0) y0, k _ _ r4 yG, r1, r2, r3, r4⟩
    · obtain ⟨y1, y3, y4, y5, y6, y⟩ := st
      have eu := Array.getElem?_eq_getElem hi
      have ev := Array.getElem?_eq_getElem (hl ▸ hi : i < vs.size)
      have lt : ∀ {c o}, s1.heap.get? c = some o → s1.heap.objs.size ≠ c := fun e => Nat.ne_of_gt (Heap.lt_size e)
      have n1 : s1.heap.objs.size ≠ j1 := let ⟨_, e, _⟩ := y3; lt e
      have n2 : s1.heap.objs.size ≠ j2 := let ⟨_, e, _⟩ := y4; lt e
      rcases y with ⟨y0, a, b, y2⟩ | ⟨G, f, og, y0, yG, r1, r2, r3, r4⟩
      · refine RZ.pyNext_zipT_item D y0 y1 y2 y3 y4 y5 y6 eu ev fun h' a1 a2 a3 a4 a5 a6 k => ?_
        refine next s1.heap.objs.size _ _ h' s1.toks ⟨eu, ev⟩ (.inl ⟨_, a5, rfl, _, rfl⟩) ⟨k _ _ D.TIz D.TITO D.TIi1 D.TIi2 y1, a3, a4, y5.at fun o e => k _ o D.l1z D.l1TO D.l1i1 D.l1i2 e, y6.at fun o e => k _ o D.l2z D.l2TO D.l2i1 D.l2i2 e, .inr ⟨s1.heap.objs.size, false, _, a1, a5, lt y0, n1, n2, Nat.ne_of_gt hds⟩⟩ fun c o hc e => ?_
        simp only [List.mem_cons, List.not_mem_nil, or_false, not_or] at hc
        exact k c o hc.1 hc.2.1 hc.2.2.1 hc.2.2.2 e
      · refine zp_item D y0 yG y1 y3 y4 y5 y6 eu ev fun h' a1 a3 a4 a5 k => ?_
        refine next s1.heap.objs.size _ _ h' s1.toks ⟨eu, ev⟩ (.inl ⟨_, a5, rfl, _, rfl⟩) ⟨k _ _ D.TIz D.TIi1 D.TIi2 y1, a3, a4, y5.at fun o e => k _ o D.l1z D.l1i1 D.l1i2 e, y6.at fun o e => k _ o D.l2z D.l2i1 D.l2i2 e, .inr ⟨G, true, og, a1, k _ _ r1 r2 r3 yG, r1, r2, r3, r4⟩⟩ fun c o hc e => ?_
        simp only [List.mem_cons, List.not_mem_nil, or_false, not_or] at hc
        exact k c o hc.1 hc.2.2.1 hc.2.2.2 e
    · obtain ⟨y1, y3, y4, y5, y6, y⟩ := st
      have eu : us[us.size]? = none := Array.getElem?_eq_none (Nat.le_refl _)
      rcases y with ⟨y0, a, b, y2⟩ | ⟨G, f, og, y0, yG, r1, r2, r3, r4⟩
      · refine RZ.pyNext_zipT_end hA D y0 y1 y2 y3 y4 y5 y6 (.inl eu) fun h' k => next h' s1.toks fun c o hc e => ?_
        simp only [List.mem_cons, List.not_mem_nil, or_false, not_or] at hc
        exact k c o hc.1 hc.2.1 hc.2.2.1 hc.2.2.2 e
      · refine zp_end hA D y0 yG y1 y3 y5 eu fun h' k => next h' s1.toks fun c o hc e => ?_
        simp only [List.mem_cons, List.not_mem_nil, or_false, not_or] at hc
        exact k c o hc.1 hc.2.2.1 e
theorem kv_zip {P : Program} {w : World} : ∀ {kvs : List (Key × V)} {its its2 : List Value}, Vals (kvs.map fun x => kV x.1) its → Vals (kvs.map (·.2)) its2 → ∃ prs : List (Key × Value), KV kvs prs ∧ prs.length = kvs.length ∧ ∀ (i : Nat) (key v : Value), its[i]? = some key → its2[i]? = some v → ∃ k, prs[i]? = some (k, v) ∧ (mixKind P w).is k key = true
  | [], _, _, r1, r2 => ⟨[], .nil, rfl, fun i key v e _ => by
      cases r1
      cases e⟩
  | (k, y) :: rest, _, _, r1, r2 => by
    rw [List.map_cons] at r1 r2
    cases r1 with
    | cons a1 t1 =>
      cases r2 with
      | cons a2 t2 =>
        obtain ⟨prs, r, hl, hp⟩ := kv_zip (P := P) (w := w) t1 t2
        refine ⟨(k, _) :: prs, .cons ⟨rfl, a2⟩ r, by rw [List.length_cons, List.length_cons, hl], fun i key v e e2 => ?_⟩
        cases i with
        | zero =>
          rw [List.getElem?_cons_zero] at e e2
          cases e
          cases e2
          exact ⟨k, rfl, kV_is a1⟩
        | succ i =>
          rw [List.getElem?_cons_succ] at e e2
          exact hp i key v e e2
def tDz (K : PySem.W.Frag) (ta : TA) : TE := fun σ H Q => ta σ H fun vs H1 => ∃ (a b : Addr) (kvs : List (Key × V)), vs = [.ref a, .ref b] ∧ SqT K H1 a (kvs.map fun x => kV x.1) ∧ SqT K H1 b (kvs.map (·.2)) ∧ ∀ p, H1 p = none → Q (.ref p) (upd H1 p (.dK (mergeK [] kvs)))
theorem pe_dictZip {X : Cx} {e e2 : Expr} {ta : TA} {p p2 pos pos2 : Pos} (hgd : Gl X "dict") (hmd : X.mg "dict" = none) (hg : Gl X "zip") (hm : X.mg "zip" = none) (hcalm : X.calm = true) (ha : PA X [e, e2] ta)
    (na : starEach [.Call (.Name "zip" p2) [e, e2] [] pos2] X.env = (false, eval (.Call (.Name "zip" p2) [e, e2] [] pos2) X.env) :: starEach [] X.env := by rfl)
    (hs : starEach [e, e2] X.env = (false, eval e X.env) :: starEach [e2] X.env := by rfl) (hpl : (backTo pos2 (starEach [e2] X.env)).any (·.1) = false := by rfl) :
    PE X (.Call (.Name "dict" p) [.Call (.Name "zip" p2) [e, e2] [] pos2] [] pos) (tDz X.K ta) := by
  refine ⟨fun pins s σ H Q I h => ?_⟩
  refine Call_ (ld_blt I hgd hmd PyProof.Rows.boot_dict (PyProof.Rows.callWith_type1 (args_cons (Call_ (ld_blt I hg hm PyProof.Rows.boot_zip (PyProof.Rows.callWith_type1 (thn (ha.run pos2 pins s σ H _ I h) fun us s1 ⟨vs, H1, I1, r1, q1⟩ => ?_) hs hpl))) na) na))
  obtain ⟨a, b, kvs, rfl, ha1, hb1, q⟩ := q1
  cases r1 with
  | cons ra rr =>
    cases rr with
    | cons rb rr =>
      cases rr
      cases ra
      cases rb
      obtain ⟨its, v1, p1, hz1⟩ := I1.tuple ha1
      obtain ⟨its2, v2, p2', hz2⟩ := I1.tuple hb1
      obtain ⟨o1, ho1, y1⟩ := id p1
      obtain ⟨o2, ho2, y2⟩ := id p2'
      obtain ⟨prs, rel, hl, hp⟩ := kv_zip (P := X.prog) (w := X.w) v1 v2
      have l1 : its.length = kvs.length := by
        have := v1.length
        rw [List.length_map] at this
        exact this.symm
      have l2 : its2.length = kvs.length := by
        have := v2.length
        rw [List.length_map] at this
        exact this.symm
      rw [List.length_map] at hz1
      refine RZ.call_zipT (show s1.heap.IsTuple a its.toArray from p1) (show s1.heap.IsTuple b its2.toArray from p2') fun h' hz hTI hTO t1 t2 hsz hk => args_nil ?_
      have D := PySem.W.ktu_apart s1.heap.objs.size a b (Heap.lt_size ho1) (Heap.lt_size ho2)
      refine PySem.call_dict_pairs (knd := mixKind X.prog X.w) (kvs := prs) (zipT_arg _ _ _ _ _ a b D its.toArray its2.toArray (by rw [List.size_toArray, List.size_toArray, l1, l2])) (I1.ok.hd hcalm) ⟨hz, hTI, ⟨_, _, hTO⟩, t1, t2, ⟨o1, hk _ _ ho1, y1⟩, ⟨o2, hk _ _ ho2, y2⟩⟩ ⟨?_, fun i key v e => ?_⟩ ?_ fun h2 tk hd hk2 => ?_
      · rw [hl, List.size_toArray, l1]
      · exact hp i key v (by simpa using e.1) (by simpa using e.2)
      · rw [List.size_toArray, l1]
        exact hz1
      · have keep : ∀ c o, s1.heap.get? c = some o → h2.get? c = some o := fun c o e => by
          have hlt := Heap.lt_size e
          refine hk2 c o (fun hm => ?_) (hk c o e)
          simp only [List.mem_cons, List.not_mem_nil, or_false] at hm
          rcases hm with z | z | z | z
          · exact Nat.not_lt.mpr (Nat.le_add_right _ _) (z ▸ hlt)
          · exact Nat.not_lt.mpr (Nat.le_add_right _ _) (z ▸ hlt)
          · exact Nat.not_lt.mpr (Nat.le_refl _) (z ▸ hlt)
          · exact Nat.not_lt.mpr (Nat.le_add_right _ _) (z ▸ hlt)
        have hle : s1.heap.objs.size ≤ h'.objs.size := by
          rw [hsz]
          exact Nat.le_add_right _ _
        have hm : (h'.objs.size == sysModules) = false := beq_eq_false_iff_ne.mpr (Nat.ne_of_gt (Nat.lt_of_lt_of_le I1.big hle))
        have hlen : (mergeK [] kvs).length ≤ sizeLine := by
          refine Nat.le_trans (length_mergeK kvs []) ?_
          rw [List.length_nil, Nat.zero_add]
          exact hz1
        exact ⟨.ref h'.objs.size, upd H1 h'.objs.size (.dK (mergeK [] kvs)), I1.laid (t' := tk) keep hle (show ObjOk X.prog X.w _ _ _ (.dK (mergeK [] kvs)) from ⟨hlen, hm, merged [] prs, KV.merge rel .nil, hd⟩), rfl, q _ (I1.hok.fresh hle)⟩
end Pf


namespace Pf
open PySem PySem.Spec PyProof.Rows L2
/-! ### sum(lists, start) -/
abbrev LiO (its : List Value) (n : Nat) : Obj := { cls := .type "list", dict := none, data := .seq its.toArray n, slots := #[] }
section
variable {P : Program} {w : World} {A : Around} {R : Result → Shared → Prop} {I l S : Addr} {items : Array Value}
theorem suml_loop (hh : A.in1.handled = none) (nIS : I ≠ S) (nIl : l ≠ I) (nSl : l ≠ S) : ∀ (rest : List (Addr × List Value)) (i : Nat) (s : Shared) (t : Addr) (acc : List Value) (c1 ct : Nat), items.size = i + rest.length → s.heap.IsListIter I l i → s.heap.IsList l items →
    (∀ (j : Nat) (x : Addr × List Value), rest[j]? = some x → items[i + j]? = some (.ref x.1) ∧ x.1 ≠ I ∧ x.1 ≠ S ∧ ∃ c, s.heap.get? x.1 = some (LiO x.2 c)) → s.heap.get? S = some (LiO [.ref t] c1) → s.heap.get? t = some (LiO acc ct) → t ≠ I → t ≠ S →
    acc.length + (rest.map (·.2)).flatten.length ≤ sizeLine →
    (∀ h' tk t' c', h'.get? t' = some (LiO (acc ++ (rest.map (·.2)).flatten) c') → (rest = [] → t' = t) → (rest ≠ [] → s.heap.objs.size ≤ t') → (∀ b o, b ≠ I → b ≠ S → s.heap.get? b = some o → h'.get? b = some o) → R (.ok (.ret (.ref t'))) { s with heap := h', toks := tk }) →
    codeAny (model P w) A (.builtin "sum.loop" ⟨[.ref I, .ref S, rawInt 2, rawInt 0], []⟩) R s
  | [], i, s, t, acc, c1, ct, hn, it, hl, _, hS, ht, _, _, _, hR => by
    refine codeAny_builtin F.entry_sum_loop ?_; rw [Around.under_plainId F.plain_sum_loop _]
    show wpAny _ A.in1 (seqItems? (.ref S) >>= _) _ _ _
    refine wpAny_bind (wpAny_seqItems hS rfl ?_)
    show wpAny _ A.in1 (tryCatch (pyNext (.ref I)) _ >>= _) _ _ _
    refine wpAny_bind (wpAny_tryCatch (wpAny_pyNext_list_end hh it hl (Array.getElem?_eq_none (by rw [hn]; exact Nat.le_refl _)) fun h' he => ?_))
    exact wpAny_pure (hR h' s.toks t ct (by rw [List.map_nil, List.flatten_nil, List.append_nil]; exact he t _ (by assumption) ht) (fun _ => rfl) (fun z => absurd rfl z) fun b o n1 _ e => he b o n1 e)
  | (b, ys) :: rest, i, s, t, acc, c1, ct, hn, it, hl, hx, hS, ht, ntI, ntS, hz, hR => by
    obtain ⟨e0, nbI, nbS, cb, hb⟩ := hx 0 (b, ys) rfl
    rw [List.map_cons, List.flatten_cons] at hR
    rw [List.map_cons, List.flatten_cons, List.length_append] at hz
    have hz : acc.length + (ys.length + (rest.map (·.2)).flatten.length) ≤ sizeLine := hz
    refine codeAny_builtin F.entry_sum_loop ?_; rw [Around.under_plainId F.plain_sum_loop _]
    show wpAny _ A.in1 (seqItems? (.ref S) >>= _) _ _ _
    refine wpAny_bind (wpAny_seqItems hS rfl ?_)
    show wpAny _ A.in1 (tryCatch (pyNext (.ref I)) _ >>= _) _ _ _
    refine wpAny_bind (wpAny_tryCatch (wpAny_pyNext_list_item it hl e0 fun h1 it1 s1 => ?_))
    have hS1 := s1.extBut _ _ nIS.symm hS
    have ht1 := s1.extBut _ _ ntI ht
    have hb1 := s1.extBut _ _ nbI hb
    show wpAny _ A.in1 ((holding [Value.ref b] (binaryOp .Add (.ref t) (.ref b))).attempt >>= _) _ _ _
    refine wpAny_bind (wpAny_attempt (wpAny_holding (PySem.P.add_list (n := ct) (n2 := cb) ht1 hb1 ?_ (by rw [List.size_toArray, List.size_toArray]; show acc.length + ys.length ≤ _; omega))))
    have ea : acc.toArray ++ ys.toArray = (acc ++ ys).toArray := by simp
    rw [ea]
    have sz1 : h1.objs.size = s.heap.objs.size := s1.1
    generalize hh2 : h1.push { cls := Value.type "list", data := Data.seq (acc ++ ys).toArray } = h2
    have up2 : ∀ c o, h1.get? c = some o → h2.get? c = some o := fun c o e => hh2 ▸ Heap.get?_push_of_some _ e
    have new2 : h2.get? h1.objs.size = some (LiO (acc ++ ys) 0) := hh2 ▸ Heap.get?_push_size _ rfl
    have sz2 : h2.objs.size = h1.objs.size + 1 := hh2 ▸ Heap.size_push ..
    have ltS : S < h1.objs.size := Heap.lt_size hS1
    have ltI : I < h1.objs.size := by
      obtain ⟨_, e, _⟩ := it1
      exact Heap.lt_size e
    show wpAny _ A.in1 (updateSeq S (fun _ => #[.ref h1.objs.size]) >>= _) _ _ _
    refine wpAny_bind (wpAny_updateSeq (up2 _ _ hS1) rfl ?_)
    have hS3 := Heap.get?_update_self (Obj.mapSeq fun _ => #[Value.ref h1.objs.size]) (up2 _ _ hS1) rfl
    refine wpAny_bind (wpAny_letGo ?_)
    refine wpAny_bind (wpAny_updateSeq hS3 rfl (wpAny_pure ⟨plainId_quiet F.plain_sum_loop _, ?_⟩))
    have hS4 := Heap.get?_update_self (Obj.mapSeq fun _ => #[Value.ref h1.objs.size]) hS3 rfl
    have up4 : ∀ c o, c ≠ S → h2.get? c = some o → ((h2.update S (Obj.mapSeq fun _ => #[Value.ref h1.objs.size])).update S (Obj.mapSeq fun _ => #[Value.ref h1.objs.size])).get? c = some o := fun c o n e => (Heap.get?_update_other _ _ n.symm).trans ((Heap.get?_update_other _ _ n.symm).trans e)
    have all : ∀ c o, c ≠ I → c ≠ S → s.heap.get? c = some o → ((h2.update S (Obj.mapSeq fun _ => #[Value.ref h1.objs.size])).update S (Obj.mapSeq fun _ => #[Value.ref h1.objs.size])).get? c = some o := fun c o n1 n2 e => up4 c o n2 (up2 _ _ (s1.extBut _ _ n1 e))
    refine suml_loop hh nIS nIl nSl rest (i + 1) { s with heap := (h2.update S (Obj.mapSeq fun _ => #[Value.ref h1.objs.size])).update S (Obj.mapSeq fun _ => #[Value.ref h1.objs.size]) } h1.objs.size (acc ++ ys) _ 0 ?_ ?_ ?_ (fun j x hj => ?_) hS4 (up4 _ _ (Nat.ne_of_gt ltS) new2) (Nat.ne_of_gt ltI) (Nat.ne_of_gt ltS) ?_ fun h' tk t' c' g1 g2 g3 g4 => ?_
    · rw [hn, List.length_cons]
      omega
    · exact it1.at fun o e => up4 _ _ nIS (up2 _ _ e)
    · exact hl.at fun o e => all _ _ nIl nSl e
    · obtain ⟨y1, y2, y3, c, y4⟩ := hx (j + 1) x hj
      exact ⟨by rw [show i + 1 + j = i + (j + 1) by omega]; exact y1, y2, y3, c, all _ _ y2 y3 y4⟩
    · rw [List.length_append]
      omega
    · refine hR h' tk t' c' (by rw [← List.append_assoc]; exact g1) (fun z => nomatch z) (fun _ => ?_) fun b o n1 n2 e => g4 b o n1 n2 (all _ _ n1 n2 e)
      cases hr : rest with
      | nil =>
        rw [g2 hr, sz1]
        exact Nat.le_refl _
      | cons y r =>
        have := g3 (by rw [hr]; intro z; cases z)
        have e4 : ((h2.update S (Obj.mapSeq fun _ => #[Value.ref h1.objs.size])).update S (Obj.mapSeq fun _ => #[Value.ref h1.objs.size])).objs.size = h2.objs.size := by
          rw [Heap.size_update, Heap.size_update]
        exact Nat.le_trans (by rw [← sz1, ← Nat.lt_succ_iff]; show h1.objs.size < _; rw [e4, sz2]; exact Nat.lt_succ_of_le (Nat.le_succ _)) this
end
theorem sub_ls : isSubtype (.type "list") (.type "str") = pure false := by rw [isSubtype_type]; kernel_rfl
theorem sub_lb : isSubtype (.type "list") (.type "bytes") = pure false := by rw [isSubtype_type]; kernel_rfl
theorem sub_la : isSubtype (.type "list") (.type "bytearray") = pure false := by rw [isSubtype_type]; kernel_rfl
theorem args_sum2 (a b : Value) : argsOk "sum" ⟨[a, b], []⟩ := by unfold argsOk; kernel_rfl
theorem lists_of {X : Cx} {pins : List (Addr × Obj)} {σ : L2.St} {H : Hp} {s : Shared} (I : Inv X pins σ H s) : ∀ {ls : List (Addr × List V)}, (∀ x ∈ ls, H x.1 = some (.lst x.2)) → ∃ rest : List (Addr × List Value), rest.map (·.1) = ls.map (·.1) ∧ Vals (ls.map (·.2)).flatten (rest.map (·.2)).flatten ∧ ∀ x ∈ rest, ∃ c, s.heap.get? x.1 = some (LiO x.2 c)
  | [], _ => ⟨[], rfl, .nil, fun x h => by cases h⟩
  | (a, ys) :: ls, h => by
    obtain ⟨rest, r1, r2, r3⟩ := lists_of I (ls := ls) fun x hx => h x (List.mem_cons_of_mem _ hx)
    obtain ⟨_, its, n, r, _, e⟩ := I.lstM (h (a, ys) (List.mem_cons_self ..))
    refine ⟨(a, its) :: rest, by rw [List.map_cons, List.map_cons, r1], ?_, fun x hx => ?_⟩
    · rw [List.map_cons, List.map_cons, List.flatten_cons, List.flatten_cons]
      exact r.append r2
    · rcases List.mem_cons.mp hx with rfl | hx
      · exact ⟨n, e⟩
      · exact r3 x hx
def rSumL (K : PySem.W.Frag) : List V → Hp → VK → Prop := fun vs H Q => ∃ (a b : Addr) (ls : List (Addr × List V)) (xs : List V), vs = [.ref a, .ref b] ∧ SqL K H a (ls.map fun x => .ref x.1) ∧ (∀ x ∈ ls, H x.1 = some (.lst x.2)) ∧ H b = some (.lst xs) ∧ xs.length + (ls.map (·.2)).flatten.length ≤ sizeLine ∧
  (ls = [] → Q (.ref b) H) ∧ (ls ≠ [] → ∀ p, H p = none → Q (.ref p) (upd H p (.lst (xs ++ (ls.map (·.2)).flatten))))
theorem cr_sumL (K : PySem.W.Frag) {X : Cx} (hcalm : X.calm = true) (hK : X.K = K := by rfl) : CallR X (.builtin "sum") (rSumL K) := by
  subst hK
  intro pins s σ H vs us Q I r h
  obtain ⟨a, b, ls, xs, rfl, ha, hls, hb, hz, q0, q1⟩ := h
  cases r with
  | cons ra rr =>
    cases rr with
    | cons rb rr =>
      cases rr
      cases ra
      cases rb
      obtain ⟨its, v1, pl, _⟩ := I.list ha
      obtain ⟨rest, r1, r2, r3⟩ := lists_of I hls
      obtain ⟨_, bs, nb, vb, _, eb⟩ := I.lstM hb
      have hl : s.heap.IsList a its.toArray := pl.isList
      have ei : its = rest.map fun x => Value.ref x.1 := by
        have e1 : (ls.map fun x => V.ref x.1) = (ls.map (·.1)).map V.ref := by rw [List.map_map]; rfl
        rw [e1] at v1
        rw [refs_at v1, ← r1, List.map_map]
        rfl
      refine call_function_tree F.kind_sum F.plain_sum F.entry_sum (args_sum2 _ _) ?_
      unfold Builtin.«sum»; simp only [List.length_cons, List.length_nil]; rw [if_neg (by decide)]
      refine wpAny_bind (wpAny_of_eq (show Builtin.Builtins.bindParams "sum" ["start"] 0 ⟨[.ref b], []⟩ = pure [some (.ref b)] from rfl) ?_)
      refine wpAny_bind (wpAny_pyIter_list hl ?_)
      have tb : ∀ tk, Shared.TypeIs { s with heap := s.heap.push { cls := .type "list_iterator", data := .fields #[.ref a, .int 0 0] }, toks := tk } (.ref b) "list" := fun _ => ⟨_, Heap.get?_push_of_some _ eb, rfl⟩
      refine wpAny_bind (wpAny_pure ?_)
      simp only [List.forIn_cons, List.forIn_nil]
      refine wpAny_bind (wpAny_bind (wpAny_bind (wpAny_isInstance (T := "list") (b := false) (tb _) sub_ls ?_))); simp only [Bool.false_eq_true, if_false]
      refine wpAny_pure (wpAny_bind (wpAny_bind (wpAny_isInstance (T := "list") (b := false) (tb _) sub_lb ?_))); simp only [Bool.false_eq_true, if_false]
      refine wpAny_pure (wpAny_bind (wpAny_bind (wpAny_isInstance (T := "list") (b := false) (tb _) sub_la ?_))); simp only [Bool.false_eq_true, if_false]
      refine wpAny_pure (wpAny_pure (wpAny_bind (wpAny_newObj_type (wpAny_pure ⟨plainId_quiet F.plain_sum_loop _, ?_⟩))))
      have lt : ∀ {c o}, s.heap.get? c = some o → c < s.heap.objs.size := fun e => Heap.lt_size e
      have la : a < s.heap.objs.size := pl.lt
      have lb : b < s.heap.objs.size := lt eb
      have sz : (s.heap.push { cls := .type "list_iterator", data := .fields #[.ref a, .int 0 0] }).objs.size = s.heap.objs.size + 1 := Heap.size_push ..
      have up : ∀ c o, s.heap.get? c = some o → ((s.heap.push { cls := .type "list_iterator", data := .fields #[.ref a, .int 0 0] }).push (LiO [.ref b] 0)).get? c = some o := fun c o e => Heap.get?_push_of_some _ (Heap.get?_push_of_some _ e)
      have off : ∀ {c}, c < s.heap.objs.size + 1 → c ≠ (s.heap.push { cls := .type "list_iterator", data := .fields #[.ref a, .int 0 0] }).objs.size := fun h => by
        rw [sz]
        exact Nat.ne_of_lt h
      refine suml_loop (P := X.prog) (w := X.w) (A := X.A) (I := s.heap.objs.size) (l := a) (S := (s.heap.push { cls := .type "list_iterator", data := .fields #[.ref a, .int 0 0] }).objs.size) (items := its.toArray) (I.ok.hd hcalm) (off (Nat.lt_succ_self _)) (Nat.ne_of_lt la) (off (Nat.lt_succ_of_lt la)) rest 0 { s with heap := (s.heap.push { cls := .type "list_iterator", data := .fields #[.ref a, .int 0 0] }).push (LiO [.ref b] 0) } b bs 0 nb ?_ ⟨_, Heap.get?_push_of_some _ (Heap.get?_push_size _ rfl), rfl, rfl⟩ (hl.at fun o e => up _ _ e) (fun j x hj => ?_) ?_ (up _ _ eb) (Nat.ne_of_lt lb) (off (Nat.lt_succ_of_lt lb)) ?_ fun h' tk t' c' g1 g2 g3 g4 => ?_
      · rw [List.size_toArray, ei, List.length_map, Nat.zero_add]
      · obtain ⟨c, hc⟩ := r3 x (List.mem_of_getElem? hj)
        have lx := lt hc
        refine ⟨?_, Nat.ne_of_lt lx, off (Nat.lt_succ_of_lt lx), c, up _ _ hc⟩
        rw [Nat.zero_add, List.getElem?_toArray, ei, List.getElem?_map, hj]
        rfl
      · exact Heap.get?_push_size _ rfl
      · have := r2.length
        have := vb.length
        omega
      · have keep : ∀ c o, s.heap.get? c = some o → h'.get? c = some o := fun c o e => g4 c o (Nat.ne_of_lt (lt e)) (off (Nat.lt_succ_of_lt (lt e))) (up c o e)
        cases hr : ls with
        | nil =>
          have hrest : rest = [] := by
            rw [hr] at r1
            cases rest with
            | nil => rfl
            | cons y z => cases r1
          rw [g2 hrest]
          exact ⟨.ref b, H, I.kept keep, rfl, q0 hr⟩
        | cons y z =>
          have hrest : rest ≠ [] := fun e => by
            rw [e, hr] at r1
            cases r1
          have hle : s.heap.objs.size ≤ t' := Nat.le_trans (by rw [Heap.size_push, Heap.size_push]; omega) (g3 hrest)
          refine ⟨.ref t', upd H t' (.lst (xs ++ (ls.map (·.2)).flatten)), I.laid keep hle (show ObjOk X.prog X.w _ _ _ (.lst (xs ++ (ls.map (·.2)).flatten)) from ⟨?_, bs ++ (rest.map (·.2)).flatten, c', vb.append r2, g1⟩), rfl, q1 (by rw [hr]; intro e; cases e) _ (I.hok.fresh hle)⟩
          rw [List.length_append]
          exact hz
/-! ### tuple(xs) of a list, its object known; dict(ps) of such a tuple of pairs -/
def rTupleFz (K : PySem.W.Frag) : List V → Hp → VK → Prop := fun xs H Q => ∃ p ys, xs = [.ref p] ∧ SqL K H p ys ∧ ∀ (l : Addr) (o : Obj), H l = none → o.dict = none → Q (.ref l) (upd H l (.frz o (.tup ys)))
theorem tupleFz (K : PySem.W.Frag) {X : Cx} (hK : X.K = K := by rfl) : CallR X (.type "tuple") (rTupleFz K) := by
  subst hK
  intro pins s σ H vs us Q I r h
  obtain ⟨p, ys, rfl, hs, q⟩ := h
  obtain ⟨u, rfl, rfl⟩ := vals1 r
  obtain ⟨its, rv, pl, hz⟩ := I.list hs
  refine call_tuple_list pl.isList (fun h' hk => ?_) (by rw [List.size_toArray, ← rv.length]; exact hz)
  have I1 : Inv X pins σ H { s with heap := h' } := I.kept (t' := s.toks) hk
  refine ⟨.ref h'.objs.size, _, I1.laid (t' := s.toks) (o := .frz { cls := .type "tuple", data := .seq its.toArray } (.tup ys)) (fun b o e => Heap.get?_push_of_some _ e) (Nat.le_refl _) ?_, rfl, q _ _ (I1.hok.fresh (Nat.le_refl _)) rfl⟩
  exact ⟨Heap.get?_push_size _ rfl, hz, its, rv, IsTup.new _ _⟩
theorem trips {X : Cx} {pins : List (Addr × Obj)} {σ : L2.St} {H : Hp} {s : Shared} (I : Inv X pins σ H s) : ∀ {ps : List Addr} {kvs : List (Key × V)}, Paired (fun p kv => SqT X.K H p [kV kv.1, kv.2]) ps kvs →
    ∃ tr : List (Key × Value × Value), tr.length = ps.length ∧ KV kvs (tr.map fun t => (t.1, t.2.2)) ∧ ∀ (j : Nat) (t : Key × Value × Value), tr[j]? = some t → ∃ b : Addr, ps[j]? = some b ∧ IsTup s.heap b #[t.2.1, t.2.2] ∧ (mixKind X.prog X.w).is t.1 t.2.1 = true
  | _, _, .nil => ⟨[], rfl, .nil, fun j t e => by simp at e⟩
  | _, _, .cons (a := p) (b := kv) h t => by
    obtain ⟨tr, hl, r, hp⟩ := trips I t
    obtain ⟨its, rv, ht, _⟩ := I.tuple h
    obtain ⟨u, y, ei, ru, ry⟩ := vals2 rv
    subst ei
    refine ⟨(kv.1, u, y) :: tr, by rw [List.length_cons, List.length_cons, hl], .cons ⟨rfl, ry⟩ r, fun j t e => ?_⟩
    cases j with
    | zero =>
      rw [List.getElem?_cons_zero] at e
      cases e
      exact ⟨p, rfl, ht, kV_is ru⟩
    | succ j =>
      rw [List.getElem?_cons_succ] at e
      obtain ⟨b, e1, e2⟩ := hp j t e
      exact ⟨b, by rw [List.getElem?_cons_succ]; exact e1, e2⟩
def rDictT (K : PySem.W.Frag) : List V → Hp → VK → Prop := fun xs H Q => ∃ (a : Addr) (o : Obj) (ps : List Addr) (kvs : List (Key × V)), xs = [.ref a] ∧ H a = some (.frz o (.tup (ps.map V.ref))) ∧ o.dict = none ∧ Paired (fun p kv => SqT K H p [kV kv.1, kv.2]) ps kvs ∧ ∀ p, H p = none → Q (.ref p) (upd H p (.dK (mergeK [] kvs)))
theorem dictT (K : PySem.W.Frag) {X : Cx} (hcalm : X.calm = true := by rfl) (hK : X.K = K := by rfl) : CallR X (.type "dict") (rDictT K) := by
  subst hK
  intro pins s σ H xs us Q I r h
  obtain ⟨a, o, ps, kvs, rfl, ha, hd, hp, q⟩ := h
  obtain ⟨u, rfl, rfl⟩ := vals1 r
  obtain ⟨e, hz, its, rv, o', e', hc, n, hdat⟩ := I.hok a _ ha
  have eo : o' = o := by
    rw [e] at e'
    exact (Option.some.inj e').symm
  subst eo
  obtain ⟨tr, hl, rel, htr⟩ := trips I hp
  have ei : its = ps.map Value.ref := refs_at rv
  rw [List.length_map] at hz
  refine PySem.call_dict_pairs (knd := mixKind X.prog X.w) (kvs := tr.map fun t => (t.1, t.2.2)) (PairArg.tuple a its.toArray (fun j => ps.getD j 0) (tr.map fun t => (t.2.1, t.2.2))) (I.ok.hd hcalm) ⟨⟨o', n, e, hc, hd, hdat⟩, ?_, fun j k v hj => ?_⟩ ⟨?_, fun i key v hi => ?_⟩ ?_ fun h' tk hd' k => ?_
  · rw [List.size_toArray, ei, List.length_map, List.length_map, hl]
  · rw [List.getElem?_map] at hj
    cases ht : tr[j]? with
    | none =>
      rw [ht] at hj
      cases hj
    | some t =>
      rw [ht] at hj
      cases hj
      obtain ⟨b, e1, e2, _⟩ := htr j t ht
      have eb : ps.getD j 0 = b := by
        rw [List.getD_eq_getElem?_getD, e1]
        rfl
      refine ⟨?_, .inl ?_⟩
      · rw [List.getElem?_toArray, ei, List.getElem?_map, e1]
        show some (Value.ref b) = some (Value.ref (ps.getD j 0))
        rw [eb]
      · show s.heap.IsTuple (ps.getD j 0) _
        rw [eb]
        exact e2
  · rw [List.length_map, List.length_map]
  · have hi : (tr.map fun t => (t.2.1, t.2.2))[i]? = some (key, v) := hi
    rw [List.getElem?_map] at hi
    cases ht : tr[i]? with
    | none =>
      rw [ht] at hi
      cases hi
    | some t =>
      rw [ht] at hi
      cases hi
      obtain ⟨b, _, _, e3⟩ := htr i t ht
      exact ⟨t.1, by rw [List.getElem?_map, ht]; rfl, e3⟩
  · rw [List.length_map, hl]
    exact hz
  · have hm : (s.heap.objs.size == sysModules) = false := beq_eq_false_iff_ne.mpr (Nat.ne_of_gt I.big)
    have hkl : kvs.length = ps.length := by
      have := rel.length
      rw [List.length_map, hl] at this
      exact this
    have hlen : (mergeK [] kvs).length ≤ sizeLine := by
      refine Nat.le_trans (length_mergeK kvs []) ?_
      rw [List.length_nil, Nat.zero_add, hkl]
      exact hz
    exact ⟨.ref s.heap.objs.size, upd H s.heap.objs.size (.dK (mergeK [] kvs)), I.laid (t' := tk) (fun b o e => k b o (fun z => nomatch z) e) (Nat.le_refl _) (show ObjOk X.prog X.w _ _ _ (.dK (mergeK [] kvs)) from ⟨hlen, hm, merged [] _, KV.merge rel .nil, hd'⟩), rfl, q _ (I.hok.fresh (Nat.le_refl _))⟩
end Pf


namespace Pf
open PySem PySem.Spec PyProof.Rows L2 HT
/-! ### a product in its place; a tuple lengthened; data compared -/
def ipM : TIp := fun x y H Q => ∃ i j, x = .int i ∧ y = .int j ∧ CMul i j ∧ Q (.int (i * j)) H
theorem ip_mul {X : Cx} : PIp X .Mult ipM := by
  intro pins s σ H x y v u Q I r1 r2 h
  obtain ⟨i, j, e1, e2, hc, q⟩ := h
  subst e1; subst e2
  obtain ⟨t, rfl⟩ := r1
  obtain ⟨t', rfl⟩ := r2
  exact imul_int ⟨.int _, H, I.tok _, ⟨_, rfl⟩, q⟩ hc.ok
theorem no_tup_iadd : typeLookup (.type "tuple") (dunderI "add") = pure none := by kernel_rfl
def rItup : TIp := fun x y H Q => ∃ a b xs ys, x = .ref a ∧ y = .ref b ∧ H a = some (.tup xs) ∧ H b = some (.tup ys) ∧ xs.length + ys.length ≤ sizeLine ∧ ∀ p H', Ext H H' → H' p = some (.tup (xs ++ ys)) → Q (.ref p) H'
theorem ip_tup {X : Cx} : PIp X .Add rItup := by
  intro pins s σ H x y v u Q I rx ry h
  obtain ⟨a, b, xs, ys, rfl, rfl, ha, hb, hz, q⟩ := h
  cases rx
  cases ry
  obtain ⟨its, r1, p1, _⟩ := I.tuple (SqT.of (K := X.K) ha)
  obtain ⟨its2, r2, p2, _⟩ := I.tuple (SqT.of (K := X.K) hb)
  obtain ⟨⟨cls, dd, data, sl⟩, ho, hc, n, hd⟩ := id p1
  obtain ⟨⟨cls2, dd2, data2, sl2⟩, ho2, hc2, n2, hd2⟩ := id p2
  simp only at hc hd hc2 hd2
  subst hc hd hc2 hd2
  have e : its.toArray ++ its2.toArray = (its ++ its2).toArray := by simp
  have go : ∀ {S : PySem.Spec}, PySem.Meets (Builtin.«tuple.__add__» ⟨[.ref a, .ref b], []⟩) S → S X.A (wants (EP X pins σ Q) X.xe) s → wpAny (model X.prog X.w) X.A (inplaceOp .Add (.ref a) (.ref b)) (EP X pins σ Q) X.xe s := fun g h =>
    inplaceOp_concat ⟨_, ho, rfl⟩ ⟨_, ho2, rfl⟩ no_tup_iadd PySem.noFill_tuple_add PySem.seq_tuple_add (call_meets PySem.F.slot_tuple_add ⟨_, ho, rfl⟩ PySem.F.entry_tuple_add (PySem.F.args_tuple_add_2 _ _) g h)
  by_cases h1 : its = []
  · have hx : xs = [] := by
      have := r1.length
      rw [h1] at this
      exact List.eq_nil_of_length_eq_zero this
    exact go (tuple_addW0 a b its.toArray its2.toArray n n2 dd dd2 sl sl2 (by simp [h1])) ⟨ho, ho2, .ref b, H, I, rfl, q b H Ext.refl (by rw [hx]; exact hb)⟩
  · by_cases h2 : its2 = []
    · have hy : ys = [] := by
        have := r2.length
        rw [h2] at this
        exact List.eq_nil_of_length_eq_zero this
      exact go (tuple_addW1 a b its.toArray its2.toArray n n2 dd dd2 sl sl2 (by simpa using h1) (by simp [h2])) ⟨ho, ho2, .ref a, H, I, rfl, q a H Ext.refl (by rw [hy, List.append_nil]; exact ha)⟩
    · refine go (tuple_addW2 a b its.toArray its2.toArray n n2 dd dd2 sl sl2 (by simpa using h1) (by simpa using h2) (by rw [List.size_toArray, List.size_toArray, ← r1.length, ← r2.length]; exact hz)) ⟨ho, ho2, ?_⟩
      rw [e]
      refine ⟨.ref s.heap.objs.size, _, I.laid (t' := s.toks) (o := .tup (xs ++ ys)) (fun b ob q => Heap.get?_push_of_some _ q) (Nat.le_refl _) ?_, rfl, q _ _ (Ext.new (I.hok.fresh (Nat.le_refl _))) upd_same⟩
      exact ⟨by rw [List.length_append]; exact hz, _, r1.append r2, IsTup.new _ _⟩
def rLtD (K : PySem.W.Frag) : R2 := fun x y H Q => ∃ d e, Dp K H x d ∧ Dp K H y e ∧ PySem.W.alike d e = true ∧ d ≠ .none ∧ d.depth ≤ 64 ∧ Q (.bl (PySem.W.dataLt d e)) H
theorem ltD (K : PySem.W.Frag) {X : Cx} (hu : X.A.units + 64 < cLine) (h : X.K = K := by rfl) : OpR X (compareOp .Lt) (rLtD K) := by
  subst h
  intro pins s σ H x y v u Q I rx ry h
  obtain ⟨d, e, hd, he, ha, hn, hdp, q⟩ := h
  obtain ⟨as, r1⟩ := Dp.reads I d x v hd rx
  obtain ⟨bs, r2⟩ := Dp.reads I e y u he ry
  exact PySem.W.lt_data r1 r2 ha hn (by have := Nat.min_le_left d.depth e.depth; omega) ⟨.bl _, H, I, rfl, q⟩
end Pf


namespace Pf
open PySem PySem.Spec PyProof.Rows L2
def rSumE (K : PySem.W.Frag) : List V → Hp → VK → Prop := fun vs H Q => ∃ (a b : Addr) (ls : List (Addr × List V)), vs = [.ref a, .ref b] ∧ SqL K H a (ls.map fun x => .ref x.1) ∧ (∀ x ∈ ls, H x.1 = some (.lst x.2)) ∧ H b = some (.lst []) ∧ (ls.map (·.2)).flatten.length ≤ sizeLine ∧
  ∀ p H', Ext H H' → H' p = some (.lst (ls.map (·.2)).flatten) → Q (.ref p) H'
theorem sumE (K : PySem.W.Frag) {X : Cx} (hcalm : X.calm = true) (hK : X.K = K := by rfl) : CallR X (.builtin "sum") (rSumE K) := fun pins s σ H vs us Q I r h => by
  obtain ⟨a, b, ls, rfl, h1, h2, h3, h4, q⟩ := h
  refine cr_sumL K hcalm hK pins s σ H _ us Q I r ⟨a, b, ls, [], rfl, h1, h2, h3, by rw [List.length_nil, Nat.zero_add]; exact h4, fun e => ?_, fun _ p hp => ?_⟩
  · refine q b H Ext.refl ?_
    rw [e]
    exact h3
  · exact q p _ (Ext.new hp) upd_same
theorem sum_len_le {m : Nat} : ∀ {ys : List Str}, (∀ y ∈ ys, y.length ≤ m) → (ys.map (·.length)).sum ≤ ys.length * m
  | [], _ => Nat.zero_le _
  | y :: r, h => by
    have h1 := h y (List.mem_cons_self ..)
    have h2 := sum_len_le (ys := r) fun x hx => h x (List.mem_cons_of_mem _ hx)
    rw [List.map_cons, List.sum_cons, List.length_cons, Nat.succ_mul]
    omega
theorem fits_join {ys : List Str} {k m : Nat} (hk : ys.length ≤ k) (h : ∀ y ∈ ys, y.length ≤ m) (hm : k * m ≤ 1000000) : (ys.map (·.length)).sum + ys.length * ("" : Str).length ≤ 16777216 := by
  have h1 := sum_len_le h
  have h2 : ys.length * m ≤ k * m := Nat.mul_le_mul_right m hk
  have h3 : ("" : Str).length = 0 := by decide +kernel
  rw [h3, Nat.mul_zero]
  omega
def Of (L x : Str) : Prop := ∀ c ∈ x.cps.toList, c ∈ L.cps.toList
theorem Of.small {L x : Str} (h : Of L x) (hs : Small L) : Small x := fun c hc => hs c (h c hc)
theorem Of.app {L a b : Str} (ha : Of L a) (hb : Of L b) : Of L (a ++ b) := fun c h => by
  rw [Str.cps_append, Array.toList_append, List.mem_append] at h
  exact h.elim (ha c) (hb c)
theorem of_nil (L : Str) : Of L "" := by
  have : ("" : Str).cps.toList = [] := by decide +kernel
  intro c hc
  rw [this] at hc
  cases hc
theorem sjoin_of {L : Str} : ∀ {ys : List Str}, (∀ y ∈ ys, Of L y) → Of L (Str.join "" ys)
  | [], _ => of_nil L
  | [y], h => h y (List.mem_cons_self ..)
  | y :: z :: r, h => ((h y (List.mem_cons_self ..)).app (of_nil L)).app (sjoin_of (ys := z :: r) fun x hx => h x (List.mem_cons_of_mem _ hx))
theorem cutS_of {L x : Str} (h : Of L x) (lo hi : Option Int) : Of L (cutS x lo hi) := fun c hc => by
  unfold cutS at hc
  exact h c (List.mem_of_mem_drop (List.mem_of_mem_take hc))
theorem cutS_one (x : Str) : (cutS x none (some 1)).length ≤ 1 := by
  show (((x.cps.toList.drop (HT.sIx x.length 0 none)).take (HT.sIx x.length x.length (some 1) - HT.sIx x.length 0 none)).toArray).size ≤ 1
  rw [List.size_toArray, List.length_take]
  have : HT.sIx x.length x.length (some ((1 : Nat) : Int)) = min 1 x.length := HT.sIx_nat _ _ _
  have h2 : HT.sIx x.length x.length (some (1 : Int)) = min 1 x.length := this
  rw [h2]
  omega
/-! ### a dict by texts, of small numbers -/
def encT (y : Str × Int) : Key × V := (.inr y.1, .int y.2)
theorem put_encT (t : List (Str × Int)) (k : Str) (z : Int) (hn : (t.map (·.1)).Nodup) : ∃ t' : List (Str × Int), putK (t.map encT) (.inr k) (.int z) = t'.map encT ∧ (t'.map (·.1)).Nodup ∧ t'.length ≤ t.length + 1 ∧ ∀ y ∈ t', y ∈ t ∨ y = (k, z) := by
  unfold putK
  by_cases h : k ∈ t.map (·.1)
  · rw [if_pos (by
      rw [List.any_eq_true]
      obtain ⟨y, hy, e⟩ := List.mem_map.mp h
      exact ⟨encT y, List.mem_map.mpr ⟨y, hy, rfl⟩, decide_eq_true (by rw [← e]; rfl)⟩)]
    refine ⟨t.map fun y => if y.1 = k then (k, z) else y, ?_, ?_, by rw [List.length_map]; omega, fun y hy => ?_⟩
    · rw [List.map_map, List.map_map]
      refine List.map_congr_left fun y _ => ?_
      show (if (Sum.inr y.1 : Key) = Sum.inr k then (Sum.inr y.1, V.int z) else encT y) = encT (if y.1 = k then (k, z) else y)
      by_cases e : y.1 = k
      · rw [if_pos (by rw [e]), if_pos e, e]
        rfl
      · rw [if_neg (fun w => e (Sum.inr.inj w)), if_neg e]
    · rw [List.map_map]
      have e : ((fun y : Str × Int => y.1) ∘ fun y => if y.1 = k then (k, z) else y) = fun y => y.1 := by
        funext y
        show (if y.1 = k then (k, z) else y).1 = y.1
        split
        · rename_i e
          exact e.symm
        · rfl
      rw [e]
      exact hn
    · obtain ⟨y0, hy0, rfl⟩ := List.mem_map.mp hy
      split
      · exact .inr rfl
      · exact .inl hy0
  · rw [if_neg (by
      intro w
      obtain ⟨kv, hkv, e⟩ := List.any_eq_true.mp w
      obtain ⟨y, hy, rfl⟩ := List.mem_map.mp hkv
      have e : (Sum.inr y.1 : Key) = Sum.inr k := of_decide_eq_true e
      exact h (List.mem_map.mpr ⟨y, hy, Sum.inr.inj e⟩))]
    refine ⟨t ++ [(k, z)], by rw [List.map_append]; rfl, ?_, by rw [List.length_append]; exact Nat.le_refl _, fun y hy => ?_⟩
    · rw [List.map_append]
      refine List.nodup_append.mpr ⟨hn, List.pairwise_singleton _ _, fun a ha b hb => ?_⟩
      rw [List.mem_singleton.mp hb]
      intro e
      have e : a = k := e
      exact h (by rw [← e]; exact ha)
    · rcases List.mem_append.mp hy with hy | hy
      · exact .inl hy
      · exact .inr (List.mem_singleton.mp hy)
abbrev scTie : Scope := { kind := .function, names := [(".0", .local), ("_law_one", .cell), ("_law_letters", .cell)], isGenerator := false, isCoroutine := false }
section
variable {P : Program} {w : World} {K : PySem.W.Frag} {mg : Str → Option Value} {base : Heap}
abbrev s_law_ties : Stmt := topS 31
theorem sc_law_ties : FnScope ["_law_pen_here", "_law_letters", "_law_upto", "_law_every", "_law_many", "_law_found", "_law_turn", "_law_k", "_law_one", "_law_other"] ["_law_pen_here", "_law_letters", "_law_upto"] (defScope s_law_ties) :=
  ⟨rfl, rfl, rfl, by decide +kernel, rfl, by decide +kernel, by decide +kernel⟩
def spTies : Sp := fun vs H Q _ => ∃ (p c : Addr) (sg : Str) (n : Nat), vs = [.ref p, .str sg, .int 12] ∧ Pen H p c n ∧ n + 60 < 1000000 ∧ 1 ≤ sg.length ∧ sg.length ≤ 6 ∧ Small sg ∧
  ∀ (v : V) (prs : List (Str × Int)) (H' : Hp), FrzOf PairAt H' v prs → prs.length ≤ 12 → (prs.map (·.1)).Nodup → (∀ y ∈ prs, Two y.1 ∧ Of sg y.1 ∧ -99 ≤ y.2 ∧ y.2 ≤ 99) → Kp p H H' → Pen H' p c (n + 52) → Q v H'
theorem ok_ties {f : Addr} {fd : FuncData} (F : Fun K "_law_ties" "_law_ties" s_law_ties f fd) (c_law_pick : CDraw P w K mg base) (c_law_some_worth : CWorth P w K mg base) (msum : mg "sum" = none) (mmin : mg "min" = none) (mlen : mg "len" = none) (mrange : mg "range" = none) (msorted : mg "sorted" = none) (mtuple : mg "tuple" = none) : FnOk P w K mg base CX0 3 f fd ["_law_pen_here", "_law_letters", "_law_upto"] spTies := by
  refine F.ok sc_law_ties (fun vs H Q E h => ?_) (fun cdv A outer s H vs Q E hr h => ?_)
  · obtain ⟨p, c, sg, n, rfl, _⟩ := h
    rfl
  · obtain ⟨p, c, sg, n, rfl, hP, hn, hs1, hs6, hsm, q⟩ := h
    refine ⟨_, (pss_cons (ps_set (i := 3) sc_law_ties.nd rfl (.inl rfl) (pe_callB (sumE K rfl) (by rfl) msum (by decide +kernel) (pa_cons (pe_lc (own := [("_law_one", 8)]) (g := gName 8) (by rfl) sc_law_ties.nd (pi_str (pv 1)) (blkOk_by (own := [("_law_one", 8)]) (N := ["_law_pen_here", "_law_letters", "_law_upto", "_law_every", "_law_many", "_law_found", "_law_turn", "_law_k", "_law_one", "_law_other"]) (sc := defScope s_law_ties) (by decide +kernel)) (fun _ _ _ _ _ => (pg_name (i := 8) sc_law_ties.nd rfl (.inr rfl))) (fun _ _ _ _ _ => pts_nil) (fun _ _ _ _ _ => (pe_lc (own := [("_law_other", 9)]) (g := gName 9) (by rfl) sc_law_ties.nd (pi_str (pv 1)) (blkOk_by (own := [("_law_other", 9)]) (N := ["_law_pen_here", "_law_letters", "_law_upto", "_law_every", "_law_many", "_law_found", "_law_turn", "_law_k", "_law_one", "_law_other"]) (sc := scTie) (by decide +kernel)) (fun _ _ _ _ _ => (pg_name (i := 9) sc_law_ties.nd rfl (.inl rfl))) (fun _ _ _ _ _ => pts_nil) (fun _ _ _ _ _ => (pe_op op_add_str (pv 8) (pv 9)))))) (pa_cons (pe_lst pa_nil) pa_nil))))
      (pss_cons (ps_set (i := 4) sc_law_ties.nd rfl (.inl rfl) (pe_callB (call_min3 rfl) (by rfl) mmin (by decide +kernel) (pa_cons pe_int (pa_cons (pv 2) (pa_cons (pe_ix (ixL K) (pe_lst (pa_cons (pe_callB (lenQ K) (by rfl) mlen (by decide +kernel) (pa_cons (pv 3) pa_nil)) (pa_cons (pe_op op_add pe_int (pe_ca c_law_pick (hr.mono (by decide)) (by rfl) (pa_cons (pv 0) (pa_cons (pe_callB (lenQ K) (by rfl) mlen (by decide +kernel) (pa_cons (pv 3) pa_nil)) pa_nil)))) (pa_cons pe_int (pa_cons pe_int pa_nil))))) (pe_ca c_law_pick (hr.mono (by decide)) (by rfl) (pa_cons (pv 0) (pa_cons pe_int pa_nil))) (fun _ _ => rfl)) pa_nil)))))
      (pss_cons (ps_set (i := 5) sc_law_ties.nd rfl (.inl rfl) pe_dnewK)
      (pss_cons (ps_set (i := 6) sc_law_ties.nd rfl (.inl rfl) (pe_ca c_law_pick (hr.mono (by decide)) (by rfl) (pa_cons (pv 0) (pa_cons (pe_callB (lenQ K) (by rfl) mlen (by decide +kernel) (pa_cons (pv 3) pa_nil)) pa_nil))))
      (pss_cons (ps_for PassesOwn.never rfl (pi_range1 (by rfl) mrange (pa_cons (pv 4) pa_nil)) (pg_name (i := 7) sc_law_ties.nd rfl (.inl rfl)) (pss_one (ps_dput (hu_of hr) (pv 5) (pe_ix (ixL K) (pv 3) (pe_op op_mod (pe_op op_add (pv 6) (pv 7)) (pe_callB (lenQ K) (by rfl) mlen (by decide +kernel) (pa_cons (pv 3) pa_nil))) (fun _ _ => rfl)) (pe_ca c_law_some_worth (hr.mono (by decide)) (by rfl) (pa_cons (pv 0) pa_nil)) rfl)))
      (pss_one (ps_ret (pe_callTy (tupleFz K) (by rfl) mtuple (by decide +kernel) (pa_cons (pe_sortItemsS rfl hr.units (by rfl) msorted (pv 5)) pa_nil))))))))), ?_⟩
    have hsz : sg.cps.size ≤ 6 := hs6
    have hsz1 : 1 ≤ sg.cps.size := hs1
    -- every text of two letters
    refine ⟨_, rfl, _, rfl, fun D hD => lc_str (fun i H2 => ∃ ls : List (Addr × List Str), H2 D = some (.lst (ls.map fun x => .ref x.1)) ∧ ls.length = i ∧ (∀ x ∈ ls, x.1 ≠ D ∧ H2 x.1 = some (.lst (x.2.map V.str)) ∧ x.2.length = sg.cps.size ∧ ∀ t ∈ x.2, Two t ∧ Of sg t) ∧ Ext H H2)
      ⟨[], upd_same, rfl, (fun x hx => by cases hx), Ext.new hD⟩ (fun i ch H2 hi hv => ?_) (fun H2 hv => ?_)⟩
    · obtain ⟨ls, hL2, hll, hls, k2⟩ := hv
      have hi6 : i < sg.cps.size := (Array.getElem?_eq_some_iff.mp hi).1
      have hci : ch ∈ sg.cps.toList := Array.mem_toList_iff.mpr (Array.mem_of_getElem? hi)
      refine ⟨rfl, _, rfl, _, rfl, fun D2 hD2 => lc_str (fun j H3 => ∃ zs : List Str, zs.length = j ∧ (∀ t ∈ zs, Two t ∧ Of sg t) ∧ Ext H2 H3 ∧ H3 D2 = some (.lst (zs.map V.str))) ⟨[], rfl, (fun t h => by cases h), Ext.new hD2, upd_same⟩ (fun j cj H3 hj hv => ?_) (fun H3 hv => ?_)⟩
      · obtain ⟨zs, hzs, hz2, k3, hL3⟩ := hv
        have hj6 : j < sg.cps.size := (Array.getElem?_eq_some_iff.mp hj).1
        have hcj : cj ∈ sg.cps.toList := Array.mem_toList_iff.mpr (Array.mem_of_getElem? hj)
        refine ⟨rfl, _, rfl, _, rfl, _, _, rfl, rfl, szL (show 1 + 1 ≤ 1000000 by decide), _, hL3, szLt ?_, zs ++ [⟨#[ch]⟩ ++ ⟨#[cj]⟩], ?_, fun t ht => ?_, k3.put hD2, ?_⟩
        · rw [List.length_map]
          omega
        · rw [List.length_append, List.length_singleton]
          omega
        · rcases List.mem_append.mp ht with ht | ht
          · exact hz2 t ht
          · rw [List.mem_singleton.mp ht]
            refine ⟨⟨rfl, (Small.one (hsm.at hi)).app (Small.one (hsm.at hj))⟩, Of.app (fun c hc => ?_) (fun c hc => ?_)⟩
            · have : c = ch := by simpa using hc
              rw [this]
              exact hci
            · have : c = cj := by simpa using hc
              rw [this]
              exact hcj
        · rw [upd_same, List.map_append]
          rfl
      · obtain ⟨zs, hzs, hz2, k3, hL3⟩ := hv
        have hLD := k3 _ _ hL2
        have nD : D2 ≠ D := fun z => by
          rw [z, hL2] at hD2
          cases hD2
        refine ⟨_, hLD, szLt (by rw [List.length_map]; omega), ls ++ [(D2, zs)], by rw [upd_same, List.map_append]; rfl, by rw [List.length_append, List.length_singleton, hll], fun x hx => ?_, (k2.trans k3).put hD⟩
        rcases List.mem_append.mp hx with hx | hx
        · obtain ⟨h1, h2, h3, h4⟩ := hls x hx
          refine ⟨h1, ?_, h3, h4⟩
          rw [upd_ne h1]
          exact k3 _ _ h2
        · rw [List.mem_singleton.mp hx]
          refine ⟨nD, ?_, hzs, hz2⟩
          rw [upd_ne nD]
          exact hL3
    obtain ⟨ls, hL2, hll, hls, k2⟩ := hv
    refine ⟨Nat.zero_le _, fun b3 hb3 => ?_⟩
    have x3 := Ext.new (o := .lst []) hb3
    have hfl : ((ls.map fun x => (x.1, x.2.map V.str)).map (·.2)).flatten = (ls.map (·.2)).flatten.map V.str := by
      rw [List.map_map, List.map_flatten, List.map_map]
      rfl
    have hlen : ((ls.map (·.2)).flatten).length = ls.length * sg.cps.size := by
      have : ∀ l : List (Addr × List Str), (∀ x ∈ l, x.2.length = sg.cps.size) → ((l.map (·.2)).flatten).length = l.length * sg.cps.size := by
        intro l
        induction l with
        | nil => intro _; rw [List.length_nil, Nat.zero_mul]; rfl
        | cons x l ih =>
          intro h
          rw [List.map_cons, List.flatten_cons, List.length_append, h x (List.mem_cons_self ..), ih fun y hy => h y (List.mem_cons_of_mem _ hy), List.length_cons, Nat.succ_mul]
          omega
      exact this ls fun x hx => (hls x hx).2.2.1
    have hl36 : ls.length * sg.cps.size ≤ 6 * 6 := Nat.mul_le_mul (by omega) hsz
    have hl1 : 1 * 1 ≤ ls.length * sg.cps.size := Nat.mul_le_mul (by omega) hsz1
    refine ⟨D, b3, ls.map fun x => (x.1, x.2.map V.str), rfl, SqL.of (by rw [List.map_map]; exact x3 _ _ hL2), fun x hx => ?_, upd_same, szL (by rw [hfl, List.length_map]; omega), fun le H4 k4 hLe => ?_⟩
    · obtain ⟨y, hy, rfl⟩ := List.mem_map.mp hx
      exact x3 _ _ (hls y hy).2.1
    rw [hfl] at hLe
    obtain ⟨ts, hts⟩ : ∃ ts, ts = (ls.map (·.2)).flatten := ⟨_, rfl⟩
    rw [← hts] at hLe hlen
    have ht2 : ∀ t ∈ ts, Two t ∧ Of sg t := fun t ht => by
      rw [hts] at ht
      obtain ⟨l, hl, ht⟩ := List.mem_flatten.mp ht
      obtain ⟨x, hx, rfl⟩ := List.mem_map.mp hl
      exact (hls x hx).2.2.2 t ht
    have kp4 : Kp p H H4 := Kp.ext ((k2.trans x3).trans k4)
    have hP4 := hP.ext ((k2.trans x3).trans k4)
    have htl : 1 ≤ ts.length := by omega
    have nle : le ≠ p := fun z => by
      obtain ⟨cells, a, r, hp, _⟩ := hP4
      rw [z, hp] at hLe
      injection hLe with hLe
      injection hLe with hLe
      cases ts with
      | nil => cases hLe
      | cons t ts =>
        injection hLe with h1 _
        cases h1
    have hll : (ts.map V.str).length = ts.length := List.length_map ..
    -- how many
    refine ⟨_, rfl, _, rfl, le, _, rfl, .inl (SqL.of hLe), _, rfl, _, rfl, le, _, rfl, .inl (SqL.of hLe), p, c, _, _, rfl, hP4, by omega, by omega, by omega, fun d H5 d0 d1 k5 hP5 => ⟨1, d, rfl, rfl, szL (show 4 ≤ 1000000 by decide), fun l5 hl5 => ?_⟩⟩
    have hP5' := hP5.new (o := .lst [.int ((ts.map V.str).length : Nat), .int (1 + d), .int 3, .int 0]) hl5
    refine ⟨_, rfl, p, c, 4, _, rfl, hP5', by omega, by decide, by decide, fun e H6 e0 e1 k6 hP6 => ?_⟩
    obtain ⟨z, hz, hat6⟩ := atI_ints (ns := [((ts.map V.str).length : Int), 1 + d, 3, 0]) e0 e1
    have hz0 : 0 ≤ z := by
      simp only [List.mem_cons, List.not_mem_nil, or_false] at hz
      omega
    refine ⟨l5, _, e, _, rfl, rfl, SqL.of (k6 _ _ (hP5.ne hl5).1 upd_same), hat6, 12, 12, z, rfl, fun m m1 m2 m3 m4 => ?_⟩
    have kp6 : Kp p H4 H6 := (k5.trans (Kp.new hl5)).trans k6
    have hLe6 := kp6 _ _ nle hLe
    -- a dict
    refine fun D7 hD7 => ?_
    have nD7 := hP6.ne hD7
    have hLe7 := (Kp.new (p := p) (o := .dK []) hD7) _ _ nle hLe6
    have hP7 := hP6.new (o := .dK []) hD7
    refine ⟨_, rfl, _, rfl, le, _, rfl, .inl (SqL.of hLe7), p, c, _, _, rfl, hP7, by omega, by omega, by omega, fun tn H8 t0 t1 k8 hP8 => ?_⟩
    have hD8 := k8 _ _ nD7.1 (upd_same (H := H6) (a := D7) (o := .dK []))
    have hLe8 := k8 _ _ nle hLe7
    have kp8 : Kp p H6 H8 := (Kp.new hD7).trans k8
    refine ⟨_, rfl, m, rfl, by omega, by omega, for_range (lo := 0) (n := m.toNat) (fun i σ H9 => ∃ (y7 : Option V) (t : List (Str × Int)), σ = [some (.ref p), some (.str sg), some (.int 12), some (.ref le), some (.int m), some (.ref D7), some (.int tn), y7, none, none] ∧ H9 D7 = some (.dK (t.map encT)) ∧ t.length ≤ i ∧ (t.map (·.1)).Nodup ∧ (∀ y ∈ t, Two y.1 ∧ Of sg y.1 ∧ -99 ≤ y.2 ∧ y.2 ≤ 99) ∧ H9 le = some (.lst (ts.map V.str)) ∧ Kp p H6 H9 ∧ Pen H9 p c (n + 3 + 4 * i))
      ⟨none, [], rfl, hD8, Nat.le_refl _, List.Pairwise.nil, (fun y hy => by cases hy), hLe8, kp8, hP8.mono (by omega)⟩ (fun i σ H9 hi hv => ?_) (fun σ H9 hv => ?_)⟩
    · obtain ⟨y7, t, rfl, hD9, htl9, htn, htb, hLe9, k9, hP9⟩ := hv
      refine ⟨_, rfl, p, c, _, rfl, hP9, by omega, fun wv H10 w0 w1 k10 hP10 => ?_⟩
      have hD10 := k10 _ _ nD7.1 hD9
      have hLe10 := k10 _ _ nle hLe9
      have g0 := Int.emod_nonneg (tn + (0 + (i : Int))) (show ((ts.map V.str).length : Int) ≠ 0 by omega)
      have g1 := Int.emod_lt_of_pos (tn + (0 + (i : Int))) (show (0 : Int) < ((ts.map V.str).length : Int) by omega)
      obtain ⟨u, hu⟩ : ∃ u, ts[((tn + (0 + (i : Int))) % ((ts.map V.str).length : Int)).toNat]? = some u := ⟨_, List.getElem?_eq_getElem (by omega)⟩
      have hat : atI (ts.map V.str) ((tn + (0 + (i : Int))) % ((ts.map V.str).length : Int)) = some (.str u) := by
        have e1 : (ts.map V.str)[((tn + (0 + (i : Int))) % ((ts.map V.str).length : Int)).toNat]? = some (.str u) := by
          rw [List.getElem?_map, hu]
          rfl
        rw [atI_get g0 g1, ← e1, List.getElem?_eq_getElem]
      obtain ⟨t', e', hn', hl', hb'⟩ := put_encT t u wv htn
      refine ⟨_, rfl, _, rfl, _, rfl, _, rfl, _, _, rfl, rfl, _, rfl, le, _, rfl, .inl (SqL.of hLe10), _, _, rfl, rfl, (show (0 : Int) < ((ts.map V.str).length : Int) by omega), le, _, _, _, rfl, rfl, SqL.of hLe10, hat, D7, _, rfl, DPut.k (k := .inr u) hD10 (szLt (by rw [List.length_map]; omega)), ?_⟩
      have nDl : le ≠ D7 := fun z => by
        rw [z, hD10] at hLe10
        cases hLe10
      have hD7H6 : H6 D7 = none := hD7
      refine ⟨_, t', rfl, by rw [upd_same, e'], by omega, hn', fun y hy => ?_, ?_, (k9.trans k10).put hD7H6, (hP10.put nD7.1 nD7.2).mono (by omega)⟩
      · rcases hb' y hy with h | rfl
        · exact htb y h
        · have := ht2 u (List.mem_of_getElem? hu)
          exact ⟨this.1, this.2, w0, w1⟩
      · rw [upd_ne nDl]
        exact hLe10
    · obtain ⟨y7, t, rfl, hD9, htl9, htn, htb, hLe9, k9, hP9⟩ := hv
      refine ⟨_, rfl, D7, t, rfl, hD9, fun p10 ys H10 hp10 k10 hL10 hys e10 => ?_⟩
      refine ⟨p10, _, rfl, SqL.of hL10, fun l o hl ho => ?_⟩
      have x11 := Ext.new (o := .frz o (.tup (ys.map fun y => V.ref y.1))) hl
      have pm : (ys.map (·.2)).Perm t := by
        rw [e10]
        exact List.mergeSort_perm _ _
      refine q (.ref l) (ys.map (·.2)) _ ⟨l, o, _, rfl, upd_same, ho, ?_⟩ ?_ ?_ (fun y hy => htb y (pm.mem_iff.mp hy)) (((kp4.trans kp6).trans k9).trans (Kp.ext (k10.trans x11))) ((hP9.ext (k10.trans x11)).mono (by omega))
      · have aux : ∀ l : List (Addr × Str × Int), (∀ y ∈ l, H10 y.1 = some (.tup [.str y.2.1, .int y.2.2])) → Paired (PairAt H10) (l.map fun y => V.ref y.1) (l.map (·.2)) := by
          intro l
          induction l with
          | nil => intro _; exact .nil
          | cons y l ih => intro h; exact .cons ⟨y.1, rfl, h y (List.mem_cons_self ..)⟩ (ih fun z hz => h z (List.mem_cons_of_mem _ hz))
        exact paired_imp (fun _ _ ⟨a, e, h⟩ => ⟨a, e, x11 _ _ h⟩) (aux ys hys)
      · rw [pm.length_eq]
        omega
      · exact (pm.map (·.1)).nodup_iff.mpr htn
abbrev CTies (P : Program) (w : World) (K : PySem.W.Frag) (mg : Str → Option Value) (base : Heap) : Prop := Ca P w K mg base 3 "_law_ties" ["_law_pen_here", "_law_letters", "_law_upto"] spTies
end
end Pf


namespace Pf
open PySem PySem.Spec PyProof.Rows L2
/-! ### rules as data -/
theorem dpIntsAt {K : PySem.W.Frag} {H : Hp} : ∀ {vs : List V} {ns : List Int}, Paired (IntAt H) vs ns → DpAll K H vs (ns.map PyData.int)
  | _, _, .nil => .nil
  | _, _, .cons e t => .cons ((show _ = V.int _ from e) ▸ .int _) (dpIntsAt t)
def dPr (x : Str × Int) : PyData := .tuple [.str x.1, .int x.2]
theorem dpPairs {K : PySem.W.Frag} {H : Hp} : ∀ {vs : List V} {prs : List (Str × Int)}, Paired (PairAt H) vs prs → DpAll K H vs (prs.map dPr)
  | _, _, .nil => .nil
  | _, _, .cons ⟨_, e, h⟩ t => .cons (e ▸ .tup (SqT.of h) (.cons (.str _) (.cons (.int _) .nil))) (dpPairs t)
theorem sm_prs {prs : List (Str × Int)} (hn : prs.length ≤ 12) (h : ∀ x ∈ prs, Two x.1 ∧ -99 ≤ x.2 ∧ x.2 ≤ 99) : Sm 2000 2 (.tuple (prs.map dPr)) := by
  refine Sm.tup (n := 12) (m := 130) (k := 1) (by rw [List.length_map]; exact hn) (fun d hd => ?_) (by decide)
  obtain ⟨x, hx, rfl⟩ := List.mem_map.mp hd
  have h1 := h x hx
  refine Sm.tup (n := 2) (m := 64) (k := 0) (Nat.le_refl _) (fun d hd => ?_) (by decide)
  simp only [List.mem_cons, List.not_mem_nil, or_false] at hd
  rcases hd with rfl | rfl
  · exact (Sm.str h1.1.2.ok (Nat.le_refl _)).le (by rw [h1.1.1]; decide) (Nat.le_refl _)
  · exact Sm.int (by omega) (by omega)
def dSt (x : Str × Str × Int) : PyData := .tuple [.str x.1, .str x.2.1, .int x.2.2]
theorem dpStacks {K : PySem.W.Frag} {H : Hp} : ∀ {vs : List V} {ps : List (Str × Str × Int)}, Paired (StackAt H) vs ps → DpAll K H vs (ps.map dSt)
  | _, _, .nil => .nil
  | _, _, .cons ⟨_, e, h⟩ t => .cons (e ▸ .tup (SqT.of h) (.cons (.str _) (.cons (.str _) (.cons (.int _) .nil)))) (dpStacks t)
def dRl (r : Rl) : PyData := .tuple [.str r.letters, .tuple (r.prs.map dPr), .int r.span, .tuple (r.loops.map PyData.int), .tuple (r.stk.map dSt)]
theorem dp_rules {K : PySem.W.Frag} {H : Hp} {v : V} {r : Rl} (h : RulesAt H v r) : Dp K H v (dRl r) := by
  obtain ⟨a, vp, vl, vs, rfl, hA, ⟨ap, oz, us, rfl, hp, _, hP⟩, ⟨al, ls, rfl, hl, hL⟩, ⟨as, ss, rfl, hs, hS⟩⟩ := h
  exact .tup (SqT.of hA) (.cons (.str _) (.cons (.tup (SqT.fz hp) (dpPairs hP)) (.cons (.int _) (.cons (.tup (SqT.of hl) (dpIntsAt hL)) (.cons (.tup (SqT.of hs) (dpStacks hS)) .nil)))))
theorem sm_rules {r : Rl} (ok : RlOk r) : Sm 50000 3 (dRl r) := by
  refine Sm.tup (n := 5) (m := 5000) (k := 2) (Nat.le_refl _) (fun d hd => ?_) (by decide)
  simp only [List.mem_cons, List.not_mem_nil, or_false] at hd
  have h3 := ok.sp0
  have h4 := ok.sp3
  rcases hd with rfl | rfl | rfl | rfl | rfl
  · exact (Sm.str ok.small.ok ok.let6).le (by decide) (by decide)
  · exact (sm_prs ok.prs ok.pr).le (by decide) (by decide)
  · exact (Sm.int (by omega) (by omega)).le (by decide) (by decide)
  · refine (Sm.tup (n := 9) (m := 64) (k := 0) (by rw [List.length_map, ok.lo9]; exact Nat.le_refl _) (fun d hd => ?_) (Nat.le_refl _)).le (by decide) (by decide)
    obtain ⟨z, hz, rfl⟩ := List.mem_map.mp hd
    have := ok.lo z hz
    exact Sm.int (by omega) (by omega)
  · refine (Sm.tup (n := 12) (m := 200) (k := 1) (by rw [List.length_map]; exact ok.stk) (fun d hd => ?_) (Nat.le_refl _)).le (by decide) (by decide)
    obtain ⟨z, hz, rfl⟩ := List.mem_map.mp hd
    have hk := ok.st z hz
    refine Sm.tup (n := 3) (m := 64) (k := 0) (Nat.le_refl _) (fun d hd => ?_) (by decide)
    simp only [List.mem_cons, List.not_mem_nil, or_false] at hd
    rcases hd with rfl | rfl | rfl
    · exact (Sm.str hk.1.2.ok (Nat.le_of_eq hk.1.1)).le (by decide) (by decide)
    · exact (Sm.str hk.2.1.2.ok (Nat.le_of_eq hk.2.1.1)).le (by decide) (by decide)
    · exact Sm.int (by omega) (by omega)
def dKept (r : Rl) (x : Str) : PyData := .tuple [dRl r, .str x]
theorem sm_kept {r : Rl} (ok : RlOk r) {x : Str} (hx : x.length ≤ 20) (hs : Of r.letters x) : Sm 200000 4 (dKept r x) := by
  refine Sm.tup (n := 2) (m := 60000) (k := 3) (Nat.le_refl _) (fun d hd => ?_) (by decide)
  simp only [List.mem_cons, List.not_mem_nil, or_false] at hd
  rcases hd with rfl | rfl
  · exact (sm_rules ok).le (by decide) (by decide)
  · exact (Sm.str (hs.small ok.small).ok hx).le (by decide) (by decide)
theorem cutS_list (x : Str) {lo hi : Nat} (h : lo ≤ hi) (hx : hi ≤ x.length) : (cutS x (some (lo : Int)) (some (hi : Int))).cps.toList = (x.cps.toList.drop lo).take (hi - lo) := by
  show ((x.cps.toList.drop (HT.sIx x.length 0 (some (lo : Int)))).take (HT.sIx x.length x.length (some (hi : Int)) - HT.sIx x.length 0 (some (lo : Int)))).toArray.toList = _
  have e1 : HT.sIx x.length 0 (some (lo : Int)) = min lo x.length := HT.sIx_nat _ _ _
  have e2 : HT.sIx x.length x.length (some (hi : Int)) = min hi x.length := HT.sIx_nat _ _ _
  have m1 : min lo x.length = lo := Nat.min_eq_left (by omega)
  have m2 : min hi x.length = hi := Nat.min_eq_left hx
  rw [e1, e2, m1, m2]
theorem len_list (x : Str) : x.cps.toList.length = x.length := Array.length_toList
theorem part_len {x x' : Str} {s m : Nat} (h : x'.cps.toList = (x.cps.toList.drop s).take m) (hm : s + m ≤ x.length) : x'.length = m := by
  rw [← len_list, h, List.length_take, List.length_drop, len_list]
  omega
theorem none_of {p : Addr} {H H' : Hp} (k : Kp p H H') {b : Addr} (nb : b ≠ p) (h : H' b = none) : H b = none := by
  cases e : H b with
  | none => rfl
  | some o =>
    rw [k b o nb e] at h
    cases h
/-- texts of pairs are of the letters; the last letter of all is none of them -/
def OfP (r : Rl) : Prop := (∀ y ∈ r.prs, Of r.letters y.1) ∧ ∀ ch ∈ r.letters.cps.toList, ch < 122 ∧ ch ≤ r.letters.cps.toList.getD (r.letters.length - 1) 0
def alpha : Str := "abcdefghijklmnopqrstuvwxyz"
theorem alpha_len : alpha.length = 26 := by decide +kernel
theorem alpha_low : ∀ a0, a0 < 20 → ∀ a1, a1 < 7 → ∀ ch ∈ (alpha.cps.toList.drop a0).take a1, ch < 122 ∧ ch ≤ ((alpha.cps.toList.drop a0).take a1).getD (a1 - 1) 0 := by decide +kernel
theorem alpha_small : Small alpha := by unfold Small; decide +kernel
section
variable {P : Program} {w : World} {K : PySem.W.Frag} {mg : Str → Option Value} {base : Heap}
abbrev s_law_code : Stmt := topS 32
theorem sc_law_code : FnScope ["_law_pen_here", "_law_way", "_law_first", "_law_letters", "_law_ties_here", "_law_even", "_law_k", "_law_loops", "_law_stacks", "_law_one", "_law_other", "_law_piles", "_law_key"] ["_law_pen_here"] (defScope s_law_code) :=
  ⟨rfl, rfl, rfl, by decide +kernel, rfl, by decide +kernel, by decide +kernel⟩
def spRules : Sp := fun vs H Q _ => ∃ (p c : Addr) (n : Nat), vs = [.ref p] ∧ Pen H p c n ∧ n + 300 < 1000000 ∧
  ∀ v r H', RulesAt H' v r → RlOk r → OfP r → Kp p H H' → Pen H' p c (n + 300) → Q v H'
theorem ok_rules {f : Addr} {fd : FuncData} (F : Fun K "_law_code" "_law_code" s_law_code f fd) (c_law_pick : CDraw P w K mg base) (c_law_some_worth : CWorth P w K mg base) (c_law_ties : CTies P w K mg base)
    (mlen : mg "len" = none) (mint : mg "int" = none) (mtuple : mg "tuple" = none) (mrange : mg "range" = none) (msorted : mg "sorted" = none) : FnOk P w K mg base CX0 4 f fd ["_law_pen_here"] spRules := by
  refine F.ok sc_law_code (fun vs H Q E h => ?_) (fun cdv A outer s H vs Q E hr h => ?_)
  · obtain ⟨p, c, n, rfl, _⟩ := h
    rfl
  · obtain ⟨p, c, n, rfl, hP, hn, q⟩ := h
    refine ⟨_, (pss_cons (ps_set (i := 1) sc_law_code.nd rfl (.inl rfl) (pe_ca c_law_pick (hr.mono (by decide)) (by rfl) (pa_cons (pv 0) (pa_cons pe_int pa_nil))))
      (pss_cons (ps_set (i := 2) sc_law_code.nd rfl (.inl rfl) (pe_ca c_law_pick (hr.mono (by decide)) (by rfl) (pa_cons (pv 0) (pa_cons pe_int pa_nil))))
      (pss_cons (ps_set (i := 3) sc_law_code.nd rfl (.inl rfl) (pe_slice sl_str pe_str (po_some (pv 2)) (po_some (pe_op op_add (pv 2) (pe_ix (ixL K) (pe_lst (pa_cons (pe_op op_add pe_int (pe_ca c_law_pick (hr.mono (by decide)) (by rfl) (pa_cons (pv 0) (pa_cons pe_int pa_nil)))) (pa_cons pe_int (pa_cons (pe_op op_add pe_int (pe_ca c_law_pick (hr.mono (by decide)) (by rfl) (pa_cons (pv 0) (pa_cons pe_int pa_nil)))) pa_nil)))) (pv 1) (fun _ _ => rfl))))))
      (pss_cons (ps_set (i := 4) sc_law_code.nd rfl (.inl rfl) (pe_ca c_law_ties (hr.mono (by decide)) (by rfl) (pa_cons (pv 0) (pa_cons (pv 3) (pa_cons pe_int pa_nil)))))
      (pss_cons (ps_set (i := 5) sc_law_code.nd rfl (.inr rfl) (pe_cmpR op_eq (pe_ca c_law_pick (hr.mono (by decide)) (by rfl) (pa_cons (pv 0) (pa_cons pe_int pa_nil))) pe_int (nomark _)))
      (pss_cons (ps_setLc (i := 7) (own := [("_law_k", 6)]) (g := gName 6) (by rfl) sc_law_code.nd rfl rfl (sw_true rfl rfl rfl (by decide +kernel)) (pi_range1 (by rfl) mrange (pa_cons pe_int pa_nil)) (blkOk_by (own := [("_law_k", 6)]) (N := ["_law_pen_here", "_law_way", "_law_first", "_law_letters", "_law_ties_here", "_law_even", "_law_k", "_law_loops", "_law_stacks", "_law_one", "_law_other", "_law_piles", "_law_key"]) (sc := defScope s_law_code) (by decide +kernel)) (fun _ _ _ _ _ => (pg_name (i := 6) sc_law_code.nd rfl (.inl rfl))) (fun _ _ _ _ _ => pts_nil) (fun _ _ _ _ _ => (pe_ifExp (pt_val (pv 5)) pe_int (pe_ca c_law_some_worth (hr.mono (by decide)) (by rfl) (pa_cons (pv 0) pa_nil)))))
      (pss_cons (ps_set (i := 8) sc_law_code.nd rfl (.inr rfl) pe_dnewT)
      (pss_cons (ps_for PassesOwn.never rfl (pi_range1 (by rfl) mrange (pa_cons (pe_op op_mul (pe_ix (ixL K) (pe_lst (pa_cons pe_int (pa_cons (pe_ca c_law_pick (hr.mono (by decide)) (by rfl) (pa_cons (pv 0) (pa_cons pe_int pa_nil))) pa_nil))) (pe_ca c_law_pick (hr.mono (by decide)) (by rfl) (pa_cons (pv 0) (pa_cons pe_int pa_nil))) (fun _ _ => rfl)) (pe_callTy call_int1 (by rfl) mint (by decide +kernel) (pa_cons (pe_cmpR (neD K hr.units) (pv 4) (pe_tup pa_nil) (nomark _)) pa_nil))) pa_nil)) (pg_name (i := 6) sc_law_code.nd rfl (.inl rfl)) (pss_cons (ps_par (i := 9) (j := 10) rfl sc_law_code.nd rfl rfl (by decide) rfl rfl (pa_cons (pe_ix (ixT K) (pe_ix (ixT K) (pv 4) (pe_ca c_law_pick (hr.mono (by decide)) (by rfl) (pa_cons (pv 0) (pa_cons (pe_callB (lenQ K) (by rfl) mlen (by decide +kernel) (pa_cons (pv 4) pa_nil)) pa_nil))) (fun _ _ => rfl)) pe_int (fun _ _ => rfl)) (pa_cons (pe_ix (ixT K) (pe_ix (ixT K) (pv 4) (pe_ca c_law_pick (hr.mono (by decide)) (by rfl) (pa_cons (pv 0) (pa_cons (pe_callB (lenQ K) (by rfl) mlen (by decide +kernel) (pa_cons (pv 4) pa_nil)) pa_nil))) (fun _ _ => rfl)) pe_int (fun _ _ => rfl)) pa_nil)) (by rfl))
      (pss_one (ps_dput (hu_of hr) (pv 8) (pe_tup (pa_cons (pv 9) (pa_cons (pv 10) pa_nil))) (pe_ca c_law_some_worth (hr.mono (by decide)) (by rfl) (pa_cons (pv 0) pa_nil)) rfl))))
      (pss_cons (ps_set (i := 11) sc_law_code.nd rfl (.inl rfl) (pe_callTy (tupleOf K) (by rfl) mtuple (by decide +kernel) (pa_cons (pe_lc (own := [("_law_key", 12)]) (g := gName 12) (by rfl) sc_law_code.nd (pi_list (pe_callB (cr_sortKT K rfl hr.units) (by rfl) msorted (by decide +kernel) (pa_cons (pv 8) pa_nil))) (blkOk_by (own := [("_law_key", 12)]) (N := ["_law_pen_here", "_law_way", "_law_first", "_law_letters", "_law_ties_here", "_law_even", "_law_k", "_law_loops", "_law_stacks", "_law_one", "_law_other", "_law_piles", "_law_key"]) (sc := defScope s_law_code) (by decide +kernel)) (fun _ _ _ _ _ => (pg_name (i := 12) sc_law_code.nd rfl (.inl rfl))) (fun _ _ _ _ _ => pts_nil) (fun _ _ _ _ _ => (pe_op (catT K) (pv 12) (pe_tup (pa_cons (pe_dget (hu_of hr) (pv 8) (pv 12) (fun _ _ => rfl)) pa_nil))))) pa_nil)))
      (pss_one (ps_ret (pe_tup (pa_cons (pv 3) (pa_cons (pv 4) (pa_cons (pe_ix (ixL K) (pe_lst (pa_cons pe_int (pa_cons pe_int (pa_cons (pe_ca c_law_pick (hr.mono (by decide)) (by rfl) (pa_cons (pv 0) (pa_cons pe_int pa_nil))) pa_nil)))) (pe_ca c_law_pick (hr.mono (by decide)) (by rfl) (pa_cons (pv 0) (pa_cons pe_int pa_nil))) (fun _ _ => rfl)) (pa_cons (pe_callTy (tupleOf K) (by rfl) mtuple (by decide +kernel) (pa_cons (pv 7) pa_nil)) (pa_cons (pv 11) pa_nil))))))))))))))))), ?_⟩
    refine ⟨_, rfl, p, c, 3, n, rfl, hP, by omega, by decide, by decide, fun way H1 wa wb k1 hP1 => ?_⟩
    refine ⟨_, rfl, p, c, 20, _, rfl, hP1, by omega, by decide, by decide, fun fi H2 fa fb k2 hP2 => ?_⟩
    -- letters
    refine ⟨_, rfl, _, rfl, _, rfl, _, rfl, p, c, 6, _, rfl, hP2, by omega, by decide, by decide, fun g1 H3 ga gb k3 hP3 => ⟨1, g1, rfl, rfl, ?_⟩⟩
    refine ⟨_, rfl, p, c, 3, _, rfl, hP3, by omega, by decide, by decide, fun g2 H4 gc gd k4 hP4 => ⟨1, g2, rfl, rfl, szL (show 3 ≤ 1000000 by decide), fun l5 hl5 => ?_⟩⟩
    obtain ⟨sz', hsz', hat5⟩ := atI_ints (ns := [1 + g1, 2, 1 + g2]) wa wb
    have hszb : 1 ≤ sz' ∧ sz' ≤ 6 := by
      simp only [List.mem_cons, List.not_mem_nil, or_false] at hsz'
      omega
    refine ⟨_, rfl, l5, _, _, _, rfl, rfl, SqL.of upd_same, hat5, _, _, rfl, rfl, _, rfl, alpha, rfl, szL (by rw [alpha_len]; decide), ?_⟩
    obtain ⟨a0, rfl⟩ : ∃ a0 : Nat, fi = (a0 : Int) := ⟨fi.toNat, by omega⟩
    obtain ⟨a1, rfl⟩ : ∃ a1 : Nat, sz' = (a1 : Int) := ⟨sz'.toNat, by omega⟩
    have hcut := cutS_list alpha (lo := a0) (hi := a0 + a1) (by omega) (by rw [alpha_len]; omega)
    have hcast : ((a0 + a1 : Nat) : Int) = (a0 : Int) + (a1 : Int) := by omega
    rw [hcast, Nat.add_sub_cancel_left] at hcut
    have hsl := part_len hcut (by rw [alpha_len]; omega)
    have hsm : Small (cutS alpha (some (a0 : Int)) (some ((a0 : Int) + (a1 : Int)))) := fun ch hc => by
      rw [hcut] at hc
      exact alpha_small ch (List.mem_of_mem_drop (List.mem_of_mem_take hc))
    have hsz : ∀ ch ∈ (cutS alpha (some (a0 : Int)) (some ((a0 : Int) + (a1 : Int)))).cps.toList, ch < 122 ∧ ch ≤ (cutS alpha (some (a0 : Int)) (some ((a0 : Int) + (a1 : Int)))).cps.toList.getD ((cutS alpha (some (a0 : Int)) (some ((a0 : Int) + (a1 : Int)))).length - 1) 0 := fun ch hc => by
      rw [hsl, hcut]
      rw [hcut] at hc
      exact alpha_low a0 (by omega) a1 (by omega) ch hc
    show gName 3 (V.str (cutS alpha (some (a0 : Int)) (some ((a0 : Int) + (a1 : Int))))) _ _ _
    generalize cutS alpha (some (a0 : Int)) (some ((a0 : Int) + (a1 : Int))) = sg at hsl hsm hsz ⊢
    have hP5 := hP4.new (o := .lst [.int (1 + g1), .int 2, .int (1 + g2)]) hl5
    have k05 : Kp p H (upd H4 l5 (.lst [.int (1 + g1), .int 2, .int (1 + g2)])) := (((k1.trans k2).trans k3).trans k4).trans (Kp.new hl5)
    generalize upd H4 l5 (.lst [.int (1 + g1), .int 2, .int (1 + g2)]) = H5 at hP5 k05 ⊢
    clear hP1 hP2 hP3 hP4 k1 k2 k3 k4 hl5 hcut
    -- ties
    refine ⟨_, rfl, _, rfl, p, c, sg, _, rfl, hP5, by omega, by omega, by omega, hsm, fun vt prs H10 hTp hprl hpn hpb k10 hP10 => ?_⟩
    obtain ⟨tp, oz, tus, rfl, htp, hoz, hTr0⟩ := id hTp
    have kp10 : Kp p H H10 := k05.trans k10
    have htul := paired_len hTr0
    have hOk : ∀ x ∈ prs, Two x.1 ∧ -99 ≤ x.2 ∧ x.2 ≤ 99 := fun x hx => ⟨(hpb x hx).1, (hpb x hx).2.2⟩
    -- even
    refine ⟨_, rfl, p, c, 3, _, rfl, hP10, by omega, by decide, by decide, fun ev H11 ea eb k11 hP11 => ⟨rfl, ?_⟩⟩
    -- loops
    refine ⟨9, rfl, by decide, by decide, fun D22 hD22 => lc_range (lo := 0) (n := 9) (fun i H22 => ∃ ns : List Int, ns.length = i ∧ (∀ x ∈ ns, -99 ≤ x ∧ x ≤ 99) ∧ H22 D22 = some (.lst (ns.map V.int)) ∧ Kp p H11 H22 ∧ Pen H22 p c (n + 60 + 4 * i)) ⟨[], rfl, (fun x h => by cases h), upd_same, Kp.new hD22, (hP11.new hD22).mono (by omega)⟩ (fun i H22 hi hv => ?_) (fun H22 hv => ?_)⟩
    · obtain ⟨ns, hns, hnb, hL22, k22, hP22⟩ := hv
      have nD := hP11.ne hD22
      have done : ∀ (wv : Int) (H23 : Hp), -99 ≤ wv → wv ≤ 99 → Kp p H22 H23 → Pen H23 p c (n + 60 + 4 * i + 4) → ∃ acc, H23 D22 = some (.lst acc) ∧ acc.length < sizeLine ∧ ∃ ns : List Int, ns.length = i + 1 ∧ (∀ x ∈ ns, -99 ≤ x ∧ x ≤ 99) ∧ (upd H23 D22 (.lst (acc ++ [.int wv]))) D22 = some (.lst (ns.map V.int)) ∧ Kp p H11 (upd H23 D22 (.lst (acc ++ [.int wv]))) ∧ Pen (upd H23 D22 (.lst (acc ++ [.int wv]))) p c (n + 60 + 4 * (i + 1)) := fun wv H23 w0 w1 k23 hP23 => by
        refine ⟨_, k23 _ _ nD.1 hL22, szLt (by rw [List.length_map]; omega), ns ++ [wv], by rw [List.length_append, List.length_singleton, hns], fun x hx => ?_, by rw [upd_same, List.map_append]; rfl, (k22.trans k23).put hD22, (hP23.put nD.1 nD.2).mono (by omega)⟩
        rcases List.mem_append.mp hx with hx | hx
        · exact hnb x hx
        · rw [List.mem_singleton.mp hx]
          exact ⟨w0, w1⟩
      refine ⟨rfl, _, rfl, _, rfl, ite2 (fun e => ?_) (fun e => ?_)⟩
      · exact done 0 H22 (by decide) (by decide) Kp.refl (hP22.mono (by omega))
      · exact ⟨_, rfl, p, c, _, rfl, hP22, by omega, fun wv H23 w0 w1 k23 hP23 => done wv H23 w0 w1 k23 hP23⟩
    obtain ⟨ns, hns, hnb, hL22, k22, hP22⟩ := hv
    have nD22 := hP11.ne hD22
    have k1022 : Kp p H10 H22 := k11.trans k22
    -- stacks
    refine fun st hst => ?_
    have nst := hP22.ne hst
    have hP13 := hP22.new (o := .dT []) hst
    have k1013 : Kp p H10 (upd H22 st (.dT [])) := k1022.trans (Kp.new hst)
    have hD13 : (upd H22 st (.dT [])) st = some (.dT []) := upd_same
    have hL13 := (Kp.new (p := p) (o := .dT []) hst) _ _ nD22.1 hL22
    generalize hH13 : upd H22 st (.dT []) = H13 at hP13 k1013 hD13 hL13 ⊢
    refine ⟨_, rfl, p, c, 13, _, rfl, hP13, by omega, by decide, by decide, fun r1 H14 ra rb k14 hP14 => ⟨szL (show 2 ≤ 1000000 by decide), fun l15 hl15 => ?_⟩⟩
    refine ⟨_, rfl, p, c, 2, _, rfl, hP14.new hl15, by omega, by decide, by decide, fun r2 H16 rc rd k16 hP16 => ?_⟩
    obtain ⟨y, hy, haty⟩ := atI_ints (ns := [0, r1]) rc rd
    have hy2 : 0 ≤ y ∧ y ≤ 12 := by
      simp only [List.mem_cons, List.not_mem_nil, or_false] at hy
      omega
    have k1316 : Kp p H13 H16 := (k14.trans (Kp.new hl15)).trans k16
    have hTp16 : FrzOf PairAt H16 (.ref tp) prs := FrzOf.mono PairAt.mono _ _ _ _ (TupK.of (k1013.trans k1316) hP10) hTp
    refine ⟨l15, _, r2, _, rfl, rfl, SqL.of (k16 _ _ (hP14.ne hl15).1 upd_same), haty, _, rfl, Nat.zero_le _, fun d17 hd17 => ?_⟩
    have x17 := Ext.new (o := .tup []) hd17
    have hTp17 : FrzOf PairAt (upd H16 d17 (.tup [])) (.ref tp) prs := FrzOf.mono PairAt.mono _ _ _ _ (TupK.ext x17) hTp16
    have dp17 : Dp K (upd H16 d17 (.tup [])) (.ref tp) (.tuple (prs.map dPr)) := by
      obtain ⟨tp', oz', tus', e', htp', _, hTr'⟩ := hTp17
      cases e'
      exact .tup (SqT.fz htp') (dpPairs hTr')
    refine ⟨.tuple (prs.map dPr), .tuple [], dp17, .tup (SqT.of upd_same) .nil, (sm_prs hprl hOk).shaped (by decide), by decide, .inr ⟨_, rfl, y, _, rfl, rfl, .inl ⟨by omega, by omega⟩, ?_⟩⟩
    obtain ⟨cnt, hcnt, cnt0, cnt12, cntU⟩ : ∃ cnt : Int, cnt = y * (if (!PyData.eqv (.tuple (prs.map dPr)) (.tuple [])) = true then 1 else 0) ∧ 0 ≤ cnt ∧ cnt ≤ 12 ∧ (0 < cnt → 0 < prs.length) := by
      refine ⟨_, rfl, ?_⟩
      cases prs with
      | nil =>
        have : (!PyData.eqv (.tuple (([] : List (Str × Int)).map dPr)) (.tuple [])) = false := by simp [PyData.eqv, PyData.eqvAll]
        rw [this]
        simp
      | cons y z =>
        have : (!PyData.eqv (.tuple ((y :: z).map dPr)) (.tuple [])) = true := by simp [PyData.eqv, PyData.eqvAll]
        rw [this, if_pos rfl, Int.mul_one, List.length_cons]
        omega
    have k1617 := k1316.trans (Kp.ext x17)
    have hD17 := k1617 _ _ nst.1 hD13
    have hL17 := k1617 _ _ nD22.1 hL13
    have hP17 := hP16.ext x17
    generalize upd H16 d17 (.tup []) = H17 at x17 hTp17 k1617 hD17 hL17 hP17 ⊢
    have nDst : D22 ≠ st := fun z => by
      rw [z, hD13] at hL13
      cases hL13
    refine ⟨cnt, congrArg (fun z => [V.int z]) hcnt.symm, by omega, by omega, for_range (lo := 0) (n := cnt.toNat) (fun i σ H16 => ∃ (y6 y9 y10 : Option V) (es : List (Str × Str × Int)), σ = [some (.ref p), some (.int way), some (.int (a0 : Int)), some (.str sg), some (.ref tp), some (.bl (decide (V.int ev = V.int 0))), y6, some (.ref D22), some (.ref st), y9, y10, none, none] ∧ H16 st = some (.dT (es.map encE)) ∧ es.length ≤ i ∧ (es.map fun x => (x.1, x.2.1)).Nodup ∧ (∀ x ∈ es, Two x.1 ∧ Two x.2.1 ∧ -99 ≤ x.2.2 ∧ x.2.2 ≤ 99) ∧ H16 D22 = some (.lst (ns.map V.int)) ∧ TupK H17 H16 ∧ Kp p H H16 ∧ Pen H16 p c (n + 110 + 6 * i))
      ⟨_, _, _, [], rfl, hD17, Nat.zero_le _, List.nodup_nil, (fun x h => by cases h), hL17, ⟨fun _ _ e => e, fun _ _ _ e => e⟩, (kp10.trans k1013).trans k1617, hP17.mono (by omega)⟩ (fun i σ H16 hi hv => ?_) (fun σ H16 hv => ?_)⟩
    · obtain ⟨y6, y9, y10, es, rfl, hD16, hel, hnd, hok, hL16, tk16, k16, hP16⟩ := hv
      have hu0 : 0 < prs.length := cntU (by omega)
      have pick : ∀ {H' : Hp} {d : Int}, TupK H17 H' → 0 ≤ d → d < prs.length → ∃ (us : List V) (oz : Obj) (a1 : Addr) (t1 : Str × Int), H' tp = some (.frz oz (.tup us)) ∧ us.length = prs.length ∧ atI us d = some (.ref a1) ∧ H' a1 = some (.tup [.str t1.1, .int t1.2]) ∧ t1 ∈ prs := fun {H' d} tk d0 d1 => by
        obtain ⟨tp', oz', us', e', h1, h2, h3⟩ := FrzOf.mono PairAt.mono _ _ _ _ tk hTp17
        cases e'
        have hl := paired_len h3
        obtain ⟨u, hu⟩ : ∃ u, us'[d.toNat]? = some u := ⟨_, List.getElem?_eq_getElem (by omega)⟩
        obtain ⟨t1, ht1, a1, rfl, ha1⟩ := paired_get h3 hu
        refine ⟨us', oz', a1, t1, h1, hl, ?_, ha1, List.mem_of_getElem? ht1⟩
        rw [atI_get d0 (by omega), ← hu, List.getElem?_eq_getElem]
      obtain ⟨us0, oz0, _, _, hf0, hl0, _⟩ := pick (d := 0) tk16 (Int.le_refl _) (by omega)
      refine ⟨_, rfl, _, rfl, _, rfl, tp, _, rfl, .inr (SqT.fz hf0), p, c, _, _, rfl, hP16, by omega, by omega, by omega, fun d1 H18 da db k18 hP18 => ?_⟩
      have tk18 := tk16.trans (TupK.of k18 hP16)
      obtain ⟨us1, oz1, b1, t1, hf1, hl1, hat1, hb1, ht1⟩ := pick (d := d1) tk18 da (by omega)
      refine ⟨tp, _, d1, _, rfl, rfl, SqT.fz hf1, hat1, b1, _, 0, _, rfl, rfl, SqT.of hb1, rfl, ?_⟩
      refine ⟨_, rfl, _, rfl, _, rfl, tp, _, rfl, .inr (SqT.fz hf1), p, c, _, _, rfl, hP18, by omega, by omega, by omega, fun d2 H19 dc dd k19 hP19 => ?_⟩
      have tk19 := tk18.trans (TupK.of k19 hP18)
      obtain ⟨us2, oz2, b2, t2, hf2, hl2, hat2, hb2, ht2⟩ := pick (d := d2) tk19 dc (by omega)
      refine ⟨tp, _, d2, _, rfl, rfl, SqT.fz hf2, hat2, b2, _, 0, _, rfl, rfl, SqT.of hb2, rfl, _, _, rfl, ?_⟩
      refine ⟨_, rfl, p, c, _, rfl, hP19, by omega, fun w H20 wa wb k20 hP20 => ?_⟩
      refine ⟨_, rfl, _, rfl, _, rfl, szL (show 2 ≤ 1000000 by decide), fun tk htk => ?_⟩
      have x21 := Ext.new (o := .tup [.str t1.1, .str t2.1]) htk
      have hD20 := x21 _ _ (k20 _ _ nst.1 (k19 _ _ nst.1 (k18 _ _ nst.1 hD16)))
      have hL20 := x21 _ _ (k20 _ _ nD22.1 (k19 _ _ nD22.1 (k18 _ _ nD22.1 hL16)))
      have hP21 := hP20.ext x21
      refine ⟨st, _, rfl, DPut.t (k := [.inr t1.1, .inr t2.1]) hD20 upd_same (szLt (by rw [List.length_map]; omega)), ?_⟩
      rw [put_enc]
      have tkd : TupK (upd H20 tk (.tup [.str t1.1, .str t2.1])) (upd (upd H20 tk (.tup [.str t1.1, .str t2.1])) st (.dT ((putE es t1.1 t2.1 w).map encE))) := ⟨fun b xs e => by rw [upd_ne (ne_of e hD20 (by intro z; cases z))]; exact e, fun b o u e => by rw [upd_ne (ne_of e hD20 (by intro z; cases z))]; exact e⟩
      refine ⟨_, _, _, putE es t1.1 t2.1 w, rfl, upd_same, ?_, putE_keys _ _ _ _ hnd, putE_all hok ⟨(hOk t1 ht1).1, (hOk t2 ht2).1, wa, wb⟩, ?_, ?_, ?_, ?_⟩
      · have := putE_len es t1.1 t2.1 w
        omega
      · rw [upd_ne (ne_of hL20 hD20 (by intro z; cases z))]
        exact hL20
      · exact ((tk19.trans (TupK.of k20 hP19)).trans (TupK.ext x21)).trans tkd
      · have hst0 : H st = none := none_of (kp10.trans k1022) nst.1 hst
        exact ((((k16.trans k18).trans k19).trans k20).trans (Kp.ext x21)).put hst0
      · exact (hP21.put nst.1 nst.2).mono (by omega)
    · obtain ⟨y6, y9, y10, es, rfl, hD16, hel, hnd, hok, hL16, tk16, k16, hP16⟩ := hv
      have hes12 : es.length ≤ 12 := by omega
      -- piles
      refine ⟨_, rfl, st, _, rfl, .inl hD16, fun bs hkeys => ?_⟩
      obtain ⟨bes, hb1, hb2, hb3⟩ := keys_zip hkeys
      refine ⟨_, fun x => x.1, fun x => .tuple [.str x.2.1, .str x.2.2.1], bes, hb1.symm, fun x hx => ⟨.tup (SqT.of (hb3 x hx)) (.cons (.str _) (.cons (.str _) .nil)), by simp [PyData.depth, PyData.depthAll]⟩, ?_, .inl ?_, fun ls hls2 => ?_⟩
      · intro d1 h1 d2 h2
        obtain ⟨x1, _, rfl⟩ := List.mem_map.mp h1
        obtain ⟨x2, _, rfl⟩ := List.mem_map.mp h2
        simp [PySem.W.alike, PySem.W.alikeAll]
      · intro d1 h1
        obtain ⟨x1, _, rfl⟩ := List.mem_map.mp h1
        exact ⟨_, _, rfl⟩
      · obtain ⟨S, hS⟩ : ∃ S, S = bes.mergeSort (PySem.W.dataLe false fun x => PyData.tuple [.str x.2.1, .str x.2.2.1]) := ⟨_, rfl⟩
        rw [← hS]
        have hperm : S.Perm bes := hS ▸ List.mergeSort_perm _ _
        have hSl : S.length ≤ 12 := by
          rw [hperm.length_eq]
          have := congrArg List.length hb2
          rw [List.length_map] at this
          omega
        have e17 := Ext.new (o := .lst (S.map fun x => V.ref x.1)) hls2
        refine ⟨ls, rfl, ⟨_, SqL.of upd_same⟩, fun D hD => lc_list (K := K) (xs := S.map fun x => V.ref x.1) (fun i H18 => ∃ (vs : List V) (stk : List (Str × Str × Int)), H18 D = some (.lst vs) ∧ Paired (StackAt H18) vs stk ∧ stk = (S.take i).map (·.2) ∧ Ext (upd H16 ls (.lst (S.map fun x => V.ref x.1))) H18)
          ⟨[], [], upd_same, .nil, rfl, Ext.new hD⟩ (fun i H18 _ ⟨_, _, _, _, _, k⟩ => SqL.of (k _ _ upd_same)) (fun i u H18 hi hv => ?_) (fun H18 hv => ?_)⟩
        · obtain ⟨vs, stk, hL18, hPr18, hstk, k18⟩ := hv
          rw [List.getElem?_map] at hi
          obtain ⟨x, hx, rfl⟩ : ∃ x, S[i]? = some x ∧ u = V.ref x.1 := by
            cases e : S[i]? with
            | none => rw [e] at hi; cases hi
            | some x => rw [e] at hi; exact ⟨x, rfl, (Option.some.inj hi).symm⟩
          have hxm : x ∈ bes := hperm.mem_iff.mp (List.mem_of_getElem? hx)
          have hxe : x.2 ∈ es := hb2 ▸ List.mem_map.mpr ⟨x, hxm, rfl⟩
          have hb18 := k18 _ _ (e17 _ _ (hb3 x hxm))
          have hD18 := k18 _ _ (e17 _ _ hD16)
          have hdg : DGet H18 st (.ref x.1) (some (.int x.2.2.2)) := val_enc hnd hxe ▸ DGet.t (k := [.inr x.2.1, .inr x.2.2.1]) hD18 hb18
          refine ⟨rfl, _, rfl, _, rfl, _, rfl, st, _, rfl, hdg, szL (show 1 ≤ 1000000 by decide), fun t1 ht1 => ?_⟩
          have e19 := Ext.new (o := .tup [.int x.2.2.2]) ht1
          refine ⟨x.1, t1, _, _, rfl, rfl, SqT.of (e19 _ _ hb18), SqT.of upd_same, (fun z => by cases z), szL (show 2 + 1 ≤ 1000000 by decide), (fun z => by cases z), fun _ t2 ht2 => ?_⟩
          have e20 := e19.trans (Ext.new (o := .tup [.str x.2.1, .str x.2.2.1, .int x.2.2.2]) ht2)
          have hL20 := e20 _ _ hL18
          have nDt : t2 ≠ D := by
            intro z
            rw [← z] at hL20
            rw [upd_same] at hL20
            cases hL20
          have hvl : vs.length ≤ 12 := by
            rw [paired_len hPr18, hstk, List.length_map, List.length_take]
            omega
          refine ⟨vs, hL20, szLt (by omega), vs ++ [.ref t2], stk ++ [x.2], upd_same, ?_, ?_, (k18.trans e20).put hD⟩
          · refine (paired_imp (fun _ _ => StackAt.mono _ _ _ _ ((TupK.ext e20).trans (TupK.lst hL20))) hPr18).snoc ⟨t2, rfl, ?_⟩
            rw [upd_ne nDt, upd_same]
          · rw [List.take_add_one, hx, List.map_append, hstk]
            rfl
        · obtain ⟨vs, stk, hL18, hPr18, hstk, k18⟩ := hv
          rw [List.length_map, List.take_of_length_le (Nat.le_refl _)] at hstk
          have hkeys2 : (stk.map fun x => (x.1, x.2.1)).Nodup := by
            rw [hstk, List.map_map]
            have : (S.map ((fun x : Str × Str × Int => (x.1, x.2.1)) ∘ fun x : Addr × Str × Str × Int => x.2)).Perm (es.map fun x => (x.1, x.2.1)) := by
              rw [← hb2, List.map_map]
              exact hperm.map _
            exact this.nodup_iff.mpr hnd
          have hstE : ∀ x ∈ stk, x ∈ es := fun x hx => by
            rw [hstk] at hx
            obtain ⟨y, hy, rfl⟩ := List.mem_map.mp hx
            exact hb2 ▸ List.mem_map.mpr ⟨y, hperm.mem_iff.mp hy, rfl⟩
          have hst12 : stk.length ≤ 12 := by
            rw [hstk, List.length_map]
            exact hSl
          refine ⟨D, _, rfl, .inl ⟨SqL.of hL18, fun tr htr => ?_⟩⟩
          have e21 := (e17.trans k18).trans (Ext.new (o := .tup vs) htr)
          have hTr : TupOf StackAt (upd H18 tr (.tup vs)) (.ref tr) stk := ⟨tr, vs, rfl, upd_same, paired_imp (fun _ _ => StackAt.mono _ _ _ _ (TupK.new htr)) hPr18⟩
          have hL21 := e21 _ _ hL16
          have hP21 := hP16.ext e21
          have k21 := k16.trans (Kp.ext e21)
          have tk21 := tk16.trans (TupK.ext e21)
          generalize upd H18 tr (.tup vs) = H21 at hTr hP21 k21 tk21 hL21 ⊢
          -- the span, and the whole
          refine ⟨_, rfl, _, rfl, _, rfl, p, c, 4, _, rfl, hP21, by omega, by decide, by decide, fun r4 H23 rg rh k23 hP23 => ⟨szL (show 3 ≤ 1000000 by decide), fun l24 hl24 => ?_⟩⟩
          refine ⟨_, rfl, p, c, 3, _, rfl, hP23.new hl24, by omega, by decide, by decide, fun r5 H25 ri rj k25 hP25 => ?_⟩
          obtain ⟨z, hz, hatz⟩ := atI_ints (ns := [0, 1, r4]) ri rj
          have hz2 : 0 ≤ z ∧ z ≤ 3 := by
            simp only [List.mem_cons, List.not_mem_nil, or_false] at hz
            omega
          have k2125 : Kp p H21 H25 := (k23.trans (Kp.new hl24)).trans k25
          have hL25 := k2125 _ _ nD22.1 hL21
          refine ⟨l24, _, r5, _, rfl, rfl, SqL.of (k25 _ _ (hP23.ne hl24).1 upd_same), hatz, _, rfl, D22, _, rfl, .inl ⟨SqL.of hL25, fun tl htl => ?_⟩⟩
          have x23 := Ext.new (o := .tup (ns.map V.int)) htl
          have hTl : (upd H25 tl (.tup (ns.map V.int))) tl = some (.tup (ns.map V.int)) := upd_same
          refine ⟨_, rfl, szL (show 5 ≤ 1000000 by decide), fun tR htR => ?_⟩
          have xR := Ext.new (o := .tup [.str sg, .ref tp, .int z, .ref tl, .ref tr]) htR
          have kR := k2125.trans (Kp.ext (x23.trans xR))
          have tkR : TupK H17 _ := tk21.trans (TupK.of kR hP21)
          exact q _ ⟨sg, prs, z, _, stk⟩ _ ⟨tR, .ref tp, .ref tl, .ref tr, rfl, upd_same, FrzOf.mono PairAt.mono _ _ _ _ tkR hTp17, ⟨tl, _, rfl, xR _ _ hTl, paired_ints ns⟩, TupOf.mono StackAt.mono _ _ _ _ (TupK.of kR hP21) hTr⟩
            ⟨show sg.length ≤ 6 by omega, show 1 ≤ sg.length by omega, hsm, hprl, hOk, hz2.1, hz2.2, hns, hnb, hst12, fun x hx => hok x (hstE x hx), hkeys2, hpn⟩ ⟨fun y hy => (hpb y hy).2.1, hsz⟩ (k21.trans kR) ((hP25.ext (x23.trans xR)).mono (by omega))
abbrev CRules (P : Program) (w : World) (K : PySem.W.Frag) (mg : Str → Option Value) (base : Heap) : Prop := Ca P w K mg base 4 "_law_code" ["_law_pen_here"] spRules
end
end Pf


namespace Pf
open PySem PySem.Spec PyProof.Rows L2
def sgn (x : Str) (i : Int) : Str := ⟨#[x.cps.toList.getD i.toNat 0]⟩
theorem sgn_at {x : Str} {i : Int} (h0 : 0 ≤ i) (h1 : i < x.length) : atI x.cps.toList i = some (x.cps.toList.getD i.toNat 0) := by
  have h2 : i < x.cps.toList.length := by
    rw [Array.length_toList]
    exact h1
  rw [atI_get h0 h2, List.getD_eq_getElem?_getD, List.getElem?_eq_getElem (by omega)]
  rfl
def tx2 (x : Str) (p : Int × Int) : Str := sgn x p.1 ++ sgn x p.2
def pwV : List (Str × Int) → Str → V
  | [], _ => .non
  | (t, x) :: r, b => if t = b then .int x else pwV r b
theorem pwV_at {prs : List (Str × Int)} {i : Nat} {t : Str} {x : Int} (h : prs[i]? = some (t, x)) (b : Str) : pwV (prs.drop i) b = if t = b then .int x else pwV (prs.drop (i + 1)) b := by
  obtain ⟨hi, e⟩ := List.getElem?_eq_some_iff.mp h
  rw [List.drop_eq_getElem_cons hi, e, pwV]
theorem pwV_end {prs : List (Str × Int)} {i : Nat} (h : prs.length ≤ i) (b : Str) : pwV (prs.drop i) b = .non := by
  rw [List.drop_eq_nil_of_le h, pwV]
theorem pwV_is : ∀ (prs : List (Str × Int)) (b : Str), (!decide (pwV prs b = .non)) = decide (b ∈ prs.map (·.1))
  | [], _ => rfl
  | (t, x) :: r, b => by
    rw [pwV, List.map_cons]
    by_cases e : t = b
    · rw [if_pos e, decide_eq_false (fun z => by cases z), decide_eq_true (by rw [e]; exact List.mem_cons_self ..)]
      rfl
    · rw [if_neg e, pwV_is r b]
      refine decide_eq_decide.mpr ⟨fun h => List.mem_cons_of_mem _ h, fun h => ?_⟩
      rcases List.mem_cons.mp h with h | h
      · exact absurd h.symm e
      · exact h
def mayC (r : Rl) (x : Str) (i j : Int) : Bool := decide (r.span < j - i) && decide (tx2 x (i, j) ∈ r.prs.map (·.1))
def encP (x : Str × Int) : Key × V := (.inr x.1, .int x.2)
theorem val_isSome : ∀ (prs : List (Str × Int)) (b : Str), (valV (prs.map encP) (.inr b)).isSome = decide (b ∈ prs.map (·.1))
  | [], _ => rfl
  | (t, x) :: r, b => by
    rw [List.map_cons, List.map_cons]
    by_cases e : t = b
    · rw [valV_pos (show (encP (t, x)).1 = Sum.inr b by rw [e]; rfl), decide_eq_true (by rw [e]; exact List.mem_cons_self ..)]
      rfl
    · rw [valV_neg (show ¬ (encP (t, x)).1 = Sum.inr b from fun z => e (Sum.inr.inj z)), val_isSome r b]
      refine decide_eq_decide.mpr ⟨fun h => List.mem_cons_of_mem _ h, fun h => ?_⟩
      rcases List.mem_cons.mp h with h | h
      · exact absurd h.symm e
      · exact h
theorem merge_nd : ∀ (kvs acc : List (Key × V)), ((acc ++ kvs).map (·.1)).Nodup → mergeK acc kvs = acc ++ kvs
  | [], acc, _ => by rw [List.append_nil]; rfl
  | (k, v) :: r, acc, h => by
    have hno : (acc.any fun kv => decide (kv.1 = k)) = false := by
      rw [List.any_eq_false]
      intro kv hkv e
      have e := of_decide_eq_true e
      rw [List.map_append, List.map_cons] at h
      have := (List.nodup_append.mp h).2.2 kv.1 (List.mem_map.mpr ⟨kv, hkv, rfl⟩) k (List.mem_cons_self ..)
      exact this e
    have e1 : putK acc k v = acc ++ [(k, v)] := by
      unfold putK
      rw [hno, if_neg Bool.false_ne_true]
    show mergeK (putK acc k v) r = _
    rw [e1, merge_nd r (acc ++ [(k, v)]) (by rw [List.append_assoc]; exact h), List.append_assoc]
    rfl
theorem merge_prs {prs : List (Str × Int)} (h : (prs.map (·.1)).Nodup) : mergeK [] (prs.map encP) = prs.map encP := by
  rw [merge_nd, List.nil_append]
  rw [List.nil_append, List.map_map]
  have e : ((fun x : Key × V => x.1) ∘ encP) = (fun x : Str × Int => (Sum.inr x.1 : Key)) := rfl
  rw [e]
  have e2 : (prs.map fun x : Str × Int => (Sum.inr x.1 : Key)) = (prs.map (·.1)).map Sum.inr := by
    rw [List.map_map]
    rfl
  rw [e2]
  exact List.Pairwise.map _ (fun a b z y => z (Sum.inr.inj y)) h
section
variable {P : Program} {w : World} {K : PySem.W.Frag} {mg : Str → Option Value} {base : Heap}
abbrev s_pair_worth : Stmt := topS 5
theorem sc_pair_worth : FnScope ["rules", "both", "text", "worth"] ["rules", "both"] (defScope s_pair_worth) :=
  ⟨rfl, rfl, rfl, by decide +kernel, rfl, by decide +kernel, by decide +kernel⟩
def spPW : Sp := fun vs H Q _ => ∃ (v : V) (r : Rl) (b : Str), vs = [v, .str b] ∧ RulesW H v r ∧ Q (pwV r.prs b) H
theorem ok_pw {f : Addr} {fd : FuncData} {k : Nat} (F : Fun K "pair_worth" "pair_worth" s_pair_worth f fd) : FnOk P w K mg base CX0 (k + 1) f fd ["rules", "both"] spPW := by
  refine F.ok sc_pair_worth (fun vs H Q E h => ?_) (fun cdv A outer s H vs Q E hr h => ?_)
  · obtain ⟨v, r, b, rfl, _⟩ := h
    rfl
  · obtain ⟨v, r, b, rfl, ⟨a, vp, vl, vs, rfl, hA, ⟨ap, us, rfl, hp, hR⟩, _, _⟩, q⟩ := h
    refine ⟨_, (pss_cons (ps_for PassesOwn.never rfl (pi_tup (pe_ix (ixT K) (pv 0) pe_int (fun _ _ => rfl))) (pg_tup rfl (pgs_cons (pg_name (i := 2) sc_pair_worth.nd rfl (.inl rfl)) (pgs_cons (pg_name (i := 3) sc_pair_worth.nd rfl (.inl rfl)) pgs_nil))) (pss_one (ps_if (pt_cmpR op_eq (pv 2) (pv 1) (nomark _)) (pss_one (ps_ret (pv 3))) pss_nil)))
      (pss_one (ps_ret pe_non))), ?_⟩
    have hlen := paired_len hR
    refine ⟨_, rfl, a, _, 1, _, rfl, rfl, SqT.of hA, rfl, ap, rfl, ⟨_, SqT.w hp⟩, for_tup (xs := us) (fun i σ H2 => ∃ (y2 y3 : Option V), σ = [some (.ref a), some (.str b), y2, y3] ∧ H2 = H ∧ pwV (r.prs.drop i) b = pwV r.prs b)
      ⟨none, none, rfl, rfl, rfl⟩ (fun i σ H2 _ ⟨y2, y3, _, e, _⟩ => SqT.w (by rw [e]; exact hp)) (fun i u σ H2 hi hv => ?_) (fun σ H2 hv => ?_)⟩
    · obtain ⟨y2, y3, rfl, rfl, hd⟩ := hv
      obtain ⟨⟨t, x⟩, hx, a1, rfl, ha1⟩ := paired_get hR hi
      rw [pwV_at hx] at hd
      refine ⟨a1, _, rfl, SqT.of ha1, rfl, _, _, rfl, _, _, rfl, rfl, ?_⟩
      refine ⟨_, rfl, _, rfl, rfl, _, rfl, ite2 (fun e => ?_) (fun e => ?_)⟩
      · have e2 : t = b := V.str.inj (of_decide_eq_true e)
        rw [if_pos e2] at hd
        refine ⟨_, rfl, ?_⟩
        show Q (.int x) _
        rw [hd]
        exact q
      · have e2 : ¬ t = b := fun z => e (decide_eq_true (congrArg V.str z))
        rw [if_neg e2] at hd
        exact ⟨_, _, rfl, rfl, hd⟩
    · obtain ⟨y2, y3, rfl, rfl, hd⟩ := hv
      rw [pwV_end (by omega)] at hd
      show Q .non _
      rw [hd]
      exact q
abbrev CPW (P : Program) (w : World) (K : PySem.W.Frag) (mg : Str → Option Value) (base : Heap) : Prop := Ca P w K mg base 1 "pair_worth" ["rules", "both"] spPW
abbrev s_text_of : Stmt := topS 8
theorem sc_text_of : FnScope ["string", "pair"] ["string", "pair"] (defScope s_text_of) :=
  ⟨rfl, rfl, rfl, by decide +kernel, rfl, by decide +kernel, by decide +kernel⟩
def spTextOf : Sp := fun vs H Q _ => ∃ (x : Str) (t : Addr) (y : Int × Int), vs = [.str x, .ref t] ∧ H t = some (.tup [.int y.1, .int y.2]) ∧ x.length ≤ 1000 ∧ 0 ≤ y.1 ∧ y.1 < x.length ∧ 0 ≤ y.2 ∧ y.2 < x.length ∧ Q (.str (tx2 x y)) H
theorem ok_text_of {f : Addr} {fd : FuncData} {k : Nat} (F : Fun K "text_of" "text_of" s_text_of f fd) : FnOk P w K mg base CX0 (k + 1) f fd ["string", "pair"] spTextOf := by
  refine F.ok sc_text_of (fun vs H Q E h => ?_) (fun cdv A outer s H vs Q E hr h => ?_)
  · obtain ⟨x, t, y, rfl, _⟩ := h
    rfl
  · obtain ⟨x, t, y, rfl, hT, hx, i0, i1, j0, j1, q⟩ := h
    refine ⟨_, (pss_one (ps_ret (pe_op op_add_str (pe_ix ix_str (pv 0) (pe_ix (ixT K) (pv 1) pe_int (fun _ _ => rfl)) (fun _ _ => rfl)) (pe_ix ix_str (pv 0) (pe_ix (ixT K) (pv 1) pe_int (fun _ _ => rfl)) (fun _ _ => rfl))))), ?_⟩
    refine ⟨_, rfl, _, rfl, t, _, 0, _, rfl, rfl, SqT.of hT, rfl, x, y.1, _, rfl, rfl, szL (by omega), sgn_at i0 i1, ?_⟩
    refine ⟨_, rfl, _, rfl, t, _, 1, _, rfl, rfl, SqT.of hT, rfl, x, y.2, _, rfl, rfl, szL (by omega), sgn_at j0 j1, ?_⟩
    exact ⟨_, _, rfl, rfl, szL (show 1 + 1 ≤ 1000000 by decide), q⟩
abbrev CTx (P : Program) (w : World) (K : PySem.W.Frag) (mg : Str → Option Value) (base : Heap) : Prop := Ca P w K mg base 1 "text_of" ["string", "pair"] spTextOf
abbrev s_may_pair : Stmt := topS 9
theorem sc_may_pair : FnScope ["rules", "string", "i", "j"] ["rules", "string", "i", "j"] (defScope s_may_pair) :=
  ⟨rfl, rfl, rfl, by decide +kernel, rfl, by decide +kernel, by decide +kernel⟩
def spMP : Sp := fun vs H Q _ => ∃ (v : V) (r : Rl) (x : Str) (i j : Int), vs = [v, .str x, .int i, .int j] ∧ RulesW H v r ∧ x.length ≤ 1000 ∧ 0 ≤ i ∧ i < j ∧ j < x.length ∧ ∀ H', Ext H H' → Q (.bl (mayC r x i j)) H'
theorem ok_mp {f : Addr} {fd : FuncData} (F : Fun K "may_pair" "may_pair" s_may_pair f fd) (ctext_of : CTx P w K mg base) (cpair_worth : CPW P w K mg base) (mlen : mg "len" = none) : FnOk P w K mg base CX0 2 f fd ["rules", "string", "i", "j"] spMP := by
  refine F.ok sc_may_pair (fun vs H Q E h => ?_) (fun cdv A outer s H vs Q E hr h => ?_)
  · obtain ⟨v, r, x, i, j, rfl, _⟩ := h
    rfl
  · obtain ⟨v, r, x, i, j, rfl, hR, hx, e1, e2, e3, q⟩ := h
    obtain ⟨a, vp, vl, vs, rfl, hA, hp, hl, hs⟩ := id hR
    refine ⟨_, (pss_cons (ps_if (pt_not (pt_chain3 op_le op_lt op_lt pe_int (pv 2) (pv 3) (pe_callB call_len_str (by rfl) mlen (by decide +kernel) (pa_cons (pv 1) pa_nil)))) (pss_one (ps_ret pe_bl)) pss_nil)
      (pss_cons (ps_if (pt_cmpR op_lt (pe_op op_sub (pe_op op_sub (pv 3) (pv 2)) pe_int) (pe_ix (ixT K) (pv 0) pe_int (fun _ _ => rfl)) (nomark _)) (pss_one (ps_ret pe_bl)) pss_nil)
      (pss_one (ps_ret (pe_cmpR op_notN (pe_ca cpair_worth (hr.mono (by decide)) (by rfl) (pa_cons (pv 0) (pa_cons (pe_ca ctext_of (hr.mono (by decide)) (by rfl) (pa_cons (pv 1) (pa_cons (pe_tup (pa_cons (pv 2) (pa_cons (pv 3) pa_nil))) pa_nil))) pa_nil))) pe_non (nomark _)))))), ?_⟩
    refine ⟨_, rfl, 0, i, rfl, rfl, _, rfl, ?_⟩
    rw [decide_eq_true e1]
    refine iteT ⟨_, rfl, i, j, rfl, rfl, _, rfl, ?_⟩
    rw [decide_eq_true e2]
    refine iteT ⟨_, rfl, x, rfl, szL (by omega), _, _, rfl, rfl, _, rfl, ?_⟩
    rw [decide_eq_true e3]
    refine iteF ⟨_, rfl, _, rfl, _, _, rfl, rfl, _, 1, rfl, rfl, _, rfl, a, _, 2, _, rfl, rfl, SqT.of hA, rfl, _, _, rfl, rfl, _, rfl, ite2 (fun e4 => ?_) (fun e4 => ?_)⟩
    · have e4 : j - i - 1 < r.span := of_decide_eq_true e4
      have e : mayC r x i j = false := by
        unfold mayC
        rw [decide_eq_false (show ¬ r.span < j - i by omega), Bool.false_and]
      have := q H Ext.refl
      rw [e] at this
      exact this
    · have e4 : ¬ j - i - 1 < r.span := fun z => e4 (decide_eq_true z)
      refine ⟨_, rfl, _, rfl, _, rfl, _, rfl, szL (show 2 ≤ 1000000 by decide), fun t ht => ?_⟩
      refine ⟨x, t, (i, j), rfl, upd_same, hx, e1, (show i < x.length by omega), (show 0 ≤ j by omega), e3, ?_⟩
      refine ⟨_, r, _, rfl, RulesW.mono _ _ _ _ (TupK.new ht) hR, rfl, ?_⟩
      have e : mayC r x i j = !decide (pwV r.prs (tx2 x (i, j)) = .non) := by
        unfold mayC
        rw [decide_eq_true (show r.span < j - i by omega), Bool.true_and, pwV_is]
      have := q _ (Ext.new (o := .tup [.int i, .int j]) ht)
      rw [e] at this
      exact this
abbrev CMP (P : Program) (w : World) (K : PySem.W.Frag) (mg : Str → Option Value) (base : Heap) : Prop := Ca P w K mg base 2 "may_pair" ["rules", "string", "i", "j"] spMP
end
end Pf


namespace Pf
open PySem PySem.Spec PyProof.Rows L2
theorem cutS_tail (x : Str) {lo : Nat} (h : lo ≤ x.length) : (cutS x (some (lo : Int)) none).cps.toList = (x.cps.toList.drop lo).take (x.length - lo) := by
  show ((x.cps.toList.drop (HT.sIx x.length 0 (some (lo : Int)))).take (HT.sIx x.length x.length none - HT.sIx x.length 0 (some (lo : Int)))).toArray.toList = _
  have e1 : HT.sIx x.length 0 (some (lo : Int)) = min lo x.length := HT.sIx_nat _ _ _
  have e2 : HT.sIx x.length x.length none = x.length := rfl
  rw [e1, e2, Nat.min_eq_left h]
theorem cutS_head (x : Str) {hi : Nat} (h : hi ≤ x.length) : (cutS x none (some (hi : Int))).cps.toList = (x.cps.toList.drop 0).take (hi - 0) := by
  show ((x.cps.toList.drop (HT.sIx x.length 0 none)).take (HT.sIx x.length x.length (some (hi : Int)) - HT.sIx x.length 0 none)).toArray.toList = _
  have e1 : HT.sIx x.length 0 none = 0 := rfl
  have e2 : HT.sIx x.length x.length (some (hi : Int)) = min hi x.length := HT.sIx_nat _ _ _
  rw [e1, e2, Nat.min_eq_left h]
theorem app_len (x y : Str) : (x ++ y).length = x.length + y.length := by
  show (x.cps ++ y.cps).size = x.cps.size + y.cps.size
  exact Array.size_append
theorem sgn_of {L x : Str} (h : Of L x) {i : Int} (h0 : 0 ≤ i) (h1 : i < x.length) : Of L (sgn x i) := fun c hc => by
  have hc : c = x.cps.toList.getD i.toNat 0 := by simpa [sgn] using hc
  have hl : i.toNat < x.cps.toList.length := by
    have : x.cps.toList.length = x.length := Array.length_toList
    omega
  rw [hc, List.getD_eq_getElem?_getD, List.getElem?_eq_getElem hl]
  exact h _ (List.getElem_mem hl)
theorem sgn_len (x : Str) (i : Int) : (sgn x i).length = 1 := rfl
theorem of_self (x : Str) : Of x x := fun c hc => hc
theorem cut_len (x : Str) (lo hi : Option Int) : (cutS x lo hi).length ≤ x.length := L2.cutS_length x lo hi
/-- an if, gone into by several ways -/
theorem if_by {c : TT} {t u : TS} {D : Ends} {σ : L2.St} {H : Hp} (R1 R2 : Hp → Prop) (hc : ∀ Q : Bool → Hp → Prop, (∀ H', R1 H' → Q true H') → (∀ H', R2 H' → Q false H') → c σ H Q) (h1 : ∀ H', R1 H' → t D σ H') (h2 : ∀ H', R2 H' → u D σ H') : tIfS c t u D σ H := hc _ (fun H' r => by rw [if_pos rfl]; exact h1 H' r) fun H' r => by
  rw [if_neg Bool.false_ne_true]
  exact h2 H' r
theorem if_byS {c : TT} {t u : TS} {D : Ends} {σ : L2.St} {H : Hp} (R1 R2 : Hp → Prop) (hc : ∀ Q : Bool → Hp → Prop, (∀ H', R1 H' → Q true H') → (∀ H', R2 H' → Q false H') → c σ H Q) (h1 : ∀ H', R1 H' → t { D with nx := u D } σ H') (h2 : ∀ H', R2 H' → u D σ H') : tSeq (tIfS c t tNext) u D σ H := if_by (D := { D with nx := u D }) R1 R2 hc h1 h2
theorem go_name {i : Nat} {v : V} {σ : L2.St} {H : Hp} {Q : L2.St → Hp → Prop} (h : Q (σ.set i (some v)) H) : gName i v σ H Q := h
theorem go_next {D : Ends} {σ : L2.St} {H : Hp} (h : D.nx σ H) : tNext D σ H := h
section
variable {P : Program} {w : World} {K : PySem.W.Frag} {mg : Str → Option Value} {base : Heap}
abbrev s_law_page : Stmt := topS 33
theorem sc_law_page : FnScope ["_law_pen_here", "_law_code_here", "_law_upto", "_law_letters", "_law_ties_here", "_law_size", "_law_found", "_law_both", "_law_way", "_law_spot", "_law_k"] ["_law_pen_here", "_law_code_here", "_law_upto"] (defScope s_law_page) :=
  ⟨rfl, rfl, rfl, by decide +kernel, rfl, by decide +kernel, by decide +kernel⟩
def spLetters : Sp := fun vs H Q _ => ∃ (p c : Addr) (v : V) (r : Rl) (m : Int) (n : Nat), vs = [.ref p, v, .int m] ∧ RulesAt H v r ∧ RlOk r ∧ OfP r ∧ 0 ≤ m ∧ m ≤ 12 ∧ Pen H p c n ∧ n + 60 < 1000000 ∧
  ∀ (x : Str) H', (x.length : Int) ≤ m → Of r.letters x → Kp p H H' → Pen H' p c (n + 60) → Q (.str x) H'
theorem ok_letters {f : Addr} {fd : FuncData} (F : Fun K "_law_page" "_law_page" s_law_page f fd) (c_law_pick : CDraw P w K mg base) (mrange : mg "range" = none) (mlen : mg "len" = none) : FnOk P w K mg base CX0 2 f fd ["_law_pen_here", "_law_code_here", "_law_upto"] spLetters := by
  refine F.ok sc_law_page (fun vs H Q E h => ?_) (fun cdv A outer s H vs Q E hr h => ?_)
  · obtain ⟨p, c, v, r, m, n, rfl, _⟩ := h
    rfl
  · obtain ⟨p, c, v, r, m, n, rfl, hR, ok, ofp, m0, m12, hP, hn, q⟩ := h
    obtain ⟨a, vp, vl, vs, rfl, hA, ⟨ap, oz, pus, rfl, hp, hoz, hRp⟩, hvl, hvs⟩ := id hR
    refine ⟨_, (pss_cons (ps_asg (pe_slice (slE K) (pv 1) po_none (po_some pe_int)) (pg_tup rfl (pgs_cons (pg_name (i := 3) sc_law_page.nd rfl (.inr rfl)) (pgs_cons (pg_name (i := 4) sc_law_page.nd rfl (.inl rfl)) pgs_nil))))
      (pss_cons (ps_set (i := 5) sc_law_page.nd rfl (.inl rfl) (pe_ix (ixL K) (pe_lst (pa_cons (pe_ca c_law_pick (hr.mono (by decide)) (by rfl) (pa_cons (pv 0) (pa_cons (pe_op op_add (pv 2) pe_int) pa_nil))) (pa_cons (pv 2) pa_nil))) (pe_ca c_law_pick (hr.mono (by decide)) (by rfl) (pa_cons (pv 0) (pa_cons pe_int pa_nil))) (fun _ _ => rfl)))
      (pss_cons (ps_if (PW.pt (pw_or (pt_cmpR (eqD K hr.units) (pv 4) (pe_tup pa_nil) (nomark _)) (pw_or1 (pt_cmpR op_eq (pe_ca c_law_pick (hr.mono (by decide)) (by rfl) (pa_cons (pv 0) (pa_cons pe_int pa_nil))) pe_int (nomark _))))) (pss_one (ps_ret (pe_join pe_str (pe_lc (own := [("_law_k", 10)]) (g := gName 10) (by rfl) sc_law_page.nd (pi_range1 (by rfl) mrange (pa_cons (pv 5) pa_nil)) (blkOk_by (own := [("_law_k", 10)]) (N := ["_law_pen_here", "_law_code_here", "_law_upto", "_law_letters", "_law_ties_here", "_law_size", "_law_found", "_law_both", "_law_way", "_law_spot", "_law_k"]) (sc := defScope s_law_page) (by decide +kernel)) (fun _ _ _ _ _ => (pg_name (i := 10) sc_law_page.nd rfl (.inl rfl))) (fun _ _ _ _ _ => pts_nil) (fun _ _ _ _ _ => (pe_ix ix_str (pv 3) (pe_ca c_law_pick (hr.mono (by decide)) (by rfl) (pa_cons (pv 0) (pa_cons (pe_callB call_len_str (by rfl) mlen (by decide +kernel) (pa_cons (pv 3) pa_nil)) pa_nil))) (fun _ _ => rfl))))))) pss_nil)
      (pss_cons (ps_set (i := 6) sc_law_page.nd rfl (.inl rfl) pe_str)
      (pss_cons (ps_while PassesOwn.never (pt_cmpR op_lt (pe_op op_add (pe_callB call_len_str (by rfl) mlen (by decide +kernel) (pa_cons (pv 6) pa_nil)) pe_int) (pv 5) (nomark _)) (pss_cons (ps_set (i := 7) sc_law_page.nd rfl (.inl rfl) (pe_ix (ixT K) (pe_ix (ixT K) (pv 4) (pe_ca c_law_pick (hr.mono (by decide)) (by rfl) (pa_cons (pv 0) (pa_cons (pe_callB (lenQ K) (by rfl) mlen (by decide +kernel) (pa_cons (pv 4) pa_nil)) pa_nil))) (fun _ _ => rfl)) pe_int (fun _ _ => rfl)))
      (pss_cons (ps_set (i := 8) sc_law_page.nd rfl (.inl rfl) (pe_ca c_law_pick (hr.mono (by decide)) (by rfl) (pa_cons (pv 0) (pa_cons pe_int pa_nil))))
      (pss_cons (ps_set (i := 6) sc_law_page.nd rfl (.inl rfl) (pe_ix (ixL K) (pe_lst (pa_cons (pe_op op_add_str (pe_op op_add_str (pe_ix ix_str (pv 7) pe_int (fun _ _ => rfl)) (pv 6)) (pe_ix ix_str (pv 7) pe_int (fun _ _ => rfl))) (pa_cons (pe_op op_add_str (pv 6) (pv 7)) (pa_cons (pe_op op_add_str (pv 7) (pv 6)) (pa_cons (pe_op op_add_str (pe_op op_add_str (pe_ix ix_str (pv 7) pe_int (fun _ _ => rfl)) (pv 6)) (pe_ix ix_str (pv 7) pe_int (fun _ _ => rfl))) pa_nil))))) (pv 8) (fun _ _ => rfl)))
      (pss_one (ps_if (PW.pt (pw_and (pt_cmpR op_gt (pv 8) pe_int (nomark _)) (pw_and1 (pt_cmpR op_lt (pe_callB call_len_str (by rfl) mlen (by decide +kernel) (pa_cons (pv 6) pa_nil)) (pv 5) (nomark _))))) (pss_cons (ps_set (i := 9) sc_law_page.nd rfl (.inl rfl) (pe_ca c_law_pick (hr.mono (by decide)) (by rfl) (pa_cons (pv 0) (pa_cons (pe_op op_add (pe_callB call_len_str (by rfl) mlen (by decide +kernel) (pa_cons (pv 6) pa_nil)) pe_int) pa_nil))))
      (pss_one (ps_set (i := 6) sc_law_page.nd rfl (.inl rfl) (pe_op op_add_str (pe_op op_add_str (pe_slice sl_str (pv 6) po_none (po_some (pv 9))) (pe_ix ix_str (pv 3) (pe_ca c_law_pick (hr.mono (by decide)) (by rfl) (pa_cons (pv 0) (pa_cons (pe_callB call_len_str (by rfl) mlen (by decide +kernel) (pa_cons (pv 3) pa_nil)) pa_nil))) (fun _ _ => rfl))) (pe_slice sl_str (pv 6) (po_some (pv 9)) po_none))))) pss_nil))))))
      (pss_one (ps_ret (pe_slice sl_str (pv 6) po_none (po_some (pv 5)))))))))), ?_⟩
    have hl6 := ok.let6
    have hl1 := ok.let1
    have hpl := paired_len hRp
    have hp12 := ok.prs
    refine ⟨_, rfl, 2, rfl, a, _, rfl, hA, fun t1 H1 k1 hT1 => ?_⟩
    rw [show cutV [.str r.letters, .ref ap, .int r.span, vl, vs] none (some 2) = [.str r.letters, .ref ap] from cut_to (k := 2)] at hT1
    refine ⟨t1, _, rfl, SqT.of hT1, rfl, _, _, rfl, _, _, rfl, rfl, ?_⟩
    have hP1 := hP.ext k1
    have tk01 := TupK.ext k1
    -- size
    refine ⟨_, rfl, _, rfl, m, 1, rfl, rfl, p, c, _, _, rfl, hP1, by omega, by omega, by omega, fun s1 H2 sa sb k2 hP2 => ⟨_, rfl, szL (show 2 ≤ 1000000 by decide), fun l3 hl3 => ?_⟩⟩
    refine ⟨_, rfl, p, c, 2, _, rfl, hP2.new hl3, by omega, by decide, by decide, fun s2 H3 sc sd k3 hP3 => ?_⟩
    obtain ⟨sz, hsz, hat3⟩ := atI_ints (ns := [s1, m]) sc sd
    have hszb : 0 ≤ sz ∧ sz ≤ m := by
      simp only [List.mem_cons, List.not_mem_nil, or_false] at hsz
      omega
    refine ⟨l3, _, s2, _, rfl, rfl, SqL.of (k3 _ _ (hP2.ne hl3).1 upd_same), hat3, ?_⟩
    have k13 : Kp p H1 H3 := (k2.trans (Kp.new hl3)).trans k3
    have k03 : Kp p H H3 := (Kp.ext k1).trans k13
    have tk03 : TupK H H3 := tk01.trans (TupK.of k13 hP1)
    have hF3 : FrzOf PairAt H3 (.ref ap) r.prs := FrzOf.mono PairAt.mono _ _ _ _ tk03 ⟨ap, oz, pus, rfl, hp, hoz, hRp⟩
    -- drawn letters
    refine go_name ?_
    dsimp only
    refine if_byS (fun H5 => Kp p H3 H5 ∧ Pen H5 p c (n + 3)) (fun H5 => Kp p H3 H5 ∧ Pen H5 p c (n + 3) ∧ r.prs ≠ []) (fun Q q1 q2 => ?_) (fun H5 h5 => ?_) (fun H5 h5 => ?_)
    · refine ⟨_, rfl, Nat.zero_le _, fun t4 ht4 => ?_⟩
      have x4 := Ext.new (o := .tup []) ht4
      have dp4 : Dp K (upd H3 t4 (.tup [])) (.ref ap) (.tuple (r.prs.map dPr)) := by
        obtain ⟨tp', oz', tus', e', htp', _, hTr'⟩ := FrzOf.mono PairAt.mono _ _ _ _ (TupK.ext x4) hF3
        cases e'
        exact .tup (SqT.fz htp') (dpPairs hTr')
      refine ⟨.tuple (r.prs.map dPr), .tuple [], dp4, .tup (SqT.of upd_same) .nil, (sm_prs ok.prs ok.pr).shaped (by decide), by decide, _, rfl, ?_⟩
      have ee : PyData.eqv (.tuple (r.prs.map dPr)) (.tuple []) = r.prs.isEmpty := by
        cases r.prs with
        | nil => simp [PyData.eqv, PyData.eqvAll]
        | cons y l => simp [PyData.eqv, PyData.eqvAll]
      rw [ee]
      refine ite2 (fun e => ?_) (fun e => ?_)
      · exact q1 _ ⟨Kp.ext x4, (hP3.ext x4).mono (by omega)⟩
      · have hne : r.prs ≠ [] := fun z => e (by rw [z]; rfl)
        refine ⟨_, rfl, p, c, 3, _, rfl, hP3.ext x4, by omega, by decide, by decide, fun s3 H5 se sf k5 hP5 => ⟨rfl, _, rfl, ?_⟩⟩
        cases hb : decide (V.int s3 = V.int 0) with
        | true => exact q1 _ ⟨(Kp.ext x4).trans k5, hP5⟩
        | false => exact q2 _ ⟨(Kp.ext x4).trans k5, hP5, hne⟩
    · obtain ⟨k5, hP5⟩ := h5
      refine ⟨⟨_, rfl⟩, _, rfl, sz, rfl, by omega, by omega, fun D hD => lc_range (lo := 0) (n := sz.toNat) (fun i H4 => ∃ ys : List Str, ys.length = i ∧ (∀ y ∈ ys, y.length = 1 ∧ Of r.letters y) ∧ H4 D = some (.lst (ys.map V.str)) ∧ Kp p H5 H4 ∧ Pen H4 p c (n + 3 + i)) ⟨[], rfl, (fun y h => by cases h), upd_same, Kp.new hD, (hP5.new hD).mono (by omega)⟩ (fun i H4 hi hv => ?_) (fun H4 hv => ?_)⟩
      · obtain ⟨ys, hyl, hyo, hL4, k4, hP4⟩ := hv
        refine ⟨rfl, _, rfl, _, rfl, _, rfl, r.letters, rfl, szL (by omega), p, c, (r.letters.length : Int), _, rfl, hP4, by omega, by omega, by omega, fun r5 H6 r5a r5b k6 hP6 => ?_⟩
        obtain ⟨ch, hch, hat5⟩ := atI_mem (xs := r.letters.cps.toList) r5a (by rw [Array.length_toList]; exact r5b)
        have nD := hP5.ne hD
        refine ⟨r.letters, r5, ch, rfl, rfl, szL (by omega), hat5, _, k6 _ _ nD.1 hL4, szLt ?_, ys ++ [⟨#[ch]⟩], ?_, fun y hy => ?_, ?_, (k4.trans k6).put hD, (hP6.put nD.1 nD.2)⟩
        · rw [List.length_map]
          omega
        · rw [List.length_append, List.length_singleton]
          omega
        · rcases List.mem_append.mp hy with hy | hy
          · exact hyo y hy
          · rw [List.mem_singleton.mp hy]
            refine ⟨rfl, fun c hc => ?_⟩
            have : c = ch := by simpa using hc
            rw [this]
            exact hch
        · rw [upd_same, List.map_append]
          rfl
      obtain ⟨ys, hyl, hyo, hL4, k4, hP4⟩ := hv
      refine ⟨"", D, ys, rfl, rfl, .inl (SqL.of hL4), fits_join (k := 20) (m := 1) (by omega) (fun y hy => Nat.le_of_eq (hyo y hy).1) (by decide), ?_⟩
      rw [join_str]
      have hj1 := sjoin_le (m := 1) fun y hy => Nat.le_of_eq (hyo y hy).1
      have hj2 := sjoin_of (L := r.letters) fun y hy => (hyo y hy).2
      exact q _ _ (by omega) hj2 ((k03.trans k5).trans k4) (hP4.mono (by omega))
    · obtain ⟨k5, hP5, hne⟩ := h5
      have hp0 : 0 < r.prs.length := List.length_pos_iff.mpr hne
      have pick : ∀ {H' : Hp} {d : Int}, Kp p H3 H' → 0 ≤ d → d < r.prs.length → ∃ (us : List V) (oz : Obj) (a1 : Addr) (t1 : Str × Int), H' ap = some (.frz oz (.tup us)) ∧ us.length = r.prs.length ∧ atI us d = some (.ref a1) ∧ H' a1 = some (.tup [.str t1.1, .int t1.2]) ∧ t1 ∈ r.prs := fun {H' d} k d0 d1 => by
        obtain ⟨tp', oz', us', e', h1, h2, h3⟩ := FrzOf.mono PairAt.mono _ _ _ _ (TupK.of k hP3) hF3
        cases e'
        have hl := paired_len h3
        obtain ⟨u, hu⟩ : ∃ u, us'[d.toNat]? = some u := ⟨_, List.getElem?_eq_getElem (by omega)⟩
        obtain ⟨t1, ht1, a1, rfl, ha1⟩ := paired_get h3 hu
        refine ⟨us', oz', a1, t1, h1, hl, ?_, ha1, List.mem_of_getElem? ht1⟩
        rw [atI_get d0 (by omega), ← hu, List.getElem?_eq_getElem]
      refine ⟨fun mm σ H6 => ∃ (y7 y8 y9 : Option V) (x : Str), σ = [some (.ref p), some (.ref a), some (.int m), some (.str r.letters), some (.ref ap), some (.int sz), some (.str x), y7, y8, y9, none] ∧ mm = 20 - x.length ∧ x.length ≤ 14 ∧ Of r.letters x ∧ Kp p H3 H6 ∧ Pen H6 p c (n + 3 + 2 * x.length),
        ⟨_, none, none, none, "", rfl, rfl, by decide, of_nil _, k5, hP5⟩, fun mm σ H6 hv => ?_⟩
      obtain ⟨y7, y8, y9, x, rfl, rfl, hxl, hxo, k6, hP6⟩ := hv
      refine ⟨_, rfl, x, rfl, szL (by omega), _, 1, rfl, rfl, _, rfl, _, _, rfl, rfl, _, rfl, ite2 (fun e => ?_) (fun e => ?_)⟩
      · have e : (x.length : Int) + 1 < sz := of_decide_eq_true e
        refine ⟨_, fun σ' H' h => h, ?_⟩
        obtain ⟨us0, oz0, _, _, hf0, hl0, _⟩ := pick (d := 0) k6 (Int.le_refl _) (by omega)
        refine ⟨_, rfl, _, rfl, _, rfl, ap, _, rfl, .inr (SqT.fz hf0), p, c, _, _, rfl, hP6, by omega, by omega, by omega, fun d1 H7 da db k7 hP7 => ?_⟩
        have k37 := k6.trans k7
        obtain ⟨us1, oz1, b1, t1, hf1, hl1, hat1, hb1, ht1⟩ := pick (d := d1) k37 da (by omega)
        have two := ok.pr t1 ht1
        have l2 : t1.1.length = 2 := two.1.1
        have of1 := ofp.1 t1 ht1
        refine ⟨ap, _, d1, _, rfl, rfl, SqT.fz hf1, hat1, b1, _, 0, _, rfl, rfl, SqT.of hb1, rfl, ?_⟩
        refine ⟨_, rfl, p, c, 4, _, rfl, hP7, by omega, by decide, by decide, fun wy H8 wa wb k8 hP8 => ?_⟩
        have k38 := k37.trans k8
        have s0 := sgn_at (x := t1.1) (i := 0) (by decide) (by omega)
        have s1' := sgn_at (x := t1.1) (i := 1) (by decide) (by omega)
        have f0 := sgn_of of1 (i := 0) (by decide) (by omega)
        have f1 := sgn_of of1 (i := 1) (by decide) (by omega)
        have e1 : (sgn t1.1 0 ++ x).length = 1 + x.length := app_len _ _
        have e2 : (sgn t1.1 0 ++ x ++ sgn t1.1 1).length = 1 + x.length + 1 := by rw [app_len, e1]; rfl
        have e3 : (x ++ t1.1).length = x.length + 2 := by rw [app_len, l2]
        have e4 : (t1.1 ++ x).length = 2 + x.length := by rw [app_len, l2]
        refine ⟨_, rfl, t1.1, 0, _, rfl, rfl, szL (by omega), s0, _, rfl, _, _, rfl, rfl, szL (show 1 + x.length ≤ 1000000 by omega), _, rfl, t1.1, 1, _, rfl, rfl, szL (by omega), s1', _, _, rfl, rfl, szL (show (sgn t1.1 0 ++ x).length + 1 ≤ 1000000 by omega), ?_⟩
        refine ⟨_, rfl, _, rfl, _, _, rfl, rfl, szL (by omega), _, rfl, _, rfl, _, _, rfl, rfl, szL (by omega), ?_⟩
        refine ⟨_, rfl, t1.1, 0, _, rfl, rfl, szL (by omega), s0, _, rfl, _, _, rfl, rfl, szL (show 1 + x.length ≤ 1000000 by omega), _, rfl, t1.1, 1, _, rfl, rfl, szL (by omega), s1', _, _, rfl, rfl, szL (show (sgn t1.1 0 ++ x).length + 1 ≤ 1000000 by omega), szL (show 4 ≤ 1000000 by decide), fun l9 hl9 => ?_⟩
        obtain ⟨yv, hyv, hat9⟩ := atI_mem (xs := [V.str (sgn t1.1 0 ++ x ++ sgn t1.1 1), .str (x ++ t1.1), .str (t1.1 ++ x), .str (sgn t1.1 0 ++ x ++ sgn t1.1 1)]) wa wb
        obtain ⟨y, rfl, hyl, hyo⟩ : ∃ y : Str, yv = .str y ∧ y.length = x.length + 2 ∧ Of r.letters y := by
          simp only [List.mem_cons, List.not_mem_nil, or_false] at hyv
          rcases hyv with rfl | rfl | rfl | rfl
          · exact ⟨_, rfl, by omega, (f0.app hxo).app f1⟩
          · exact ⟨_, rfl, by omega, hxo.app of1⟩
          · exact ⟨_, rfl, by omega, of1.app hxo⟩
          · exact ⟨_, rfl, by omega, (f0.app hxo).app f1⟩
        refine ⟨_, rfl, l9, _, wy, _, rfl, rfl, SqL.of upd_same, hat9, ?_⟩
        have x9 := Ext.new (o := .lst [V.str (sgn t1.1 0 ++ x ++ sgn t1.1 1), .str (x ++ t1.1), .str (t1.1 ++ x), .str (sgn t1.1 0 ++ x ++ sgn t1.1 1)]) hl9
        have k39 := k38.trans (Kp.ext x9)
        have hP9 := hP8.ext x9
        refine go_name ?_
        refine ⟨_, rfl, _, _, rfl, rfl, _, rfl, ite2 (fun e5 => ?_) (fun e5 => ?_)⟩
        · refine ⟨_, rfl, y, rfl, szL (by omega), _, rfl, _, _, rfl, rfl, _, rfl, ite2 (fun e6 => ?_) (fun e6 => ?_)⟩
          · have e6 : (y.length : Int) < sz := of_decide_eq_true e6
            refine ⟨_, rfl, _, rfl, y, rfl, szL (by omega), _, 1, rfl, rfl, p, c, _, _, rfl, hP9, by omega, by omega, by omega, fun sp H10 spa spb k10 hP10 => ?_⟩
            refine ⟨_, rfl, _, rfl, _, rfl, y, rfl, szL (by omega), ?_⟩
            refine ⟨_, rfl, _, rfl, _, rfl, r.letters, rfl, szL (by omega), p, c, _, _, rfl, hP10, by omega, by omega, by omega, fun gl H11 gla glb k11 hP11 => ?_⟩
            obtain ⟨g, rfl⟩ : ∃ g' : Nat, sp = (g' : Int) := ⟨sp.toNat, by omega⟩
            have h1 := cutS_head y (hi := g) (by omega)
            have h2 := cutS_tail y (lo := g) (by omega)
            have l1' := part_len h1 (by omega)
            have l2' := part_len h2 (by omega)
            have o1 := cutS_of hyo none (some (g : Int))
            have o2 := cutS_of hyo (some (g : Int)) none
            have og := sgn_of (of_self r.letters) gla glb
            have e7 : (cutS y none (some (g : Int)) ++ sgn r.letters gl).length = g + 1 := by rw [app_len, l1']; rfl
            refine ⟨r.letters, gl, _, rfl, rfl, szL (by omega), sgn_at gla glb, _, _, rfl, rfl, szL (show (cutS y none (some (g : Int))).length + 1 ≤ 1000000 by omega), ?_⟩
            refine ⟨_, rfl, _, rfl, _, rfl, y, rfl, szL (by omega), _, _, rfl, rfl, szL (show (cutS y none (some (g : Int)) ++ sgn r.letters gl).length + (cutS y (some (g : Int)) none).length ≤ 1000000 by omega), ?_⟩
            have e8 : (cutS y none (some (g : Int)) ++ sgn r.letters gl ++ cutS y (some (g : Int)) none).length = y.length + 1 := by
              rw [app_len, e7]
              omega
            exact ⟨20 - (y.length + 1), by omega, _, _, _, cutS y none (some (g : Int)) ++ sgn r.letters gl ++ cutS y (some (g : Int)) none, rfl, by rw [e8], by omega, (o1.app og).app o2, (k39.trans k10).trans k11, hP11.mono (by omega)⟩
          · exact ⟨20 - y.length, by omega, _, _, _, y, rfl, rfl, by omega, hyo, k39, hP9.mono (by omega)⟩
        · exact ⟨20 - y.length, by omega, _, _, _, y, rfl, rfl, by omega, hyo, k39, hP9.mono (by omega)⟩
      · refine ⟨_, rfl, _, rfl, _, rfl, x, rfl, szL (by omega), ?_⟩
        have hcl : ((cutS x none (some sz)).length : Int) ≤ m := by
          obtain ⟨z, rfl⟩ : ∃ z : Nat, sz = (z : Int) := ⟨sz.toNat, by omega⟩
          have e1 : HT.sIx x.length x.length (some (z : Int)) = min z x.length := HT.sIx_nat _ _ _
          have e2 : (cutS x none (some (z : Int))).length ≤ z := by
            show (((x.cps.toList.drop (HT.sIx x.length 0 none)).take (HT.sIx x.length x.length (some (z : Int)) - HT.sIx x.length 0 none)).toArray).size ≤ z
            rw [List.size_toArray, List.length_take, e1]
            omega
          omega
        exact q _ _ hcl (cutS_of hxo _ _) (k03.trans k6) (hP6.mono (by omega))
abbrev CLetters (P : Program) (w : World) (K : PySem.W.Frag) (mg : Str → Option Value) (base : Heap) : Prop := Ca P w K mg base 2 "_law_page" ["_law_pen_here", "_law_code_here", "_law_upto"] spLetters
end
end Pf


namespace Pf
open PySem PySem.Spec PyProof.Rows L2
abbrev Fo : Type := List (Int × Int)
/-! ### all foldings of a stretch, one behind another -/
def seg (r : Rl) (x : Str) (W : Nat → Int → List Fo) (n : Nat) (a : Int) (t : Nat) : List Fo :=
  if mayC r x a (a + 1 + t) = true then (W t (a + 1)).flatMap fun one => (W (n - 1 - t) (a + 2 + t)).map fun other => (a, a + 1 + t) :: (one ++ other) else []
def ws (r : Rl) (x : Str) : Nat → Nat → Int → List Fo
  | 0, _, _ => [[]]
  | _ + 1, 0, _ => [[]]
  | f + 1, n + 1, a => ws r x f n (a + 1) ++ (List.range n).flatMap fun t => seg r x (ws r x f) n a t
theorem seg_congr {r : Rl} {x : Str} {W W' : Nat → Int → List Fo} {n : Nat} {a : Int} {t : Nat} (ht : t < n) (h : ∀ m b, m < n → W m b = W' m b) : seg r x W n a t = seg r x W' n a t := by
  unfold seg
  rw [h t _ ht, h (n - 1 - t) _ (by omega)]
theorem flat_congr {α β : Type} {f g : α → List β} {l : List α} (h : ∀ y ∈ l, f y = g y) : l.flatMap f = l.flatMap g := by
  rw [List.flatMap_def, List.flatMap_def, List.map_congr_left h]
theorem ws_fuel (r : Rl) (x : Str) : ∀ (n f g : Nat) (a : Int), n ≤ f → n ≤ g → ws r x f n a = ws r x g n a := by
  intro n
  induction n using Nat.strongRecOn with
  | ind n ih =>
    intro f g a hf hg
    match n, f, g, hf, hg, ih with
    | 0, 0, 0, _, _, _ => rfl
    | 0, 0, g + 1, _, _, _ => rfl
    | 0, f + 1, 0, _, _, _ => rfl
    | 0, f + 1, g + 1, _, _, _ => rfl
    | n + 1, f + 1, g + 1, hf, hg, ih =>
      rw [ws, ws, ih n (by omega) f g (a + 1) (by omega) (by omega)]
      congr 1
      refine flat_congr fun t ht => ?_
      have ht := List.mem_range.mp ht
      exact seg_congr ht fun m b hm => ih m (by omega) f g b (by omega) (by omega)
def WA (r : Rl) (x : Str) (n : Nat) (a : Int) : List Fo := ws r x n n a
theorem WA_zero (r : Rl) (x : Str) (a : Int) : WA r x 0 a = [[]] := rfl
theorem WA_succ (r : Rl) (x : Str) (n : Nat) (a : Int) : WA r x (n + 1) a = WA r x n (a + 1) ++ (List.range n).flatMap fun t => seg r x (WA r x) n a t := by
  unfold WA
  rw [ws]
  congr 1
  refine flat_congr fun t ht => ?_
  have ht := List.mem_range.mp ht
  exact seg_congr ht fun m b hm => ws_fuel r x m n m b (by omega) (Nat.le_refl _)
theorem WA_one (r : Rl) (x : Str) (a : Int) : WA r x 1 a = [[]] := by
  rw [WA_succ, WA_zero]
  rfl
theorem WA_head (r : Rl) (x : Str) : ∀ (n : Nat) (a : Int), ∃ t, WA r x n a = [] :: t
  | 0, _ => ⟨[], rfl⟩
  | n + 1, a => by
    obtain ⟨t, e⟩ := WA_head r x n (a + 1)
    rw [WA_succ, e]
    exact ⟨_, rfl⟩
/-! ### how many, how long -/
def mz : Nat → Nat → Nat
  | 0, _ => 1
  | _ + 1, 0 => 1
  | f + 1, n + 1 => mz f n + ((List.range n).map fun t => mz f t * mz f (n - 1 - t)).sum
theorem sum_le {f g : Nat → Nat} : ∀ {l : List Nat}, (∀ t ∈ l, f t ≤ g t) → (l.map f).sum ≤ (l.map g).sum
  | [], _ => Nat.le_refl _
  | t :: r, h => by
    have h1 := h t (List.mem_cons_self ..)
    have h2 := sum_le (l := r) fun y hy => h y (List.mem_cons_of_mem _ hy)
    rw [List.map_cons, List.sum_cons, List.map_cons, List.sum_cons]
    omega
theorem flat_len {α β : Type} (f : α → List β) : ∀ l : List α, (l.flatMap f).length = (l.map fun y => (f y).length).sum
  | [] => rfl
  | y :: r => by
    rw [List.flatMap_cons, List.length_append, flat_len f r, List.map_cons, List.sum_cons]
theorem flat_const {α β : Type} {f : α → List β} {c : Nat} : ∀ {l : List α}, (∀ y ∈ l, (f y).length = c) → (l.flatMap f).length = l.length * c
  | [], _ => by rw [List.length_nil, Nat.zero_mul]; rfl
  | y :: r, h => by
    rw [List.flatMap_cons, List.length_append, h y (List.mem_cons_self ..), flat_const fun z hz => h z (List.mem_cons_of_mem _ hz), List.length_cons, Nat.succ_mul]
    omega
theorem seg_len {r : Rl} {x : Str} {W : Nat → Int → List Fo} {n : Nat} {a : Int} {t : Nat} : (seg r x W n a t).length ≤ (W t (a + 1)).length * (W (n - 1 - t) (a + 2 + t)).length := by
  unfold seg
  split
  · rw [flat_const (c := (W (n - 1 - t) (a + 2 + t)).length) fun y _ => List.length_map ..]
    exact Nat.le_refl _
  · exact Nat.zero_le _
theorem ws_len (r : Rl) (x : Str) : ∀ (f n : Nat) (a : Int), (ws r x f n a).length ≤ mz f n
  | 0, _, _ => Nat.le_refl _
  | _ + 1, 0, _ => Nat.le_refl _
  | f + 1, n + 1, a => by
    rw [ws, mz, List.length_append, flat_len]
    refine Nat.add_le_add (ws_len r x f n (a + 1)) (sum_le fun t _ => ?_)
    exact Nat.le_trans seg_len (Nat.mul_le_mul (ws_len r x f t _) (ws_len r x f _ _))
theorem WA_len (r : Rl) (x : Str) {n : Nat} (hn : n ≤ 12) (a : Int) : (WA r x n a).length ≤ 15511 := by
  have h1 := ws_len r x n n a
  have h2 : ∀ m : Nat, m < 13 → mz m m ≤ 15511 := by decide +kernel
  exact Nat.le_trans h1 (h2 n (by omega))
theorem WA_len10 (r : Rl) (x : Str) {n : Nat} (hn : n ≤ 10) (a : Int) : (WA r x n a).length ≤ 2188 := by
  have h1 := ws_len r x n n a
  have h2 : ∀ m : Nat, m < 11 → mz m m ≤ 2188 := by decide +kernel
  exact Nat.le_trans h1 (h2 n (by omega))
/-- each folding of a stretch: places within it, at most half as many pairs -/
theorem WA_in (r : Rl) (x : Str) : ∀ (n : Nat) (a : Int), ∀ q ∈ WA r x n a, (∀ y ∈ q, a ≤ y.1 ∧ y.1 < y.2 ∧ y.2 < a + n) ∧ 2 * q.length ≤ n := by
  intro n
  induction n using Nat.strongRecOn with
  | ind n ih =>
    intro a q hq
    match n, ih, hq with
    | 0, _, hq =>
      rw [WA_zero, List.mem_singleton] at hq
      subst hq
      exact ⟨(fun y hy => by cases hy), Nat.zero_le _⟩
    | n + 1, ih, hq =>
      rw [WA_succ] at hq
      rcases List.mem_append.mp hq with hq | hq
      · have := ih n (by omega) (a + 1) q hq
        exact ⟨fun y hy => by have := this.1 y hy; omega, by omega⟩
      · obtain ⟨t, ht, hq⟩ := List.mem_flatMap.mp hq
        have ht := List.mem_range.mp ht
        unfold seg at hq
        split at hq
        · obtain ⟨one, h1, hq⟩ := List.mem_flatMap.mp hq
          obtain ⟨other, h2, rfl⟩ := List.mem_map.mp hq
          have i1 := ih t (by omega) (a + 1) one h1
          have i2 := ih (n - 1 - t) (by omega) (a + 2 + t) other h2
          refine ⟨fun y hy => ?_, ?_⟩
          · rcases List.mem_cons.mp hy with rfl | hy
            · show a ≤ a ∧ a < a + 1 + t ∧ a + 1 + t < a + (n + 1 : Nat)
              omega
            · rcases List.mem_append.mp hy with hy | hy
              · have := i1.1 y hy
                omega
              · have := i2.1 y hy
                omega
          · rw [List.length_cons, List.length_append]
            omega
        · cases hq
/-! ### foldings in the heap, in a list -/
abbrev FoAt : Hp → V → Fo → Prop := TupOf TwoAt
theorem FoAt.mono : Mono FoAt := TupOf.mono TwoAt.mono
theorem paired_get2 {α β : Type} {R : α → β → Prop} {xs : List α} {ys : List β} {i : Nat} {x : α} (h : Paired R xs ys) (e : xs[i]? = some x) : ∃ y, ys[i]? = some y ∧ R x y := paired_get h e
section
variable {β : Type} {R : Hp → V → β → Prop} {D : Addr} {H H1 H4 : Hp} {bs : List β} {i n : Nat} {v : V} {b : β}
def GenP (R : Hp → V → β → Prop) (D : Addr) (H1 : Hp) (bs : List β) (i : Nat) (H : Hp) : Prop := ∃ vs, H D = some (.lst vs) ∧ Paired (R H) vs (bs.take i) ∧ Ext H1 H
theorem gen_new (hD : H1 D = none) : GenP R D H1 bs 0 (upd H1 D (.lst [])) := ⟨[], upd_same, by rw [List.take_zero]; exact .nil, Ext.new hD⟩
theorem GenP.ext (h : GenP R D H1 bs i H) : Ext H1 H := by
  obtain ⟨_, _, _, k⟩ := h
  exact k
theorem gen_step (m : Mono R) (hD : H1 D = none) (h : GenP R D H1 bs i H) (k : Ext H H4) (hv : R H4 v b) (hb : bs[i]? = some b) (hn : bs.length ≤ 1000000) : ∃ acc, H4 D = some (.lst acc) ∧ acc.length < sizeLine ∧ GenP R D H1 bs (i + 1) (upd H4 D (.lst (acc ++ [v]))) := by
  obtain ⟨vs, hL, hP, k1⟩ := h
  have hl := paired_len hP
  rw [List.length_take] at hl
  have hi := (List.getElem?_eq_some_iff.mp hb).1
  have hL4 := k _ _ hL
  refine ⟨vs, hL4, szLt (by omega), vs ++ [v], upd_same, ?_, (k1.trans k).put hD⟩
  rw [List.take_add_one, hb]
  exact paired_app (paired_imp (fun _ _ => m _ _ _ _ ((TupK.ext k).trans (TupK.lst hL4))) hP) (.cons (m _ _ _ _ (TupK.lst hL4) hv) .nil)
theorem gen_end (h : GenP R D H1 bs n H) (hn : bs.length ≤ n) : ∃ vs, H D = some (.lst vs) ∧ Paired (R H) vs bs ∧ Ext H1 H := by
  obtain ⟨vs, hL, hP, k⟩ := h
  rw [List.take_of_length_le hn] at hP
  exact ⟨vs, hL, hP, k⟩
end
section
variable {P : Program} {w : World} {K : PySem.W.Frag} {mg : Str → Option Value} {base : Heap}
/-! ### sorted -/
def dTwo (x : Int × Int) : PyData := .tuple [.int x.1, .int x.2]
def dFo (q : Fo) : PyData := .tuple (q.map dTwo)
theorem dpTwos {K : PySem.W.Frag} {H : Hp} : ∀ {vs : List V} {ps : List (Int × Int)}, Paired (TwoAt H) vs ps → DpAll K H vs (ps.map dTwo)
  | _, _, .nil => .nil
  | _, _, .cons ⟨_, e, h⟩ t => .cons (e ▸ .tup (SqT.of h) (.cons (.int _) (.cons (.int _) .nil))) (dpTwos t)
theorem dp_fo {K : PySem.W.Frag} {H : Hp} {v : V} {q : Fo} (h : FoAt H v q) : Dp K H v (dFo q) := by
  obtain ⟨a, vs, rfl, h1, h2⟩ := h
  exact .tup (SqT.of h1) (dpTwos h2)
theorem dpFos {K : PySem.W.Frag} {H : Hp} : ∀ {vs : List V} {L : List Fo}, Paired (FoAt H) vs L → DpAll K H vs (L.map dFo)
  | _, _, .nil => .nil
  | _, _, .cons h t => .cons (dp_fo h) (dpFos t)
theorem dep_twos : ∀ q : List (Int × Int), PyData.depthAll (q.map dTwo) ≤ 1
  | [] => by simp [PyData.depthAll]
  | y :: r => by
    rw [List.map_cons, PyData.depthAll]
    have := dep_twos r
    have h1 : (dTwo y).depth = 1 := by simp [dTwo, PyData.depth, PyData.depthAll]
    rw [h1]
    omega
theorem dep_fo (q : Fo) : (dFo q).depth ≤ 2 := by
  unfold dFo
  rw [PyData.depth]
  have := dep_twos q
  omega
theorem alike_twos : ∀ q s : List (Int × Int), PySem.W.alikeAll (q.map dTwo) (s.map dTwo) = true
  | [], _ => by simp [PySem.W.alikeAll]
  | _ :: _, [] => by simp [PySem.W.alikeAll]
  | y :: q, z :: s => by
    rw [List.map_cons, List.map_cons, PySem.W.alikeAll, alike_twos q s]
    simp [dTwo, PySem.W.alike, PySem.W.alikeAll]
def SF (L : List Fo) : List Fo := L.mergeSort (PySem.W.dataLe false dFo)
theorem sort_fos {K : PySem.W.Frag} {H : Hp} {l : Addr} {us : List V} {L : List Fo} {t : List Fo} {Q : VK} (hL : H l = some (.lst us)) (hP : Paired (FoAt H) us L) (h0 : L = [] :: t) (q : ∀ (p : Addr) (ws : List V) (H' : Hp), H p = none → H' p = some (.lst ws) → Paired (FoAt H') ws (SF L) → Ext H H' → Q (.ref p) H') : rSortE K [.ref l] H Q := by
  have hz := paired_len hP
  have e1 : (us.zip L).map (·.1) = us := List.map_fst_zip (by omega)
  have e2 : (us.zip L).map (·.2) = L := List.map_snd_zip (by omega)
  have hall : ∀ b ∈ us.zip L, FoAt H b.1 b.2 := by
    clear e1 e2 hz h0 q hL
    induction hP with
    | nil => intro b hb; cases hb
    | cons r _ ih =>
      intro b hb
      rw [List.zip_cons_cons] at hb
      rcases List.mem_cons.mp hb with rfl | hb
      · exact r
      · exact ih b hb
  have ed : (us.zip L).map (fun b => dFo b.2) = L.map dFo := by
    have := congrArg (List.map dFo) e2
    rw [List.map_map] at this
    exact this
  refine ⟨V × Fo, fun b => b.1, fun b => dFo b.2, l, us.zip L, t.map dFo, rfl, SqL.of (by rw [e1]; exact hL), fun b hb => ⟨dp_fo (hall b hb), Nat.le_trans (dep_fo _) (by decide)⟩, ?_, ?_, ?_, fun p hp => ?_⟩
  · intro d1 h1 d2 h2
    obtain ⟨b1, _, rfl⟩ := List.mem_map.mp h1
    obtain ⟨b2, _, rfl⟩ := List.mem_map.mp h2
    show PySem.W.alike (.tuple _) (.tuple _) = true
    rw [PySem.W.alike]
    exact alike_twos _ _
  · rw [ed, h0]
    rfl
  · intro e he
    obtain ⟨b1, _, rfl⟩ := List.mem_map.mp he
    exact ⟨_, rfl⟩
  · have x1 := Ext.new (o := .lst (((us.zip L).mergeSort (PySem.W.dataLe false fun b => dFo b.2)).map fun b => b.1)) hp
    refine q p _ _ hp upd_same ?_ x1
    have es : ((us.zip L).mergeSort (PySem.W.dataLe false fun b => dFo b.2)).map (·.2) = SF L := by
      have hm := List.map_mergeSort (r := PySem.W.dataLe false fun b : V × Fo => dFo b.2) (s := PySem.W.dataLe false dFo) (f := fun b : V × Fo => b.2) (l := us.zip L) (fun a _ b _ => rfl)
      rw [e2] at hm
      exact hm
    rw [← es]
    have hm : ∀ b ∈ (us.zip L).mergeSort (PySem.W.dataLe false fun b => dFo b.2), FoAt H b.1 b.2 := fun b hb => hall b ((List.mergeSort_perm _ _).mem_iff.mp hb)
    generalize (us.zip L).mergeSort (PySem.W.dataLe false fun b => dFo b.2) = S at hm x1
    have : ∀ {T : List (V × Fo)} {H2 : Hp}, (∀ b ∈ T, FoAt H b.1 b.2) → Ext H H2 → Paired (FoAt H2) (T.map (·.1)) (T.map (·.2)) := by
      intro T H2 hT hx
      induction T with
      | nil => exact .nil
      | cons b T ih => exact .cons (FoAt.mono _ _ _ _ (TupK.ext hx) (hT b (List.mem_cons_self ..))) (ih fun c hc => hT c (List.mem_cons_of_mem _ hc))
    exact this hm x1
end
end Pf


namespace Pf
open PySem PySem.Spec PyProof.Rows L2
/-! ### loops: what is asked -/
def swI : List (Str × Str × Int) → Str → Str → Int
  | [], _, _ => 0
  | (t, u, x) :: r, o, n => if t = o ∧ u = n then x else swI r o n
theorem swI_at {stk : List (Str × Str × Int)} {i : Nat} {t u : Str} {x : Int} (h : stk[i]? = some (t, u, x)) (o n : Str) : swI (stk.drop i) o n = if t = o ∧ u = n then x else swI (stk.drop (i + 1)) o n := by
  obtain ⟨hi, e⟩ := List.getElem?_eq_some_iff.mp h
  rw [List.drop_eq_getElem_cons hi, e, swI]
theorem swI_end {stk : List (Str × Str × Int)} {i : Nat} (h : stk.length ≤ i) (o n : Str) : swI (stk.drop i) o n = 0 := by
  rw [List.drop_eq_nil_of_le h, swI]
theorem swI_bound {stk : List (Str × Str × Int)} (h : ∀ y ∈ stk, -99 ≤ y.2.2 ∧ y.2.2 ≤ 99) (o n : Str) : -99 ≤ swI stk o n ∧ swI stk o n ≤ 99 := by
  induction stk with
  | nil => exact ⟨by show -99 ≤ (0 : Int); decide, by show (0 : Int) ≤ 99; decide⟩
  | cons y r ih =>
    rw [swI]
    by_cases e : y.1 = o ∧ y.2.1 = n
    · rw [if_pos e]
      exact h y (List.mem_cons_self ..)
    · rw [if_neg e]
      exact ih fun z hz => h z (List.mem_cons_of_mem _ hz)
inductive Sep2 : Int → Int → List (Int × Int) → Prop
  | nil {lo hi : Int} : lo ≤ hi → Sep2 lo hi []
  | cons {lo hi p q : Int} {ks : List (Int × Int)} : lo ≤ p → p ≤ q → Sep2 (q + 1) hi ks → Sep2 lo hi ((p, q) :: ks)
def wid (ks : List (Int × Int)) : Int := (ks.map fun y => y.2 - y.1 + 1).sum
theorem Sep2.wid {lo hi : Int} {ks : List (Int × Int)} (h : Sep2 lo hi ks) : 0 ≤ wid ks ∧ wid ks ≤ hi - lo := by
  induction h with
  | nil h => exact ⟨Int.le_refl _, by show (0 : Int) ≤ _; omega⟩
  | @cons lo hi p q ks h1 h2 _ ih =>
    have e : Pf.wid ((p, q) :: ks) = (q - p + 1) + Pf.wid ks := by
      unfold Pf.wid
      rw [List.map_cons, List.sum_cons]
    rw [e]
    omega
def freeI (one : Int × Int) (ks : List (Int × Int)) : Int := one.2 - one.1 - 1 - wid ks
theorem free_sep {one : Int × Int} {ks : List (Int × Int)} (h : Sep2 (one.1 + 1) one.2 ks) : 0 ≤ freeI one ks ∧ freeI one ks ≤ one.2 - one.1 - 1 := by
  have := h.wid
  unfold freeI
  omega
def lo (r : Rl) (i : Nat) : Int := r.loops.getD i 0
def kindN (free : Int) (n : Nat) : Str := if n = 0 then "lone" else if 1 < n then "forked" else if 0 < free then "inner" else "stacked"
def lpW (r : Rl) (x : Str) (one : Int × Int) (ks : List (Int × Int)) : Int :=
  if ks.length = 0 then lo r 6 + freeI one ks * lo r 7 else if 1 < ks.length then lo r 3 + (ks.length * lo r 4 + freeI one ks * lo r 5) else if 0 < freeI one ks then lo r 1 + freeI one ks * lo r 2 else lo r 0 + swI r.stk (tx2 x one) (tx2 x (ks.headD (0, 0)))
def LN : List Str := ["stacked", "inner", "inner free", "forked", "branch", "fork free", "lone", "lone free", "open"]
theorem LN_nd : LN.Nodup := by decide +kernel
def dLo (cs : List Int) : List (Key × V) := (LN.zip cs).map fun x => (.inr x.1, .int x.2)
theorem val_zip : ∀ {ns : List Str} {cs : List Int} {i : Nat} {n : Str} {c : Int}, ns.Nodup → ns[i]? = some n → cs[i]? = some c → valV ((ns.zip cs).map fun x => ((.inr x.1 : Key), V.int x.2)) (.inr n) = some (.int c)
  | [], _, i, _, _, _, h, _ => by simp at h
  | _ :: _, [], i, _, _, _, _, h => by simp at h
  | a :: ns, b :: cs, 0, n, c, _, h, h2 => by
    rw [List.getElem?_cons_zero] at h h2
    cases h
    cases h2
    rw [List.zip_cons_cons, List.map_cons, valV_pos rfl]
  | a :: ns, b :: cs, i + 1, n, c, hn, h, h2 => by
    rw [List.getElem?_cons_succ] at h h2
    have hne : ¬ (Sum.inr a : Key) = Sum.inr n := fun z => by
      have z := Sum.inr.inj z
      rw [z] at hn
      exact (List.nodup_cons.mp hn).1 (List.mem_of_getElem? h)
    rw [List.zip_cons_cons, List.map_cons, valV_neg hne]
    exact val_zip (List.nodup_cons.mp hn).2 h h2
theorem dLo_keys : ∀ {ns : List Str} {cs : List Int}, ns.length = cs.length → ((ns.zip cs).map fun x => ((.inr x.1 : Key), V.int x.2)).map (·.1) = ns.map Sum.inr
  | [], _, _ => rfl
  | _ :: _, [], h => by cases h
  | a :: ns, b :: cs, h => by
    rw [List.zip_cons_cons, List.map_cons, List.map_cons, List.map_cons, dLo_keys (Nat.succ.inj h)]
theorem dLo_merge {cs : List Int} (h : cs.length = 9) : mergeK [] (dLo cs) = dLo cs := by
  rw [merge_nd, List.nil_append]
  rw [List.nil_append]
  unfold dLo
  rw [dLo_keys (by rw [h]; rfl)]
  show (LN.map (Sum.inr : Str → Key)).Nodup
  decide +kernel
theorem get_lo {H : Hp} {d : Addr} {cs : List Int} (h : H d = some (.dK (dLo cs))) (hc : cs.length = 9) {i : Nat} {n : Str} (hn : LN[i]? = some n) : DGet H d (.str n) (some (.int (cs.getD i 0))) := by
  have hi : i < 9 := (List.getElem?_eq_some_iff.mp hn).1
  have e : cs[i]? = some (cs.getD i 0) := by
    rw [List.getD_eq_getElem?_getD, List.getElem?_eq_getElem (by omega)]
    rfl
  have := val_zip (cs := cs) LN_nd hn e
  exact this ▸ DGet.k (k := .inr n) h
theorem dLo_vals : ∀ {ns : List Str} {cs : List Int}, ns.length = cs.length → ((ns.zip cs).map fun x => ((.inr x.1 : Key), V.int x.2)).map (·.2) = cs.map V.int
  | [], [], _ => rfl
  | [], _ :: _, h => by cases h
  | _ :: _, [], h => by cases h
  | a :: ns, b :: cs, h => by
    rw [List.zip_cons_cons, List.map_cons, List.map_cons, List.map_cons, dLo_vals (Nat.succ.inj h)]
theorem dLo_kV : ∀ {ns : List Str} {cs : List Int}, ns.length = cs.length → (((ns.zip cs).map fun x => ((.inr x.1 : Key), V.int x.2)).map fun x => kV x.1) = ns.map V.str
  | [], _, _ => rfl
  | _ :: _, [], h => by cases h
  | a :: ns, b :: cs, h => by
    rw [List.zip_cons_cons, List.map_cons, List.map_cons, List.map_cons, dLo_kV (Nat.succ.inj h)]
    rfl
theorem ints_of {H : Hp} : ∀ {vs : List V} {ns : List Int}, Paired (IntAt H) vs ns → vs = ns.map V.int
  | _, _, .nil => rfl
  | _, _, .cons h t => by
    have h : _ = V.int _ := h
    rw [List.map_cons, ← ints_of t, h]
theorem lo_bound {r : Rl} (ok : RlOk r) {i : Nat} (hi : i < 9) : -99 ≤ lo r i ∧ lo r i ≤ 99 := by
  have h : i < r.loops.length := by
    rw [ok.lo9]
    exact hi
  have e : lo r i = r.loops[i] := by
    unfold lo
    rw [List.getD_eq_getElem?_getD, List.getElem?_eq_getElem h]
    rfl
  rw [e]
  exact ok.lo _ (List.getElem_mem h)
section
variable {P : Program} {w : World} {K : PySem.W.Frag} {mg : Str → Option Value} {base : Heap}
theorem sumI (K : PySem.W.Frag) {X : Cx} (hc : X.calm = true := by rfl) (h : X.K = K := by rfl) : CallR X (.builtin "sum") (rSum K) := h ▸ cr_sum hc
abbrev s_stack_worth : Stmt := topS 6
theorem sc_stack_worth : FnScope ["rules", "outer", "within", "text", "inner", "worth"] ["rules", "outer", "within"] (defScope s_stack_worth) :=
  ⟨rfl, rfl, rfl, by decide +kernel, rfl, by decide +kernel, by decide +kernel⟩
def spSW : Sp := fun vs H Q _ => ∃ (v : V) (r : Rl) (o n : Str), vs = [v, .str o, .str n] ∧ RulesW H v r ∧ Q (.int (swI r.stk o n)) H
theorem ok_sw {f : Addr} {fd : FuncData} {k : Nat} (F : Fun K "stack_worth" "stack_worth" s_stack_worth f fd) : FnOk P w K mg base CX0 (k + 1) f fd ["rules", "outer", "within"] spSW := by
  refine F.ok sc_stack_worth (fun vs H Q E h => ?_) (fun cdv A outer s H vs Q E hr h => ?_)
  · obtain ⟨v, r, o, n, rfl, _⟩ := h
    rfl
  · obtain ⟨v, r, o, n, rfl, ⟨a, vp, vl, vs, rfl, hA, _, _, ⟨as, us, rfl, hp, hR⟩⟩, q⟩ := h
    refine ⟨_, (pss_cons (ps_for PassesOwn.never rfl (pi_tup (pe_ix (ixT K) (pv 0) pe_int (fun _ _ => rfl))) (pg_tup rfl (pgs_cons (pg_name (i := 3) sc_stack_worth.nd rfl (.inl rfl)) (pgs_cons (pg_name (i := 4) sc_stack_worth.nd rfl (.inl rfl)) (pgs_cons (pg_name (i := 5) sc_stack_worth.nd rfl (.inl rfl)) pgs_nil)))) (pss_one (ps_if (PW.pt (pw_and (pt_cmpR op_eq (pv 3) (pv 1) (nomark _)) (pw_and1 (pt_cmpR op_eq (pv 4) (pv 2) (nomark _))))) (pss_one (ps_ret (pv 5))) pss_nil)))
      (pss_one (ps_ret pe_int))), ?_⟩
    have hlen := paired_len hR
    refine ⟨_, rfl, a, _, 4, _, rfl, rfl, SqT.of hA, rfl, as, rfl, ⟨_, SqT.of hp⟩, for_tup (xs := us) (fun i σ H2 => ∃ (y2 y3 y4 : Option V), σ = [some (.ref a), some (.str o), some (.str n), y2, y3, y4] ∧ H2 = H ∧ swI (r.stk.drop i) o n = swI r.stk o n)
      ⟨none, none, none, rfl, rfl, rfl⟩ (fun i σ H2 _ ⟨y2, y3, y4, _, e, _⟩ => SqT.of (by rw [e]; exact hp)) (fun i u σ H2 hi hv => ?_) (fun σ H2 hv => ?_)⟩
    · obtain ⟨y2, y3, y4, rfl, rfl, hd⟩ := hv
      obtain ⟨⟨t, t2, x⟩, hx, a1, rfl, ha1⟩ := paired_get hR hi
      rw [swI_at hx] at hd
      refine ⟨a1, _, rfl, SqT.of ha1, rfl, _, _, rfl, _, _, rfl, _, _, rfl, rfl, ?_⟩
      refine ⟨_, rfl, _, rfl, rfl, _, rfl, ite2 (fun e => ?_) (fun e => ?_)⟩
      · have e2 : t = o := V.str.inj (of_decide_eq_true e)
        refine ⟨_, rfl, _, rfl, rfl, _, rfl, ite2 (fun e3 => ?_) (fun e3 => ?_)⟩
        · have e4 : t2 = n := V.str.inj (of_decide_eq_true e3)
          rw [if_pos ⟨e2, e4⟩] at hd
          refine ⟨_, rfl, ?_⟩
          show Q (.int x) _
          rw [hd]
          exact q
        · have e4 : ¬ (t = o ∧ t2 = n) := fun z => e3 (decide_eq_true (congrArg V.str z.2))
          rw [if_neg e4] at hd
          exact ⟨_, _, _, rfl, rfl, hd⟩
      · have e4 : ¬ (t = o ∧ t2 = n) := fun z => e (decide_eq_true (congrArg V.str z.1))
        rw [if_neg e4] at hd
        exact ⟨_, _, _, rfl, rfl, hd⟩
    · obtain ⟨y2, y3, y4, rfl, rfl, hd⟩ := hv
      rw [swI_end (by omega)] at hd
      show Q (.int 0) _
      rw [hd]
      exact q
abbrev s_loop_worths : Stmt := topS 11
theorem sc_loop_worths : FnScope ["rules"] ["rules"] (defScope s_loop_worths) :=
  ⟨rfl, rfl, rfl, by decide +kernel, rfl, by decide +kernel, by decide +kernel⟩
def spLW : Sp := fun vs H Q _ => ∃ (v : V) (r : Rl), vs = [v] ∧ RulesW H v r ∧ r.loops.length = 9 ∧ ∀ d, H d = none → Q (.ref d) (upd H d (.dK (dLo r.loops)))
theorem ok_lw {f : Addr} {fd : FuncData} {k : Nat} {aLOOPS : Addr} (F : Fun K "loop_worths" "loop_worths" s_loop_worths f fd) (gLOOPS : mg "LOOPS" = some (.ref aLOOPS)) (hL : ∀ H : Hp, SqT K H aLOOPS (LN.map V.str)) (mdict : mg "dict" = none) (mzip : mg "zip" = none) : FnOk P w K mg base CX0 (k + 1) f fd ["rules"] spLW := by
  refine F.ok sc_loop_worths (fun vs H Q E h => ?_) (fun cdv A outer s H vs Q E hr h => ?_)
  · obtain ⟨v, r, rfl, _⟩ := h
    rfl
  · obtain ⟨v, r, rfl, ⟨a, vp, vl, vs, rfl, hA, _, ⟨al, us, rfl, hl, hR⟩, _⟩, h9, q⟩ := h
    refine ⟨_, (pss_one (ps_ret (pe_dictZip (by rfl) mdict (by rfl) mzip rfl (pa_cons (pe_glob (v := .ref aLOOPS) (by rfl) gLOOPS rfl) (pa_cons (pe_ix (ixT K) (pv 0) pe_int (fun _ _ => rfl)) pa_nil))))), ?_⟩
    have e9 : LN.length = r.loops.length := by
      rw [h9]
      rfl
    refine ⟨_, rfl, a, _, 3, _, rfl, rfl, SqT.of hA, rfl, aLOOPS, al, dLo r.loops, rfl, ?_, ?_, fun d hd => ?_⟩
    · unfold dLo
      rw [dLo_kV e9]
      exact hL H
    · unfold dLo
      rw [dLo_vals e9, ← ints_of hR]
      exact SqT.of hl
    · rw [dLo_merge h9]
      exact q d hd
end
def InX (x : Str) (qs : List (Int × Int)) : Prop := ∀ y ∈ qs, 0 ≤ y.1 ∧ y.1 < x.length ∧ 0 ≤ y.2 ∧ y.2 < x.length
theorem dget_ne {H H' : Hp} {d : Addr} {cs : List Int} (k : Ext H H') (h : H d = some (.dK (dLo cs))) : H' d = some (.dK (dLo cs)) := k _ _ h
theorem k_ne {a b : Str} (h : (a == b) = false) : (decide ((V.str a : V) = V.str b)) = false := decide_eq_false fun z => by
  have z := V.str.inj z
  rw [z] at h
  simp at h
section
variable {P : Program} {w : World} {K : PySem.W.Frag} {mg : Str → Option Value} {base : Heap}
abbrev CSW (P : Program) (w : World) (K : PySem.W.Frag) (mg : Str → Option Value) (base : Heap) : Prop := Ca P w K mg base 1 "stack_worth" ["rules", "outer", "within"] spSW
abbrev CLW (P : Program) (w : World) (K : PySem.W.Frag) (mg : Str → Option Value) (base : Heap) : Prop := Ca P w K mg base 1 "loop_worths" ["rules"] spLW
end
end Pf


namespace Pf
open PySem PySem.Spec PyProof.Rows L2
/-! ### defs with arguments by name alone, and what stands in their place -/
structure CaN (P : Program) (w : World) (K : PySem.W.Frag) (mg : Str → Option Value) (base : Heap) (k : Nat) (x : Str) (ps : List Str) (n : Nat) (ks : List Str) (gV : List V → List V → List V) (sp : Sp) : Prop where
  ex : ∃ f fd g, FnOk P w K mg base CX0 k f fd ps sp ∧ mg x = some (.ref f) ∧ PySem.W.keepIn K (.ref f) = true ∧ KBn K fd ps n ks g gV
structure CaE (P : Program) (w : World) (K : PySem.W.Frag) (mg : Str → Option Value) (base : Heap) (k : Nat) (x : Str) (ps : List Str) (dvs : List V) (sp : Sp) : Prop where
  ex : ∃ f fd ds, FnOk P w K mg base CX0 k f fd ps sp ∧ mg x = some (.ref f) ∧ PySem.W.keepIn K (.ref f) = true ∧ Vals dvs ds ∧ Binds K fd ps ds
section
variable {X : Cx} {k n : Nat} {x : Str} {ps ks : List Str} {sp : Sp} {p pos : Pos} {e : Expr} {es : List Expr} {kws : List Keyword} {t tk : TA} {gV : List V → List V → List V} {dvs : List V}
theorem pe_caN (c : CaN X.prog X.w X.K X.mg X.base k x ps n ks gV sp) (hr : Room k X.A) (hg : Gl X x) (ha : PA X (e :: es) t) (hkw : PK X kws tk)
    (hall : (backToKw pos (keywordEach kws X.env)).all (·.1.isSome) = true := by rfl) (hks : (backToKw pos (keywordEach kws X.env)).filterMap (·.1) = ks := by rfl)
    (hdb : (x == ("__debug__" : Str)) = false := by decide) (he : starEach (e :: es) X.env = (false, eval e X.env) :: starEach es X.env := by rfl)
    (hpl : ((backTo pos (starEach (e :: es) X.env)).any (·.1) || (backToKw pos (keywordEach kws X.env)).any (·.1.isNone)) = false := by rfl) :
    PE X (.Call (.Name x p) (e :: es) kws pos) (tCallN n ks.length sp gV E0 t tk) := by
  obtain ⟨f, fd, g, F, hm, hk, hb⟩ := c.ex
  exact pe_callN F hr hg hm hk hb pass0 ha hkw hall hks hdb he hpl
theorem pe_caE (c : CaE X.prog X.w X.K X.mg X.base k x ps dvs sp) (hr : Room k X.A) (hg : Gl X x) (ha : PA X (e :: es) t) (hdb : (x == ("__debug__" : Str)) = false := by decide)
    (he : starEach (e :: es) X.env = (false, eval e X.env) :: starEach es X.env := by rfl) (hpl : (backTo pos (starEach es X.env)).any (·.1) = false := by rfl) :
    PE X (.Call (.Name x p) (e :: es) [] pos) (tCall sp dvs E0 t) := by
  obtain ⟨f, fd, ds, F, hm, hk, hv, hb⟩ := c.ex
  exact pe_call F hr hg hm hk hb hv pass0 ha hdb he hpl
end
def permA {α : Type} (js : List Nat) (l : List α) : List α := js.filterMap fun j => l[j]?
def permW (js : List Nat) (ms : List V) : List V → List V → List V := fun vs zs => permA js (vs ++ zs ++ ms)
theorem vals_at : ∀ {zs : List V} {ws : List Value} (j : Nat), Vals zs ws → (∃ z u, zs[j]? = some z ∧ ws[j]? = some u ∧ RelV z u) ∨ (zs[j]? = none ∧ ws[j]? = none)
  | _, _, _, .nil => .inr ⟨rfl, rfl⟩
  | _, _, 0, .cons r _ => .inl ⟨_, _, rfl, rfl, r⟩
  | _, _, j + 1, .cons _ t => by
    rw [List.getElem?_cons_succ, List.getElem?_cons_succ]
    exact vals_at j t
theorem permA_rel {zs : List V} {ws : List Value} (r : Vals zs ws) : ∀ js : List Nat, Vals (permA js zs) (permA js ws)
  | [] => .nil
  | j :: js => by
    unfold permA
    rcases vals_at j r with ⟨z, u, e1, e2, e3⟩ | ⟨e1, e2⟩
    · rw [List.filterMap_cons_some e1, List.filterMap_cons_some e2]
      exact .cons e3 (permA_rel r js)
    · rw [List.filterMap_cons_none e1, List.filterMap_cons_none e2]
      exact permA_rel r js
theorem kbn_kw {K : PySem.W.Frag} {x qual : Str} {params : Arguments} {body : List Stmt} {scope : Scope} {kws : List (Str × V)} {f : Addr} {fd : FuncData} {ps : List Str} (F : FunD K x qual params body scope [] kws f fd) (n : Nat) (ks : List Str) (ms : List (Str × V)) (js : List Nat) (hk : kws ≠ []) (hms : ∀ q ∈ ms, q ∈ kws)
    (h : ∀ (D : Addr) (doc pm : Value) (an : Option Addr) (cdv ct : Value) (us mv ws : List Value), us.length = n → mv.length = ms.length → ws.length = ks.length →
      KwChain D ((ms.map (·.1)).zip mv) (bindArgs (PySem.W.fnOf x qual params body scope .none (.ref D) doc pm an cdv ct) ⟨us, ks.zip ws⟩) (ps.zip (permA js (us ++ ws ++ mv)))) : ∃ g, KBn K fd ps n ks g (permW js (ms.map (·.2))) := by
  obtain ⟨mv, hb⟩ := F.kbinds0 (ps := ps) n ks ms (fun {α} vs mz zs => permA js (vs ++ zs ++ mz)) hk hms (fun r1 r2 r3 => permA_rel ((r1.append r3).append r2) js) h
  exact ⟨_, hb⟩
end Pf


namespace Pf
open PySem PySem.Spec PyProof.Rows L2
/-! ### dict(list of pairs) by tuples -/
abbrev TKV : Type := List Key × Addr × V
def TkR (kv : TKV) (x : List Key × Addr × Value) : Prop := kv.1 = x.1 ∧ kv.2.1 = x.2.1 ∧ RelV kv.2.2 x.2.2
def TkP (K : PySem.W.Frag) (H : Hp) (p : Addr) (kv : TKV) : Prop := SqT K H p [.ref kv.2.1, kv.2.2] ∧ H kv.2.1 = some (.tup (kv.1.map kV))
theorem tkeys_of {X : Cx} {pins : List (Addr × Obj)} {σ : L2.St} {H : Hp} {s : Shared} (I : Inv X pins σ H s) : ∀ {ps : List Addr} {kvs : List TKV}, Paired (TkP X.K H) ps kvs →
    ∃ xs : List (List Key × Addr × Value), Paired TkR kvs xs ∧ xs.length = ps.length ∧ ∀ (j : Nat) (x : List Key × Addr × Value), xs[j]? = some x → H x.2.1 = some (.tup (x.1.map kV)) ∧ ∃ b, ps[j]? = some b ∧ IsTup s.heap b #[.ref x.2.1, x.2.2]
  | _, _, .nil => ⟨[], .nil, rfl, fun j q e => by simp at e⟩
  | _, _, .cons (a := p) (b := kv) h t => by
    obtain ⟨xs, r, hl, hp⟩ := tkeys_of I t
    obtain ⟨its, rv, ht, _⟩ := I.tuple h.1
    obtain ⟨u, y, ei, ru, ry⟩ := vals2 rv
    subst ei
    obtain rfl : u = Value.ref kv.2.1 := ru
    refine ⟨(kv.1, kv.2.1, y) :: xs, .cons ⟨rfl, rfl, ry⟩ r, by rw [List.length_cons, List.length_cons, hl], fun j q e => ?_⟩
    cases j with
    | zero =>
      have e' : (kv.1, kv.2.1, y) = q := Option.some.inj e
      subst e'
      exact ⟨h.2, p, rfl, ht⟩
    | succ j =>
      obtain ⟨e0, b, e1, e2⟩ := hp j q (by simpa using e)
      exact ⟨e0, b, by simpa using e1, e2⟩
def mergeT (acc : List (List Key × V)) (kvs : List TKV) : List (List Key × V) := kvs.foldl (fun acc x => putK acc x.1 x.2.2) acc
theorem mergeT_len : ∀ (kvs : List TKV) (acc : List (List Key × V)), (mergeT acc kvs).length ≤ acc.length + kvs.length
  | [], acc => Nat.le_refl _
  | x :: kvs, acc => by
    have h1 := mergeT_len kvs (putK acc x.1 x.2.2)
    have h2 := length_putK acc x.1 x.2.2
    rw [List.length_cons]
    show (mergeT (putK acc x.1 x.2.2) kvs).length ≤ _
    omega
theorem kt_merge {H : Hp} : ∀ {kvs : List TKV} {xs : List (List Key × Addr × Value)} {acc : List (List Key × V)} {ys : List (List Key × Addr × Value)}, Paired TkR kvs xs → (∀ x ∈ xs, H x.2.1 = some (.tup (x.1.map kV))) → KT H acc ys → KT H (mergeT acc kvs) (storedAllH ys xs)
  | _, _, _, _, .nil, _, r => r
  | _, _, acc, ys, .cons (a := kv) (b := x) h t, hH, r => by
    have hb := hH x (List.mem_cons_self ..)
    have r1 := r.put x.1 hb h.2.2
    have := kt_merge t (fun z hz => hH z (List.mem_cons_of_mem _ hz)) r1
    rw [← h.1] at this
    show KT H (mergeT (putK acc kv.1 kv.2.2) _) (storedAllH (storedH ys x.1 x.2.1 x.2.2) _)
    rw [← h.1]
    exact this
def rDictLT (K : PySem.W.Frag) : List V → Hp → VK → Prop := fun xs H Q => ∃ (a : Addr) (ps : List Addr) (kvs : List TKV), xs = [.ref a] ∧ SqL K H a (ps.map V.ref) ∧ Paired (TkP K H) ps kvs ∧ ∀ p, H p = none → Q (.ref p) (upd H p (.dT (mergeT [] kvs)))
theorem dictLT (K : PySem.W.Frag) {X : Cx} (hu : X.A.units + 64 < cLine) (calm : X.calm = true := by rfl) (hK : X.K = K := by rfl) : CallR X (.type "dict") (rDictLT K) := by
  subst hK
  intro pins s σ H xs us Q I r q
  obtain ⟨a, ps, kvs, ex, hq, hp, q⟩ := q
  subst ex
  obtain ⟨u, eu, rx⟩ := vals1 r
  subst eu
  cases rx
  obtain ⟨its, rv, pl, hz⟩ := I.list hq
  have ei := refs_at rv
  subst ei
  rw [List.length_map] at hz
  obtain ⟨xs, rel, hl, hpr⟩ := tkeys_of I hp
  obtain ⟨o, n, ho, hc, hd, hdat⟩ := pl
  have hH : ∀ x ∈ xs, H x.2.1 = some (.tup (x.1.map kV)) := fun x hx => by
    obtain ⟨j, hj⟩ := List.mem_iff_getElem?.mp hx
    exact (hpr j x hj).1
  have lkv : kvs.length = ps.length := (Paired.length rel).trans hl
  refine call_dict_pairsH (knd := tupleKind (mixKind X.prog X.w)) (ps := xs) (PairArg.list a (ps.map Value.ref).toArray (fun j => ps.getD j 0) (xs.map fun x => (Value.ref x.2.1, x.2.2))) (I.ok.hd calm) (show X.A.units + 2 < cLine by omega) ⟨⟨o, n, ho, hc, hd, hdat⟩, by simp [hl], fun j k v e => ?_⟩ ⟨by simp, fun i key v e => ?_⟩ (fun h' hk x hx => ?_) (by rw [List.length_map, hl]; exact hz) (fun h' tk hd' hk => ?_)
  · rw [List.getElem?_map] at e
    cases ex : xs[j]? with
    | none => rw [ex] at e; cases e
    | some x =>
      rw [ex] at e
      cases e
      obtain ⟨_, b, e1, e2⟩ := hpr j x ex
      refine ⟨by simp [e1], .inl ?_⟩
      have : ps.getD j 0 = b := by
        rw [List.getD_eq_getElem?_getD, e1]
        rfl
      show s.heap.IsTuple (ps.getD j 0) _
      rw [this]
      exact e2
  · rw [show PairRel (xs.map fun x => (Value.ref x.2.1, x.2.2)) i key v ↔ _ from Iff.rfl] at e
    have e : (xs.map fun x => (Value.ref x.2.1, x.2.2))[i]? = some (key, v) := e
    rw [List.getElem?_map] at e
    cases ex : xs[i]? with
    | none => rw [ex] at e; cases e
    | some x =>
      rw [ex] at e
      cases e
      exact ⟨x.1, x.2.1, rfl, rfl⟩
  · obtain ⟨o1, its1, n1, h1, h2, h3, h4⟩ := key_of I.hok (hH x hx)
    exact ⟨o1, its1, n1, hk _ _ (Nat.ne_of_lt (Heap.lt_size h1)) (by simp) h1, h2, h3, h4⟩
  · have hm : (s.heap.objs.size == sysModules) = false := beq_eq_false_iff_ne.mpr (Nat.ne_of_gt I.big)
    have fresh := I.hok.fresh (Nat.le_refl s.heap.objs.size)
    have hlen : (mergeT [] kvs).length ≤ sizeLine := by
      refine Nat.le_trans (mergeT_len kvs []) ?_
      rw [List.length_nil, Nat.zero_add, lkv]
      exact hz
    have kt : KT H (mergeT [] kvs) (storedAllH [] xs) := kt_merge rel hH .nil
    obtain ⟨ob, es, ep, e1, e2, e3, e4, _, e5⟩ := hd'
    exact ⟨.ref s.heap.objs.size, upd H s.heap.objs.size (.dT (mergeT [] kvs)), I.laid (t' := tk) (fun b o e => hk b o (by simp) e) (Nat.le_refl _) (show ObjOk X.prog X.w _ _ _ (.dT (mergeT [] kvs)) from ⟨hlen, hm, _, kt.keeps fun b ys e => by rw [upd_ne (ne_of_none e fresh)]; exact e, ob, es, ep, e1, e2, e3, e4, e5⟩), rfl, q _ fresh⟩
end Pf


namespace Pf
open PySem PySem.Spec PyProof.Rows L2
def pwI : List (Str × Int) → Str → Int
  | [], _ => 0
  | (t, x) :: r, b => if t = b then x else pwI r b
theorem pwV_int : ∀ {prs : List (Str × Int)} {b : Str}, b ∈ prs.map (·.1) → pwV prs b = .int (pwI prs b)
  | [], _, h => by cases h
  | (t, x) :: r, b, h => by
    rw [pwV, pwI]
    by_cases e : t = b
    · rw [if_pos e, if_pos e]
    · rw [if_neg e, if_neg e]
      rcases List.mem_cons.mp h with z | z
      · exact absurd z.symm e
      · exact pwV_int z
def stF (stk : List (Str × Str × Int)) (o n : Str) : List Int := (stk.filter fun z => decide (z.1 = o ∧ z.2.1 = n)).map (·.2.2)
theorem stF_no : ∀ {stk : List (Str × Str × Int)} {o n : Str}, (o, n) ∉ stk.map (fun z => (z.1, z.2.1)) → stF stk o n = []
  | [], _, _, _ => rfl
  | z :: r, o, n, h => by
    rw [List.map_cons, List.mem_cons, not_or] at h
    unfold stF
    rw [List.filter_cons_of_neg (p := fun z : Str × Str × Int => decide (z.1 = o ∧ z.2.1 = n)) (by
      intro e
      have e := of_decide_eq_true e
      exact h.1 (by rw [← e.1, ← e.2]))]
    exact stF_no h.2
theorem stF_sum : ∀ {stk : List (Str × Str × Int)} {o n : Str}, (stk.map fun z => (z.1, z.2.1)).Nodup → (stF stk o n).sum = swI stk o n
  | [], _, _, _ => rfl
  | (t, u, x) :: r, o, n, h => by
    rw [List.map_cons, List.nodup_cons] at h
    unfold swI
    by_cases c : t = o ∧ u = n
    · rw [if_pos c]
      unfold stF
      rw [List.filter_cons_of_pos (p := fun z : Str × Str × Int => decide (z.1 = o ∧ z.2.1 = n)) (decide_eq_true c), List.map_cons, List.sum_cons]
      have := stF_no (stk := r) (o := o) (n := n) (by rw [← c.1, ← c.2]; exact h.1)
      unfold stF at this
      rw [this]
      simp
    · rw [if_neg c, ← stF_sum h.2]
      unfold stF
      rw [List.filter_cons_of_neg (p := fun z : Str × Str × Int => decide (z.1 = o ∧ z.2.1 = n)) (by simpa using c)]
theorem eqv_two (a b c d : Str) : PyData.eqv (.tuple [.str a, .str b]) (.tuple [.str c, .str d]) = decide (a = c ∧ b = d) := by
  simp [PyData.eqv, PyData.eqvAll]
  by_cases h1 : a = c <;> by_cases h2 : b = d <;> simp [h1, h2]
theorem sm_two {a b : Str} (ha : Two a) (hb : Two b) : SeqAt.shaped (.tuple [.str a, .str b]) = true := by
  refine (Sm.tup (n := 2) (m := 2) (k := 0) (M := 1000000) (ds := [.str a, .str b]) (Nat.le_refl 2) (fun d hd => ?_) (by decide)).shaped (by decide)
  rcases List.mem_cons.mp hd with rfl | hd
  · exact Sm.str ha.2.ok (Nat.le_of_eq ha.1)
  · rw [List.mem_singleton.mp hd]
    exact Sm.str hb.2.ok (Nat.le_of_eq hb.1)
theorem getD_in {x : Str} {i : Int} (h0 : 0 ≤ i) (h1 : i < x.length) : x.cps.toList.getD i.toNat 0 ∈ x.cps.toList := by
  have h2 : i.toNat < x.cps.toList.length := by
    rw [Array.length_toList]
    have : i < (x.cps.size : Int) := h1
    omega
  rw [List.getD_eq_getElem?_getD, List.getElem?_eq_getElem h2]
  exact List.getElem_mem _
theorem two_tx {x : Str} {p : Int × Int} (h : Small x) (i0 : 0 ≤ p.1) (i1 : p.1 < x.length) (j0 : 0 ≤ p.2) (j1 : p.2 < x.length) : Two (tx2 x p) := ⟨rfl, (Small.one (h _ (getD_in i0 i1))).app (Small.one (h _ (getD_in j0 j1)))⟩
theorem sum_take {l : List Int} {c : Nat} {y : Int} (h : l[c]? = some y) : (l.take (c + 1)).sum = (l.take c).sum + y := by
  rw [List.take_add_one, h, List.sum_append]
  simp
theorem may_pr {r : Rl} {x : Str} {i j : Int} (h : mayC r x i j = true) : tx2 x (i, j) ∈ r.prs.map (·.1) := by
  unfold mayC at h
  rw [Bool.and_eq_true] at h
  exact of_decide_eq_true h.2
theorem val_prs : ∀ (prs : List (Str × Int)) (b : Str), b ∈ prs.map (·.1) → valV (prs.map encP) (.inr b) = some (.int (pwI prs b))
  | [], _, h => by cases h
  | (t, x) :: r, b, h => by
    rw [List.map_cons, pwI]
    by_cases e : t = b
    · rw [valV_pos (show (encP (t, x)).1 = .inr b by rw [e]; rfl), if_pos e]
      rfl
    · rw [valV_neg (show ¬ (encP (t, x)).1 = .inr b from fun z => e (Sum.inr.inj z)), if_neg e]
      refine val_prs r b ?_
      rcases List.mem_cons.mp h with h | h
      · exact absurd h.symm e
      · exact h
/-! ### stretches: a first place, a last one, a size -/
abbrev St3 := Int × Int × Int
def Tri (H : Hp) (v : V) (y : St3) : Prop := ∃ a, v = .ref a ∧ H a = some (.tup [.int y.1, .int y.2.1, .int y.2.2])
theorem Tri.mono : Mono Tri := fun H H' v x k ⟨a, e, h⟩ => ⟨a, e, k _ _ h⟩
def prsOf (y : St3) : List (Int × Int) := (List.range y.2.2.toNat).map fun k : Nat => (y.1 + (k : Int), y.2.1 - (k : Int))
theorem prs_len (y : St3) : (prsOf y).length = y.2.2.toNat := by
  unfold prsOf
  rw [List.length_map, List.length_range]
theorem prs_get {y : St3} {k : Nat} (h : k < y.2.2.toNat) : (prsOf y)[k]? = some (y.1 + (k : Int), y.2.1 - (k : Int)) := by
  unfold prsOf
  rw [List.getElem?_map, List.getElem?_range h]
  rfl
/-- a stretch of the string -/
def StOk (r : Rl) (x : Str) (y : St3) : Prop := 0 ≤ y.2.2 ∧ y.2.2 ≤ 12 ∧ ∀ p ∈ prsOf y, 0 ≤ p.1 ∧ p.1 < x.length ∧ 0 ≤ p.2 ∧ p.2 < x.length ∧ mayC r x p.1 p.2 = true
def stp (r : Rl) (acc : Int × Option Str) (t : Str) : Int × Option Str := (acc.1 + pwI r.prs t + (match acc.2 with
  | none => 0
  | some b => lo r 0 + swI r.stk b t), some t)
def txs (x : Str) (y : St3) : List Str := (prsOf y).map (tx2 x)
def wS (r : Rl) (x : Str) (y : St3) : Int := ((txs x y).foldl (stp r) (0, none)).1
def oV1 (o : Option Str) : V := match o with
  | none => .non
  | some b => .str b
theorem fold_takeS {α β : Type} {f : β → α → β} {b : β} {xs : List α} {i : Nat} {x : α} (h : xs[i]? = some x) : (xs.take (i + 1)).foldl f b = f ((xs.take i).foldl f b) x := by
  rw [List.take_add_one, h, List.foldl_append]
  rfl
/-- by pairs and by neighbours -/
def nbs (r : Rl) (T : List Str) : List Int := (T.zip T.tail).map fun z => lo r 0 + swI r.stk z.1 z.2
theorem stp_some (r : Rl) : ∀ (T : List Str) (a : Int) (b : Str), (T.foldl (stp r) (a, some b)).1 = a + (T.map (pwI r.prs)).sum + (nbs r (b :: T)).sum
  | [], a, b => by
    show a = a + 0 + (nbs r [b]).sum
    simp [nbs]
  | t :: T, a, b => by
    rw [List.foldl_cons]
    show (T.foldl (stp r) (a + pwI r.prs t + (lo r 0 + swI r.stk b t), some t)).1 = _
    rw [stp_some r T, List.map_cons, List.sum_cons]
    have e : nbs r (b :: t :: T) = (lo r 0 + swI r.stk b t) :: nbs r (t :: T) := rfl
    rw [e, List.sum_cons]
    omega
theorem wS_eq (r : Rl) (x : Str) (y : St3) : ((txs x y).map (pwI r.prs)).sum + (nbs r (txs x y)).sum = wS r x y := by
  unfold wS
  cases txs x y with
  | nil => rfl
  | cons t T =>
    rw [List.foldl_cons]
    show _ = (T.foldl (stp r) (0 + pwI r.prs t + 0, some t)).1
    rw [stp_some r T, List.map_cons, List.sum_cons]
    omega
section
variable {P : Program} {w : World} {K : PySem.W.Frag} {mg : Str → Option Value} {base : Heap}
abbrev s_law_pairs_of : Stmt := topS 36
theorem sc_law_pairs_of : FnScope ["_law_stretch", "_law_k"] ["_law_stretch"] (defScope s_law_pairs_of) :=
  ⟨rfl, rfl, rfl, by decide +kernel, rfl, by decide +kernel, by decide +kernel⟩
def spPrs : Sp := fun vs H Q _ => ∃ (v : V) (y : St3), vs = [v] ∧ Tri H v y ∧ 0 ≤ y.2.2 ∧ y.2.2 ≤ 100 ∧ ∀ (l : Addr) (us : List V) (H' : Hp), H l = none → H' l = some (.lst us) → Paired (TwoAt H') us (prsOf y) → Ext H H' → Q (.ref l) H'
theorem ok_prsL {f : Addr} {fd : FuncData} {k : Nat} (F : Fun K "_law_pairs_of" "_law_pairs_of" s_law_pairs_of f fd) (mrange : mg "range" = none) : FnOk P w K mg base CX0 (k + 1) f fd ["_law_stretch"] spPrs := by
  refine F.ok sc_law_pairs_of (fun vs H Q E h => ?_) (fun cdv A outer s H vs Q E hr h => ?_)
  · obtain ⟨v, y, rfl, _⟩ := h
    rfl
  · obtain ⟨v, y, rfl, ⟨a, rfl, ha⟩, y0, y1, q⟩ := h
    refine ⟨_, (pss_one (ps_ret (pe_lc (own := [("_law_k", 1)]) (g := gName 1) (by rfl) sc_law_pairs_of.nd (pi_range1 (by rfl) mrange (pa_cons (pe_ix (ixT K) (pv 0) pe_int (fun _ _ => rfl)) pa_nil)) (blkOk_by (own := [("_law_k", 1)]) (N := ["_law_stretch", "_law_k"]) (sc := defScope s_law_pairs_of) (by decide +kernel)) (fun _ _ _ _ _ => (pg_name (i := 1) sc_law_pairs_of.nd rfl (.inl rfl))) (fun _ _ _ _ _ => pts_nil) (fun _ _ _ _ _ => (pe_tup (pa_cons (pe_op op_add (pe_ix (ixT K) (pv 0) pe_int (fun _ _ => rfl)) (pv 1)) (pa_cons (pe_op op_sub (pe_ix (ixT K) (pv 0) pe_int (fun _ _ => rfl)) (pv 1)) pa_nil))))))), ?_⟩
    refine ⟨_, rfl, a, _, 2, _, rfl, rfl, SqT.of ha, rfl, y.2.2, rfl, by omega, by omega, fun G hG => lc_range (n := y.2.2.toNat) (GenP TwoAt G H (prsOf y)) (gen_new hG) (fun i H2 hi hv => ?_) (fun H2 hv => ?_)⟩
    · have k2 := hv.ext
      refine ⟨rfl, _, rfl, a, _, 0, _, rfl, rfl, SqT.of (k2 _ _ ha), rfl, _, rfl, _, _, rfl, rfl, _, rfl, a, _, 1, _, rfl, rfl, SqT.of (k2 _ _ ha), rfl, _, rfl, _, _, rfl, rfl, szL (show 2 ≤ 1000000 by decide), fun t ht => ?_⟩
      rw [Int.zero_add]
      exact gen_step TwoAt.mono hG hv (Ext.new ht) (b := (y.1 + (i : Int), y.2.1 - (i : Int))) ⟨t, rfl, upd_same⟩ (prs_get hi) (by rw [prs_len]; omega)
    obtain ⟨vs2, hL2, hP2, k2⟩ := gen_end hv (by rw [prs_len]; exact Nat.le_refl _)
    exact q G vs2 H2 hG hL2 hP2 k2
abbrev CPrsL (P : Program) (w : World) (K : PySem.W.Frag) (mg : Str → Option Value) (base : Heap) : Prop := Ca P w K mg base 1 "_law_pairs_of" ["_law_stretch"] spPrs
abbrev s_stretch_pairs : Stmt := topS 13
theorem sc_stretch_pairs : FnScope ["stretch", "i", "j", "size", "at"] ["stretch"] (defScope s_stretch_pairs) :=
  ⟨rfl, rfl, rfl, by decide +kernel, rfl, by decide +kernel, by decide +kernel⟩
theorem ok_prs {f : Addr} {fd : FuncData} {k : Nat} (F : Fun K "stretch_pairs" "stretch_pairs" s_stretch_pairs f fd) (mrange : mg "range" = none) : FnOk P w K mg base CX0 (k + 1) f fd ["stretch"] spPrs := by
  refine F.ok sc_stretch_pairs (fun vs H Q E h => ?_) (fun cdv A outer s H vs Q E hr h => ?_)
  · obtain ⟨v, y, rfl, _⟩ := h
    rfl
  · obtain ⟨v, y, rfl, ⟨a, rfl, ha⟩, y0, y1, q⟩ := h
    refine ⟨_, (pss_cons (ps_asg (pv 0) (pg_tup rfl (pgs_cons (pg_name (i := 1) sc_stretch_pairs.nd rfl (.inr rfl)) (pgs_cons (pg_name (i := 2) sc_stretch_pairs.nd rfl (.inr rfl)) (pgs_cons (pg_name (i := 3) sc_stretch_pairs.nd rfl (.inl rfl)) pgs_nil)))))
      (pss_one (ps_ret (pe_lc (own := [("at", 4)]) (g := gName 4) (by rfl) sc_stretch_pairs.nd (pi_range1 (by rfl) mrange (pa_cons (pv 3) pa_nil)) (blkOk_by (own := [("at", 4)]) (N := ["stretch", "i", "j", "size", "at"]) (sc := defScope s_stretch_pairs) (by decide +kernel)) (fun _ _ _ _ _ => (pg_name (i := 4) sc_stretch_pairs.nd rfl (.inl rfl))) (fun _ _ _ _ _ => pts_nil) (fun _ _ _ _ _ => (pe_tup (pa_cons (pe_op op_add (pv 1) (pv 4)) (pa_cons (pe_op op_sub (pv 2) (pv 4)) pa_nil)))))))), ?_⟩
    refine ⟨_, rfl, a, _, rfl, SqT.of ha, rfl, _, _, rfl, _, _, rfl, _, _, rfl, rfl, ?_⟩
    refine ⟨_, rfl, y.2.2, rfl, by omega, by omega, fun G hG => lc_range (n := y.2.2.toNat) (GenP TwoAt G H (prsOf y)) (gen_new hG) (fun i H2 hi hv => ?_) (fun H2 hv => ?_)⟩
    · have k2 := hv.ext
      refine ⟨rfl, _, rfl, _, rfl, _, _, rfl, rfl, _, rfl, _, rfl, _, _, rfl, rfl, szL (show 2 ≤ 1000000 by decide), fun t ht => ?_⟩
      rw [Int.zero_add]
      exact gen_step TwoAt.mono hG hv (Ext.new ht) (b := (y.1 + (i : Int), y.2.1 - (i : Int))) ⟨t, rfl, upd_same⟩ (prs_get hi) (by rw [prs_len]; omega)
    obtain ⟨vs2, hL2, hP2, k2⟩ := gen_end hv (by rw [prs_len]; exact Nat.le_refl _)
    exact q G vs2 H2 hG hL2 hP2 k2
abbrev CPrs (P : Program) (w : World) (K : PySem.W.Frag) (mg : Str → Option Value) (base : Heap) : Prop := Ca P w K mg base 1 "stretch_pairs" ["stretch"] spPrs
end
end Pf


namespace Pf
open PySem PySem.Spec PyProof.Rows L2
section
variable {P : Program} {w : World} {K : PySem.W.Frag} {mg : Str → Option Value} {base : Heap}
end
end Pf


namespace Pf
open PySem PySem.Spec PyProof.Rows L2
theorem nbs_len (r : Rl) (T : List Str) : (nbs r T).length = min T.length (T.length - 1) := by
  unfold nbs
  rw [List.length_map, List.length_zip, List.length_tail]
theorem nbs_get {r : Rl} {T : List Str} {e : Nat} {a b : Str} (h1 : T[e]? = some a) (h2 : (T.drop 1)[e]? = some b) : (nbs r T)[e]? = some (lo r 0 + swI r.stk a b) := by
  unfold nbs
  rw [List.getElem?_map, List.getElem?_zip_eq_some (z := (a, b)).mpr ⟨h1, by rw [← List.drop_one]; exact h2⟩]
  rfl
section
variable {P : Program} {w : World} {K : PySem.W.Frag} {mg : Str → Option Value} {base : Heap}
abbrev s_stretch_worth : Stmt := topS 17
theorem sc_stretch_worth : FnScope ["rules", "string", "stretch", "texts", "stacked", "neighbours", "pair", "outer", "within", "text"] ["rules", "string", "stretch"] (defScope s_stretch_worth) :=
  ⟨rfl, rfl, rfl, by decide +kernel, rfl, by decide +kernel, by decide +kernel⟩
def spSWo : Sp := fun vs H Q _ => ∃ (v vy : V) (r : Rl) (x : Str) (y : St3), vs = [v, .str x, vy] ∧ RulesW H v r ∧ RlOk r ∧ x.length ≤ 12 ∧ Tri H vy y ∧ StOk r x y ∧ ∀ H', Ext H H' → Q (.int (wS r x y)) H'
theorem ok_swo {f : Addr} {fd : FuncData} (F : Fun K "stretch_worth" "stretch_worth" s_stretch_worth f fd) (cstretch_pairs : CPrs P w K mg base) (ctext_of : CTx P w K mg base) (cloop_worths : CLW P w K mg base) (cstack_worth : CSW P w K mg base) (cpair_worth : CPW P w K mg base) (mzip : mg "zip" = none) (msum : mg "sum" = none) : FnOk P w K mg base CX0 2 f fd ["rules", "string", "stretch"] spSWo := by
  refine F.ok sc_stretch_worth (fun vs H Q E h => ?_) (fun cdv A outer s H vs Q E hr h => ?_)
  · obtain ⟨v, vy, r, x, y, rfl, _⟩ := h
    rfl
  · obtain ⟨v, vy, r, x, y, rfl, hR, ok, hx, hT, hS, q⟩ := h
    refine ⟨_, (pss_cons (ps_setLc (i := 3) (own := [("pair", 6)]) (g := gName 6) (by rfl) sc_stretch_worth.nd rfl rfl (sw_true rfl rfl rfl (by decide +kernel)) (pi_list (pe_ca cstretch_pairs (hr.mono (by decide)) (by rfl) (pa_cons (pv 2) pa_nil))) (blkOk_by (own := [("pair", 6)]) (N := ["rules", "string", "stretch", "texts", "stacked", "neighbours", "pair", "outer", "within", "text"]) (sc := defScope s_stretch_worth) (by decide +kernel)) (fun _ _ _ _ _ => (pg_name (i := 6) sc_stretch_worth.nd rfl (.inl rfl))) (fun _ _ _ _ _ => pts_nil) (fun _ _ _ _ _ => (pe_ca ctext_of (hr.mono (by decide)) (by rfl) (pa_cons (pv 1) (pa_cons (pv 6) pa_nil)))))
      (pss_cons (ps_set (i := 4) sc_stretch_worth.nd rfl (.inr rfl) (pe_dget (hu_of hr) (pe_ca cloop_worths (hr.mono (by decide)) (by rfl) (pa_cons (pv 0) pa_nil)) pe_str (fun _ _ => rfl)))
      (pss_cons (ps_setLc (i := 5) (own := [("outer", 7), ("within", 8)]) (g := gTup K 2 (gCons (gName 7) (gCons (gName 8) gNil))) (by rfl) sc_stretch_worth.nd rfl rfl (sw_true rfl rfl rfl (by decide +kernel)) (RZ.pi_zipA (by rfl) mzip (pa_cons (pv 3) (pa_cons (pe_slice (slL K) (pv 3) (po_some pe_int) po_none) pa_nil))) (blkOk_by (own := [("outer", 7), ("within", 8)]) (N := ["rules", "string", "stretch", "texts", "stacked", "neighbours", "pair", "outer", "within", "text"]) (sc := defScope s_stretch_worth) (by decide +kernel)) (fun _ _ _ _ _ => (pgT K rfl (pgs_cons (pg_name (i := 7) sc_stretch_worth.nd rfl (.inl rfl)) (pgs_cons (pg_name (i := 8) sc_stretch_worth.nd rfl (.inl rfl)) pgs_nil)))) (fun _ _ _ _ _ => pts_nil) (fun _ _ _ _ _ => (pe_op op_add (pv 4) (pe_ca cstack_worth (hr.mono (by decide)) (by rfl) (pa_cons (pv 0) (pa_cons (pv 7) (pa_cons (pv 8) pa_nil)))))))
      (pss_one (ps_ret (pe_op op_add (pe_callB (sumI K) (by rfl) msum (by decide +kernel) (pa_cons (pe_lc (own := [("text", 9)]) (g := gName 9) (by rfl) sc_stretch_worth.nd (pi_list (pv 3)) (blkOk_by (own := [("text", 9)]) (N := ["rules", "string", "stretch", "texts", "stacked", "neighbours", "pair", "outer", "within", "text"]) (sc := defScope s_stretch_worth) (by decide +kernel)) (fun _ _ _ _ _ => (pg_name (i := 9) sc_stretch_worth.nd rfl (.inl rfl))) (fun _ _ _ _ _ => pts_nil) (fun _ _ _ _ _ => (pe_ca cpair_worth (hr.mono (by decide)) (by rfl) (pa_cons (pv 0) (pa_cons (pv 9) pa_nil))))) pa_nil)) (pe_callB (sumI K) (by rfl) msum (by decide +kernel) (pa_cons (pv 5) pa_nil)))))))), ?_⟩
    have rulE : ∀ {H' : Hp}, Ext H H' → RulesW H' v r := fun k => RulesW.mono _ _ _ _ (TupK.ext k) hR
    have htl : (txs x y).length = y.2.2.toNat := by
      unfold txs
      rw [List.length_map, prs_len]
    have hs12 := hS.2.1
    -- texts
    refine ⟨_, rfl, vy, y, rfl, hT, hS.1, by omega, fun l us H1 hl hL hP k1 => ?_⟩
    have hul := paired_len hP
    rw [prs_len] at hul
    refine ⟨l, rfl, ⟨_, SqL.of hL⟩, fun G hG => lc_list (K := K) (xs := us) (fun c H2 => H2 G = some (.lst (((txs x y).take c).map V.str)) ∧ Ext H1 H2)
      ⟨upd_same, Ext.new hG⟩ (fun c H2 _ h => SqL.of (h.2 _ _ hL)) (fun c u H2 hc hv => ?_) (fun H2 hv => ?_)⟩
    · obtain ⟨hG2, k2⟩ := hv
      obtain ⟨p, hpq, a1, rfl, ha1⟩ := paired_get hP hc
      have hin := hS.2.2 p (List.mem_of_getElem? hpq)
      refine ⟨rfl, _, rfl, _, rfl, x, a1, p, rfl, k2 _ _ ha1, by omega, hin.1, hin.2.1, hin.2.2.1, hin.2.2.2.1, _, hG2, szLt (by rw [List.length_map, List.length_take]; omega), ?_, k2.put hG⟩
      rw [List.take_add_one, show (txs x y)[c]? = some (tx2 x p) by unfold txs; rw [List.getElem?_map, hpq]; rfl, List.map_append]
      exact upd_same
    obtain ⟨hG2, k2⟩ := hv
    rw [List.take_of_length_le (by omega)] at hG2
    have htm : ∀ t ∈ txs x y, t ∈ r.prs.map (·.1) := fun t ht => by
      unfold txs at ht
      obtain ⟨p, hp, rfl⟩ := List.mem_map.mp ht
      exact may_pr (hS.2.2 p hp).2.2.2.2
    rw [← wS_eq] at q
    generalize txs x y = T at hG2 htl htm q
    have k02 := k1.trans k2
    -- stacked
    refine ⟨_, rfl, v, r, rfl, rulE k02, ok.lo9, fun d hd => ?_⟩
    have x3 := Ext.new (o := .dK (dLo r.loops)) hd
    have k03 := k02.trans x3
    refine ⟨d, _, rfl, get_lo upd_same ok.lo9 (i := 0) (by decide +kernel), ?_⟩
    have hG3 := x3 _ _ hG2
    generalize upd H2 d (.dK (dLo r.loops)) = H3 at x3 k03 hG3
    -- neighbours
    refine ⟨_, rfl, _, rfl, 1, rfl, G, _, rfl, SqL.of hG3, fun G4 hG4 => ?_⟩
    have ecut : cutV (T.map V.str) (some (1 : Int)) none = (T.drop 1).map V.str := by
      have := cut_from (xs := T.map V.str) (k := 1)
      rw [List.map_drop]
      exact this
    rw [ecut]
    have x4 := Ext.new (o := .lst ((T.drop 1).map V.str)) hG4
    have hG34 := x4 _ _ hG3
    have hG44 : upd H3 G4 (.lst ((T.drop 1).map V.str)) G4 = some (.lst ((T.drop 1).map V.str)) := upd_same
    have k04 := k03.trans x4
    generalize upd H3 G4 (.lst ((T.drop 1).map V.str)) = H4 at x4 hG34 hG44 k04
    refine ⟨G, G4, T.map V.str, (T.drop 1).map V.str, rfl, .inl ⟨SqL.of hG34, SqL.of hG44, fun E5 hE5 => lc_it (walk_zip (n := (nbs r T).length) (by rw [nbs_len, List.length_map, List.length_map, List.length_drop])) (fun e H5 => H5 E5 = some (.lst (((nbs r T).take e).map V.int)) ∧ Ext H4 H5)
      ⟨upd_same, Ext.new hE5⟩ (fun e H5 _ h => ⟨SqL.of (h.2 _ _ hG34), SqL.of (h.2 _ _ hG44)⟩) (fun e u5 H5 H5' he hv hy => ?_) (fun H5 hv => ?_)⟩⟩
    · obtain ⟨hL5, k5⟩ := hv
      obtain ⟨TT, va, vb, rfl, hTT, rfl, ha, hb⟩ := hy
      have ha : (T.map V.str)[e]? = some va := ha
      have hb : ((T.drop 1).map V.str)[e]? = some vb := hb
      rw [List.getElem?_map] at ha hb
      obtain ⟨fa, h1, rfl⟩ := Option.map_eq_some_iff.mp ha
      obtain ⟨ca, h2, rfl⟩ := Option.map_eq_some_iff.mp hb
      have x6 := Ext.new (o := .tup [.str fa, .str ca]) hTT
      refine ⟨TT, _, rfl, SqT.of upd_same, rfl, _, _, rfl, _, _, rfl, rfl, rfl, _, rfl, _, rfl, _, rfl, _, rfl, v, r, fa, ca, rfl, rulE (k04.trans (k5.trans x6)), _, _, rfl, rfl, _, x6 _ _ hL5, szLt (by rw [List.length_map, List.length_take, nbs_len]; omega), ?_, (k5.trans x6).put hE5⟩
      rw [List.take_add_one, nbs_get h1 h2, List.map_append]
      exact upd_same
    · obtain ⟨hL5, k5⟩ := hv
      rw [List.take_length] at hL5
      have hG5 := k5 _ _ hG34
      have k05 := k04.trans k5
      refine ⟨_, rfl, G, rfl, ⟨_, SqL.of hG5⟩, fun E6 hE6 => lc_list (K := K) (xs := T.map V.str) (fun c H6 => H6 E6 = some (.lst (((T.map (pwI r.prs)).take c).map V.int)) ∧ Ext H5 H6)
        ⟨upd_same, Ext.new hE6⟩ (fun c H6 _ h => SqL.of (h.2 _ _ hG5)) (fun c u H6 hc hv => ?_) (fun H6 hv => ?_)⟩
      · obtain ⟨hL6, k6⟩ := hv
        rw [List.getElem?_map] at hc
        obtain ⟨t, ht, rfl⟩ := Option.map_eq_some_iff.mp hc
        have hcl := (List.getElem?_eq_some_iff.mp ht).1
        refine ⟨rfl, _, rfl, _, rfl, v, r, t, rfl, rulE (k05.trans k6), ?_⟩
        rw [pwV_int (htm t (List.mem_of_getElem? ht))]
        refine ⟨_, hL6, szLt (by rw [List.length_map, List.length_take, List.length_map]; omega), ?_, k6.put hE6⟩
        rw [List.take_add_one, List.getElem?_map, ht, List.map_append]
        exact upd_same
      obtain ⟨hL6, k6⟩ := hv
      rw [List.take_of_length_le (by rw [List.length_map, List.length_map]; exact Nat.le_refl _)] at hL6
      refine ⟨E6, _, rfl, SqL.of hL6, _, rfl, E5, _, rfl, SqL.of (k6 _ _ hL5), _, _, rfl, rfl, q _ (k05.trans k6)⟩
abbrev CSWo (P : Program) (w : World) (K : PySem.W.Frag) (mg : Str → Option Value) (base : Heap) : Prop := Ca P w K mg base 2 "stretch_worth" ["rules", "string", "stretch"] spSWo
abbrev s_crossed_worth : Stmt := topS 18
theorem sc_crossed_worth : FnScope ["rules", "string", "folding", "cross", "stretch"] ["rules", "string", "folding", "cross"] (defScope s_crossed_worth) :=
  ⟨rfl, rfl, rfl, by decide +kernel, rfl, by decide +kernel, by decide +kernel⟩
def spCrW : Sp := fun vs H Q _ => ∃ (v : V) (r : Rl) (x : Str) (t : Addr) (v1 v2 : V) (y z : St3) (c : Int), vs = [v, .str x, .ref t, .int c] ∧ RulesW H v r ∧ RlOk r ∧ x.length ≤ 12 ∧ H t = some (.tup [v1, v2]) ∧ Tri H v1 y ∧ Tri H v2 z ∧ StOk r x y ∧ StOk r x z ∧ ∀ H', Ext H H' → Q (.int (c + (wS r x y + wS r x z))) H'
theorem ok_crw {f : Addr} {fd : FuncData} (F : FunD K "crossed_worth" "crossed_worth" (defArgs s_crossed_worth) (defBody s_crossed_worth) (defScope s_crossed_worth) [] [("cross", .int 0)] f fd) (cstretch_worth : CSWo P w K mg base) (msum : mg "sum" = none) : FnOk P w K mg base CX0 3 f fd ["rules", "string", "folding", "cross"] spCrW := by
  refine F.ok sc_crossed_worth (fun vs H Q E h => ?_) (fun cdv A outer s H vs Q E hr h => ?_)
  · obtain ⟨v, r, x, t, v1, v2, y, z, c, rfl, _⟩ := h
    rfl
  · obtain ⟨v, r, x, t, v1, v2, y, z, c, rfl, hR, ok, hx, ht, h1, h2, s1, s2, q⟩ := h
    refine ⟨_, (pss_one (ps_ret (pe_op op_add (pv 3) (pe_callB (sumI K) (by rfl) msum (by decide +kernel) (pa_cons (pe_lc (own := [("stretch", 4)]) (g := gName 4) (by rfl) sc_crossed_worth.nd (pi_tup (pv 2)) (blkOk_by (own := [("stretch", 4)]) (N := ["rules", "string", "folding", "cross", "stretch"]) (sc := defScope s_crossed_worth) (by decide +kernel)) (fun _ _ _ _ _ => (pg_name (i := 4) sc_crossed_worth.nd rfl (.inl rfl))) (fun _ _ _ _ _ => pts_nil) (fun _ _ _ _ _ => (pe_ca cstretch_worth (hr.mono (by decide)) (by rfl) (pa_cons (pv 0) (pa_cons (pv 1) (pa_cons (pv 4) pa_nil)))))) pa_nil))))), ?_⟩
    refine ⟨_, rfl, _, rfl, t, rfl, ⟨_, SqT.of ht⟩, fun G hG => lc_tup (K := K) (xs := [v1, v2]) (fun c H2 => H2 G = some (.lst ((([wS r x y, wS r x z] : List Int).take c).map V.int)) ∧ Ext H H2)
      ⟨upd_same, Ext.new hG⟩ (fun c H2 _ h => SqT.of (h.2 _ _ ht)) (fun i u H2 hi hv => ?_) (fun H2 hv => ?_)⟩
    · obtain ⟨hG2, k2⟩ := hv
      have il : i < 2 := (List.getElem?_eq_some_iff.mp hi).1
      obtain ⟨yy, hyy, hT, hS⟩ : ∃ yy : St3, ([wS r x y, wS r x z] : List Int)[i]? = some (wS r x yy) ∧ Tri H u yy ∧ StOk r x yy := by
        match i, il, hi with
        | 0, _, hi => cases hi; exact ⟨y, rfl, h1, s1⟩
        | 1, _, hi => cases hi; exact ⟨z, rfl, h2, s2⟩
      refine ⟨rfl, _, rfl, _, rfl, _, rfl, v, u, r, x, yy, rfl, RulesW.mono _ _ _ _ (TupK.ext k2) hR, ok, hx, Tri.mono _ _ _ _ (TupK.ext k2) hT, hS, fun H3 k3 => ?_⟩
      refine ⟨_, k3 _ _ hG2, szLt (by rw [List.length_map, List.length_take]; omega), ?_, (k2.trans k3).put hG⟩
      rw [List.take_add_one, hyy, List.map_append]
      exact upd_same
    obtain ⟨hG2, k2⟩ := hv
    have hG2 : H2 G = some (.lst (([wS r x y, wS r x z] : List Int).map V.int)) := hG2
    refine ⟨G, _, rfl, SqL.of hG2, _, _, rfl, rfl, ?_⟩
    rw [show ([wS r x y, wS r x z] : List Int).sum = wS r x y + wS r x z by rw [List.sum_cons, List.sum_cons, List.sum_nil, Int.add_zero]]
    exact q _ k2
abbrev CCrWN (P : Program) (w : World) (K : PySem.W.Frag) (mg : Str → Option Value) (base : Heap) : Prop := CaN P w K mg base 3 "crossed_worth" ["rules", "string", "folding", "cross"] 3 ["cross"] (permW [0, 1, 2, 3] []) spCrW
abbrev CCrWE (P : Program) (w : World) (K : PySem.W.Frag) (mg : Str → Option Value) (base : Heap) : Prop := CaE P w K mg base 3 "crossed_worth" ["rules", "string", "folding", "cross"] [.int 0] spCrW
abbrev CCrWK (P : Program) (w : World) (K : PySem.W.Frag) (mg : Str → Option Value) (base : Heap) : Prop := CaK P w K mg base 3 "crossed_worth" ["rules", "string", "folding", "cross"] ["cross", "folding", "string", "rules"] (permW [3, 2, 1, 0] []) spCrW
end
end Pf


namespace Pf
open PySem PySem.Spec PyProof.Rows L2
/-! ### all stretches -/
def okk (r : Rl) (x : Str) (i j : Int) (k : Nat) : Bool := decide (i + (k : Int) < j - (k : Int)) && mayC r x (i + (k : Int)) (j - (k : Int))
def runF (r : Rl) (x : Str) (i j : Int) : Nat → Nat → Nat
  | 0, k => k
  | f + 1, k => if okk r x i j k = true then runF r x i j f (k + 1) else k
theorem runF_is {r : Rl} {x : Str} {i j : Int} {c : Nat} : ∀ (f k : Nat), (∀ m, k ≤ m → m < c → okk r x i j m = true) → okk r x i j c = false → c ≤ k + f → k ≤ c → runF r x i j f k = c
  | 0, k, _, _, h1, h2 => by
    unfold runF
    omega
  | f + 1, k, h, hc, h1, h2 => by
    unfold runF
    by_cases e : k = c
    · subst e
      rw [hc, if_neg Bool.false_ne_true]
    · rw [if_pos (h k (Nat.le_refl _) (by omega))]
      exact runF_is f (k + 1) (fun m a b => h m (by omega) b) hc (by omega) (by omega)
theorem runF_ok {r : Rl} {x : Str} {i j : Int} {m : Nat} : ∀ (f k : Nat), k ≤ m → m < runF r x i j f k → okk r x i j m = true
  | 0, k, h1, h2 => by
    unfold runF at h2
    omega
  | f + 1, k, h1, h2 => by
    unfold runF at h2
    by_cases e : okk r x i j k = true
    · rw [if_pos e] at h2
      by_cases e2 : k = m
      · rw [← e2]
        exact e
      · exact runF_ok f (k + 1) (by omega) h2
    · rw [if_neg e] at h2
      omega
def stAt (r : Rl) (x : Str) (i j : Int) : List St3 := (List.range (runF r x i j 7 0)).map fun k : Nat => (i, j, (k : Int) + 1)
def stI (r : Rl) (x : Str) (i : Int) : List St3 := (List.range ((x.length : Int) - (i + 1)).toNat).flatMap fun t : Nat => stAt r x i (i + 1 + (t : Int))
def stL (r : Rl) (x : Str) : List St3 := (List.range x.length).flatMap fun i : Nat => stI r x (0 + (i : Int))
theorem flat_succ {β : Type} (f : Nat → List β) (t : Nat) : (List.range (t + 1)).flatMap f = (List.range t).flatMap f ++ f t := by
  rw [List.range_succ, List.flatMap_append]
  simp
theorem runF_le {r : Rl} {x : Str} {i j : Int} : ∀ (f k : Nat), runF r x i j f k ≤ k + f
  | 0, k => by
    unfold runF
    omega
  | f + 1, k => by
    unfold runF
    split
    · have := runF_le (r := r) (x := x) (i := i) (j := j) f (k + 1)
      omega
    · omega
theorem stAt_ok {r : Rl} {x : Str} {i j : Int} (i0 : 0 ≤ i) (j1 : j < x.length) (hx : x.length ≤ 12) {y : St3} (h : y ∈ stAt r x i j) : StOk r x y ∧ y.1 = i ∧ y.2.1 = j ∧ 1 ≤ y.2.2 ∧ y.1 + y.2.2 ≤ y.2.1 - y.2.2 + 1 := by
  obtain ⟨k, hk, rfl⟩ := List.mem_map.mp h
  have hk := List.mem_range.mp hk
  have hkb := runF_le (r := r) (x := x) (i := i) (j := j) 7 0
  have hok : ∀ m, m ≤ k → okk r x i j m = true := fun m hm => runF_ok 7 0 (Nat.zero_le _) (by omega)
  have hkk := hok k (Nat.le_refl _)
  unfold okk at hkk
  rw [Bool.and_eq_true] at hkk
  have hlt : i + (k : Int) < j - (k : Int) := of_decide_eq_true hkk.1
  refine ⟨⟨by show 0 ≤ (k : Int) + 1; omega, by show (k : Int) + 1 ≤ 12; omega, fun p hp => ?_⟩, rfl, rfl, by show 1 ≤ (k : Int) + 1; omega, by show i + ((k : Int) + 1) ≤ j - ((k : Int) + 1) + 1; omega⟩
  unfold prsOf at hp
  obtain ⟨m, hm, rfl⟩ := List.mem_map.mp hp
  have hm := List.mem_range.mp hm
  have hm : m < ((k : Int) + 1).toNat := hm
  have hmk := hok m (by omega)
  unfold okk at hmk
  rw [Bool.and_eq_true] at hmk
  have hml : i + (m : Int) < j - (m : Int) := of_decide_eq_true hmk.1
  refine ⟨?_, ?_, ?_, ?_, hmk.2⟩
  · show 0 ≤ i + (m : Int)
    omega
  · show i + (m : Int) < x.length
    omega
  · show 0 ≤ j - (m : Int)
    omega
  · show j - (m : Int) < x.length
    omega
theorem stL_ok {r : Rl} {x : Str} (hx : x.length ≤ 12) {y : St3} (h : y ∈ stL r x) : StOk r x y ∧ 0 ≤ y.1 ∧ y.1 < y.2.1 ∧ y.2.1 < x.length ∧ 1 ≤ y.2.2 ∧ y.2.2 ≤ 6 := by
  obtain ⟨i, hi, h⟩ := List.mem_flatMap.mp h
  have hi := List.mem_range.mp hi
  obtain ⟨t, ht, h⟩ := List.mem_flatMap.mp h
  have ht := List.mem_range.mp ht
  have := stAt_ok (r := r) (x := x) (i := 0 + (i : Int)) (j := 0 + (i : Int) + 1 + (t : Int)) (by omega) (by omega) hx h
  exact ⟨this.1, by omega, by omega, by omega, by omega, by omega⟩
theorem stL_len (r : Rl) {x : Str} (hx : x.length ≤ 12) : (stL r x).length ≤ 462 := by
  have h1 : ∀ i : Nat, (stI r x (0 + (i : Int))).length ≤ 7 * (11 - i) := fun i => by
    unfold stI
    have : ∀ n : Nat, ((List.range n).flatMap fun t : Nat => stAt r x (0 + (i : Int)) (0 + (i : Int) + 1 + (t : Int))).length ≤ 7 * n := by
      intro n
      induction n with
      | zero => exact Nat.zero_le _
      | succ n ih =>
        rw [flat_succ, List.length_append]
        have : (stAt r x (0 + (i : Int)) (0 + (i : Int) + 1 + (n : Int))).length ≤ 7 := by
          unfold stAt
          rw [List.length_map, List.length_range]
          exact runF_le 7 0
        omega
    have := this ((x.length : Int) - (0 + (i : Int) + 1)).toNat
    omega
  unfold stL
  have h2 : ∀ n : Nat, ((List.range n).flatMap fun i : Nat => stI r x (0 + (i : Int))).length ≤ 7 * ((List.range n).map fun i => 11 - i).sum := by
    intro n
    induction n with
    | zero => exact Nat.zero_le _
    | succ n ih =>
      rw [flat_succ, List.length_append, List.range_succ, List.map_append, List.sum_append]
      have := h1 n
      simp only [List.map_cons, List.map_nil, List.sum_cons, List.sum_nil]
      omega
  have h3 : ∀ n : Nat, n < 13 → ((List.range n).map fun i => 11 - i).sum ≤ 66 := by decide
  have := h2 x.length
  have := h3 x.length (by omega)
  omega
section
variable {P : Program} {w : World} {K : PySem.W.Frag} {mg : Str → Option Value} {base : Heap}
end
end Pf


/-! min(xs, default=d) of a list of whole numbers, which may be empty -/
namespace Pf
open PySem PySem.Spec PyProof.Rows L2
theorem minD_args (a v : Value) : argsOk "min" ⟨[a], [(Str.ofString "default", v)]⟩ := by unfold argsOk; kernel_rfl
section
variable {prog : Program} {w : World} {A : Around} {R : Result → Shared → Prop} {I S : Addr} {fp wr : List Addr} {n : Nat} {P : Nat → Value → Prop} {St : Nat → Heap → Prop} {d : Value} {bt : Nat → Nat → Bool}
abbrev mlName : (toString "min" ++ toString ".loop" : String) = "min.loop" := by decide
/-- what the loop holds behind j of them: the best so far, twice -/
def Hold (h : Heap) (S : Addr) (l : List Value) : Prop := ∃ c, h.get? S = some { cls := .type "list", dict := none, data := .seq l.toArray c, slots := #[] }
theorem minD_loop (W : Walks prog w A.in1 I fp wr n P St) (hcmp : CmpOf prog w A.in1 .Lt P bt) (hSf : S ∉ fp) : ∀ (k j : Nat) (s : Shared) (vb : Value), n = j + 1 + k → St (j + 1) s.heap → P (argBest bt j) vb → Hold s.heap S [vb, vb] →
    (∀ v h' tk, P (argBest bt (n - 1)) v → (∀ b o, b ∉ wr → b ≠ S → s.heap.get? b = some o → h'.get? b = some o) → R (.ok (.ret v)) { s with heap := h', toks := tk }) →
    codeAny (model prog w) A (.builtin "min.loop" ⟨[.ref I, .none, .ref S], [(Str.ofString "default", d)]⟩) R s := by
  have hSw : S ∉ wr := fun h => hSf (W.sub _ h)
  intro k
  induction k with
  | zero =>
    intro j s vb hn hst hb ⟨c, hS⟩ hR
    refine codeAny_builtin PySem.F.entry_min_loop ?_
    rw [Around.under_plainId PySem.F.plain_min_loop _]
    show wpAny _ A.in1 (seqItems? (.ref S) >>= _) _ _ s
    refine wpAny_bind (wpAny_seqItems hS rfl ?_)
    show wpAny _ A.in1 (tryCatch (pyNext (.ref I)) _ >>= _) _ _ s
    refine wpAny_bind (wpAny_tryCatch (W.done s _ _ ((show j + 1 = n by omega) ▸ hst) fun h' tk hk => ?_))
    show wpAny _ A.in1 (updateSeq S (fun _ => #[]) >>= _) _ _ _
    refine wpAny_bind (wpAny_updateSeq (hk S _ hSw hS) rfl (wpAny_bind (wpAny_letGo (wpAny_pure ?_))))
    exact hR vb _ tk ((show j = n - 1 by omega) ▸ hb) fun b o h1 h2 e => (Heap.get?_update_other _ _ (Ne.symm h2)).trans (hk b o h1 e)
  | succ k ih =>
    intro j s vb hn hst hb ⟨c, hS⟩ hR
    refine codeAny_builtin PySem.F.entry_min_loop ?_
    rw [Around.under_plainId PySem.F.plain_min_loop _]
    show wpAny _ A.in1 (seqItems? (.ref S) >>= _) _ _ s
    refine wpAny_bind (wpAny_seqItems hS rfl ?_)
    show wpAny _ A.in1 (tryCatch (pyNext (.ref I)) _ >>= _) _ _ s
    refine wpAny_bind (wpAny_tryCatch (W.item (j + 1) s _ _ (by omega) hst fun v h' tk hv hst' hk => ?_))
    have hS' := hk S _ hSw hS
    show wpAny _ A.in1 (tryCatch (holding [v, v] (richCompare .Lt v vb >>= _)) _ >>= _) _ _ _
    refine wpAny_bind (wpAny_tryCatch (wpAny_holding (wpAny_bind (hcmp (j + 1) (argBest bt j) v vb _ _ _ hv hb ?_))))
    refine wpAny_bind (wpAny_holding (wpAny_truthy_bool ?_))
    refine wpAny_bind (wpAny_letGo (wpAny_pure ?_))
    by_cases e : bt (j + 1) (argBest bt j) = true
    · rw [if_pos e]
      refine wpAny_bind (wpAny_updateSeq hS' rfl (wpAny_bind (wpAny_letGo ?_)))
      rw [mlName]
      refine wpAny_pure ⟨plainId_quiet PySem.F.plain_min_loop _, ih (j + 1) _ v (by omega) (W.frame _ _ _ hst' fun b hbf o e1 => ?_) ?_ ⟨_, Heap.get?_update_self _ hS' rfl⟩ fun v' h2 tk2 hv2 hk2 => ?_⟩
      · exact (Heap.get?_update_other _ _ (fun h : S = b => hSf (by rw [h]; exact hbf))).trans e1
      · unfold argBest
        rw [if_pos e]
        exact hv
      · exact hR v' h2 tk2 hv2 fun b o h1 h3 e1 => hk2 b o h1 h3 ((Heap.get?_update_other _ _ (Ne.symm h3)).trans (hk b o h1 e1))
    · rw [if_neg e]
      refine wpAny_bind (wpAny_letGo ?_)
      rw [mlName]
      refine wpAny_pure ⟨plainId_quiet PySem.F.plain_min_loop _, ih (j + 1) _ vb (by omega) hst' ?_ ⟨c, hS'⟩ fun v' h2 tk2 hv2 hk2 => ?_⟩
      · unfold argBest
        rw [if_neg e]
        exact hb
      · exact hR v' h2 tk2 hv2 fun b o h1 h3 e1 => hk2 b o h1 h3 (hk b o h1 e1)
/-- the first turn: the default where there is none -/
theorem minD_first (W : Walks prog w A.in1 I fp wr n P St) (hcmp : CmpOf prog w A.in1 .Lt P bt) (hSf : S ∉ fp) {s : Shared} (hst : St 0 s.heap) (hS : Hold s.heap S [])
    (h0 : n = 0 → ∀ h' tk, (∀ b o, b ∉ wr → b ≠ S → s.heap.get? b = some o → h'.get? b = some o) → R (.ok (.ret d)) { s with heap := h', toks := tk })
    (hR : 0 < n → ∀ v h' tk, P (argBest bt (n - 1)) v → (∀ b o, b ∉ wr → b ≠ S → s.heap.get? b = some o → h'.get? b = some o) → R (.ok (.ret v)) { s with heap := h', toks := tk }) :
    codeAny (model prog w) A (.builtin "min.loop" ⟨[.ref I, .none, .ref S], [(Str.ofString "default", d)]⟩) R s := by
  have hSw : S ∉ wr := fun h => hSf (W.sub _ h)
  obtain ⟨c, hS⟩ := hS
  refine codeAny_builtin PySem.F.entry_min_loop ?_
  rw [Around.under_plainId PySem.F.plain_min_loop _]
  show wpAny _ A.in1 (seqItems? (.ref S) >>= _) _ _ s
  refine wpAny_bind (wpAny_seqItems hS rfl ?_)
  show wpAny _ A.in1 (tryCatch (pyNext (.ref I)) _ >>= _) _ _ s
  by_cases hn : n = 0
  · refine wpAny_bind (wpAny_tryCatch (W.done s _ _ (hn ▸ hst) fun h' tk hk => ?_))
    show wpAny _ A.in1 (rule _ >>= _) _ _ _
    refine wpAny_bind (wpAny_rule ?_)
    exact wpAny_pure (h0 hn _ _ fun b o h1 _ e => hk b o h1 e)
  · refine wpAny_bind (wpAny_tryCatch (W.item 0 s _ _ (by omega) hst fun v h' tk hv hst' hk => ?_))
    have hS' := hk S _ hSw hS
    show wpAny _ A.in1 (updateSeq S (fun _ => #[v, v]) >>= _) _ _ _
    refine wpAny_bind (wpAny_updateSeq hS' rfl ?_)
    rw [mlName]
    refine wpAny_pure ⟨plainId_quiet PySem.F.plain_min_loop _, minD_loop W hcmp hSf (n - 1) 0 _ v (by omega) (W.frame _ _ _ hst' fun b hbf o e1 => ?_) hv ⟨_, Heap.get?_update_self _ hS' rfl⟩ fun v' h2 tk2 hv2 hk2 => ?_⟩
    · exact (Heap.get?_update_other _ _ (fun h : S = b => hSf (by rw [h]; exact hbf))).trans e1
    · exact hR (by omega) v' h2 tk2 hv2 fun b o h1 h3 e1 => hk2 b o h1 h3 ((Heap.get?_update_other _ _ (Ne.symm h3)).trans (hk b o h1 e1))
end
section
variable {prog : Program} {w : World} {A : Around} {E : Value → Shared → Prop} {s : Shared} {l : Addr} {its : List Value} {ns : List Int} {d : Value} {Q : Value → Shared → Prop}
theorem minD_raw (hh : A.handled = none) (hl : s.heap.IsList l its.toArray) (hi : IntsAre its ns)
    (h0 : ns = [] → ∀ h' tk, (∀ b o, s.heap.get? b = some o → h'.get? b = some o) → Q d { s with heap := h', toks := tk })
    (h : ∀ h' tk M t', (∀ b o, s.heap.get? b = some o → h'.get? b = some o) → M ∈ ns → (∀ a, a ∈ ns → M ≤ a) → Q (.int M t') { s with heap := h', toks := tk }) :
    wpAny (model prog w) A (call (.builtin "min") [.ref l] [(Str.ofString "default", d)]) Q E s := by
  obtain ⟨xs, e⟩ := hi.allInts.items
  have hn : numsOf (intItems xs).toList = ns := by rw [← e]; exact hi.numsOf
  rw [nums_intItems] at hn
  subst hn
  rw [e] at hl
  have hlen : (xs.toList.map (·.1)).length = xs.size := by rw [List.length_map, Array.length_toList]
  refine kmk_tree PySem.F.kind_min PySem.F.plain_min PySem.F.entry_min (minD_args _ _) ?_
  show wpAny _ A.in1 (Builtin.Builtins.bindParams "min" ["key", "default"] 0 ⟨[], [(Str.ofString "default", d)]⟩ >>= _) _ _ s
  refine wpAny_bind (wpAny_of_eq (show Builtin.Builtins.bindParams "min" ["key", "default"] 0 ⟨[], [(Str.ofString "default", d)]⟩ = pure [none, some d] from rfl) ?_)
  refine wpAny_bind (wpAny_pure ?_)
  refine wpAny_bind (iter_intList hl fun s₂ e2 st hfp hlI => ?_)
  subst e2
  refine wpAny_bind (wpAny_newObj_type ?_)
  rw [mlName]
  have hsz : (intItems xs).size = xs.size := by simp [intItems]
  refine wpAny_pure ⟨plainId_quiet PySem.F.plain_min_loop _, minD_first (bt := fun i j => decide (numAt xs i < numAt xs j)) (Walks.list (A := A.in1) hh _ l hlI (intItems xs)) (CmpOf.ints_lt (numAt xs) (fun _ _ => intItems_at)) (fun hm => Nat.lt_irrefl _ (hfp _ hm)) ?_ ⟨_, Heap.get?_push_size _ rfl⟩ (fun hn h' tk hk => ?_) (fun hn v h' tk hv hk => ?_)⟩
  · exact (Walks.list (prog := prog) (w := w) (A := A.in1) hh _ l hlI (intItems xs)).frame _ _ _ st fun b _ o e => Heap.get?_push_of_some _ e
  · refine h0 ?_ h' tk (old_kept fun b o hb e1 => hk b o hb (Nat.ne_of_lt (Heap.lt_size e1)) (Heap.get?_push_of_some _ e1))
    rw [hsz] at hn
    exact List.eq_nil_of_length_eq_zero (by rw [hlen]; exact hn)
  · obtain ⟨t, rfl⟩ := intItems_at hv
    rw [hsz] at hn
    obtain ⟨h1, h2⟩ := argBest_lt (numAt xs) ((intItems xs).size - 1)
    rw [hsz] at h1 h2 ⊢
    refine h h' tk _ t (old_kept fun b o hb e1 => hk b o hb (Nat.ne_of_lt (Heap.lt_size e1)) (Heap.get?_push_of_some _ e1)) ?_ fun a ha => ?_
    · rw [numAt_eq]
      exact PySem.getD_mem (by rw [hlen]; omega)
    · obtain ⟨j, hj, rfl⟩ := mem_getD ha
      rw [hlen] at hj
      rw [← numAt_eq]
      exact h2 j (by omega)
end
/-- min(xs, default=d) -/
def rMinD (K : PySem.W.Frag) : List V → List V → Hp → VK → Prop := fun vs zs H Q => ∃ (a : Addr) (ns : List Int) (z : V), vs = [V.ref a] ∧ zs = [z] ∧ SqL K H a (ns.map V.int) ∧ (ns = [] → Q z H) ∧ ∀ m, m ∈ ns → (∀ y, y ∈ ns → m ≤ y) → Q (.int m) H
theorem cr_minD {X : Cx} (hc : X.calm = true) : CallRK X (.builtin "min") [Str.ofString "default"] (rMinD X.K) := by
  intro pins s σ H xs zs us ws Q I r rz h
  obtain ⟨a, ns, z, rfl, rfl, hs, q0, q⟩ := h
  obtain ⟨its, rv, hl, _⟩ := I.list hs
  rw [Vals.ref1 r]
  obtain ⟨u, rfl, ru⟩ : ∃ u, ws = [u] ∧ RelV z u := by
    cases rz with
    | cons h t => cases t with
      | nil => exact ⟨_, rfl, h⟩
  exact minD_raw (I.ok.hd hc) hl.isList rv.ints (fun e h' tk hk => ⟨z, H, I.kept hk, ru, q0 e⟩) fun h' tk m t' hk h1 h2 => ⟨.int _, H, I.kept hk, ⟨_, rfl⟩, q m h1 h2⟩
theorem minL (K : PySem.W.Frag) {X : Cx} (hc : X.calm = true) (h : X.K = K := by rfl) : CallR X (.builtin "min") (rMin K) := h ▸ cr_min hc
theorem minD (K : PySem.W.Frag) {X : Cx} (hc : X.calm = true) (h : X.K = K := by rfl) : CallRK X (.builtin "min") [Str.ofString "default"] (rMinD K) := h ▸ cr_minD hc
end Pf


namespace Pf
open PySem PySem.Spec PyProof.Rows L2
abbrev scCr : Scope := { kind := .function, names := [(".0", .local), ("_law_some", .local), ("_law_pairs_of", .globalImplicit)], isGenerator := false, isCoroutine := false }
theorem maxL (K : PySem.W.Frag) {X : Cx} (hc : X.calm = true) (h : X.K = K := by rfl) : CallR X (.builtin "max") (rMax K) := h ▸ cr_max hc
theorem ne_old0 {p l : Addr} {H : Hp} {o : HO} (h : H p = some o) (hl : H l = none) : l ≠ p := fun z => by
  rw [z, h] at hl
  cases hl
/-! ### whether two stretches cross -/
def crB (y z : St3) : Bool := decide (y.1 + y.2.2 - 1 < z.1) && decide (z.1 + z.2.2 - 1 < y.2.1 - y.2.2 + 1) && decide (y.2.1 < z.2.1 - z.2.2 + 1)
/-- a list of numbers elsewhere than at G -/
def NsAt (g : Int × Int → Int) (G : Addr) (H : Hp) (v : V) (y : St3) : Prop := ∃ l, v = .ref l ∧ l ≠ G ∧ H l = some (.lst (((prsOf y).map g).map V.int))
theorem NsAt.put {g : Int × Int → Int} {G : Addr} {H H' : Hp} {v : V} {y : St3} {o : HO} (h : NsAt g G H v y) (k : Ext H H') : NsAt g G (upd H' G o) v y := by
  obtain ⟨l, e, n, h1⟩ := h
  exact ⟨l, e, n, by rw [upd_ne n]; exact k _ _ h1⟩
theorem NsAt.ext {g : Int × Int → Int} {G : Addr} {H H' : Hp} {v : V} {y : St3} (h : NsAt g G H v y) (k : Ext H H') : NsAt g G H' v y := by
  obtain ⟨l, e, n, h1⟩ := h
  exact ⟨l, e, n, k _ _ h1⟩
theorem prs_mem {y : St3} {k : Nat} (h : k < y.2.2.toNat) : (y.1 + (k : Int), y.2.1 - (k : Int)) ∈ prsOf y := List.mem_of_getElem? (prs_get h)
theorem prs_in {y : St3} {p : Int × Int} (h : p ∈ prsOf y) : y.1 ≤ p.1 ∧ p.1 ≤ y.1 + y.2.2 - 1 ∧ y.2.1 - y.2.2 + 1 ≤ p.2 ∧ p.2 ≤ y.2.1 := by
  unfold prsOf at h
  obtain ⟨k, hk, rfl⟩ := List.mem_map.mp h
  have hk := List.mem_range.mp hk
  refine ⟨?_, ?_, ?_, ?_⟩
  · show y.1 ≤ y.1 + (k : Int)
    omega
  · show y.1 + (k : Int) ≤ _
    omega
  · show _ ≤ y.2.1 - (k : Int)
    omega
  · show y.2.1 - (k : Int) ≤ _
    omega
theorem max_f {y : St3} (h1 : 1 ≤ y.2.2) {m : Int} (hm : m ∈ (prsOf y).map (·.1)) (hx : ∀ w ∈ (prsOf y).map (·.1), w ≤ m) : m = y.1 + y.2.2 - 1 := by
  obtain ⟨p, hp, rfl⟩ := List.mem_map.mp hm
  have a := prs_in hp
  have b := hx _ (List.mem_map.mpr ⟨_, prs_mem (y := y) (k := y.2.2.toNat - 1) (by omega), rfl⟩)
  have b : y.1 + ((y.2.2.toNat - 1 : Nat) : Int) ≤ p.1 := b
  omega
theorem min_f {y : St3} (h1 : 1 ≤ y.2.2) {m : Int} (hm : m ∈ (prsOf y).map (·.1)) (hx : ∀ w ∈ (prsOf y).map (·.1), m ≤ w) : m = y.1 := by
  obtain ⟨p, hp, rfl⟩ := List.mem_map.mp hm
  have a := prs_in hp
  have b := hx _ (List.mem_map.mpr ⟨_, prs_mem (y := y) (k := 0) (by omega), rfl⟩)
  have b : p.1 ≤ y.1 + ((0 : Nat) : Int) := b
  omega
theorem max_l {y : St3} (h1 : 1 ≤ y.2.2) {m : Int} (hm : m ∈ (prsOf y).map (·.2)) (hx : ∀ w ∈ (prsOf y).map (·.2), w ≤ m) : m = y.2.1 := by
  obtain ⟨p, hp, rfl⟩ := List.mem_map.mp hm
  have a := prs_in hp
  have b := hx _ (List.mem_map.mpr ⟨_, prs_mem (y := y) (k := 0) (by omega), rfl⟩)
  have b : y.2.1 - ((0 : Nat) : Int) ≤ p.2 := b
  omega
theorem min_l {y : St3} (h1 : 1 ≤ y.2.2) {m : Int} (hm : m ∈ (prsOf y).map (·.2)) (hx : ∀ w ∈ (prsOf y).map (·.2), m ≤ w) : m = y.2.1 - y.2.2 + 1 := by
  obtain ⟨p, hp, rfl⟩ := List.mem_map.mp hm
  have a := prs_in hp
  have b := hx _ (List.mem_map.mpr ⟨_, prs_mem (y := y) (k := y.2.2.toNat - 1) (by omega), rfl⟩)
  have b : p.2 ≤ y.2.1 - ((y.2.2.toNat - 1 : Nat) : Int) := b
  omega
section
variable {P : Program} {w : World} {K : PySem.W.Frag} {mg : Str → Option Value} {base : Heap}
end
end Pf


namespace Pf
open PySem PySem.Spec PyProof.Rows L2
/-! ### sorted of things told by data -/
def SG {β : Type} (d : β → PyData) (L : List β) : List β := L.mergeSort (PySem.W.dataLe false d)
theorem SG_perm {β : Type} (d : β → PyData) (L : List β) : (SG d L).Perm L := List.mergeSort_perm _ _
theorem sort_g {K : PySem.W.Frag} {β : Type} {R : Hp → V → β → Prop} {d : β → PyData} (m : Mono R) {H : Hp} {l : Addr} {us : List V} {L : List β} {Q : VK} (dp : ∀ v b, R H v b → Dp K H v (d b)) (dep : ∀ b, (d b).depth ≤ 50) (al : ∀ a b, PySem.W.alike (d a) (d b) = true) (tu : ∀ b, ∃ y r, d b = .tuple (y :: r)) (hL : H l = some (.lst us)) (hP : Paired (R H) us L) (q : ∀ (p : Addr) (ws : List V) (H' : Hp), H p = none → H' p = some (.lst ws) → Paired (R H') ws (SG d L) → Ext H H' → Q (.ref p) H') : rSortD K [.ref l] H Q := by
  have hz := paired_len hP
  have e1 : (us.zip L).map (·.1) = us := List.map_fst_zip (by omega)
  have e2 : (us.zip L).map (·.2) = L := List.map_snd_zip (by omega)
  have hall : ∀ b ∈ us.zip L, R H b.1 b.2 := by
    clear e1 e2 hz q hL
    induction hP with
    | nil => intro b hb; cases hb
    | cons r _ ih =>
      intro b hb
      rw [List.zip_cons_cons] at hb
      rcases List.mem_cons.mp hb with rfl | hb
      · exact r
      · exact ih b hb
  refine ⟨V × β, fun b => b.1, fun b => d b.2, l, us.zip L, rfl, SqL.of (by rw [e1]; exact hL), fun b hb => ⟨dp _ _ (hall b hb), dep _⟩, ?_, ?_, fun p hp => ?_⟩
  · intro d1 h1 d2 h2
    obtain ⟨b1, _, rfl⟩ := List.mem_map.mp h1
    obtain ⟨b2, _, rfl⟩ := List.mem_map.mp h2
    exact al _ _
  · refine .inl fun e he => ?_
    obtain ⟨b1, _, rfl⟩ := List.mem_map.mp he
    exact tu _
  · have x1 := Ext.new (o := .lst (((us.zip L).mergeSort (PySem.W.dataLe false fun b => d b.2)).map fun b => b.1)) hp
    refine q p _ _ hp upd_same ?_ x1
    have es : ((us.zip L).mergeSort (PySem.W.dataLe false fun b => d b.2)).map (·.2) = SG d L := by
      have hm := List.map_mergeSort (r := PySem.W.dataLe false fun b : V × β => d b.2) (s := PySem.W.dataLe false d) (f := fun b : V × β => b.2) (l := us.zip L) (fun a _ b _ => rfl)
      rw [e2] at hm
      exact hm
    rw [← es]
    have hm : ∀ b ∈ (us.zip L).mergeSort (PySem.W.dataLe false fun b => d b.2), R H b.1 b.2 := fun b hb => hall b ((List.mergeSort_perm _ _).mem_iff.mp hb)
    generalize (us.zip L).mergeSort (PySem.W.dataLe false fun b => d b.2) = S at hm x1
    have : ∀ {T : List (V × β)} {H2 : Hp}, (∀ b ∈ T, R H b.1 b.2) → Ext H H2 → Paired (R H2) (T.map (·.1)) (T.map (·.2)) := by
      intro T H2 hT hx
      induction T with
      | nil => exact .nil
      | cons b T ih => exact .cons (m _ _ _ _ (TupK.ext hx) (hT b (List.mem_cons_self ..))) (ih fun c hc => hT c (List.mem_cons_of_mem _ hc))
    exact this hm x1
/-! ### crossed foldings with their worths -/
abbrev Cr := Int × St3 × St3
def dTri (y : St3) : PyData := .tuple [.int y.1, .int y.2.1, .int y.2.2]
def dCr (c : Cr) : PyData := .tuple [.int c.1, .tuple [dTri c.2.1, dTri c.2.2]]
def CfAt (H : Hp) (v : V) (c : St3 × St3) : Prop := ∃ (b : Addr) (v1 v2 : V), v = .ref b ∧ H b = some (.tup [v1, v2]) ∧ Tri H v1 c.1 ∧ Tri H v2 c.2
theorem CfAt.mono : Mono CfAt := fun H H' v x k ⟨b, v1, v2, e, h1, h2, h3⟩ => ⟨b, v1, v2, e, k.1 _ _ h1, Tri.mono _ _ _ _ k h2, Tri.mono _ _ _ _ k h3⟩
def CrAt (H : Hp) (v : V) (c : Cr) : Prop := ∃ (a : Addr) (u : V), v = .ref a ∧ H a = some (.tup [.int c.1, u]) ∧ CfAt H u c.2
theorem CrAt.mono : Mono CrAt := fun H H' v x k ⟨a, u, e, h1, h2⟩ => ⟨a, u, e, k.1 _ _ h1, CfAt.mono _ _ _ _ k h2⟩
theorem dp_tri {K : PySem.W.Frag} {H : Hp} {v : V} {y : St3} (h : Tri H v y) : Dp K H v (dTri y) := by
  obtain ⟨a, rfl, h⟩ := h
  exact .tup (SqT.of h) (.cons (.int _) (.cons (.int _) (.cons (.int _) .nil)))
theorem dp_cf {K : PySem.W.Frag} {H : Hp} {v : V} {c : St3 × St3} (h : CfAt H v c) : Dp K H v (.tuple [dTri c.1, dTri c.2]) := by
  obtain ⟨b, v1, v2, rfl, h1, h2, h3⟩ := h
  exact .tup (SqT.of h1) (.cons (dp_tri h2) (.cons (dp_tri h3) .nil))
theorem dp_cr {K : PySem.W.Frag} {H : Hp} {v : V} {c : Cr} (h : CrAt H v c) : Dp K H v (dCr c) := by
  obtain ⟨a, u, rfl, h1, h2⟩ := h
  exact .tup (SqT.of h1) (.cons (.int _) (.cons (dp_cf h2) .nil))
theorem dpCrs {K : PySem.W.Frag} {H : Hp} : ∀ {vs : List V} {L : List Cr}, Paired (CrAt H) vs L → DpAll K H vs (L.map dCr)
  | _, _, .nil => .nil
  | _, _, .cons h t => .cons (dp_cr h) (dpCrs t)
theorem dep_cr (c : Cr) : (dCr c).depth ≤ 50 := by
  simp [dCr, dTri, PyData.depth, PyData.depthAll]
theorem alike_cr (a b : Cr) : PySem.W.alike (dCr a) (dCr b) = true := by
  simp [dCr, dTri, PySem.W.alike, PySem.W.alikeAll]
def mkC (r : Rl) (x : Str) (by' : Int) (y z : St3) : Cr := (by' + wS r x y + wS r x z, y, z)
def crI (r : Rl) (x : Str) (by' : Int) (S : List St3) (y : St3) : List Cr := (S.filter (crB y)).map (mkC r x by' y)
def crL (r : Rl) (x : Str) (by' : Int) : List Cr := (stL r x).flatMap (crI r x by' (stL r x))
def SwAt (H : Hp) (v : V) (c : St3 × Int) : Prop := ∃ (a : Addr) (v1 : V), v = .ref a ∧ H a = some (.tup [v1, .int c.2]) ∧ Tri H v1 c.1
theorem SwAt.mono : Mono SwAt := fun H H' v x k ⟨a, u, e, h1, h2⟩ => ⟨a, u, e, k.1 _ _ h1, Tri.mono _ _ _ _ k h2⟩
theorem filt_take3 {w : List St3} {c : Nat} {y : St3} {p : St3 → Bool} (h : w[c]? = some y) : (w.take (c + 1)).filter p = (w.take c).filter p ++ (if p y = true then [y] else []) := by
  rw [List.take_add_one, h, List.filter_append]
  congr 1
  by_cases e : p y = true
  · rw [if_pos e]
    exact List.filter_cons_of_pos e
  · rw [if_neg e]
    exact List.filter_cons_of_neg e
theorem cr_first {y z : St3} (hy : 1 ≤ y.2.2) (hz : 1 ≤ z.2.2) (h : crB y z = true) : y.1 < z.1 ∧ z.1 < y.2.1 ∧ y.2.1 < z.2.1 := by
  unfold crB at h
  rw [Bool.and_eq_true, Bool.and_eq_true] at h
  have h1 := of_decide_eq_true h.1.1
  have h2 := of_decide_eq_true h.1.2
  have h3 := of_decide_eq_true h.2
  omega
theorem crI_len (r : Rl) (x : Str) (by' : Int) (S : List St3) (y : St3) : (crI r x by' S y).length ≤ S.length := by
  unfold crI
  rw [List.length_map]
  exact List.length_filter_le _ _
section
variable {P : Program} {w : World} {K : PySem.W.Frag} {mg : Str → Option Value} {base : Heap}
end
end Pf


namespace Pf
open PySem PySem.Spec PyProof.Rows L2
theorem cut_head_le (x : Str) {m : Int} (m0 : 0 ≤ m) : ((cutS x none (some m)).length : Int) ≤ m := by
  obtain ⟨z, rfl⟩ : ∃ z : Nat, m = (z : Int) := ⟨m.toNat, by omega⟩
  have e1 : HT.sIx x.length x.length (some (z : Int)) = min z x.length := HT.sIx_nat _ _ _
  have e2 : (cutS x none (some (z : Int))).length ≤ z := by
    show (((x.cps.toList.drop (HT.sIx x.length 0 none)).take (HT.sIx x.length x.length (some (z : Int)) - HT.sIx x.length 0 none)).toArray).size ≤ z
    rw [List.size_toArray, List.length_take, e1]
    omega
  omega
section
variable {P : Program} {w : World} {K : PySem.W.Frag} {mg : Str → Option Value} {base : Heap}
abbrev s_law_crossing_page : Stmt := topS 37
theorem sc_law_crossing_page : FnScope ["_law_pen_here", "_law_code_here", "_law_upto", "_law_one", "_law_other", "_law_sizes", "_law_parts", "_law_found", "_law_part", "_law_spot", "_law_k"] ["_law_pen_here", "_law_code_here", "_law_upto"] (defScope s_law_crossing_page) :=
  ⟨rfl, rfl, rfl, by decide +kernel, rfl, by decide +kernel, by decide +kernel⟩
def spCPg : Sp := fun vs H Q _ => ∃ (p c : Addr) (v : V) (r : Rl) (m : Int) (n : Nat), vs = [.ref p, v, .int m] ∧ RulesAt H v r ∧ RlOk r ∧ OfP r ∧ 0 ≤ m ∧ m ≤ 12 ∧ Pen H p c n ∧ n + 100 < 1000000 ∧
  ∀ (x : Str) H', (x.length : Int) ≤ m → Of r.letters x → Kp p H H' → Pen H' p c (n + 100) → Q (.str x) H'
theorem ok_cpg {f : Addr} {fd : FuncData} (F : Fun K "_law_crossing_page" "_law_crossing_page" s_law_crossing_page f fd) (c_law_pick : CDraw P w K mg base) (c_law_page : CLetters P w K mg base) (mrange : mg "range" = none) (mlen : mg "len" = none) : FnOk P w K mg base CX0 3 f fd ["_law_pen_here", "_law_code_here", "_law_upto"] spCPg := by
  refine F.ok sc_law_crossing_page (fun vs H Q E h => ?_) (fun cdv A outer s H vs Q E hr h => ?_)
  · obtain ⟨p, c, v, r, m, n, rfl, _⟩ := h
    rfl
  · obtain ⟨p, c, v, r, m, n, rfl, hR, ok, ofp, m0, m12, hP, hn, q⟩ := h
    obtain ⟨a, vp, vl, vs, rfl, hA, ⟨ap, oz, pus, rfl, hp, hoz, hRp⟩, hvl, hvs⟩ := id hR
    refine ⟨_, (pss_cons (ps_if (PW.pt (pw_or (pt_cmpR (eqD K hr.units) (pe_ix (ixT K) (pv 1) pe_int (fun _ _ => rfl)) (pe_tup pa_nil) (nomark _)) (pw_or1 (pt_cmpR op_eq (pe_ca c_law_pick (hr.mono (by decide)) (by rfl) (pa_cons (pv 0) (pa_cons pe_int pa_nil))) pe_int (nomark _))))) (pss_one (ps_ret (pe_ca c_law_page (hr.mono (by decide)) (by rfl) (pa_cons (pv 0) (pa_cons (pv 1) (pa_cons (pv 2) pa_nil)))))) pss_nil)
      (pss_cons (ps_asg (pe_lc (own := [("_law_k", 10)]) (g := gName 10) (by rfl) sc_law_crossing_page.nd (pi_range1 (by rfl) mrange (pa_cons pe_int pa_nil)) (blkOk_by (own := [("_law_k", 10)]) (N := ["_law_pen_here", "_law_code_here", "_law_upto", "_law_one", "_law_other", "_law_sizes", "_law_parts", "_law_found", "_law_part", "_law_spot", "_law_k"]) (sc := defScope s_law_crossing_page) (by decide +kernel)) (fun _ _ _ _ _ => (pg_name (i := 10) sc_law_crossing_page.nd rfl (.inl rfl))) (fun _ _ _ _ _ => pts_nil) (fun _ _ _ _ _ => (pe_ix (ixT K) (pe_ix (ixT K) (pe_ix (ixT K) (pv 1) pe_int (fun _ _ => rfl)) (pe_ca c_law_pick (hr.mono (by decide)) (by rfl) (pa_cons (pv 0) (pa_cons (pe_callB (lenQ K) (by rfl) mlen (by decide +kernel) (pa_cons (pe_ix (ixT K) (pv 1) pe_int (fun _ _ => rfl)) pa_nil)) pa_nil))) (fun _ _ => rfl)) pe_int (fun _ _ => rfl)))) (pg_lst rfl (pgs_cons (pg_name (i := 3) sc_law_crossing_page.nd rfl (.inl rfl)) (pgs_cons (pg_name (i := 4) sc_law_crossing_page.nd rfl (.inl rfl)) pgs_nil))))
      (pss_cons (ps_set (i := 5) sc_law_crossing_page.nd rfl (.inl rfl) (pe_lst (pa_cons (pe_op op_add pe_int (pe_ca c_law_pick (hr.mono (by decide)) (by rfl) (pa_cons (pv 0) (pa_cons pe_int pa_nil)))) (pa_cons (pe_op op_add pe_int (pe_ca c_law_pick (hr.mono (by decide)) (by rfl) (pa_cons (pv 0) (pa_cons pe_int pa_nil)))) pa_nil))))
      (pss_cons (ps_set (i := 6) sc_law_crossing_page.nd rfl (.inl rfl) (pe_lst (pa_cons (pe_op op_repS (pe_ix ix_str (pv 3) pe_int (fun _ _ => rfl)) (pe_ix (ixL K) (pv 5) pe_int (fun _ _ => rfl))) (pa_cons (pe_op op_repS (pe_ix ix_str (pv 4) pe_int (fun _ _ => rfl)) (pe_ix (ixL K) (pv 5) pe_int (fun _ _ => rfl))) (pa_cons (pe_op op_repS (pe_ix ix_str (pv 3) pe_int (fun _ _ => rfl)) (pe_ix (ixL K) (pv 5) pe_int (fun _ _ => rfl))) (pa_cons (pe_op op_repS (pe_ix ix_str (pv 4) pe_int (fun _ _ => rfl)) (pe_ix (ixL K) (pv 5) pe_int (fun _ _ => rfl))) pa_nil))))))
      (pss_cons (ps_set (i := 7) sc_law_crossing_page.nd rfl (.inl rfl) pe_str)
      (pss_cons (ps_for PassesOwn.never rfl (pi_list (pv 6)) (pg_name (i := 8) sc_law_crossing_page.nd rfl (.inl rfl)) (pss_one (ps_set (i := 7) sc_law_crossing_page.nd rfl (.inl rfl) (pe_op op_add_str (pe_op op_add_str (pv 7) (pv 8)) (pe_op op_repS (pe_ix ix_str (pe_ix (ixT K) (pv 1) pe_int (fun _ _ => rfl)) (pe_ca c_law_pick (hr.mono (by decide)) (by rfl) (pa_cons (pv 0) (pa_cons (pe_callB call_len_str (by rfl) mlen (by decide +kernel) (pa_cons (pe_ix (ixT K) (pv 1) pe_int (fun _ _ => rfl)) pa_nil)) pa_nil))) (fun _ _ => rfl)) (pe_ix (ixL K) (pe_lst (pa_cons pe_int (pa_cons pe_int (pa_cons pe_int (pa_cons pe_int pa_nil))))) (pe_ca c_law_pick (hr.mono (by decide)) (by rfl) (pa_cons (pv 0) (pa_cons pe_int pa_nil))) (fun _ _ => rfl)))))))
      (pss_cons (ps_set (i := 9) sc_law_crossing_page.nd rfl (.inl rfl) (pe_ca c_law_pick (hr.mono (by decide)) (by rfl) (pa_cons (pv 0) (pa_cons (pe_op op_add (pe_callB call_len_str (by rfl) mlen (by decide +kernel) (pa_cons (pv 7) pa_nil)) pe_int) pa_nil))))
      (pss_cons (ps_if (pt_cmpR op_eq (pe_ca c_law_pick (hr.mono (by decide)) (by rfl) (pa_cons (pv 0) (pa_cons pe_int pa_nil))) pe_int (nomark _)) (pss_one (ps_set (i := 7) sc_law_crossing_page.nd rfl (.inl rfl) (pe_op op_add_str (pe_slice sl_str (pv 7) (po_some (pv 9)) po_none) (pe_slice sl_str (pv 7) po_none (po_some (pv 9)))))) pss_nil)
      (pss_one (ps_ret (pe_slice sl_str (pv 7) po_none (po_some (pv 2))))))))))))), ?_⟩
    have hl6 := ok.let6
    have hl1 := ok.let1
    have hpl := paired_len hRp
    have hp12 := ok.prs
    have na : a ≠ p := hP.tup hA
    have hF : FrzOf PairAt H (.ref ap) r.prs := ⟨ap, oz, pus, rfl, hp, hoz, hRp⟩
    refine if_byS (fun H5 => Kp p H H5 ∧ Pen H5 p c (n + 1)) (fun H5 => Kp p H H5 ∧ Pen H5 p c (n + 1) ∧ r.prs ≠ []) (fun Q q1 q2 => ?_) (fun H5 h5 => ?_) (fun H5 h5 => ?_)
    · refine ⟨_, rfl, a, _, 1, _, rfl, rfl, SqT.of hA, rfl, Nat.zero_le _, fun t4 ht4 => ?_⟩
      have x4 := Ext.new (o := .tup []) ht4
      have dp4 : Dp K (upd H t4 (.tup [])) (.ref ap) (.tuple (r.prs.map dPr)) := by
        obtain ⟨tp', oz', tus', e', htp', _, hTr'⟩ := FrzOf.mono PairAt.mono _ _ _ _ (TupK.ext x4) hF
        cases e'
        exact .tup (SqT.fz htp') (dpPairs hTr')
      refine ⟨.tuple (r.prs.map dPr), .tuple [], dp4, .tup (SqT.of upd_same) .nil, (sm_prs ok.prs ok.pr).shaped (by decide), by decide, _, rfl, ?_⟩
      have ee : PyData.eqv (.tuple (r.prs.map dPr)) (.tuple []) = r.prs.isEmpty := by
        cases r.prs with
        | nil => simp [PyData.eqv, PyData.eqvAll]
        | cons y l => simp [PyData.eqv, PyData.eqvAll]
      rw [ee]
      refine ite2 (fun e => ?_) (fun e => ?_)
      · exact q1 _ ⟨Kp.ext x4, (hP.ext x4).mono (by omega)⟩
      · have hne : r.prs ≠ [] := fun z => e (by rw [z]; rfl)
        refine ⟨_, rfl, p, c, 4, _, rfl, hP.ext x4, by omega, by decide, by decide, fun s3 H5 se sf k5 hP5 => ⟨rfl, _, rfl, ?_⟩⟩
        cases hb : decide (V.int s3 = V.int 0) with
        | true => exact q1 _ ⟨(Kp.ext x4).trans k5, hP5⟩
        | false => exact q2 _ ⟨(Kp.ext x4).trans k5, hP5, hne⟩
    · obtain ⟨k5, hP5⟩ := h5
      exact ⟨_, rfl, _, rfl, _, rfl, p, c, .ref a, r, m, _, rfl, RulesAt.mono _ _ _ _ (TupK.of k5 hP) hR, ok, ofp, m0, m12, hP5, by omega, fun x H6 hx hO k6 hP6 => q x H6 hx hO (k5.trans k6) (hP6.mono (by omega))⟩
    · obtain ⟨k5, hP5, hne⟩ := h5
      have hp0 : 0 < r.prs.length := List.length_pos_iff.mpr hne
      have pick : ∀ {H' : Hp} {d : Int}, Kp p H H' → 0 ≤ d → d < r.prs.length → ∃ (us : List V) (oz : Obj) (a1 : Addr) (t1 : Str × Int), H' ap = some (.frz oz (.tup us)) ∧ us.length = r.prs.length ∧ atI us d = some (.ref a1) ∧ H' a1 = some (.tup [.str t1.1, .int t1.2]) ∧ t1 ∈ r.prs := fun {H' d} k d0 d1 => by
        obtain ⟨tp', oz', us', e', h1, h2, h3⟩ := FrzOf.mono PairAt.mono _ _ _ _ (TupK.of k hP) hF
        cases e'
        have hl := paired_len h3
        obtain ⟨u, hu⟩ : ∃ u, us'[d.toNat]? = some u := ⟨_, List.getElem?_eq_getElem (by omega)⟩
        obtain ⟨t1, ht1, a1, rfl, ha1⟩ := paired_get h3 hu
        refine ⟨us', oz', a1, t1, h1, hl, ?_, ha1, List.mem_of_getElem? ht1⟩
        rw [atI_get d0 (by omega), ← hu, List.getElem?_eq_getElem]
      -- two pairs
      refine ⟨2, rfl, by decide, by decide, fun D hD => lc_range (lo := 0) (n := 2) (fun i H4 => ∃ ys : List Str, ys.length = i ∧ (∀ y ∈ ys, y.length = 2 ∧ Of r.letters y) ∧ H4 D = some (.lst (ys.map V.str)) ∧ Kp p H H4 ∧ Pen H4 p c (n + 1 + i)) ⟨[], rfl, (fun y h => by cases h), upd_same, k5.trans (Kp.new hD), (hP5.new hD).mono (by omega)⟩ (fun i H4 hi hv => ?_) (fun H4 hv => ?_)⟩
      · obtain ⟨ys, hyl, hyo, hL4, k4, hP4⟩ := hv
        have hA4 := k4 _ _ na hA
        obtain ⟨us0, oz0, _, _, hf0, hl0, _⟩ := pick (d := 0) k4 (Int.le_refl _) (by omega)
        refine ⟨rfl, _, rfl, a, _, 1, _, rfl, rfl, SqT.of hA4, rfl, _, rfl, _, rfl, a, _, 1, _, rfl, rfl, SqT.of hA4, rfl, ap, _, rfl, .inr (SqT.fz hf0), p, c, _, _, rfl, hP4, by omega, by omega, by omega, fun d1 H6 da db k6 hP6 => ?_⟩
        obtain ⟨us1, oz1, b1, t1, hf1, hl1', hat1, hb1, ht1⟩ := pick (d := d1) (k4.trans k6) da (by omega)
        have nD : D ≠ p := (hP5.ne hD).1
        have nDc : D ≠ c := (hP5.ne hD).2
        refine ⟨ap, _, d1, _, rfl, rfl, SqT.fz hf1, hat1, b1, _, 0, _, rfl, rfl, SqT.of hb1, rfl, _, k6 _ _ nD hL4, szLt (by rw [List.length_map]; omega), ys ++ [t1.1], by rw [List.length_append, List.length_singleton, hyl], fun y hy => ?_, ?_, ?_, hP6.put nD nDc⟩
        · rcases List.mem_append.mp hy with hy | hy
          · exact hyo y hy
          · rw [List.mem_singleton.mp hy]
            exact ⟨(ok.pr t1 ht1).1.1, ofp.1 t1 ht1⟩
        · rw [upd_same, List.map_append]
          rfl
        · refine fun b o n e => ?_
          have hb : b ≠ D := fun z => by
            have hD0 : H D = none := none_of k5 nD hD
            rw [z, hD0] at e
            cases e
          rw [upd_ne hb]
          exact (k4.trans k6) b o n e
      obtain ⟨ys, hyl, hyo, hL4, k4, hP4⟩ := hv
      obtain ⟨s1, s2, rfl⟩ : ∃ s1 s2, ys = [s1, s2] := by
        match ys, hyl with
        | [s1, s2], _ => exact ⟨s1, s2, rfl⟩
      have h1 := hyo s1 (List.mem_cons_self ..)
      have h2 := hyo s2 (List.mem_cons_of_mem _ (List.mem_cons_self ..))
      refine ⟨D, _, rfl, SqL.of hL4, rfl, _, _, rfl, _, _, rfl, rfl, ?_⟩
      clear hL4
      -- sizes
      refine ⟨_, rfl, p, c, 3, _, rfl, hP4, by omega, by decide, by decide, fun z1 H6 z1a z1b k6 hP6 => ⟨1, z1, rfl, rfl, _, rfl, p, c, 3, _, rfl, hP6, by omega, by decide, by decide, fun z2 H7 z2a z2b k7 hP7 => ⟨1, z2, rfl, rfl, szL (show 2 ≤ 1000000 by decide), fun ls hls => ?_⟩⟩⟩
      have x8 := Ext.new (o := .lst [.int (1 + z1), .int (1 + z2)]) hls
      have hls8 : upd H7 ls (.lst [.int (1 + z1), .int (1 + z2)]) ls = some (.lst [.int (1 + z1), .int (1 + z2)]) := upd_same
      have k8 : Kp p H (upd H7 ls (.lst [.int (1 + z1), .int (1 + z2)])) := ((k4.trans k6).trans k7).trans (Kp.ext x8)
      have hP8 := hP7.ext x8
      generalize upd H7 ls (.lst [.int (1 + z1), .int (1 + z2)]) = H8 at hls8 k8 hP8
      -- parts
      have sa := sgn_at (x := s1) (i := 0) (by decide) (by omega)
      have sb := sgn_at (x := s2) (i := 0) (by decide) (by omega)
      have sc := sgn_at (x := s1) (i := 1) (by decide) (by omega)
      have sd := sgn_at (x := s2) (i := 1) (by decide) (by omega)
      have fa := sgn_of h1.2 (i := 0) (by decide) (by omega)
      have fb := sgn_of h2.2 (i := 0) (by decide) (by omega)
      have fc := sgn_of h1.2 (i := 1) (by decide) (by omega)
      have fd' := sgn_of h2.2 (i := 1) (by decide) (by omega)
      have sm : ∀ {x : Str} {i : Int} {u : Str} {z : Int}, 0 ≤ z → z < 3 → u.length ≤ (sgn x i).length * (1 + z).toNat → u.length ≤ 3 := fun {x i u z} h0 h3 hu => by
        have : (sgn x i).length = 1 := rfl
        rw [this] at hu
        omega
      refine ⟨_, rfl, s1, 0, _, rfl, rfl, szL (by omega), sa, _, rfl, ls, _, 0, _, rfl, rfl, SqL.of hls8, rfl, _, _, rfl, rfl, by omega, by omega, by show (1 : Nat) ≤ 1000; decide, fun w1 hw1 ho1 => ?_⟩
      refine ⟨_, rfl, s2, 0, _, rfl, rfl, szL (by omega), sb, _, rfl, ls, _, 1, _, rfl, rfl, SqL.of hls8, rfl, _, _, rfl, rfl, by omega, by omega, by show (1 : Nat) ≤ 1000; decide, fun w2 hw2 ho2 => ?_⟩
      refine ⟨_, rfl, s1, 1, _, rfl, rfl, szL (by omega), sc, _, rfl, ls, _, 0, _, rfl, rfl, SqL.of hls8, rfl, _, _, rfl, rfl, by omega, by omega, by show (1 : Nat) ≤ 1000; decide, fun w3 hw3 ho3 => ?_⟩
      refine ⟨_, rfl, s2, 1, _, rfl, rfl, szL (by omega), sd, _, rfl, ls, _, 1, _, rfl, rfl, SqL.of hls8, rfl, _, _, rfl, rfl, by omega, by omega, by show (1 : Nat) ≤ 1000; decide, fun w4 hw4 ho4 => ?_⟩
      refine ⟨szL (show 4 ≤ 1000000 by decide), fun lp hlp => ?_⟩
      have hws : ∀ y ∈ [w1, w2, w3, w4], y.length ≤ 3 ∧ Of r.letters y := fun y hy => by
        simp only [List.mem_cons, List.not_mem_nil, or_false] at hy
        rcases hy with rfl | rfl | rfl | rfl
        · exact ⟨sm (x := s1) (i := 0) z1a z1b hw1, fun ch hc => fa ch (ho1 ch hc)⟩
        · exact ⟨sm (x := s2) (i := 0) z2a z2b hw2, fun ch hc => fb ch (ho2 ch hc)⟩
        · exact ⟨sm (x := s1) (i := 1) z1a z1b hw3, fun ch hc => fc ch (ho3 ch hc)⟩
        · exact ⟨sm (x := s2) (i := 1) z2a z2b hw4, fun ch hc => fd' ch (ho4 ch hc)⟩
      have x9 := Ext.new (o := .lst (([w1, w2, w3, w4] : List Str).map V.str)) hlp
      have hlp9 : upd H8 lp (.lst (([w1, w2, w3, w4] : List Str).map V.str)) lp = some (.lst (([w1, w2, w3, w4] : List Str).map V.str)) := upd_same
      have k9 : Kp p H (upd H8 lp (.lst (([w1, w2, w3, w4] : List Str).map V.str))) := k8.trans (Kp.ext x9)
      have hP9 := hP8.ext x9
      have nlp : lp ≠ p := (hP8.ne hlp).1
      have h4l : ([w1, w2, w3, w4] : List Str).length = 4 := rfl
      refine ⟨_, rfl, lp, rfl, ⟨_, SqL.of hlp9⟩, for_list (K := K) (xs := ([w1, w2, w3, w4] : List Str).map V.str) (fun j σ H10 => ∃ (y8 : Option V) (x : Str), σ = [some (.ref p), some (.ref a), some (.int m), some (.str s1), some (.str s2), some (.ref ls), some (.ref lp), some (.str x), y8, none, none] ∧ x.length ≤ 5 * j ∧ Of r.letters x ∧ Kp p (upd H8 lp (.lst (([w1, w2, w3, w4] : List Str).map V.str))) H10 ∧ Pen H10 p c (n + 5 + 2 * j))
        ⟨none, "", rfl, Nat.zero_le _, of_nil _, Kp.refl, hP9.mono (by omega)⟩ (fun j σ H10 _ h => by obtain ⟨_, _, _, _, _, k, _⟩ := h; exact SqL.of (k _ _ nlp hlp9)) (fun j u σ H10 hj hv => ?_) (fun σ H10 hv => ?_)⟩
      · obtain ⟨y8, x, rfl, hxl, hxo, k10, hP10⟩ := hv
        have hjl := (List.getElem?_eq_some_iff.mp hj).1
        rw [List.length_map, h4l] at hjl
        rw [List.getElem?_map] at hj
        obtain ⟨y, hy, rfl⟩ := Option.map_eq_some_iff.mp hj
        have hyw := hws y (List.mem_of_getElem? hy)
        have k010 := k9.trans k10
        have hA10 := k010 _ _ na hA
        refine ⟨_, rfl, _, rfl, _, _, rfl, rfl, szL (by omega), ?_⟩
        refine ⟨_, rfl, a, _, 0, _, rfl, rfl, SqT.of hA10, rfl, _, rfl, _, rfl, a, _, 0, _, rfl, rfl, SqT.of hA10, rfl, r.letters, rfl, szL (by omega), p, c, _, _, rfl, hP10, by omega, by omega, by omega, fun gl H11 g0 g1 k11 hP11 => ?_⟩
        refine ⟨r.letters, gl, _, rfl, rfl, szL (by omega), sgn_at g0 g1, szL (show 4 ≤ 1000000 by decide), fun l9 hl9 => ?_⟩
        have x12 := Ext.new (o := .lst (([0, 0, 1, 2] : List Int).map V.int)) hl9
        refine ⟨_, rfl, p, c, 4, _, rfl, hP11.ext x12, by omega, by decide, by decide, fun wy H13 wa wb k13 hP13 => ?_⟩
        obtain ⟨kk, hkk, hat⟩ := atI_ints (ns := [0, 0, 1, 2]) (i := wy) wa wb
        have hkb : 0 ≤ kk ∧ kk ≤ 2 := by
          simp only [List.mem_cons, List.not_mem_nil, or_false] at hkk
          omega
        refine ⟨l9, _, wy, _, rfl, rfl, SqL.of (k13 _ _ (hP11.ne hl9).1 upd_same), hat, _, _, rfl, rfl, hkb.1, by omega, by show (1 : Nat) ≤ 1000; decide, fun w5 hw5 ho5 => ?_⟩
        have hw5l : w5.length ≤ 2 := by
          have : w5.length ≤ 1 * kk.toNat := hw5
          omega
        have e1 : (x ++ y).length = x.length + y.length := app_len _ _
        refine ⟨_, _, rfl, rfl, szL (by omega), ?_⟩
        refine ⟨_, x ++ y ++ w5, rfl, ?_, (hxo.app hyw.2).app fun ch hc => sgn_of (of_self r.letters) g0 g1 ch (ho5 ch hc), ((k10.trans k11).trans (Kp.ext x12)).trans k13, hP13.mono (by omega)⟩
        rw [app_len, e1]
        omega
      · obtain ⟨y8, x, rfl, hxl, hxo, k10, hP10⟩ := hv
        rw [List.length_map, h4l] at hxl hP10
        have k010 := k9.trans k10
        refine ⟨_, rfl, _, rfl, x, rfl, szL (by omega), _, 1, rfl, rfl, p, c, _, _, rfl, hP10, by omega, by omega, by omega, fun sp H11 spa spb k11 hP11 => ?_⟩
        refine go_name ?_
        dsimp only
        refine if_byS (fun H5 => Kp p H11 H5 ∧ Pen H5 p c (n + 20)) (fun H5 => Kp p H11 H5 ∧ Pen H5 p c (n + 20)) (fun Q q1 q2 => ?_) (fun H12 h12 => ?_) (fun H12 h12 => ?_)
        · refine ⟨_, rfl, p, c, 3, _, rfl, hP11, by omega, by decide, by decide, fun s3 H12 _ _ k12 hP12 => ⟨rfl, _, rfl, ?_⟩⟩
          cases hb : decide (V.int s3 = V.int 0) with
          | true => exact q1 _ ⟨k12, hP12.mono (by omega)⟩
          | false => exact q2 _ ⟨k12, hP12.mono (by omega)⟩
        · have l1 := cut_len x (some sp) none
          have l2 := cut_len x none (some sp)
          have l3 : (cutS x (some sp) none ++ cutS x none (some sp)).length = (cutS x (some sp) none).length + (cutS x none (some sp)).length := app_len _ _
          refine ⟨_, rfl, _, rfl, _, rfl, x, rfl, szL (by omega), _, rfl, _, rfl, _, rfl, x, rfl, szL (by omega), _, _, rfl, rfl, szL (by omega), ?_⟩
          exact ⟨_, rfl, _, rfl, _, rfl, _, rfl, szL (by omega), q _ _ (cut_head_le _ m0) (cutS_of ((cutS_of hxo _ _).app (cutS_of hxo _ _)) _ _) ((k010.trans k11).trans h12.1) (h12.2.mono (by omega))⟩
        · exact ⟨_, rfl, _, rfl, _, rfl, x, rfl, szL (by omega), q _ _ (cut_head_le _ m0) (cutS_of hxo _ _) ((k010.trans k11).trans h12.1) (h12.2.mono (by omega))⟩
abbrev CCPg (P : Program) (w : World) (K : PySem.W.Frag) (mg : Str → Option Value) (base : Heap) : Prop := Ca P w K mg base 3 "_law_crossing_page" ["_law_pen_here", "_law_code_here", "_law_upto"] spCPg
end
end Pf


namespace Pf
open PySem PySem.Spec PyProof.Rows L2
theorem crI_in {r : Rl} {x : Str} {b : Int} {S : List St3} {y : St3} {c : Cr} (h : c ∈ crI r x b S y) : ∃ z ∈ S, crB y z = true ∧ c = mkC r x b y z := by
  unfold crI at h
  obtain ⟨z, hz, rfl⟩ := List.mem_map.mp h
  have := List.mem_filter.mp hz
  exact ⟨z, this.1, this.2, rfl⟩
theorem crL_in {r : Rl} {x : Str} {b : Int} {c : Cr} (h : c ∈ crL r x b) : ∃ y ∈ stL r x, ∃ z ∈ stL r x, crB y z = true ∧ c = mkC r x b y z := by
  unfold crL at h
  obtain ⟨y, hy, h⟩ := List.mem_flatMap.mp h
  obtain ⟨z, hz, h⟩ := crI_in h
  exact ⟨y, hy, z, hz, h⟩
theorem flat_leR {α β : Type} {f : α → List β} {n : Nat} : ∀ {l : List α}, (∀ y ∈ l, (f y).length ≤ n) → (l.flatMap f).length ≤ l.length * n
  | [], _ => Nat.zero_le _
  | y :: l, h => by
    rw [List.flatMap_cons, List.length_append, List.length_cons, Nat.succ_mul]
    have h1 := h y (List.mem_cons_self ..)
    have h2 := flat_leR (l := l) fun z hz => h z (List.mem_cons_of_mem _ hz)
    omega
theorem crL_len (r : Rl) {x : Str} (hx : x.length ≤ 12) (b : Int) : (crL r x b).length ≤ 213444 := by
  have h1 := stL_len r hx
  have h2 : (crL r x b).length ≤ (stL r x).length * (stL r x).length := flat_leR fun y _ => crI_len r x b (stL r x) y
  have h3 : (stL r x).length * (stL r x).length ≤ 462 * 462 := Nat.mul_le_mul h1 h1
  omega
theorem SG_len {β : Type} (d : β → PyData) (L : List β) : (SG d L).length = L.length := (SG_perm d L).length_eq
theorem cutV_mem {xs : List V} {lo hi : Option Int} {u : V} (h : u ∈ cutV xs lo hi) : u ∈ xs := by
  unfold cutV at h
  exact List.mem_of_mem_drop (List.mem_of_mem_take h)
theorem cutV_le (xs : List V) (lo hi : Option Int) : (cutV xs lo hi).length ≤ xs.length := by
  unfold cutV
  rw [List.length_take, List.length_drop]
  omega
theorem sm_tri {y : St3} {r : Rl} {x : Str} (hx : x.length ≤ 12) (h : y ∈ stL r x) : Sm 195 1 (dTri y) := by
  obtain ⟨_, h1, h2, h3, h4, h5⟩ := stL_ok hx h
  refine Sm.tup (n := 3) (m := 64) (k := 0) (Nat.le_refl 3) (fun d hd => ?_) (by decide)
  simp only [List.mem_cons, List.not_mem_nil, or_false] at hd
  rcases hd with rfl | rfl | rfl
  · exact Sm.int (by omega) (by omega)
  · exact Sm.int (by omega) (by omega)
  · exact Sm.int (by omega) (by omega)
theorem sm_cf {y z : St3} {r : Rl} {x : Str} (hx : x.length ≤ 12) (h1 : y ∈ stL r x) (h2 : z ∈ stL r x) : Sm 392 2 (.tuple [dTri y, dTri z]) := by
  refine Sm.tup (n := 2) (m := 195) (k := 1) (Nat.le_refl 2) (fun d hd => ?_) (by decide)
  simp only [List.mem_cons, List.not_mem_nil, or_false] at hd
  rcases hd with rfl | rfl
  · exact sm_tri hx h1
  · exact sm_tri hx h2
theorem Pen.some0 {H : Hp} {p c : Addr} {n : Nat} (h : Pen H p c n) : ∃ o, H p = Option.some o := by
  obtain ⟨cells, a, r, h1, _⟩ := h
  exact ⟨_, h1⟩
section
variable {P : Program} {w : World} {K : PySem.W.Frag} {mg : Str → Option Value} {base : Heap}
end
end Pf


namespace Pf
open PySem PySem.Spec PyProof.Rows L2
/-! ### comprehensions clause by clause -/
/-- the code of a clause's turn: the next item, its store, its tests, then `body` -/
def ClTurn (e : Expr) (d : Nat) (tg src : Expr) (ifs : List Expr) (acc : Value) (env : Env) (body : Sem Fin → Sem Fin) : Prop := ∀ it : Value, compTurn e d it acc env = (do
  standAt src.pos
  match ← pyNext it with
  | none => pure (.done .next)
  | some u =>
    letOwnedTupleGo tg it u
    assign tg env u
    let mut go := true
    for z in ifs do
      if go then go ← isTrue z env (eval z env)
    if go then body (again (.compLoop e d it acc env)) else again (.compLoop e d it acc env))
/-- the code that goes through a clause further in -/
def ClNext (e : Expr) (d : Nat) (src : Expr) (acc : Value) (env : Env) (k : Sem Fin) : Sem Fin := do
  let y ← eval src env
  standAt src.pos
  let y ← foldedSetIterable src env y
  let _ ← runOwn (.compStart e d (← holding [y] (pyIter y)) acc env) env
  k
/-- the code that puts an item behind the list -/
def ClPut (elt : Expr) (acc : Value) (env : Env) (k : Sem Fin) : Sem Fin := do
  (do let _ ← call (.builtin "list.append") [acc, ← eval elt env])
  k
section
variable {prog : Program} {w : World} {A : Around} {R : Result → Shared → Prop} {s : Shared} {elt tg src : Expr} {gens : List Comprehension} {scope : Scope} {pos : Pos} {d : Nat} {ifs : List Expr} {acc it : Value} {env : Env} {body : Sem Fin → Sem Fin}
abbrev Nt (prog : Program) (w : World) (A : Around) (env : Env) (R : Result → Shared → Prop) : Value → Shared → Prop := notedBy (model prog w) A env fun x t => R (.error x) t
abbrev tstS (ifs : List Expr) (env : Env) : Sem Bool := forIn ifs true fun z r => if r = true then do let k ← isTrue z env (eval z env); pure (ForInStep.yield k) else pure (ForInStep.yield r)
theorem clause_loop (hT : ClTurn (.ListComp elt gens scope pos) d tg src ifs acc env body) (I : Nat → Shared → Prop)
    (turn : ∀ n t, I n t → wpAny (model prog w) A (pyNext it) (fun r t1 => match r with
      | none => R (.ok .next) t1
      | some u => wpAny (model prog w) A (letOwnedTupleGo tg it u) (fun _ t2 => wpAny (model prog w) A (assign tg env u) (fun _ t3 => wpAny (model prog w) A (tstS ifs env) (fun k t4 =>
          if k = true then ∀ z Qz, (∀ t5, (∃ m, m < n ∧ I m t5) → wpAny (model prog w) A z Qz (Nt prog w A env R) t5) → wpAny (model prog w) A (body z) Qz (Nt prog w A env R) t4 else ∃ m, m < n ∧ I m t4) (Nt prog w A env R) t3) (Nt prog w A env R) t2) (Nt prog w A env R) t1) (Nt prog w A env R) t)
    (n : Nat) (h : I n s) : codeAny (model prog w) A (.compLoop (.ListComp elt gens scope pos) d it acc env) R s := by
  refine codeAny_loop rfl I (fun n t hI => ?_) n h
  show wpAny _ A ((compTurn (.ListComp elt gens scope pos) d it acc env).onRaise (fun x => do noteFrame x env; theTreesLotGoes x)) _ _ t
  refine wpAny_noted ?_
  rw [hT it]
  refine wpAny_bind (wpAny_standAt (wpAny_bind (wpAny_mono (turn n t hI) (fun r t1 h1 => ?_) fun _ _ z => z)))
  cases r with
  | none => exact wpAny_pure h1
  | some u =>
    refine wpAny_bind (wpAny_mono h1 (fun _ t2 h2 => ?_) fun _ _ z => z)
    refine wpAny_bind (wpAny_mono h2 (fun _ t3 h3 => wpAny_bind (wpAny_mono h3 (fun k t4 h4 => ?_) fun _ _ z => z)) fun _ _ z => z)
    cases k with
    | false => exact wpAny_pure ⟨rfl, h4⟩
    | true => exact h4 _ _ fun t5 h5 => wpAny_pure ⟨rfl, h5⟩
theorem clause_start (hcl : (clausesOf (.ListComp elt gens scope pos))[d]? = some ⟨tg, src, ifs, 0⟩) (h0 : codeAny (model prog w) A (.compLoop (.ListComp elt gens scope pos) d it acc env) R s)
    (h : wpAny (model prog w) A (pyIter it) (fun it' t => codeAny (model prog w) A (.compLoop (.ListComp elt gens scope pos) d it' acc env) R t) (Nt prog w A env R) s) : codeAny (model prog w) A (.compStart (.ListComp elt gens scope pos) d it acc env) R s := by
  refine codeAny_of_tree ?_
  show wpAny _ _ ((compStart (.ListComp elt gens scope pos) d it acc env).onRaise (fun x => do noteFrame x env; standAt theWindowsPlace)) _ _ s
  refine wpAny_notedAt ?_
  unfold compStart
  rw [hcl]
  show wpAny _ _ (ask >>= _) _ _ s
  refine wpAny_bind (wpAny_askSetting (wpAny_ite ?_))
  split
  · first
      | exact wpAny_bind (wpAny_pure (wpAny_pure (And.intro rfl h0)))
      | exact wpAny_pure (And.intro rfl h0)
  · refine wpAny_bind (wpAny_rule ?_)
    show wpAny _ _ (standAt src.pos >>= _) _ _ s
    exact wpAny_bind (wpAny_standAt (wpAny_bind (wpAny_mono h (fun it' t z => wpAny_pure (And.intro rfl z)) fun _ _ z => z)))
end
/-- what a clause's body asks and gives: vs are the slots that it may store -/
structure ClBody (Y : Cx) (body : Sem Fin → Sem Fin) (vs : List Nat) (tb : L2.St → Hp → (Hp → Prop) → Prop) : Prop where
  run : ∀ (pins : List (Addr × Obj)) (s : Shared) (σ : L2.St) (H : Hp) (Nx : Hp → Prop) (z : Sem Fin) (Qz : Fin → Shared → Prop) (E : Value → Shared → Prop), Inv Y pins σ H s → tb σ H Nx → (∀ t H', Inv Y pins (wipe σ vs) H' t → Nx H' → wpAny (model Y.prog Y.w) Y.A z Qz E t) →
    wpAny (model Y.prog Y.w) Y.A (body z) Qz E s
def tPut (D : Addr) (te : TE) : L2.St → Hp → (Hp → Prop) → Prop := fun σ H Nx => te σ H fun y H1 => ∃ ys, H1 D = some (.lst ys) ∧ ys.length < sizeLine ∧ Nx (upd H1 D (.lst (ys ++ [y])))
theorem put_body {Y : Cx} {elt : Expr} {te : TE} {D : Addr} (hx : Y.xe = fun _ _ => False) (he : PE Y elt te) : ClBody Y (ClPut elt (.ref D) Y.env) [] (tPut D te) := ⟨by
  intro pins s σ H Nx z Qz E I h hk
  have h1 := he.run pins s σ H _ I h
  rw [hx] at h1
  unfold ClPut
  refine wpAny_bind (wpAny_bind (wpAny_mono h1 (fun v t q => ?_) fun _ _ q => q.elim))
  obtain ⟨yv, H1, I1, r1, ys, hD, hz, nx⟩ := q
  refine wpAny_bind (wpAny_mono (L2.app_ok (X := Y) (E := E) (Q := fun _ t => wpAny (model Y.prog Y.w) Y.A z Qz E t) I1 hD hz r1 fun t1 I2 => hk t1 _ I2 nx) (fun _ t1 q => wpAny_pure q) fun _ _ q => q)⟩
def tCl (wi : TI) (g : TG) (tt : TT) (tb : L2.St → Hp → (Hp → Prop) → Prop) (vs : List Nat) : L2.St → Hp → (Hp → Prop) → Prop := fun σ H Nx => wi σ H fun J H1 => ∃ W : Nat → Nat → Hp → Prop, (∃ m, W 0 m H1) ∧ ∀ j k H2, W j k H2 →
  (J.stop j H2 ∧ Nx H2) ∨ (J.go j H2 ∧ ∃ Ny : Hp → Prop, (∀ H', Ny H' → ∃ m, m < k ∧ W (j + 1) m H') ∧ ∀ x H', J.yld j H2 x H' → g x (wipe σ vs) H' fun σ3 H3 => wipe σ3 vs = wipe σ vs ∧ tt σ3 H3 fun b H4 => if b = true then tb σ3 H4 Ny else Ny H4)
theorem clause_body {Y : Cx} {elt tg src : Expr} {gens : List Comprehension} {scope : Scope} {pos : Pos} {d : Nat} {ifs : List Expr} {acc : Value} {body : Sem Fin → Sem Fin} {vs vs' : List Nat} {wi : TI} {g : TG} {tt : TT} {tb : L2.St → Hp → (Hp → Prop) → Prop} (hc : Y.calm = true) (hx : Y.xe = fun _ _ => False)
    (hi : PI Y tg src wi) (hg : PG Y tg g) (ht : PTs Y ifs tt) (hb : ClBody Y body vs' tb) (hT : ClTurn (.ListComp elt gens scope pos) d tg src ifs acc Y.env body) (hcl : (clausesOf (.ListComp elt gens scope pos))[d]? = some ⟨tg, src, ifs, 0⟩) (hs : ∀ x, foldedSetIterable src Y.env x = pure x) (hv : ∀ i ∈ vs', i ∈ vs) :
    ClBody Y (ClNext (.ListComp elt gens scope pos) d src acc Y.env) vs (tCl wi g tt tb vs) := ⟨by
  intro pins s σ H Nx z0 Qz E I h hk
  have h1 := hi.run pins s σ H _ I h
  rw [hx] at h1
  unfold ClNext
  refine wpAny_bind (wpAny_mono h1 (fun xv s1 q1 => ?_) fun _ _ q => q.elim)
  refine wpAny_bind (wpAny_standAt (wpAny_bind (wpAny_of_eq (hs xv) (wpAny_bind (wpAny_holding (wpAny_mono q1 (fun itv s2 q2 => ?_) fun _ _ q => q.elim))))))
  obtain ⟨it, fp, tn, J, H1, eit, I1, T, st1, f1, W, ⟨m0, w0⟩, turn⟩ := q2
  subst eit
  refine wpAny_bind (wpAny_runOwn ?_)
  rw [Around.mark_none]
  have stat : ∀ {H' : Hp}, (∀ b ∈ fp, H' b = none) → ∀ b ∈ fp, FpOk Y pins H' b := fun hn b hb => ⟨hn b hb, (f1 b hb).2⟩
  have loop : codeAny (model Y.prog Y.w) Y.A (.compLoop (.ListComp elt gens scope pos) d (.ref it) acc Y.env) (fun r t => match r with | .ok _ => wpAny (model Y.prog Y.w) Y.A z0 Qz E t | .error _ => False) s2 := by
    refine clause_loop hT (fun k t => ∃ j H', Inv Y pins (wipe σ vs) H' t ∧ tn j t.heap ∧ (∀ b ∈ fp, H' b = none) ∧ W j k H') ?_ m0 ⟨0, H1, I1.weak (wipe_length _ _) (fun j v q => (wipe_some q).1), st1, fun b hb => (f1 b hb).1, w0⟩
    rintro k t ⟨j, H2, I2, st2, n2, w2⟩
    rcases turn j k H2 w2 with ⟨stop, nx⟩ | ⟨go, Ny, hNy, step⟩
    · refine thnF (T.done Y rfl rfl rfl hc j _ t (wipe σ vs) H2 (fun _ _ => False) I2 (stat n2) st2 stop) fun r t1 q => ?_
      obtain ⟨hr, I3⟩ := q
      subst hr
      exact hk t1 H2 I3 nx
    · refine thnF (T.item Y rfl rfl rfl hc j _ t (wipe σ vs) H2 (fun _ _ => False) I2 (stat n2) st2 go) fun r t1 q => ?_
      obtain ⟨u, hr, h3⟩ := q
      subst hr
      refine thnF h3 fun _ t2 q => ?_
      obtain ⟨x, H3, I3, r3, y3, st3, n3⟩ := q
      have I3' := I3.pinned (stat n3) (T.obj _ _ st3)
      have hgr := hg.run _ t2 (wipe σ vs) H3 x u _ I3' r3 (step x H3 y3)
      rw [hx] at hgr
      refine thnF hgr fun _ t3 q => ?_
      obtain ⟨σ4, H4, I4, hw4, q4⟩ := q
      have htr := ht.run _ t3 σ4 H4 _ I4 q4
      rw [hx] at htr
      refine thnF htr fun b t4 q => ?_
      obtain ⟨H5, I5, q5⟩ := q
      have hl4 : (wipe σ vs).length = σ4.length := by rw [← hw4, wipe_length]
      have fin : ∀ {σ5 : L2.St} {t' : Shared} {H' : Hp}, Inv Y (pins ++ pinsAt fp t2.heap) σ5 H' t' → (wipe σ vs).length = σ5.length → (∀ (i : Nat) v, (wipe σ vs)[i]? = some (some v) → σ5[i]? = some (some v)) → Ny H' → ∃ m, m < k ∧ ∃ j H', Inv Y pins (wipe σ vs) H' t' ∧ tn j t'.heap ∧ (∀ b ∈ fp, H' b = none) ∧ W j m H' := fun {σ5 t' H'} I' hl hkn ny => by
        obtain ⟨m', hm, w'⟩ := hNy H' ny
        have pin' : ∀ b ∈ fp, ∀ o, t2.heap.get? b = some o → t'.heap.get? b = some o ∧ H' b = none := fun b hb o q =>
          let z := I'.pin (b, o) (List.mem_append_right _ (List.mem_append_right _ (mem_pinsAt hb q)))
          ⟨z.1, z.2.1⟩
        refine ⟨m', hm, j + 1, H', I'.unpinned.weak hl hkn, T.keep _ _ _ st3 fun b hb o q => (pin' b hb o q).1, fun b hb => ?_, w'⟩
        obtain ⟨o, q, _⟩ := T.obj _ _ st3 b hb
        exact (pin' b hb o q).2
      have kn4 : ∀ (i : Nat) v, (wipe σ vs)[i]? = some (some v) → σ4[i]? = some (some v) := fun i v q => by
        rw [← hw4] at q
        exact (wipe_some q).1
      cases b with
      | false =>
        simp only [Bool.false_eq_true, if_false] at q5 ⊢
        exact fin I5 hl4 kn4 q5
      | true =>
        simp only [if_true] at q5 ⊢
        intro z1 Qz1 hz1
        refine hb.run _ t4 σ4 H5 Ny _ _ _ I5 q5 fun t5 H6 I6 ny => hz1 _ <| fin I6 (hl4.trans (wipe_length _ _).symm) (fun i v q => ?_) ny
        have q' := q
        rw [← hw4] at q'
        rw [wipe_out fun z => (wipe_some q').2 (hv i z)]
        exact (wipe_some q').1
  refine codeAny_mono (clause_start hcl loop (T.self Y.A 0 _ _ _ st1 loop)) fun r t hr => ?_
  cases r with
  | ok f => first
      | exact hr
      | exact wpAny_bind (wpAny_pure hr)
      | exact wpAny_pure hr
  | error q => exact hr.elim⟩
/-- a clause over what is gone through n times -/
theorem cl_it {J : It} {n : Nat} {G : Hp → Prop} {Y : Nat → Hp → V → Hp → Prop} (w : Walk J n G Y) {g : TG} {tt : TT} {tb : L2.St → Hp → (Hp → Prop) → Prop} {vs : List Nat} {σ : L2.St} {H0 : Hp} {Qd : Hp → Prop} (Pv : Nat → Hp → Prop) (h0 : Pv 0 H0) (hG : ∀ i H, i ≤ n → Pv i H → G H)
    (hs : ∀ i x H H', i < n → Pv i H → Y i H x H' → g x (wipe σ vs) H' fun σ2 H2 => wipe σ2 vs = wipe σ vs ∧ tt σ2 H2 fun b H3 => if b = true then tb σ2 H3 (Pv (i + 1)) else Pv (i + 1) H3) (hd : ∀ H, Pv n H → Qd H) :
    ∃ W : Nat → Nat → Hp → Prop, (∃ m, W 0 m H0) ∧ ∀ j k H2, W j k H2 → (J.stop j H2 ∧ Qd H2) ∨ (J.go j H2 ∧ ∃ Ny : Hp → Prop, (∀ H', Ny H' → ∃ m, m < k ∧ W (j + 1) m H') ∧ ∀ x H', J.yld j H2 x H' → g x (wipe σ vs) H' fun σ3 H3 => wipe σ3 vs = wipe σ vs ∧ tt σ3 H3 fun b H4 => if b = true then tb σ3 H4 Ny else Ny H4) := by
  refine ⟨fun i m H => m = n - i ∧ i ≤ n ∧ Pv i H, ⟨n, rfl, Nat.zero_le _, h0⟩, ?_⟩
  rintro i m H ⟨rfl, hi, pv⟩
  have hq := hG i H hi pv
  by_cases hlt : i < n
  · exact .inr ⟨w.goes i H hlt hq, Pv (i + 1), fun H' p' => ⟨n - (i + 1), by omega, rfl, hlt, p'⟩, fun x H' y => hs i x H H' hlt pv (w.yields i H x H' hlt hq y)⟩
  · obtain rfl : i = n := by omega
    exact .inl ⟨w.stops H hq, hd H pv⟩
/-- a list comprehension whose first clause's body is `body` -/
def tLcG (wi : TI) (g : TG) (tt : TT) (tb : Addr → L2.St → Hp → (Hp → Prop) → Prop) (vs : List Nat) : TE := fun σ H Q => wi σ H fun J H1 => ∀ D, H1 D = none → ∃ W : Nat → Nat → Hp → Prop, (∃ m, W 0 m (upd H1 D (.lst []))) ∧ ∀ j k H2, W j k H2 →
  (J.stop j H2 ∧ Q (.ref D) H2) ∨ (J.go j H2 ∧ ∃ Ny : Hp → Prop, (∀ H', Ny H' → ∃ m, m < k ∧ W (j + 1) m H') ∧ ∀ x H', J.yld j H2 x H' → g x (wipe σ vs) H' fun σ3 H3 => wipe σ3 vs = wipe σ vs ∧ tt σ3 H3 fun b H4 => if b = true then tb D σ3 H4 Ny else Ny H4)
theorem lcG {X : Cx} {pins : List (Addr × Obj)} {s : Shared} {σ : L2.St} {H : Hp} {Q : VK} {elt tg src : Expr} {ifs : List Expr} {gens : List Comprehension} {scope : Scope} {own : List (Str × Nat)} {vs' : List Nat} {pos pos' : Pos} {wi : TI} {g : TG} {tt : TT} {tb : Addr → L2.St → Hp → (Hp → Prop) → Prop} {body : Addr → Env → Sem Fin → Sem Fin} {use : Option (Value → Sem Unit)} {Qf : Value → Shared → Prop}
    (hc : X.calm = true) (hN : X.N.Nodup) (I : Inv X pins σ H s) (hi : PI X tg src wi) (ok : BlkOk X.N X.env.scope scope own) (hv : ∀ i ∈ vs', i ∈ own.map (·.2))
    (hg : ∀ (t : Shared) (H : Hp) (C : Addr) (cl : List (Str × Addr)) (fp : List Addr), PG (X.blk t H scope (compEnvC scope cl C X.env) fp) tg g) (ht : ∀ (t : Shared) (H : Hp) (C : Addr) (cl : List (Str × Addr)) (fp : List Addr), PTs (X.blk t H scope (compEnvC scope cl C X.env) fp) ifs tt)
    (hb : ∀ (D : Addr) (t : Shared) (H : Hp) (C : Addr) (cl : List (Str × Addr)) (fp : List Addr), ClBody (X.blk t H scope (compEnvC scope cl C X.env) fp) (body D (compEnvC scope cl C X.env)) vs' (tb D))
    (hT : ∀ (D : Addr) (env : Env), ClTurn (.ListComp elt (⟨tg, src, ifs, 0⟩ :: gens) scope pos) 0 tg src ifs (.ref D) env (body D env)) (hs : ∀ x, foldedSetIterable src X.env x = pure x)
    (h : tLcG wi g tt tb (own.map (·.2)) σ H Q)
    (hR : ∀ D C t m H', Inv X pins σ H' t → Q (.ref D) H' → t.heap.Ns C m → FpOk X pins H' C → compPost (model X.prog X.w) X.A X.xe use Qf (.ref D) C (.ok .next) t) :
    wpAny (model X.prog X.w) X.A (comprehension (.ListComp elt (⟨tg, src, ifs, 0⟩ :: gens) scope pos) scope X.env pos' (newList []) false (eval src X.env) use) Qf X.xe s := by
  have free : ∀ y ∈ scope.names, y.2 = .free → ∃ c, X.env.cells.lookup y.1 = some c := fun y hy q => (ok.free y hy q).elim (fun k => I.ok.has _ (.inl k)) fun k => I.ok.has _ (.inr k)
  refine wpAny_comprehension_free (use := use) rfl hs (closure_ok free) ok.kind (fun y hy q => by rw [ok.uniq y hy, q]) (thn (hi.run pins s σ H _ I h) fun xv t1 hx => thn hx fun itv t2 h2 => ?_)
  obtain ⟨it, fp, tn, J, H2, eit, I2, T, st2, f2, q⟩ := h2
  subst eit
  refine wpAny_newObj_type (newEnv_comp ?_) (by show 0 ≤ sizeLine; decide)
  obtain ⟨D, eD⟩ : ∃ D, t2.heap.objs.size = D := ⟨_, rfl⟩
  rw [eD]
  obtain ⟨W, ⟨m0, w0⟩, turn⟩ := q D (I2.hok.fresh (Nat.le_of_eq eD))
  obtain ⟨t3, et3⟩ : ∃ t3 : Shared, ({ t2 with heap := t2.heap.push { cls := .type "list", data := .seq ([] : List Value).toArray } } : Shared) = t3 := ⟨_, rfl⟩
  rw [et3]
  have e3 : t3.heap = t2.heap.push { cls := .type "list", data := .seq ([] : List Value).toArray } := by rw [← et3]
  have I3 : Inv X pins σ (upd H2 D (.lst [])) t3 := by
    rw [← et3]
    refine I2.laid (t' := t2.toks) (fun b o z => Heap.get?_push_of_some _ z) (Nat.le_of_eq eD) ⟨Nat.zero_le _, [], 0, .nil, ?_⟩
    rw [← eD]
    exact Heap.get?_push_size _ rfl
  have lt2 : ∀ b ∈ fp, b < t2.heap.objs.size := fun b hb => by
    obtain ⟨o, z, _⟩ := T.obj _ _ st2 b hb
    exact Heap.lt_size z
  have f3 : ∀ b ∈ fp, FpOk X pins (upd H2 D (.lst [])) b ∧ b < t3.heap.objs.size := fun b hb => by
    have l2 := lt2 b hb
    refine ⟨⟨?_, (f2 b hb).2⟩, by rw [e3, Heap.size_push]; exact Nat.lt_succ_of_lt l2⟩
    rw [upd_ne (by rw [← eD]; exact Nat.ne_of_lt l2)]
    exact (f2 b hb).1
  have st3 : tn 0 t3.heap := T.keep _ _ _ st2 fun b _ o z => by rw [e3]; exact Heap.get?_push_of_some _ z
  have I4 := block_start I3 ok hN f3
  have pg := hg t3 (upd H2 D (.lst [])) t3.heap.objs.size (cellsFrom (t3.heap.objs.size + 1) scope.names (cloFrom X.env.cells scope.names [])) fp
  have pt := ht t3 (upd H2 D (.lst [])) t3.heap.objs.size (cellsFrom (t3.heap.objs.size + 1) scope.names (cloFrom X.env.cells scope.names [])) fp
  have pb := hb D t3 (upd H2 D (.lst [])) t3.heap.objs.size (cellsFrom (t3.heap.objs.size + 1) scope.names (cloFrom X.env.cells scope.names [])) fp
  show codeAny _ _ (.compStart (.ListComp elt (⟨tg, src, ifs, 0⟩ :: gens) scope pos) 0 (.ref it) (.ref D) (compEnvC scope (cellsFrom (t3.heap.objs.size + 1) scope.names (cloFrom X.env.cells scope.names [])) t3.heap.objs.size X.env)) (compPost (model X.prog X.w) X.A X.xe use Qf (.ref D) t3.heap.objs.size) { t3 with heap := pushCells (t3.heap.push { cls := .type "dict", data := .dict #[] }) scope.names }
  have none3 : ∀ b ∈ fp, (upd H2 D (.lst [])) b = none := fun b hb => (f3 b hb).1.1
  generalize ece : compEnvC scope (cellsFrom (t3.heap.objs.size + 1) scope.names (cloFrom X.env.cells scope.names [])) t3.heap.objs.size X.env = ce at I4 pg pt pb ⊢
  have eL : ce.locals = t3.heap.objs.size := by subst ece; rfl
  generalize eH3 : upd H2 D (.lst []) = H3 at I3 I4 pg pt pb w0 none3 f3
  generalize et4 : ({ t3 with heap := pushCells (t3.heap.push { cls := .type "dict", data := .dict #[] }) scope.names } : Shared) = t4 at I4 ⊢
  have st4 : tn 0 t4.heap := T.keep _ _ _ st3 fun b _ o z => by rw [← et4]; exact pushCells_keeps _ _ _ _ (Heap.get?_push_of_some _ z)
  have stat : ∀ {σ' : L2.St} {H' : Hp} {t' : Shared}, Inv (X.blk t3 H3 scope ce fp) [] σ' H' t' → (∀ b ∈ fp, H' b = none) → ∀ b ∈ fp, FpOk (X.blk t3 H3 scope ce fp) [] H' b := fun {σ' H' t'} I' hn b hb =>
    ⟨hn b hb, (I'.ok.exf b hb).1, I'.ok.exfs b hb, .inl hb, fun x c z => (I'.ok.exf b hb).2 x c z, fun p hp => absurd (show p ∈ ([] : List (Addr × Obj)) ++ [] from hp) (by simp)⟩
  have loop : codeAny (model X.prog X.w) X.A (.compLoop (.ListComp elt (⟨tg, src, ifs, 0⟩ :: gens) scope pos) 0 (.ref it) (.ref D) ce) (compPost (model X.prog X.w) X.A X.xe use Qf (.ref D) t3.heap.objs.size) t4 := by
    refine clause_loop (hT D ce) (fun n t => ∃ i H', Inv (X.blk t3 H3 scope ce fp) [] (wipe σ (own.map (·.2))) H' t ∧ tn i t.heap ∧ (∀ b ∈ fp, H' b = none) ∧ W i n H') ?_ m0 ⟨0, H3, I4, st4, none3, w0⟩
    rintro n t5 ⟨i, H5, I5, st5, n5, w5⟩
    rcases turn i n H5 w5 with ⟨stop, qq⟩ | ⟨go, Ny, hNy, step⟩
    · refine thnF (T.done (X.blk t3 H3 scope ce fp) rfl rfl rfl hc i [] t5 _ H5 (fun _ _ => False) I5 (stat I5 n5) st5 stop) fun r t6 z => ?_
      obtain ⟨hr, I6⟩ := z
      subst hr
      have I7 : Inv X pins σ H5 t6 := I3.call' (ch := fp) I6.os I6.base I6.hok I6.bare fun b hb => let z := (f3 b hb).1.2; ⟨z.2.2.1, z.1, z.2.2.2.1, z.2.2.2.2⟩
      have nC : H5 t3.heap.objs.size = none := by
        have z : H5 ce.locals = none := I6.free
        rwa [eL] at z
      obtain ⟨m, hn, _⟩ := I6.loc
      have hn : t6.heap.Ns ce.locals m := hn
      rw [eL] at hn
      exact hR D t3.heap.objs.size t6 m H5 I7 qq hn (I3.fpOk (Nat.le_refl _) nC)
    · refine thnF (T.item (X.blk t3 H3 scope ce fp) rfl rfl rfl hc i [] t5 _ H5 (fun _ _ => False) I5 (stat I5 n5) st5 go) fun r t6 z => ?_
      obtain ⟨u, hr, h6⟩ := z
      subst hr
      refine thnF h6 fun _ t7 z => ?_
      obtain ⟨x, H7, I7, r7, y7, st7, n7⟩ := z
      have I7' := I7.pinned (stat I7 n7) (T.obj _ _ st7)
      refine thnF (pg.run _ t7 _ H7 x u _ I7' r7 (step x H7 y7)) fun _ t8 z => ?_
      obtain ⟨σ8, H8, I8, hw8, q8⟩ := z
      refine thnF (pt.run _ t8 σ8 H8 _ I8 q8) fun b t9 z => ?_
      obtain ⟨H9, I9, q9⟩ := z
      have fin : ∀ {σ9 : L2.St} {t' : Shared} {H' : Hp}, Inv (X.blk t3 H3 scope ce fp) ([] ++ pinsAt fp t7.heap) σ9 H' t' → (wipe σ (own.map (·.2))).length = σ9.length → (∀ (j : Nat) v, (wipe σ (own.map (·.2)))[j]? = some (some v) → σ9[j]? = some (some v)) → Ny H' →
          ∃ m, m < n ∧ ∃ i H', Inv (X.blk t3 H3 scope ce fp) [] (wipe σ (own.map (·.2))) H' t' ∧ tn i t'.heap ∧ (∀ b ∈ fp, H' b = none) ∧ W i m H' := fun {σ9 t' H'} I' hl hk ny => by
        obtain ⟨m', hm, w'⟩ := hNy H' ny
        have pin' : ∀ b ∈ fp, ∀ o, t7.heap.get? b = some o → t'.heap.get? b = some o ∧ H' b = none := fun b hb o q =>
          let z := I'.pin (b, o) (List.mem_append_right _ (List.mem_append_right _ (mem_pinsAt hb q)))
          ⟨z.1, z.2.1⟩
        refine ⟨m', hm, i + 1, H', (I'.unpinned (pins := [])).weak hl hk, T.keep _ _ _ st7 fun b hb o q => (pin' b hb o q).1, fun b hb => ?_, w'⟩
        obtain ⟨o, q, _⟩ := T.obj _ _ st7 b hb
        exact (pin' b hb o q).2
      cases b with
      | false =>
        simp only [Bool.false_eq_true, if_false] at q9 ⊢
        exact fin I9 (by rw [← hw8, wipe_length]) (fun j v q => by rw [← hw8] at q; exact (wipe_some q).1) q9
      | true =>
        simp only [if_true] at q9 ⊢
        intro z1 Qz1 hz1
        refine pb.run _ t9 σ8 H9 Ny _ _ _ I9 q9 fun t10 H10 I10 ny => hz1 _ <| fin I10 (by rw [← hw8, wipe_length, wipe_length]) (fun j v q => ?_) ny
        rw [← hw8] at q
        rw [wipe_out fun z => (wipe_some q).2 (hv j z)]
        exact (wipe_some q).1
  exact codeAny_compStart_list loop (T.self X.A 0 _ _ _ st4 loop)
/-- three clauses -/
def tLc3 (wi : TI) (g : TG) (tt : TT) (wi1 : TI) (g1 : TG) (tt1 : TT) (wi2 : TI) (g2 : TG) (tt2 : TT) (te : TE) (vs vs1 vs2 : List Nat) : TE := tLcG wi g tt (fun D => tCl wi1 g1 tt1 (tCl wi2 g2 tt2 (tPut D te) vs2) vs1) vs
theorem pe_lc3 {X : Cx} {elt tg src tg1 src1 tg2 src2 : Expr} {ifs ifs1 ifs2 : List Expr} {scope : Scope} {own : List (Str × Nat)} {vs1 vs2 : List Nat} {pos : Pos} {wi wi1 wi2 : TI} {g g1 g2 : TG} {tt tt1 tt2 : TT} {te : TE} (hc : X.calm = true) (hN : X.N.Nodup) (hi : PI X tg src wi) (ok : BlkOk X.N X.env.scope scope own) (hv1 : ∀ i ∈ vs1, i ∈ own.map (·.2)) (hv2 : ∀ i ∈ vs2, i ∈ vs1)
    (hg : ∀ (t : Shared) (H : Hp) (C : Addr) (cl : List (Str × Addr)) (fp : List Addr), PG (X.blk t H scope (compEnvC scope cl C X.env) fp) tg g) (ht : ∀ (t : Shared) (H : Hp) (C : Addr) (cl : List (Str × Addr)) (fp : List Addr), PTs (X.blk t H scope (compEnvC scope cl C X.env) fp) ifs tt)
    (hi1 : ∀ (t : Shared) (H : Hp) (C : Addr) (cl : List (Str × Addr)) (fp : List Addr), PI (X.blk t H scope (compEnvC scope cl C X.env) fp) tg1 src1 wi1)
    (hg1 : ∀ (t : Shared) (H : Hp) (C : Addr) (cl : List (Str × Addr)) (fp : List Addr), PG (X.blk t H scope (compEnvC scope cl C X.env) fp) tg1 g1) (ht1 : ∀ (t : Shared) (H : Hp) (C : Addr) (cl : List (Str × Addr)) (fp : List Addr), PTs (X.blk t H scope (compEnvC scope cl C X.env) fp) ifs1 tt1)
    (hi2 : ∀ (t : Shared) (H : Hp) (C : Addr) (cl : List (Str × Addr)) (fp : List Addr), PI (X.blk t H scope (compEnvC scope cl C X.env) fp) tg2 src2 wi2)
    (hg2 : ∀ (t : Shared) (H : Hp) (C : Addr) (cl : List (Str × Addr)) (fp : List Addr), PG (X.blk t H scope (compEnvC scope cl C X.env) fp) tg2 g2) (ht2 : ∀ (t : Shared) (H : Hp) (C : Addr) (cl : List (Str × Addr)) (fp : List Addr), PTs (X.blk t H scope (compEnvC scope cl C X.env) fp) ifs2 tt2)
    (he : ∀ (t : Shared) (H : Hp) (C : Addr) (cl : List (Str × Addr)) (fp : List Addr), PE (X.blk t H scope (compEnvC scope cl C X.env) fp) elt te) (hs : ∀ x, foldedSetIterable src X.env x = pure x := by intro _; rfl) (hs1 : ∀ env x, foldedSetIterable src1 env x = pure x := by intro _ _; rfl) (hs2 : ∀ env x, foldedSetIterable src2 env x = pure x := by intro _ _; rfl) :
    PE X (.ListComp elt [⟨tg, src, ifs, 0⟩, ⟨tg1, src1, ifs1, 0⟩, ⟨tg2, src2, ifs2, 0⟩] scope pos) (tLc3 wi g tt wi1 g1 tt1 wi2 g2 tt2 te (own.map (·.2)) vs1 vs2) := by
  refine ⟨fun pins s σ H Q I h => ?_⟩
  rw [eval_ListComp]
  refine lcG (body := fun D env => ClNext (.ListComp elt [⟨tg, src, ifs, 0⟩, ⟨tg1, src1, ifs1, 0⟩, ⟨tg2, src2, ifs2, 0⟩] scope pos) 1 src1 (.ref D) env) hc hN I hi ok hv1 hg ht (fun D t H' C cl fp => ?_) (fun D env it => by rfl) hs h fun D C t m H' I' q hn f => ⟨m, hn, fun h'' sb => ?_⟩
  · refine clause_body (body := ClNext (.ListComp elt [⟨tg, src, ifs, 0⟩, ⟨tg1, src1, ifs1, 0⟩, ⟨tg2, src2, ifs2, 0⟩] scope pos) 2 src2 (.ref D) (compEnvC scope cl C X.env)) hc rfl (hi1 t H' C cl fp) (hg1 t H' C cl fp) (ht1 t H' C cl fp) ?_ (fun it => by rfl) rfl (hs1 _) hv2
    refine clause_body (vs' := []) (body := ClPut elt (.ref D) (compEnvC scope cl C X.env)) hc rfl (hi2 t H' C cl fp) (hg2 t H' C cl fp) (ht2 t H' C cl fp) ?_ (fun it => by rfl) rfl (hs2 _) (fun i z => by cases z)
    exact put_body rfl (he t H' C cl fp)
  · obtain ⟨f0, f1, f2, f3, f4, f5⟩ := f
    exact ⟨.ref D, H', I'.turned (t' := t.toks) (fun b o hb z => (sb.2 b hb).trans z) f0 f1 f3 f4 f5, rfl, q⟩
/-- a def with defaults that lets nothing out -/
theorem fd_ok {P : Program} {w : World} {K : PySem.W.Frag} {mg : Str → Option Value} {base : Heap} {x qual : Str} {params : Arguments} {body : List Stmt} {scope : Scope} {dvs : List V} {kws : List (Str × V)} {f : Addr} {fd : FuncData} {N ps : List Str} {k : Nat} {sp : Sp} (F : FunD K x qual params body scope dvs kws f fd) (S : FnScope N ps scope) (len : ∀ vs H Q E, sp vs H Q E → vs.length = ps.length)
    (hbody : ∀ (cdv : Value) (A : Around) (outer : List Env) (s : Shared) (H : Hp) (vs : List V) (Q : VK) (E : XK), Room k (A.deeper (envOfC qual scope s.heap.objs.size f cdv)) → sp vs H Q E →
      ∃ t, PSs (cxOf CX0 P w K mg base N qual scope f cdv A outer s H E).nox body t ∧ t { nx := fun _ H' => Q .non H', rt := Q } (L2.start N vs) H) : FnOk P w K mg base CX0 (k + 1) f fd ps sp :=
  F.ok S len fun cdv A outer s H vs Q E hr hsp => by
    obtain ⟨t, h, q⟩ := hbody cdv A outer s H vs Q E hr hsp
    exact ⟨t, h.nox, q⟩
end Pf


namespace Pf
open PySem PySem.Spec PyProof.Rows L2
def mpB (r : Rl) (x : Str) (p q : Int) : Bool := decide (0 ≤ p ∧ p < q ∧ q < x.length) && mayC r x p q
theorem mp_okk {r : Rl} {x : Str} {i j : Int} (i0 : 0 ≤ i) (j1 : j < x.length) (c : Nat) : mpB r x (i + (c : Int)) (j - (c : Int)) = okk r x i j c := by
  unfold mpB okk
  congr 1
  exact decide_eq_decide.mpr ⟨fun h => h.2.1, fun h => ⟨by omega, h, by omega⟩⟩
def pS (r : Rl) (x : Str) (i : Int) : List St3 := (List.range x.length).flatMap fun j : Nat => stAt r x i (0 + (j : Int))
def pL (r : Rl) (x : Str) : List St3 := (List.range x.length).flatMap fun i : Nat => pS r x (0 + (i : Int))
theorem stAt_no {r : Rl} {x : Str} {i j : Int} (h : j ≤ i) : stAt r x i j = [] := by
  unfold stAt
  have : runF r x i j 7 0 = 0 := by
    refine runF_is 7 0 (fun m h1 h2 => by omega) ?_ (by omega) (Nat.le_refl _)
    unfold okk
    rw [decide_eq_false (by omega), Bool.false_and]
  rw [this]
  rfl
theorem flat_from {β : Type} (g : Nat → List β) (a : Nat) (h : ∀ j, j < a → g j = []) : ∀ n : Nat, (List.range n).flatMap g = (List.range (n - a)).flatMap fun t => g (a + t)
  | 0 => by
    rw [Nat.zero_sub]
    rfl
  | n + 1 => by
    rw [flat_succ, flat_from g a h n]
    by_cases e : n < a
    · rw [h n e, List.append_nil, show n + 1 - a = 0 by omega, show n - a = 0 by omega]
    · rw [show n + 1 - a = (n - a) + 1 by omega, flat_succ, show a + (n - a) = n by omega]
theorem pS_eq (r : Rl) (x : Str) (i : Nat) : pS r x (0 + (i : Int)) = stI r x (0 + (i : Int)) := by
  unfold pS stI
  rw [flat_from (fun j : Nat => stAt r x (0 + (i : Int)) (0 + (j : Int))) (i + 1) (fun j h => stAt_no (by omega)) x.length]
  rw [show ((x.length : Int) - (0 + (i : Int) + 1)).toNat = x.length - (i + 1) by omega]
  congr 1
  funext t
  congr 1
  omega
theorem pL_eq (r : Rl) (x : Str) : pL r x = stL r x := by
  unfold pL stL
  congr 1
  funext i
  exact pS_eq r x i
theorem stAt_len (r : Rl) (x : Str) (i j : Int) : (stAt r x i j).length ≤ 7 := by
  unfold stAt
  rw [List.length_map, List.length_range]
  exact runF_le 7 0
def skey (y : St3) : List Key := [.inl y.1, .inl y.2.1, .inl y.2.2]
theorem skey_inj {y z : St3} (h : skey y = skey z) : y = z := by
  obtain ⟨a, b, c⟩ := y
  obtain ⟨d, e, f⟩ := z
  unfold skey at h
  simp only [List.cons.injEq, Sum.inl.injEq, and_true] at h
  obtain ⟨rfl, rfl, rfl⟩ := h
  rfl
section
variable {P : Program} {w : World} {K : PySem.W.Frag} {mg : Str → Option Value} {base : Heap}
def spMPX : Sp := fun vs H Q _ => ∃ (v : V) (r : Rl) (x : Str) (i j : Int), vs = [v, .str x, .int i, .int j] ∧ RulesW H v r ∧ x.length ≤ 1000 ∧ ∀ H', Ext H H' → Q (.bl (mpB r x i j)) H'
theorem ok_mpx {f : Addr} {fd : FuncData} (F : Fun K "may_pair" "may_pair" s_may_pair f fd) (ctext_of : CTx P w K mg base) (cpair_worth : CPW P w K mg base) (mlen : mg "len" = none) : FnOk P w K mg base CX0 2 f fd ["rules", "string", "i", "j"] spMPX := by
  refine F.ok sc_may_pair (fun vs H Q E h => ?_) (fun cdv A outer s H vs Q E hr h => ?_)
  · obtain ⟨v, r, x, i, j, rfl, _⟩ := h
    rfl
  · obtain ⟨v, r, x, i, j, rfl, hR, hx, q⟩ := h
    obtain ⟨a, vp, vl, vs, rfl, hA, hp, hl, hs⟩ := id hR
    have no : ¬ (0 ≤ i ∧ i < j ∧ j < x.length) → Q (.bl false) H := fun h => by
      have := q H Ext.refl
      unfold mpB at this
      rw [decide_eq_false h, Bool.false_and] at this
      exact this
    refine ⟨_, (pss_cons (ps_if (pt_not (pt_chain3 op_le op_lt op_lt pe_int (pv 2) (pv 3) (pe_callB call_len_str (by rfl) mlen (by decide +kernel) (pa_cons (pv 1) pa_nil)))) (pss_one (ps_ret pe_bl)) pss_nil)
      (pss_cons (ps_if (pt_cmpR op_lt (pe_op op_sub (pe_op op_sub (pv 3) (pv 2)) pe_int) (pe_ix (ixT K) (pv 0) pe_int (fun _ _ => rfl)) (nomark _)) (pss_one (ps_ret pe_bl)) pss_nil)
      (pss_one (ps_ret (pe_cmpR op_notN (pe_ca cpair_worth (hr.mono (by decide)) (by rfl) (pa_cons (pv 0) (pa_cons (pe_ca ctext_of (hr.mono (by decide)) (by rfl) (pa_cons (pv 1) (pa_cons (pe_tup (pa_cons (pv 2) (pa_cons (pv 3) pa_nil))) pa_nil))) pa_nil))) pe_non (nomark _)))))), ?_⟩
    refine ⟨_, rfl, 0, i, rfl, rfl, _, rfl, ?_⟩
    by_cases e1 : 0 ≤ i
    · rw [decide_eq_true e1]
      refine iteT ⟨_, rfl, i, j, rfl, rfl, _, rfl, ?_⟩
      by_cases e2 : i < j
      · rw [decide_eq_true e2]
        refine iteT ⟨_, rfl, x, rfl, szL (by omega), _, _, rfl, rfl, _, rfl, ?_⟩
        by_cases e3 : j < x.length
        · rw [decide_eq_true e3]
          have ex : mpB r x i j = mayC r x i j := by
            unfold mpB
            rw [decide_eq_true ⟨e1, e2, e3⟩, Bool.true_and]
          rw [ex] at q
          refine iteF ⟨_, rfl, _, rfl, _, _, rfl, rfl, _, 1, rfl, rfl, _, rfl, a, _, 2, _, rfl, rfl, SqT.of hA, rfl, _, _, rfl, rfl, _, rfl, ite2 (fun e4 => ?_) (fun e4 => ?_)⟩
          · have e4 : j - i - 1 < r.span := of_decide_eq_true e4
            have e : mayC r x i j = false := by
              unfold mayC
              rw [decide_eq_false (show ¬ r.span < j - i by omega), Bool.false_and]
            have := q H Ext.refl
            rw [e] at this
            exact this
          · have e4 : ¬ j - i - 1 < r.span := fun z => e4 (decide_eq_true z)
            refine ⟨_, rfl, _, rfl, _, rfl, _, rfl, szL (show 2 ≤ 1000000 by decide), fun t ht => ?_⟩
            refine ⟨x, t, (i, j), rfl, upd_same, hx, e1, (show i < x.length by omega), (show 0 ≤ j by omega), e3, ?_⟩
            refine ⟨_, r, _, rfl, RulesW.mono _ _ _ _ (TupK.new ht) hR, rfl, ?_⟩
            have e : mayC r x i j = !decide (pwV r.prs (tx2 x (i, j)) = .non) := by
              unfold mayC
              rw [decide_eq_true (show r.span < j - i by omega), Bool.true_and, pwV_is]
            have := q _ (Ext.new (o := .tup [.int i, .int j]) ht)
            rw [e] at this
            exact this
        · rw [decide_eq_false e3]
          exact iteT (no fun h => e3 h.2.2)
      · rw [decide_eq_false e2]
        exact iteF ⟨_, rfl, iteT (no fun h => e2 h.2.1)⟩
    · rw [decide_eq_false e1]
      exact iteF ⟨_, rfl, iteT (no fun h => e1 h.1)⟩
abbrev CMPX (P : Program) (w : World) (K : PySem.W.Frag) (mg : Str → Option Value) (base : Heap) : Prop := Ca P w K mg base 2 "may_pair" ["rules", "string", "i", "j"] spMPX
abbrev s_stretches_at : Stmt := topS 19
theorem sc_stretches_at : FnScope ["rules", "string", "i", "j", "found", "size"] ["rules", "string", "i", "j"] (defScope s_stretches_at) :=
  ⟨rfl, rfl, rfl, by decide +kernel, rfl, by decide +kernel, by decide +kernel⟩
def spSAt : Sp := fun vs H Q _ => ∃ (v : V) (r : Rl) (x : Str) (i j : Int), vs = [v, .str x, .int i, .int j] ∧ RulesW H v r ∧ x.length ≤ 12 ∧ 0 ≤ i ∧ j < x.length ∧ ∀ (l : Addr) (us : List V) (H' : Hp), H l = none → H' l = some (.lst us) → Paired (Tri H') us (stAt r x i j) → Ext H H' → Q (.ref l) H'
theorem ok_sat {f : Addr} {fd : FuncData} (F : Fun K "stretches_at" "stretches_at" s_stretches_at f fd) (cmay_pair : CMPX P w K mg base) : FnOk P w K mg base CX0 3 f fd ["rules", "string", "i", "j"] spSAt := by
  refine F.ok sc_stretches_at (fun vs H Q E h => ?_) (fun cdv A outer s H vs Q E hr h => ?_)
  · obtain ⟨v, r, x, i, j, rfl, _⟩ := h
    rfl
  · obtain ⟨v, r, x, i, j, rfl, hR, hx, i0, j1, q⟩ := h
    refine ⟨_, (pss_cons (ps_set (i := 4) sc_stretches_at.nd rfl (.inl rfl) (pe_lst pa_nil))
      (pss_cons (ps_set (i := 5) sc_stretches_at.nd rfl (.inl rfl) pe_int)
      (pss_cons (ps_while PassesOwn.never (pt_val (pe_ca cmay_pair (hr.mono (by decide)) (by rfl) (pa_cons (pv 0) (pa_cons (pv 1) (pa_cons (pe_op op_sub (pe_op op_add (pv 2) (pv 5)) pe_int) (pa_cons (pe_op op_add (pe_op op_sub (pv 3) (pv 5)) pe_int) pa_nil)))))) (pss_cons (ps_expr (pe_bm PySem.F.plainAttrs_list PySem.F.slot_list_append PySem.F.type_list_append mt_append (pv 4) (pa_cons (pe_tup (pa_cons (pv 2) (pa_cons (pv 3) (pa_cons (pv 5) pa_nil)))) pa_nil)))
      (pss_one (ps_aug (i := 5) sc_stretches_at.nd rfl (.inl rfl) pe_int ip_add))))
      (pss_one (ps_ret (pv 4)))))), ?_⟩
    refine ⟨Nat.zero_le _, fun ls hls => ?_⟩
    refine ⟨fun mm σ H5 => ∃ c : Nat, σ = [some v, some (.str x), some (.int i), some (.int j), some (.ref ls), some (.int ((c : Int) + 1))] ∧ mm = 20 - c ∧ c ≤ 6 ∧ (∀ k, k < c → okk r x i j k = true) ∧ GenL Tri ls H ((List.range c).map fun k : Nat => (i, j, (k : Int) + 1)) H5,
      ⟨_, 0, rfl, rfl, by decide, fun k hk => by omega, by rw [List.range_zero, List.map_nil]; exact genl_new hls⟩, fun mm σ H5 hv => ?_⟩
    obtain ⟨c, rfl, rfl, hc6, hall, hg5⟩ := hv
    refine ⟨_, rfl, _, rfl, _, rfl, _, rfl, _, _, rfl, rfl, _, _, rfl, rfl, _, rfl, _, rfl, _, _, rfl, rfl, _, _, rfl, rfl, v, r, x, _, _, rfl, RulesW.mono _ _ _ _ (TupK.ext hg5.ext) hR, by omega, fun H6 k6 => ⟨_, rfl, ?_⟩⟩
    rw [show i + ((c : Int) + 1) - 1 = i + (c : Int) by omega, show j - ((c : Int) + 1) + 1 = j - (c : Int) by omega, mp_okk i0 j1]
    refine ite2 (fun em => ?_) (fun em => ?_)
    · have hlt : c < 6 := by
        unfold okk at em
        rw [Bool.and_eq_true] at em
        have := of_decide_eq_true em.1
        omega
      refine ⟨_, fun σ' H' h => h, ?_⟩
      obtain ⟨vs6, hL6, _, _⟩ := hg5.keep Tri.mono k6
      refine ⟨_, rfl, .inl ⟨rfl, _, SqL.of hL6⟩, _, rfl, _, rfl, _, rfl, szL (show 3 ≤ 1000000 by decide), fun t7 ht7 => ?_⟩
      have x7 := Ext.new (o := .tup [.int i, .int j, .int ((c : Int) + 1)]) ht7
      delta tNil
      refine app_ok Tri.mono hls hg5 (k6.trans x7) (b := (i, j, (c : Int) + 1)) ⟨t7, rfl, upd_same⟩ (by rw [List.length_map, List.length_range]; omega) fun H8 hg8 => ?_
      refine ⟨_, rfl, _, 1, rfl, rfl, ?_⟩
      refine ⟨_, ?_, c + 1, rfl, rfl, by omega, fun k hk => ?_, ?_⟩
      · omega
      · by_cases ek : k = c
        · rw [ek]
          exact em
        · exact hall k (by omega)
      · rw [List.range_succ, List.map_append]
        exact hg8
    · have hrun : runF r x i j 7 0 = c := runF_is 7 0 (fun m _ hm => hall m hm) (Bool.eq_false_iff.mpr em) (by omega) (Nat.zero_le _)
      have es : stAt r x i j = (List.range c).map fun k : Nat => (i, j, (k : Int) + 1) := by
        unfold stAt
        rw [hrun]
      obtain ⟨us, hL, hP, k⟩ := hg5.keep Tri.mono k6
      rw [es] at q
      exact ⟨_, rfl, q ls us H6 hls hL hP k⟩
abbrev CSAt (P : Program) (w : World) (K : PySem.W.Frag) (mg : Str → Option Value) (base : Heap) : Prop := Ca P w K mg base 3 "stretches_at" ["rules", "string", "i", "j"] spSAt
abbrev s_all_stretches : Stmt := topS 20
theorem sc_all_stretches : FnScope ["rules", "string", "places", "i", "j", "stretch"] ["rules", "string"] (defScope s_all_stretches) :=
  ⟨rfl, rfl, rfl, by decide +kernel, rfl, by decide +kernel, by decide +kernel⟩
def spASt : Sp := fun vs H Q _ => ∃ (v : V) (r : Rl) (x : Str), vs = [v, .str x] ∧ RulesW H v r ∧ x.length ≤ 12 ∧ ∀ (l : Addr) (us : List V) (H' : Hp), H l = none → H' l = some (.lst us) → Paired (Tri H') us (stL r x) → Ext H H' → Q (.ref l) H'
theorem ok_ast {f : Addr} {fd : FuncData} (F : Fun K "all_stretches" "all_stretches" s_all_stretches f fd) (cstretches_at : CSAt P w K mg base) (mrange : mg "range" = none) (mlen : mg "len" = none) (mlist : mg "list" = none) : FnOk P w K mg base CX0 4 f fd ["rules", "string"] spASt := by
  refine F.ok sc_all_stretches (fun vs H Q E h => ?_) (fun cdv A outer s H vs Q E hr h => ?_)
  · obtain ⟨v, r, x, rfl, _⟩ := h
    rfl
  · obtain ⟨v, r, x, rfl, hR, hx, q⟩ := h
    refine ⟨_, (pss_cons (ps_set (i := 2) sc_all_stretches.nd rfl (.inr rfl) (pe_listRg rfl (by rfl) mlist (prg_1 (by rfl) mrange (pe_callB call_len_str (by rfl) mlen (by decide +kernel) (pa_cons (pv 1) pa_nil)))))
      (pss_one (ps_ret (pe_lc3 (own := [("i", 3), ("j", 4), ("stretch", 5)]) (vs1 := [4, 5]) (vs2 := [5]) (g := gName 3) (g1 := gName 4) (g2 := gName 5) (by rfl) sc_all_stretches.nd (pi_list (pv 2)) (blkOk_by (own := [("i", 3), ("j", 4), ("stretch", 5)]) (N := ["rules", "string", "places", "i", "j", "stretch"]) (sc := defScope s_all_stretches) (by decide +kernel)) (by decide) (by decide) (fun _ _ _ _ _ => (pg_name (i := 3) sc_all_stretches.nd rfl (.inl rfl))) (fun _ _ _ _ _ => pts_nil) (fun _ _ _ _ _ => (piL K (pv 2))) (fun _ _ _ _ _ => (pg_name (i := 4) sc_all_stretches.nd rfl (.inl rfl))) (fun _ _ _ _ _ => pts_nil) (fun _ _ _ _ _ => (piL K (pe_ca cstretches_at (hr.mono (by decide)) (by rfl) (pa_cons (pv 0) (pa_cons (pv 1) (pa_cons (pv 3) (pa_cons (pv 4) pa_nil))))))) (fun _ _ _ _ _ => (pg_name (i := 5) sc_all_stretches.nd rfl (.inl rfl))) (fun _ _ _ _ _ => pts_nil) (fun _ _ _ _ _ => (pv 5)))))), ?_⟩
    rw [← pL_eq] at q
    refine ⟨_, rfl, x, rfl, szL (by omega), (x.length : Int), rfl, RgOk.of_le (by omega) (by omega) (by omega) (by omega), fun pl hpl => ?_⟩
    have xp := Ext.new (o := .lst (rgV 0 (x.length : Int))) hpl
    have hpl2 : upd H pl (.lst (rgV 0 (x.length : Int))) pl = some (.lst (rgV 0 (x.length : Int))) := upd_same
    generalize upd H pl (.lst (rgV 0 (x.length : Int))) = H1 at xp hpl2
    have hrl : (rgV 0 (x.length : Int)).length = x.length := by
      rw [rgV_length]
      omega
    have hrg : ∀ {i : Nat} {u : V}, (rgV 0 (x.length : Int))[i]? = some u → u = .int (0 + (i : Int)) ∧ i < x.length := fun {i u} h => by
      have hl := (List.getElem?_eq_some_iff.mp h).1
      rw [hrl] at hl
      unfold rgV at h
      rw [List.getElem?_map, List.getElem?_range (by omega)] at h
      injection h with h
      exact ⟨h.symm, hl⟩
    generalize rgV 0 (x.length : Int) = rg at hpl2 hrl hrg
    refine ⟨_, rfl, pl, rfl, ⟨_, SqL.of hpl2⟩, fun D hD => ?_⟩
    have nD : pl ≠ D := fun z => by rw [z, hD] at hpl2; cases hpl2
    have hpu : ∀ {H2 : Hp} {L : List St3}, GenL Tri D H1 L H2 → SqL K H2 pl rg := fun g => SqL.of (g.ext _ _ hpl2)
    refine cl_it (walk_list (K := K) (xs := rg)) (fun i H2 => GenL Tri D H1 ((List.range i).flatMap fun i : Nat => pS r x (0 + (i : Int))) H2 ∧ ((List.range i).flatMap fun i : Nat => pS r x (0 + (i : Int))).length ≤ 84 * i)
      ⟨genl_new hD, Nat.zero_le _⟩ (fun i H2 _ h => hpu h.1) (fun i u H2 H2' hi hv hy => ?_) (fun H2 hv => ?_)
    · obtain ⟨rfl, hu⟩ := hy
      obtain ⟨hg, hb⟩ := hv
      obtain ⟨rfl, hix⟩ := hrg hu
      rw [flat_succ]
      generalize (List.range i).flatMap (fun i : Nat => pS r x (0 + (i : Int))) = pre at hg hb
      obtain ⟨I, hI⟩ : ∃ I : Int, I = 0 + (i : Int) := ⟨_, rfl⟩
      rw [← hI]
      refine ⟨rfl, ?_⟩
      refine ⟨_, rfl, pl, rfl, ⟨_, hpu hg⟩, ?_⟩
      refine cl_it (walk_list (K := K) (xs := rg)) (fun j H3 => GenL Tri D H1 (pre ++ (List.range j).flatMap fun j : Nat => stAt r x I (0 + (j : Int))) H3 ∧ (pre ++ (List.range j).flatMap fun j : Nat => stAt r x I (0 + (j : Int))).length ≤ 84 * i + 7 * j)
        ⟨by rw [List.range_zero, List.flatMap_nil, List.append_nil]; exact hg, by rw [List.range_zero, List.flatMap_nil, List.append_nil]; omega⟩ (fun j H3 _ h => hpu h.1) (fun j u H3 H3' hj hv hy => ?_) (fun H3 hv => ?_)
      · obtain ⟨rfl, hu⟩ := hy
        obtain ⟨hg3, hb3⟩ := hv
        obtain ⟨rfl, hjx⟩ := hrg hu
        rw [flat_succ, ← List.append_assoc]
        generalize pre ++ (List.range j).flatMap (fun j : Nat => stAt r x I (0 + (j : Int))) = pre2 at hg3 hb3
        obtain ⟨J, hJ⟩ : ∃ J : Int, J = 0 + (j : Int) := ⟨_, rfl⟩
        rw [← hJ]
        refine ⟨rfl, ?_⟩
        refine ⟨_, rfl, _, rfl, _, rfl, _, rfl, v, r, x, I, J, rfl, RulesW.mono _ _ _ _ (TupK.ext (xp.trans hg3.ext)) hR, hx, by omega, by omega, fun l us H5 hl hL hP k5 => ?_⟩
        have hul := paired_len hP
        have hsl := stAt_len r x I J
        have hg5 := hg3.keep Tri.mono k5
        obtain ⟨vsD, hD5, _, _⟩ := id hg3
        have nl : l ≠ D := fun z => by rw [z, hD5] at hl; cases hl
        refine ⟨l, rfl, ⟨_, SqL.of hL⟩, ?_⟩
        refine cl_it (walk_list (K := K) (xs := us)) (fun k H6 => GenL Tri D H1 (pre2 ++ (stAt r x I J).take k) H6 ∧ H6 l = some (.lst us) ∧ TupK H5 H6)
          ⟨by rw [List.take_zero, List.append_nil]; exact hg5, hL, TupK.refl⟩ (fun k H6 _ h => SqL.of h.2.1) (fun k u H6 H6' hk hv hy => ?_) (fun H6 hv => ?_)
        · obtain ⟨rfl, hu⟩ := hy
          obtain ⟨hg6, hl6, tk6⟩ := hv
          obtain ⟨y, hy, hT⟩ := paired_get hP hu
          refine ⟨rfl, ?_⟩
          obtain ⟨vs6, hD6, _, _⟩ := id hg6
          obtain ⟨acc, ha, hz, hgn⟩ := genl_step Tri.mono hD hg6 Ext.refl (b := y) (Tri.mono _ _ _ _ tk6 hT) (by rw [List.length_append, List.length_take]; omega)
          refine ⟨_, rfl, acc, ha, hz, ?_, ?_, tk6.trans (TupK.lst ha)⟩
          · rw [List.take_add_one, hy, ← List.append_assoc]
            exact hgn
          · rw [upd_ne nl]
            exact hl6
        · obtain ⟨hg6, _, _⟩ := hv
          rw [List.take_of_length_le (by omega)] at hg6
          exact ⟨hg6, by rw [List.length_append]; omega⟩
      · obtain ⟨hg3, hb3⟩ := hv
        rw [hrl] at hg3 hb3
        exact ⟨hg3, by have : (pre ++ pS r x I).length ≤ 84 * i + 7 * x.length := hb3; omega⟩
    · obtain ⟨hg, hb⟩ := hv
      rw [hrl] at hg
      obtain ⟨us, hL, hP, k⟩ := hg
      exact q D us H2 (xp.none hD) hL hP (xp.trans k)
abbrev CASt (P : Program) (w : World) (K : PySem.W.Frag) (mg : Str → Option Value) (base : Heap) : Prop := Ca P w K mg base 4 "all_stretches" ["rules", "string"] spASt
abbrev s_do_cross : Stmt := topS 15
theorem sc_do_cross : FnScope ["stretch", "other", "i", "j", "size", "p", "q", "many"] ["stretch", "other"] (defScope s_do_cross) :=
  ⟨rfl, rfl, rfl, by decide +kernel, rfl, by decide +kernel, by decide +kernel⟩
def spDC : Sp := fun vs H Q _ => ∃ (v1 v2 : V) (y z : St3), vs = [v1, v2] ∧ Tri H v1 y ∧ Tri H v2 z ∧ Q (.bl (crB y z)) H
theorem ok_dc {f : Addr} {fd : FuncData} {k : Nat} (F : Fun K "do_cross" "do_cross" s_do_cross f fd) : FnOk P w K mg base CX0 (k + 1) f fd ["stretch", "other"] spDC := by
  refine F.ok sc_do_cross (fun vs H Q E h => ?_) (fun cdv A outer s H vs Q E hr h => ?_)
  · obtain ⟨v1, v2, y, z, rfl, _⟩ := h
    rfl
  · obtain ⟨v1, v2, y, z, rfl, ⟨a, rfl, ha⟩, ⟨b, rfl, hb⟩, q⟩ := h
    refine ⟨_, (pss_cons (ps_asg (pv 0) (pg_tup rfl (pgs_cons (pg_name (i := 2) sc_do_cross.nd rfl (.inl rfl)) (pgs_cons (pg_name (i := 3) sc_do_cross.nd rfl (.inl rfl)) (pgs_cons (pg_name (i := 4) sc_do_cross.nd rfl (.inl rfl)) pgs_nil)))))
      (pss_cons (ps_asg (pv 1) (pg_tup rfl (pgs_cons (pg_name (i := 5) sc_do_cross.nd rfl (.inl rfl)) (pgs_cons (pg_name (i := 6) sc_do_cross.nd rfl (.inl rfl)) (pgs_cons (pg_name (i := 7) sc_do_cross.nd rfl (.inl rfl)) pgs_nil)))))
      (pss_one (ps_ret (pe_and (pe_cmpR op_lt (pe_op op_sub (pe_op op_add (pv 2) (pv 4)) pe_int) (pv 5) (nomark _)) (pe_and (pe_cmpR op_lt (pe_op op_sub (pe_op op_add (pv 5) (pv 7)) pe_int) (pe_op op_add (pe_op op_sub (pv 3) (pv 4)) pe_int) (nomark _)) (pe_one (pe_cmpR op_lt (pv 3) (pe_op op_add (pe_op op_sub (pv 6) (pv 7)) pe_int) (nomark _))))))))), ?_⟩
    unfold crB at q
    refine ⟨_, rfl, a, _, rfl, SqT.of ha, rfl, _, _, rfl, _, _, rfl, _, _, rfl, rfl, ?_⟩
    refine ⟨_, rfl, b, _, rfl, SqT.of hb, rfl, _, _, rfl, _, _, rfl, _, _, rfl, rfl, ?_⟩
    refine ⟨_, rfl, _, rfl, _, _, rfl, rfl, _, _, rfl, rfl, _, rfl, _, _, rfl, rfl, _, rfl, ite2 (fun e1 => ?_) (fun e1 => ?_)⟩
    · have e1 : y.1 + y.2.2 - 1 < z.1 := of_decide_eq_true e1
      rw [decide_eq_true e1, Bool.true_and] at q
      refine ⟨_, rfl, _, rfl, _, _, rfl, rfl, _, _, rfl, rfl, _, rfl, _, rfl, _, _, rfl, rfl, _, _, rfl, rfl, _, _, rfl, rfl, _, rfl, ite2 (fun e2 => ?_) (fun e2 => ?_)⟩
      · have e2 : z.1 + z.2.2 - 1 < y.2.1 - y.2.2 + 1 := of_decide_eq_true e2
        rw [decide_eq_true e2, Bool.true_and] at q
        exact ⟨_, rfl, _, rfl, _, rfl, _, _, rfl, rfl, _, _, rfl, rfl, _, _, rfl, rfl, q⟩
      · have e2 : ¬ z.1 + z.2.2 - 1 < y.2.1 - y.2.2 + 1 := fun w => e2 (decide_eq_true w)
        rw [decide_eq_false e2, Bool.false_and] at q
        exact q
    · have e1 : ¬ y.1 + y.2.2 - 1 < z.1 := fun w => e1 (decide_eq_true w)
      rw [decide_eq_false e1, Bool.false_and, Bool.false_and] at q
      exact q
abbrev CDC (P : Program) (w : World) (K : PySem.W.Frag) (mg : Str → Option Value) (base : Heap) : Prop := Ca P w K mg base 1 "do_cross" ["stretch", "other"] spDC
abbrev s_all_crossed : Stmt := topS 21
theorem sc_all_crossed : FnScope ["rules", "string", "cross", "stretches", "stretch", "worths", "found", "other"] ["rules", "string", "cross"] (defScope s_all_crossed) :=
  ⟨rfl, rfl, rfl, by decide +kernel, rfl, by decide +kernel, by decide +kernel⟩
def spACr : Sp := fun vs H Q _ => ∃ (v : V) (r : Rl) (x : Str) (c : Int), vs = [v, .str x, .int c] ∧ RulesW H v r ∧ RlOk r ∧ x.length ≤ 12 ∧ ∀ (l : Addr) (us : List V) (H' : Hp), H l = none → H' l = some (.lst us) → Paired (CrAt H') us (SG dCr (crL r x c)) → Ext H H' → Q (.ref l) H'
theorem ok_acr {f : Addr} {fd : FuncData} (F : FunD K "all_crossed" "all_crossed" (defArgs s_all_crossed) (defBody s_all_crossed) (defScope s_all_crossed) [] [("cross", .int 0)] f fd) (call_stretches : CASt P w K mg base) (cstretch_worth : CSWo P w K mg base) (cdo_cross : CDC P w K mg base) (msorted : mg "sorted" = none) : FnOk P w K mg base CX0 5 f fd ["rules", "string", "cross"] spACr := by
  refine fd_ok F sc_all_crossed (fun vs H Q E h => ?_) (fun cdv A outer s H vs Q E hr h => ?_)
  · obtain ⟨v, r, x, c, rfl, _⟩ := h
    rfl
  · obtain ⟨v, r, x, cr, rfl, hR, ok, hx, q⟩ := h
    refine ⟨_, (pss_cons (ps_set (i := 3) sc_all_crossed.nd rfl (.inl rfl) (pe_ca call_stretches (hr.mono (by decide)) (by rfl) (pa_cons (pv 0) (pa_cons (pv 1) pa_nil))))
      (pss_cons (ps_setDcT (i := 5) (own := [("stretch", 4)]) (g := gName 4) hr.units0 (by rfl) sc_all_crossed.nd rfl rfl (swD_true rfl rfl rfl (by decide +kernel)) (pi_list (pv 3)) (blkOk_by (own := [("stretch", 4)]) (N := ["rules", "string", "cross", "stretches", "stretch", "worths", "found", "other"]) (sc := defScope s_all_crossed) (by decide +kernel)) (fun _ _ _ _ _ => (pg_name (i := 4) sc_all_crossed.nd rfl (.inl rfl))) (fun _ _ _ _ _ => (pv 4)) (fun _ _ _ _ _ => (pe_ca cstretch_worth (hr.mono (by decide)) (by rfl) (pa_cons (pv 0) (pa_cons (pv 1) (pa_cons (pv 4) pa_nil))))))
      (pss_cons (ps_set (i := 6) sc_all_crossed.nd rfl (.inl rfl) (pe_lst pa_nil))
      (pss_cons (ps_for PassesOwn.never rfl (pi_list (pv 3)) (pg_name (i := 4) sc_all_crossed.nd rfl (.inl rfl)) (pss_one (ps_for PassesOwn.never rfl (pi_list (pv 3)) (pg_name (i := 7) sc_all_crossed.nd rfl (.inl rfl)) (pss_one (ps_if (pt_val (pe_ca cdo_cross (hr.mono (by decide)) (by rfl) (pa_cons (pv 4) (pa_cons (pv 7) pa_nil)))) (pss_one (ps_expr (pe_bm PySem.F.plainAttrs_list PySem.F.slot_list_append PySem.F.type_list_append mt_append (pv 6) (pa_cons (pe_tup (pa_cons (pe_op op_add (pe_op op_add (pe_dget (hu_of hr) (pv 5) (pv 4) (fun _ _ => rfl)) (pe_dget (hu_of hr) (pv 5) (pv 7) (fun _ _ => rfl))) (pv 2)) (pa_cons (pe_tup (pa_cons (pv 4) (pa_cons (pv 7) pa_nil))) pa_nil))) pa_nil)))) pss_nil)))))
      (pss_one (ps_ret (pe_callB (cr_sortD K hr.units) (by rfl) msorted (by decide +kernel) (pa_cons (pv 6) pa_nil)))))))), ?_⟩
    have hsl := stL_len r hx
    have hok : ∀ y ∈ stL r x, StOk r x y := fun y hy => (stL_ok hx hy).1
    obtain ⟨S, hS⟩ : ∃ S, S = stL r x := ⟨_, rfl⟩
    have hcl : crL r x cr = S.flatMap (crI r x cr S) := by
      rw [hS]
      rfl
    rw [hcl] at q
    refine ⟨_, rfl, _, rfl, v, r, x, rfl, hR, hx, fun l us H1 hl hL hP k1 => ?_⟩
    rw [← hS] at hP hsl hok
    clear hS hcl
    have hul := paired_len hP
    -- worths
    refine ⟨_, rfl, l, rfl, ⟨_, SqL.of hL⟩, fun D hD => dcT_it (walk_list (K := K) (xs := us)) (fun i H2 => ∃ kvs, H2 D = some (.dT kvs) ∧ kvs.length ≤ i ∧ (∀ y ∈ S.take i, valV kvs (skey y) = some (.int (wS r x y))) ∧ Ext H1 H2)
      ⟨[], upd_same, Nat.zero_le _, fun y h => (by rw [List.take_zero] at h; cases h), Ext.new hD⟩ (fun i H2 _ h => by obtain ⟨_, _, _, _, k⟩ := h; exact SqL.of (k _ _ hL)) (fun i u H2 H2' hi hv hy => ?_) (fun H2 hv => ?_)⟩
    · obtain ⟨rfl, hu⟩ := hy
      obtain ⟨kvs, hD2, hkl, hval, k2⟩ := hv
      obtain ⟨y, hy, hT⟩ := paired_get hP hu
      have hT2 := Tri.mono _ _ _ _ (TupK.ext k2) hT
      obtain ⟨b, rfl, hb⟩ := id hT2
      refine ⟨rfl, _, rfl, _, rfl, _, rfl, _, rfl, v, .ref b, r, x, y, rfl, RulesW.mono _ _ _ _ (TupK.ext (k1.trans k2)) hR, ok, hx, hT2, hok y (List.mem_of_getElem? hy), fun H3 k3 => ?_⟩
      refine ⟨kvs, skey y, b, rfl, k3 _ _ hb, k3 _ _ hD2, szLt (by omega), _, upd_same, by have := putT_len kvs (skey y) (.int (wS r x y)); omega, fun z hz => ?_, (k2.trans k3).put hD⟩
      rw [valV_put]
      by_cases c : z = y
      · rw [if_pos (by rw [c]), c]
      · rw [if_neg fun e => c (skey_inj e)]
        rw [List.take_add_one, hy] at hz
        rcases List.mem_append.mp hz with hz | hz
        · exact hval z hz
        · exact absurd (List.mem_singleton.mp hz) c
    obtain ⟨kvs, hD2, _, hval, k2⟩ := hv
    rw [List.take_of_length_le (by omega)] at hval
    have k02 := k1.trans k2
    refine ⟨Nat.zero_le _, fun lf hlf => ?_⟩
    refine ⟨_, rfl, l, rfl, ⟨_, SqL.of (Ext.new hlf _ _ (k2 _ _ hL))⟩, for_list (K := K) (xs := us) (fun c σ H3 => ∃ (y4 y7 : Option V), σ = [some v, some (.str x), some (.int cr), some (.ref l), y4, some (.ref D), some (.ref lf), y7] ∧ GenL CrAt lf H2 ((S.take c).flatMap (crI r x cr S)) H3 ∧ ((S.take c).flatMap (crI r x cr S)).length ≤ 462 * c)
      ⟨_, _, rfl, genl_new hlf, Nat.zero_le _⟩ (fun c σ H3 _ h => by obtain ⟨_, _, _, g, _⟩ := h; exact SqL.of (g.ext _ _ (k2 _ _ hL))) (fun c u σ H3 hc hv => ?_) (fun σ H3 hv => ?_)⟩
    · obtain ⟨y4, y7, rfl, hg3, hb3⟩ := hv
      have hcl : c < S.length := by
        have := (List.getElem?_eq_some_iff.mp hc).1
        omega
      obtain ⟨y, hy, hT⟩ := paired_get hP hc
      have hym := List.mem_of_getElem? hy
      have efl : (S.take (c + 1)).flatMap (crI r x cr S) = (S.take c).flatMap (crI r x cr S) ++ crI r x cr S y := by
        rw [List.take_add_one, hy, List.flatMap_append]
        simp
      rw [efl]
      generalize (S.take c).flatMap (crI r x cr S) = pre at hg3 hb3
      refine ⟨_, rfl, l, rfl, ⟨_, SqL.of (hg3.ext _ _ (k2 _ _ hL))⟩, for_list (K := K) (xs := us) (fun e σ H4 => ∃ (y7 : Option V), σ = [some v, some (.str x), some (.int cr), some (.ref l), some u, some (.ref D), some (.ref lf), y7] ∧ GenL CrAt lf H2 (pre ++ crI r x cr (S.take e) y) H4)
        ⟨_, rfl, by rw [List.take_zero]; show GenL CrAt lf H2 (pre ++ []) H3; rw [List.append_nil]; exact hg3⟩ (fun e σ H4 _ h => by obtain ⟨_, _, g⟩ := h; exact SqL.of (g.ext _ _ (k2 _ _ hL))) (fun e u2 σ H4 he hv => ?_) (fun σ H4 hv => ?_)⟩
      · obtain ⟨y7, rfl, hg4⟩ := hv
        have hel : e < S.length := by
          have := (List.getElem?_eq_some_iff.mp he).1
          omega
        obtain ⟨z, hz, hT2⟩ := paired_get hP he
        have hzm := List.mem_of_getElem? hz
        have k4 := hg4.ext
        have hT14 := Tri.mono _ _ _ _ (TupK.ext (k2.trans k4)) hT
        have hT24 := Tri.mono _ _ _ _ (TupK.ext (k2.trans k4)) hT2
        refine ⟨_, rfl, _, rfl, u, u2, y, z, rfl, hT14, hT24, _, rfl, ite2 (fun hcr => ?_) (fun hcr => ?_)⟩
        · obtain ⟨vs5, hL5, _, _⟩ := id hg4
          obtain ⟨b1, rfl, hb1⟩ := id hT14
          obtain ⟨b2, rfl, hb2⟩ := id hT24
          have hD4 := k4 _ _ hD2
          refine ⟨_, rfl, .inl ⟨rfl, _, SqL.of hL5⟩, _, rfl, _, rfl, D, _, rfl, hval y hym ▸ DGet.t (k := skey y) hD4 hb1, _, rfl, _, rfl, D, _, rfl, hval z hzm ▸ DGet.t (k := skey z) hD4 hb2, _, _, rfl, rfl, _, rfl, _, _, rfl, rfl, _, rfl, _, rfl, szL (show 2 ≤ 1000000 by decide), fun tb htb => ⟨szL (show 2 ≤ 1000000 by decide), fun ta hta => ?_⟩⟩
          have x6 := Ext.new (o := .tup [.ref b1, .ref b2]) htb
          have x7 := Ext.new (o := .tup [.int (wS r x y + wS r x z + cr), .ref tb]) hta
          have x67 := x6.trans x7
          delta tNil
          refine app_ok CrAt.mono hlf hg4 x67 (b := mkC r x cr y z) ⟨ta, .ref tb, rfl, ?_, tb, .ref b1, .ref b2, rfl, x7 _ _ upd_same, Tri.mono _ _ _ _ (TupK.ext x67) hT14, Tri.mono _ _ _ _ (TupK.ext x67) hT24⟩ ?_ fun H8 hg8 => ?_
          · have en : (mkC r x cr y z).1 = wS r x y + wS r x z + cr := by
              show cr + wS r x y + wS r x z = _
              omega
            rw [en]
            exact upd_same
          · rw [List.length_append]
            have h1 := crI_len r x cr (S.take e) y
            rw [List.length_take] at h1
            have : 462 * c ≤ 462 * 462 := Nat.mul_le_mul_left _ (by omega)
            omega
          · have es : crI r x cr (S.take (e + 1)) y = crI r x cr (S.take e) y ++ [mkC r x cr y z] := by
              unfold crI
              rw [filt_take3 hz, if_pos hcr, List.map_append]
              rfl
            refine ⟨_, rfl, ?_⟩
            rw [es, ← List.append_assoc]
            exact hg8
        · have es : crI r x cr (S.take (e + 1)) y = crI r x cr (S.take e) y := by
            unfold crI
            rw [filt_take3 hz, if_neg hcr, List.append_nil]
          refine ⟨_, rfl, ?_⟩
          rw [es]
          exact hg4
      · obtain ⟨y7, rfl, hg4⟩ := hv
        rw [List.take_of_length_le (by omega)] at hg4
        exact ⟨_, _, rfl, hg4, by rw [List.length_append]; have := crI_len r x cr S y; omega⟩
    · obtain ⟨y4, y7, rfl, hg3, hb3⟩ := hv
      rw [List.take_of_length_le (by omega)] at hg3
      obtain ⟨vs3, hL3, hP3, k3⟩ := hg3
      refine ⟨_, rfl, ?_⟩
      delta tNil
      have k03 := k02.trans k3
      exact sort_g CrAt.mono (fun _ _ h => dp_cr h) dep_cr alike_cr (fun b => ⟨_, _, rfl⟩) hL3 hP3 fun p ws H4 hp hp2 hP4 k4 => q p ws H4 (k03.none hp) hp2 hP4 (k03.trans k4)
abbrev CACrN (P : Program) (w : World) (K : PySem.W.Frag) (mg : Str → Option Value) (base : Heap) : Prop := CaN P w K mg base 5 "all_crossed" ["rules", "string", "cross"] 2 ["cross"] (permW [0, 1, 2] []) spACr
abbrev CACrE (P : Program) (w : World) (K : PySem.W.Frag) (mg : Str → Option Value) (base : Heap) : Prop := CaE P w K mg base 5 "all_crossed" ["rules", "string", "cross"] [.int 0] spACr
abbrev CACrK (P : Program) (w : World) (K : PySem.W.Frag) (mg : Str → Option Value) (base : Heap) : Prop := CaK P w K mg base 5 "all_crossed" ["rules", "string", "cross"] ["cross", "string", "rules"] (permW [2, 1, 0] []) spACr
end
end Pf


namespace Pf
open PySem PySem.Spec PyProof.Rows L2
/-! ### how many crossed foldings there are at most -/
theorem flat_sub {α β : Type} {f g : α → List β} (h : ∀ y, (f y).Sublist (g y)) {l l' : List α} (s : l.Sublist l') : (l.flatMap f).Sublist (l'.flatMap g) := by
  induction s with
  | slnil => exact .slnil
  | cons a _ ih =>
    rw [List.flatMap_cons]
    exact (List.nil_append _ ▸ List.Sublist.append (List.nil_sublist _) ih)
  | cons_cons a _ ih =>
    rw [List.flatMap_cons, List.flatMap_cons]
    exact (h a).append ih
def stA (L : Nat) : List St3 := (List.range L).flatMap fun i : Nat => (List.range (L - (i + 1))).flatMap fun t : Nat => (List.range ((t + 2) / 2)).map fun k : Nat => (0 + (i : Int), 0 + (i : Int) + 1 + (t : Int), (k : Int) + 1)
theorem stL_sub (r : Rl) (x : Str) : (stL r x).Sublist (stA x.length) := by
  unfold stL stA
  refine flat_sub (fun i => ?_) (List.Sublist.refl _)
  unfold stI
  rw [show ((x.length : Int) - (0 + (i : Int) + 1)).toNat = x.length - (i + 1) by omega]
  refine flat_sub (fun t => ?_) (List.Sublist.refl _)
  unfold stAt
  refine List.Sublist.map _ (List.range_sublist.mpr ?_)
  by_cases e : runF r x (0 + (i : Int)) (0 + (i : Int) + 1 + (t : Int)) 7 0 = 0
  · omega
  · have := runF_ok (r := r) (x := x) (i := 0 + (i : Int)) (j := 0 + (i : Int) + 1 + (t : Int)) (m := runF r x (0 + (i : Int)) (0 + (i : Int) + 1 + (t : Int)) 7 0 - 1) 7 0 (Nat.zero_le _) (by omega)
    unfold okk at this
    rw [Bool.and_eq_true] at this
    have := of_decide_eq_true this.1
    omega
def crC (S : List St3) : List (St3 × St3) := S.flatMap fun y => (S.filter (crB y)).map fun z => (y, z)
theorem crC_sub {S T : List St3} (h : S.Sublist T) : (crC S).Sublist (crC T) := flat_sub (fun y => List.Sublist.map _ (h.filter _)) h
theorem crC_len : ∀ L : Nat, L < 13 → (crC (stA L)).length ≤ 1190 := by decide +kernel
theorem crL_few (r : Rl) {x : Str} (hx : x.length ≤ 12) (b : Int) : (crL r x b).length ≤ 1190 := by
  have h1 := (crC_sub (stL_sub r x)).length_le
  have h2 := crC_len x.length (by omega)
  have h3 : (crL r x b).length = (crC (stL r x)).length := by
    unfold crL crC
    rw [flat_len, flat_len]
    congr 1
    refine List.map_congr_left fun y _ => ?_
    unfold crI
    rw [List.length_map, List.length_map]
  omega
/-! ### a worth more for all leaves their order -/
def shC (b : Int) (c : Cr) : Cr := (c.1 + b, c.2)
theorem lex_sh (b p q : Int) (R S : List (Int ⊕ List Nat)) : PyProof.Rows.lexLt itemOrd (.inl (p + b) :: R) (.inl (q + b) :: S) = PyProof.Rows.lexLt itemOrd (.inl p :: R) (.inl q :: S) := by
  by_cases e : p = q
  · rw [e, PyProof.Rows.lex_self, PyProof.Rows.lex_self]
  · rw [PyProof.Rows.lex_diff (O := itemOrd) (x := .inl (p + b)) (y := .inl (q + b)) (fun z => e (by injection z with z; omega)), PyProof.Rows.lex_diff (O := itemOrd) (x := .inl p) (y := .inl q) (fun z => e (by injection z with z))]
    show decide (p + b < q + b) = decide (p < q)
    exact decide_eq_decide.mpr ⟨fun h => by omega, fun h => by omega⟩
theorem SG_sh (b : Int) (L : List Cr) : (SG dCr L).map (shC b) = SG dCr (L.map (shC b)) := by
  refine List.map_mergeSort fun a _ c _ => ?_
  show (!PyProof.Rows.lexLt itemOrd (.inl 1 :: .inl c.1 :: _) (.inl 1 :: .inl a.1 :: _)) = !PyProof.Rows.lexLt itemOrd (.inl 1 :: .inl (c.1 + b) :: _) (.inl 1 :: .inl (a.1 + b) :: _)
  rw [PyProof.Rows.lex_self, PyProof.Rows.lex_self, lex_sh]
  rfl
theorem crL_sh (r : Rl) (x : Str) (b : Int) : (crL r x 0).map (shC b) = crL r x b := by
  unfold crL
  rw [List.map_flatMap]
  congr 1
  funext y
  unfold crI
  rw [List.map_map]
  refine List.map_congr_left fun z _ => ?_
  show (0 + wS r x y + wS r x z + b, y, z) = (b + wS r x y + wS r x z, y, z)
  congr 1
  omega
theorem sumB {l : List Int} {n : Nat} (h : ∀ y ∈ l, -(n : Int) ≤ y ∧ y ≤ n) : -((n * l.length : Nat) : Int) ≤ l.sum ∧ l.sum ≤ ((n * l.length : Nat) : Int) := by
  induction l with
  | nil => exact ⟨by simp, by simp⟩
  | cons y r ih =>
    have h1 := h y (List.mem_cons_self ..)
    have h2 := ih fun z hz => h z (List.mem_cons_of_mem _ hz)
    rw [List.sum_cons, List.length_cons, Nat.mul_succ]
    omega
theorem pwI_B {prs : List (Str × Int)} (h : ∀ y ∈ prs, -99 ≤ y.2 ∧ y.2 ≤ 99) (b : Str) : -99 ≤ pwI prs b ∧ pwI prs b ≤ 99 := by
  induction prs with
  | nil => exact ⟨by show -99 ≤ (0 : Int); decide, by show (0 : Int) ≤ 99; decide⟩
  | cons y r ih =>
    rw [pwI]
    by_cases e : y.1 = b
    · rw [if_pos e]
      exact h y (List.mem_cons_self ..)
    · rw [if_neg e]
      exact ih fun z hz => h z (List.mem_cons_of_mem _ hz)
theorem wS_B {r : Rl} (ok : RlOk r) (x : Str) {y : St3} (h : y.2.2 ≤ 12) : -10000 ≤ wS r x y ∧ wS r x y ≤ 10000 := by
  rw [← wS_eq]
  have hl : (txs x y).length ≤ 12 := by
    unfold txs
    rw [List.length_map, prs_len]
    omega
  have h1 := sumB (l := (txs x y).map (pwI r.prs)) (n := 99) fun z hz => by
    obtain ⟨t, _, rfl⟩ := List.mem_map.mp hz
    exact pwI_B (fun z hz => (ok.pr z hz).2) t
  have h2 := sumB (l := nbs r (txs x y)) (n := 198) fun z hz => by
    unfold nbs at hz
    obtain ⟨t, _, rfl⟩ := List.mem_map.mp hz
    have b1 := lo_bound ok (show 0 < 9 by decide)
    have b2 := swI_bound (fun y hy => (ok.st y hy).2.2) t.1 t.2
    omega
  rw [List.length_map] at h1
  rw [nbs_len] at h2
  have : 198 * min (txs x y).length ((txs x y).length - 1) ≤ 198 * 12 := Nat.mul_le_mul_left _ (by omega)
  omega
theorem sm_cr {r : Rl} (ok : RlOk r) {x : Str} (hx : x.length ≤ 12) {b : Int} (b0 : -99 ≤ b) (b1 : b ≤ 99) {c : Cr} (h : c ∈ crL r x b) : Sm 786 3 (dCr c) := by
  obtain ⟨y, hy, z, hz, _, rfl⟩ := crL_in h
  have w1 := wS_B ok x (y := y) (by have := stL_ok hx hy; omega)
  have w2 := wS_B ok x (y := z) (by have := stL_ok hx hz; omega)
  refine Sm.tup (n := 2) (m := 392) (k := 2) (Nat.le_refl 2) (fun d hd => ?_) (by decide)
  simp only [List.mem_cons, List.not_mem_nil, or_false] at hd
  rcases hd with rfl | rfl
  · refine (Sm.int ?_ ?_).le (by decide) (by decide)
    · show -1000000000 < b + wS r x y + wS r x z
      omega
    · show b + wS r x y + wS r x z < 1000000000
      omega
  · exact sm_cf hx hy hz
theorem sm_crs {r : Rl} (ok : RlOk r) {x : Str} (hx : x.length ≤ 12) {b : Int} (b0 : -99 ≤ b) (b1 : b ≤ 99) : Sm 1000000 4 (.list ((SG dCr (crL r x b)).map dCr)) := by
  have hl := crL_few r hx b
  refine Sm.lst (n := 1190) (m := 786) (k := 3) (by rw [List.length_map, SG_len]; exact hl) (fun d hd => ?_) (by decide)
  obtain ⟨c, hc, rfl⟩ := List.mem_map.mp hd
  exact sm_cr ok hx b0 b1 ((SG_perm _ _).mem_iff.mp hc)
end Pf


namespace Pf
open PySem PySem.Spec PyProof.Rows L2
/-! ### sorted of a text: its signs in some order -/
def sgs (x : Str) : List Str := x.cps.toList.map fun c => ⟨#[c]⟩
def rSortTx : List V → Hp → VK → Prop := fun vs H Q => ∃ x : Str, vs = [.str x] ∧ x.length ≤ 1000 ∧ ∀ (ys : List Str) p, ys.Perm (sgs x) → H p = none → Q (.ref p) (upd H p (.lst (ys.map V.str)))
theorem cr_sortTx {X : Cx} (calm : X.calm = true) (hu : X.A.units + 64 < cLine) : CallR X (.builtin "sorted") rSortTx := by
  intro pins s σ H vs us Q I r h
  obtain ⟨x, rfl, hx, q⟩ := h
  obtain ⟨u, rfl, t0, rfl⟩ := vals1 r
  refine Calls.call_function_entry kind_sorted plain_sorted entry_sorted (args_sorted1 _) ?_
  unfold Builtin.«sorted»
  refine wpAny_bind (m := checkCount "sorted" 1 1 _) (wpAny_pure ?_)
  refine wpAny_bind (wpAny_collect_str (A := X.A.in1) (show X.A.in1.handled = none from I.ok.hd calm) x t0 (fun s' acc kp hg hd ho items => ?_) (Nat.le_trans hx (by decide)))
  obtain ⟨h1, g1, d1, tk, os1⟩ := s'
  obtain rfl : g1 = s.gens := hg
  obtain rfl : d1 = s.drawn := hd
  obtain rfl : os1 = s.os := ho
  have kp : ∀ b o, s.heap.get? b = some o → h1.get? b = some o := kp
  have hsl : (sgs x).length = x.cps.size := by
    unfold sgs
    rw [List.length_map, Array.length_toList]
  have hal : acc.toList.length = x.cps.size := by
    rw [Array.length_toList]
    exact items.1
  have hz2 : acc.toList.length ≤ sizeLine := by
    have : x.cps.size ≤ 1000 := hx
    rw [hal]
    exact Nat.le_trans this (by decide)
  refine wpAny_bind (wpAny_newList ?_ hz2)
  have hat : (h1.push (seqObj "list" acc.toList.toArray 0)).get? h1.objs.size = some (seqObj "list" acc.toList.toArray 0) := Heap.get?_push_size _ rfl
  have hlt : ∀ b ob, s.heap.get? b = some ob → b ≠ h1.objs.size := fun b ob e => Nat.ne_of_lt (Heap.lt_size (kp b ob e))
  have old : ∀ b ob, s.heap.get? b = some ob → (h1.push (seqObj "list" acc.toList.toArray 0)).get? b = some ob := fun b ob e => Heap.get?_push_of_some _ (kp b ob e)
  have rel : PySem.W.EachIs (fun (v : Value) (y : Str) => RelV (V.str y) v) acc.toList (sgs x) := by
    have aux : ∀ (vs : List Value) (ys : List Str), vs.length = ys.length → (∀ (i : Nat) (v : Value), vs[i]? = some v → ∃ y, ys[i]? = some y ∧ RelV (V.str y) v) → PySem.W.EachIs (fun (v : Value) (y : Str) => RelV (V.str y) v) vs ys := by
      intro vs
      induction vs with
      | nil =>
        intro ys hl _
        cases ys with
        | nil => exact .nil
        | cons _ _ => cases hl
      | cons v vs ih =>
        intro ys hl h
        cases ys with
        | nil => cases hl
        | cons y ys =>
          obtain ⟨y', e, hr⟩ := h 0 v rfl
          cases e
          exact .cons hr (ih ys (Nat.succ.inj hl) fun i w hw => h (i + 1) w hw)
    refine aux _ _ (by rw [hal, hsl]) fun i v hv => ?_
    rw [Array.getElem?_toList] at hv
    obtain ⟨c, t, hc, rfl⟩ := items.2 i v hv
    refine ⟨⟨#[c]⟩, ?_, ⟨t, rfl⟩⟩
    unfold sgs
    rw [List.getElem?_map, Array.getElem?_toList, hc]
    rfl
  have rv : Vals ((sgs x).map V.str) acc.toList := vals_each (v := V.str) rel
  have rd : PySem.W.EachIs (fun (v : Value) (y : Str) => ∃ as, Reads (PySem.W.sortingHeap (h1.push (seqObj "list" acc.toList.toArray 0)) h1.objs.size acc.toList) v (PyData.str y) as) acc.toList (sgs x) := (each_reads (v := V.str) (d := PyData.str) I rv fun y hy' => .str _).mono fun _ _ ⟨as, w⟩ => ⟨as, PyProof.Rows.Reads.keeps (fun b ob e => PySem.W.sortingHeap_old (hlt b ob e) (old b ob e)) w⟩
  have hub : ∀ y ∈ sgs x, X.A.in1.in1.units + (PyData.str y).depth < cLine := fun y hy' => by
    show X.A.units + 2 + (PyData.str y).depth < cLine
    have : (PyData.str y).depth ≤ 1 := by simp [PyData.depth]
    omega
  have al : PySem.W.AllAlike ((sgs x).map PyData.str) := PySem.W.AllAlike.of fun b b' => by simp [PySem.W.alike]
  have so : PySem.W.Sortable ((sgs x).map PyData.str) := PySem.W.Sortable.others fun b => ⟨(fun z => by cases z), (fun xs z => by cases z)⟩
  have S := PySem.W.SortsAt.data (prog := X.prog) (w := X.w) (A := X.A.in1.in1) (s := { s with heap := PySem.W.sortingHeap (h1.push (seqObj "list" acc.toList.toArray 0)) h1.objs.size acc.toList, toks := tk }) (PySem.W.each_map (R := fun v d => ∃ as, Reads (PySem.W.sortingHeap (h1.push (seqObj "list" acc.toList.toArray 0)) h1.objs.size acc.toList) v d as) PyData.str rd) al so (PySem.W.bound_map hub)
  refine wpAny_bind (wpAny_holding (wpAny_call_entry slot_list_sort ⟨_, hat, rfl⟩ entry_list_sort ?body (args_list_sort _)))
  case body =>
    refine PySem.W.list_sort_vals (s := { s with heap := h1.push (seqObj "list" acc.toList.toArray 0), toks := tk }) hat S hz2 ⟨_, rfl, wpAny_pure ⟨_, rfl, ?_⟩⟩
    have each := PySem.W.sortVals_data false rel rd al
    generalize PySem.W.sortVals (PySem.W.dataKind (PySem.W.sortingHeap (h1.push (seqObj "list" acc.toList.toArray 0)) h1.objs.size acc.toList) ((sgs x).map PyData.str)) false acc.toList acc.toList = out at each ⊢
    obtain ⟨ee, he'⟩ := PyProof.Rows.sortedHeap_at (vs := acc.toList) (out := out.toArray) hat
    have hl2 : (((sgs x).mergeSort (PySem.W.dataLe false PyData.str)).map V.str).length ≤ sizeLine := by
      rw [List.length_map, List.length_mergeSort, hsl]
      exact Nat.le_trans hx (by decide)
    have gone : s.heap.get? h1.objs.size = none := by
      cases e : s.heap.get? h1.objs.size with
      | none => rfl
      | some ob => exact absurd rfl (hlt _ ob e)
    have free : H h1.objs.size = none := by
      cases e : H h1.objs.size with
      | none => rfl
      | some u =>
        obtain ⟨ob, e2⟩ := obj_there (I.hok _ _ e)
        rw [gone] at e2
        cases e2
    exact ⟨.ref h1.objs.size, upd H h1.objs.size (.lst (((sgs x).mergeSort (PySem.W.dataLe false PyData.str)).map V.str)), I.laidN (t' := tk) (fun b ob e => by rw [PyProof.Rows.sortedHeap_old (hlt b ob e) (Heap.lt_size (old b ob e))]; exact old b ob e) gone free ⟨hl2, out, ee, vals_each (v := V.str) each, by simpa using he'⟩, rfl, q _ _ (List.mergeSort_perm _ _) free⟩
/-! ### a text backwards -/
def revX (x : Str) : Str := ⟨((List.range x.length).map fun k => x.cps.getD (x.length - 1 - k) 0).toArray⟩
theorem revX_is (x : Str) (u : Tok) : Txt.sliceBy x none none (-1, u) = revX x := by
  refine PySem.W.str_of_cps ?_
  rw [PyProof.Rows.step_rev_list]
  rfl
theorem revX_len (x : Str) : (revX x).length = x.length := by
  show ((List.range x.length).map fun k => x.cps.getD (x.length - 1 - k) 0).toArray.size = _
  rw [List.size_toArray, List.length_map, List.length_range]
def tRevX (te : TE) : TE := fun σ H Q => te σ H fun x H1 => ∃ z : Str, x = .str z ∧ z.length ≤ sizeLine ∧ Q (.str (revX z)) H1
theorem pe_revX {X : Cx} {e : Expr} {te : TE} {k : Nat} {p1 p2 p3 pos : Pos} (he : PE X e te) : PE X (.Subscript e (.Slice none none (some (.UnaryOp .USub (.Constant (.int 1) k p1) p2)) p3) pos) (tRevX te) := by
  refine ⟨fun pins s σ H Q I h => ?_⟩
  refine Subscript_ (thn (he.run pins s σ H _ I h) fun v s1 ⟨x, H1, I1, r1, q1⟩ => ?_)
  obtain ⟨z, rfl, hz, q⟩ := q1
  obtain ⟨t, rfl⟩ := r1
  have hst : PO X (some (.UnaryOp .USub (.Constant (.int 1) k p1) p2)) (tPart (tUn (rU fun i => .int (-i)) (tC (.int 1)))) := po_some (pe_un un_neg pe_int)
  refine wpAny_Slice (thn (po_none.run pins s1 σ H1 (fun o H2 => o = none ∧ H2 = H1) I1 ⟨rfl, rfl⟩) fun vl s2 ⟨l, H2, I2, pl, el, e2⟩ => ?_)
  subst el e2
  refine thn (po_none.run pins s2 σ H2 (fun o H3 => o = none ∧ H3 = H2) I2 ⟨rfl, rfl⟩) fun vu s3 ⟨u, H3, I3, pu, eu, e3⟩ => ?_
  subst eu e3
  refine thn (hst.run pins s3 σ H3 (fun o H4 => o = some (-1) ∧ H4 = H3) I3 ⟨1, rfl, -1, rfl, rfl, rfl⟩) fun vs s4 ⟨o, H4, I4, ps, eo, e4⟩ => ?_
  subst eo e4
  cases pl
  cases pu
  cases ps with
  | int i t5 =>
    refine tail_any (ops := [.str z t, .ref s4.heap.objs.size]) (typeIs_str _ _ _) (PySem.F.slot_str_getitem.lookup) ?_ (by with_unfolding_all rfl)
    refine wpAny_getItem_str_slice (l := none) (u := none) (st := some (-1, t5)) ⟨_, Heap.get?_push_size _ rfl, rfl, rfl⟩ rfl ?_
    refine post_val_or_str ⟨Nat.le_trans (Txt.sliceBy_le z none none (-1, t5) (show (-1 : Int) ≠ 0 by decide)) hz, fun t6 tk => ?_⟩
    refine ⟨.str (revX z), H4, (I4.kept (t' := tk) fun b ob q => Heap.get?_push_of_some _ q), ⟨t6, ?_⟩, q⟩
    rw [← revX_is z t5]
    rfl
end Pf


namespace Pf
open PySem PySem.Spec PyProof.Rows L2
/-! ### tuples of tuples as keys of a dict -/
structure NKind (prog : Program) (w : World) (α : Type) [DecidableEq α] where
  is : Heap → α → Addr → Prop
  hash : α → Int
  draws : α → Nat
  lev : Nat
  inj : ∀ {h : Heap} {a : Addr} {x y : α}, is h x a → is h y a → x = y
  keeps : ∀ {h h' : Heap} {k : α} {a d : Addr} {o : Obj} {es ep}, is h k a → h.get? d = some o → o.data = .dict es ep → Heap.SameBut d h h' → is h' k a
  pyHash : ∀ {A : Around} {E : Value → Shared → Prop} {s : Shared} {k : α} {a : Addr} {Q : Int → Shared → Prop}, A.units + lev < cLine → is s.heap k a → Q (hash k) { s with toks := s.toks + draws k } → wpAny (model prog w) A (PySem.pyHash (.ref a)) Q E s
  eqBool : ∀ {A : Around} {E : Value → Shared → Prop} {s : Shared} {x y : α} {a b : Addr} {Q : Bool → Shared → Prop}, A.units + lev < cLine → is s.heap x a → is s.heap y b → Q (decide (x = y)) s → wpAny (model prog w) A (PySem.eqBool (.ref a) (.ref b)) Q E s
  quiet : ∀ {A : Around} {E : Value → Shared → Prop} {s : Shared} {n : Nat} {k : α} {a : Addr} {Q : Bool → Shared → Prop}, lev < n → is s.heap k a → Q true s → wpAny (model prog w) A (eqIsQuiet n (.ref a)) Q E s
def NKind.kind {prog : Program} {w : World} {α : Type} [DecidableEq α] (N : NKind prog w α) (h8 : N.lev < 8) : HeapKind prog w α where
  is := N.is
  hash := N.hash
  draws := N.draws
  room := fun A => A.units + N.lev < cLine
  inj := N.inj
  keeps := N.keeps
  pyHash := N.pyHash
  eqBool := N.eqBool
  quiet := fun hk h => N.quiet h8 hk h
section
variable {prog : Program} {w : World} {α : Type} [DecidableEq α]
theorem quiet_flat {knd : KeyKind prog w α} {A : Around} {E : Value → Shared → Prop} {s : Shared} {n : Nat} {ks : List α} {a : Addr} {Q : Bool → Shared → Prop} (hn : 0 < n) (hk : IsTupleKey knd s.heap ks a) (h : Q true s) : wpAny (model prog w) A (eqIsQuiet n (.ref a)) Q E s := by
  obtain ⟨m, rfl⟩ : ∃ m, n = m + 1 := ⟨n - 1, by omega⟩
  have T := hk.typeIs
  obtain ⟨o, items, k, ho, _, hd, hi⟩ := hk
  unfold eqIsQuiet
  refine wpAny_bind (wpAny_specialOf T F.slot_tuple_eq.lookup ?_)
  show wpAny _ _ (isInstance (.ref a) (.type "tuple") >>= _) _ _ s
  refine wpAny_bind (wpAny_isInstance T isSubtype_tuple_tuple ?_)
  simp only [Bool.not_true, Bool.false_eq_true, if_false]
  refine wpAny_bind (wpAny_seqItems ho hd ?_)
  refine wpAny_bind ?_
  show wpAny _ _ (forIn items _ _) _ _ s
  rw [← Array.forIn_toList]
  refine wpAny_forIn_list _ (fun rest r t => r.1 = none ∧ t = s ∧ ∀ v ∈ rest, carriedByValue v = true) _ ?_ ?_ _ _ ⟨rfl, rfl, hi.byValue⟩
  · rintro v rest r t ⟨hr, rfl, all⟩
    rw [eqIsQuiet_byValue _ (all v List.mem_cons_self)]
    refine wpAny_bind (wpAny_pure ?_)
    simp only [Bool.not_true, Bool.false_eq_true, if_false]
    exact wpAny_pure ⟨rfl, rfl, fun u hu => all u (List.mem_cons_of_mem _ hu)⟩
  · rintro ⟨r1, r2⟩ t ⟨hr, rfl, _⟩
    simp only at hr
    subst hr
    exact wpAny_pure h
/-- flat tuples -/
def flatN (knd : KeyKind prog w α) : NKind prog w (List α) where
  is := IsTupleKey knd
  hash := tupleKeyHash knd
  draws := fun ks => ks.length + 1
  lev := 0
  inj := fun hx hy => hx.inj hy
  keeps := fun x ho hd hs => x.keeps ho hd hs
  pyHash := fun hu hk h => wpAny_pyHash_tuple hu hk h
  eqBool := fun hu hx hy h => wpAny_eqBool_tuple hu hx hy h
  quiet := fun hn hk h => quiet_flat hn hk h
variable (N : NKind prog w α)
inductive RefsAre (h : Heap) : List α → List Value → Prop
  | nil : RefsAre h [] []
  | cons {k : α} {b : Addr} {ks : List α} {vs : List Value} : N.is h k b → RefsAre h ks vs → RefsAre h (k :: ks) (.ref b :: vs)
def IsTupN (h : Heap) (ks : List α) (a : Addr) : Prop := ∃ o items n, h.get? a = some o ∧ o.cls = .type "tuple" ∧ o.data = .seq items n ∧ RefsAre N h ks items.toList
variable {N}
theorem RefsAre.inj {h : Heap} {x y : List α} {vs : List Value} (hx : RefsAre N h x vs) (hy : RefsAre N h y vs) : x = y := by
  induction hx generalizing y with
  | nil => cases hy; rfl
  | cons h1 _ ih =>
    cases hy with
    | cons h2 t2 => rw [N.inj h1 h2, ih t2]
theorem RefsAre.length {h : Heap} {x : List α} {vs : List Value} (hx : RefsAre N h x vs) : x.length = vs.length := by
  induction hx with
  | nil => rfl
  | cons _ _ ih => rw [List.length_cons, List.length_cons, ih]
theorem RefsAre.keeps {h h' : Heap} {d : Addr} {o : Obj} {es ep} (ho : h.get? d = some o) (hd : o.data = .dict es ep) (hs : Heap.SameBut d h h') {x : List α} {vs : List Value} (hx : RefsAre N h x vs) : RefsAre N h' x vs := by
  induction hx with
  | nil => exact .nil
  | cons h1 _ ih => exact .cons (N.keeps h1 ho hd hs) ih
theorem IsTupN.typeIs {s : Shared} {ks : List α} {a : Addr} (x : IsTupN N s.heap ks a) : s.TypeIs (.ref a) "tuple" := let ⟨o, _, _, ho, hc, _⟩ := x; ⟨o, ho, hc⟩
theorem IsTupN.inj {h : Heap} {a : Addr} {x y : List α} (hx : IsTupN N h x a) (hy : IsTupN N h y a) : x = y := by
  obtain ⟨o, items, n, ho, _, hd, hi⟩ := hx
  obtain ⟨o', items', n', ho', _, hd', hi'⟩ := hy
  obtain rfl : o = o' := Option.some.inj (ho.symm.trans ho')
  rw [hd] at hd'
  injection hd' with h1 _
  subst h1
  exact hi.inj hi'
theorem IsTupN.keeps {h h' : Heap} {ks : List α} {a d : Addr} {o : Obj} {es ep} (x : IsTupN N h ks a) (ho : h.get? d = some o) (hd : o.data = .dict es ep) (hs : Heap.SameBut d h h') : IsTupN N h' ks a := by
  obtain ⟨o', items, n, ho', hc, hd', hi⟩ := x
  have ne : a ≠ d := by
    rintro rfl
    obtain rfl : o' = o := Option.some.inj (ho'.symm.trans ho)
    rw [hd] at hd'
    exact nomatch hd'
  exact ⟨o', items, n, (hs.2 a ne).trans ho', hc, hd', hi.keeps ho hd hs⟩
def nHash (N : NKind prog w α) (ks : List α) : Int := reduceHash (Builtin.Tuple.tupleHashOf (ks.map N.hash))
def nDraws (N : NKind prog w α) (ks : List α) : Nat := (ks.map N.draws).sum + 1
theorem pyHash_n {A : Around} {E : Value → Shared → Prop} {s : Shared} {ks : List α} {a : Addr} {Q : Int → Shared → Prop} (hu : A.units + (N.lev + 1) < cLine) (hk : IsTupN N s.heap ks a) (h : Q (nHash N ks) { s with toks := s.toks + nDraws N ks }) : wpAny (model prog w) A (pyHash (.ref a)) Q E s := by
  have T := hk.typeIs
  obtain ⟨o, items, n, ho, _, hd, hi⟩ := hk
  unfold pyHash
  first | unfold pyHashByItsType | skip
  first | refine wpAny_bind (wpAny_cRoomFor_or (.inr (by omega)) ?_) | skip
  refine wpAny_bind (wpAny_specialOf T F.slot_tuple_hash.lookup ?_)
  show wpAny _ _ (if (some (Value.builtin "tuple.__hash__") == some Value.none) = true then _ else _) Q E s
  rw [if_neg (by rw [beq_builtin_none]; exact Bool.false_ne_true)]
  refine wpAny_bind (wpAny_specialOf T F.slot_tuple_hash.lookup ?_)
  show wpAny _ _ (callSpecialIfBoundUnlessNone? (.ref a) "__hash__" _ >>= _) Q E s
  refine wpAny_bind (wpAny_callSpecialIfBoundUnlessNone?_slot T F.slot_tuple_hash (wpAny_call_entry F.slot_tuple_hash T F.entry_tuple_hash ?_ (F.args_tuple_hash_1 _)))
  show wpAny _ _ (Builtin.Tuple.tupleItemsOf (.ref a) >>= _) _ _ s
  refine wpAny_bind (wpAny_tupleItemsOf ho hd ?_)
  refine wpAny_bind ?_
  rw [← Array.forIn_toList]
  refine wpAny_forIn_list _ (fun rest (b : Array Int) t => ∃ done left, ks = done ++ left ∧ RefsAre N s.heap left rest ∧ b.toList = done.map N.hash ∧ t = { s with toks := s.toks + (done.map N.draws).sum }) _ ?_ ?_ _ _ ⟨[], ks, rfl, hi, rfl, rfl⟩
  · rintro x rest b t ⟨done, left, rfl, hl, hb, rfl⟩
    cases hl with
    | @cons k c ks' _ h1 hl' =>
      refine wpAny_bind (N.pyHash (by show A.units + 1 + N.lev < cLine; omega) h1 ?_)
      have e : (({ s with toks := s.toks + (done.map N.draws).sum + N.draws k } : Shared)) = { s with toks := s.toks + ((done ++ [k]).map N.draws).sum } := by
        simp [Nat.add_assoc]
      first
        | exact wpAny_pure ⟨done ++ [k], ks', by simp, hl', by simp [hb], e⟩
        | exact wpAny_bind (wpAny_pure (wpAny_pure ⟨done ++ [k], ks', by simp, hl', by simp [hb], e⟩))
  · rintro b t ⟨done, left, rfl, hl, hb, rfl⟩
    cases hl
    rw [List.append_nil] at h
    show wpAny _ _ (retInt (Builtin.Tuple.tupleHashOf b.toList)) _ _ _
    rw [hb]
    refine wpAny_ret_mkInt ?_
    show wpAny _ _ (if (decide (-(2 : Int) ^ 63 ≤ Builtin.Tuple.tupleHashOf (done.map N.hash)) && decide (Builtin.Tuple.tupleHashOf (done.map N.hash) < 2 ^ 63)) = true then _ else _) Q E _
    unfold nHash nDraws reduceHash at h
    by_cases hr : (decide (-(2 : Int) ^ 63 ≤ Builtin.Tuple.tupleHashOf (done.map N.hash)) && decide (Builtin.Tuple.tupleHashOf (done.map N.hash) < 2 ^ 63)) = true
    · rw [if_pos hr]
      rw [if_pos hr] at h
      exact wpAny_pure (by simpa [Nat.add_assoc] using h)
    · rw [if_neg hr]
      rw [if_neg hr] at h
      exact wpAny_bind (wpAny_rule (wpAny_pure (by simpa [Nat.add_assoc] using h)))
theorem eq_tree_n {A : Around} {E : Value → Shared → Prop} {s : Shared} {x y : List α} {a b : Addr} {P : Fin → Shared → Prop} (hu : A.units + N.lev < cLine) (hx : IsTupN N s.heap x a) (hy : IsTupN N s.heap y b) (h : P (.done (.ret (.bool (decide (x = y))))) s) : wpAny (model prog w) A (Builtin.«tuple.__eq__» ⟨[.ref a, .ref b], []⟩) P E s := by
  have Tb := hy.typeIs
  obtain ⟨oa, xs, na, hoa, _, hda, hia⟩ := hx
  obtain ⟨ob, ys, nb, hob, _, hdb, hib⟩ := hy
  show wpAny _ _ (isInstance (.ref b) (.type "tuple") >>= _) _ _ s
  refine wpAny_bind (wpAny_isInstance Tb isSubtype_tuple_tuple ?_)
  simp only [Bool.not_true, Bool.false_eq_true, if_false]
  refine wpAny_bind (wpAny_tupleItemsOf hoa hda ?_)
  refine wpAny_bind (wpAny_tupleItemsOf hob hdb ?_)
  refine wpAny_bind ?_
  refine wpAny_forIn_list _ (fun rest r t => r.1 = none ∧ t = s ∧ ∃ x' y' xs' ys', rest = List.zip xs' ys' ∧ RefsAre N s.heap x' xs' ∧ RefsAre N s.heap y' ys' ∧ decide (x' = y') = decide (x = y) ∧ (xs'.length == ys'.length) = (xs.size == ys.size)) _ ?_ ?_ _ _ ⟨rfl, rfl, x, y, xs.toList, ys.toList, rfl, hia, hib, rfl, by simp⟩
  · rintro ⟨u, v⟩ rest r t ⟨hr, rfl, x', y', xs', ys', hz, hx', hy', hdec, hlen⟩
    cases hx' with
    | nil => simp at hz
    | @cons k1 c1 x'' xs'' h1 hx'' =>
      cases hy' with
      | nil => simp at hz
      | @cons k2 c2 y'' ys'' h2 hy'' =>
        simp only [List.zip_cons_cons, List.cons.injEq, Prod.mk.injEq] at hz
        obtain ⟨⟨rfl, rfl⟩, rfl⟩ := hz
        refine wpAny_bind (N.eqBool hu h1 h2 ?_)
        by_cases hk : k1 = k2
        · subst hk
          rw [decide_eq_true rfl]
          simp only [Bool.not_true, Bool.false_eq_true, if_false]
          refine wpAny_pure ⟨rfl, rfl, x'', y'', xs'', ys'', rfl, hx'', hy'', ?_, by simpa using hlen⟩
          rw [← hdec]
          by_cases hxy : x'' = y''
          · simp [hxy]
          · simp [hxy]
        · rw [decide_eq_false hk]
          simp only [Bool.not_false, if_true]
          have hf : decide (x = y) = false := by rw [← hdec]; simp [hk]
          rw [hf] at h
          exact wpAny_bind (wpAny_pure (wpAny_pure (wpAny_pure h)))
  · rintro ⟨r1, r2⟩ t ⟨hr, rfl, x', y', xs', ys', hz, hx', hy', hdec, hlen⟩
    simp only at hr
    subst hr
    refine wpAny_pure ?_
    have fin : (xs.size == ys.size) = decide (x = y) := by
      rw [← hdec, ← hlen]
      cases hx' with
      | nil =>
        cases hy' with
        | nil => simp
        | cons _ _ => simp
      | cons _ _ =>
        cases hy' with
        | nil => simp
        | cons _ _ => simp at hz
    show P (.done (.ret (.bool (xs.size == ys.size)))) t
    rw [fin]
    exact h
theorem eqBool_n {A : Around} {E : Value → Shared → Prop} {s : Shared} {x y : List α} {a b : Addr} {Q : Bool → Shared → Prop} (hu : A.units + (N.lev + 1) < cLine) (hx : IsTupN N s.heap x a) (hy : IsTupN N s.heap y b) (h : Q (decide (x = y)) s) : wpAny (model prog w) A (eqBool (.ref a) (.ref b)) Q E s := by
  unfold eqBool
  try with_reducible refine wpAny_holding ?_
  show wpAny _ _ (if (Value.ref a == Value.ref b) = true then _ else _) Q E s
  by_cases hab : (Value.ref a == Value.ref b) = true
  · rw [if_pos hab]
    have e : a = b := by have := eq_of_beq hab; injection this
    subst e
    obtain rfl := hx.inj hy
    exact wpAny_bind (wpAny_rule (wpAny_pure (by simpa using h)))
  · rw [if_neg hab]
    exact wpAny_bind (wpAny_richCompare_same_room (op := .Eq) hx.typeIs hy.typeIs F.slot_tuple_eq
      (wpAny_call_entry F.slot_tuple_eq hx.typeIs F.entry_tuple_eq (eq_tree_n (by show A.units + 1 + N.lev < cLine; omega) hx hy ⟨_, rfl, (fun e => nomatch e), wpAny_truthy_bool h⟩) (F.args_tuple_eq_2 _ _)) (by omega))
theorem quiet_n {A : Around} {E : Value → Shared → Prop} {s : Shared} {n : Nat} {ks : List α} {a : Addr} {Q : Bool → Shared → Prop} (hn : N.lev + 1 < n) (hk : IsTupN N s.heap ks a) (h : Q true s) : wpAny (model prog w) A (eqIsQuiet n (.ref a)) Q E s := by
  obtain ⟨m, rfl⟩ : ∃ m, n = m + 1 := ⟨n - 1, by omega⟩
  have T := hk.typeIs
  obtain ⟨o, items, k, ho, _, hd, hi⟩ := hk
  unfold eqIsQuiet
  refine wpAny_bind (wpAny_specialOf T F.slot_tuple_eq.lookup ?_)
  show wpAny _ _ (isInstance (.ref a) (.type "tuple") >>= _) _ _ s
  refine wpAny_bind (wpAny_isInstance T isSubtype_tuple_tuple ?_)
  simp only [Bool.not_true, Bool.false_eq_true, if_false]
  refine wpAny_bind (wpAny_seqItems ho hd ?_)
  refine wpAny_bind ?_
  show wpAny _ _ (forIn items _ _) _ _ s
  rw [← Array.forIn_toList]
  refine wpAny_forIn_list _ (fun rest r t => r.1 = none ∧ t = s ∧ ∃ left, RefsAre N s.heap left rest) _ ?_ ?_ _ _ ⟨rfl, rfl, ks, hi⟩
  · rintro v rest r t ⟨hr, rfl, left, all⟩
    cases all with
    | @cons k1 c1 l1 _ h1 hl =>
      refine wpAny_bind (N.quiet (by omega) h1 ?_)
      simp only [Bool.not_true, Bool.false_eq_true, if_false]
      exact wpAny_pure ⟨rfl, rfl, l1, hl⟩
  · rintro ⟨r1, r2⟩ t ⟨hr, rfl, _⟩
    simp only at hr
    subst hr
    exact wpAny_pure h
/-- tuples of such -/
def upN (N : NKind prog w α) : NKind prog w (List α) where
  is := IsTupN N
  hash := nHash N
  draws := nDraws N
  lev := N.lev + 1
  inj := fun hx hy => hx.inj hy
  keeps := fun x ho hd hs => x.keeps ho hd hs
  pyHash := fun hu hk h => pyHash_n hu hk h
  eqBool := fun hu hx hy h => eqBool_n hu hx hy h
  quiet := fun hn hk h => quiet_n hn hk h
end
end Pf


namespace Pf
open PySem PySem.Spec PyProof.Rows L2
/-! ### tables of any size up to eight thousand places: every place is met -/
def seen (m : Nat) : Nat → Nat → Nat → Nat
  | 0, _, acc => acc
  | n + 1, x, acc => bif Nat.beq (Nat.land acc (Nat.pow 2 x)) 0 then seen m n ((x * 5 + 1) % (m + 1)) (acc ||| 2 ^ x) else 0
def goes (m : Nat) : Nat → Nat → Nat
  | 0, x => x
  | n + 1, x => bif Nat.beq x (m + 1) then 0 else goes m n ((x * 5 + 1) % (m + 1))
theorem lcg_front (m x : Nat) : ∀ k, lcgI m ((x * 5 + 1) % (m + 1)) k = lcgI m x (k + 1)
  | 0 => rfl
  | k + 1 => by
    show (lcgI m ((x * 5 + 1) % (m + 1)) k * 5 + 1) % (m + 1) = (lcgI m x (k + 1) * 5 + 1) % (m + 1)
    rw [lcg_front m x k]
theorem lcg_more (m x a : Nat) : ∀ k, lcgI m (lcgI m x a) k = lcgI m x (a + k)
  | 0 => rfl
  | k + 1 => by
    show (lcgI m (lcgI m x a) k * 5 + 1) % (m + 1) = (lcgI m x (a + k) * 5 + 1) % (m + 1)
    rw [lcg_more m x a k]
theorem seen_bit (m : Nat) : ∀ (n x acc j : Nat), (seen m n x acc).testBit j = true → acc.testBit j = true ∨ ∃ k, k < n ∧ lcgI m x k = j
  | 0, _, _, _, h => .inl h
  | n + 1, x, acc, j, h => by
    unfold seen at h
    cases c : Nat.beq (Nat.land acc (Nat.pow 2 x)) 0 with
    | false =>
      rw [c] at h
      simp at h
    | true =>
      rw [c] at h
      rcases seen_bit m n _ _ j h with h | ⟨k, hk, e⟩
      · rw [Nat.testBit_or, Bool.or_eq_true, Nat.testBit_two_pow] at h
        rcases h with h | h
        · exact .inl h
        · exact .inr ⟨0, Nat.succ_pos _, of_decide_eq_true h⟩
      · exact .inr ⟨k + 1, Nat.succ_lt_succ hk, by rw [← lcg_front]; exact e⟩
theorem goes_eq (m : Nat) : ∀ (n x : Nat), x ≤ m → goes m n x = lcgI m x n
  | 0, _, _ => rfl
  | n + 1, x, h => by
    unfold goes
    have c : Nat.beq x (m + 1) = false := by
      rw [Bool.eq_false_iff]
      intro z
      have := Nat.eq_of_beq_eq_true z
      omega
    rw [c, cond_false, goes_eq m n _ (Nat.le_of_lt_succ (Nat.mod_lt _ (Nat.succ_pos _))), lcg_front]
def Mk (m : Nat) : Prop := m = 7 ∨ m = 31 ∨ m = 127 ∨ m = 511 ∨ m = 2047 ∨ m = 8191
theorem mk_full {m : Nat} (h : Mk m) : seen m (m + 1) 0 0 = 2 ^ (m + 1) - 1 ∧ goes m (m + 1) 0 = 0 := by
  rcases h with rfl | rfl | rfl | rfl | rfl | rfl <;> constructor <;> decide +kernel
theorem from_zero {m j : Nat} (h : Mk m) (hj : j ≤ m) : ∃ k, k ≤ m ∧ lcgI m 0 k = j := by
  have e : (seen m (m + 1) 0 0).testBit j = true := by
    rw [(mk_full h).1, Nat.testBit_two_pow_sub_one]
    exact decide_eq_true (by omega)
  rcases seen_bit m _ _ _ j e with z | ⟨k, hk, e⟩
  · simp at z
  · exact ⟨k, by omega, e⟩
theorem all_met {m i j : Nat} (h : Mk m) (hi : i ≤ m) (hj : j ≤ m) : ∃ k, k ≤ m ∧ lcgI m i k = j := by
  obtain ⟨a, ha, ea⟩ := from_zero h hi
  obtain ⟨b, hb, eb⟩ := from_zero h hj
  have rnd : lcgI m 0 (m + 1) = 0 := by rw [← goes_eq m _ 0 (Nat.zero_le _), (mk_full h).2]
  by_cases c : a ≤ b
  · exact ⟨b - a, by omega, by rw [← ea, lcg_more, show a + (b - a) = b by omega, eb]⟩
  · refine ⟨m + 1 - a + b, by omega, ?_⟩
    rw [← ea, lcg_more, show a + (m + 1 - a + b) = (m + 1) + b by omega, ← lcg_more, rnd, eb]
theorem run_at {m j : Nat} (hm : Mk m) (h : Int) (hj : j ≤ m) : ∃ n, n ≤ m + 12 ∧ runI m (SetTable.bits h) n = j := by
  obtain ⟨k, hk, e⟩ := all_met hm (runI_le m (SetTable.bits h) 12) hj
  exact ⟨12 + k, by omega, (runI_tail (bits_lt h) k).trans e⟩
theorem way_at {m j : Nat} (hm : Mk m) (h : Int) (hj : j ≤ m) : ∃ k, k < 10 * SetTable.turns m ∧ way m h k = j := by
  obtain ⟨n, hn, e⟩ := run_at hm h hj
  obtain ⟨k, hk, e2⟩ := run_nth m (SetTable.bits h) n
  exact ⟨k, by unfold SetTable.turns; omega, (congrArg SetTable.Probe.j e2).trans e⟩
theorem way_in (m : Nat) (h : Int) (k : Nat) : way m h k ≤ m := by
  have hi : SetTable.bits h % (m + 1) ≤ m := Nat.le_of_lt_succ (Nat.mod_lt _ (Nat.succ_pos _))
  have b := runEnd_bd hi
  have z := nth_in (m := m) k (runAt m (SetTable.bits h % (m + 1)) (SetTable.bits h)) (show SetTable.bits h % (m + 1) + (SetTable.runEnd m (SetTable.bits h % (m + 1)) - SetTable.bits h % (m + 1)) ≤ m by omega)
  exact Nat.le_trans (Nat.le_add_right _ _) z
/-! ### a table without gaps left by what was taken out -/
structure Tb (t : SetTable) (n : Nat) : Prop where
  ris : Ris t.place.toList
  dm : t.dummies = #[]
  sz : t.place.size = n
  mok : Mk t.mask
  bd : ∀ x ∈ t.place.toList, x ≤ t.mask
theorem Tb.hole {t : SetTable} {n : Nat} (T : Tb t n) (hn : n ≤ t.mask) (h : Int) : ∃ K, K < 10 * SetTable.turns t.mask ∧ way t.mask h K ∉ t.place.toList ∧ ∀ k, k < K → way t.mask h k ∈ t.place.toList := by
  obtain ⟨j, hj, out⟩ := st_missing t.place.toList (t.mask + 1) (by rw [Array.length_toList, T.sz]; omega)
  obtain ⟨k, hk, e⟩ := way_at T.mok h (j := j) (by omega)
  obtain ⟨K, a, b, c⟩ := st_least (p := fun k => way t.mask h k ∉ t.place.toList) k (show way t.mask h k ∉ _ by rw [e]; exact out)
  exact ⟨K, by omega, b, fun k hk => Classical.byContradiction fun z => c k hk z⟩
theorem Tb.put {t : SetTable} {n j : Nat} (T : Tb t n) (hj : j ≤ t.mask) (out : j ∉ t.place.toList) :
    SetTable.below t.place j ≤ n ∧ (t.put j).2 = SetTable.below t.place j ∧ Tb (t.put j).1 (n + 1) ∧ (t.put j).1.mask = t.mask ∧ (t.put j).1.led = t.led ∧ (t.put j).1.plain = t.plain ∧ (t.put j).1.fill = n + 1 := by
  obtain ⟨c1, _, _⟩ := below_cut T.ris j
  have hb : SetTable.below t.place j ≤ n := by rw [← T.sz]; exact c1
  have hbl : SetTable.below t.place j ≤ t.place.toList.length := by rw [Array.length_toList]; exact c1
  have no : t.place[SetTable.below t.place j]? ≠ some j := fun e => out (List.mem_of_getElem? (by rw [Array.getElem?_toList]; exact e))
  have pp := put_place t j
  have sz : (t.put j).1.place.size = n + 1 := by rw [← Array.length_toList, pp, len_ins _ hbl, Array.length_toList, T.sz]
  have dd := put_dm T.dm j
  refine ⟨hb, rfl, ⟨ris_insert T.ris no, dd, sz, T.mok, fun x hx => ?_⟩, rfl, rfl, rfl, ?_⟩
  · rw [pp] at hx
    rcases mem_ins.1 hx with rfl | hx
    · exact hj
    · exact T.bd x hx
  · unfold SetTable.fill
    rw [sz, dd]
    rfl
/-! ### all laid anew in a larger table -/
theorem free_n {m j : Nat} (hm : Mk m) (owner : Array (Option Nat)) (h : Int) (hj : j ≤ m) (hf : oAt owner j = none) :
    ∃ J, SetTable.layClean.free m owner (SetTable.turns m) (SetTable.bits h % (m + 1)) (SetTable.bits h) = some J ∧ J ≤ m ∧ oAt owner J = none := by
  obtain ⟨n, hn, e⟩ := run_at hm h hj
  have e2 : way m h (off m (SetTable.bits h % (m + 1)) (SetTable.bits h) n) = j := by
    have e3 := nth_off m n (SetTable.bits h % (m + 1)) (SetTable.bits h)
    rw [itL_run] at e3
    exact (congrArg SetTable.Probe.j e3).trans e
  obtain ⟨K, k1, k2, k3⟩ := st_least (p := fun k => oAt owner (way m h k) = none) _ (show oAt owner (way m h (off m (SetTable.bits h % (m + 1)) (SetTable.bits h) n)) = none by rw [e2]; exact hf)
  have k2' : oAt owner (way m h K) = none := k2
  refine ⟨way m h K, free_spec m owner (SetTable.turns m) n _ _ K (by unfold SetTable.turns; omega) k1 (fun k hk => ?_) ?_, way_in m h K, k2⟩
  · have z := k3 k hk
    have z' : oAt owner (way m h k) ≠ none := z
    cases c : oAt owner (way m h k) with
    | none => exact absurd c z'
    | some x => rfl
  · exact congrArg Option.isNone k2'
structure Ow (m n : Nat) (owner : Array (Option Nat)) : Prop where
  sz : owner.size = m + 1
  all : ∀ k, k < n → ∃ j, j ≤ m ∧ oAt owner j = some k
  ps : ∃ ps : List Nat, ps.length = n ∧ ∀ j, j ≤ m → oAt owner j ≠ none → j ∈ ps
theorem Ow.step {m n : Nat} (hm : Mk m) {owner : Array (Option Nat)} (W : Ow m n owner) (hn : n ≤ m) (h : Int) :
    ∃ j, SetTable.layClean.free m owner (SetTable.turns m) (SetTable.bits h % (m + 1)) (SetTable.bits h) = some j ∧ Ow m (n + 1) (owner.setIfInBounds j (some n)) := by
  obtain ⟨ps, hps, hin⟩ := W.ps
  obtain ⟨i, hi, out⟩ := st_missing ps (m + 1) (by omega)
  have hfree : oAt owner i = none := Classical.byContradiction fun z => out (hin i (by omega) z)
  obtain ⟨J, e, hJ, eJ⟩ := free_n hm owner h (by omega : i ≤ m) hfree
  have hb : J < owner.size := by rw [W.sz]; omega
  refine ⟨J, e, ⟨by rw [Array.size_setIfInBounds]; exact W.sz, fun k hk => ?_, J :: ps, by rw [List.length_cons, hps], fun j hj ne => ?_⟩⟩
  · by_cases c : k = n
    · exact ⟨J, hJ, by rw [c]; exact oAt_set_self _ hb⟩
    · obtain ⟨j, hj, ej⟩ := W.all k (by omega)
      exact ⟨j, hj, (oAt_set_ne _ (fun z => by rw [z, eJ] at ej; cases ej)).trans ej⟩
  · by_cases c : j = J
    · exact c ▸ List.mem_cons_self
    · exact List.mem_cons_of_mem _ (hin j hj fun z => ne ((oAt_set_ne _ c).trans z))
theorem lay_fold {m : Nat} (hm : Mk m) : ∀ (hs : List Int) (n : Nat) (owner : Array (Option Nat)), Ow m n owner → n + hs.length ≤ m → ∃ o2, hs.foldl (stepF m) (some (owner, n)) = some (o2, n + hs.length) ∧ Ow m (n + hs.length) o2
  | [], n, owner, W, _ => ⟨owner, rfl, W⟩
  | h :: r, n, owner, W, hl => by
    rw [List.length_cons] at hl ⊢
    obtain ⟨j, e, W2⟩ := W.step hm (by omega) h
    obtain ⟨o2, f, W3⟩ := lay_fold hm r (n + 1) _ W2 (by omega)
    rw [show n + 1 + r.length = n + (r.length + 1) by omega] at f W3
    exact ⟨o2, by rw [List.foldl_cons, stepF_some e]; exact f, W3⟩
theorem lay_all {m : Nat} (hm : Mk m) {hs : Array Int} (hn : hs.size ≤ m) : ∃ owner, SetTable.layClean m hs = some owner ∧ Ow m hs.size owner := by
  have W0 : Ow m 0 (Array.replicate (m + 1) none) := ⟨by simp, fun k hk => absurd hk (Nat.not_lt_zero _), [], rfl, fun j hj e => absurd (oAt_init hj) e⟩
  obtain ⟨o2, f, W⟩ := lay_fold hm hs.toList 0 _ W0 (by rw [Array.length_toList]; omega)
  rw [Nat.zero_add, Array.length_toList] at f W
  exact ⟨o2, by rw [layClean_eq, f]; rfl, W⟩
theorem laid_anew (t : SetTable) {hs : Array Int} {wanted M : Nat} (hw : SetTable.sizeAbove wanted - 1 = M) (hM : Mk M) (hn : hs.size ≤ M) :
    ∃ t2 order, t.relaid hs wanted = some (t2, order) ∧ order.toList.Perm (List.range hs.size) ∧ Tb t2 hs.size ∧ t2.mask = M ∧ t2.led = t.led ∧ t2.plain = t.plain := by
  obtain ⟨owner, e, W⟩ := lay_all hM hn
  have rr := ris_live (fun j => owner.getD j none) (List.range (M + 1)) (by unfold Ris; exact List.pairwise_lt_range)
  have r1 : Ris ((liveOf M owner).map (·.1)) := rr.1
  have r2 : ∀ x ∈ (liveOf M owner).map (·.1), x ∈ List.range (M + 1) := rr.2
  have nd1 : ((liveOf M owner).map (·.1)).Nodup := List.Pairwise.imp (fun h => Nat.ne_of_lt h) r1
  have all2 : ∀ k, k < hs.size → k ∈ (liveOf M owner).map (·.2) := fun k hk => by
    obtain ⟨j, b1, b2⟩ := W.all k hk
    exact List.mem_map.mpr ⟨(j, k), (mem_live W.sz).2 ⟨b1, b2⟩, rfl⟩
  have len : (liveOf M owner).length = hs.size := by
    obtain ⟨ps, p1, p2⟩ := W.ps
    have u := nat_nodup_len _ ps nd1 fun x hx => by
      obtain ⟨⟨y, k⟩, hq, rfl⟩ := List.mem_map.mp hx
      obtain ⟨b1, b2⟩ := (mem_live W.sz).1 hq
      exact p2 y b1 (by rw [b2]; exact Option.some_ne_none k)
    have d := nat_nodup_len (List.range hs.size) _ List.nodup_range fun k hk => all2 k (List.mem_range.mp hk)
    rw [List.length_map, p1] at u
    rw [List.length_map, List.length_range] at d
    omega
  refine ⟨tabOf t M owner, ((liveOf M owner).map (·.2)).toArray, by rw [relaid_eq, hw, e]; rfl, ?_, ⟨r1, rfl, ?_, hM, fun x hx => ?_⟩, rfl, rfl, rfl⟩
  · exact perm_range hs.size _ (by show ((liveOf M owner).map (·.2)).length = _; rw [List.length_map, len]) all2
  · show ((liveOf M owner).map (·.1)).toArray.size = _
    rw [List.size_toArray, List.length_map, len]
  · exact Nat.le_of_lt_succ (List.mem_range.mp (r2 x hx))
theorem pick_perm {α β : Type} (g : α → β) {L : List α} {es : Array β} {order : Array Nat} (hr : es.toList = L.map g) (hp : order.toList.Perm (List.range L.length)) :
    ∃ Ls : List α, (order.filterMap (es[·]?)).toList = Ls.map g ∧ Ls.Perm L := by
  have all : ∀ l : List α, (List.range l.length).filterMap (fun i => l[i]?) = l := by
    intro l
    induction l with
    | nil => rfl
    | cons x r ih =>
      rw [List.length_cons, List.range_succ_eq_map, List.filterMap_cons_some (b := x) (f := fun i => (x :: r)[i]?) rfl, List.filterMap_map]
      exact congrArg (x :: ·) ih
  refine ⟨order.toList.filterMap (fun i => L[i]?), ?_, ?_⟩
  · have e : (order.filterMap (es[·]?)).toList = order.toList.filterMap (fun i => es[i]?) := by simp
    rw [e, List.map_filterMap]
    refine congrFun (congrArg _ (funext fun i => ?_)) _
    rw [← Array.getElem?_toList, hr, List.getElem?_map]
  · have z := hp.filterMap (fun i => L[i]?)
    rw [all L] at z
    exact z
end Pf


namespace Pf
open PySem PySem.Spec PyProof.Rows L2
/-! ### what may be put into a set -/
section
variable {P : Program} {w : World} {α : Type} [DecidableEq α]
structure SKind (N : NKind P w α) : Prop where
  ofc : ∀ {A : Around} {E : Value → Shared → Prop} {s : Shared} {n : Nat} {k : α} {a : Addr} {Q : Bool → Shared → Prop}, N.lev < n → N.is s.heap k a → Q false s → wpAny (model P w) A (ofAClassStatement n (.ref a)) Q E s
  hby : ∀ {A : Around} {E : Value → Shared → Prop} {s : Shared} {n : Nat} {k : α} {a : Addr} {Q : Bool → Shared → Prop}, N.lev < n → N.is s.heap k a → Q true s → wpAny (model P w) A (hashByValue n (.ref a)) Q E s
  stay : ∀ {h h' : Heap} {k : α} {a b : Addr} {o : Obj} {es : Array (Int × Value)} {ep : Nat} {t : SetTable}, N.is h k b → h.get? a = some o → o.data = .set es ep t → Heap.SameBut a h h' → N.is h' k b
  keep : ∀ {h h' : Heap} {k : α} {b : Addr}, N.is h k b → (∀ c o, h.get? c = some o → h'.get? c = some o) → N.is h' k b
variable {A : Around} {E : Value → Shared → Prop} {s : Shared}
theorem ofc_tup {n : Nat} {a : Addr} {o : Obj} {items : Array Value} {m : Nat} {Q : Bool → Shared → Prop} (ho : s.heap.get? a = some o) (hc : o.cls = .type "tuple") (hd : o.data = .seq items m)
    (hv : ∀ v ∈ items.toList, ∀ {Q' : Bool → Shared → Prop}, Q' false s → wpAny (model P w) A (ofAClassStatement n v) Q' E s) (h : Q false s) : wpAny (model P w) A (ofAClassStatement (n + 1) (.ref a)) Q E s := by
  unfold ofAClassStatement
  refine wpAny_bind (wpAny_typeOf (T := "tuple") ⟨o, ho, hc⟩ ?_)
  dsimp only
  simp only [show (("tuple" : String) == "tuple") = true by decide, if_true, Bool.not_true, Bool.false_eq_true, if_false]
  try refine wpAny_bind (wpAny_pure ?_)
  try simp only [Bool.not_true, Bool.false_eq_true, if_false]
  show wpAny _ _ (seqItems? (.ref a) >>= _) _ _ s
  refine wpAny_bind (wpAny_seqItems ho hd ?_)
  dsimp only
  refine wpAny_bind ?_
  show wpAny _ _ (forIn items _ _) _ _ s
  rw [← Array.forIn_toList]
  refine wpAny_forIn_list _ (fun rest z u => (z.1 = none ∧ u = s) ∧ ∀ v ∈ rest, v ∈ items.toList) _ ?_ ?_ _ _ ⟨⟨rfl, rfl⟩, fun _ q => q⟩
  · rintro v rest z u ⟨⟨_, rfl⟩, al⟩
    refine wpAny_bind (hv v (al v List.mem_cons_self) ?_)
    simp only [Bool.false_eq_true, if_false]
    exact wpAny_pure ⟨⟨rfl, rfl⟩, fun x q => al x (List.mem_cons_of_mem _ q)⟩
  · rintro ⟨z1, z2⟩ u ⟨⟨e1, rfl⟩, _⟩
    simp only at e1
    subst e1
    exact wpAny_pure h
theorem hby_tup {n : Nat} {a : Addr} {o : Obj} {items : Array Value} {m : Nat} {Q : Bool → Shared → Prop} (ho : s.heap.get? a = some o) (hc : o.cls = .type "tuple") (hd : o.data = .seq items m)
    (hv : ∀ v ∈ items.toList, ∀ {Q' : Bool → Shared → Prop}, Q' true s → wpAny (model P w) A (hashByValue n v) Q' E s) (h : Q true s) : wpAny (model P w) A (hashByValue (n + 1) (.ref a)) Q E s := by
  unfold hashByValue
  refine wpAny_bind (wpAny_specialOf (T := "tuple") ⟨o, ho, hc⟩ F.slot_tuple_hash.lookup ?_)
  show wpAny _ _ (seqItems? (.ref a) >>= _) _ _ s
  refine wpAny_bind (wpAny_seqItems ho hd ?_)
  refine wpAny_bind ?_
  show wpAny _ _ (forIn items _ _) _ _ s
  rw [← Array.forIn_toList]
  refine wpAny_forIn_list _ (fun rest z u => (z.1 = none ∧ u = s) ∧ ∀ v ∈ rest, v ∈ items.toList) _ ?_ ?_ _ _ ⟨⟨rfl, rfl⟩, fun _ q => q⟩
  · rintro v rest z u ⟨⟨_, rfl⟩, al⟩
    refine wpAny_bind (hv v (al v List.mem_cons_self) ?_)
    simp only [Bool.not_true, Bool.false_eq_true, if_false]
    exact wpAny_pure ⟨⟨rfl, rfl⟩, fun x q => al x (List.mem_cons_of_mem _ q)⟩
  · rintro ⟨z1, z2⟩ u ⟨⟨e1, rfl⟩, _⟩
    simp only at e1
    subst e1
    exact wpAny_pure h
theorem tup_no_set {h : Heap} {a b : Addr} {o o' : Obj} {es : Array (Int × Value)} {ep n : Nat} {t : SetTable} {items : Array Value} (hb : h.get? b = some o') (hd' : o'.data = .seq items n) (ho : h.get? a = some o) (hd : o.data = .set es ep t) : b ≠ a := fun e => by
  subst e
  rw [hb] at ho
  cases ho
  rw [hd] at hd'
  cases hd'
/-- flat tuples of numbers -/
theorem sk_flat : SKind (flatN (intKind P w)) where
  ofc := fun {A E s n k a Q} hn hk h => by
    obtain ⟨o, items, m, ho, hc, hd, hi⟩ := (show IsTupleKey (intKind P w) s.heap k a from hk)
    obtain ⟨j, rfl⟩ : ∃ j, n = j + 1 := ⟨n - 1, by omega⟩
    refine ofc_tup ho hc hd (fun v hv Q' q => ?_) h
    obtain ⟨i, t, rfl⟩ := items_int hi v hv
    rw [ofAClass_int]
    exact wpAny_pure q
  hby := fun {A E s n k a Q} hn hk h => by
    obtain ⟨o, items, m, ho, hc, hd, hi⟩ := (show IsTupleKey (intKind P w) s.heap k a from hk)
    obtain ⟨j, rfl⟩ : ∃ j, n = j + 1 := ⟨n - 1, by omega⟩
    refine hby_tup ho hc hd (fun v hv Q' q => ?_) h
    obtain ⟨i, t, rfl⟩ := items_int hi v hv
    rw [hashBy_int]
    exact wpAny_pure q
  stay := fun {h h' k a b o es ep t} hk ho hd hs => by
    obtain ⟨o', items, n, ho', hc, hd', hi⟩ := (show IsTupleKey (intKind P w) h k b from hk)
    exact (show IsTupleKey (intKind P w) h' k b from ⟨o', items, n, (hs.2 b (tup_no_set ho' hd' ho hd)).trans ho', hc, hd', hi⟩)
  keep := fun {h h' k b} hk q => by
    obtain ⟨o', items, n, ho', z⟩ := (show IsTupleKey (intKind P w) h k b from hk)
    exact (show IsTupleKey (intKind P w) h' k b from ⟨o', items, n, q _ _ ho', z⟩)
theorem refs_all {N : NKind P w α} {h : Heap} {ks : List α} {vs : List Value} (p : RefsAre N h ks vs) : ∀ v ∈ vs, ∃ k b, v = .ref b ∧ N.is h k b := by
  induction p with
  | nil => intro v hv; cases hv
  | cons h1 _ ih =>
    intro v hv
    rcases List.mem_cons.mp hv with rfl | hv
    · exact ⟨_, _, rfl, h1⟩
    · exact ih v hv
theorem refs_imp {N : NKind P w α} {h h' : Heap} (f : ∀ k b, N.is h k b → N.is h' k b) {ks : List α} {vs : List Value} (p : RefsAre N h ks vs) : RefsAre N h' ks vs := by
  induction p with
  | nil => exact .nil
  | cons h1 _ ih => exact .cons (f _ _ h1) ih
/-- tuples of such -/
theorem sk_up {N : NKind P w α} (S : SKind N) : SKind (upN N) where
  ofc := fun {A E s n k a Q} hn hk h => by
    obtain ⟨o, items, m, ho, hc, hd, hi⟩ := (show IsTupN N s.heap k a from hk)
    obtain ⟨j, rfl⟩ : ∃ j, n = j + 1 := ⟨n - 1, by omega⟩
    refine ofc_tup ho hc hd (fun v hv Q' q => ?_) h
    obtain ⟨k, b, rfl, hb⟩ := refs_all hi v hv
    exact S.ofc (show N.lev < j by have : N.lev + 1 < j + 1 := hn; omega) hb q
  hby := fun {A E s n k a Q} hn hk h => by
    obtain ⟨o, items, m, ho, hc, hd, hi⟩ := (show IsTupN N s.heap k a from hk)
    obtain ⟨j, rfl⟩ : ∃ j, n = j + 1 := ⟨n - 1, by omega⟩
    refine hby_tup ho hc hd (fun v hv Q' q => ?_) h
    obtain ⟨k, b, rfl, hb⟩ := refs_all hi v hv
    exact S.hby (show N.lev < j by have : N.lev + 1 < j + 1 := hn; omega) hb q
  stay := fun {h h' k a b o es ep t} hk ho hd hs => by
    obtain ⟨o', items, n, ho', hc, hd', hi⟩ := (show IsTupN N h k b from hk)
    exact (show IsTupN N h' k b from ⟨o', items, n, (hs.2 b (tup_no_set ho' hd' ho hd)).trans ho', hc, hd', refs_imp (fun _ _ z => S.stay z ho hd hs) hi⟩)
  keep := fun {h h' k b} hk q => by
    obtain ⟨o', items, n, ho', hc, hd', hi⟩ := (show IsTupN N h k b from hk)
    exact (show IsTupN N h' k b from ⟨o', items, n, q _ _ ho', hc, hd', refs_imp (fun _ _ z => S.keep z q) hi⟩)
/-! ### a set of unlike things -/
def rowsN (N : NKind P w α) (L : List (Addr × α)) : List (Int × Value) := L.map fun p => (N.hash p.2, Value.ref p.1)
structure SetN (N : NKind P w α) (h : Heap) (a : Addr) (L : List (Addr × α)) (es : Array (Int × Value)) (ep : Nat) (t : SetTable) : Prop where
  ob : ∃ o, h.get? a = some o ∧ o.ExactSet ∧ o.data = .set es ep t
  rows : es.toList = rowsN N L
  tb : Tb t L.length
  nd : (L.map (·.2)).Nodup
  is : ∀ p ∈ L, N.is h p.2 p.1
  plain : t.plain = true
  led : w.params.followText "set-order" = true ∨ t.led = true
  room : L.length * 5 < t.mask * 3
  few : L.length < 4000
variable {N : NKind P w α} {a : Addr} {L : List (Addr × α)} {es : Array (Int × Value)} {ep : Nat} {t : SetTable}
theorem rows_size (h : es.toList = rowsN N L) : es.size = L.length := by
  have e := congrArg List.length h
  unfold rowsN at e
  rw [Array.length_toList, List.length_map] at e
  exact e
theorem fits_of (h1 : t.place.size = es.size) (h2 : t.dummies = #[]) (h3 : es.size ≤ t.mask) : t.fits es.size = true := by
  unfold SetTable.fits SetTable.fill
  rw [h2, h1, beq_self_eq_true, Bool.true_and]
  exact decide_eq_true (show es.size + 0 ≤ t.mask by omega)
theorem SetN.fits {h : Heap} (R : SetN N h a L es ep t) : t.fits es.size = true := by
  have h1 := rows_size R.rows
  have h2 := R.tb.sz
  have h3 := R.room
  exact fits_of (by omega) R.tb.dm (by omega)
theorem SetN.entry {h : Heap} (R : SetN N h a L es ep t) {i : Nat} {p : Addr × α} (q : L[i]? = some p) : es[i]? = some (N.hash p.2, Value.ref p.1) := by
  rw [← Array.getElem?_toList, R.rows]
  unfold rowsN
  rw [List.getElem?_map, q]
  rfl
theorem Tb.odd {n : Nat} (T : Tb t n) : ¬ t.gaveWay = true := by
  unfold SetTable.gaveWay
  rcases T.mok with e | e | e | e | e | e <;> rw [e] <;> decide
theorem nth_dm (m : Nat) : ∀ (n : Nat) (p : SetTable.Probe), p.dummy = none → (nth m p n).dummy = none
  | 0, _, h => h
  | n + 1, p, h => nth_dm m n (adv m p) (by unfold adv; split <;> exact h)
abbrev beg (m : Nat) (h : Int) : SetTable.Probe := runAt m (SetTable.bits h % (m + 1)) (SetTable.bits h)
/-- nothing is seen of a search among such things -/
theorem unseen (S : SKind N) (h8 : N.lev < 8) {k : α} {b : Addr} {Q : Bool → Shared → Prop} (hk : N.is s.heap k b) {ys : List Value} (hy : ∀ y ∈ ys, ∃ k' c, y = Value.ref c ∧ N.is s.heap k' c) (h : Q false s) : wpAny (model P w) A (searchCouldBeSeen (.ref b) ys) Q E s := by
  unfold searchCouldBeSeen
  refine wpAny_bind ?_
  refine wpAny_forIn_list _ (fun rest z u => (z.1 = none ∧ u = s) ∧ ∀ y ∈ rest, ∃ k' c, y = Value.ref c ∧ N.is s.heap k' c) _ ?_ ?_ _ _ ⟨⟨rfl, rfl⟩, hy⟩
  · rintro v rest z u ⟨⟨_, rfl⟩, al⟩
    obtain ⟨k', c, rfl, hc⟩ := al v List.mem_cons_self
    have al2 : ∀ y ∈ rest, ∃ k' c, y = Value.ref c ∧ N.is u.heap k' c := fun x q => al x (List.mem_cons_of_mem _ q)
    dsimp only
    by_cases hv : (b == c || (carriedByValue (.ref b) && carriedByValue (.ref c))) = true
    · exact wp_if_pos hv (wpAny_pure ⟨⟨rfl, rfl⟩, al2⟩)
    · refine wp_if_neg hv ?_
      refine wpAny_bind (N.quiet h8 hk ?_)
      simp only [Bool.not_true, Bool.false_eq_true, if_false]
      refine wpAny_bind (N.quiet h8 hc ?_)
      simp only [Bool.not_true, Bool.false_eq_true, if_false]
      refine wpAny_bind (S.ofc h8 hk ?_)
      simp only [Bool.false_eq_true, if_false]
      refine wpAny_bind (S.ofc h8 hc ?_)
      simp only [Bool.false_eq_true, if_false]
      exact wpAny_pure ⟨⟨rfl, rfl⟩, al2⟩
  · rintro ⟨z1, z2⟩ u ⟨⟨e1, rfl⟩, _⟩
    simp only at e1
    subst e1
    exact wpAny_pure h
/-- what isn't in the set is searched for up to an empty place -/
theorem search_none (S : SKind N) (h8 : N.lev < 8) (R : SetN N s.heap a L es ep t) {x : Addr} {k : α} (hx : N.is s.heap k x) (hu : A.units + N.lev < cLine) (hno : k ∉ L.map (·.2)) {K : Nat} (hKf : K < 10 * SetTable.turns t.mask)
    (hK : way t.mask (N.hash k) K ∉ t.place.toList) (hKb : ∀ c, c < K → way t.mask (N.hash k) c ∈ t.place.toList) {Q : SetFound → Shared → Prop} (q : Q (.free (way t.mask (N.hash k) K) false) s) :
    ∀ (f c : Nat) (stand : Option SetTable.Probe), stand.getD (t.probeStart (N.hash k)) = nth t.mask (beg t.mask (N.hash k)) c → c ≤ K → K - c < f → wpAny (model P w) A (setSearchFrom a (.ref x) (N.hash k) true f stand) Q E s
  | 0, c, stand, _, _, hf => absurd hf (Nat.not_lt_zero _)
  | f + 1, c, stand, hst, hc, hf => by
    obtain ⟨o, ho, hex, hd⟩ := R.ob
    rw [setSearchFrom_succ]
    refine wpAny_bind (wpAny_setState_of ho hd R.fits ?_)
    dsimp only
    refine wp_if_neg R.tb.odd ?_
    try refine wpAny_bind (wpAny_pure ?_)
    have hnd := nth_dm t.mask c (beg t.mask (N.hash k)) rfl
    have sh : ∀ z, nth t.mask (nth t.mask (beg t.mask (N.hash k)) c) z = nth t.mask (beg t.mask (N.hash k)) (c + z) := fun z => (nth_add t.mask c _ z).symm
    have e1 : ∀ z, (nth t.mask (nth t.mask (beg t.mask (N.hash k)) c) z).j = way t.mask (N.hash k) (c + z) := fun z => congrArg SetTable.Probe.j (sh z)
    rcases go_spec t R.tb.ris R.tb.dm (fun i => (es[i]?.map (·.1)).getD 0) (N.hash k) (10 * SetTable.turns t.mask) (K - c) _ hnd (by omega) (fun z hz => by rw [e1]; exact hKb (c + z) (by omega)) (by rw [e1, show c + (K - c) = K by omega]; exact hK) with ⟨z, i, hz, hi, hh, hb, hpr⟩ | ⟨hb, hpr⟩
    · have hpr2 : t.probe (fun i => (es[i]?.map (·.1)).getD 0) (N.hash k) (stand.getD (t.probeStart (N.hash k))) = some (.candidate (way t.mask (N.hash k) (c + z)) i (nth t.mask (beg t.mask (N.hash k)) (c + (z + 1)))) := by
        rw [hst, ← e1, ← sh]
        exact hpr
      rw [hpr2]
      dsimp only
      rw [e1] at hi
      have hil : i < L.length := by
        have h1 := (List.getElem?_eq_some_iff.mp hi).1
        have h2 := R.tb.sz
        rw [Array.length_toList] at h1
        omega
      obtain ⟨p, hp⟩ : ∃ p, L[i]? = some p := ⟨_, List.getElem?_eq_getElem hil⟩
      have hm : p ∈ L := List.mem_of_getElem? hp
      have hne : p.2 ≠ k := fun e => hno (List.mem_map.mpr ⟨p, hm, e⟩)
      have hsl : t.slot (way t.mask (N.hash k) (c + z)) = .live i := slot_live R.tb.ris hi
      have rest : wpAny (model P w) A (searchRest a (.ref x) (N.hash k) true f es t (way t.mask (N.hash k) (c + z)) i (nth t.mask (beg t.mask (N.hash k)) (c + (z + 1)))) Q E s := by
        unfold searchRest
        rw [R.entry hp]
        dsimp only
        refine wpAny_bind (wpAny_holding (N.eqBool hu (R.is p hm) hx ?_))
        refine wpAny_bind (wpAny_setState_of ho hd R.fits ?_)
        dsimp only
        refine wp_if_neg (by simp [hne]) ?_
        try refine wpAny_bind (wpAny_pure ?_)
        rw [sameMem]
        dsimp only
        simp only [if_true, hsl, R.entry hp]
        refine wpAny_bind (wpAny_isSame_ref_self (wpAny_bind (wpAny_pure ?_)))
        simp only [if_true]
        refine wp_if_neg (by simp [hne]) ?_
        exact search_none S h8 R hx hu hno hKf hK hKb q f (c + (z + 1)) _ rfl (by omega) (by omega)
      by_cases hl : t.led = true
      · refine wp_if_neg (by simp [hl]) ?_
        try refine wpAny_bind (wpAny_pure ?_)
        exact rest
      · refine wp_if_pos (by simp [hl]) ?_
        refine wpAny_bind (unseen S h8 hx (fun y hy => ?_) ?_)
        · obtain ⟨e, he, rfl⟩ := List.mem_map.mp hy
          have he2 : e ∈ es.toList := by
            have : e ∈ es ∧ e.1 = N.hash k := by simpa using he
            simpa using this.1
          rw [R.rows] at he2
          obtain ⟨p2, hp2, rfl⟩ := List.mem_map.mp he2
          exact ⟨p2.2, p2.1, rfl, R.is p2 hp2⟩
        · refine wp_if_neg (by decide) ?_
          try refine wpAny_bind (wpAny_pure ?_)
          exact rest
    · have hpr2 : t.probe (fun i => (es[i]?.map (·.1)).getD 0) (N.hash k) (stand.getD (t.probeStart (N.hash k))) = some (.empty (way t.mask (N.hash k) K) none) := by
        have e2 := e1 (K - c)
        rw [show c + (K - c) = K by omega] at e2
        rw [hst, ← e2]
        exact hpr
      rw [hpr2]
      dsimp only
      exact wpAny_pure q
end
end Pf


namespace Pf
open PySem PySem.Spec PyProof.Rows L2
section
variable {P : Program} {w : World} {α : Type} [DecidableEq α] {A : Around} {E : Value → Shared → Prop} {s : Shared} {N : NKind P w α} {a : Addr} {L : List (Addr × α)} {es : Array (Int × Value)} {ep : Nat} {t : SetTable}
/-! ### more room -/
theorem relay_n (S : SKind N) {o : Obj} (ho : s.heap.get? a = some o) (hex : o.ExactSet) (hd : o.data = .set es ep t) (hr : es.toList = rowsN N L) (T : Tb t L.length) (hfl : L.length ≤ t.mask) (nd : (L.map (·.2)).Nodup) (is : ∀ p ∈ L, N.is s.heap p.2 p.1) (pl : t.plain = true)
    (ld : w.params.followText "set-order" = true ∨ t.led = true) (few : L.length < 4000) {wanted M : Nat} (hw : SetTable.sizeAbove wanted - 1 = M) (hM : Mk M) (hw2 : SetTable.sizeAbove wanted ≤ 8192) (hn : L.length * 5 < M * 3) {Q : Unit → Shared → Prop}
    (q : ∀ h' L' es' ep' t', Heap.SameBut a s.heap h' → SetN N h' a L' es' ep' t' → L'.Perm L → Q () { s with heap := h' }) : wpAny (model P w) A (setRelay a wanted) Q E s := by
  have hz := rows_size hr
  obtain ⟨t2, order, e, pm, T2, em, el, epl⟩ := laid_anew t (hs := es.map (·.1)) (wanted := wanted) hw hM (by rw [Array.size_map, hz]; omega)
  rw [Array.size_map, hz] at pm T2
  obtain ⟨Ls, r1, r2⟩ := pick_perm (fun p : Addr × α => (N.hash p.2, Value.ref p.1)) hr pm
  have hs2 : (order.filterMap (es[·]?)).size = es.size := by rw [rows_size (N := N) (L := Ls) r1, r2.length_eq, hz]
  rw [setRelay_eq]
  refine wpAny_bind (wpAny_setState_of ho hd (fits_of (T.sz.trans hz.symm) T.dm (by omega)) ?_)
  dsimp only
  refine wp_if_neg (by rw [sizeLine_eq]; omega) ?_
  try refine wpAny_bind (wpAny_pure ?_)
  rw [e]
  dsimp only
  refine wpAny_bind ?_
  refine wp_if_neg (by rw [hs2]; simp) ?_
  try refine wpAny_bind (wpAny_pure ?_)
  refine wpAny_pure ?_
  dsimp only
  refine wpAny_storeSet_of ho hd ?_ (by rw [hs2, hz, sizeLine_eq]; omega)
  have sb : Heap.SameBut a s.heap (s.heap.update a (Obj.putSet (order.filterMap (es[·]?)) t2)) := Heap.SameBut.update ..
  refine q _ Ls (order.filterMap (es[·]?)) (ep + 1) t2 sb ⟨⟨_, store_at ho hd, ⟨hex.1, hex.2.1, hex.2.2⟩, rfl⟩, r1, by rw [r2.length_eq]; exact T2, (r2.map (·.2)).nodup_iff.mpr nd, fun p hp => S.stay (is p (r2.mem_iff.mp hp)) ho hd sb, epl.trans pl, by rw [el]; exact ld, ?_, by rw [r2.length_eq]; exact few⟩ r2
  rw [r2.length_eq, em]
  exact hn
theorem grow_case {m n : Nat} (hm : Mk m) (h1 : n * 5 < m * 3) (h2 : (n + 1) * 5 ≥ m * 3) (hn : n + 1 < 4000) : ∃ M, SetTable.sizeAbove (SetTable.grown (n + 1)) - 1 = M ∧ Mk M ∧ SetTable.sizeAbove (SetTable.grown (n + 1)) ≤ 8192 ∧ (n + 1) * 5 < M * 3 := by
  rcases hm with rfl | rfl | rfl | rfl | rfl | rfl
  · obtain rfl : n = 4 := by omega
    exact ⟨31, by decide +kernel, .inr (.inl rfl), by decide +kernel, by decide⟩
  · obtain rfl : n = 18 := by omega
    exact ⟨127, by decide +kernel, .inr (.inr (.inl rfl)), by decide +kernel, by decide⟩
  · obtain rfl : n = 76 := by omega
    exact ⟨511, by decide +kernel, .inr (.inr (.inr (.inl rfl))), by decide +kernel, by decide⟩
  · obtain rfl : n = 306 := by omega
    exact ⟨2047, by decide +kernel, .inr (.inr (.inr (.inr (.inl rfl)))), by decide +kernel, by decide⟩
  · obtain rfl : n = 1228 := by omega
    exact ⟨8191, by decide +kernel, .inr (.inr (.inr (.inr (.inr rfl)))), by decide +kernel, by decide⟩
  · omega
/-! ### one more -/
theorem add_n (S : SKind N) (h8 : N.lev < 8) (R : SetN N s.heap a L es ep t) {x : Addr} {k : α} (hx : N.is s.heap k x) (hu : A.units + N.lev < cLine) (hno : k ∉ L.map (·.2)) (hfew : L.length + 1 < 4000) {Q : Bool → Shared → Prop}
    (q : ∀ h' L' es' ep' t', Heap.SameBut a s.heap h' → SetN N h' a L' es' ep' t' → L'.Perm ((x, k) :: L) → Q true { s with heap := h' }) : wpAny (model P w) A (setAddHashed a (.ref x) (N.hash k)) Q E s := by
  obtain ⟨o, ho, hex, hd⟩ := R.ob
  have hz := rows_size R.rows
  have room := R.room
  obtain ⟨K, hKf, hK, hKb⟩ := R.tb.hole (by omega) (N.hash k)
  have big : K < 100000 := by
    have : 10 * SetTable.turns t.mask ≤ 82060 := by
      unfold SetTable.turns
      rcases R.tb.mok with e | e | e | e | e | e <;> omega
    omega
  unfold setAddHashed
  refine wpAny_holding ?_
  rw [show (100000 : Nat) = 99999 + 1 from rfl, setAddHashedIn_succ]
  refine wpAny_bind (wpAny_setState_of ho hd R.fits ?_)
  dsimp only
  refine wp_if_neg (by simp [byScan, Value.scannable]) ?_
  try refine wpAny_bind (wpAny_pure ?_)
  refine wpAny_bind ?_
  unfold setSearch
  refine search_none S h8 R hx hu hno hKf hK hKb ?_ 100000 0 none rfl (Nat.zero_le _) (by omega)
  dsimp only
  refine wpAny_bind (wpAny_setState_of ho hd R.fits ?_)
  dsimp only
  obtain ⟨q2, q1, q3, q4, q5, q6, q9⟩ := R.tb.put (way_in t.mask (N.hash k) K) hK
  have hp1 : (t.put (way t.mask (N.hash k) K)).1.plain = true := q6.trans R.plain
  generalize hpt : t.put (way t.mask (N.hash k) K) = pt at q1 q3 q4 q5 q6 q9 hp1 ⊢
  obtain ⟨t1, p⟩ := pt
  dsimp only at q1 q3 q4 q5 q6 q9 hp1 ⊢
  subst q1
  first
    | (refine wpAny_bind ?_; refine wp_if_pos hp1 ?_; refine S.hby h8 hx ?_)
    | refine wp_if_pos hp1 (wpAny_bind (S.hby h8 hx ?_))
  simp only [if_true]
  have hin : (SetTable.insertAt es (SetTable.below t.place (way t.mask (N.hash k) K)) (N.hash k, Value.ref x)).toList = rowsN N (L.take (SetTable.below t.place (way t.mask (N.hash k) K)) ++ (x, k) :: L.drop (SetTable.below t.place (way t.mask (N.hash k) K))) := by
    rw [SetTable.toList_insertAt, R.rows]
    unfold rowsN
    rw [List.map_append, List.map_cons, List.map_take, List.map_drop]
  generalize SetTable.below t.place (way t.mask (N.hash k) K) = p at q2 hin ⊢
  have pm := put_perm L p (x, k)
  have hlen : (L.take p ++ (x, k) :: L.drop p).length = L.length + 1 := pm.length_eq
  have nd1 : ((L.take p ++ (x, k) :: L.drop p).map (·.2)).Nodup := (pm.map (·.2)).nodup_iff.mpr (by rw [List.map_cons]; exact List.nodup_cons.mpr ⟨hno, R.nd⟩)
  have hes := rows_size (N := N) hin
  rw [hlen] at hes
  generalize SetTable.insertAt es p (N.hash k, Value.ref x) = es1 at hin hes ⊢
  generalize L.take p ++ (x, k) :: L.drop p = L1 at pm hlen nd1 hin
  refine wpAny_bind (wpAny_storeSet_of ho hd ?_ (by rw [hes, sizeLine_eq]; omega))
  have sb : Heap.SameBut a s.heap (s.heap.update a (Obj.putSet es1 t1)) := Heap.SameBut.update ..
  have ho1 := store_at (es' := es1) (t' := t1) ho hd
  generalize s.heap.update a (Obj.putSet es1 t1) = h1 at sb ho1 ⊢
  have is1 : ∀ p ∈ L1, N.is h1 p.2 p.1 := fun p hp => by
    rcases List.mem_cons.mp (pm.mem_iff.mp hp) with rfl | hp
    · exact S.stay hx ho hd sb
    · exact S.stay (R.is p hp) ho hd sb
  have ld1 : w.params.followText "set-order" = true ∨ t1.led = true := by rw [q5]; exact R.led
  have tf : t1.tooFull = decide ((L.length + 1) * 5 ≥ t.mask * 3) := by
    unfold SetTable.tooFull
    rw [q9, q4]
  by_cases hf : (L.length + 1) * 5 ≥ t.mask * 3
  · have hf2 : t1.tooFull = true := tf.trans (decide_eq_true hf)
    obtain ⟨M, m1, m2, m3, m4⟩ := grow_case R.tb.mok room hf hfew
    first
      | (refine wpAny_bind ?_; refine wp_if_pos (by simp [hf2]) ?_)
      | (refine wp_if_pos (by simp [hf2]) ?_; refine wpAny_bind ?_)
    rw [hz]
    refine relay_n (s := { s with heap := h1 }) (L := L1) S ho1 ⟨hex.1, hex.2.1, hex.2.2⟩ rfl hin (by rw [hlen]; exact q3) (by rw [hlen, q4]; omega) nd1 is1 hp1 ld1 (by rw [hlen]; exact hfew) m1 m2 m3 (by rw [hlen]; exact m4) fun h2 L2 es2 ep2 t2 sb2 R2 pm2 => ?_
    exact wpAny_pure (q h2 L2 es2 ep2 t2 (sb.trans sb2) R2 (pm2.trans pm))
  · have hf2 : t1.tooFull = false := tf.trans (decide_eq_false hf)
    first
      | refine wp_if_neg (by simp [hf2]) ?_
      | (refine wpAny_bind ?_; refine wp_if_neg (by simp [hf2]) ?_; refine wpAny_pure ?_)
    refine wpAny_pure (q h1 L1 es1 (ep + 1) t1 sb ⟨⟨_, ho1, ⟨hex.1, hex.2.1, hex.2.2⟩, rfl⟩, hin, by rw [hlen]; exact q3, nd1, is1, hp1, ld1, by rw [hlen, q4]; omega, by rw [hlen]; exact hfew⟩ pm)
theorem SetN.keep (S : SKind N) {h h' : Heap} (R : SetN N h a L es ep t) (ha : ∀ o, h.get? a = some o → h'.get? a = some o) (hk : ∀ p ∈ L, N.is h' p.2 p.1) : SetN N h' a L es ep t := by
  obtain ⟨o, ho, r⟩ := R.ob
  exact ⟨⟨o, ha o ho, r⟩, R.rows, R.tb, R.nd, hk, R.plain, R.led, R.room, R.few⟩
theorem setN_new {h : Heap} (ho : h.get? a = some { cls := .type "set", dict := none, data := .set #[] 0 (.fresh 0 0 (!w.params.followText "set-order")) }) : SetN N h a [] #[] 0 (.fresh 0 0 (!w.params.followText "set-order")) where
  ob := ⟨_, ho, ⟨rfl, rfl, rfl⟩, rfl⟩
  rows := rfl
  tb := ⟨List.Pairwise.nil, rfl, rfl, .inl rfl, fun x hx => (by cases hx)⟩
  nd := List.nodup_nil
  is := fun p hp => (by cases hp)
  plain := rfl
  led := by
    show _ ∨ (!w.params.followText "set-order") = true
    cases w.params.followText "set-order"
    · exact .inr rfl
    · exact .inl rfl
  room := show 0 * 5 < 7 * 3 by decide
  few := show 0 < 4000 by decide
/-! ### all of a list -/
theorem fill_n (S : SKind N) (h8 : N.lev < 8) {I : Addr} {fp wr : List Addr} {G : Array GenState → Array GenState → Prop} {n : Nat} {Pv : Nat → Value → Prop} {St : Nat → Shared → Prop} {R : Result → Shared → Prop} (W : WalksS P w A.in1 I fp wr G n Pv St) (D : Addr) (hDf : D ∉ fp) (ks : List (Addr × α)) (hn : n = ks.length) (hfew : ks.length < 4000) (nd : (ks.map (·.2)).Nodup)
    (hval : ∀ i v, Pv i v → ∃ p, ks[i]? = some p ∧ v = .ref p.1) (h0 : Heap) (hk : ∀ p ∈ ks, N.is h0 p.2 p.1) (hD0 : h0.get? D = none) (hw0 : ∀ b ∈ wr, h0.get? b = none) (hu : A.in1.units + N.lev < cLine) :
    ∀ (k i : Nat) (s : Shared), n - i = k → i ≤ n → St i s → (∀ b o, h0.get? b = some o → s.heap.get? b = some o) → (∃ L es ep t, SetN N s.heap D L es ep t ∧ L.Perm (ks.take i)) →
      (∀ s' L es ep t, Moved (D :: wr) G s s' → SetN N s'.heap D L es ep t → L.Perm ks → (∀ b o, h0.get? b = some o → s'.heap.get? b = some o) → R (.ok (.ret .none)) s') →
      codeAny (model P w) A (.builtin "set.update.loop" ⟨[.ref D, .ref I], []⟩) R s := by
  have hDw : D ∉ wr := fun h => hDf (W.sub _ h)
  have sub : ∀ b ∈ wr, b ∈ D :: wr := fun b hb => List.mem_cons_of_mem _ hb
  have kp : ∀ {s s' : Shared}, Moved wr G s s' → (∀ b o, h0.get? b = some o → s.heap.get? b = some o) → ∀ b o, h0.get? b = some o → s'.heap.get? b = some o := fun hm z b o e => hm.heap b o (fun hb => by rw [hw0 b hb] at e; cases e) (z b o e)
  intro k
  induction k with
  | zero =>
    intro i s hk' hi hst z ⟨L, es, ep, t, hS, g⟩ hR
    obtain rfl : i = n := by omega
    refine codeAny_builtin F.entry_set_update_loop ?_
    rw [Around.under_plainId F.plain_set_update_loop _]
    show wpAny _ A.in1 (pyNext (.ref I) >>= _) _ _ s
    refine wpAny_bind (W.done s _ _ hst fun s' hm => ?_)
    show wpAny _ A.in1 (ret Value.none) _ _ s'
    have z' := kp hm z
    rw [hn, List.take_length] at g
    exact wpAny_pure (hR s' L es ep t (hm.mono sub) (hS.keep S (fun o e => hm.heap D o hDw e) fun p hp => S.keep (hk p (g.mem_iff.mp hp)) z') g z')
  | succ k ih =>
    intro i s hk' hi hst z ⟨L, es, ep, t, hS, g⟩ hR
    have hlt : i < n := by omega
    refine codeAny_builtin F.entry_set_update_loop ?_
    rw [Around.under_plainId F.plain_set_update_loop _]
    show wpAny _ A.in1 (pyNext (.ref I) >>= _) _ _ s
    refine wpAny_bind (W.item i s _ _ hlt hst fun v s' hP hst' hm => ?_)
    obtain ⟨p, hp, rfl⟩ := hval i v hP
    have z' := kp hm z
    have hS' : SetN N s'.heap D L es ep t := hS.keep S (fun o e => hm.heap D o hDw e) fun q hq => S.keep (hk q (List.mem_of_mem_take (g.mem_iff.mp hq))) z'
    have hx : N.is s'.heap p.2 p.1 := S.keep (hk p (List.mem_of_getElem? hp)) z'
    have nx : (ks.take (i + 1)) = ks.take i ++ [p] := take_next hp
    have hno : p.2 ∉ L.map (·.2) := fun hm => by
      have h1 : p.2 ∈ (ks.take i).map (·.2) := (g.map (·.2)).mem_iff.mp hm
      have h2 : ((ks.take (i + 1)).map (·.2)).Nodup := nd.sublist ((List.take_sublist _ _).map _)
      rw [nx, List.map_append] at h2
      exact (List.nodup_append.mp h2).2.2 _ h1 _ (List.mem_singleton.mpr rfl) rfl
    have gl : L.length = i := by
      rw [g.length_eq, List.length_take]
      omega
    show wpAny _ A.in1 (holding [Value.ref p.1] (setAdd D (.ref p.1)) >>= _) _ _ s'
    refine wpAny_bind (wpAny_holding ?_)
    unfold setAdd
    refine wpAny_holding (wpAny_bind (N.pyHash hu hx ?_))
    refine add_n (s := { s' with toks := s'.toks + N.draws p.2 }) S h8 hS' hx hu hno (by omega) fun h' L' es' ep' t' hsb hS2 pm => ?_
    have g' : L'.Perm (ks.take (i + 1)) := by
      rw [nx]
      exact pm.trans ((g.cons p).trans (List.perm_append_singleton p _).symm)
    have z2 : ∀ b o, h0.get? b = some o → h'.get? b = some o := fun b o e => (hsb.2 b (fun y => by rw [y, hD0] at e; cases e)).trans (z' b o e)
    refine wpAny_pure ⟨plainId_quiet F.plain_set_update_loop _, ih (i + 1) _ (by omega) hlt (W.frame _ s' _ _ hst' (Nat.le_add_right _ _) fun b hb o e => ?_) z2 ⟨L', es', ep', t', hS2, g'⟩ fun s'' L2 es2 ep2 t2 hm'' hS'' g'' z3 => ?_⟩
    · rw [hsb.2 b (fun y : b = D => hDf (by rw [← y]; exact hb))]
      exact e
    · refine hR s'' L2 es2 ep2 t2 (Moved.trans W.gtrans ((hm.mono sub).then_heap (Nat.le_add_right _ _) fun b o hb e => ?_) hm'') hS'' g'' z3
      rw [hsb.2 b (fun y : b = D => hb (by rw [y]; exact List.mem_cons_self))]
      exact e
end
end Pf


namespace Pf
open PySem PySem.Spec PyProof.Rows L2
section
variable {P : Program} {w : World} {α : Type} [DecidableEq α] {A : Around} {E : Value → Shared → Prop} {s : Shared} {N : NKind P w α}
abbrev freshSet (w : World) : Obj := { cls := .type "set", dict := none, data := .set #[] 0 (.fresh 0 0 (!w.params.followText "set-order")) }
/-- set(xs) of unlike things -/
theorem call_set_n (S : SKind N) (h8 : N.lev < 8) {l : Addr} {items : Array Value} (ks : List (Addr × α)) {Q : Value → Shared → Prop} (hh : A.handled = none) (hl : s.heap.IsList l items) (hit : items.toList = ks.map fun p => Value.ref p.1) (hk : ∀ p ∈ ks, N.is s.heap p.2 p.1) (hfew : ks.length < 4000) (nd : (ks.map (·.2)).Nodup) (hu : A.units + 20 < cLine)
    (h : ∀ (h' : Heap) (tk : Nat) L es ep t, SetN N h' s.heap.objs.size L es ep t → L.Perm ks → (∀ b o, s.heap.get? b = some o → h'.get? b = some o) → Q (.ref s.heap.objs.size) { s with heap := h', toks := tk }) : wpAny (model P w) A (call (.type "set") [.ref l]) Q E s := by
  have hisz : items.size = ks.length := by rw [← Array.length_toList, hit, List.length_map]
  obtain ⟨c, tl, hmro⟩ := F.called_set.mro
  have hmade := F.called_set.made
  have hsub := F.called_set.sub
  refine wpAny_call (codeAny_of_tree ?_)
  show wpAny _ _ (callAny (.type "set") _) _ _ _
  refine wpAny_pure ⟨Code.quiet_builtin _ (by decide +kernel), codeAny_builtin F.entry_type_call ?_⟩
  rw [Around.under_plain (weight_type_call_type "set" [.ref l] []) rfl]
  have h1 := F.called_set.notType
  have h2 := F.called_set.canCreate
  have hct := F.typeCall_set_1 (.ref l)
  repeat (any_goals (first | assumption | wp_step))
  refine codeAny_mono (code_set_led1 (.ref l) (E := E) (Q₁ := fun obj s₁ => obj = .ref s.heap.objs.size ∧ s₁ = { s with heap := s.heap.push (freshSet w) }) ⟨rfl, rfl⟩) fun r s₁ hr => ?_
  cases r with
  | error e => exact hr
  | ok fl =>
    cases fl with
    | ret obj =>
      obtain ⟨rfl, rfl⟩ := hr
      have hS : (s.heap.push (freshSet w)).get? s.heap.objs.size = some (freshSet w) := Heap.get?_push_size _ rfl
      have hT : Shared.TypeIs { s with heap := s.heap.push (freshSet w) } (.ref s.heap.objs.size) "set" := ⟨_, hS, rfl⟩
      have hli := F.called_set.init.lookup
      have hbi := F.called_set.init.bind (.ref s.heap.objs.size)
      repeat (any_goals (first | assumption | wp_step))
      refine codeAny_mono (codeAny_call_builtin (R := wants (fun r s₂ => r = .none ∧ ∃ h' tk L es ep t, s₂ = { s with heap := h', toks := tk } ∧ SetN N h' s.heap.objs.size L es ep t ∧ L.Perm ks ∧ (∀ b o, s.heap.get? b = some o → h'.get? b = some o)) E) F.called_set.init.plain F.entry_set_init (check_set_init_1 hT ?_)) fun r₂ s₂ hr₂ => ?_
      · obtain ⟨ol, hol, hcl, nl, hdl⟩ := hl
        obtain ⟨ocls, odict, odata, oslots⟩ := ol
        simp only at hcl hdl
        subst hcl; subst hdl
        have hol' : (s.heap.push (freshSet w)).get? l = some { cls := .type "list", dict := odict, data := .seq items nl, slots := oslots } := Heap.get?_push_of_some _ hol
        have hsls := F.sub_list_set
        have hslf := F.sub_list_frozenset
        have hne : (Value.type "list" == Value.type "dict") = false := by decide
        have hl1 : (s.heap.push (freshSet w)).IsList l items := ⟨_, hol', rfl, nl, rfl⟩
        unfold Builtin.«set.__init__» noKeywords Builtin.Frozenset.updateFrom
        generalize hPI : pyIter = PI
        wp_walk
        subst hPI
        refine wpAny_pyIter_list hl1 ?_
        refine wpAny_bind (wpAny_runValue ?_)
        have hlS : l < s.heap.objs.size := Heap.lt_size hol
        have hh3 : A.in1.in1.in1.handled = none := by simp [hh]
        have psz : (s.heap.push (freshSet w)).objs.size = s.heap.objs.size + 1 := Heap.size_push ..
        have none_of : ∀ b, s.heap.objs.size ≤ b → s.heap.get? b = none := fun b hb => by
          cases q : s.heap.get? b with
          | none => rfl
          | some o => exact absurd (Heap.lt_size q) (Nat.not_lt.mpr hb)
        refine fill_n S h8 ((Walks.list hh3 (s.heap.push (freshSet w)).objs.size l (by rw [psz]; exact Nat.ne_of_lt (Nat.lt_succ_of_lt hlS)) items).toS) s.heap.objs.size (by rw [psz]; simp only [List.mem_cons, List.not_mem_nil, or_false, not_or]; exact ⟨Nat.ne_of_lt (Nat.lt_succ_self _), Nat.ne_of_gt hlS⟩) ks hisz hfew nd (fun i v hv => ?_) s.heap hk (none_of _ (Nat.le_refl _))
          (fun b hb => none_of b (by rw [List.mem_singleton.mp hb, psz]; exact Nat.le_succ _)) (by show A.units + 1 + 1 + 1 + N.lev < cLine; omega) (items.size - 0) 0 _ (by omega) (Nat.zero_le _) ⟨⟨_, Heap.get?_push_size _ rfl, rfl, rfl⟩, (hl1.push _)⟩ (fun b o e => Heap.get?_push_of_some _ (Heap.get?_push_of_some _ e)) ⟨[], #[], 0, _, setN_new (Heap.get?_push_of_some _ hS), List.Perm.refl _⟩ ?hR
        · have q : items.toList[i]? = some v := (Array.getElem?_toList ..).trans hv
          rw [hit, List.getElem?_map] at q
          cases hq : ks[i]? with
          | none => rw [hq] at q; cases q
          | some p => rw [hq] at q; exact ⟨p, rfl, (Option.some.inj q).symm⟩
        case hR =>
          intro s' L es ep t hm hS' g' hkp
          obtain ⟨h', g2, d', tk', os'⟩ := s'
          have eg : g2 = s.gens := hm.gens
          have ed : d' = s.drawn := hm.drawn
          have eo : os' = s.os := hm.os
          subst eg; subst ed; subst eo
          show wpAny _ _ _ _ _ _
          refine wpAny_pure ?_
          show wpAny _ _ (ret Value.none) _ _ _
          exact wpAny_pure ⟨rfl, h', tk', L, es, ep, t, rfl, hS', g', hkp⟩
      · cases r₂ with
        | error e => exact hr₂
        | ok fl₂ =>
          cases fl₂ with
          | ret r =>
            obtain ⟨rfl, h', tk, L, es, ep, t, rfl, hS', g', hk'⟩ := hr₂
            repeat (any_goals (first | assumption | wp_step))
            exact h _ _ _ _ _ _ hS' g' hk'
          | _ => exact hr₂.elim
    | _ => exact hr.elim
end
theorem perm_unmap {β γ : Type} {f : β → γ} {o r : List γ} (p : o.Perm r) : ∀ L : List β, r = L.map f → ∃ Ls : List β, Ls.Perm L ∧ o = Ls.map f := by
  induction p with
  | nil =>
    intro L e
    cases L with
    | nil => exact ⟨[], List.Perm.refl _, rfl⟩
    | cons x y => cases e
  | cons x _ ih =>
    intro L e
    cases L with
    | nil => cases e
    | cons y L =>
      injection e with e1 e2
      obtain ⟨Ls, h1, h2⟩ := ih L e2
      exact ⟨y :: Ls, h1.cons y, by rw [List.map_cons, ← h2, e1]⟩
  | swap x y l =>
    intro L e
    cases L with
    | nil => cases e
    | cons a L =>
      cases L with
      | nil => injection e with e1 e2; cases e2
      | cons b L =>
        injection e with e1 e2
        injection e2 with e2 e3
        exact ⟨b :: a :: L, List.Perm.swap a b L, by rw [List.map_cons, List.map_cons, ← e1, ← e2, ← e3]⟩
  | trans _ _ ih1 ih2 =>
    intro L e
    obtain ⟨L1, h1, e1⟩ := ih2 L e
    obtain ⟨L2, h2, e2⟩ := ih1 L1 e1
    exact ⟨L2, h2.trans h1, e2⟩
theorem vals_refsA {β : Type} {g : β → Addr} : ∀ {ks : List β} {us : List Value}, Vals (ks.map fun p => V.ref (g p)) us → us = ks.map fun p => Value.ref (g p)
  | [], _, .nil => rfl
  | _ :: _, _, .cons r t => by
    cases r
    rw [vals_refsA t]
    rfl
theorem refs_valsA {β : Type} {g : β → Addr} : ∀ (ks : List β), Vals (ks.map fun p => V.ref (g p)) (ks.map fun p => Value.ref (g p))
  | [] => .nil
  | _ :: ks => .cons rfl (refs_valsA ks)
section
variable {X : Cx} {α : Type} [DecidableEq α]
/-- a kind of things, how they stand in the heap, and as data -/
structure Kd (P : Program) (w : World) (α : Type) [DecidableEq α] where
  N : NKind P w α
  S : SKind N
  h8 : N.lev < 8
  at_ : Hp → Addr → α → Prop
  sound : ∀ {H : Hp} {h : Heap} {a : Addr} {k : α}, HOk P w H h → at_ H a k → N.is h k a
def tSetIn (D : Kd P w α) (K : PySem.W.Frag) (ta : TE) (Q : List (Addr × α) → Hp → Prop) : L2.St → Hp → Prop := fun σ H => ta σ H fun x H1 => ∃ (l : Addr) (ks : List (Addr × α)), x = .ref l ∧ SqL K H1 l (ks.map fun p => V.ref p.1) ∧ ks.length < 4000 ∧ (ks.map (·.2)).Nodup ∧ (∀ p ∈ ks, D.at_ H1 p.1 p.2) ∧ Q ks H1
/-- len(set(xs)) -/
theorem pe_lenSetN {K : PySem.W.Frag} (D : Kd X.prog X.w α) {a : Expr} {ta : TE} {p p2 q pos : Pos} (hc : X.calm = true) (hu : X.A.units + 64 < cLine) (hg : Gl X "len") (hm : X.mg "len" = none) (hg2 : Gl X "set") (hm2 : X.mg "set" = none) (ha : PE X a ta) (hK : X.K = K := by rfl)
    (na : starEach [a] X.env = (false, eval a X.env) :: starEach [] X.env := by rfl) : PE X (.Call (.Name "len" p) [.Call (.Name "set" p2) [a] [] q] [] pos) (fun σ H Q => tSetIn D K ta (fun ks H1 => Q (.int ks.length) H1) σ H) := by
  subst hK
  refine ⟨fun pins s σ H Q I h => ?_⟩
  refine Call_ (ld_blt I hg hm PySem.boot_len (PyProof.Rows.callWith_builtin1 (PyProof.Rows.args_cons ?_ rfl) rfl rfl))
  refine Call_ (ld_blt I hg2 hm2 PyProof.Rows.boot_set ?_)
  refine PyProof.Rows.callWith_type1 (PyProof.Rows.args_cons (thn (ha.run pins s σ H _ I h) fun v s1 ⟨x, H1, I1, r1, q1⟩ => PyProof.Rows.args_nil ?_) na) na rfl
  obtain ⟨l, ks, rfl, hL, hz, nd, hat, qq⟩ := q1
  cases r1
  obtain ⟨its, r, pl, _⟩ := I1.list hL
  refine call_set_n D.S D.h8 ks (I1.ok.hd hc) pl.isList (by simpa using vals_refsA r) (fun p hp => D.sound I1.hok (hat p hp)) hz nd (by have : (64 : Nat) ≤ 64 := Nat.le_refl _; omega) fun h' tk L es ep t R pm hk => ?_
  have I2 : Inv X pins σ H1 { s1 with heap := h', toks := tk } := I1.kept hk
  refine PyProof.Rows.args_nil ?_
  obtain ⟨o, ho, hex, hd⟩ := R.ob
  have es_sz : es.size = ks.length := (rows_size R.rows).trans pm.length_eq
  exact call_len_set ho hex hd R.fits (by omega) ⟨.int ks.length, H1, I2.tok _, ⟨_, by rw [es_sz]⟩, qq⟩
/-- sorted(set(xs)) -/
theorem pe_sortSetN {K : PySem.W.Frag} (D : Kd X.prog X.w α) (dd : α → PyData) {a : Expr} {ta : TE} {p p2 q pos : Pos} (hc : X.calm = true) (hu : X.A.units + 64 < cLine) (hg : Gl X "sorted") (hm : X.mg "sorted" = none) (hg2 : Gl X "set") (hm2 : X.mg "set" = none) (ha : PE X a ta) (hK : X.K = K := by rfl)
    (na : starEach [a] X.env = (false, eval a X.env) :: starEach [] X.env := by rfl) : PE X (.Call (.Name "sorted" p) [.Call (.Name "set" p2) [a] [] q] [] pos) (fun σ H Q => tSetIn D K ta (fun ks H1 => (∀ p ∈ ks, Dp K H1 (.ref p.1) (dd p.2) ∧ (dd p.2).depth ≤ 50) ∧ (∀ ls : List (Addr × α), ls.Perm ks → PySem.W.AllAlike (ls.map fun p => dd p.2) ∧ PySem.W.Sortable (ls.map fun p => dd p.2)) ∧
      ∀ (b : Addr) (ls : List (Addr × α)), ls.Perm ks → H1 b = none → Q (.ref b) (upd H1 b (.lst ((ls.mergeSort (PySem.W.dataLe false fun p => dd p.2)).map fun p => V.ref p.1)))) σ H) := by
  subst hK
  refine ⟨fun pins s σ H Q I h => ?_⟩
  refine Call_ (ld_blt I hg hm (u := .builtin "sorted") (by decide +kernel) (PyProof.Rows.callWith_builtin1 (PyProof.Rows.args_cons ?_ rfl) rfl rfl))
  refine Call_ (ld_blt I hg2 hm2 PyProof.Rows.boot_set ?_)
  refine PyProof.Rows.callWith_type1 (PyProof.Rows.args_cons (thn (ha.run pins s σ H _ I h) fun v s1 ⟨x, H1, I1, r1, q1⟩ => PyProof.Rows.args_nil ?_) na) na rfl
  obtain ⟨l, ks, rfl, hL, hz, nd, hat, hdp, hal, qq⟩ := q1
  cases r1
  obtain ⟨its, r, pl, _⟩ := I1.list hL
  refine call_set_n D.S D.h8 ks (I1.ok.hd hc) pl.isList (by simpa using vals_refsA r) (fun p hp => D.sound I1.hok (hat p hp)) hz nd (by have : (64 : Nat) ≤ 64 := Nat.le_refl _; omega) fun h' tk L es ep t R pm hk => ?_
  have I2 : Inv X pins σ H1 { s1 with heap := h', toks := tk } := I1.kept hk
  refine PyProof.Rows.args_nil ?_
  obtain ⟨o, ho, hex, hd⟩ := R.ob
  have es_sz : es.size = ks.length := (rows_size R.rows).trans pm.length_eq
  refine Calls.call_function_entry PyProof.Rows.kind_sorted PyProof.Rows.plain_sorted PyProof.Rows.entry_sorted (PyProof.Rows.args_sorted1 _) ?_
  unfold Builtin.«sorted»
  refine wpAny_bind (m := checkCount "sorted" 1 1 _) (wpAny_pure ?_)
  refine wpAny_bind (collect_set (A := X.A.in1) (I2.ok.hd hc) ⟨o, ho, hex.1, hd⟩ R.fits (by unfold scanBound; omega) R.tb.ris R.led fun s2 out k2 _ g2 o2 pm2 => ?_)
  have e2 : es.toList.map (·.2) = L.map fun p => Value.ref p.1 := by
    rw [R.rows]
    unfold rowsN
    rw [List.map_map]
    rfl
  rw [e2] at pm2
  obtain ⟨Ls, p1, p2⟩ := perm_unmap pm2 L rfl
  have pk := p1.trans pm
  have I3 : Inv X pins σ H1 s2 := by
    have e : s2 = { s2 with os := s2.os } := rfl
    obtain ⟨h2, gg, dr, tt, os⟩ := s2
    have eg : gg = s1.gens := g2
    have eo : os = s1.os := o2
    subst eg eo
    exact I1.call (ch := []) (Un.kept fun b u e => k2 b u (hk b u e)) (I1.hok.kept fun b u e => k2 b u (hk b u e)) I1.bare (fun _ z => nomatch z)
  refine sort_tail I3 hu (v := fun p : Addr × α => V.ref p.1) (dd := fun p => dd p.2) (ys := Ls) (by rw [p2]; exact refs_valsA Ls) (fun y hy => hdp y (pk.mem_iff.mp hy)) (hal Ls pk).1 (hal Ls pk).2 (by rw [pk.length_eq, sizeLine_eq]; omega) (fun b hb => qq b Ls pk hb) fun l s' h => ⟨_, rfl, h⟩
end
end Pf


namespace Pf
open PySem PySem.Spec PyProof.Rows L2
section
variable {P : Program} {w : World} {α β : Type} [DecidableEq α] [DecidableEq β]
/-! ### a kind told otherwise -/
def NKind.by (N : NKind P w α) (e : β → α) (he : ∀ x y, e x = e y → x = y) : NKind P w β where
  is := fun h b a => N.is h (e b) a
  hash := fun b => N.hash (e b)
  draws := fun b => N.draws (e b)
  lev := N.lev
  inj := fun h1 h2 => he _ _ (N.inj h1 h2)
  keeps := fun h1 h2 h3 h4 => N.keeps h1 h2 h3 h4
  pyHash := fun hu hk h => N.pyHash hu hk h
  eqBool := fun {A E s x y a b Q} hu hx hy h => N.eqBool hu hx hy (by
    have e1 : decide (e x = e y) = decide (x = y) := decide_eq_decide.mpr ⟨he x y, congrArg e⟩
    rw [e1]
    exact h)
  quiet := fun hn hk h => N.quiet hn hk h
theorem SKind.by {N : NKind P w α} (S : SKind N) (e : β → α) (he : ∀ x y, e x = e y → x = y) : SKind (N.by e he) where
  ofc := fun {A E s n k a Q} hn hk h => S.ofc (k := e k) hn hk h
  hby := fun {A E s n k a Q} hn hk h => S.hby (k := e k) hn hk h
  stay := fun {h h' k a b o es ep t} h1 h2 h3 h4 => S.stay (k := e k) h1 h2 h3 h4
  keep := fun {h h' k b} h1 h2 => S.keep (k := e k) h1 h2
/-! ### a number and such a thing -/
def IsRow (N : NKind P w α) (h : Heap) (y : Int × α) (a : Addr) : Prop := ∃ o n t b, h.get? a = some o ∧ o.cls = .type "tuple" ∧ o.data = .seq #[.int y.1 t, .ref b] n ∧ N.is h y.2 b
variable {N : NKind P w α}
theorem IsRow.ty {s : Shared} {y : Int × α} {a : Addr} (x : IsRow N s.heap y a) : s.TypeIs (.ref a) "tuple" := let ⟨o, _, _, _, ho, hc, _⟩ := x; ⟨o, ho, hc⟩
def rowHash (N : NKind P w α) (y : Int × α) : Int := reduceHash (Builtin.Tuple.tupleHashOf [hashInt y.1, N.hash y.2])
theorem row_hash {A : Around} {E : Value → Shared → Prop} {s : Shared} {y : Int × α} {a : Addr} {Q : Int → Shared → Prop} (hu : A.units + (N.lev + 1) < cLine) (hk : IsRow N s.heap y a) (h : Q (rowHash N y) { s with toks := s.toks + (N.draws y.2 + 2) }) : wpAny (model P w) A (pyHash (.ref a)) Q E s := by
  have T := hk.ty
  obtain ⟨o, n, t, b, ho, _, hd, hi⟩ := hk
  unfold pyHash
  first | unfold pyHashByItsType | skip
  first | refine wpAny_bind (wpAny_cRoomFor_or (.inr (by omega)) ?_) | skip
  refine wpAny_bind (wpAny_specialOf T F.slot_tuple_hash.lookup ?_)
  show wpAny _ _ (if (some (Value.builtin "tuple.__hash__") == some Value.none) = true then _ else _) Q E s
  rw [if_neg (by rw [beq_builtin_none]; exact Bool.false_ne_true)]
  refine wpAny_bind (wpAny_specialOf T F.slot_tuple_hash.lookup ?_)
  show wpAny _ _ (callSpecialIfBoundUnlessNone? (.ref a) "__hash__" _ >>= _) Q E s
  refine wpAny_bind (wpAny_callSpecialIfBoundUnlessNone?_slot T F.slot_tuple_hash (wpAny_call_entry F.slot_tuple_hash T F.entry_tuple_hash ?_ (F.args_tuple_hash_1 _)))
  show wpAny _ _ (Builtin.Tuple.tupleItemsOf (.ref a) >>= _) _ _ s
  refine wpAny_bind (wpAny_tupleItemsOf ho hd ?_)
  refine wpAny_bind ?_
  rw [← Array.forIn_toList]
  refine wpAny_forIn_list _ (fun rest (c : Array Int) u => (rest = [.int y.1 t, .ref b] ∧ c = #[] ∧ u = s) ∨ (rest = [.ref b] ∧ c = #[hashInt y.1] ∧ u = { s with toks := s.toks + 1 }) ∨ (rest = [] ∧ c = #[hashInt y.1, N.hash y.2] ∧ u = { s with toks := s.toks + 1 + N.draws y.2 })) _ ?_ ?_ _ _ (.inl ⟨rfl, rfl, rfl⟩)
  · rintro x rest c u (⟨h1, rfl, rfl⟩ | ⟨h1, rfl, rfl⟩ | ⟨h1, _, _⟩)
    · injection h1 with h1 h2
      subst h1 h2
      refine wpAny_bind ((intKind P w).pyHash (k := y.1) (intKind_is P w y.1 t) ?_)
      first
        | exact wpAny_pure (.inr (.inl ⟨rfl, rfl, rfl⟩))
        | exact wpAny_bind (wpAny_pure (wpAny_pure (.inr (.inl ⟨rfl, rfl, rfl⟩))))
    · injection h1 with h1 h2
      subst h1 h2
      refine wpAny_bind (N.pyHash (by show A.units + 1 + N.lev < cLine; omega) hi ?_)
      first
        | exact wpAny_pure (.inr (.inr ⟨rfl, rfl, rfl⟩))
        | exact wpAny_bind (wpAny_pure (wpAny_pure (.inr (.inr ⟨rfl, rfl, rfl⟩))))
    · cases h1
  · rintro c u (⟨h1, _, _⟩ | ⟨h1, _, _⟩ | ⟨_, rfl, rfl⟩)
    · cases h1
    · cases h1
    show wpAny _ _ (retInt (Builtin.Tuple.tupleHashOf [hashInt y.1, N.hash y.2])) _ _ _
    refine wpAny_ret_mkInt ?_
    show wpAny _ _ (if (decide (-(2 : Int) ^ 63 ≤ Builtin.Tuple.tupleHashOf [hashInt y.1, N.hash y.2]) && decide (Builtin.Tuple.tupleHashOf [hashInt y.1, N.hash y.2] < 2 ^ 63)) = true then _ else _) Q E _
    have eT : s.toks + 1 + N.draws y.2 + 1 = s.toks + (N.draws y.2 + 2) := by omega
    unfold rowHash reduceHash at h
    generalize Builtin.Tuple.tupleHashOf [hashInt y.1, N.hash y.2] = z at h ⊢
    by_cases hr : (decide (-(2 : Int) ^ 63 ≤ z) && decide (z < 2 ^ 63)) = true
    · rw [if_pos hr] at h ⊢
      rw [← eT] at h
      exact wpAny_pure h
    · rw [if_neg hr] at h ⊢
      rw [← eT] at h
      exact wpAny_bind (wpAny_rule (wpAny_pure h))
theorem row_tree {A : Around} {E : Value → Shared → Prop} {s : Shared} {x y : Int × α} {a b : Addr} {G : PySem.Fin → Shared → Prop} (hu : A.units + N.lev < cLine) (hx : IsRow N s.heap x a) (hy : IsRow N s.heap y b) (h : G (.done (.ret (.bool (decide (x = y))))) s) : wpAny (model P w) A (Builtin.«tuple.__eq__» ⟨[.ref a, .ref b], []⟩) G E s := by
  have Tb := hy.ty
  obtain ⟨oa, na, ta, ca, hoa, _, hda, hia⟩ := hx
  obtain ⟨ob, nb, tb, cb, hob, _, hdb, hib⟩ := hy
  show wpAny _ _ (isInstance (.ref b) (.type "tuple") >>= _) _ _ s
  refine wpAny_bind (wpAny_isInstance Tb isSubtype_tuple_tuple ?_)
  simp only [Bool.not_true, Bool.false_eq_true, if_false]
  refine wpAny_bind (wpAny_tupleItemsOf hoa hda ?_)
  refine wpAny_bind (wpAny_tupleItemsOf hob hdb ?_)
  refine wpAny_bind ?_
  refine wpAny_forIn_list _ (fun rest z u => (z.1 = none ∧ u = s) ∧ ((rest = [(.int x.1 ta, .int y.1 tb), (.ref ca, .ref cb)]) ∨ (rest = [(.ref ca, .ref cb)] ∧ x.1 = y.1) ∨ (rest = [] ∧ x.1 = y.1 ∧ x.2 = y.2))) _ ?_ ?_ _ _ ⟨⟨rfl, rfl⟩, .inl rfl⟩
  · rintro ⟨u, v⟩ rest z st ⟨⟨hz, rfl⟩, (h1 | ⟨h1, e1⟩ | ⟨h1, _⟩)⟩
    · injection h1 with h1 h2
      injection h1 with h1 h3
      subst h1 h2 h3
      refine wpAny_bind ((intKind P w).eqBool (a := x.1) (b := y.1) (intKind_is P w _ _) (intKind_is P w _ _) ?_)
      by_cases e : x.1 = y.1
      · rw [decide_eq_true e]
        simp only [Bool.not_true, Bool.false_eq_true, if_false]
        exact wpAny_pure ⟨by simp, .inr (.inl ⟨trivial, e⟩)⟩
      · rw [decide_eq_false e]
        simp only [Bool.not_false, if_true]
        rw [decide_eq_false (fun z : x = y => e (congrArg Prod.fst z))] at h
        exact wpAny_bind (wpAny_pure (wpAny_pure (wpAny_pure h)))
    · injection h1 with h1 h2
      injection h1 with h1 h3
      subst h1 h2 h3
      refine wpAny_bind (N.eqBool hu hia hib ?_)
      by_cases e : x.2 = y.2
      · rw [decide_eq_true e]
        simp only [Bool.not_true, Bool.false_eq_true, if_false]
        exact wpAny_pure ⟨by simp, .inr (.inr ⟨trivial, e1, e⟩)⟩
      · rw [decide_eq_false e]
        simp only [Bool.not_false, if_true]
        rw [decide_eq_false (fun z : x = y => e (congrArg Prod.snd z))] at h
        exact wpAny_bind (wpAny_pure (wpAny_pure (wpAny_pure h)))
    · cases h1
  · rintro ⟨z1, z2⟩ u ⟨⟨e0, rfl⟩, (h1 | ⟨h1, _⟩ | ⟨_, e1, e2⟩)⟩
    · cases h1
    · cases h1
    simp only at e0
    subst e0
    refine wpAny_pure ?_
    rw [decide_eq_true (Prod.ext e1 e2)] at h
    exact h
theorem IsRow.inj {h : Heap} {a : Addr} {x y : Int × α} (hx : IsRow N h x a) (hy : IsRow N h y a) : x = y := by
  obtain ⟨o, n, t, b, h1, _, h2, h3⟩ := hx
  obtain ⟨o', n', t', b', g1, _, g2, g3⟩ := hy
  obtain rfl := Option.some.inj (h1.symm.trans g1)
  rw [h2] at g2
  injection g2 with g2 _
  have e := congrArg Array.toList g2
  injection e with e1 e2
  injection e2 with e2 _
  injection e1 with e1 _
  injection e2 with e2
  subst e2
  exact Prod.ext e1 (N.inj h3 g3)
/-- a number and a thing, in a tuple -/
def rowN (N : NKind P w α) : NKind P w (Int × α) where
  is := IsRow N
  hash := rowHash N
  draws := fun y => N.draws y.2 + 2
  lev := N.lev + 1
  inj := fun hx hy => hx.inj hy
  keeps := fun {h h' k a d o es ep} x ho hd hs => by
    obtain ⟨o', n, t, b, g1, g2, g3, g4⟩ := x
    have ne : a ≠ d := fun e => by
      subst e
      obtain rfl := Option.some.inj (g1.symm.trans ho)
      rw [hd] at g3
      exact nomatch g3
    exact ⟨o', n, t, b, (hs.2 a ne).trans g1, g2, g3, N.keeps g4 ho hd hs⟩
  pyHash := fun hu hk h => row_hash hu hk h
  eqBool := fun {A E s x y a b Q} hu hx hy h => by
    unfold eqBool
    try with_reducible refine wpAny_holding ?_
    show wpAny _ _ (if (Value.ref a == Value.ref b) = true then _ else _) Q E s
    by_cases hab : (Value.ref a == Value.ref b) = true
    · rw [if_pos hab]
      obtain rfl : a = b := by have := eq_of_beq hab; injection this
      obtain rfl := hx.inj hy
      exact wpAny_bind (wpAny_rule (wpAny_pure (by simpa using h)))
    · rw [if_neg hab]
      exact wpAny_bind (wpAny_richCompare_same_room (op := .Eq) hx.ty hy.ty F.slot_tuple_eq (wpAny_call_entry F.slot_tuple_eq hx.ty F.entry_tuple_eq (row_tree (by show A.units + 1 + N.lev < cLine; omega) hx hy ⟨_, rfl, (fun e => nomatch e), wpAny_truthy_bool h⟩) (F.args_tuple_eq_2 _ _)) (by omega))
  quiet := fun {A E s n k a Q} hn hk h => by
    obtain ⟨m, rfl⟩ : ∃ m, n = m + 1 := ⟨n - 1, by omega⟩
    have T := hk.ty
    obtain ⟨o, n, t, b, ho, _, hd, hi⟩ := hk
    unfold eqIsQuiet
    refine wpAny_bind (wpAny_specialOf T F.slot_tuple_eq.lookup ?_)
    show wpAny _ _ (isInstance (.ref a) (.type "tuple") >>= _) _ _ s
    refine wpAny_bind (wpAny_isInstance T isSubtype_tuple_tuple ?_)
    simp only [Bool.not_true, Bool.false_eq_true, if_false]
    refine wpAny_bind (wpAny_seqItems ho hd ?_)
    refine wpAny_bind ?_
    show wpAny _ _ (forIn _ _ _) _ _ s
    rw [← Array.forIn_toList]
    refine wpAny_forIn_list _ (fun rest z u => (z.1 = none ∧ u = s) ∧ ∀ v ∈ rest, v = .int k.1 t ∨ v = .ref b) _ ?_ ?_ _ _ ⟨⟨rfl, rfl⟩, fun v hv => by simpa using hv⟩
    · rintro v rest z u ⟨⟨_, rfl⟩, al⟩
      have al2 : ∀ v ∈ rest, v = .int k.1 t ∨ v = .ref b := fun x q => al x (List.mem_cons_of_mem _ q)
      rcases al v List.mem_cons_self with rfl | rfl
      · rw [eqIsQuiet_byValue _ (show carriedByValue (.int k.1 t) = true from rfl)]
        refine wpAny_bind (wpAny_pure ?_)
        simp only [Bool.not_true, Bool.false_eq_true, if_false]
        exact wpAny_pure ⟨⟨rfl, rfl⟩, al2⟩
      · refine wpAny_bind (N.quiet (by omega) hi ?_)
        simp only [Bool.not_true, Bool.false_eq_true, if_false]
        exact wpAny_pure ⟨⟨rfl, rfl⟩, al2⟩
    · rintro ⟨z1, z2⟩ u ⟨⟨e1, rfl⟩, _⟩
      simp only at e1
      subst e1
      exact wpAny_pure h
theorem sk_row (S : SKind N) : SKind (rowN N) where
  ofc := fun {A E s n k a Q} hn hk h => by
    obtain ⟨o, m, t, b, ho, hc, hd, hi⟩ := (show IsRow N s.heap k a from hk)
    obtain ⟨j, rfl⟩ : ∃ j, n = j + 1 := ⟨n - 1, by omega⟩
    refine ofc_tup ho hc hd (fun v hv Q' q => ?_) h
    rcases (show v = .int k.1 t ∨ v = .ref b by simpa using hv) with rfl | rfl
    · rw [ofAClass_int]
      exact wpAny_pure q
    · exact S.ofc (show N.lev < j by have : N.lev + 1 < j + 1 := hn; omega) hi q
  hby := fun {A E s n k a Q} hn hk h => by
    obtain ⟨o, m, t, b, ho, hc, hd, hi⟩ := (show IsRow N s.heap k a from hk)
    obtain ⟨j, rfl⟩ : ∃ j, n = j + 1 := ⟨n - 1, by omega⟩
    refine hby_tup ho hc hd (fun v hv Q' q => ?_) h
    rcases (show v = .int k.1 t ∨ v = .ref b by simpa using hv) with rfl | rfl
    · rw [hashBy_int]
      exact wpAny_pure q
    · exact S.hby (show N.lev < j by have : N.lev + 1 < j + 1 := hn; omega) hi q
  stay := fun {h h' k a b o es ep t} hk ho hd hs => by
    obtain ⟨o', n, t', c, g1, g2, g3, g4⟩ := (show IsRow N h k b from hk)
    exact (show IsRow N h' k b from ⟨o', n, t', c, (hs.2 b (tup_no_set g1 g3 ho hd)).trans g1, g2, g3, S.stay g4 ho hd hs⟩)
  keep := fun {h h' k b} hk q => by
    obtain ⟨o', n, t', c, g1, g2, g3, g4⟩ := (show IsRow N h k b from hk)
    exact (show IsRow N h' k b from ⟨o', n, t', c, q _ _ g1, g2, g3, S.keep g4 q⟩)
end
/-! ### foldings; numbers with foldings -/
def two2 (p : Int × Int) : List Int := [p.1, p.2]
theorem two2_inj (p q : Int × Int) (h : two2 p = two2 q) : p = q := by
  unfold two2 at h
  injection h with h1 h2
  injection h2 with h2 _
  exact Prod.ext h1 h2
theorem map_inj {α β : Type} {f : α → β} (hf : ∀ x y, f x = f y → x = y) : ∀ xs ys : List α, xs.map f = ys.map f → xs = ys
  | [], [], _ => rfl
  | [], _ :: _, h => by cases h
  | _ :: _, [], h => by cases h
  | x :: xs, y :: ys, h => by
    injection h with h1 h2
    rw [hf _ _ h1, map_inj hf xs ys h2]
section
variable {P : Program} {w : World}
/-- a list of tuples of numbers, told by e, in a tuple -/
def listE {γ : Type} (e : γ → List Int) : List γ → List (List Int) := List.map e
theorem vals_items {k : List Int} {us : List Value} (r : Vals (k.map V.int) us) : ItemsAre (intKind P w) k us := items_of_vals r
theorem nest_ints {γ : Type} {e : γ → List Int} {H : Hp} {h : Heap} (ok : HOk P w H h) {vs : List V} {q : List γ} (p : Paired (fun v y => ∃ b, v = V.ref b ∧ H b = some (.tup ((e y).map V.int))) vs q) : ∀ {us : List Value}, Vals vs us → RefsAre (flatN (intKind P w)) h (q.map e) us := by
  induction p with
  | nil => intro us r; cases r; exact .nil
  | cons h1 _ ih =>
    intro us r
    cases r with
    | cons r1 rt =>
      obtain ⟨b, rfl, hb⟩ := h1
      cases r1
      obtain ⟨_, its, ri, o, g1, g2, n, g3⟩ := (show ObjOk P w H h b (.tup _) from ok b _ hb)
      exact .cons (show IsTupleKey (intKind P w) h _ b from ⟨o, its.toArray, n, g1, g2, g3, by simpa using vals_items ri⟩) (ih rt)
def NestE {γ : Type} (e : γ → List Int) (H : Hp) (a : Addr) (q : List γ) : Prop := ∃ vs, H a = some (.tup vs) ∧ Paired (fun v y => ∃ b, v = V.ref b ∧ H b = some (.tup ((e y).map V.int))) vs q
theorem nestE_is {γ : Type} {e : γ → List Int} {H : Hp} {h : Heap} (ok : HOk P w H h) {a : Addr} {q : List γ} (hk : NestE e H a q) : IsTupN (flatN (intKind P w)) h (q.map e) a := by
  obtain ⟨vs, ea, p⟩ := hk
  obtain ⟨_, its, r, o, g1, g2, n, g3⟩ := (show ObjOk P w H h a (.tup vs) from ok a _ ea)
  exact ⟨o, its.toArray, n, g1, g2, g3, by simpa using nest_ints ok p r⟩
def nestN {γ : Type} [DecidableEq γ] (e : γ → List Int) (he : ∀ x y, e x = e y → x = y) : NKind P w (List γ) := (upN (flatN (intKind P w))).by (List.map e) (map_inj he)
/-- tuples of tuples of numbers -/
def kdNest {γ : Type} [DecidableEq γ] (P : Program) (w : World) (e : γ → List Int) (he : ∀ x y, e x = e y → x = y) : Kd P w (List γ) where
  N := nestN e he
  S := (sk_up sk_flat).by _ _
  h8 := show 0 + 1 < 8 by decide
  at_ := NestE e
  sound := fun ok h => nestE_is ok h
def RowE {γ : Type} (e : γ → List Int) (H : Hp) (a : Addr) (y : Int × List γ) : Prop := ∃ b, H a = some (.tup [.int y.1, .ref b]) ∧ NestE e H b y.2
/-- numbers with such -/
def kdRow {γ : Type} [DecidableEq γ] (P : Program) (w : World) (e : γ → List Int) (he : ∀ x y, e x = e y → x = y) : Kd P w (Int × List γ) where
  N := rowN (nestN e he)
  S := sk_row ((sk_up sk_flat).by _ _)
  h8 := show 0 + 1 + 1 < 8 by decide
  at_ := RowE e
  sound := fun {H h a k} ok hk => by
    obtain ⟨b, ha, hb⟩ := hk
    obtain ⟨_, its, r, o, g1, g2, n, g3⟩ := (show ObjOk P w H h a (.tup _) from ok a _ ha)
    cases r with
    | cons r1 rt =>
      cases rt with
      | cons r2 rn =>
        cases rn
        obtain ⟨t, rfl⟩ := r1
        cases r2
        exact ⟨o, n, t, b, g1, g2, g3, nestE_is ok hb⟩
end
end Pf


namespace Pf
open PySem PySem.Spec PyProof.Rows L2
/-! ### a tuple's items, gathered -/
section
variable {prog : Program} {w : World} {A : Around} {E : Value → Shared → Prop} {s : Shared}
theorem gather_tup {a : Addr} {us : List Value} {Q : List Value → Shared → Prop} (ht : s.heap.IsTuple a us.toArray) (hz : us.length ≤ sizeLine)
    (q : Q us { s with heap := (s.heap.push (seqObj "list" #[] 0)).update s.heap.objs.size (Obj.mapSeq (· ++ us.toArray)) }) : wpAny (model prog w) A (collect (.ref a)) Q E s := by
  obtain ⟨ob, hob, hcl, n, hda⟩ := id ht
  have hob1 : (s.heap.push (seqObj "list" #[] 0)).get? a = some ob := Heap.get?_push_of_some _ hob
  have hnew : (s.heap.push (seqObj "list" #[] 0)).get? s.heap.objs.size = some (seqObj "list" #[] 0) := Heap.get?_push_size _ rfl
  unfold collect
  refine wpAny_bind (wpAny_runValue ?_)
  refine codeAny_builtin entry_proto_collect' ?_
  show wpAny _ _ (do again (.builtin "list.__iadd__" ⟨[← newList [], .ref a], []⟩)) _ _ s
  refine wpAny_bind (wpAny_newList (wpAny_pure ⟨Code.quiet_builtin _ (by decide +kernel), ?_⟩))
  refine codeAny_builtin entry_list_iadd' ?_
  show wpAny _ _ (Builtin.List.listExtendWith (.ref s.heap.objs.size) (.ref a) _) _ _ { s with heap := s.heap.push (seqObj "list" #[] 0) }
  unfold Builtin.List.listExtendWith
  refine wpAny_bind (wpAny_typeOf (T := "tuple") ⟨ob, hob1, hcl⟩ ?_)
  rw [if_pos (by rw [show (Value.type "tuple" == Value.type "tuple") = true from rfl, Bool.or_true])]
  refine wpAny_bind (listItems_at hob1 hda ?_)
  refine wpAny_bind (listItems_at (xs := #[]) (n := 0) hnew rfl ?_)
  rw [if_neg (by simp)]
  have hsz : ((#[] : Array Value) ++ us.toArray).size ≤ sizeLine + 1 := by
    rw [Array.size_append, List.size_toArray]
    show 0 + us.length ≤ _
    omega
  refine wpAny_bind (listUpdate_at (xs := #[]) (n := 0) hnew rfl ?_ (Nat.zero_le _) hsz)
  refine wpAny_pure ?_
  refine wpAny_bind (wpAny_load (get?_update_seq hnew _) ?_)
  have e : ((#[] : Array Value) ++ us.toArray).toList = us := by simp
  show wpAny _ _ (pure ((#[] : Array Value) ++ us.toArray).toList) Q E _
  rw [e]
  exact wpAny_pure q
theorem sorted_tup {β : Type} {R : Value → β → Prop} {enc : β → PyData} {a : Addr} {us : List Value} {bs : List β} {Q : Value → Shared → Prop} (ht : s.heap.IsTuple a us.toArray) (e : PySem.W.EachIs R us bs) (er : PySem.W.EachIs (fun v b => ∃ as, Reads s.heap v (enc b) as) us bs) (al : PySem.W.AllAlike (bs.map enc)) (so : PySem.W.Sortable (bs.map enc))
    (hz : bs.length ≤ sizeLine) (hu : ∀ b, b ∈ bs → A.units + 2 + (enc b).depth < cLine) (q : ∀ out, out.length = bs.length → PySem.W.EachIs R out (bs.mergeSort (PySem.W.dataLe false enc)) → Q (.ref (s.heap.objs.size + 1)) { s with heap := sortedAll s.heap us out.toArray }) :
    wpAny (model prog w) A (call (.builtin "sorted") [.ref a]) Q E s := by
  have hul : us.length ≤ sizeLine := by
    rw [e.length]
    exact hz
  refine Calls.call_function_entry kind_sorted plain_sorted
    entry_sorted (args_sorted1 _) ?_
  unfold Builtin.«sorted»
  refine wpAny_bind (m := checkCount "sorted" 1 1 _) (wpAny_pure ?_)
  refine wpAny_bind (gather_tup ht hul ?_)
  refine wpAny_bind (wpAny_newList ?_ hul)
  have hsz : ((s.heap.push (seqObj "list" #[] 0)).update s.heap.objs.size (Obj.mapSeq (· ++ us.toArray))).objs.size = s.heap.objs.size + 1 := by
    rw [Heap.size_update, size_push']
  have er2 : PySem.W.EachIs (fun v b => ∃ as, Reads (PySem.W.copyHeap s.heap us) v (enc b) as ∧ s.heap.objs.size + 1 ∉ as) us bs := er.mono fun v b ⟨as, r⟩ => by
    refine ⟨as, PyProof.Rows.Reads.keeps (fun _ _ h => PySem.W.copyHeap_old h) r, fun hm => ?_⟩
    obtain ⟨o, ho⟩ := PyProof.On.reads_mem_get r _ hm
    exact absurd (Nat.lt_of_succ_lt (Heap.lt_size ho)) (Nat.lt_irrefl _)
  show wpAny _ _ _ _ _ { s with heap := PySem.W.copyHeap s.heap us }
  rw [hsz]
  refine wpAny_bind (wpAny_holding (PySem.W.list_sort_data (s := { s with heap := PySem.W.copyHeap s.heap us }) (PySem.W.copyHeap_at s.heap us) e er2 al so hz (fun b hb => ?_) fun out h1 h2 => ?_))
  · have := hu b hb
    have e1 : A.in1.units = A.units + 1 := rfl
    rw [e1]
    exact this
  · exact wpAny_pure ⟨_, rfl, q out h1 h2⟩
end
def rSortTD (K : PySem.W.Frag) : List V → Hp → VK → Prop := fun vs H Q => ∃ (β : Type) (v : β → V) (d : β → PyData) (a : Addr) (bs : List β), vs = [.ref a] ∧ SqT K H a (bs.map v) ∧ (∀ b ∈ bs, Dp K H (v b) (d b) ∧ (d b).depth ≤ 50) ∧
  PySem.W.AllAlike (bs.map d) ∧ PySem.W.Sortable (bs.map d) ∧ ∀ p, H p = none → Q (.ref p) (upd H p (.lst ((bs.mergeSort (PySem.W.dataLe false d)).map v)))
/-- sorted(xs), xs a tuple of data -/
theorem cr_sortTD (K : PySem.W.Frag) {X : Cx} (hu : X.A.units + 64 < cLine) (hK : X.K = K := by rfl) : CallR X (.builtin "sorted") (rSortTD K) := by
  subst hK
  intro pins s σ H vs us Q I r h
  obtain ⟨β, v, d, a, bs, rfl, hs, hd, al, so, q⟩ := h
  obtain ⟨u, rfl, rfl⟩ := vals1 r
  obtain ⟨its, rv, ht, hz⟩ := I.tuple hs
  rw [List.length_map] at hz
  refine sorted_tup (enc := d) (R := fun (u : Value) (b : β) => RelV (v b) u) (show s.heap.IsTuple a its.toArray from ht) (each_vals rv) (each_reads I rv fun b hb => (hd b hb).1) al so hz (fun b hb => by have := (hd b hb).2; omega) fun out hlen he => ?_
  obtain ⟨ep, he'⟩ := PyProof.Rows.sortedAll_at s.heap its out.toArray
  have hlen2 : ((bs.mergeSort (PySem.W.dataLe false d)).map v).length ≤ sizeLine := by
    rw [List.length_map, List.length_mergeSort]
    exact hz
  exact ⟨.ref _, upd H (s.heap.objs.size + 1) (.lst ((bs.mergeSort (PySem.W.dataLe false d)).map v)), I.laid (t' := s.toks) (fun _ _ => PyProof.Rows.sortedAll_old) (Nat.le_succ _) ⟨hlen2, out, ep, vals_each he, by simpa using he'⟩, rfl, q _ (I.hok.fresh (Nat.le_succ _))⟩
def rSortLT (K : PySem.W.Frag) : List V → Hp → VK → Prop := fun vs H Q => rSortD K vs H Q ∨ rSortTD K vs H Q
/-- sorted(xs), xs a list or a tuple of data -/
theorem cr_sortLT (K : PySem.W.Frag) {X : Cx} (hu : X.A.units + 64 < cLine) (hK : X.K = K := by rfl) : CallR X (.builtin "sorted") (rSortLT K) := fun pins s σ H vs us Q I r h => h.elim (cr_sortD K hu hK pins s σ H vs us Q I r) (cr_sortTD K hu hK pins s σ H vs us Q I r)
/-! ### going through a list or a tuple -/
def iSeq (K : PySem.W.Frag) (tl : TE) : TI := fun σ H R => tl σ H fun x H1 => ∃ a, x = .ref a ∧ (((∃ xs, SqL K H1 a xs) ∧ R (Itl K a) H1) ∨ ((∃ xs, SqT K H1 a xs) ∧ R (Itt K a) H1))
theorem pi_seq {X : Cx} {tg l : Expr} {tl : TE} (K : PySem.W.Frag) (hl : PE X l tl) (hK : X.K = K := by rfl) : PI X tg l (iSeq K tl) := by
  subst hK
  refine ⟨fun pins s σ H R I h => ?_⟩
  have h1 := hl.run pins s σ H _ I h
  refine thn h1 fun v s1 ⟨x, H1, I1, r1, q1⟩ => ?_
  obtain ⟨a, rfl, ⟨hq, q⟩ | ⟨hq, q⟩⟩ := q1
  · obtain ⟨xs, hq⟩ := hq
    cases r1
    obtain ⟨its, rv, hp, hz⟩ := I1.list hq
    refine wpAny_pyIter_list hp.isList ?_
    have kk := I1.kept (h' := s1.heap.push { cls := .type "list_iterator", data := .fields #[.ref a, .int 0 0] }) (t' := s1.toks) fun b o e => Heap.get?_push_of_some _ e
    exact ⟨s1.heap.objs.size, [s1.heap.objs.size], _, _, H1, rfl, kk, turn_list a _, ⟨_, Heap.get?_push_size _ rfl, rfl, rfl⟩, fun b hb => by
      rw [show b = s1.heap.objs.size by simpa using hb]
      exact I1.fpOk (Nat.le_refl s1.heap.objs.size) (I1.hok.fresh (Nat.le_refl _)), q⟩
  · obtain ⟨xs, hq⟩ := hq
    cases r1
    obtain ⟨its, rv, hp, hz⟩ := I1.tuple hq
    refine wpAny_pyIter_tuple (show s1.heap.IsTuple a its.toArray from hp) ?_
    exact ⟨s1.heap.objs.size, [s1.heap.objs.size], _, _, H1, rfl, I1.kept (t' := s1.toks) (fun b o e => Heap.get?_push_of_some _ e), turn_tuple a _, ⟨_, Heap.get?_push_size _ rfl, rfl, rfl⟩, fun b hb => by
      rw [show b = s1.heap.objs.size by simpa using hb]
      exact I1.fpOk (Nat.le_refl s1.heap.objs.size) (I1.hok.fresh (Nat.le_refl _)), q⟩
/-- a list (true) or a tuple -/
def bo (b : Bool) (us : List V) : HO := match b with
  | true => .lst us
  | false => .tup us
def Sq2 (K : PySem.W.Frag) (H : Hp) (a : Addr) (xs : List V) (b : Bool) : Prop := match b with
  | true => SqL K H a xs
  | false => SqT K H a xs
theorem Sq2.of {K : PySem.W.Frag} {H : Hp} {a : Addr} {xs : List V} {b : Bool} (h : H a = some (bo b xs)) : Sq2 K H a xs b := by
  cases b with
  | true => exact SqL.of h
  | false => exact SqT.of h
theorem for_seq {K : PySem.W.Frag} {a : Addr} {xs : List V} {b : Bool} {g : TG} {tb : TS} {D : Ends} {σ : L2.St} {H : Hp} (e : Sq2 K H a xs b) (Pv : Nat → L2.St → Hp → Prop) (h0 : Pv 0 σ H) (hl : ∀ i σ H, i ≤ xs.length → Pv i σ H → Sq2 K H a xs b)
    (hs : ∀ i x σ H, xs[i]? = some x → Pv i σ H → g x σ H fun σ2 H2 => tb { D with nx := Pv (i + 1), ct := Pv (i + 1), bk := D.nx } σ2 H2) (hd : ∀ σ H, Pv xs.length σ H → D.nx σ H) :
    ((∃ xs, SqL K H a xs) ∧ ∃ W : Nat → Nat → L2.St → Hp → Prop, (∃ m, W 0 m σ H) ∧ ∀ i m σ H, W i m σ H →
      ((Itl K a).stop i H ∧ D.nx σ H) ∨ ((Itl K a).go i H ∧ ∃ N : L2.St → Hp → Prop, (∀ σ' H', N σ' H' → ∃ m', m' < m ∧ W (i + 1) m' σ' H') ∧ ∀ x H', (Itl K a).yld i H x H' → g x σ H' fun σ2 H2 => tb { D with nx := N, ct := N, bk := D.nx } σ2 H2)) ∨
    ((∃ xs, SqT K H a xs) ∧ ∃ W : Nat → Nat → L2.St → Hp → Prop, (∃ m, W 0 m σ H) ∧ ∀ i m σ H, W i m σ H →
      ((Itt K a).stop i H ∧ D.nx σ H) ∨ ((Itt K a).go i H ∧ ∃ N : L2.St → Hp → Prop, (∀ σ' H', N σ' H' → ∃ m', m' < m ∧ W (i + 1) m' σ' H') ∧ ∀ x H', (Itt K a).yld i H x H' → g x σ H' fun σ2 H2 => tb { D with nx := N, ct := N, bk := D.nx } σ2 H2)) := by
  cases b with
  | true => exact .inl ⟨⟨xs, e⟩, for_list Pv h0 hl hs hd⟩
  | false => exact .inr ⟨⟨xs, e⟩, for_tup Pv h0 hl hs hd⟩
theorem sort_lt {K : PySem.W.Frag} {β : Type} {v : β → V} {d : β → PyData} {a : Addr} {bs : List β} {b : Bool} {H : Hp} {Q : VK} (h : Sq2 K H a (bs.map v) b) (hd : ∀ y ∈ bs, Dp K H (v y) (d y) ∧ (d y).depth ≤ 50) (al : PySem.W.AllAlike (bs.map d)) (so : PySem.W.Sortable (bs.map d)) (q : ∀ p, H p = none → Q (.ref p) (upd H p (.lst ((bs.mergeSort (PySem.W.dataLe false d)).map v)))) : rSortLT K [.ref a] H Q := by
  cases b with
  | true => exact .inl ⟨β, v, d, a, bs, rfl, h, hd, al, so, q⟩
  | false => exact .inr ⟨β, v, d, a, bs, rfl, h, hd, al, so, q⟩
/-! ### set(xs), xs a tuple of tuples of ints -/
section
variable {P : Program} {w : World} {A : Around} {E : Value → Shared → Prop} {s : Shared}
abbrev newS (w : World) : Obj := { cls := .type "set", dict := none, data := .set #[] 0 (.fresh 0 0 (!w.params.followText "set-order")) }
theorem set_of_tup {a : Addr} {items : Array Value} (ks : List (Addr × List Int)) {Q : Value → Shared → Prop} (hh : A.handled = none) (ht : s.heap.IsTuple a items) (hit : items.toList = ks.map fun p => Value.ref p.1)
    (hk : ∀ p ∈ ks, IsT P w s.heap p.2 p.1) (hfew : ks.length < 64) (hu : A.units + 3 < cLine)
    (q : ∀ (h' : Heap) (tk : Nat) L es ep t, SetTR P w h' s.heap.objs.size L es ep t → Got ks ks.length L → (∀ b o, s.heap.get? b = some o → h'.get? b = some o) → Q (.ref s.heap.objs.size) { s with heap := h', toks := tk }) :
    wpAny (model P w) A (call (.type "set") [.ref a]) Q E s := by
  have hsz : items.size = ks.length := by
    have z := congrArg List.length hit
    rwa [Array.length_toList, List.length_map] at z
  obtain ⟨c, tl, hmro⟩ := F.called_set.mro
  have hmade := F.called_set.made
  have hsub := F.called_set.sub
  have h1 := F.called_set.notType
  have h2 := F.called_set.canCreate
  have hct := F.typeCall_set_1 (.ref a)
  refine wpAny_call (codeAny_of_tree ?_)
  show wpAny _ _ (callAny (.type "set") _) _ _ _
  refine wpAny_pure ⟨Code.quiet_builtin _ (by decide +kernel), ?_⟩
  refine codeAny_builtin F.entry_type_call ?_
  rw [Around.under_plain (weight_type_call_type "set" [.ref a] []) rfl]
  repeat (any_goals (first
    | assumption
    | wp_step))
  refine codeAny_mono (code_set_led1 (.ref a) (E := E) (Q₁ := fun obj s₁ => obj = .ref s.heap.objs.size ∧ s₁ = { s with heap := s.heap.push (newS w) }) ⟨rfl, rfl⟩) fun r s₁ hr => ?_
  cases r with
  | error e => exact hr
  | ok fl =>
    cases fl with
    | ret obj =>
      obtain ⟨rfl, rfl⟩ := hr
      have hS : (s.heap.push (newS w)).get? s.heap.objs.size = some (newS w) := Heap.get?_push_size _ rfl
      have hT : Shared.TypeIs { s with heap := s.heap.push (newS w) } (.ref s.heap.objs.size) "set" := ⟨_, hS, rfl⟩
      have hli := F.called_set.init.lookup
      have hbi := F.called_set.init.bind (.ref s.heap.objs.size)
      repeat (any_goals (first
        | assumption
        | wp_step))
      refine codeAny_mono (codeAny_call_builtin (R := wants (fun r s₂ => r = .none ∧ ∃ h' tk L es ep t, s₂ = { s with heap := h', toks := tk } ∧ SetTR P w h' s.heap.objs.size L es ep t ∧ Got ks ks.length L ∧ (∀ b o, s.heap.get? b = some o → h'.get? b = some o)) E)
        F.called_set.init.plain F.entry_set_init (check_set_init_1 hT ?_)) fun r₂ s₂ hr₂ => ?_
      · have ht1 : (s.heap.push (newS w)).IsTuple a items := ht.push _
        obtain ⟨ob, hob, hcl, nl, hda⟩ := id ht1
        obtain ⟨ocls, odict, odata, oslots⟩ := ob
        simp only at hcl hda
        subst hcl; subst hda
        have hsls := PySem.F.sub_tuple_set
        have hslf := PySem.F.sub_tuple_frozenset
        have hne : (Value.type "tuple" == Value.type "dict") = false := by decide
        unfold Builtin.«set.__init__» noKeywords Builtin.Frozenset.updateFrom
        generalize hPI : pyIter = PI
        wp_walk
        subst hPI
        refine wpAny_pyIter_tuple ht1 ?_
        refine wpAny_bind (wpAny_runValue ?_)
        obtain ⟨ob0, hob0, _⟩ := ht
        have hlt : a < s.heap.objs.size := Heap.lt_size hob0
        have hin : A.in1.in1.in1.handled = none := by simp [hh]
        have hz1 : (s.heap.push (newS w)).objs.size = s.heap.objs.size + 1 := Heap.size_push ..
        have hneI : a ≠ (s.heap.push (newS w)).objs.size := by
          rw [hz1]
          exact Nat.ne_of_lt (Nat.lt_succ_of_lt hlt)
        have hSf : s.heap.objs.size ∉ [(s.heap.push (newS w)).objs.size, a] := fun hm => by
          rw [hz1] at hm
          rcases List.mem_cons.mp hm with e | hm
          · exact absurd e (Nat.ne_of_lt (Nat.lt_succ_self _))
          · exact absurd (List.mem_singleton.mp hm) (Nat.ne_of_gt hlt)
        have hval : ∀ (i : Nat) (v : Value), items[i]? = some v → ∃ p, ks[i]? = some p ∧ v = .ref p.1 := fun i v hv => by
          rw [← Array.getElem?_toList, hit, List.getElem?_map] at hv
          obtain ⟨p, hp, e⟩ := Option.map_eq_some_iff.mp hv
          exact ⟨p, hp, e.symm⟩
        have gone : ∀ b, s.heap.objs.size ≤ b → s.heap.get? b = none := fun b hb => by
          cases z : s.heap.get? b with
          | none => rfl
          | some o => exact absurd (Nat.lt_of_lt_of_le (Heap.lt_size z) hb) (Nat.lt_irrefl _)
        have hgone : ∀ b ∈ [(s.heap.push (newS w)).objs.size], s.heap.get? b = none := fun b hb => gone b (by
          rw [List.mem_singleton.mp hb, hz1]
          exact Nat.le_succ _)
        refine set_update_tups ((Walks.tuple hin _ a hneI items).toS) s.heap.objs.size hSf ks hsz hfew hval s.heap hk (gone _ (Nat.le_refl _)) hgone hu (items.size - 0) 0 _ (by omega) (Nat.zero_le _)
          ⟨⟨_, Heap.get?_push_size _ rfl, rfl, rfl⟩, ht1.push _⟩ (fun b o e => Heap.get?_push_of_some _ (Heap.get?_push_of_some _ e)) ⟨[], #[], 0, _, setTR_fresh (Heap.get?_push_of_some _ hS), Got.zero ks⟩ fun s' L es ep t hm hS' g' hkp => ?_
        obtain ⟨h', g2, d', tk', os'⟩ := s'
        have eg : g2 = s.gens := hm.gens
        have ed : d' = s.drawn := hm.drawn
        have eo : os' = s.os := hm.os
        subst eg ed eo
        rw [hsz] at g'
        show wpAny _ _ _ _ _ _
        refine wpAny_pure ?_
        show wpAny _ _ (ret Value.none) _ _ _
        exact wpAny_pure ⟨rfl, h', tk', L, es, ep, t, rfl, hS', g', hkp⟩
      · cases r₂ with
        | error e => exact hr₂
        | ok fl₂ =>
          cases fl₂ with
          | ret r =>
            obtain ⟨rfl, h', tk, L, es, ep, t, rfl, hS', g', hk'⟩ := hr₂
            repeat (any_goals (first
              | assumption
              | wp_step))
            exact q _ _ _ _ _ _ hS' g' hk'
          | _ => exact hr₂.elim
    | _ => exact hr.elim
end
def rSetT (K : PySem.W.Frag) (P : Program) (w : World) : List V → Hp → VK → Prop := fun xs H Q => ∃ (l : Addr) (ks : List (Addr × List Int)), xs = [V.ref l] ∧ SqT K H l (ks.map fun p => V.ref p.1) ∧ (∀ p ∈ ks, SqT K H p.1 (p.2.map V.int)) ∧ ks.length < 64 ∧
  ∀ a L, H a = none → (∀ p ∈ L, p ∈ ks) → (∀ p ∈ ks, p.2 ∈ L.map (·.2)) → Q (.ref a) (upd H a (SetTO P w a L))
/-- set(xs), xs a tuple of fewer than 64 tuples of ints -/
theorem cr_setT {X : Cx} (hc : X.calm = true) (hu : X.A.units + 64 < cLine) : CallR X (.type "set") (rSetT X.K X.prog X.w) := by
  intro pins s σ H xs us Q I r h
  obtain ⟨l, ks, rfl, hl, hk, hf, q⟩ := h
  rw [Vals.ref1 r]
  obtain ⟨its, rv, ht, hz⟩ := I.tuple hl
  refine set_of_tup (P := X.prog) (w := X.w) ks (I.ok.hd hc) (show s.heap.IsTuple l its.toArray from ht) (by simpa using refs_of_vals rv) (fun p hp => I.isT (hk p hp)) hf (by omega) fun h' tk L es ep t R g k => ?_
  have hn : H s.heap.objs.size = none := I.hok.fresh (Nat.le_refl _)
  exact ⟨.ref s.heap.objs.size, upd H s.heap.objs.size (SetTO X.prog X.w s.heap.objs.size L), I.laid (t' := tk) k (Nat.le_refl _) (setTO_new R.t0), rfl, q _ L hn (fun p hp => List.mem_of_mem_take (g.sub p hp)) fun p hp => g.all p (by rw [List.take_length]; exact hp)⟩
theorem setT {X : Cx} {P : Program} {w : World} (K : PySem.W.Frag) (hc : X.calm = true) (hu : X.A.units + 64 < cLine) (h1 : X.K = K := by rfl) (h2 : X.prog = P := by rfl) (h3 : X.w = w := by rfl) : CallR X (.type "set") (rSetT K P w) := by
  subst h1 h2 h3
  exact cr_setT hc hu
theorem sortedT {X : Cx} {P : Program} {w : World} (K : PySem.W.Frag) (hc : X.calm = true) (h1 : X.K = K := by rfl) (h2 : X.prog = P := by rfl) (h3 : X.w = w := by rfl) : CallR X (.builtin "sorted") (rSortedT K P w) := by
  subst h1 h2 h3
  exact cr_sortedT hc
end Pf


namespace Pf
open PySem PySem.Spec PyProof.Rows L2
/-! ### things of any kind -/
inductive Dq (K : PySem.W.Frag) (H : Hp) : V → PyData → Prop
  | dp {v : V} {d : PyData} : Dp K H v d → Dq K H v d
  | emp {a : Addr} : H a = some (.dK []) → Dq K H (.ref a) (.dict [])
def tyD : PyData → String
  | .none => "NoneType"
  | .bool _ => "bool"
  | .int _ => "int"
  | .str _ => "str"
  | .list _ => "list"
  | .tuple _ => "tuple"
  | .dict _ => "dict"
theorem sqT_ty {K : PySem.W.Frag} {H : Hp} {a : Addr} {xs : List V} (h : SqT K H a xs) : TyX K H (.ref a) (.type "tuple") := by
  rcases h with (h | ⟨o, h⟩) | ⟨o, _, _, h, c, _⟩
  · exact .base (.tup h)
  · exact .fTuple h
  · exact .kTuple h c
theorem sqL_ty {K : PySem.W.Frag} {H : Hp} {a : Addr} {xs : List V} (h : SqL K H a xs) : TyX K H (.ref a) (.type "list") := by
  rcases h with (h | ⟨o, h⟩) | ⟨o, _, _, h, c, _⟩
  · exact .base (.lst h)
  · exact .base (.frz h)
  · exact .kList h c
theorem Dq.ty {K : PySem.W.Frag} {H : Hp} {v : V} {d : PyData} (h : Dq K H v d) : TyX K H v (.type (tyD d)) := by
  cases h with
  | emp h => exact .base (.dK h)
  | dp h =>
    cases h with
    | non => exact .base .non
    | bl b => exact .base (.bl b)
    | int i => exact .base (.int i)
    | str x => exact .base (.str x)
    | lst h _ => exact sqL_ty h
    | tup h _ => exact sqT_ty h
def isTup : PyData → Bool
  | .tuple _ => true
  | _ => false
def isIntB : PyData → Bool
  | .int _ => true
  | .bool _ => true
  | _ => false
def isBl : PyData → Bool
  | .bool _ => true
  | _ => false
def isLst : PyData → Bool
  | .list _ => true
  | _ => false
def isStr : PyData → Bool
  | .str _ => true
  | _ => false
theorem kit_tup {K : PySem.W.Frag} (d : PyData) : PySem.W.kitOne K (.type (tyD d)) (.type "tuple") = some (isTup d) := by
  cases d <;> (simp only [tyD, isTup]; exact kit_ty (by decide +kernel))
theorem kit_lst {K : PySem.W.Frag} (d : PyData) : PySem.W.kitOne K (.type (tyD d)) (.type "list") = some (isLst d) := by
  cases d <;> (simp only [tyD, isLst]; exact kit_ty (by decide +kernel))
theorem kit_int {K : PySem.W.Frag} (d : PyData) : PySem.W.kitOne K (.type (tyD d)) (.type "int") = some (isIntB d) := by
  cases d <;> (simp only [tyD, isIntB]; exact kit_ty (by decide +kernel))
theorem kit_bool {K : PySem.W.Frag} (d : PyData) : PySem.W.kitOne K (.type (tyD d)) (.type "bool") = some (isBl d) := by
  cases d <;> (simp only [tyD, isBl]; exact kit_ty (by decide +kernel))
theorem kit_str {K : PySem.W.Frag} (d : PyData) : PySem.W.kitOne K (.type (tyD d)) (.type "str") = some (isStr d) := by
  cases d <;> (simp only [tyD, isStr]; exact kit_ty (by decide +kernel))
theorem dpAll_len {K : PySem.W.Frag} {H : Hp} : ∀ {vs : List V} {ds : List PyData}, DpAll K H vs ds → vs.length = ds.length
  | _, _, .nil => rfl
  | _, _, .cons _ t => by rw [List.length_cons, List.length_cons, dpAll_len t]
theorem dpAll_get {K : PySem.W.Frag} {H : Hp} : ∀ {vs : List V} {ds : List PyData} {i : Nat} {v : V}, DpAll K H vs ds → vs[i]? = some v → ∃ d, ds[i]? = some d ∧ Dp K H v d
  | _, _, _, _, .nil, e => by simp at e
  | _, _, 0, _, .cons r _, e => by
    simp at e
    subst e
    exact ⟨_, rfl, r⟩
  | _, _, i + 1, v, .cons _ t, e => by
    obtain ⟨d, h1, h2⟩ := dpAll_get (i := i) (v := v) t (by simpa using e)
    exact ⟨d, by simpa using h1, h2⟩
theorem sqT_ext {K : PySem.W.Frag} {H H' : Hp} {a : Addr} {xs : List V} (k : Ext H H') (h : SqT K H a xs) : SqT K H' a xs := by
  rcases h with (h | ⟨o, h⟩) | h
  · exact .inl (.inl (k _ _ h))
  · exact .inl (.inr ⟨o, k _ _ h⟩)
  · exact .inr h
theorem sqL_ext {K : PySem.W.Frag} {H H' : Hp} {a : Addr} {xs : List V} (k : Ext H H') (h : SqL K H a xs) : SqL K H' a xs := by
  rcases h with (h | ⟨o, h⟩) | h
  · exact .inl (.inl (k _ _ h))
  · exact .inl (.inr ⟨o, k _ _ h⟩)
  · exact .inr h
mutual
theorem dp_ext {K : PySem.W.Frag} {H H' : Hp} (k : Ext H H') : ∀ {v : V} {d : PyData}, Dp K H v d → Dp K H' v d
  | _, _, .non => .non
  | _, _, .bl b => .bl b
  | _, _, .int i => .int i
  | _, _, .str x => .str x
  | _, _, .lst h r => .lst (sqL_ext k h) (dpAll_ext k r)
  | _, _, .tup h r => .tup (sqT_ext k h) (dpAll_ext k r)
theorem dpAll_ext {K : PySem.W.Frag} {H H' : Hp} (k : Ext H H') : ∀ {vs : List V} {ds : List PyData}, DpAll K H vs ds → DpAll K H' vs ds
  | _, _, .nil => .nil
  | _, _, .cons r t => .cons (dp_ext k r) (dpAll_ext k t)
end
theorem Dq.ext {K : PySem.W.Frag} {H H' : Hp} {v : V} {d : PyData} (h : Dq K H v d) (k : Ext H H') : Dq K H' v d := by
  cases h with
  | dp h => exact .dp (dp_ext k h)
  | emp h => exact .emp (k _ _ h)
/-! ### two numbers in a tuple of any make -/
def TwoS (K : PySem.W.Frag) (H : Hp) (v : V) (y : Int × Int) : Prop := ∃ a, v = .ref a ∧ SqT K H a [.int y.1, .int y.2]
theorem TwoS.ext {K : PySem.W.Frag} {H H' : Hp} (k : Ext H H') {v : V} {y : Int × Int} (h : TwoS K H v y) : TwoS K H' v y := by
  obtain ⟨a, e, h⟩ := h
  exact ⟨a, e, sqT_ext k h⟩
theorem TwoS.of {K : PySem.W.Frag} {H : Hp} {v : V} {y : Int × Int} (h : TwoAt H v y) : TwoS K H v y := by
  obtain ⟨a, e, h⟩ := h
  exact ⟨a, e, SqT.of h⟩
/-- the two numbers of a thing, if it is such a tuple -/
def twoD : PyData → Option (Int × Int)
  | .tuple [.int i, .int j] => some (i, j)
  | _ => none
theorem twoD_some {d : PyData} {y : Int × Int} (h : twoD d = some y) : d = .tuple [.int y.1, .int y.2] := by
  unfold twoD at h
  split at h
  · cases h
    rfl
  · cases h
theorem two_dp {K : PySem.W.Frag} {H : Hp} {v : V} {d : PyData} {y : Int × Int} (h : Dp K H v d) (e : twoD d = some y) : TwoS K H v y := by
  have e := twoD_some e
  subst e
  cases h with
  | tup h r =>
    cases r with
    | cons r1 r =>
      cases r with
      | cons r2 r =>
        cases r
        cases r1
        cases r2
        exact ⟨_, rfl, h⟩
theorem paired_two {K : PySem.W.Frag} {H : Hp} : ∀ {vs : List V} {ds : List PyData} {qs : List (Int × Int)}, DpAll K H vs ds → ds.mapM twoD = some qs → Paired (TwoS K H) vs qs
  | _, [], qs, .nil, e => by
    rw [List.mapM_nil] at e
    cases e
    exact .nil
  | _, d :: ds, qs, .cons h t, e => by
    rw [List.mapM_cons] at e
    cases h1 : twoD d with
    | none =>
      rw [h1] at e
      cases e
    | some y =>
      rw [h1] at e
      cases h2 : ds.mapM twoD with
      | none =>
        rw [h2] at e
        cases e
      | some ys =>
        rw [h2] at e
        cases e
        exact .cons (two_dp h h1) (paired_two t h2)
def dTw (y : Int × Int) : PyData := .tuple [.int y.1, .int y.2]
theorem dp_twos {K : PySem.W.Frag} {H : Hp} : ∀ {vs : List V} {qs : List (Int × Int)}, Paired (TwoS K H) vs qs → DpAll K H vs (qs.map dTw)
  | _, _, .nil => .nil
  | _, _, .cons ⟨_, e, h⟩ t => .cons (e ▸ .tup h (.cons (.int _) (.cons (.int _) .nil))) (dp_twos t)
theorem mapM_len {α β : Type} {f : α → Option β} : ∀ {xs : List α} {ys : List β}, xs.mapM f = some ys → ys.length = xs.length
  | [], ys, e => by
    rw [List.mapM_nil] at e
    cases e
    rfl
  | x :: xs, ys, e => by
    rw [List.mapM_cons] at e
    cases h1 : f x with
    | none =>
      rw [h1] at e
      cases e
    | some y =>
      rw [h1] at e
      cases h2 : xs.mapM f with
      | none =>
        rw [h2] at e
        cases e
      | some zs =>
        rw [h2] at e
        cases e
        rw [List.length_cons, List.length_cons, mapM_len h2]
theorem mapM_snoc {α β : Type} {f : α → Option β} : ∀ {xs : List α} {ys : List β} {x : α} {y : β}, xs.mapM f = some ys → f x = some y → (xs ++ [x]).mapM f = some (ys ++ [y])
  | xs, ys, x, y, e, e2 => by
    rw [List.mapM_append, e]
    show (do let z ← [x].mapM f; pure (ys ++ z)) = _
    rw [List.mapM_cons, e2, List.mapM_nil]
    rfl
theorem mapM_get {α β : Type} {f : α → Option β} : ∀ {xs : List α} {ys : List β} {i : Nat} {x : α}, xs.mapM f = some ys → xs[i]? = some x → ∃ y, f x = some y ∧ ys[i]? = some y
  | [], _, _, _, _, e2 => by simp at e2
  | x :: xs, ys, i, z, e, e2 => by
    rw [List.mapM_cons] at e
    cases h1 : f x with
    | none =>
      rw [h1] at e
      cases e
    | some y =>
      rw [h1] at e
      cases h2 : xs.mapM f with
      | none =>
        rw [h2] at e
        cases e
      | some zs =>
        rw [h2] at e
        cases e
        cases i with
        | zero =>
          simp at e2
          subst e2
          exact ⟨y, h1, rfl⟩
        | succ i =>
          obtain ⟨y2, q1, q2⟩ := mapM_get (i := i) h2 (by simpa using e2)
          exact ⟨y2, q1, by simpa using q2⟩
theorem mapM_none {α β : Type} {f : α → Option β} : ∀ {xs : List α} {x : α}, x ∈ xs → f x = none → xs.mapM f = none
  | y :: xs, x, h, e => by
    rw [List.mapM_cons]
    rcases List.mem_cons.mp h with rfl | h
    · rw [e]
      rfl
    · cases h1 : f y with
      | none => rfl
      | some z =>
        show (do let zs ← xs.mapM f; pure (z :: zs)) = none
        rw [mapM_none h e]
        rfl
/-! ### repr of a tuple of two, the second anything -/
mutual
def plainD : PyData → Bool
  | .none => true
  | .bool _ => true
  | .int _ => true
  | .str _ => true
  | .list _ => false
  | .tuple ds => plainDs ds
  | .dict _ => false
def plainDs : List PyData → Bool
  | [] => true
  | d :: r => plainD d && plainDs r
end
theorem plainDs_all {ds : List PyData} (h : ∀ d ∈ ds, plainD d = true) : plainDs ds = true := by
  induction ds with
  | nil => rfl
  | cons d r ih =>
    rw [plainDs, h d (List.mem_cons_self ..), ih fun x hx => h x (List.mem_cons_of_mem _ hx)]
    rfl
mutual
theorem reads_plain {h : Heap} : ∀ (d : PyData) (u : Value) (as : List Addr), plainD d = true → Reads h u d as → as = []
  | .none, _, _, _, r => by cases r; rfl
  | .bool _, _, _, _, r => by cases r; rfl
  | .int _, _, _, _, r => by cases r; rfl
  | .str _, _, _, _, r => by cases r; rfl
  | .list _, _, _, e, _ => by simp [plainD] at e
  | .tuple ds, _, _, e, r => by
    cases r with
    | tuple _ _ _ r => exact reads_plains ds _ _ (by simpa [plainD] using e) r
  | .dict _, _, _, e, _ => by simp [plainD] at e
theorem reads_plains {h : Heap} : ∀ (ds : List PyData) (us : List Value) (as : List Addr), plainDs ds = true → ReadsAll h us ds as → as = []
  | [], _, _, _, r => by cases r; rfl
  | d :: ds, _, _, e, r => by
    rw [plainDs, Bool.and_eq_true] at e
    cases r with
    | cons r1 r2 => rw [reads_plain d _ _ e.1 r1, reads_plains ds _ _ e.2 r2]; rfl
end
end Pf


namespace Pf
open PySem PySem.Spec PyProof.Rows L2
theorem tt_len (r x : Str) : (tupleText [r, x]).length = r.length + x.length + 4 := by
  have e1 : ("(" : Str).length = 1 := by decide +kernel
  have e2 : (", " : Str).length = 2 := by decide +kernel
  have e3 : ((")" : String) : Str).length = 1 := by decide +kernel
  show (("(" : Str) ++ (r ++ ", " ++ x) ++ ((")" : String) : Str)).length = _
  rw [Str.length_append, Str.length_append, Str.length_append, Str.length_append, e1, e2, e3]
  omega
theorem len_emp (d : PyData) : (PyData.tuple [d, .dict []]).shown.length = (PyData.tuple [d, .tuple []]).shown.length := by
  have e1 : (dictText []).length = 2 := by decide +kernel
  have e2 : (tupleText []).length = 2 := by decide +kernel
  simp only [PyData.shown, PyData.shownAll, PyData.shownKv]
  rw [tt_len, tt_len, e1, e2]
def rShow2 (K : PySem.W.Frag) : List V → Hp → VK → Prop := fun xs H Q => ∃ (t : Addr) (x y : V) (dx dy : PyData) (m k : Nat), xs = [.ref t] ∧ SqT K H t [x, y] ∧ Dp K H x dx ∧ plainD dx = true ∧ Dq K H y dy ∧ Sm m k dx ∧ (Sm m k dy ∨ dy = .dict []) ∧ m ≤ 200000 ∧ k ≤ 40 ∧ Q (.str (PyData.tuple [dx, dy]).shown) H
theorem sm_two' {m k : Nat} {a b : PyData} (ha : Sm m k a) (hb : Sm m k b) (hm : m ≤ 200000) : Sm 1000000 (k + 1) (.tuple [a, b]) :=
  Sm.tup (n := 2) (m := m) (k := k) (Nat.le_refl _) (fun d hd => by
    simp only [List.mem_cons, List.not_mem_nil, or_false] at hd
    rcases hd with rfl | rfl
    · exact ha
    · exact hb) (by omega)
theorem call_show2 (K : PySem.W.Frag) {X : Cx} (hg : X.A.guards = some []) (hu : X.A.units + 64 < cLine) (hK : X.K = K := by rfl) : CallR X (.builtin "repr") (rShow2 K) := by
  subst hK
  intro pins s σ H xs us Q I r h
  obtain ⟨t, x, y, dx, dy, m, k, rfl, hT, hx, px, hy, sx, sy, hm, hk, q⟩ := h
  cases hy with
  | dp hy =>
    have sy : Sm m k dy := sy.elim id fun e => by
      subst e
      cases hy
    exact call_show X.K hg hu rfl pins s σ H _ us Q I r ⟨.ref t, _, _, _, rfl, .tup hT (.cons hx (.cons hy .nil)), sm_two' sx sy hm, Nat.le_refl _, by omega, q⟩
  | @emp a hA =>
    obtain ⟨u, rfl, rfl⟩ := vals1 r
    obtain ⟨its, rv, ⟨o, ho, hc, n, hd⟩, hz⟩ := I.tuple hT
    obtain ⟨_, hsys, vs, rel, od, es, ep, h1, h2, h3, _, h5, _⟩ := dk_of I.hok hA
    cases rel
    have hes : es.toList = [] := List.length_eq_zero_iff.mp h5.length
    cases rv with
    | cons r1 r2 =>
      cases r2 with
      | cons r3 r4 =>
        cases r4
        cases r3
        obtain ⟨as, ra⟩ := Dp.reads I _ _ _ hx r1
        have ea := reads_plain _ _ _ px ra
        subst ea
        have rb : Reads s.heap (.ref a) (.dict []) (a :: [] ++ []) := Reads.dict h1 h2.1 h3 (by rw [hes]; exact .nil) (by rw [hes]; exact .nil)
        have rt : Reads s.heap (.ref t) (.tuple [dx, .dict []]) ([] ++ ((a :: [] ++ []) ++ [])) := Reads.tuple ho hc hd (.cons ra (.cons rb .nil))
        have s0 : Sm m (k + 1) (.tuple []) := (Sm.tup (n := 0) (m := 0) (k := k) (M := 0) (ds := []) (Nat.le_refl _) (fun d hd => by cases hd) (Nat.le_refl _)).le (Nat.zero_le _) (Nat.le_refl _)
        have s2 := sm_two' (sx.le (Nat.le_refl _) (Nat.le_succ k)) s0 hm
        refine PySem.repr_of_reads' rt ?_ (fun _ z => ?_) hg ?_ (fun _ _ e => e) (fun h' u tk keep => ⟨.str _, H, I.kept keep, ⟨_, rfl⟩, q⟩) ?_
        · have := sx.sho
          simp [PyData.showable, PyData.showableAll, PyData.showableKv, this]
        · have e : sysModules = a := by simpa using z
          rw [← e] at hsys
          cases hsys
        · have := sx.dep
          simp only [PyData.depth, PyData.depthAll, PyData.depthKv]
          omega
        · rw [len_emp]
          exact s2.short (Nat.le_refl _) (by omega)
/-! ### how many unlike ones -/
theorem dd_len : ∀ (ns acc : List Int), acc.Nodup → ((ns.foldl step_dedup acc).length = acc.length + ns.length ↔ (acc ++ ns).Nodup)
  | [], acc, h => by simp [h]
  | x :: r, acc, h => by
    rw [List.foldl_cons]
    unfold step_dedup
    by_cases c : acc.any (· == x) = true
    · rw [if_pos c]
      have hx : x ∈ acc := by
        obtain ⟨y, hy, e⟩ := List.any_eq_true.mp c
        rw [← eq_of_beq e]
        exact hy
      have hle := foldl_step_dedup_length_le acc r
      constructor
      · intro e
        rw [List.length_cons] at e
        unfold step_dedup at hle
        omega
      · intro e
        have := (List.nodup_append.mp e).2.2 x hx x (List.mem_cons_self ..)
        exact absurd rfl this
    · rw [if_neg c]
      have hx : x ∉ acc := fun z => c (List.any_eq_true.mpr ⟨x, z, beq_self_eq_true x⟩)
      have hn : (acc ++ [x]).Nodup := List.nodup_append.mpr ⟨h, by simp, fun a ha b hb e => by
        rw [List.mem_singleton] at hb
        subst hb
        subst e
        exact hx ha⟩
      have ih := dd_len r (acc ++ [x]) hn
      rw [List.length_append, List.length_singleton, List.append_assoc, List.singleton_append] at ih
      rw [List.length_cons]
      unfold step_dedup at ih
      constructor
      · intro e
        exact ih.mp (by omega)
      · intro e
        have := ih.mpr e
        omega
theorem range_getD (ns : List Int) : (List.range ns.length).map (fun i => ns.getD i 0) = ns := by
  refine List.ext_getElem? fun i => ?_
  rw [List.getElem?_map]
  by_cases h : i < ns.length
  · rw [List.getElem?_range h, List.getElem?_eq_getElem h]
    simp [h]
  · rw [List.getElem?_eq_none (by rw [List.length_range]; omega), List.getElem?_eq_none (by omega)]
    rfl
theorem met_lt (ns : List Int) : (firstMet (fun i => ns.getD i 0) ns.length).length < ns.length ↔ ¬ ns.Nodup := by
  unfold firstMet
  rw [range_getD]
  have h1 := dd_len ns [] List.nodup_nil
  have h2 := foldl_step_dedup_nil_length_le ns
  rw [List.nil_append, List.length_nil, Nat.zero_add] at h1
  constructor
  · intro e h
    have := h1.mpr h
    omega
  · intro e
    by_cases c : (ns.foldl step_dedup []).length = ns.length
    · exact absurd (h1.mp c) e
    · omega
section
variable {X : Cx}
def tLenSetM (K : PySem.W.Frag) (ta : TE) : TE := fun σ H Q => ta σ H fun x H1 => ∃ (l : Addr) (ns : List Int), x = V.ref l ∧ SqL K H1 l (ns.map V.int) ∧ ns.length < 1000 ∧ ∀ n : Nat, (n < ns.length ↔ ¬ ns.Nodup) → n ≤ ns.length → Q (.int n) H1
theorem pe_lenSetM {a : Expr} {ta : TE} {p p2 q pos : Pos} (hc : X.calm = true) (hg : Gl X "len") (hm : X.mg "len" = none) (hg2 : Gl X "set") (hm2 : X.mg "set" = none) (ha : PE X a ta)
    (na : starEach [a] X.env = (false, eval a X.env) :: starEach [] X.env := by rfl) : PE X (.Call (.Name "len" p) [.Call (.Name "set" p2) [a] [] q] [] pos) (tLenSetM X.K ta) := by
  refine ⟨fun pins s σ H Q I h => ?_⟩
  refine Call_ (ld_blt I hg hm PySem.boot_len (PyProof.Rows.callWith_builtin1 (PyProof.Rows.args_cons ?_ rfl) rfl rfl))
  refine Call_ (ld_blt I hg2 hm2 PyProof.Rows.boot_set ?_)
  refine PyProof.Rows.callWith_type1 (PyProof.Rows.args_cons (thn (ha.run pins s σ H _ I h) fun v s1 ⟨x, H1, I1, r1, q1⟩ => PyProof.Rows.args_nil ?_) na) na rfl
  obtain ⟨l, ns, ex, hL, hn, q2⟩ := q1
  subst ex
  cases r1
  obtain ⟨its, r, pl, hz⟩ := I1.list hL
  have el : its.length = ns.length := by
    have := r.length
    rw [List.length_map] at this
    exact this.symm
  have hmet : (firstMet (fun i => ns.getD i 0) ns.length).length ≤ ns.length := firstMet_length_le _ _
  refine call_set_list (I1.ok.hd hc) pl.isList (ns := ns) (intsAre_of r) (by rw [List.size_toArray, el]; unfold scanBound; omega) fun h' tk hS hk => ?_
  have el2 : its.toArray.size = ns.length := by rw [List.size_toArray, el]
  rw [el2] at hS
  obtain ⟨o, es, ep, t, ho, hex, hd, _, _, _, hf, hsz⟩ := hS
  have I2 : Inv X pins σ H1 { s1 with heap := h', toks := tk } := I1.kept fun b u e => hk b u (Heap.lt_size e) e
  refine PyProof.Rows.args_nil ?_
  exact call_len_set ho hex hd hf (by omega) ⟨.int (firstMet (fun i => ns.getD i 0) ns.length).length, H1, I2.tok _, ⟨_, by rw [hsz]⟩, q2 _ (met_lt ns) hmet⟩
end
/-! ### a tuple backwards -/
theorem sl_back {pg : Program} {ww : World} {AA : Around} {EE : Value → Shared → Prop} {st : Shared} {sa : Addr} {vl vu vs : Value} {n : Nat} {Q : Int × Int × Nat → Shared → Prop} (hS : st.heap.IsSliceOf sa vl vu vs) (pl : IsPart vl none) (pu : IsPart vu none) (ps : IsPart vs (some (-1)))
    (q : Q ((n : Int) - 1, -1, n) st) : wpAny (model pg ww) AA (Builtin.Slice.sliceApplied (.ref sa) (pure (n : Int))) Q EE st := by
  obtain ⟨o1, ho1, _, hd1⟩ := id hS
  unfold Builtin.Slice.sliceApplied Builtin.Slice.sliceFields
  refine wpAny_bind (wpAny_bind (wpAny_field ho1 hd1 (x := vl) rfl (wpAny_bind (wpAny_field ho1 hd1 (x := vu) rfl (wpAny_bind (wpAny_field ho1 hd1 (x := vs) rfl (wpAny_pure (wpAny_bind (HT.slicePart_ ps ?_)))))))))
  show wpAny _ _ (if ((-1 : Int) == 0) = true then _ else _) _ _ st
  rw [if_neg (by decide)]
  refine wpAny_bind (HT.slicePart_ pl (wpAny_bind (HT.slicePart_ pu (wpAny_bind (wpAny_pure ?_)))))
  have e1 : Builtin.Slice.sliceAdjust none none (-1) (n : Int) = ((n : Int) - 1, -1) := rfl
  have e2 : Builtin.Slice.slicePlaces ((n : Int) - 1) (-1) (-1) = n := by
    unfold Builtin.Slice.slicePlaces
    rw [if_neg (by decide)]
    simp only [Int.reduceNeg, Int.neg_neg, Int.ediv_one]
    split <;> omega
  show wpAny _ _ (match Builtin.Slice.sliceAdjust none none (-1) (n : Int) with | (a, b) => pure (a, (-1 : Int), Builtin.Slice.slicePlaces a b (-1))) _ _ st
  rw [e1]
  show wpAny _ _ (pure ((n : Int) - 1, (-1 : Int), Builtin.Slice.slicePlaces ((n : Int) - 1) (-1) (-1))) _ _ st
  rw [e2]
  exact wpAny_pure q
theorem pick_back (xs : Array Value) : ((List.range xs.size).filterMap fun (m : Nat) => xs[(((xs.size : Int) - 1) + (m : Int) * -1).toNat]?).toArray = xs.toList.reverse.toArray := by
  congr 1
  have e : ∀ m ∈ List.range xs.size, xs[(((xs.size : Int) - 1) + (m : Int) * -1).toNat]? = some (xs.toList.reverse.getD m .none) := fun m hm => by
    have hm := List.mem_range.mp hm
    rw [show (((xs.size : Int) - 1) + (m : Int) * -1).toNat = xs.size - 1 - m by omega, List.getD_eq_getElem?_getD, List.getElem?_reverse (by rw [Array.length_toList]; exact hm), Array.length_toList, Array.getElem?_toList, Array.getElem?_eq_getElem (by omega)]
    rfl
  have e2 : ∀ l : List Nat, (∀ m ∈ l, xs[(((xs.size : Int) - 1) + (m : Int) * -1).toNat]? = some (xs.toList.reverse.getD m .none)) → (l.filterMap fun (m : Nat) => xs[(((xs.size : Int) - 1) + (m : Int) * -1).toNat]?) = l.map fun m => xs.toList.reverse.getD m .none := by
    intro l
    induction l with
    | nil => intro _; rfl
    | cons m r ih =>
      intro h
      rw [List.filterMap_cons, h m (List.mem_cons_self ..), List.map_cons, ih fun z hz => h z (List.mem_cons_of_mem _ hz)]
  rw [e2 _ e]
  refine List.ext_getElem? fun i => ?_
  rw [List.getElem?_map]
  by_cases h : i < xs.size
  · rw [List.getElem?_range h]
    show some (xs.toList.reverse.getD i .none) = _
    rw [List.getD_eq_getElem?_getD, List.getElem?_eq_getElem (by rw [List.length_reverse, Array.length_toList]; exact h)]
    rfl
  · rw [List.getElem?_eq_none (by rw [List.length_range]; omega), List.getElem?_eq_none (by rw [List.length_reverse, Array.length_toList]; omega)]
    rfl
theorem getItem_tuple_back {pg : Program} {ww : World} {AA : Around} {EE : Value → Shared → Prop} {st : Shared} {tp sa : Addr} {items : Array Value} {vl vu vs : Value} {Q : Value → Shared → Prop} (hT : IsTup st.heap tp items) (hS : st.heap.IsSliceOf sa vl vu vs) (pl : IsPart vl none) (pu : IsPart vu none) (ps : IsPart vs (some (-1)))
    (q : Q (.ref st.heap.objs.size) { st with heap := st.heap.push { cls := .type "tuple", data := .seq items.toList.reverse.toArray } }) (hz : items.size ≤ sizeLine) : wpAny (model pg ww) AA (getItem (.ref tp) (.ref sa)) Q EE st := by
  have hfit : sizeOk (.seq items.toList.reverse.toArray) := by
    show items.toList.reverse.toArray.size ≤ sizeLine
    rw [List.size_toArray, List.length_reverse, Array.length_toList]
    exact hz
  have hSl : st.TypeIs (.ref sa) "slice" := let ⟨o, h1, h2, _⟩ := hS; ⟨o, h1, h2⟩
  unfold getItem; try with_reducible refine wpAny_holding ?_
  first | refine wpAny_bind (wpAny_pure ?_) | skip
  refine wpAny_bind (wpAny_sequenceKey hT.typeIs (by decide) (wpAny_bind (wpAny_callSpecial?_slot (name := Str.ofString "__getitem__") hT.typeIs slot_tuple_getitem (wpAny_call_entry slot_tuple_getitem hT.typeIs entry_tuple_getitem ?_ (args_tuple_getitem _ _)))))
  show wpAny _ _ (Builtin.Tuple.tupleItemsOf (.ref tp) >>= _) _ _ st
  refine wpAny_bind (tupleItemsOf_ hT (wpAny_bind (wpAny_typeOf hSl ?_)))
  rw [if_pos (by decide)]
  refine wpAny_bind (sl_back hS pl pu ps ?_)
  have no : ¬ (((((items.size : Int) - 1) == 0 && (-1 : Int) == 1 && items.size == items.size)) = true) := fun z => by
    rw [Bool.and_eq_true, Bool.and_eq_true] at z
    exact absurd z.1.2 (by decide)
  show wpAny _ _ (if ((((items.size : Int) - 1) == 0 && (-1 : Int) == 1 && items.size == items.size)) = true then _ else _) _ _ st
  rw [if_neg no, pick_back]
  first
    | exact wpAny_bind (m := Builtin.Tuple.tupleExact _) (wpAny_newObj_type (wpAny_pure ⟨_, rfl, wpAny_pure q⟩) hfit)
    | exact wpAny_bind (m := Builtin.Tuple.tupleExact _) (wpAny_newObj_type (wpAny_bind (wpAny_pure (wpAny_pure ⟨_, rfl, wpAny_pure q⟩))) hfit)
    | exact wpAny_bind (wpAny_bind (m := Builtin.Tuple.tupleExact _) (wpAny_newObj_type (wpAny_pure (wpAny_pure ⟨_, rfl, wpAny_pure q⟩)) hfit))
    | exact wpAny_bind (wpAny_bind (m := Builtin.Tuple.tupleExact _) (wpAny_newObj_type (wpAny_pure ⟨_, rfl, wpAny_pure q⟩) hfit))
def tRevT (K : PySem.W.Frag) (te : TE) : TE := fun σ H Q => te σ H fun x H1 => ∃ a xs, x = .ref a ∧ SqT K H1 a xs ∧ ∀ p, H1 p = none → Q (.ref p) (upd H1 p (.tup xs.reverse))
theorem pe_revT {X : Cx} {e : Expr} {te : TE} {k : Nat} {p1 p2 p3 pos : Pos} (he : PE X e te) : PE X (.Subscript e (.Slice none none (some (.UnaryOp .USub (.Constant (.int 1) k p1) p2)) p3) pos) (tRevT X.K te) := by
  refine ⟨fun pins s σ H Q I h => ?_⟩
  refine Subscript_ (thn (he.run pins s σ H _ I h) fun v s1 ⟨x, H1, I1, r1, a, xs, ex, hx, q⟩ => ?_)
  subst ex
  cases r1
  have hst : PO X (some (.UnaryOp .USub (.Constant (.int 1) k p1) p2)) (tPart (tUn (rU fun i => .int (-i)) (tC (.int 1)))) := po_some (pe_un un_neg pe_int)
  refine wpAny_Slice (thn (po_none.run pins s1 σ H1 (fun o H2 => o = none ∧ H2 = H1) I1 ⟨rfl, rfl⟩) fun vl s2 ⟨l, H2, I2, pl, el, e2⟩ => ?_)
  subst el e2
  refine thn (po_none.run pins s2 σ H2 (fun o H3 => o = none ∧ H3 = H2) I2 ⟨rfl, rfl⟩) fun vu s3 ⟨u, H3, I3, pu, eu, e3⟩ => ?_
  subst eu e3
  refine thn (hst.run pins s3 σ H3 (fun o H4 => o = some (-1) ∧ H4 = H3) I3 ⟨1, rfl, -1, rfl, rfl, rfl⟩) fun vs s4 ⟨o, H4, I4, ps, eo, e4⟩ => ?_
  subst eo e4
  have I5 : Inv X pins σ H4 { s4 with heap := s4.heap.push { cls := .type "slice", data := .fields #[vl, vu, vs] } } := I4.kept (t' := s4.toks) fun b ob z => Heap.get?_push_of_some _ z
  obtain ⟨its, r, ht, hz⟩ := I5.tuple hx
  have hlen : its.toArray.size = xs.length := by rw [List.size_toArray]; exact r.length.symm
  refine tail_any (ops := [.ref a, .ref s4.heap.objs.size]) ht.typeIs PyProof.Rows.slot_tuple_getitem.lookup ?_ (by with_unfolding_all rfl)
  refine getItem_tuple_back ht (Heap.IsSliceOf.new _ vl vu vs) pl pu ps ?_ (by rw [hlen]; exact hz)
  refine ⟨.ref _, _, I5.laid (t' := s4.toks) (o := .tup xs.reverse) (fun b ob z => Heap.get?_push_of_some _ z) (Nat.le_refl _) ?_, rfl, q _ (I5.hok.fresh (Nat.le_refl _))⟩
  exact ⟨by rw [List.length_reverse]; exact hz, _, r.reverse, IsTup.new _ _⟩
/-- a part of a tuple of any make; two put together -/
def rSlS (K : PySem.W.Frag) : V → Option Int → Option Int → Hp → VK → Prop := fun x lo hi H Q => ∃ a xs, x = .ref a ∧ SqT K H a xs ∧ ∀ p H', Ext H H' → SqT K H' p (cutV xs lo hi) → Q (.ref p) H'
theorem slS (K : PySem.W.Frag) {X : Cx} (h : X.K = K := by rfl) : SlR X (rSlS K) := fun pins s σ H x v vl vu lo hi sl Q I rx hs pl pu ⟨a, xs, ex, ha, q⟩ => by
  refine slA K h pins s σ H x v vl vu lo hi sl Q I rx hs pl pu ⟨a, xs, ex, ha, fun z => q a H Ext.refl ?_, fun _ p hp => q p _ (Ext.new hp) (SqT.of upd_same)⟩
  have e : cutV xs lo hi = xs := by
    unfold cutV
    rw [z.1, z.2, List.drop_zero, Nat.sub_zero, List.take_length]
  rw [e]
  exact ha
def rCatS (K : PySem.W.Frag) : R2 := fun x y H Q => ∃ a b xs ys, x = .ref a ∧ y = .ref b ∧ SqT K H a xs ∧ SqT K H b ys ∧ xs.length + ys.length ≤ sizeLine ∧ ∀ p H', Ext H H' → SqT K H' p (xs ++ ys) → Q (.ref p) H'
theorem catS (K : PySem.W.Frag) {X : Cx} (h : X.K = K := by rfl) : OpR X (binaryOp .Add) (rCatS K) := fun pins s σ H x y v u Q I rx ry ⟨a, b, xs, ys, ex, ey, ha, hb, hz, q⟩ => by
  refine catA K h pins s σ H x y v u Q I rx ry ⟨a, b, xs, ys, ex, ey, ha, hb, hz, fun z => q b H Ext.refl (by rw [z]; exact hb), fun _ z => q a H Ext.refl (by rw [z, List.append_nil]; exact ha), fun _ _ p hp => q p _ (Ext.new hp) (SqT.of upd_same)⟩
/-- sum of a list of lists and a list -/
def rSumS (K : PySem.W.Frag) : List V → Hp → VK → Prop := fun vs H Q => ∃ (a b : Addr) (ls : List (Addr × List V)) (xs : List V), vs = [.ref a, .ref b] ∧ SqL K H a (ls.map fun x => .ref x.1) ∧ (∀ x ∈ ls, H x.1 = some (.lst x.2)) ∧ H b = some (.lst xs) ∧ xs.length + (ls.map (·.2)).flatten.length ≤ sizeLine ∧
  ∀ p H', Ext H H' → SqL K H' p (xs ++ (ls.map (·.2)).flatten) → Q (.ref p) H'
theorem sumS (K : PySem.W.Frag) {X : Cx} (hcalm : X.calm = true) (hK : X.K = K := by rfl) : CallR X (.builtin "sum") (rSumS K) := fun pins s σ H vs us Q I r ⟨a, b, ls, xs, e, h1, h2, h3, h4, q⟩ =>
  cr_sumL K hcalm hK pins s σ H vs us Q I r ⟨a, b, ls, xs, e, h1, h2, h3, h4, fun z => q b H Ext.refl (by rw [z]; show SqL K H b (xs ++ []); rw [List.append_nil]; exact SqL.of h3), fun _ p hp => q p _ (Ext.new hp) (SqL.of upd_same)⟩
end Pf


namespace Pf
open PySem PySem.Spec PyProof.Rows L2
/-! ### set of a tuple of numbers, sorted -/
def rSetTI (K : PySem.W.Frag) (w : World) : List V → Hp → VK → Prop := fun xs H Q => ∃ (l : Addr) (ns : List Int), xs = [V.ref l] ∧ SqT K H l (ns.map V.int) ∧ ns.length < 60 ∧ ∀ (p : Addr) (c : Nat), H p = none → c ≤ ns.length → Q (.ref p) (upd H p (SetO w p (fun j => decide (j ∈ ns)) c))
theorem setTI {X : Cx} {w : World} (K : PySem.W.Frag) (hc : X.calm = true) (h1 : X.K = K := by rfl) (h2 : X.w = w := by rfl) : CallR X (.type "set") (rSetTI K w) := by
  subst h1 h2
  intro pins s σ H xs us Q I r h
  obtain ⟨l, ns, rfl, hT, hn, q⟩ := h
  obtain ⟨u, rfl, rfl⟩ := vals1 r
  obtain ⟨its, rv, ⟨o, ho, hcl, n, hd⟩, hz⟩ := I.tuple hT
  refine call_set_tupI (items := its.toArray) ns (I.ok.hd hc) ⟨o, ho, hcl, n, hd⟩ (intsAre_of rv) (by unfold scanBound; omega) fun h' tk c hS hle hk => ?_
  have hnone : H s.heap.objs.size = none := I.hok.fresh (Nat.le_refl _)
  exact ⟨.ref _, upd H s.heap.objs.size (SetO X.w s.heap.objs.size (fun j => decide (j ∈ ns)) c), I.laid (t' := tk) hk (Nat.le_refl _) (setO_new hS), rfl, q _ c hnone hle⟩
theorem sortedSI {X : Cx} {w : World} (hc : X.calm = true) (h2 : X.w = w := by rfl) : CallR X (.builtin "sorted") (rSortedSet w) := by
  subst h2
  exact cr_sortedSet hc
end Pf


namespace Pf
open PySem PySem.Spec PyProof.Rows L2
/-! ### set of a list of numbers -/
theorem call_set_li {P : Program} {w : World} {A : Around} {E : Value → Shared → Prop} {s : Shared} {l : Addr} {items : Array Value} (ns : List Int) {Q : Value → Shared → Prop} (hh : A.handled = none) (hl : s.heap.IsList l items) (hit : IntsAre items.toList ns) (hb : ns.length + 1 < scanBound)
    (h : ∀ (h' : Heap) (tk c : Nat), SetR w h' s.heap.objs.size (fun j => decide (j ∈ ns)) c → c ≤ ns.length → (∀ b o, s.heap.get? b = some o → h'.get? b = some o) → Q (.ref s.heap.objs.size) { s with heap := h', toks := tk }) : wpAny (model P w) A (call (.type "set") [.ref l]) Q E s := by
  have hisz : items.size = ns.length := by rw [← Array.length_toList]; exact IntsAre.length hit
  obtain ⟨c, tl, hmro⟩ := F.called_set.mro
  have hmade := F.called_set.made
  have hsub := F.called_set.sub
  refine wpAny_call (codeAny_of_tree ?_)
  show wpAny _ _ (callAny (.type "set") _) _ _ _
  refine wpAny_pure ⟨Code.quiet_builtin _ (by decide +kernel), codeAny_builtin F.entry_type_call ?_⟩
  rw [Around.under_plain (weight_type_call_type "set" [.ref l] []) rfl]
  have h1 := F.called_set.notType
  have h2 := F.called_set.canCreate
  have hct := F.typeCall_set_1 (.ref l)
  repeat (any_goals (first | assumption | wp_step))
  refine codeAny_mono (code_set_led1 (.ref l) (E := E) (Q₁ := fun obj s₁ => obj = .ref s.heap.objs.size ∧ s₁ = { s with heap := s.heap.push (freshSet w) }) ⟨rfl, rfl⟩) fun r s₁ hr => ?_
  cases r with
  | error e => exact hr
  | ok fl =>
    cases fl with
    | ret obj =>
      obtain ⟨rfl, rfl⟩ := hr
      have hS : (s.heap.push (freshSet w)).get? s.heap.objs.size = some (freshSet w) := Heap.get?_push_size _ rfl
      have hT : Shared.TypeIs { s with heap := s.heap.push (freshSet w) } (.ref s.heap.objs.size) "set" := ⟨_, hS, rfl⟩
      have hli := F.called_set.init.lookup
      have hbi := F.called_set.init.bind (.ref s.heap.objs.size)
      repeat (any_goals (first | assumption | wp_step))
      refine codeAny_mono (codeAny_call_builtin (R := wants (fun r s₂ => r = .none ∧ ∃ h' tk c, s₂ = { s with heap := h', toks := tk } ∧ SetR w h' s.heap.objs.size (fun j => decide (j ∈ ns)) c ∧ c ≤ ns.length ∧ (∀ b o, s.heap.get? b = some o → h'.get? b = some o)) E) F.called_set.init.plain F.entry_set_init (check_set_init_1 hT ?_)) fun r₂ s₂ hr₂ => ?_
      · obtain ⟨ol, hol, hcl, nl, hdl⟩ := hl
        obtain ⟨ocls, odict, odata, oslots⟩ := ol
        simp only at hcl hdl
        subst hcl; subst hdl
        have hol' : (s.heap.push (freshSet w)).get? l = some { cls := .type "list", dict := odict, data := .seq items nl, slots := oslots } := Heap.get?_push_of_some _ hol
        have hsls := F.sub_list_set
        have hslf := F.sub_list_frozenset
        have hne : (Value.type "list" == Value.type "dict") = false := by decide
        have hl1 : (s.heap.push (freshSet w)).IsList l items := ⟨_, hol', rfl, nl, rfl⟩
        unfold Builtin.«set.__init__» noKeywords Builtin.Frozenset.updateFrom
        generalize hPI : pyIter = PI
        wp_walk
        subst hPI
        refine wpAny_pyIter_list hl1 ?_
        refine wpAny_bind (wpAny_runValue ?_)
        have hlS : l < s.heap.objs.size := Heap.lt_size hol
        have hh3 : A.in1.in1.in1.handled = none := by simp [hh]
        have psz : (s.heap.push (freshSet w)).objs.size = s.heap.objs.size + 1 := Heap.size_push ..
        refine set_update_ints ((Walks.list hh3 (s.heap.push (freshSet w)).objs.size l (by rw [psz]; exact Nat.ne_of_lt (Nat.lt_succ_of_lt hlS)) items).toS) s.heap.objs.size (by rw [psz]; simp only [List.mem_cons, List.not_mem_nil, or_false, not_or]; exact ⟨Nat.ne_of_lt (Nat.lt_succ_self _), Nat.ne_of_gt hlS⟩) ns hisz hb (fun i v hv => ?_)
          (items.size - 0) 0 _ (by omega) (Nat.zero_le _) ⟨⟨_, Heap.get?_push_size _ rfl, rfl, rfl⟩, (hl1.push _)⟩ ⟨0, Nat.le_refl 0, setR_new_at (Heap.get?_push_of_some _ hS)⟩ ?hR
        · have hi : i < ns.length := by rw [← hisz]; exact (Array.getElem?_eq_some_iff.mp hv).1
          obtain ⟨t, e⟩ := PyProof.Rows.IntsAre.int_at hit i v (by rw [Array.getElem?_toList]; exact hv)
          exact ⟨ns[i], t, List.getElem?_eq_getElem hi, by rw [e, List.getD_eq_getElem?_getD, List.getElem?_eq_getElem hi]; rfl⟩
        case hR =>
          intro s' c' hm hc' hS'
          obtain ⟨h', g2, d', tk', os'⟩ := s'
          have eg : g2 = s.gens := hm.gens
          have ed : d' = s.drawn := hm.drawn
          have eo : os' = s.os := hm.os
          subst eg; subst ed; subst eo
          show wpAny _ _ _ _ _ _
          refine wpAny_pure ?_
          show wpAny _ _ (ret Value.none) _ _ _
          rw [hisz] at hc'
          refine wpAny_pure ⟨rfl, h', tk', c', rfl, hS', hc', fun b o e => ?_⟩
          have hb0 : b < s.heap.objs.size := Heap.lt_size e
          exact hm.heap b o (by rw [psz]; simp only [List.mem_cons, List.not_mem_nil, or_false, not_or]; exact ⟨Nat.ne_of_lt hb0, Nat.ne_of_lt (Nat.lt_succ_of_lt hb0)⟩) (Heap.get?_push_of_some _ (Heap.get?_push_of_some _ e))
      · cases r₂ with
        | error e => exact hr₂
        | ok fl₂ =>
          cases fl₂ with
          | ret r =>
            obtain ⟨rfl, h', tk, c', rfl, hS', hc', hk'⟩ := hr₂
            repeat (any_goals (first | assumption | wp_step))
            exact h _ _ _ hS' hc' hk'
          | _ => exact hr₂.elim
    | _ => exact hr.elim
def rSetLI (K : PySem.W.Frag) (w : World) : List V → Hp → VK → Prop := fun xs H Q => ∃ (l : Addr) (ns : List Int), xs = [V.ref l] ∧ SqL K H l (ns.map V.int) ∧ ns.length < 60 ∧ ∀ (p : Addr) (c : Nat), H p = none → c ≤ ns.length → Q (.ref p) (upd H p (SetO w p (fun j => decide (j ∈ ns)) c))
theorem setLI {X : Cx} {w : World} (K : PySem.W.Frag) (hc : X.calm = true) (h1 : X.K = K := by rfl) (h2 : X.w = w := by rfl) : CallR X (.type "set") (rSetLI K w) := by
  subst h1 h2
  intro pins s σ H xs us Q I r h
  obtain ⟨l, ns, rfl, hT, hn, q⟩ := h
  obtain ⟨u, rfl, rfl⟩ := vals1 r
  obtain ⟨its, rv, pl, hz⟩ := I.list hT
  refine call_set_li (items := its.toArray) ns (I.ok.hd hc) pl.isList (intsAre_of rv) (by unfold scanBound; omega) fun h' tk c hS hle hk => ?_
  have hnone : H s.heap.objs.size = none := I.hok.fresh (Nat.le_refl _)
  exact ⟨.ref _, upd H s.heap.objs.size (SetO X.w s.heap.objs.size (fun j => decide (j ∈ ns)) c), I.laid (t' := tk) hk (Nat.le_refl _) (setO_new hS), rfl, q _ c hnone hle⟩
end Pf


namespace Pf
open PySem PySem.Spec PyProof.Rows L2
/-! ### zip of two texts -/
def ItZS (x y : Str) : It :=
  ⟨fun i _ => i < x.cps.size ∧ i < y.cps.size, fun i H v H' => ∃ T c d, v = .ref T ∧ H T = none ∧ H' = upd H T (.tup [.str ⟨#[c]⟩, .str ⟨#[d]⟩]) ∧ x.cps[i]? = some c ∧ y.cps[i]? = some d, fun i _ => i ≤ x.cps.size ∧ i ≤ y.cps.size ∧ (i = x.cps.size ∨ i = y.cps.size)⟩
theorem turn_zs {P : Program} {w : World} {K : PySem.W.Frag} {elts : List Expr} {kk : Nat} {tpos : Pos} (x y : Str) (t1 t2 : Tok) {z TI TO j1 j2 : Addr} (S : ZipSep2 z TI TO j1 j2 [j1] [j2]) :
    Turn P w K (.Tuple elts kk tpos) (ItZS x y) [z, TI, TO, j1, j2] z (fun i h => IsZip h z TI TO .none ∧ IsTupOf2 h TI (.ref j1) (.ref j2) ∧ (∃ a b, IsTupOf2 h TO a b) ∧ h.IsStrIter j1 (strIterType x) x t1 i ∧ h.IsStrIter j2 (strIterType y) y t2 i) where
  mem := by simp
  obj := fun i h st b hb => by
    obtain ⟨hz, hTI, ⟨_, _, hTO⟩, ⟨o1, e1, _, d1⟩, ⟨o2, e2, _, d2⟩⟩ := st
    have hb : b = z ∨ b = TI ∨ b = TO ∨ b = j1 ∨ b = j2 := by simpa using hb
    rcases hb with rfl | rfl | rfl | rfl | rfl
    · exact ⟨_, hz, fun v q => nomatch q⟩
    · exact ⟨_, hTI, fun v q => nomatch q⟩
    · exact ⟨_, hTO, fun v q => nomatch q⟩
    · exact ⟨o1, e1, fun v q => by rw [d1] at q; cases q⟩
    · exact ⟨o2, e2, fun v q => by rw [d2] at q; cases q⟩
  keep := fun i h h' st k => by
    obtain ⟨hz, hTI, ⟨a, b, hTO⟩, ⟨o1, e1, r1⟩, ⟨o2, e2, r2⟩⟩ := st
    exact ⟨k z (by simp) _ hz, k TI (by simp) _ hTI, ⟨a, b, k TO (by simp) _ hTO⟩, ⟨o1, k j1 (by simp) _ e1, r1⟩, ⟨o2, k j2 (by simp) _ e2, r2⟩⟩
  item := by
    intro X hP hw hK hc i pins s σ H E I hf st hg
    subst hP hw hK
    obtain ⟨hz, hTI, ⟨_, _, hTO⟩, h1, h2⟩ := st
    have lz := Heap.lt_size hz
    have lTI := Heap.lt_size hTI
    have lTO := Heap.lt_size hTO
    have l1 : j1 < s.heap.objs.size := by
      obtain ⟨_, e, _⟩ := h1
      exact Heap.lt_size e
    have l2 : j2 < s.heap.objs.size := by
      obtain ⟨_, e, _⟩ := h2
      exact Heap.lt_size e
    have hd : X.A.in1.handled = none := I.ok.hd hc
    have D1 := Draws.text (prog := X.prog) (w := X.w) (A := X.A.in1) hd j1 x t1
    have D2 := Draws.text (prog := X.prog) (w := X.w) (A := X.A.in1) hd j2 y t2
    refine wpAny_pyNext_zipD2_item S D1 D2 hz hTI hTO h1 h2 hg.1 hg.2 fun u v h' tk hu hv z' TO' h1' h2' hT hsz hk => ?_
    obtain ⟨c, tc, hcx, rfl⟩ := hu
    obtain ⟨d, td, hdy, rfl⟩ := hv
    refine ⟨_, rfl, wpAny_letOwnedTupleGo_zip (s := { s with heap := h', toks := tk }) z' fun h'' z'' sb => ?_⟩
    have hT2 := (sb.2 _ (Nat.ne_of_gt lz)).trans hT
    have new : ObjOk X.prog X.w (upd H s.heap.objs.size (.tup [.str ⟨#[c]⟩, .str ⟨#[d]⟩])) h'' s.heap.objs.size (.tup [.str ⟨#[c]⟩, .str ⟨#[d]⟩]) :=
      ⟨by show 2 ≤ sizeLine; decide, [.str ⟨#[c]⟩ tc, .str ⟨#[d]⟩ td], .cons ⟨_, rfl⟩ (.cons ⟨_, rfl⟩ .nil), ⟨_, hT2, rfl, _, rfl⟩⟩
    have I1 : Inv X pins σ (upd H s.heap.objs.size (.tup [.str ⟨#[c]⟩, .str ⟨#[d]⟩])) { s with heap := h'', toks := tk } :=
      I.turnedNew (ch := [z, TI, TO, j1, j2]) (fun b ob hb q => (sb.2 b (fun e => hb (by simp [e]))).trans (hk b ob (fun e => hb (by simp [e])) (fun e => hb (by simp [e])) (fun e => hb (by simp [e])) (fun e => hb (by simp [e])) q)) hf (Nat.le_refl _) new
    obtain ⟨o1, e1, r1⟩ := h1'
    obtain ⟨o2, e2, r2⟩ := h2'
    refine ⟨.ref s.heap.objs.size, _, I1, rfl, ⟨_, c, d, rfl, I.hok.fresh (Nat.le_refl _), rfl, hcx, hdy⟩, ⟨z'', ?_, ⟨_, _, (sb.2 _ S.TOz).trans TO'⟩, ⟨o1, (sb.2 _ (fun e => S.zf1 (by simp [e]))).trans e1, r1⟩, ⟨o2, (sb.2 _ (fun e => S.zf2 (by simp [e]))).trans e2, r2⟩⟩, fun b hb => ?_⟩
    · exact (sb.2 _ S.TIz).trans (hk _ _ S.TIz S.TITO S.TIi1 S.TIi2 hTI)
    · have hlt : b < s.heap.objs.size := by
        have hb' : b = z ∨ b = TI ∨ b = TO ∨ b = j1 ∨ b = j2 := by simpa using hb
        rcases hb' with rfl | rfl | rfl | rfl | rfl <;> assumption
      rw [upd_ne (Nat.ne_of_lt hlt)]
      exact (hf b hb).1
  done := by
    intro X hP hw hK hc i pins s σ H E I hf st hg
    subst hP hw hK
    obtain ⟨hz, hTI, ⟨_, _, hTO⟩, h1, h2⟩ := st
    have hd : X.A.in1.handled = none := I.ok.hd hc
    have D1 := Draws.text (prog := X.prog) (w := X.w) (A := X.A.in1) hd j1 x t1
    have D2 := Draws.text (prog := X.prog) (w := X.w) (A := X.A.in1) hd j2 y t2
    exact wpAny_pyNext_zipD2_end S D1 D2 hz hTI hTO h1 h2 hg.1 hg.2.1 hg.2.2 fun h' tk hk => ⟨rfl, I.turnedL (t' := tk) (ch := [z, TI, TO, j1, j2]) (fun b o hb q => hk b o (fun e => hb (by simp [e])) (fun e => hb (by simp [e])) (fun e => hb (by simp [e])) (fun e => hb (by simp [e])) q) hf⟩
  self := fun A i s Q E st h => wpAny_pyIter_zip st.1 h
/-- zip of two texts, or of two lists -/
def iZipB (K : PySem.W.Frag) (ta : TA) : TI := fun σ H R => ta σ H fun vs H1 => (∃ x y, vs = [.str x, .str y] ∧ R (ItZS x y) H1) ∨ (∃ a b xs ys, vs = [.ref a, .ref b] ∧ SqL K H1 a xs ∧ SqL K H1 b ys ∧ R (Itz K a b) H1)
theorem pi_zipB (K : PySem.W.Frag) {X : Cx} {e e2 : Expr} {ta : TA} {p pos tpos : Pos} {elts : List Expr} {kk : Nat} (hg : Gl X "zip") (hm : X.mg "zip" = none) (ha : PA X [e, e2] ta)
    (hK : X.K = K := by rfl) (hs : starEach [e, e2] X.env = (false, eval e X.env) :: starEach [e2] X.env := by rfl) (hpl : (backTo pos (starEach [e2] X.env)).any (·.1) = false := by rfl) :
    PI X (.Tuple elts kk tpos) (.Call (.Name "zip" p) [e, e2] [] pos) (iZipB K ta) := by
  subst hK
  refine ⟨fun pins s σ H R I h => ?_⟩
  refine Call_ (ld_blt I hg hm PyProof.Rows.boot_zip (PyProof.Rows.callWith_type1 (thn (ha.run pos pins s σ H _ I h) fun us s1 ⟨vs, H1, I1, r1, q1⟩ => ?_) hs hpl))
  have new5 : ∀ c, c ∈ [s1.heap.objs.size + 4, s1.heap.objs.size + 2, s1.heap.objs.size + 3, s1.heap.objs.size, s1.heap.objs.size + 1] → FpOk X pins H1 c := fun c hcm => by
    have hcm : c = s1.heap.objs.size + 4 ∨ c = s1.heap.objs.size + 2 ∨ c = s1.heap.objs.size + 3 ∨ c = s1.heap.objs.size ∨ c = s1.heap.objs.size + 1 := by simpa using hcm
    have hle : s1.heap.objs.size ≤ c := by
      rcases hcm with rfl | rfl | rfl | rfl | rfl
      · exact Nat.le_add_right _ _
      · exact Nat.le_add_right _ _
      · exact Nat.le_add_right _ _
      · exact Nat.le_refl _
      · exact Nat.le_add_right _ _
    exact I1.fpOk hle (I1.hok.fresh hle)
  rcases q1 with ⟨x, y, rfl, q⟩ | ⟨a, b, xs, ys, rfl, hqx, hqy, q⟩
  · obtain ⟨u, us2, rfl, ⟨t1, rfl⟩, r2⟩ : ∃ u us2, us = u :: us2 ∧ RelV (.str x) u ∧ Vals [.str y] us2 := by
      cases r1 with
      | cons r rr => exact ⟨_, _, rfl, r, rr⟩
    obtain ⟨u2, rfl, t2, rfl⟩ := vals1 r2
    refine zip_begins2 (begins_text x t1) (begins_text y t2) trivial trivial fun h' hz hTI hTO h1 h2 hsz hk => wpAny_pyIter_zip hz ?_
    have S : ZipSep2 (s1.heap.objs.size + 4) (s1.heap.objs.size + 2) (s1.heap.objs.size + 3) s1.heap.objs.size (s1.heap.objs.size + 1) [s1.heap.objs.size] [s1.heap.objs.size + 1] := by
      constructor <;> simp
    exact ⟨s1.heap.objs.size + 4, [s1.heap.objs.size + 4, s1.heap.objs.size + 2, s1.heap.objs.size + 3, s1.heap.objs.size, s1.heap.objs.size + 1], _, _, H1, rfl, I1.kept (t' := s1.toks) hk, turn_zs x y t1 t2 S, ⟨hz, hTI, ⟨_, _, hTO⟩, ⟨_, h1, rfl, rfl⟩, ⟨_, h2, rfl, rfl⟩⟩, new5, q⟩
  · have R : Vals [V.ref a, .ref b] us := r1
    cases r1 with
    | cons r rr =>
      cases rr with
      | cons r' rr =>
        cases rr
        cases r
        cases r'
        obtain ⟨its, rv, p1, _⟩ := I1.list hqx
        obtain ⟨its2, rv2, p2, _⟩ := I1.list hqy
        refine call_zip_2 p1.isList p2.isList fun h' hz hTI hTO h1 h2 hsz hk => wpAny_pyIter_zip hz ?_
        exact ⟨s1.heap.objs.size + 4, [s1.heap.objs.size + 4, s1.heap.objs.size + 2, s1.heap.objs.size + 3, s1.heap.objs.size, s1.heap.objs.size + 1], _, _, H1, rfl, I1.kept (t' := s1.toks) hk, turn_zip (PySem.W.ktu_apart s1.heap.objs.size a b p1.lt p2.lt), ⟨hz, hTI, ⟨_, _, hTO⟩, h1, h2⟩, new5, q⟩
end Pf


namespace Pf
open PySem PySem.Spec PyProof.Rows L2
def tn (n : Int) (y : Int × Int) : Int × Int := (n - 1 - y.2, n - 1 - y.1)
theorem tn_tn (n : Int) (y : Int × Int) : tn n (tn n y) = y := by
  unfold tn
  exact Prod.ext (by show n - 1 - (n - 1 - y.1) = y.1; omega) (by show n - 1 - (n - 1 - y.2) = y.2; omega)
structure Tnd (r r' : Rl) (x x' : Str) (n : Int) : Prop where
  lo : r'.loops = r.loops
  sp : r'.span = r.span
  pk : ∀ y : Int × Int, 0 ≤ y.1 → y.1 < n → 0 ≤ y.2 → y.2 < n → (tx2 x' (tn n y) ∈ r'.prs.map (·.1) ↔ tx2 x y ∈ r.prs.map (·.1))
  pw : ∀ y : Int × Int, 0 ≤ y.1 → y.1 < n → 0 ≤ y.2 → y.2 < n → pwI r'.prs (tx2 x' (tn n y)) = pwI r.prs (tx2 x y)
  sw : ∀ y z : Int × Int, 0 ≤ y.1 → y.1 < n → 0 ≤ y.2 → y.2 < n → 0 ≤ z.1 → z.1 < n → 0 ≤ z.2 → z.2 < n → swI r'.stk (tx2 x' (tn n y)) (tx2 x' (tn n z)) = swI r.stk (tx2 x y) (tx2 x z)
theorem Tnd.may {r r' : Rl} {x x' : Str} {n : Int} (h : Tnd r r' x x' n) {y : Int × Int} (h1 : 0 ≤ y.1) (h2 : y.1 < n) (h3 : 0 ≤ y.2) (h4 : y.2 < n) : mayC r' x' (tn n y).1 (tn n y).2 = mayC r x y.1 y.2 := by
  unfold mayC
  congr 1
  · rw [h.sp]
    refine decide_eq_decide.mpr ?_
    show r.span < n - 1 - y.1 - (n - 1 - y.2) ↔ r.span < y.2 - y.1
    constructor <;> intro h <;> omega
  · exact decide_eq_decide.mpr (h.pk y h1 h2 h3 h4)
theorem Tnd.symm {r r' : Rl} {x x' : Str} {n : Int} (h : Tnd r r' x x' n) : Tnd r' r x' x n where
  lo := h.lo.symm
  sp := h.sp.symm
  pk := fun y h1 h2 h3 h4 => by
    have := h.pk (tn n y) (by show 0 ≤ n - 1 - y.2; omega) (by show n - 1 - y.2 < n; omega) (by show 0 ≤ n - 1 - y.1; omega) (by show n - 1 - y.1 < n; omega)
    rw [tn_tn] at this
    exact this.symm
  pw := fun y h1 h2 h3 h4 => by
    have := h.pw (tn n y) (by show 0 ≤ n - 1 - y.2; omega) (by show n - 1 - y.2 < n; omega) (by show 0 ≤ n - 1 - y.1; omega) (by show n - 1 - y.1 < n; omega)
    rw [tn_tn] at this
    exact this.symm
  sw := fun y z h1 h2 h3 h4 h5 h6 h7 h8 => by
    have := h.sw (tn n y) (tn n z) (by show 0 ≤ n - 1 - y.2; omega) (by show n - 1 - y.2 < n; omega) (by show 0 ≤ n - 1 - y.1; omega) (by show n - 1 - y.1 < n; omega) (by show 0 ≤ n - 1 - z.2; omega) (by show n - 1 - z.2 < n; omega) (by show 0 ≤ n - 1 - z.1; omega) (by show n - 1 - z.1 < n; omega)
    rw [tn_tn, tn_tn] at this
    exact this.symm
theorem revX_list (x : Str) : (revX x).cps.toList = x.cps.toList.reverse := by
  refine List.ext_getElem? fun k => ?_
  show ((List.range x.length).map fun k => x.cps.getD (x.length - 1 - k) 0)[k]? = _
  rw [List.getElem?_map]
  by_cases h : k < x.length
  · rw [List.getElem?_range h, List.getElem?_reverse (by rw [len_list]; exact h), len_list, Array.getElem?_toList]
    have : x.length - 1 - k < x.cps.size := by
      show _ < x.length
      omega
    rw [Array.getElem?_eq_getElem this]
    show some (x.cps.getD (x.length - 1 - k) 0) = _
    rw [Array.getD_eq_getD_getElem?, Array.getElem?_eq_getElem this]
    rfl
  · rw [List.getElem?_eq_none (by rw [List.length_range]; omega), List.getElem?_eq_none (by rw [List.length_reverse, len_list]; omega)]
    rfl
theorem rev_rev (x : Str) : revX (revX x) = x := by
  refine PySem.W.str_of_cps ?_
  rw [revX_list, revX_list, List.reverse_reverse]
theorem rev_inj {a b : Str} (h : revX a = revX b) : a = b := by
  rw [← rev_rev a, h, rev_rev]
theorem rev_sgn {x : Str} {i : Int} (h0 : 0 ≤ i) (h1 : i < x.length) : sgn (revX x) ((x.length : Int) - 1 - i) = sgn x i := by
  unfold sgn
  congr 2
  rw [revX_list, List.getD_eq_getElem?_getD, List.getD_eq_getElem?_getD, List.getElem?_reverse (by rw [len_list]; omega), len_list]
  have e : x.length - 1 - ((x.length : Int) - 1 - i).toNat = i.toNat := by omega
  rw [e]
theorem rev_two (a b : Nat) : revX ((⟨#[a]⟩ : Str) ++ ⟨#[b]⟩) = (⟨#[b]⟩ : Str) ++ ⟨#[a]⟩ := by
  refine PySem.W.str_of_cps ?_
  rw [revX_list]
  rfl
theorem rev_tx {x : Str} {y : Int × Int} (h1 : 0 ≤ y.1) (h2 : y.1 < x.length) (h3 : 0 ≤ y.2) (h4 : y.2 < x.length) : tx2 (revX x) (tn x.length y) = revX (tx2 x y) := by
  show sgn (revX x) ((x.length : Int) - 1 - y.2) ++ sgn (revX x) ((x.length : Int) - 1 - y.1) = _
  rw [rev_sgn h3 h4, rev_sgn h1 h2]
  exact (rev_two _ _).symm
theorem pwI_mem : ∀ {prs : List (Str × Int)} {y : Str × Int}, (prs.map (·.1)).Nodup → y ∈ prs → pwI prs y.1 = y.2
  | [], _, _, h => by cases h
  | (t, v) :: r, y, nd, h => by
    rw [List.map_cons, List.nodup_cons] at nd
    rcases List.mem_cons.mp h with rfl | h
    · exact if_pos rfl
    · have : t ≠ y.1 := fun e => nd.1 (e ▸ List.mem_map.mpr ⟨y, h, rfl⟩)
      show (if t = y.1 then v else pwI r y.1) = _
      rw [if_neg this]
      exact pwI_mem nd.2 h
theorem pwI_no : ∀ {prs : List (Str × Int)} {b : Str}, b ∉ prs.map (·.1) → pwI prs b = 0
  | [], _, _ => rfl
  | (t, v) :: r, b, h => by
    rw [List.map_cons] at h
    have h1 : t ≠ b := fun e => h (e ▸ List.mem_cons_self ..)
    show (if t = b then v else pwI r b) = _
    rw [if_neg h1]
    exact pwI_no fun z => h (List.mem_cons_of_mem _ z)
theorem swI_mem : ∀ {stk : List (Str × Str × Int)} {y : Str × Str × Int}, (stk.map fun x => (x.1, x.2.1)).Nodup → y ∈ stk → swI stk y.1 y.2.1 = y.2.2
  | [], _, _, h => by cases h
  | (t, u, v) :: r, y, nd, h => by
    rw [List.map_cons, List.nodup_cons] at nd
    rcases List.mem_cons.mp h with rfl | h
    · exact if_pos ⟨rfl, rfl⟩
    · have : ¬ (t = y.1 ∧ u = y.2.1) := fun e => nd.1 (List.mem_map.mpr ⟨y, h, by rw [e.1, e.2]⟩)
      show (if t = y.1 ∧ u = y.2.1 then v else swI r y.1 y.2.1) = _
      rw [if_neg this]
      exact swI_mem nd.2 h
theorem swI_no : ∀ {stk : List (Str × Str × Int)} {o n : Str}, (o, n) ∉ stk.map (fun x => (x.1, x.2.1)) → swI stk o n = 0
  | [], _, _, _ => rfl
  | (t, u, v) :: r, o, n, h => by
    rw [List.map_cons] at h
    have h1 : ¬ (t = o ∧ u = n) := fun e => h (by rw [← e.1, ← e.2]; exact List.mem_cons_self ..)
    show (if t = o ∧ u = n then v else swI r o n) = _
    rw [if_neg h1]
    exact swI_no fun z => h (List.mem_cons_of_mem _ z)
def rvP (y : Str × Int) : Str × Int := (revX y.1, y.2)
def rvS (y : Str × Str × Int) : Str × Str × Int := (revX y.1, revX y.2.1, y.2.2)
theorem tnd_of {r r' : Rl} (ok : RlOk r) (hl : r'.loops = r.loops) (hs : r'.span = r.span) (hp : r'.prs.Perm (r.prs.map rvP)) (hk : r'.stk.Perm (r.stk.map rvS)) (x : Str) : Tnd r r' x (revX x) x.length := by
  have ek : (r.prs.map rvP).map (·.1) = (r.prs.map (·.1)).map revX := by
    rw [List.map_map, List.map_map]
    rfl
  have es : (r.stk.map rvS).map (fun x => (x.1, x.2.1)) = (r.stk.map fun x => (x.1, x.2.1)).map fun z => (revX z.1, revX z.2) := by
    rw [List.map_map, List.map_map]
    rfl
  have mem : ∀ b, revX b ∈ r'.prs.map (·.1) ↔ b ∈ r.prs.map (·.1) := fun b => by
    rw [(hp.map _).mem_iff, ek]
    constructor
    · intro h
      obtain ⟨z, hz, e⟩ := List.mem_map.mp h
      rw [← rev_inj e]
      exact hz
    · exact fun h => List.mem_map.mpr ⟨b, h, rfl⟩
  have nd' : (r'.prs.map (·.1)).Nodup := by
    rw [(hp.map _).nodup_iff, ek]
    exact List.Pairwise.map _ (fun a b z e => z (rev_inj e)) ok.pn
  have sd' : (r'.stk.map fun x => (x.1, x.2.1)).Nodup := by
    rw [(hk.map _).nodup_iff, es]
    refine List.Pairwise.map _ (fun a b z e => z ?_) ok.nd
    have e1 := congrArg Prod.fst e
    have e2 := congrArg Prod.snd e
    exact Prod.ext (rev_inj e1) (rev_inj e2)
  refine ⟨hl, hs, fun y h1 h2 h3 h4 => ?_, fun y h1 h2 h3 h4 => ?_, fun y z h1 h2 h3 h4 h5 h6 h7 h8 => ?_⟩
  · rw [rev_tx h1 h2 h3 h4]
    exact mem _
  · rw [rev_tx h1 h2 h3 h4]
    by_cases c : tx2 x y ∈ r.prs.map (·.1)
    · obtain ⟨z, hz, e⟩ := List.mem_map.mp c
      have h9 := pwI_mem nd' (hp.mem_iff.mpr (List.mem_map.mpr ⟨z, hz, rfl⟩))
      have h9 : pwI r'.prs (revX z.1) = z.2 := h9
      rw [← e, h9, pwI_mem ok.pn hz]
    · rw [pwI_no c, pwI_no fun h => c ((mem _).mp h)]
  · rw [rev_tx h1 h2 h3 h4, rev_tx h5 h6 h7 h8]
    by_cases c : (tx2 x y, tx2 x z) ∈ r.stk.map fun x => (x.1, x.2.1)
    · obtain ⟨u, hu, e⟩ := List.mem_map.mp c
      have h9 := swI_mem sd' (hk.mem_iff.mpr (List.mem_map.mpr ⟨u, hu, rfl⟩))
      have h9 : swI r'.stk (revX u.1) (revX u.2.1) = u.2.2 := h9
      have e1 : u.1 = tx2 x y := congrArg Prod.fst e
      have e2 : u.2.1 = tx2 x z := congrArg Prod.snd e
      rw [← e1, ← e2, h9, swI_mem ok.nd hu]
    · rw [swI_no c, swI_no fun h => c ?_]
      rw [(hk.map _).mem_iff, es] at h
      obtain ⟨u, hu, e⟩ := List.mem_map.mp h
      have e1 : revX u.1 = revX (tx2 x y) := congrArg Prod.fst e
      have e2 : revX u.2 = revX (tx2 x z) := congrArg Prod.snd e
      rw [← rev_inj e1, ← rev_inj e2]
      exact hu
theorem turned_ok {r r' : Rl} (ok : RlOk r) (hL : r'.letters = r.letters) (hl : r'.loops = r.loops) (hs : r'.span = r.span) (hp : r'.prs.Perm (r.prs.map rvP)) (hk : r'.stk.Perm (r.stk.map rvS)) : RlOk r' := by
  have two : ∀ t, Two t → Two (revX t) := fun t h => ⟨by rw [revX_len]; exact h.1, fun c hc => h.2 c (by rw [revX_list] at hc; exact List.mem_reverse.mp hc)⟩
  refine ⟨by rw [hL]; exact ok.let6, by rw [hL]; exact ok.let1, by rw [hL]; exact ok.small, by rw [hp.length_eq, List.length_map]; exact ok.prs, fun y hy => ?_, by rw [hs]; exact ok.sp0, by rw [hs]; exact ok.sp3, by rw [hl]; exact ok.lo9, by rw [hl]; exact ok.lo, by rw [hk.length_eq, List.length_map]; exact ok.stk, fun y hy => ?_, ?_, ?_⟩
  · obtain ⟨z, hz, rfl⟩ := List.mem_map.mp (hp.mem_iff.mp hy)
    have := ok.pr z hz
    exact ⟨two _ this.1, this.2⟩
  · obtain ⟨z, hz, rfl⟩ := List.mem_map.mp (hk.mem_iff.mp hy)
    have := ok.st z hz
    exact ⟨two _ this.1, two _ this.2.1, this.2.2⟩
  · rw [(hk.map _).nodup_iff, List.map_map]
    have : ((r.stk.map fun x => (x.1, x.2.1)).map fun z => (revX z.1, revX z.2)).Nodup := List.Pairwise.map _ (fun a b z e => z (Prod.ext (rev_inj (congrArg Prod.fst e)) (rev_inj (congrArg Prod.snd e)))) ok.nd
    rw [List.map_map] at this
    exact this
  · rw [(hp.map _).nodup_iff, List.map_map]
    have : ((r.prs.map (·.1)).map revX).Nodup := List.Pairwise.map _ (fun a b z e => z (rev_inj e)) ok.pn
    rw [List.map_map] at this
    exact this
def sh (d : Int) (y : Int × Int) : Int × Int := (y.1 + d, y.2 + d)
structure Sft (r r' : Rl) (x x' : Str) (L L' d : Int) : Prop where
  d0 : 0 ≤ d
  dL : L + d ≤ L'
  lo : r'.loops = r.loops
  pr : r'.prs = r.prs
  st : r'.stk = r.stk
  tx : ∀ y : Int × Int, 0 ≤ y.1 → y.1 < L → 0 ≤ y.2 → y.2 < L → tx2 x' (sh d y) = tx2 x y
  my : ∀ i j, 0 ≤ i → i < j → j < L → mayC r' x' (i + d) (j + d) = mayC r x i j
  no : ∀ i j, 0 ≤ i → i < j → j < L' → mayC r' x' i j = true → d ≤ i ∧ j < L + d
theorem sh_back (d : Int) (y : Int × Int) : sh d (sh (-d) y) = y := Prod.ext (by show y.1 + -d + d = y.1; omega) (by show y.2 + -d + d = y.2; omega)
theorem sh_inj {d : Int} {y z : Int × Int} (h : sh d y = sh d z) : y = z := by
  have h1 : y.1 + d = z.1 + d := congrArg Prod.fst h
  have h2 : y.2 + d = z.2 + d := congrArg Prod.snd h
  exact Prod.ext (by omega) (by omega)
theorem lex_int (b p q : Int) (R S R' S' : List (Int ⊕ List Nat)) (h : PyProof.Rows.lexLt itemOrd R S = PyProof.Rows.lexLt itemOrd R' S') : PyProof.Rows.lexLt itemOrd (.inl (p + b) :: R) (.inl (q + b) :: S) = PyProof.Rows.lexLt itemOrd (.inl p :: R') (.inl q :: S') := by
  by_cases e : p = q
  · rw [e, PyProof.Rows.lex_self, PyProof.Rows.lex_self, h]
  · rw [PyProof.Rows.lex_diff (O := itemOrd) (x := .inl (p + b)) (y := .inl (q + b)) (fun z => e (by injection z with z; omega)), PyProof.Rows.lex_diff (O := itemOrd) (x := .inl p) (y := .inl q) (fun z => e (by injection z with z))]
    show decide (p + b < q + b) = decide (p < q)
    exact decide_eq_decide.mpr ⟨fun h => by omega, fun h => by omega⟩
theorem sort_eq {β : Type} (k : β → PyData) (inj : ∀ a b, PySem.W.keyToks (k a) = PySem.W.keyToks (k b) → a = b) {l l' : List β} (p : l.Perm l') : l.mergeSort (PySem.W.dataLe false k) = l'.mergeSort (PySem.W.dataLe false k) := by
  have T := PySem.W.sortLe_total (listOrd itemOrd) false fun z : β => PySem.W.keyToks (k z)
  have tot : ∀ a b : β, (PySem.W.dataLe false k a b || PySem.W.dataLe false k b a) = true := fun a b => by
    rcases T.total a b with h | h
    · rw [show PySem.W.dataLe false k a b = true from h]
      rfl
    · rw [show PySem.W.dataLe false k b a = true from h, Bool.or_true]
  have p1 := List.pairwise_mergeSort (le := PySem.W.dataLe false k) T.trans tot l
  have p2 := List.pairwise_mergeSort (le := PySem.W.dataLe false k) T.trans tot l'
  refine List.Perm.eq_of_pairwise (fun a b _ _ x y => ?_) p1 p2 (((List.mergeSort_perm l _).trans p).trans (List.mergeSort_perm l' _).symm)
  have x : (!(listOrd itemOrd).blt (PySem.W.keyToks (k b)) (PySem.W.keyToks (k a))) = true := x
  have y : (!(listOrd itemOrd).blt (PySem.W.keyToks (k a)) (PySem.W.keyToks (k b))) = true := y
  exact inj a b ((listOrd itemOrd).total _ _ (by simpa using y) (by simpa using x))
theorem tup_zip {α : Type} {f : α → List V} {H : Hp} {us : List V} {ps : List α} (h : Paired (fun v x => ∃ a, v = V.ref a ∧ H a = some (.tup (f x))) us ps) : ∃ bes : List (Addr × α), us = bes.map (fun y => V.ref y.1) ∧ bes.map (·.2) = ps ∧ ∀ y ∈ bes, H y.1 = some (.tup (f y.2)) := by
  induction h with
  | nil => exact ⟨[], rfl, rfl, fun y h => by cases h⟩
  | cons r _ ih =>
    obtain ⟨a, rfl, ha⟩ := r
    obtain ⟨bes, rfl, rfl, h3⟩ := ih
    refine ⟨(a, _) :: bes, rfl, rfl, fun y hy => ?_⟩
    rcases List.mem_cons.mp hy with rfl | hy
    · exact ha
    · exact h3 y hy
theorem zip_tup {α : Type} {R : V → α → Prop} : ∀ {l : List (Addr × α)}, (∀ y ∈ l, R (V.ref y.1) y.2) → Paired R (l.map fun y => V.ref y.1) (l.map (·.2))
  | [], _ => .nil
  | y :: l, h => .cons (h y (List.mem_cons_self ..)) (zip_tup fun z hz => h z (List.mem_cons_of_mem _ hz))
def dP2 (x : Str × Int) : PyData := .tuple [.str x.1, .int x.2]
def dS3 (x : Str × Str × Int) : PyData := .tuple [.str x.1, .str x.2.1, .int x.2.2]
theorem two_list {x : Str} (h : x.length = 2) : ∃ a b, x.cps.toList = [a, b] := by
  have hl : x.cps.toList.length = 2 := by rw [Array.length_toList]; exact h
  match x.cps.toList, hl with
  | [a, b], _ => exact ⟨a, b, rfl⟩
theorem rev_of2 {x : Str} (h : x.length = 2) : sgn x 1 ++ sgn x 0 = revX x := by
  obtain ⟨a, b, e⟩ := two_list h
  have ex : x = (⟨#[a]⟩ : Str) ++ ⟨#[b]⟩ := PySem.W.str_of_cps (by rw [e]; rfl)
  have e1 : sgn x 1 = ⟨#[b]⟩ := by
    unfold sgn
    rw [e]
    rfl
  have e0 : sgn x 0 = ⟨#[a]⟩ := by
    unfold sgn
    rw [e]
    rfl
  rw [e1, e0, ex, rev_two]
def wideR (r : Rl) (ch : Nat) : Rl := ⟨r.letters ++ ⟨#[ch]⟩, r.prs, r.span, r.loops, r.stk⟩
theorem wide_ok {r : Rl} (ok : RlOk r) {ch : Nat} (h5 : r.letters.length ≤ 5) (c0 : 97 ≤ ch) (c1 : ch ≤ 122) : RlOk (wideR r ch) where
  let6 := by
    show (r.letters ++ ⟨#[ch]⟩ : Str).length ≤ 6
    rw [app_len]
    show r.letters.length + 1 ≤ 6
    omega
  let1 := by
    show 1 ≤ (r.letters ++ ⟨#[ch]⟩ : Str).length
    rw [app_len]
    show 1 ≤ r.letters.length + 1
    omega
  small := ok.small.app (Small.one ⟨c0, c1⟩)
  prs := ok.prs
  pr := ok.pr
  sp0 := ok.sp0
  sp3 := ok.sp3
  lo9 := ok.lo9
  lo := ok.lo
  stk := ok.stk
  st := ok.st
  nd := ok.nd
  pn := ok.pn
theorem app_cps (a b : Str) : (a ++ b).cps.toList = a.cps.toList ++ b.cps.toList := by
  show (a.cps ++ b.cps).toList = _
  exact Array.toList_append
theorem tx_list (x : Str) (y : Int × Int) : (tx2 x y).cps.toList = [x.cps.toList.getD y.1.toNat 0, x.cps.toList.getD y.2.toNat 0] := rfl
theorem no_pair {r : Rl} (of : OfP r) {x : Str} {y : Int × Int} {ch : Nat} (hn : ch ∉ r.letters.cps.toList) (h : x.cps.toList.getD y.1.toNat 0 = ch ∨ x.cps.toList.getD y.2.toNat 0 = ch) : tx2 x y ∉ r.prs.map (·.1) := fun hm => by
  obtain ⟨z, hz, e⟩ := List.mem_map.mp hm
  have ho := of.1 z hz
  rw [e] at ho
  refine hn (ho ch ?_)
  rw [tx_list]
  rcases h with h | h
  · rw [h]
    exact List.mem_cons_self ..
  · rw [h]
    exact List.mem_cons_of_mem _ (List.mem_cons_self ..)
theorem getD_tail {l : List Nat} {ch : Nat} {i : Nat} (h : i < l.length) : (l ++ [ch]).getD i 0 = l.getD i 0 := by
  rw [List.getD_eq_getElem?_getD, List.getD_eq_getElem?_getD, List.getElem?_append_left h]
theorem sft_tail {r : Rl} (of : OfP r) {ch : Nat} (hn : ch ∉ r.letters.cps.toList) (x : Str) : Sft r (wideR r ch) x (x ++ ⟨#[ch]⟩) x.length (x ++ ⟨#[ch]⟩ : Str).length 0 := by
  have hl : ((x ++ ⟨#[ch]⟩ : Str).length : Int) = (x.length : Int) + 1 := by
    rw [app_len]
    rfl
  have ht : (x ++ ⟨#[ch]⟩ : Str).cps.toList = x.cps.toList ++ [ch] := app_cps _ _
  have hxl : x.cps.toList.length = x.length := Array.length_toList
  have tx : ∀ y : Int × Int, 0 ≤ y.1 → y.1 < x.length → 0 ≤ y.2 → y.2 < x.length → tx2 (x ++ ⟨#[ch]⟩) (sh 0 y) = tx2 x y := fun y h1 h2 h3 h4 => by
    refine PySem.W.str_of_cps ?_
    rw [tx_list, tx_list, ht]
    show [(x.cps.toList ++ [ch]).getD (y.1 + 0).toNat 0, (x.cps.toList ++ [ch]).getD (y.2 + 0).toNat 0] = _
    rw [Int.add_zero, Int.add_zero, getD_tail (by omega), getD_tail (by omega)]
  refine ⟨by decide, by omega, rfl, rfl, rfl, tx, fun i j h1 h2 h3 => ?_, fun i j h1 h2 h3 hm => ⟨h1, ?_⟩⟩
  · unfold mayC
    rw [show (i + 0, j + 0) = sh 0 (i, j) from rfl, tx (i, j) h1 (show i < x.length by omega) (show 0 ≤ j by omega) h3]
    rw [Int.add_zero, Int.add_zero]
    rfl
  · by_cases c : j < x.length
    · omega
    · exfalso
      unfold mayC at hm
      rw [Bool.and_eq_true] at hm
      have h9 := hm.2
      rw [decide_eq_true_eq] at h9
      refine no_pair (y := (i, j)) of hn (.inr ?_) h9
      rw [ht]
      show (x.cps.toList ++ [ch]).getD j.toNat 0 = ch
      rw [show j.toNat = x.cps.toList.length by omega]
      simp
theorem getD_head {l : List Nat} {ch : Nat} {i : Int} (h : 0 ≤ i) : (ch :: l).getD (i + 1).toNat 0 = l.getD i.toNat 0 := by
  rw [show (i + 1).toNat = i.toNat + 1 by omega]
  rfl
theorem sft_head {r : Rl} (of : OfP r) {ch : Nat} (hn : ch ∉ r.letters.cps.toList) (x : Str) : Sft r (wideR r ch) x (⟨#[ch]⟩ ++ x) x.length (⟨#[ch]⟩ ++ x : Str).length 1 := by
  have hl : ((⟨#[ch]⟩ ++ x : Str).length : Int) = (x.length : Int) + 1 := by
    rw [app_len, show (⟨#[ch]⟩ : Str).length = 1 from rfl]
    omega
  have ht : (⟨#[ch]⟩ ++ x : Str).cps.toList = ch :: x.cps.toList := app_cps _ _
  have tx : ∀ y : Int × Int, 0 ≤ y.1 → y.1 < x.length → 0 ≤ y.2 → y.2 < x.length → tx2 (⟨#[ch]⟩ ++ x) (sh 1 y) = tx2 x y := fun y h1 h2 h3 h4 => by
    refine PySem.W.str_of_cps ?_
    rw [tx_list, tx_list, ht]
    show [(ch :: x.cps.toList).getD (y.1 + 1).toNat 0, (ch :: x.cps.toList).getD (y.2 + 1).toNat 0] = _
    rw [getD_head h1, getD_head h3]
  refine ⟨by decide, by omega, rfl, rfl, rfl, tx, fun i j h1 h2 h3 => ?_, fun i j h1 h2 h3 hm => ⟨?_, by omega⟩⟩
  · unfold mayC
    rw [show (i + 1, j + 1) = sh 1 (i, j) from rfl, tx (i, j) h1 (show i < x.length by omega) (show 0 ≤ j by omega) h3]
    rw [show j + 1 - (i + 1) = j - i by omega]
    rfl
  · by_cases c : 1 ≤ i
    · exact c
    · exfalso
      unfold mayC at hm
      rw [Bool.and_eq_true] at hm
      have h9 := hm.2
      rw [decide_eq_true_eq] at h9
      refine no_pair (y := (i, j)) of hn (.inl ?_) h9
      rw [ht]
      show (ch :: x.cps.toList).getD i.toNat 0 = ch
      rw [show i.toNat = 0 by omega]
      rfl
theorem of_more {r : Rl} {ch : Nat} {x : Str} (h : Of r.letters x) : Of (wideR r ch).letters x := fun c hc => by
  show c ∈ (r.letters ++ ⟨#[ch]⟩ : Str).cps.toList
  rw [app_cps]
  exact List.mem_append_left _ (h c hc)
theorem of_ch (r : Rl) (ch : Nat) : Of (wideR r ch).letters ⟨#[ch]⟩ := fun c hc => by
  show c ∈ (r.letters ++ ⟨#[ch]⟩ : Str).cps.toList
  rw [app_cps]
  exact List.mem_append_right _ hc
theorem of_rev {L x : Str} (h : Of L x) : Of L (revX x) := fun c hc => by
  rw [revX_list] at hc
  exact h c (List.mem_reverse.mp hc)
def lt2 (a b : Int × Int) : Bool := decide (a.1 < b.1 ∨ (a.1 = b.1 ∧ a.2 < b.2))
def go2 (p q : Int × Int) : Bool := decide (p.2 < q.1) || decide (q.2 < p.2)
def risL (qs : List (Int × Int)) : List Bool := (qs.zip (qs.drop 1)).map fun z => lt2 z.1 z.2
def goL : List (Int × Int) → List Bool
  | [] => []
  | p :: r => r.map (go2 p) ++ goL r
def isF (r : Rl) (x : Str) (qs : List (Int × Int)) : Bool := (qs.map fun y => mayC r x y.1 y.2).all id && ((risL qs).all id && (goL qs).all id)
theorem goL_len : ∀ qs : List (Int × Int), (goL qs).length ≤ qs.length * qs.length
  | [] => Nat.le_refl _
  | p :: r => by
    have h := goL_len r
    rw [goL, List.length_append, List.length_map, List.length_cons, Nat.succ_mul, Nat.mul_succ]
    omega
theorem goL_at {qs : List (Int × Int)} {i : Nat} {p : Int × Int} (h : qs[i]? = some p) : goL (qs.drop i) = (qs.drop (i + 1)).map (go2 p) ++ goL (qs.drop (i + 1)) := by
  obtain ⟨hi, e⟩ := List.getElem?_eq_some_iff.mp h
  rw [List.drop_eq_getElem_cons hi, e, goL]

/-! ### stretches by what they are -/
theorem runF_ge {r : Rl} {x : Str} {i j : Int} {s : Nat} : ∀ (f k : Nat), (∀ m, k ≤ m → m < s → okk r x i j m = true) → k ≤ s → s ≤ k + f → s ≤ runF r x i j f k
  | 0, k, _, _, h => by
    unfold runF
    omega
  | f + 1, k, h, h1, h2 => by
    unfold runF
    by_cases e : k = s
    · subst e
      split
      · exact Nat.le_trans (Nat.le_succ _) (by
          have : ∀ (f k : Nat), k ≤ runF r x i j f k := by
            intro f
            induction f with
            | zero => intro k; unfold runF; exact Nat.le_refl _
            | succ f ih =>
              intro k
              unfold runF
              split
              · exact Nat.le_trans (Nat.le_succ _) (ih _)
              · exact Nat.le_refl _
          exact this _ _)
      · exact Nat.le_refl _
    · rw [if_pos (h k (Nat.le_refl _) (by omega))]
      exact runF_ge f (k + 1) (fun m a b => h m (by omega) b) (by omega) (by omega)
def IsSt (r : Rl) (x : Str) (y : St3) : Prop := 0 ≤ y.1 ∧ y.2.1 < x.length ∧ 1 ≤ y.2.2 ∧ ∀ k : Nat, (k : Int) < y.2.2 → okk r x y.1 y.2.1 k = true
theorem okk_lt {r : Rl} {x : Str} {i j : Int} {k : Nat} (h : okk r x i j k = true) : i + (k : Int) < j - (k : Int) ∧ mayC r x (i + (k : Int)) (j - (k : Int)) = true := by
  unfold okk at h
  rw [Bool.and_eq_true] at h
  exact ⟨of_decide_eq_true h.1, h.2⟩
theorem stL_mem {r : Rl} {x : Str} (hx : x.length ≤ 12) {y : St3} : y ∈ stL r x ↔ IsSt r x y := by
  constructor
  · intro h
    obtain ⟨i, hi, h⟩ := List.mem_flatMap.mp h
    have hi := List.mem_range.mp hi
    obtain ⟨t, ht, h⟩ := List.mem_flatMap.mp h
    have ht := List.mem_range.mp ht
    obtain ⟨k, hk, rfl⟩ := List.mem_map.mp h
    have hk := List.mem_range.mp hk
    refine ⟨by show (0 : Int) ≤ 0 + (i : Int); omega, by show (0 : Int) + (i : Int) + 1 + (t : Int) < x.length; omega, by show (1 : Int) ≤ (k : Int) + 1; omega, fun m hm => ?_⟩
    have hm : (m : Int) < (k : Int) + 1 := hm
    exact runF_ok (r := r) (x := x) (i := 0 + (i : Int)) (j := 0 + (i : Int) + 1 + (t : Int)) 7 0 (Nat.zero_le m) (by omega)
  · rintro ⟨h1, h2, h3, h4⟩
    obtain ⟨i, j, s⟩ := y
    have h1 : 0 ≤ i := h1
    have h2 : j < x.length := h2
    have h3 : 1 ≤ s := h3
    have h4 : ∀ k : Nat, (k : Int) < s → okk r x i j k = true := h4
    obtain ⟨k, rfl⟩ : ∃ k : Nat, s = (k : Int) + 1 := ⟨(s - 1).toNat, by omega⟩
    have h0 := (okk_lt (h4 0 (by omega))).1
    have hl := (okk_lt (h4 k (by omega))).1
    have hr := runF_ge (r := r) (x := x) (i := i) (j := j) (s := k + 1) 7 0 (fun m _ hm => h4 m (by omega)) (Nat.zero_le _) (by omega)
    refine List.mem_flatMap.mpr ⟨i.toNat, List.mem_range.mpr (by omega), List.mem_flatMap.mpr ⟨(j - i - 1).toNat, List.mem_range.mpr (by omega), ?_⟩⟩
    rw [show (0 : Int) + ((i.toNat : Nat) : Int) = i by omega, show i + 1 + (((j - i - 1).toNat : Nat) : Int) = j by omega]
    exact List.mem_map.mpr ⟨k, List.mem_range.mpr (by omega), rfl⟩
theorem stA_nd : ∀ L : Nat, L < 13 → (stA L).Nodup := by decide +kernel
theorem stL_nd (r : Rl) {x : Str} (hx : x.length ≤ 12) : (stL r x).Nodup := (stA_nd x.length (by omega)).sublist (stL_sub r x)
theorem crL_mem {r : Rl} {x : Str} {b : Int} {c : Cr} : c ∈ crL r x b ↔ ∃ y ∈ stL r x, ∃ z ∈ stL r x, crB y z = true ∧ c = mkC r x b y z := by
  constructor
  · exact crL_in
  · rintro ⟨y, hy, z, hz, h, rfl⟩
    exact List.mem_flatMap.mpr ⟨y, hy, List.mem_map.mpr ⟨z, List.mem_filter.mpr ⟨hz, h⟩, rfl⟩⟩
theorem crL_nd (r : Rl) {x : Str} (hx : x.length ≤ 12) (b : Int) : (crL r x b).Nodup := by
  have nd := stL_nd r hx
  unfold crL
  refine List.pairwise_flatMap.mpr ⟨fun y _ => ?_, nd.imp fun h c hc d hd e => ?_⟩
  · unfold crI
    rw [List.pairwise_map]
    exact (nd.filter _).imp fun h e => h (congrArg (fun c : Cr => c.2.2) e)
  · obtain ⟨z1, _, rfl⟩ := List.mem_map.mp hc
    obtain ⟨z2, _, rfl⟩ := List.mem_map.mp hd
    exact h (congrArg (fun c : Cr => c.2.1) e)
theorem zip_tail {α β : Type} (g : α → β) : ∀ L : List α, (L.map g).zip (L.map g).tail = (L.zip L.tail).map fun z => (g z.1, g z.2)
  | [] => rfl
  | [_] => rfl
  | a :: b :: L => by
    have ih := zip_tail g (b :: L)
    rw [List.map_cons] at ih
    show (g a, g b) :: ((g b :: L.map g).zip (L.map g)) = _
    rw [show (g b :: L.map g).zip (L.map g) = ((b :: L).zip L).map (fun z => (g z.1, g z.2)) from ih]
    rfl
theorem zip_in {α : Type} {L : List α} {z : α × α} (h : z ∈ L.zip L.tail) : z.1 ∈ L ∧ z.2 ∈ L := ⟨(List.of_mem_zip h).1, List.mem_of_mem_tail (List.of_mem_zip h).2⟩
theorem wS_same {r r' : Rl} {x x' : Str} {y y' : St3} (f : Int × Int → Int × Int) (hp : prsOf y' = (prsOf y).map f) (hl : r'.loops = r.loops) (pw : ∀ p ∈ prsOf y, pwI r'.prs (tx2 x' (f p)) = pwI r.prs (tx2 x p)) (sw : ∀ p ∈ prsOf y, ∀ q ∈ prsOf y, swI r'.stk (tx2 x' (f p)) (tx2 x' (f q)) = swI r.stk (tx2 x p) (tx2 x q)) : wS r' x' y' = wS r x y := by
  rw [← wS_eq, ← wS_eq]
  unfold txs nbs
  rw [hp]
  have hlo : lo r' 0 = lo r 0 := by
    unfold lo
    rw [hl]
  generalize prsOf y = L at pw sw
  have e1 : (L.map f).map (tx2 x') = L.map (fun p => tx2 x' (f p)) := List.map_map ..
  rw [e1]
  congr 1
  · congr 1
    rw [List.map_map, List.map_map]
    exact List.map_congr_left fun p hp => pw p hp
  · congr 1
    rw [zip_tail, zip_tail, List.map_map, List.map_map]
    refine List.map_congr_left fun z hz => ?_
    have h := zip_in hz
    show lo r' 0 + swI r'.stk (tx2 x' (f z.1)) (tx2 x' (f z.2)) = lo r 0 + swI r.stk (tx2 x z.1) (tx2 x z.2)
    rw [hlo, sw _ h.1 _ h.2]
theorem prs_b {r : Rl} {x : Str} {y : St3} (h : IsSt r x y) {p : Int × Int} (hp : p ∈ prsOf y) : 0 ≤ p.1 ∧ p.1 < p.2 ∧ p.2 < x.length ∧ mayC r x p.1 p.2 = true := by
  unfold prsOf at hp
  obtain ⟨k, hk, rfl⟩ := List.mem_map.mp hp
  have hk := List.mem_range.mp hk
  obtain ⟨h1, h2, h3, h4⟩ := h
  have := okk_lt (h4 k (by omega))
  exact ⟨by show 0 ≤ y.1 + (k : Int); omega, this.1, by show y.2.1 - (k : Int) < x.length; omega, this.2⟩
/-! ### turned about -/
def tn3 (n : Int) (y : St3) : St3 := (n - 1 - y.2.1, n - 1 - y.1, y.2.2)
theorem tn3_tn3 (n : Int) (y : St3) : tn3 n (tn3 n y) = y := by
  obtain ⟨a, b, c⟩ := y
  show (n - 1 - (n - 1 - a), n - 1 - (n - 1 - b), c) = (a, b, c)
  rw [show n - 1 - (n - 1 - a) = a by omega, show n - 1 - (n - 1 - b) = b by omega]
theorem prs_tn (n : Int) (y : St3) : prsOf (tn3 n y) = (prsOf y).map (tn n) := by
  unfold prsOf
  rw [List.map_map]
  refine List.map_congr_left fun k _ => ?_
  show (n - 1 - y.2.1 + (k : Int), n - 1 - y.1 - (k : Int)) = (n - 1 - (y.2.1 - (k : Int)), n - 1 - (y.1 + (k : Int)))
  congr 1 <;> omega
theorem turn_st {r r' : Rl} {x x' : Str} (hl : x'.length = x.length) (T : Tnd r r' x x' x.length) {y : St3} (h : IsSt r x y) : IsSt r' x' (tn3 x.length y) := by
  obtain ⟨h1, h2, h3, h4⟩ := h
  have h0 := (okk_lt (h4 0 (by omega))).1
  refine ⟨by show 0 ≤ (x.length : Int) - 1 - y.2.1; omega, by show (x.length : Int) - 1 - y.1 < x'.length; rw [hl]; omega, h3, fun k hk => ?_⟩
  have hk : (k : Int) < y.2.2 := hk
  obtain ⟨a, b⟩ := okk_lt (h4 k hk)
  have e := T.may (y := (y.1 + (k : Int), y.2.1 - (k : Int))) (by show 0 ≤ y.1 + (k : Int); omega) (by show y.1 + (k : Int) < x.length; omega) (by show 0 ≤ y.2.1 - (k : Int); omega) (by show y.2.1 - (k : Int) < x.length; omega)
  have e : mayC r' x' ((x.length : Int) - 1 - (y.2.1 - (k : Int))) ((x.length : Int) - 1 - (y.1 + (k : Int))) = mayC r x (y.1 + (k : Int)) (y.2.1 - (k : Int)) := e
  show okk r' x' ((x.length : Int) - 1 - y.2.1) ((x.length : Int) - 1 - y.1) k = true
  unfold okk
  rw [show (x.length : Int) - 1 - y.2.1 + (k : Int) = (x.length : Int) - 1 - (y.2.1 - (k : Int)) by omega, show (x.length : Int) - 1 - y.1 - (k : Int) = (x.length : Int) - 1 - (y.1 + (k : Int)) by omega, e, b, Bool.and_true]
  exact decide_eq_true (by omega)
theorem turn_cr (n : Int) (y z : St3) : crB (tn3 n z) (tn3 n y) = crB y z := by
  unfold crB tn3
  rw [Bool.eq_iff_iff]
  simp only [Bool.and_eq_true, decide_eq_true_eq]
  omega
theorem turn_wS {r r' : Rl} {x x' : Str} (T : Tnd r r' x x' x.length) {y : St3} (h : IsSt r x y) : wS r' x' (tn3 x.length y) = wS r x y := by
  refine wS_same (tn x.length) (prs_tn _ _) T.lo (fun p hp => ?_) (fun p hp q hq => ?_)
  · have := prs_b h hp
    exact T.pw p (by omega) (by omega) (by omega) (by omega)
  · have := prs_b h hp
    have := prs_b h hq
    exact T.sw p q (by omega) (by omega) (by omega) (by omega) (by omega) (by omega) (by omega) (by omega)
def bkC (n : Int) (c : Cr) : Cr := (c.1, tn3 n c.2.2, tn3 n c.2.1)
theorem bkC_bkC (n : Int) (c : Cr) : bkC n (bkC n c) = c := by
  obtain ⟨a, y, z⟩ := c
  show (a, tn3 n (tn3 n y), tn3 n (tn3 n z)) = _
  rw [tn3_tn3, tn3_tn3]
theorem nd_map {α β : Type} {f : α → β} {l : List α} (h : ∀ a b, f a = f b → a = b) (nd : l.Nodup) : (l.map f).Nodup := by
  rw [List.Nodup, List.pairwise_map]
  exact nd.imp fun h1 e => h1 (h _ _ e)
theorem turn_in {r r' : Rl} {x x' : Str} (hx : x.length ≤ 12) (hl : x'.length = x.length) (T : Tnd r r' x x' x.length) {b : Int} {c : Cr} (h : c ∈ crL r x b) : bkC x.length c ∈ crL r' x' b := by
  obtain ⟨y, hy, z, hz, hc, rfl⟩ := crL_mem.mp h
  have hy := (stL_mem hx).mp hy
  have hz := (stL_mem hx).mp hz
  refine crL_mem.mpr ⟨tn3 x.length z, (stL_mem (by omega)).mpr (turn_st hl T hz), tn3 x.length y, (stL_mem (by omega)).mpr (turn_st hl T hy), by rw [turn_cr]; exact hc, ?_⟩
  show (b + wS r x y + wS r x z, _, _) = (b + wS r' x' (tn3 x.length z) + wS r' x' (tn3 x.length y), _, _)
  rw [turn_wS T hy, turn_wS T hz, show b + wS r x y + wS r x z = b + wS r x z + wS r x y by omega]
  rfl
theorem turn_crL {r r' : Rl} {x x' : Str} (hx : x.length ≤ 12) (hl : x'.length = x.length) (T : Tnd r r' x x' x.length) (T' : Tnd r' r x' x x.length) (b : Int) : (crL r' x' b).Perm ((crL r x b).map (bkC x.length)) := by
  have inj : ∀ c d : Cr, bkC x.length c = bkC x.length d → c = d := fun c d e => by rw [← bkC_bkC x.length c, e, bkC_bkC]
  refine (List.perm_ext_iff_of_nodup (crL_nd r' (by omega) b) (nd_map inj (crL_nd r hx b))).mpr fun c => ⟨fun h => ?_, fun h => ?_⟩
  · have h2 := turn_in (r := r') (r' := r) (x := x') (x' := x) (by omega) hl.symm (by rw [hl]; exact T') h
    rw [hl] at h2
    exact List.mem_map.mpr ⟨_, h2, bkC_bkC _ _⟩
  · obtain ⟨d, hd, rfl⟩ := List.mem_map.mp h
    exact turn_in hx hl T hd
theorem dTri_toks (y : St3) (E : List (Int ⊕ List Nat)) : PySem.W.keyToks (dTri y) ++ E = .inl 1 :: .inl y.1 :: .inl 1 :: .inl y.2.1 :: .inl 1 :: .inl y.2.2 :: .inl 0 :: E := by
  simp [dTri, PySem.W.keyToks, PySem.W.keyToksAll]
theorem dCr_toks (c : Cr) : PySem.W.keyToks (dCr c) = .inl 1 :: .inl c.1 :: .inl 1 :: .inl 1 :: (PySem.W.keyToks (dTri c.2.1) ++ (.inl 1 :: (PySem.W.keyToks (dTri c.2.2) ++ [.inl 0, .inl 0]))) := by
  simp [dCr, PySem.W.keyToks, PySem.W.keyToksAll]
theorem dCr_inj (a b : Cr) (h : PySem.W.keyToks (dCr a) = PySem.W.keyToks (dCr b)) : a = b := by
  rw [dCr_toks, dCr_toks, dTri_toks, dTri_toks, dTri_toks, dTri_toks] at h
  obtain ⟨w1, ⟨a1, a2, a3⟩, b1, b2, b3⟩ := a
  obtain ⟨w2, ⟨c1, c2, c3⟩, d1, d2, d3⟩ := b
  simp only [List.cons.injEq, Sum.inl.injEq, true_and, and_true] at h
  simp only [Prod.mk.injEq]
  omega
/-! ### moved on -/
def sh3 (d : Int) (y : St3) : St3 := (y.1 + d, y.2.1 + d, y.2.2)
theorem sh3_inj {d : Int} {y z : St3} (h : sh3 d y = sh3 d z) : y = z := by
  obtain ⟨a, b, c⟩ := y
  obtain ⟨e, f, g⟩ := z
  simp only [sh3, Prod.mk.injEq] at h ⊢
  omega
theorem prs_sh (d : Int) (y : St3) : prsOf (sh3 d y) = (prsOf y).map (sh d) := by
  unfold prsOf
  rw [List.map_map]
  refine List.map_congr_left fun k _ => ?_
  show (y.1 + d + (k : Int), y.2.1 + d - (k : Int)) = (y.1 + (k : Int) + d, y.2.1 - (k : Int) + d)
  congr 1 <;> omega
theorem sh_st {r r' : Rl} {x x' : Str} {d : Int} (S : Sft r r' x x' x.length x'.length d) {y : St3} (h : IsSt r x y) : IsSt r' x' (sh3 d y) := by
  obtain ⟨h1, h2, h3, h4⟩ := h
  have d0 := S.d0
  have dL := S.dL
  refine ⟨by show 0 ≤ y.1 + d; omega, by show y.2.1 + d < x'.length; omega, h3, fun k hk => ?_⟩
  have hk : (k : Int) < y.2.2 := hk
  obtain ⟨a, b⟩ := okk_lt (h4 k hk)
  have e := S.my (y.1 + (k : Int)) (y.2.1 - (k : Int)) (by omega) a (by omega)
  show okk r' x' (y.1 + d) (y.2.1 + d) k = true
  unfold okk
  rw [show y.1 + d + (k : Int) = y.1 + (k : Int) + d by omega, show y.2.1 + d - (k : Int) = y.2.1 - (k : Int) + d by omega, e, b, Bool.and_true]
  exact decide_eq_true (by omega)
theorem sh_back3 {r r' : Rl} {x x' : Str} {d : Int} (S : Sft r r' x x' x.length x'.length d) {y : St3} (h : IsSt r' x' y) : IsSt r x (sh3 (-d) y) := by
  obtain ⟨h1, h2, h3, h4⟩ := h
  obtain ⟨a0, b0⟩ := okk_lt (h4 0 (by omega))
  have hn := S.no (y.1 + ((0 : Nat) : Int)) (y.2.1 - ((0 : Nat) : Int)) (by omega) a0 (by omega) b0
  refine ⟨by show 0 ≤ y.1 + -d; omega, by show y.2.1 + -d < x.length; omega, h3, fun k hk => ?_⟩
  have hk : (k : Int) < y.2.2 := hk
  obtain ⟨a, b⟩ := okk_lt (h4 k hk)
  have e := S.my (y.1 + -d + (k : Int)) (y.2.1 + -d - (k : Int)) (by omega) (by omega) (by omega)
  rw [show y.1 + -d + (k : Int) + d = y.1 + (k : Int) by omega, show y.2.1 + -d - (k : Int) + d = y.2.1 - (k : Int) by omega, b] at e
  show okk r x (y.1 + -d) (y.2.1 + -d) k = true
  unfold okk
  rw [← e, Bool.and_true]
  exact decide_eq_true (by omega)
theorem sh3_back (d : Int) (y : St3) : sh3 d (sh3 (-d) y) = y := by
  obtain ⟨a, b, c⟩ := y
  show (a + -d + d, b + -d + d, c) = (a, b, c)
  rw [show a + -d + d = a by omega, show b + -d + d = b by omega]
theorem sh_cr (d : Int) (y z : St3) : crB (sh3 d y) (sh3 d z) = crB y z := by
  unfold crB sh3
  rw [Bool.eq_iff_iff]
  simp only [Bool.and_eq_true, decide_eq_true_eq]
  omega
theorem sh_wS {r r' : Rl} {x x' : Str} {d : Int} (S : Sft r r' x x' x.length x'.length d) {y : St3} (h : IsSt r x y) : wS r' x' (sh3 d y) = wS r x y := by
  refine wS_same (sh d) (prs_sh _ _) S.lo (fun p hp => ?_) (fun p hp q hq => ?_)
  · have := prs_b h hp
    rw [S.pr, S.tx p (by omega) (by omega) (by omega) (by omega)]
  · have := prs_b h hp
    have := prs_b h hq
    rw [S.st, S.tx p (by omega) (by omega) (by omega) (by omega), S.tx q (by omega) (by omega) (by omega) (by omega)]
def mvC (d : Int) (c : Cr) : Cr := (c.1, sh3 d c.2.1, sh3 d c.2.2)
theorem sft_crL {r r' : Rl} {x x' : Str} {d : Int} (hx : x.length ≤ 12) (hx' : x'.length ≤ 12) (S : Sft r r' x x' x.length x'.length d) (b : Int) : (crL r' x' b).Perm ((crL r x b).map (mvC d)) := by
  have inj : ∀ c e : Cr, mvC d c = mvC d e → c = e := fun c e h => by
    have h1 : (mvC d c).1 = (mvC d e).1 := congrArg (fun z : Cr => z.1) h
    have h2 : (mvC d c).2.1 = (mvC d e).2.1 := congrArg (fun z : Cr => z.2.1) h
    have h3 : (mvC d c).2.2 = (mvC d e).2.2 := congrArg (fun z : Cr => z.2.2) h
    have h2 := sh3_inj (show sh3 d c.2.1 = sh3 d e.2.1 from h2)
    have h3 := sh3_inj (show sh3 d c.2.2 = sh3 d e.2.2 from h3)
    exact Prod.ext h1 (Prod.ext h2 h3)
  refine (List.perm_ext_iff_of_nodup (crL_nd r' hx' b) (nd_map inj (crL_nd r hx b))).mpr fun c => ⟨fun h => ?_, fun h => ?_⟩
  · obtain ⟨y, hy, z, hz, hc, rfl⟩ := crL_mem.mp h
    have hy2 := sh_back3 S ((stL_mem hx').mp hy)
    have hz2 := sh_back3 S ((stL_mem hx').mp hz)
    have ey := sh3_back d y
    have ez := sh3_back d z
    generalize sh3 (-d) y = y0 at hy2 ey
    generalize sh3 (-d) z = z0 at hz2 ez
    subst ey ez
    refine List.mem_map.mpr ⟨mkC r x b y0 z0, crL_mem.mpr ⟨y0, (stL_mem hx).mpr hy2, z0, (stL_mem hx).mpr hz2, by rw [← sh_cr d]; exact hc, rfl⟩, ?_⟩
    show (b + wS r x y0 + wS r x z0, _, _) = (b + wS r' x' (sh3 d y0) + wS r' x' (sh3 d z0), _, _)
    rw [sh_wS S hy2, sh_wS S hz2]
    rfl
  · obtain ⟨e, he, rfl⟩ := List.mem_map.mp h
    obtain ⟨y, hy, z, hz, hc, rfl⟩ := crL_mem.mp he
    have hy := (stL_mem hx).mp hy
    have hz := (stL_mem hx).mp hz
    refine crL_mem.mpr ⟨sh3 d y, (stL_mem hx').mpr (sh_st S hy), sh3 d z, (stL_mem hx').mpr (sh_st S hz), by rw [sh_cr]; exact hc, ?_⟩
    show (b + wS r x y + wS r x z, _, _) = (b + wS r' x' (sh3 d y) + wS r' x' (sh3 d z), _, _)
    rw [sh_wS S hy, sh_wS S hz]
    rfl
theorem lex_tri (d : Int) (y z : St3) (E F E' F' : List (Int ⊕ List Nat)) (h : PyProof.Rows.lexLt itemOrd E F = PyProof.Rows.lexLt itemOrd E' F') : PyProof.Rows.lexLt itemOrd (PySem.W.keyToks (dTri (sh3 d y)) ++ E) (PySem.W.keyToks (dTri (sh3 d z)) ++ F) = PyProof.Rows.lexLt itemOrd (PySem.W.keyToks (dTri y) ++ E') (PySem.W.keyToks (dTri z) ++ F') := by
  rw [dTri_toks, dTri_toks, dTri_toks, dTri_toks, PyProof.Rows.lex_self, PyProof.Rows.lex_self]
  refine lex_int d y.1 z.1 _ _ _ _ ?_
  rw [PyProof.Rows.lex_self, PyProof.Rows.lex_self]
  refine lex_int d y.2.1 z.2.1 _ _ _ _ ?_
  rw [PyProof.Rows.lex_self, PyProof.Rows.lex_self]
  have := lex_int 0 y.2.2 z.2.2 (.inl 0 :: E) (.inl 0 :: F) (.inl 0 :: E') (.inl 0 :: F') (by rw [PyProof.Rows.lex_self, PyProof.Rows.lex_self]; exact h)
  rw [Int.add_zero, Int.add_zero] at this
  exact this
theorem SG_mv (d : Int) (L : List Cr) : (SG dCr L).map (mvC d) = SG dCr (L.map (mvC d)) := by
  refine List.map_mergeSort fun a _ c _ => ?_
  show (!PyProof.Rows.lexLt itemOrd (PySem.W.keyToks (dCr c)) (PySem.W.keyToks (dCr a))) = !PyProof.Rows.lexLt itemOrd (PySem.W.keyToks (dCr (mvC d c))) (PySem.W.keyToks (dCr (mvC d a)))
  rw [dCr_toks, dCr_toks, dCr_toks, dCr_toks]
  congr 1
  rw [PyProof.Rows.lex_self, PyProof.Rows.lex_self]
  have := lex_int 0 c.1 a.1 (.inl 1 :: .inl 1 :: (PySem.W.keyToks (dTri (sh3 d c.2.1)) ++ (.inl 1 :: (PySem.W.keyToks (dTri (sh3 d c.2.2)) ++ [.inl 0, .inl 0])))) (.inl 1 :: .inl 1 :: (PySem.W.keyToks (dTri (sh3 d a.2.1)) ++ (.inl 1 :: (PySem.W.keyToks (dTri (sh3 d a.2.2)) ++ [.inl 0, .inl 0])))) (.inl 1 :: .inl 1 :: (PySem.W.keyToks (dTri c.2.1) ++ (.inl 1 :: (PySem.W.keyToks (dTri c.2.2) ++ [.inl 0, .inl 0])))) (.inl 1 :: .inl 1 :: (PySem.W.keyToks (dTri a.2.1) ++ (.inl 1 :: (PySem.W.keyToks (dTri a.2.2) ++ [.inl 0, .inl 0])))) (by
    rw [PyProof.Rows.lex_self, PyProof.Rows.lex_self, PyProof.Rows.lex_self, PyProof.Rows.lex_self]
    refine lex_tri d _ _ _ _ _ _ ?_
    rw [PyProof.Rows.lex_self, PyProof.Rows.lex_self]
    exact lex_tri d _ _ _ _ _ _ rfl)
  rw [Int.add_zero, Int.add_zero] at this
  exact this.symm
theorem SG_eq {L M : List Cr} (h : L.Perm M) : SG dCr L = SG dCr M := sort_eq dCr dCr_inj h
theorem mvC_zero (c : Cr) : mvC 0 c = c := by
  obtain ⟨a, ⟨b1, b2, b3⟩, c1, c2, c3⟩ := c
  simp [mvC, sh3]
/-- a stretch's pairs are a folding -/
theorem prs_isF {r : Rl} {x : Str} {y : St3} (h : IsSt r x y) : isF r x (prsOf y) = true := by
  unfold isF
  rw [Bool.and_eq_true, Bool.and_eq_true]
  have pw : (prsOf y).Pairwise fun p q => p.1 < q.1 ∧ q.2 < p.2 := by
    unfold prsOf
    rw [List.pairwise_map]
    exact List.pairwise_lt_range.imp fun h => ⟨by show y.1 + _ < y.1 + _; omega, by show y.2.1 - _ < y.2.1 - _; omega⟩
  refine ⟨List.all_eq_true.mpr fun b hb => ?_, List.all_eq_true.mpr fun b hb => ?_, ?_⟩
  · obtain ⟨p, hp, rfl⟩ := List.mem_map.mp hb
    exact (prs_b h hp).2.2.2
  · unfold risL at hb
    obtain ⟨z, hz, rfl⟩ := List.mem_map.mp hb
    obtain ⟨i, hi⟩ := List.mem_iff_getElem?.mp hz
    rw [List.getElem?_zip_eq_some] at hi
    obtain ⟨h1, h2⟩ := hi
    rw [List.getElem?_drop] at h2
    obtain ⟨l1, e1⟩ := List.getElem?_eq_some_iff.mp h1
    obtain ⟨l2, e2⟩ := List.getElem?_eq_some_iff.mp h2
    have := List.pairwise_iff_getElem.mp pw i (1 + i) l1 l2 (by omega)
    rw [e1, e2] at this
    show decide _ = true
    exact decide_eq_true (.inl this.1)
  · generalize prsOf y = L at pw
    induction L with
    | nil => rfl
    | cons p L ih =>
      have hp := List.pairwise_cons.mp pw
      show (L.map (go2 p) ++ goL L).all id = true
      rw [List.all_append, Bool.and_eq_true]
      refine ⟨List.all_eq_true.mpr fun b hb => ?_, ih hp.2⟩
      obtain ⟨q, hq, rfl⟩ := List.mem_map.mp hb
      have := (hp.1 q hq).2
      show (decide (p.2 < q.1) || decide (q.2 < p.2)) = true
      rw [decide_eq_true this, Bool.or_true]
section
variable {P : Program} {w : World} {K : PySem.W.Frag} {mg : Str → Option Value} {base : Heap}
abbrev s_law_turned : Stmt := topS 34
theorem sc_law_turned : FnScope ["_law_code_here", "_law_ties_here", "_law_piles", "_law_both", "_law_one", "_law_row"] ["_law_code_here"] (defScope s_law_turned) :=
  ⟨rfl, rfl, rfl, by decide +kernel, rfl, by decide +kernel, by decide +kernel⟩
def spTurn : Sp := fun vs H Q _ => ∃ (v : V) (r : Rl), vs = [v] ∧ RulesW H v r ∧ RlOk r ∧ ∀ v' r' H', RulesW H' v' r' → r'.letters = r.letters → r'.loops = r.loops → r'.span = r.span → r'.prs.Perm (r.prs.map rvP) → r'.stk.Perm (r.stk.map rvS) → Ext H H' → Q v' H'
theorem ok_turn {f : Addr} {fd : FuncData} {k : Nat} (F : Fun K "_law_turned" "_law_turned" s_law_turned f fd) (msorted : mg "sorted" = none) (mtuple : mg "tuple" = none) : FnOk P w K mg base CX0 (k + 1) f fd ["_law_code_here"] spTurn := by
  refine F.ok sc_law_turned (fun vs H Q E h => ?_) (fun cdv A outer s H vs Q E hr h => ?_)
  · obtain ⟨v, r, rfl, _⟩ := h
    rfl
  · obtain ⟨v, r, rfl, ⟨a, vp, vl, vs, rfl, hA, ⟨ap, up, rfl, hp, hPp⟩, hl, ⟨as, us, rfl, hs, hPs⟩⟩, ok, q⟩ := h
    refine ⟨_, (pss_cons (ps_set (i := 1) sc_law_turned.nd rfl (.inl rfl) (pe_callTy (tupleOf K) (by rfl) mtuple (by decide +kernel) (pa_cons (pe_callB (cr_sortD K hr.units) (by rfl) msorted (by decide +kernel) (pa_cons (pe_lc (own := [("_law_both", 3), ("_law_one", 4)]) (g := gTup K 2 (gCons (gName 3) (gCons (gName 4) gNil))) (by rfl) sc_law_turned.nd (pi_tup (pe_ix (ixT K) (pv 0) pe_int (fun _ _ => rfl))) (blkOk_by (own := [("_law_both", 3), ("_law_one", 4)]) (N := ["_law_code_here", "_law_ties_here", "_law_piles", "_law_both", "_law_one", "_law_row"]) (sc := defScope s_law_turned) (by decide +kernel)) (fun _ _ _ _ _ => (pgT K rfl (pgs_cons (pg_name (i := 3) sc_law_turned.nd rfl (.inl rfl)) (pgs_cons (pg_name (i := 4) sc_law_turned.nd rfl (.inl rfl)) pgs_nil)))) (fun _ _ _ _ _ => pts_nil) (fun _ _ _ _ _ => (pe_tup (pa_cons (pe_op op_add_str (pe_ix ix_str (pv 3) pe_int (fun _ _ => rfl)) (pe_ix ix_str (pv 3) pe_int (fun _ _ => rfl))) (pa_cons (pv 4) pa_nil))))) pa_nil)) pa_nil)))
      (pss_cons (ps_set (i := 2) sc_law_turned.nd rfl (.inl rfl) (pe_callTy (tupleOf K) (by rfl) mtuple (by decide +kernel) (pa_cons (pe_callB (cr_sortD K hr.units) (by rfl) msorted (by decide +kernel) (pa_cons (pe_lc (own := [("_law_row", 5)]) (g := gName 5) (by rfl) sc_law_turned.nd (pi_tup (pe_ix (ixT K) (pv 0) pe_int (fun _ _ => rfl))) (blkOk_by (own := [("_law_row", 5)]) (N := ["_law_code_here", "_law_ties_here", "_law_piles", "_law_both", "_law_one", "_law_row"]) (sc := defScope s_law_turned) (by decide +kernel)) (fun _ _ _ _ _ => (pg_name (i := 5) sc_law_turned.nd rfl (.inl rfl))) (fun _ _ _ _ _ => pts_nil) (fun _ _ _ _ _ => (pe_tup (pa_cons (pe_op op_add_str (pe_ix ix_str (pe_ix (ixT K) (pv 5) pe_int (fun _ _ => rfl)) pe_int (fun _ _ => rfl)) (pe_ix ix_str (pe_ix (ixT K) (pv 5) pe_int (fun _ _ => rfl)) pe_int (fun _ _ => rfl))) (pa_cons (pe_op op_add_str (pe_ix ix_str (pe_ix (ixT K) (pv 5) pe_int (fun _ _ => rfl)) pe_int (fun _ _ => rfl)) (pe_ix ix_str (pe_ix (ixT K) (pv 5) pe_int (fun _ _ => rfl)) pe_int (fun _ _ => rfl))) (pa_cons (pe_ix (ixT K) (pv 5) pe_int (fun _ _ => rfl)) pa_nil)))))) pa_nil)) pa_nil)))
      (pss_one (ps_ret (pe_tup (pa_cons (pe_ix (ixT K) (pv 0) pe_int (fun _ _ => rfl)) (pa_cons (pv 1) (pa_cons (pe_ix (ixT K) (pv 0) pe_int (fun _ _ => rfl)) (pa_cons (pe_ix (ixT K) (pv 0) pe_int (fun _ _ => rfl)) (pa_cons (pv 2) pa_nil)))))))))), ?_⟩
    have hup := paired_len hPp
    have hus := paired_len hPs
    have h12 := ok.prs
    have h13 := ok.stk
    have hpe : ∀ {H' : Hp}, Ext H H' → ((∃ o, H' ap = some (.frz o (.tup up))) ∨ H' ap = some (.tup up)) := fun k => hp.elim (fun ⟨o, h⟩ => .inl ⟨o, k _ _ h⟩) (fun h => .inr (k _ _ h))
    -- couples
    refine ⟨_, rfl, a, _, 1, _, rfl, rfl, SqT.of hA, rfl, ap, rfl, ⟨_, SqT.w hp⟩, fun D hD => lc_tup (K := K) (xs := up) (fun i H2 => GenL PairAt D H ((r.prs.take i).map rvP) H2) (genl_new hD) (fun i H2 _ hv => SqT.w (hpe hv.ext)) (fun i u H2 hi hv => ?_) (fun H2 hv => ?_)⟩
    · obtain ⟨z, hz, az, rfl, haz⟩ := paired_get hPp hi
      have hzb := (ok.pr z (List.mem_of_getElem? hz)).1.1
      refine ⟨az, _, rfl, SqT.of (hv.ext _ _ haz), rfl, _, _, rfl, _, _, rfl, rfl, rfl, ?_⟩
      have hzl : z.1.length = 2 := hzb
      refine ⟨_, rfl, z.1, 1, _, rfl, rfl, szL (by omega), sgn_at (by decide) (by omega), _, rfl, z.1, 0, _, rfl, rfl, szL (by omega), sgn_at (by decide) (by omega), _, _, rfl, rfl, szL (show 1 + 1 ≤ 1000000 by decide), ?_⟩
      rw [show ((⟨#[z.1.cps.toList.getD (Int.toNat 1) 0]⟩ : Str) ++ ⟨#[z.1.cps.toList.getD (Int.toNat 0) 0]⟩) = revX z.1 from rev_of2 hzl]
      refine ⟨_, rfl, szL (show 2 ≤ 1000000 by decide), fun t ht => ?_⟩
      have := genl_step PairAt.mono hD hv (Ext.new (o := .tup [.str (revX z.1), .int z.2]) ht) (v := .ref t) (b := rvP z) ⟨t, rfl, upd_same⟩ (by rw [List.length_map, List.length_take]; omega)
      rw [List.take_add_one, hz, List.map_append]
      exact this
    have hv : GenL PairAt D H ((r.prs.take up.length).map rvP) H2 := hv
    rw [List.take_of_length_le (by omega)] at hv
    obtain ⟨ud, hLd, hPd, k2⟩ := hv
    obtain ⟨bes, rfl, hb2, hb3⟩ := tup_zip (f := fun x : Str × Int => [.str x.1, .int x.2]) hPd
    refine ⟨_, fun y => .ref y.1, fun y => dP2 y.2, D, bes, rfl, SqL.of hLd, fun y hy => ⟨.tup (SqT.of (hb3 y hy)) (.cons (.str _) (.cons (.int _) .nil)), by simp [dP2, PyData.depth, PyData.depthAll]⟩, PySem.W.AllAlike.of fun b b' => by simp [dP2, PySem.W.alike, PySem.W.alikeAll], PySem.W.Sortable.tuples fun b => ⟨_, _, rfl⟩, fun ls hls => ?_⟩
    have hperm := List.mergeSort_perm bes (PySem.W.dataLe false fun y : Addr × (Str × Int) => dP2 y.2)
    generalize bes.mergeSort (PySem.W.dataLe false fun y : Addr × (Str × Int) => dP2 y.2) = S at hperm hls ⊢
    have x3 := Ext.new (o := .lst (S.map fun y => V.ref y.1)) hls
    refine ⟨ls, _, rfl, .inl ⟨SqL.of upd_same, fun tp htp => ?_⟩⟩
    have x4 := Ext.new (o := .tup (S.map fun y => V.ref y.1)) htp
    have hS4 : ∀ y ∈ S, upd (upd H2 ls (.lst (S.map fun y => V.ref y.1))) tp (.tup (S.map fun y => V.ref y.1)) y.1 = some (.tup [.str y.2.1, .int y.2.2]) := fun y hy => (x3.trans x4) _ _ (hb3 y (hperm.mem_iff.mp hy))
    have hT4 : upd (upd H2 ls (.lst (S.map fun y => V.ref y.1))) tp (.tup (S.map fun y => V.ref y.1)) tp = some (.tup (S.map fun y => V.ref y.1)) := upd_same
    have k4 := (k2.trans x3).trans x4
    generalize upd (upd H2 ls (.lst (S.map fun y => V.ref y.1))) tp (.tup (S.map fun y => V.ref y.1)) = H4 at hS4 hT4 k4 ⊢
    have pS : (S.map (·.2)).Perm (r.prs.map rvP) := hb2 ▸ hperm.map _
    clear hb3 hls htp x3 x4 hLd hPd hb2 hperm k2
    -- piles
    refine ⟨_, rfl, a, _, 4, _, rfl, rfl, SqT.of (k4 _ _ hA), rfl, as, rfl, ⟨_, SqT.of (k4 _ _ hs)⟩, fun D5 hD5 => lc_tup (K := K) (xs := us) (fun i H2 => GenL StackAt D5 H4 ((r.stk.take i).map rvS) H2) (genl_new hD5) (fun i H2 _ hv => SqT.of ((k4.trans hv.ext) _ _ hs)) (fun i u H5 hi hv => ?_) (fun H5 hv => ?_)⟩
    · obtain ⟨z, hz, az, rfl, haz⟩ := paired_get hPs hi
      have hzb := ok.st z (List.mem_of_getElem? hz)
      have hz1 := hzb.1.1
      have hz2 := hzb.2.1.1
      have hz5 := SqT.of (K := K) ((k4.trans hv.ext) _ _ haz)
      refine ⟨rfl, _, rfl, az, _, 0, _, rfl, rfl, hz5, rfl, z.1, 1, _, rfl, rfl, szL (by omega), sgn_at (by decide) (by omega), _, rfl, az, _, 0, _, rfl, rfl, hz5, rfl, z.1, 0, _, rfl, rfl, szL (by omega), sgn_at (by decide) (by omega), _, _, rfl, rfl, szL (show 1 + 1 ≤ 1000000 by decide), ?_⟩
      rw [show ((⟨#[z.1.cps.toList.getD (Int.toNat 1) 0]⟩ : Str) ++ ⟨#[z.1.cps.toList.getD (Int.toNat 0) 0]⟩) = revX z.1 from rev_of2 hz1]
      refine ⟨_, rfl, az, _, 1, _, rfl, rfl, hz5, rfl, z.2.1, 1, _, rfl, rfl, szL (by omega), sgn_at (by decide) (by omega), _, rfl, az, _, 1, _, rfl, rfl, hz5, rfl, z.2.1, 0, _, rfl, rfl, szL (by omega), sgn_at (by decide) (by omega), _, _, rfl, rfl, szL (show 1 + 1 ≤ 1000000 by decide), ?_⟩
      rw [show ((⟨#[z.2.1.cps.toList.getD (Int.toNat 1) 0]⟩ : Str) ++ ⟨#[z.2.1.cps.toList.getD (Int.toNat 0) 0]⟩) = revX z.2.1 from rev_of2 hz2]
      refine ⟨_, rfl, az, _, 2, _, rfl, rfl, hz5, rfl, szL (show 3 ≤ 1000000 by decide), fun t ht => ?_⟩
      have := genl_step StackAt.mono hD5 hv (Ext.new (o := .tup [.str (revX z.1), .str (revX z.2.1), .int z.2.2]) ht) (v := .ref t) (b := rvS z) ⟨t, rfl, upd_same⟩ (by rw [List.length_map, List.length_take]; omega)
      rw [List.take_add_one, hz, List.map_append]
      exact this
    have hv : GenL StackAt D5 H4 ((r.stk.take us.length).map rvS) H5 := hv
    rw [List.take_of_length_le (by omega)] at hv
    obtain ⟨ud, hLd, hPd, k5⟩ := hv
    obtain ⟨bes, rfl, hb2, hb3⟩ := tup_zip (f := fun x : Str × Str × Int => [.str x.1, .str x.2.1, .int x.2.2]) hPd
    refine ⟨_, fun y => .ref y.1, fun y => dS3 y.2, D5, bes, rfl, SqL.of hLd, fun y hy => ⟨.tup (SqT.of (hb3 y hy)) (.cons (.str _) (.cons (.str _) (.cons (.int _) .nil))), by simp [dS3, PyData.depth, PyData.depthAll]⟩, PySem.W.AllAlike.of fun b b' => by simp [dS3, PySem.W.alike, PySem.W.alikeAll], PySem.W.Sortable.tuples fun b => ⟨_, _, rfl⟩, fun ls hls => ?_⟩
    have hperm := List.mergeSort_perm bes (PySem.W.dataLe false fun y : Addr × (Str × Str × Int) => dS3 y.2)
    generalize bes.mergeSort (PySem.W.dataLe false fun y : Addr × (Str × Str × Int) => dS3 y.2) = Z at hperm hls ⊢
    have x6 := Ext.new (o := .lst (Z.map fun y => V.ref y.1)) hls
    refine ⟨ls, _, rfl, .inl ⟨SqL.of upd_same, fun tq htq => ?_⟩⟩
    have x7 := Ext.new (o := .tup (Z.map fun y => V.ref y.1)) htq
    have hS7 : ∀ y ∈ Z, upd (upd H5 ls (.lst (Z.map fun y => V.ref y.1))) tq (.tup (Z.map fun y => V.ref y.1)) y.1 = some (.tup [.str y.2.1, .str y.2.2.1, .int y.2.2.2]) := fun y hy => (x6.trans x7) _ _ (hb3 y (hperm.mem_iff.mp hy))
    have hT7 : upd (upd H5 ls (.lst (Z.map fun y => V.ref y.1))) tq (.tup (Z.map fun y => V.ref y.1)) tq = some (.tup (Z.map fun y => V.ref y.1)) := upd_same
    have k7 := (k5.trans x6).trans x7
    generalize upd (upd H5 ls (.lst (Z.map fun y => V.ref y.1))) tq (.tup (Z.map fun y => V.ref y.1)) = H7 at hS7 hT7 k7 ⊢
    have pZ : (Z.map (·.2)).Perm (r.stk.map rvS) := hb2 ▸ hperm.map _
    have k07 := k4.trans k7
    have hA7 := k07 _ _ hA
    refine ⟨_, rfl, a, _, 0, _, rfl, rfl, SqT.of hA7, rfl, _, rfl, _, rfl, a, _, 2, _, rfl, rfl, SqT.of hA7, rfl, _, rfl, a, _, 3, _, rfl, rfl, SqT.of hA7, rfl, _, rfl, szL (show 5 ≤ 1000000 by decide), fun tR htR => ?_⟩
    have xR := Ext.new (o := .tup [.str r.letters, .ref tp, .int r.span, vl, .ref tq]) htR
    refine q (.ref tR) ⟨r.letters, S.map (·.2), r.span, r.loops, Z.map (·.2)⟩ _ ⟨tR, .ref tp, vl, .ref tq, rfl, upd_same, ⟨tp, _, rfl, .inr ((k7.trans xR) _ _ hT4), zip_tup fun y hy => ⟨y.1, rfl, (k7.trans xR) _ _ (hS4 y hy)⟩⟩, TupOf.mono IntAt.mono _ _ _ _ (TupK.ext (k07.trans xR)) hl, ⟨tq, _, rfl, xR _ _ hT7, zip_tup fun y hy => ⟨y.1, rfl, xR _ _ (hS7 y hy)⟩⟩⟩ rfl rfl rfl pS pZ (k07.trans xR)
abbrev CTurn (P : Program) (w : World) (K : PySem.W.Frag) (mg : Str → Option Value) (base : Heap) : Prop := Ca P w K mg base 1 "_law_turned" ["_law_code_here"] spTurn
abbrev s_law_more_letters : Stmt := topS 35
theorem sc_law_more_letters : FnScope ["_law_code_here", "_law_letter", "_law_one"] ["_law_code_here"] (defScope s_law_more_letters) :=
  ⟨rfl, rfl, rfl, by decide +kernel, rfl, by decide +kernel, by decide +kernel⟩
def spMore : Sp := fun vs H Q _ => ∃ (v : V) (r : Rl), vs = [v] ∧ RulesAt H v r ∧ RlOk r ∧ OfP r ∧ (∀ t H', H' t = some (.tup [v, .str ""]) → Ext H H' → Q (.ref t) H') ∧
  ∀ t v2 ch H', r.letters.length ≤ 5 → ch ∉ r.letters.cps.toList → 97 ≤ ch → ch ≤ 122 → H' t = some (.tup [v2, .str ⟨#[ch]⟩]) → RulesW H' v2 (wideR r ch) → Ext H H' → Q (.ref t) H'
theorem ok_more {f : Addr} {fd : FuncData} {k : Nat} (F : Fun K "_law_more_letters" "_law_more_letters" s_law_more_letters f fd) (mlen : mg "len" = none) : FnOk P w K mg base CX0 (k + 1) f fd ["_law_code_here"] spMore := by
  refine F.ok sc_law_more_letters (fun vs H Q E h => ?_) (fun cdv A outer s H vs Q E hr h => ?_)
  · obtain ⟨v, r, rfl, _⟩ := h
    rfl
  · obtain ⟨v, r, rfl, hR, ok, ofp, q1, q2⟩ := h
    obtain ⟨a, vp, vl, vs, rfl, hA, hp, hl, hs⟩ := id hR
    refine ⟨_, (pss_cons (ps_if (pt_cmpR op_gt (pe_callB call_len_str (by rfl) mlen (by decide +kernel) (pa_cons (pe_ix (ixT K) (pv 0) pe_int (fun _ _ => rfl)) pa_nil)) pe_int (nomark _)) (pss_one (ps_ret (pe_tup (pa_cons (pv 0) (pa_cons pe_str pa_nil))))) pss_nil)
      (pss_cons (ps_set (i := 1) sc_law_more_letters.nd rfl (.inl rfl) (pe_ix (ixL K) (pe_lc (own := [("_law_one", 2)]) (g := gName 2) (by rfl) sc_law_more_letters.nd (pi_str pe_str) (blkOk_by (own := [("_law_one", 2)]) (N := ["_law_code_here", "_law_letter", "_law_one"]) (sc := defScope s_law_more_letters) (by decide +kernel)) (fun _ _ _ _ _ => (pg_name (i := 2) sc_law_more_letters.nd rfl (.inl rfl))) (fun _ _ _ _ _ => (pts_one (pt_cmpR op_gt_str (pv 2) (pe_ix ix_str (pe_ix (ixT K) (pv 0) pe_int (fun _ _ => rfl)) (pe_un un_neg pe_int) (fun _ _ => rfl)) (nomark _)))) (fun _ _ _ _ _ => (pv 2))) pe_int (fun _ _ => rfl)))
      (pss_one (ps_ret (pe_tup (pa_cons (pe_op (catE K) (pe_tup (pa_cons (pe_op op_add_str (pe_ix (ixT K) (pv 0) pe_int (fun _ _ => rfl)) (pv 1)) pa_nil)) (pe_slice (slE K) (pv 0) (po_some pe_int) po_none)) (pa_cons (pv 1) pa_nil))))))), ?_⟩
    have hl6 := ok.let6
    have hl1 := ok.let1
    refine ⟨_, rfl, a, _, 0, _, rfl, rfl, SqT.of hA, rfl, r.letters, rfl, szL (by omega), _, _, rfl, rfl, _, rfl, ite2 (fun e => ?_) (fun e => ?_)⟩
    · exact ⟨_, rfl, szL (show 2 ≤ 1000000 by decide), fun t ht => q1 t _ upd_same (Ext.new ht)⟩
    · have h5 : r.letters.length ≤ 5 := by
        have e : ¬ ((r.letters.length : Int) > 5) := fun z => e (decide_eq_true z)
        omega
      have hll : r.letters.cps.toList.length = r.letters.length := Array.length_toList
      obtain ⟨l0, lc, hlc⟩ : ∃ l0 lc, r.letters.cps.toList = l0 ++ [lc] := by
        refine ⟨r.letters.cps.toList.dropLast, r.letters.cps.toList.getLast (fun z => by rw [z] at hll; have : (0 : Nat) = r.letters.length := hll; omega), (List.dropLast_concat_getLast _).symm⟩
      have hlast : r.letters.cps.toList.getD (r.letters.length - 1) 0 = lc := by
        rw [← hll, hlc]
        simp
      have hlow : ∀ ch ∈ r.letters.cps.toList, ch < 122 ∧ ch ≤ lc := fun ch hc => by
        have := ofp.2 ch hc
        rw [hlast] at this
        exact this
      have hat : atI r.letters.cps.toList (-1) = some lc := by
        rw [hlc]
        exact atI_last l0 lc
      refine ⟨alpha, rfl, fun D hD => lc_str (fun i H2 => H2 D = some (.lst (((alpha.cps.toList.take i).filter fun ch => decide (lc < ch)).map fun ch => V.str ⟨#[ch]⟩)) ∧ Ext H H2) ⟨upd_same, Ext.new hD⟩ (fun i cj H2 hi hv => ?_) (fun H2 hv => ?_)⟩
      · obtain ⟨hD2, k2⟩ := hv
        have hi2 : alpha.cps.toList[i]? = some cj := by rw [Array.getElem?_toList]; exact hi
        refine ⟨rfl, _, rfl, _, rfl, a, _, 0, _, rfl, rfl, SqT.of (k2 _ _ hA), rfl, 1, rfl, r.letters, -1, lc, rfl, rfl, szL (by omega), hat, _, _, rfl, rfl, _, rfl, ?_⟩
        have ed : decide (((⟨#[lc]⟩ : Str).cps.toList < (⟨#[cj]⟩ : Str).cps.toList)) = decide (lc < cj) := decide_eq_decide.mpr (by
          show [lc] < [cj] ↔ lc < cj
          constructor
          · intro h
            cases h with
            | rel h => exact h
            | cons h => cases h
          · exact fun h => List.Lex.rel h)
        rw [ed]
        refine ite2 (fun e => ?_) (fun e => ?_)
        · refine ⟨_, rfl, _, hD2, szLt (by
            rw [List.length_map]
            have := List.length_filter_le (fun ch => decide (lc < ch)) (alpha.cps.toList.take i)
            rw [List.length_take] at this
            have : alpha.cps.toList.length = 26 := by rw [Array.length_toList]; exact alpha_len
            omega), ?_, k2.put hD⟩
          rw [upd_same, List.take_add_one, hi2, List.filter_append, List.map_append]
          rw [show (some cj).toList = [cj] from rfl, List.filter_cons_of_pos (p := fun ch => decide (lc < ch)) e]
          rfl
        · refine ⟨?_, k2⟩
          rw [List.take_add_one, hi2, List.filter_append, show (some cj).toList = [cj] from rfl, List.filter_cons_of_neg (p := fun ch => decide (lc < ch)) e, List.filter_nil, List.append_nil]
          exact hD2
      obtain ⟨hD2, k2⟩ := hv
      have hal : alpha.cps.toList.length = alpha.cps.size := Array.length_toList
      rw [List.take_of_length_le (by omega)] at hD2
      have hlc1 : lc < 122 := (hlow lc (by rw [hlc]; simp)).1
      have hz : 122 ∈ alpha.cps.toList.filter fun ch => decide (lc < ch) := List.mem_filter.mpr ⟨by decide +kernel, decide_eq_true hlc1⟩
      obtain ⟨ch, rest, hcr⟩ : ∃ ch rest, (alpha.cps.toList.filter fun ch => decide (lc < ch)) = ch :: rest := by
        cases e : alpha.cps.toList.filter fun ch => decide (lc < ch) with
        | nil => rw [e] at hz; cases hz
        | cons ch rest => exact ⟨ch, rest, rfl⟩
      have hch := List.mem_filter.mp (show ch ∈ alpha.cps.toList.filter fun ch => decide (lc < ch) by rw [hcr]; exact List.mem_cons_self ..)
      have hcb := alpha_small ch hch.1
      have hcl : lc < ch := of_decide_eq_true hch.2
      rw [hcr] at hD2
      refine ⟨D, _, 0, _, rfl, rfl, SqL.of hD2, atI_get (by omega) (by rw [List.length_map, List.length_cons]; omega), ?_⟩
      have hA2 := k2 _ _ hA
      show gName 1 (V.str ⟨#[ch]⟩) _ _ _
      refine ⟨_, rfl, a, _, 0, _, rfl, rfl, SqT.of hA2, rfl, _, rfl, r.letters, ⟨#[ch]⟩, rfl, rfl, szL (show r.letters.length + 1 ≤ 1000000 by omega), szL (show 1 ≤ 1000000 by decide), fun t1 ht1 => ?_⟩
      have x1 := Ext.new (o := .tup [.str (r.letters ++ ⟨#[ch]⟩)]) ht1
      refine ⟨_, rfl, 1, rfl, a, _, rfl, x1 _ _ hA2, fun t2 H3 k3 ht2 => ?_⟩
      rw [show cutV [.str r.letters, vp, .int r.span, vl, vs] (some 1) none = [vp, .int r.span, vl, vs] from cut_from (k := 1)] at ht2
      refine ⟨t1, t2, _, _, rfl, rfl, k3 _ _ upd_same, ht2, szL (show 5 ≤ 1000000 by decide), fun t3 H4 k4 ht3 => ?_⟩
      refine ⟨_, rfl, szL (show 2 ≤ 1000000 by decide), fun t4 ht4 => ?_⟩
      have x5 := Ext.new (o := .tup [.ref t3, .str ⟨#[ch]⟩]) ht4
      have kall := (((k2.trans x1).trans k3).trans k4).trans x5
      have hRw := (RulesAt.mono _ _ _ _ (TupK.ext kall) hR).w
      obtain ⟨a', vp', vl', vs', ea, hA', hp', hl', hs'⟩ := hRw
      cases ea
      rw [kall _ _ hA] at hA'
      cases hA'
      exact q2 t4 (.ref t3) ch _ h5 (fun z => by have := (hlow ch z).2; omega) hcb.1 hcb.2 upd_same ⟨t3, vp, vl, vs, rfl, x5 _ _ ht3, hp', hl', hs'⟩ kall
abbrev CMore (P : Program) (w : World) (K : PySem.W.Frag) (mg : Str → Option Value) (base : Heap) : Prop := Ca P w K mg base 1 "_law_more_letters" ["_law_code_here"] spMore
end
end Pf


namespace Pf
open PySem PySem.Spec PyProof.Rows L2
theorem ifno {c : TT} {t : TS} {D : Ends} {σ : L2.St} {H : Hp} (R : Hp → Prop) (hc : ∀ Q : Bool → Hp → Prop, (∀ H', R H' → Q false H') → c σ H Q) (hn : ∀ H', R H' → D.nx σ H') : tIfS c t tNext D σ H := hc _ fun H' r => by
  rw [if_neg Bool.false_ne_true]
  exact hn H' r
theorem ifnoS {c : TT} {t u : TS} {D : Ends} {σ : L2.St} {H : Hp} (R : Hp → Prop) (hc : ∀ Q : Bool → Hp → Prop, (∀ H', R H' → Q false H') → c σ H Q) (hn : ∀ H', R H' → u D σ H') : tSeq (tIfS c t tNext) u D σ H := ifno (D := { D with nx := u D }) R hc hn
def LcAt (r : Rl) (x : Str) (c : Int) (H : Hp) (u : V) : Prop := match SG dCr (crL r x c) with
  | [] => u = .non
  | y :: _ => CrAt H u y
theorem LcAt.ext {r : Rl} {x : Str} {c : Int} {H H' : Hp} {u : V} (h : LcAt r x c H u) (k : Ext H H') : LcAt r x c H' u := by
  unfold LcAt at h ⊢
  split at h
  · exact h
  · exact CrAt.mono _ _ _ _ (TupK.ext k) h
section
variable {P : Program} {w : World} {K : PySem.W.Frag} {mg : Str → Option Value} {base : Heap}
abbrev s_is_whole : Stmt := topS 2
theorem sc_is_whole : FnScope ["thing"] ["thing"] (defScope s_is_whole) :=
  ⟨rfl, rfl, rfl, by decide +kernel, rfl, by decide +kernel, by decide +kernel⟩
def spWhI : Sp := fun vs H Q _ => ∃ i : Int, vs = [.int i] ∧ Q (.bl true) H
theorem ok_whI {f : Addr} {fd : FuncData} {k : Nat} (F : Fun K "is_whole" "is_whole" s_is_whole f fd) (misinstance : mg "isinstance" = none) (mint : mg "int" = none) (mbool : mg "bool" = none) : FnOk P w K mg base CX0 (k + 1) f fd ["thing"] spWhI := by
  refine F.ok sc_is_whole (fun vs H Q E h => ?_) (fun cdv A outer s H vs Q E hr h => ?_)
  · obtain ⟨i, rfl, _⟩ := h
    rfl
  · obtain ⟨i, rfl, q⟩ := h
    refine ⟨_, (pss_one (ps_ret (pe_and (pe_callB (isi1 K) (by rfl) misinstance (by decide +kernel) (pa_cons (pv 0) (pa_cons (pe_bltn (v := .ty "int") (by rfl) mint (by decide +kernel) rfl) pa_nil))) (pe_one (pe_not (pe_callB (isi1 K) (by rfl) misinstance (by decide +kernel) (pa_cons (pv 0) (pa_cons (pe_bltn (v := .ty "bool") (by rfl) mbool (by decide +kernel) rfl) pa_nil)))))))), ?_⟩
    refine ⟨_, rfl, .int i, .ty "int", _, _, true, rfl, .ty _, .base (.int i), kit_ty (by decide +kernel), true, rfl, iteT ?_⟩
    exact ⟨_, rfl, .int i, .ty "bool", _, _, false, rfl, .ty _, .base (.int i), kit_ty (by decide +kernel), false, rfl, q⟩
abbrev s_is_row : Stmt := topS 3
theorem sc_is_row : FnScope ["thing", "size"] ["thing", "size"] (defScope s_is_row) :=
  ⟨rfl, rfl, rfl, by decide +kernel, rfl, by decide +kernel, by decide +kernel⟩
def spRow2 : Sp := fun vs H Q _ => ∃ (t : Addr) (xs : List V) (n : Int), vs = [.ref t, .int n] ∧ H t = some (.tup xs) ∧ Q (.bl (decide ((xs.length : Int) = n))) H
theorem ok_row2 {f : Addr} {fd : FuncData} {k : Nat} (F : Fun K "is_row" "is_row" s_is_row f fd) (misinstance : mg "isinstance" = none) (mtuple : mg "tuple" = none) (mlen : mg "len" = none) : FnOk P w K mg base CX0 (k + 1) f fd ["thing", "size"] spRow2 := by
  refine F.ok sc_is_row (fun vs H Q E h => ?_) (fun cdv A outer s H vs Q E hr h => ?_)
  · obtain ⟨t, xs, n, rfl, _⟩ := h
    rfl
  · obtain ⟨t, xs, n, rfl, hT, q⟩ := h
    refine ⟨_, (pss_one (ps_ret (pe_and (pe_callB (isi1 K) (by rfl) misinstance (by decide +kernel) (pa_cons (pv 0) (pa_cons (pe_bltn (v := .ty "tuple") (by rfl) mtuple (by decide +kernel) rfl) pa_nil))) (pe_one (pe_cmpR op_eq (pe_callB (lenQ K) (by rfl) mlen (by decide +kernel) (pa_cons (pv 0) pa_nil)) (pv 1) (nomark _)))))), ?_⟩
    refine ⟨_, rfl, .ref t, .ty "tuple", _, _, true, rfl, .ty _, .base (.tup hT), kit_ty (by decide +kernel), true, rfl, iteT ?_⟩
    refine ⟨_, rfl, t, xs, rfl, .inr (SqT.of hT), _, rfl, rfl, ?_⟩
    have e : decide ((V.int (xs.length : Nat)) = V.int n) = decide ((xs.length : Int) = n) := decide_eq_decide.mpr ⟨V.int.inj, congrArg V.int⟩
    rw [e]
    exact q
abbrev CWhI (P : Program) (w : World) (K : PySem.W.Frag) (mg : Str → Option Value) (base : Heap) : Prop := Ca P w K mg base 1 "is_whole" ["thing"] spWhI
abbrev CRow2 (P : Program) (w : World) (K : PySem.W.Frag) (mg : Str → Option Value) (base : Heap) : Prop := Ca P w K mg base 1 "is_row" ["thing", "size"] spRow2
abbrev s_is_pair : Stmt := topS 24
theorem sc_is_pair : FnScope ["rules", "string", "thing"] ["rules", "string", "thing"] (defScope s_is_pair) :=
  ⟨rfl, rfl, rfl, by decide +kernel, rfl, by decide +kernel, by decide +kernel⟩
def spIP : Sp := fun vs H Q _ => ∃ (v : V) (r : Rl) (x : Str) (t : Addr) (y : Int × Int), vs = [v, .str x, .ref t] ∧ RulesW H v r ∧ x.length ≤ 1000 ∧ H t = some (.tup [.int y.1, .int y.2]) ∧ 0 ≤ y.1 ∧ y.1 < y.2 ∧ y.2 < x.length ∧ ∀ H', Ext H H' → Q (.bl (mayC r x y.1 y.2)) H'
theorem ok_ip {f : Addr} {fd : FuncData} (F : Fun K "is_pair" "is_pair" s_is_pair f fd) (cis_row : CRow2 P w K mg base) (cis_whole : CWhI P w K mg base) (cmay_pair : CMP P w K mg base) : FnOk P w K mg base CX0 3 f fd ["rules", "string", "thing"] spIP := by
  refine F.ok sc_is_pair (fun vs H Q E h => ?_) (fun cdv A outer s H vs Q E hr h => ?_)
  · obtain ⟨v, r, x, t, y, rfl, _⟩ := h
    rfl
  · obtain ⟨v, r, x, t, y, rfl, hR, hx, hT, b1, b2, b3, q⟩ := h
    refine ⟨_, (pss_cons (ps_if (PW.pt (pw_or (pt_not (pt_val (pe_ca cis_row (hr.mono (by decide)) (by rfl) (pa_cons (pv 2) (pa_cons pe_int pa_nil))))) (pw_or (pt_not (pt_val (pe_ca cis_whole (hr.mono (by decide)) (by rfl) (pa_cons (pe_ix (ixT K) (pv 2) pe_int (fun _ _ => rfl)) pa_nil)))) (pw_or1 (pt_not (pt_val (pe_ca cis_whole (hr.mono (by decide)) (by rfl) (pa_cons (pe_ix (ixT K) (pv 2) pe_int (fun _ _ => rfl)) pa_nil)))))))) (pss_one (ps_ret pe_bl)) pss_nil)
      (pss_one (ps_ret (pe_ca cmay_pair (hr.mono (by decide)) (by rfl) (pa_cons (pv 0) (pa_cons (pv 1) (pa_cons (pe_ix (ixT K) (pv 2) pe_int (fun _ _ => rfl)) (pa_cons (pe_ix (ixT K) (pv 2) pe_int (fun _ _ => rfl)) pa_nil)))))))), ?_⟩
    refine ⟨_, rfl, t, _, 2, rfl, hT, true, rfl, iteF ?_⟩
    refine ⟨_, rfl, t, _, 0, _, rfl, rfl, SqT.of hT, rfl, y.1, rfl, true, rfl, iteF ?_⟩
    refine ⟨_, rfl, t, _, 1, _, rfl, rfl, SqT.of hT, rfl, y.2, rfl, true, rfl, iteF ?_⟩
    exact ⟨_, rfl, _, rfl, _, rfl, t, _, 0, _, rfl, rfl, SqT.of hT, rfl, _, rfl, t, _, 1, _, rfl, rfl, SqT.of hT, rfl, v, r, x, y.1, y.2, rfl, hR, hx, b1, b2, b3, q⟩
abbrev s_go_together : Stmt := topS 25
theorem sc_go_together : FnScope ["pair", "later"] ["pair", "later"] (defScope s_go_together) :=
  ⟨rfl, rfl, rfl, by decide +kernel, rfl, by decide +kernel, by decide +kernel⟩
def spGT : Sp := fun vs H Q _ => ∃ (t u : Addr) (p y : Int × Int), vs = [.ref t, .ref u] ∧ H t = some (.tup [.int p.1, .int p.2]) ∧ H u = some (.tup [.int y.1, .int y.2]) ∧ Q (.bl (go2 p y)) H
theorem ok_gt {f : Addr} {fd : FuncData} {k : Nat} (F : Fun K "go_together" "go_together" s_go_together f fd) : FnOk P w K mg base CX0 (k + 1) f fd ["pair", "later"] spGT := by
  refine F.ok sc_go_together (fun vs H Q E h => ?_) (fun cdv A outer s H vs Q E hr h => ?_)
  · obtain ⟨t, u, p, y, rfl, _⟩ := h
    rfl
  · obtain ⟨t, u, p, y, rfl, hT, hU, q⟩ := h
    refine ⟨_, (pss_one (ps_ret (pe_or (pe_cmpR op_lt (pe_ix (ixT K) (pv 0) pe_int (fun _ _ => rfl)) (pe_ix (ixT K) (pv 1) pe_int (fun _ _ => rfl)) (nomark _)) (pe_one (pe_cmpR op_lt (pe_ix (ixT K) (pv 1) pe_int (fun _ _ => rfl)) (pe_ix (ixT K) (pv 0) pe_int (fun _ _ => rfl)) (nomark _)))))), ?_⟩
    unfold go2 at q
    refine ⟨_, rfl, t, _, 1, _, rfl, rfl, SqT.of hT, rfl, _, rfl, u, _, 0, _, rfl, rfl, SqT.of hU, rfl, _, _, rfl, rfl, _, rfl, ite2 (fun e => ?_) (fun e => ?_)⟩
    · have e : decide (p.2 < y.1) = true := e
      rw [e, Bool.true_or] at q
      exact q
    · have e : decide (p.2 < y.1) = false := Bool.eq_false_iff.mpr e
      rw [e, Bool.false_or] at q
      exact ⟨_, rfl, u, _, 1, _, rfl, rfl, SqT.of hU, rfl, _, rfl, t, _, 1, _, rfl, rfl, SqT.of hT, rfl, _, _, rfl, rfl, q⟩
abbrev s_rises : Stmt := topS 4
theorem sc_rises : FnScope ["things", "thing", "after"] ["things"] (defScope s_rises) :=
  ⟨rfl, rfl, rfl, by decide +kernel, rfl, by decide +kernel, by decide +kernel⟩
def spRi : Sp := fun vs H Q _ => ∃ (v : V) (qs : List (Int × Int)), vs = [v] ∧ TupOf TwoAt H v qs ∧ qs.length ≤ 100 ∧ ∀ H', Ext H H' → Q (.bl ((risL qs).all id)) H'
theorem ok_ri {f : Addr} {fd : FuncData} {k : Nat} (F : Fun K "rises" "rises" s_rises f fd) (mall : mg "all" = none) (mzip : mg "zip" = none) : FnOk P w K mg base CX0 (k + 1) f fd ["things"] spRi := by
  refine F.ok sc_rises (fun vs H Q E h => ?_) (fun cdv A outer s H vs Q E hr h => ?_)
  · obtain ⟨v, qs, rfl, _⟩ := h
    rfl
  · obtain ⟨v, qs, rfl, ⟨af, fs, rfl, hF, hPs⟩, hql, q⟩ := h
    refine ⟨_, (pss_one (ps_ret (pe_callB (cr_all rfl) (by rfl) mall (by decide +kernel) (pa_cons (pe_lc (own := [("thing", 1), ("after", 2)]) (g := gTup K 2 (gCons (gName 1) (gCons (gName 2) gNil))) (by rfl) sc_rises.nd (RZ.pi_zipA (by rfl) mzip (pa_cons (pv 0) (pa_cons (pe_slice (slE K) (pv 0) (po_some pe_int) po_none) pa_nil))) (blkOk_by (own := [("thing", 1), ("after", 2)]) (N := ["things", "thing", "after"]) (sc := defScope s_rises) (by decide +kernel)) (fun _ _ _ _ _ => (pgT K rfl (pgs_cons (pg_name (i := 1) sc_rises.nd rfl (.inl rfl)) (pgs_cons (pg_name (i := 2) sc_rises.nd rfl (.inl rfl)) pgs_nil)))) (fun _ _ _ _ _ => pts_nil) (fun _ _ _ _ _ => (pe_cmpR (ltT K hr.units0) (pv 1) (pv 2) (nomark _)))) pa_nil)))), ?_⟩
    have hfl := paired_len hPs
    refine ⟨_, rfl, _, rfl, 1, rfl, af, fs, rfl, hF, fun t H1 k1 hT => ?_⟩
    have ec : cutV fs (some 1) none = fs.drop 1 := cut_from (k := 1)
    rw [ec] at hT
    have hrl : (risL qs).length = fs.length - 1 := by
      unfold risL
      rw [List.length_map, List.length_zip, List.length_drop]
      omega
    refine ⟨af, t, fs, fs.drop 1, rfl, .inr ⟨SqT.of (k1 _ _ hF), SqT.of hT, fun D hD => lc_it (walk_zt (n := fs.length - 1) (by rw [List.length_drop]; omega)) (fun i H2 => H2 D = some (.lst (((risL qs).take i).map V.bl)) ∧ Ext H1 H2)
      ⟨upd_same, Ext.new hD⟩ (fun i H2 _ ⟨_, k⟩ => ⟨SqT.of (k _ _ (k1 _ _ hF)), SqT.of (k _ _ hT)⟩) (fun i u H2 H3 hi hv hy => ?_) (fun H2 hv => ?_)⟩⟩
    · obtain ⟨hL, k2⟩ := hv
      obtain ⟨T, a, b, rfl, hTn, rfl, ha, hb⟩ := hy
      obtain ⟨y1, hy1, a1, rfl, ha1⟩ := paired_get hPs ha
      have hb : (fs.drop 1)[i]? = some b := hb
      rw [List.getElem?_drop] at hb
      obtain ⟨y2, hy2, a2, rfl, ha2⟩ := paired_get hPs hb
      have e3 := Ext.new (o := .tup [.ref a1, .ref a2]) hTn
      have k03 := (k1.trans k2).trans e3
      refine ⟨T, _, rfl, SqT.of upd_same, rfl, _, _, rfl, _, _, rfl, rfl, rfl, _, rfl, _, rfl, a1, a2, [y1.1, y1.2], [y2.1, y2.2], rfl, rfl, SqT.of (k03 _ _ ha1), SqT.of (k03 _ _ ha2), _, e3 _ _ hL, szLt ?_, ?_, (k2.trans e3).put hD⟩
      · rw [List.length_map, List.length_take]
        omega
      · have er : (risL qs)[i]? = some (lt2 y1 y2) := by
          unfold risL
          rw [List.getElem?_map, (List.getElem?_zip_eq_some (z := (y1, y2))).mpr ⟨hy1, by rw [List.getElem?_drop]; exact hy2⟩]
          rfl
        rw [upd_same, List.take_add_one, er, List.map_append, lex2]
        rfl
    · obtain ⟨hL, k2⟩ := hv
      rw [List.take_of_length_le (by omega)] at hL
      exact ⟨D, risL qs, rfl, SqL.of hL, q _ (k1.trans k2)⟩
abbrev CIP (P : Program) (w : World) (K : PySem.W.Frag) (mg : Str → Option Value) (base : Heap) : Prop := Ca P w K mg base 3 "is_pair" ["rules", "string", "thing"] spIP
abbrev CGT (P : Program) (w : World) (K : PySem.W.Frag) (mg : Str → Option Value) (base : Heap) : Prop := Ca P w K mg base 1 "go_together" ["pair", "later"] spGT
abbrev CRi (P : Program) (w : World) (K : PySem.W.Frag) (mg : Str → Option Value) (base : Heap) : Prop := Ca P w K mg base 1 "rises" ["things"] spRi
abbrev s_is_folding : Stmt := topS 26
theorem sc_is_folding : FnScope ["rules", "string", "thing", "at", "pair", "later"] ["rules", "string", "thing"] (defScope s_is_folding) :=
  ⟨rfl, rfl, rfl, by decide +kernel, rfl, by decide +kernel, by decide +kernel⟩
def spIF : Sp := fun vs H Q _ => ∃ (v vf : V) (r : Rl) (x : Str) (qs : List (Int × Int)), vs = [v, .str x, vf] ∧ RulesW H v r ∧ x.length ≤ 1000 ∧ TupOf TwoAt H vf qs ∧ qs.length ≤ 100 ∧ (∀ y ∈ qs, 0 ≤ y.1 ∧ y.1 < y.2 ∧ y.2 < x.length) ∧ ∀ H', Ext H H' → Q (.bl (isF r x qs)) H'
theorem ok_if {f : Addr} {fd : FuncData} (F : Fun K "is_folding" "is_folding" s_is_folding f fd) (cis_pair : CIP P w K mg base) (cgo_together : CGT P w K mg base) (crises : CRi P w K mg base) (misinstance : mg "isinstance" = none) (mtuple : mg "tuple" = none) (mall : mg "all" = none) (menumerate : mg "enumerate" = none) : FnOk P w K mg base CX0 4 f fd ["rules", "string", "thing"] spIF := by
  refine F.ok sc_is_folding (fun vs H Q E h => ?_) (fun cdv A outer s H vs Q E hr h => ?_)
  · obtain ⟨v, vf, r, x, qs, rfl, _⟩ := h
    rfl
  · obtain ⟨v, vf, r, x, qs, rfl, hR, hx, ⟨af, fs, rfl, hF, hPs⟩, hql, hb, q⟩ := h
    refine ⟨_, (pss_cons (ps_if (PW.pt (pw_or (pt_not (pt_val (pe_callB (isi1 K) (by rfl) misinstance (by decide +kernel) (pa_cons (pv 2) (pa_cons (pe_bltn (v := .ty "tuple") (by rfl) mtuple (by decide +kernel) rfl) pa_nil))))) (pw_or1 (pt_not (pt_val (pe_callB (cr_all rfl) (by rfl) mall (by decide +kernel) (pa_cons (pe_lc (own := [("pair", 4)]) (g := gName 4) (by rfl) sc_is_folding.nd (pi_tup (pv 2)) (blkOk_by (own := [("pair", 4)]) (N := ["rules", "string", "thing", "at", "pair", "later"]) (sc := defScope s_is_folding) (by decide +kernel)) (fun _ _ _ _ _ => (pg_name (i := 4) sc_is_folding.nd rfl (.inl rfl))) (fun _ _ _ _ _ => pts_nil) (fun _ _ _ _ _ => (pe_ca cis_pair (hr.mono (by decide)) (by rfl) (pa_cons (pv 0) (pa_cons (pv 1) (pa_cons (pv 4) pa_nil)))))) pa_nil))))))) (pss_one (ps_ret pe_bl)) pss_nil)
      (pss_cons (ps_if (pt_not (pt_val (pe_ca crises (hr.mono (by decide)) (by rfl) (pa_cons (pv 2) pa_nil)))) (pss_one (ps_ret pe_bl)) pss_nil)
      (pss_one (ps_ret (pe_callB (cr_all rfl) (by rfl) mall (by decide +kernel) (pa_cons (pe_lc2 (own := [("at", 3), ("pair", 4), ("later", 5)]) (vs1 := [5]) (g := gTup K 2 (gCons (gName 3) (gCons (gName 4) gNil))) (g1 := gName 5) (by rfl) sc_is_folding.nd (pi_enumT (by rfl) menumerate (pa_cons (pv 2) pa_nil)) (blkOk_by (own := [("at", 3), ("pair", 4), ("later", 5)]) (N := ["rules", "string", "thing", "at", "pair", "later"]) (sc := defScope s_is_folding) (by decide +kernel)) (by decide) (fun _ _ _ _ _ => (pgT K rfl (pgs_cons (pg_name (i := 3) sc_is_folding.nd rfl (.inl rfl)) (pgs_cons (pg_name (i := 4) sc_is_folding.nd rfl (.inl rfl)) pgs_nil)))) (fun _ _ _ _ _ => pts_nil) (fun _ _ _ _ _ => (piT K (pe_slice (slE K) (pv 2) (po_some (pe_op op_add (pv 3) pe_int)) po_none))) (fun _ _ _ _ _ => (pg_name (i := 5) sc_is_folding.nd rfl (.inl rfl))) (fun _ _ _ _ _ => pts_nil) (fun _ _ _ _ _ => (pe_ca cgo_together (hr.mono (by decide)) (by rfl) (pa_cons (pv 4) (pa_cons (pv 5) pa_nil))))) pa_nil)))))), ?_⟩
    have hfl := paired_len hPs
    refine ⟨_, rfl, .ref af, .ty "tuple", _, _, true, rfl, .ty _, .base (.tup hF), kit_ty (by decide +kernel), true, rfl, iteF ?_⟩
    -- all([is_pair(..)])
    refine ⟨_, rfl, af, rfl, ⟨_, SqT.of hF⟩, fun D hD => lc_tup (K := K) (xs := fs) (fun i H2 => H2 D = some (.lst (((qs.take i).map fun y => mayC r x y.1 y.2).map V.bl)) ∧ Ext H H2)
      ⟨upd_same, Ext.new hD⟩ (fun i H2 _ ⟨_, k⟩ => SqT.of (k _ _ hF)) (fun i u H2 hi hv => ?_) (fun H2 hv => ?_)⟩
    · obtain ⟨hL, k2⟩ := hv
      obtain ⟨y, hy, a1, rfl, ha1⟩ := paired_get hPs hi
      refine ⟨rfl, _, rfl, _, rfl, _, rfl, v, r, x, a1, y, rfl, RulesW.mono _ _ _ _ (TupK.ext k2) hR, hx, k2 _ _ ha1, (hb y (List.mem_of_getElem? hy)).1, (hb y (List.mem_of_getElem? hy)).2.1, (hb y (List.mem_of_getElem? hy)).2.2, fun H3 k3 => ⟨_, k3 _ _ hL, szLt ?_, ?_, (k2.trans k3).put hD⟩⟩
      · rw [List.length_map, List.length_map, List.length_take]
        omega
      · rw [upd_same, List.take_add_one, hy, List.map_append, List.map_append]
        rfl
    · obtain ⟨hL, k2⟩ := hv
      rw [List.take_of_length_le (by omega)] at hL
      refine ⟨D, _, rfl, SqL.of hL, _, rfl, ite2 (fun e => ?_) (fun e => ?_)⟩
      · have e : ((qs.map fun y => mayC r x y.1 y.2).all id) = false := by simpa using e
        have := q H2 k2
        unfold isF at this
        rw [e, Bool.false_and] at this
        exact this
      · have e : ((qs.map fun y => mayC r x y.1 y.2).all id) = true := by simpa using e
        have q1 : ∀ H', Ext H H' → Q (.bl ((risL qs).all id && (goL qs).all id)) H' := fun H' k => by
          have := q H' k
          unfold isF at this
          rw [e, Bool.true_and] at this
          exact this
        refine ⟨_, rfl, .ref af, qs, rfl, ⟨af, fs, rfl, k2 _ _ hF, paired_imp (fun _ _ => TwoAt.mono _ _ _ _ (TupK.ext k2)) hPs⟩, hql, fun H3 k3 => ⟨_, rfl, ite2 (fun e2 => ?_) (fun e2 => ?_)⟩⟩
        · have e2 : (risL qs).all id = false := by simpa using e2
          have := q1 H3 (k2.trans k3)
          rw [e2, Bool.false_and] at this
          exact this
        · have e2 : (risL qs).all id = true := by simpa using e2
          have q2 : ∀ H', Ext H H' → Q (.bl ((goL qs).all id)) H' := fun H' k => by
            have := q1 H' k
            rw [e2, Bool.true_and] at this
            exact this
          have k03 := k2.trans k3
          have hgl := goL_len qs
          have hgm : qs.length * qs.length ≤ 100 * 100 := Nat.mul_le_mul hql hql
          refine ⟨_, rfl, af, fs, rfl, SqT.of (k03 _ _ hF), fun D2 hD2 => lc_two walk_et (fun i H4 => ∃ bs : List Bool, goL qs = bs ++ goL (qs.drop i) ∧ H4 D2 = some (.lst (bs.map V.bl)) ∧ Ext H3 H4)
            ⟨[], rfl, upd_same, Ext.new hD2⟩ (fun i H4 _ ⟨_, _, _, k⟩ => SqT.of (k _ _ (k03 _ _ hF))) (fun i u H4 H5 hi hv hy => ?_) (fun H4 hv => ?_)⟩
          · obtain ⟨bs, hbs, hL4, k4⟩ := hv
            obtain ⟨T, a, b, rfl, hTn, rfl, ha, hb⟩ := hy
            cases ha
            obtain ⟨p, hp, a1, rfl, ha1⟩ := paired_get hPs hb
            have e5 := Ext.new (o := .tup [.int (i : Nat), .ref a1]) hTn
            have k05 := (k03.trans k4).trans e5
            refine ⟨T, _, rfl, SqT.of upd_same, rfl, _, _, rfl, _, _, rfl, rfl, rfl, ?_⟩
            refine ⟨_, rfl, _, rfl, _, 1, rfl, rfl, _, rfl, af, fs, rfl, k05 _ _ hF, fun t H6 k6 hT => ?_⟩
            have ec : cutV fs (some ((i : Int) + 1)) none = fs.drop (i + 1) := cut_from (k := i + 1)
            rw [ec] at hT
            have k06 := k05.trans k6
            rw [goL_at hp, ← List.append_assoc] at hbs
            refine ⟨t, rfl, ⟨_, SqT.of hT⟩, lc_in (walk_tup (xs := fs.drop (i + 1))) (fun j H7 => H7 D2 = some (.lst ((bs ++ ((qs.drop (i + 1)).take j).map (go2 p)).map V.bl)) ∧ H7 t = some (.tup (fs.drop (i + 1))) ∧ Ext H3 H7)
              ⟨?_, hT, (k4.trans e5).trans k6⟩ (fun j H7 _ ⟨_, h, _⟩ => SqT.of h) (fun j u H7 H8 hj hv hy => ?_) (fun H7 hv => ?_)⟩
            · rw [List.take_zero, List.map_nil, List.append_nil]
              exact k6 _ _ (e5 _ _ hL4)
            · obtain ⟨hL7, hT7, k7⟩ := hv
              obtain ⟨rfl, hu⟩ := hy
              obtain ⟨y, hy, a2, rfl, ha2⟩ := paired_get (paired_drop (i + 1) hPs) hu
              have k07 := k03.trans k7
              refine ⟨rfl, _, rfl, _, rfl, a1, a2, p, y, rfl, k07 _ _ ha1, k07 _ _ ha2, _, hL7, szLt ?_, ?_, ?_, k7.put hD2⟩
              · have hz := congrArg List.length hbs
                rw [List.length_append, List.length_append, List.length_map] at hz
                rw [List.length_map, List.length_append, List.length_map, List.length_take]
                omega
              · rw [upd_same, List.take_add_one, hy]
                simp only [List.map_append, List.append_assoc]
                rfl
              · rw [upd_ne (ne_of hT7 hL7 (by intro z; cases z))]
                exact hT7
            · obtain ⟨hL7, _, k7⟩ := hv
              rw [List.take_of_length_le (by rw [List.length_drop, List.length_drop]; omega)] at hL7
              exact ⟨_, hbs, hL7, k7⟩
          · obtain ⟨bs, hbs, hL4, k4⟩ := hv
            rw [List.drop_eq_nil_of_le (by omega)] at hbs
            rw [show goL [] = [] from rfl, List.append_nil] at hbs
            subst hbs
            exact ⟨D2, goL qs, rfl, SqL.of hL4, q2 _ (k03.trans k4)⟩
abbrev CIF (P : Program) (w : World) (K : PySem.W.Frag) (mg : Str → Option Value) (base : Heap) : Prop := Ca P w K mg base 4 "is_folding" ["rules", "string", "thing"] spIF
abbrev s_least_crossed : Stmt := topS 22
theorem sc_least_crossed : FnScope ["rules", "string", "cross", "found"] ["rules", "string", "cross"] (defScope s_least_crossed) :=
  ⟨rfl, rfl, rfl, by decide +kernel, rfl, by decide +kernel, by decide +kernel⟩
def spLCr : Sp := fun vs H Q _ => ∃ (v : V) (r : Rl) (x : Str) (c : Int), vs = [v, .str x, .int c] ∧ RulesW H v r ∧ RlOk r ∧ x.length ≤ 12 ∧ ∀ (u : V) (H' : Hp), LcAt r x c H' u → Ext H H' → Q u H'
theorem ok_lcr {f : Addr} {fd : FuncData} (F : FunD K "least_crossed" "least_crossed" (defArgs s_least_crossed) (defBody s_least_crossed) (defScope s_least_crossed) [] [("cross", .int 0)] f fd) (call_crossedN : CACrN P w K mg base) : FnOk P w K mg base CX0 6 f fd ["rules", "string", "cross"] spLCr := by
  refine fd_ok F sc_least_crossed (fun vs H Q E h => ?_) (fun cdv A outer s H vs Q E hr h => ?_)
  · obtain ⟨v, r, x, c, rfl, _⟩ := h
    rfl
  · obtain ⟨v, r, x, c, rfl, hR, ok, hx, q⟩ := h
    refine ⟨_, (pss_cons (ps_set (i := 3) sc_least_crossed.nd rfl (.inl rfl) (pe_caN call_crossedN (hr.mono (by decide)) (by rfl) (pa_cons (pv 0) (pa_cons (pv 1) pa_nil)) (pk_cons (pv 2) pk_nil)))
      (pss_one (ps_ret (pe_ifExp (pt_truth (pv 3) (by intro _; rfl)) (pe_ix (ixL K) (pv 3) pe_int (fun _ _ => rfl)) pe_non)))), ?_⟩
    refine ⟨_, rfl, _, rfl, _, rfl, rfl, rfl, v, r, x, c, rfl, hR, ok, hx, fun l us H1 hl hL hP x1 => ?_⟩
    cases hS : SG dCr (crL r x c) with
    | nil =>
      rw [hS] at hP
      cases hP
      exact ⟨_, rfl, false, .inl ⟨[], SqL.of hL, rfl⟩, q .non H1 (by unfold LcAt; rw [hS]) x1⟩
    | cons y t =>
      rw [hS] at hP
      cases hP with
      | cons h _ => exact ⟨_, rfl, true, .inl ⟨_, SqL.of hL, rfl⟩, _, rfl, l, _, 0, _, rfl, rfl, SqL.of hL, by rw [atI_get (by omega) (by rw [List.length_cons]; omega)] <;> rfl, q _ H1 (by unfold LcAt; rw [hS]; exact h) x1⟩
abbrev CLCrN (P : Program) (w : World) (K : PySem.W.Frag) (mg : Str → Option Value) (base : Heap) : Prop := CaN P w K mg base 6 "least_crossed" ["rules", "string", "cross"] 2 ["cross"] (permW [0, 1, 2] []) spLCr

abbrev s_is_stretch : Stmt := topS 14
theorem sc_is_stretch : FnScope ["rules", "string", "thing", "i", "j", "part"] ["rules", "string", "thing"] (defScope s_is_stretch) :=
  ⟨rfl, rfl, rfl, by decide +kernel, rfl, by decide +kernel, by decide +kernel⟩
def spIStB : Sp := fun vs H Q _ => ∃ (v t : V) (r : Rl) (x : Str) (y : St3), vs = [v, .str x, t] ∧ RulesW H v r ∧ x.length ≤ 12 ∧ Tri H t y ∧ IsSt r x y ∧ ∀ H', Ext H H' → Q (.bl true) H'
theorem ok_istB {f : Addr} {fd : FuncData} (F : Fun K "is_stretch" "is_stretch" s_is_stretch f fd) (cis_row : CRow2 P w K mg base) (cis_whole : CWhI P w K mg base) (cstretch_pairs : CPrs P w K mg base) (cmay_pair : CMPX P w K mg base) (mlen : mg "len" = none) (mall : mg "all" = none) : FnOk P w K mg base CX0 3 f fd ["rules", "string", "thing"] spIStB := by
  refine F.ok sc_is_stretch (fun vs H Q E h => ?_) (fun cdv A outer s H vs Q E hr h => ?_)
  · obtain ⟨v, t, r, x, y, rfl, _⟩ := h
    rfl
  · obtain ⟨v, t, r, x, y, rfl, hR, hx, ⟨a, rfl, ha⟩, hy, q⟩ := h
    refine ⟨_, (pss_cons (ps_if (PW.pt (pw_or (pt_not (pt_val (pe_ca cis_row (hr.mono (by decide)) (by rfl) (pa_cons (pv 2) (pa_cons pe_int pa_nil))))) (pw_or1 (pt_not (pt_val (pe_callB (cr_all rfl) (by rfl) mall (by decide +kernel) (pa_cons (pe_lc (own := [("part", 5)]) (g := gName 5) (by rfl) sc_is_stretch.nd (pi_tup (pv 2)) (blkOk_by (own := [("part", 5)]) (N := ["rules", "string", "thing", "i", "j", "part"]) (sc := defScope s_is_stretch) (by decide +kernel)) (fun _ _ _ _ _ => (pg_name (i := 5) sc_is_stretch.nd rfl (.inl rfl))) (fun _ _ _ _ _ => pts_nil) (fun _ _ _ _ _ => (pe_ca cis_whole (hr.mono (by decide)) (by rfl) (pa_cons (pv 5) pa_nil)))) pa_nil))))))) (pss_one (ps_ret pe_bl)) pss_nil)
      (pss_cons (ps_if (pt_not (pt_chain op_le op_le pe_int (pe_ix (ixT K) (pv 2) pe_int (fun _ _ => rfl)) (pe_callB call_len_str (by rfl) mlen (by decide +kernel) (pa_cons (pv 1) pa_nil)))) (pss_one (ps_ret pe_bl)) pss_nil)
      (pss_one (ps_ret (pe_callB (cr_all rfl) (by rfl) mall (by decide +kernel) (pa_cons (pe_lc (own := [("i", 3), ("j", 4)]) (g := gTup K 2 (gCons (gName 3) (gCons (gName 4) gNil))) (by rfl) sc_is_stretch.nd (pi_list (pe_ca cstretch_pairs (hr.mono (by decide)) (by rfl) (pa_cons (pv 2) pa_nil))) (blkOk_by (own := [("i", 3), ("j", 4)]) (N := ["rules", "string", "thing", "i", "j", "part"]) (sc := defScope s_is_stretch) (by decide +kernel)) (fun _ _ _ _ _ => (pgT K rfl (pgs_cons (pg_name (i := 3) sc_is_stretch.nd rfl (.inl rfl)) (pgs_cons (pg_name (i := 4) sc_is_stretch.nd rfl (.inl rfl)) pgs_nil)))) (fun _ _ _ _ _ => pts_nil) (fun _ _ _ _ _ => (pe_ca cmay_pair (hr.mono (by decide)) (by rfl) (pa_cons (pv 0) (pa_cons (pv 1) (pa_cons (pv 3) (pa_cons (pv 4) pa_nil))))))) pa_nil)))))), ?_⟩
    have hyo := (stL_ok hx ((stL_mem hx).mpr hy))
    refine ⟨_, rfl, a, _, 3, rfl, ha, true, rfl, iteF ?_⟩
    refine ⟨_, rfl, a, rfl, ⟨_, SqT.of ha⟩, fun D hD => lc_tup (K := K) (xs := [.int y.1, .int y.2.1, .int y.2.2]) (fun i H2 => H2 D = some (.lst ((List.replicate i true).map V.bl)) ∧ i ≤ 3 ∧ Ext H H2)
      ⟨upd_same, by omega, Ext.new hD⟩ (fun i H2 _ h => SqT.of (h.2.2 _ _ ha)) (fun i u H2 hi hv => ?_) (fun H2 hv => ?_)⟩
    · obtain ⟨hL, _, k2⟩ := hv
      have hil := (List.getElem?_eq_some_iff.mp hi).1
      have hil : i < 3 := hil
      have hu : ∃ n : Int, u = .int n := by
        match i, hil, hi with
        | 0, _, hi => cases hi; exact ⟨_, rfl⟩
        | 1, _, hi => cases hi; exact ⟨_, rfl⟩
        | 2, _, hi => cases hi; exact ⟨_, rfl⟩
      obtain ⟨n, rfl⟩ := hu
      refine ⟨rfl, _, rfl, n, rfl, _, hL, szLt (by rw [List.length_map, List.length_replicate]; omega), ?_, by omega, k2.put hD⟩
      rw [List.replicate_succ', List.map_append]
      exact upd_same
    · obtain ⟨hL, _, k2⟩ := hv
      have hL : H2 D = some (.lst ((List.replicate 3 true).map V.bl)) := hL
      have ha2 := k2 _ _ ha
      refine ⟨D, _, rfl, SqL.of hL, true, rfl, iteF ?_⟩
      refine ⟨_, rfl, a, _, 2, _, rfl, rfl, SqT.of ha2, rfl, _, _, rfl, rfl, _, rfl, ?_⟩
      rw [decide_eq_true (show (1 : Int) ≤ y.2.2 by omega)]
      refine iteT ⟨_, rfl, x, rfl, szL (by omega), _, _, rfl, rfl, _, rfl, ?_⟩
      have h0 := okk_lt (hy.2.2.2 (y.2.2 - 1).toNat (by omega))
      rw [decide_eq_true (show y.2.2 ≤ (x.length : Int) by have := hy.1; have := hy.2.1; omega)]
      refine iteF ⟨_, rfl, _, y, rfl, ⟨a, rfl, ha2⟩, by omega, by omega, fun l us H3 hl hL3 hP3 k3 => ?_⟩
      have k03 := k2.trans k3
      have hul := paired_len hP3
      rw [prs_len] at hul
      refine ⟨l, rfl, ⟨_, SqL.of hL3⟩, fun D2 hD2 => lc_list (K := K) (xs := us) (fun c H4 => H4 D2 = some (.lst ((List.replicate c true).map V.bl)) ∧ c ≤ us.length ∧ Ext H3 H4)
        ⟨upd_same, Nat.zero_le _, Ext.new hD2⟩ (fun c H4 _ h => SqL.of (h.2.2 _ _ hL3)) (fun c u H4 hc hv => ?_) (fun H4 hv => ?_)⟩
      · obtain ⟨hL4, _, k4⟩ := hv
        obtain ⟨p, hp, a1, rfl, ha1⟩ := paired_get hP3 hc
        have hcl := (List.getElem?_eq_some_iff.mp hc).1
        have k04 := k03.trans k4
        have hb := prs_b hy (List.mem_of_getElem? hp)
        refine ⟨a1, _, rfl, SqT.of (k4 _ _ ha1), rfl, _, _, rfl, _, _, rfl, rfl, rfl, _, rfl, _, rfl, _, rfl, _, rfl, v, r, x, p.1, p.2, rfl, RulesW.mono _ _ _ _ (TupK.ext k04) hR, by omega, fun H5 k5 => ⟨_, k5 _ _ hL4, szLt (by rw [List.length_map, List.length_replicate]; omega), ?_, by omega, (k4.trans k5).put hD2⟩⟩
        have e : mpB r x p.1 p.2 = true := by
          unfold mpB
          rw [decide_eq_true ⟨hb.1, hb.2.1, hb.2.2.1⟩, hb.2.2.2]
          rfl
        rw [upd_same, e, List.replicate_succ', List.map_append]
        rfl
      · obtain ⟨hL4, _, k4⟩ := hv
        refine ⟨D2, _, rfl, SqL.of hL4, ?_⟩
        have e : (List.replicate us.length true).all id = true := List.all_eq_true.mpr fun b hb => (List.mem_replicate.mp hb).2
        rw [e]
        exact q _ (k03.trans k4)
abbrev CIStB (P : Program) (w : World) (K : PySem.W.Frag) (mg : Str → Option Value) (base : Heap) : Prop := Ca P w K mg base 3 "is_stretch" ["rules", "string", "thing"] spIStB
abbrev s_is_crossed : Stmt := topS 16
theorem sc_is_crossed : FnScope ["rules", "string", "thing", "part"] ["rules", "string", "thing"] (defScope s_is_crossed) :=
  ⟨rfl, rfl, rfl, by decide +kernel, rfl, by decide +kernel, by decide +kernel⟩
def spICrB : Sp := fun vs H Q _ => ∃ (v t : V) (r : Rl) (x : Str) (c : St3 × St3), vs = [v, .str x, t] ∧ RulesW H v r ∧ x.length ≤ 12 ∧ CfAt H t c ∧ IsSt r x c.1 ∧ IsSt r x c.2 ∧ crB c.1 c.2 = true ∧ ∀ H', Ext H H' → Q (.bl true) H'
theorem ok_icrB {f : Addr} {fd : FuncData} (F : Fun K "is_crossed" "is_crossed" s_is_crossed f fd) (cis_row : CRow2 P w K mg base) (cis_stretch : CIStB P w K mg base) (cdo_cross : CDC P w K mg base) (mall : mg "all" = none) : FnOk P w K mg base CX0 4 f fd ["rules", "string", "thing"] spICrB := by
  refine F.ok sc_is_crossed (fun vs H Q E h => ?_) (fun cdv A outer s H vs Q E hr h => ?_)
  · obtain ⟨v, t, r, x, c, rfl, _⟩ := h
    rfl
  · obtain ⟨v, t, r, x, c, rfl, hR, hx, ⟨a, v1, v2, rfl, ha, h1, h2⟩, s1, s2, hc, q⟩ := h
    refine ⟨_, (pss_cons (ps_if (PW.pt (pw_or (pt_not (pt_val (pe_ca cis_row (hr.mono (by decide)) (by rfl) (pa_cons (pv 2) (pa_cons pe_int pa_nil))))) (pw_or1 (pt_not (pt_val (pe_callB (cr_all rfl) (by rfl) mall (by decide +kernel) (pa_cons (pe_lc (own := [("part", 3)]) (g := gName 3) (by rfl) sc_is_crossed.nd (pi_tup (pv 2)) (blkOk_by (own := [("part", 3)]) (N := ["rules", "string", "thing", "part"]) (sc := defScope s_is_crossed) (by decide +kernel)) (fun _ _ _ _ _ => (pg_name (i := 3) sc_is_crossed.nd rfl (.inl rfl))) (fun _ _ _ _ _ => pts_nil) (fun _ _ _ _ _ => (pe_ca cis_stretch (hr.mono (by decide)) (by rfl) (pa_cons (pv 0) (pa_cons (pv 1) (pa_cons (pv 3) pa_nil)))))) pa_nil))))))) (pss_one (ps_ret pe_bl)) pss_nil)
      (pss_one (ps_ret (pe_ca cdo_cross (hr.mono (by decide)) (by rfl) (pa_cons (pe_ix (ixT K) (pv 2) pe_int (fun _ _ => rfl)) (pa_cons (pe_ix (ixT K) (pv 2) pe_int (fun _ _ => rfl)) pa_nil)))))), ?_⟩
    refine ⟨_, rfl, a, _, 2, rfl, ha, true, rfl, iteF ?_⟩
    refine ⟨_, rfl, a, rfl, ⟨_, SqT.of ha⟩, fun D hD => lc_tup (K := K) (xs := [v1, v2]) (fun i H2 => H2 D = some (.lst ((List.replicate i true).map V.bl)) ∧ i ≤ 2 ∧ Ext H H2)
      ⟨upd_same, by omega, Ext.new hD⟩ (fun i H2 _ h => SqT.of (h.2.2 _ _ ha)) (fun i u H2 hi hv => ?_) (fun H2 hv => ?_)⟩
    · obtain ⟨hL, _, k2⟩ := hv
      have hil := (List.getElem?_eq_some_iff.mp hi).1
      have hil : i < 2 := hil
      have hu : ∃ y : St3, Tri H u y ∧ IsSt r x y := by
        match i, hil, hi with
        | 0, _, hi => cases hi; exact ⟨_, h1, s1⟩
        | 1, _, hi => cases hi; exact ⟨_, h2, s2⟩
      obtain ⟨y, hT, hy⟩ := hu
      refine ⟨rfl, _, rfl, _, rfl, _, rfl, v, u, r, x, y, rfl, RulesW.mono _ _ _ _ (TupK.ext k2) hR, hx, Tri.mono _ _ _ _ (TupK.ext k2) hT, hy, fun H3 k3 => ⟨_, k3 _ _ hL, szLt (by rw [List.length_map, List.length_replicate]; omega), ?_, by omega, (k2.trans k3).put hD⟩⟩
      rw [List.replicate_succ', List.map_append]
      exact upd_same
    · obtain ⟨hL, _, k2⟩ := hv
      have hL : H2 D = some (.lst ((List.replicate 2 true).map V.bl)) := hL
      have ha2 := k2 _ _ ha
      refine ⟨D, _, rfl, SqL.of hL, true, rfl, iteF ?_⟩
      refine ⟨_, rfl, a, _, 0, _, rfl, rfl, SqT.of ha2, rfl, _, rfl, a, _, 1, _, rfl, rfl, SqT.of ha2, rfl, v1, v2, c.1, c.2, rfl, Tri.mono _ _ _ _ (TupK.ext k2) h1, Tri.mono _ _ _ _ (TupK.ext k2) h2, ?_⟩
      rw [hc]
      exact q _ k2
abbrev CICrB (P : Program) (w : World) (K : PySem.W.Frag) (mg : Str → Option Value) (base : Heap) : Prop := Ca P w K mg base 4 "is_crossed" ["rules", "string", "thing"] spICrB
abbrev s_law_back_about : Stmt := topS 38
theorem sc_law_back_about : FnScope ["_law_folding", "_law_size", "_law_found", "_law_i", "_law_j", "_law_many"] ["_law_folding", "_law_size"] (defScope s_law_back_about) :=
  ⟨rfl, rfl, rfl, by decide +kernel, rfl, by decide +kernel, by decide +kernel⟩
def spBack : Sp := fun vs H Q _ => ∃ (u : V) (n : Int) (c : St3 × St3), vs = [u, .int n] ∧ CfAt H u c ∧ ∀ v' H', CfAt H' v' (tn3 n c.2, tn3 n c.1) → Ext H H' → Q v' H'
theorem ok_back {f : Addr} {fd : FuncData} {k : Nat} (F : Fun K "_law_back_about" "_law_back_about" s_law_back_about f fd) (mtuple : mg "tuple" = none) : FnOk P w K mg base CX0 (k + 1) f fd ["_law_folding", "_law_size"] spBack := by
  refine F.ok sc_law_back_about (fun vs H Q E h => ?_) (fun cdv A outer s H vs Q E hr h => ?_)
  · obtain ⟨u, n, c, rfl, _⟩ := h
    rfl
  · obtain ⟨u, n, c, rfl, ⟨a, v1, v2, rfl, ha, h1, h2⟩, q⟩ := h
    refine ⟨_, (pss_cons (ps_setLc (i := 2) (own := [("_law_i", 3), ("_law_j", 4), ("_law_many", 5)]) (g := gTup K 3 (gCons (gName 3) (gCons (gName 4) (gCons (gName 5) gNil)))) (by rfl) sc_law_back_about.nd rfl rfl (sw_true rfl rfl rfl (by decide +kernel)) (pi_tup (pv 0)) (blkOk_by (own := [("_law_i", 3), ("_law_j", 4), ("_law_many", 5)]) (N := ["_law_folding", "_law_size", "_law_found", "_law_i", "_law_j", "_law_many"]) (sc := defScope s_law_back_about) (by decide +kernel)) (fun _ _ _ _ _ => (pgT K rfl (pgs_cons (pg_name (i := 3) sc_law_back_about.nd rfl (.inl rfl)) (pgs_cons (pg_name (i := 4) sc_law_back_about.nd rfl (.inl rfl)) (pgs_cons (pg_name (i := 5) sc_law_back_about.nd rfl (.inl rfl)) pgs_nil))))) (fun _ _ _ _ _ => pts_nil) (fun _ _ _ _ _ => (pe_tup (pa_cons (pe_op op_sub (pe_op op_sub (pv 1) pe_int) (pv 4)) (pa_cons (pe_op op_sub (pe_op op_sub (pv 1) pe_int) (pv 3)) (pa_cons (pv 5) pa_nil))))))
      (pss_one (ps_ret (pe_callTy (tupleOf K) (by rfl) mtuple (by decide +kernel) (pa_cons (pe_revL (pv 2)) pa_nil))))), ?_⟩
    have hP : Paired (Tri H) [v1, v2] [c.1, c.2] := .cons h1 (.cons h2 .nil)
    refine ⟨_, rfl, a, rfl, ⟨_, SqT.of ha⟩, fun D hD => lc_tup (K := K) (xs := [v1, v2]) (GenP Tri D H ([c.1, c.2].map (tn3 n))) (gen_new hD) (fun i H2 _ h => SqT.of (h.ext _ _ ha)) (fun i u H2 hi hv => ?_) (fun H2 hv => ?_)⟩
    · obtain ⟨y, hy, b1, rfl, hb1⟩ := paired_get hP hi
      have k2 := hv.ext
      refine ⟨b1, _, rfl, SqT.of (k2 _ _ hb1), rfl, _, _, rfl, _, _, rfl, _, _, rfl, rfl, rfl, ?_⟩
      refine ⟨_, rfl, _, _, rfl, rfl, _, rfl, _, _, rfl, rfl, _, rfl, _, _, rfl, rfl, _, rfl, _, _, rfl, rfl, _, rfl, szL (show 3 ≤ 1000000 by decide), fun t ht => ?_⟩
      refine gen_step Tri.mono hD hv (Ext.new ht) (b := tn3 n y) ⟨t, rfl, upd_same⟩ (by rw [List.getElem?_map, hy]; rfl) (by show 2 ≤ 1000000; decide)
    obtain ⟨vs2, hL2, hP2, k2⟩ := gen_end hv (Nat.le_refl 2)
    refine go_name ?_
    dsimp only
    obtain ⟨w1, w2, rfl, hw1, hw2⟩ : ∃ w1 w2, vs2 = [w1, w2] ∧ Tri H2 w1 (tn3 n c.1) ∧ Tri H2 w2 (tn3 n c.2) := by
      cases hP2 with
      | cons h1 t =>
        cases t with
        | cons h2 t =>
          cases t
          exact ⟨_, _, rfl, h1, h2⟩
    refine ⟨_, rfl, D, _, rfl, SqL.of hL2, fun l3 hl3 => ?_⟩
    have x3 := Ext.new (o := .lst [w1, w2].reverse) hl3
    refine ⟨l3, _, rfl, .inl ⟨SqL.of upd_same, fun tp htp => ?_⟩⟩
    have x4 := Ext.new (o := .tup [w1, w2].reverse) htp
    have x34 := x3.trans x4
    exact q _ _ ⟨tp, w2, w1, rfl, upd_same, Tri.mono _ _ _ _ (TupK.ext x34) hw2, Tri.mono _ _ _ _ (TupK.ext x34) hw1⟩ (k2.trans x34)
abbrev CBack (P : Program) (w : World) (K : PySem.W.Frag) (mg : Str → Option Value) (base : Heap) : Prop := Ca P w K mg base 1 "_law_back_about" ["_law_folding", "_law_size"] spBack
abbrev s_law_each_right : Stmt := topS 39
theorem sc_law_each_right : FnScope ["_law_code_here", "_law_page_here", "_law_rows", "_law_by", "_law_worth", "_law_folding", "_law_stretch"] ["_law_code_here", "_law_page_here", "_law_rows", "_law_by"] (defScope s_law_each_right) :=
  ⟨rfl, rfl, rfl, by decide +kernel, rfl, by decide +kernel, by decide +kernel⟩
def spEach : Sp := fun vs H Q _ => ∃ (v : V) (r : Rl) (x : Str) (l : Addr) (us : List V) (L : List Cr) (b : Int), vs = [v, .str x, .ref l, .int b] ∧ RulesW H v r ∧ RlOk r ∧ x.length ≤ 12 ∧ H l = some (.lst us) ∧ Paired (CrAt H) us L ∧ (∀ c ∈ L, c ∈ crL r x b) ∧ ∀ H', Ext H H' → Q (.bl true) H'
theorem ok_each {f : Addr} {fd : FuncData} (F : Fun K "_law_each_right" "_law_each_right" s_law_each_right f fd) (cis_crossed : CICrB P w K mg base) (ccrossed_worthN : CCrWN P w K mg base) (cis_folding : CIF P w K mg base) (c_law_pairs_of : CPrsL P w K mg base) (mtuple : mg "tuple" = none) : FnOk P w K mg base CX0 5 f fd ["_law_code_here", "_law_page_here", "_law_rows", "_law_by"] spEach := by
  refine F.ok sc_law_each_right (fun vs H Q E h => ?_) (fun cdv A outer s H vs Q E hr h => ?_)
  · obtain ⟨v, r, x, l, us, L, b, rfl, _⟩ := h
    rfl
  · obtain ⟨v, r, x, l, us, L, b, rfl, hR, ok, hx, hL, hP, hin, q⟩ := h
    refine ⟨_, (pss_cons (ps_for PassesOwn.never rfl (pi_list (pv 2)) (pg_tup rfl (pgs_cons (pg_name (i := 4) sc_law_each_right.nd rfl (.inl rfl)) (pgs_cons (pg_name (i := 5) sc_law_each_right.nd rfl (.inl rfl)) pgs_nil))) (pss_cons (ps_if (pt_cmpR op_isnot_bl (pe_ca cis_crossed (hr.mono (by decide)) (by rfl) (pa_cons (pv 0) (pa_cons (pv 1) (pa_cons (pv 5) pa_nil)))) pe_bl (nomark _)) (pss_one (ps_ret pe_bl)) pss_nil)
      (pss_cons (ps_if (pt_cmpR op_ne (pe_caN ccrossed_worthN (hr.mono (by decide)) (by rfl) (pa_cons (pv 0) (pa_cons (pv 1) (pa_cons (pv 5) pa_nil))) (pk_cons (pv 3) pk_nil)) (pv 4) (nomark _)) (pss_one (ps_ret pe_bl)) pss_nil)
      (pss_one (ps_for PassesOwn.never rfl (pi_tup (pv 5)) (pg_name (i := 6) sc_law_each_right.nd rfl (.inl rfl)) (pss_one (ps_if (pt_cmpR op_isnot_bl (pe_ca cis_folding (hr.mono (by decide)) (by rfl) (pa_cons (pv 0) (pa_cons (pv 1) (pa_cons (pe_callTy (tupleOf K) (by rfl) mtuple (by decide +kernel) (pa_cons (pe_ca c_law_pairs_of (hr.mono (by decide)) (by rfl) (pa_cons (pv 6) pa_nil)) pa_nil)) pa_nil)))) pe_bl (nomark _)) (pss_one (ps_ret pe_bl)) pss_nil)))))))
      (pss_one (ps_ret pe_bl))), ?_⟩
    refine ⟨_, rfl, l, rfl, ⟨_, SqL.of hL⟩, for_list (K := K) (xs := us) (fun i σ H2 => ∃ (y4 y5 y6 : Option V), σ = [some v, some (.str x), some (.ref l), some (.int b), y4, y5, y6] ∧ Ext H H2)
      ⟨none, none, none, rfl, Ext.refl⟩ (fun i σ H2 _ h => by obtain ⟨_, _, _, _, k⟩ := h; exact SqL.of (k _ _ hL)) (fun i u σ H2 hi hv => ?_) (fun σ H2 hv => ?_)⟩
    · obtain ⟨y4, y5, y6, rfl, k2⟩ := hv
      obtain ⟨c, hc, a1, uf, rfl, ha1, hF⟩ := paired_get hP hi
      obtain ⟨y, hy, z, hz, hcr, rfl⟩ := crL_in (hin c (List.mem_of_getElem? hc))
      have hy0 := stL_ok hx hy
      have hz0 := stL_ok hx hz
      have hyS := (stL_mem hx).mp hy
      have hzS := (stL_mem hx).mp hz
      have hF2 := CfAt.mono _ _ _ _ (TupK.ext k2) hF
      refine ⟨a1, _, rfl, SqT.of (k2 _ _ ha1), rfl, _, _, rfl, _, _, rfl, rfl, ?_⟩
      refine ifnoS (fun H' => Ext H2 H') (fun Q3 q3 => ?_) (fun H3 k3 => ?_)
      · exact ⟨_, rfl, _, rfl, _, rfl, v, uf, r, x, (y, z), rfl, RulesW.mono _ _ _ _ (TupK.ext k2) hR, hx, hF2, hyS, hzS, hcr, fun H3 k3 => ⟨true, true, rfl, rfl, false, rfl, q3 _ k3⟩⟩
      have k23 := k2.trans k3
      obtain ⟨tf, v1, v2, rfl, htf, hT1, hT2⟩ := CfAt.mono _ _ _ _ (TupK.ext k3) hF2
      refine ifnoS (fun H' => Ext H3 H') (fun Q3 q3 => ?_) (fun H4 k4 => ?_)
      · refine ⟨_, rfl, _, rfl, _, rfl, _, rfl, rfl, rfl, v, r, x, tf, v1, v2, y, z, b, rfl, RulesW.mono _ _ _ _ (TupK.ext k23) hR, ok, hx, htf, hT1, hT2, hy0.1, hz0.1, fun H4 k4 => ⟨_, rfl, rfl, false, ?_, q3 _ k4⟩⟩
        show V.bl (!decide (V.int (b + (wS r x y + wS r x z)) = V.int (b + wS r x y + wS r x z))) = V.bl false
        rw [decide_eq_true (by rw [show b + (wS r x y + wS r x z) = b + wS r x y + wS r x z by omega])]
        rfl
      have k24 := k23.trans k4
      have ht4 := k4 _ _ htf
      have hT14 := Tri.mono _ _ _ _ (TupK.ext k4) hT1
      have hT24 := Tri.mono _ _ _ _ (TupK.ext k4) hT2
      have hPp : Paired (Tri H4) [v1, v2] [y, z] := .cons hT14 (.cons hT24 .nil)
      refine ⟨_, rfl, tf, rfl, ⟨_, SqT.of ht4⟩, for_tup (K := K) (xs := [v1, v2]) (fun j σ H5 => ∃ y6 : Option V, σ = [some v, some (.str x), some (.ref l), some (.int b), some (.int (b + wS r x y + wS r x z)), some (.ref tf), y6] ∧ Ext H4 H5)
        ⟨_, rfl, Ext.refl⟩ (fun j σ H5 _ h => by obtain ⟨_, _, k⟩ := h; exact SqT.of (k _ _ ht4)) (fun j u σ H5 hj hv => ?_) (fun σ H5 hv => ?_)⟩
      · obtain ⟨y6, rfl, k5⟩ := hv
        obtain ⟨st, hst, hTr⟩ := paired_get hPp hj
        have hS : IsSt r x st := by
          have := List.mem_of_getElem? hst
          simp only [List.mem_cons, List.not_mem_nil, or_false] at this
          rcases this with rfl | rfl
          · exact hyS
          · exact hzS
        have hso := stL_ok hx ((stL_mem hx).mpr hS)
        have hT5 := Tri.mono _ _ _ _ (TupK.ext k5) hTr
        refine go_name ?_
        refine ifno (fun H' => Ext H5 H') (fun Q3 q3 => ?_) (fun H6 k6 => ?_)
        · refine ⟨_, rfl, _, rfl, _, rfl, u, st, rfl, hT5, by omega, by omega, fun lp up H6 hlp hLp hPp6 k6 => ?_⟩
          refine ⟨lp, up, rfl, .inl ⟨SqL.of hLp, fun tp htp => ?_⟩⟩
          have x7 := Ext.new (o := .tup up) htp
          have k27 := (k24.trans k5).trans (k6.trans x7)
          refine ⟨v, .ref tp, r, x, prsOf st, rfl, RulesW.mono _ _ _ _ (TupK.ext k27) hR, by omega, ⟨tp, up, rfl, upd_same, paired_imp (fun _ _ => TwoAt.mono _ _ _ _ (TupK.ext x7)) hPp6⟩, by rw [prs_len]; omega, fun p hp => ?_, fun H8 k8 => ?_⟩
          · have := prs_b hS hp
            exact ⟨this.1, this.2.1, this.2.2.1⟩
          · rw [prs_isF hS]
            exact ⟨true, true, rfl, rfl, false, rfl, q3 _ ((k6.trans x7).trans k8)⟩
        · exact ⟨_, rfl, k5.trans k6⟩
      · obtain ⟨y6, rfl, k5⟩ := hv
        exact ⟨_, _, _, rfl, k24.trans k5⟩
    · obtain ⟨y4, y5, y6, rfl, k2⟩ := hv
      exact q _ k2
abbrev CEach (P : Program) (w : World) (K : PySem.W.Frag) (mg : Str → Option Value) (base : Heap) : Prop := Ca P w K mg base 5 "_law_each_right" ["_law_code_here", "_law_page_here", "_law_rows", "_law_by"] spEach
end
end Pf


namespace Pf
open PySem PySem.Spec PyProof.Rows L2
theorem paired_cut {α β : Type} {R : α → β → Prop} : ∀ {us : List α} {ps : List β}, Paired R us ps → ∀ k, Paired R (us.take k) (ps.take k) ∧ Paired R (us.drop k) (ps.drop k)
  | _, _, .nil, k => by
    rw [List.take_nil, List.take_nil, List.drop_nil, List.drop_nil]
    exact ⟨.nil, .nil⟩
  | _, _, .cons r t, 0 => ⟨.nil, .cons r t⟩
  | _, _, .cons r t, k + 1 => ⟨.cons r (paired_cut t k).1, (paired_cut t k).2⟩
theorem eqv_tri (y z : St3) : PyData.eqv (dTri y) (dTri z) = decide (y = z) := by
  obtain ⟨a, b, c⟩ := y
  obtain ⟨d, e, f⟩ := z
  rw [Bool.eq_iff_iff]
  simp [dTri, PyData.eqv, PyData.eqvAll]
theorem eqv_crr (y z : Cr) : PyData.eqv (dCr y) (dCr z) = decide (y = z) := by
  obtain ⟨a, b, c⟩ := y
  obtain ⟨d, e, f⟩ := z
  rw [Bool.eq_iff_iff]
  simp [dCr, PyData.eqv, PyData.eqvAll, eqv_tri]
theorem eqv_crs : ∀ l m : List Cr, PyData.eqvAll (l.map dCr) (m.map dCr) = decide (l = m)
  | [], [] => by simp [PyData.eqvAll]
  | [], _ :: _ => by simp [PyData.eqvAll]
  | _ :: _, [] => by simp [PyData.eqvAll]
  | y :: l, z :: m => by
    rw [List.map_cons, List.map_cons, PyData.eqvAll, eqv_crr, eqv_crs l m]
    rw [Bool.eq_iff_iff]
    simp
theorem eqv_crL (l m : List Cr) : PyData.eqv (.list (l.map dCr)) (.list (m.map dCr)) = decide (l = m) := by
  rw [PyData.eqv, eqv_crs]
theorem lay_crs : ∀ L : List Cr, PyData.canLayAll0 (L.map dCr) = true
  | [] => by simp [PyData.canLayAll0]
  | y :: L => by
    rw [List.map_cons, PyData.canLayAll0, lay_crs L]
    simp [dCr, dTri, PyData.canLay0, PyData.canLayAll0]
theorem dep_cr1 (c : Cr) : (dCr c).depth ≤ 3 := by
  simp [dCr, dTri, PyData.depth, PyData.depthAll]
theorem dep_crs : ∀ L : List Cr, PyData.depthAll (L.map dCr) ≤ 3
  | [] => by simp [PyData.depthAll]
  | y :: L => by
    rw [List.map_cons, PyData.depthAll]
    have h1 := dep_cr1 y
    have h2 := dep_crs L
    omega
theorem shaped_crs (L : List Cr) : SeqAt.shaped (.list (L.map dCr)) = true := by
  show (PyData.canLay0 (.list (L.map dCr)) && decide (PyData.depth (.list (L.map dCr)) ≤ 64)) = true
  have h1 : PyData.canLay0 (.list (L.map dCr)) = true := by
    rw [PyData.canLay0]
    exact lay_crs L
  have h2 : PyData.depth (.list (L.map dCr)) ≤ 64 := by
    rw [PyData.depth]
    have := dep_crs L
    omega
  rw [h1, decide_eq_true h2]
  rfl
theorem shaped_cr (c : Cr) : SeqAt.shaped (dCr c) = true := by
  show (PyData.canLay0 (dCr c) && decide (PyData.depth (dCr c) ≤ 64)) = true
  have h1 : PyData.canLay0 (dCr c) = true := by simp [dCr, dTri, PyData.canLay0, PyData.canLayAll0]
  have h2 := dep_cr1 c
  rw [h1, decide_eq_true (by omega)]
  rfl
def tri3 (y : St3) : List Int := [y.1, y.2.1, y.2.2]
theorem tri3_inj (y z : St3) (h : tri3 y = tri3 z) : y = z := by
  obtain ⟨a, b, c⟩ := y
  obtain ⟨d, e, f⟩ := z
  simp only [tri3, List.cons.injEq, and_true] at h
  simp only [Prod.mk.injEq]
  omega
def rowC (c : Cr) : Int × List St3 := (c.1, [c.2.1, c.2.2])
theorem rowC_inj (c d : Cr) (h : rowC c = rowC d) : c = d := by
  obtain ⟨a, b, e⟩ := c
  obtain ⟨f, g, i⟩ := d
  simp only [rowC, Prod.mk.injEq, List.cons.injEq, and_true] at h
  obtain ⟨rfl, rfl, rfl⟩ := h
  rfl
theorem cr_row {H : Hp} {a : Addr} {c : Cr} (h : CrAt H (.ref a) c) : RowE tri3 H a (rowC c) := by
  obtain ⟨_, u, e, ha, b, v1, v2, rfl, hb, ⟨t1, rfl, h1⟩, ⟨t2, rfl, h2⟩⟩ := h
  cases e
  exact ⟨b, ha, _, hb, .cons ⟨t1, rfl, h1⟩ (.cons ⟨t2, rfl, h2⟩ .nil)⟩
/-- crossed foldings with their worths -/
def kdCr (P : Program) (w : World) : Kd P w Cr where
  N := (kdRow P w tri3 tri3_inj).N.by rowC rowC_inj
  S := (kdRow P w tri3 tri3_inj).S.by _ _
  h8 := (kdRow P w tri3 tri3_inj).h8
  at_ := fun H a c => CrAt H (.ref a) c
  sound := fun ok h => (kdRow P w tri3 tri3_inj).sound ok (cr_row h)
theorem crs_at {H : Hp} {ws : List V} {L : List Cr} (p : Paired (CrAt H) ws L) : ∃ ks : List (Addr × Cr), ws = ks.map (fun z => V.ref z.1) ∧ ks.map (·.2) = L ∧ ∀ z ∈ ks, CrAt H (.ref z.1) z.2 := by
  induction p with
  | nil => exact ⟨[], rfl, rfl, fun z hz => by cases hz⟩
  | @cons v q _ _ h _ ih =>
    obtain ⟨ks, e1, e2, e3⟩ := ih
    obtain ⟨t, u, rfl, hr⟩ := id h
    refine ⟨(t, q) :: ks, by rw [List.map_cons, ← e1], by rw [List.map_cons, e2], fun z hz => ?_⟩
    rcases List.mem_cons.mp hz with rfl | hz
    · exact h
    · exact e3 z hz
theorem at_crs {H : Hp} : ∀ (ks : List (Addr × Cr)), (∀ z ∈ ks, CrAt H (.ref z.1) z.2) → Paired (CrAt H) (ks.map fun z => V.ref z.1) (ks.map (·.2))
  | [], _ => .nil
  | z :: ks, h => .cons (h z (List.mem_cons_self ..)) (at_crs ks fun y hy => h y (List.mem_cons_of_mem _ hy))
theorem SG_self (L : List Cr) : SG dCr (SG dCr L) = SG dCr L := SG_eq (SG_perm dCr L)
section
variable {P : Program} {w : World} {K : PySem.W.Frag} {mg : Str → Option Value} {base : Heap}
abbrev CStart (P : Program) (w : World) (K : PySem.W.Frag) (mg : Str → Option Value) (base : Heap) : Prop := Ca P w K mg base 1 "_law_pen" ["_law_script"] (spStart K)
abbrev s_law : Stmt := topS 40
theorem sc_law : FnScope ["_law_script", "_law_pen_here", "_law_turn", "_law_code_here", "_law_page_here", "_law_by", "_law_rows", "_law_spot", "_law_some", "_law_size", "_law_worth", "_law_folding", "_law_right", "_law_wider", "_law_letter", "_law_moved_on", "_law_shape", "_law_row", "_law_i", "_law_j", "_law_many"] ["_law_script"] (defScope s_law) :=
  ⟨rfl, rfl, rfl, by decide +kernel, rfl, by decide +kernel, by decide +kernel⟩
def spLaw (K : PySem.W.Frag) : Sp := fun vs H Q _ => ∃ (a : Addr) (ns : List Int), vs = [.ref a] ∧ SqL K H a (ns.map V.int) ∧ ns.length ≤ 63 ∧ ∀ H', Q (.bl true) H'
theorem ok_law {f : Addr} {fd : FuncData} (F : Fun K "law" "law" s_law f fd) (room : Room 18 callerA) (c_law_pen : CStart P w K mg base) (c_law_pick : CDraw P w K mg base) (c_law_some_worth : CWorth P w K mg base) (c_law_code : CRules P w K mg base) (c_law_crossing_page : CCPg P w K mg base) (c_law_turned : CTurn P w K mg base) (c_law_more_letters : CMore P w K mg base) (c_law_back_about : CBack P w K mg base) (c_law_each_right : CEach P w K mg base) (call_crossedN : CACrN P w K mg base) (call_crossedE : CACrE P w K mg base) (cleast_crossedN : CLCrN P w K mg base)
    (mrange : mg "range" = none) (mlen : mg "len" = none) (msorted : mg "sorted" = none) (mset : mg "set" = none) (mtuple : mg "tuple" = none) : FnG P w K mg base f fd ["_law_script"] (spLaw K) := by
  refine FnG.of (k := 17) F sc_law room (fun vs H Q E h => ?_) (fun cdv s H vs Q E hr hG h => ?_)
  · obtain ⟨a, ns, rfl, _⟩ := h
    rfl
  · obtain ⟨a, ns, rfl, hS, hns, q⟩ := h
    refine ⟨_, (pss_cons (ps_set (i := 1) sc_law.nd rfl (.inl rfl) (pe_ca c_law_pen (hr.mono (by decide)) (by rfl) (pa_cons (pv 0) pa_nil)))
      (pss_cons (ps_for PassesOwn.never rfl (pi_range1 (by rfl) mrange (pa_cons pe_int pa_nil)) (pg_name (i := 2) sc_law.nd rfl (.inl rfl)) (pss_cons (ps_set (i := 3) sc_law.nd rfl (.inl rfl) (pe_ca c_law_code (hr.mono (by decide)) (by rfl) (pa_cons (pv 1) pa_nil)))
      (pss_cons (ps_set (i := 4) sc_law.nd rfl (.inl rfl) (pe_ca c_law_crossing_page (hr.mono (by decide)) (by rfl) (pa_cons (pv 1) (pa_cons (pv 3) (pa_cons (pe_ix (ixL K) (pe_lst (pa_cons pe_int (pa_cons pe_int (pa_cons pe_int pa_nil)))) (pv 2) (fun _ _ => rfl)) pa_nil)))))
      (pss_cons (ps_set (i := 5) sc_law.nd rfl (.inr rfl) (pe_ca c_law_some_worth (hr.mono (by decide)) (by rfl) (pa_cons (pv 1) pa_nil)))
      (pss_cons (ps_set (i := 6) sc_law.nd rfl (.inl rfl) (pe_caN call_crossedN (hr.mono (by decide)) (by rfl) (pa_cons (pv 3) (pa_cons (pv 4) pa_nil)) (pk_cons (pv 5) pk_nil)))
      (pss_cons (ps_set (i := 7) sc_law.nd rfl (.inl rfl) (pe_ca c_law_pick (hr.mono (by decide)) (by rfl) (pa_cons (pv 1) (pa_cons (pe_op op_add (pe_callB (lenQ K) (by rfl) mlen (by decide +kernel) (pa_cons (pv 6) pa_nil)) pe_int) pa_nil))))
      (pss_cons (ps_set (i := 8) sc_law.nd rfl (.inl rfl) (pe_slice (slL K) (pe_op op_cat (pe_slice (slL K) (pv 6) (po_some (pv 7)) po_none) (pe_slice (slL K) (pv 6) po_none (po_some (pv 7)))) po_none (po_some pe_int)))
      (pss_cons (ps_if (PW.pt (pw_or (pt_cmpR (neD K hr.units) (pv 6) (pe_sortSetN (kdCr P w) dCr rfl hr.units (by rfl) msorted (by rfl) mset (pv 6)) (nomark _)) (pw_or1 (pt_not (pt_val (pe_ca c_law_each_right (hr.mono (by decide)) (by rfl) (pa_cons (pv 3) (pa_cons (pv 4) (pa_cons (pv 8) (pa_cons (pv 5) pa_nil)))))))))) (pss_one (ps_ret pe_bl)) pss_nil)
      (pss_cons (ps_set (i := 9) sc_law.nd rfl (.inr rfl) (pe_callB call_len_str (by rfl) mlen (by decide +kernel) (pa_cons (pv 4) pa_nil)))
      (pss_cons (ps_set (i := 12) sc_law.nd rfl (.inl rfl) (pe_callB (cr_sortD K hr.units) (by rfl) msorted (by decide +kernel) (pa_cons (pe_lc (own := [("_law_worth", 10), ("_law_folding", 11)]) (g := gTup K 2 (gCons (gName 10) (gCons (gName 11) gNil))) (by rfl) sc_law.nd (pi_list (pv 6)) (blkOk_by (own := [("_law_worth", 10), ("_law_folding", 11)]) (N := ["_law_script", "_law_pen_here", "_law_turn", "_law_code_here", "_law_page_here", "_law_by", "_law_rows", "_law_spot", "_law_some", "_law_size", "_law_worth", "_law_folding", "_law_right", "_law_wider", "_law_letter", "_law_moved_on", "_law_shape", "_law_row", "_law_i", "_law_j", "_law_many"]) (sc := defScope s_law) (by decide +kernel)) (fun _ _ _ _ _ => (pgT K rfl (pgs_cons (pg_name (i := 10) sc_law.nd rfl (.inl rfl)) (pgs_cons (pg_name (i := 11) sc_law.nd rfl (.inl rfl)) pgs_nil)))) (fun _ _ _ _ _ => pts_nil) (fun _ _ _ _ _ => (pe_tup (pa_cons (pv 10) (pa_cons (pe_ca c_law_back_about (hr.mono (by decide)) (by rfl) (pa_cons (pv 11) (pa_cons (pv 9) pa_nil))) pa_nil))))) pa_nil)))
      (pss_cons (ps_if (pt_cmpR (neD K hr.units) (pe_caN call_crossedN (hr.mono (by decide)) (by rfl) (pa_cons (pe_ca c_law_turned (hr.mono (by decide)) (by rfl) (pa_cons (pv 3) pa_nil)) (pa_cons (pe_revX (pv 4)) pa_nil)) (pk_cons (pv 5) pk_nil)) (pv 12) (nomark _)) (pss_one (ps_ret pe_bl)) pss_nil)
      (pss_cons (ps_if (pt_cmpR (neD K hr.units) (pe_caE call_crossedE (hr.mono (by decide)) (by rfl) (pa_cons (pv 3) (pa_cons (pv 4) pa_nil))) (pe_lc (own := [("_law_row", 17)]) (g := gName 17) (by rfl) sc_law.nd (pi_list (pv 6)) (blkOk_by (own := [("_law_row", 17)]) (N := ["_law_script", "_law_pen_here", "_law_turn", "_law_code_here", "_law_page_here", "_law_by", "_law_rows", "_law_spot", "_law_some", "_law_size", "_law_worth", "_law_folding", "_law_right", "_law_wider", "_law_letter", "_law_moved_on", "_law_shape", "_law_row", "_law_i", "_law_j", "_law_many"]) (sc := defScope s_law) (by decide +kernel)) (fun _ _ _ _ _ => (pg_name (i := 17) sc_law.nd rfl (.inl rfl))) (fun _ _ _ _ _ => pts_nil) (fun _ _ _ _ _ => (pe_tup (pa_cons (pe_op op_sub (pe_ix (ixT K) (pv 17) pe_int (fun _ _ => rfl)) (pv 5)) (pa_cons (pe_ix (ixT K) (pv 17) pe_int (fun _ _ => rfl)) pa_nil))))) (nomark _)) (pss_one (ps_ret pe_bl)) pss_nil)
      (pss_cons (ps_if (pt_cmpR (neD K hr.units) (pe_caN cleast_crossedN (hr.mono (by decide)) (by rfl) (pa_cons (pv 3) (pa_cons (pv 4) pa_nil)) (pk_cons (pv 5) pk_nil)) (pe_ix (ixL K) (pe_op op_cat (pv 6) (pe_lst (pa_cons pe_non pa_nil))) pe_int (fun _ _ => rfl)) (nomark _)) (pss_one (ps_ret pe_bl)) pss_nil)
      (pss_cons (ps_asg (pe_ca c_law_more_letters (hr.mono (by decide)) (by rfl) (pa_cons (pv 3) pa_nil)) (pg_tup rfl (pgs_cons (pg_name (i := 13) sc_law.nd rfl (.inl rfl)) (pgs_cons (pg_name (i := 14) sc_law.nd rfl (.inl rfl)) pgs_nil))))
      (pss_one (ps_if (pt_cmpR op_ne (pv 14) pe_str (nomark _)) (pss_cons (ps_set (i := 15) sc_law.nd rfl (.inl rfl) (pe_lst pa_nil))
      (pss_cons (ps_for PassesOwn.never rfl (pi_list (pv 6)) (pg_tup rfl (pgs_cons (pg_name (i := 10) sc_law.nd rfl (.inl rfl)) (pgs_cons (pg_name (i := 11) sc_law.nd rfl (.inl rfl)) pgs_nil))) (pss_cons (ps_set (i := 16) sc_law.nd rfl (.inl rfl) (pe_callTy (tupleOf K) (by rfl) mtuple (by decide +kernel) (pa_cons (pe_lc (own := [("_law_i", 18), ("_law_j", 19), ("_law_many", 20)]) (g := gTup K 3 (gCons (gName 18) (gCons (gName 19) (gCons (gName 20) gNil)))) (by rfl) sc_law.nd (pi_tup (pv 11)) (blkOk_by (own := [("_law_i", 18), ("_law_j", 19), ("_law_many", 20)]) (N := ["_law_script", "_law_pen_here", "_law_turn", "_law_code_here", "_law_page_here", "_law_by", "_law_rows", "_law_spot", "_law_some", "_law_size", "_law_worth", "_law_folding", "_law_right", "_law_wider", "_law_letter", "_law_moved_on", "_law_shape", "_law_row", "_law_i", "_law_j", "_law_many"]) (sc := defScope s_law) (by decide +kernel)) (fun _ _ _ _ _ => (pgT K rfl (pgs_cons (pg_name (i := 18) sc_law.nd rfl (.inl rfl)) (pgs_cons (pg_name (i := 19) sc_law.nd rfl (.inl rfl)) (pgs_cons (pg_name (i := 20) sc_law.nd rfl (.inl rfl)) pgs_nil))))) (fun _ _ _ _ _ => pts_nil) (fun _ _ _ _ _ => (pe_tup (pa_cons (pe_op op_add (pv 18) pe_int) (pa_cons (pe_op op_add (pv 19) pe_int) (pa_cons (pv 20) pa_nil)))))) pa_nil)))
      (pss_one (ps_expr (pe_bm PySem.F.plainAttrs_list PySem.F.slot_list_append PySem.F.type_list_append mt_append (pv 15) (pa_cons (pe_tup (pa_cons (pv 10) (pa_cons (pv 16) pa_nil))) pa_nil))))))
      (pss_cons (ps_if (pt_cmpR (neD K hr.units) (pe_caN call_crossedN (hr.mono (by decide)) (by rfl) (pa_cons (pv 13) (pa_cons (pe_op op_add_str (pv 4) (pv 14)) pa_nil)) (pk_cons (pv 5) pk_nil)) (pv 6) (nomark _)) (pss_one (ps_ret pe_bl)) pss_nil)
      (pss_one (ps_if (pt_cmpR (neD K hr.units) (pe_caN call_crossedN (hr.mono (by decide)) (by rfl) (pa_cons (pv 13) (pa_cons (pe_op op_add_str (pv 14) (pv 4)) pa_nil)) (pk_cons (pv 5) pk_nil)) (pv 15) (nomark _)) (pss_one (ps_ret pe_bl)) pss_nil))))) pss_nil))))))))))))))))
      (pss_one (ps_ret pe_bl)))), ?_⟩
    refine ⟨_, rfl, a, ns, rfl, hS, hns, fun p c H1 hP1 => ?_⟩
    refine ⟨3, rfl, by decide, by decide, for_range (n := 3) (fun i σ H2 => ∃ (y2 y3 y4 y5 y6 y7 y8 y9 y10 y11 y12 y13 y14 y15 y16 : Option V), σ = [some (.ref a), some (.ref p), y2, y3, y4, y5, y6, y7, y8, y9, y10, y11, y12, y13, y14, y15, y16, none, none, none, none] ∧ Pen H2 p c (500 * i))
      ⟨none, none, none, none, none, none, none, none, none, none, none, none, none, none, none, rfl, hP1⟩ (fun i σ H2 hi hv => ?_) (fun σ H2 hv => ?_)⟩
    · obtain ⟨y2, y3, y4, y5, y6, y7, y8, y9, y10, y11, y12, y13, y14, y15, y16, rfl, hP2⟩ := hv
      refine ⟨_, rfl, p, c, _, rfl, hP2, by omega, fun v r H3 hr3 ok of3 k3 hP3 => ?_⟩
      obtain ⟨m2, hm2, hat2⟩ := atI_ints (ns := [11, 8, 9]) (i := 0 + (i : Int)) (by omega) (show (0 : Int) + (i : Int) < 3 by omega)
      have hm2b : 0 ≤ m2 ∧ m2 ≤ 11 := by
        simp only [List.mem_cons, List.not_mem_nil, or_false] at hm2
        omega
      refine ⟨_, rfl, _, rfl, szL (show 3 ≤ 1000000 by decide), fun l6 hl6 => ?_⟩
      have hr6 := RulesAt.mono _ _ _ _ (TupK.new (o := .lst [.int 11, .int 8, .int 9]) hl6) hr3
      refine ⟨_, rfl, l6, _, _, _, rfl, rfl, SqL.of upd_same, hat2, p, c, v, r, m2, _, rfl, hr6, ok, of3, hm2b.1, by omega, hP3.new hl6, by omega, fun x H7 hxm hO k7 hP7 => ?_⟩
      have hr7 := RulesAt.mono _ _ _ _ (TupK.of k7 (hP3.new hl6)) hr6
      have hx11 : x.length ≤ 11 := by omega
      refine ⟨_, rfl, p, c, _, rfl, hP7, by omega, fun b H8 b0 b1 k8 hP8 => ?_⟩
      have hr8 := RulesAt.mono _ _ _ _ (TupK.of k8 hP7) hr7
      -- all of them
      refine ⟨_, rfl, _, rfl, _, rfl, rfl, rfl, v, r, x, b, rfl, hr8.w, ok, by omega, fun l us H9 hl hL9 hPr9 x9 => ?_⟩
      have hul := paired_len hPr9
      have hcl := crL_few r (x := x) (by omega) b
      have hsl := SG_len dCr (crL r x b)
      have hP9 := hP8.ext x9
      obtain ⟨op8, hop8⟩ := hP8.some0
      have nl : l ≠ p := ne_old0 hop8 hl
      have hr9 := RulesAt.mono _ _ _ _ (TupK.ext x9) hr8
      clear hr7 hr6 hP7 k7 k8 hP8 hr8 hr3 hP3 k3
      obtain ⟨rows, hrows⟩ : ∃ rows, rows = SG dCr (crL r x b) := ⟨_, rfl⟩
      have hin : ∀ c ∈ rows, c ∈ crL r x b := fun c hc => by
        rw [hrows] at hc
        exact (SG_perm _ _).mem_iff.mp hc
      have hnd : rows.Nodup := by
        rw [hrows, (SG_perm _ _).nodup_iff]
        exact crL_nd r (by omega) b
      have hself : SG dCr rows = rows := by rw [hrows, SG_self]
      rw [← hrows] at hPr9 hul hsl
      -- some of them
      refine ⟨_, rfl, _, rfl, l, us, rfl, .inl (SqL.of hL9), _, _, rfl, rfl, p, c, (us.length : Int) + 1, _, rfl, hP9, by omega, by omega, by omega, fun d H10 d0 d1 k10 hP10 => ?_⟩
      obtain ⟨sp, rfl⟩ := Int.eq_ofNat_of_zero_le d0
      have hL10 := k10 _ _ nl hL9
      have hPr10 := paired_imp (fun _ _ => CrAt.mono _ _ _ _ (TupK.of k10 hP9)) hPr9
      have hr10 := RulesAt.mono _ _ _ _ (TupK.of k10 hP9) hr9
      have q10 : ∀ {H' : Hp}, Ext H10 H' → Pen H' p c (500 * i + 420) := fun k => (hP10.ext k).mono (by omega)
      have hLE : ∀ {H' : Hp}, Ext H10 H' → H' l = some (.lst us) := fun k => k _ _ hL10
      have hPE : ∀ {H' : Hp}, Ext H10 H' → Paired (CrAt H') us rows := fun k => paired_imp (fun _ _ => CrAt.mono _ _ _ _ (TupK.ext k)) hPr10
      have hRE : ∀ {H' : Hp}, Ext H10 H' → RulesAt H' v r := fun k => RulesAt.mono _ _ _ _ (TupK.ext k) hr10
      have hDE : ∀ {H' : Hp}, Ext H10 H' → Dp K H' (.ref l) (.list (rows.map dCr)) := fun k => .lst (SqL.of (hLE k)) (dpCrs (hPE k))
      clear hP10 hP9 hP2 hr9 hPr9 hL9 x9
      refine go_name ?_
      dsimp only
      -- some of them
      delta tNoPart
      refine ⟨_, rfl, _, rfl, (sp : Int), rfl, l, us, rfl, SqL.of hL10, fun l1 hl1 => ?_⟩
      have x11 := Ext.new (o := .lst (cutV us (some (sp : Int)) none)) hl1
      have hL11 : upd H10 l1 (.lst (cutV us (some (sp : Int)) none)) l1 = some (.lst (us.drop sp)) := by rw [upd_same, cut_from]
      generalize upd H10 l1 (.lst (cutV us (some (sp : Int)) none)) = H11 at x11 hL11 ⊢
      refine ⟨_, rfl, _, rfl, (sp : Int), rfl, l, us, rfl, SqL.of (hLE x11), fun l2 hl2 => ?_⟩
      have x12 := Ext.new (o := .lst (cutV us none (some (sp : Int)))) hl2
      have hL12 : upd H11 l2 (.lst (cutV us none (some (sp : Int)))) l2 = some (.lst (us.take sp)) := by rw [upd_same, cut_to]
      generalize upd H11 l2 (.lst (cutV us none (some (sp : Int)))) = H12 at x12 hL12 ⊢
      refine ⟨l1, l2, us.drop sp, us.take sp, rfl, rfl, x12 _ _ hL11, hL12, szL (by rw [List.length_drop, List.length_take]; omega), fun l3 hl3 => ?_⟩
      have x13 := Ext.new (o := .lst (us.drop sp ++ us.take sp)) hl3
      have hL13 : upd H12 l3 (.lst (us.drop sp ++ us.take sp)) l3 = some (.lst (us.drop sp ++ us.take sp)) := upd_same
      generalize upd H12 l3 (.lst (us.drop sp ++ us.take sp)) = H13 at x13 hL13 ⊢
      refine ⟨(40 : Int), rfl, l3, us.drop sp ++ us.take sp, rfl, SqL.of hL13, fun l4 hl4 => ?_⟩
      have x14 := Ext.new (o := .lst (cutV (us.drop sp ++ us.take sp) none (some ((40 : Nat) : Int)))) hl4
      have hL14 : upd H13 l4 (.lst (cutV (us.drop sp ++ us.take sp) none (some ((40 : Nat) : Int)))) l4 = some (.lst ((us.drop sp ++ us.take sp).take 40)) := by rw [upd_same, cut_to]
      have k14 := ((x11.trans x12).trans x13).trans x14
      have hPs : Paired (CrAt (upd H13 l4 (.lst (cutV (us.drop sp ++ us.take sp) none (some ((40 : Nat) : Int)))))) ((us.drop sp ++ us.take sp).take 40) ((rows.drop sp ++ rows.take sp).take 40) :=
        (paired_cut (paired_app (paired_cut (hPE k14) sp).2 (paired_cut (hPE k14) sp).1) 40).1
      refine go_name ?_
      dsimp only
      show tSeq _ _ _ _ (upd H13 l4 (.lst (cutV (us.drop sp ++ us.take sp) none (some ((40 : Nat) : Int)))))
      generalize upd H13 l4 (.lst (cutV (us.drop sp ++ us.take sp) none (some ((40 : Nat) : Int)))) = H14 at hL14 k14 hPs ⊢
      have hins : ∀ c ∈ (rows.drop sp ++ rows.take sp).take 40, c ∈ crL r x b := fun c hc => by
        rcases List.mem_append.mp (List.mem_of_mem_take hc) with h | h
        · exact hin c (List.mem_of_mem_drop h)
        · exact hin c (List.mem_of_mem_take h)
      generalize (rows.drop sp ++ rows.take sp).take 40 = some' at hPs hins
      generalize (us.drop sp ++ us.take sp).take 40 = vs' at hPs hL14
      clear hL13 hL12 hL11 x11 x12 x13 x14 hl1 hl2 hl3 hl4
      refine ifnoS (fun H' => Ext H10 H') (fun Q2 q2 => ?_) (fun H15 k15 => ?_)
      · obtain ⟨ks, ek1, ek2, ek3⟩ := crs_at (hPE k14)
        have hkl : ks.length = us.length := by rw [ek1, List.length_map]
        refine ⟨_, rfl, _, rfl, l, ks, rfl, by rw [← ek1]; exact SqL.of (hLE k14), by omega, by rw [ek2]; exact hnd, ek3, fun b hb => ⟨dp_cr (ek3 b hb), dep_cr _⟩, fun ls pm => ⟨?_, ?_⟩, fun lb ls pm hb => ?_⟩
        · intro d1 h1 d2 h2
          obtain ⟨b1, _, rfl⟩ := List.mem_map.mp h1
          obtain ⟨b2, _, rfl⟩ := List.mem_map.mp h2
          exact alike_cr _ _
        · refine .inl fun e he => ?_
          obtain ⟨b1, _, rfl⟩ := List.mem_map.mp he
          exact ⟨_, _, rfl⟩
        have es : (ls.mergeSort (PySem.W.dataLe false fun b => dCr b.2)).map (·.2) = rows := by
          have hm := List.map_mergeSort (r := PySem.W.dataLe false fun b : Addr × Cr => dCr b.2) (s := PySem.W.dataLe false dCr) (f := fun b : Addr × Cr => b.2) (l := ls) (fun a _ b _ => rfl)
          rw [hm]
          exact (SG_eq ((pm.map (·.2)).trans (by rw [ek2] : (ks.map (·.2)).Perm rows))).trans hself
        obtain ⟨S, hS⟩ : ∃ S, S = ls.mergeSort (PySem.W.dataLe false fun b => dCr b.2) := ⟨_, rfl⟩
        have hSm : ∀ z ∈ S, z ∈ ks := fun z hz => by
          rw [hS] at hz
          exact pm.mem_iff.mp ((List.mergeSort_perm _ _).mem_iff.mp hz)
        rw [← hS] at es ⊢
        have x16 := Ext.new (o := .lst (S.map fun p => V.ref p.1)) hb
        have hL16 : upd H14 lb (.lst (S.map fun p => V.ref p.1)) lb = some (.lst (S.map fun p => V.ref p.1)) := upd_same
        generalize upd H14 lb (.lst (S.map fun p => V.ref p.1)) = H16 at x16 hL16 ⊢
        have hP16 : Paired (CrAt H16) (S.map fun p => V.ref p.1) rows := by
          rw [← es]
          exact at_crs _ fun z hz => CrAt.mono _ _ _ _ (TupK.ext x16) (ek3 z (hSm z hz))
        refine ⟨.list (rows.map dCr), .list (rows.map dCr), hDE (k14.trans x16), .lst (SqL.of hL16) (dpCrs hP16), shaped_crs _, shaped_crs _, _, rfl, ?_⟩
        rw [eqv_crL, decide_eq_true rfl]
        refine iteF ?_
        refine ⟨_, rfl, _, rfl, _, rfl, _, rfl, v, r, x, l4, vs', some', b, rfl, (hRE (k14.trans x16)).w, ok, by omega, x16 _ _ hL14, paired_imp (fun _ _ => CrAt.mono _ _ _ _ (TupK.ext x16)) hPs, hins, fun H17 k17 => ⟨true, rfl, q2 _ ((k14.trans x16).trans k17)⟩⟩
      -- turned about, sorted
      refine ⟨_, rfl, x, rfl, szL (by omega), ?_⟩
      refine ⟨_, rfl, l, rfl, ⟨_, SqL.of (hLE k15)⟩, fun G hG => lc_list (K := K) (xs := us) (GenP CrAt G H15 (rows.map (bkC x.length))) (gen_new hG) (fun j H16 _ h => SqL.of (hLE (k15.trans h.ext))) (fun j u H16 hj hv => ?_) (fun H16 hv => ?_)⟩
      · have k16 := hv.ext
        obtain ⟨c1, hc1, a1, uf, rfl, ha1, hF⟩ := paired_get (hPE (k15.trans k16)) hj
        refine ⟨a1, _, rfl, SqT.of ha1, rfl, _, _, rfl, _, _, rfl, rfl, rfl, ?_⟩
        refine ⟨_, rfl, _, rfl, _, rfl, uf, (x.length : Int), c1.2, rfl, hF, fun v' H17 hF' k17 => ⟨szL (show 2 ≤ 1000000 by decide), fun t ht => ?_⟩⟩
        have x18 := Ext.new (o := .tup [.int c1.1, v']) ht
        refine gen_step CrAt.mono hG hv (k17.trans x18) (b := bkC x.length c1) ⟨t, v', rfl, upd_same, CfAt.mono _ _ _ _ (TupK.ext x18) hF'⟩ ?_ (by rw [List.length_map]; omega)
        rw [List.getElem?_map, hc1]
        rfl
      obtain ⟨vs2, hL16, hP16, k16⟩ := gen_end hv (by rw [List.length_map]; omega)
      delta tNil
      refine sort_g CrAt.mono (fun _ _ h => dp_cr h) dep_cr alike_cr (fun b => ⟨_, _, rfl⟩) hL16 hP16 fun lt wt H17 hlt hL17 hP17 k17 => ?_
      have k1017 := (k15.trans k16).trans k17
      refine go_name ?_
      dsimp only
      refine ifnoS (fun H' => Ext H17 H') (fun Q2 q2 => ?_) (fun H20 k20 => ?_)
      · refine ⟨_, rfl, v, r, rfl, (hRE k1017).w, ok, fun v' r' H18 hR' eL el es ep ek k18 => ?_⟩
        have ok' := turned_ok ok eL el es ep ek
        have T := tnd_of ok el es ep ek x
        have hrv : (revX x).length = x.length := revX_len x
        have pe : SG dCr (crL r' (revX x) b) = SG dCr (rows.map (bkC x.length)) := SG_eq ((turn_crL (by omega) hrv T T.symm b).trans (by rw [hrows]; exact ((SG_perm dCr _).map _).symm))
        refine ⟨_, rfl, x, rfl, szL (by omega), _, rfl, rfl, rfl, v', r', revX x, b, rfl, hR', ok', by omega, fun p2 ws2 H19 hp2 hL19 hP19 x19 => ?_⟩
        rw [pe] at hP19
        have k1719 := k18.trans x19
        refine ⟨_, rfl, .list ((SG dCr (rows.map (bkC x.length))).map dCr), .list ((SG dCr (rows.map (bkC x.length))).map dCr), .lst (SqL.of hL19) (dpCrs hP19), .lst (SqL.of (k1719 _ _ hL17)) (dpCrs (paired_imp (fun _ _ => CrAt.mono _ _ _ _ (TupK.ext k1719)) hP17)), shaped_crs _, shaped_crs _, _, rfl, ?_⟩
        rw [eqv_crL, decide_eq_true rfl]
        exact q2 _ k1719
      have k1020 := k1017.trans k20
      clear hL17 hP17 hlt k17 hL16 hP16 k16 hv
      -- worth nothing together
      refine ifnoS (fun H' => Ext H20 H') (fun Q2 q2 => ?_) (fun H23 k23 => ?_)
      · refine ⟨_, rfl, _, rfl, v, r, x, 0, rfl, (hRE k1020).w, ok, by omega, fun p2 ws2 H21 hp2 hL21 hP21 x21 => ?_⟩
        have k1021 := k1020.trans x21
        have e0 : rows = (SG dCr (crL r x 0)).map (shC b) := by rw [SG_sh, crL_sh, hrows]
        have h0l := congrArg List.length e0
        rw [List.length_map] at h0l
        refine ⟨_, rfl, l, rfl, ⟨_, SqL.of (hLE k1021)⟩, fun G hG => lc_list (K := K) (xs := us) (GenP CrAt G H21 (SG dCr (crL r x 0))) (gen_new hG) (fun j H22 _ h => SqL.of (hLE (k1021.trans h.ext))) (fun j u H22 hj hv => ?_) (fun H22 hv => ?_)⟩
        · have k22 := hv.ext
          obtain ⟨c1, hc1, a1, uf, rfl, ha1, hF⟩ := paired_get (hPE (k1021.trans k22)) hj
          rw [e0, List.getElem?_map] at hc1
          obtain ⟨c0, hc0, rfl⟩ := Option.map_eq_some_iff.mp hc1
          refine ⟨rfl, _, rfl, a1, _, 0, _, rfl, rfl, SqT.of ha1, rfl, _, rfl, _, _, rfl, rfl, _, rfl, a1, _, 1, _, rfl, rfl, SqT.of ha1, rfl, szL (show 2 ≤ 1000000 by decide), fun t ht => ?_⟩
          have ew : (shC b c0).1 - b = c0.1 := by show c0.1 + b - b = c0.1; omega
          dsimp only
          rw [ew]
          have x18 := Ext.new (o := .tup [.int c0.1, uf]) ht
          exact gen_step CrAt.mono hG hv x18 (b := c0) ⟨t, uf, rfl, upd_same, CfAt.mono _ _ _ _ (TupK.ext x18) hF⟩ hc0 (by omega)
        obtain ⟨vs3, hL22, hP22, k22⟩ := gen_end hv (by omega)
        refine ⟨.list ((SG dCr (crL r x 0)).map dCr), .list ((SG dCr (crL r x 0)).map dCr), .lst (SqL.of (k22 _ _ hL21)) (dpCrs (paired_imp (fun _ _ => CrAt.mono _ _ _ _ (TupK.ext k22)) hP21)), .lst (SqL.of hL22) (dpCrs hP22), shaped_crs _, shaped_crs _, _, rfl, ?_⟩
        rw [eqv_crL, decide_eq_true rfl]
        exact q2 _ (x21.trans k22)
      have k1023 := k1020.trans k23
      -- the least
      refine ifnoS (fun H' => Ext H23 H') (fun Q2 q2 => ?_) (fun H26 k26 => ?_)
      · refine ⟨_, rfl, _, rfl, _, rfl, rfl, rfl, v, r, x, b, rfl, (hRE k1023).w, ok, by omega, fun u H24 hu k24 => ?_⟩
        refine ⟨_, rfl, szL (show 1 ≤ 1000000 by decide), fun ln hln => ?_⟩
        have x25 := Ext.new (o := .lst [V.non]) hln
        have k2425 := k24.trans x25
        have hL25 := upd_same (H := H24) (a := ln) (o := .lst [V.non])
        have hu25 := hu.ext x25
        generalize upd H24 ln (.lst [V.non]) = H25 at x25 k2425 hL25 hu25 ⊢
        have k1025 := k1023.trans k2425
        refine ⟨l, ln, us, [V.non], rfl, rfl, hLE k1025, hL25, szL (by rw [List.length_singleton]; omega), fun l3 hl3 => ?_⟩
        have x26 := Ext.new (o := .lst (us ++ [V.non])) hl3
        have hL26 := upd_same (H := H25) (a := l3) (o := .lst (us ++ [V.non]))
        have hu26 := hu25.ext x26
        generalize upd H25 l3 (.lst (us ++ [V.non])) = H26 at x26 hL26 hu26 ⊢
        have hP26 := hPE (k1025.trans x26)
        have k2326 := k2425.trans x26
        unfold LcAt at hu26
        rw [← hrows] at hu26
        cases hrw : rows with
        | nil =>
          rw [hrw] at hu26 hP26
          cases hP26
          have hu26 : u = .non := hu26
          subst hu26
          refine ⟨l3, [V.non], 0, .non, rfl, rfl, SqL.of hL26, rfl, .none, .none, .non, .non, by decide +kernel, by decide +kernel, false, by decide +kernel, q2 _ k2326⟩
        | cons y t =>
          rw [hrw] at hu26 hP26
          cases hP26 with
          | @cons u0 _ us0 _ h0 _ =>
            have hu26 : CrAt H26 u y := hu26
            refine ⟨l3, u0 :: us0 ++ [V.non], 0, u0, rfl, rfl, SqL.of hL26, (by rw [atI_get (by omega) (by rw [List.cons_append, List.length_cons]; omega)] <;> rfl), dCr y, dCr y, dp_cr hu26, dp_cr h0, shaped_cr _, shaped_cr _, _, rfl, ?_⟩
            rw [eqv_crr, decide_eq_true rfl]
            exact q2 _ k2326
      have k1026 := k1023.trans k26
      have hP26 := q10 k1026
      -- a letter more
      refine ⟨_, rfl, v, r, rfl, hRE k1026, ok, of3, fun t H27 ht k27 => ?_, fun t v2 ch H27 h5 hnc c0 c1 ht hRw k27 => ?_⟩
      · refine ⟨t, _, rfl, SqT.of ht, rfl, _, _, rfl, _, _, rfl, rfl, ?_⟩
        refine ⟨_, rfl, rfl, _, rfl, iteNS rfl ?_⟩
        exact ⟨_, _, _, _, _, _, _, _, _, _, _, _, _, _, _, rfl, (hP26.ext k27).mono (by omega)⟩
      · refine ⟨t, _, rfl, SqT.of ht, rfl, _, _, rfl, _, _, rfl, rfl, ?_⟩
        have hne : ¬ V.str ⟨#[ch]⟩ = V.str "" := fun z => by
          injection z with z
          have h1 : (⟨#[ch]⟩ : Str).length = ("" : Str).length := congrArg Str.length z
          have h2 : (⟨#[ch]⟩ : Str).length = 1 := rfl
          have h3 : ("" : Str).length = 0 := by decide
          omega
        refine ⟨_, rfl, rfl, _, rfl, ?_⟩
        rw [decide_eq_false hne]
        refine iteT ?_
        have k1027 := k1026.trans k27
        have okw := wide_ok ok h5 c0 c1
        have hch1 : (⟨#[ch]⟩ : Str).length = 1 := rfl
        have lA : (x ++ ⟨#[ch]⟩ : Str).length = x.length + 1 := by rw [app_len, hch1]
        have lB : (⟨#[ch]⟩ ++ x : Str).length = 1 + x.length := by rw [app_len, hch1]
        have eA : SG dCr (crL (wideR r ch) (x ++ ⟨#[ch]⟩) b) = rows := by
          rw [hrows]
          refine SG_eq ((sft_crL (by omega) (by omega) (sft_tail of3 hnc x) b).trans ?_)
          have : (crL r x b).map (mvC 0) = crL r x b := by
            conv => rhs; rw [← List.map_id (crL r x b)]
            exact List.map_congr_left fun y _ => mvC_zero y
          rw [this]
        have eB : SG dCr (crL (wideR r ch) (⟨#[ch]⟩ ++ x) b) = rows.map (mvC 1) := by
          rw [hrows, SG_mv]
          exact SG_eq (sft_crL (by omega) (by omega) (sft_head of3 hnc x) b)
        refine ⟨Nat.zero_le _, fun M hM => ?_⟩
        have x28 := Ext.new (o := .lst []) hM
        have hg0 := genl_new (R := CrAt) hM
        refine go_name ?_
        dsimp only
        have hLM : ∀ {H' : Hp}, Ext H27 H' → H' l = some (.lst us) := fun k => hLE (k1027.trans k)
        refine ⟨_, rfl, l, rfl, ⟨_, SqL.of (hLM x28)⟩, for_list (K := K) (xs := us) (fun j σ H2 => ∃ (z10 z11 z16 : Option V), σ = [some (.ref a), some (.ref p), some (.int (0 + (i : Int))), some v, some (.str x), some (.int b), some (.ref l), some (.int (sp : Int)), some (.ref l4), some (.int (x.length : Int)), z10, z11, some (.ref lt), some v2, some (.str ⟨#[ch]⟩), some (.ref M), z16, none, none, none, none] ∧ GenL CrAt M H27 ((rows.take j).map (mvC 1)) H2)
          ⟨_, _, _, rfl, hg0⟩ (fun j σ H2 _ h => by obtain ⟨_, _, _, _, h⟩ := h; exact SqL.of (hLM h.ext)) (fun j u σ H2 hj hv => ?_) (fun σ H2 hv => ?_)⟩
        · obtain ⟨z10, z11, z16, rfl, hg⟩ := hv
          obtain ⟨c1, hc1, a1, uf, rfl, ha1, tf, v1, v2', rfl, htf, hT1, hT2⟩ := paired_get (hPE (k1027.trans hg.ext)) hj
          have hjl := (List.getElem?_eq_some_iff.mp hj).1
          refine ⟨a1, _, rfl, SqT.of ha1, rfl, _, _, rfl, _, _, rfl, rfl, ?_⟩
          have hPp : Paired (Tri H2) [v1, v2'] [c1.2.1, c1.2.2] := .cons hT1 (.cons hT2 .nil)
          refine ⟨_, rfl, tf, rfl, ⟨_, SqT.of htf⟩, fun G hG => lc_tup (K := K) (xs := [v1, v2']) (GenP Tri G H2 ([c1.2.1, c1.2.2].map (sh3 1))) (gen_new hG) (fun e H21 _ h => SqT.of (h.ext _ _ htf)) (fun e u H21 he hv2 => ?_) (fun H21 hv2 => ?_)⟩
          · obtain ⟨z, hz, hT⟩ := paired_get hPp he
            obtain ⟨b1, rfl, hb1⟩ := Tri.mono _ _ _ _ (TupK.ext hv2.ext) hT
            refine ⟨b1, _, rfl, SqT.of hb1, rfl, _, _, rfl, _, _, rfl, _, _, rfl, rfl, rfl, ?_⟩
            refine ⟨_, rfl, _, _, rfl, rfl, _, rfl, _, _, rfl, rfl, _, rfl, szL (show 3 ≤ 1000000 by decide), fun t5 ht5 => ?_⟩
            refine gen_step Tri.mono hG hv2 (Ext.new ht5) (b := sh3 1 z) ⟨t5, rfl, upd_same⟩ ?_ (by show 2 ≤ 1000000; decide)
            rw [List.getElem?_map, hz]
            rfl
          obtain ⟨vs3, hL21, hP21, k21⟩ := gen_end hv2 (Nat.le_refl 2)
          obtain ⟨w1, w2, rfl, hw1, hw2⟩ : ∃ w1 w2, vs3 = [w1, w2] ∧ Tri H21 w1 (sh3 1 c1.2.1) ∧ Tri H21 w2 (sh3 1 c1.2.2) := by
            cases hP21 with
            | cons h1 t =>
              cases t with
              | cons h2 t =>
                cases t
                exact ⟨_, _, rfl, h1, h2⟩
          refine ⟨G, _, rfl, .inl ⟨SqL.of hL21, fun tp htp => ?_⟩⟩
          have x22 := Ext.new (o := .tup [w1, w2]) htp
          refine go_name ?_
          dsimp only
          obtain ⟨vM, hM21, _, _⟩ := hg.keep CrAt.mono (k21.trans x22)
          refine ⟨_, rfl, .inl ⟨rfl, _, SqL.of hM21⟩, _, rfl, _, rfl, szL (show 2 ≤ 1000000 by decide), fun t6 ht6 => ?_⟩
          have x23 := Ext.new (o := .tup [.int c1.1, .ref tp]) ht6
          have x223 := x22.trans x23
          refine app_ok CrAt.mono hM hg (k21.trans x223) (b := mvC 1 c1) ⟨t6, .ref tp, rfl, upd_same, tp, w1, w2, rfl, x23 _ _ upd_same, Tri.mono _ _ _ _ (TupK.ext x223) hw1, Tri.mono _ _ _ _ (TupK.ext x223) hw2⟩ (by rw [List.length_map, List.length_take]; omega) fun H8 hg8 => ?_
          refine ⟨_, _, _, rfl, ?_⟩
          rw [List.take_add_one, hc1, List.map_append]
          exact hg8
        obtain ⟨z10, z11, z16, rfl, hg⟩ := hv
        rw [List.take_of_length_le (by omega)] at hg
        obtain ⟨vsM, hLM2, hPM2, kM2⟩ := hg
        have k1028 := k1027.trans kM2
        dsimp only
        refine ifnoS (fun H' => Ext H2 H') (fun Q2 q2 => ?_) (fun H30 k30 => ?_)
        · refine ⟨_, rfl, _, rfl, _, rfl, _, _, rfl, rfl, szL (by rw [hch1]; omega), _, rfl, rfl, rfl, v2, wideR r ch, x ++ ⟨#[ch]⟩, b, rfl, RulesW.mono _ _ _ _ (TupK.ext kM2) hRw, okw, by omega, fun p5 ws5 H24 hp5 hL24 hP24 x24 => ?_⟩
          rw [eA] at hP24
          refine ⟨_, rfl, .list (rows.map dCr), .list (rows.map dCr), .lst (SqL.of hL24) (dpCrs hP24), hDE (k1028.trans x24), shaped_crs _, shaped_crs _, _, rfl, ?_⟩
          rw [eqv_crL, decide_eq_true rfl]
          exact q2 _ x24
        have k2730 := kM2.trans k30
        refine ifno (fun H' => Ext H30 H') (fun Q2 q2 => ?_) (fun H31 k31 => ?_)
        · refine ⟨_, rfl, _, rfl, _, rfl, _, _, rfl, rfl, szL (by rw [hch1]; omega), _, rfl, rfl, rfl, v2, wideR r ch, ⟨#[ch]⟩ ++ x, b, rfl, RulesW.mono _ _ _ _ (TupK.ext k2730) hRw, okw, by omega, fun p5 ws5 H24 hp5 hL24 hP24 x24 => ?_⟩
          rw [eB] at hP24
          have k3024 := k30.trans x24
          refine ⟨_, rfl, .list ((rows.map (mvC 1)).map dCr), .list ((rows.map (mvC 1)).map dCr), .lst (SqL.of hL24) (dpCrs hP24), .lst (SqL.of (k3024 _ _ hLM2)) (dpCrs (paired_imp (fun _ _ => CrAt.mono _ _ _ _ (TupK.ext k3024)) hPM2)), shaped_crs _, shaped_crs _, _, rfl, ?_⟩
          rw [eqv_crL, decide_eq_true rfl]
          exact q2 _ x24
        · exact ⟨_, _, _, _, _, _, _, _, _, _, _, _, _, _, _, rfl, (hP26.ext (k27.trans (k2730.trans k31))).mono (by omega)⟩
    · exact q _
end
end Pf


namespace Pf
open PySem PySem.Spec PyProof.Rows L2
/-! ### what the top has written; the law's own head -/
theorem all_mk {l : PySem.W.OpenLaw} {w : World} {K : PySem.W.Frag} {h : Heap} {mg : Str → Option Value} {fa f0 f1 f2 f3 f4 f5 f6 f7 f8 f9 f10 f11 f12 f13 f14 f15 f16 f17 f18 f19 f20 f21 f22 f23 f24 f25 f26 f27 f28 f29 f30 f31 f32 f33 : Addr} (X : K.In h) (G : h.Ns mainGlobals mg) (hfa : mg "law" = some (.ref fa))
    {od0 an0 od1 an1 od2 an2 od3 an3 od4 an4 od5 an5 od6 an6 od7 an7 od8 an8 od9 an9 od10 an10 od11 an11 od12 an12 od13 an13 od14 an14 od15 an15 od16 an16 od17 an17 od18 an18 od19 an19 od20 an20 od21 an21 od22 an22 od23 an23 od24 an24 od25 an25 od26 an26 od27 an27 od28 an28 od29 an29 od30 an30 od31 an31 od32 an32 od33 an33 : Option Addr} {sl0 sl1 sl2 sl3 sl4 sl5 sl6 sl7 sl8 sl9 sl10 sl11 sl12 sl13 sl14 sl15 sl16 sl17 sl18 sl19 sl20 sl21 sl22 sl23 sl24 sl25 sl26 sl27 sl28 sl29 sl30 sl31 sl32 sl33 : Array (Option Value)} {oc0 kV0 dc0 pm0 cd0 ct0 oc1 kV1 dc1 pm1 cd1 ct1 oc2 kV2 dc2 pm2 cd2 ct2 oc3 kV3 dc3 pm3 cd3 ct3 oc4 kV4 dc4 pm4 cd4 ct4 oc5 kV5 dc5 pm5 cd5 ct5 oc6 kV6 dc6 pm6 cd6 ct6 oc7 kV7 dc7 pm7 cd7 ct7 oc8 kV8 dc8 pm8 cd8 ct8 oc9 kV9 dc9 pm9 cd9 ct9 oc10 kV10 dc10 pm10 cd10 ct10 oc11 kV11 dc11 pm11 cd11 ct11 oc12 kV12 dc12 pm12 cd12 ct12 oc13 kV13 dc13 pm13 cd13 ct13 oc14 kV14 dc14 pm14 cd14 ct14 oc15 kV15 dc15 pm15 cd15 ct15 oc16 kV16 dc16 pm16 cd16 ct16 oc17 kV17 dc17 pm17 cd17 ct17 oc18 dc18 pm18 cd18 ct18 oc19 dc19 pm19 cd19 ct19 oc20 dc20 pm20 cd20 ct20 oc21 kV21 dc21 pm21 cd21 ct21 oc22 kV22 dc22 pm22 cd22 ct22 oc23 kV23 dc23 pm23 cd23 ct23 oc24 kV24 dc24 pm24 cd24 ct24 oc25 kV25 dc25 pm25 cd25 ct25 oc26 kV26 dc26 pm26 cd26 ct26 oc27 kV27 dc27 pm27 cd27 ct27 oc28 kV28 dc28 pm28 cd28 ct28 oc29 kV29 dc29 pm29 cd29 ct29 oc30 kV30 dc30 pm30 cd30 ct30 oc31 kV31 dc31 pm31 cd31 ct31 oc32 kV32 dc32 pm32 cd32 ct32 oc33 kV33 dc33 pm33 cd33 ct33 : Value} {D18 : Addr} {tK18_0 : Tok} {D19 : Addr} {tK19_0 : Tok} {D20 : Addr} {tK20_0 : Tok} {aL : Addr} {odG : Option Addr} {slG : Array (Option Value)} {nG : Nat} {tG0 tG1 tG2 tG3 tG4 tG5 tG6 tG7 tG8 : Tok} 
    (a0 : PySem.W.nsIn K mainGlobals "_law_pen" = some (some (.ref f0))) (l0 : K.lookup f0 = some ⟨oc0, od0, .func (PySem.W.fnOf "_law_pen" "_law_pen" (defArgs s_law_pen) (defBody s_law_pen) (defScope s_law_pen) .none kV0 dc0 pm0 an0 cd0 ct0), sl0⟩) (c0 : PySem.W.codeIn K cd0 "_law_pen" = true) (k0 : PySem.W.keepIn K (.ref f0) = true)
    (a1 : PySem.W.nsIn K mainGlobals "_law_pick" = some (some (.ref f1))) (l1 : K.lookup f1 = some ⟨oc1, od1, .func (PySem.W.fnOf "_law_pick" "_law_pick" (defArgs s_law_pick) (defBody s_law_pick) (defScope s_law_pick) .none kV1 dc1 pm1 an1 cd1 ct1), sl1⟩) (c1 : PySem.W.codeIn K cd1 "_law_pick" = true) (k1 : PySem.W.keepIn K (.ref f1) = true)
    (a2 : PySem.W.nsIn K mainGlobals "_law_some_worth" = some (some (.ref f2))) (l2 : K.lookup f2 = some ⟨oc2, od2, .func (PySem.W.fnOf "_law_some_worth" "_law_some_worth" (defArgs s_law_some_worth) (defBody s_law_some_worth) (defScope s_law_some_worth) .none kV2 dc2 pm2 an2 cd2 ct2), sl2⟩) (c2 : PySem.W.codeIn K cd2 "_law_some_worth" = true) (k2 : PySem.W.keepIn K (.ref f2) = true)
    (a3 : PySem.W.nsIn K mainGlobals "_law_ties" = some (some (.ref f3))) (l3 : K.lookup f3 = some ⟨oc3, od3, .func (PySem.W.fnOf "_law_ties" "_law_ties" (defArgs s_law_ties) (defBody s_law_ties) (defScope s_law_ties) .none kV3 dc3 pm3 an3 cd3 ct3), sl3⟩) (c3 : PySem.W.codeIn K cd3 "_law_ties" = true) (k3 : PySem.W.keepIn K (.ref f3) = true)
    (a4 : PySem.W.nsIn K mainGlobals "_law_code" = some (some (.ref f4))) (l4 : K.lookup f4 = some ⟨oc4, od4, .func (PySem.W.fnOf "_law_code" "_law_code" (defArgs s_law_code) (defBody s_law_code) (defScope s_law_code) .none kV4 dc4 pm4 an4 cd4 ct4), sl4⟩) (c4 : PySem.W.codeIn K cd4 "_law_code" = true) (k4 : PySem.W.keepIn K (.ref f4) = true)
    (a5 : PySem.W.nsIn K mainGlobals "_law_page" = some (some (.ref f5))) (l5 : K.lookup f5 = some ⟨oc5, od5, .func (PySem.W.fnOf "_law_page" "_law_page" (defArgs s_law_page) (defBody s_law_page) (defScope s_law_page) .none kV5 dc5 pm5 an5 cd5 ct5), sl5⟩) (c5 : PySem.W.codeIn K cd5 "_law_page" = true) (k5 : PySem.W.keepIn K (.ref f5) = true)
    (a6 : PySem.W.nsIn K mainGlobals "_law_pairs_of" = some (some (.ref f6))) (l6 : K.lookup f6 = some ⟨oc6, od6, .func (PySem.W.fnOf "_law_pairs_of" "_law_pairs_of" (defArgs s_law_pairs_of) (defBody s_law_pairs_of) (defScope s_law_pairs_of) .none kV6 dc6 pm6 an6 cd6 ct6), sl6⟩) (c6 : PySem.W.codeIn K cd6 "_law_pairs_of" = true) (k6 : PySem.W.keepIn K (.ref f6) = true)
    (a7 : PySem.W.nsIn K mainGlobals "_law_crossing_page" = some (some (.ref f7))) (l7 : K.lookup f7 = some ⟨oc7, od7, .func (PySem.W.fnOf "_law_crossing_page" "_law_crossing_page" (defArgs s_law_crossing_page) (defBody s_law_crossing_page) (defScope s_law_crossing_page) .none kV7 dc7 pm7 an7 cd7 ct7), sl7⟩) (c7 : PySem.W.codeIn K cd7 "_law_crossing_page" = true) (k7 : PySem.W.keepIn K (.ref f7) = true)
    (a8 : PySem.W.nsIn K mainGlobals "pair_worth" = some (some (.ref f8))) (l8 : K.lookup f8 = some ⟨oc8, od8, .func (PySem.W.fnOf "pair_worth" "pair_worth" (defArgs s_pair_worth) (defBody s_pair_worth) (defScope s_pair_worth) .none kV8 dc8 pm8 an8 cd8 ct8), sl8⟩) (c8 : PySem.W.codeIn K cd8 "pair_worth" = true) (k8 : PySem.W.keepIn K (.ref f8) = true)
    (a9 : PySem.W.nsIn K mainGlobals "text_of" = some (some (.ref f9))) (l9 : K.lookup f9 = some ⟨oc9, od9, .func (PySem.W.fnOf "text_of" "text_of" (defArgs s_text_of) (defBody s_text_of) (defScope s_text_of) .none kV9 dc9 pm9 an9 cd9 ct9), sl9⟩) (c9 : PySem.W.codeIn K cd9 "text_of" = true) (k9 : PySem.W.keepIn K (.ref f9) = true)
    (a10 : PySem.W.nsIn K mainGlobals "may_pair" = some (some (.ref f10))) (l10 : K.lookup f10 = some ⟨oc10, od10, .func (PySem.W.fnOf "may_pair" "may_pair" (defArgs s_may_pair) (defBody s_may_pair) (defScope s_may_pair) .none kV10 dc10 pm10 an10 cd10 ct10), sl10⟩) (c10 : PySem.W.codeIn K cd10 "may_pair" = true) (k10 : PySem.W.keepIn K (.ref f10) = true)
    (a11 : PySem.W.nsIn K mainGlobals "stack_worth" = some (some (.ref f11))) (l11 : K.lookup f11 = some ⟨oc11, od11, .func (PySem.W.fnOf "stack_worth" "stack_worth" (defArgs s_stack_worth) (defBody s_stack_worth) (defScope s_stack_worth) .none kV11 dc11 pm11 an11 cd11 ct11), sl11⟩) (c11 : PySem.W.codeIn K cd11 "stack_worth" = true) (k11 : PySem.W.keepIn K (.ref f11) = true)
    (a12 : PySem.W.nsIn K mainGlobals "loop_worths" = some (some (.ref f12))) (l12 : K.lookup f12 = some ⟨oc12, od12, .func (PySem.W.fnOf "loop_worths" "loop_worths" (defArgs s_loop_worths) (defBody s_loop_worths) (defScope s_loop_worths) .none kV12 dc12 pm12 an12 cd12 ct12), sl12⟩) (c12 : PySem.W.codeIn K cd12 "loop_worths" = true) (k12 : PySem.W.keepIn K (.ref f12) = true)
    (a13 : PySem.W.nsIn K mainGlobals "stretch_pairs" = some (some (.ref f13))) (l13 : K.lookup f13 = some ⟨oc13, od13, .func (PySem.W.fnOf "stretch_pairs" "stretch_pairs" (defArgs s_stretch_pairs) (defBody s_stretch_pairs) (defScope s_stretch_pairs) .none kV13 dc13 pm13 an13 cd13 ct13), sl13⟩) (c13 : PySem.W.codeIn K cd13 "stretch_pairs" = true) (k13 : PySem.W.keepIn K (.ref f13) = true)
    (a14 : PySem.W.nsIn K mainGlobals "stretch_worth" = some (some (.ref f14))) (l14 : K.lookup f14 = some ⟨oc14, od14, .func (PySem.W.fnOf "stretch_worth" "stretch_worth" (defArgs s_stretch_worth) (defBody s_stretch_worth) (defScope s_stretch_worth) .none kV14 dc14 pm14 an14 cd14 ct14), sl14⟩) (c14 : PySem.W.codeIn K cd14 "stretch_worth" = true) (k14 : PySem.W.keepIn K (.ref f14) = true)
    (a15 : PySem.W.nsIn K mainGlobals "stretches_at" = some (some (.ref f15))) (l15 : K.lookup f15 = some ⟨oc15, od15, .func (PySem.W.fnOf "stretches_at" "stretches_at" (defArgs s_stretches_at) (defBody s_stretches_at) (defScope s_stretches_at) .none kV15 dc15 pm15 an15 cd15 ct15), sl15⟩) (c15 : PySem.W.codeIn K cd15 "stretches_at" = true) (k15 : PySem.W.keepIn K (.ref f15) = true)
    (a16 : PySem.W.nsIn K mainGlobals "all_stretches" = some (some (.ref f16))) (l16 : K.lookup f16 = some ⟨oc16, od16, .func (PySem.W.fnOf "all_stretches" "all_stretches" (defArgs s_all_stretches) (defBody s_all_stretches) (defScope s_all_stretches) .none kV16 dc16 pm16 an16 cd16 ct16), sl16⟩) (c16 : PySem.W.codeIn K cd16 "all_stretches" = true) (k16 : PySem.W.keepIn K (.ref f16) = true)
    (a17 : PySem.W.nsIn K mainGlobals "do_cross" = some (some (.ref f17))) (l17 : K.lookup f17 = some ⟨oc17, od17, .func (PySem.W.fnOf "do_cross" "do_cross" (defArgs s_do_cross) (defBody s_do_cross) (defScope s_do_cross) .none kV17 dc17 pm17 an17 cd17 ct17), sl17⟩) (c17 : PySem.W.codeIn K cd17 "do_cross" = true) (k17 : PySem.W.keepIn K (.ref f17) = true)
    (a18 : PySem.W.nsIn K mainGlobals "all_crossed" = some (some (.ref f18))) (l18 : K.lookup f18 = some ⟨oc18, od18, .func (PySem.W.fnOf "all_crossed" "all_crossed" (defArgs s_all_crossed) (defBody s_all_crossed) (defScope s_all_crossed) .none (.ref D18) dc18 pm18 an18 cd18 ct18), sl18⟩) (c18 : PySem.W.codeIn K cd18 "all_crossed" = true) (k18 : PySem.W.keepIn K (.ref f18) = true) (q18_0 : PySem.W.nsIn K D18 "cross" = some (some (.int 0 tK18_0)))
    (a19 : PySem.W.nsIn K mainGlobals "crossed_worth" = some (some (.ref f19))) (l19 : K.lookup f19 = some ⟨oc19, od19, .func (PySem.W.fnOf "crossed_worth" "crossed_worth" (defArgs s_crossed_worth) (defBody s_crossed_worth) (defScope s_crossed_worth) .none (.ref D19) dc19 pm19 an19 cd19 ct19), sl19⟩) (c19 : PySem.W.codeIn K cd19 "crossed_worth" = true) (k19 : PySem.W.keepIn K (.ref f19) = true) (q19_0 : PySem.W.nsIn K D19 "cross" = some (some (.int 0 tK19_0)))
    (a20 : PySem.W.nsIn K mainGlobals "least_crossed" = some (some (.ref f20))) (l20 : K.lookup f20 = some ⟨oc20, od20, .func (PySem.W.fnOf "least_crossed" "least_crossed" (defArgs s_least_crossed) (defBody s_least_crossed) (defScope s_least_crossed) .none (.ref D20) dc20 pm20 an20 cd20 ct20), sl20⟩) (c20 : PySem.W.codeIn K cd20 "least_crossed" = true) (k20 : PySem.W.keepIn K (.ref f20) = true) (q20_0 : PySem.W.nsIn K D20 "cross" = some (some (.int 0 tK20_0)))
    (a21 : PySem.W.nsIn K mainGlobals "is_whole" = some (some (.ref f21))) (l21 : K.lookup f21 = some ⟨oc21, od21, .func (PySem.W.fnOf "is_whole" "is_whole" (defArgs s_is_whole) (defBody s_is_whole) (defScope s_is_whole) .none kV21 dc21 pm21 an21 cd21 ct21), sl21⟩) (c21 : PySem.W.codeIn K cd21 "is_whole" = true) (k21 : PySem.W.keepIn K (.ref f21) = true)
    (a22 : PySem.W.nsIn K mainGlobals "is_row" = some (some (.ref f22))) (l22 : K.lookup f22 = some ⟨oc22, od22, .func (PySem.W.fnOf "is_row" "is_row" (defArgs s_is_row) (defBody s_is_row) (defScope s_is_row) .none kV22 dc22 pm22 an22 cd22 ct22), sl22⟩) (c22 : PySem.W.codeIn K cd22 "is_row" = true) (k22 : PySem.W.keepIn K (.ref f22) = true)
    (a23 : PySem.W.nsIn K mainGlobals "is_pair" = some (some (.ref f23))) (l23 : K.lookup f23 = some ⟨oc23, od23, .func (PySem.W.fnOf "is_pair" "is_pair" (defArgs s_is_pair) (defBody s_is_pair) (defScope s_is_pair) .none kV23 dc23 pm23 an23 cd23 ct23), sl23⟩) (c23 : PySem.W.codeIn K cd23 "is_pair" = true) (k23 : PySem.W.keepIn K (.ref f23) = true)
    (a24 : PySem.W.nsIn K mainGlobals "go_together" = some (some (.ref f24))) (l24 : K.lookup f24 = some ⟨oc24, od24, .func (PySem.W.fnOf "go_together" "go_together" (defArgs s_go_together) (defBody s_go_together) (defScope s_go_together) .none kV24 dc24 pm24 an24 cd24 ct24), sl24⟩) (c24 : PySem.W.codeIn K cd24 "go_together" = true) (k24 : PySem.W.keepIn K (.ref f24) = true)
    (a25 : PySem.W.nsIn K mainGlobals "rises" = some (some (.ref f25))) (l25 : K.lookup f25 = some ⟨oc25, od25, .func (PySem.W.fnOf "rises" "rises" (defArgs s_rises) (defBody s_rises) (defScope s_rises) .none kV25 dc25 pm25 an25 cd25 ct25), sl25⟩) (c25 : PySem.W.codeIn K cd25 "rises" = true) (k25 : PySem.W.keepIn K (.ref f25) = true)
    (a26 : PySem.W.nsIn K mainGlobals "is_folding" = some (some (.ref f26))) (l26 : K.lookup f26 = some ⟨oc26, od26, .func (PySem.W.fnOf "is_folding" "is_folding" (defArgs s_is_folding) (defBody s_is_folding) (defScope s_is_folding) .none kV26 dc26 pm26 an26 cd26 ct26), sl26⟩) (c26 : PySem.W.codeIn K cd26 "is_folding" = true) (k26 : PySem.W.keepIn K (.ref f26) = true)
    (a27 : PySem.W.nsIn K mainGlobals "is_stretch" = some (some (.ref f27))) (l27 : K.lookup f27 = some ⟨oc27, od27, .func (PySem.W.fnOf "is_stretch" "is_stretch" (defArgs s_is_stretch) (defBody s_is_stretch) (defScope s_is_stretch) .none kV27 dc27 pm27 an27 cd27 ct27), sl27⟩) (c27 : PySem.W.codeIn K cd27 "is_stretch" = true) (k27 : PySem.W.keepIn K (.ref f27) = true)
    (a28 : PySem.W.nsIn K mainGlobals "is_crossed" = some (some (.ref f28))) (l28 : K.lookup f28 = some ⟨oc28, od28, .func (PySem.W.fnOf "is_crossed" "is_crossed" (defArgs s_is_crossed) (defBody s_is_crossed) (defScope s_is_crossed) .none kV28 dc28 pm28 an28 cd28 ct28), sl28⟩) (c28 : PySem.W.codeIn K cd28 "is_crossed" = true) (k28 : PySem.W.keepIn K (.ref f28) = true)
    (a29 : PySem.W.nsIn K mainGlobals "_law_turned" = some (some (.ref f29))) (l29 : K.lookup f29 = some ⟨oc29, od29, .func (PySem.W.fnOf "_law_turned" "_law_turned" (defArgs s_law_turned) (defBody s_law_turned) (defScope s_law_turned) .none kV29 dc29 pm29 an29 cd29 ct29), sl29⟩) (c29 : PySem.W.codeIn K cd29 "_law_turned" = true) (k29 : PySem.W.keepIn K (.ref f29) = true)
    (a30 : PySem.W.nsIn K mainGlobals "_law_more_letters" = some (some (.ref f30))) (l30 : K.lookup f30 = some ⟨oc30, od30, .func (PySem.W.fnOf "_law_more_letters" "_law_more_letters" (defArgs s_law_more_letters) (defBody s_law_more_letters) (defScope s_law_more_letters) .none kV30 dc30 pm30 an30 cd30 ct30), sl30⟩) (c30 : PySem.W.codeIn K cd30 "_law_more_letters" = true) (k30 : PySem.W.keepIn K (.ref f30) = true)
    (a31 : PySem.W.nsIn K mainGlobals "_law_back_about" = some (some (.ref f31))) (l31 : K.lookup f31 = some ⟨oc31, od31, .func (PySem.W.fnOf "_law_back_about" "_law_back_about" (defArgs s_law_back_about) (defBody s_law_back_about) (defScope s_law_back_about) .none kV31 dc31 pm31 an31 cd31 ct31), sl31⟩) (c31 : PySem.W.codeIn K cd31 "_law_back_about" = true) (k31 : PySem.W.keepIn K (.ref f31) = true)
    (a32 : PySem.W.nsIn K mainGlobals "_law_each_right" = some (some (.ref f32))) (l32 : K.lookup f32 = some ⟨oc32, od32, .func (PySem.W.fnOf "_law_each_right" "_law_each_right" (defArgs s_law_each_right) (defBody s_law_each_right) (defScope s_law_each_right) .none kV32 dc32 pm32 an32 cd32 ct32), sl32⟩) (c32 : PySem.W.codeIn K cd32 "_law_each_right" = true) (k32 : PySem.W.keepIn K (.ref f32) = true)
    (a33 : PySem.W.nsIn K mainGlobals "law" = some (some (.ref f33))) (l33 : K.lookup f33 = some ⟨oc33, od33, .func (PySem.W.fnOf "law" "law" (defArgs s_law) (defBody s_law) (defScope s_law) .none kV33 dc33 pm33 an33 cd33 ct33), sl33⟩) (c33 : PySem.W.codeIn K cd33 "law" = true) (k33 : PySem.W.keepIn K (.ref f33) = true)
    (z0 : PySem.W.nsIn K mainGlobals "list" = some none)
    (z1 : PySem.W.nsIn K mainGlobals "len" = some none)
    (z2 : PySem.W.nsIn K mainGlobals "abs" = some none)
    (z3 : PySem.W.nsIn K mainGlobals "int" = some none)
    (z4 : PySem.W.nsIn K mainGlobals "sum" = some none)
    (z5 : PySem.W.nsIn K mainGlobals "min" = some none)
    (z6 : PySem.W.nsIn K mainGlobals "range" = some none)
    (z7 : PySem.W.nsIn K mainGlobals "sorted" = some none)
    (z8 : PySem.W.nsIn K mainGlobals "tuple" = some none)
    (z9 : PySem.W.nsIn K mainGlobals "dict" = some none)
    (z10 : PySem.W.nsIn K mainGlobals "isinstance" = some none)
    (z11 : PySem.W.nsIn K mainGlobals "str" = some none)
    (z12 : PySem.W.nsIn K mainGlobals "all" = some none)
    (z13 : PySem.W.nsIn K mainGlobals "zip" = some none)
    (z14 : PySem.W.nsIn K mainGlobals "enumerate" = some none)
    (z15 : PySem.W.nsIn K mainGlobals "set" = some none)
    (z16 : PySem.W.nsIn K mainGlobals "bool" = some none)
    (aG : PySem.W.nsIn K mainGlobals "LOOPS" = some (some (.ref aL))) (lG : K.lookup aL = some ⟨.type "tuple", odG, .seq #[.str "stacked" tG0, .str "inner" tG1, .str "inner free" tG2, .str "forked" tG3, .str "branch" tG4, .str "fork free" tG5, .str "lone" tG6, .str "lone free" tG7, .str "open" tG8] nG, slG⟩) :
    ∃ fd : FuncData, (∀ (s : Shared) (v : Value), BindsTo s fd ⟨[v], []⟩ [("_law_script", v)]) ∧ ∀ base : Heap, K.In base → base.Ns mainGlobals mg → FnG l.prog w K mg base fa fd ["_law_script"] (spLaw K) := by
  have e := hfa.symm.trans (PySem.W.mg_of X G a33)
  cases e
  have F0 := fun_mk (st := s_law_pen) l0 c0 k0
  have F1 := fun_mk (st := s_law_pick) l1 c1 k1
  have F2 := fun_mk (st := s_law_some_worth) l2 c2 k2
  have F3 := fun_mk (st := s_law_ties) l3 c3 k3
  have F4 := fun_mk (st := s_law_code) l4 c4 k4
  have F5 := fun_mk (st := s_law_page) l5 c5 k5
  have F6 := fun_mk (st := s_law_pairs_of) l6 c6 k6
  have F7 := fun_mk (st := s_law_crossing_page) l7 c7 k7
  have F8 := fun_mk (st := s_pair_worth) l8 c8 k8
  have F9 := fun_mk (st := s_text_of) l9 c9 k9
  have F10 := fun_mk (st := s_may_pair) l10 c10 k10
  have F11 := fun_mk (st := s_stack_worth) l11 c11 k11
  have F12 := fun_mk (st := s_loop_worths) l12 c12 k12
  have F13 := fun_mk (st := s_stretch_pairs) l13 c13 k13
  have F14 := fun_mk (st := s_stretch_worth) l14 c14 k14
  have F15 := fun_mk (st := s_stretches_at) l15 c15 k15
  have F16 := fun_mk (st := s_all_stretches) l16 c16 k16
  have F17 := fun_mk (st := s_do_cross) l17 c17 k17
  have F18 : FunD K "all_crossed" "all_crossed" (defArgs s_all_crossed) (defBody s_all_crossed) (defScope s_all_crossed) [] [("cross", .int 0)] f18 (PySem.W.fnOf "all_crossed" "all_crossed" (defArgs s_all_crossed) (defBody s_all_crossed) (defScope s_all_crossed) .none (.ref D18) dc18 pm18 an18 cd18 ct18) := ⟨⟨oc18, od18, .none, .ref D18, dc18, pm18, an18, cd18, ct18, sl18, rfl, l18, c18, .inl ⟨rfl, rfl⟩, .inr ⟨D18, rfl, fun q hq => by rcases List.mem_cons.mp hq with rfl | hq; exact ⟨_, q18_0, ⟨_, rfl⟩⟩; cases hq⟩⟩, k18⟩
  have F19 : FunD K "crossed_worth" "crossed_worth" (defArgs s_crossed_worth) (defBody s_crossed_worth) (defScope s_crossed_worth) [] [("cross", .int 0)] f19 (PySem.W.fnOf "crossed_worth" "crossed_worth" (defArgs s_crossed_worth) (defBody s_crossed_worth) (defScope s_crossed_worth) .none (.ref D19) dc19 pm19 an19 cd19 ct19) := ⟨⟨oc19, od19, .none, .ref D19, dc19, pm19, an19, cd19, ct19, sl19, rfl, l19, c19, .inl ⟨rfl, rfl⟩, .inr ⟨D19, rfl, fun q hq => by rcases List.mem_cons.mp hq with rfl | hq; exact ⟨_, q19_0, ⟨_, rfl⟩⟩; cases hq⟩⟩, k19⟩
  have F20 : FunD K "least_crossed" "least_crossed" (defArgs s_least_crossed) (defBody s_least_crossed) (defScope s_least_crossed) [] [("cross", .int 0)] f20 (PySem.W.fnOf "least_crossed" "least_crossed" (defArgs s_least_crossed) (defBody s_least_crossed) (defScope s_least_crossed) .none (.ref D20) dc20 pm20 an20 cd20 ct20) := ⟨⟨oc20, od20, .none, .ref D20, dc20, pm20, an20, cd20, ct20, sl20, rfl, l20, c20, .inl ⟨rfl, rfl⟩, .inr ⟨D20, rfl, fun q hq => by rcases List.mem_cons.mp hq with rfl | hq; exact ⟨_, q20_0, ⟨_, rfl⟩⟩; cases hq⟩⟩, k20⟩
  have F21 := fun_mk (st := s_is_whole) l21 c21 k21
  have F22 := fun_mk (st := s_is_row) l22 c22 k22
  have F23 := fun_mk (st := s_is_pair) l23 c23 k23
  have F24 := fun_mk (st := s_go_together) l24 c24 k24
  have F25 := fun_mk (st := s_rises) l25 c25 k25
  have F26 := fun_mk (st := s_is_folding) l26 c26 k26
  have F27 := fun_mk (st := s_is_stretch) l27 c27 k27
  have F28 := fun_mk (st := s_is_crossed) l28 c28 k28
  have F29 := fun_mk (st := s_law_turned) l29 c29 k29
  have F30 := fun_mk (st := s_law_more_letters) l30 c30 k30
  have F31 := fun_mk (st := s_law_back_about) l31 c31 k31
  have F32 := fun_mk (st := s_law_each_right) l32 c32 k32
  have F33 := fun_mk (st := s_law) l33 c33 k33
  have mlist := PySem.W.mg_none_of X G z0
  have mlen := PySem.W.mg_none_of X G z1
  have mabs := PySem.W.mg_none_of X G z2
  have mint := PySem.W.mg_none_of X G z3
  have msum := PySem.W.mg_none_of X G z4
  have mmin := PySem.W.mg_none_of X G z5
  have mrange := PySem.W.mg_none_of X G z6
  have msorted := PySem.W.mg_none_of X G z7
  have mtuple := PySem.W.mg_none_of X G z8
  have mdict := PySem.W.mg_none_of X G z9
  have misinstance := PySem.W.mg_none_of X G z10
  have mstr := PySem.W.mg_none_of X G z11
  have mall := PySem.W.mg_none_of X G z12
  have mzip := PySem.W.mg_none_of X G z13
  have menumerate := PySem.W.mg_none_of X G z14
  have mset := PySem.W.mg_none_of X G z15
  have mbool := PySem.W.mg_none_of X G z16
  have gLOOPS := PySem.W.mg_of X G aG
  have hLO : ∀ H : Hp, SqT K H aL (LN.map V.str) := fun H => .inr ⟨_, _, _, lG, rfl, rfl, szL (show 9 ≤ 1000000 by decide), (.cons ⟨_, rfl⟩ (.cons ⟨_, rfl⟩ (.cons ⟨_, rfl⟩ (.cons ⟨_, rfl⟩ (.cons ⟨_, rfl⟩ (.cons ⟨_, rfl⟩ (.cons ⟨_, rfl⟩ (.cons ⟨_, rfl⟩ (.cons ⟨_, rfl⟩ .nil)))))))))⟩
  refine ⟨PySem.W.fnOf "law" "law" (defArgs s_law) (defBody s_law) (defScope s_law) .none kV33 dc33 pm33 an33 cd33 ct33, fun s v => .of_eq rfl, fun base _ _ => ?_⟩
  have c_law_pen : Ca l.prog w K mg base 1 "_law_pen" ["_law_script"] (spStart K) := ⟨f0, _, ok_start F0 mlist, PySem.W.mg_of X G a0, F0.kp, F0.binds fun _ _ _ _ _ _ us hl => match us, hl with | [_], _ => rfl⟩
  have c_law_pick : Ca l.prog w K mg base 1 "_law_pick" ["_law_pen_here", "_law_upto"] spDraw := ⟨f1, _, ok_draw F1 mlen mabs mint, PySem.W.mg_of X G a1, F1.kp, F1.binds fun _ _ _ _ _ _ us hl => match us, hl with | [_, _], _ => rfl⟩
  have c_law_some_worth : Ca l.prog w K mg base 2 "_law_some_worth" ["_law_pen_here"] spWorth := ⟨f2, _, ok_worth F2 c_law_pick, PySem.W.mg_of X G a2, F2.kp, F2.binds fun _ _ _ _ _ _ us hl => match us, hl with | [_], _ => rfl⟩
  have c_law_ties : Ca l.prog w K mg base 3 "_law_ties" ["_law_pen_here", "_law_letters", "_law_upto"] spTies := ⟨f3, _, ok_ties F3 c_law_pick c_law_some_worth msum mmin mlen mrange msorted mtuple, PySem.W.mg_of X G a3, F3.kp, F3.binds fun _ _ _ _ _ _ us hl => match us, hl with | [_, _, _], _ => rfl⟩
  have c_law_code : Ca l.prog w K mg base 4 "_law_code" ["_law_pen_here"] spRules := ⟨f4, _, ok_rules F4 c_law_pick c_law_some_worth c_law_ties mlen mint mtuple mrange msorted, PySem.W.mg_of X G a4, F4.kp, F4.binds fun _ _ _ _ _ _ us hl => match us, hl with | [_], _ => rfl⟩
  have c_law_page : Ca l.prog w K mg base 2 "_law_page" ["_law_pen_here", "_law_code_here", "_law_upto"] spLetters := ⟨f5, _, ok_letters F5 c_law_pick mrange mlen, PySem.W.mg_of X G a5, F5.kp, F5.binds fun _ _ _ _ _ _ us hl => match us, hl with | [_, _, _], _ => rfl⟩
  have c_law_pairs_of : Ca l.prog w K mg base 1 "_law_pairs_of" ["_law_stretch"] spPrs := ⟨f6, _, ok_prsL F6 mrange, PySem.W.mg_of X G a6, F6.kp, F6.binds fun _ _ _ _ _ _ us hl => match us, hl with | [_], _ => rfl⟩
  have c_law_crossing_page : Ca l.prog w K mg base 3 "_law_crossing_page" ["_law_pen_here", "_law_code_here", "_law_upto"] spCPg := ⟨f7, _, ok_cpg F7 c_law_pick c_law_page mrange mlen, PySem.W.mg_of X G a7, F7.kp, F7.binds fun _ _ _ _ _ _ us hl => match us, hl with | [_, _, _], _ => rfl⟩
  have cpair_worth : Ca l.prog w K mg base 1 "pair_worth" ["rules", "both"] spPW := ⟨f8, _, ok_pw F8, PySem.W.mg_of X G a8, F8.kp, F8.binds fun _ _ _ _ _ _ us hl => match us, hl with | [_, _], _ => rfl⟩
  have ctext_of : Ca l.prog w K mg base 1 "text_of" ["string", "pair"] spTextOf := ⟨f9, _, ok_text_of F9, PySem.W.mg_of X G a9, F9.kp, F9.binds fun _ _ _ _ _ _ us hl => match us, hl with | [_, _], _ => rfl⟩
  have cmay_pair : Ca l.prog w K mg base 2 "may_pair" ["rules", "string", "i", "j"] spMP := ⟨f10, _, ok_mp F10 ctext_of cpair_worth mlen, PySem.W.mg_of X G a10, F10.kp, F10.binds fun _ _ _ _ _ _ us hl => match us, hl with | [_, _, _, _], _ => rfl⟩
  have cmay_pairX : Ca l.prog w K mg base 2 "may_pair" ["rules", "string", "i", "j"] spMPX := ⟨f10, _, ok_mpx F10 ctext_of cpair_worth mlen, PySem.W.mg_of X G a10, F10.kp, F10.binds fun _ _ _ _ _ _ us hl => match us, hl with | [_, _, _, _], _ => rfl⟩
  have cstack_worth : Ca l.prog w K mg base 1 "stack_worth" ["rules", "outer", "within"] spSW := ⟨f11, _, ok_sw F11, PySem.W.mg_of X G a11, F11.kp, F11.binds fun _ _ _ _ _ _ us hl => match us, hl with | [_, _, _], _ => rfl⟩
  have cloop_worths : Ca l.prog w K mg base 1 "loop_worths" ["rules"] spLW := ⟨f12, _, ok_lw F12 gLOOPS hLO mdict mzip, PySem.W.mg_of X G a12, F12.kp, F12.binds fun _ _ _ _ _ _ us hl => match us, hl with | [_], _ => rfl⟩
  have cstretch_pairs : Ca l.prog w K mg base 1 "stretch_pairs" ["stretch"] spPrs := ⟨f13, _, ok_prs F13 mrange, PySem.W.mg_of X G a13, F13.kp, F13.binds fun _ _ _ _ _ _ us hl => match us, hl with | [_], _ => rfl⟩
  have cstretch_worth : Ca l.prog w K mg base 2 "stretch_worth" ["rules", "string", "stretch"] spSWo := ⟨f14, _, ok_swo F14 cstretch_pairs ctext_of cloop_worths cstack_worth cpair_worth mzip msum, PySem.W.mg_of X G a14, F14.kp, F14.binds fun _ _ _ _ _ _ us hl => match us, hl with | [_, _, _], _ => rfl⟩
  have cstretches_at : Ca l.prog w K mg base 3 "stretches_at" ["rules", "string", "i", "j"] spSAt := ⟨f15, _, ok_sat F15 cmay_pairX, PySem.W.mg_of X G a15, F15.kp, F15.binds fun _ _ _ _ _ _ us hl => match us, hl with | [_, _, _, _], _ => rfl⟩
  have call_stretches : Ca l.prog w K mg base 4 "all_stretches" ["rules", "string"] spASt := ⟨f16, _, ok_ast F16 cstretches_at mrange mlen mlist, PySem.W.mg_of X G a16, F16.kp, F16.binds fun _ _ _ _ _ _ us hl => match us, hl with | [_, _], _ => rfl⟩
  have cdo_cross : Ca l.prog w K mg base 1 "do_cross" ["stretch", "other"] spDC := ⟨f17, _, ok_dc F17, PySem.W.mg_of X G a17, F17.kp, F17.binds fun _ _ _ _ _ _ us hl => match us, hl with | [_, _], _ => rfl⟩
  have okk18 := ok_acr F18 call_stretches cstretch_worth cdo_cross msorted
  obtain ⟨gN18, hN18⟩ := kbn_kw (ps := ["rules", "string", "cross"]) F18 2 ["cross"] [] [0, 1, 2] (by simp) (fun q hq => by cases hq) (fun D doc pm an cdv ct us mv ws h1 h2 h3 => match us, mv, ws, h1, h2, h3 with | [_, _], [], [_], _, _, _ => rfl)
  have call_crossedN : CaN l.prog w K mg base 5 "all_crossed" ["rules", "string", "cross"] 2 ["cross"] (permW [0, 1, 2] []) spACr := ⟨f18, _, gN18, okk18, PySem.W.mg_of X G a18, F18.kp, hN18⟩
  obtain ⟨ds18, hv18, hb18⟩ := F18.binds0 (ps := ["rules", "string", "cross"]) 2 (by simp) rfl (fun D doc pm an cdv ct us ks h1 h2 => match us, ks, h1, h2 with | [_, _], [_], _, _ => ⟨_, _, _, _, _, _, rfl, rfl, rfl⟩)
  have call_crossedE : CaE l.prog w K mg base 5 "all_crossed" ["rules", "string", "cross"] [.int 0] spACr := ⟨f18, _, ds18, okk18, PySem.W.mg_of X G a18, F18.kp, hv18, hb18⟩
  obtain ⟨gK18, hK18⟩ := kbn_kw (ps := ["rules", "string", "cross"]) F18 0 ["cross", "string", "rules"] [] [2, 1, 0] (by simp) (fun q hq => by cases hq) (fun D doc pm an cdv ct us mv ws h1 h2 h3 => match us, mv, ws, h1, h2, h3 with | [], [], [_, _, _], _, _, _ => rfl)
  have call_crossedK : CaK l.prog w K mg base 5 "all_crossed" ["rules", "string", "cross"] ["cross", "string", "rules"] (permW [2, 1, 0] []) spACr := ⟨f18, _, gK18, okk18, PySem.W.mg_of X G a18, F18.kp, hK18⟩
  have okk19 := ok_crw F19 cstretch_worth msum
  obtain ⟨gN19, hN19⟩ := kbn_kw (ps := ["rules", "string", "folding", "cross"]) F19 3 ["cross"] [] [0, 1, 2, 3] (by simp) (fun q hq => by cases hq) (fun D doc pm an cdv ct us mv ws h1 h2 h3 => match us, mv, ws, h1, h2, h3 with | [_, _, _], [], [_], _, _, _ => rfl)
  have ccrossed_worthN : CaN l.prog w K mg base 3 "crossed_worth" ["rules", "string", "folding", "cross"] 3 ["cross"] (permW [0, 1, 2, 3] []) spCrW := ⟨f19, _, gN19, okk19, PySem.W.mg_of X G a19, F19.kp, hN19⟩
  obtain ⟨gK19, hK19⟩ := kbn_kw (ps := ["rules", "string", "folding", "cross"]) F19 0 ["cross", "folding", "string", "rules"] [] [3, 2, 1, 0] (by simp) (fun q hq => by cases hq) (fun D doc pm an cdv ct us mv ws h1 h2 h3 => match us, mv, ws, h1, h2, h3 with | [], [], [_, _, _, _], _, _, _ => rfl)
  have ccrossed_worthK : CaK l.prog w K mg base 3 "crossed_worth" ["rules", "string", "folding", "cross"] ["cross", "folding", "string", "rules"] (permW [3, 2, 1, 0] []) spCrW := ⟨f19, _, gK19, okk19, PySem.W.mg_of X G a19, F19.kp, hK19⟩
  obtain ⟨ds19, hv19, hb19⟩ := F19.binds0 (ps := ["rules", "string", "folding", "cross"]) 3 (by simp) rfl (fun D doc pm an cdv ct us ks h1 h2 => match us, ks, h1, h2 with | [_, _, _], [_], _, _ => ⟨_, _, _, _, _, _, rfl, rfl, rfl⟩)
  have ccrossed_worthE : CaE l.prog w K mg base 3 "crossed_worth" ["rules", "string", "folding", "cross"] [.int 0] spCrW := ⟨f19, _, ds19, okk19, PySem.W.mg_of X G a19, F19.kp, hv19, hb19⟩
  have okk20 := ok_lcr F20 call_crossedN
  obtain ⟨gN20, hN20⟩ := kbn_kw (ps := ["rules", "string", "cross"]) F20 2 ["cross"] [] [0, 1, 2] (by simp) (fun q hq => by cases hq) (fun D doc pm an cdv ct us mv ws h1 h2 h3 => match us, mv, ws, h1, h2, h3 with | [_, _], [], [_], _, _, _ => rfl)
  have cleast_crossedN : CaN l.prog w K mg base 6 "least_crossed" ["rules", "string", "cross"] 2 ["cross"] (permW [0, 1, 2] []) spLCr := ⟨f20, _, gN20, okk20, PySem.W.mg_of X G a20, F20.kp, hN20⟩
  have cis_whole : Ca l.prog w K mg base 1 "is_whole" ["thing"] spWhI := ⟨f21, _, ok_whI F21 misinstance mint mbool, PySem.W.mg_of X G a21, F21.kp, F21.binds fun _ _ _ _ _ _ us hl => match us, hl with | [_], _ => rfl⟩
  have cis_row : Ca l.prog w K mg base 1 "is_row" ["thing", "size"] spRow2 := ⟨f22, _, ok_row2 F22 misinstance mtuple mlen, PySem.W.mg_of X G a22, F22.kp, F22.binds fun _ _ _ _ _ _ us hl => match us, hl with | [_, _], _ => rfl⟩
  have cis_pair : Ca l.prog w K mg base 3 "is_pair" ["rules", "string", "thing"] spIP := ⟨f23, _, ok_ip F23 cis_row cis_whole cmay_pair, PySem.W.mg_of X G a23, F23.kp, F23.binds fun _ _ _ _ _ _ us hl => match us, hl with | [_, _, _], _ => rfl⟩
  have cgo_together : Ca l.prog w K mg base 1 "go_together" ["pair", "later"] spGT := ⟨f24, _, ok_gt F24, PySem.W.mg_of X G a24, F24.kp, F24.binds fun _ _ _ _ _ _ us hl => match us, hl with | [_, _], _ => rfl⟩
  have crises : Ca l.prog w K mg base 1 "rises" ["things"] spRi := ⟨f25, _, ok_ri F25 mall mzip, PySem.W.mg_of X G a25, F25.kp, F25.binds fun _ _ _ _ _ _ us hl => match us, hl with | [_], _ => rfl⟩
  have cis_folding : Ca l.prog w K mg base 4 "is_folding" ["rules", "string", "thing"] spIF := ⟨f26, _, ok_if F26 cis_pair cgo_together crises misinstance mtuple mall menumerate, PySem.W.mg_of X G a26, F26.kp, F26.binds fun _ _ _ _ _ _ us hl => match us, hl with | [_, _, _], _ => rfl⟩
  have cis_stretch : Ca l.prog w K mg base 3 "is_stretch" ["rules", "string", "thing"] spIStB := ⟨f27, _, ok_istB F27 cis_row cis_whole cstretch_pairs cmay_pairX mlen mall, PySem.W.mg_of X G a27, F27.kp, F27.binds fun _ _ _ _ _ _ us hl => match us, hl with | [_, _, _], _ => rfl⟩
  have cis_crossed : Ca l.prog w K mg base 4 "is_crossed" ["rules", "string", "thing"] spICrB := ⟨f28, _, ok_icrB F28 cis_row cis_stretch cdo_cross mall, PySem.W.mg_of X G a28, F28.kp, F28.binds fun _ _ _ _ _ _ us hl => match us, hl with | [_, _, _], _ => rfl⟩
  have c_law_turned : Ca l.prog w K mg base 1 "_law_turned" ["_law_code_here"] spTurn := ⟨f29, _, ok_turn F29 msorted mtuple, PySem.W.mg_of X G a29, F29.kp, F29.binds fun _ _ _ _ _ _ us hl => match us, hl with | [_], _ => rfl⟩
  have c_law_more_letters : Ca l.prog w K mg base 1 "_law_more_letters" ["_law_code_here"] spMore := ⟨f30, _, ok_more F30 mlen, PySem.W.mg_of X G a30, F30.kp, F30.binds fun _ _ _ _ _ _ us hl => match us, hl with | [_], _ => rfl⟩
  have c_law_back_about : Ca l.prog w K mg base 1 "_law_back_about" ["_law_folding", "_law_size"] spBack := ⟨f31, _, ok_back F31 mtuple, PySem.W.mg_of X G a31, F31.kp, F31.binds fun _ _ _ _ _ _ us hl => match us, hl with | [_, _], _ => rfl⟩
  have c_law_each_right : Ca l.prog w K mg base 5 "_law_each_right" ["_law_code_here", "_law_page_here", "_law_rows", "_law_by"] spEach := ⟨f32, _, ok_each F32 cis_crossed ccrossed_worthN cis_folding c_law_pairs_of mtuple, PySem.W.mg_of X G a32, F32.kp, F32.binds fun _ _ _ _ _ _ us hl => match us, hl with | [_, _, _, _], _ => rfl⟩
  exact ok_law F33 ⟨rfl, by decide, by decide⟩ c_law_pen c_law_pick c_law_some_worth c_law_code c_law_crossing_page c_law_turned c_law_more_letters c_law_back_about c_law_each_right call_crossedN call_crossedE cleast_crossedN mrange mlen msorted mset mtuple
end Pf
open PySem PySem.W PyProof.Rows
set_option maxHeartbeats 0 in
theorem PySem.Challenge.cw_pairfolds_k70_whole_crossed_and_turned_holds : PySem.Challenge.rw_pairfolds_k70_whole_crossed_and_turned.Holds := by
  w_on; o_law; k_head; (case hw => w_witness2)
  k_fill
  refine Pf.walk_g (l := PySem.Challenge.rw_pairfolds_k70_whole_crossed_and_turned) (n := 63) (x := "_law_script") (sp := fun w => Pf.spLaw _) rfl (by decide) rfl (fun w h Y => PySem.W.kIn_of Y) ?F (fun _ _ a ns hl hS => ⟨a, ns, rfl, hS, hl, fun _ => rfl⟩)
  case F =>
    intro w mg fa h KX G hmg
    refine' Pf.all_mk KX G hmg ?a0 ?l0 ?c0 ?k0 ?a1 ?l1 ?c1 ?k1 ?a2 ?l2 ?c2 ?k2 ?a3 ?l3 ?c3 ?k3 ?a4 ?l4 ?c4 ?k4 ?a5 ?l5 ?c5 ?k5 ?a6 ?l6 ?c6 ?k6 ?a7 ?l7 ?c7 ?k7 ?a8 ?l8 ?c8 ?k8 ?a9 ?l9 ?c9 ?k9 ?a10 ?l10 ?c10 ?k10 ?a11 ?l11 ?c11 ?k11 ?a12 ?l12 ?c12 ?k12 ?a13 ?l13 ?c13 ?k13 ?a14 ?l14 ?c14 ?k14 ?a15 ?l15 ?c15 ?k15 ?a16 ?l16 ?c16 ?k16 ?a17 ?l17 ?c17 ?k17 ?a18 ?l18 ?c18 ?k18 ?q18_0 ?a19 ?l19 ?c19 ?k19 ?q19_0 ?a20 ?l20 ?c20 ?k20 ?q20_0 ?a21 ?l21 ?c21 ?k21 ?a22 ?l22 ?c22 ?k22 ?a23 ?l23 ?c23 ?k23 ?a24 ?l24 ?c24 ?k24 ?a25 ?l25 ?c25 ?k25 ?a26 ?l26 ?c26 ?k26 ?a27 ?l27 ?c27 ?k27 ?a28 ?l28 ?c28 ?k28 ?a29 ?l29 ?c29 ?k29 ?a30 ?l30 ?c30 ?k30 ?a31 ?l31 ?c31 ?k31 ?a32 ?l32 ?c32 ?k32 ?a33 ?l33 ?c33 ?k33 ?z0 ?z1 ?z2 ?z3 ?z4 ?z5 ?z6 ?z7 ?z8 ?z9 ?z10 ?z11 ?z12 ?z13 ?z14 ?z15 ?z16 ?aG ?lG
    (case a0 => k_is); (case l0 => k_is); (case c0 => k_is); (case k0 => k_is); (case a1 => k_is); (case l1 => k_is); (case c1 => k_is); (case k1 => k_is); (case a2 => k_is); (case l2 => k_is); (case c2 => k_is); (case k2 => k_is); (case a3 => k_is); (case l3 => k_is); (case c3 => k_is); (case k3 => k_is); (case a4 => k_is); (case l4 => k_is); (case c4 => k_is); (case k4 => k_is); (case a5 => k_is); (case l5 => k_is); (case c5 => k_is); (case k5 => k_is); (case a6 => k_is); (case l6 => k_is); (case c6 => k_is); (case k6 => k_is); (case a7 => k_is); (case l7 => k_is); (case c7 => k_is); (case k7 => k_is); (case a8 => k_is); (case l8 => k_is); (case c8 => k_is); (case k8 => k_is); (case a9 => k_is); (case l9 => k_is); (case c9 => k_is); (case k9 => k_is); (case a10 => k_is); (case l10 => k_is); (case c10 => k_is); (case k10 => k_is); (case a11 => k_is); (case l11 => k_is); (case c11 => k_is); (case k11 => k_is); (case a12 => k_is); (case l12 => k_is); (case c12 => k_is); (case k12 => k_is); (case a13 => k_is); (case l13 => k_is); (case c13 => k_is); (case k13 => k_is); (case a14 => k_is); (case l14 => k_is); (case c14 => k_is); (case k14 => k_is); (case a15 => k_is); (case l15 => k_is); (case c15 => k_is); (case k15 => k_is); (case a16 => k_is); (case l16 => k_is); (case c16 => k_is); (case k16 => k_is); (case a17 => k_is); (case l17 => k_is); (case c17 => k_is); (case k17 => k_is); (case a18 => k_is); (case l18 => k_is); (case c18 => k_is); (case k18 => k_is); (case q18_0 => k_is); (case a19 => k_is); (case l19 => k_is); (case c19 => k_is); (case k19 => k_is); (case q19_0 => k_is); (case a20 => k_is); (case l20 => k_is); (case c20 => k_is); (case k20 => k_is); (case q20_0 => k_is); (case a21 => k_is); (case l21 => k_is); (case c21 => k_is); (case k21 => k_is); (case a22 => k_is); (case l22 => k_is); (case c22 => k_is); (case k22 => k_is); (case a23 => k_is); (case l23 => k_is); (case c23 => k_is); (case k23 => k_is); (case a24 => k_is); (case l24 => k_is); (case c24 => k_is); (case k24 => k_is); (case a25 => k_is); (case l25 => k_is); (case c25 => k_is); (case k25 => k_is); (case a26 => k_is); (case l26 => k_is); (case c26 => k_is); (case k26 => k_is); (case a27 => k_is); (case l27 => k_is); (case c27 => k_is); (case k27 => k_is); (case a28 => k_is); (case l28 => k_is); (case c28 => k_is); (case k28 => k_is); (case a29 => k_is); (case l29 => k_is); (case c29 => k_is); (case k29 => k_is); (case a30 => k_is); (case l30 => k_is); (case c30 => k_is); (case k30 => k_is); (case a31 => k_is); (case l31 => k_is); (case c31 => k_is); (case k31 => k_is); (case a32 => k_is); (case l32 => k_is); (case c32 => k_is); (case k32 => k_is); (case a33 => k_is); (case l33 => k_is); (case c33 => k_is); (case k33 => k_is); (case z0 => k_is); (case z1 => k_is); (case z2 => k_is); (case z3 => k_is); (case z4 => k_is); (case z5 => k_is); (case z6 => k_is); (case z7 => k_is); (case z8 => k_is); (case z9 => k_is); (case z10 => k_is); (case z11 => k_is); (case z12 => k_is); (case z13 => k_is); (case z14 => k_is); (case z15 => k_is); (case z16 => k_is); (case aG => k_is); (case lG => k_is)
