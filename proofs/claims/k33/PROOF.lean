import PyProof.Rows.All
import Wide.All
import OpenK.AllK
import Wide.FinOn
import HandS.ForMost
import HandS.Defaults
import HandS.TupMul
import HandS.TupAny
import HandS.IsInst
import HandS.Conv
import KE.SortData
import HandS.Wide
import PyProof.ReprLen
import PySem.Challenge.RW_pairfolds_k33_shares_of_free_places_told
import KE.KDictZip
import HandS.Zip
import KE.GoesMore
import HandS.Style
import HandS.Walk
import HandS.TupLe
import HandS.DictComp
import KE.KDictSum
import HandS.ExcValue
import PyProof.CollectStr
import PyProof.Rows.StrRev
import KE.DataCmp
import HandS.Sort
import PyProof.SumWalkG
import HandS.ListItems
import HandS.More
import PyProof.TupleKey
import HandS.TupSets
import PyProof.FactsAll.subtypes_4
import PyProof.Transfer
import HandS.SetFor
import HandS.Strs
import HandS.SortKw
import KE.KMinKey
import HandS.Text
import KE.KDictKeyed
import HandS.MakeKwOnly
import PyProof.DictMoreH
import HandS.Flt
import PyProof.ReprBulk
import HandS.Comp
import PyProof.ListIndex
set_option Elab.async false
set_option linter.all false
set_option maxRecDepth 100000
set_option maxHeartbeats 4000000
namespace Pf
open PySem PySem.Spec PyProof.Rows L2

/-! ### a def that may be called: its promise, its name, its binding -/
structure Ca (P : Program) (w : World) (K : PySem.W.Frag) (mg : Str → Option Value) (base : Heap) (k : Nat) (x : Str) (ps : List Str) (sp : Sp) : Prop where
  ex : ∃ f fd, FnOk P w K mg base CX0 k f fd ps sp ∧ mg x = some (.ref f) ∧ PySem.W.keepIn K (.ref f) = true ∧ Binds K fd ps []
structure CaK (P : Program) (w : World) (K : PySem.W.Frag) (mg : Str → Option Value) (base : Heap) (k : Nat) (x : Str) (ps ks : List Str) (gV : List V → List V → List V) (sp : Sp) : Prop where
  ex : ∃ f fd g, FnOk P w K mg base CX0 k f fd ps sp ∧ mg x = some (.ref f) ∧ PySem.W.keepIn K (.ref f) = true ∧ KBn K fd ps 0 ks g gV
section
variable {X : Cx} {k : Nat} {x : Str} {ps ks : List Str} {sp : Sp} {p pos : Pos} {e : Expr} {es : List Expr} {kws : List Keyword} {t tk : TA} {gV : List V → List V → List V}
theorem pe_ca (c : Ca X.prog X.w X.K X.mg X.base k x ps sp) (hr : Room k X.A) (hg : Gl X x) (ha : PA X (e :: es) t) (hdb : (x == ("__debug__" : Str)) = false := by decide)
    (he : starEach (e :: es) X.env = (false, eval e X.env) :: starEach es X.env := by rfl) (hpl : (backTo pos (starEach es X.env)).any (·.1) = false := by rfl) :
    PE X (.Call (.Name x p) (e :: es) [] pos) (tCall sp [] E0 t) := by
  obtain ⟨f, fd, F, hm, hk, hb⟩ := c.ex
  exact pe_call F hr hg hm hk hb .nil pass0 ha hdb he hpl
theorem pe_ca0 (c : Ca X.prog X.w X.K X.mg X.base k x ps sp) (hr : Room k X.A) (hg : Gl X x) (hdb : (x == ("__debug__" : Str)) = false := by decide) :
    PE X (.Call (.Name x p) [] [] pos) (tCall sp [] E0 tNil) := by
  obtain ⟨f, fd, F, hm, hk, hb⟩ := c.ex
  exact pe_call0 F hr hg hm hk hb .nil pass0 hdb
/-- f(k = v, ..), by names alone -/
theorem pe_caK (c : CaK X.prog X.w X.K X.mg X.base k x ps ks gV sp) (hr : Room k X.A) (hg : Gl X x) (hkw : PK X kws tk)
    (hall : (backToKw pos (keywordEach kws X.env)).all (·.1.isSome) = true := by rfl) (hks : (backToKw pos (keywordEach kws X.env)).filterMap (·.1) = ks := by rfl) (hdb : (x == ("__debug__" : Str)) = false := by decide)
    (hpl : ((backTo pos (starEach [] X.env)).any (·.1) || (backToKw pos (keywordEach kws X.env)).any (·.1.isNone)) = false := by rfl) :
    PE X (.Call (.Name x p) [] kws pos) (tCallN 0 ks.length sp gV E0 tNil tk) := by
  obtain ⟨f, fd, g, F, hm, hk, hb⟩ := c.ex
  refine ⟨fun pins s σ H Q I h => ?_⟩
  refine wpAny_Call_Name_kw (ld_glob I hg hm ?_ hdb)
  refine PySem.W.callWith_KW0 (h₀ := X.base) I.ok.mod.kin hk hall ?_ hpl
  refine thn (hkw.run pos pins s σ H _ I h) fun ws s2 ⟨zs, H2, I2, rz, l1, l2, q2⟩ => ⟨I2.kIn, ?_⟩
  rw [hks]
  exact run_fnN (us := []) (vs := []) F hr hb pass0 I2 .nil rz rfl l2 q2
end

/-! ### rules that read a list or a tuple, the written part by its letter -/
theorem ixL (K : PySem.W.Frag) {X : Cx} (h : X.K = K := by rfl) : IxR X (rIxL K) := h ▸ ix_list
theorem ixT (K : PySem.W.Frag) {X : Cx} (h : X.K = K := by rfl) : IxR X (rIxT K) := h ▸ ix_tup
theorem ixA (K : PySem.W.Frag) {X : Cx} (h : X.K = K := by rfl) : IxR X (rIx K) := h ▸ ix_seq
def rLenA (K : PySem.W.Frag) : List V → Hp → VK → Prop := fun xs H Q => ∃ x n, xs = [x] ∧ LenV K x H n ∧ Q (.int n) H
theorem lenA (K : PySem.W.Frag) {X : Cx} (h : X.K = K := by rfl) : CallR X (.builtin "len") (rLenA K) := by
  subst h
  exact call_len
theorem repT (K : PySem.W.Frag) {X : Cx} (h : X.K = K := by rfl) : OpR X (binaryOp .Mult) (rRepT K) := h ▸ op_repT
theorem slL (K : PySem.W.Frag) {X : Cx} (h : X.K = K := by rfl) : SlR X (rSlL K) := h ▸ sl_list
theorem slT (K : PySem.W.Frag) {X : Cx} (h : X.K = K := by rfl) : SlR X (rSlT K) := h ▸ sl_tup
theorem eqD (K : PySem.W.Frag) {X : Cx} (hu : X.A.units + 64 < cLine) (h : X.K = K := by rfl) : OpR X (compareOp .Eq) (rEqD K) := h ▸ op_eqD hu
theorem neD (K : PySem.W.Frag) {X : Cx} (hu : X.A.units + 64 < cLine) (h : X.K = K := by rfl) : OpR X (compareOp .NotEq) (rNeD K) := h ▸ op_neD hu
theorem catT (K : PySem.W.Frag) {X : Cx} (h : X.K = K := by rfl) : OpR X (binaryOp .Add) (rCatT K) := h ▸ op_catT
theorem catA (K : PySem.W.Frag) {X : Cx} (h : X.K = K := by rfl) : OpR X (binaryOp .Add) (rCatA K) := h ▸ op_catA
theorem slA (K : PySem.W.Frag) {X : Cx} (h : X.K = K := by rfl) : SlR X (rSlA K) := h ▸ sl_tupA
theorem isi1 (K : PySem.W.Frag) {X : Cx} (h : X.K = K := by rfl) : CallR X (.builtin "isinstance") (rIsi K) := h ▸ call_isi
theorem pgT (K : PySem.W.Frag) {X : Cx} {es : List Expr} {k n : Nat} {t : TGs} {pos : Pos} (hc : X.calm = true) (h : PGs X es t) (hK : X.K = K := by rfl) (hn : (assignEach es X.env).length = n := by rfl) (hst : (assignEach es X.env).findIdx? (·.1) = none := by rfl) :
    PG X (.Tuple es k pos) (gTup K n t) := by
  subst hK
  exact pg_tup hc h hn hst
def rLen (K : PySem.W.Frag) : List V → Hp → VK → Prop := fun xs H Q => ∃ p ys, xs = [.ref p] ∧ (SqL K H p ys ∨ SqT K H p ys) ∧ Q (.int ys.length) H
theorem lenQ (K : PySem.W.Frag) {X : Cx} (h : X.K = K := by rfl) : CallR X (.builtin "len") (rLen K) := by
  subst h
  exact call_len_seq
def rListOf (K : PySem.W.Frag) : List V → Hp → VK → Prop := fun xs H Q => ∃ p ys, xs = [.ref p] ∧ (SqL K H p ys ∨ SqT K H p ys) ∧ ∀ l, H l = none → Q (.ref l) (upd H l (.lst ys))
theorem listOf (K : PySem.W.Frag) {X : Cx} (h : X.K = K := by rfl) : CallR X (.type "list") (rListOf K) := by
  subst h
  exact call_list_of
def rTupleOf (K : PySem.W.Frag) : List V → Hp → VK → Prop := fun xs H Q => ∃ p ys, xs = [.ref p] ∧ ((SqL K H p ys ∧ ∀ l, H l = none → Q (.ref l) (upd H l (.tup ys))) ∨ (SqT K H p ys ∧ Q (.ref p) H))
theorem tupleOf (K : PySem.W.Frag) {X : Cx} (h : X.K = K := by rfl) : CallR X (.type "tuple") (rTupleOf K) := by
  subst h
  exact call_tuple_of

/-! ### repr of a plain thing -/
def repV : V → Str
  | .non => "None"
  | .bl b => if b then "True" else "False"
  | .int i => toString i
  | _ => ""
def RepOk : V → Prop
  | .non => True
  | .bl _ => True
  | .int i => i.natAbs.log2 < 1920
  | _ => False
theorem call_repr {X : Cx} : CallR X (.builtin "repr") (fun xs H Q => ∃ v, xs = [v] ∧ RepOk v ∧ Q (.str (repV v)) H) := by
  intro pins s σ H xs us Q I r h
  obtain ⟨v, rfl, hz, q⟩ := h
  cases v with
  | non =>
    obtain ⟨u, rfl, rfl⟩ := vals1 r
    exact PySem.P.repr_of_none ⟨.str _, H, I.tok _, ⟨_, rfl⟩, q⟩
  | bl b =>
    obtain ⟨u, rfl, rfl⟩ := vals1 r
    exact PySem.P.repr_of_bool ⟨.str _, H, I.tok _, ⟨_, rfl⟩, by cases b <;> exact q⟩
  | int i =>
    obtain ⟨u, rfl, t, rfl⟩ := vals1 r
    exact PySem.P.repr_of_int hz ⟨.str _, H, I.tok _, ⟨_, rfl⟩, q⟩
  | str _ => exact hz.elim
  | byt _ => exact hz.elim
  | flt _ => exact hz.elim
  | ref _ => exact hz.elim
  | ty _ => exact hz.elim

/-! ### texts of small letters -/
def Small (x : Str) : Prop := ∀ c ∈ x.cps.toList, 97 ≤ c ∧ c ≤ 122
theorem Small.app {a b : Str} (ha : Small a) (hb : Small b) : Small (a ++ b) := fun c h => by
  rw [Str.cps_append, Array.toList_append, List.mem_append] at h
  rcases h with h | h
  · exact ha c h
  · exact hb c h
theorem Small.one {c : Nat} (h : 97 ≤ c ∧ c ≤ 122) : Small ⟨#[c]⟩ := fun d hd => by
  have e : d = c := by simpa using hd
  subst e
  exact h
theorem Small.at {x : Str} (h : Small x) {i c : Nat} (hi : x.cps[i]? = some c) : 97 ≤ c ∧ c ≤ 122 := by
  refine h c ?_
  have := Array.mem_of_getElem? hi
  exact Array.mem_toList_iff.mpr this
theorem Small.ok {x : Str} (h : Small x) : PyData.strOk x = true := by
  show x.cps.all (· < 0x110000) = true
  rw [Array.all_eq_true_iff_forall_mem]
  intro c hc
  have := h c (Array.mem_toList_iff.mpr hc)
  exact decide_eq_true (by omega)
/-! ### a chain of three comparisons -/
def tChain3 (r1 r2 r3 : R2) (ta tb tc td : TE) : TE := fun σ H Q => ta σ H fun x H1 => tb σ H1 fun y H2 => r1 x y H2 fun z H3 => ∃ k, z = .bl k ∧
  (if k = true then tc σ H3 fun u H4 => r2 y u H4 fun z2 H5 => ∃ k2, z2 = .bl k2 ∧ (if k2 = true then td σ H5 fun v H6 => r3 u v H6 Q else Q (.bl false) H5) else Q (.bl false) H3)
theorem pt_chain3 {X : Cx} {o1 o2 o3 : CmpOp} {r1 r2 r3 : R2} {a b c d : Expr} {ta tb tc td : TE} {pos : Pos} (h1 : OpR X (compareOp o1) r1) (h2 : OpR X (compareOp o2) r2) (h3 : OpR X (compareOp o3) r3)
    (ha : PE X a ta) (hb : PE X b tb) (hc : PE X c tc) (hd : PE X d td) (hm : lastMarks [o1, o2, o3] [b, c, d] = false := by with_unfolding_all rfl) :
    PT X (.Compare a [o1, o2, o3] [b, c, d] pos) (tTest (tChain3 r1 r2 r3 ta tb tc td)) := by
  refine ⟨fun pins s σ H Q I h => isTrue_chain (thn (ha.run pins s σ H _ I h) fun v s1 ⟨x, H1, I1, e1, q1⟩ => test_link ?_) hm⟩
  refine thn (hb.run pins s1 σ H1 _ I1 q1) fun u s2 ⟨y, H2, I2, e2, q2⟩ => ?_
  refine thn (h1 pins s2 σ H2 x y v u _ I2 e1 e2 q2) fun dv s3 ⟨z, H3, I3, e3, k, ek, q3⟩ => ?_
  subst ek
  cases e3
  refine wpAny_truthy_bool ?_
  cases k with
  | false =>
    obtain ⟨k', e', q'⟩ := q3
    cases e'
    exact ite_ff ⟨H3, I3, q'⟩
  | true =>
    refine ite_tt (test_link ?_)
    refine thn (hc.run pins s3 σ H3 _ I3 q3) fun u4 s4 ⟨y4, H4, I4, e4, q4⟩ => ?_
    refine thn (h2 pins s4 σ H4 y y4 u u4 _ I4 e2 e4 q4) fun dv5 s5 ⟨z5, H5, I5, e5, k5, ek5, q5⟩ => ?_
    subst ek5
    cases e5
    refine wpAny_truthy_bool ?_
    cases k5 with
    | false =>
      obtain ⟨k', e', q'⟩ := q5
      cases e'
      exact ite_ff ⟨H5, I5, q'⟩
    | true =>
      refine ite_tt (test_last ?_)
      refine thn (hd.run pins s5 σ H5 _ I5 q5) fun u6 s6 ⟨y6, H6, I6, e6, q6⟩ => ?_
      refine thn (h3 pins s6 σ H6 y4 y6 u4 u6 _ I6 e4 e6 q6) fun dv7 s7 ⟨z7, H7, I7, e7, k7, ek7, q7⟩ => ?_
      subst ek7
      cases e7
      exact wpAny_truthy_bool ⟨H7, I7, q7⟩
theorem inSeq (K : PySem.W.Frag) {X : Cx} (h : X.K = K := by rfl) : OpR X (compareOp .In) (rIn K false) := h ▸ op_in_seq
theorem notInSeq (K : PySem.W.Frag) {X : Cx} (h : X.K = K := by rfl) : OpR X (compareOp .NotIn) (rIn K true) := h ▸ op_notIn_seq
/-! ### join with nothing between -/
theorem join_str (ys : List Str) : Txt.join "" ys = Str.join "" ys := eq_of_beq (join_closes (ys := ys) rfl)
theorem sjoin_le {m : Nat} : ∀ {ys : List Str}, (∀ y ∈ ys, y.length ≤ m) → (Str.join "" ys).length ≤ ys.length * m
  | [], _ => Nat.zero_le _
  | [y], h => by
    have := h y (List.mem_cons_self ..)
    show y.length ≤ 1 * m
    omega
  | y :: z :: r, h => by
    have h1 := h y (List.mem_cons_self ..)
    have h2 := sjoin_le (ys := z :: r) fun x hx => h x (List.mem_cons_of_mem _ hx)
    show (y ++ "" ++ Str.join "" (z :: r)).length ≤ _
    rw [Str.length_append, Str.length_append, List.length_cons, Nat.succ_mul]
    show y.length + 0 + _ ≤ _
    omega
theorem small_nil : Small "" := by
  unfold Small
  decide +kernel
theorem sjoin_small : ∀ {ys : List Str}, (∀ y ∈ ys, Small y) → Small (Str.join "" ys)
  | [], _ => small_nil
  | [y], h => h y (List.mem_cons_self ..)
  | y :: z :: r, h => ((h y (List.mem_cons_self ..)).app small_nil).app (sjoin_small (ys := z :: r) fun x hx => h x (List.mem_cons_of_mem _ hx))
theorem join_le {m : Nat} {ys : List Str} (h : ∀ y ∈ ys, y.length ≤ m) : (Txt.join "" ys).length ≤ ys.length * m := by
  rw [join_str]
  exact sjoin_le h
theorem join_small {ys : List Str} (h : ∀ y ∈ ys, Small y) : Small (Txt.join "" ys) := by
  rw [join_str]
  exact sjoin_small h

/-! ### a walk over a text's signs -/
theorem for_str {x : Str} {g : TG} {tb : TS} {D : Ends} {σ : L2.St} {H : Hp} (Pv : Nat → L2.St → Hp → Prop) (h0 : Pv 0 σ H)
    (hs : ∀ i c σ H, x.cps[i]? = some c → Pv i σ H → g (.str ⟨#[c]⟩) σ H fun σ2 H2 => tb { D with nx := Pv (i + 1), ct := Pv (i + 1), bk := D.nx } σ2 H2) (hd : ∀ σ H, Pv x.cps.size σ H → D.nx σ H) :
    ∃ W : Nat → Nat → L2.St → Hp → Prop, (∃ m, W 0 m σ H) ∧ ∀ i m σ H, W i m σ H →
      ((Its x).stop i H ∧ D.nx σ H) ∨ ((Its x).go i H ∧ ∃ N : L2.St → Hp → Prop, (∀ σ' H', N σ' H' → ∃ m', m' < m ∧ W (i + 1) m' σ' H') ∧ ∀ y H', (Its x).yld i H y H' → g y σ H' fun σ2 H2 => tb { D with nx := N, ct := N, bk := D.nx } σ2 H2) := by
  refine ⟨fun i m σ H => m = x.cps.size - i ∧ i ≤ x.cps.size ∧ Pv i σ H, ⟨x.cps.size, by simp, Nat.zero_le _, h0⟩, ?_⟩
  rintro i m σ H ⟨rfl, hi, p⟩
  by_cases hlt : i < x.cps.size
  · refine .inr ⟨hlt, Pv (i + 1), fun σ' H' p' => ⟨x.cps.size - (i + 1), by omega, rfl, hlt, p'⟩, fun y H' z => ?_⟩
    obtain ⟨e, c, hc, ev⟩ := z
    subst e ev
    exact hs i c σ _ hc p
  · have e : i = x.cps.size := by omega
    subst e
    exact .inl ⟨Nat.le_refl _, hd σ H p⟩
theorem lc_str {x : Str} {g : TG} {tt : TT} {te : TE} {vs : List Nat} {σ : L2.St} {H1 : Hp} {D : Addr} {Qd : Hp → Prop} (Pv : Nat → Hp → Prop) (h0 : Pv 0 (upd H1 D (.lst [])))
    (hs : ∀ i c H, x.cps[i]? = some c → Pv i H → g (.str ⟨#[c]⟩) (wipe σ vs) H fun σ2 H2 => wipe σ2 vs = wipe σ vs ∧ tt σ2 H2 fun b H3 =>
      if b = true then te σ2 H3 fun y H4 => ∃ acc, H4 D = some (.lst acc) ∧ acc.length < sizeLine ∧ Pv (i + 1) (upd H4 D (.lst (acc ++ [y]))) else Pv (i + 1) H3) (hd : ∀ H, Pv x.cps.size H → Qd H) :
    ∃ W : Nat → Nat → Hp → Prop, (∃ m, W 0 m (upd H1 D (.lst []))) ∧ ∀ i m H, W i m H →
      ((Its x).stop i H ∧ Qd H) ∨ ((Its x).go i H ∧ ∃ Nx : Hp → Prop, (∀ H', Nx H' → ∃ m', m' < m ∧ W (i + 1) m' H') ∧ ∀ y H', (Its x).yld i H y H' → g y (wipe σ vs) H' fun σ2 H2 => wipe σ2 vs = wipe σ vs ∧ tt σ2 H2 fun b H3 =>
        if b = true then te σ2 H3 fun y H4 => ∃ acc, H4 D = some (.lst acc) ∧ acc.length < sizeLine ∧ Nx (upd H4 D (.lst (acc ++ [y]))) else Nx H3) := by
  refine ⟨fun i m H => m = x.cps.size - i ∧ i ≤ x.cps.size ∧ Pv i H, ⟨x.cps.size, by simp, Nat.zero_le _, h0⟩, ?_⟩
  rintro i m H ⟨rfl, hi, p⟩
  by_cases hlt : i < x.cps.size
  · refine .inr ⟨hlt, Pv (i + 1), fun H' p' => ⟨x.cps.size - (i + 1), by omega, rfl, hlt, p'⟩, fun y H' z => ?_⟩
    obtain ⟨e, c, hc, ev⟩ := z
    subst e ev
    exact hs i c _ hc p
  · have e : i = x.cps.size := by omega
    subst e
    exact .inl ⟨Nat.le_refl _, hd H p⟩

/-! ### what stays in the heap, but the thing at p -/
def Kp (p : Addr) (H H' : Hp) : Prop := ∀ b o, b ≠ p → H b = some o → H' b = some o
theorem Kp.refl {p : Addr} {H : Hp} : Kp p H H := fun _ _ _ e => e
theorem Kp.trans {p : Addr} {H H1 H2 : Hp} (a : Kp p H H1) (b : Kp p H1 H2) : Kp p H H2 := fun c o n e => b c o n (a c o n e)
theorem Kp.new {p q : Addr} {H : Hp} {o : HO} (h : H q = none) : Kp p H (upd H q o) := fun b x _ e => by
  rw [upd_ne (ne_of_none e h)]
  exact e
theorem Kp.at {p : Addr} {H : Hp} {o : HO} : Kp p H (upd H p o) := fun b x n e => by
  rw [upd_ne n]
  exact e
/-- a change of what stood nowhere in H -/
theorem Kp.put {p q : Addr} {H H1 : Hp} {o : HO} (k : Kp p H H1) (h : H q = none) : Kp p H (upd H1 q o) := fun b x n e => by
  rw [upd_ne (ne_of_none e h)]
  exact k b x n e
theorem Kp.tup {p : Addr} {H H' : Hp} {ys : List V} {b : Addr} {xs : List V} (k : Kp p H H') (hp : H p = some (.lst ys)) (h : H b = some (.tup xs)) : H' b = some (.tup xs) :=
  k b _ (ne_of h hp (by intro z; cases z)) h
theorem Kp.some {p : Addr} {H H' : Hp} (k : Kp p H H') (hp : ∃ o, H' p = some o) {b : Addr} (h : H' b = none) : H b = none := by
  cases e : H b with
  | none => rfl
  | some o =>
    by_cases n : b = p
    · subst n
      obtain ⟨o', e'⟩ := hp
      rw [e'] at h
      cases h
    · rw [k b o n e] at h
      cases h

/-! ### arguments by names, in another order -/
def permV (js : List Nat) : List V → List V → List V := fun _ zs => js.map fun j => zs.getD j .non
def permU (js : List Nat) : List Value → List Value → List Value := fun _ ws => js.map fun j => ws.getD j .none
theorem vals_getD : ∀ {zs : List V} {ws : List Value} (j : Nat), Vals zs ws → RelV (zs.getD j .non) (ws.getD j .none)
  | _, _, _, .nil => rfl
  | _, _, 0, .cons r _ => r
  | _, _, j + 1, .cons _ t => vals_getD j t
theorem perm_rel {zs : List V} {ws : List Value} (r : Vals zs ws) : ∀ js : List Nat, Vals (js.map fun j => zs.getD j .non) (js.map fun j => ws.getD j .none)
  | [] => .nil
  | j :: js => .cons (vals_getD j r) (perm_rel r js)
theorem kbn_of {K : PySem.W.Frag} {fd : FuncData} {ps ks : List Str} (js : List Nat) (h : ∀ ws : List Value, ws.length = ks.length → bindArgs fd ⟨[], ks.zip ws⟩ = pure (ps.zip (js.map fun j => ws.getD j .none))) :
    KBn K fd ps 0 ks (permU js) (permV js) where
  to := fun s us ws _ hu hw => by
    obtain rfl := List.length_eq_zero_iff.mp hu
    exact .of_eq (h ws hw)
  rel := fun _ r => perm_rel r js
/-! ### what is added, and nothing changed -/
def Ext (H H' : Hp) : Prop := ∀ b o, H b = some o → H' b = some o
theorem Ext.refl {H : Hp} : Ext H H := fun _ _ e => e
theorem Ext.trans {H H1 H2 : Hp} (a : Ext H H1) (b : Ext H1 H2) : Ext H H2 := fun c o e => b c o (a c o e)
theorem Ext.new {q : Addr} {H : Hp} {o : HO} (h : H q = none) : Ext H (upd H q o) := fun b x e => by
  rw [upd_ne (ne_of_none e h)]
  exact e
theorem Ext.put {q : Addr} {H H1 : Hp} {o : HO} (k : Ext H H1) (h : H q = none) : Ext H (upd H1 q o) := fun b x e => by
  rw [upd_ne (ne_of_none e h)]
  exact k b x e
theorem Ext.none {H H' : Hp} (k : Ext H H') {q : Addr} (h : H' q = none) : H q = none := by
  cases e : H q with
  | none => rfl
  | some o =>
    rw [k q o e] at h
    cases h

theorem atI_get {α : Type} {xs : List α} {i : Int} (h0 : 0 ≤ i) (h1 : i < xs.length) : atI xs i = some (xs[i.toNat]'(by omega)) := by
  unfold atI ixN
  rw [if_pos h0, if_pos h1]
  exact List.getElem?_eq_getElem _
theorem atI_ints {ns : List Int} {i : Int} (h0 : 0 ≤ i) (h1 : i < ns.length) : ∃ z, z ∈ ns ∧ atI (ns.map V.int) i = some (.int z) := by
  have h2 : i < (ns.map V.int).length := by rw [List.length_map]; exact h1
  refine ⟨ns[i.toNat]'(by omega), List.getElem_mem _, ?_⟩
  rw [atI_get h0 h2, List.getElem_map]
theorem atI_mem {α : Type} {xs : List α} {i : Int} (h0 : 0 ≤ i) (h1 : i < xs.length) : ∃ v, v ∈ xs ∧ atI xs i = some v :=
  ⟨xs[i.toNat]'(by omega), List.getElem_mem _, atI_get h0 h1⟩
theorem len_pos {x : Str} (h : ¬ x = "") : 1 ≤ x.length := by
  obtain ⟨⟨l⟩⟩ := x
  cases l with
  | nil => exact absurd (by decide +kernel) h
  | cons a r =>
    show 1 ≤ (a :: r).length
    exact Nat.succ_pos _
theorem natAbs_lt_of {i : Int} {n : Nat} (h0 : -(n : Int) < i) (h1 : i < n) : i.natAbs < n := by omega
theorem log2_small {i : Int} (h : i.natAbs < 2 ^ 64) : i.natAbs.log2 < 1920 := by
  by_cases z : i.natAbs = 0
  · rw [z]
    decide
  · exact (Nat.log2_lt z).mpr (Nat.lt_of_lt_of_le h (Nat.pow_le_pow_right (by decide) (by decide)))
theorem szL {n : Nat} (h : n ≤ 1000000) : n ≤ sizeLine := by
  rw [sizeLine_eq]
  omega
theorem szLt {n : Nat} (h : n < 1000000) : n < sizeLine := by
  rw [sizeLine_eq]
  omega
end Pf


namespace Pf
open PySem PySem.Spec PyProof.Rows L2
/-! ### the law's own call: made by nobody, nothing being shown meanwhile -/
structure FnG (P : Program) (w : World) (K : PySem.W.Frag) (mg : Str → Option Value) (base : Heap) (f : Addr) (fd : FuncData) (ps : List Str) (sp : Sp) : Prop where
  run : ∀ (s : Shared) (H : Hp) (args : Args) (us : List Value) (vs : List V) (Q : VK) (E : XK), Env0 P w K mg base callerA [] s H → BindsTo s fd args (ps.zip us) → Vals vs us → sp vs H Q E →
    codeAny (model P w) callerA (.call (.ref f) args) (CR CX0 [] P w H s Q E) s
theorem FnG.of {P : Program} {w : World} {K : PySem.W.Frag} {mg : Str → Option Value} {base : Heap} {k : Nat} {f : Addr} {fd : FuncData} {x qual : Str} {st : Stmt} {N ps : List Str} {sp : Sp} (F : Fun K x qual st f fd) (S : FnScope N ps (defScope st))
    (room : Room (k + 1) callerA) (len : ∀ vs H Q E, sp vs H Q E → vs.length = ps.length)
    (body : ∀ (cdv : Value) (s : Shared) (H : Hp) (vs : List V) (Q : VK) (E : XK), Room k (callerA.deeper (envOfC qual (defScope st) s.heap.objs.size f cdv)) → (callerA.deeper (envOfC qual (defScope st) s.heap.objs.size f cdv)).guards = some [] → sp vs H Q E →
      ∃ t, PSs (cxOf CX0 P w K mg base N qual (defScope st) f cdv callerA [] s H E).nox (defBody st) t ∧ t { nx := fun _ H' => Q .non H', rt := Q } (start N vs) H) : FnG P w K mg base f fd ps sp := by
  obtain ⟨oc, od, kV, doc, pm, an, cdv, ct, osl, rfl, lk, hcd⟩ := F.ex
  refine ⟨fun s H args us vs Q E env0 bnd rel hsp => ?_⟩
  have inS : K.In s.heap := env0.mod.kin.keeps fun b o e => (env0.bs b o e).1
  have limS : s.heap.NoLimit := env0.mod.nolimit.keeps fun b o e => (env0.bs b o e).1
  have kinds : ∀ y ∈ ps.zip us, (defScope st).names.lookup y.1 = some .local ∨ ((defScope st).names.lookup y.1 = some .cell ∧ ((cellsFrom (s.heap.objs.size + 1) (defScope st).names []).lookup y.1).isSome = true) := by
    rintro ⟨n, v⟩ hy
    cases S.par n (List.of_mem_zip hy).1 with
    | inl q => exact .inl q
    | inr q => exact .inr ⟨q, PySem.W.cellsFrom_some _ _ _ (.inl q)⟩
  refine codeAny_call_function room.depth (inS _ _ lk) rfl S.co S.gen rfl (PySem.W.codeRec_of inS hcd) (bnd _ _ _ _ ?_)
  refine wpAny_newFunctionEnv_cells S.kind kinds fun env0' he s1 inC => ?_
  subst he
  refine ⟨limS.keeps inC.toInCall.keep, codeAny_func ?_⟩
  obtain ⟨t, ht, hq⟩ := body cdv s H vs Q E (room.deeper _) rfl hsp
  have I0 : Inv (cxOf CX0 P w K mg base N qual (defScope st) f cdv callerA [] s H E) [] (start N vs) H s1 := inv_start S room.hd env0 (len _ _ _ _ hsp) rel inC
  refine wpAny_mono (ht.nox.run [] s1 (start N vs) H _ I0 hq) (fun fl s' hs => ?_) fun _ _ z => z
  cases fl with
  | ret u =>
    obtain ⟨v, σ', H', J, rv, q⟩ := hs
    exact ⟨v, H', J.os, J.bare, J.base, J.hok, rv, q⟩
  | next =>
    obtain ⟨σ', H', J, q⟩ := hs
    exact ⟨.non, H', J.os, J.bare, J.base, J.hok, rfl, q⟩
  | brk => exact False.elim (by obtain ⟨_, _, _, q⟩ := hs; exact q)
  | cont => exact False.elim (by obtain ⟨_, _, _, q⟩ := hs; exact q)
/-- its end: from an abstract heap that holds the script or nothing -/
theorem FnG.ends {P : Program} {w : World} {K : PySem.W.Frag} {mg mb : Str → Option Value} {fa a : Addr} {fd : FuncData} {x : Str} {sp : Sp} {s1 : Shared} {vs : List Value} {ns : List Int}
    (inK : K.In s1.heap) (gl : s1.heap.Ns mainGlobals mg) (bl : s1.heap.Ns builtinsNs mb) (bb : ∀ x : Str, x ≠ "__name__" → mb x = bootBuiltins x) (lim : s1.heap.NoLimit) (gens : s1.gens = #[])
    (hscr : s1.heap.get? a = some { cls := .type "list", data := .seq vs.toArray }) (hin : IntsAre vs ns) (F : ∀ base : Heap, K.In base → base.Ns mainGlobals mg → FnG P w K mg base fa fd [x] sp) (bnd : ∀ (s : Shared) (u : Value), BindsTo s fd ⟨[u], []⟩ [(x, u)])
    {H : Hp} (only : Only H) (hsp : sp [.ref a] H (fun v _ => v = .bl true) fun _ _ _ => False) (hok : HOk P w H s1.heap) (hA : ∀ b, H b ≠ none → b = a) (hK : H a ≠ none → K.lookup a = none) :
    codeAny (model P w) callerA (.call (.ref fa) ⟨[.ref a], []⟩) (fun r s' => r = .ok (.ret (.bool true)) ∧ OldK s1.heap s'.heap ∧ s'.os = s1.os ∧ AllBare s'.gens) s1 := by
  have isA : ∀ {b : Addr} {u : HO}, H b = some u → b = a := fun {b u} q => hA b (by rw [q]; exact Option.some_ne_none _)
  have hid : ∀ {b : Addr} {o : Obj}, s1.heap.get? b = some o → H b = none → (hidT s1.heap H).get? b = some o := fun e n => hidT_get e n
  have dictN : ∀ {b : Addr} {o : Obj} {es : Array DictEntry} {ep : Nat}, s1.heap.get? b = some o → o.data = .dict es ep → H b = none := by
    intro b o es ep e d
    cases q : H b with
    | none => rfl
    | some u =>
      obtain rfl := isA q
      rw [hscr] at e
      cases e
      exact nomatch d
  have nsH : ∀ {b : Addr} {m : Str → Option Value}, s1.heap.Ns b m → (hidT s1.heap H).Ns b m := by
    rintro b m ⟨o, es, ep, e, d, r⟩
    exact ⟨o, es, ep, hid e (dictN e d), d, r⟩
  have inB : K.In (hidT s1.heap H) := by
    intro b o e
    refine hid (inK b o e) ?_
    cases q : H b with
    | none => rfl
    | some u =>
      obtain rfl := isA q
      rw [hK (by rw [q]; exact Option.some_ne_none _)] at e
      cases e
  have limB : (hidT s1.heap H).NoLimit := by
    obtain ⟨mc, h1, h2⟩ := lim
    exact ⟨mc, nsH h1, h2⟩
  have env0 : Env0 P w K mg (hidT s1.heap H) callerA [] s1 H :=
    ⟨rfl, ⟨inB, nsH gl, ⟨mb, nsH bl, bb⟩, limB⟩, fun b o e => of_hidT e, Nat.le_of_eq (hidT_size _ _), trivial, fun b hb => (nomatch (show b ∈ ([] : List Addr) from hb)), hok, .of_eq gens⟩
  refine codeAny_mono ((F _ inB (nsH gl)).run s1 H ⟨[.ref a], []⟩ [.ref a] [.ref a] _ _ env0 (bnd s1 (.ref a)) (.cons rfl .nil) hsp) fun r s' h => ?_
  match r, h with
  | .error _, h => exact False.elim h
  | .ok .next, h => exact False.elim h
  | .ok .brk, h => exact False.elim h
  | .ok .cont, h => exact False.elim h
  | .ok (.ret u), h =>
    obtain ⟨v, H', os, bare, un, hok', rel, q⟩ := h
    obtain rfl : v = .bl true := q
    obtain rfl : u = Value.bool true := rel
    refine ⟨rfl, OldK.of_keep fun b o e => ?_, os, bare⟩
    cases q : H b with
    | none => exact un.keep b o e q (fun z => (nomatch (show b ∈ ([] : List Addr) from z))) (by simp)
    | some u =>
      cases only b with
      | inl z => rw [q] at z; cases z
      | inr z =>
        obtain ⟨ob, xs, z⟩ := z
        have kept := (hok' b _ (un.frzs b ob _ z)).1
        have was := (hok b _ z).1
        rw [e] at was
        cases was
        exact kept
theorem walk_g {l : PySem.W.OpenLaw} {n : Nat} {q : Program} {loose : List Str} {XP : (Str → Option Value) → Heap → Prop} {YP : World → Heap → Prop} {d : DefRec} {K : Params → PySem.W.Frag} {sp : World → Sp} {x : Str}
    (hn : l.most = some n) (hn2 : n ≤ sizeLine) (hdf : d.params.defaults = []) (hY : ∀ (w : World) (h : Heap), YP w h → (K w.params).In h)
    (F : ∀ (w : World) (mg : Str → Option Value) (fa : Addr) (h : Heap), (K w.params).In h → h.Ns mainGlobals mg → mg d.name = some (.ref fa) →
      ∃ fd : FuncData, (∀ (s : Shared) (u : Value), BindsTo s fd ⟨[u], []⟩ [(x, u)]) ∧ ∀ base : Heap, (K w.params).In base → base.Ns mainGlobals mg → FnG l.prog w (K w.params) mg base fa fd [x] (sp w))
    (hsp : ∀ (w : World) (H : Hp) (a : Addr) (ns : List Int), ns.length ≤ n → SqL (K w.params) H a (ns.map V.int) → sp w [.ref a] H (fun v _ => v = .bl true) fun _ _ _ => False) :
    PySem.W.WalkO q loose XP YP l.row.toRowW d [] (fun f vs => PySem.call f vs) := by
  refine Att.attach_call hn hdf fun w s0 s1 mg mb fa o pm cd doc a vs ns G Y ho hd hcd hmg hobj hints hlen hg => ?_
  have inK := hY w _ Y
  obtain ⟨fd, bnd, hF⟩ := F w mg fa _ inK G.T.g hmg
  have szs : ns.length ≤ sizeLine := Nat.le_trans hlen hn2
  have vals := vals_ints hints
  cases hk : (K w.params).lookup a with
  | some ob =>
    have e := inK a ob hk
    rw [hobj] at e
    cases e
    have here : SqL (K w.params) (fun _ => none) a (ns.map V.int) := .inr ⟨_, vs.toArray, _, hk, rfl, rfl, rfl, by rw [List.size_toArray, hints.length]; exact szs, by simpa using vals⟩
    exact FnG.ends inK G.T.g G.T.b G.T.builtins G.T.nolimit hg hobj hints hF bnd (fun _ => .inl rfl) (hsp w _ a ns hlen here) (fun _ _ z => (nomatch z)) (fun b z => absurd rfl z) fun z => absurd rfl z
  | none =>
    have here : SqL (K w.params) (fun b => if b = a then some (.frz { cls := .type "list", data := .seq vs.toArray } (.lst (ns.map V.int))) else none) a (ns.map V.int) := .inl (.inr ⟨_, if_pos rfl⟩)
    refine FnG.ends inK G.T.g G.T.b G.T.builtins G.T.nolimit hg hobj hints hF bnd (fun b => ?_) (hsp w _ a ns hlen here) (fun b u z => ?_) (fun b z => ?_) fun _ => hk
    · exact if h : b = a then .inr ⟨_, _, if_pos h⟩ else .inl (if_neg h)
    · by_cases h : b = a
      · rw [if_pos h] at z
        cases z
        subst h
        exact ⟨hobj, by rw [List.length_map]; exact szs, vs, _, vals, hobj⟩
      · rw [if_neg h] at z
        cases z
    · by_cases h : b = a
      · exact h
      · exact absurd (if_neg h) z
/-! ### data that are small: how much they weigh, how deep they are -/
structure Sm (m k : Nat) (d : PyData) : Prop where
  lay : d.canLay0 = true
  sho : d.showable = true
  ish : d.intsShort 13 = true
  wt : d.weight ≤ m
  dep : d.depth ≤ k
theorem Sm.le {m k m' k' : Nat} {d : PyData} (h : Sm m k d) (hm : m ≤ m') (hk : k ≤ k') : Sm m' k' d := ⟨h.lay, h.sho, h.ish, Nat.le_trans h.wt hm, Nat.le_trans h.dep hk⟩
theorem Sm.non : Sm 0 0 .none := ⟨by simp [PyData.canLay0], by simp [PyData.showable], by simp [PyData.intsShort], by simp [PyData.weight], by simp [PyData.depth]⟩
theorem Sm.bl (b : Bool) : Sm 0 0 (.bool b) := ⟨by simp [PyData.canLay0], by simp [PyData.showable], by simp [PyData.intsShort], by simp [PyData.weight], by simp [PyData.depth]⟩
theorem Sm.int {i : Int} (h0 : -1000000000 < i) (h1 : i < 1000000000) : Sm 64 0 (.int i) := by
  have hb : i.natAbs < 2 ^ 64 := by omega
  have hl : i.natAbs.log2 < 64 := by
    by_cases z : i.natAbs = 0
    · rw [z]
      decide
    · exact (Nat.log2_lt z).mpr hb
  refine ⟨by simp [PyData.canLay0], ?_, ?_, ?_, by simp [PyData.depth]⟩
  · simp only [PyData.showable]
    exact decide_eq_true (by omega)
  · simp only [PyData.intsShort, PyData.shown]
    refine decide_eq_true ?_
    by_cases hn : i < 0
    · rw [len_text_neg hn]
      have := toString_length_le (v := 0 - i) (k := 9) (by omega) (by decide) (by omega)
      omega
    · have := toString_length_le (v := i) (k := 9) (by omega) (by decide) (by omega)
      omega
  · simp only [PyData.weight]
    split <;> omega
theorem Sm.str {x : Str} {n : Nat} (h : PyData.strOk x = true) (hn : x.length ≤ n) : Sm n 0 (.str x) :=
  ⟨by simpa only [PyData.canLay0] using h, by simp [PyData.showable], by simp [PyData.intsShort], by simp only [PyData.weight]; exact hn, by simp [PyData.depth]⟩
structure SmA (n m k : Nat) (ds : List PyData) : Prop where
  lay : PyData.canLayAll0 ds = true
  sho : PyData.showableAll ds = true
  ish : PyData.intsShortAll 13 ds = true
  wt : PyData.weightAll ds ≤ ds.length * (m + 1)
  dep : PyData.depthAll ds ≤ k
theorem SmA.of {m k : Nat} : ∀ {ds : List PyData}, (∀ d ∈ ds, Sm m k d) → SmA ds.length m k ds
  | [], _ => ⟨by simp [PyData.canLayAll0], by simp [PyData.showableAll], by simp [PyData.intsShortAll], by simp [PyData.weightAll], by simp [PyData.depthAll]⟩
  | d :: ds, h => by
    have h1 := h d (List.mem_cons_self ..)
    have h2 := SmA.of (ds := ds) fun x hx => h x (List.mem_cons_of_mem _ hx)
    refine ⟨by simp [PyData.canLayAll0, h1.lay, h2.lay], by simp [PyData.showableAll, h1.sho, h2.sho], by simp [PyData.intsShortAll, h1.ish, h2.ish], ?_, ?_⟩
    · have e1 := h1.wt
      have e2 := h2.wt
      simp only [PyData.weightAll, List.length_cons, Nat.succ_mul]
      omega
    · simp only [PyData.depthAll]
      exact Nat.max_le.mpr ⟨h1.dep, h2.dep⟩
theorem Sm.lst {n m k M : Nat} {ds : List PyData} (hn : ds.length ≤ n) (h : ∀ d ∈ ds, Sm m k d) (hM : n * (m + 1) ≤ M) : Sm M (k + 1) (.list ds) := by
  have a := SmA.of h
  have hw : ds.length * (m + 1) ≤ n * (m + 1) := Nat.mul_le_mul_right _ hn
  exact ⟨by simpa only [PyData.canLay0] using a.lay, by simpa only [PyData.showable] using a.sho, by simpa only [PyData.intsShort] using a.ish, by simp only [PyData.weight]; exact Nat.le_trans a.wt (Nat.le_trans hw hM), by simp only [PyData.depth]; exact Nat.succ_le_succ a.dep⟩
theorem Sm.tup {n m k M : Nat} {ds : List PyData} (hn : ds.length ≤ n) (h : ∀ d ∈ ds, Sm m k d) (hM : n * (m + 1) ≤ M) : Sm M (k + 1) (.tuple ds) := by
  have a := SmA.of h
  have hw : ds.length * (m + 1) ≤ n * (m + 1) := Nat.mul_le_mul_right _ hn
  exact ⟨by simpa only [PyData.canLay0] using a.lay, by simpa only [PyData.showable] using a.sho, by simpa only [PyData.intsShort] using a.ish, by simp only [PyData.weight]; exact Nat.le_trans a.wt (Nat.le_trans hw hM), by simp only [PyData.depth]; exact Nat.succ_le_succ a.dep⟩
theorem Sm.shaped {m k : Nat} {d : PyData} (h : Sm m k d) (hk : k ≤ 50) : SeqAt.shaped d = true := by
  show (d.canLay0 && decide (d.depth ≤ 64)) = true
  rw [h.lay, decide_eq_true (show d.depth ≤ 64 from Nat.le_trans h.dep (by omega))]
  rfl
theorem Sm.short {m k : Nat} {d : PyData} (h : Sm m k d) (hm : m ≤ 1000000) (hk : k ≤ 50) : d.shown.length ≤ sizeLine := by
  have e : PyData.layable0 d = true := by
    show (d.canLay0 && decide (d.depth ≤ 64) && decide (d.weight ≤ 2 ^ 20)) = true
    rw [h.lay, decide_eq_true (show d.depth ≤ 64 from Nat.le_trans h.dep (by omega)), decide_eq_true (show d.weight ≤ 2 ^ 20 from Nat.le_trans h.wt (by omega))]
    rfl
  have := shown_le13 e h.ish
  rw [sizeLine_eq]
  omega
/-! ### repr of data at any depth -/
def rShow (K : PySem.W.Frag) : List V → Hp → VK → Prop := fun xs H Q => ∃ v d m k, xs = [v] ∧ Dp K H v d ∧ Sm m k d ∧ m ≤ 1000000 ∧ k ≤ 50 ∧ Q (.str d.shown) H
theorem call_show (K : PySem.W.Frag) {X : Cx} (hg : X.A.guards = some []) (hu : X.A.units + 64 < cLine) (hK : X.K = K := by rfl) : CallR X (.builtin "repr") (rShow K) := by
  subst hK
  intro pins s σ H xs us Q I r h
  obtain ⟨v, d, m, k, rfl, hd, sh, hm, hk, q⟩ := h
  have hdep := sh.dep
  have hz := sh.short hm hk
  cases hd with
  | non =>
    obtain ⟨u, rfl, rfl⟩ := vals1 r
    exact PySem.P.repr_of_none ⟨.str _, H, I.tok _, ⟨_, rfl⟩, by simpa only [PyData.shown] using q⟩
  | bl b =>
    obtain ⟨u, rfl, rfl⟩ := vals1 r
    refine PySem.P.repr_of_bool ⟨.str _, H, I.tok _, ⟨_, rfl⟩, ?_⟩
    simp only [PyData.shown] at q
    cases b <;> exact q
  | int i =>
    obtain ⟨u, rfl, t, rfl⟩ := vals1 r
    have hi : i.natAbs.log2 < 1920 := by simpa [PyData.showable] using sh.sho
    exact PySem.P.repr_of_int hi ⟨.str _, H, I.tok _, ⟨_, rfl⟩, by simpa only [PyData.shown] using q⟩
  | str x =>
    obtain ⟨u, rfl, t, rfl⟩ := vals1 r
    simp only [PyData.shown] at q hz
    exact PySem.P.repr_of_str ⟨.str _, H, I.tok _, ⟨_, rfl⟩, q⟩ hz
  | @lst a ys ds hs hds =>
    obtain ⟨u, rfl, rfl⟩ := vals1 r
    obtain ⟨as, rd⟩ := Dp.reads I _ _ _ (Dp.lst hs hds) (show RelV (.ref a) (.ref a) from rfl)
    exact PySem.repr_of_reads' rd sh.sho (PyData.noDict_hsm (PyData.hasDict_of_canLay _ sh.lay)) hg (by omega) (fun _ _ e => e) (fun h' u tk keep => ⟨.str _, H, I.kept keep, ⟨_, rfl⟩, q⟩) hz
  | @tup a ys ds hs hds =>
    obtain ⟨u, rfl, rfl⟩ := vals1 r
    obtain ⟨as, rd⟩ := Dp.reads I _ _ _ (Dp.tup hs hds) (show RelV (.ref a) (.ref a) from rfl)
    exact PySem.repr_of_reads' rd sh.sho (PyData.noDict_hsm (PyData.hasDict_of_canLay _ sh.lay)) hg (by omega) (fun _ _ e => e) (fun h' u tk keep => ⟨.str _, H, I.kept keep, ⟨_, rfl⟩, q⟩) hz
/-! ### sorted of data -/
def rSortD (K : PySem.W.Frag) : List V → Hp → VK → Prop := fun vs H Q => ∃ (β : Type) (v : β → V) (d : β → PyData) (a : Addr) (bs : List β), vs = [.ref a] ∧ SqL K H a (bs.map v) ∧ (∀ b ∈ bs, Dp K H (v b) (d b) ∧ (d b).depth ≤ 50) ∧
  PySem.W.AllAlike (bs.map d) ∧ PySem.W.Sortable (bs.map d) ∧ ∀ p, H p = none → Q (.ref p) (upd H p (.lst ((bs.mergeSort (PySem.W.dataLe false d)).map v)))
section
variable {β : Type} {v : β → V} {d : β → PyData}
theorem each_vals : ∀ {bs : List β} {its : List Value}, Vals (bs.map v) its → PySem.W.EachIs (fun (u : Value) (b : β) => RelV (v b) u) its bs
  | [], _, .nil => .nil
  | _ :: _, _, .cons r t => .cons r (each_vals t)
theorem vals_each : ∀ {bs : List β} {its : List Value}, PySem.W.EachIs (fun (u : Value) (b : β) => RelV (v b) u) its bs → Vals (bs.map v) its
  | [], _, .nil => .nil
  | _ :: _, _, .cons r t => .cons r (vals_each t)
theorem each_reads {X : Cx} {pins : List (Addr × Obj)} {σ : L2.St} {H : Hp} {s : Shared} (I : Inv X pins σ H s) : ∀ {bs : List β} {its : List Value}, Vals (bs.map v) its → (∀ b ∈ bs, Dp X.K H (v b) (d b)) → PySem.W.EachIs (fun (u : Value) (b : β) => ∃ as, Reads s.heap u (d b) as) its bs
  | [], _, .nil, _ => .nil
  | b :: _, _, .cons r t, h => .cons (Dp.reads I _ _ _ (h b (List.mem_cons_self ..)) r) (each_reads I t fun x hx => h x (List.mem_cons_of_mem _ hx))
end
theorem cr_sortD (K : PySem.W.Frag) {X : Cx} (hu : X.A.units + 64 < cLine) (hK : X.K = K := by rfl) : CallR X (.builtin "sorted") (rSortD K) := by
  subst hK
  intro pins s σ H vs us Q I r h
  obtain ⟨β, v, d, a, bs, rfl, hs, hd, al, so, q⟩ := h
  obtain ⟨u, rfl, rfl⟩ := vals1 r
  obtain ⟨its, rv, hl, hz⟩ := I.list hs
  rw [List.length_map] at hz
  refine PySem.W.sorted_data (enc := d) (R := fun (u : Value) (b : β) => RelV (v b) u) hl.isList (each_vals rv) (each_reads I rv fun b hb => (hd b hb).1) al so hz (fun b hb => ?_) fun out hlen he => ?_
  · have := (hd b hb).2
    omega
  · obtain ⟨ep, he'⟩ := PyProof.Rows.sortedAll_at s.heap its out.toArray
    have hlen2 : ((bs.mergeSort (PySem.W.dataLe false d)).map v).length ≤ sizeLine := by
      rw [List.length_map, List.length_mergeSort]
      exact hz
    exact ⟨.ref _, upd H (s.heap.objs.size + 1) (.lst ((bs.mergeSort (PySem.W.dataLe false d)).map v)), I.laid (t' := s.toks) (fun _ _ => PyProof.Rows.sortedAll_old) (Nat.le_succ _) ⟨hlen2, out, ep, vals_each he, by simpa using he'⟩, rfl, q _ (I.hok.fresh (Nat.le_succ _))⟩
end Pf


namespace Pf
open PySem PySem.Spec PyProof.Rows L2
/-! ### tuples stay -/
structure TupK (H H' : Hp) : Prop where
  tup : ∀ b xs, H b = some (.tup xs) → H' b = some (.tup xs)
  frz : ∀ b o u, H b = some (.frz o u) → H' b = some (.frz o u)
instance {H H' : Hp} : CoeFun (TupK H H') (fun _ => ∀ b xs, H b = some (.tup xs) → H' b = some (.tup xs)) := ⟨TupK.tup⟩
theorem TupK.refl {H : Hp} : TupK H H := ⟨fun _ _ e => e, fun _ _ _ e => e⟩
theorem TupK.trans {H H1 H2 : Hp} (a : TupK H H1) (b : TupK H1 H2) : TupK H H2 := ⟨fun c xs e => b.tup c xs (a.tup c xs e), fun c o u e => b.frz c o u (a.frz c o u e)⟩
theorem TupK.ext {H H' : Hp} (k : Ext H H') : TupK H H' := ⟨fun b _ e => k b _ e, fun b _ _ e => k b _ e⟩
theorem TupK.new {q : Addr} {H : Hp} {o : HO} (h : H q = none) : TupK H (upd H q o) := TupK.ext (Ext.new h)
theorem TupK.lst {q : Addr} {H : Hp} {o : HO} {ys : List V} (h : H q = some (.lst ys)) : TupK H (upd H q o) := by
  refine ⟨fun b xs e => ?_, fun b o u e => ?_⟩
  · rw [upd_ne (ne_of e h (by intro z; cases z))]
    exact e
  · rw [upd_ne (ne_of e h (by intro z; cases z))]
    exact e
theorem paired_imp {α β : Type} {R S : α → β → Prop} (h : ∀ a b, R a b → S a b) : ∀ {xs : List α} {ys : List β}, Paired R xs ys → Paired S xs ys
  | _, _, .nil => .nil
  | _, _, .cons r t => .cons (h _ _ r) (paired_imp h t)
theorem paired_get {α β : Type} {R : α → β → Prop} : ∀ {xs : List α} {ys : List β} {i : Nat} {x : α}, Paired R xs ys → xs[i]? = some x → ∃ y, ys[i]? = some y ∧ R x y
  | _, _, _, _, .nil, e => by simp at e
  | _, _, 0, _, .cons r _, e => by
    simp at e
    subst e
    exact ⟨_, rfl, r⟩
  | _, _, i + 1, x, .cons _ t, e => by
    obtain ⟨y, h1, h2⟩ := paired_get (i := i) (x := x) t (by simpa using e)
    exact ⟨y, by simpa using h1, h2⟩
theorem paired_len {α β : Type} {R : α → β → Prop} : ∀ {xs : List α} {ys : List β}, Paired R xs ys → xs.length = ys.length
  | _, _, .nil => rfl
  | _, _, .cons _ t => by rw [List.length_cons, List.length_cons, paired_len t]
theorem paired_app {α β : Type} {R : α → β → Prop} : ∀ {xs xs' : List α} {ys ys' : List β}, Paired R xs ys → Paired R xs' ys' → Paired R (xs ++ xs') (ys ++ ys')
  | _, _, _, _, .nil, s => s
  | _, _, _, _, .cons r t, s => .cons r (paired_app t s)
/-! ### things as they lie in the heap -/
def PairAt (H : Hp) (v : V) (x : Str × Int) : Prop := ∃ a, v = .ref a ∧ H a = some (.tup [.str x.1, .int x.2])
def StackAt (H : Hp) (v : V) (x : Str × Str × Int) : Prop := ∃ a, v = .ref a ∧ H a = some (.tup [.str x.1, .str x.2.1, .int x.2.2])
def TwoAt (H : Hp) (v : V) (x : Int × Int) : Prop := ∃ a, v = .ref a ∧ H a = some (.tup [.int x.1, .int x.2])
def TupOf {α : Type} (R : Hp → V → α → Prop) (H : Hp) (v : V) (xs : List α) : Prop := ∃ a vs, v = .ref a ∧ H a = some (.tup vs) ∧ Paired (R H) vs xs
def Mono {α : Type} (R : Hp → V → α → Prop) : Prop := ∀ H H' v x, TupK H H' → R H v x → R H' v x
theorem PairAt.mono : Mono PairAt := fun H H' v x k ⟨a, e, h⟩ => ⟨a, e, k _ _ h⟩
theorem StackAt.mono : Mono StackAt := fun H H' v x k ⟨a, e, h⟩ => ⟨a, e, k _ _ h⟩
theorem TwoAt.mono : Mono TwoAt := fun H H' v x k ⟨a, e, h⟩ => ⟨a, e, k _ _ h⟩
theorem TupOf.mono {α : Type} {R : Hp → V → α → Prop} (m : Mono R) : Mono (TupOf R) := fun H H' v x k ⟨a, vs, e, h, r⟩ => ⟨a, vs, e, k _ _ h, paired_imp (fun _ _ => m _ _ _ _ k) r⟩
/-- a tuple whose object is known to have no dict -/
def FrzOf {α : Type} (R : Hp → V → α → Prop) (H : Hp) (v : V) (xs : List α) : Prop := ∃ (a : Addr) (o : Obj) (vs : List V), v = .ref a ∧ H a = some (.frz o (.tup vs)) ∧ o.dict = none ∧ Paired (R H) vs xs
theorem FrzOf.mono {α : Type} {R : Hp → V → α → Prop} (m : Mono R) : Mono (FrzOf R) := fun H H' v x k ⟨a, o, vs, e, h, hd, r⟩ => ⟨a, o, vs, e, k.frz _ _ _ h, hd, paired_imp (fun _ _ => m _ _ _ _ k) r⟩
theorem SqT.fz {K : PySem.W.Frag} {H : Hp} {a : Addr} {o : Obj} {xs : List V} (h : H a = some (.frz o (.tup xs))) : SqT K H a xs := .inl (.inr ⟨o, h⟩)
def IntAt (_ : Hp) (v : V) (x : Int) : Prop := v = .int x
theorem IntAt.mono : Mono IntAt := fun _ _ _ _ _ e => e
theorem paired_ints {H : Hp} : ∀ ns : List Int, Paired (IntAt H) (ns.map V.int) ns
  | [] => .nil
  | _ :: r => .cons rfl (paired_ints r)
structure Rl where
  letters : Str
  prs : List (Str × Int)
  span : Int
  loops : List Int
  stk : List (Str × Str × Int)
def RulesAt (H : Hp) (v : V) (r : Rl) : Prop := ∃ a vp vl vs, v = .ref a ∧ H a = some (.tup [.str r.letters, vp, .int r.span, vl, vs]) ∧ FrzOf PairAt H vp r.prs ∧ TupOf IntAt H vl r.loops ∧ TupOf StackAt H vs r.stk
theorem RulesAt.mono : Mono RulesAt := fun H H' v x k ⟨a, vp, vl, vs, e, h, h1, h2, h3⟩ => ⟨a, vp, vl, vs, e, k _ _ h, FrzOf.mono PairAt.mono _ _ _ _ k h1, TupOf.mono IntAt.mono _ _ _ _ k h2, TupOf.mono StackAt.mono _ _ _ _ k h3⟩
/-- pairs as a tuple of either make -/
def PrsW (H : Hp) (v : V) (xs : List (Str × Int)) : Prop := ∃ (a : Addr) (vs : List V), v = .ref a ∧ ((∃ o, H a = some (.frz o (.tup vs))) ∨ H a = some (.tup vs)) ∧ Paired (PairAt H) vs xs
theorem PrsW.mono : Mono PrsW := fun H H' v x k ⟨a, vs, e, h, r⟩ => ⟨a, vs, e, h.elim (fun ⟨o, h⟩ => .inl ⟨o, k.frz _ _ _ h⟩) (fun h => .inr (k _ _ h)), paired_imp (fun _ _ => PairAt.mono _ _ _ _ k) r⟩
theorem SqT.w {K : PySem.W.Frag} {H : Hp} {a : Addr} {xs : List V} (h : (∃ o, H a = some (.frz o (.tup xs))) ∨ H a = some (.tup xs)) : SqT K H a xs := h.elim (fun ⟨_, h⟩ => SqT.fz h) (fun h => SqT.of h)
def RulesW (H : Hp) (v : V) (r : Rl) : Prop := ∃ a vp vl vs, v = .ref a ∧ H a = some (.tup [.str r.letters, vp, .int r.span, vl, vs]) ∧ PrsW H vp r.prs ∧ TupOf IntAt H vl r.loops ∧ TupOf StackAt H vs r.stk
theorem RulesW.mono : Mono RulesW := fun H H' v x k ⟨a, vp, vl, vs, e, h, h1, h2, h3⟩ => ⟨a, vp, vl, vs, e, k _ _ h, PrsW.mono _ _ _ _ k h1, TupOf.mono IntAt.mono _ _ _ _ k h2, TupOf.mono StackAt.mono _ _ _ _ k h3⟩
theorem RulesAt.w {H : Hp} {v : V} {r : Rl} (h : RulesAt H v r) : RulesW H v r := by
  obtain ⟨a, vp, vl, vs, e, h, ⟨ap, o, us, e1, h1, _, p⟩, h2, h3⟩ := h
  exact ⟨a, vp, vl, vs, e, h, ⟨ap, us, e1, .inl ⟨o, h1⟩, p⟩, h2, h3⟩
def Two (t : Str) : Prop := t.length = 2 ∧ Small t
structure RlOk (r : Rl) : Prop where
  let6 : r.letters.length ≤ 6
  let1 : 1 ≤ r.letters.length
  small : Small r.letters
  prs : r.prs.length ≤ 12
  pr : ∀ x ∈ r.prs, Two x.1 ∧ -99 ≤ x.2 ∧ x.2 ≤ 99
  sp0 : 0 ≤ r.span
  sp3 : r.span ≤ 3
  lo9 : r.loops.length = 9
  lo : ∀ x ∈ r.loops, -99 ≤ x ∧ x ≤ 99
  stk : r.stk.length ≤ 12
  st : ∀ x ∈ r.stk, Two x.1 ∧ Two x.2.1 ∧ -99 ≤ x.2.2 ∧ x.2.2 ≤ 99
  nd : (r.stk.map fun x => (x.1, x.2.1)).Nodup
  pn : (r.prs.map (·.1)).Nodup
/-! ### a dict by two texts -/
def encE (x : Str × Str × Int) : List Key × V := ([.inr x.1, .inr x.2.1], .int x.2.2)
def putE (es : List (Str × Str × Int)) (a b : Str) (i : Int) : List (Str × Str × Int) :=
  if (es.any fun x => decide (x.1 = a ∧ x.2.1 = b)) = true then es.map (fun x => if x.1 = a ∧ x.2.1 = b then (x.1, x.2.1, i) else x) else es ++ [(a, b, i)]
theorem encE_key (x : Str × Str × Int) (a b : Str) : ((encE x).1 = [Sum.inr a, Sum.inr b]) ↔ (x.1 = a ∧ x.2.1 = b) := by
  unfold encE
  constructor
  · intro h
    injection h with h1 h2
    injection h2 with h3 _
    exact ⟨Sum.inr.inj h1, Sum.inr.inj h3⟩
  · rintro ⟨h1, h2⟩
    rw [h1, h2]
theorem put_enc (es : List (Str × Str × Int)) (a b : Str) (i : Int) : putK (es.map encE) [Sum.inr a, Sum.inr b] (.int i) = (putE es a b i).map encE := by
  have hany : ((es.map encE).any fun kv => decide (kv.1 = [Sum.inr a, Sum.inr b])) = es.any fun x => decide (x.1 = a ∧ x.2.1 = b) := by
    rw [List.any_map]
    congr 1
    funext x
    exact decide_eq_decide.mpr (encE_key x a b)
  unfold putK putE
  rw [hany]
  by_cases h : (es.any fun x => decide (x.1 = a ∧ x.2.1 = b)) = true
  · rw [if_pos h, if_pos h, List.map_map, List.map_map]
    refine List.map_congr_left fun x _ => ?_
    show (if (encE x).1 = [Sum.inr a, Sum.inr b] then ((encE x).1, V.int i) else encE x) = encE (if x.1 = a ∧ x.2.1 = b then (x.1, x.2.1, i) else x)
    by_cases e : x.1 = a ∧ x.2.1 = b
    · rw [if_pos ((encE_key x a b).mpr e), if_pos e]
      rfl
    · rw [if_neg (fun z => e ((encE_key x a b).mp z)), if_neg e]
  · rw [if_neg h, if_neg h, List.map_append]
    rfl
theorem putE_keys (es : List (Str × Str × Int)) (a b : Str) (i : Int) (hn : (es.map fun x => (x.1, x.2.1)).Nodup) : ((putE es a b i).map fun x => (x.1, x.2.1)).Nodup := by
  unfold putE
  split
  · rw [List.map_map]
    have e : ((fun x : Str × Str × Int => (x.1, x.2.1)) ∘ fun x => if x.1 = a ∧ x.2.1 = b then (x.1, x.2.1, i) else x) = fun x => (x.1, x.2.1) := by
      funext x
      show (fun x : Str × Str × Int => (x.1, x.2.1)) (if x.1 = a ∧ x.2.1 = b then (x.1, x.2.1, i) else x) = _
      split <;> rfl
    rw [e]
    exact hn
  · rename_i h
    rw [List.map_append]
    refine List.nodup_append.mpr ⟨hn, by simp, fun x hx y hy e => ?_⟩
    obtain ⟨z, hz, rfl⟩ := List.mem_map.mp hx
    have hy' : y = (a, b) := by simpa using hy
    rw [hy'] at e
    injection e with e1 e2
    exact h (List.any_eq_true.mpr ⟨z, hz, decide_eq_true ⟨e1, e2⟩⟩)
theorem putE_len (es : List (Str × Str × Int)) (a b : Str) (i : Int) : (putE es a b i).length ≤ es.length + 1 := by
  unfold putE
  split
  · rw [List.length_map]
    omega
  · rw [List.length_append]
    exact Nat.le_refl _
theorem putE_all {Pd : Str × Str × Int → Prop} {es : List (Str × Str × Int)} {a b : Str} {i : Int} (h : ∀ x ∈ es, Pd x) (hn : Pd (a, b, i)) : ∀ x ∈ putE es a b i, Pd x := by
  intro x hx
  unfold putE at hx
  split at hx
  · obtain ⟨y, hy, rfl⟩ := List.mem_map.mp hx
    split
    · rename_i e
      rw [e.1, e.2]
      exact hn
    · exact h y hy
  · rcases List.mem_append.mp hx with hx | hx
    · exact h x hx
    · rw [List.mem_singleton.mp hx]
      exact hn
theorem val_enc {es : List (Str × Str × Int)} {a b : Str} {i : Int} (hn : (es.map fun x => (x.1, x.2.1)).Nodup) (h : (a, b, i) ∈ es) : valV (es.map encE) [Sum.inr a, Sum.inr b] = some (.int i) := by
  induction es with
  | nil => cases h
  | cons y r ih =>
    rw [List.map_cons]
    rw [List.map_cons, List.nodup_cons] at hn
    by_cases e : y.1 = a ∧ y.2.1 = b
    · rw [valV_pos ((encE_key y a b).mpr e)]
      rcases List.mem_cons.mp h with z | z
      · rw [← z]
        rfl
      · exact absurd (List.mem_map.mpr ⟨_, z, by rw [e.1, e.2]⟩) hn.1
    · rw [valV_neg (fun z => e ((encE_key y a b).mp z))]
      rcases List.mem_cons.mp h with z | z
      · rw [← z] at e
        exact absurd ⟨rfl, rfl⟩ e
      · exact ih hn.2 z
theorem map_erase {α β : Type} (f : α → β) : ∀ (xs : List α) (k : Nat), (xs.map f).eraseIdx k = (xs.eraseIdx k).map f
  | [], _ => rfl
  | _ :: _, 0 => rfl
  | x :: r, k + 1 => by
    show f x :: (r.map f).eraseIdx k = f x :: (r.eraseIdx k).map f
    rw [map_erase f r k]
theorem dpStrs {K : PySem.W.Frag} {H : Hp} : ∀ us : List Str, DpAll K H (us.map V.str) (us.map PyData.str)
  | [] => .nil
  | _ :: r => .cons (.str _) (dpStrs r)
theorem sm_strs {us : List Str} {n m : Nat} (hn : us.length ≤ n) (h : ∀ t ∈ us, Small t ∧ t.length ≤ m) (hM : n * (m + 1) ≤ 1000000) : Sm 1000000 1 (.list (us.map PyData.str)) := by
  refine Sm.lst (n := n) (m := m) (k := 0) (by rw [List.length_map]; exact hn) (fun d hd => ?_) hM
  obtain ⟨t, ht, rfl⟩ := List.mem_map.mp hd
  exact Sm.str (h t ht).1.ok (h t ht).2
theorem keys_zip {H : Hp} : ∀ {es : List (Str × Str × Int)} {bs : List Addr}, IsKeys H (es.map encE) bs → ∃ bes : List (Addr × (Str × Str × Int)), bes.map (·.1) = bs ∧ bes.map (·.2) = es ∧ ∀ x ∈ bes, H x.1 = some (.tup [.str x.2.1, .str x.2.2.1])
  | [], _, .nil => ⟨[], rfl, rfl, fun x h => by cases h⟩
  | e :: es, b :: bs, .cons r t => by
    obtain ⟨bes, h1, h2, h3⟩ := keys_zip (es := es) t
    refine ⟨(b, e) :: bes, by rw [List.map_cons, h1], by rw [List.map_cons, h2], fun x hx => ?_⟩
    rcases List.mem_cons.mp hx with rfl | hx
    · exact r
    · exact h3 x hx
theorem ixN_in {n : Nat} {i : Int} (h0 : 0 ≤ i) (h1 : i < n) : seqIndex? i n = some i.toNat := by
  refine (ixN_seq ?_).1
  unfold ixN
  rw [if_pos h0, if_pos h1]
end Pf


namespace Pf
open PySem PySem.Spec PyProof.Rows L2
/-! ### a def that is called while nothing is being shown -/
structure FnOg (P : Program) (w : World) (K : PySem.W.Frag) (mg : Str → Option Value) (base : Heap) (k : Nat) (f : Addr) (fd : FuncData) (ps : List Str) (sp : Sp) : Prop where
  len : ∀ vs H Q E, sp vs H Q E → vs.length = ps.length
  run : ∀ (A : Around) (outer : List Env) (s : Shared) (H : Hp) (args : Args) (us : List Value) (vs : List V) (Q : VK) (E : XK), A.guards = some [] → Room k A → Env0 P w K mg base A outer s H → BindsTo s fd args (ps.zip us) → Vals vs us → sp vs H Q E →
    codeAny (model P w) A (.call (.ref f) args) (CR CX0 outer P w H s Q E) s
theorem FnOg.of {P : Program} {w : World} {K : PySem.W.Frag} {mg : Str → Option Value} {base : Heap} {k : Nat} {f : Addr} {fd : FuncData} {x qual : Str} {st : Stmt} {N ps : List Str} {sp : Sp} (F : Fun K x qual st f fd) (S : FnScope N ps (defScope st))
    (len : ∀ vs H Q E, sp vs H Q E → vs.length = ps.length)
    (body : ∀ (cdv : Value) (A : Around) (outer : List Env) (s : Shared) (H : Hp) (vs : List V) (Q : VK) (E : XK), Room k (A.deeper (envOfC qual (defScope st) s.heap.objs.size f cdv)) → (A.deeper (envOfC qual (defScope st) s.heap.objs.size f cdv)).guards = some [] → sp vs H Q E →
      ∃ t, PSs (cxOf CX0 P w K mg base N qual (defScope st) f cdv A outer s H E).nox (defBody st) t ∧ t { nx := fun _ H' => Q .non H', rt := Q } (start N vs) H) : FnOg P w K mg base (k + 1) f fd ps sp := by
  obtain ⟨oc, od, kV, doc, pm, an, cdv, ct, osl, rfl, lk, hcd⟩ := F.ex
  refine ⟨len, fun A outer s H args us vs Q E hG room env0 bnd rel hsp => ?_⟩
  have inS : K.In s.heap := env0.mod.kin.keeps fun b o e => (env0.bs b o e).1
  have limS : s.heap.NoLimit := env0.mod.nolimit.keeps fun b o e => (env0.bs b o e).1
  have kinds : ∀ y ∈ ps.zip us, (defScope st).names.lookup y.1 = some .local ∨ ((defScope st).names.lookup y.1 = some .cell ∧ ((cellsFrom (s.heap.objs.size + 1) (defScope st).names []).lookup y.1).isSome = true) := by
    rintro ⟨n, v⟩ hy
    cases S.par n (List.of_mem_zip hy).1 with
    | inl q => exact .inl q
    | inr q => exact .inr ⟨q, PySem.W.cellsFrom_some _ _ _ (.inl q)⟩
  refine codeAny_call_function room.depth (inS _ _ lk) rfl S.co S.gen rfl (PySem.W.codeRec_of inS hcd) (bnd _ _ _ _ ?_)
  refine wpAny_newFunctionEnv_cells S.kind kinds fun env0' he s1 inC => ?_
  subst he
  refine ⟨limS.keeps inC.toInCall.keep, codeAny_func ?_⟩
  obtain ⟨t, ht, hq⟩ := body cdv A outer s H vs Q E (room.deeper _) hG hsp
  have I0 : Inv (cxOf CX0 P w K mg base N qual (defScope st) f cdv A outer s H E) [] (start N vs) H s1 := inv_start S room.hd env0 (len _ _ _ _ hsp) rel inC
  refine wpAny_mono (ht.nox.run [] s1 (start N vs) H _ I0 hq) (fun fl s' hs => ?_) fun _ _ z => z
  cases fl with
  | ret u =>
    obtain ⟨v, σ', H', J, rv, q⟩ := hs
    exact ⟨v, H', J.os, J.bare, J.base, J.hok, rv, q⟩
  | next =>
    obtain ⟨σ', H', J, q⟩ := hs
    exact ⟨.non, H', J.os, J.bare, J.base, J.hok, rfl, q⟩
  | brk => exact False.elim (by obtain ⟨_, _, _, q⟩ := hs; exact q)
  | cont => exact False.elim (by obtain ⟨_, _, _, q⟩ := hs; exact q)
structure CaG (P : Program) (w : World) (K : PySem.W.Frag) (mg : Str → Option Value) (base : Heap) (k : Nat) (x : Str) (ps : List Str) (sp : Sp) : Prop where
  ex : ∃ f fd, FnOg P w K mg base k f fd ps sp ∧ mg x = some (.ref f) ∧ PySem.W.keepIn K (.ref f) = true ∧ Binds K fd ps []
/-- a def whose last arguments are left out -/
structure CaD (P : Program) (w : World) (K : PySem.W.Frag) (mg : Str → Option Value) (base : Heap) (k : Nat) (x : Str) (ps : List Str) (dvs : List V) (sp : Sp) : Prop where
  ex : ∃ f fd ds, FnOk P w K mg base CX0 k f fd ps sp ∧ mg x = some (.ref f) ∧ PySem.W.keepIn K (.ref f) = true ∧ Vals dvs ds ∧ Binds K fd ps ds
section
variable {X : Cx} {k : Nat} {x : Str} {ps ks : List Str} {sp : Sp} {p pos : Pos} {e : Expr} {es : List Expr} {kws : List Keyword} {t tk : TA} {gV : List V → List V → List V} {dvs : List V}
theorem run_fnG {f : Addr} {fd : FuncData} {pins : List (Addr × Obj)} {σ : L2.St} {H : Hp} {s : Shared} {Q : VK} {us : List Value} {vs : List V} (F : FnOg X.prog X.w X.K X.mg X.base k f fd ps sp) (hG : X.A.guards = some []) (hr : Room k X.A) (hb : Binds X.K fd ps [])
    (I : Inv X pins σ H s) (r : Vals vs us) (h : sp (vs ++ []) H Q E0) : wpAny (model X.prog X.w) X.A (call (.ref f) us) (EP X pins σ Q) X.xe s := by
  have r2 : Vals (vs ++ []) (us ++ []) := r.append .nil
  have hl : (us ++ []).length = ps.length := by rw [← r2.length]; exact F.len _ _ _ _ h
  refine wpAny_call (codeAny_mono (F.run X.A X.stack s H ⟨us, []⟩ (us ++ []) (vs ++ []) Q E0 hG hr I.env0 (hb s us I.kIn hl) r2 h) fun r s' hq => ?_)
  cases r with
  | error e => exact False.elim hq
  | ok fl =>
    cases fl with
    | ret u => exact I.after hq
    | next => exact False.elim hq
    | brk => exact False.elim hq
    | cont => exact False.elim hq
theorem pe_caG (c : CaG X.prog X.w X.K X.mg X.base k x ps sp) (hG : X.A.guards = some []) (hr : Room k X.A) (hg : Gl X x) (ha : PA X (e :: es) t) (hdb : (x == ("__debug__" : Str)) = false := by decide)
    (he : starEach (e :: es) X.env = (false, eval e X.env) :: starEach es X.env := by rfl) (hpl : (backTo pos (starEach es X.env)).any (·.1) = false := by rfl) :
    PE X (.Call (.Name x p) (e :: es) [] pos) (tCall sp [] E0 t) := by
  obtain ⟨f, fd, F, hm, hk, hb⟩ := c.ex
  refine ⟨fun pins s σ H Q I h => ?_⟩
  refine wpAny_Call_Name_kw (ld_glob I hg hm ?_ hdb)
  refine PySem.W.callWith_K (h₀ := X.base) I.ok.mod.kin hk (thn (ha.run pos pins s σ H _ I h) fun us s1 ⟨vs, H1, I1, r, q⟩ => ⟨I1.kIn, ?_⟩) he hpl
  exact run_fnG F hG hr hb I1 r q
theorem pe_caD (c : CaD X.prog X.w X.K X.mg X.base k x ps dvs sp) (hr : Room k X.A) (hg : Gl X x) (ha : PA X (e :: es) t) (hdb : (x == ("__debug__" : Str)) = false := by decide)
    (he : starEach (e :: es) X.env = (false, eval e X.env) :: starEach es X.env := by rfl) (hpl : (backTo pos (starEach es X.env)).any (·.1) = false := by rfl) :
    PE X (.Call (.Name x p) (e :: es) [] pos) (tCall sp dvs E0 t) := by
  obtain ⟨f, fd, ds, F, hm, hk, hv, hb⟩ := c.ex
  exact pe_call F hr hg hm hk hb hv pass0 ha hdb he hpl
end
/-- nobody calls it -/
theorem fn_false {P : Program} {w : World} {K : PySem.W.Frag} {mg : Str → Option Value} {base : Heap} {f : Addr} {fd : FuncData} {ps : List Str} : FnOk P w K mg base CX0 0 f fd ps (fun _ _ _ _ => False) :=
  ⟨fun _ _ _ _ h => h.elim, fun _ _ _ _ _ _ _ _ _ _ _ _ _ h => h.elim⟩
/-- by names alone, of a def with defaults -/
theorem kb_D {K : PySem.W.Frag} {x qual : Str} {params : Arguments} {body : List Stmt} {scope : Scope} {dvs : List V} {f : Addr} {fd : FuncData} {ps ks : List Str} (F : FunD K x qual params body scope dvs [] f fd) (js : List Nat) (hd : dvs ≠ [])
    (h : ∀ (T : Addr) (kV doc pm : Value) (an : Option Addr) (cdv ct : Value) (ws its : List Value), ws.length = ks.length → its.length = dvs.length →
      ∃ k, bindArgs (PySem.W.fnOf x qual params body scope (.ref T) kV doc pm an cdv ct) ⟨[], ks.zip ws⟩ = seqItems? (.ref T) >>= k ∧ k (some its.toArray) = pure (ps.zip (js.map fun j => ws.getD j .none))) : KBn K fd ps 0 ks (permU js) (permV js) := by
  obtain ⟨oc, od, dV, kV, doc, pm, an, cdv, ct, osl, rfl, lk, hcd, hD, hK⟩ := F.ex
  rcases hD with ⟨e, _⟩ | ⟨_, T, o, its, m, rfl, lT, oT, rT⟩
  · exact absurd e hd
  · refine ⟨fun s us ws X hu hw => ?_, fun _ r => perm_rel r js⟩
    obtain rfl := List.length_eq_zero_iff.mp hu
    obtain ⟨k, e1, e2⟩ := h T kV doc pm an cdv ct ws its hw rT.length.symm
    refine BindsTo.of_looks fun M => ?_
    rw [e1]
    exact looks_items X lT oT (.of_pure e2)
/-! ### // by a great divisor of either sign -/
def CDivNW (_ j : Int) : Prop := j ≠ 0 ∧ j.natAbs.log2 < 9000
theorem op_fdivNW {X : Cx} : OpR X (binaryOp .FloorDiv) (rI CDivNW fun i j => .int (i.fdiv j)) := opI fun i j _ _ _ _ _ hc q => floordiv_int hc.1 q (.inl (PyProof.noPylong_of_log2 hc.2))
/-! ### repr of data with great numbers -/
structure Bg (B m k : Nat) (d : PyData) : Prop where
  lay : d.canLay0 = true
  sho : d.showable = true
  ish : d.leavesShort B = true
  wt : d.weight ≤ m
  dep : d.depth ≤ k
theorem Bg.int {i : Int} {B : Nat} (hB : 1 < B) (h9 : B ≤ 1900) (h : i.natAbs < 2 ^ B) : Bg (B + 1) B 0 (.int i) := by
  have hl : i.natAbs.log2 < B := PySem.Flt.log2_lt_of (by omega) h
  have h10 : (2 : Nat) ^ B ≤ 10 ^ B := Nat.pow_le_pow_left (by decide) B
  refine ⟨by simp [PyData.canLay0], ?_, ?_, ?_, by simp [PyData.depth]⟩
  · simp only [PyData.showable]
    exact decide_eq_true (by omega)
  · simp only [PyData.leavesShort, PyData.shown]
    refine decide_eq_true ?_
    have hc : ((10 ^ B : Nat) : Int) = (10 : Int) ^ B := by simp
    have hh : (i.natAbs : Int) < (10 : Int) ^ B := by
      rw [← hc]
      exact Int.ofNat_lt.mpr (Nat.lt_of_lt_of_le h h10)
    by_cases hn : i < 0
    · rw [len_text_neg hn]
      have := toString_length_le (v := 0 - i) (k := B) (by omega) (by omega) (by omega)
      omega
    · have := toString_length_le (v := i) (k := B) (by omega) (by omega) (by omega)
      omega
  · simp only [PyData.weight]
    split <;> omega
theorem Bg.le {B m k m' k' : Nat} {d : PyData} (h : Bg B m k d) (hm : m ≤ m') (hk : k ≤ k') : Bg B m' k' d := ⟨h.lay, h.sho, h.ish, Nat.le_trans h.wt hm, Nat.le_trans h.dep hk⟩
structure BgA (B m k : Nat) (ds : List PyData) : Prop where
  lay : PyData.canLayAll0 ds = true
  sho : PyData.showableAll ds = true
  ish : PyData.leavesShortAll B ds = true
  wt : PyData.weightAll ds ≤ ds.length * (m + 1)
  dep : PyData.depthAll ds ≤ k
theorem BgA.of {B m k : Nat} : ∀ {ds : List PyData}, (∀ d ∈ ds, Bg B m k d) → BgA B m k ds
  | [], _ => ⟨by simp [PyData.canLayAll0], by simp [PyData.showableAll], by simp [PyData.leavesShortAll], by simp [PyData.weightAll], by simp [PyData.depthAll]⟩
  | d :: ds, h => by
    have h1 := h d (List.mem_cons_self ..)
    have h2 := BgA.of (ds := ds) fun x hx => h x (List.mem_cons_of_mem _ hx)
    refine ⟨by simp [PyData.canLayAll0, h1.lay, h2.lay], by simp [PyData.showableAll, h1.sho, h2.sho], by simp [PyData.leavesShortAll, h1.ish, h2.ish], ?_, ?_⟩
    · have e1 := h1.wt
      have e2 := h2.wt
      simp only [PyData.weightAll, List.length_cons, Nat.succ_mul]
      omega
    · simp only [PyData.depthAll]
      exact Nat.max_le.mpr ⟨h1.dep, h2.dep⟩
theorem Bg.lst {B n m k M : Nat} {ds : List PyData} (hn : ds.length ≤ n) (h : ∀ d ∈ ds, Bg B m k d) (hM : n * (m + 1) ≤ M) : Bg B M (k + 1) (.list ds) := by
  have a := BgA.of h
  have hw : ds.length * (m + 1) ≤ n * (m + 1) := Nat.mul_le_mul_right _ hn
  exact ⟨by simpa only [PyData.canLay0] using a.lay, by simpa only [PyData.showable] using a.sho, by simpa only [PyData.leavesShort] using a.ish, by simp only [PyData.weight]; exact Nat.le_trans a.wt (Nat.le_trans hw hM), by simp only [PyData.depth]; exact Nat.succ_le_succ a.dep⟩
theorem Bg.tup {B n m k M : Nat} {ds : List PyData} (hn : ds.length ≤ n) (h : ∀ d ∈ ds, Bg B m k d) (hM : n * (m + 1) ≤ M) : Bg B M (k + 1) (.tuple ds) := by
  have a := BgA.of h
  have hw : ds.length * (m + 1) ≤ n * (m + 1) := Nat.mul_le_mul_right _ hn
  exact ⟨by simpa only [PyData.canLay0] using a.lay, by simpa only [PyData.showable] using a.sho, by simpa only [PyData.leavesShort] using a.ish, by simp only [PyData.weight]; exact Nat.le_trans a.wt (Nat.le_trans hw hM), by simp only [PyData.depth]; exact Nat.succ_le_succ a.dep⟩
theorem Bg.short {B m k : Nat} {d : PyData} (h : Bg B m k d) (hB : 8 ≤ B) (hm : (B + 2) * m + B ≤ 15000000) : d.shown.length ≤ sizeLine := by
  have h1 := PyData.shown_le B hB d h.ish
  have h2 : (B + 2) * d.weight ≤ (B + 2) * m := Nat.mul_le_mul_left _ h.wt
  rw [sizeLine_eq]
  omega
def rShowB (K : PySem.W.Frag) : List V → Hp → VK → Prop := fun xs H Q => ∃ v d B m k, xs = [v] ∧ Dp K H v d ∧ Bg B m k d ∧ 8 ≤ B ∧ (B + 2) * m + B ≤ 15000000 ∧ k ≤ 50 ∧ Q (.str d.shown) H
theorem call_showB (K : PySem.W.Frag) {X : Cx} (hg : X.A.guards = some []) (hu : X.A.units + 64 < cLine) (hK : X.K = K := by rfl) : CallR X (.builtin "repr") (rShowB K) := by
  subst hK
  intro pins s σ H xs us Q I r h
  obtain ⟨v, d, B, m, k, rfl, hd, sh, hB, hm, hk, q⟩ := h
  have hdep := sh.dep
  have hz := sh.short hB hm
  cases hd with
  | non =>
    obtain ⟨u, rfl, rfl⟩ := vals1 r
    exact PySem.P.repr_of_none ⟨.str _, H, I.tok _, ⟨_, rfl⟩, by simpa only [PyData.shown] using q⟩
  | bl b =>
    obtain ⟨u, rfl, rfl⟩ := vals1 r
    refine PySem.P.repr_of_bool ⟨.str _, H, I.tok _, ⟨_, rfl⟩, ?_⟩
    simp only [PyData.shown] at q
    cases b <;> exact q
  | int i =>
    obtain ⟨u, rfl, t, rfl⟩ := vals1 r
    have hi : i.natAbs.log2 < 1920 := by simpa [PyData.showable] using sh.sho
    exact PySem.P.repr_of_int hi ⟨.str _, H, I.tok _, ⟨_, rfl⟩, by simpa only [PyData.shown] using q⟩
  | str x =>
    obtain ⟨u, rfl, t, rfl⟩ := vals1 r
    simp only [PyData.shown] at q hz
    exact PySem.P.repr_of_str ⟨.str _, H, I.tok _, ⟨_, rfl⟩, q⟩ hz
  | @lst a ys ds hs hds =>
    obtain ⟨u, rfl, rfl⟩ := vals1 r
    obtain ⟨as, rd⟩ := Dp.reads I _ _ _ (Dp.lst hs hds) (show RelV (.ref a) (.ref a) from rfl)
    exact PySem.repr_of_reads' rd sh.sho (PyData.noDict_hsm (PyData.hasDict_of_canLay _ sh.lay)) hg (by omega) (fun _ _ e => e) (fun h' u tk keep => ⟨.str _, H, I.kept keep, ⟨_, rfl⟩, q⟩) hz
  | @tup a ys ds hs hds =>
    obtain ⟨u, rfl, rfl⟩ := vals1 r
    obtain ⟨as, rd⟩ := Dp.reads I _ _ _ (Dp.tup hs hds) (show RelV (.ref a) (.ref a) from rfl)
    exact PySem.repr_of_reads' rd sh.sho (PyData.noDict_hsm (PyData.hasDict_of_canLay _ sh.lay)) hg (by omega) (fun _ _ e => e) (fun h' u tk keep => ⟨.str _, H, I.kept keep, ⟨_, rfl⟩, q⟩) hz
end Pf


namespace Pf
open PySem PySem.Spec PyProof.Rows L2
def topS (i : Nat) : Stmt := PySem.Challenge.pw_pairfolds_k33_shares_of_free_places_told.main.body.getD i (.Pass ⟨0, 0, 0, 0⟩)
/-! ### the pen: a list of cells, a place, a rest -/
def Pen (H : Hp) (p c : Addr) (n : Nat) : Prop := ∃ (cells : List Int) (a r : Int), H p = some (.lst [.ref c, .int a, .int r]) ∧ H c = some (.lst (cells.map V.int)) ∧ 0 ≤ a ∧ a ≤ n ∧ 0 ≤ r ∧ cells.length ≤ 63
section
variable {H H' : Hp} {p c q : Addr} {n m : Nat} {o : HO}
theorem Pen.mono (h : Pen H p c n) (l : n ≤ m) : Pen H p c m := by
  obtain ⟨cells, a, r, h1, h2, h3, h4, h5, h6⟩ := h
  exact ⟨cells, a, r, h1, h2, h3, by omega, h5, h6⟩
theorem Pen.put (h : Pen H p c n) (hp : q ≠ p) (hc : q ≠ c) : Pen (upd H q o) p c n := by
  obtain ⟨cells, a, r, h1, h2, h3⟩ := h
  exact ⟨cells, a, r, by rw [upd_ne hp.symm]; exact h1, by rw [upd_ne hc.symm]; exact h2, h3⟩
theorem Pen.ne (h : Pen H p c n) (hq : H q = none) : q ≠ p ∧ q ≠ c := by
  obtain ⟨cells, a, r, h1, h2, h3⟩ := h
  exact ⟨(ne_of_none h1 hq).symm, (ne_of_none h2 hq).symm⟩
theorem Pen.new (h : Pen H p c n) (hq : H q = none) : Pen (upd H q o) p c n := h.put (h.ne hq).1 (h.ne hq).2
theorem Pen.tup (h : Pen H p c n) {b : Addr} {xs : List V} (e : H b = some (.tup xs)) : b ≠ p := by
  obtain ⟨cells, a, r, h1, _⟩ := h
  exact ne_of e h1 (by intro z; cases z)
theorem Pen.frz (h : Pen H p c n) {b : Addr} {ob : Obj} {u : HO} (e : H b = some (.frz ob u)) : b ≠ p := by
  obtain ⟨cells, a, r, h1, _⟩ := h
  exact ne_of e h1 (by intro z; cases z)
theorem Pen.ext (h : Pen H p c n) (k : Ext H H') : Pen H' p c n := by
  obtain ⟨cells, a, r, h1, h2, h3⟩ := h
  exact ⟨cells, a, r, k _ _ h1, k _ _ h2, h3⟩
end
theorem TupK.of {p c : Addr} {n : Nat} {H H' : Hp} (k : Kp p H H') (hP : Pen H p c n) : TupK H H' := ⟨fun b _ e => k b _ (hP.tup e) e, fun b _ _ e => k b _ (hP.frz e) e⟩
theorem Kp.ext {p : Addr} {H H' : Hp} (k : Ext H H') : Kp p H H' := fun b o _ e => k b o e
theorem cut_ints (ns : List Int) (lo hi : Option Int) : ∃ cs : List Int, cutV (ns.map V.int) lo hi = cs.map V.int ∧ cs.length ≤ ns.length := by
  unfold cutV
  refine ⟨(ns.drop _).take _, by rw [List.map_take, List.map_drop], ?_⟩
  rw [List.length_take, List.length_drop]
  omega
theorem mod_b (z m : Int) (h : 0 < m) (h2 : m < 2 ^ 64) : -(2 ^ 64) < z % m ∧ z % m < 2 ^ 64 := by
  have h3 := Int.emod_nonneg z (show m ≠ 0 by omega)
  have h4 := Int.emod_lt_of_pos z h
  omega
theorem draw_b1 {z a : Int} (a0 : 0 ≤ a) (a1 : a ≤ 1000000) : (z % 2147483563 + 9461 * a + 257).natAbs < 2 ^ 64 := by
  have h3 := Int.emod_nonneg z (show (2147483563 : Int) ≠ 0 by decide)
  have h4 := Int.emod_lt_of_pos z (show (0 : Int) < 2147483563 by decide)
  omega
theorem draw_b3 (y z : Int) {a : Int} (a0 : 0 ≤ a) (a1 : a ≤ 1000000) : (z % 2147483647 * (a + 50021) + y % 1033).natAbs < 2 ^ 64 := by
  have h3 := Int.emod_nonneg z (show (2147483647 : Int) ≠ 0 by decide)
  have h4 := Int.emod_lt_of_pos z (show (0 : Int) < 2147483647 by decide)
  have h5 := Int.emod_nonneg y (show (1033 : Int) ≠ 0 by decide)
  have h6 := Int.emod_lt_of_pos y (show (0 : Int) < 1033 by decide)
  have h1 : z % 2147483647 * (a + 50021) ≤ 2147483647 * 1050021 := Int.mul_le_mul (by omega) (by omega) (by omega) (by decide)
  have h2 : 0 ≤ z % 2147483647 * (a + 50021) := Int.mul_nonneg h3 (by omega)
  omega
section
variable {P : Program} {w : World} {K : PySem.W.Frag} {mg : Str → Option Value} {base : Heap}
abbrev s_law_pen : Stmt := topS 33
theorem sc_law_pen : FnScope ["_law_script"] ["_law_script"] (defScope s_law_pen) :=
  ⟨rfl, rfl, rfl, by decide +kernel, rfl, by decide +kernel, by decide +kernel⟩
def spStart (K : PySem.W.Frag) : Sp := fun vs H Q _ => ∃ (a : Addr) (ns : List Int), vs = [.ref a] ∧ SqL K H a (ns.map V.int) ∧ ns.length ≤ 63 ∧ ∀ p c H', Pen H' p c 0 → Q (.ref p) H'
theorem ok_start {f : Addr} {fd : FuncData} {k : Nat} (F : Fun K "_law_pen" "_law_pen" s_law_pen f fd) : FnOk P w K mg base CX0 (k + 1) f fd ["_law_script"] (spStart K) := by
  refine F.ok sc_law_pen (fun vs H Q E h => ?_) (fun cdv A outer s H vs Q E hr h => ?_)
  · obtain ⟨a, ns, rfl, _⟩ := h
    rfl
  · obtain ⟨a, ns, rfl, hS, hns, q⟩ := h
    refine ⟨_, (pss_one (ps_ret (pe_lst (pa_cons (pe_slice (slL K) (pv 0) po_none (po_some pe_int)) (pa_cons pe_int (pa_cons pe_int pa_nil)))))), ?_⟩
    obtain ⟨cs, hcs, hcl⟩ := cut_ints ns none (some 63)
    refine ⟨_, rfl, 63, rfl, a, _, rfl, hS, fun c hc => ?_⟩
    rw [hcs]
    refine ⟨szL (show 3 ≤ 1000000 by decide), fun p hp => ?_⟩
    refine q p c _ ⟨cs, 0, 0, upd_same, ?_, by decide, by decide, by decide, by omega⟩
    exact Ext.new hp _ _ upd_same
abbrev s_law_take : Stmt := topS 34
theorem sc_law_take : FnScope ["_law_pen_here", "_law_many", "_law_digit", "_law_turn", "_law_cell", "_law_whole", "_law_stirred"] ["_law_pen_here", "_law_many"] (defScope s_law_take) :=
  ⟨rfl, rfl, rfl, by decide +kernel, rfl, by decide +kernel, by decide +kernel⟩
def spDraw : Sp := fun vs H Q _ => ∃ (p c : Addr) (m : Int) (n : Nat), vs = [.ref p, .int m] ∧ Pen H p c n ∧ n < 1000000 ∧ 0 < m ∧ m ≤ 1000000 ∧
  ∀ r H', 0 ≤ r → r < m → Kp p H H' → Pen H' p c (n + 1) → Q (.int r) H'
theorem ok_draw {f : Addr} {fd : FuncData} {k : Nat} (F : Fun K "_law_take" "_law_take" s_law_take f fd) (mlen : mg "len" = none) (mabs : mg "abs" = none) (mint : mg "int" = none) : FnOk P w K mg base CX0 (k + 1) f fd ["_law_pen_here", "_law_many"] spDraw := by
  refine F.ok sc_law_take (fun vs H Q E h => ?_) (fun cdv A outer s H vs Q E hr h => ?_)
  · obtain ⟨p, c, m, n, rfl, _⟩ := h
    rfl
  · obtain ⟨p, c, m, n, rfl, hP, hn, m0, m1, q⟩ := h
    obtain ⟨cells, a, r, hp, hc, a0, a1, r0, cl⟩ := hP
    refine ⟨_, (pss_cons (ps_if (pt_cmpR op_gt (pe_ix (ixL K) (pv 0) pe_int (fun _ _ => rfl)) pe_int (nomark _)) (pss_cons (ps_set (i := 2) sc_law_take.nd rfl (.inl rfl) (pe_op op_mod (pe_ix (ixL K) (pv 0) pe_int (fun _ _ => rfl)) (pv 1)))
      (pss_cons (ps_asg (pe_op op_fdiv (pe_ix (ixL K) (pv 0) pe_int (fun _ _ => rfl)) (pv 1)) (pg_sub (pv 0) pe_int set_list))
      (pss_one (ps_ret (pv 2))))) pss_nil)
      (pss_cons (ps_set (i := 3) sc_law_take.nd rfl (.inl rfl) (pe_ix (ixL K) (pv 0) pe_int (fun _ _ => rfl)))
      (pss_cons (ps_asg (pe_op op_add (pv 3) pe_int) (pg_sub (pv 0) pe_int set_list))
      (pss_cons (ps_set (i := 4) sc_law_take.nd rfl (.inl rfl) pe_int)
      (pss_cons (ps_if (pt_cmpR op_gt (pe_callB (lenQ K) (by rfl) mlen (by decide +kernel) (pa_cons (pe_ix (ixL K) (pv 0) pe_int (fun _ _ => rfl)) pa_nil)) pe_int (nomark _)) (pss_one (ps_set (i := 4) sc_law_take.nd rfl (.inl rfl) (pe_ix (ixL K) (pe_ix (ixL K) (pv 0) pe_int (fun _ _ => rfl)) (pe_op op_mod (pv 3) (pe_callB (lenQ K) (by rfl) mlen (by decide +kernel) (pa_cons (pe_ix (ixL K) (pv 0) pe_int (fun _ _ => rfl)) pa_nil))) (fun _ _ => rfl)))) pss_nil)
      (pss_cons (ps_if (PW.pt (pw_and (pt_cmpR op_lt (pv 3) (pe_callB (lenQ K) (by rfl) mlen (by decide +kernel) (pa_cons (pe_ix (ixL K) (pv 0) pe_int (fun _ _ => rfl)) pa_nil)) (nomark _)) (pw_and1 (pt_cmpR op_ge (pe_callB call_abs (by rfl) mabs (by decide +kernel) (pa_cons (pv 4) pa_nil)) (pe_op op_pow pe_int pe_int) (nomark _))))) (pss_cons (ps_set (i := 5) sc_law_take.nd rfl (.inl rfl) (pe_op op_add (pe_op op_mul pe_int (pe_callB call_abs (by rfl) mabs (by decide +kernel) (pa_cons (pv 4) pa_nil))) (pe_callTy call_int1 (by rfl) mint (by decide +kernel) (pa_cons (pe_cmpR op_lt (pv 4) pe_int (nomark _)) pa_nil))))
      (pss_cons (ps_asg (pe_op op_fdiv (pv 5) (pv 1)) (pg_sub (pv 0) pe_int set_list))
      (pss_one (ps_ret (pe_op op_mod (pv 5) (pv 1)))))) pss_nil)
      (pss_cons (ps_set (i := 6) sc_law_take.nd rfl (.inl rfl) (pe_op op_mod (pe_op op_pow (pe_op op_add (pe_op op_add (pe_op op_mod (pv 4) pe_int) (pe_op op_mul pe_int (pv 3))) pe_int) pe_int) pe_int))
      (pss_cons (ps_set (i := 6) sc_law_take.nd rfl (.inl rfl) (pe_op op_mod (pe_op op_pow (pe_op op_add (pe_op op_mul (pv 6) (pe_op op_add (pv 3) pe_int)) (pe_op op_mod (pv 4) pe_int)) pe_int) pe_int))
      (pss_one (ps_ret (pe_op op_mod (pe_op op_fdiv (pv 6) pe_int) (pv 1)))))))))))), ?_⟩
    have ncp : c ≠ p := ne_of hc hp (by
      intro z
      injection z with z
      cases cells with
      | nil => cases z
      | cons x y => injection z with z1 _; cases z1)
    refine ⟨.ref p, rfl, p, _, 2, .int r, rfl, rfl, SqL.of hp, rfl, _, _, rfl, rfl, _, rfl, ite2 (fun e => ?_) (fun e => ?_)⟩
    · refine ⟨.ref p, rfl, p, _, 2, .int r, rfl, rfl, SqL.of hp, rfl, .int m, rfl, r, m, rfl, rfl, m0, ?_⟩
      refine ⟨.ref p, rfl, p, _, 2, .int r, rfl, rfl, SqL.of hp, rfl, .int m, rfl, r, m, rfl, rfl, ⟨m0, by omega⟩, .ref p, rfl, p, _, 2, 2, rfl, rfl, hp, rfl, ?_⟩
      refine ⟨_, rfl, q _ _ (Int.emod_nonneg _ (by omega)) (Int.emod_lt_of_pos _ m0) Kp.at ⟨cells, a, r / m, upd_same, ?_, a0, by omega, Int.ediv_nonneg r0 (by omega), cl⟩⟩
      rw [upd_ne ncp]
      exact hc
    · refine ⟨.ref p, rfl, p, _, 1, .int a, rfl, rfl, SqL.of hp, rfl, ?_⟩
      refine ⟨.int a, rfl, a, 1, rfl, rfl, .ref p, rfl, p, _, 1, 1, rfl, rfl, hp, rfl, ?_⟩
      have hp2 : (upd H p (.lst [.ref c, .int (a + 1), .int r])) p = some (.lst [.ref c, .int (a + 1), .int r]) := upd_same
      have hc2 : (upd H p (.lst [.ref c, .int (a + 1), .int r])) c = some (.lst (cells.map V.int)) := by
        rw [upd_ne ncp]
        exact hc
      have k2 : Kp p H (upd H p (.lst [.ref c, .int (a + 1), .int r])) := Kp.at
      have hl1 : ((cells.map V.int).length : Int) = cells.length := by rw [List.length_map]
      refine ⟨.ref p, rfl, p, _, 0, .ref c, rfl, rfl, SqL.of hp2, rfl, c, _, rfl, .inl (SqL.of hc2), _, _, rfl, rfl, _, rfl, ite2 (fun e1 => ?_) (fun e1 => ?_)⟩
      · have hl2 : (0 : Int) < ((cells.map V.int).length : Int) := by simpa using e1
        obtain ⟨z, _, hat⟩ := atI_ints (ns := cells) (Int.emod_nonneg a (show ((cells.map V.int).length : Int) ≠ 0 by omega)) (by
          have := Int.emod_lt_of_pos a (show (0 : Int) < ((cells.map V.int).length : Int) by omega)
          omega)
        refine ⟨.ref p, rfl, p, _, 0, .ref c, rfl, rfl, SqL.of hp2, rfl, .int a, rfl, .ref p, rfl, p, _, 0, .ref c, rfl, rfl, SqL.of hp2, rfl, c, _, rfl, .inl (SqL.of hc2), _, _, rfl, rfl, hl2, c, _, _, _, rfl, rfl, SqL.of hc2, hat, ?_⟩
        refine ⟨.int a, rfl, .ref p, rfl, p, _, 0, .ref c, rfl, rfl, SqL.of hp2, rfl, c, _, rfl, .inl (SqL.of hc2), _, _, rfl, rfl, _, rfl, ite2 (fun e2 => ?_) (fun e2 => ?_)⟩
        refine ⟨_, rfl, _, rfl, 10, 18, rfl, rfl, ⟨by decide, by decide, by decide⟩, _, _, rfl, rfl, _, rfl, ite2 (fun e3 => ?_) (fun e3 => ?_)⟩
        · refine ⟨_, rfl, _, rfl, 2, _, rfl, rfl, .inl ⟨by decide, by decide⟩, _, rfl, _, _, rfl, rfl, .inr ⟨_, rfl, ?_⟩⟩
          obtain ⟨e, he⟩ : ∃ e : Int, e = (if decide (z < 0) = true then 1 else 0) := ⟨_, rfl⟩
          have he2 : 0 ≤ e ∧ e < 2 := by
            rw [he]
            split <;> omega
          rw [← he]
          have hw0 : 0 ≤ 2 * (if z < 0 then -z else z) + e := by
            have : 0 ≤ (if z < 0 then -z else z) := by split <;> omega
            omega
          refine ⟨_, _, rfl, rfl, ?_⟩
          refine ⟨_, rfl, .int m, rfl, _, m, rfl, rfl, ⟨m0, by omega⟩, .ref p, rfl, p, _, 2, 2, rfl, rfl, hp2, rfl, ?_⟩
          refine ⟨_, rfl, .int m, rfl, _, m, rfl, rfl, m0, q _ _ (Int.emod_nonneg _ (by omega)) (Int.emod_lt_of_pos _ m0) (k2.trans Kp.at) ⟨cells, a + 1, _, upd_same, ?_, by omega, by omega, Int.ediv_nonneg hw0 (by omega), cl⟩⟩
          rw [upd_ne ncp]
          exact hc2
        all_goals
          refine ⟨.int z, rfl, z, 2147483563, rfl, rfl, (show (0 : Int) < 2147483563 by decide), .int a, rfl, 9461, a, rfl, rfl, .inl ⟨by decide, by decide⟩, _, _, rfl, rfl, _, 257, rfl, rfl, _, 3, rfl, rfl, ⟨by decide, by decide, draw_b1 a0 (by omega)⟩, _, 2147483647, rfl, rfl, (show (0 : Int) < 2147483647 by decide), ?_⟩
          refine ⟨_, rfl, .int a, rfl, a, 50021, rfl, rfl, _, _, rfl, rfl, .inl (mod_b _ _ (by decide) (by decide)), .int z, rfl, z, 1033, rfl, rfl, (show (0 : Int) < 1033 by decide), _, _, rfl, rfl, _, 2, rfl, rfl, ⟨by decide, by decide, draw_b3 _ _ a0 (by omega)⟩, _, 2147483629, rfl, rfl, (show (0 : Int) < 2147483629 by decide), ?_⟩
          refine ⟨_, rfl, _, 128, rfl, rfl, ⟨by decide, by decide⟩, .int m, rfl, _, m, rfl, rfl, m0, q _ _ (Int.emod_nonneg _ (by omega)) (Int.emod_lt_of_pos _ m0) k2 ⟨cells, a + 1, r, hp2, hc2, by omega, by omega, r0, cl⟩⟩
      · refine ⟨.int a, rfl, .ref p, rfl, p, _, 0, .ref c, rfl, rfl, SqL.of hp2, rfl, c, _, rfl, .inl (SqL.of hc2), _, _, rfl, rfl, _, rfl, ite2 (fun e2 => ?_) (fun e2 => ?_)⟩
        · exfalso
          have h1 : ¬ (0 : Int) < ((cells.map V.int).length : Int) := by simpa using e1
          have h2 : a < ((cells.map V.int).length : Int) := by simpa using e2
          omega
        · refine ⟨.int 127, rfl, 127, 2147483563, rfl, rfl, (show (0 : Int) < 2147483563 by decide), .int a, rfl, 9461, a, rfl, rfl, .inl ⟨by decide, by decide⟩, _, _, rfl, rfl, _, 257, rfl, rfl, _, 3, rfl, rfl, ⟨by decide, by decide, draw_b1 a0 (by omega)⟩, _, 2147483647, rfl, rfl, (show (0 : Int) < 2147483647 by decide), ?_⟩
          refine ⟨_, rfl, .int a, rfl, a, 50021, rfl, rfl, _, _, rfl, rfl, .inl (mod_b _ _ (by decide) (by decide)), .int 127, rfl, 127, 1033, rfl, rfl, (show (0 : Int) < 1033 by decide), _, _, rfl, rfl, _, 2, rfl, rfl, ⟨by decide, by decide, draw_b3 _ _ a0 (by omega)⟩, _, 2147483629, rfl, rfl, (show (0 : Int) < 2147483629 by decide), ?_⟩
          refine ⟨_, rfl, _, 128, rfl, rfl, ⟨by decide, by decide⟩, .int m, rfl, _, m, rfl, rfl, m0, q _ _ (Int.emod_nonneg _ (by omega)) (Int.emod_lt_of_pos _ m0) k2 ⟨cells, a + 1, r, hp2, hc2, by omega, by omega, r0, cl⟩⟩
abbrev CDraw (P : Program) (w : World) (K : PySem.W.Frag) (mg : Str → Option Value) (base : Heap) : Prop := Ca P w K mg base 1 "_law_take" ["_law_pen_here", "_law_many"] spDraw
end
end Pf


namespace Pf
open PySem PySem.Spec PyProof.Rows L2
theorem sum_len_le {m : Nat} : ∀ {ys : List Str}, (∀ y ∈ ys, y.length ≤ m) → (ys.map (·.length)).sum ≤ ys.length * m
  | [], _ => Nat.zero_le _
  | y :: r, h => by
    have h1 := h y (List.mem_cons_self ..)
    have h2 := sum_len_le (ys := r) fun x hx => h x (List.mem_cons_of_mem _ hx)
    rw [List.map_cons, List.sum_cons, List.length_cons, Nat.succ_mul]
    omega
theorem fits_join {ys : List Str} {k m : Nat} (hk : ys.length ≤ k) (h : ∀ y ∈ ys, y.length ≤ m) (hm : k * m ≤ 1000000) : (ys.map (·.length)).sum + ys.length * ("" : Str).length ≤ 16777216 := by
  have h1 := sum_len_le h
  have h2 : ys.length * m ≤ k * m := Nat.mul_le_mul_right m hk
  have h3 : ("" : Str).length = 0 := by decide +kernel
  rw [h3, Nat.mul_zero]
  omega
def Of (L x : Str) : Prop := ∀ c ∈ x.cps.toList, c ∈ L.cps.toList
theorem Of.small {L x : Str} (h : Of L x) (hs : Small L) : Small x := fun c hc => hs c (h c hc)
theorem Of.app {L a b : Str} (ha : Of L a) (hb : Of L b) : Of L (a ++ b) := fun c h => by
  rw [Str.cps_append, Array.toList_append, List.mem_append] at h
  exact h.elim (ha c) (hb c)
theorem of_nil (L : Str) : Of L "" := by
  have : ("" : Str).cps.toList = [] := by decide +kernel
  intro c hc
  rw [this] at hc
  cases hc
theorem sjoin_of {L : Str} : ∀ {ys : List Str}, (∀ y ∈ ys, Of L y) → Of L (Str.join "" ys)
  | [], _ => of_nil L
  | [y], h => h y (List.mem_cons_self ..)
  | y :: z :: r, h => ((h y (List.mem_cons_self ..)).app (of_nil L)).app (sjoin_of (ys := z :: r) fun x hx => h x (List.mem_cons_of_mem _ hx))
theorem cutS_of {L x : Str} (h : Of L x) (lo hi : Option Int) : Of L (cutS x lo hi) := fun c hc => by
  unfold cutS at hc
  exact h c (List.mem_of_mem_drop (List.mem_of_mem_take hc))
theorem cutS_one (x : Str) : (cutS x none (some 1)).length ≤ 1 := by
  show (((x.cps.toList.drop (HT.sIx x.length 0 none)).take (HT.sIx x.length x.length (some 1) - HT.sIx x.length 0 none)).toArray).size ≤ 1
  rw [List.size_toArray, List.length_take]
  have : HT.sIx x.length x.length (some ((1 : Nat) : Int)) = min 1 x.length := HT.sIx_nat _ _ _
  have h2 : HT.sIx x.length x.length (some (1 : Int)) = min 1 x.length := this
  rw [h2]
  omega
end Pf


namespace Pf
open PySem PySem.Spec PyProof.Rows L2
/-! ### dict(zip(a, b)) of two tuples -/
section
variable {P : Program} {w : World} {A : Around} {E : Value → Shared → Prop} {s : Shared} {q U O G j1 j2 m1 m2 : Addr} {f : Bool} {og : Obj} {k1 k2 : Nat} {us vs : Array Value}
theorem zn_item {u v : Value} {R : Value → Shared → Prop} (D : ZipApart q U O j1 j2 m1 m2) (hq : IsZipHeld s.heap q U O G f) (hG : s.heap.get? G = some og) (hU : IsPair s.heap U (.ref j1) (.ref j2)) (t1 : s.heap.IsTupleIter j1 m1 k1) (t2 : s.heap.IsTupleIter j2 m2 k2) (b1 : s.heap.IsTuple m1 us) (b2 : s.heap.IsTuple m2 vs) (eu : us[k1]? = some u) (ev : vs[k2]? = some v)
    (next : ∀ h', IsZipHeld h' q U O G true → h'.IsTupleIter j1 m1 (k1 + 1) → h'.IsTupleIter j2 m2 (k2 + 1) → IsPair h' s.heap.objs.size u v → (∀ c o, c ≠ q → c ≠ j1 → c ≠ j2 → s.heap.get? c = some o → h'.get? c = some o) → R (.ref s.heap.objs.size) { s with heap := h' }) :
    wpAny (model P w) A (Builtin.«zip.__next__» ⟨[.ref q], []⟩) (fun fin s' => ∃ v, fin = .done (.ret v) ∧ R v s') E s := by
  show wpAny _ _ (field (.ref q) 2 >>= _) _ _ _
  refine wpAny_bind (wpAny_field hq rfl (x := .bool false) rfl ?_)
  show wpAny _ _ (field (.ref q) 3 >>= _) _ _ _
  refine wpAny_bind (wpAny_field hq rfl (x := .ref U) rfl (wpAny_bind (wpAny_seqItems hU rfl ?_)))
  show wpAny _ _ (Builtin.SmallTypes.ownedTupleIsFree (.ref q) >>= _) _ _ _
  refine wpAny_bind (wpAny_tupleHeld_zip hq hG fun g1 q1 e1 => ?_)
  simp only [Bool.false_eq_true, if_false]; refine wpAny_bind ?_; rw [← Array.forIn_toList]; simp only [List.forIn_cons, List.forIn_nil]
  refine wpAny_bind (wpAny_bind (wpAny_holding ?_))
  show wpAny _ _ (Builtin.SmallTypes.nextOf (.ref j1) >>= _) _ _ _
  refine wpAny_bind (RZ.nextOf_tuple_item (s := { s with heap := g1 }) (t1.extBut e1.extBut D.i1z) (b1.extBut e1.extBut D.l1z) eu fun g2 t1b e2 => wpAny_pure (wpAny_pure ?_))
  refine wpAny_bind (wpAny_bind (wpAny_holding ?_))
  show wpAny _ _ (Builtin.SmallTypes.nextOf (.ref j2) >>= _) _ _ _
  refine wpAny_bind (RZ.nextOf_tuple_item (s := { s with heap := g2 }) ((t2.extBut e1.extBut D.i2z).extBut e2.extBut D.i12.symm) ((b2.extBut e1.extBut D.l2z).extBut e2.extBut D.l2i1) ev fun g3 t2b e3 => wpAny_pure (wpAny_pure (wpAny_pure ?_)))
  show wpAny _ _ (newTuple [u, v] >>= _) _ _ _
  refine wpAny_bind (wpAny_newTuple (wpAny_pure ⟨_, rfl, ?_⟩))
  have sz : g3.objs.size = s.heap.objs.size := by rw [e3.1, e2.1, e1.1]
  have q3 : IsZipHeld g3 q U O G true := e3.extBut _ _ D.i2z.symm (e2.extBut _ _ D.i1z.symm q1)
  have pr : IsPair (g3.push { cls := .type "tuple", data := .seq #[u, v] }) g3.objs.size u v := Heap.get?_push_size _ rfl
  show R (.ref g3.objs.size) _
  rw [sz] at pr ⊢
  exact next _ (Heap.get?_push_of_some _ q3) ((t1b.extBut e3.extBut D.i12).at fun o e => Heap.get?_push_of_some _ e) (t2b.at fun o e => Heap.get?_push_of_some _ e) pr fun c o c1 c2 c3 e => Heap.get?_push_of_some _ (e3.extBut _ _ c3 (e2.extBut _ _ c2 (e1.extBut _ _ c1 e)))
theorem zn_end {R : Fin → Shared → Prop} (hh : A.handled = none) (D : ZipApart q U O j1 j2 m1 m2) (hq : IsZipHeld s.heap q U O G f) (hG : s.heap.get? G = some og) (hU : IsPair s.heap U (.ref j1) (.ref j2)) (t1 : s.heap.IsTupleIter j1 m1 k1) (b1 : s.heap.IsTuple m1 us) (eu : us[k1]? = none)
    (next : ∀ h' e, (∀ c o, c ≠ q → c ≠ j1 → s.heap.get? c = some o → h'.get? c = some o) → (∃ o, h'.get? e = some o ∧ o.cls = .type "StopIteration") → E (.ref e) { s with heap := h' }) :
    wpAny (model P w) A (Builtin.«zip.__next__» ⟨[.ref q], []⟩) R E s := by
  show wpAny _ _ (field (.ref q) 2 >>= _) _ _ _
  refine wpAny_bind (wpAny_field hq rfl (x := .bool false) rfl ?_)
  show wpAny _ _ (field (.ref q) 3 >>= _) _ _ _
  refine wpAny_bind (wpAny_field hq rfl (x := .ref U) rfl (wpAny_bind (wpAny_seqItems hU rfl ?_)))
  show wpAny _ _ (Builtin.SmallTypes.ownedTupleIsFree (.ref q) >>= _) _ _ _
  refine wpAny_bind (wpAny_tupleHeld_zip hq hG fun g1 q1 e1 => ?_)
  simp only [Bool.false_eq_true, if_false]; refine wpAny_bind ?_; rw [← Array.forIn_toList]; simp only [List.forIn_cons, List.forIn_nil]
  refine wpAny_bind (wpAny_bind (wpAny_holding ?_))
  show wpAny _ _ (Builtin.SmallTypes.nextOf (.ref j1) >>= _) _ _ _
  exact wpAny_bind (RZ.nextOf_tuple_end (s := { s with heap := g1 }) hh (t1.extBut e1.extBut D.i1z) (b1.extBut e1.extBut D.l1z) eu fun g2 e e2 he => next g2 e (fun c o c1 c2 x => e2 _ _ c2 (e1.extBut _ _ c1 x)) he)
theorem zp_item {u v : Value} {R : Option Value → Shared → Prop} (D : ZipApart q U O j1 j2 m1 m2) (hq : IsZipHeld s.heap q U O G f) (hG : s.heap.get? G = some og) (hU : IsPair s.heap U (.ref j1) (.ref j2)) (t1 : s.heap.IsTupleIter j1 m1 k1) (t2 : s.heap.IsTupleIter j2 m2 k2) (b1 : s.heap.IsTuple m1 us) (b2 : s.heap.IsTuple m2 vs) (eu : us[k1]? = some u) (ev : vs[k2]? = some v)
    (next : ∀ h', IsZipHeld h' q U O G true → h'.IsTupleIter j1 m1 (k1 + 1) → h'.IsTupleIter j2 m2 (k2 + 1) → IsPair h' s.heap.objs.size u v → (∀ c o, c ≠ q → c ≠ j1 → c ≠ j2 → s.heap.get? c = some o → h'.get? c = some o) → R (some (.ref s.heap.objs.size)) { s with heap := h' }) :
    wpAny (model P w) A (pyNext (.ref q)) R E s := by
  have ty : s.TypeIs (.ref q) "zip" := ⟨_, hq, rfl⟩
  unfold pyNext
  exact wpAny_bind (wpAny_attempt (wpAny_callSpecial?_slot (name := Str.ofString "__next__") ty F.slot_zip_next (wpAny_call_entry F.slot_zip_next ty F.entry_zip_next (zn_item D hq hG hU t1 t2 b1 b2 eu ev fun h' a1 a3 a4 a5 a7 => wpAny_pure (next h' a1 a3 a4 a5 a7)) (F.args_zip_next_1 _))))
theorem zp_end {R : Option Value → Shared → Prop} (hh : A.handled = none) (D : ZipApart q U O j1 j2 m1 m2) (hq : IsZipHeld s.heap q U O G f) (hG : s.heap.get? G = some og) (hU : IsPair s.heap U (.ref j1) (.ref j2)) (t1 : s.heap.IsTupleIter j1 m1 k1) (b1 : s.heap.IsTuple m1 us) (eu : us[k1]? = none)
    (next : ∀ h', (∀ c o, c ≠ q → c ≠ j1 → s.heap.get? c = some o → h'.get? c = some o) → R none { s with heap := h' }) : wpAny (model P w) A (pyNext (.ref q)) R E s := by
  have ty : s.TypeIs (.ref q) "zip" := ⟨_, hq, rfl⟩
  unfold pyNext
  refine wpAny_bind (wpAny_attempt (wpAny_callSpecial?_slot (name := Str.ofString "__next__") ty F.slot_zip_next (wpAny_call_entry F.slot_zip_next ty F.entry_zip_next (zn_end hh D hq hG hU t1 b1 eu fun h' e kp ⟨o, ho, hc⟩ => ?_) (F.args_zip_next_1 _))))
  exact wpAny_bind (wpAny_isInstance (T := "StopIteration") (b := true) ⟨o, ho, hc⟩ isSubtype_stop (wpAny_pure (next _ kp)))
end
theorem zipT_arg {P : Program} {w : World} (q U O j1 j2 m1 m2 : Addr) (D : ZipApart q U O j1 j2 m1 m2) (us vs : Array Value) (hl : us.size = vs.size) :
    PairArg P w "zip" q [q, U, O, j1, j2, m1, m2] [q, O, j1, j2] us.size (fun i k v => us[i]? = some k ∧ vs[i]? = some v)
      (fun h => IsZip h q U O .none ∧ IsPair h U (.ref j1) (.ref j2) ∧ (∃ a b, IsPair h O a b) ∧ h.IsTupleIter j1 m1 0 ∧ h.IsTupleIter j2 m2 0 ∧ h.IsTuple m1 us ∧ h.IsTuple m2 vs) where
  type := fun s ok => ⟨_, ok.1, rfl⟩
  notDict := by decide
  keep := fun h h' ⟨z0, z1, ⟨a, b, z2⟩, z3, z4, z5, z6⟩ k => ⟨k _ _ z0, k _ _ z1, ⟨a, b, k _ _ z2⟩, z3.at fun o e => k _ o e, z4.at fun o e => k _ o e, z5.at fun o e => k _ o e, z6.at fun o e => k _ o e⟩
  there := fun h ⟨z0, z1, ⟨a, b, z2⟩, ⟨_, z3, _⟩, ⟨_, z4, _⟩, ⟨_, z5, _⟩, ⟨_, z6, _⟩⟩ c hc => by
    simp only [List.mem_cons, List.not_mem_nil, or_false] at hc
    rcases hc with rfl | rfl | rfl | rfl | rfl | rfl | rfl
    · exact ⟨_, z0⟩
    · exact ⟨_, z1⟩
    · exact ⟨_, z2⟩
    · exact ⟨_, z3⟩
    · exact ⟨_, z4⟩
    · exact ⟨_, z5⟩
    · exact ⟨_, z6⟩
  sub := fun b hb => by simp only [List.mem_cons, List.not_mem_nil, or_false] at hb ⊢; rcases hb with rfl | rfl | rfl | rfl <;> simp
  noKeys := fun A s Q E hA ok h => getAttrOr_miss_zip ok.1 rfl rfl rfl zip_no_keys (by decide +kernel) hA h
  iter := fun A s d Q E hA ⟨z0, z1, ⟨a, b, z2⟩, z3, z4, z5, z6⟩ hd hdf h => by
    simp only [List.mem_cons, List.not_mem_nil, or_false, not_or] at hdf
    obtain ⟨d0, d1, d2, d3, d4, d5, d6⟩ := hdf
    refine wpAny_pyIter_zip z0 (h q [q, O, j1, j2] (fun i h => IsPair h U (.ref j1) (.ref j2) ∧ h.IsTupleIter j1 m1 i ∧ h.IsTupleIter j2 m2 i ∧ h.IsTuple m1 us ∧ h.IsTuple m2 vs ∧ ((IsZip h q U O .none ∧ ∃ a b, IsPair h O a b) ∨ ∃ G f og, IsZipHeld h q U O G f ∧ h.get? G = some og ∧ G ≠ q ∧ G ≠ j1 ∧ G ≠ j2 ∧ G ≠ d)) s.heap s.toks ?_ ⟨z1, z3, z4, z5, z6, .inl ⟨z0, a, b, z2⟩⟩ (fun _ _ e => e) fun b hb => .inl hb)
    refine { off := fun hm => ?_, frame := fun i g1 g2 st k => ?_, item := fun i s1 Q1 E1 hi st hds next => ?_, done := fun s1 Q1 E1 st next => ?_ }
    · simp only [List.mem_cons, List.not_mem_nil, or_false] at hm
      rcases hm with e | e | e | e
      · exact d0 e
      · exact d2 e
      · exact d3 e
      · exact d4 e
    · obtain ⟨y1, y3, y4, y5, y6, y⟩ := st
      refine ⟨k _ _ (Ne.symm d1) y1, y3.at fun o e => k _ o (Ne.symm d3) e, y4.at fun o e => k _ o (Ne.symm d4) e, y5.at fun o e => k _ o (Ne.symm d5) e, y6.at fun o e => k _ o (Ne.symm d6) e, ?_⟩
      rcases y with ⟨y0, a, b, y2⟩ | ⟨G, f, og, y0, yG, r1, r2, r3, r4⟩
      · exact .inl ⟨k _ _ (Ne.symm d0) y0, a, b, k _ _ (Ne.symm d2) y2⟩
      · exact .inr ⟨G, f, og, k _ _ (Ne.symm d0) y0, k _ _ r4 yG, r1, r2, r3, r4⟩
    · obtain ⟨y1, y3, y4, y5, y6, y⟩ := st
      have eu := Array.getElem?_eq_getElem hi
      have ev := Array.getElem?_eq_getElem (hl ▸ hi : i < vs.size)
      have lt : ∀ {c o}, s1.heap.get? c = some o → s1.heap.objs.size ≠ c := fun e => Nat.ne_of_gt (Heap.lt_size e)
      have n1 : s1.heap.objs.size ≠ j1 := let ⟨_, e, _⟩ := y3; lt e
      have n2 : s1.heap.objs.size ≠ j2 := let ⟨_, e, _⟩ := y4; lt e
      rcases y with ⟨y0, a, b, y2⟩ | ⟨G, f, og, y0, yG, r1, r2, r3, r4⟩
      · refine RZ.pyNext_zipT_item D y0 y1 y2 y3 y4 y5 y6 eu ev fun h' a1 a2 a3 a4 a5 a6 k => ?_
        refine next s1.heap.objs.size _ _ h' s1.toks ⟨eu, ev⟩ (.inl ⟨_, a5, rfl, _, rfl⟩) ⟨k _ _ D.TIz D.TITO D.TIi1 D.TIi2 y1, a3, a4, y5.at fun o e => k _ o D.l1z D.l1TO D.l1i1 D.l1i2 e, y6.at fun o e => k _ o D.l2z D.l2TO D.l2i1 D.l2i2 e, .inr ⟨s1.heap.objs.size, false, _, a1, a5, lt y0, n1, n2, Nat.ne_of_gt hds⟩⟩ fun c o hc e => ?_
        simp only [List.mem_cons, List.not_mem_nil, or_false, not_or] at hc
        exact k c o hc.1 hc.2.1 hc.2.2.1 hc.2.2.2 e
      · refine zp_item D y0 yG y1 y3 y4 y5 y6 eu ev fun h' a1 a3 a4 a5 k => ?_
        refine next s1.heap.objs.size _ _ h' s1.toks ⟨eu, ev⟩ (.inl ⟨_, a5, rfl, _, rfl⟩) ⟨k _ _ D.TIz D.TIi1 D.TIi2 y1, a3, a4, y5.at fun o e => k _ o D.l1z D.l1i1 D.l1i2 e, y6.at fun o e => k _ o D.l2z D.l2i1 D.l2i2 e, .inr ⟨G, true, og, a1, k _ _ r1 r2 r3 yG, r1, r2, r3, r4⟩⟩ fun c o hc e => ?_
        simp only [List.mem_cons, List.not_mem_nil, or_false, not_or] at hc
        exact k c o hc.1 hc.2.2.1 hc.2.2.2 e
    · obtain ⟨y1, y3, y4, y5, y6, y⟩ := st
      have eu : us[us.size]? = none := Array.getElem?_eq_none (Nat.le_refl _)
      rcases y with ⟨y0, a, b, y2⟩ | ⟨G, f, og, y0, yG, r1, r2, r3, r4⟩
      · refine RZ.pyNext_zipT_end hA D y0 y1 y2 y3 y4 y5 y6 (.inl eu) fun h' k => next h' s1.toks fun c o hc e => ?_
        simp only [List.mem_cons, List.not_mem_nil, or_false, not_or] at hc
        exact k c o hc.1 hc.2.1 hc.2.2.1 hc.2.2.2 e
      · refine zp_end hA D y0 yG y1 y3 y5 eu fun h' k => next h' s1.toks fun c o hc e => ?_
        simp only [List.mem_cons, List.not_mem_nil, or_false, not_or] at hc
        exact k c o hc.1 hc.2.2.1 e
theorem kv_zip {P : Program} {w : World} : ∀ {kvs : List (Key × V)} {its its2 : List Value}, Vals (kvs.map fun x => kV x.1) its → Vals (kvs.map (·.2)) its2 → ∃ prs : List (Key × Value), KV kvs prs ∧ prs.length = kvs.length ∧ ∀ (i : Nat) (key v : Value), its[i]? = some key → its2[i]? = some v → ∃ k, prs[i]? = some (k, v) ∧ (mixKind P w).is k key = true
  | [], _, _, r1, r2 => ⟨[], .nil, rfl, fun i key v e _ => by
      cases r1
      cases e⟩
  | (k, y) :: rest, _, _, r1, r2 => by
    rw [List.map_cons] at r1 r2
    cases r1 with
    | cons a1 t1 =>
      cases r2 with
      | cons a2 t2 =>
        obtain ⟨prs, r, hl, hp⟩ := kv_zip (P := P) (w := w) t1 t2
        refine ⟨(k, _) :: prs, .cons ⟨rfl, a2⟩ r, by rw [List.length_cons, List.length_cons, hl], fun i key v e e2 => ?_⟩
        cases i with
        | zero =>
          rw [List.getElem?_cons_zero] at e e2
          cases e
          cases e2
          exact ⟨k, rfl, kV_is a1⟩
        | succ i =>
          rw [List.getElem?_cons_succ] at e e2
          exact hp i key v e e2
def tDz (K : PySem.W.Frag) (ta : TA) : TE := fun σ H Q => ta σ H fun vs H1 => ∃ (a b : Addr) (kvs : List (Key × V)), vs = [.ref a, .ref b] ∧ SqT K H1 a (kvs.map fun x => kV x.1) ∧ SqT K H1 b (kvs.map (·.2)) ∧ ∀ p, H1 p = none → Q (.ref p) (upd H1 p (.dK (mergeK [] kvs)))
theorem pe_dictZip {X : Cx} {e e2 : Expr} {ta : TA} {p p2 pos pos2 : Pos} (hgd : Gl X "dict") (hmd : X.mg "dict" = none) (hg : Gl X "zip") (hm : X.mg "zip" = none) (hcalm : X.calm = true) (ha : PA X [e, e2] ta)
    (na : starEach [.Call (.Name "zip" p2) [e, e2] [] pos2] X.env = (false, eval (.Call (.Name "zip" p2) [e, e2] [] pos2) X.env) :: starEach [] X.env := by rfl)
    (hs : starEach [e, e2] X.env = (false, eval e X.env) :: starEach [e2] X.env := by rfl) (hpl : (backTo pos2 (starEach [e2] X.env)).any (·.1) = false := by rfl) :
    PE X (.Call (.Name "dict" p) [.Call (.Name "zip" p2) [e, e2] [] pos2] [] pos) (tDz X.K ta) := by
  refine ⟨fun pins s σ H Q I h => ?_⟩
  refine Call_ (ld_blt I hgd hmd PyProof.Rows.boot_dict (PyProof.Rows.callWith_type1 (args_cons (Call_ (ld_blt I hg hm PyProof.Rows.boot_zip (PyProof.Rows.callWith_type1 (thn (ha.run pos2 pins s σ H _ I h) fun us s1 ⟨vs, H1, I1, r1, q1⟩ => ?_) hs hpl))) na) na))
  obtain ⟨a, b, kvs, rfl, ha1, hb1, q⟩ := q1
  cases r1 with
  | cons ra rr =>
    cases rr with
    | cons rb rr =>
      cases rr
      cases ra
      cases rb
      obtain ⟨its, v1, p1, hz1⟩ := I1.tuple ha1
      obtain ⟨its2, v2, p2', hz2⟩ := I1.tuple hb1
      obtain ⟨o1, ho1, y1⟩ := id p1
      obtain ⟨o2, ho2, y2⟩ := id p2'
      obtain ⟨prs, rel, hl, hp⟩ := kv_zip (P := X.prog) (w := X.w) v1 v2
      have l1 : its.length = kvs.length := by
        have := v1.length
        rw [List.length_map] at this
        exact this.symm
      have l2 : its2.length = kvs.length := by
        have := v2.length
        rw [List.length_map] at this
        exact this.symm
      rw [List.length_map] at hz1
      refine RZ.call_zipT (show s1.heap.IsTuple a its.toArray from p1) (show s1.heap.IsTuple b its2.toArray from p2') fun h' hz hTI hTO t1 t2 hsz hk => args_nil ?_
      have D := PySem.W.ktu_apart s1.heap.objs.size a b (Heap.lt_size ho1) (Heap.lt_size ho2)
      refine PySem.call_dict_pairs (knd := mixKind X.prog X.w) (kvs := prs) (zipT_arg _ _ _ _ _ a b D its.toArray its2.toArray (by rw [List.size_toArray, List.size_toArray, l1, l2])) (I1.ok.hd hcalm) ⟨hz, hTI, ⟨_, _, hTO⟩, t1, t2, ⟨o1, hk _ _ ho1, y1⟩, ⟨o2, hk _ _ ho2, y2⟩⟩ ⟨?_, fun i key v e => ?_⟩ ?_ fun h2 tk hd hk2 => ?_
      · rw [hl, List.size_toArray, l1]
      · exact hp i key v (by simpa using e.1) (by simpa using e.2)
      · rw [List.size_toArray, l1]
        exact hz1
      · have keep : ∀ c o, s1.heap.get? c = some o → h2.get? c = some o := fun c o e => by
          have hlt := Heap.lt_size e
          refine hk2 c o (fun hm => ?_) (hk c o e)
          simp only [List.mem_cons, List.not_mem_nil, or_false] at hm
          rcases hm with z | z | z | z
          · exact Nat.not_lt.mpr (Nat.le_add_right _ _) (z ▸ hlt)
          · exact Nat.not_lt.mpr (Nat.le_add_right _ _) (z ▸ hlt)
          · exact Nat.not_lt.mpr (Nat.le_refl _) (z ▸ hlt)
          · exact Nat.not_lt.mpr (Nat.le_add_right _ _) (z ▸ hlt)
        have hle : s1.heap.objs.size ≤ h'.objs.size := by
          rw [hsz]
          exact Nat.le_add_right _ _
        have hm : (h'.objs.size == sysModules) = false := beq_eq_false_iff_ne.mpr (Nat.ne_of_gt (Nat.lt_of_lt_of_le I1.big hle))
        have hlen : (mergeK [] kvs).length ≤ sizeLine := by
          refine Nat.le_trans (length_mergeK kvs []) ?_
          rw [List.length_nil, Nat.zero_add]
          exact hz1
        exact ⟨.ref h'.objs.size, upd H1 h'.objs.size (.dK (mergeK [] kvs)), I1.laid (t' := tk) keep hle (show ObjOk X.prog X.w _ _ _ (.dK (mergeK [] kvs)) from ⟨hlen, hm, merged [] prs, KV.merge rel .nil, hd⟩), rfl, q _ (I1.hok.fresh hle)⟩
end Pf


namespace Pf
open PySem PySem.Spec PyProof.Rows L2
/-! ### sum(lists, start) -/
abbrev LiO (its : List Value) (n : Nat) : Obj := { cls := .type "list", dict := none, data := .seq its.toArray n, slots := #[] }
section
variable {P : Program} {w : World} {A : Around} {R : Result → Shared → Prop} {I l S : Addr} {items : Array Value}
theorem suml_loop (hh : A.in1.handled = none) (nIS : I ≠ S) (nIl : l ≠ I) (nSl : l ≠ S) : ∀ (rest : List (Addr × List Value)) (i : Nat) (s : Shared) (t : Addr) (acc : List Value) (c1 ct : Nat), items.size = i + rest.length → s.heap.IsListIter I l i → s.heap.IsList l items →
    (∀ (j : Nat) (x : Addr × List Value), rest[j]? = some x → items[i + j]? = some (.ref x.1) ∧ x.1 ≠ I ∧ x.1 ≠ S ∧ ∃ c, s.heap.get? x.1 = some (LiO x.2 c)) → s.heap.get? S = some (LiO [.ref t] c1) → s.heap.get? t = some (LiO acc ct) → t ≠ I → t ≠ S →
    acc.length + (rest.map (·.2)).flatten.length ≤ sizeLine →
    (∀ h' tk t' c', h'.get? t' = some (LiO (acc ++ (rest.map (·.2)).flatten) c') → (rest = [] → t' = t) → (rest ≠ [] → s.heap.objs.size ≤ t') → (∀ b o, b ≠ I → b ≠ S → s.heap.get? b = some o → h'.get? b = some o) → R (.ok (.ret (.ref t'))) { s with heap := h', toks := tk }) →
    codeAny (model P w) A (.builtin "sum.loop" ⟨[.ref I, .ref S, rawInt 2, rawInt 0], []⟩) R s
  | [], i, s, t, acc, c1, ct, hn, it, hl, _, hS, ht, _, _, _, hR => by
    refine codeAny_builtin F.entry_sum_loop ?_; rw [Around.under_plainId F.plain_sum_loop _]
    show wpAny _ A.in1 (seqItems? (.ref S) >>= _) _ _ _
    refine wpAny_bind (wpAny_seqItems hS rfl ?_)
    show wpAny _ A.in1 (tryCatch (pyNext (.ref I)) _ >>= _) _ _ _
    refine wpAny_bind (wpAny_tryCatch (wpAny_pyNext_list_end hh it hl (Array.getElem?_eq_none (by rw [hn]; exact Nat.le_refl _)) fun h' he => ?_))
    exact wpAny_pure (hR h' s.toks t ct (by rw [List.map_nil, List.flatten_nil, List.append_nil]; exact he t _ (by assumption) ht) (fun _ => rfl) (fun z => absurd rfl z) fun b o n1 _ e => he b o n1 e)
  | (b, ys) :: rest, i, s, t, acc, c1, ct, hn, it, hl, hx, hS, ht, ntI, ntS, hz, hR => by
    obtain ⟨e0, nbI, nbS, cb, hb⟩ := hx 0 (b, ys) rfl
    rw [List.map_cons, List.flatten_cons] at hR
    rw [List.map_cons, List.flatten_cons, List.length_append] at hz
    have hz : acc.length + (ys.length + (rest.map (·.2)).flatten.length) ≤ sizeLine := hz
    refine codeAny_builtin F.entry_sum_loop ?_; rw [Around.under_plainId F.plain_sum_loop _]
    show wpAny _ A.in1 (seqItems? (.ref S) >>= _) _ _ _
    refine wpAny_bind (wpAny_seqItems hS rfl ?_)
    show wpAny _ A.in1 (tryCatch (pyNext (.ref I)) _ >>= _) _ _ _
    refine wpAny_bind (wpAny_tryCatch (wpAny_pyNext_list_item it hl e0 fun h1 it1 s1 => ?_))
    have hS1 := s1.extBut _ _ nIS.symm hS
    have ht1 := s1.extBut _ _ ntI ht
    have hb1 := s1.extBut _ _ nbI hb
    show wpAny _ A.in1 ((holding [Value.ref b] (binaryOp .Add (.ref t) (.ref b))).attempt >>= _) _ _ _
    refine wpAny_bind (wpAny_attempt (wpAny_holding (PySem.P.add_list (n := ct) (n2 := cb) ht1 hb1 ?_ (by rw [List.size_toArray, List.size_toArray]; show acc.length + ys.length ≤ _; omega))))
    have ea : acc.toArray ++ ys.toArray = (acc ++ ys).toArray := by simp
    rw [ea]
    have sz1 : h1.objs.size = s.heap.objs.size := s1.1
    generalize hh2 : h1.push { cls := Value.type "list", data := Data.seq (acc ++ ys).toArray } = h2
    have up2 : ∀ c o, h1.get? c = some o → h2.get? c = some o := fun c o e => hh2 ▸ Heap.get?_push_of_some _ e
    have new2 : h2.get? h1.objs.size = some (LiO (acc ++ ys) 0) := hh2 ▸ Heap.get?_push_size _ rfl
    have sz2 : h2.objs.size = h1.objs.size + 1 := hh2 ▸ Heap.size_push ..
    have ltS : S < h1.objs.size := Heap.lt_size hS1
    have ltI : I < h1.objs.size := by
      obtain ⟨_, e, _⟩ := it1
      exact Heap.lt_size e
    show wpAny _ A.in1 (updateSeq S (fun _ => #[.ref h1.objs.size]) >>= _) _ _ _
    refine wpAny_bind (wpAny_updateSeq (up2 _ _ hS1) rfl ?_)
    have hS3 := Heap.get?_update_self (Obj.mapSeq fun _ => #[Value.ref h1.objs.size]) (up2 _ _ hS1) rfl
    refine wpAny_bind (wpAny_letGo ?_)
    refine wpAny_bind (wpAny_updateSeq hS3 rfl (wpAny_pure ⟨plainId_quiet F.plain_sum_loop _, ?_⟩))
    have hS4 := Heap.get?_update_self (Obj.mapSeq fun _ => #[Value.ref h1.objs.size]) hS3 rfl
    have up4 : ∀ c o, c ≠ S → h2.get? c = some o → ((h2.update S (Obj.mapSeq fun _ => #[Value.ref h1.objs.size])).update S (Obj.mapSeq fun _ => #[Value.ref h1.objs.size])).get? c = some o := fun c o n e => (Heap.get?_update_other _ _ n.symm).trans ((Heap.get?_update_other _ _ n.symm).trans e)
    have all : ∀ c o, c ≠ I → c ≠ S → s.heap.get? c = some o → ((h2.update S (Obj.mapSeq fun _ => #[Value.ref h1.objs.size])).update S (Obj.mapSeq fun _ => #[Value.ref h1.objs.size])).get? c = some o := fun c o n1 n2 e => up4 c o n2 (up2 _ _ (s1.extBut _ _ n1 e))
    refine suml_loop hh nIS nIl nSl rest (i + 1) { s with heap := (h2.update S (Obj.mapSeq fun _ => #[Value.ref h1.objs.size])).update S (Obj.mapSeq fun _ => #[Value.ref h1.objs.size]) } h1.objs.size (acc ++ ys) _ 0 ?_ ?_ ?_ (fun j x hj => ?_) hS4 (up4 _ _ (Nat.ne_of_gt ltS) new2) (Nat.ne_of_gt ltI) (Nat.ne_of_gt ltS) ?_ fun h' tk t' c' g1 g2 g3 g4 => ?_
    · rw [hn, List.length_cons]
      omega
    · exact it1.at fun o e => up4 _ _ nIS (up2 _ _ e)
    · exact hl.at fun o e => all _ _ nIl nSl e
    · obtain ⟨y1, y2, y3, c, y4⟩ := hx (j + 1) x hj
      exact ⟨by rw [show i + 1 + j = i + (j + 1) by omega]; exact y1, y2, y3, c, all _ _ y2 y3 y4⟩
    · rw [List.length_append]
      omega
    · refine hR h' tk t' c' (by rw [← List.append_assoc]; exact g1) (fun z => nomatch z) (fun _ => ?_) fun b o n1 n2 e => g4 b o n1 n2 (all _ _ n1 n2 e)
      cases hr : rest with
      | nil =>
        rw [g2 hr, sz1]
        exact Nat.le_refl _
      | cons y r =>
        have := g3 (by rw [hr]; intro z; cases z)
        have e4 : ((h2.update S (Obj.mapSeq fun _ => #[Value.ref h1.objs.size])).update S (Obj.mapSeq fun _ => #[Value.ref h1.objs.size])).objs.size = h2.objs.size := by
          rw [Heap.size_update, Heap.size_update]
        exact Nat.le_trans (by rw [← sz1, ← Nat.lt_succ_iff]; show h1.objs.size < _; rw [e4, sz2]; exact Nat.lt_succ_of_le (Nat.le_succ _)) this
end
theorem sub_ls : isSubtype (.type "list") (.type "str") = pure false := by rw [isSubtype_type]; kernel_rfl
theorem sub_lb : isSubtype (.type "list") (.type "bytes") = pure false := by rw [isSubtype_type]; kernel_rfl
theorem sub_la : isSubtype (.type "list") (.type "bytearray") = pure false := by rw [isSubtype_type]; kernel_rfl
theorem args_sum2 (a b : Value) : argsOk "sum" ⟨[a, b], []⟩ := by unfold argsOk; kernel_rfl
theorem lists_of {X : Cx} {pins : List (Addr × Obj)} {σ : L2.St} {H : Hp} {s : Shared} (I : Inv X pins σ H s) : ∀ {ls : List (Addr × List V)}, (∀ x ∈ ls, H x.1 = some (.lst x.2)) → ∃ rest : List (Addr × List Value), rest.map (·.1) = ls.map (·.1) ∧ Vals (ls.map (·.2)).flatten (rest.map (·.2)).flatten ∧ ∀ x ∈ rest, ∃ c, s.heap.get? x.1 = some (LiO x.2 c)
  | [], _ => ⟨[], rfl, .nil, fun x h => by cases h⟩
  | (a, ys) :: ls, h => by
    obtain ⟨rest, r1, r2, r3⟩ := lists_of I (ls := ls) fun x hx => h x (List.mem_cons_of_mem _ hx)
    obtain ⟨_, its, n, r, _, e⟩ := I.lstM (h (a, ys) (List.mem_cons_self ..))
    refine ⟨(a, its) :: rest, by rw [List.map_cons, List.map_cons, r1], ?_, fun x hx => ?_⟩
    · rw [List.map_cons, List.map_cons, List.flatten_cons, List.flatten_cons]
      exact r.append r2
    · rcases List.mem_cons.mp hx with rfl | hx
      · exact ⟨n, e⟩
      · exact r3 x hx
def rSumL (K : PySem.W.Frag) : List V → Hp → VK → Prop := fun vs H Q => ∃ (a b : Addr) (ls : List (Addr × List V)) (xs : List V), vs = [.ref a, .ref b] ∧ SqL K H a (ls.map fun x => .ref x.1) ∧ (∀ x ∈ ls, H x.1 = some (.lst x.2)) ∧ H b = some (.lst xs) ∧ xs.length + (ls.map (·.2)).flatten.length ≤ sizeLine ∧
  (ls = [] → Q (.ref b) H) ∧ (ls ≠ [] → ∀ p, H p = none → Q (.ref p) (upd H p (.lst (xs ++ (ls.map (·.2)).flatten))))
theorem cr_sumL (K : PySem.W.Frag) {X : Cx} (hcalm : X.calm = true) (hK : X.K = K := by rfl) : CallR X (.builtin "sum") (rSumL K) := by
  subst hK
  intro pins s σ H vs us Q I r h
  obtain ⟨a, b, ls, xs, rfl, ha, hls, hb, hz, q0, q1⟩ := h
  cases r with
  | cons ra rr =>
    cases rr with
    | cons rb rr =>
      cases rr
      cases ra
      cases rb
      obtain ⟨its, v1, pl, _⟩ := I.list ha
      obtain ⟨rest, r1, r2, r3⟩ := lists_of I hls
      obtain ⟨_, bs, nb, vb, _, eb⟩ := I.lstM hb
      have hl : s.heap.IsList a its.toArray := pl.isList
      have ei : its = rest.map fun x => Value.ref x.1 := by
        have e1 : (ls.map fun x => V.ref x.1) = (ls.map (·.1)).map V.ref := by rw [List.map_map]; rfl
        rw [e1] at v1
        rw [refs_at v1, ← r1, List.map_map]
        rfl
      refine call_function_tree F.kind_sum F.plain_sum F.entry_sum (args_sum2 _ _) ?_
      unfold Builtin.«sum»; simp only [List.length_cons, List.length_nil]; rw [if_neg (by decide)]
      refine wpAny_bind (wpAny_of_eq (show Builtin.Builtins.bindParams "sum" ["start"] 0 ⟨[.ref b], []⟩ = pure [some (.ref b)] from rfl) ?_)
      refine wpAny_bind (wpAny_pyIter_list hl ?_)
      have tb : ∀ tk, Shared.TypeIs { s with heap := s.heap.push { cls := .type "list_iterator", data := .fields #[.ref a, .int 0 0] }, toks := tk } (.ref b) "list" := fun _ => ⟨_, Heap.get?_push_of_some _ eb, rfl⟩
      refine wpAny_bind (wpAny_pure ?_)
      simp only [List.forIn_cons, List.forIn_nil]
      refine wpAny_bind (wpAny_bind (wpAny_bind (wpAny_isInstance (T := "list") (b := false) (tb _) sub_ls ?_))); simp only [Bool.false_eq_true, if_false]
      refine wpAny_pure (wpAny_bind (wpAny_bind (wpAny_isInstance (T := "list") (b := false) (tb _) sub_lb ?_))); simp only [Bool.false_eq_true, if_false]
      refine wpAny_pure (wpAny_bind (wpAny_bind (wpAny_isInstance (T := "list") (b := false) (tb _) sub_la ?_))); simp only [Bool.false_eq_true, if_false]
      refine wpAny_pure (wpAny_pure (wpAny_bind (wpAny_newObj_type (wpAny_pure ⟨plainId_quiet F.plain_sum_loop _, ?_⟩))))
      have lt : ∀ {c o}, s.heap.get? c = some o → c < s.heap.objs.size := fun e => Heap.lt_size e
      have la : a < s.heap.objs.size := pl.lt
      have lb : b < s.heap.objs.size := lt eb
      have sz : (s.heap.push { cls := .type "list_iterator", data := .fields #[.ref a, .int 0 0] }).objs.size = s.heap.objs.size + 1 := Heap.size_push ..
      have up : ∀ c o, s.heap.get? c = some o → ((s.heap.push { cls := .type "list_iterator", data := .fields #[.ref a, .int 0 0] }).push (LiO [.ref b] 0)).get? c = some o := fun c o e => Heap.get?_push_of_some _ (Heap.get?_push_of_some _ e)
      have off : ∀ {c}, c < s.heap.objs.size + 1 → c ≠ (s.heap.push { cls := .type "list_iterator", data := .fields #[.ref a, .int 0 0] }).objs.size := fun h => by
        rw [sz]
        exact Nat.ne_of_lt h
      refine suml_loop (P := X.prog) (w := X.w) (A := X.A) (I := s.heap.objs.size) (l := a) (S := (s.heap.push { cls := .type "list_iterator", data := .fields #[.ref a, .int 0 0] }).objs.size) (items := its.toArray) (I.ok.hd hcalm) (off (Nat.lt_succ_self _)) (Nat.ne_of_lt la) (off (Nat.lt_succ_of_lt la)) rest 0 { s with heap := (s.heap.push { cls := .type "list_iterator", data := .fields #[.ref a, .int 0 0] }).push (LiO [.ref b] 0) } b bs 0 nb ?_ ⟨_, Heap.get?_push_of_some _ (Heap.get?_push_size _ rfl), rfl, rfl⟩ (hl.at fun o e => up _ _ e) (fun j x hj => ?_) ?_ (up _ _ eb) (Nat.ne_of_lt lb) (off (Nat.lt_succ_of_lt lb)) ?_ fun h' tk t' c' g1 g2 g3 g4 => ?_
      · rw [List.size_toArray, ei, List.length_map, Nat.zero_add]
      · obtain ⟨c, hc⟩ := r3 x (List.mem_of_getElem? hj)
        have lx := lt hc
        refine ⟨?_, Nat.ne_of_lt lx, off (Nat.lt_succ_of_lt lx), c, up _ _ hc⟩
        rw [Nat.zero_add, List.getElem?_toArray, ei, List.getElem?_map, hj]
        rfl
      · exact Heap.get?_push_size _ rfl
      · have := r2.length
        have := vb.length
        omega
      · have keep : ∀ c o, s.heap.get? c = some o → h'.get? c = some o := fun c o e => g4 c o (Nat.ne_of_lt (lt e)) (off (Nat.lt_succ_of_lt (lt e))) (up c o e)
        cases hr : ls with
        | nil =>
          have hrest : rest = [] := by
            rw [hr] at r1
            cases rest with
            | nil => rfl
            | cons y z => cases r1
          rw [g2 hrest]
          exact ⟨.ref b, H, I.kept keep, rfl, q0 hr⟩
        | cons y z =>
          have hrest : rest ≠ [] := fun e => by
            rw [e, hr] at r1
            cases r1
          have hle : s.heap.objs.size ≤ t' := Nat.le_trans (by rw [Heap.size_push, Heap.size_push]; omega) (g3 hrest)
          refine ⟨.ref t', upd H t' (.lst (xs ++ (ls.map (·.2)).flatten)), I.laid keep hle (show ObjOk X.prog X.w _ _ _ (.lst (xs ++ (ls.map (·.2)).flatten)) from ⟨?_, bs ++ (rest.map (·.2)).flatten, c', vb.append r2, g1⟩), rfl, q1 (by rw [hr]; intro e; cases e) _ (I.hok.fresh hle)⟩
          rw [List.length_append]
          exact hz
/-! ### tuple(xs) of a list, its object known; dict(ps) of such a tuple of pairs -/
def rTupleFz (K : PySem.W.Frag) : List V → Hp → VK → Prop := fun xs H Q => ∃ p ys, xs = [.ref p] ∧ SqL K H p ys ∧ ∀ (l : Addr) (o : Obj), H l = none → o.dict = none → Q (.ref l) (upd H l (.frz o (.tup ys)))
theorem tupleFz (K : PySem.W.Frag) {X : Cx} (hK : X.K = K := by rfl) : CallR X (.type "tuple") (rTupleFz K) := by
  subst hK
  intro pins s σ H vs us Q I r h
  obtain ⟨p, ys, rfl, hs, q⟩ := h
  obtain ⟨u, rfl, rfl⟩ := vals1 r
  obtain ⟨its, rv, pl, hz⟩ := I.list hs
  refine call_tuple_list pl.isList (fun h' hk => ?_) (by rw [List.size_toArray, ← rv.length]; exact hz)
  have I1 : Inv X pins σ H { s with heap := h' } := I.kept (t' := s.toks) hk
  refine ⟨.ref h'.objs.size, _, I1.laid (t' := s.toks) (o := .frz { cls := .type "tuple", data := .seq its.toArray } (.tup ys)) (fun b o e => Heap.get?_push_of_some _ e) (Nat.le_refl _) ?_, rfl, q _ _ (I1.hok.fresh (Nat.le_refl _)) rfl⟩
  exact ⟨Heap.get?_push_size _ rfl, hz, its, rv, IsTup.new _ _⟩
theorem trips {X : Cx} {pins : List (Addr × Obj)} {σ : L2.St} {H : Hp} {s : Shared} (I : Inv X pins σ H s) : ∀ {ps : List Addr} {kvs : List (Key × V)}, Paired (fun p kv => SqT X.K H p [kV kv.1, kv.2]) ps kvs →
    ∃ tr : List (Key × Value × Value), tr.length = ps.length ∧ KV kvs (tr.map fun t => (t.1, t.2.2)) ∧ ∀ (j : Nat) (t : Key × Value × Value), tr[j]? = some t → ∃ b : Addr, ps[j]? = some b ∧ IsTup s.heap b #[t.2.1, t.2.2] ∧ (mixKind X.prog X.w).is t.1 t.2.1 = true
  | _, _, .nil => ⟨[], rfl, .nil, fun j t e => by simp at e⟩
  | _, _, .cons (a := p) (b := kv) h t => by
    obtain ⟨tr, hl, r, hp⟩ := trips I t
    obtain ⟨its, rv, ht, _⟩ := I.tuple h
    obtain ⟨u, y, ei, ru, ry⟩ := vals2 rv
    subst ei
    refine ⟨(kv.1, u, y) :: tr, by rw [List.length_cons, List.length_cons, hl], .cons ⟨rfl, ry⟩ r, fun j t e => ?_⟩
    cases j with
    | zero =>
      rw [List.getElem?_cons_zero] at e
      cases e
      exact ⟨p, rfl, ht, kV_is ru⟩
    | succ j =>
      rw [List.getElem?_cons_succ] at e
      obtain ⟨b, e1, e2⟩ := hp j t e
      exact ⟨b, by rw [List.getElem?_cons_succ]; exact e1, e2⟩
def rDictT (K : PySem.W.Frag) : List V → Hp → VK → Prop := fun xs H Q => ∃ (a : Addr) (o : Obj) (ps : List Addr) (kvs : List (Key × V)), xs = [.ref a] ∧ H a = some (.frz o (.tup (ps.map V.ref))) ∧ o.dict = none ∧ Paired (fun p kv => SqT K H p [kV kv.1, kv.2]) ps kvs ∧ ∀ p, H p = none → Q (.ref p) (upd H p (.dK (mergeK [] kvs)))
theorem dictT (K : PySem.W.Frag) {X : Cx} (hcalm : X.calm = true := by rfl) (hK : X.K = K := by rfl) : CallR X (.type "dict") (rDictT K) := by
  subst hK
  intro pins s σ H xs us Q I r h
  obtain ⟨a, o, ps, kvs, rfl, ha, hd, hp, q⟩ := h
  obtain ⟨u, rfl, rfl⟩ := vals1 r
  obtain ⟨e, hz, its, rv, o', e', hc, n, hdat⟩ := I.hok a _ ha
  have eo : o' = o := by
    rw [e] at e'
    exact (Option.some.inj e').symm
  subst eo
  obtain ⟨tr, hl, rel, htr⟩ := trips I hp
  have ei : its = ps.map Value.ref := refs_at rv
  rw [List.length_map] at hz
  refine PySem.call_dict_pairs (knd := mixKind X.prog X.w) (kvs := tr.map fun t => (t.1, t.2.2)) (PairArg.tuple a its.toArray (fun j => ps.getD j 0) (tr.map fun t => (t.2.1, t.2.2))) (I.ok.hd hcalm) ⟨⟨o', n, e, hc, hd, hdat⟩, ?_, fun j k v hj => ?_⟩ ⟨?_, fun i key v hi => ?_⟩ ?_ fun h' tk hd' k => ?_
  · rw [List.size_toArray, ei, List.length_map, List.length_map, hl]
  · rw [List.getElem?_map] at hj
    cases ht : tr[j]? with
    | none =>
      rw [ht] at hj
      cases hj
    | some t =>
      rw [ht] at hj
      cases hj
      obtain ⟨b, e1, e2, _⟩ := htr j t ht
      have eb : ps.getD j 0 = b := by
        rw [List.getD_eq_getElem?_getD, e1]
        rfl
      refine ⟨?_, .inl ?_⟩
      · rw [List.getElem?_toArray, ei, List.getElem?_map, e1]
        show some (Value.ref b) = some (Value.ref (ps.getD j 0))
        rw [eb]
      · show s.heap.IsTuple (ps.getD j 0) _
        rw [eb]
        exact e2
  · rw [List.length_map, List.length_map]
  · have hi : (tr.map fun t => (t.2.1, t.2.2))[i]? = some (key, v) := hi
    rw [List.getElem?_map] at hi
    cases ht : tr[i]? with
    | none =>
      rw [ht] at hi
      cases hi
    | some t =>
      rw [ht] at hi
      cases hi
      obtain ⟨b, _, _, e3⟩ := htr i t ht
      exact ⟨t.1, by rw [List.getElem?_map, ht]; rfl, e3⟩
  · rw [List.length_map, hl]
    exact hz
  · have hm : (s.heap.objs.size == sysModules) = false := beq_eq_false_iff_ne.mpr (Nat.ne_of_gt I.big)
    have hkl : kvs.length = ps.length := by
      have := rel.length
      rw [List.length_map, hl] at this
      exact this
    have hlen : (mergeK [] kvs).length ≤ sizeLine := by
      refine Nat.le_trans (length_mergeK kvs []) ?_
      rw [List.length_nil, Nat.zero_add, hkl]
      exact hz
    exact ⟨.ref s.heap.objs.size, upd H s.heap.objs.size (.dK (mergeK [] kvs)), I.laid (t' := tk) (fun b o e => k b o (fun z => nomatch z) e) (Nat.le_refl _) (show ObjOk X.prog X.w _ _ _ (.dK (mergeK [] kvs)) from ⟨hlen, hm, merged [] _, KV.merge rel .nil, hd'⟩), rfl, q _ (I.hok.fresh (Nat.le_refl _))⟩
end Pf


namespace Pf
open PySem PySem.Spec PyProof.Rows L2
def evL (x : Str) (i : Nat) : List Str := (x.cps.toList.take i).flatMap fun a => x.cps.toList.map fun b => (⟨#[a]⟩ ++ ⟨#[b]⟩ : Str)
def OfP (r : Rl) : Prop := ∀ y ∈ r.prs, Of r.letters y.1
theorem evL_of {x : Str} {i : Nat} {t : Str} (h : t ∈ evL x i) : Of x t := by
  unfold evL at h
  obtain ⟨a, ha, h⟩ := List.mem_flatMap.mp h
  obtain ⟨b, hb, rfl⟩ := List.mem_map.mp h
  have ha := List.mem_of_mem_take ha
  intro c hc
  rw [Str.cps_append, Array.toList_append, List.mem_append] at hc
  rcases hc with hc | hc
  · have : c = a := by simpa using hc
    rw [this]
    exact ha
  · have : c = b := by simpa using hc
    rw [this]
    exact hb
theorem none_of {p : Addr} {H H' : Hp} (k : Kp p H H') {b : Addr} (nb : b ≠ p) (h : H' b = none) : H b = none := by
  cases e : H b with
  | none => rfl
  | some o =>
    rw [k b o nb e] at h
    cases h
end Pf


namespace Pf
open PySem PySem.Spec PyProof.Rows L2
/-! ### enumerate of a text -/
def ItES (x : Str) : It :=
  ⟨fun i _ => i < x.cps.size, fun i H v H' => ∃ T c, v = .ref T ∧ H T = none ∧ H' = upd H T (.tup [.int (i : Nat), .str ⟨#[c]⟩]) ∧ x.cps[i]? = some c, fun i _ => i = x.cps.size⟩
theorem turn_es {P : Program} {w : World} {K : PySem.W.Frag} {elts : List Expr} {kk : Nat} {tpos : Pos} (x : Str) (t : Tok) (e it : Addr) :
    Turn P w K (.Tuple elts kk tpos) (ItES x) [e, it] e (fun i h => (∃ old, IsEnum h e it ((i : Nat) : Int) old) ∧ h.IsStrIter it (strIterType x) x t i ∧ e ≠ it) where
  mem := by simp
  obj := fun i h st b hb => by
    obtain ⟨⟨old, he⟩, ⟨o, ho, hc, hd⟩, _⟩ := st
    have e' : b = e ∨ b = it := by simpa using hb
    cases e' with
    | inl z =>
      rw [z]
      exact ⟨_, he, fun v q => nomatch q⟩
    | inr z =>
      rw [z]
      exact ⟨o, ho, fun v q => by rw [hd] at q; cases q⟩
  keep := fun i h h' st k => by
    obtain ⟨⟨old, he⟩, ⟨o, ho, r⟩, hne⟩ := st
    exact ⟨⟨old, k e (by simp) _ he⟩, ⟨o, k it (by simp) o ho, r⟩, hne⟩
  item := by
    intro X hP hw hK hc i pins s σ H E I hf st hg
    subst hP hw hK
    obtain ⟨⟨old, he⟩, hit, hne⟩ := st
    have hel : e < s.heap.objs.size := Heap.lt_size he
    have hil : it < s.heap.objs.size := by
      obtain ⟨_, q, _⟩ := hit
      exact Heap.lt_size q
    have D := Draws.text (prog := X.prog) (w := X.w) (A := X.A.in1) (show X.A.in1.handled = none from I.ok.hd hc) it x t
    refine wpAny_pyNext_enum_itemD D he hit hg hne (by simpa using hne) fun u h' tk hu ho hit' hT hsz hk => ?_
    obtain ⟨c, t2, hcx, rfl⟩ := hu
    refine ⟨_, rfl, wpAny_letOwnedTupleGo_enum (s := { s with heap := h', toks := tk + 1 }) ho fun h'' he' sb => ?_⟩
    have hT2 := (sb.2 _ (Nat.ne_of_gt hel)).trans hT
    have new : ObjOk X.prog X.w (upd H s.heap.objs.size (.tup [.int (i : Nat), .str ⟨#[c]⟩])) h'' s.heap.objs.size (.tup [.int (i : Nat), .str ⟨#[c]⟩]) :=
      ⟨by show 2 ≤ sizeLine; decide, [.int i tk, .str ⟨#[c]⟩ t2], .cons ⟨_, rfl⟩ (.cons ⟨_, rfl⟩ .nil), ⟨_, hT2, rfl, _, rfl⟩⟩
    have I1 : Inv X pins σ (upd H s.heap.objs.size (.tup [.int (i : Nat), .str ⟨#[c]⟩])) { s with heap := h'', toks := tk + 1 } :=
      I.turnedNew (ch := [e, it]) (fun b ob hb q => (sb.2 b (fun z => hb (by simp [z]))).trans (hk b ob (fun z => hb (by simp [z])) (fun z => hb (by simp [z])) q)) hf (Nat.le_refl _) new
    obtain ⟨oi, hoi, ri⟩ := hit'
    refine ⟨.ref s.heap.objs.size, _, I1, rfl, ⟨_, c, rfl, I.hok.fresh (Nat.le_refl _), rfl, hcx⟩, ⟨⟨.str ⟨#[c]⟩ t2, ?_⟩, ⟨oi, (sb.2 it (Ne.symm hne)).trans hoi, ri⟩, hne⟩, fun b hb => ?_⟩
    · have e1 : ((i + 1 : Nat) : Int) = (i : Int) + 1 := by omega
      rw [e1]
      exact he'
    · have hb' : b < s.heap.objs.size := by
        have e' : b = e ∨ b = it := by simpa using hb
        cases e' with
        | inl z => rw [z]; exact hel
        | inr z => rw [z]; exact hil
      rw [upd_ne (Nat.ne_of_lt hb')]
      exact (hf b hb).1
  done := by
    intro X hP hw hK hc i pins s σ H E I hf st hg
    subst hP hw hK
    obtain ⟨⟨old, he⟩, hit, hne⟩ := st
    have hi : i = x.cps.size := hg
    subst hi
    obtain ⟨f0, f1, f2, f3, f4, f5⟩ := hf it (by simp)
    have D := Draws.text (prog := X.prog) (w := X.w) (A := X.A.in1) (show X.A.in1.handled = none from I.ok.hd hc) it x t
    exact wpAny_pyNext_enum_endD D he hit fun h' eb => ⟨rfl, I.turned (t' := s.toks) (fun b o hb q => eb b o hb q) f0 f1 f3 f4 f5⟩
  self := fun A i s Q E st h => by
    obtain ⟨⟨_, he⟩, _⟩ := st
    exact wpAny_pyIter_enum he h
def iEnumS (ta : TA) : TI := fun σ H R => ta σ H fun vs H1 => ∃ x, vs = [.str x] ∧ R (ItES x) H1
theorem pi_enumS {X : Cx} {e : Expr} {ta : TA} {p pos tpos : Pos} {elts : List Expr} {kk : Nat} (hg : Gl X "enumerate") (hm : X.mg "enumerate" = none) (ha : PA X [e] ta) (hs : starEach [e] X.env = [(false, eval e X.env)] := by rfl) :
    PI X (.Tuple elts kk tpos) (.Call (.Name "enumerate" p) [e] [] pos) (iEnumS ta) := by
  refine ⟨fun pins s σ H R I h => ?_⟩
  refine Call_ (ld_blt I hg hm boot_enumerate (PyProof.Rows.callWith_type1 (thn (ha.run pos pins s σ H _ I h) fun us s1 ⟨vs, H1, I1, r1, q1⟩ => ?_) hs rfl))
  obtain ⟨x, rfl, q⟩ := q1
  obtain ⟨u, rfl, t, rfl⟩ := vals1 r1
  refine call_enumerate_str fun h' he hit hsz hk => wpAny_pyIter_enum he ?_
  refine ⟨s1.heap.objs.size + 1, [s1.heap.objs.size + 1, s1.heap.objs.size], _, _, H1, rfl, I1.kept (t' := s1.toks) hk, turn_es x t (s1.heap.objs.size + 1) s1.heap.objs.size, ⟨⟨.none, he⟩, hit, Nat.succ_ne_self _⟩, fun b hb => ?_, q⟩
  have e' : b = s1.heap.objs.size + 1 ∨ b = s1.heap.objs.size := by simpa using hb
  have hle : s1.heap.objs.size ≤ b := by
    cases e' with
    | inl z => rw [z]; exact Nat.le_add_right _ _
    | inr z => rw [z]; exact Nat.le_refl _
  exact I1.fpOk hle (I1.hok.fresh hle)
theorem for_es {x : Str} {g : TG} {tb : TS} {D : Ends} {σ : L2.St} {H : Hp} (Pv : Nat → L2.St → Hp → Prop) (h0 : Pv 0 σ H)
    (hs : ∀ i c T σ H, x.cps[i]? = some c → Pv i σ H → H T = none → g (.ref T) σ (upd H T (.tup [.int (i : Nat), .str ⟨#[c]⟩])) fun σ2 H2 => tb { D with nx := Pv (i + 1), ct := Pv (i + 1), bk := D.nx } σ2 H2) (hd : ∀ σ H, Pv x.cps.size σ H → D.nx σ H) :
    ∃ W : Nat → Nat → L2.St → Hp → Prop, (∃ m, W 0 m σ H) ∧ ∀ i m σ H, W i m σ H →
      ((ItES x).stop i H ∧ D.nx σ H) ∨ ((ItES x).go i H ∧ ∃ N : L2.St → Hp → Prop, (∀ σ' H', N σ' H' → ∃ m', m' < m ∧ W (i + 1) m' σ' H') ∧ ∀ y H', (ItES x).yld i H y H' → g y σ H' fun σ2 H2 => tb { D with nx := N, ct := N, bk := D.nx } σ2 H2) := by
  refine ⟨fun i m σ H => m = x.cps.size - i ∧ i ≤ x.cps.size ∧ Pv i σ H, ⟨x.cps.size, by simp, Nat.zero_le _, h0⟩, ?_⟩
  rintro i m σ H ⟨rfl, hi, p⟩
  by_cases hlt : i < x.cps.size
  · refine .inr ⟨hlt, Pv (i + 1), fun σ' H' p' => ⟨x.cps.size - (i + 1), by omega, rfl, hlt, p'⟩, fun y H' z => ?_⟩
    obtain ⟨T, c, rfl, hT, rfl, hc⟩ := z
    exact hs i c T σ _ hc p hT
  · have e : i = x.cps.size := by omega
    subst e
    exact .inl ⟨rfl, hd σ H p⟩
theorem lc_es {x : Str} {g : TG} {tt : TT} {te : TE} {vs : List Nat} {σ : L2.St} {H1 : Hp} {D : Addr} {Qd : Hp → Prop} (Pv : Nat → Hp → Prop) (h0 : Pv 0 (upd H1 D (.lst [])))
    (hs : ∀ i c T H, x.cps[i]? = some c → Pv i H → H T = none → g (.ref T) (wipe σ vs) (upd H T (.tup [.int (i : Nat), .str ⟨#[c]⟩])) fun σ2 H2 => wipe σ2 vs = wipe σ vs ∧ tt σ2 H2 fun b H3 =>
      if b = true then te σ2 H3 fun y H4 => ∃ acc, H4 D = some (.lst acc) ∧ acc.length < sizeLine ∧ Pv (i + 1) (upd H4 D (.lst (acc ++ [y]))) else Pv (i + 1) H3) (hd : ∀ H, Pv x.cps.size H → Qd H) :
    ∃ W : Nat → Nat → Hp → Prop, (∃ m, W 0 m (upd H1 D (.lst []))) ∧ ∀ i m H, W i m H →
      ((ItES x).stop i H ∧ Qd H) ∨ ((ItES x).go i H ∧ ∃ Nx : Hp → Prop, (∀ H', Nx H' → ∃ m', m' < m ∧ W (i + 1) m' H') ∧ ∀ y H', (ItES x).yld i H y H' → g y (wipe σ vs) H' fun σ2 H2 => wipe σ2 vs = wipe σ vs ∧ tt σ2 H2 fun b H3 =>
        if b = true then te σ2 H3 fun y H4 => ∃ acc, H4 D = some (.lst acc) ∧ acc.length < sizeLine ∧ Nx (upd H4 D (.lst (acc ++ [y]))) else Nx H3) := by
  refine ⟨fun i m H => m = x.cps.size - i ∧ i ≤ x.cps.size ∧ Pv i H, ⟨x.cps.size, by simp, Nat.zero_le _, h0⟩, ?_⟩
  rintro i m H ⟨rfl, hi, p⟩
  by_cases hlt : i < x.cps.size
  · refine .inr ⟨hlt, Pv (i + 1), fun H' p' => ⟨x.cps.size - (i + 1), by omega, rfl, hlt, p'⟩, fun y H' z => ?_⟩
    obtain ⟨T, c, rfl, hT, rfl, hc⟩ := z
    exact hs i c T _ hc p hT
  · have e : i = x.cps.size := by omega
    subst e
    exact .inl ⟨rfl, hd H p⟩
/-! ### a text backwards: some text, no longer -/
def tRevS (te : TE) : TE := fun σ H Q => te σ H fun x H1 => ∃ z : Str, x = .str z ∧ z.length ≤ sizeLine ∧ ∀ y : Str, y.length ≤ z.length → (∀ c ∈ y.cps.toList, c ∈ z.cps.toList) → Q (.str y) H1
theorem sliceBy_mem (x : Str) (l u : Option (Int × Tok)) (st : Int × Tok) : ∀ c ∈ (Txt.sliceBy x l u st).cps.toList, c ∈ x.cps.toList := by
  intro c hc
  unfold Txt.sliceBy at hc
  split at hc
  · exact hc
  · have hc : c ∈ List.filterMap (x.cps[·]?) _ := hc
    obtain ⟨i, _, hi⟩ := List.mem_filterMap.mp hc
    exact Array.mem_toList_iff.mpr (Array.mem_of_getElem? hi)
theorem pe_revS {X : Cx} {e : Expr} {te : TE} {k : Nat} {p1 p2 p3 pos : Pos} (he : PE X e te) : PE X (.Subscript e (.Slice none none (some (.UnaryOp .USub (.Constant (.int 1) k p1) p2)) p3) pos) (tRevS te) := by
  refine ⟨fun pins s σ H Q I h => ?_⟩
  refine Subscript_ (thn (he.run pins s σ H _ I h) fun v s1 ⟨x, H1, I1, r1, q1⟩ => ?_)
  obtain ⟨z, rfl, hz, q⟩ := q1
  obtain ⟨t, rfl⟩ := r1
  have hst : PO X (some (.UnaryOp .USub (.Constant (.int 1) k p1) p2)) (tPart (tUn (rU fun i => .int (-i)) (tC (.int 1)))) := po_some (pe_un un_neg pe_int)
  refine wpAny_Slice (thn (po_none.run pins s1 σ H1 (fun o H2 => o = none ∧ H2 = H1) I1 ⟨rfl, rfl⟩) fun vl s2 ⟨l, H2, I2, pl, el, e2⟩ => ?_)
  subst el e2
  refine thn (po_none.run pins s2 σ H2 (fun o H3 => o = none ∧ H3 = H2) I2 ⟨rfl, rfl⟩) fun vu s3 ⟨u, H3, I3, pu, eu, e3⟩ => ?_
  subst eu e3
  refine thn (hst.run pins s3 σ H3 (fun o H4 => o = some (-1) ∧ H4 = H3) I3 ⟨1, rfl, -1, rfl, rfl, rfl⟩) fun vs s4 ⟨o, H4, I4, ps, eo, e4⟩ => ?_
  subst eo e4
  cases pl
  cases pu
  cases ps with
  | int i t5 =>
    refine tail_any (ops := [.str z t, .ref s4.heap.objs.size]) (typeIs_str _ _ _) (PySem.F.slot_str_getitem.lookup) ?_ (by with_unfolding_all rfl)
    refine wpAny_getItem_str_slice (l := none) (u := none) (st := some (-1, t5)) ⟨_, Heap.get?_push_size _ rfl, rfl, rfl⟩ rfl ?_
    refine post_val_or_str ⟨Nat.le_trans (Txt.sliceBy_le z none none (-1, t5) (show (-1 : Int) ≠ 0 by decide)) hz, fun t6 tk => ?_⟩
    exact ⟨.str _, H4, (I4.kept (t' := tk) fun b ob q => Heap.get?_push_of_some _ q), ⟨_, rfl⟩, q _ (Txt.sliceBy_le z none none (-1, t5) (show (-1 : Int) ≠ 0 by decide)) (sliceBy_mem z none none (-1, t5))⟩
end Pf


namespace Pf
open PySem PySem.Spec PyProof.Rows L2
/-! ### enumerate of a tuple -/
abbrev EnO (a : Addr) : Obj := { cls := .type "enumerate", data := .fields #[.none, .bool false, .ref a, rawInt 0, .none, .none] }
theorem meets_en1 {u : Value} {ob : Obj} {G : Heap → Prop} (B : Begins u ob G) : Meets (Builtin.«enumerate.__new__» ⟨[.type "enumerate", u], []⟩) (fun _ R s => G s.heap ∧ R (.ok (.ret (.ref (s.heap.push ob).objs.size))) { s with heap := (s.heap.push ob).push (EnO s.heap.objs.size) }) :=
  .of_wp fun prog w A R s z => by
    obtain ⟨hp, g, d, tk, os⟩ := s
    obtain ⟨z1, z⟩ := z
    have hse := sub_enumerate
    have q : ∀ {A' : Around} {E : Value → Shared → Prop} {Q : Value → Shared → Prop}, Q (.ref hp.objs.size) ⟨hp.push ob, g, d, tk, os⟩ → wpAny (model prog w) A' (pyIter u) Q E ⟨hp, g, d, tk, os⟩ := fun r => B.iter prog w _ _ ⟨hp, g, d, tk, os⟩ _ z1 r
    wp_walk using q
    refine wpAny_stack_any fun sk => wpAny_pure ?_
    split
    · rename_i c _ _ _ _ _
      cases ec : (c == Value.type "enumerate")
      · wp_walk using q
        exact ⟨_, rfl, z⟩
      · wp_walk using q
        exact ⟨_, rfl, z⟩
    · wp_walk using q
      exact ⟨_, rfl, z⟩
theorem en1_begins {P : Program} {w : World} {A : Around} {E : Value → Shared → Prop} {s : Shared} {u : Value} {ob : Obj} {G : Heap → Prop} {Q : Value → Shared → Prop} (B : Begins u ob G) (z1 : G s.heap)
    (z : ∀ h', IsEnum h' (s.heap.objs.size + 1) s.heap.objs.size 0 .none → h'.get? s.heap.objs.size = some ob → h'.objs.size = s.heap.objs.size + 2 → (∀ b o, s.heap.get? b = some o → h'.get? b = some o) → Q (.ref (s.heap.objs.size + 1)) { s with heap := h' }) :
    wpAny (model P w) A (call (.type "enumerate") [u]) Q E s := by
  refine callType_new F.called_enumerate (by decide) (F.typeCall_enumerate_1 _) (F.newCall_enumerate_1 _) (fun obj => F.args_object_init_2 obj _) F.entry_enumerate_new (meets_en1 B) ⟨z1, ?_⟩
  have e1 : (s.heap.push ob).objs.size = s.heap.objs.size + 1 := Heap.size_push ..
  show _ ∧ _
  rw [e1]
  have hen : IsEnum ((s.heap.push ob).push (EnO s.heap.objs.size)) (s.heap.objs.size + 1) s.heap.objs.size 0 .none := by
    have := Heap.get?_push_size (s.heap.push ob) (o := EnO s.heap.objs.size) rfl
    rw [e1] at this
    exact this
  exact ⟨⟨_, hen, rfl⟩, z _ hen (Heap.get?_push_of_some _ (Heap.get?_push_size _ B.free)) (by rw [Heap.size_push, e1]) fun b o y => Heap.get?_push_of_some _ (Heap.get?_push_of_some _ y)⟩
def ItET (K : PySem.W.Frag) (a : Addr) : It :=
  ⟨fun i H => ∃ (xs : List V) (x : V), SqT K H a xs ∧ xs[i]? = some x, fun i H v H' => ∃ T x, v = .ref T ∧ H T = none ∧ H' = upd H T (.tup [.int (i : Nat), x]) ∧ ∀ xs, SqT K H a xs → xs[i]? = some x, fun i H => ∃ xs : List V, SqT K H a xs ∧ xs.length = i⟩
theorem turn_et {P : Program} {w : World} {K : PySem.W.Frag} {elts : List Expr} {kk : Nat} {tpos : Pos} (a e it : Addr) :
    Turn P w K (.Tuple elts kk tpos) (ItET K a) [e, it] e (fun i h => (∃ old, IsEnum h e it ((i : Nat) : Int) old) ∧ h.IsTupleIter it a i ∧ e ≠ it ∧ e ≠ a ∧ a ≠ it) where
  mem := by simp
  obj := fun i h st b hb => by
    obtain ⟨⟨old, he⟩, ⟨o, ho, hc, hd⟩, _⟩ := st
    have e' : b = e ∨ b = it := by simpa using hb
    cases e' with
    | inl z =>
      rw [z]
      exact ⟨_, he, fun v q => nomatch q⟩
    | inr z =>
      rw [z]
      exact ⟨o, ho, fun v q => by rw [hd] at q; cases q⟩
  keep := fun i h h' st k => by
    obtain ⟨⟨old, he⟩, ⟨o, ho, r⟩, hne⟩ := st
    exact ⟨⟨old, k e (by simp) _ he⟩, ⟨o, k it (by simp) o ho, r⟩, hne⟩
  item := by
    intro X hP hw hK hc i pins s σ H E I hf st hg
    subst hP hw hK
    obtain ⟨⟨old, he⟩, hit, hne, hea, hai⟩ := st
    obtain ⟨xs, x, hq, hx⟩ := hg
    obtain ⟨its, rv, pt, hz⟩ := I.tuple hq
    obtain ⟨u, hu, ru⟩ := rv.get hx
    have hel : e < s.heap.objs.size := Heap.lt_size he
    have hil : it < s.heap.objs.size := by
      obtain ⟨_, q, _⟩ := hit
      exact Heap.lt_size q
    have hti : s.heap.IsTuple a its.toArray := pt
    have D := Draws.tuple (prog := X.prog) (w := X.w) (A := X.A.in1) (show X.A.in1.handled = none from I.ok.hd hc) it a hai its.toArray
    refine wpAny_pyNext_enum_itemD D he ⟨hit, hti⟩ (by have := (List.getElem?_eq_some_iff.mp hu).1; simpa using this) hne (by simp [hne, hea]) fun y h' tk hy ho hit' hT hsz hk => ?_
    have ey : y = u := by
      have h2 : its[i]? = some y := by simpa using hy
      rw [hu] at h2
      exact (Option.some.inj h2).symm
    subst ey
    refine ⟨_, rfl, wpAny_letOwnedTupleGo_enum (s := { s with heap := h', toks := tk + 1 }) ho fun h'' he' sb => ?_⟩
    have hT2 := (sb.2 _ (Nat.ne_of_gt hel)).trans hT
    have new : ObjOk X.prog X.w (upd H s.heap.objs.size (.tup [.int (i : Nat), x])) h'' s.heap.objs.size (.tup [.int (i : Nat), x]) :=
      ⟨by show 2 ≤ sizeLine; decide, [.int i tk, y], .cons ⟨_, rfl⟩ (.cons ru .nil), ⟨_, hT2, rfl, _, rfl⟩⟩
    have I1 : Inv X pins σ (upd H s.heap.objs.size (.tup [.int (i : Nat), x])) { s with heap := h'', toks := tk + 1 } :=
      I.turnedNew (ch := [e, it]) (fun b ob hb q => (sb.2 b (fun z => hb (by simp [z]))).trans (hk b ob (fun z => hb (by simp [z])) (fun z => hb (by simp [z])) q)) hf (Nat.le_refl _) new
    obtain ⟨oi, hoi, ri⟩ := hit'.1
    refine ⟨.ref s.heap.objs.size, _, I1, rfl, ⟨_, x, rfl, I.hok.fresh (Nat.le_refl _), rfl, fun ys hy => by rw [I.tuple_inj hy hq]; exact hx⟩, ⟨⟨y, ?_⟩, ⟨oi, (sb.2 it (Ne.symm hne)).trans hoi, ri⟩, hne, hea, hai⟩, fun b hb => ?_⟩
    · have e1 : ((i + 1 : Nat) : Int) = (i : Int) + 1 := by omega
      rw [e1]
      exact he'
    · have hb' : b < s.heap.objs.size := by
        have e' : b = e ∨ b = it := by simpa using hb
        cases e' with
        | inl z => rw [z]; exact hel
        | inr z => rw [z]; exact hil
      rw [upd_ne (Nat.ne_of_lt hb')]
      exact (hf b hb).1
  done := by
    intro X hP hw hK hc i pins s σ H E I hf st hg
    subst hP hw hK
    obtain ⟨⟨old, he⟩, hit, hne, hea, hai⟩ := st
    obtain ⟨xs, hq, hx⟩ := hg
    obtain ⟨its, rv, pt, hz⟩ := I.tuple hq
    have hln := rv.length
    obtain ⟨f0, f1, f2, f3, f4, f5⟩ := hf it (by simp)
    have hti : s.heap.IsTuple a its.toArray := pt
    have D := Draws.tuple (prog := X.prog) (w := X.w) (A := X.A.in1) (show X.A.in1.handled = none from I.ok.hd hc) it a hai its.toArray
    have ei : its.toArray.size = i := by
      rw [List.size_toArray]
      omega
    exact wpAny_pyNext_enum_endD D he ⟨by rw [ei]; exact hit, hti⟩ fun h' eb => ⟨rfl, I.turned (t' := s.toks) (fun b o hb q => eb b o hb q) f0 f1 f3 f4 f5⟩
  self := fun A i s Q E st h => by
    obtain ⟨⟨_, he⟩, _⟩ := st
    exact wpAny_pyIter_enum he h
def iEnumT (K : PySem.W.Frag) (ta : TA) : TI := fun σ H R => ta σ H fun vs H1 => ∃ a xs, vs = [.ref a] ∧ SqT K H1 a xs ∧ R (ItET K a) H1
theorem pi_enumT {X : Cx} {e : Expr} {ta : TA} {p pos tpos : Pos} {elts : List Expr} {kk : Nat} (hg : Gl X "enumerate") (hm : X.mg "enumerate" = none) (ha : PA X [e] ta) (hs : starEach [e] X.env = [(false, eval e X.env)] := by rfl) :
    PI X (.Tuple elts kk tpos) (.Call (.Name "enumerate" p) [e] [] pos) (iEnumT X.K ta) := by
  refine ⟨fun pins s σ H R I h => ?_⟩
  refine Call_ (ld_blt I hg hm boot_enumerate (PyProof.Rows.callWith_type1 (thn (ha.run pos pins s σ H _ I h) fun us s1 ⟨vs, H1, I1, r1, q1⟩ => ?_) hs rfl))
  obtain ⟨a, xs, rfl, hq, q⟩ := q1
  obtain ⟨u, rfl, er⟩ := vals1 r1
  cases er
  obtain ⟨its, rv, pt, hz⟩ := I1.tuple hq
  have hti : s1.heap.IsTuple a its.toArray := pt
  have hal : a < s1.heap.objs.size := by
    obtain ⟨_, q, _⟩ := hti
    exact Heap.lt_size q
  refine en1_begins (begins_tuple a its.toArray) hti fun h' he hit hsz hk => wpAny_pyIter_enum he ?_
  refine ⟨s1.heap.objs.size + 1, [s1.heap.objs.size + 1, s1.heap.objs.size], _, _, H1, rfl, I1.kept (t' := s1.toks) hk, turn_et a (s1.heap.objs.size + 1) s1.heap.objs.size, ⟨⟨.none, he⟩, ⟨_, hit, rfl, rfl⟩, Nat.succ_ne_self _, Nat.ne_of_gt (Nat.lt_succ_of_lt hal), Nat.ne_of_lt hal⟩, fun b hb => ?_, q⟩
  have e' : b = s1.heap.objs.size + 1 ∨ b = s1.heap.objs.size := by simpa using hb
  have hle : s1.heap.objs.size ≤ b := by
    cases e' with
    | inl z => rw [z]; exact Nat.le_add_right _ _
    | inr z => rw [z]; exact Nat.le_refl _
  exact I1.fpOk hle (I1.hok.fresh hle)
theorem walk_et {K : PySem.W.Frag} {a : Addr} {xs : List V} : Walk (ItET K a) xs.length (fun H => SqT K H a xs) (YPair (fun i => some (.int (i : Nat))) (fun i => xs[i]?)) :=
  ⟨fun i H hi q => ⟨xs, _, q, List.getElem?_eq_getElem hi⟩, fun H q => ⟨xs, q, rfl⟩, fun i H x H' hi q ⟨T, y, e1, e2, e3, e4⟩ => ⟨T, _, y, e1, e2, e3, rfl, e4 xs q⟩⟩
theorem walk_zt {K : PySem.W.Frag} {a b : Addr} {xs ys : List V} {n : Nat} (hn : n = min xs.length ys.length) : Walk (RZ.ItzT K a b) n (fun H => SqT K H a xs ∧ SqT K H b ys) (YPair (fun i => xs[i]?) (fun i => ys[i]?)) := by
  subst hn
  refine ⟨fun i H hi q => ⟨xs, ys, _, _, q.1, q.2, List.getElem?_eq_getElem (by omega), List.getElem?_eq_getElem (by omega)⟩, fun H q => ⟨xs, ys, q.1, q.2, by omega⟩, fun i H x H' hi q ⟨T, y, z, e1, e2, e3, e4, e5⟩ => ⟨T, y, z, e1, e2, e3, e4 xs q.1, e5 ys q.2⟩⟩
/-! ### two fors in a comprehension -/
def LcIn (J1 : It) (g1 : TG) (tt1 : TT) (te : TE) (vs1 : List Nat) (σ2 : L2.St) (D : Addr) (H4 : Hp) (Nx : Hp → Prop) : Prop := ∃ W1 : Nat → Nat → Hp → Prop, (∃ m, W1 0 m H4) ∧ ∀ j k H, W1 j k H →
  (J1.stop j H ∧ Nx H) ∨ (J1.go j H ∧ ∃ Nx1 : Hp → Prop, (∀ H', Nx1 H' → ∃ k', k' < k ∧ W1 (j + 1) k' H') ∧ ∀ x H', J1.yld j H x H' → g1 x (wipe σ2 vs1) H' fun σ3 H5 => wipe σ3 vs1 = wipe σ2 vs1 ∧ tt1 σ3 H5 fun b H6 => if b = true then te σ3 H6 fun y H7 => ∃ acc, H7 D = some (.lst acc) ∧ acc.length < sizeLine ∧ Nx1 (upd H7 D (.lst (acc ++ [y]))) else Nx1 H6)
theorem lc_in {J1 : It} {n : Nat} {G : Hp → Prop} {Y : Nat → Hp → V → Hp → Prop} (w : Walk J1 n G Y) {g1 : TG} {tt1 : TT} {te : TE} {vs1 : List Nat} {σ2 : L2.St} {D : Addr} {H4 : Hp} {Nx : Hp → Prop} (Pv : Nat → Hp → Prop) (h0 : Pv 0 H4) (hG : ∀ i H, i ≤ n → Pv i H → G H)
    (hs : ∀ i x H H', i < n → Pv i H → Y i H x H' → g1 x (wipe σ2 vs1) H' fun σ3 H5 => wipe σ3 vs1 = wipe σ2 vs1 ∧ tt1 σ3 H5 fun b H6 => if b = true then te σ3 H6 fun y H7 => ∃ acc, H7 D = some (.lst acc) ∧ acc.length < sizeLine ∧ Pv (i + 1) (upd H7 D (.lst (acc ++ [y]))) else Pv (i + 1) H6)
    (hd : ∀ H, Pv n H → Nx H) : LcIn J1 g1 tt1 te vs1 σ2 D H4 Nx := by
  refine ⟨fun i m H => m = n - i ∧ i ≤ n ∧ Pv i H, ⟨n, rfl, Nat.zero_le _, h0⟩, ?_⟩
  rintro i m H ⟨rfl, hi, pv⟩
  have hq := hG i H hi pv
  by_cases hlt : i < n
  · exact .inr ⟨w.goes i H hlt hq, Pv (i + 1), fun H' p' => ⟨n - (i + 1), by omega, rfl, hlt, p'⟩, fun x H' y => hs i x H H' hlt pv (w.yields i H x H' hlt hq y)⟩
  · obtain rfl : i = n := by omega
    exact .inl ⟨w.stops H hq, hd H pv⟩
theorem lc_two {J : It} {n : Nat} {G : Hp → Prop} {Y : Nat → Hp → V → Hp → Prop} (w : Walk J n G Y) {g : TG} {tt : TT} {wi1 : TI} {g1 : TG} {tt1 : TT} {te : TE} {vs vs1 : List Nat} {σ : L2.St} {H1 : Hp} {D : Addr} {Qd : Hp → Prop} (Pv : Nat → Hp → Prop) (h0 : Pv 0 (upd H1 D (.lst []))) (hG : ∀ i H, i ≤ n → Pv i H → G H)
    (hs : ∀ i x H H', i < n → Pv i H → Y i H x H' → g x (wipe σ vs) H' fun σ2 H2 => wipe σ2 vs = wipe σ vs ∧ tt σ2 H2 fun b H3 => if b = true then wi1 σ2 H3 fun J1 H4 => LcIn J1 g1 tt1 te vs1 σ2 D H4 (Pv (i + 1)) else Pv (i + 1) H3)
    (hd : ∀ H, Pv n H → Qd H) :
    ∃ W : Nat → Nat → Hp → Prop, (∃ m, W 0 m (upd H1 D (.lst []))) ∧ ∀ i m H, W i m H → (J.stop i H ∧ Qd H) ∨ (J.go i H ∧ ∃ Nx : Hp → Prop, (∀ H', Nx H' → ∃ m', m' < m ∧ W (i + 1) m' H') ∧ ∀ x H', J.yld i H x H' → g x (wipe σ vs) H' fun σ2 H2 => wipe σ2 vs = wipe σ vs ∧ tt σ2 H2 fun b H3 =>
      if b = true then wi1 σ2 H3 fun J1 H4 => LcIn J1 g1 tt1 te vs1 σ2 D H4 Nx else Nx H3) := by
  refine ⟨fun i m H => m = n - i ∧ i ≤ n ∧ Pv i H, ⟨n, rfl, Nat.zero_le _, h0⟩, ?_⟩
  rintro i m H ⟨rfl, hi, pv⟩
  have hq := hG i H hi pv
  by_cases hlt : i < n
  · exact .inr ⟨w.goes i H hlt hq, Pv (i + 1), fun H' p' => ⟨n - (i + 1), by omega, rfl, hlt, p'⟩, fun x H' y => hs i x H H' hlt pv (w.yields i H x H' hlt hq y)⟩
  · obtain rfl : i = n := by omega
    exact .inl ⟨w.stops H hq, hd H pv⟩
/-! ### tuples of numbers compared; truths by identity -/
theorem ltT (K : PySem.W.Frag) {X : Cx} (hu : X.A.units < cLine) (h : X.K = K := by rfl) : OpR X (compareOp .Lt) (rLtT K) := h ▸ op_ltT hu
theorem lex2 (a b c d : Int) : HT.lexLt [a, b] [c, d] = decide (a < c ∨ (a = c ∧ b < d)) := by
  rw [HT.lexLt_cons, HT.lexLt_cons, HT.lexLt_nil_nil]
  by_cases e : a = c
  · rw [if_pos e]
    by_cases e2 : b = d
    · rw [if_pos e2]
      exact (decide_eq_false (by omega)).symm
    · rw [if_neg e2]
      exact decide_eq_decide.mpr (by omega)
  · rw [if_neg e]
    exact decide_eq_decide.mpr (by omega)
/-! ### parts of tuples -/
theorem piT (K : PySem.W.Frag) {X : Cx} {tg l : Expr} {tl : TE} (hl : PE X l tl) (h : X.K = K := by rfl) : PI X tg l (iTup K tl) := by
  subst h
  exact pi_tup hl
theorem piL (K : PySem.W.Frag) {X : Cx} {tg l : Expr} {tl : TE} (hl : PE X l tl) (h : X.K = K := by rfl) : PI X tg l (iList K tl) := by
  subst h
  exact pi_list hl
/-- a part of a tuple: the same one, or another -/
def rSlE (K : PySem.W.Frag) : V → Option Int → Option Int → Hp → VK → Prop := fun x lo hi H Q => ∃ a xs, x = .ref a ∧ H a = some (.tup xs) ∧ ∀ p H', Ext H H' → H' p = some (.tup (cutV xs lo hi)) → Q (.ref p) H'
theorem slE (K : PySem.W.Frag) {X : Cx} (h : X.K = K := by rfl) : SlR X (rSlE K) := fun pins s σ H x v vl vu lo hi sl Q I rx hs pl pu ⟨a, xs, ex, ha, q⟩ => by
  refine slA K h pins s σ H x v vl vu lo hi sl Q I rx hs pl pu ⟨a, xs, ex, SqT.of ha, fun z => ?_, fun _ p hp => q p _ (Ext.new hp) upd_same⟩
  refine q a H Ext.refl ?_
  have e : cutV xs lo hi = xs := by
    unfold cutV
    rw [z.1, z.2, List.drop_zero, Nat.sub_zero, List.take_length]
  rw [e]
  exact ha
theorem cut_from {xs : List V} {k : Nat} : cutV xs (some (k : Int)) none = xs.drop k := by
  unfold cutV
  have e1 : HT.sIx xs.length 0 (some (k : Int)) = min k xs.length := HT.sIx_nat _ _ _
  have e2 : HT.sIx xs.length xs.length none = xs.length := rfl
  rw [e1, e2, List.take_of_length_le (by rw [List.length_drop]; omega)]
  by_cases h : k ≤ xs.length
  · rw [Nat.min_eq_left h]
  · rw [Nat.min_eq_right (by omega), List.drop_length, List.drop_eq_nil_of_le (by omega)]
theorem cut_to {xs : List V} {k : Nat} : cutV xs none (some (k : Int)) = xs.take k := by
  unfold cutV
  have e1 : HT.sIx xs.length 0 none = 0 := rfl
  have e2 : HT.sIx xs.length xs.length (some (k : Int)) = min k xs.length := HT.sIx_nat _ _ _
  rw [e1, e2, List.drop_zero, Nat.sub_zero]
  by_cases h : k ≤ xs.length
  · rw [Nat.min_eq_left h]
  · rw [Nat.min_eq_right (by omega), List.take_length, List.take_of_length_le (by omega)]
theorem paired_take {α β : Type} {R : α → β → Prop} : ∀ {xs : List α} {ys : List β} (k : Nat), Paired R xs ys → Paired R (xs.take k) (ys.take k)
  | _, _, 0, _ => by rw [List.take_zero, List.take_zero]; exact .nil
  | _, _, k + 1, .nil => by rw [List.take_nil, List.take_nil]; exact .nil
  | _, _, k + 1, .cons r t => by rw [List.take_succ_cons, List.take_succ_cons]; exact .cons r (paired_take k t)
theorem paired_drop {α β : Type} {R : α → β → Prop} : ∀ {xs : List α} {ys : List β} (k : Nat), Paired R xs ys → Paired R (xs.drop k) (ys.drop k)
  | _, _, 0, h => by rw [List.drop_zero, List.drop_zero]; exact h
  | _, _, k + 1, .nil => by rw [List.drop_nil, List.drop_nil]; exact .nil
  | _, _, k + 1, .cons r t => by rw [List.drop_succ_cons, List.drop_succ_cons]; exact paired_drop k t
/-- two tuples put together: one of them, or another -/
def rCatE (K : PySem.W.Frag) : R2 := fun x y H Q => ∃ a b xs ys, x = .ref a ∧ y = .ref b ∧ H a = some (.tup xs) ∧ H b = some (.tup ys) ∧ xs.length + ys.length ≤ sizeLine ∧ ∀ p H', Ext H H' → H' p = some (.tup (xs ++ ys)) → Q (.ref p) H'
theorem catE (K : PySem.W.Frag) {X : Cx} (h : X.K = K := by rfl) : OpR X (binaryOp .Add) (rCatE K) := fun pins s σ H x y v u Q I rx ry ⟨a, b, xs, ys, ex, ey, ha, hb, hz, q⟩ => by
  refine catA K h pins s σ H x y v u Q I rx ry ⟨a, b, xs, ys, ex, ey, SqT.of ha, SqT.of hb, hz, fun z => ?_, fun _ z => ?_, fun _ _ p hp => q p _ (Ext.new hp) upd_same⟩
  · exact q b H Ext.refl (by rw [z]; exact hb)
  · exact q a H Ext.refl (by rw [z, List.append_nil]; exact ha)
end Pf


namespace Pf
open PySem PySem.Spec PyProof.Rows L2
/-! ### sorting tuples, the first of them empty -/
section
open PySem.W PySem.SeqAt PySem.Calls
variable {prog : Program} {w : World} {A : Around} {E : Value → Shared → Prop} {s : Shared}
theorem tup_lt1 {Q : Bool → Shared → Prop} {a b : Value} {xs ys : List PyData} {as bs : List Addr} (ra : Reads s.heap a (.tuple xs) as) (rb : Reads s.heap b (.tuple ys) bs) (hal : alikeAll xs ys = true)
    (hu : A.units + min (PyData.tuple xs).depth (PyData.tuple ys).depth < cLine) (hq : Q (dataLt (.tuple xs) (.tuple ys)) s) : wpAny (model prog w) A (oneLt' true a b) Q E s := by
  cases ra with
  | @tuple l o vs n _ as₁ h1 h2 h3 h4 =>
    cases rb with
    | @tuple m p ws k _ bs₁ g1 g2 g3 g4 =>
      have z1 : vs.size = xs.length := by simpa using ReadsAll.length _ _ _ h4
      have z2 : ws.size = ys.length := by simpa using ReadsAll.length _ _ _ g4
      rw [dataLt_tuple, ← firstLt_toks xs ys hal, ← z1, ← z2] at hq
      obtain ⟨ocls, odd, odata, osl⟩ := o
      obtain ⟨pcls, pdd, pdata, psl⟩ := p
      simp only at h2 h3 g2 g3
      subst h2 h3 g2 g3
      rw [oneLt'_eq]
      simp only [if_true]
      refine wpAny_bind (wpAny_cRoomFor (room_here hu) (wpAny_bind (wpAny_callSpecialIfBound?_slot (T := "tuple") ⟨_, h1, rfl⟩ F.slot_tuple_lt ?_)))
      refine call_meets F.slot_tuple_lt ⟨_, h1, rfl⟩ F.entry_tuple_lt (F.args_tuple_lt_2 _ _) (tuple_ltAt l m vs ws n k odd pdd osl psl (pairEq xs ys) (fun j => dataLt (xs.getD j .none) (ys.getD j .none))) ⟨h1, g1, fun j j1 j2 => ?_, fun j j1 j2 hj => ?_, wpAny_truthy_bool hq⟩
      · have y := eqAt_alikeAll xs ys A.in1 s vs.toList ws.toList _ _ h4 g4 hal (room_in hu) j (by simpa using j1) (by simpa using j2)
        simpa using y
      · have y := rcLt_alikeAll xs ys A.in1 s vs.toList ws.toList _ _ h4 g4 hal (room_in hu) j (by simpa using j1) (by simpa using j2) hj
        simpa using y
theorem ft_at {M : Model} {v : Value} {ds : List PyData} {as : List Addr} (r : Reads s.heap v (.tuple ds) as) : ∃ f : Option Value, (ds = [] → f = none) ∧ ∀ Q : Option Value → Shared → Prop, Q f s → wpAny M A (firstOfTuple' v) Q E s := by
  cases r with
  | @tuple a o xs n _ _ ho hc hd hr =>
    refine ⟨xs[0]?, fun e => ?_, fun Q q => ?_⟩
    · subst e
      cases q : xs.toList with
      | nil =>
        rw [← Array.getElem?_toList, q]
        rfl
      | cons f fr =>
        rw [q] at hr
        cases hr
    · rw [kas_first_eq]
      refine wpAny_bind (Looks.here (show Looks M s.heap (typeOf (.ref a)) o.cls from (Looks.ld ho).andThen .now) ?_)
      rw [hc, if_neg (by simp)]
      exact wpAny_bind (listItems_at ho hd (wpAny_pure q))
theorem fts_at {M : Model} : ∀ {vs : List Value} {ds : List PyData}, EachIs (fun v d => ∃ as, Reads s.heap v d as) vs ds → (∀ d ∈ ds, ∃ xs, d = .tuple xs) → ∃ fs : List (Option Value), (∀ r, ds = .tuple [] :: r → ∃ t, fs = none :: t) ∧ ∀ Q : List (Option Value) → Shared → Prop, Q fs s → wpAny M A (vs.mapM firstOfTuple') Q E s
  | _, _, .nil, _ => ⟨[], (fun r z => by cases z), fun Q q => by rw [List.mapM_nil]; exact wpAny_pure q⟩
  | _, _, .cons (b := d) ⟨as, r⟩ t, ht => by
    obtain ⟨fs, _, h2⟩ := fts_at (M := M) t fun d hd => ht d (List.mem_cons_of_mem _ hd)
    obtain ⟨xs, rfl⟩ := ht d (List.mem_cons_self ..)
    obtain ⟨f, e1, e2⟩ := ft_at (M := M) (A := A) (E := E) r
    refine ⟨f :: fs, fun r z => ⟨fs, ?_⟩, fun Q q => ?_⟩
    · injection z with z _
      injection z with z
      rw [e1 z]
    · rw [List.mapM_cons]
      exact wpAny_bind (e2 _ (wpAny_bind (h2 _ (wpAny_pure q))))
theorem kind_empt {M : Model} {vs : List Value} {ds : List PyData} {Q : SortKind → Shared → Prop} (e : EachIs (fun v d => ∃ as, Reads s.heap v d as) vs (.tuple [] :: ds)) (ht : ∀ d ∈ PyData.tuple [] :: ds, ∃ xs, d = .tuple xs) (q : Q oneType' s) : wpAny M A (keyKind' vs.toArray) Q E s := by
  obtain ⟨fs, h1, h2⟩ := fts_at (M := M) (A := A) (E := E) e ht
  obtain ⟨t, rfl⟩ := h1 ds rfl
  obtain ⟨v0, vr, rfl⟩ : ∃ v0 vr, vs = v0 :: vr := by
    cases e with
    | cons z zs => exact ⟨_, _, rfl⟩
  rw [keyKind'_eq, List.mapM_toArray, map_eq_pure_bind]
  refine wpAny_bind (wpAny_bind (h2 _ (wpAny_pure ?_)))
  rw [if_neg (by simp), if_neg (by simp), oneTypeOnly'_eq, List.mapM_toArray, map_eq_pure_bind]
  refine wpAny_bind (wpAny_bind (wpAny_bind (kas_mapM (r := Value.type "tuple") _ (fun v hv Q' hq => ?_) (wpAny_pure ?_))))
  · obtain ⟨d, hd, as, r⟩ := e.left v hv
    obtain ⟨xs, rfl⟩ := ht d hd
    exact (looks_reads r).here hq
  · have h0 : (List.map (fun _ => Value.type "tuple") (v0 :: vr)).toArray[0]? = some (Value.type "tuple") := by simp
    rw [h0]
    have ha : ((List.map (fun _ : Value => Value.type "tuple") (v0 :: vr)).toArray.all fun x => x == Value.type "tuple") = true := by
      simp only [List.all_toArray, List.all_map, List.all_eq_true]
      intro _ _
      rfl
    simp only [ha, if_true]
    exact wpAny_pure (wpAny_pure q)
theorem sorts_empt {vs : List Value} {ds : List PyData} (e : EachIs (fun v d => ∃ as, Reads s.heap v d as) vs (.tuple [] :: ds)) (hal : AllAlike (.tuple [] :: ds)) (ht : ∀ d ∈ PyData.tuple [] :: ds, ∃ xs, d = .tuple xs) (hu : ∀ d ∈ PyData.tuple [] :: ds, A.units + d.depth < cLine) : SortsAt prog w A s (dataKind s.heap (.tuple [] :: ds)) vs := by
  refine ⟨fun v hv => ?_, oneType', ?_, fun h2 E Q hq => kind_empt e ht hq⟩
  · obtain ⟨d, hd, as, r⟩ := e.left v hv
    exact ⟨_, dataKind_some hal hd r⟩
  · intro E x y a b Q ha hb hq
    obtain ⟨d, as, hd, ra, rfl⟩ := dataKind_inv ha
    obtain ⟨d', as', hd', rb, rfl⟩ := dataKind_inv hb
    have hdd := hal d hd d' hd'
    have hroom : A.units + min d.depth d'.depth < cLine := Nat.lt_of_le_of_lt (Nat.add_le_add_left (Nat.min_le_left _ _) _) (hu d hd)
    obtain ⟨xs, rfl⟩ := ht d hd
    obtain ⟨ys, rfl⟩ := ht d' hd'
    rw [keyLt'_oneType]
    exact tup_lt1 ra rb (by simpa [alike] using hdd) hroom hq
theorem sorted_empt {β : Type} {vs : List Value} {bs : List β} {enc : β → PyData} {R : Value → β → Prop} {l : Addr} {r : List PyData} {Q : Value → Shared → Prop} (hl : s.heap.IsList l vs.toArray) (e : EachIs R vs bs) (er : EachIs (fun v b => ∃ as, Reads s.heap v (enc b) as) vs bs) (hal : AllAlike (bs.map enc)) (h0 : bs.map enc = .tuple [] :: r) (ht : ∀ d ∈ bs.map enc, ∃ xs, d = .tuple xs) (hL : bs.length ≤ sizeLine)
    (hu : ∀ b, b ∈ bs → A.units + 2 + (enc b).depth < cLine) (h : ∀ out, out.length = bs.length → EachIs R out (bs.mergeSort (dataLe false enc)) → Q (.ref (s.heap.objs.size + 1)) { s with heap := sortedAll s.heap vs (List.toArray out) }) :
    wpAny (model prog w) A (call (.builtin "sorted") [.ref l]) Q E s := by
  have er2 : EachIs (fun v b => ∃ as, Reads (sortingHeap (copyHeap s.heap vs) (s.heap.objs.size + 1) vs) v (enc b) as) vs bs := er.mono fun _ _ ⟨as, z⟩ => ⟨as, PyProof.Rows.Reads.keeps (fun _ _ => sorting_copy_old) z⟩
  have em := each_map (R := fun v d => ∃ as, Reads (sortingHeap (copyHeap s.heap vs) (s.heap.objs.size + 1) vs) v d as) enc er2
  have bm := bound_map (A := A.in1.in1) (bs := bs) (enc := enc) hu
  have S : SortsAt prog w A.in1.in1 { s with heap := sortingHeap (copyHeap s.heap vs) (s.heap.objs.size + 1) vs } (dataKind (sortingHeap (copyHeap s.heap vs) (s.heap.objs.size + 1) vs) (bs.map enc)) vs := by
    rw [h0] at em bm ht hal ⊢
    exact sorts_empt (s := { s with heap := sortingHeap (copyHeap s.heap vs) (s.heap.objs.size + 1) vs }) em hal ht bm
  exact sorted_vals hl S (by rw [e.length]; exact hL) (h _ (by rw [sortVals_length false rfl]; exact e.length) (sortVals_data false e er2 hal))
end
/-- sorted of tuples, the first of them empty -/
def rSortE (K : PySem.W.Frag) : List V → Hp → VK → Prop := fun vs H Q => ∃ (β : Type) (v : β → V) (d : β → PyData) (a : Addr) (bs : List β) (r : List PyData), vs = [.ref a] ∧ SqL K H a (bs.map v) ∧ (∀ b ∈ bs, Dp K H (v b) (d b) ∧ (d b).depth ≤ 50) ∧
  PySem.W.AllAlike (bs.map d) ∧ bs.map d = .tuple [] :: r ∧ (∀ e ∈ bs.map d, ∃ xs, e = .tuple xs) ∧ ∀ p, H p = none → Q (.ref p) (upd H p (.lst ((bs.mergeSort (PySem.W.dataLe false d)).map v)))
theorem cr_sortE (K : PySem.W.Frag) {X : Cx} (hu : X.A.units + 64 < cLine) (hK : X.K = K := by rfl) : CallR X (.builtin "sorted") (rSortE K) := by
  subst hK
  intro pins s σ H vs us Q I r h
  obtain ⟨β, v, d, a, bs, rd, rfl, hs, hd, al, h0, ht, q⟩ := h
  obtain ⟨u, rfl, rfl⟩ := vals1 r
  obtain ⟨its, rv, hl, hz⟩ := I.list hs
  rw [List.length_map] at hz
  refine sorted_empt (enc := d) (R := fun (u : Value) (b : β) => RelV (v b) u) hl.isList (each_vals rv) (each_reads I rv fun b hb => (hd b hb).1) al h0 ht hz (fun b hb => ?_) fun out hlen he => ?_
  · have := (hd b hb).2
    omega
  · obtain ⟨ep, he'⟩ := PyProof.Rows.sortedAll_at s.heap its out.toArray
    have hlen2 : ((bs.mergeSort (PySem.W.dataLe false d)).map v).length ≤ sizeLine := by
      rw [List.length_map, List.length_mergeSort]
      exact hz
    exact ⟨.ref _, upd H (s.heap.objs.size + 1) (.lst ((bs.mergeSort (PySem.W.dataLe false d)).map v)), I.laid (t' := s.toks) (fun _ _ => PyProof.Rows.sortedAll_old) (Nat.le_succ _) ⟨hlen2, out, ep, vals_each he, by simpa using he'⟩, rfl, q _ (I.hok.fresh (Nat.le_succ _))⟩
end Pf


namespace Pf
open PySem PySem.Spec PyProof.Rows L2
/-! ### a dict by tuples, made in a comprehension -/
theorem dset_t {X : Cx} {pins : List (Addr × Obj)} {σ : L2.St} {H : Hp} {s : Shared} {E : Value → Shared → Prop} {D b : Addr} {kvs : List (List Key × V)} {ks : List Key} {z : V} {u : Value} {Q : Unit → Shared → Prop} (hu : X.A.units < cLine) (I : Inv X pins σ H s) (hD : H D = some (.dT kvs)) (hb : H b = some (.tup (ks.map kV))) (hz : kvs.length < sizeLine)
    (rz : RelV z u) (go : ∀ s', Inv X pins σ (upd H D (.dT (putK kvs ks z))) s' → Q () s') : wpAny (model X.prog X.w) X.A (dictSet D (.ref b) u) Q E s := by
  obtain ⟨len, nsys, xs, rel, dd⟩ := dt_of I.hok hD
  have lx : xs.length ≤ sizeLine := Paired.length rel ▸ len
  have lp := length_putK kvs ks z
  refine wpAny_dictSet_heap (hsz := lx) (show (tupleKind (mixKind X.prog X.w)).room X.A from hu) (key_of I.hok hb) dd fun h' dd' same => go _ ?_
  obtain ⟨ob, es, ep, e1, e2, e3, e4, _, e5⟩ := dd'
  have stays : ∀ c ys, H c = some (.tup ys) → (upd H D (.dT (putK kvs ks z))) c = some (.tup ys) := fun c ys ec => by
    rw [upd_ne (ne_of ec hD (by intro y; cases y))]
    exact ec
  exact d_write I (by rw [hD]; exact True.intro) same ⟨ob, e1⟩ ⟨by omega, nsys, _, (rel.put ks hb rz).keeps stays, ob, es, ep, e1, e2, e3, e4, e5⟩
/-- what is asked of a turn's key and value -/
def PutT (D : Addr) (y z : V) (H : Hp) (N : Hp → Prop) : Prop := ∃ kvs ks b, y = .ref b ∧ H b = some (.tup (ks.map kV)) ∧ H D = some (.dT kvs) ∧ kvs.length < sizeLine ∧ N (upd H D (.dT (putK kvs ks z)))
def tDcT (wi : TI) (g : TG) (tk tv : TE) (vs : List Nat) : TE := fun σ H Q => wi σ H fun J H1 => ∀ D, H1 D = none → ∃ W : Nat → Nat → Hp → Prop, (∃ m, W 0 m (upd H1 D (.dT []))) ∧ ∀ i m H, W i m H →
  (J.stop i H ∧ Q (.ref D) H) ∨ (J.go i H ∧ ∃ Nx : Hp → Prop, (∀ H', Nx H' → ∃ m', m' < m ∧ W (i + 1) m' H') ∧ ∀ x H', J.yld i H x H' → g x (wipe σ vs) H' fun σ2 H2 => wipe σ2 vs = wipe σ vs ∧ tk σ2 H2 fun y H3 => tv σ2 H3 fun z H4 => PutT D y z H4 Nx)
/-- the block's context is free of what the walk itself holds -/
theorem blk_free {X : Cx} {s : Shared} {H : Hp} {scope : Scope} {ce : Env} {fp : List Addr} {σ' : L2.St} {H' : Hp} {s' : Shared} (J : Inv (X.blk s H scope ce fp) [] σ' H' s') (nn : ∀ b ∈ fp, H' b = none) : ∀ b ∈ fp, FpOk (X.blk s H scope ce fp) [] H' b := fun b hb =>
  ⟨nn b hb, (J.ok.exf b hb).1, J.ok.exfs b hb, .inl hb, fun x c e => (J.ok.exf b hb).2 x c e, fun p hp => by
    have hp : p ∈ ([] : List (Addr × Obj)) ++ [] := hp
    cases hp⟩
/-- a turn is over: the block again as it began, but for the heap -/
theorem blk_turn {X Y : Cx} {fp : List Addr} {it : Addr} {tg : Expr} {J : It} {tn : Nat → Heap → Prop} {P : Program} {w : World} {K : PySem.W.Frag} (T : Turn P w K tg J fp it tn) {i : Nat} {h7 : Heap} (st : tn (i + 1) h7) {σ0 σ8 : L2.St} {vs : List Nat} {H' : Hp} {s' : Shared} (hw : wipe σ8 vs = wipe σ0 vs)
    (JJ : Inv Y ([] ++ pinsAt fp h7) σ8 H' s') : Inv Y [] (wipe σ0 vs) H' s' ∧ tn (i + 1) s'.heap ∧ ∀ b ∈ fp, H' b = none := by
  have held : ∀ b ∈ fp, ∀ o, h7.get? b = some o → s'.heap.get? b = some o ∧ H' b = none := fun b hb o e => by
    have z := JJ.pin (b, o) (List.mem_append_right _ (List.mem_append_right _ (mem_pinsAt hb e)))
    exact ⟨z.1, z.2.1⟩
  refine ⟨(JJ.unpinned (pins := [])).weak (by rw [← hw, wipe_length]) (fun j v e => ?_), T.keep _ _ _ st fun b hb o e => (held b hb o e).1, fun b hb => ?_⟩
  · rw [← hw] at e
    exact (wipe_some e).1
  · obtain ⟨o, e, _⟩ := T.obj _ _ st b hb
    exact (held b hb o e).2
theorem dcT_core {X : Cx} {pins : List (Addr × Obj)} {s : Shared} {σ : L2.St} {H : Hp} {Q : VK} {kx vx tg iter : Expr} {scope : Scope} {own : List (Str × Nat)} {pos pos' : Pos} {wi : TI} {g : TG} {tk tv : TE} {use : Option (Value → Sem Unit)} {Qf : Value → Shared → Prop} (hu : X.A.units < cLine) (calm : X.calm = true) (nd : X.N.Nodup) (I : Inv X pins σ H s) (hi : PI X tg iter wi) (ok : BlkOk X.N X.env.scope scope own)
    (hg : ∀ (s : Shared) (H : Hp) (C : Addr) (cl : List (Str × Addr)) (fp : List Addr), PG (X.blk s H scope (compEnvC scope cl C X.env) fp) tg g)
    (hk : ∀ (s : Shared) (H : Hp) (C : Addr) (cl : List (Str × Addr)) (fp : List Addr), PE (X.blk s H scope (compEnvC scope cl C X.env) fp) kx tk)
    (hv : ∀ (s : Shared) (H : Hp) (C : Addr) (cl : List (Str × Addr)) (fp : List Addr), PE (X.blk s H scope (compEnvC scope cl C X.env) fp) vx tv) (hfs : ∀ x, foldedSetIterable iter X.env x = pure x) (h : tDcT wi g tk tv (own.map (·.2)) σ H Q)
    (fin : ∀ D C s' m H', Inv X pins σ H' s' → Q (.ref D) H' → s'.heap.Ns C m → FpOk X pins H' C → compPost (model X.prog X.w) X.A X.xe use Qf (.ref D) C (.ok .next) s') :
    wpAny (model X.prog X.w) X.A (comprehension (.DictComp kx vx [⟨tg, iter, [], 0⟩] scope pos) scope X.env pos' newDict false (eval iter X.env) use) Qf X.xe s := by
  have cells : ∀ y ∈ scope.names, y.2 = .free → ∃ c, X.env.cells.lookup y.1 = some c := fun y hy e => (ok.free y hy e).elim (fun k => I.ok.has _ (.inl k)) fun k => I.ok.has _ (.inr k)
  refine wpAny_comprehension_free (use := use) rfl hfs (closure_ok cells) ok.kind (fun y hy e => by rw [ok.uniq y hy, e]) (thn (hi.run pins s σ H _ I h) fun xv sa ha => thn ha fun itv sb hb => ?_)
  obtain ⟨it, fp, tn, J, Hb, rfl, Ib, T, stb, fb, rest⟩ := hb
  refine wpAny_newObj_type (newEnv_comp ?_)
  obtain ⟨W, ⟨m0, w0⟩, turn⟩ := rest sb.heap.objs.size (Ib.hok.fresh (Nat.le_refl _))
  have Ic : Inv X pins σ (upd Hb sb.heap.objs.size (.dT [])) { sb with heap := sb.heap.push { cls := .type "dict", data := .dict #[] } } := Ib.laid (t' := sb.toks) (fun b o e => Heap.get?_push_of_some _ e) (Nat.le_refl _) (dt_empty sb.heap Ib.big)
  have stc : tn 0 (sb.heap.push { cls := .type "dict", data := .dict #[] }) := T.keep _ _ _ stb fun b _ o e => Heap.get?_push_of_some _ e
  have below : ∀ b ∈ fp, b < sb.heap.objs.size := fun b hb => by
    obtain ⟨o, e, _⟩ := T.obj _ _ stb b hb
    exact Heap.lt_size e
  have fc : ∀ b ∈ fp, FpOk X pins (upd Hb sb.heap.objs.size (.dT [])) b ∧ b < (sb.heap.push { cls := .type "dict", data := .dict #[] }).objs.size := fun b hb => by
    refine ⟨⟨?_, (fb b hb).2⟩, ?_⟩
    · rw [upd_ne (Nat.ne_of_lt (below b hb))]
      exact (fb b hb).1
    · rw [Heap.size_push]
      exact Nat.lt_succ_of_lt (below b hb)
  generalize sb.heap.objs.size = D at turn w0 Ic fc ⊢
  generalize hsc : ({ sb with heap := sb.heap.push { cls := .type "dict", data := .dict #[] } } : Shared) = sc at Ic ⊢
  have stc : tn 0 sc.heap := by rw [← hsc]; exact stc
  generalize upd Hb D (.dT []) = Hc at w0 Ic fc
  have fc : ∀ b ∈ fp, FpOk X pins Hc b ∧ b < sc.heap.objs.size := by rw [← hsc]; exact fc
  have Id := block_start Ic ok nd fc
  have pg := hg sc Hc sc.heap.objs.size (cellsFrom (sc.heap.objs.size + 1) scope.names (cloFrom X.env.cells scope.names [])) fp
  have pk := hk sc Hc sc.heap.objs.size (cellsFrom (sc.heap.objs.size + 1) scope.names (cloFrom X.env.cells scope.names [])) fp
  have pv := hv sc Hc sc.heap.objs.size (cellsFrom (sc.heap.objs.size + 1) scope.names (cloFrom X.env.cells scope.names [])) fp
  show codeAny _ _ (.compStart _ 0 (.ref it) (.ref D) (compEnvC scope (cellsFrom (sc.heap.objs.size + 1) scope.names (cloFrom X.env.cells scope.names [])) sc.heap.objs.size X.env)) (compPost _ _ _ _ _ (.ref D) sc.heap.objs.size) { sc with heap := pushCells (sc.heap.push { cls := .type "dict", data := .dict #[] }) scope.names }
  have std : tn 0 (pushCells (sc.heap.push { cls := .type "dict", data := .dict #[] }) scope.names) := T.keep _ _ _ stc fun b _ o e => pushCells_keeps _ _ _ _ (Heap.get?_push_of_some _ e)
  generalize ec : compEnvC scope (cellsFrom (sc.heap.objs.size + 1) scope.names (cloFrom X.env.cells scope.names [])) sc.heap.objs.size X.env = ce at Id pg pk pv ⊢
  have cl : ce.locals = sc.heap.objs.size := by rw [← ec]; rfl
  generalize ed : ({ sc with heap := pushCells (sc.heap.push { cls := .type "dict", data := .dict #[] }) scope.names } : Shared) = sd at Id ⊢
  have std : tn 0 sd.heap := by rw [← ed]; exact std
  have loop : codeAny (model X.prog X.w) X.A (.compLoop (.DictComp kx vx [⟨tg, iter, [], 0⟩] scope pos) 0 (.ref it) (.ref D) ce) (compPost (model X.prog X.w) X.A X.xe use Qf (.ref D) sc.heap.objs.size) sd := by
    refine compLoop_anyD (fun n s' => ∃ i H', Inv (X.blk sc Hc scope ce fp) [] (wipe σ (own.map (·.2))) H' s' ∧ tn i s'.heap ∧ (∀ b ∈ fp, H' b = none) ∧ W i n H') ?_ m0 ⟨0, Hc, Id, std, fun b hb => (fc b hb).1.1, w0⟩
    rintro n s5 ⟨i, H5, I5, st5, n5, w5⟩
    rcases turn i n H5 w5 with ⟨ends, qq⟩ | ⟨goes, Nx, hNx, step⟩
    · refine thnF (T.done (X.blk sc Hc scope ce fp) rfl rfl rfl calm i [] s5 _ H5 (fun _ _ => False) I5 (blk_free I5 n5) st5 ends) fun r s6 ⟨er, I6⟩ => ?_
      subst er
      have I7 : Inv X pins σ H5 s6 := Ic.call' (ch := fp) I6.os I6.base I6.hok I6.bare fun b hb => ⟨(fc b hb).1.2.2.2.1, (fc b hb).1.2.1, (fc b hb).1.2.2.2.2.1, (fc b hb).1.2.2.2.2.2⟩
      have nl : H5 sc.heap.objs.size = none := by
        rw [← cl]
        exact I6.free
      obtain ⟨m, hn, _⟩ := I6.loc
      have hn : s6.heap.Ns ce.locals m := hn
      rw [cl] at hn
      exact fin D sc.heap.objs.size s6 m H5 I7 qq hn (Ic.fpOk (Nat.le_refl _) nl)
    · refine thnF (T.item (X.blk sc Hc scope ce fp) rfl rfl rfl calm i [] s5 _ H5 (fun _ _ => False) I5 (blk_free I5 n5) st5 goes) fun r s6 ⟨u, er, h6⟩ => ?_
      subst er
      refine thnF h6 fun _ s7 ⟨x, H7, I7, r7, y7, st7, n7⟩ => ?_
      refine thnF (pg.run _ s7 _ H7 x u _ (I7.pinned (blk_free I7 n7) (T.obj _ _ st7)) r7 (step x H7 y7)) fun _ s8 ⟨σ8, H8, I8, hw8, q8⟩ => ?_
      rw [List.forIn_nil]
      refine wpAny_pure ?_
      rw [if_pos rfl]
      refine thnF (pk.run _ s8 σ8 H8 _ I8 q8) fun v9 s9 ⟨y9, H9, I9, r9, q9⟩ => ?_
      refine thnF (pv.run _ s9 σ8 H9 _ I9 q9) fun v10 s10 ⟨z10, H10, I10, r10, kvs, ks, b, ey, eb, eD, lz, nx⟩ => ?_
      subst ey
      cases (show v9 = Value.ref b from r9)
      refine dset_t (X := X.blk sc Hc scope ce fp) hu I10 eD eb lz r10 fun s11 I11 => ?_
      obtain ⟨m', hm, w'⟩ := hNx _ nx
      obtain ⟨a1, a2, a3⟩ := blk_turn (X := X) T st7 hw8 I11
      exact ⟨m', hm, i + 1, _, a1, a2, a3, w'⟩
  exact codeAny_compStart_dict loop (T.self X.A 0 _ _ _ std loop)
theorem pe_dcT {X : Cx} {kx vx tg iter : Expr} {scope : Scope} {own : List (Str × Nat)} {pos : Pos} {wi : TI} {g : TG} {tk tv : TE} (hu : X.A.units < cLine) (calm : X.calm = true) (nd : X.N.Nodup) (hi : PI X tg iter wi) (ok : BlkOk X.N X.env.scope scope own)
    (hg : ∀ (s : Shared) (H : Hp) (C : Addr) (cl : List (Str × Addr)) (fp : List Addr), PG (X.blk s H scope (compEnvC scope cl C X.env) fp) tg g)
    (hk : ∀ (s : Shared) (H : Hp) (C : Addr) (cl : List (Str × Addr)) (fp : List Addr), PE (X.blk s H scope (compEnvC scope cl C X.env) fp) kx tk)
    (hv : ∀ (s : Shared) (H : Hp) (C : Addr) (cl : List (Str × Addr)) (fp : List Addr), PE (X.blk s H scope (compEnvC scope cl C X.env) fp) vx tv) (hfs : ∀ x, foldedSetIterable iter X.env x = pure x := by intro _; rfl) :
    PE X (.DictComp kx vx [⟨tg, iter, [], 0⟩] scope pos) (tDcT wi g tk tv (own.map (·.2))) := by
  refine ⟨fun pins s σ H Q I h => ?_⟩
  rw [arm_eval_DictComp]
  refine dcT_core hu calm nd I hi ok hg hk hv hfs h fun D C s' m H' I' q hn f => ⟨m, hn, fun h'' sb => ?_⟩
  obtain ⟨f0, f1, f2, f3, f4, f5⟩ := f
  exact ⟨.ref D, H', I'.turned (t' := s'.toks) (fun b o hb e => (sb.2 b hb).trans e) f0 f1 f3 f4 f5, rfl, q⟩
/-- a name on the same line takes it, before the block's own names go -/
theorem ps_setDcT {X : Cx} {i : Nat} {y : Str} {py : Pos} {kx vx tg iter : Expr} {scope : Scope} {own : List (Str × Nat)} {pos spos : Pos} {wi : TI} {g : TG} {tk tv : TE} (hu : X.A.units < cLine) (calm : X.calm = true) (nd : X.N.Nodup) (at_ : X.N[i]? = some y) (loc : X.env.scope.names.lookup y = some .local)
    (sw : swapsWith (.DictComp kx vx [⟨tg, iter, [], 0⟩] scope pos) (some (.Name y py)) spos.line X.env = pure true) (hi : PI X tg iter wi) (ok : BlkOk X.N X.env.scope scope own)
    (hg : ∀ (s : Shared) (H : Hp) (C : Addr) (cl : List (Str × Addr)) (fp : List Addr), PG (X.blk s H scope (compEnvC scope cl C X.env) fp) tg g)
    (hk : ∀ (s : Shared) (H : Hp) (C : Addr) (cl : List (Str × Addr)) (fp : List Addr), PE (X.blk s H scope (compEnvC scope cl C X.env) fp) kx tk)
    (hv : ∀ (s : Shared) (H : Hp) (C : Addr) (cl : List (Str × Addr)) (fp : List Addr), PE (X.blk s H scope (compEnvC scope cl C X.env) fp) vx tv) (hfs : ∀ x, foldedSetIterable iter X.env x = pure x := by intro _; rfl) :
    PS X (.Assign [.Name y py] (.DictComp kx vx [⟨tg, iter, [], 0⟩] scope pos) spos) (tAsg (tDcT wi g tk tv (own.map (·.2))) (gName i)) := by
  refine ⟨fun pins s σ H D I h => ?_⟩
  rw [exec_Assign_Name_used _ _ _ _ sw]
  refine wpAny_bind (wpAny_standAt (wpAny_bind ?_))
  show wpAny _ X.A (do let _ ← comprehension (.DictComp kx vx [⟨tg, iter, [], 0⟩] scope pos) scope X.env (firstIterPos [⟨tg, iter, [], 0⟩] pos) newDict false (eval iter X.env) (some (assign (.Name y py) X.env))) _ _ s
  have h : tDcT wi g tk tv (own.map (·.2)) σ H (fun x H1 => gName i x σ H1 D.nx) := h
  refine wpAny_bind (thn (dcT_core (Qf := fun _ s' => SP X pins D .next s') hu calm nd I hi ok hg hk hv hfs h fun L C s' m H' I' q hn f => ?_) fun _ s' hq => wpAny_pure (wpAny_pure hq))
  show wpAny _ _ (assign (.Name y py) X.env (.ref L)) _ _ _
  refine wpAny_assign_Name (store_ok2 (v := V.ref L) I' nd at_ (.inl loc) rfl (fun s2 I2 ⟨a, sb, ha⟩ => ?_) (.inr loc))
  obtain ⟨f0, f1, f2, f3, f4, f5⟩ := f
  have apart : C ≠ a := by
    rcases ha with z | z
    · rw [z]
      exact f1
    · exact fun e => f4 y a z e.symm
  exact ⟨m, hn.sameBut sb apart, fun h3 sb3 => ⟨_, H', I2.turned (t' := s2.toks) (fun b o hb e => (sb3.2 b hb).trans e) f0 f1 f3 f4 f5, q⟩⟩
theorem swD_true {kx vx : Expr} {gs : List Comprehension} {scope : Scope} {pos py : Pos} {y : Str} {l : Nat} {env : Env} (hk : env.scope.kind = .function) (hy : env.scope.names.lookup y = some .local) (hl : (py.line == pos.line) = true)
    (ha : (scope.names.any fun (n, k) => n == y && (k == .local || k == .cell)) = false) : swapsWith (.DictComp kx vx gs scope pos) (some (.Name y py)) l env = pure true := by
  have ky : env.kindOf y = some .local := hy
  have hb : env.blockKind = .function := by unfold Env.blockKind; rw [hk]; rfl
  unfold swapsWith
  simp only [hb, ky, ha, Expr.pos, hl]
  rfl
theorem dcT_it {J : It} {n : Nat} {G : Hp → Prop} {Y : Nat → Hp → V → Hp → Prop} (w : Walk J n G Y) {g : TG} {tk tv : TE} {vs : List Nat} {σ : L2.St} {H1 : Hp} {D : Addr} {Qd : Hp → Prop} (Pv : Nat → Hp → Prop) (h0 : Pv 0 (upd H1 D (.dT []))) (hG : ∀ i H, i ≤ n → Pv i H → G H)
    (hs : ∀ i x H H', i < n → Pv i H → Y i H x H' → g x (wipe σ vs) H' fun σ2 H2 => wipe σ2 vs = wipe σ vs ∧ tk σ2 H2 fun y H3 => tv σ2 H3 fun z H4 => PutT D y z H4 (Pv (i + 1))) (hd : ∀ H, Pv n H → Qd H) :
    ∃ W : Nat → Nat → Hp → Prop, (∃ m, W 0 m (upd H1 D (.dT []))) ∧ ∀ i m H, W i m H → (J.stop i H ∧ Qd H) ∨ (J.go i H ∧ ∃ Nx : Hp → Prop, (∀ H', Nx H' → ∃ m', m' < m ∧ W (i + 1) m' H') ∧ ∀ x H', J.yld i H x H' → g x (wipe σ vs) H' fun σ2 H2 => wipe σ2 vs = wipe σ vs ∧ tk σ2 H2 fun y H3 => tv σ2 H3 fun z H4 => PutT D y z H4 Nx) := by
  refine ⟨fun i m H => m = n - i ∧ i ≤ n ∧ Pv i H, ⟨n, rfl, Nat.zero_le _, h0⟩, ?_⟩
  rintro i m H ⟨rfl, hi, pv⟩
  have hq := hG i H hi pv
  by_cases hlt : i < n
  · exact .inr ⟨w.goes i H hlt hq, Pv (i + 1), fun H' p' => ⟨n - (i + 1), by omega, rfl, hlt, p'⟩, fun x H' y => hs i x H H' hlt pv (w.yields i H x H' hlt hq y)⟩
  · obtain rfl : i = n := by omega
    exact .inl ⟨w.stops H hq, hd H pv⟩
end Pf


namespace Pf
open PySem PySem.Spec PyProof.Rows L2
/-! ### a list lengthened in its place -/
theorem lk_iadd : typeLookup (.type "list") (dunderI "add") = pure (some (.builtin "list.__iadd__")) := PySem.F.slot_list_iadd.lookup
theorem nf_list : fillsNumberSlot (.type "list") "add" = pure false := by kernel_rfl
theorem iadd_lst {M : Model} {A : Around} {E : Value → Shared → Prop} {s : Shared} {a b : Value} {Q : Value → Shared → Prop} (ha : s.TypeIs a "list") (hb : s.TypeIs b "list") (hc : wpAny M A (call (.builtin "list.__iadd__") [a, b]) Q E s) : wpAny M A (inplaceOp .Add a b) Q E s := by
  unfold inplaceOp
  refine wpAny_holding ?_
  have h1 : fillsInplaceSlot (.type "list") "add" (Operator.Add == .Add) = pure false := by
    unfold fillsInplaceSlot
    show (typeLookup (.type "list") (dunderI "add") >>= fun z => pure (z.isSome && !isSeqSlot z)) = pure false
    rw [lk_iadd]
    kernel_rfl
  have h2 : seqSlot? (.type "list") (dunderI "add") = pure (some (.builtin "list.__iadd__")) := PySem.seqSlot_of lk_iadd (by kernel_rfl)
  refine wpAny_bind (wpAny_typeOf ha (wpAny_bind (wpAny_of_eq h1 ?_)))
  show wpAny M A (if false = true then _ else _) Q E s
  rw [if_neg Bool.false_ne_true]
  exact wpAny_bind (wpAny_binaryOp1_none (nm := "add") ha hb nf_list (wpAny_bind (wpAny_of_eq h2 (wpAny_bind (wpAny_rule hc)))))
def rIext : TIp := fun x y H Q => ∃ l b xs zs, x = .ref l ∧ y = .ref b ∧ H l = some (.lst xs) ∧ H b = some (.lst zs) ∧ xs.length + zs.length ≤ sizeLine ∧ Q (.ref l) (upd H l (.lst (xs ++ zs)))
theorem ip_ext {X : Cx} : PIp X .Add rIext := by
  intro pins s σ H x y v u Q I rx ry h
  obtain ⟨l, b, xs, zs, rfl, rfl, hH, hB, hz, q⟩ := h
  cases rx
  cases ry
  obtain ⟨z, its, n, r, hl, e⟩ := I.lstM hH
  obtain ⟨z2, its2, n2, r2, hl2, e2⟩ := I.lstM hB
  have hs2 : its.toArray.size + its2.toArray.size ≤ sizeLine := by
    rw [List.size_toArray, List.size_toArray]
    omega
  have long : ¬ (!its.toArray.isEmpty && Builtin.List.listTooLong (its.toArray.size + its2.toArray.size)) = true := by
    rw [notLongL hs2, Bool.and_false]
    exact Bool.false_ne_true
  refine iadd_lst ⟨_, e, rfl⟩ ⟨_, e2, rfl⟩ (call_meets PySem.F.slot_list_iadd ⟨_, e, rfl⟩ PySem.F.entry_list_iadd (PySem.F.args_list_iadd_2 _ _) (AutoSeq1.list___iadd___list_list_0 l its.toArray n b its2.toArray n2 long (by rw [List.size_toArray]; omega) (by omega)) ⟨e, e2, ?_⟩)
  refine ⟨.ref l, _, I.lset (its' := its ++ its2) hH e (by simp) (r.append r2) ?_, rfl, q⟩
  rw [List.length_append]
  omega
end Pf


namespace Pf
open PySem PySem.Spec PyProof.Rows L2
/-! ### sorted of a dict by tuples -/
theorem obj_there {P : Program} {w : World} {H : Hp} {h : Heap} {a : Addr} {o : HO} (x : ObjOk P w H h a o) : ∃ u, h.get? a = some u := by
  cases o with
  | lst _ =>
    obtain ⟨_, _, _, _, e⟩ := x
    exact ⟨_, e⟩
  | tup _ =>
    obtain ⟨_, _, _, u, e, _⟩ := x
    exact ⟨u, e⟩
  | dK _ =>
    obtain ⟨_, _, _, _, u, _, _, e, _⟩ := x
    exact ⟨u, e⟩
  | dT _ =>
    obtain ⟨_, _, _, _, u, _, _, e, _⟩ := x
    exact ⟨u, e⟩
  | set _ _ =>
    obtain ⟨u, _, _, _, e, _⟩ := x
    exact ⟨u, e⟩
  | ins _ _ _ =>
    obtain ⟨_, _, _, e, _⟩ := x
    exact ⟨_, e⟩
  | own _ => exact x
  | xd _ =>
    obtain ⟨_, ⟨u, _, _, e, _⟩, _⟩ := x
    exact ⟨u, e⟩
  | rng _ _ =>
    obtain ⟨_, _, _, e⟩ := x
    exact ⟨_, e⟩
  | frz u _ => exact ⟨u, x.1⟩
  | tbl _ => exact ⟨_, x⟩
  | met _ _ => exact ⟨_, x⟩
  | ext _ => exact x.2.1
def rSortKT (K : PySem.W.Frag) : List V → Hp → VK → Prop := fun vs H Q => ∃ (d : Addr) (kvs : List (List Key × V)), vs = [.ref d] ∧ Rd H d (.dT kvs) ∧ ∀ bs : List Addr, IsKeys H kvs bs → ∃ (β : Type) (ad : β → Addr) (dd : β → PyData) (ys : List β), bs = ys.map ad ∧ (∀ y ∈ ys, Dp K H (.ref (ad y)) (dd y) ∧ (dd y).depth ≤ 50) ∧
  PySem.W.AllAlike (ys.map dd) ∧ PySem.W.Sortable (ys.map dd) ∧ ∀ p, H p = none → Q (.ref p) (upd H p (.lst ((ys.mergeSort (PySem.W.dataLe false dd)).map fun y => .ref (ad y))))
theorem cr_sortKT (K : PySem.W.Frag) {X : Cx} (calm : X.calm = true) (hu : X.A.units + 64 < cLine) (hK : X.K = K := by rfl) : CallR X (.builtin "sorted") (rSortKT K) := by
  subst hK
  intro pins s σ H vs us Q I r h
  obtain ⟨d, kvs, rfl, hd, q⟩ := h
  obtain ⟨u, rfl, er⟩ := vals1 r
  cases er
  obtain ⟨z, hs, ks, pr, o, es, ep, ho, hx, hdt, he, hn⟩ := (show ObjOk X.prog X.w H s.heap d (.dT kvs) from hd.ok I.hok)
  have l1 : es.size = ks.length := size_of_entries he
  have l2 : kvs.length = ks.length := Paired.length pr
  obtain ⟨β, ad, dd, ys, eys, hy, al, so, qq⟩ := q _ (isKeys_of pr)
  have hyl : ys.length = ks.length := by
    have := congrArg List.length eys
    rw [List.length_map, List.length_map] at this
    exact this.symm
  refine Calls.call_function_entry kind_sorted plain_sorted entry_sorted (args_sorted1 _) ?_
  unfold Builtin.«sorted»
  refine wpAny_bind (m := checkCount "sorted" 1 1 _) (wpAny_pure ?_)
  refine wpAny_bind (PySem.W.kdu_collect (kdl_raw hs hx hdt) (I.ok.hd calm) ho (by omega) fun h1 tk acc kp items => ?_)
  have ea : acc.toList = ys.map fun y => Value.ref (ad y) := by
    have e0 : (ks.map fun x => x.2.1).map Value.ref = ys.map fun y => Value.ref (ad y) := by
      rw [eys, List.map_map]
      rfl
    rw [← e0]
    refine List.ext_getElem? fun j => ?_
    rw [List.getElem?_map, List.getElem?_map]
    cases hj : acc.toList[j]? with
    | none =>
      have := List.getElem?_eq_none_iff.mp hj
      rw [Array.length_toList, items.1] at this
      rw [List.getElem?_eq_none (by omega)]
      rfl
    | some v =>
      obtain ⟨en, hen, hv⟩ := items.2 j v (by rw [← Array.getElem?_toList]; exact hj)
      have qe := entry_at he j
      rw [hen] at qe
      cases hb : ks[j]? with
      | none =>
        rw [hb] at qe
        exact nomatch (show some en = none from qe)
      | some b =>
        rw [hb] at qe
        rw [hv, Option.some.inj (show some en = some (entryOfKey (tupleKind (mixKind X.prog X.w)) b) from qe)]
        rfl
  have hz2 : acc.toList.length ≤ sizeLine := by
    rw [ea, List.length_map]
    omega
  refine wpAny_bind (wpAny_newList ?_ hz2)
  have hat : (h1.push (seqObj "list" acc.toList.toArray 0)).get? h1.objs.size = some (seqObj "list" acc.toList.toArray 0) := Heap.get?_push_size _ rfl
  have hlt : ∀ b ob, s.heap.get? b = some ob → b ≠ h1.objs.size := fun b ob e => Nat.ne_of_lt (Heap.lt_size (kp b ob e))
  have old : ∀ b ob, s.heap.get? b = some ob → (h1.push (seqObj "list" acc.toList.toArray 0)).get? b = some ob := fun b ob e => Heap.get?_push_of_some _ (kp b ob e)
  have rel : PySem.W.EachIs (fun (v : Value) (y : β) => RelV (V.ref (ad y)) v) acc.toList ys := by
    rw [ea]
    clear q qq eys hy al so hyl ea
    induction ys with
    | nil => exact .nil
    | cons y t ih => exact .cons rfl ih
  have rv : Vals (ys.map fun y => V.ref (ad y)) acc.toList := vals_each (v := fun y => V.ref (ad y)) rel
  have rd : PySem.W.EachIs (fun (v : Value) (y : β) => ∃ as, Reads (PySem.W.sortingHeap (h1.push (seqObj "list" acc.toList.toArray 0)) h1.objs.size acc.toList) v (dd y) as) acc.toList ys := (each_reads (v := fun y => V.ref (ad y)) I rv fun y hy' => (hy y hy').1).mono fun _ _ ⟨as, w⟩ => ⟨as, PyProof.Rows.Reads.keeps (fun b ob e => PySem.W.sortingHeap_old (hlt b ob e) (old b ob e)) w⟩
  have hub : ∀ y ∈ ys, X.A.in1.in1.units + (dd y).depth < cLine := fun y hy' => by
    have := (hy y hy').2
    show X.A.units + 2 + (dd y).depth < cLine
    omega
  have S := PySem.W.SortsAt.data (prog := X.prog) (w := X.w) (A := X.A.in1.in1) (s := { s with heap := PySem.W.sortingHeap (h1.push (seqObj "list" acc.toList.toArray 0)) h1.objs.size acc.toList, toks := tk }) (PySem.W.each_map (R := fun v d => ∃ as, Reads (PySem.W.sortingHeap (h1.push (seqObj "list" acc.toList.toArray 0)) h1.objs.size acc.toList) v d as) dd rd) al so (PySem.W.bound_map hub)
  refine wpAny_bind (wpAny_holding (wpAny_call_entry slot_list_sort ⟨_, hat, rfl⟩ entry_list_sort ?body (args_list_sort _)))
  case body =>
    refine PySem.W.list_sort_vals (s := { s with heap := h1.push (seqObj "list" acc.toList.toArray 0), toks := tk }) hat S hz2 ⟨_, rfl, wpAny_pure ⟨_, rfl, ?_⟩⟩
    have each := PySem.W.sortVals_data false rel rd al
    generalize PySem.W.sortVals (PySem.W.dataKind (PySem.W.sortingHeap (h1.push (seqObj "list" acc.toList.toArray 0)) h1.objs.size acc.toList) (ys.map dd)) false acc.toList acc.toList = out at each ⊢
    obtain ⟨ee, he'⟩ := PyProof.Rows.sortedHeap_at (vs := acc.toList) (out := out.toArray) hat
    have hl2 : ((ys.mergeSort (PySem.W.dataLe false dd)).map fun y => V.ref (ad y)).length ≤ sizeLine := by
      rw [List.length_map, List.length_mergeSort]
      omega
    have gone : s.heap.get? h1.objs.size = none := by
      cases e : s.heap.get? h1.objs.size with
      | none => rfl
      | some ob => exact absurd rfl (hlt _ ob e)
    have free : H h1.objs.size = none := by
      cases e : H h1.objs.size with
      | none => rfl
      | some u =>
        obtain ⟨ob, e2⟩ := obj_there (I.hok _ _ e)
        rw [gone] at e2
        cases e2
    exact ⟨.ref h1.objs.size, upd H h1.objs.size (.lst ((ys.mergeSort (PySem.W.dataLe false dd)).map fun y => V.ref (ad y))), I.laidN (t' := tk) (fun b ob e => by rw [PyProof.Rows.sortedHeap_old (hlt b ob e) (Heap.lt_size (old b ob e))]; exact old b ob e) gone free ⟨hl2, out, ee, vals_each (v := fun y => V.ref (ad y)) each, by simpa using he'⟩, rfl, qq _ free⟩
end Pf


namespace Pf
open PySem PySem.Spec PyProof.Rows L2
/-! ### sorted of a text: its signs in some order -/
def sgs (x : Str) : List Str := x.cps.toList.map fun c => ⟨#[c]⟩
def rSortTx : List V → Hp → VK → Prop := fun vs H Q => ∃ x : Str, vs = [.str x] ∧ x.length ≤ 1000 ∧ ∀ (ys : List Str) p, ys.Perm (sgs x) → H p = none → Q (.ref p) (upd H p (.lst (ys.map V.str)))
theorem cr_sortTx {X : Cx} (calm : X.calm = true) (hu : X.A.units + 64 < cLine) : CallR X (.builtin "sorted") rSortTx := by
  intro pins s σ H vs us Q I r h
  obtain ⟨x, rfl, hx, q⟩ := h
  obtain ⟨u, rfl, t0, rfl⟩ := vals1 r
  refine Calls.call_function_entry kind_sorted plain_sorted entry_sorted (args_sorted1 _) ?_
  unfold Builtin.«sorted»
  refine wpAny_bind (m := checkCount "sorted" 1 1 _) (wpAny_pure ?_)
  refine wpAny_bind (wpAny_collect_str (A := X.A.in1) (show X.A.in1.handled = none from I.ok.hd calm) x t0 (fun s' acc kp hg hd ho items => ?_) (Nat.le_trans hx (by decide)))
  obtain ⟨h1, g1, d1, tk, os1⟩ := s'
  obtain rfl : g1 = s.gens := hg
  obtain rfl : d1 = s.drawn := hd
  obtain rfl : os1 = s.os := ho
  have kp : ∀ b o, s.heap.get? b = some o → h1.get? b = some o := kp
  have hsl : (sgs x).length = x.cps.size := by
    unfold sgs
    rw [List.length_map, Array.length_toList]
  have hal : acc.toList.length = x.cps.size := by
    rw [Array.length_toList]
    exact items.1
  have hz2 : acc.toList.length ≤ sizeLine := by
    have : x.cps.size ≤ 1000 := hx
    rw [hal]
    exact Nat.le_trans this (by decide)
  refine wpAny_bind (wpAny_newList ?_ hz2)
  have hat : (h1.push (seqObj "list" acc.toList.toArray 0)).get? h1.objs.size = some (seqObj "list" acc.toList.toArray 0) := Heap.get?_push_size _ rfl
  have hlt : ∀ b ob, s.heap.get? b = some ob → b ≠ h1.objs.size := fun b ob e => Nat.ne_of_lt (Heap.lt_size (kp b ob e))
  have old : ∀ b ob, s.heap.get? b = some ob → (h1.push (seqObj "list" acc.toList.toArray 0)).get? b = some ob := fun b ob e => Heap.get?_push_of_some _ (kp b ob e)
  have rel : PySem.W.EachIs (fun (v : Value) (y : Str) => RelV (V.str y) v) acc.toList (sgs x) := by
    have aux : ∀ (vs : List Value) (ys : List Str), vs.length = ys.length → (∀ (i : Nat) (v : Value), vs[i]? = some v → ∃ y, ys[i]? = some y ∧ RelV (V.str y) v) → PySem.W.EachIs (fun (v : Value) (y : Str) => RelV (V.str y) v) vs ys := by
      intro vs
      induction vs with
      | nil =>
        intro ys hl _
        cases ys with
        | nil => exact .nil
        | cons _ _ => cases hl
      | cons v vs ih =>
        intro ys hl h
        cases ys with
        | nil => cases hl
        | cons y ys =>
          obtain ⟨y', e, hr⟩ := h 0 v rfl
          cases e
          exact .cons hr (ih ys (Nat.succ.inj hl) fun i w hw => h (i + 1) w hw)
    refine aux _ _ (by rw [hal, hsl]) fun i v hv => ?_
    rw [Array.getElem?_toList] at hv
    obtain ⟨c, t, hc, rfl⟩ := items.2 i v hv
    refine ⟨⟨#[c]⟩, ?_, ⟨t, rfl⟩⟩
    unfold sgs
    rw [List.getElem?_map, Array.getElem?_toList, hc]
    rfl
  have rv : Vals ((sgs x).map V.str) acc.toList := vals_each (v := V.str) rel
  have rd : PySem.W.EachIs (fun (v : Value) (y : Str) => ∃ as, Reads (PySem.W.sortingHeap (h1.push (seqObj "list" acc.toList.toArray 0)) h1.objs.size acc.toList) v (PyData.str y) as) acc.toList (sgs x) := (each_reads (v := V.str) (d := PyData.str) I rv fun y hy' => .str _).mono fun _ _ ⟨as, w⟩ => ⟨as, PyProof.Rows.Reads.keeps (fun b ob e => PySem.W.sortingHeap_old (hlt b ob e) (old b ob e)) w⟩
  have hub : ∀ y ∈ sgs x, X.A.in1.in1.units + (PyData.str y).depth < cLine := fun y hy' => by
    show X.A.units + 2 + (PyData.str y).depth < cLine
    have : (PyData.str y).depth ≤ 1 := by simp [PyData.depth]
    omega
  have al : PySem.W.AllAlike ((sgs x).map PyData.str) := PySem.W.AllAlike.of fun b b' => by simp [PySem.W.alike]
  have so : PySem.W.Sortable ((sgs x).map PyData.str) := PySem.W.Sortable.others fun b => ⟨(fun z => by cases z), (fun xs z => by cases z)⟩
  have S := PySem.W.SortsAt.data (prog := X.prog) (w := X.w) (A := X.A.in1.in1) (s := { s with heap := PySem.W.sortingHeap (h1.push (seqObj "list" acc.toList.toArray 0)) h1.objs.size acc.toList, toks := tk }) (PySem.W.each_map (R := fun v d => ∃ as, Reads (PySem.W.sortingHeap (h1.push (seqObj "list" acc.toList.toArray 0)) h1.objs.size acc.toList) v d as) PyData.str rd) al so (PySem.W.bound_map hub)
  refine wpAny_bind (wpAny_holding (wpAny_call_entry slot_list_sort ⟨_, hat, rfl⟩ entry_list_sort ?body (args_list_sort _)))
  case body =>
    refine PySem.W.list_sort_vals (s := { s with heap := h1.push (seqObj "list" acc.toList.toArray 0), toks := tk }) hat S hz2 ⟨_, rfl, wpAny_pure ⟨_, rfl, ?_⟩⟩
    have each := PySem.W.sortVals_data false rel rd al
    generalize PySem.W.sortVals (PySem.W.dataKind (PySem.W.sortingHeap (h1.push (seqObj "list" acc.toList.toArray 0)) h1.objs.size acc.toList) ((sgs x).map PyData.str)) false acc.toList acc.toList = out at each ⊢
    obtain ⟨ee, he'⟩ := PyProof.Rows.sortedHeap_at (vs := acc.toList) (out := out.toArray) hat
    have hl2 : (((sgs x).mergeSort (PySem.W.dataLe false PyData.str)).map V.str).length ≤ sizeLine := by
      rw [List.length_map, List.length_mergeSort, hsl]
      exact Nat.le_trans hx (by decide)
    have gone : s.heap.get? h1.objs.size = none := by
      cases e : s.heap.get? h1.objs.size with
      | none => rfl
      | some ob => exact absurd rfl (hlt _ ob e)
    have free : H h1.objs.size = none := by
      cases e : H h1.objs.size with
      | none => rfl
      | some u =>
        obtain ⟨ob, e2⟩ := obj_there (I.hok _ _ e)
        rw [gone] at e2
        cases e2
    exact ⟨.ref h1.objs.size, upd H h1.objs.size (.lst (((sgs x).mergeSort (PySem.W.dataLe false PyData.str)).map V.str)), I.laidN (t' := tk) (fun b ob e => by rw [PyProof.Rows.sortedHeap_old (hlt b ob e) (Heap.lt_size (old b ob e))]; exact old b ob e) gone free ⟨hl2, out, ee, vals_each (v := V.str) each, by simpa using he'⟩, rfl, q _ _ (List.mergeSort_perm _ _) free⟩
/-! ### a text backwards -/
def revX (x : Str) : Str := ⟨((List.range x.length).map fun k => x.cps.getD (x.length - 1 - k) 0).toArray⟩
theorem revX_is (x : Str) (u : Tok) : Txt.sliceBy x none none (-1, u) = revX x := by
  refine PySem.W.str_of_cps ?_
  rw [PyProof.Rows.step_rev_list]
  rfl
theorem revX_len (x : Str) : (revX x).length = x.length := by
  show ((List.range x.length).map fun k => x.cps.getD (x.length - 1 - k) 0).toArray.size = _
  rw [List.size_toArray, List.length_map, List.length_range]
def tRevX (te : TE) : TE := fun σ H Q => te σ H fun x H1 => ∃ z : Str, x = .str z ∧ z.length ≤ sizeLine ∧ Q (.str (revX z)) H1
theorem pe_revX {X : Cx} {e : Expr} {te : TE} {k : Nat} {p1 p2 p3 pos : Pos} (he : PE X e te) : PE X (.Subscript e (.Slice none none (some (.UnaryOp .USub (.Constant (.int 1) k p1) p2)) p3) pos) (tRevX te) := by
  refine ⟨fun pins s σ H Q I h => ?_⟩
  refine Subscript_ (thn (he.run pins s σ H _ I h) fun v s1 ⟨x, H1, I1, r1, q1⟩ => ?_)
  obtain ⟨z, rfl, hz, q⟩ := q1
  obtain ⟨t, rfl⟩ := r1
  have hst : PO X (some (.UnaryOp .USub (.Constant (.int 1) k p1) p2)) (tPart (tUn (rU fun i => .int (-i)) (tC (.int 1)))) := po_some (pe_un un_neg pe_int)
  refine wpAny_Slice (thn (po_none.run pins s1 σ H1 (fun o H2 => o = none ∧ H2 = H1) I1 ⟨rfl, rfl⟩) fun vl s2 ⟨l, H2, I2, pl, el, e2⟩ => ?_)
  subst el e2
  refine thn (po_none.run pins s2 σ H2 (fun o H3 => o = none ∧ H3 = H2) I2 ⟨rfl, rfl⟩) fun vu s3 ⟨u, H3, I3, pu, eu, e3⟩ => ?_
  subst eu e3
  refine thn (hst.run pins s3 σ H3 (fun o H4 => o = some (-1) ∧ H4 = H3) I3 ⟨1, rfl, -1, rfl, rfl, rfl⟩) fun vs s4 ⟨o, H4, I4, ps, eo, e4⟩ => ?_
  subst eo e4
  cases pl
  cases pu
  cases ps with
  | int i t5 =>
    refine tail_any (ops := [.str z t, .ref s4.heap.objs.size]) (typeIs_str _ _ _) (PySem.F.slot_str_getitem.lookup) ?_ (by with_unfolding_all rfl)
    refine wpAny_getItem_str_slice (l := none) (u := none) (st := some (-1, t5)) ⟨_, Heap.get?_push_size _ rfl, rfl, rfl⟩ rfl ?_
    refine post_val_or_str ⟨Nat.le_trans (Txt.sliceBy_le z none none (-1, t5) (show (-1 : Int) ≠ 0 by decide)) hz, fun t6 tk => ?_⟩
    refine ⟨.str (revX z), H4, (I4.kept (t' := tk) fun b ob q => Heap.get?_push_of_some _ q), ⟨t6, ?_⟩, q⟩
    rw [← revX_is z t5]
    rfl
end Pf


namespace Pf
open PySem PySem.Spec PyProof.Rows L2
/-! ### a text so many times: some text of its letters, no longer than it may be -/
theorem rep_cps (x : Array Nat) : ∀ (n : Nat) (acc : Array Nat), (((List.replicate n x).foldl (· ++ ·) acc).size = acc.size + x.size * n) ∧ ∀ c ∈ ((List.replicate n x).foldl (· ++ ·) acc).toList, c ∈ acc.toList ∨ c ∈ x.toList
  | 0, acc => ⟨by rw [Nat.mul_zero]; rfl, fun c h => .inl h⟩
  | n + 1, acc => by
    have ih := rep_cps x n (acc ++ x)
    rw [List.replicate_succ, List.foldl_cons]
    refine ⟨?_, fun c h => ?_⟩
    · rw [ih.1, Array.size_append, Nat.mul_succ]
      omega
    · rcases ih.2 c h with z | z
      · rw [Array.toList_append, List.mem_append] at z
        exact z
      · exact .inr z
def rRepS : R2 := fun x y H Q => ∃ (z : Str) (k : Int), x = .str z ∧ y = .int k ∧ 0 ≤ k ∧ k ≤ 1000 ∧ z.length ≤ 1000 ∧ ∀ w : Str, w.length ≤ z.length * k.toNat → (∀ c ∈ w.cps.toList, c ∈ z.cps.toList) → Q (.str w) H
theorem op_repS {X : Cx} : OpR X (binaryOp .Mult) rRepS := by
  intro pins s σ H x y v u Q I rx ry h
  obtain ⟨z, k, rfl, rfl, k0, k1, hz, q⟩ := h
  obtain ⟨t, rfl⟩ := rx
  obtain ⟨t2, rfl⟩ := ry
  have hm : z.length * k.toNat ≤ 1000 * 1000 := Nat.mul_le_mul hz (by omega)
  have hbig : (z.length : Int) * k ≤ 1000 * 1000 := Int.mul_le_mul (by omega) k1 k0 (by decide)
  refine PySem.P.mul_str (by rw [decide_eq_false (by omega), decide_eq_false (by omega)]; rfl) (fun h1 _ z2 => ?_) (fun _ _ => ?_) ?_
  · have h3 : (1000 : Int) ≤ (2 ^ 63 - 1) / k := by
      rw [Int.le_ediv_iff_mul_le (by omega)]
      omega
    omega
  · unfold Builtin.Str.tooLong
    exact decide_eq_false (by rw [sizeLine_eq]; omega)
  · by_cases c1 : k < 1
    · rw [if_pos c1]
      exact ⟨by decide, .str Str.empty, H, I.tok _, ⟨_, rfl⟩, q _ (Nat.zero_le _) (fun c hc => by cases hc)⟩
    · rw [if_neg c1]
      by_cases c2 : (k == 1 || z.length == 0) = true
      · rw [if_pos c2]
        refine ⟨.str z, H, I, ⟨_, rfl⟩, q z ?_ fun _ hc => hc⟩
        exact Nat.le_mul_of_pos_right _ (by omega)
      · rw [if_neg c2]
        have hr := rep_cps z.cps k.toNat #[]
        have hl : (⟨(List.replicate k.toNat z.cps).foldl (· ++ ·) #[]⟩ : Str).length = z.length * k.toNat := by
          show ((List.replicate k.toNat z.cps).foldl (· ++ ·) #[]).size = _
          rw [hr.1]
          show 0 + z.length * k.toNat = _
          omega
        refine ⟨?_, .str _, H, I.tok _, ⟨_, rfl⟩, q _ (Nat.le_of_eq hl) fun c hc => ?_⟩
        · rw [hl, sizeLine_eq]
          omega
        · rcases hr.2 c hc with y | y
          · cases y
          · exact y
/-! ### a list under way -/
section
variable {β : Type} {R : Hp → V → β → Prop} {D : Addr} {H H1 H4 : Hp} {ys : List β} {v : V} {b : β}
def GenL (R : Hp → V → β → Prop) (D : Addr) (H1 : Hp) (ys : List β) (H : Hp) : Prop := ∃ vs, H D = some (.lst vs) ∧ Paired (R H) vs ys ∧ Ext H1 H
theorem genl_new (hD : H1 D = none) : GenL R D H1 [] (upd H1 D (.lst [])) := ⟨[], upd_same, .nil, Ext.new hD⟩
theorem GenL.ext (h : GenL R D H1 ys H) : Ext H1 H := by
  obtain ⟨_, _, _, k⟩ := h
  exact k
theorem GenL.keep (m : Mono R) (h : GenL R D H1 ys H) (k : Ext H H4) : GenL R D H1 ys H4 := by
  obtain ⟨vs, hL, hP, k1⟩ := h
  exact ⟨vs, k _ _ hL, paired_imp (fun _ _ => m _ _ _ _ (TupK.ext k)) hP, k1.trans k⟩
theorem genl_step (m : Mono R) (hD : H1 D = none) (h : GenL R D H1 ys H) (k : Ext H H4) (hv : R H4 v b) (hn : ys.length < 1000000) : ∃ acc, H4 D = some (.lst acc) ∧ acc.length < sizeLine ∧ GenL R D H1 (ys ++ [b]) (upd H4 D (.lst (acc ++ [v]))) := by
  obtain ⟨vs, hL, hP, k1⟩ := h
  have hl := paired_len hP
  have hL4 := k _ _ hL
  exact ⟨vs, hL4, szLt (by omega), vs ++ [v], upd_same, paired_app (paired_imp (fun _ _ => m _ _ _ _ ((TupK.ext k).trans (TupK.lst hL4))) hP) (.cons (m _ _ _ _ (TupK.lst hL4) hv) .nil), (k1.trans k).put hD⟩
/-- one more at its end -/
theorem app_ok {Q : VK} (m : Mono R) (hD : H1 D = none) (h : GenL R D H1 ys H) (k : Ext H H4) (hv : R H4 v b) (hn : ys.length < 1000000) (q : ∀ H', GenL R D H1 (ys ++ [b]) H' → Q .non H') : rAppend (.ref D) [v] H4 Q := by
  obtain ⟨acc, h1, h2, h3⟩ := genl_step m hD h k hv hn
  exact ⟨D, acc, v, rfl, rfl, h1, h2, q _ h3⟩
theorem GenL.sq {K : PySem.W.Frag} (h : GenL R D H1 ys H) : ∃ vs, SqL K H D vs := by
  obtain ⟨vs, h1, _⟩ := h
  exact ⟨vs, SqL.of h1⟩
end
theorem putT_len (c : List (List Key × V)) (k : List Key) (v : V) : (putK c k v).length ≤ c.length + 1 := by
  unfold putK
  split
  · rw [List.length_map]
    omega
  · rw [List.length_append, List.length_singleton]
    exact Nat.le_refl _
end Pf


namespace Pf
open PySem PySem.Spec PyProof.Rows L2
def AZs : Str := "abcdefghijklmnopqrstuvwxyz"
theorem az_small : Small AZs := by unfold Small; decide +kernel
theorem az_len : AZs.length = 26 := by decide +kernel
theorem cutS_to (x : Str) (k : Nat) : (cutS x none (some (k : Int))).length = min k x.length := by
  show (((x.cps.toList.drop (HT.sIx x.length 0 none)).take (HT.sIx x.length x.length (some (k : Int)) - HT.sIx x.length 0 none)).toArray).size = _
  rw [List.size_toArray, List.length_take, List.length_drop]
  have h1 : HT.sIx x.length x.length (some (k : Int)) = min k x.length := HT.sIx_nat _ _ _
  have h3 : HT.sIx x.length 0 none = 0 := rfl
  have h4 : x.cps.toList.length = x.length := Array.length_toList
  rw [h1, h3, h4]
  omega
def Asc (x : Str) : Prop := x.cps.toList.Pairwise (· < ·)
theorem az_asc : Asc AZs := by unfold Asc; decide +kernel
theorem Asc.cut {x : Str} (h : Asc x) (lo hi : Option Int) : Asc (cutS x lo hi) := by
  unfold Asc cutS
  exact (h.sublist (List.drop_sublist _ _)).sublist (List.take_sublist _ _)
theorem join_sgs : ∀ L : List Nat, (Str.join "" (L.map fun c => (⟨#[c]⟩ : Str))).cps.toList = L
  | [] => rfl
  | [c] => rfl
  | c :: d :: L => by
    show ((⟨#[c]⟩ : Str) ++ "" ++ Str.join "" ((d :: L).map fun c => (⟨#[c]⟩ : Str))).cps.toList = _
    rw [Str.cps_append, Array.toList_append, join_sgs (d :: L)]
    have : ((⟨#[c]⟩ : Str) ++ "").cps.toList = [c] := by
      rw [Str.cps_append, Array.toList_append]
      have : ("" : Str).cps.toList = [] := by decide +kernel
      rw [this]
      rfl
    rw [this]
    rfl
theorem filt_one {α : Type} (f : α → Bool) (c : α) : [c].filter f = if f c = true then [c] else [] := by cases e : f c <;> simp [List.filter, e]
theorem gow_as {i : Nat} {v v' : V} {σ : L2.St} {H : Hp} {Q : L2.St → Hp → Prop} (e : v = v') (h : Q (σ.set i (some v')) H) : gName i v σ H Q := by
  rw [e]
  exact h
theorem asc_nd {x : Str} (h : Asc x) : x.cps.toList.Nodup := List.Pairwise.imp (fun {a b} h => Nat.ne_of_lt h) h
section
variable {P : Program} {w : World} {K : PySem.W.Frag} {mg : Str → Option Value} {base : Heap}
abbrev s_law_letters : Stmt := topS 35
theorem sc_law_letters : FnScope ["_law_pen_here", "_law_way", "_law_found", "_law_sign"] ["_law_pen_here"] (defScope s_law_letters) :=
  ⟨rfl, rfl, rfl, by decide +kernel, rfl, by decide +kernel, by decide +kernel⟩
def spLetters : Sp := fun vs H Q _ => ∃ (p c : Addr) (n : Nat), vs = [.ref p] ∧ Pen H p c n ∧ n + 40 < 1000000 ∧
  ∀ (x : Str) H', 1 ≤ x.length → x.length ≤ 6 → Small x → Asc x → Kp p H H' → Pen H' p c (n + 30) → Q (.str x) H'
theorem ok_letters {f : Addr} {fd : FuncData} (F : Fun K "_law_letters" "_law_letters" s_law_letters f fd) (c_law_take : CDraw P w K mg base) (mint : mg "int" = none) : FnOk P w K mg base CX0 2 f fd ["_law_pen_here"] spLetters := by
  refine F.ok sc_law_letters (fun vs H Q E h => ?_) (fun cdv A outer s H vs Q E hr h => ?_)
  · obtain ⟨p, c, n, rfl, _⟩ := h
    rfl
  · obtain ⟨p, c, n, rfl, hP, hn, q⟩ := h
    refine ⟨_, (pss_cons (ps_set (i := 1) sc_law_letters.nd rfl (.inl rfl) (pe_ca c_law_take (hr.mono (by decide)) (by rfl) (pa_cons (pv 0) (pa_cons pe_int pa_nil))))
      (pss_cons (ps_if (pt_cmpR op_lt (pv 1) pe_int (nomark _)) (pss_one (ps_ret (pe_ix (ixL K) (pe_lst (pa_cons pe_str (pa_cons pe_str (pa_cons pe_str (pa_cons pe_str (pa_cons pe_str (pa_cons pe_str (pa_cons pe_str pa_nil)))))))) (pv 1) (fun _ _ => rfl)))) pss_nil)
      (pss_cons (ps_set (i := 2) sc_law_letters.nd rfl (.inl rfl) (pe_slice sl_str (pe_join pe_str (pe_lc (own := [("_law_sign", 3)]) (g := gName 3) (by rfl) sc_law_letters.nd (pi_str pe_str) (blkOk_by (own := [("_law_sign", 3)]) (N := ["_law_pen_here", "_law_way", "_law_found", "_law_sign"]) (sc := defScope s_law_letters) (by decide +kernel)) (fun _ _ _ _ _ => (pg_name (i := 3) sc_law_letters.nd rfl (.inl rfl))) (fun _ _ _ _ _ => (pts_one (pt_cmpR op_eq (pe_ca c_law_take (hr.mono (by decide)) (by rfl) (pa_cons (pv 0) (pa_cons pe_int pa_nil))) pe_int (nomark _)))) (fun _ _ _ _ _ => (pv 3)))) po_none (po_some pe_int)))
      (pss_one (ps_ret (pe_ix (ixL K) (pe_lst (pa_cons (pv 2) (pa_cons pe_str pa_nil))) (pe_callTy call_int1 (by rfl) mint (by decide +kernel) (pa_cons (pe_cmpR op_eq (pv 2) pe_str (nomark _)) pa_nil)) (fun _ _ => rfl))))))), ?_⟩
    refine ⟨_, rfl, p, c, 8, n, rfl, hP, by omega, by decide, by decide, fun r1 H1 r1a r1b k1 hP1 => ?_⟩
    refine ⟨_, rfl, _, _, rfl, rfl, _, rfl, ite2 (fun e => ?_) (fun e => ?_)⟩
    · have e : r1 < 7 := of_decide_eq_true e
      refine ⟨szL (show 7 ≤ 1000000 by decide), fun l hl => ?_⟩
      obtain ⟨v, hvm, hat⟩ := atI_mem (xs := [V.str "ab", .str "a", .str "abc", .str "abcd", .str "xyz", .str "abcdef", .str "az"]) r1a (show r1 < 7 from e)
      have hv : ∀ v ∈ [V.str "ab", .str "a", .str "abc", .str "abcd", .str "xyz", .str "abcdef", .str "az"], ∃ x : Str, v = .str x ∧ 1 ≤ x.length ∧ x.length ≤ 6 ∧ Small x ∧ Asc x := by
        intro v hv
        simp only [List.mem_cons, List.not_mem_nil, or_false] at hv
        rcases hv with rfl | rfl | rfl | rfl | rfl | rfl | rfl <;> exact ⟨_, rfl, by decide +kernel, by decide +kernel, by unfold Small; decide +kernel, by unfold Asc; decide +kernel⟩
      obtain ⟨x, rfl, h1, h2, h3, h4⟩ := hv v hvm
      exact ⟨_, rfl, l, _, r1, _, rfl, rfl, SqL.of upd_same, hat, q x _ h1 h2 h3 h4 (k1.trans (Kp.new hl)) ((hP1.new hl).mono (by omega))⟩
    · refine ⟨⟨_, rfl⟩, AZs, rfl, fun D hD => lc_str (fun j H3 => ∃ sub : List Nat, H3 D = some (.lst (sub.map fun c => V.str ⟨#[c]⟩)) ∧ sub.Sublist (AZs.cps.toList.take j) ∧ Kp p H H3 ∧ Pen H3 p c (n + 1 + j))
        ⟨[], upd_same, List.nil_sublist _, k1.trans (Kp.new hD), hP1.new hD⟩ (fun j ch H3 hj hv => ?_) (fun H3 hv => ?_)⟩
      · obtain ⟨sub, hL, hsb, k3, hP3⟩ := hv
        have nD : D ≠ p := (hP1.ne hD).1
        have nDc : D ≠ c := (hP1.ne hD).2
        have hD0 : H D = none := none_of k1 nD hD
        have htj : AZs.cps.toList[j]? = some ch := by rw [Array.getElem?_toList]; exact hj
        have hj26 : j < 26 := by
          have h26 : AZs.cps.size = 26 := by decide +kernel
          have := (Array.getElem?_eq_some_iff.mp hj).1
          omega
        have hsl : sub.length ≤ j := by
          have := hsb.length_le
          rw [List.length_take] at this
          omega
        refine ⟨rfl, _, rfl, p, c, 5, _, rfl, hP3, by omega, by decide, by decide, fun r4 H4 r4a r4b k4 hP4 => ?_⟩
        have hL4 := k4 _ _ nD hL
        refine ⟨rfl, _, rfl, ite2 (fun e4 => ?_) (fun e4 => ?_)⟩
        · refine ⟨_, rfl, _, hL4, szLt (by rw [List.length_map]; omega), sub ++ [ch], by rw [upd_same, List.map_append]; rfl, ?_, (k3.trans k4).put hD0, (hP4.put nD nDc).mono (by omega)⟩
          · rw [List.take_add_one, htj]
            exact List.Sublist.append hsb (List.Sublist.refl _)
        · refine ⟨sub, hL4, ?_, k3.trans k4, hP4.mono (by omega)⟩
          rw [List.take_add_one]
          exact hsb.trans (List.sublist_append_left _ _)
      · obtain ⟨sub, hL, hsb, k3, hP3⟩ := hv
        have eall : AZs.cps.toList.take AZs.cps.size = AZs.cps.toList := List.take_of_length_le (by rw [Array.length_toList]; exact Nat.le_refl _)
        rw [eall] at hsb
        have h26 : AZs.cps.size = 26 := by decide +kernel
        rw [h26] at hP3
        have h26l : AZs.cps.toList.length = 26 := by decide +kernel
        have hsl : sub.length ≤ 26 := by
          have := hsb.length_le
          omega
        refine ⟨"", D, sub.map fun c => (⟨#[c]⟩ : Str), rfl, rfl, .inl (SqL.of (by rw [List.map_map]; exact hL)), fits_join (k := 26) (m := 1) (by rw [List.length_map]; exact hsl) (fun y hy => by
          obtain ⟨c, _, rfl⟩ := List.mem_map.mp hy
          exact Nat.le_refl 1) (by decide), ?_⟩
        have hjl : (Txt.join "" (sub.map fun c => (⟨#[c]⟩ : Str))).cps.toList = sub := by
          rw [join_str, join_sgs]
        have hj : (Txt.join "" (sub.map fun c => (⟨#[c]⟩ : Str))).length ≤ 26 := by
          show (Txt.join "" (sub.map fun c => (⟨#[c]⟩ : Str))).cps.size ≤ 26
          rw [← Array.length_toList, hjl]
          exact hsl
        generalize Txt.join "" (sub.map fun c => (⟨#[c]⟩ : Str)) = J at hjl hj
        have hJa : Asc J := by
          unfold Asc
          rw [hjl]
          exact az_asc.sublist hsb
        have hJs : Small J := fun c hc => by
          rw [hjl] at hc
          exact az_small c (hsb.subset hc)
        refine ⟨6, rfl, J, rfl, szL (by omega), ?_⟩
        have hx6 : (cutS J none (some 6)).length ≤ 6 := by
          have := cutS_to J 6
          have e : cutS J none (some ((6 : Nat) : Int)) = cutS J none (some 6) := rfl
          rw [e] at this
          omega
        have hxa := hJa.cut none (some 6)
        have hxs : Small (cutS J none (some 6)) := fun c hc => hJs c (cutS_of (fun d hd => hd) _ _ c hc)
        generalize cutS J none (some 6) = x at hx6 hxa hxs
        refine ⟨_, rfl, szL (show 2 ≤ 1000000 by decide), fun l hl => ⟨_, rfl, rfl, .inr ⟨_, rfl, ?_⟩⟩⟩
        have kl : Kp p H (upd H3 l (.lst [.str x, .str "m"])) := k3.trans (Kp.new hl)
        have hPl : Pen (upd H3 l (.lst [.str x, .str "m"])) p c (n + 30) := (hP3.new hl).mono (by omega)
        by_cases hx0 : x = ""
        · rw [decide_eq_true (show V.str x = V.str "" from congrArg V.str hx0), if_pos rfl]
          exact ⟨l, _, 1, .str "m", rfl, rfl, SqL.of upd_same, rfl, q "m" _ (by decide +kernel) (by decide +kernel) (by unfold Small; decide +kernel) (by unfold Asc; decide +kernel) kl hPl⟩
        · rw [decide_eq_false (show ¬ V.str x = V.str "" from fun z => hx0 (V.str.inj z)), if_neg Bool.false_ne_true]
          refine ⟨l, _, 0, .str x, rfl, rfl, SqL.of upd_same, rfl, q x _ ?_ hx6 hxs hxa kl hPl⟩
          cases e0 : x.cps.toList with
          | nil =>
            refine absurd (PySem.W.str_of_cps ?_) hx0
            rw [e0]
            decide +kernel
          | cons a b =>
            show 1 ≤ x.cps.size
            rw [← Array.length_toList, e0, List.length_cons]
            omega
abbrev CLetters (P : Program) (w : World) (K : PySem.W.Frag) (mg : Str → Option Value) (base : Heap) : Prop := Ca P w K mg base 2 "_law_letters" ["_law_pen_here"] spLetters
abbrev s_law_worth : Stmt := topS 36
theorem sc_law_worth : FnScope ["_law_pen_here", "_law_limit", "_law_any_of"] ["_law_pen_here", "_law_limit"] (defScope s_law_worth) :=
  ⟨rfl, rfl, rfl, by decide +kernel, rfl, by decide +kernel, by decide +kernel⟩
def spWorth : Sp := fun vs H Q _ => ∃ (p c : Addr) (l : Int) (n : Nat), vs = [.ref p, .int l] ∧ 2 ≤ l ∧ l ≤ 99 ∧ Pen H p c n ∧ n + 3 < 1000000 ∧
  ∀ (i : Int) H', -l ≤ i → i ≤ l → Kp p H H' → Pen H' p c (n + 3) → Q (.int i) H'
theorem ok_worth {f : Addr} {fd : FuncData} (F : Fun K "_law_worth" "_law_worth" s_law_worth f fd) (c_law_take : CDraw P w K mg base) : FnOk P w K mg base CX0 2 f fd ["_law_pen_here", "_law_limit"] spWorth := by
  refine F.ok sc_law_worth (fun vs H Q E h => ?_) (fun cdv A outer s H vs Q E hr h => ?_)
  · obtain ⟨p, c, l, n, rfl, _⟩ := h
    rfl
  · obtain ⟨p, c, l, n, rfl, l1, l9, hP, hn, q⟩ := h
    refine ⟨_, (pss_cons (ps_set (i := 2) sc_law_worth.nd rfl (.inl rfl) (pe_op op_sub (pe_ca c_law_take (hr.mono (by decide)) (by rfl) (pa_cons (pv 0) (pa_cons (pe_op op_add (pe_op op_mul pe_int (pv 1)) pe_int) pa_nil))) (pv 1)))
      (pss_one (ps_ret (pe_ix (ixL K) (pe_lst (pa_cons (pe_op op_sub (pe_ca c_law_take (hr.mono (by decide)) (by rfl) (pa_cons (pv 0) (pa_cons pe_int pa_nil))) pe_int) (pa_cons pe_int (pa_cons (pv 2) (pa_cons (pv 1) (pa_cons (pe_op op_sub pe_int (pv 1)) (pa_cons (pv 2) (pa_cons (pe_un un_neg pe_int) pa_nil)))))))) (pe_ca c_law_take (hr.mono (by decide)) (by rfl) (pa_cons (pv 0) (pa_cons pe_int pa_nil))) (fun _ _ => rfl))))), ?_⟩
    refine ⟨_, rfl, _, rfl, 2, l, rfl, rfl, .inl ⟨by decide, by decide⟩, _, 1, rfl, rfl, p, c, _, n, rfl, hP, by omega, by omega, by omega, fun r1 H1 r1a r1b k1 hP1 => ?_⟩
    refine ⟨_, rfl, r1, l, rfl, rfl, ?_⟩
    refine ⟨_, rfl, p, c, 5, n + 1, rfl, hP1, by omega, by decide, by decide, fun r2 H2 r2a r2b k2 hP2 => ⟨r2, 2, rfl, rfl, ?_⟩⟩
    refine ⟨_, rfl, _, rfl, _, rfl, 0, l, rfl, rfl, _, rfl, 1, rfl, szL (show 7 ≤ 1000000 by decide), fun a ha => ?_⟩
    refine ⟨_, rfl, p, c, 7, n + 2, rfl, hP2.new ha, by omega, by decide, by decide, fun r3 H3 r3a r3b k3 hP3 => ?_⟩
    obtain ⟨z, hz, hat⟩ := atI_ints (ns := [r2 - 2, 0, r1 - l, l, 0 - l, r1 - l, -1]) r3a r3b
    have hz2 : -l ≤ z ∧ z ≤ l := by
      simp only [List.mem_cons, List.not_mem_nil, or_false] at hz
      omega
    exact ⟨a, _, r3, _, rfl, rfl, SqL.of (k3 _ _ (hP2.ne ha).1 upd_same), hat, q z _ hz2.1 hz2.2 ((k1.trans k2).trans ((Kp.new ha).trans k3)) (hP3.mono (by omega))⟩
abbrev CWorth (P : Program) (w : World) (K : PySem.W.Frag) (mg : Str → Option Value) (base : Heap) : Prop := Ca P w K mg base 2 "_law_worth" ["_law_pen_here", "_law_limit"] spWorth
end
end Pf


namespace Pf
open PySem PySem.Spec PyProof.Rows L2
/-! ### rows that grow, one after another -/
theorem nd_flat {α β γ : Type} {l : List α} {m : List β} {f : α → β → γ} (hf : ∀ a b a' b', f a b = f a' b' → a = a' ∧ b = b') (hl : l.Nodup) (hm : m.Nodup) : (l.flatMap fun a => m.map (f a)).Nodup := by
  refine List.pairwise_flatMap.mpr ⟨fun a _ => List.pairwise_map.mpr (hm.imp fun h e => h (hf _ _ _ _ e).2), hl.imp fun {a b} h x hx y hy e => ?_⟩
  obtain ⟨u, _, rfl⟩ := List.mem_map.mp hx
  obtain ⟨v, _, rfl⟩ := List.mem_map.mp hy
  exact h (hf _ _ _ _ e).1
def tw (a b : Nat) : Str := (⟨#[a]⟩ : Str) ++ ⟨#[b]⟩
theorem tw_inj (a b a' b' : Nat) (h : tw a b = tw a' b') : a = a' ∧ b = b' := by
  have h2 := congrArg (fun x : Str => x.cps.toList) h
  have e : ∀ a b, (tw a b).cps.toList = [a, b] := fun a b => by
    unfold tw
    rw [Str.cps_append, Array.toList_append]
    rfl
  have h2 : (tw a b).cps.toList = (tw a' b').cps.toList := h2
  rw [e, e] at h2
  injection h2 with h3 h4
  injection h4 with h5 _
  exact ⟨h3, h5⟩
def evS (L : List Nat) (i : Nat) : List Str := (L.take i).flatMap fun a => L.map (tw a)
theorem evS_nd {L : List Nat} (h : L.Nodup) (i : Nat) : (evS L i).Nodup := nd_flat tw_inj ((List.take_sublist _ _).nodup h) h
theorem evS_succ {L : List Nat} {i ch : Nat} (h : L[i]? = some ch) : evS L (i + 1) = evS L i ++ L.map (tw ch) := by
  unfold evS
  rw [List.take_add_one, h, List.flatMap_append]
  simp
theorem evS_mem {L : List Nat} {i : Nat} {t : Str} (h : t ∈ evS L i) : ∃ a ∈ L, ∃ b ∈ L, t = tw a b := by
  obtain ⟨a, ha, h⟩ := List.mem_flatMap.mp h
  obtain ⟨b, hb, rfl⟩ := List.mem_map.mp h
  exact ⟨a, List.mem_of_mem_take ha, b, hb, rfl⟩
def prS (ts : List Str) (i : Nat) : List (Str × Str) := (ts.take i).flatMap fun a => ts.map fun b => (a, b)
theorem prS_nd {ts : List Str} (h : ts.Nodup) (i : Nat) : (prS ts i).Nodup := nd_flat (fun a b a' b' e => ⟨congrArg Prod.fst e, congrArg Prod.snd e⟩) ((List.take_sublist _ _).nodup h) h
theorem prS_succ {ts : List Str} {i : Nat} {a : Str} (h : ts[i]? = some a) : prS ts (i + 1) = prS ts i ++ ts.map fun b => (a, b) := by
  unfold prS
  rw [List.take_add_one, h, List.flatMap_append]
  simp
theorem prS_mem {ts : List Str} {i : Nat} {k : Str × Str} (h : k ∈ prS ts i) : k.1 ∈ ts ∧ k.2 ∈ ts := by
  obtain ⟨a, ha, h⟩ := List.mem_flatMap.mp h
  obtain ⟨b, hb, rfl⟩ := List.mem_map.mp h
  exact ⟨List.mem_of_mem_take ha, hb⟩
def GrowP {α : Type} (R : Hp → V → α → Prop) (p l : Addr) (H H2 : Hp) (xs : List α) : Prop := ∃ us, H2 l = some (.lst us) ∧ Paired (R H2) us xs ∧ Kp p H H2
/-- what two lists leave as it was -/
def Kp2 (p q : Addr) (H H' : Hp) : Prop := ∀ b o, b ≠ p → b ≠ q → H b = some o → H' b = some o
theorem Kp2.refl {p q : Addr} {H : Hp} : Kp2 p q H H := fun _ _ _ _ e => e
theorem Kp2.left {p q : Addr} {H H' : Hp} (k : Kp p H H') : Kp2 p q H H' := fun b o n _ e => k b o n e
theorem Kp2.right {p q : Addr} {H H' : Hp} (k : Kp q H H') : Kp2 p q H H' := fun b o _ n e => k b o n e
theorem Kp2.trans {p q : Addr} {H H1 H2 : Hp} (a : Kp2 p q H H1) (b : Kp2 p q H1 H2) : Kp2 p q H H2 := fun c o n m e => b c o n m (a c o n m e)
theorem GrowP.kp {α : Type} {R : Hp → V → α → Prop} (m : Mono R) {p l : Addr} {H H2 H3 : Hp} {xs : List α} (g : GrowP R p l H H2 xs) (n : l ≠ p) (k : Kp p H2 H3) (tk : TupK H2 H3) : GrowP R p l H H3 xs := by
  obtain ⟨us, h1, h2, h3⟩ := g
  exact ⟨us, k _ _ n h1, paired_imp (fun _ _ => m _ _ _ _ tk) h2, h3.trans k⟩
theorem GrowP.add {α : Type} {R : Hp → V → α → Prop} (m : Mono R) {p l t : Addr} {H H2 : Hp} {xs : List α} {x : α} {us ys : List V} (h1 : H2 l = some (.lst us)) (h2 : Paired (R H2) us xs) (h3 : Kp p H H2) (hl : H l = none) (ht : H2 t = none) (hx : ∀ H', H' t = some (.tup ys) → R H' (.ref t) x) :
    GrowP R p l H (upd (upd H2 t (.tup ys)) l (.lst (us ++ [.ref t]))) (xs ++ [x]) := by
  have e := Ext.new (o := .tup ys) ht
  have hl2 := e _ _ h1
  have tk : TupK H2 (upd (upd H2 t (.tup ys)) l (.lst (us ++ [.ref t]))) := (TupK.ext e).trans (TupK.lst hl2)
  have nt : t ≠ l := (ne_of_none h1 ht).symm
  refine ⟨us ++ [.ref t], upd_same, (paired_imp (fun _ _ => m _ _ _ _ tk) h2).snoc (hx _ (by rw [upd_ne nt, upd_same])), (h3.trans (Kp.ext e)).put hl⟩
section
variable {P : Program} {w : World} {K : PySem.W.Frag} {mg : Str → Option Value} {base : Heap}
def WB (m : Int) (r : Rl) : Prop := (∀ y ∈ r.prs, -m ≤ y.2 ∧ y.2 ≤ m) ∧ (∀ y ∈ r.loops, -m ≤ y ∧ y ≤ m) ∧ ∀ y ∈ r.stk, -m ≤ y.2.2 ∧ y.2.2 ≤ m
abbrev s_law_rules : Stmt := topS 37
theorem sc_law_rules : FnScope ["_law_pen_here", "_law_limit", "_law_letters_here", "_law_rows", "_law_dense", "_law_one", "_law_two", "_law_costs", "_law_stacked", "_law_k"] ["_law_pen_here", "_law_limit"] (defScope s_law_rules) :=
  ⟨rfl, rfl, rfl, by decide +kernel, rfl, by decide +kernel, by decide +kernel⟩
def spRules : Sp := fun vs H Q _ => ∃ (p c : Addr) (m : Int) (n : Nat), vs = [.ref p, .int m] ∧ 2 ≤ m ∧ m ≤ 99 ∧ Pen H p c n ∧ n + 1200 < 1000000 ∧
  ∀ v r H', RulesAt H' v r → RlOk r → OfP r → WB m r → Asc r.letters → (∀ y ∈ r.stk, y.1 ∈ r.prs.map (·.1) ∧ y.2.1 ∈ r.prs.map (·.1)) → Kp p H H' → Pen H' p c (n + 1200) → Q v H'
theorem ok_rules {f : Addr} {fd : FuncData} (F : Fun K "_law_rules" "_law_rules" s_law_rules f fd) (c_law_take : CDraw P w K mg base) (c_law_letters : CLetters P w K mg base) (c_law_worth : CWorth P w K mg base)
    (mlen : mg "len" = none) (mtuple : mg "tuple" = none) (mrange : mg "range" = none) : FnOk P w K mg base CX0 3 f fd ["_law_pen_here", "_law_limit"] spRules := by
  refine F.ok sc_law_rules (fun vs H Q E h => ?_) (fun cdv A outer s H vs Q E hr h => ?_)
  · obtain ⟨p, c, m, n, rfl, _⟩ := h
    rfl
  · obtain ⟨p, c, m, n, rfl, m2, m9, hP, hn, q⟩ := h
    refine ⟨_, (pss_cons (ps_set (i := 2) sc_law_rules.nd rfl (.inl rfl) (pe_ca c_law_letters (hr.mono (by decide)) (by rfl) (pa_cons (pv 0) pa_nil)))
      (pss_cons (ps_set (i := 3) sc_law_rules.nd rfl (.inl rfl) (pe_lst pa_nil))
      (pss_cons (ps_set (i := 4) sc_law_rules.nd rfl (.inl rfl) (pe_ca c_law_take (hr.mono (by decide)) (by rfl) (pa_cons (pv 0) (pa_cons pe_int pa_nil))))
      (pss_cons (ps_for PassesOwn.never rfl (pi_str (pv 2)) (pg_name (i := 5) sc_law_rules.nd rfl (.inl rfl)) (pss_one (ps_for PassesOwn.never rfl (pi_str (pv 2)) (pg_name (i := 6) sc_law_rules.nd rfl (.inl rfl)) (pss_one (ps_if (PW.pt (pw_and (pt_cmpR op_lt (pe_callB (lenQ K) (by rfl) mlen (by decide +kernel) (pa_cons (pv 3) pa_nil)) pe_int (nomark _)) (pw_and1 (pt_cmpR op_gt (pe_op op_add (pe_ca c_law_take (hr.mono (by decide)) (by rfl) (pa_cons (pv 0) (pa_cons pe_int pa_nil))) (pv 4)) pe_int (nomark _))))) (pss_one (ps_expr (pe_bm PySem.F.plainAttrs_list PySem.F.slot_list_append PySem.F.type_list_append mt_append (pv 3) (pa_cons (pe_tup (pa_cons (pe_op op_add_str (pv 5) (pv 6)) (pa_cons (pe_ca c_law_worth (hr.mono (by decide)) (by rfl) (pa_cons (pv 0) (pa_cons (pv 1) pa_nil))) pa_nil))) pa_nil)))) pss_nil)))))
      (pss_cons (ps_set (i := 7) sc_law_rules.nd rfl (.inl rfl) (pe_callTy (tupleOf K) (by rfl) mtuple (by decide +kernel) (pa_cons (pe_lc (own := [("_law_k", 9)]) (g := gName 9) (by rfl) sc_law_rules.nd (pi_range1 (by rfl) mrange (pa_cons pe_int pa_nil)) (blkOk_by (own := [("_law_k", 9)]) (N := ["_law_pen_here", "_law_limit", "_law_letters_here", "_law_rows", "_law_dense", "_law_one", "_law_two", "_law_costs", "_law_stacked", "_law_k"]) (sc := defScope s_law_rules) (by decide +kernel)) (fun _ _ _ _ _ => (pg_name (i := 9) sc_law_rules.nd rfl (.inl rfl))) (fun _ _ _ _ _ => pts_nil) (fun _ _ _ _ _ => (pe_ca c_law_worth (hr.mono (by decide)) (by rfl) (pa_cons (pv 0) (pa_cons (pv 1) pa_nil))))) pa_nil)))
      (pss_cons (ps_if (pt_cmpR op_eq (pe_ca c_law_take (hr.mono (by decide)) (by rfl) (pa_cons (pv 0) (pa_cons pe_int pa_nil))) pe_int (nomark _)) (pss_one (ps_set (i := 7) sc_law_rules.nd rfl (.inl rfl) (pe_op (repT K) (pe_tup (pa_cons pe_int pa_nil)) pe_int))) pss_nil)
      (pss_cons (ps_set (i := 8) sc_law_rules.nd rfl (.inl rfl) (pe_lst pa_nil))
      (pss_cons (ps_for PassesOwn.never rfl (pi_list (pv 3)) (pg_name (i := 5) sc_law_rules.nd rfl (.inl rfl)) (pss_one (ps_for PassesOwn.never rfl (pi_list (pv 3)) (pg_name (i := 6) sc_law_rules.nd rfl (.inl rfl)) (pss_one (ps_if (PW.pt (pw_and (pt_cmpR op_lt (pe_callB (lenQ K) (by rfl) mlen (by decide +kernel) (pa_cons (pv 8) pa_nil)) pe_int (nomark _)) (pw_and1 (pt_cmpR op_eq (pe_ca c_law_take (hr.mono (by decide)) (by rfl) (pa_cons (pv 0) (pa_cons pe_int pa_nil))) pe_int (nomark _))))) (pss_one (ps_expr (pe_bm PySem.F.plainAttrs_list PySem.F.slot_list_append PySem.F.type_list_append mt_append (pv 8) (pa_cons (pe_tup (pa_cons (pe_ix (ixT K) (pv 5) pe_int (fun _ _ => rfl)) (pa_cons (pe_ix (ixT K) (pv 6) pe_int (fun _ _ => rfl)) (pa_cons (pe_ca c_law_worth (hr.mono (by decide)) (by rfl) (pa_cons (pv 0) (pa_cons (pv 1) pa_nil))) pa_nil)))) pa_nil)))) pss_nil)))))
      (pss_one (ps_ret (pe_tup (pa_cons (pv 2) (pa_cons (pe_callTy (tupleFz K) (by rfl) mtuple (by decide +kernel) (pa_cons (pv 3) pa_nil)) (pa_cons (pe_ix (ixL K) (pe_lst (pa_cons pe_int (pa_cons pe_int (pa_cons pe_int (pa_cons (pe_ca c_law_take (hr.mono (by decide)) (by rfl) (pa_cons (pv 0) (pa_cons pe_int pa_nil))) pa_nil))))) (pe_ca c_law_take (hr.mono (by decide)) (by rfl) (pa_cons (pv 0) (pa_cons pe_int pa_nil))) (fun _ _ => rfl)) (pa_cons (pv 7) (pa_cons (pe_callTy (tupleOf K) (by rfl) mtuple (by decide +kernel) (pa_cons (pv 8) pa_nil)) pa_nil)))))))))))))))), ?_⟩
    refine ⟨_, rfl, p, c, n, rfl, hP, by omega, fun sg H1 hs1 hs6 hsm hsa k1 hP1 => ?_⟩
    refine ⟨Nat.zero_le _, fun lr hlr => ?_⟩
    have nr : lr ≠ p := (hP1.ne hlr).1
    have nrc : lr ≠ c := (hP1.ne hlr).2
    have hlr0 : H lr = none := none_of k1 nr hlr
    refine ⟨_, rfl, p, c, 3, _, rfl, hP1.new hlr, by omega, by decide, by decide, fun rd H2 rda rdb k2 hP2 => ?_⟩
    have g2 : GrowP PairAt p lr H H2 [] := ⟨[], k2 _ _ nr upd_same, .nil, (k1.trans (Kp.new hlr)).trans k2⟩
    obtain ⟨L, hL⟩ : ∃ L, L = sg.cps.toList := ⟨_, rfl⟩
    have hLl : L.length = sg.length := by rw [hL]; exact Array.length_toList
    have hLn : L.Nodup := hL ▸ asc_nd hsa
    -- pairs
    refine ⟨_, rfl, _, rfl, for_str (fun i σ H3 => ∃ (y5 y6 : Option V) (prs : List (Str × Int)), σ = [some (.ref p), some (.int m), some (.str sg), some (.ref lr), some (.int rd), y5, y6, none, none, none] ∧ GrowP PairAt p lr H H3 prs ∧ prs.length ≤ 12 ∧ (∀ y ∈ prs, -m ≤ y.2 ∧ y.2 ≤ m) ∧ (prs.map (·.1)).Sublist (evS L i) ∧ Pen H3 p c (n + 31 + 30 * i))
      ⟨none, none, [], rfl, g2, by decide, (fun y hy => by cases hy), List.nil_sublist _, hP2⟩ (fun i ch σ H3 hi hv => ?_) (fun σ H3 hv => ?_)⟩
    · obtain ⟨y5, y6, prs, rfl, g3, hp12, hpb, hps, hP3⟩ := hv
      have hi6 : i < sg.length := (Array.getElem?_eq_some_iff.mp hi).1
      have hLi : L[i]? = some ch := by rw [hL, Array.getElem?_toList]; exact hi
      refine ⟨_, rfl, _, rfl, for_str (fun j σ H4 => ∃ (y6 : Option V) (prs : List (Str × Int)), σ = [some (.ref p), some (.int m), some (.str sg), some (.ref lr), some (.int rd), some (.str ⟨#[ch]⟩), y6, none, none, none] ∧ GrowP PairAt p lr H H4 prs ∧ prs.length ≤ 12 ∧ (∀ y ∈ prs, -m ≤ y.2 ∧ y.2 ≤ m) ∧ (prs.map (·.1)).Sublist (evS L i ++ (L.take j).map (tw ch)) ∧ Pen H4 p c (n + 31 + 30 * i + 5 * j))
        ⟨y6, prs, rfl, g3, hp12, hpb, by rw [List.take_zero, List.map_nil, List.append_nil]; exact hps, hP3⟩ (fun j cj σ H4 hj hv => ?_) (fun σ H4 hv => ?_)⟩
      · obtain ⟨y6, prs, rfl, ⟨us, hU, hPr, k4⟩, hp12, hpb, hps, hP4⟩ := hv
        have hj6 : j < sg.length := (Array.getElem?_eq_some_iff.mp hj).1
        have hLj : L[j]? = some cj := by rw [hL, Array.getElem?_toList]; exact hj
        have etk : (L.take (j + 1)).map (tw ch) = (L.take j).map (tw ch) ++ [tw ch cj] := by
          rw [List.take_add_one, hLj, List.map_append]
          rfl
        have hps' : (prs.map (·.1)).Sublist (evS L i ++ (L.take (j + 1)).map (tw ch)) := by
          rw [etk, ← List.append_assoc]
          exact hps.trans (List.sublist_append_left _ _)
        have hul := paired_len hPr
        refine ⟨_, rfl, lr, us, rfl, .inl (SqL.of hU), _, 12, rfl, rfl, _, rfl, ite2 (fun e1 => ?_) (fun e1 => iteF ⟨_, prs, rfl, ⟨us, hU, hPr, k4⟩, hp12, hpb, hps', hP4.mono (by omega)⟩)⟩
        have e1 : ((us.length : Nat) : Int) < 12 := of_decide_eq_true e1
        refine ⟨_, rfl, p, c, 3, _, rfl, hP4, by omega, by decide, by decide, fun r5 H5 r5a r5b k5 hP5 => ?_⟩
        have tk5 := TupK.of k5 hP4
        refine ⟨_, rfl, r5, rd, rfl, rfl, _, 1, rfl, rfl, _, rfl, ite2 (fun e2 => ?_) (fun e2 => ⟨_, prs, rfl, GrowP.kp PairAt.mono ⟨us, hU, hPr, k4⟩ nr k5 tk5, hp12, hpb, hps', hP5.mono (by omega)⟩)⟩
        have hU5 := k5 _ _ nr hU
        refine ⟨_, rfl, .inl ⟨rfl, _, SqL.of hU5⟩, _, rfl, _, rfl, ⟨#[ch]⟩, ⟨#[cj]⟩, rfl, rfl, szL (show 1 + 1 ≤ 1000000 by decide), _, rfl, _, rfl, p, c, m, _, rfl, m2, m9, hP5, by omega, fun z H6 z0 z1 k6 hP6 => ⟨szL (show 2 ≤ 1000000 by decide), fun t ht => ?_⟩⟩
        have tk46 := tk5.trans (TupK.of k6 hP5)
        have hU6 := k6 _ _ nr hU5
        refine ⟨lr, us, .ref t, rfl, rfl, Ext.new ht _ _ hU6, szLt (by omega), ?_⟩
        refine ⟨_, prs ++ [(tw ch cj, z)], rfl, GrowP.add PairAt.mono hU6 (paired_imp (fun _ _ => PairAt.mono _ _ _ _ tk46) hPr) ((k4.trans k5).trans k6) hlr0 ht (fun H' h => ⟨t, rfl, h⟩), by rw [List.length_append, List.length_singleton]; omega, fun y hy => ?_, ?_, ((hP6.new ht).put nr nrc).mono (by omega)⟩
        · rcases List.mem_append.mp hy with hy | hy
          · exact hpb y hy
          · rw [List.mem_singleton.mp hy]
            exact ⟨z0, z1⟩
        · rw [List.map_append, etk, ← List.append_assoc]
          exact List.Sublist.append hps (List.Sublist.refl _)
      · obtain ⟨y6, prs, rfl, g4, hp12, hpb, hps, hP4⟩ := hv
        have e : L.take sg.cps.size = L := List.take_of_length_le (by rw [hLl]; exact Nat.le_refl _)
        rw [e, ← evS_succ hLi] at hps
        have h6 : sg.cps.size ≤ 6 := hs6
        exact ⟨_, _, prs, rfl, g4, hp12, hpb, hps, hP4.mono (by omega)⟩
    · obtain ⟨y5, y6, prs, rfl, g3, hp12, hpb, hps, hP3⟩ := hv
      have h6 : sg.cps.size ≤ 6 := hs6
      obtain ⟨us3, hU3, hPr3, k3⟩ := g3
      -- what loops cost
      refine ⟨9, rfl, by decide, by decide, fun D hD => lc_range (n := 9) (fun k H4 => ∃ ns : List Int, ns.length = k ∧ (∀ y ∈ ns, -m ≤ y ∧ y ≤ m) ∧ Kp p H3 H4 ∧ H4 D = some (.lst (ns.map V.int)) ∧ Pen H4 p c (n + 211 + 3 * k))
        ⟨[], rfl, (fun y hy => by cases hy), Kp.new hD, upd_same, (hP3.new hD).mono (by omega)⟩ (fun k H4 hk hv => ?_) (fun H4 hv => ?_)⟩
      · obtain ⟨ns, hnl, hnb, k4, hD4, hP4⟩ := hv
        refine ⟨rfl, _, rfl, _, rfl, p, c, m, _, rfl, m2, m9, hP4, by omega, fun z H5 z0 z1 k5 hP5 => ?_⟩
        have nD : D ≠ p := (hP3.ne hD).1
        have nDc : D ≠ c := (hP3.ne hD).2
        refine ⟨_, k5 _ _ nD hD4, szLt (by rw [List.length_map]; omega), ns ++ [z], by rw [List.length_append, List.length_singleton, hnl], fun y hy => ?_, (k4.trans k5).put hD, by rw [upd_same, List.map_append]; rfl, (hP5.put nD nDc).mono (by omega)⟩
        rcases List.mem_append.mp hy with hy | hy
        · exact hnb y hy
        · rw [List.mem_singleton.mp hy]
          exact ⟨z0, z1⟩
      · obtain ⟨ns, hnl, hnb, k4, hD4, hP4⟩ := hv
        refine ⟨D, _, rfl, .inl ⟨SqL.of hD4, fun tl htl => ?_⟩⟩
        have k5 : Kp p H3 (upd H4 tl (.tup (ns.map V.int))) := k4.trans (Kp.new htl)
        have hP5 := hP4.new (o := .tup (ns.map V.int)) htl
        have hT5 : TupOf IntAt (upd H4 tl (.tup (ns.map V.int))) (.ref tl) ns := ⟨tl, _, rfl, upd_same, paired_ints ns⟩
        generalize upd H4 tl (.tup (ns.map V.int)) = H5 at k5 hP5 hT5 ⊢
        refine ⟨_, rfl, p, c, 4, _, rfl, hP5, by omega, by decide, by decide, fun r6 H6 r6a r6b k6 hP6 => ⟨rfl, _, rfl, ite2 (fun e6 => ?_) (fun e6 => ?_)⟩⟩
        rotate_left
        have k7 : Kp p H3 H6 := k5.trans k6
        have hP7 : Pen H6 p c (n + 240) := hP6.mono (by omega)
        have hT7 := TupOf.mono IntAt.mono _ _ _ _ (TupK.of k6 hP5) hT5
        generalize H6 = H7 at k7 hP7 hT7 ⊢
        rotate_left
        refine ⟨szL (show 1 ≤ 1000000 by decide), fun t0 ht0 => ⟨t0, 9, [.int 0], rfl, rfl, SqT.of upd_same, (fun z => by cases z), by decide, by decide, by decide, fun tl htl => ?_⟩⟩
        have k7 : Kp p H3 (upd (upd H6 t0 (.tup [.int 0])) tl (.tup (List.replicate (9 : Int).toNat [V.int 0]).flatten)) := ((k5.trans k6).trans (Kp.new ht0)).trans (Kp.new htl)
        have hP7 : Pen (upd (upd H6 t0 (.tup [.int 0])) tl (.tup (List.replicate (9 : Int).toNat [V.int 0]).flatten)) p c (n + 240) := ((hP6.new ht0).new htl).mono (by omega)
        have hT7 : TupOf IntAt (upd (upd H6 t0 (.tup [.int 0])) tl (.tup (List.replicate (9 : Int).toNat [V.int 0]).flatten)) (.ref tl) (List.replicate 9 0) := ⟨tl, _, rfl, upd_same, paired_ints (List.replicate 9 0)⟩
        have hnl : (List.replicate 9 (0 : Int)).length = 9 := rfl
        have hnb : ∀ y ∈ List.replicate 9 (0 : Int), -m ≤ y ∧ y ≤ m := fun y hy => by
          rw [(List.mem_replicate.mp hy).2]
          omega
        generalize List.replicate 9 (0 : Int) = ns at hT7 hnl hnb
        generalize upd (upd H6 t0 (.tup [.int 0])) tl (.tup (List.replicate (9 : Int).toNat [V.int 0]).flatten) = H7 at k7 hP7 hT7 ⊢
        all_goals
          refine ⟨Nat.zero_le _, fun ls hls => ?_⟩
          have n1 : ls ≠ p := (hP7.ne hls).1
          have n1c : ls ≠ c := (hP7.ne hls).2
          have hls0 : H ls = none := none_of (k3.trans k7) n1 hls
          have hU7 := k7 _ _ nr hU3
          have nls : lr ≠ ls := ne_of_none hU7 hls
          have kB := (k3.trans k7).put (o := .lst []) hls0
          have hUB := Ext.new (o := .lst []) hls _ _ hU7
          have hPB := hP7.new (o := .lst []) hls
          have tkB : TupK H3 (upd H7 ls (.lst [])) := (TupK.of k7 hP3).trans (TupK.new (o := .lst []) hls)
          have hPrB := paired_imp (fun _ _ => PairAt.mono _ _ _ _ tkB) hPr3
          have hTB := TupOf.mono IntAt.mono _ _ _ _ (TupK.new (o := .lst []) hls) hT7
          have hLB : (upd H7 ls (.lst [])) ls = some (.lst []) := upd_same
          generalize upd H7 ls (.lst []) = HB at kB hUB hPB hPrB hTB hLB ⊢
          have hnd : (prs.map (·.1)).Nodup := hps.nodup (evS_nd hLn _)
          obtain ⟨ts, hts⟩ : ∃ ts, ts = prs.map (·.1) := ⟨_, rfl⟩
          have htl12 : ts.length ≤ 12 := by rw [hts, List.length_map]; exact hp12
          have hul := paired_len hPrB
          have hutl : us3.length = ts.length := by rw [hul, hts, List.length_map]
          have tkX : ∀ {HX}, Kp2 p ls HB HX → TupK HB HX := fun k => ⟨fun b xs e => k b _ (hPB.tup e) (ne_of e hLB (by intro z; cases z)) e, fun b ob u e => k b _ (hPB.frz e) (ne_of e hLB (by intro z; cases z)) e⟩
          refine ⟨_, rfl, lr, rfl, ⟨_, SqL.of hUB⟩, for_list (K := K) (xs := us3) (fun i σ H8 => ∃ (y5 y6 : Option V) (stk : List (Str × Str × Int)) (ws : List V), σ = [some (.ref p), some (.int m), some (.str sg), some (.ref lr), some (.int rd), y5, y6, some (.ref tl), some (.ref ls), none] ∧ H8 ls = some (.lst ws) ∧ Paired (StackAt H8) ws stk ∧ stk.length ≤ 12 ∧ (∀ y ∈ stk, -m ≤ y.2.2 ∧ y.2.2 ≤ m) ∧ (stk.map fun y => (y.1, y.2.1)).Sublist (prS ts i) ∧ Kp2 p ls HB H8 ∧ Pen H8 p c (n + 240 + 60 * i))
            ⟨_, _, [], [], rfl, hLB, .nil, by decide, (fun y hy => by cases hy), List.nil_sublist _, Kp2.refl, hPB⟩ (fun i σ H8 _ h => by obtain ⟨_, _, _, _, _, _, _, _, _, _, k, _⟩ := h; exact SqL.of (k _ _ nr nls hUB)) (fun i u σ H8 hi hv => ?_) (fun σ H8 hv => ?_)⟩
          · obtain ⟨y5, y6, stk, ws, rfl, hW, hPw, hs12, hsb, hsk, k8, hP8⟩ := hv
            obtain ⟨ya, hya, t1, rfl, h1⟩ := paired_get hPrB hi
            have htsi : ts[i]? = some ya.1 := by rw [hts, List.getElem?_map, hya]; rfl
            have hi12 : i < 12 := by
              have := (List.getElem?_eq_some_iff.mp hi).1
              omega
            refine ⟨_, rfl, lr, rfl, ⟨_, SqL.of (k8 _ _ nr nls hUB)⟩, for_list (K := K) (xs := us3) (fun j σ H9 => ∃ (y6 : Option V) (stk : List (Str × Str × Int)) (ws : List V), σ = [some (.ref p), some (.int m), some (.str sg), some (.ref lr), some (.int rd), some (.ref t1), y6, some (.ref tl), some (.ref ls), none] ∧ H9 ls = some (.lst ws) ∧ Paired (StackAt H9) ws stk ∧ stk.length ≤ 12 ∧ (∀ y ∈ stk, -m ≤ y.2.2 ∧ y.2.2 ≤ m) ∧ (stk.map fun y => (y.1, y.2.1)).Sublist (prS ts i ++ (ts.take j).map fun b => (ya.1, b)) ∧ Kp2 p ls HB H9 ∧ Pen H9 p c (n + 240 + 60 * i + 5 * j))
              ⟨_, stk, ws, rfl, hW, hPw, hs12, hsb, by rw [List.take_zero, List.map_nil, List.append_nil]; exact hsk, k8, hP8⟩ (fun j σ H9 _ h => by obtain ⟨_, _, _, _, _, _, _, _, _, k, _⟩ := h; exact SqL.of (k _ _ nr nls hUB)) (fun j u σ H9 hj hv => ?_) (fun σ H9 hv => ?_)⟩
            · obtain ⟨y6, stk, ws, rfl, hW, hPw, hs12, hsb, hsk, k9, hP9⟩ := hv
              obtain ⟨yb, hyb, t2, rfl, h2⟩ := paired_get hPrB hj
              have hj12 : j < 12 := by
                have := (List.getElem?_eq_some_iff.mp hj).1
                omega
              have htsj : ts[j]? = some yb.1 := by rw [hts, List.getElem?_map, hyb]; rfl
              have etk : (ts.take (j + 1)).map (fun b => (ya.1, b)) = (ts.take j).map (fun b => (ya.1, b)) ++ [(ya.1, yb.1)] := by
                rw [List.take_add_one, htsj, List.map_append]
                rfl
              have hsk' : (stk.map fun y => (y.1, y.2.1)).Sublist (prS ts i ++ (ts.take (j + 1)).map fun b => (ya.1, b)) := by
                rw [etk, ← List.append_assoc]
                exact hsk.trans (List.sublist_append_left _ _)
              have hwl := paired_len hPw
              refine ⟨_, rfl, ls, ws, rfl, .inl (SqL.of hW), _, 12, rfl, rfl, _, rfl, ite2 (fun e1 => ?_) (fun e1 => iteF ⟨_, stk, ws, rfl, hW, hPw, hs12, hsb, hsk', k9, hP9.mono (by omega)⟩)⟩
              have e1 : ((ws.length : Nat) : Int) < 12 := of_decide_eq_true e1
              refine ⟨_, rfl, p, c, 4, _, rfl, hP9, by omega, by decide, by decide, fun ra Ha raa rab ka hPa => ?_⟩
              have tka := TupK.of ka hP9
              have hWa := ka _ _ n1 hW
              have k9a : Kp2 p ls HB Ha := k9.trans (Kp2.left ka)
              refine ⟨rfl, _, rfl, ite2 (fun e2 => ?_) (fun e2 => ⟨_, stk, ws, rfl, hWa, paired_imp (fun _ _ => StackAt.mono _ _ _ _ tka) hPw, hs12, hsb, hsk', k9a, hPa.mono (by omega)⟩)⟩
              have h1a := (tkX k9a) _ _ h1
              have h2a := (tkX k9a) _ _ h2
              refine ⟨_, rfl, .inl ⟨rfl, _, SqL.of hWa⟩, _, rfl, t1, _, 0, _, rfl, rfl, SqT.of h1a, rfl, _, rfl, t2, _, 0, _, rfl, rfl, SqT.of h2a, rfl, _, rfl, _, rfl, p, c, m, _, rfl, m2, m9, hPa, by omega, fun z Hb z0 z1 kb hPb => ⟨szL (show 3 ≤ 1000000 by decide), fun t ht => ?_⟩⟩
              have hWb := kb _ _ n1 hWa
              have xt := Ext.new (o := .tup [.str ya.1, .str yb.1, .int z]) ht
              have hWt := xt _ _ hWb
              have tkt : TupK H9 (upd (upd Hb t (.tup [.str ya.1, .str yb.1, .int z])) ls (.lst (ws ++ [.ref t]))) := ((tka.trans (TupK.of kb hPa)).trans (TupK.ext xt)).trans (TupK.lst hWt)
              have ntl : t ≠ ls := (ne_of_none hWb ht).symm
              refine ⟨ls, ws, .ref t, rfl, rfl, hWt, szLt (by omega), ?_⟩
              refine ⟨_, stk ++ [(ya.1, yb.1, z)], ws ++ [.ref t], rfl, upd_same, (paired_imp (fun _ _ => StackAt.mono _ _ _ _ tkt) hPw).snoc ⟨t, rfl, by rw [upd_ne ntl, upd_same]⟩, by rw [List.length_append, List.length_singleton]; omega, fun y hy => ?_, ?_, ((k9a.trans (Kp2.left kb)).trans (Kp2.left (Kp.ext xt))).trans (Kp2.right Kp.at), ((hPb.new ht).put n1 n1c).mono (by omega)⟩
              · rcases List.mem_append.mp hy with hy | hy
                · exact hsb y hy
                · rw [List.mem_singleton.mp hy]
                  exact ⟨z0, z1⟩
              · rw [List.map_append, etk, ← List.append_assoc]
                exact List.Sublist.append hsk (List.Sublist.refl _)
            · obtain ⟨y6, stk, ws, rfl, hW, hPw, hs12, hsb, hsk, k9, hP9⟩ := hv
              rw [List.take_of_length_le (by omega), ← prS_succ htsi] at hsk
              exact ⟨_, _, stk, ws, rfl, hW, hPw, hs12, hsb, hsk, k9, hP9.mono (by omega)⟩
          · obtain ⟨y5, y6, stk, ws, rfl, hW, hPw, hs12, hsb, hsk, k8, hP8⟩ := hv
            have hU8 := k8 _ _ nr nls hUB
            have hPr8 := paired_imp (fun _ _ => PairAt.mono _ _ _ _ (tkX k8)) hPrB
            have hT8 := TupOf.mono IntAt.mono _ _ _ _ (tkX k8) hTB
            have kH8 : Kp p H H8 := fun b o nb e => k8 b o nb (ne_of_none e hls0) (kB b o nb e)
            refine ⟨_, rfl, _, rfl, lr, us3, rfl, SqL.of hU8, fun tp oz htp hoz => ?_⟩
            have x9 := Ext.new (o := .frz oz (.tup us3)) htp
            have hTp : FrzOf PairAt (upd H8 tp (.frz oz (.tup us3))) (.ref tp) prs := ⟨tp, oz, us3, rfl, upd_same, hoz, paired_imp (fun _ _ => PairAt.mono _ _ _ _ (TupK.new htp)) hPr8⟩
            have hP9 := hP8.ext x9
            have k9 := kH8.trans (Kp.ext x9)
            have hW9 := x9 _ _ hW
            have hPw9 := paired_imp (fun _ _ => StackAt.mono _ _ _ _ (TupK.ext x9)) hPw
            have hT9 := TupOf.mono IntAt.mono _ _ _ _ (TupK.ext x9) hT8
            generalize upd H8 tp (.frz oz (.tup us3)) = H9 at hTp hP9 k9 hW9 hPw9 hT9 ⊢
            refine ⟨_, rfl, p, c, 4, _, rfl, hP9, by omega, by decide, by decide, fun ra Ha raa rab ka hPa => ⟨szL (show 4 ≤ 1000000 by decide), fun l4 hl4 => ?_⟩⟩
            refine ⟨_, rfl, p, c, 4, _, rfl, hPa.new hl4, by omega, by decide, by decide, fun rb Hb rba rbb kb hPb => ?_⟩
            obtain ⟨z, hz, hatz⟩ := atI_ints (ns := [0, 0, 1, ra]) rba rbb
            have hz2 : 0 ≤ z ∧ z ≤ 3 := by
              simp only [List.mem_cons, List.not_mem_nil, or_false] at hz
              omega
            refine ⟨l4, _, rb, _, rfl, rfl, SqL.of (kb _ _ (hPa.ne hl4).1 upd_same), hatz, ?_⟩
            have k9b : Kp p H9 Hb := (ka.trans (Kp.new hl4)).trans kb
            have hWb := k9b _ _ n1 hW9
            have tk9b := TupK.of k9b hP9
            refine ⟨_, rfl, _, rfl, ls, ws, rfl, .inl ⟨SqL.of hWb, fun tr htr => ⟨szL (show 5 ≤ 1000000 by decide), fun tR htR => ?_⟩⟩⟩
            have xR := (Ext.new (o := .tup ws) htr).trans (Ext.new (o := .tup [.str sg, .ref tp, .int z, .ref tl, .ref tr]) htR)
            have tkR := tk9b.trans (TupK.ext xR)
            have hTr : TupOf StackAt (upd (upd Hb tr (.tup ws)) tR (.tup [.str sg, .ref tp, .int z, .ref tl, .ref tr])) (.ref tr) stk := ⟨tr, ws, rfl, Ext.new htR _ _ upd_same, paired_imp (fun _ _ => StackAt.mono _ _ _ _ tkR) hPw9⟩
            have hpm : ∀ y ∈ prs, ∃ a ∈ L, ∃ b ∈ L, y.1 = tw a b := fun y hy => evS_mem (hps.subset (List.mem_map.mpr ⟨y, hy, rfl⟩))
            have hof : ∀ y ∈ prs, Of sg y.1 ∧ Two y.1 := fun y hy => by
              obtain ⟨a, ha, b, hb, e⟩ := hpm y hy
              rw [hL] at ha hb
              have ho : Of sg (tw a b) := fun d hd => by
                unfold tw at hd
                rw [Str.cps_append, Array.toList_append, List.mem_append] at hd
                rcases hd with hd | hd
                · rw [List.mem_singleton.mp hd]
                  exact ha
                · rw [List.mem_singleton.mp hd]
                  exact hb
              rw [e]
              exact ⟨ho, rfl, ho.small hsm⟩
            have hsm2 : ∀ y ∈ stk, y.1 ∈ prs.map (·.1) ∧ y.2.1 ∈ prs.map (·.1) := fun y hy => by
              have h := prS_mem (hsk.subset (List.mem_map.mpr ⟨y, hy, rfl⟩))
              rw [hts] at h
              exact h
            have htwo : ∀ t ∈ prs.map (·.1), Two t := fun t ht => by
              obtain ⟨y, hy, rfl⟩ := List.mem_map.mp ht
              exact (hof y hy).2
            refine q _ ⟨sg, prs, z, ns, stk⟩ _ ⟨tR, .ref tp, .ref tl, .ref tr, rfl, upd_same, FrzOf.mono PairAt.mono _ _ _ _ tkR hTp, TupOf.mono IntAt.mono _ _ _ _ tkR hT9, hTr⟩ ⟨hs6, hs1, hsm, hp12, fun y hy => ?_, hz2.1, hz2.2, hnl, fun y hy => ?_, hs12, fun y hy => ?_, ?_, hnd⟩ (fun y hy => (hof y hy).1) ⟨hpb, hnb, hsb⟩ hsa hsm2 ((k9.trans k9b).trans (Kp.ext xR)) ((hPb.ext xR).mono (by omega))
            · have := hpb y hy
              exact ⟨(hof y hy).2, by omega, by omega⟩
            · have := hnb y hy
              omega
            · have h1 := hsb y hy
              have h2 := hsm2 y hy
              exact ⟨htwo _ h2.1, htwo _ h2.2, by omega, by omega⟩
            · exact hsk.nodup (prS_nd (hts ▸ hnd) _)
abbrev CRules (P : Program) (w : World) (K : PySem.W.Frag) (mg : Str → Option Value) (base : Heap) : Prop := Ca P w K mg base 3 "_law_rules" ["_law_pen_here", "_law_limit"] spRules
end
end Pf


namespace Pf
open PySem PySem.Spec PyProof.Rows L2
section
variable {P : Program} {w : World} {K : PySem.W.Frag} {mg : Str → Option Value} {base : Heap}
abbrev s_law_string : Stmt := topS 38
theorem sc_law_string : FnScope ["_law_pen_here", "_law_bylaws", "_law_most", "_law_signs", "_law_size", "_law_k", "_law_row"] ["_law_pen_here", "_law_bylaws", "_law_most"] (defScope s_law_string) :=
  ⟨rfl, rfl, rfl, by decide +kernel, rfl, by decide +kernel, by decide +kernel⟩
def spString : Sp := fun vs H Q _ => ∃ (p c : Addr) (v : V) (r : Rl) (m : Int) (n : Nat), vs = [.ref p, v, .int m] ∧ RulesAt H v r ∧ RlOk r ∧ OfP r ∧ 0 ≤ m ∧ m ≤ 20 ∧ Pen H p c n ∧ n + 30 < 1000000 ∧
  ∀ (x : Str) H', (x.length : Int) ≤ m → Of r.letters x → Kp p H H' → Pen H' p c (n + 30) → Q (.str x) H'
theorem ok_string {f : Addr} {fd : FuncData} (F : Fun K "_law_string" "_law_string" s_law_string f fd) (c_law_take : CDraw P w K mg base) (mrange : mg "range" = none) (mlen : mg "len" = none) (mmax : mg "max" = none) : FnOk P w K mg base CX0 2 f fd ["_law_pen_here", "_law_bylaws", "_law_most"] spString := by
  refine F.ok sc_law_string (fun vs H Q E h => ?_) (fun cdv A outer s H vs Q E hr h => ?_)
  · obtain ⟨p, c, v, r, m, n, rfl, _⟩ := h
    rfl
  · obtain ⟨p, c, v, r, m, n, rfl, hR, ok, ofp, m0, m20, hP, hn, q⟩ := h
    obtain ⟨a, vp, vl, vs, rfl, hA, ⟨ap, oz, us, rfl, hp, hoz, hPs⟩, hl, hs⟩ := id hR
    refine ⟨_, (pss_cons (ps_set (i := 3) sc_law_string.nd rfl (.inr rfl) (pe_op op_add_str (pe_ix (ixT K) (pv 1) pe_int (fun _ _ => rfl)) (pe_join pe_str (pe_lc (own := [("_law_row", 6)]) (g := gName 6) (by rfl) sc_law_string.nd (pi_tup (pe_ix (ixT K) (pv 1) pe_int (fun _ _ => rfl))) (blkOk_by (own := [("_law_row", 6)]) (N := ["_law_pen_here", "_law_bylaws", "_law_most", "_law_signs", "_law_size", "_law_k", "_law_row"]) (sc := defScope s_law_string) (by decide +kernel)) (fun _ _ _ _ _ => (pg_name (i := 6) sc_law_string.nd rfl (.inl rfl))) (fun _ _ _ _ _ => pts_nil) (fun _ _ _ _ _ => (pe_ix (ixT K) (pv 6) pe_int (fun _ _ => rfl)))))))
      (pss_cons (ps_set (i := 4) sc_law_string.nd rfl (.inl rfl) (pe_ix (ixL K) (pe_lst (pa_cons (pv 2) (pa_cons (pe_ca c_law_take (hr.mono (by decide)) (by rfl) (pa_cons (pv 0) (pa_cons (pe_op op_add (pv 2) pe_int) pa_nil))) (pa_cons (pe_callB (call_max2 rfl) (by rfl) mmax (by decide +kernel) (pa_cons pe_int (pa_cons (pe_op op_sub (pv 2) pe_int) pa_nil))) pa_nil)))) (pe_ca c_law_take (hr.mono (by decide)) (by rfl) (pa_cons (pv 0) (pa_cons pe_int pa_nil))) (fun _ _ => rfl)))
      (pss_one (ps_ret (pe_join pe_str (pe_lc (own := [("_law_k", 5)]) (g := gName 5) (by rfl) sc_law_string.nd (pi_range1 (by rfl) mrange (pa_cons (pv 4) pa_nil)) (blkOk_by (own := [("_law_k", 5)]) (N := ["_law_pen_here", "_law_bylaws", "_law_most", "_law_signs", "_law_size", "_law_k", "_law_row"]) (sc := defScope s_law_string) (by decide +kernel)) (fun _ _ _ _ _ => (pg_name (i := 5) sc_law_string.nd rfl (.inl rfl))) (fun _ _ _ _ _ => pts_nil) (fun _ _ _ _ _ => (pe_ix ix_str (pv 3) (pe_ca c_law_take (hr.mono (by decide)) (by rfl) (pa_cons (pv 0) (pa_cons (pe_callB call_len_str (by rfl) mlen (by decide +kernel) (pa_cons (pv 3) pa_nil)) pa_nil))) (fun _ _ => rfl))))))))), ?_⟩
    refine ⟨_, rfl, a, _, 0, _, rfl, rfl, SqT.of hA, rfl, ⟨_, rfl⟩, _, rfl, a, _, 1, _, rfl, rfl, SqT.of hA, rfl, ap, rfl, ⟨_, SqT.fz hp⟩, fun D hD => lc_tup (K := K) (xs := us) (fun i H2 => H2 D = some (.lst (((r.prs.take i).map (·.1)).map V.str)) ∧ Ext H H2)
      ⟨by rw [upd_same]; rfl, Ext.new hD⟩ (fun i H2 _ h => SqT.fz (h.2 _ _ hp)) (fun i u H2 hi hv => ?_) (fun H2 hv => ?_)⟩
    · obtain ⟨hL, k2⟩ := hv
      obtain ⟨y, hy, t, rfl, hT⟩ := paired_get hPs hi
      have hul := paired_len hPs
      have hil : i < r.prs.length := (List.getElem?_eq_some_iff.mp hy).1
      have hp12 := ok.prs
      refine ⟨rfl, _, rfl, t, _, 0, _, rfl, rfl, SqT.of (k2 _ _ hT), rfl, _, hL, szLt (by rw [List.length_map, List.length_map, List.length_take]; omega), ?_, k2.put hD⟩
      rw [upd_same, List.take_add_one, hy, List.map_append, List.map_append]
      rfl
    · obtain ⟨hL, k2⟩ := hv
      have hul := paired_len hPs
      rw [hul, List.take_of_length_le (Nat.le_refl _)] at hL
      have hpr12 := ok.prs
      refine ⟨"", D, _, rfl, rfl, .inl (SqL.of hL), fits_join (k := 12) (m := 2) (by rw [List.length_map]; exact hpr12) (fun y hy => by
        obtain ⟨z, hz, rfl⟩ := List.mem_map.mp hy
        exact Nat.le_of_eq (ok.pr z hz).1.1) (by decide), ?_⟩
      obtain ⟨S, hS⟩ : ∃ S, S = r.letters ++ Txt.join "" (r.prs.map (·.1)) := ⟨_, rfl⟩
      have hSO : Of r.letters S := by
        rw [hS, join_str]
        exact Of.app (fun c hc => hc) (sjoin_of fun y hy => by
          obtain ⟨z, hz, rfl⟩ := List.mem_map.mp hy
          exact ofp z hz)
      have hJl : (Txt.join "" (r.prs.map (·.1))).length ≤ 24 := by
        have := join_le (ys := r.prs.map (·.1)) (m := 2) fun y hy => by
          obtain ⟨z, hz, rfl⟩ := List.mem_map.mp hy
          exact Nat.le_of_eq (ok.pr z hz).1.1
        rw [List.length_map] at this
        omega
      have hl1 := ok.let1
      have hl6 := ok.let6
      have hSl : 1 ≤ S.length ∧ S.length ≤ 30 := by
        rw [hS, Str.length_append]
        omega
      refine ⟨_, _, rfl, rfl, szL (by omega), ?_⟩
      rw [← hS]
      have hP2 := hP.ext k2
      refine ⟨_, rfl, _, rfl, _, rfl, m, 1, rfl, rfl, p, c, _, n, rfl, hP2, by omega, by omega, by omega, fun r3 H3 r3a r3b k3 hP3 => ?_⟩
      refine ⟨_, rfl, m, 1, rfl, rfl, 0, m - 1, rfl, szL (show 3 ≤ 1000000 by decide), fun l4 hl4 => ?_⟩
      refine ⟨_, rfl, p, c, 3, _, rfl, hP3.new hl4, by omega, by decide, by decide, fun r5 H5 r5a r5b k5 hP5 => ?_⟩
      obtain ⟨z, hz, hat⟩ := atI_ints (ns := [m, r3, if m - 1 > 0 then m - 1 else 0]) r5a r5b
      have hzb : 0 ≤ z ∧ z ≤ m := by
        simp only [List.mem_cons, List.not_mem_nil, or_false] at hz
        rcases hz with rfl | rfl | rfl
        · omega
        · omega
        · split <;> omega
      refine ⟨l4, _, r5, _, rfl, rfl, SqL.of (k5 _ _ (hP3.ne hl4).1 upd_same), hat, ?_⟩
      have k05 : Kp p H H5 := (((Kp.ext k2).trans k3).trans (Kp.new hl4)).trans k5
      refine ⟨⟨_, rfl⟩, _, rfl, z, rfl, by omega, by omega, fun G hG => lc_range (n := z.toNat) (fun i H6 => ∃ ys : List Str, ys.length = i ∧ (∀ y ∈ ys, Of r.letters y ∧ y.length = 1) ∧ H6 G = some (.lst (ys.map V.str)) ∧ Kp p H H6 ∧ Pen H6 p c (n + 2 + i))
        ⟨[], rfl, (fun y hy => by cases hy), upd_same, k05.trans (Kp.new hG), (hP5.new hG).mono (by omega)⟩ (fun i H6 hi hv => ?_) (fun H6 hv => ?_)⟩
      · obtain ⟨ys, hyl, hyo, hL6, k6, hP6⟩ := hv
        have nG : G ≠ p := (hP5.ne hG).1
        have nGc : G ≠ c := (hP5.ne hG).2
        refine ⟨rfl, _, rfl, _, rfl, _, rfl, S, rfl, szL (by omega), p, c, _, _, rfl, hP6, by omega, by omega, by omega, fun r7 H7 r7a r7b k7 hP7 => ?_⟩
        obtain ⟨ch, hcm, hcat⟩ := atI_mem (xs := S.cps.toList) r7a (by rw [Array.length_toList]; exact r7b)
        have hL7 := k7 _ _ nG hL6
        refine ⟨S, r7, ch, rfl, rfl, szL (by omega), hcat, _, hL7, szLt (by rw [List.length_map]; omega), ys ++ [⟨#[ch]⟩], by rw [List.length_append, List.length_singleton, hyl], fun y hy => ?_, by rw [upd_same, List.map_append]; rfl, (k6.trans k7).put (none_of k05 nG hG), (hP7.put nG nGc).mono (by omega)⟩
        rcases List.mem_append.mp hy with hy | hy
        · exact hyo y hy
        · rw [List.mem_singleton.mp hy]
          exact ⟨fun d hd => by rw [List.mem_singleton.mp hd]; exact hSO ch hcm, rfl⟩
      · obtain ⟨ys, hyl, hyo, hL6, k6, hP6⟩ := hv
        refine ⟨"", G, ys, rfl, rfl, .inl (SqL.of hL6), fits_join (k := 20) (m := 1) (by omega) (fun y hy => Nat.le_of_eq (hyo y hy).2) (by decide), ?_⟩
        have hj := join_le (ys := ys) (m := 1) fun y hy => Nat.le_of_eq (hyo y hy).2
        rw [join_str] at hj ⊢
        exact q _ _ (by omega) (sjoin_of fun y hy => (hyo y hy).1) k6 (hP6.mono (by omega))
abbrev CString (P : Program) (w : World) (K : PySem.W.Frag) (mg : Str → Option Value) (base : Heap) : Prop := Ca P w K mg base 2 "_law_string" ["_law_pen_here", "_law_bylaws", "_law_most"] spString
abbrev s_law_base : Stmt := topS 44
theorem sc_law_base : FnScope ["_law_pen_here", "_law_limit", "_law_some"] ["_law_pen_here", "_law_limit"] (defScope s_law_base) :=
  ⟨rfl, rfl, rfl, by decide +kernel, rfl, by decide +kernel, by decide +kernel⟩
/-- what a base is, by how great worths may be -/
def BaseOk (m : Int) (b : Int × Int) : Prop := 1 ≤ b.1 ∧ b.1 ≤ 9999 ∧ 1 ≤ b.2 ∧ b.2 ≤ 9999 ∧ (4 ≤ m → b.1 ≤ 2 ∧ b.2 ≤ 2) ∧ (31 ≤ m → b = (1, 1))
theorem two_add {H : Hp} {us : List V} {bs : List (Int × Int)} {t : Addr} {a b : Int} (h : Paired (TwoAt H) us bs) (ht : H t = none) : Paired (TwoAt (upd H t (.tup [.int a, .int b]))) (us ++ [.ref t]) (bs ++ [(a, b)]) :=
  (paired_imp (fun _ _ => TwoAt.mono _ _ _ _ (TupK.new ht)) h).snoc ⟨t, rfl, upd_same⟩
def spBase : Sp := fun vs H Q _ => ∃ (p c : Addr) (m : Int) (n : Nat), vs = [.ref p, .int m] ∧ 2 ≤ m ∧ m ≤ 99 ∧ Pen H p c n ∧ n + 1 < 1000000 ∧
  ∀ v b H', TwoAt H' v b → BaseOk m b → Kp p H H' → Pen H' p c (n + 1) → Q v H'
theorem ok_base {f : Addr} {fd : FuncData} (F : Fun K "_law_base" "_law_base" s_law_base f fd) (c_law_take : CDraw P w K mg base) (mint : mg "int" = none) : FnOk P w K mg base CX0 2 f fd ["_law_pen_here", "_law_limit"] spBase := by
  refine F.ok sc_law_base (fun vs H Q E h => ?_) (fun cdv A outer s H vs Q E hr h => ?_)
  · obtain ⟨p, c, m, n, rfl, _⟩ := h
    rfl
  · obtain ⟨p, c, m, n, rfl, m2, m9, hP, hn, q⟩ := h
    refine ⟨_, (pss_cons (ps_set (i := 2) sc_law_base.nd rfl (.inl rfl) (pe_lst (pa_cons (pe_tup (pa_cons pe_int (pa_cons pe_int pa_nil))) (pa_cons (pe_tup (pa_cons pe_int (pa_cons pe_int pa_nil))) (pa_cons (pe_tup (pa_cons pe_int (pa_cons pe_int pa_nil))) (pa_cons (pe_tup (pa_cons pe_int (pa_cons pe_int pa_nil))) (pa_cons (pe_tup (pa_cons pe_int (pa_cons pe_int pa_nil))) (pa_cons (pe_tup (pa_cons pe_int (pa_cons pe_int pa_nil))) (pa_cons (pe_tup (pa_cons pe_int (pa_cons pe_int pa_nil))) (pa_cons (pe_tup (pa_cons pe_int (pa_cons pe_int pa_nil))) (pa_cons (pe_tup (pa_cons pe_int (pa_cons pe_int pa_nil))) (pa_cons (pe_tup (pa_cons pe_int (pa_cons pe_int pa_nil))) pa_nil))))))))))))
      (pss_one (ps_ret (pe_ix (ixL K) (pe_op op_cat (pv 2) (pe_lst (pa_cons (pe_tup (pa_cons pe_int (pa_cons pe_int pa_nil))) (pa_cons (pe_tup (pa_cons pe_int (pa_cons pe_int pa_nil))) pa_nil)))) (pe_ca c_law_take (hr.mono (by decide)) (by rfl) (pa_cons (pv 0) (pa_cons (pe_ix (ixL K) (pe_lst (pa_cons pe_int (pa_cons pe_int (pa_cons pe_int pa_nil)))) (pe_op op_add (pe_callTy call_int1 (by rfl) mint (by decide +kernel) (pa_cons (pe_cmpR op_lt (pv 1) pe_int (nomark _)) pa_nil)) (pe_callTy call_int1 (by rfl) mint (by decide +kernel) (pa_cons (pe_cmpR op_lt (pv 1) pe_int (nomark _)) pa_nil))) (fun _ _ => rfl)) pa_nil))) (fun _ _ => rfl))))), ?_⟩
    have q0 : Paired (TwoAt H) [] [] := .nil
    have e0 : Ext H H := Ext.refl
    refine ⟨szL (show 2 ≤ 1000000 by decide), fun t1 h1 => ?_⟩
    have q1 := two_add (a := 1) (b := 1) q0 h1
    have e1 := e0.trans (Ext.new (o := .tup [.int 1, .int 1]) h1)
    generalize upd H t1 (.tup [.int 1, .int 1]) = H1 at q1 e1 ⊢
    refine ⟨szL (show 2 ≤ 1000000 by decide), fun t2 h2 => ?_⟩
    have q2 := two_add (a := 2) (b := 1) q1 h2
    have e2 := e1.trans (Ext.new (o := .tup [.int 2, .int 1]) h2)
    generalize upd H1 t2 (.tup [.int 2, .int 1]) = H2 at q2 e2 ⊢
    refine ⟨szL (show 2 ≤ 1000000 by decide), fun t3 h3 => ?_⟩
    have q3 := two_add (a := 1) (b := 2) q2 h3
    have e3 := e2.trans (Ext.new (o := .tup [.int 1, .int 2]) h3)
    generalize upd H2 t3 (.tup [.int 1, .int 2]) = H3 at q3 e3 ⊢
    refine ⟨szL (show 2 ≤ 1000000 by decide), fun t4 h4 => ?_⟩
    have q4 := two_add (a := 1) (b := 1) q3 h4
    have e4 := e3.trans (Ext.new (o := .tup [.int 1, .int 1]) h4)
    generalize upd H3 t4 (.tup [.int 1, .int 1]) = H4 at q4 e4 ⊢
    refine ⟨szL (show 2 ≤ 1000000 by decide), fun t5 h5 => ?_⟩
    have q5 := two_add (a := 2) (b := 1) q4 h5
    have e5 := e4.trans (Ext.new (o := .tup [.int 2, .int 1]) h5)
    generalize upd H4 t5 (.tup [.int 2, .int 1]) = H5 at q5 e5 ⊢
    refine ⟨szL (show 2 ≤ 1000000 by decide), fun t6 h6 => ?_⟩
    have q6 := two_add (a := 3) (b := 2) q5 h6
    have e6 := e5.trans (Ext.new (o := .tup [.int 3, .int 2]) h6)
    generalize upd H5 t6 (.tup [.int 3, .int 2]) = H6 at q6 e6 ⊢
    refine ⟨szL (show 2 ≤ 1000000 by decide), fun t7 h7 => ?_⟩
    have q7 := two_add (a := 2) (b := 3) q6 h7
    have e7 := e6.trans (Ext.new (o := .tup [.int 2, .int 3]) h7)
    generalize upd H6 t7 (.tup [.int 2, .int 3]) = H7 at q7 e7 ⊢
    refine ⟨szL (show 2 ≤ 1000000 by decide), fun t8 h8 => ?_⟩
    have q8 := two_add (a := 9999) (b := 1) q7 h8
    have e8 := e7.trans (Ext.new (o := .tup [.int 9999, .int 1]) h8)
    generalize upd H7 t8 (.tup [.int 9999, .int 1]) = H8 at q8 e8 ⊢
    refine ⟨szL (show 2 ≤ 1000000 by decide), fun t9 h9 => ?_⟩
    have q9 := two_add (a := 1) (b := 9999) q8 h9
    have e9 := e8.trans (Ext.new (o := .tup [.int 1, .int 9999]) h9)
    generalize upd H8 t9 (.tup [.int 1, .int 9999]) = H9 at q9 e9 ⊢
    refine ⟨szL (show 2 ≤ 1000000 by decide), fun t10 h10 => ?_⟩
    have q10 := two_add (a := 9998) (b := 9999) q9 h10
    have e10 := e9.trans (Ext.new (o := .tup [.int 9998, .int 9999]) h10)
    generalize upd H9 t10 (.tup [.int 9998, .int 9999]) = H10 at q10 e10 ⊢
    refine ⟨szL (show 10 ≤ 1000000 by decide), fun l hl => ?_⟩
    have eL := Ext.new (o := .lst [.ref t1, .ref t2, .ref t3, .ref t4, .ref t5, .ref t6, .ref t7, .ref t8, .ref t9, .ref t10]) hl
    have hL0 : (upd H10 l (.lst [.ref t1, .ref t2, .ref t3, .ref t4, .ref t5, .ref t6, .ref t7, .ref t8, .ref t9, .ref t10])) l = some (.lst [.ref t1, .ref t2, .ref t3, .ref t4, .ref t5, .ref t6, .ref t7, .ref t8, .ref t9, .ref t10]) := upd_same
    have qL := paired_imp (fun _ _ => TwoAt.mono _ _ _ _ (TupK.ext eL)) q10
    have e10' := e10.trans eL
    generalize upd H10 l (.lst [.ref t1, .ref t2, .ref t3, .ref t4, .ref t5, .ref t6, .ref t7, .ref t8, .ref t9, .ref t10]) = HL at eL hL0 qL e10' ⊢
    refine ⟨_, rfl, ?_⟩
    refine ⟨szL (show 2 ≤ 1000000 by decide), fun t11 h11 => ?_⟩
    have q11 := two_add (a := 1000) (b := 7) qL h11
    have e11 := e10'.trans (Ext.new (o := .tup [.int 1000, .int 7]) h11)
    have hL11 := Ext.new (o := .tup [.int 1000, .int 7]) h11 _ _ hL0
    generalize upd HL t11 (.tup [.int 1000, .int 7]) = H11 at q11 e11 hL11 ⊢
    refine ⟨szL (show 2 ≤ 1000000 by decide), fun t12 h12 => ?_⟩
    have q12 := two_add (a := 3) (b := 1) q11 h12
    have e12 := e11.trans (Ext.new (o := .tup [.int 3, .int 1]) h12)
    have hL12 := Ext.new (o := .tup [.int 3, .int 1]) h12 _ _ hL11
    generalize upd H11 t12 (.tup [.int 3, .int 1]) = H12 at q12 e12 hL12 ⊢
    refine ⟨szL (show 2 ≤ 1000000 by decide), fun l2 hl2 => ?_⟩
    have eM := Ext.new (o := .lst [.ref t11, .ref t12]) hl2
    have hLM := eM _ _ hL12
    refine ⟨l, l2, _, _, rfl, rfl, hLM, upd_same, szL (show 10 + 2 ≤ 1000000 by decide), fun l3 hl3 => ?_⟩
    have eN := eM.trans (Ext.new (o := .lst ([.ref t1, .ref t2, .ref t3, .ref t4, .ref t5, .ref t6, .ref t7, .ref t8, .ref t9, .ref t10] ++ [.ref t11, .ref t12])) hl3)
    have q13 : Paired (TwoAt (upd (upd H12 l2 (.lst [.ref t11, .ref t12])) l3 (.lst ([.ref t1, .ref t2, .ref t3, .ref t4, .ref t5, .ref t6, .ref t7, .ref t8, .ref t9, .ref t10] ++ [.ref t11, .ref t12])))) [.ref t1, .ref t2, .ref t3, .ref t4, .ref t5, .ref t6, .ref t7, .ref t8, .ref t9, .ref t10, .ref t11, .ref t12] [(1, 1), (2, 1), (1, 2), (1, 1), (2, 1), (3, 2), (2, 3), (9999, 1), (1, 9999), (9998, 9999), (1000, 7), (3, 1)] := paired_imp (fun _ _ => TwoAt.mono _ _ _ _ (TupK.ext eN)) q12
    have e13 := e12.trans eN
    have hL13 : (upd (upd H12 l2 (.lst [.ref t11, .ref t12])) l3 (.lst ([.ref t1, .ref t2, .ref t3, .ref t4, .ref t5, .ref t6, .ref t7, .ref t8, .ref t9, .ref t10] ++ [.ref t11, .ref t12]))) l3 = some (.lst [.ref t1, .ref t2, .ref t3, .ref t4, .ref t5, .ref t6, .ref t7, .ref t8, .ref t9, .ref t10, .ref t11, .ref t12]) := upd_same
    refine ⟨_, rfl, ?_⟩
    generalize upd (upd H12 l2 (.lst [.ref t11, .ref t12])) l3 (.lst ([.ref t1, .ref t2, .ref t3, .ref t4, .ref t5, .ref t6, .ref t7, .ref t8, .ref t9, .ref t10] ++ [.ref t11, .ref t12])) = H13 at q13 e13 hL13 ⊢
    have hP13 := hP.ext e13
    refine ⟨szL (show 3 ≤ 1000000 by decide), fun l4 hl4 => ?_⟩
    have x4 := Ext.new (o := .lst [.int 1, .int 5, .int 12]) hl4
    have h4at : (upd H13 l4 (.lst [.int 1, .int 5, .int 12])) l4 = some (.lst [.int 1, .int 5, .int 12]) := upd_same
    have hP14 := hP13.ext x4
    have q14 := paired_imp (fun _ _ => TwoAt.mono _ _ _ _ (TupK.ext x4)) q13
    have hL14 := x4 _ _ hL13
    have e14 := e13.trans x4
    generalize upd H13 l4 (.lst [.int 1, .int 5, .int 12]) = H14 at h4at hP14 q14 hL14 e14 ⊢
    refine ⟨_, rfl, m, 31, rfl, rfl, .inr ⟨_, rfl, ?_⟩⟩
    refine ⟨_, rfl, m, 4, rfl, rfl, .inr ⟨_, rfl, _, _, rfl, rfl, ?_⟩⟩
    obtain ⟨ix, kk, hix, hkat, hkk⟩ : ∃ ix kk : Int, ((if decide (m < 31) = true then (1 : Int) else 0) + if decide (m < 4) = true then 1 else 0) = ix ∧ atI [V.int 1, .int 5, .int 12] ix = some (.int kk) ∧ (kk = 12 ∧ m < 4 ∨ kk = 5 ∧ 4 ≤ m ∧ m < 31 ∨ kk = 1) := by
      by_cases a : m < 31
      · by_cases b : m < 4
        · rw [decide_eq_true a, decide_eq_true b]
          exact ⟨2, 12, rfl, rfl, .inl ⟨rfl, b⟩⟩
        · rw [decide_eq_true a, decide_eq_false b]
          exact ⟨1, 5, rfl, rfl, .inr (.inl ⟨rfl, by omega, a⟩)⟩
      · rw [decide_eq_false a, decide_eq_false (show ¬ m < 4 by omega)]
        exact ⟨0, 1, rfl, rfl, .inr (.inr rfl)⟩
    refine ⟨l4, _, ix, .int kk, rfl, congrArg V.int hix, SqL.of h4at, hkat, p, c, kk, n, rfl, hP14, by omega, by omega, by omega, fun rr H15 ra rb k5 hP15 => ?_⟩
    have nl : l3 ≠ p := by
      obtain ⟨cells, a, r, h1, _⟩ := hP14
      exact ne_of hL14 h1 (by intro z; injection z with z; injection z with _ z; injection z with z; cases z)
    have hL15 := k5 _ _ nl hL14
    have hlt : rr.toNat < 12 := by omega
    obtain ⟨u, hu⟩ : ∃ u, ([V.ref t1, .ref t2, .ref t3, .ref t4, .ref t5, .ref t6, .ref t7, .ref t8, .ref t9, .ref t10, .ref t11, .ref t12] : List V)[rr.toNat]? = some u := ⟨_, List.getElem?_eq_getElem hlt⟩
    obtain ⟨b, hb, hT⟩ := paired_get q14 hu
    have hbo : ∀ k : Fin 12, ∀ b ∈ ([(1, 1), (2, 1), (1, 2), (1, 1), (2, 1), (3, 2), (2, 3), (9999, 1), (1, 9999), (9998, 9999), (1000, 7), (3, 1)] : List (Int × Int))[k.1]?, 1 ≤ b.1 ∧ b.1 ≤ 9999 ∧ 1 ≤ b.2 ∧ b.2 ≤ 9999 ∧ (k.1 < 5 → b.1 ≤ 2 ∧ b.2 ≤ 2) ∧ (k.1 < 1 → b = (1, 1)) := by decide +kernel
    have h2 := hbo ⟨rr.toNat, hlt⟩ b hb
    have hat : atI ([V.ref t1, .ref t2, .ref t3, .ref t4, .ref t5, .ref t6, .ref t7, .ref t8, .ref t9, .ref t10, .ref t11, .ref t12] : List V) rr = some u := by
      have h := atI_get (xs := [V.ref t1, .ref t2, .ref t3, .ref t4, .ref t5, .ref t6, .ref t7, .ref t8, .ref t9, .ref t10, .ref t11, .ref t12]) ra (show rr < 12 by omega)
      rw [h, ← hu, List.getElem?_eq_getElem hlt]
    refine ⟨l3, _, rr, u, rfl, rfl, SqL.of hL15, hat, q u b _ (TwoAt.mono _ _ _ _ (TupK.of k5 hP14) hT) ⟨h2.1, h2.2.1, h2.2.2.1, h2.2.2.2.1, fun h4 => h2.2.2.2.2.1 (by show rr.toNat < 5; omega), fun h31 => h2.2.2.2.2.2 (by show rr.toNat < 1; omega)⟩ ((Kp.ext e14).trans k5) hP15⟩
abbrev CBase (P : Program) (w : World) (K : PySem.W.Frag) (mg : Str → Option Value) (base : Heap) : Prop := Ca P w K mg base 2 "_law_base" ["_law_pen_here", "_law_limit"] spBase
end
end Pf


namespace Pf
open PySem PySem.Spec PyProof.Rows L2
/-! ### made short -/
def shr (u d : Int) : Int × Int := if d < 0 then ((-u) / (Int.gcd u d : Int), (-d) / (Int.gcd u d : Int)) else (u / (Int.gcd u d : Int), d / (Int.gcd u d : Int))
theorem gcd_pos {u d : Int} (h : d ≠ 0) : 0 < (Int.gcd u d : Int) := Int.ofNat_lt.mpr (Int.gcd_pos_of_ne_zero_right u h)
theorem gcd_le {u d : Int} (h : d ≠ 0) : Int.gcd u d ≤ d.natAbs := Nat.le_of_dvd (Int.natAbs_pos.mpr h) (Nat.gcd_dvd_right _ _)
theorem shr_neg {u d : Int} (h : d < 0) : shr (-u) (-d) = shr u d := by
  unfold shr
  rw [if_pos h, if_neg (by omega), Int.gcd_neg, Int.neg_gcd]
theorem shr_pos {u d : Int} (h : 0 < d) : shr u d = (u / (Int.gcd u d : Int), d / (Int.gcd u d : Int)) := by
  unfold shr
  rw [if_neg (by omega)]
theorem shr_one (u : Int) : shr u 1 = (u, 1) := by
  rw [shr_pos (by decide), Int.gcd_one]
  simp
theorem fdiv_neg' (u g : Int) (h : 0 < g) : u.fdiv (0 - g) = (-u) / g := by
  have h1 : u.fdiv (0 - g) = (-u).fdiv g := by
    have := Int.neg_fdiv_neg (-u) g
    rw [Int.neg_neg] at this
    rw [Int.zero_sub]
    exact this
  rw [h1, Int.fdiv_eq_ediv_of_nonneg _ (by omega)]
theorem div_abs {z g : Int} {B : Nat} (hg : 0 < g) (h : z.natAbs < B) : (z / g).natAbs < B := by
  have h1 : (z / g).natAbs ≤ z.natAbs := Int.natAbs_ediv_le_natAbs z g
  omega
theorem shr_b {u d : Int} {B : Nat} (h : d ≠ 0) (hu : u.natAbs < B) (hd : d.natAbs < B) : (shr u d).1.natAbs < B ∧ (shr u d).2.natAbs < B ∧ 1 ≤ (shr u d).2 := by
  have hg := gcd_pos (u := u) h
  have hdv : (Int.gcd u d : Int) ∣ d := Int.gcd_dvd_right ..
  unfold shr
  split
  · refine ⟨div_abs hg (by omega), div_abs hg (by omega), ?_⟩
    exact Int.le_ediv_of_mul_le hg (by
      have := Int.le_of_dvd (show 0 < -d by omega) ((Int.dvd_neg).mpr hdv)
      omega)
  · refine ⟨div_abs hg hu, div_abs hg hd, ?_⟩
    exact Int.le_ediv_of_mul_le hg (by
      have := Int.le_of_dvd (show 0 < d by omega) hdv
      omega)
/-! ### a share in the heap -/
def ShT (H : Hp) (v : V) (s : Int × Int) : Prop := ∃ t, v = .ref t ∧ H t = some (.tup [.int s.1, .int s.2])
def ShOk (s : Int × Int) : Prop := s.1.natAbs < 2 ^ 200 ∧ s.2.natAbs < 2 ^ 200 ∧ 1 ≤ s.2
theorem ShT.mono {H H' : Hp} {v : V} {s : Int × Int} (k : TupK H H') (h : ShT H v s) : ShT H' v s := by
  obtain ⟨t, rfl, e⟩ := h
  exact ⟨t, rfl, k.1 _ _ e⟩
def dSh (s : Int × Int) : PyData := .tuple [.int s.1, .int s.2]
theorem dp_sh {K : PySem.W.Frag} {H : Hp} {v : V} {s : Int × Int} (h : ShT H v s) : Dp K H v (dSh s) := by
  obtain ⟨t, rfl, e⟩ := h
  exact .tup (SqT.of e) (.cons (.int _) (.cons (.int _) .nil))
section
variable {P : Program} {w : World} {K : PySem.W.Frag} {mg : Str → Option Value} {base : Heap}
/-! ### the greatest divisor -/
abbrev s_greatest_divisor : Stmt := topS 25
theorem sc_greatest_divisor : FnScope ["number", "other"] ["number", "other"] (defScope s_greatest_divisor) :=
  ⟨rfl, rfl, rfl, by decide +kernel, rfl, by decide +kernel, by decide +kernel⟩
def spGD : Sp := fun vs H Q _ => ∃ (a b : Nat), vs = [.int a, .int b] ∧ ∀ H', Ext H H' → Q (.int (Nat.gcd a b)) H'
theorem ok_gd {f : Addr} {fd : FuncData} {k : Nat} (F : Fun K "greatest_divisor" "greatest_divisor" s_greatest_divisor f fd) : FnOk P w K mg base CX0 (k + 1) f fd ["number", "other"] spGD := by
  refine F.ok sc_greatest_divisor (fun vs H Q E h => ?_) (fun cdv A outer s H vs Q E hr h => ?_)
  · obtain ⟨a, b, rfl, _⟩ := h
    rfl
  · obtain ⟨a, b, rfl, q⟩ := h
    refine ⟨_, (pss_cons (ps_while PassesOwn.never (pt_cmpR op_gt (pv 1) pe_int (nomark _)) (pss_one (ps_par (i := 0) (j := 1) rfl sc_greatest_divisor.nd rfl rfl (by decide) rfl rfl (pa_cons (pv 1) (pa_cons (pe_op op_mod (pv 0) (pv 1)) pa_nil)) (by rfl))))
      (pss_one (ps_ret (pv 0)))), ?_⟩
    refine ⟨fun m σ H' => ∃ x y : Nat, σ = [some (.int x), some (.int y)] ∧ y = m ∧ Nat.gcd x y = Nat.gcd a b ∧ Ext H H', ⟨b, a, b, rfl, rfl, rfl, Ext.refl⟩, ?_⟩
    rintro m σ H' ⟨x, y, rfl, rfl, hg, hE⟩
    refine ⟨.int y, rfl, _, _, rfl, rfl, _, rfl, ite2 (fun e => ?_) (fun e => ?_)⟩
    · have hy : (0 : Int) < (y : Int) := by simpa using e
      refine ⟨fun σ' H' => ∃ m', m' < y ∧ ∃ x y : Nat, σ' = [some (.int x), some (.int y)] ∧ y = m' ∧ Nat.gcd x y = Nat.gcd a b ∧ Ext H H', fun _ _ h => h, ?_⟩
      refine ⟨_, rfl, .int x, rfl, .int y, rfl, _, _, rfl, rfl, hy, _, _, rfl, ?_⟩
      refine ⟨x % y, Nat.mod_lt _ (by omega), y, x % y, rfl, rfl, ?_, hE⟩
      rw [← hg, Nat.gcd_comm x y, Nat.gcd_comm y (x % y)]
      exact (Nat.gcd_rec y x).symm
    · have hy : y = 0 := by
        have : ¬ (0 : Int) < (y : Int) := by simpa using e
        omega
      subst hy
      rw [Nat.gcd_zero_right] at hg
      refine ⟨_, rfl, ?_⟩
      rw [hg]
      exact q _ hE
abbrev CGD (P : Program) (w : World) (K : PySem.W.Frag) (mg : Str → Option Value) (base : Heap) : Prop := Ca P w K mg base 1 "greatest_divisor" ["number", "other"] spGD
theorem natAbs_ite (z : Int) : (if z < 0 then -z else z) = (z.natAbs : Int) := by
  split <;> omega
theorem g_log {u d : Int} (h : d ≠ 0) (hd : d.natAbs < 2 ^ 4000) : (Int.gcd u d : Int).natAbs.log2 < 9000 := by
  have h1 := gcd_le (u := u) h
  have h2 : (Int.gcd u d : Int).natAbs < 2 ^ 4000 := by
    rw [Int.natAbs_natCast]
    omega
  exact Nat.lt_of_lt_of_le (PySem.Flt.log2_lt_of (by decide) h2) (by decide)
/-! ### the law's own -/
abbrev s_law_short : Stmt := topS 43
theorem sc_law_short : FnScope ["_law_up", "_law_down", "_law_one", "_law_two"] ["_law_up", "_law_down"] (defScope s_law_short) :=
  ⟨rfl, rfl, rfl, by decide +kernel, rfl, by decide +kernel, by decide +kernel⟩
def spShort : Sp := fun vs H Q _ => ∃ (u d : Int), vs = [.int u, .int d] ∧ d ≠ 0 ∧ d.natAbs < 2 ^ 4000 ∧ ∀ v H', ShT H' v (shr u d) → Ext H H' → Q v H'
theorem ok_short {f : Addr} {fd : FuncData} {k : Nat} (F : Fun K "_law_short" "_law_short" s_law_short f fd) (mabs : mg "abs" = none) : FnOk P w K mg base CX0 (k + 1) f fd ["_law_up", "_law_down"] spShort := by
  refine F.ok sc_law_short (fun vs H Q E h => ?_) (fun cdv A outer s H vs Q E hr h => ?_)
  · obtain ⟨u, d, rfl, _⟩ := h
    rfl
  · obtain ⟨u, d, rfl, hd0, hd, q⟩ := h
    refine ⟨_, (pss_cons (ps_par (i := 2) (j := 3) rfl sc_law_short.nd rfl rfl (by decide) rfl rfl (pa_cons (pe_callB call_abs (by rfl) mabs (by decide +kernel) (pa_cons (pv 0) pa_nil)) (pa_cons (pe_callB call_abs (by rfl) mabs (by decide +kernel) (pa_cons (pv 1) pa_nil)) pa_nil)) (by rfl))
      (pss_cons (ps_while PassesOwn.never (pt_cmpR op_gt (pv 3) pe_int (nomark _)) (pss_one (ps_par (i := 2) (j := 3) rfl sc_law_short.nd rfl rfl (by decide) rfl rfl (pa_cons (pv 3) (pa_cons (pe_op op_mod (pv 2) (pv 3)) pa_nil)) (by rfl))))
      (pss_cons (ps_if (pt_cmpR op_lt (pv 1) pe_int (nomark _)) (pss_one (ps_set (i := 2) sc_law_short.nd rfl (.inl rfl) (pe_op op_sub pe_int (pv 2)))) pss_nil)
      (pss_one (ps_ret (pe_tup (pa_cons (pe_op op_fdivNW (pv 0) (pv 2)) (pa_cons (pe_op op_fdivNW (pv 1) (pv 2)) pa_nil)))))))), ?_⟩
    refine ⟨_, rfl, _, rfl, _, rfl, _, rfl, ?_⟩
    rw [natAbs_ite, natAbs_ite]
    refine ⟨_, _, rfl, ?_⟩
    refine ⟨fun m σ H' => ∃ x y : Nat, σ = [some (.int u), some (.int d), some (.int x), some (.int y)] ∧ y = m ∧ Nat.gcd x y = Int.gcd u d ∧ Ext H H', ⟨d.natAbs, u.natAbs, d.natAbs, rfl, rfl, rfl, Ext.refl⟩, ?_⟩
    rintro m σ H' ⟨x, y, rfl, rfl, hg, hE⟩
    refine ⟨.int y, rfl, _, _, rfl, rfl, _, rfl, ite2 (fun e => ?_) (fun e => ?_)⟩
    · have hy : (0 : Int) < (y : Int) := by simpa using e
      refine ⟨fun σ' H' => ∃ m', m' < y ∧ ∃ x y : Nat, σ' = [some (.int u), some (.int d), some (.int x), some (.int y)] ∧ y = m' ∧ Nat.gcd x y = Int.gcd u d ∧ Ext H H', fun _ _ h => h, ?_⟩
      refine ⟨_, rfl, .int x, rfl, .int y, rfl, _, _, rfl, rfl, hy, _, _, rfl, ?_⟩
      refine ⟨x % y, Nat.mod_lt _ (by omega), y, x % y, rfl, rfl, ?_, hE⟩
      rw [← hg, Nat.gcd_comm x y, Nat.gcd_comm y (x % y)]
      exact (Nat.gcd_rec y x).symm
    · have hy : y = 0 := by
        have : ¬ (0 : Int) < (y : Int) := by simpa using e
        omega
      subst hy
      rw [Nat.gcd_zero_right] at hg
      subst hg
      have gp := gcd_pos (u := u) hd0
      have gl := g_log (u := u) hd0 hd
      refine ⟨_, rfl, _, _, rfl, rfl, _, rfl, ite2 (fun e => ?_) (fun e => ?_)⟩
      · have hn : d < 0 := by simpa using e
        refine ⟨_, rfl, _, _, rfl, rfl, ?_⟩
        have c0 : ∀ z : Int, CDivNW z (0 - (Int.gcd u d : Int)) := fun z => ⟨by omega, by
          have : (0 - (Int.gcd u d : Int)).natAbs = (Int.gcd u d : Int).natAbs := by omega
          rw [this]
          exact gl⟩
        refine ⟨_, rfl, _, rfl, _, _, rfl, rfl, c0 _, _, rfl, _, rfl, _, _, rfl, rfl, c0 _, szL (show 2 ≤ 1000000 by decide), fun t2 ht2 => q _ _ ⟨t2, rfl, ?_⟩ (hE.trans (Ext.new ht2))⟩
        unfold shr
        rw [if_pos hn, upd_same]
        show some (HO.tup [V.int (u.fdiv (0 - (Int.gcd u d : Int))), V.int (d.fdiv (0 - (Int.gcd u d : Int)))]) = _
        rw [fdiv_neg' _ _ gp, fdiv_neg' _ _ gp]
      · have hn : ¬ d < 0 := by simpa using e
        have c0 : ∀ z : Int, CDivNW z (Int.gcd u d : Int) := fun z => ⟨by omega, gl⟩
        refine ⟨_, rfl, _, rfl, _, _, rfl, rfl, c0 _, _, rfl, _, rfl, _, _, rfl, rfl, c0 _, szL (show 2 ≤ 1000000 by decide), fun t2 ht2 => q _ _ ⟨t2, rfl, ?_⟩ (hE.trans (Ext.new ht2))⟩
        unfold shr
        rw [if_neg hn, upd_same]
        show some (HO.tup [V.int (u.fdiv (Int.gcd u d : Int)), V.int (d.fdiv (Int.gcd u d : Int))]) = _
        rw [Int.fdiv_eq_ediv_of_nonneg _ (by omega), Int.fdiv_eq_ediv_of_nonneg _ (by omega)]
abbrev CShort (P : Program) (w : World) (K : PySem.W.Frag) (mg : Str → Option Value) (base : Heap) : Prop := Ca P w K mg base 1 "_law_short" ["_law_up", "_law_down"] spShort
/-! ### share_of -/
abbrev s_share_of : Stmt := topS 26
theorem sc_share_of : FnScope ["top", "bottom", "divisor"] ["top", "bottom"] (defScope s_share_of) :=
  ⟨rfl, rfl, rfl, by decide +kernel, rfl, by decide +kernel, by decide +kernel⟩
abbrev FunSh (K : PySem.W.Frag) (f : Addr) (fd : FuncData) : Prop := FunD K "share_of" "share_of" (defArgs s_share_of) (defBody s_share_of) (defScope s_share_of) [.int 1] [] f fd
def spShU : Sp := fun vs H Q _ => ∃ (u d : Int), vs = [.int u, .int d] ∧ d ≠ 0 ∧ d.natAbs < 2 ^ 4000 ∧ ∀ v H', ShT H' v (shr u d) → Ext H H' → Q v H'
def spSh0 : Sp := fun vs H Q _ => ∃ (u d : Int), vs = [.int u, .int d] ∧ 0 < d ∧ d.natAbs < 2 ^ 4000 ∧ ∀ v H', ShT H' v (shr u d) → Ext H H' → Q v H'
theorem ok_sh0 {f : Addr} {fd : FuncData} {k : Nat} (F : FunSh K f fd) (cshare_of : Ca P w K mg base 0 "share_of" ["top", "bottom"] (fun _ _ _ _ => False)) (cgreatest_divisor : CGD P w K mg base) (mabs : mg "abs" = none) : FnOk P w K mg base CX0 (k + 2) f fd ["top", "bottom"] spSh0 := by
  refine F.ok sc_share_of (fun vs H Q E h => ?_) (fun cdv A outer s H vs Q E hr h => ?_)
  · obtain ⟨u, d, rfl, _⟩ := h
    rfl
  · obtain ⟨u, d, rfl, hd0, hd, q⟩ := h
    refine ⟨_, PSs.nox (pss_cons (ps_if (pt_cmpR op_lt (pv 1) pe_int (nomark _)) (pss_one (ps_ret (pe_ca cshare_of (hr.mono (by omega)) (by rfl) (pa_cons (pe_un un_neg (pv 0)) (pa_cons (pe_un un_neg (pv 1)) pa_nil))))) pss_nil)
      (pss_cons (ps_set (i := 2) sc_share_of.nd rfl (.inl rfl) (pe_ca cgreatest_divisor (hr.mono (by omega)) (by rfl) (pa_cons (pe_callB call_abs (by rfl) mabs (by decide +kernel) (pa_cons (pv 0) pa_nil)) (pa_cons (pv 1) pa_nil))))
      (pss_one (ps_ret (pe_tup (pa_cons (pe_op op_fdivNW (pv 0) (pv 2)) (pa_cons (pe_op op_fdivNW (pv 1) (pv 2)) pa_nil))))))), ?_⟩
    refine ⟨_, rfl, _, _, rfl, rfl, _, rfl, ite2 (fun e => ?_) (fun e => ?_)⟩
    · exfalso
      have : d < 0 := by simpa using e
      omega
    · have hn : d ≠ 0 := by omega
      have gp := gcd_pos (u := u) hn
      have gl := g_log (u := u) hn hd
      refine ⟨_, rfl, _, rfl, _, rfl, u.natAbs, d.natAbs, ?_, fun H1 hE => ?_⟩
      · rw [natAbs_ite, show (d.natAbs : Int) = d by omega]
        rfl
      · have c0 : ∀ z : Int, CDivNW z (Int.gcd u d : Int) := fun z => ⟨by omega, gl⟩
        refine ⟨_, rfl, _, rfl, _, _, rfl, rfl, c0 _, _, rfl, _, rfl, _, _, rfl, rfl, c0 _, szL (show 2 ≤ 1000000 by decide), fun t2 ht2 => q _ _ ⟨t2, rfl, ?_⟩ (hE.trans (Ext.new ht2))⟩
        rw [shr_pos hd0, upd_same]
        show some (HO.tup [V.int (u.fdiv (Int.gcd u d : Int)), V.int (d.fdiv (Int.gcd u d : Int))]) = _
        rw [Int.fdiv_eq_ediv_of_nonneg _ (by omega), Int.fdiv_eq_ediv_of_nonneg _ (by omega)]
theorem ok_sh {f : Addr} {fd : FuncData} {k : Nat} (F : FunSh K f fd) (cshare_of : Ca P w K mg base 2 "share_of" ["top", "bottom"] spSh0) (cgreatest_divisor : CGD P w K mg base) (mabs : mg "abs" = none) : FnOk P w K mg base CX0 (k + 3) f fd ["top", "bottom"] spShU := by
  refine F.ok sc_share_of (fun vs H Q E h => ?_) (fun cdv A outer s H vs Q E hr h => ?_)
  · obtain ⟨u, d, rfl, _⟩ := h
    rfl
  · obtain ⟨u, d, rfl, hn, hd, q⟩ := h
    refine ⟨_, PSs.nox (pss_cons (ps_if (pt_cmpR op_lt (pv 1) pe_int (nomark _)) (pss_one (ps_ret (pe_ca cshare_of (hr.mono (by omega)) (by rfl) (pa_cons (pe_un un_neg (pv 0)) (pa_cons (pe_un un_neg (pv 1)) pa_nil))))) pss_nil)
      (pss_cons (ps_set (i := 2) sc_share_of.nd rfl (.inl rfl) (pe_ca cgreatest_divisor (hr.mono (by omega)) (by rfl) (pa_cons (pe_callB call_abs (by rfl) mabs (by decide +kernel) (pa_cons (pv 0) pa_nil)) (pa_cons (pv 1) pa_nil))))
      (pss_one (ps_ret (pe_tup (pa_cons (pe_op op_fdivNW (pv 0) (pv 2)) (pa_cons (pe_op op_fdivNW (pv 1) (pv 2)) pa_nil))))))), ?_⟩
    refine ⟨_, rfl, _, _, rfl, rfl, _, rfl, ite2 (fun e => ?_) (fun e => ?_)⟩
    · have hn : d < 0 := by simpa using e
      refine ⟨_, rfl, _, rfl, _, rfl, _, rfl, -u, -d, rfl, by omega, by omega, fun v H' hs hE => q v H' ?_ hE⟩
      rw [← shr_neg hn]
      exact hs
    · have hd0 : 0 < d := by
        have : ¬ d < 0 := by simpa using e
        omega
      have gp := gcd_pos (u := u) hn
      have gl := g_log (u := u) hn hd
      refine ⟨_, rfl, _, rfl, _, rfl, u.natAbs, d.natAbs, ?_, fun H1 hE => ?_⟩
      · rw [natAbs_ite, show (d.natAbs : Int) = d by omega]
        rfl
      · have c0 : ∀ z : Int, CDivNW z (Int.gcd u d : Int) := fun z => ⟨by omega, gl⟩
        refine ⟨_, rfl, _, rfl, _, _, rfl, rfl, c0 _, _, rfl, _, rfl, _, _, rfl, rfl, c0 _, szL (show 2 ≤ 1000000 by decide), fun t2 ht2 => q _ _ ⟨t2, rfl, ?_⟩ (hE.trans (Ext.new ht2))⟩
        rw [shr_pos hd0, upd_same]
        show some (HO.tup [V.int (u.fdiv (Int.gcd u d : Int)), V.int (d.fdiv (Int.gcd u d : Int))]) = _
        rw [Int.fdiv_eq_ediv_of_nonneg _ (by omega), Int.fdiv_eq_ediv_of_nonneg _ (by omega)]
abbrev CSh (P : Program) (w : World) (K : PySem.W.Frag) (mg : Str → Option Value) (base : Heap) : Prop := Ca P w K mg base 3 "share_of" ["top", "bottom"] spShU
end
end Pf


namespace Pf
open PySem PySem.Spec PyProof.Rows L2 HT
/-! ### a product in its place; a tuple lengthened; data compared -/
def ipM : TIp := fun x y H Q => ∃ i j, x = .int i ∧ y = .int j ∧ CMul i j ∧ Q (.int (i * j)) H
theorem ip_mul {X : Cx} : PIp X .Mult ipM := by
  intro pins s σ H x y v u Q I r1 r2 h
  obtain ⟨i, j, e1, e2, hc, q⟩ := h
  subst e1; subst e2
  obtain ⟨t, rfl⟩ := r1
  obtain ⟨t', rfl⟩ := r2
  exact imul_int ⟨.int _, H, I.tok _, ⟨_, rfl⟩, q⟩ hc.ok
theorem no_tup_iadd : typeLookup (.type "tuple") (dunderI "add") = pure none := by kernel_rfl
def rItup : TIp := fun x y H Q => ∃ a b xs ys, x = .ref a ∧ y = .ref b ∧ H a = some (.tup xs) ∧ H b = some (.tup ys) ∧ xs.length + ys.length ≤ sizeLine ∧ ∀ p H', Ext H H' → H' p = some (.tup (xs ++ ys)) → Q (.ref p) H'
theorem ip_tup {X : Cx} : PIp X .Add rItup := by
  intro pins s σ H x y v u Q I rx ry h
  obtain ⟨a, b, xs, ys, rfl, rfl, ha, hb, hz, q⟩ := h
  cases rx
  cases ry
  obtain ⟨its, r1, p1, _⟩ := I.tuple (SqT.of (K := X.K) ha)
  obtain ⟨its2, r2, p2, _⟩ := I.tuple (SqT.of (K := X.K) hb)
  obtain ⟨⟨cls, dd, data, sl⟩, ho, hc, n, hd⟩ := id p1
  obtain ⟨⟨cls2, dd2, data2, sl2⟩, ho2, hc2, n2, hd2⟩ := id p2
  simp only at hc hd hc2 hd2
  subst hc hd hc2 hd2
  have e : its.toArray ++ its2.toArray = (its ++ its2).toArray := by simp
  have go : ∀ {S : PySem.Spec}, PySem.Meets (Builtin.«tuple.__add__» ⟨[.ref a, .ref b], []⟩) S → S X.A (wants (EP X pins σ Q) X.xe) s → wpAny (model X.prog X.w) X.A (inplaceOp .Add (.ref a) (.ref b)) (EP X pins σ Q) X.xe s := fun g h =>
    inplaceOp_concat ⟨_, ho, rfl⟩ ⟨_, ho2, rfl⟩ no_tup_iadd PySem.noFill_tuple_add PySem.seq_tuple_add (call_meets PySem.F.slot_tuple_add ⟨_, ho, rfl⟩ PySem.F.entry_tuple_add (PySem.F.args_tuple_add_2 _ _) g h)
  by_cases h1 : its = []
  · have hx : xs = [] := by
      have := r1.length
      rw [h1] at this
      exact List.eq_nil_of_length_eq_zero this
    exact go (tuple_addW0 a b its.toArray its2.toArray n n2 dd dd2 sl sl2 (by simp [h1])) ⟨ho, ho2, .ref b, H, I, rfl, q b H Ext.refl (by rw [hx]; exact hb)⟩
  · by_cases h2 : its2 = []
    · have hy : ys = [] := by
        have := r2.length
        rw [h2] at this
        exact List.eq_nil_of_length_eq_zero this
      exact go (tuple_addW1 a b its.toArray its2.toArray n n2 dd dd2 sl sl2 (by simpa using h1) (by simp [h2])) ⟨ho, ho2, .ref a, H, I, rfl, q a H Ext.refl (by rw [hy, List.append_nil]; exact ha)⟩
    · refine go (tuple_addW2 a b its.toArray its2.toArray n n2 dd dd2 sl sl2 (by simpa using h1) (by simpa using h2) (by rw [List.size_toArray, List.size_toArray, ← r1.length, ← r2.length]; exact hz)) ⟨ho, ho2, ?_⟩
      rw [e]
      refine ⟨.ref s.heap.objs.size, _, I.laid (t' := s.toks) (o := .tup (xs ++ ys)) (fun b ob q => Heap.get?_push_of_some _ q) (Nat.le_refl _) ?_, rfl, q _ _ (Ext.new (I.hok.fresh (Nat.le_refl _))) upd_same⟩
      exact ⟨by rw [List.length_append]; exact hz, _, r1.append r2, IsTup.new _ _⟩
def rLtD (K : PySem.W.Frag) : R2 := fun x y H Q => ∃ d e, Dp K H x d ∧ Dp K H y e ∧ PySem.W.alike d e = true ∧ d ≠ .none ∧ d.depth ≤ 64 ∧ Q (.bl (PySem.W.dataLt d e)) H
theorem ltD (K : PySem.W.Frag) {X : Cx} (hu : X.A.units + 64 < cLine) (h : X.K = K := by rfl) : OpR X (compareOp .Lt) (rLtD K) := by
  subst h
  intro pins s σ H x y v u Q I rx ry h
  obtain ⟨d, e, hd, he, ha, hn, hdp, q⟩ := h
  obtain ⟨as, r1⟩ := Dp.reads I d x v hd rx
  obtain ⟨bs, r2⟩ := Dp.reads I e y u he ry
  exact PySem.W.lt_data r1 r2 ha hn (by have := Nat.min_le_left d.depth e.depth; omega) ⟨.bl _, H, I, rfl, q⟩
end Pf


namespace Pf
open PySem PySem.Spec PyProof.Rows L2 HT
/-! ### great numbers multiplied and halved in their place -/
def ipMW : TIp := fun x y H Q => ∃ i j, x = .int i ∧ y = .int j ∧ CMulW i j ∧ Q (.int (i * j)) H
theorem ip_mulW {X : Cx} : PIp X .Mult ipMW := by
  intro pins s σ H x y v u Q I r1 r2 h
  obtain ⟨i, j, e1, e2, hc, q⟩ := h
  subst e1; subst e2
  obtain ⟨t, rfl⟩ := r1
  obtain ⟨t', rfl⟩ := r2
  exact imul_int ⟨.int _, H, I.tok _, ⟨_, rfl⟩, q⟩ hc.ok
def ipFW : TIp := fun x y H Q => ∃ i j, x = .int i ∧ y = .int j ∧ j ≠ 0 ∧ j.natAbs.log2 < 9000 ∧ Q (.int (i.fdiv j)) H
theorem ip_fdW {X : Cx} : PIp X .FloorDiv ipFW := by
  intro pins s σ H x y v u Q I r1 r2 h
  obtain ⟨i, j, e1, e2, h0, hc, q⟩ := h
  subst e1; subst e2
  obtain ⟨t, rfl⟩ := r1
  obtain ⟨t', rfl⟩ := r2
  exact ifloordiv_int h0 ⟨.int _, H, I.tok _, ⟨_, rfl⟩, q⟩ (.inl (PyProof.noPylong_of_log2 hc))
theorem maxL (K : PySem.W.Frag) {X : Cx} (hc : X.calm = true) (h : X.K = K := by rfl) : CallR X (.builtin "max") (rMax K) := h ▸ cr_max hc
/-- a dict comprehension over a list that stays -/
theorem dc_list {K : PySem.W.Frag} {a : Addr} {xs : List V} {g : TG} {tt : TT} {tk tv : TE} {vs : List Nat} {σ : L2.St} {H1 : Hp} {D : Addr} {Qd : Hp → Prop} (Pv : Nat → Hp → Prop) (h0 : Pv 0 (upd H1 D (.dK []))) (hl : ∀ i H, i ≤ xs.length → Pv i H → SqL K H a xs)
    (hs : ∀ i x H, xs[i]? = some x → Pv i H → g x (wipe σ vs) H fun σ2 H2 => wipe σ2 vs = wipe σ vs ∧ tt σ2 H2 fun b H3 =>
      if b = true then tk σ2 H3 fun y H4 => tv σ2 H4 fun z H5 => ∃ kvs k, y = kV k ∧ H5 D = some (.dK kvs) ∧ kvs.length < sizeLine ∧ Pv (i + 1) (upd H5 D (.dK (putK kvs k z))) else Pv (i + 1) H3) (hd : ∀ H, Pv xs.length H → Qd H) :
    ∃ W : Nat → Nat → Hp → Prop, (∃ m, W 0 m (upd H1 D (.dK []))) ∧ ∀ i m H, W i m H →
      ((Itl K a).stop i H ∧ Qd H) ∨ ((Itl K a).go i H ∧ ∃ Nx : Hp → Prop, (∀ H', Nx H' → ∃ m', m' < m ∧ W (i + 1) m' H') ∧ ∀ x H', (Itl K a).yld i H x H' → g x (wipe σ vs) H' fun σ2 H2 => wipe σ2 vs = wipe σ vs ∧ tt σ2 H2 fun b H3 =>
        if b = true then tk σ2 H3 fun y H4 => tv σ2 H4 fun z H5 => ∃ kvs k, y = kV k ∧ H5 D = some (.dK kvs) ∧ kvs.length < sizeLine ∧ Nx (upd H5 D (.dK (putK kvs k z))) else Nx H3) := by
  refine ⟨fun i m H => m = xs.length - i ∧ i ≤ xs.length ∧ Pv i H, ⟨xs.length, by simp, Nat.zero_le _, h0⟩, ?_⟩
  rintro i m H ⟨rfl, hi, p⟩
  have q := hl i H hi p
  by_cases hlt : i < xs.length
  · refine .inr ⟨⟨xs, xs[i], q, by simp [hlt]⟩, Pv (i + 1), fun H' p' => ⟨xs.length - (i + 1), by omega, rfl, hlt, p'⟩, fun x H' y => ?_⟩
    obtain ⟨e, y⟩ := y
    subst e
    exact hs i x _ (y xs q) p
  · have e : i = xs.length := by omega
    subst e
    exact .inl ⟨⟨xs, q, Nat.le_refl _⟩, hd H p⟩
end Pf


namespace Pf
open PySem PySem.Spec PyProof.Rows L2
/-! ### the sum of a dict's values -/
theorem preSum_is (is : List Int) : ∀ n, n ≤ is.length → preSum (fun i => is.getD i 0) n = (is.take n).sum
  | 0, _ => by rw [List.take_zero]; rfl
  | n + 1, h => by
    have ih := preSum_is is n (by omega)
    have e : is[n]? = some (is.getD n 0) := by
      rw [List.getD_eq_getElem?_getD, List.getElem?_eq_getElem (by omega)]
      rfl
    rw [List.take_add_one, e, List.sum_append, ← ih]
    simp [preSum]
def tSumV (td : TE) : TE := fun σ H Q => td σ H fun x H1 => ∃ (a : Addr) (kvs : List (Key × V)) (is : List Int), x = V.ref a ∧ H1 a = some (.dK kvs) ∧ kvs.map (·.2) = is.map V.int ∧ Q (.int is.sum) H1
theorem pe_sumV {X : Cx} {o : Expr} {p pos apos mpos : Pos} {td : TE} (calm : X.calm = true) (gl : Gl X "sum") (free : X.mg "sum" = none) (ho : PE X o td) (b0 : attributeBase o "values" X.env (eval o X.env) = eval o X.env := by rfl) (l0 : (apos.endLine == mpos.line) = true := by rfl)
    (st : starEach [Expr.Call (.Attribute o "values" apos) [] [] mpos] X.env = [(false, eval (Expr.Call (.Attribute o "values" apos) [] [] mpos) X.env)] := by rfl) : PE X (.Call (.Name "sum" p) [.Call (.Attribute o "values" apos) [] [] mpos] [] pos) (tSumV td) := by
  refine ⟨fun pins s σ H Q I h => wpAny_Call_Name_kw (ld_blt I gl free (u := .builtin "sum") (by decide +kernel) ?_ (by decide) (by decide))⟩
  rw [st]
  refine PySem.callWith_builtin1 (wpAny_Call_method0_late b0 l0 (thn (ho.run pins s σ H _ I h) fun v s1 ⟨x, H1, I1, r1, a, kvs, is, ex, ha, hv, q⟩ => ?_))
  subst ex
  obtain rfl : v = Value.ref a := r1
  obtain ⟨_, nsys, vs, rel, dof⟩ := dk_of I1.hok ha
  obtain ⟨ep, dat⟩ := dof.dictAt
  obtain ⟨ob, es, hob, ex, _⟩ := id dat
  have low : a < s1.heap.objs.size := Heap.lt_size hob
  refine ⟨"dict", "dict.values", F.plainAttrs_dict, F.slot_dict_values, F.type_dict_values, ⟨ob, hob, ex.1⟩, fun b e => by cases e; exact ⟨ob, hob, ex.2.1⟩, Calls.callWith_builtin rfl (PySem.evalArgs_none ?_)⟩
  refine call_meetsIn F.slot_dict_values ⟨ob, hob, ex.1⟩ F.entry_dict_values (F.args_dict_values_1 _) (meets_dict_values (mixKind X.prog X.w) a nsys) ⟨⟨vs, dof⟩, ?_⟩
  have len : vs.length = is.length := by
    have e1 := congrArg List.length hv
    rw [List.length_map, List.length_map] at e1
    exact (KV.length rel).symm.trans e1
  have each : ∀ (i : Nat) (v : Value), (∃ k, vs[i]? = some (k, v)) → ∃ t, v = Value.int (is.getD i 0) t := fun i v ⟨k, hk⟩ => by
    obtain ⟨y, h1, h2⟩ := KV.at' rel hk
    have e1 : (kvs.map (·.2))[i]? = some y := by
      rw [List.getElem?_map, h1]
      rfl
    rw [hv, List.getElem?_map] at e1
    obtain ⟨j, hj, rfl⟩ := Option.map_eq_some_iff.mp e1
    obtain ⟨t, h3⟩ := h2
    refine ⟨t, ?_⟩
    rw [h3, List.getD_eq_getElem?_getD, hj]
    rfl
  have stay : ∀ b u, s1.heap.get? b = some u → (s1.heap.push { cls := .type "dict_values", data := .fields #[.ref a] }).get? b = some u := fun b u e => Heap.get?_push_of_some _ e
  have dat1 : (s1.heap.push { cls := .type "dict_values", data := .fields #[.ref a] }).DictAt (mixKind X.prog X.w) a vs ep := dat.keep stay
  have grown : (s1.heap.push { cls := .type "dict_values", data := .fields #[.ref a] }).objs.size = s1.heap.objs.size + 1 := Heap.size_push _ _
  refine call_sum_walkG (wpAny_pyIter_values (v := s1.heap.objs.size) (d := a) ⟨_, Heap.get?_push_size _ rfl, rfl, rfl⟩ dat1 ?_)
  refine ⟨_, _, _, _, _, _, fun i => is.getD i 0, rfl, Walks.dictValues (knd := mixKind X.prog X.w) (A := X.A.in1) (I.ok.hd calm) (s1.heap.push { cls := .type "dict_values", data := .fields #[.ref a] }).objs.size a (by rw [grown]; exact Nat.ne_of_lt (Nat.lt_succ_of_lt low)) vs ep,
    ⟨⟨_, Heap.get?_push_size _ rfl, rfl, rfl⟩, dat1.keep fun b u e => Heap.get?_push_of_some _ e⟩, fun b hb => ?_, each, fun h' tk t' hk => ?_⟩
  · show b < ((s1.heap.push _).push _).objs.size
    rw [Heap.size_push, Heap.size_push]
    rw [grown] at hb
    simp only [List.mem_cons, List.not_mem_nil, or_false] at hb
    rcases hb with rfl | rfl
    · exact Nat.lt_succ_self _
    · exact Nat.lt_succ_of_lt (Nat.lt_succ_of_lt low)
  · have e0 := preSum_is is vs.length (by omega)
    rw [len, List.take_length] at e0
    refine ⟨.int is.sum, H1, I1.kept (t' := tk) fun b u e => hk b u (fun hmem => ?_) (Heap.get?_push_of_some _ (stay b u e)), ⟨t', ?_⟩, q⟩
    · have e1 := List.mem_singleton.mp hmem
      have e2 := Heap.lt_size e
      rw [grown] at e1
      rw [e1] at e2
      exact absurd e2 (Nat.not_lt.mpr (Nat.le_succ _))
    · rw [len, e0]
end Pf


namespace Pf
open PySem PySem.Spec PyProof.Rows L2
/-! ### what is sorted once it is gathered -/
theorem sort_tail {X : Cx} {pins : List (Addr × Obj)} {σ : L2.St} {H : Hp} {s : Shared} {Q : VK} (I : Inv X pins σ H s) (hu : X.A.units + 64 < cLine) {β : Type} {v : β → V} {dd : β → PyData} {ys : List β} {acc : List Value} (rv : Vals (ys.map v) acc) (hy : ∀ y ∈ ys, Dp X.K H (v y) (dd y) ∧ (dd y).depth ≤ 50)
    (al : PySem.W.AllAlike (ys.map dd)) (so : PySem.W.Sortable (ys.map dd)) (hn : ys.length ≤ sizeLine) (qq : ∀ p, H p = none → Q (.ref p) (upd H p (.lst ((ys.mergeSort (PySem.W.dataLe false dd)).map v)))) {R : PySem.Fin → Shared → Prop} {E : Value → Shared → Prop}
    (hR : ∀ l s', EP X pins σ Q l s' → R (.done (.ret l)) s') :
    wpAny (model X.prog X.w) X.A.in1 (do let l ← newList acc; let _ ← holding [l] (call (.builtin "list.sort") [l] []); ret l) R E s := by
  have hz2 : acc.length ≤ sizeLine := by
    rw [← rv.length, List.length_map]
    exact hn
  refine wpAny_bind (wpAny_newList ?_ hz2)
  have hat : (s.heap.push (seqObj "list" acc.toArray 0)).get? s.heap.objs.size = some (seqObj "list" acc.toArray 0) := Heap.get?_push_size _ rfl
  have hlt : ∀ b ob, s.heap.get? b = some ob → b ≠ s.heap.objs.size := fun b ob e => Nat.ne_of_lt (Heap.lt_size e)
  have old : ∀ b ob, s.heap.get? b = some ob → (s.heap.push (seqObj "list" acc.toArray 0)).get? b = some ob := fun b ob e => Heap.get?_push_of_some _ e
  have rel : PySem.W.EachIs (fun (u : Value) (y : β) => RelV (v y) u) acc ys := each_vals (v := v) rv
  have rd : PySem.W.EachIs (fun (u : Value) (y : β) => ∃ as, Reads (PySem.W.sortingHeap (s.heap.push (seqObj "list" acc.toArray 0)) s.heap.objs.size acc) u (dd y) as) acc ys := (each_reads (v := v) I rv fun y hy' => (hy y hy').1).mono fun _ _ ⟨as, w⟩ => ⟨as, PyProof.Rows.Reads.keeps (fun b ob e => PySem.W.sortingHeap_old (hlt b ob e) (old b ob e)) w⟩
  have hub : ∀ y ∈ ys, X.A.in1.in1.units + (dd y).depth < cLine := fun y hy' => by
    have := (hy y hy').2
    show X.A.units + 2 + (dd y).depth < cLine
    omega
  have S := PySem.W.SortsAt.data (prog := X.prog) (w := X.w) (A := X.A.in1.in1) (s := { s with heap := PySem.W.sortingHeap (s.heap.push (seqObj "list" acc.toArray 0)) s.heap.objs.size acc }) (PySem.W.each_map (R := fun v d => ∃ as, Reads (PySem.W.sortingHeap (s.heap.push (seqObj "list" acc.toArray 0)) s.heap.objs.size acc) v d as) dd rd) al so (PySem.W.bound_map hub)
  refine wpAny_bind (wpAny_holding (wpAny_call_entry slot_list_sort ⟨_, hat, rfl⟩ entry_list_sort ?body (args_list_sort _)))
  case body =>
    refine PySem.W.list_sort_vals (s := { s with heap := s.heap.push (seqObj "list" acc.toArray 0) }) hat S hz2 ⟨_, rfl, wpAny_pure (hR _ _ ?_)⟩
    have each := PySem.W.sortVals_data false rel rd al
    generalize PySem.W.sortVals (PySem.W.dataKind (PySem.W.sortingHeap (s.heap.push (seqObj "list" acc.toArray 0)) s.heap.objs.size acc) (ys.map dd)) false acc acc = out at each ⊢
    obtain ⟨ee, he'⟩ := PyProof.Rows.sortedHeap_at (vs := acc) (out := out.toArray) hat
    have hl2 : ((ys.mergeSort (PySem.W.dataLe false dd)).map v).length ≤ sizeLine := by
      rw [List.length_map, List.length_mergeSort]
      omega
    have free : H s.heap.objs.size = none := I.hok.fresh (Nat.le_refl _)
    have gone : s.heap.get? s.heap.objs.size = none := by
      cases e : s.heap.get? s.heap.objs.size with
      | none => rfl
      | some ob => exact absurd rfl (hlt _ ob e)
    exact ⟨.ref s.heap.objs.size, upd H s.heap.objs.size (.lst ((ys.mergeSort (PySem.W.dataLe false dd)).map v)), I.laidN (t' := s.toks) (fun b ob e => by rw [PyProof.Rows.sortedHeap_old (hlt b ob e) (Heap.lt_size (old b ob e))]; exact old b ob e) gone free ⟨hl2, out, ee, vals_each (v := v) each, by simpa using he'⟩, rfl, qq _ free⟩
/-! ### sorted(d): a dict by numbers -/
def rSortKI (K : PySem.W.Frag) : List V → Hp → VK → Prop := fun vs H Q => ∃ (a : Addr) (kvs : List (Key × V)) (ks : List Int), vs = [.ref a] ∧ Rd H a (.dK kvs) ∧ kvs.map (·.1) = ks.map Sum.inl ∧ ∀ p, H p = none → Q (.ref p) (upd H p (.lst ((ks.mergeSort (PySem.W.dataLe false PyData.int)).map V.int)))
theorem cr_sortKI (K : PySem.W.Frag) {X : Cx} (calm : X.calm = true) (hu : X.A.units + 64 < cLine) (hK : X.K = K := by rfl) : CallR X (.builtin "sorted") (rSortKI K) := by
  subst hK
  intro pins s σ H xs us Q I r q
  obtain ⟨a, kvs, ks, ex, hd, hks, q⟩ := q
  subst ex
  obtain ⟨u, eu, rx⟩ := vals1 r
  subst eu
  cases rx
  obtain ⟨z, lo, vs, rel, dd⟩ := dk_rd I.hok hd
  obtain ⟨ep, hat⟩ := dd.dictAt
  have hkeys : vs.map (·.1) = ks.map Sum.inl := rel.keys.symm.trans hks
  have hl : vs.length = ks.length := by
    have e := congrArg List.length hkeys
    rw [List.length_map, List.length_map] at e
    exact e
  have hkl : kvs.length = ks.length := by
    have e := congrArg List.length hks
    rw [List.length_map, List.length_map] at e
    exact e
  have h16 : vs.length ≤ sizeLine := by omega
  refine Calls.call_function_entry PyProof.Rows.kind_sorted PyProof.Rows.plain_sorted PyProof.Rows.entry_sorted (PyProof.Rows.args_sorted1 _) ?_
  unfold Builtin.«sorted»
  refine wpAny_bind (m := checkCount "sorted" 1 1 _) (wpAny_pure ?_)
  refine wpAny_bind (PySem.W.kdu_collect (A := X.A.in1) (PySem.W.kdl_dict (knd := mixKind X.prog X.w) (kvs := vs) (ep := ep) lo) (I.ok.hd calm) hat h16 fun h' tk acc hk hacc => ?_)
  have hal : acc.toList.length = ks.length := by rw [Array.length_toList, hacc.1, hl]
  have hS : IntsAre acc.toList ks := ints_each hal fun j v e => by
    obtain ⟨k, x, e1, e2⟩ := hacc.2 j v (by rw [← Array.getElem?_toList]; exact e)
    have e3 : (vs.map (·.1))[j]? = some k := by rw [List.getElem?_map, e1]; rfl
    rw [hkeys, List.getElem?_map] at e3
    cases e4 : ks[j]? with
    | none => rw [e4] at e3; cases e3
    | some y =>
      rw [e4] at e3
      have e5 : Sum.inl y = k := Option.some.inj e3
      subst e5
      rcases keyIs_shape (show keyIs (Sum.inl y) v = true from e2) with ⟨i, t, ek, ev⟩ | ⟨z, t, ek, ev⟩
      · cases ek
        exact ⟨y, t, rfl, ev⟩
      · cases ek
  have I1 : Inv X pins σ H { s with heap := h', toks := tk } := I.kept hk
  refine sort_tail I1 hu (v := V.int) (dd := PyData.int) (ys := ks) (vals_of_ints hS) (fun y _ => ⟨.int _, by simp [PyData.depth]⟩) (PySem.W.AllAlike.of fun b b' => by simp [PySem.W.alike]) (PySem.W.Sortable.others fun b => ⟨(fun z => by cases z), fun xs z => by cases z⟩) (by omega) q fun l s' h => ⟨_, rfl, h⟩
/-! ### sorted(d.items()): a dict by numbers, of numbers -/
theorem laid_tuples {X : Cx} {pins : List (Addr × Obj)} {σ : L2.St} {H : Hp} {s : Shared} {h' : Heap} {tk : Nat} {kvs : List (Key × V)} {vs : List (Key × Value)} {as : List Addr} (I : Inv X pins σ H s) (kv : KV kvs vs)
    (hk : ∀ b o, s.heap.get? b = some o → h'.get? b = some o) (hl : as.length = vs.length) (hG : PySem.W.KdxG (mixKind X.prog X.w) vs s.heap.objs.size h' as) :
    ∃ H' : Hp, Ext H H' ∧ Paired (fun (t : Addr) (q : Key × V) => H' t = some (.tup [kV q.1, q.2])) as kvs ∧ Inv X pins σ H' { s with heap := h', toks := tk } := by
  have lk : kvs.length = vs.length := Paired.length kv
  have nd : as.Nodup := List.Pairwise.imp (fun {a b} (h : a < b) => Nat.ne_of_lt h) hG.rise
  have new : ∀ t ∈ as, H t = none := fun t ht => I.hok.fresh (Nat.le_of_lt (hG.above t ht))
  have atP := LiI.putT_at as kvs H (by omega) nd
  have off : ∀ b, b ∉ as → LiI.putT H as kvs b = H b := fun b h1 => LiI.putT_off as kvs _ h1
  have low : ∀ b o, s.heap.get? b = some o → b ∉ as := fun b o e z => absurd (Heap.lt_size e) (Nat.not_lt.mpr (Nat.le_of_lt (hG.above b z)))
  have kp : ∀ b u, H b = some u → (LiI.putT H as kvs) b = some u := fun b u e => by
    rw [off b (fun z => by rw [new b z] at e; cases e)]
    exact e
  refine ⟨LiI.putT H as kvs, kp, atP, ?_⟩
  refine I.call' (ch := []) rfl ⟨fun b o q _ _ _ => hk b o q, fun b o q _ _ _ => ⟨o.slots, hk b o q⟩, fun b o q n _ => ?_, fun b o q _ => ⟨o, hk b o q⟩, fun b xs q => kp b _ q, fun b o u q => kp b _ q, fun b ps q => ⟨#[], by rw [kp b _ q]; simp⟩⟩ (fun b u q => ?_) I.bare fun b z => by simp at z
  · rw [off b (low b o q)]
    exact n
  · by_cases hb : b ∈ as
    · obtain ⟨j, pk, e1, e2, e3⟩ := LiI.paired_ix atP hb
      rw [e3] at q
      cases q
      obtain ⟨key, k, x, f1, f2, f3⟩ := hG.pairs j b e1
      obtain ⟨qv, g1, g2, g3⟩ := LiI.paired_get kv e2
      rw [f1] at g1
      cases g1
      have rk : RelV (kV pk.1) key := by
        rw [g2]
        exact relV_key (show keyIs k key = true from f2)
      exact ⟨by show 2 ≤ sizeLine; decide, [key, x], .cons rk (.cons g3 .nil), ⟨_, f3, rfl, _, rfl⟩⟩
    · rw [off b hb] at q
      exact (I.hok b u q).stay (fun d v _ y => hk d v y) (fun d y => kp d _ y) fun d xs y => kp d _ y
def d2 (y : Addr × Int × Int) : PyData := .tuple [.int y.2.1, .int y.2.2]
def tSortItems (te : TE) : TE := fun σ H Q => te σ H fun x H1 => ∃ (d : Addr) (t : List (Int × Int)), x = .ref d ∧ H1 d = some (.dK (t.map fun y => (.inl y.1, .int y.2))) ∧
  ∀ (p : Addr) (ys : List (Addr × Int × Int)) (H' : Hp), H1 p = none → Ext H1 H' → H' p = some (.lst (ys.map fun y => .ref y.1)) → (∀ y ∈ ys, H' y.1 = some (.tup [.int y.2.1, .int y.2.2])) → ys.map (·.2) = t.mergeSort (PySem.W.dataLe false fun z : Int × Int => PyData.tuple [.int z.1, .int z.2]) → Q (.ref p) H'
theorem pe_sortItems {X : Cx} {o : Expr} {p pos apos mpos : Pos} {td : TE} (calm : X.calm = true) (hu : X.A.units + 64 < cLine) (gl : Gl X "sorted") (free : X.mg "sorted" = none) (ho : PE X o td) (b0 : attributeBase o "items" X.env (eval o X.env) = eval o X.env := by rfl) (l0 : (apos.endLine == mpos.line) = true := by rfl)
    (st : starEach [Expr.Call (.Attribute o "items" apos) [] [] mpos] X.env = [(false, eval (Expr.Call (.Attribute o "items" apos) [] [] mpos) X.env)] := by rfl) : PE X (.Call (.Name "sorted" p) [.Call (.Attribute o "items" apos) [] [] mpos] [] pos) (tSortItems td) := by
  refine ⟨fun pins s σ H Q I h => wpAny_Call_Name_kw (ld_blt I gl free (u := .builtin "sorted") (by decide +kernel) ?_ (by decide) (by decide))⟩
  rw [st]
  refine PySem.callWith_builtin1 (wpAny_Call_method0_late b0 l0 (thn (ho.run pins s σ H _ I h) fun v s1 ⟨x, H1, I1, r1, a, t, ex, ha, q⟩ => ?_))
  subst ex
  obtain rfl : v = Value.ref a := r1
  obtain ⟨hz, nsys, vs, rel, dof⟩ := dk_of I1.hok ha
  obtain ⟨ep, dat⟩ := dof.dictAt
  obtain ⟨ob, es, hob, ex, _⟩ := id dat
  have low : a < s1.heap.objs.size := Heap.lt_size hob
  refine ⟨"dict", "dict.items", F.plainAttrs_dict, F.slot_dict_items, F.type_dict_items, ⟨ob, hob, ex.1⟩, fun b e => by cases e; exact ⟨ob, hob, ex.2.1⟩, Calls.callWith_builtin rfl (PySem.evalArgs_none ?_)⟩
  refine call_meetsIn F.slot_dict_items ⟨ob, hob, ex.1⟩ F.entry_dict_items (F.args_dict_items_1 _) (meets_dict_items (mixKind X.prog X.w) a nsys) ⟨⟨vs, dof⟩, ?_⟩
  have len : vs.length = t.length := by
    have e1 := KV.length rel
    rw [List.length_map] at e1
    exact e1.symm
  have hz' : t.length ≤ sizeLine := by
    rw [List.length_map] at hz
    exact hz
  have I2 : Inv X pins σ H1 { s1 with heap := s1.heap.push { cls := .type "dict_items", data := .fields #[.ref a] } } := I1.kept (t' := s1.toks) fun b ob q => Heap.get?_push_of_some _ q
  refine Calls.call_function_entry PyProof.Rows.kind_sorted PyProof.Rows.plain_sorted PyProof.Rows.entry_sorted (PyProof.Rows.args_sorted1 _) ?_
  unfold Builtin.«sorted»
  refine wpAny_bind (m := checkCount "sorted" 1 1 _) (wpAny_pure ?_)
  refine wpAny_bind (PySem.W.kdx_collect (A := X.A.in1) (knd := mixKind X.prog X.w) (kvs := vs) (ep := ep) (I.ok.hd calm) ⟨_, Heap.get?_push_size _ rfl, rfl, rfl⟩ (dat.push _) (by omega) fun h' tk as hk hl hG => ?_)
  obtain ⟨H', k1, k6, J⟩ := laid_tuples (tk := tk) I2 rel hk hl hG
  have hal : as.length = t.length := by omega
  have e1 : (as.zip t).map (·.1) = as := List.map_fst_zip (by omega)
  have e2 : (as.zip t).map (·.2) = t := List.map_snd_zip (by omega)
  have hat : ∀ y ∈ as.zip t, H' y.1 = some (.tup [.int y.2.1, .int y.2.2]) := by
    have : ∀ {as : List Addr} {t : List (Int × Int)}, Paired (fun (b : Addr) (q : Key × V) => H' b = some (.tup [kV q.1, q.2])) as (t.map fun y => ((.inl y.1 : Key), V.int y.2)) → ∀ y ∈ as.zip t, H' y.1 = some (.tup [.int y.2.1, .int y.2.2]) := by
      intro as
      induction as with
      | nil => intro t _ y hy; cases hy
      | cons b as ih =>
        intro t hp y hy
        cases t with
        | nil => cases hy
        | cons z t =>
          rw [List.map_cons] at hp
          cases hp with
          | cons r tl =>
            rcases List.mem_cons.mp hy with rfl | hy
            · exact r
            · exact ih tl y hy
    exact this k6
  have rv : Vals ((as.zip t).map fun y => V.ref y.1) (as.map Value.ref) := by
    have e3 : ((as.zip t).map fun y => V.ref y.1) = as.map V.ref := by
      have := congrArg (List.map V.ref) e1
      rw [List.map_map] at this
      exact this
    rw [e3]
    exact LiI.vals_refs as
  refine sort_tail J hu (v := fun y : Addr × Int × Int => V.ref y.1) (dd := d2) (ys := as.zip t) rv (fun y hy => ⟨.tup (SqT.of (hat y hy)) (.cons (.int _) (.cons (.int _) .nil)), by simp [d2, PyData.depth, PyData.depthAll]⟩) (PySem.W.AllAlike.of fun b b' => by simp [d2, PySem.W.alike, PySem.W.alikeAll]) (PySem.W.Sortable.tuples fun b => ⟨_, _, rfl⟩) (by rw [List.length_zip]; omega) (fun p hp => ?_) fun l s' h => ⟨_, rfl, h⟩
  have xp := Ext.new (o := .lst (((as.zip t).mergeSort (PySem.W.dataLe false d2)).map fun y => V.ref y.1)) hp
  refine q p _ _ (k1.none hp) (k1.trans xp) upd_same (fun y hy => xp _ _ (hat y ((List.mergeSort_perm _ _).mem_iff.mp hy))) ?_
  have hm := List.map_mergeSort (r := PySem.W.dataLe false d2) (s := PySem.W.dataLe false fun z : Int × Int => PyData.tuple [.int z.1, .int z.2]) (f := fun b : Addr × Int × Int => b.2) (l := as.zip t) (fun a _ b _ => rfl)
  rw [e2] at hm
  exact hm
end Pf


namespace Pf
open PySem PySem.Spec PyProof.Rows L2
/-! ### tuples of tuples as keys of a dict -/
structure NKind (prog : Program) (w : World) (α : Type) [DecidableEq α] where
  is : Heap → α → Addr → Prop
  hash : α → Int
  draws : α → Nat
  lev : Nat
  inj : ∀ {h : Heap} {a : Addr} {x y : α}, is h x a → is h y a → x = y
  keeps : ∀ {h h' : Heap} {k : α} {a d : Addr} {o : Obj} {es ep}, is h k a → h.get? d = some o → o.data = .dict es ep → Heap.SameBut d h h' → is h' k a
  pyHash : ∀ {A : Around} {E : Value → Shared → Prop} {s : Shared} {k : α} {a : Addr} {Q : Int → Shared → Prop}, A.units + lev < cLine → is s.heap k a → Q (hash k) { s with toks := s.toks + draws k } → wpAny (model prog w) A (PySem.pyHash (.ref a)) Q E s
  eqBool : ∀ {A : Around} {E : Value → Shared → Prop} {s : Shared} {x y : α} {a b : Addr} {Q : Bool → Shared → Prop}, A.units + lev < cLine → is s.heap x a → is s.heap y b → Q (decide (x = y)) s → wpAny (model prog w) A (PySem.eqBool (.ref a) (.ref b)) Q E s
  quiet : ∀ {A : Around} {E : Value → Shared → Prop} {s : Shared} {n : Nat} {k : α} {a : Addr} {Q : Bool → Shared → Prop}, lev < n → is s.heap k a → Q true s → wpAny (model prog w) A (eqIsQuiet n (.ref a)) Q E s
def NKind.kind {prog : Program} {w : World} {α : Type} [DecidableEq α] (N : NKind prog w α) (h8 : N.lev < 8) : HeapKind prog w α where
  is := N.is
  hash := N.hash
  draws := N.draws
  room := fun A => A.units + N.lev < cLine
  inj := N.inj
  keeps := N.keeps
  pyHash := N.pyHash
  eqBool := N.eqBool
  quiet := fun hk h => N.quiet h8 hk h
section
variable {prog : Program} {w : World} {α : Type} [DecidableEq α]
theorem quiet_flat {knd : KeyKind prog w α} {A : Around} {E : Value → Shared → Prop} {s : Shared} {n : Nat} {ks : List α} {a : Addr} {Q : Bool → Shared → Prop} (hn : 0 < n) (hk : IsTupleKey knd s.heap ks a) (h : Q true s) : wpAny (model prog w) A (eqIsQuiet n (.ref a)) Q E s := by
  obtain ⟨m, rfl⟩ : ∃ m, n = m + 1 := ⟨n - 1, by omega⟩
  have T := hk.typeIs
  obtain ⟨o, items, k, ho, _, hd, hi⟩ := hk
  unfold eqIsQuiet
  refine wpAny_bind (wpAny_specialOf T F.slot_tuple_eq.lookup ?_)
  show wpAny _ _ (isInstance (.ref a) (.type "tuple") >>= _) _ _ s
  refine wpAny_bind (wpAny_isInstance T isSubtype_tuple_tuple ?_)
  simp only [Bool.not_true, Bool.false_eq_true, if_false]
  refine wpAny_bind (wpAny_seqItems ho hd ?_)
  refine wpAny_bind ?_
  show wpAny _ _ (forIn items _ _) _ _ s
  rw [← Array.forIn_toList]
  refine wpAny_forIn_list _ (fun rest r t => r.1 = none ∧ t = s ∧ ∀ v ∈ rest, carriedByValue v = true) _ ?_ ?_ _ _ ⟨rfl, rfl, hi.byValue⟩
  · rintro v rest r t ⟨hr, rfl, all⟩
    rw [eqIsQuiet_byValue _ (all v List.mem_cons_self)]
    refine wpAny_bind (wpAny_pure ?_)
    simp only [Bool.not_true, Bool.false_eq_true, if_false]
    exact wpAny_pure ⟨rfl, rfl, fun u hu => all u (List.mem_cons_of_mem _ hu)⟩
  · rintro ⟨r1, r2⟩ t ⟨hr, rfl, _⟩
    simp only at hr
    subst hr
    exact wpAny_pure h
/-- flat tuples -/
def flatN (knd : KeyKind prog w α) : NKind prog w (List α) where
  is := IsTupleKey knd
  hash := tupleKeyHash knd
  draws := fun ks => ks.length + 1
  lev := 0
  inj := fun hx hy => hx.inj hy
  keeps := fun x ho hd hs => x.keeps ho hd hs
  pyHash := fun hu hk h => wpAny_pyHash_tuple hu hk h
  eqBool := fun hu hx hy h => wpAny_eqBool_tuple hu hx hy h
  quiet := fun hn hk h => quiet_flat hn hk h
variable (N : NKind prog w α)
inductive RefsAre (h : Heap) : List α → List Value → Prop
  | nil : RefsAre h [] []
  | cons {k : α} {b : Addr} {ks : List α} {vs : List Value} : N.is h k b → RefsAre h ks vs → RefsAre h (k :: ks) (.ref b :: vs)
def IsTupN (h : Heap) (ks : List α) (a : Addr) : Prop := ∃ o items n, h.get? a = some o ∧ o.cls = .type "tuple" ∧ o.data = .seq items n ∧ RefsAre N h ks items.toList
variable {N}
theorem RefsAre.inj {h : Heap} {x y : List α} {vs : List Value} (hx : RefsAre N h x vs) (hy : RefsAre N h y vs) : x = y := by
  induction hx generalizing y with
  | nil => cases hy; rfl
  | cons h1 _ ih =>
    cases hy with
    | cons h2 t2 => rw [N.inj h1 h2, ih t2]
theorem RefsAre.length {h : Heap} {x : List α} {vs : List Value} (hx : RefsAre N h x vs) : x.length = vs.length := by
  induction hx with
  | nil => rfl
  | cons _ _ ih => rw [List.length_cons, List.length_cons, ih]
theorem RefsAre.keeps {h h' : Heap} {d : Addr} {o : Obj} {es ep} (ho : h.get? d = some o) (hd : o.data = .dict es ep) (hs : Heap.SameBut d h h') {x : List α} {vs : List Value} (hx : RefsAre N h x vs) : RefsAre N h' x vs := by
  induction hx with
  | nil => exact .nil
  | cons h1 _ ih => exact .cons (N.keeps h1 ho hd hs) ih
theorem IsTupN.typeIs {s : Shared} {ks : List α} {a : Addr} (x : IsTupN N s.heap ks a) : s.TypeIs (.ref a) "tuple" := let ⟨o, _, _, ho, hc, _⟩ := x; ⟨o, ho, hc⟩
theorem IsTupN.inj {h : Heap} {a : Addr} {x y : List α} (hx : IsTupN N h x a) (hy : IsTupN N h y a) : x = y := by
  obtain ⟨o, items, n, ho, _, hd, hi⟩ := hx
  obtain ⟨o', items', n', ho', _, hd', hi'⟩ := hy
  obtain rfl : o = o' := Option.some.inj (ho.symm.trans ho')
  rw [hd] at hd'
  injection hd' with h1 _
  subst h1
  exact hi.inj hi'
theorem IsTupN.keeps {h h' : Heap} {ks : List α} {a d : Addr} {o : Obj} {es ep} (x : IsTupN N h ks a) (ho : h.get? d = some o) (hd : o.data = .dict es ep) (hs : Heap.SameBut d h h') : IsTupN N h' ks a := by
  obtain ⟨o', items, n, ho', hc, hd', hi⟩ := x
  have ne : a ≠ d := by
    rintro rfl
    obtain rfl : o' = o := Option.some.inj (ho'.symm.trans ho)
    rw [hd] at hd'
    exact nomatch hd'
  exact ⟨o', items, n, (hs.2 a ne).trans ho', hc, hd', hi.keeps ho hd hs⟩
def nHash (N : NKind prog w α) (ks : List α) : Int := reduceHash (Builtin.Tuple.tupleHashOf (ks.map N.hash))
def nDraws (N : NKind prog w α) (ks : List α) : Nat := (ks.map N.draws).sum + 1
theorem pyHash_n {A : Around} {E : Value → Shared → Prop} {s : Shared} {ks : List α} {a : Addr} {Q : Int → Shared → Prop} (hu : A.units + (N.lev + 1) < cLine) (hk : IsTupN N s.heap ks a) (h : Q (nHash N ks) { s with toks := s.toks + nDraws N ks }) : wpAny (model prog w) A (pyHash (.ref a)) Q E s := by
  have T := hk.typeIs
  obtain ⟨o, items, n, ho, _, hd, hi⟩ := hk
  unfold pyHash
  first | unfold pyHashByItsType | skip
  first | refine wpAny_bind (wpAny_cRoomFor_or (.inr (by omega)) ?_) | skip
  refine wpAny_bind (wpAny_specialOf T F.slot_tuple_hash.lookup ?_)
  show wpAny _ _ (if (some (Value.builtin "tuple.__hash__") == some Value.none) = true then _ else _) Q E s
  rw [if_neg (by rw [beq_builtin_none]; exact Bool.false_ne_true)]
  refine wpAny_bind (wpAny_specialOf T F.slot_tuple_hash.lookup ?_)
  show wpAny _ _ (callSpecialIfBoundUnlessNone? (.ref a) "__hash__" _ >>= _) Q E s
  refine wpAny_bind (wpAny_callSpecialIfBoundUnlessNone?_slot T F.slot_tuple_hash (wpAny_call_entry F.slot_tuple_hash T F.entry_tuple_hash ?_ (F.args_tuple_hash_1 _)))
  show wpAny _ _ (Builtin.Tuple.tupleItemsOf (.ref a) >>= _) _ _ s
  refine wpAny_bind (wpAny_tupleItemsOf ho hd ?_)
  refine wpAny_bind ?_
  rw [← Array.forIn_toList]
  refine wpAny_forIn_list _ (fun rest (b : Array Int) t => ∃ done left, ks = done ++ left ∧ RefsAre N s.heap left rest ∧ b.toList = done.map N.hash ∧ t = { s with toks := s.toks + (done.map N.draws).sum }) _ ?_ ?_ _ _ ⟨[], ks, rfl, hi, rfl, rfl⟩
  · rintro x rest b t ⟨done, left, rfl, hl, hb, rfl⟩
    cases hl with
    | @cons k c ks' _ h1 hl' =>
      refine wpAny_bind (N.pyHash (by show A.units + 1 + N.lev < cLine; omega) h1 ?_)
      have e : (({ s with toks := s.toks + (done.map N.draws).sum + N.draws k } : Shared)) = { s with toks := s.toks + ((done ++ [k]).map N.draws).sum } := by
        simp [Nat.add_assoc]
      first
        | exact wpAny_pure ⟨done ++ [k], ks', by simp, hl', by simp [hb], e⟩
        | exact wpAny_bind (wpAny_pure (wpAny_pure ⟨done ++ [k], ks', by simp, hl', by simp [hb], e⟩))
  · rintro b t ⟨done, left, rfl, hl, hb, rfl⟩
    cases hl
    rw [List.append_nil] at h
    show wpAny _ _ (retInt (Builtin.Tuple.tupleHashOf b.toList)) _ _ _
    rw [hb]
    refine wpAny_ret_mkInt ?_
    show wpAny _ _ (if (decide (-(2 : Int) ^ 63 ≤ Builtin.Tuple.tupleHashOf (done.map N.hash)) && decide (Builtin.Tuple.tupleHashOf (done.map N.hash) < 2 ^ 63)) = true then _ else _) Q E _
    unfold nHash nDraws reduceHash at h
    by_cases hr : (decide (-(2 : Int) ^ 63 ≤ Builtin.Tuple.tupleHashOf (done.map N.hash)) && decide (Builtin.Tuple.tupleHashOf (done.map N.hash) < 2 ^ 63)) = true
    · rw [if_pos hr]
      rw [if_pos hr] at h
      exact wpAny_pure (by simpa [Nat.add_assoc] using h)
    · rw [if_neg hr]
      rw [if_neg hr] at h
      exact wpAny_bind (wpAny_rule (wpAny_pure (by simpa [Nat.add_assoc] using h)))
theorem eq_tree_n {A : Around} {E : Value → Shared → Prop} {s : Shared} {x y : List α} {a b : Addr} {P : Fin → Shared → Prop} (hu : A.units + N.lev < cLine) (hx : IsTupN N s.heap x a) (hy : IsTupN N s.heap y b) (h : P (.done (.ret (.bool (decide (x = y))))) s) : wpAny (model prog w) A (Builtin.«tuple.__eq__» ⟨[.ref a, .ref b], []⟩) P E s := by
  have Tb := hy.typeIs
  obtain ⟨oa, xs, na, hoa, _, hda, hia⟩ := hx
  obtain ⟨ob, ys, nb, hob, _, hdb, hib⟩ := hy
  show wpAny _ _ (isInstance (.ref b) (.type "tuple") >>= _) _ _ s
  refine wpAny_bind (wpAny_isInstance Tb isSubtype_tuple_tuple ?_)
  simp only [Bool.not_true, Bool.false_eq_true, if_false]
  refine wpAny_bind (wpAny_tupleItemsOf hoa hda ?_)
  refine wpAny_bind (wpAny_tupleItemsOf hob hdb ?_)
  refine wpAny_bind ?_
  refine wpAny_forIn_list _ (fun rest r t => r.1 = none ∧ t = s ∧ ∃ x' y' xs' ys', rest = List.zip xs' ys' ∧ RefsAre N s.heap x' xs' ∧ RefsAre N s.heap y' ys' ∧ decide (x' = y') = decide (x = y) ∧ (xs'.length == ys'.length) = (xs.size == ys.size)) _ ?_ ?_ _ _ ⟨rfl, rfl, x, y, xs.toList, ys.toList, rfl, hia, hib, rfl, by simp⟩
  · rintro ⟨u, v⟩ rest r t ⟨hr, rfl, x', y', xs', ys', hz, hx', hy', hdec, hlen⟩
    cases hx' with
    | nil => simp at hz
    | @cons k1 c1 x'' xs'' h1 hx'' =>
      cases hy' with
      | nil => simp at hz
      | @cons k2 c2 y'' ys'' h2 hy'' =>
        simp only [List.zip_cons_cons, List.cons.injEq, Prod.mk.injEq] at hz
        obtain ⟨⟨rfl, rfl⟩, rfl⟩ := hz
        refine wpAny_bind (N.eqBool hu h1 h2 ?_)
        by_cases hk : k1 = k2
        · subst hk
          rw [decide_eq_true rfl]
          simp only [Bool.not_true, Bool.false_eq_true, if_false]
          refine wpAny_pure ⟨rfl, rfl, x'', y'', xs'', ys'', rfl, hx'', hy'', ?_, by simpa using hlen⟩
          rw [← hdec]
          by_cases hxy : x'' = y''
          · simp [hxy]
          · simp [hxy]
        · rw [decide_eq_false hk]
          simp only [Bool.not_false, if_true]
          have hf : decide (x = y) = false := by rw [← hdec]; simp [hk]
          rw [hf] at h
          exact wpAny_bind (wpAny_pure (wpAny_pure (wpAny_pure h)))
  · rintro ⟨r1, r2⟩ t ⟨hr, rfl, x', y', xs', ys', hz, hx', hy', hdec, hlen⟩
    simp only at hr
    subst hr
    refine wpAny_pure ?_
    have fin : (xs.size == ys.size) = decide (x = y) := by
      rw [← hdec, ← hlen]
      cases hx' with
      | nil =>
        cases hy' with
        | nil => simp
        | cons _ _ => simp
      | cons _ _ =>
        cases hy' with
        | nil => simp
        | cons _ _ => simp at hz
    show P (.done (.ret (.bool (xs.size == ys.size)))) t
    rw [fin]
    exact h
theorem eqBool_n {A : Around} {E : Value → Shared → Prop} {s : Shared} {x y : List α} {a b : Addr} {Q : Bool → Shared → Prop} (hu : A.units + (N.lev + 1) < cLine) (hx : IsTupN N s.heap x a) (hy : IsTupN N s.heap y b) (h : Q (decide (x = y)) s) : wpAny (model prog w) A (eqBool (.ref a) (.ref b)) Q E s := by
  unfold eqBool
  try with_reducible refine wpAny_holding ?_
  show wpAny _ _ (if (Value.ref a == Value.ref b) = true then _ else _) Q E s
  by_cases hab : (Value.ref a == Value.ref b) = true
  · rw [if_pos hab]
    have e : a = b := by have := eq_of_beq hab; injection this
    subst e
    obtain rfl := hx.inj hy
    exact wpAny_bind (wpAny_rule (wpAny_pure (by simpa using h)))
  · rw [if_neg hab]
    exact wpAny_bind (wpAny_richCompare_same_room (op := .Eq) hx.typeIs hy.typeIs F.slot_tuple_eq
      (wpAny_call_entry F.slot_tuple_eq hx.typeIs F.entry_tuple_eq (eq_tree_n (by show A.units + 1 + N.lev < cLine; omega) hx hy ⟨_, rfl, (fun e => nomatch e), wpAny_truthy_bool h⟩) (F.args_tuple_eq_2 _ _)) (by omega))
theorem quiet_n {A : Around} {E : Value → Shared → Prop} {s : Shared} {n : Nat} {ks : List α} {a : Addr} {Q : Bool → Shared → Prop} (hn : N.lev + 1 < n) (hk : IsTupN N s.heap ks a) (h : Q true s) : wpAny (model prog w) A (eqIsQuiet n (.ref a)) Q E s := by
  obtain ⟨m, rfl⟩ : ∃ m, n = m + 1 := ⟨n - 1, by omega⟩
  have T := hk.typeIs
  obtain ⟨o, items, k, ho, _, hd, hi⟩ := hk
  unfold eqIsQuiet
  refine wpAny_bind (wpAny_specialOf T F.slot_tuple_eq.lookup ?_)
  show wpAny _ _ (isInstance (.ref a) (.type "tuple") >>= _) _ _ s
  refine wpAny_bind (wpAny_isInstance T isSubtype_tuple_tuple ?_)
  simp only [Bool.not_true, Bool.false_eq_true, if_false]
  refine wpAny_bind (wpAny_seqItems ho hd ?_)
  refine wpAny_bind ?_
  show wpAny _ _ (forIn items _ _) _ _ s
  rw [← Array.forIn_toList]
  refine wpAny_forIn_list _ (fun rest r t => r.1 = none ∧ t = s ∧ ∃ left, RefsAre N s.heap left rest) _ ?_ ?_ _ _ ⟨rfl, rfl, ks, hi⟩
  · rintro v rest r t ⟨hr, rfl, left, all⟩
    cases all with
    | @cons k1 c1 l1 _ h1 hl =>
      refine wpAny_bind (N.quiet (by omega) h1 ?_)
      simp only [Bool.not_true, Bool.false_eq_true, if_false]
      exact wpAny_pure ⟨rfl, rfl, l1, hl⟩
  · rintro ⟨r1, r2⟩ t ⟨hr, rfl, _⟩
    simp only at hr
    subst hr
    exact wpAny_pure h
/-- tuples of such -/
def upN (N : NKind prog w α) : NKind prog w (List α) where
  is := IsTupN N
  hash := nHash N
  draws := nDraws N
  lev := N.lev + 1
  inj := fun hx hy => hx.inj hy
  keeps := fun x ho hd hs => x.keeps ho hd hs
  pyHash := fun hu hk h => pyHash_n hu hk h
  eqBool := fun hu hx hy h => eqBool_n hu hx hy h
  quiet := fun hn hk h => quiet_n hn hk h
end
end Pf


namespace Pf
open PySem PySem.Spec PyProof.Rows L2
/-! ### tables of any size up to eight thousand places: every place is met -/
def seen (m : Nat) : Nat → Nat → Nat → Nat
  | 0, _, acc => acc
  | n + 1, x, acc => bif Nat.beq (Nat.land acc (Nat.pow 2 x)) 0 then seen m n ((x * 5 + 1) % (m + 1)) (acc ||| 2 ^ x) else 0
def goes (m : Nat) : Nat → Nat → Nat
  | 0, x => x
  | n + 1, x => bif Nat.beq x (m + 1) then 0 else goes m n ((x * 5 + 1) % (m + 1))
theorem lcg_front (m x : Nat) : ∀ k, lcgI m ((x * 5 + 1) % (m + 1)) k = lcgI m x (k + 1)
  | 0 => rfl
  | k + 1 => by
    show (lcgI m ((x * 5 + 1) % (m + 1)) k * 5 + 1) % (m + 1) = (lcgI m x (k + 1) * 5 + 1) % (m + 1)
    rw [lcg_front m x k]
theorem lcg_more (m x a : Nat) : ∀ k, lcgI m (lcgI m x a) k = lcgI m x (a + k)
  | 0 => rfl
  | k + 1 => by
    show (lcgI m (lcgI m x a) k * 5 + 1) % (m + 1) = (lcgI m x (a + k) * 5 + 1) % (m + 1)
    rw [lcg_more m x a k]
theorem seen_bit (m : Nat) : ∀ (n x acc j : Nat), (seen m n x acc).testBit j = true → acc.testBit j = true ∨ ∃ k, k < n ∧ lcgI m x k = j
  | 0, _, _, _, h => .inl h
  | n + 1, x, acc, j, h => by
    unfold seen at h
    cases c : Nat.beq (Nat.land acc (Nat.pow 2 x)) 0 with
    | false =>
      rw [c] at h
      simp at h
    | true =>
      rw [c] at h
      rcases seen_bit m n _ _ j h with h | ⟨k, hk, e⟩
      · rw [Nat.testBit_or, Bool.or_eq_true, Nat.testBit_two_pow] at h
        rcases h with h | h
        · exact .inl h
        · exact .inr ⟨0, Nat.succ_pos _, of_decide_eq_true h⟩
      · exact .inr ⟨k + 1, Nat.succ_lt_succ hk, by rw [← lcg_front]; exact e⟩
theorem goes_eq (m : Nat) : ∀ (n x : Nat), x ≤ m → goes m n x = lcgI m x n
  | 0, _, _ => rfl
  | n + 1, x, h => by
    unfold goes
    have c : Nat.beq x (m + 1) = false := by
      rw [Bool.eq_false_iff]
      intro z
      have := Nat.eq_of_beq_eq_true z
      omega
    rw [c, cond_false, goes_eq m n _ (Nat.le_of_lt_succ (Nat.mod_lt _ (Nat.succ_pos _))), lcg_front]
def Mk (m : Nat) : Prop := m = 7 ∨ m = 31 ∨ m = 127 ∨ m = 511 ∨ m = 2047 ∨ m = 8191
theorem mk_full {m : Nat} (h : Mk m) : seen m (m + 1) 0 0 = 2 ^ (m + 1) - 1 ∧ goes m (m + 1) 0 = 0 := by
  rcases h with rfl | rfl | rfl | rfl | rfl | rfl <;> constructor <;> decide +kernel
theorem from_zero {m j : Nat} (h : Mk m) (hj : j ≤ m) : ∃ k, k ≤ m ∧ lcgI m 0 k = j := by
  have e : (seen m (m + 1) 0 0).testBit j = true := by
    rw [(mk_full h).1, Nat.testBit_two_pow_sub_one]
    exact decide_eq_true (by omega)
  rcases seen_bit m _ _ _ j e with z | ⟨k, hk, e⟩
  · simp at z
  · exact ⟨k, by omega, e⟩
theorem all_met {m i j : Nat} (h : Mk m) (hi : i ≤ m) (hj : j ≤ m) : ∃ k, k ≤ m ∧ lcgI m i k = j := by
  obtain ⟨a, ha, ea⟩ := from_zero h hi
  obtain ⟨b, hb, eb⟩ := from_zero h hj
  have rnd : lcgI m 0 (m + 1) = 0 := by rw [← goes_eq m _ 0 (Nat.zero_le _), (mk_full h).2]
  by_cases c : a ≤ b
  · exact ⟨b - a, by omega, by rw [← ea, lcg_more, show a + (b - a) = b by omega, eb]⟩
  · refine ⟨m + 1 - a + b, by omega, ?_⟩
    rw [← ea, lcg_more, show a + (m + 1 - a + b) = (m + 1) + b by omega, ← lcg_more, rnd, eb]
theorem run_at {m j : Nat} (hm : Mk m) (h : Int) (hj : j ≤ m) : ∃ n, n ≤ m + 12 ∧ runI m (SetTable.bits h) n = j := by
  obtain ⟨k, hk, e⟩ := all_met hm (runI_le m (SetTable.bits h) 12) hj
  exact ⟨12 + k, by omega, (runI_tail (bits_lt h) k).trans e⟩
theorem way_at {m j : Nat} (hm : Mk m) (h : Int) (hj : j ≤ m) : ∃ k, k < 10 * SetTable.turns m ∧ way m h k = j := by
  obtain ⟨n, hn, e⟩ := run_at hm h hj
  obtain ⟨k, hk, e2⟩ := run_nth m (SetTable.bits h) n
  exact ⟨k, by unfold SetTable.turns; omega, (congrArg SetTable.Probe.j e2).trans e⟩
theorem way_in (m : Nat) (h : Int) (k : Nat) : way m h k ≤ m := by
  have hi : SetTable.bits h % (m + 1) ≤ m := Nat.le_of_lt_succ (Nat.mod_lt _ (Nat.succ_pos _))
  have b := runEnd_bd hi
  have z := nth_in (m := m) k (runAt m (SetTable.bits h % (m + 1)) (SetTable.bits h)) (show SetTable.bits h % (m + 1) + (SetTable.runEnd m (SetTable.bits h % (m + 1)) - SetTable.bits h % (m + 1)) ≤ m by omega)
  exact Nat.le_trans (Nat.le_add_right _ _) z
/-! ### a table without gaps left by what was taken out -/
structure Tb (t : SetTable) (n : Nat) : Prop where
  ris : Ris t.place.toList
  dm : t.dummies = #[]
  sz : t.place.size = n
  mok : Mk t.mask
  bd : ∀ x ∈ t.place.toList, x ≤ t.mask
theorem Tb.hole {t : SetTable} {n : Nat} (T : Tb t n) (hn : n ≤ t.mask) (h : Int) : ∃ K, K < 10 * SetTable.turns t.mask ∧ way t.mask h K ∉ t.place.toList ∧ ∀ k, k < K → way t.mask h k ∈ t.place.toList := by
  obtain ⟨j, hj, out⟩ := st_missing t.place.toList (t.mask + 1) (by rw [Array.length_toList, T.sz]; omega)
  obtain ⟨k, hk, e⟩ := way_at T.mok h (j := j) (by omega)
  obtain ⟨K, a, b, c⟩ := st_least (p := fun k => way t.mask h k ∉ t.place.toList) k (show way t.mask h k ∉ _ by rw [e]; exact out)
  exact ⟨K, by omega, b, fun k hk => Classical.byContradiction fun z => c k hk z⟩
theorem Tb.put {t : SetTable} {n j : Nat} (T : Tb t n) (hj : j ≤ t.mask) (out : j ∉ t.place.toList) :
    SetTable.below t.place j ≤ n ∧ (t.put j).2 = SetTable.below t.place j ∧ Tb (t.put j).1 (n + 1) ∧ (t.put j).1.mask = t.mask ∧ (t.put j).1.led = t.led ∧ (t.put j).1.plain = t.plain ∧ (t.put j).1.fill = n + 1 := by
  obtain ⟨c1, _, _⟩ := below_cut T.ris j
  have hb : SetTable.below t.place j ≤ n := by rw [← T.sz]; exact c1
  have hbl : SetTable.below t.place j ≤ t.place.toList.length := by rw [Array.length_toList]; exact c1
  have no : t.place[SetTable.below t.place j]? ≠ some j := fun e => out (List.mem_of_getElem? (by rw [Array.getElem?_toList]; exact e))
  have pp := put_place t j
  have sz : (t.put j).1.place.size = n + 1 := by rw [← Array.length_toList, pp, len_ins _ hbl, Array.length_toList, T.sz]
  have dd := put_dm T.dm j
  refine ⟨hb, rfl, ⟨ris_insert T.ris no, dd, sz, T.mok, fun x hx => ?_⟩, rfl, rfl, rfl, ?_⟩
  · rw [pp] at hx
    rcases mem_ins.1 hx with rfl | hx
    · exact hj
    · exact T.bd x hx
  · unfold SetTable.fill
    rw [sz, dd]
    rfl
/-! ### all laid anew in a larger table -/
theorem free_n {m j : Nat} (hm : Mk m) (owner : Array (Option Nat)) (h : Int) (hj : j ≤ m) (hf : oAt owner j = none) :
    ∃ J, SetTable.layClean.free m owner (SetTable.turns m) (SetTable.bits h % (m + 1)) (SetTable.bits h) = some J ∧ J ≤ m ∧ oAt owner J = none := by
  obtain ⟨n, hn, e⟩ := run_at hm h hj
  have e2 : way m h (off m (SetTable.bits h % (m + 1)) (SetTable.bits h) n) = j := by
    have e3 := nth_off m n (SetTable.bits h % (m + 1)) (SetTable.bits h)
    rw [itL_run] at e3
    exact (congrArg SetTable.Probe.j e3).trans e
  obtain ⟨K, k1, k2, k3⟩ := st_least (p := fun k => oAt owner (way m h k) = none) _ (show oAt owner (way m h (off m (SetTable.bits h % (m + 1)) (SetTable.bits h) n)) = none by rw [e2]; exact hf)
  have k2' : oAt owner (way m h K) = none := k2
  refine ⟨way m h K, free_spec m owner (SetTable.turns m) n _ _ K (by unfold SetTable.turns; omega) k1 (fun k hk => ?_) ?_, way_in m h K, k2⟩
  · have z := k3 k hk
    have z' : oAt owner (way m h k) ≠ none := z
    cases c : oAt owner (way m h k) with
    | none => exact absurd c z'
    | some x => rfl
  · exact congrArg Option.isNone k2'
structure Ow (m n : Nat) (owner : Array (Option Nat)) : Prop where
  sz : owner.size = m + 1
  all : ∀ k, k < n → ∃ j, j ≤ m ∧ oAt owner j = some k
  ps : ∃ ps : List Nat, ps.length = n ∧ ∀ j, j ≤ m → oAt owner j ≠ none → j ∈ ps
theorem Ow.step {m n : Nat} (hm : Mk m) {owner : Array (Option Nat)} (W : Ow m n owner) (hn : n ≤ m) (h : Int) :
    ∃ j, SetTable.layClean.free m owner (SetTable.turns m) (SetTable.bits h % (m + 1)) (SetTable.bits h) = some j ∧ Ow m (n + 1) (owner.setIfInBounds j (some n)) := by
  obtain ⟨ps, hps, hin⟩ := W.ps
  obtain ⟨i, hi, out⟩ := st_missing ps (m + 1) (by omega)
  have hfree : oAt owner i = none := Classical.byContradiction fun z => out (hin i (by omega) z)
  obtain ⟨J, e, hJ, eJ⟩ := free_n hm owner h (by omega : i ≤ m) hfree
  have hb : J < owner.size := by rw [W.sz]; omega
  refine ⟨J, e, ⟨by rw [Array.size_setIfInBounds]; exact W.sz, fun k hk => ?_, J :: ps, by rw [List.length_cons, hps], fun j hj ne => ?_⟩⟩
  · by_cases c : k = n
    · exact ⟨J, hJ, by rw [c]; exact oAt_set_self _ hb⟩
    · obtain ⟨j, hj, ej⟩ := W.all k (by omega)
      exact ⟨j, hj, (oAt_set_ne _ (fun z => by rw [z, eJ] at ej; cases ej)).trans ej⟩
  · by_cases c : j = J
    · exact c ▸ List.mem_cons_self
    · exact List.mem_cons_of_mem _ (hin j hj fun z => ne ((oAt_set_ne _ c).trans z))
theorem lay_fold {m : Nat} (hm : Mk m) : ∀ (hs : List Int) (n : Nat) (owner : Array (Option Nat)), Ow m n owner → n + hs.length ≤ m → ∃ o2, hs.foldl (stepF m) (some (owner, n)) = some (o2, n + hs.length) ∧ Ow m (n + hs.length) o2
  | [], n, owner, W, _ => ⟨owner, rfl, W⟩
  | h :: r, n, owner, W, hl => by
    rw [List.length_cons] at hl ⊢
    obtain ⟨j, e, W2⟩ := W.step hm (by omega) h
    obtain ⟨o2, f, W3⟩ := lay_fold hm r (n + 1) _ W2 (by omega)
    rw [show n + 1 + r.length = n + (r.length + 1) by omega] at f W3
    exact ⟨o2, by rw [List.foldl_cons, stepF_some e]; exact f, W3⟩
theorem lay_all {m : Nat} (hm : Mk m) {hs : Array Int} (hn : hs.size ≤ m) : ∃ owner, SetTable.layClean m hs = some owner ∧ Ow m hs.size owner := by
  have W0 : Ow m 0 (Array.replicate (m + 1) none) := ⟨by simp, fun k hk => absurd hk (Nat.not_lt_zero _), [], rfl, fun j hj e => absurd (oAt_init hj) e⟩
  obtain ⟨o2, f, W⟩ := lay_fold hm hs.toList 0 _ W0 (by rw [Array.length_toList]; omega)
  rw [Nat.zero_add, Array.length_toList] at f W
  exact ⟨o2, by rw [layClean_eq, f]; rfl, W⟩
theorem laid_anew (t : SetTable) {hs : Array Int} {wanted M : Nat} (hw : SetTable.sizeAbove wanted - 1 = M) (hM : Mk M) (hn : hs.size ≤ M) :
    ∃ t2 order, t.relaid hs wanted = some (t2, order) ∧ order.toList.Perm (List.range hs.size) ∧ Tb t2 hs.size ∧ t2.mask = M ∧ t2.led = t.led ∧ t2.plain = t.plain := by
  obtain ⟨owner, e, W⟩ := lay_all hM hn
  have rr := ris_live (fun j => owner.getD j none) (List.range (M + 1)) (by unfold Ris; exact List.pairwise_lt_range)
  have r1 : Ris ((liveOf M owner).map (·.1)) := rr.1
  have r2 : ∀ x ∈ (liveOf M owner).map (·.1), x ∈ List.range (M + 1) := rr.2
  have nd1 : ((liveOf M owner).map (·.1)).Nodup := List.Pairwise.imp (fun h => Nat.ne_of_lt h) r1
  have all2 : ∀ k, k < hs.size → k ∈ (liveOf M owner).map (·.2) := fun k hk => by
    obtain ⟨j, b1, b2⟩ := W.all k hk
    exact List.mem_map.mpr ⟨(j, k), (mem_live W.sz).2 ⟨b1, b2⟩, rfl⟩
  have len : (liveOf M owner).length = hs.size := by
    obtain ⟨ps, p1, p2⟩ := W.ps
    have u := nat_nodup_len _ ps nd1 fun x hx => by
      obtain ⟨⟨y, k⟩, hq, rfl⟩ := List.mem_map.mp hx
      obtain ⟨b1, b2⟩ := (mem_live W.sz).1 hq
      exact p2 y b1 (by rw [b2]; exact Option.some_ne_none k)
    have d := nat_nodup_len (List.range hs.size) _ List.nodup_range fun k hk => all2 k (List.mem_range.mp hk)
    rw [List.length_map, p1] at u
    rw [List.length_map, List.length_range] at d
    omega
  refine ⟨tabOf t M owner, ((liveOf M owner).map (·.2)).toArray, by rw [relaid_eq, hw, e]; rfl, ?_, ⟨r1, rfl, ?_, hM, fun x hx => ?_⟩, rfl, rfl, rfl⟩
  · exact perm_range hs.size _ (by show ((liveOf M owner).map (·.2)).length = _; rw [List.length_map, len]) all2
  · show ((liveOf M owner).map (·.1)).toArray.size = _
    rw [List.size_toArray, List.length_map, len]
  · exact Nat.le_of_lt_succ (List.mem_range.mp (r2 x hx))
theorem pick_perm {α β : Type} (g : α → β) {L : List α} {es : Array β} {order : Array Nat} (hr : es.toList = L.map g) (hp : order.toList.Perm (List.range L.length)) :
    ∃ Ls : List α, (order.filterMap (es[·]?)).toList = Ls.map g ∧ Ls.Perm L := by
  have all : ∀ l : List α, (List.range l.length).filterMap (fun i => l[i]?) = l := by
    intro l
    induction l with
    | nil => rfl
    | cons x r ih =>
      rw [List.length_cons, List.range_succ_eq_map, List.filterMap_cons_some (b := x) (f := fun i => (x :: r)[i]?) rfl, List.filterMap_map]
      exact congrArg (x :: ·) ih
  refine ⟨order.toList.filterMap (fun i => L[i]?), ?_, ?_⟩
  · have e : (order.filterMap (es[·]?)).toList = order.toList.filterMap (fun i => es[i]?) := by simp
    rw [e, List.map_filterMap]
    refine congrFun (congrArg _ (funext fun i => ?_)) _
    rw [← Array.getElem?_toList, hr, List.getElem?_map]
  · have z := hp.filterMap (fun i => L[i]?)
    rw [all L] at z
    exact z
end Pf


namespace Pf
open PySem PySem.Spec PyProof.Rows L2
/-! ### what may be put into a set -/
section
variable {P : Program} {w : World} {α : Type} [DecidableEq α]
structure SKind (N : NKind P w α) : Prop where
  ofc : ∀ {A : Around} {E : Value → Shared → Prop} {s : Shared} {n : Nat} {k : α} {a : Addr} {Q : Bool → Shared → Prop}, N.lev < n → N.is s.heap k a → Q false s → wpAny (model P w) A (ofAClassStatement n (.ref a)) Q E s
  hby : ∀ {A : Around} {E : Value → Shared → Prop} {s : Shared} {n : Nat} {k : α} {a : Addr} {Q : Bool → Shared → Prop}, N.lev < n → N.is s.heap k a → Q true s → wpAny (model P w) A (hashByValue n (.ref a)) Q E s
  stay : ∀ {h h' : Heap} {k : α} {a b : Addr} {o : Obj} {es : Array (Int × Value)} {ep : Nat} {t : SetTable}, N.is h k b → h.get? a = some o → o.data = .set es ep t → Heap.SameBut a h h' → N.is h' k b
  keep : ∀ {h h' : Heap} {k : α} {b : Addr}, N.is h k b → (∀ c o, h.get? c = some o → h'.get? c = some o) → N.is h' k b
variable {A : Around} {E : Value → Shared → Prop} {s : Shared}
theorem ofc_tup {n : Nat} {a : Addr} {o : Obj} {items : Array Value} {m : Nat} {Q : Bool → Shared → Prop} (ho : s.heap.get? a = some o) (hc : o.cls = .type "tuple") (hd : o.data = .seq items m)
    (hv : ∀ v ∈ items.toList, ∀ {Q' : Bool → Shared → Prop}, Q' false s → wpAny (model P w) A (ofAClassStatement n v) Q' E s) (h : Q false s) : wpAny (model P w) A (ofAClassStatement (n + 1) (.ref a)) Q E s := by
  unfold ofAClassStatement
  refine wpAny_bind (wpAny_typeOf (T := "tuple") ⟨o, ho, hc⟩ ?_)
  dsimp only
  simp only [show (("tuple" : String) == "tuple") = true by decide, if_true, Bool.not_true, Bool.false_eq_true, if_false]
  try refine wpAny_bind (wpAny_pure ?_)
  try simp only [Bool.not_true, Bool.false_eq_true, if_false]
  show wpAny _ _ (seqItems? (.ref a) >>= _) _ _ s
  refine wpAny_bind (wpAny_seqItems ho hd ?_)
  dsimp only
  refine wpAny_bind ?_
  show wpAny _ _ (forIn items _ _) _ _ s
  rw [← Array.forIn_toList]
  refine wpAny_forIn_list _ (fun rest z u => (z.1 = none ∧ u = s) ∧ ∀ v ∈ rest, v ∈ items.toList) _ ?_ ?_ _ _ ⟨⟨rfl, rfl⟩, fun _ q => q⟩
  · rintro v rest z u ⟨⟨_, rfl⟩, al⟩
    refine wpAny_bind (hv v (al v List.mem_cons_self) ?_)
    simp only [Bool.false_eq_true, if_false]
    exact wpAny_pure ⟨⟨rfl, rfl⟩, fun x q => al x (List.mem_cons_of_mem _ q)⟩
  · rintro ⟨z1, z2⟩ u ⟨⟨e1, rfl⟩, _⟩
    simp only at e1
    subst e1
    exact wpAny_pure h
theorem hby_tup {n : Nat} {a : Addr} {o : Obj} {items : Array Value} {m : Nat} {Q : Bool → Shared → Prop} (ho : s.heap.get? a = some o) (hc : o.cls = .type "tuple") (hd : o.data = .seq items m)
    (hv : ∀ v ∈ items.toList, ∀ {Q' : Bool → Shared → Prop}, Q' true s → wpAny (model P w) A (hashByValue n v) Q' E s) (h : Q true s) : wpAny (model P w) A (hashByValue (n + 1) (.ref a)) Q E s := by
  unfold hashByValue
  refine wpAny_bind (wpAny_specialOf (T := "tuple") ⟨o, ho, hc⟩ F.slot_tuple_hash.lookup ?_)
  show wpAny _ _ (seqItems? (.ref a) >>= _) _ _ s
  refine wpAny_bind (wpAny_seqItems ho hd ?_)
  refine wpAny_bind ?_
  show wpAny _ _ (forIn items _ _) _ _ s
  rw [← Array.forIn_toList]
  refine wpAny_forIn_list _ (fun rest z u => (z.1 = none ∧ u = s) ∧ ∀ v ∈ rest, v ∈ items.toList) _ ?_ ?_ _ _ ⟨⟨rfl, rfl⟩, fun _ q => q⟩
  · rintro v rest z u ⟨⟨_, rfl⟩, al⟩
    refine wpAny_bind (hv v (al v List.mem_cons_self) ?_)
    simp only [Bool.not_true, Bool.false_eq_true, if_false]
    exact wpAny_pure ⟨⟨rfl, rfl⟩, fun x q => al x (List.mem_cons_of_mem _ q)⟩
  · rintro ⟨z1, z2⟩ u ⟨⟨e1, rfl⟩, _⟩
    simp only at e1
    subst e1
    exact wpAny_pure h
theorem tup_no_set {h : Heap} {a b : Addr} {o o' : Obj} {es : Array (Int × Value)} {ep n : Nat} {t : SetTable} {items : Array Value} (hb : h.get? b = some o') (hd' : o'.data = .seq items n) (ho : h.get? a = some o) (hd : o.data = .set es ep t) : b ≠ a := fun e => by
  subst e
  rw [hb] at ho
  cases ho
  rw [hd] at hd'
  cases hd'
/-- flat tuples of numbers -/
theorem sk_flat : SKind (flatN (intKind P w)) where
  ofc := fun {A E s n k a Q} hn hk h => by
    obtain ⟨o, items, m, ho, hc, hd, hi⟩ := (show IsTupleKey (intKind P w) s.heap k a from hk)
    obtain ⟨j, rfl⟩ : ∃ j, n = j + 1 := ⟨n - 1, by omega⟩
    refine ofc_tup ho hc hd (fun v hv Q' q => ?_) h
    obtain ⟨i, t, rfl⟩ := items_int hi v hv
    rw [ofAClass_int]
    exact wpAny_pure q
  hby := fun {A E s n k a Q} hn hk h => by
    obtain ⟨o, items, m, ho, hc, hd, hi⟩ := (show IsTupleKey (intKind P w) s.heap k a from hk)
    obtain ⟨j, rfl⟩ : ∃ j, n = j + 1 := ⟨n - 1, by omega⟩
    refine hby_tup ho hc hd (fun v hv Q' q => ?_) h
    obtain ⟨i, t, rfl⟩ := items_int hi v hv
    rw [hashBy_int]
    exact wpAny_pure q
  stay := fun {h h' k a b o es ep t} hk ho hd hs => by
    obtain ⟨o', items, n, ho', hc, hd', hi⟩ := (show IsTupleKey (intKind P w) h k b from hk)
    exact (show IsTupleKey (intKind P w) h' k b from ⟨o', items, n, (hs.2 b (tup_no_set ho' hd' ho hd)).trans ho', hc, hd', hi⟩)
  keep := fun {h h' k b} hk q => by
    obtain ⟨o', items, n, ho', z⟩ := (show IsTupleKey (intKind P w) h k b from hk)
    exact (show IsTupleKey (intKind P w) h' k b from ⟨o', items, n, q _ _ ho', z⟩)
theorem refs_all {N : NKind P w α} {h : Heap} {ks : List α} {vs : List Value} (p : RefsAre N h ks vs) : ∀ v ∈ vs, ∃ k b, v = .ref b ∧ N.is h k b := by
  induction p with
  | nil => intro v hv; cases hv
  | cons h1 _ ih =>
    intro v hv
    rcases List.mem_cons.mp hv with rfl | hv
    · exact ⟨_, _, rfl, h1⟩
    · exact ih v hv
theorem refs_imp {N : NKind P w α} {h h' : Heap} (f : ∀ k b, N.is h k b → N.is h' k b) {ks : List α} {vs : List Value} (p : RefsAre N h ks vs) : RefsAre N h' ks vs := by
  induction p with
  | nil => exact .nil
  | cons h1 _ ih => exact .cons (f _ _ h1) ih
/-- tuples of such -/
theorem sk_up {N : NKind P w α} (S : SKind N) : SKind (upN N) where
  ofc := fun {A E s n k a Q} hn hk h => by
    obtain ⟨o, items, m, ho, hc, hd, hi⟩ := (show IsTupN N s.heap k a from hk)
    obtain ⟨j, rfl⟩ : ∃ j, n = j + 1 := ⟨n - 1, by omega⟩
    refine ofc_tup ho hc hd (fun v hv Q' q => ?_) h
    obtain ⟨k, b, rfl, hb⟩ := refs_all hi v hv
    exact S.ofc (show N.lev < j by have : N.lev + 1 < j + 1 := hn; omega) hb q
  hby := fun {A E s n k a Q} hn hk h => by
    obtain ⟨o, items, m, ho, hc, hd, hi⟩ := (show IsTupN N s.heap k a from hk)
    obtain ⟨j, rfl⟩ : ∃ j, n = j + 1 := ⟨n - 1, by omega⟩
    refine hby_tup ho hc hd (fun v hv Q' q => ?_) h
    obtain ⟨k, b, rfl, hb⟩ := refs_all hi v hv
    exact S.hby (show N.lev < j by have : N.lev + 1 < j + 1 := hn; omega) hb q
  stay := fun {h h' k a b o es ep t} hk ho hd hs => by
    obtain ⟨o', items, n, ho', hc, hd', hi⟩ := (show IsTupN N h k b from hk)
    exact (show IsTupN N h' k b from ⟨o', items, n, (hs.2 b (tup_no_set ho' hd' ho hd)).trans ho', hc, hd', refs_imp (fun _ _ z => S.stay z ho hd hs) hi⟩)
  keep := fun {h h' k b} hk q => by
    obtain ⟨o', items, n, ho', hc, hd', hi⟩ := (show IsTupN N h k b from hk)
    exact (show IsTupN N h' k b from ⟨o', items, n, q _ _ ho', hc, hd', refs_imp (fun _ _ z => S.keep z q) hi⟩)
/-! ### a set of unlike things -/
def rowsN (N : NKind P w α) (L : List (Addr × α)) : List (Int × Value) := L.map fun p => (N.hash p.2, Value.ref p.1)
structure SetN (N : NKind P w α) (h : Heap) (a : Addr) (L : List (Addr × α)) (es : Array (Int × Value)) (ep : Nat) (t : SetTable) : Prop where
  ob : ∃ o, h.get? a = some o ∧ o.ExactSet ∧ o.data = .set es ep t
  rows : es.toList = rowsN N L
  tb : Tb t L.length
  nd : (L.map (·.2)).Nodup
  is : ∀ p ∈ L, N.is h p.2 p.1
  plain : t.plain = true
  led : w.params.followText "set-order" = true ∨ t.led = true
  room : L.length * 5 < t.mask * 3
  few : L.length < 4000
variable {N : NKind P w α} {a : Addr} {L : List (Addr × α)} {es : Array (Int × Value)} {ep : Nat} {t : SetTable}
theorem rows_size (h : es.toList = rowsN N L) : es.size = L.length := by
  have e := congrArg List.length h
  unfold rowsN at e
  rw [Array.length_toList, List.length_map] at e
  exact e
theorem fits_of (h1 : t.place.size = es.size) (h2 : t.dummies = #[]) (h3 : es.size ≤ t.mask) : t.fits es.size = true := by
  unfold SetTable.fits SetTable.fill
  rw [h2, h1, beq_self_eq_true, Bool.true_and]
  exact decide_eq_true (show es.size + 0 ≤ t.mask by omega)
theorem SetN.fits {h : Heap} (R : SetN N h a L es ep t) : t.fits es.size = true := by
  have h1 := rows_size R.rows
  have h2 := R.tb.sz
  have h3 := R.room
  exact fits_of (by omega) R.tb.dm (by omega)
theorem SetN.entry {h : Heap} (R : SetN N h a L es ep t) {i : Nat} {p : Addr × α} (q : L[i]? = some p) : es[i]? = some (N.hash p.2, Value.ref p.1) := by
  rw [← Array.getElem?_toList, R.rows]
  unfold rowsN
  rw [List.getElem?_map, q]
  rfl
theorem Tb.odd {n : Nat} (T : Tb t n) : ¬ t.gaveWay = true := by
  unfold SetTable.gaveWay
  rcases T.mok with e | e | e | e | e | e <;> rw [e] <;> decide
theorem nth_dm (m : Nat) : ∀ (n : Nat) (p : SetTable.Probe), p.dummy = none → (nth m p n).dummy = none
  | 0, _, h => h
  | n + 1, p, h => nth_dm m n (adv m p) (by unfold adv; split <;> exact h)
abbrev beg (m : Nat) (h : Int) : SetTable.Probe := runAt m (SetTable.bits h % (m + 1)) (SetTable.bits h)
/-- nothing is seen of a search among such things -/
theorem unseen (S : SKind N) (h8 : N.lev < 8) {k : α} {b : Addr} {Q : Bool → Shared → Prop} (hk : N.is s.heap k b) {ys : List Value} (hy : ∀ y ∈ ys, ∃ k' c, y = Value.ref c ∧ N.is s.heap k' c) (h : Q false s) : wpAny (model P w) A (searchCouldBeSeen (.ref b) ys) Q E s := by
  unfold searchCouldBeSeen
  refine wpAny_bind ?_
  refine wpAny_forIn_list _ (fun rest z u => (z.1 = none ∧ u = s) ∧ ∀ y ∈ rest, ∃ k' c, y = Value.ref c ∧ N.is s.heap k' c) _ ?_ ?_ _ _ ⟨⟨rfl, rfl⟩, hy⟩
  · rintro v rest z u ⟨⟨_, rfl⟩, al⟩
    obtain ⟨k', c, rfl, hc⟩ := al v List.mem_cons_self
    have al2 : ∀ y ∈ rest, ∃ k' c, y = Value.ref c ∧ N.is u.heap k' c := fun x q => al x (List.mem_cons_of_mem _ q)
    dsimp only
    by_cases hv : (b == c || (carriedByValue (.ref b) && carriedByValue (.ref c))) = true
    · exact wp_if_pos hv (wpAny_pure ⟨⟨rfl, rfl⟩, al2⟩)
    · refine wp_if_neg hv ?_
      refine wpAny_bind (N.quiet h8 hk ?_)
      simp only [Bool.not_true, Bool.false_eq_true, if_false]
      refine wpAny_bind (N.quiet h8 hc ?_)
      simp only [Bool.not_true, Bool.false_eq_true, if_false]
      refine wpAny_bind (S.ofc h8 hk ?_)
      simp only [Bool.false_eq_true, if_false]
      refine wpAny_bind (S.ofc h8 hc ?_)
      simp only [Bool.false_eq_true, if_false]
      exact wpAny_pure ⟨⟨rfl, rfl⟩, al2⟩
  · rintro ⟨z1, z2⟩ u ⟨⟨e1, rfl⟩, _⟩
    simp only at e1
    subst e1
    exact wpAny_pure h
/-- what isn't in the set is searched for up to an empty place -/
theorem search_none (S : SKind N) (h8 : N.lev < 8) (R : SetN N s.heap a L es ep t) {x : Addr} {k : α} (hx : N.is s.heap k x) (hu : A.units + N.lev < cLine) (hno : k ∉ L.map (·.2)) {K : Nat} (hKf : K < 10 * SetTable.turns t.mask)
    (hK : way t.mask (N.hash k) K ∉ t.place.toList) (hKb : ∀ c, c < K → way t.mask (N.hash k) c ∈ t.place.toList) {Q : SetFound → Shared → Prop} (q : Q (.free (way t.mask (N.hash k) K) false) s) :
    ∀ (f c : Nat) (stand : Option SetTable.Probe), stand.getD (t.probeStart (N.hash k)) = nth t.mask (beg t.mask (N.hash k)) c → c ≤ K → K - c < f → wpAny (model P w) A (setSearchFrom a (.ref x) (N.hash k) true f stand) Q E s
  | 0, c, stand, _, _, hf => absurd hf (Nat.not_lt_zero _)
  | f + 1, c, stand, hst, hc, hf => by
    obtain ⟨o, ho, hex, hd⟩ := R.ob
    rw [setSearchFrom_succ]
    refine wpAny_bind (wpAny_setState_of ho hd R.fits ?_)
    dsimp only
    refine wp_if_neg R.tb.odd ?_
    try refine wpAny_bind (wpAny_pure ?_)
    have hnd := nth_dm t.mask c (beg t.mask (N.hash k)) rfl
    have sh : ∀ z, nth t.mask (nth t.mask (beg t.mask (N.hash k)) c) z = nth t.mask (beg t.mask (N.hash k)) (c + z) := fun z => (nth_add t.mask c _ z).symm
    have e1 : ∀ z, (nth t.mask (nth t.mask (beg t.mask (N.hash k)) c) z).j = way t.mask (N.hash k) (c + z) := fun z => congrArg SetTable.Probe.j (sh z)
    rcases go_spec t R.tb.ris R.tb.dm (fun i => (es[i]?.map (·.1)).getD 0) (N.hash k) (10 * SetTable.turns t.mask) (K - c) _ hnd (by omega) (fun z hz => by rw [e1]; exact hKb (c + z) (by omega)) (by rw [e1, show c + (K - c) = K by omega]; exact hK) with ⟨z, i, hz, hi, hh, hb, hpr⟩ | ⟨hb, hpr⟩
    · have hpr2 : t.probe (fun i => (es[i]?.map (·.1)).getD 0) (N.hash k) (stand.getD (t.probeStart (N.hash k))) = some (.candidate (way t.mask (N.hash k) (c + z)) i (nth t.mask (beg t.mask (N.hash k)) (c + (z + 1)))) := by
        rw [hst, ← e1, ← sh]
        exact hpr
      rw [hpr2]
      dsimp only
      rw [e1] at hi
      have hil : i < L.length := by
        have h1 := (List.getElem?_eq_some_iff.mp hi).1
        have h2 := R.tb.sz
        rw [Array.length_toList] at h1
        omega
      obtain ⟨p, hp⟩ : ∃ p, L[i]? = some p := ⟨_, List.getElem?_eq_getElem hil⟩
      have hm : p ∈ L := List.mem_of_getElem? hp
      have hne : p.2 ≠ k := fun e => hno (List.mem_map.mpr ⟨p, hm, e⟩)
      have hsl : t.slot (way t.mask (N.hash k) (c + z)) = .live i := slot_live R.tb.ris hi
      have rest : wpAny (model P w) A (searchRest a (.ref x) (N.hash k) true f es t (way t.mask (N.hash k) (c + z)) i (nth t.mask (beg t.mask (N.hash k)) (c + (z + 1)))) Q E s := by
        unfold searchRest
        rw [R.entry hp]
        dsimp only
        refine wpAny_bind (wpAny_holding (N.eqBool hu (R.is p hm) hx ?_))
        refine wpAny_bind (wpAny_setState_of ho hd R.fits ?_)
        dsimp only
        refine wp_if_neg (by simp [hne]) ?_
        try refine wpAny_bind (wpAny_pure ?_)
        rw [sameMem]
        dsimp only
        simp only [if_true, hsl, R.entry hp]
        refine wpAny_bind (wpAny_isSame_ref_self (wpAny_bind (wpAny_pure ?_)))
        simp only [if_true]
        refine wp_if_neg (by simp [hne]) ?_
        exact search_none S h8 R hx hu hno hKf hK hKb q f (c + (z + 1)) _ rfl (by omega) (by omega)
      by_cases hl : t.led = true
      · refine wp_if_neg (by simp [hl]) ?_
        try refine wpAny_bind (wpAny_pure ?_)
        exact rest
      · refine wp_if_pos (by simp [hl]) ?_
        refine wpAny_bind (unseen S h8 hx (fun y hy => ?_) ?_)
        · obtain ⟨e, he, rfl⟩ := List.mem_map.mp hy
          have he2 : e ∈ es.toList := by
            have : e ∈ es ∧ e.1 = N.hash k := by simpa using he
            simpa using this.1
          rw [R.rows] at he2
          obtain ⟨p2, hp2, rfl⟩ := List.mem_map.mp he2
          exact ⟨p2.2, p2.1, rfl, R.is p2 hp2⟩
        · refine wp_if_neg (by decide) ?_
          try refine wpAny_bind (wpAny_pure ?_)
          exact rest
    · have hpr2 : t.probe (fun i => (es[i]?.map (·.1)).getD 0) (N.hash k) (stand.getD (t.probeStart (N.hash k))) = some (.empty (way t.mask (N.hash k) K) none) := by
        have e2 := e1 (K - c)
        rw [show c + (K - c) = K by omega] at e2
        rw [hst, ← e2]
        exact hpr
      rw [hpr2]
      dsimp only
      exact wpAny_pure q
end
end Pf


namespace Pf
open PySem PySem.Spec PyProof.Rows L2
section
variable {P : Program} {w : World} {α : Type} [DecidableEq α] {A : Around} {E : Value → Shared → Prop} {s : Shared} {N : NKind P w α} {a : Addr} {L : List (Addr × α)} {es : Array (Int × Value)} {ep : Nat} {t : SetTable}
/-! ### more room -/
theorem relay_n (S : SKind N) {o : Obj} (ho : s.heap.get? a = some o) (hex : o.ExactSet) (hd : o.data = .set es ep t) (hr : es.toList = rowsN N L) (T : Tb t L.length) (hfl : L.length ≤ t.mask) (nd : (L.map (·.2)).Nodup) (is : ∀ p ∈ L, N.is s.heap p.2 p.1) (pl : t.plain = true)
    (ld : w.params.followText "set-order" = true ∨ t.led = true) (few : L.length < 4000) {wanted M : Nat} (hw : SetTable.sizeAbove wanted - 1 = M) (hM : Mk M) (hw2 : SetTable.sizeAbove wanted ≤ 8192) (hn : L.length * 5 < M * 3) {Q : Unit → Shared → Prop}
    (q : ∀ h' L' es' ep' t', Heap.SameBut a s.heap h' → SetN N h' a L' es' ep' t' → L'.Perm L → Q () { s with heap := h' }) : wpAny (model P w) A (setRelay a wanted) Q E s := by
  have hz := rows_size hr
  obtain ⟨t2, order, e, pm, T2, em, el, epl⟩ := laid_anew t (hs := es.map (·.1)) (wanted := wanted) hw hM (by rw [Array.size_map, hz]; omega)
  rw [Array.size_map, hz] at pm T2
  obtain ⟨Ls, r1, r2⟩ := pick_perm (fun p : Addr × α => (N.hash p.2, Value.ref p.1)) hr pm
  have hs2 : (order.filterMap (es[·]?)).size = es.size := by rw [rows_size (N := N) (L := Ls) r1, r2.length_eq, hz]
  rw [setRelay_eq]
  refine wpAny_bind (wpAny_setState_of ho hd (fits_of (T.sz.trans hz.symm) T.dm (by omega)) ?_)
  dsimp only
  refine wp_if_neg (by rw [sizeLine_eq]; omega) ?_
  try refine wpAny_bind (wpAny_pure ?_)
  rw [e]
  dsimp only
  refine wpAny_bind ?_
  refine wp_if_neg (by rw [hs2]; simp) ?_
  try refine wpAny_bind (wpAny_pure ?_)
  refine wpAny_pure ?_
  dsimp only
  refine wpAny_storeSet_of ho hd ?_ (by rw [hs2, hz, sizeLine_eq]; omega)
  have sb : Heap.SameBut a s.heap (s.heap.update a (Obj.putSet (order.filterMap (es[·]?)) t2)) := Heap.SameBut.update ..
  refine q _ Ls (order.filterMap (es[·]?)) (ep + 1) t2 sb ⟨⟨_, store_at ho hd, ⟨hex.1, hex.2.1, hex.2.2⟩, rfl⟩, r1, by rw [r2.length_eq]; exact T2, (r2.map (·.2)).nodup_iff.mpr nd, fun p hp => S.stay (is p (r2.mem_iff.mp hp)) ho hd sb, epl.trans pl, by rw [el]; exact ld, ?_, by rw [r2.length_eq]; exact few⟩ r2
  rw [r2.length_eq, em]
  exact hn
theorem grow_case {m n : Nat} (hm : Mk m) (h1 : n * 5 < m * 3) (h2 : (n + 1) * 5 ≥ m * 3) (hn : n + 1 < 4000) : ∃ M, SetTable.sizeAbove (SetTable.grown (n + 1)) - 1 = M ∧ Mk M ∧ SetTable.sizeAbove (SetTable.grown (n + 1)) ≤ 8192 ∧ (n + 1) * 5 < M * 3 := by
  rcases hm with rfl | rfl | rfl | rfl | rfl | rfl
  · obtain rfl : n = 4 := by omega
    exact ⟨31, by decide +kernel, .inr (.inl rfl), by decide +kernel, by decide⟩
  · obtain rfl : n = 18 := by omega
    exact ⟨127, by decide +kernel, .inr (.inr (.inl rfl)), by decide +kernel, by decide⟩
  · obtain rfl : n = 76 := by omega
    exact ⟨511, by decide +kernel, .inr (.inr (.inr (.inl rfl))), by decide +kernel, by decide⟩
  · obtain rfl : n = 306 := by omega
    exact ⟨2047, by decide +kernel, .inr (.inr (.inr (.inr (.inl rfl)))), by decide +kernel, by decide⟩
  · obtain rfl : n = 1228 := by omega
    exact ⟨8191, by decide +kernel, .inr (.inr (.inr (.inr (.inr rfl)))), by decide +kernel, by decide⟩
  · omega
/-! ### one more -/
theorem add_n (S : SKind N) (h8 : N.lev < 8) (R : SetN N s.heap a L es ep t) {x : Addr} {k : α} (hx : N.is s.heap k x) (hu : A.units + N.lev < cLine) (hno : k ∉ L.map (·.2)) (hfew : L.length + 1 < 4000) {Q : Bool → Shared → Prop}
    (q : ∀ h' L' es' ep' t', Heap.SameBut a s.heap h' → SetN N h' a L' es' ep' t' → L'.Perm ((x, k) :: L) → Q true { s with heap := h' }) : wpAny (model P w) A (setAddHashed a (.ref x) (N.hash k)) Q E s := by
  obtain ⟨o, ho, hex, hd⟩ := R.ob
  have hz := rows_size R.rows
  have room := R.room
  obtain ⟨K, hKf, hK, hKb⟩ := R.tb.hole (by omega) (N.hash k)
  have big : K < 100000 := by
    have : 10 * SetTable.turns t.mask ≤ 82060 := by
      unfold SetTable.turns
      rcases R.tb.mok with e | e | e | e | e | e <;> omega
    omega
  unfold setAddHashed
  refine wpAny_holding ?_
  rw [show (100000 : Nat) = 99999 + 1 from rfl, setAddHashedIn_succ]
  refine wpAny_bind (wpAny_setState_of ho hd R.fits ?_)
  dsimp only
  refine wp_if_neg (by simp [byScan, Value.scannable]) ?_
  try refine wpAny_bind (wpAny_pure ?_)
  refine wpAny_bind ?_
  unfold setSearch
  refine search_none S h8 R hx hu hno hKf hK hKb ?_ 100000 0 none rfl (Nat.zero_le _) (by omega)
  dsimp only
  refine wpAny_bind (wpAny_setState_of ho hd R.fits ?_)
  dsimp only
  obtain ⟨q2, q1, q3, q4, q5, q6, q9⟩ := R.tb.put (way_in t.mask (N.hash k) K) hK
  have hp1 : (t.put (way t.mask (N.hash k) K)).1.plain = true := q6.trans R.plain
  generalize hpt : t.put (way t.mask (N.hash k) K) = pt at q1 q3 q4 q5 q6 q9 hp1 ⊢
  obtain ⟨t1, p⟩ := pt
  dsimp only at q1 q3 q4 q5 q6 q9 hp1 ⊢
  subst q1
  first
    | (refine wpAny_bind ?_; refine wp_if_pos hp1 ?_; refine S.hby h8 hx ?_)
    | refine wp_if_pos hp1 (wpAny_bind (S.hby h8 hx ?_))
  simp only [if_true]
  have hin : (SetTable.insertAt es (SetTable.below t.place (way t.mask (N.hash k) K)) (N.hash k, Value.ref x)).toList = rowsN N (L.take (SetTable.below t.place (way t.mask (N.hash k) K)) ++ (x, k) :: L.drop (SetTable.below t.place (way t.mask (N.hash k) K))) := by
    rw [SetTable.toList_insertAt, R.rows]
    unfold rowsN
    rw [List.map_append, List.map_cons, List.map_take, List.map_drop]
  generalize SetTable.below t.place (way t.mask (N.hash k) K) = p at q2 hin ⊢
  have pm := put_perm L p (x, k)
  have hlen : (L.take p ++ (x, k) :: L.drop p).length = L.length + 1 := pm.length_eq
  have nd1 : ((L.take p ++ (x, k) :: L.drop p).map (·.2)).Nodup := (pm.map (·.2)).nodup_iff.mpr (by rw [List.map_cons]; exact List.nodup_cons.mpr ⟨hno, R.nd⟩)
  have hes := rows_size (N := N) hin
  rw [hlen] at hes
  generalize SetTable.insertAt es p (N.hash k, Value.ref x) = es1 at hin hes ⊢
  generalize L.take p ++ (x, k) :: L.drop p = L1 at pm hlen nd1 hin
  refine wpAny_bind (wpAny_storeSet_of ho hd ?_ (by rw [hes, sizeLine_eq]; omega))
  have sb : Heap.SameBut a s.heap (s.heap.update a (Obj.putSet es1 t1)) := Heap.SameBut.update ..
  have ho1 := store_at (es' := es1) (t' := t1) ho hd
  generalize s.heap.update a (Obj.putSet es1 t1) = h1 at sb ho1 ⊢
  have is1 : ∀ p ∈ L1, N.is h1 p.2 p.1 := fun p hp => by
    rcases List.mem_cons.mp (pm.mem_iff.mp hp) with rfl | hp
    · exact S.stay hx ho hd sb
    · exact S.stay (R.is p hp) ho hd sb
  have ld1 : w.params.followText "set-order" = true ∨ t1.led = true := by rw [q5]; exact R.led
  have tf : t1.tooFull = decide ((L.length + 1) * 5 ≥ t.mask * 3) := by
    unfold SetTable.tooFull
    rw [q9, q4]
  by_cases hf : (L.length + 1) * 5 ≥ t.mask * 3
  · have hf2 : t1.tooFull = true := tf.trans (decide_eq_true hf)
    obtain ⟨M, m1, m2, m3, m4⟩ := grow_case R.tb.mok room hf hfew
    first
      | (refine wpAny_bind ?_; refine wp_if_pos (by simp [hf2]) ?_)
      | (refine wp_if_pos (by simp [hf2]) ?_; refine wpAny_bind ?_)
    rw [hz]
    refine relay_n (s := { s with heap := h1 }) (L := L1) S ho1 ⟨hex.1, hex.2.1, hex.2.2⟩ rfl hin (by rw [hlen]; exact q3) (by rw [hlen, q4]; omega) nd1 is1 hp1 ld1 (by rw [hlen]; exact hfew) m1 m2 m3 (by rw [hlen]; exact m4) fun h2 L2 es2 ep2 t2 sb2 R2 pm2 => ?_
    exact wpAny_pure (q h2 L2 es2 ep2 t2 (sb.trans sb2) R2 (pm2.trans pm))
  · have hf2 : t1.tooFull = false := tf.trans (decide_eq_false hf)
    first
      | refine wp_if_neg (by simp [hf2]) ?_
      | (refine wpAny_bind ?_; refine wp_if_neg (by simp [hf2]) ?_; refine wpAny_pure ?_)
    refine wpAny_pure (q h1 L1 es1 (ep + 1) t1 sb ⟨⟨_, ho1, ⟨hex.1, hex.2.1, hex.2.2⟩, rfl⟩, hin, by rw [hlen]; exact q3, nd1, is1, hp1, ld1, by rw [hlen, q4]; omega, by rw [hlen]; exact hfew⟩ pm)
theorem SetN.keep (S : SKind N) {h h' : Heap} (R : SetN N h a L es ep t) (ha : ∀ o, h.get? a = some o → h'.get? a = some o) (hk : ∀ p ∈ L, N.is h' p.2 p.1) : SetN N h' a L es ep t := by
  obtain ⟨o, ho, r⟩ := R.ob
  exact ⟨⟨o, ha o ho, r⟩, R.rows, R.tb, R.nd, hk, R.plain, R.led, R.room, R.few⟩
theorem setN_new {h : Heap} (ho : h.get? a = some { cls := .type "set", dict := none, data := .set #[] 0 (.fresh 0 0 (!w.params.followText "set-order")) }) : SetN N h a [] #[] 0 (.fresh 0 0 (!w.params.followText "set-order")) where
  ob := ⟨_, ho, ⟨rfl, rfl, rfl⟩, rfl⟩
  rows := rfl
  tb := ⟨List.Pairwise.nil, rfl, rfl, .inl rfl, fun x hx => (by cases hx)⟩
  nd := List.nodup_nil
  is := fun p hp => (by cases hp)
  plain := rfl
  led := by
    show _ ∨ (!w.params.followText "set-order") = true
    cases w.params.followText "set-order"
    · exact .inr rfl
    · exact .inl rfl
  room := show 0 * 5 < 7 * 3 by decide
  few := show 0 < 4000 by decide
/-! ### all of a list -/
theorem fill_n (S : SKind N) (h8 : N.lev < 8) {I : Addr} {fp wr : List Addr} {G : Array GenState → Array GenState → Prop} {n : Nat} {Pv : Nat → Value → Prop} {St : Nat → Shared → Prop} {R : Result → Shared → Prop} (W : WalksS P w A.in1 I fp wr G n Pv St) (D : Addr) (hDf : D ∉ fp) (ks : List (Addr × α)) (hn : n = ks.length) (hfew : ks.length < 4000) (nd : (ks.map (·.2)).Nodup)
    (hval : ∀ i v, Pv i v → ∃ p, ks[i]? = some p ∧ v = .ref p.1) (h0 : Heap) (hk : ∀ p ∈ ks, N.is h0 p.2 p.1) (hD0 : h0.get? D = none) (hw0 : ∀ b ∈ wr, h0.get? b = none) (hu : A.in1.units + N.lev < cLine) :
    ∀ (k i : Nat) (s : Shared), n - i = k → i ≤ n → St i s → (∀ b o, h0.get? b = some o → s.heap.get? b = some o) → (∃ L es ep t, SetN N s.heap D L es ep t ∧ L.Perm (ks.take i)) →
      (∀ s' L es ep t, Moved (D :: wr) G s s' → SetN N s'.heap D L es ep t → L.Perm ks → (∀ b o, h0.get? b = some o → s'.heap.get? b = some o) → R (.ok (.ret .none)) s') →
      codeAny (model P w) A (.builtin "set.update.loop" ⟨[.ref D, .ref I], []⟩) R s := by
  have hDw : D ∉ wr := fun h => hDf (W.sub _ h)
  have sub : ∀ b ∈ wr, b ∈ D :: wr := fun b hb => List.mem_cons_of_mem _ hb
  have kp : ∀ {s s' : Shared}, Moved wr G s s' → (∀ b o, h0.get? b = some o → s.heap.get? b = some o) → ∀ b o, h0.get? b = some o → s'.heap.get? b = some o := fun hm z b o e => hm.heap b o (fun hb => by rw [hw0 b hb] at e; cases e) (z b o e)
  intro k
  induction k with
  | zero =>
    intro i s hk' hi hst z ⟨L, es, ep, t, hS, g⟩ hR
    obtain rfl : i = n := by omega
    refine codeAny_builtin F.entry_set_update_loop ?_
    rw [Around.under_plainId F.plain_set_update_loop _]
    show wpAny _ A.in1 (pyNext (.ref I) >>= _) _ _ s
    refine wpAny_bind (W.done s _ _ hst fun s' hm => ?_)
    show wpAny _ A.in1 (ret Value.none) _ _ s'
    have z' := kp hm z
    rw [hn, List.take_length] at g
    exact wpAny_pure (hR s' L es ep t (hm.mono sub) (hS.keep S (fun o e => hm.heap D o hDw e) fun p hp => S.keep (hk p (g.mem_iff.mp hp)) z') g z')
  | succ k ih =>
    intro i s hk' hi hst z ⟨L, es, ep, t, hS, g⟩ hR
    have hlt : i < n := by omega
    refine codeAny_builtin F.entry_set_update_loop ?_
    rw [Around.under_plainId F.plain_set_update_loop _]
    show wpAny _ A.in1 (pyNext (.ref I) >>= _) _ _ s
    refine wpAny_bind (W.item i s _ _ hlt hst fun v s' hP hst' hm => ?_)
    obtain ⟨p, hp, rfl⟩ := hval i v hP
    have z' := kp hm z
    have hS' : SetN N s'.heap D L es ep t := hS.keep S (fun o e => hm.heap D o hDw e) fun q hq => S.keep (hk q (List.mem_of_mem_take (g.mem_iff.mp hq))) z'
    have hx : N.is s'.heap p.2 p.1 := S.keep (hk p (List.mem_of_getElem? hp)) z'
    have nx : (ks.take (i + 1)) = ks.take i ++ [p] := take_next hp
    have hno : p.2 ∉ L.map (·.2) := fun hm => by
      have h1 : p.2 ∈ (ks.take i).map (·.2) := (g.map (·.2)).mem_iff.mp hm
      have h2 : ((ks.take (i + 1)).map (·.2)).Nodup := nd.sublist ((List.take_sublist _ _).map _)
      rw [nx, List.map_append] at h2
      exact (List.nodup_append.mp h2).2.2 _ h1 _ (List.mem_singleton.mpr rfl) rfl
    have gl : L.length = i := by
      rw [g.length_eq, List.length_take]
      omega
    show wpAny _ A.in1 (holding [Value.ref p.1] (setAdd D (.ref p.1)) >>= _) _ _ s'
    refine wpAny_bind (wpAny_holding ?_)
    unfold setAdd
    refine wpAny_holding (wpAny_bind (N.pyHash hu hx ?_))
    refine add_n (s := { s' with toks := s'.toks + N.draws p.2 }) S h8 hS' hx hu hno (by omega) fun h' L' es' ep' t' hsb hS2 pm => ?_
    have g' : L'.Perm (ks.take (i + 1)) := by
      rw [nx]
      exact pm.trans ((g.cons p).trans (List.perm_append_singleton p _).symm)
    have z2 : ∀ b o, h0.get? b = some o → h'.get? b = some o := fun b o e => (hsb.2 b (fun y => by rw [y, hD0] at e; cases e)).trans (z' b o e)
    refine wpAny_pure ⟨plainId_quiet F.plain_set_update_loop _, ih (i + 1) _ (by omega) hlt (W.frame _ s' _ _ hst' (Nat.le_add_right _ _) fun b hb o e => ?_) z2 ⟨L', es', ep', t', hS2, g'⟩ fun s'' L2 es2 ep2 t2 hm'' hS'' g'' z3 => ?_⟩
    · rw [hsb.2 b (fun y : b = D => hDf (by rw [← y]; exact hb))]
      exact e
    · refine hR s'' L2 es2 ep2 t2 (Moved.trans W.gtrans ((hm.mono sub).then_heap (Nat.le_add_right _ _) fun b o hb e => ?_) hm'') hS'' g'' z3
      rw [hsb.2 b (fun y : b = D => hb (by rw [y]; exact List.mem_cons_self))]
      exact e
end
end Pf


namespace Pf
open PySem PySem.Spec PyProof.Rows L2
section
variable {P : Program} {w : World} {α : Type} [DecidableEq α] {A : Around} {E : Value → Shared → Prop} {s : Shared} {N : NKind P w α}
abbrev freshSet (w : World) : Obj := { cls := .type "set", dict := none, data := .set #[] 0 (.fresh 0 0 (!w.params.followText "set-order")) }
/-- set(xs) of unlike things -/
theorem call_set_n (S : SKind N) (h8 : N.lev < 8) {l : Addr} {items : Array Value} (ks : List (Addr × α)) {Q : Value → Shared → Prop} (hh : A.handled = none) (hl : s.heap.IsList l items) (hit : items.toList = ks.map fun p => Value.ref p.1) (hk : ∀ p ∈ ks, N.is s.heap p.2 p.1) (hfew : ks.length < 4000) (nd : (ks.map (·.2)).Nodup) (hu : A.units + 20 < cLine)
    (h : ∀ (h' : Heap) (tk : Nat) L es ep t, SetN N h' s.heap.objs.size L es ep t → L.Perm ks → (∀ b o, s.heap.get? b = some o → h'.get? b = some o) → Q (.ref s.heap.objs.size) { s with heap := h', toks := tk }) : wpAny (model P w) A (call (.type "set") [.ref l]) Q E s := by
  have hisz : items.size = ks.length := by rw [← Array.length_toList, hit, List.length_map]
  obtain ⟨c, tl, hmro⟩ := F.called_set.mro
  have hmade := F.called_set.made
  have hsub := F.called_set.sub
  refine wpAny_call (codeAny_of_tree ?_)
  show wpAny _ _ (callAny (.type "set") _) _ _ _
  refine wpAny_pure ⟨Code.quiet_builtin _ (by decide +kernel), codeAny_builtin F.entry_type_call ?_⟩
  rw [Around.under_plain (weight_type_call_type "set" [.ref l] []) rfl]
  have h1 := F.called_set.notType
  have h2 := F.called_set.canCreate
  have hct := F.typeCall_set_1 (.ref l)
  repeat (any_goals (first | assumption | wp_step))
  refine codeAny_mono (code_set_led1 (.ref l) (E := E) (Q₁ := fun obj s₁ => obj = .ref s.heap.objs.size ∧ s₁ = { s with heap := s.heap.push (freshSet w) }) ⟨rfl, rfl⟩) fun r s₁ hr => ?_
  cases r with
  | error e => exact hr
  | ok fl =>
    cases fl with
    | ret obj =>
      obtain ⟨rfl, rfl⟩ := hr
      have hS : (s.heap.push (freshSet w)).get? s.heap.objs.size = some (freshSet w) := Heap.get?_push_size _ rfl
      have hT : Shared.TypeIs { s with heap := s.heap.push (freshSet w) } (.ref s.heap.objs.size) "set" := ⟨_, hS, rfl⟩
      have hli := F.called_set.init.lookup
      have hbi := F.called_set.init.bind (.ref s.heap.objs.size)
      repeat (any_goals (first | assumption | wp_step))
      refine codeAny_mono (codeAny_call_builtin (R := wants (fun r s₂ => r = .none ∧ ∃ h' tk L es ep t, s₂ = { s with heap := h', toks := tk } ∧ SetN N h' s.heap.objs.size L es ep t ∧ L.Perm ks ∧ (∀ b o, s.heap.get? b = some o → h'.get? b = some o)) E) F.called_set.init.plain F.entry_set_init (check_set_init_1 hT ?_)) fun r₂ s₂ hr₂ => ?_
      · obtain ⟨ol, hol, hcl, nl, hdl⟩ := hl
        obtain ⟨ocls, odict, odata, oslots⟩ := ol
        simp only at hcl hdl
        subst hcl; subst hdl
        have hol' : (s.heap.push (freshSet w)).get? l = some { cls := .type "list", dict := odict, data := .seq items nl, slots := oslots } := Heap.get?_push_of_some _ hol
        have hsls := F.sub_list_set
        have hslf := F.sub_list_frozenset
        have hne : (Value.type "list" == Value.type "dict") = false := by decide
        have hl1 : (s.heap.push (freshSet w)).IsList l items := ⟨_, hol', rfl, nl, rfl⟩
        unfold Builtin.«set.__init__» noKeywords Builtin.Frozenset.updateFrom
        generalize hPI : pyIter = PI
        wp_walk
        subst hPI
        refine wpAny_pyIter_list hl1 ?_
        refine wpAny_bind (wpAny_runValue ?_)
        have hlS : l < s.heap.objs.size := Heap.lt_size hol
        have hh3 : A.in1.in1.in1.handled = none := by simp [hh]
        have psz : (s.heap.push (freshSet w)).objs.size = s.heap.objs.size + 1 := Heap.size_push ..
        have none_of : ∀ b, s.heap.objs.size ≤ b → s.heap.get? b = none := fun b hb => by
          cases q : s.heap.get? b with
          | none => rfl
          | some o => exact absurd (Heap.lt_size q) (Nat.not_lt.mpr hb)
        refine fill_n S h8 ((Walks.list hh3 (s.heap.push (freshSet w)).objs.size l (by rw [psz]; exact Nat.ne_of_lt (Nat.lt_succ_of_lt hlS)) items).toS) s.heap.objs.size (by rw [psz]; simp only [List.mem_cons, List.not_mem_nil, or_false, not_or]; exact ⟨Nat.ne_of_lt (Nat.lt_succ_self _), Nat.ne_of_gt hlS⟩) ks hisz hfew nd (fun i v hv => ?_) s.heap hk (none_of _ (Nat.le_refl _))
          (fun b hb => none_of b (by rw [List.mem_singleton.mp hb, psz]; exact Nat.le_succ _)) (by show A.units + 1 + 1 + 1 + N.lev < cLine; omega) (items.size - 0) 0 _ (by omega) (Nat.zero_le _) ⟨⟨_, Heap.get?_push_size _ rfl, rfl, rfl⟩, (hl1.push _)⟩ (fun b o e => Heap.get?_push_of_some _ (Heap.get?_push_of_some _ e)) ⟨[], #[], 0, _, setN_new (Heap.get?_push_of_some _ hS), List.Perm.refl _⟩ ?hR
        · have q : items.toList[i]? = some v := (Array.getElem?_toList ..).trans hv
          rw [hit, List.getElem?_map] at q
          cases hq : ks[i]? with
          | none => rw [hq] at q; cases q
          | some p => rw [hq] at q; exact ⟨p, rfl, (Option.some.inj q).symm⟩
        case hR =>
          intro s' L es ep t hm hS' g' hkp
          obtain ⟨h', g2, d', tk', os'⟩ := s'
          have eg : g2 = s.gens := hm.gens
          have ed : d' = s.drawn := hm.drawn
          have eo : os' = s.os := hm.os
          subst eg; subst ed; subst eo
          show wpAny _ _ _ _ _ _
          refine wpAny_pure ?_
          show wpAny _ _ (ret Value.none) _ _ _
          exact wpAny_pure ⟨rfl, h', tk', L, es, ep, t, rfl, hS', g', hkp⟩
      · cases r₂ with
        | error e => exact hr₂
        | ok fl₂ =>
          cases fl₂ with
          | ret r =>
            obtain ⟨rfl, h', tk, L, es, ep, t, rfl, hS', g', hk'⟩ := hr₂
            repeat (any_goals (first | assumption | wp_step))
            exact h _ _ _ _ _ _ hS' g' hk'
          | _ => exact hr₂.elim
    | _ => exact hr.elim
end
theorem perm_unmap {β γ : Type} {f : β → γ} {o r : List γ} (p : o.Perm r) : ∀ L : List β, r = L.map f → ∃ Ls : List β, Ls.Perm L ∧ o = Ls.map f := by
  induction p with
  | nil =>
    intro L e
    cases L with
    | nil => exact ⟨[], List.Perm.refl _, rfl⟩
    | cons x y => cases e
  | cons x _ ih =>
    intro L e
    cases L with
    | nil => cases e
    | cons y L =>
      injection e with e1 e2
      obtain ⟨Ls, h1, h2⟩ := ih L e2
      exact ⟨y :: Ls, h1.cons y, by rw [List.map_cons, ← h2, e1]⟩
  | swap x y l =>
    intro L e
    cases L with
    | nil => cases e
    | cons a L =>
      cases L with
      | nil => injection e with e1 e2; cases e2
      | cons b L =>
        injection e with e1 e2
        injection e2 with e2 e3
        exact ⟨b :: a :: L, List.Perm.swap a b L, by rw [List.map_cons, List.map_cons, ← e1, ← e2, ← e3]⟩
  | trans _ _ ih1 ih2 =>
    intro L e
    obtain ⟨L1, h1, e1⟩ := ih2 L e
    obtain ⟨L2, h2, e2⟩ := ih1 L1 e1
    exact ⟨L2, h2.trans h1, e2⟩
theorem vals_refsA {β : Type} {g : β → Addr} : ∀ {ks : List β} {us : List Value}, Vals (ks.map fun p => V.ref (g p)) us → us = ks.map fun p => Value.ref (g p)
  | [], _, .nil => rfl
  | _ :: _, _, .cons r t => by
    cases r
    rw [vals_refsA t]
    rfl
theorem refs_valsA {β : Type} {g : β → Addr} : ∀ (ks : List β), Vals (ks.map fun p => V.ref (g p)) (ks.map fun p => Value.ref (g p))
  | [] => .nil
  | _ :: ks => .cons rfl (refs_valsA ks)
section
variable {X : Cx} {α : Type} [DecidableEq α]
/-- a kind of things, how they stand in the heap, and as data -/
structure Kd (P : Program) (w : World) (α : Type) [DecidableEq α] where
  N : NKind P w α
  S : SKind N
  h8 : N.lev < 8
  at_ : Hp → Addr → α → Prop
  sound : ∀ {H : Hp} {h : Heap} {a : Addr} {k : α}, HOk P w H h → at_ H a k → N.is h k a
def tSetIn (D : Kd P w α) (K : PySem.W.Frag) (ta : TE) (Q : List (Addr × α) → Hp → Prop) : L2.St → Hp → Prop := fun σ H => ta σ H fun x H1 => ∃ (l : Addr) (ks : List (Addr × α)), x = .ref l ∧ SqL K H1 l (ks.map fun p => V.ref p.1) ∧ ks.length < 4000 ∧ (ks.map (·.2)).Nodup ∧ (∀ p ∈ ks, D.at_ H1 p.1 p.2) ∧ Q ks H1
/-- len(set(xs)) -/
theorem pe_lenSetN {K : PySem.W.Frag} (D : Kd X.prog X.w α) {a : Expr} {ta : TE} {p p2 q pos : Pos} (hc : X.calm = true) (hu : X.A.units + 64 < cLine) (hg : Gl X "len") (hm : X.mg "len" = none) (hg2 : Gl X "set") (hm2 : X.mg "set" = none) (ha : PE X a ta) (hK : X.K = K := by rfl)
    (na : starEach [a] X.env = (false, eval a X.env) :: starEach [] X.env := by rfl) : PE X (.Call (.Name "len" p) [.Call (.Name "set" p2) [a] [] q] [] pos) (fun σ H Q => tSetIn D K ta (fun ks H1 => Q (.int ks.length) H1) σ H) := by
  subst hK
  refine ⟨fun pins s σ H Q I h => ?_⟩
  refine Call_ (ld_blt I hg hm PySem.boot_len (PyProof.Rows.callWith_builtin1 (PyProof.Rows.args_cons ?_ rfl) rfl rfl))
  refine Call_ (ld_blt I hg2 hm2 PyProof.Rows.boot_set ?_)
  refine PyProof.Rows.callWith_type1 (PyProof.Rows.args_cons (thn (ha.run pins s σ H _ I h) fun v s1 ⟨x, H1, I1, r1, q1⟩ => PyProof.Rows.args_nil ?_) na) na rfl
  obtain ⟨l, ks, rfl, hL, hz, nd, hat, qq⟩ := q1
  cases r1
  obtain ⟨its, r, pl, _⟩ := I1.list hL
  refine call_set_n D.S D.h8 ks (I1.ok.hd hc) pl.isList (by simpa using vals_refsA r) (fun p hp => D.sound I1.hok (hat p hp)) hz nd (by have : (64 : Nat) ≤ 64 := Nat.le_refl _; omega) fun h' tk L es ep t R pm hk => ?_
  have I2 : Inv X pins σ H1 { s1 with heap := h', toks := tk } := I1.kept hk
  refine PyProof.Rows.args_nil ?_
  obtain ⟨o, ho, hex, hd⟩ := R.ob
  have es_sz : es.size = ks.length := (rows_size R.rows).trans pm.length_eq
  exact call_len_set ho hex hd R.fits (by omega) ⟨.int ks.length, H1, I2.tok _, ⟨_, by rw [es_sz]⟩, qq⟩
/-- sorted(set(xs)) -/
theorem pe_sortSetN {K : PySem.W.Frag} (D : Kd X.prog X.w α) (dd : α → PyData) {a : Expr} {ta : TE} {p p2 q pos : Pos} (hc : X.calm = true) (hu : X.A.units + 64 < cLine) (hg : Gl X "sorted") (hm : X.mg "sorted" = none) (hg2 : Gl X "set") (hm2 : X.mg "set" = none) (ha : PE X a ta) (hK : X.K = K := by rfl)
    (na : starEach [a] X.env = (false, eval a X.env) :: starEach [] X.env := by rfl) : PE X (.Call (.Name "sorted" p) [.Call (.Name "set" p2) [a] [] q] [] pos) (fun σ H Q => tSetIn D K ta (fun ks H1 => (∀ p ∈ ks, Dp K H1 (.ref p.1) (dd p.2) ∧ (dd p.2).depth ≤ 50) ∧ (∀ ls : List (Addr × α), ls.Perm ks → PySem.W.AllAlike (ls.map fun p => dd p.2) ∧ PySem.W.Sortable (ls.map fun p => dd p.2)) ∧
      ∀ (b : Addr) (ls : List (Addr × α)), ls.Perm ks → H1 b = none → Q (.ref b) (upd H1 b (.lst ((ls.mergeSort (PySem.W.dataLe false fun p => dd p.2)).map fun p => V.ref p.1)))) σ H) := by
  subst hK
  refine ⟨fun pins s σ H Q I h => ?_⟩
  refine Call_ (ld_blt I hg hm (u := .builtin "sorted") (by decide +kernel) (PyProof.Rows.callWith_builtin1 (PyProof.Rows.args_cons ?_ rfl) rfl rfl))
  refine Call_ (ld_blt I hg2 hm2 PyProof.Rows.boot_set ?_)
  refine PyProof.Rows.callWith_type1 (PyProof.Rows.args_cons (thn (ha.run pins s σ H _ I h) fun v s1 ⟨x, H1, I1, r1, q1⟩ => PyProof.Rows.args_nil ?_) na) na rfl
  obtain ⟨l, ks, rfl, hL, hz, nd, hat, hdp, hal, qq⟩ := q1
  cases r1
  obtain ⟨its, r, pl, _⟩ := I1.list hL
  refine call_set_n D.S D.h8 ks (I1.ok.hd hc) pl.isList (by simpa using vals_refsA r) (fun p hp => D.sound I1.hok (hat p hp)) hz nd (by have : (64 : Nat) ≤ 64 := Nat.le_refl _; omega) fun h' tk L es ep t R pm hk => ?_
  have I2 : Inv X pins σ H1 { s1 with heap := h', toks := tk } := I1.kept hk
  refine PyProof.Rows.args_nil ?_
  obtain ⟨o, ho, hex, hd⟩ := R.ob
  have es_sz : es.size = ks.length := (rows_size R.rows).trans pm.length_eq
  refine Calls.call_function_entry PyProof.Rows.kind_sorted PyProof.Rows.plain_sorted PyProof.Rows.entry_sorted (PyProof.Rows.args_sorted1 _) ?_
  unfold Builtin.«sorted»
  refine wpAny_bind (m := checkCount "sorted" 1 1 _) (wpAny_pure ?_)
  refine wpAny_bind (collect_set (A := X.A.in1) (I2.ok.hd hc) ⟨o, ho, hex.1, hd⟩ R.fits (by unfold scanBound; omega) R.tb.ris R.led fun s2 out k2 _ g2 o2 pm2 => ?_)
  have e2 : es.toList.map (·.2) = L.map fun p => Value.ref p.1 := by
    rw [R.rows]
    unfold rowsN
    rw [List.map_map]
    rfl
  rw [e2] at pm2
  obtain ⟨Ls, p1, p2⟩ := perm_unmap pm2 L rfl
  have pk := p1.trans pm
  have I3 : Inv X pins σ H1 s2 := by
    have e : s2 = { s2 with os := s2.os } := rfl
    obtain ⟨h2, gg, dr, tt, os⟩ := s2
    have eg : gg = s1.gens := g2
    have eo : os = s1.os := o2
    subst eg eo
    exact I1.call (ch := []) (Un.kept fun b u e => k2 b u (hk b u e)) (I1.hok.kept fun b u e => k2 b u (hk b u e)) I1.bare (fun _ z => nomatch z)
  refine sort_tail I3 hu (v := fun p : Addr × α => V.ref p.1) (dd := fun p => dd p.2) (ys := Ls) (by rw [p2]; exact refs_valsA Ls) (fun y hy => hdp y (pk.mem_iff.mp hy)) (hal Ls pk).1 (hal Ls pk).2 (by rw [pk.length_eq, sizeLine_eq]; omega) (fun b hb => qq b Ls pk hb) fun l s' h => ⟨_, rfl, h⟩
end
end Pf


namespace Pf
open PySem PySem.Spec PyProof.Rows L2
section
variable {P : Program} {w : World} {α β : Type} [DecidableEq α] [DecidableEq β]
/-! ### a kind told otherwise -/
def NKind.by (N : NKind P w α) (e : β → α) (he : ∀ x y, e x = e y → x = y) : NKind P w β where
  is := fun h b a => N.is h (e b) a
  hash := fun b => N.hash (e b)
  draws := fun b => N.draws (e b)
  lev := N.lev
  inj := fun h1 h2 => he _ _ (N.inj h1 h2)
  keeps := fun h1 h2 h3 h4 => N.keeps h1 h2 h3 h4
  pyHash := fun hu hk h => N.pyHash hu hk h
  eqBool := fun {A E s x y a b Q} hu hx hy h => N.eqBool hu hx hy (by
    have e1 : decide (e x = e y) = decide (x = y) := decide_eq_decide.mpr ⟨he x y, congrArg e⟩
    rw [e1]
    exact h)
  quiet := fun hn hk h => N.quiet hn hk h
theorem SKind.by {N : NKind P w α} (S : SKind N) (e : β → α) (he : ∀ x y, e x = e y → x = y) : SKind (N.by e he) where
  ofc := fun {A E s n k a Q} hn hk h => S.ofc (k := e k) hn hk h
  hby := fun {A E s n k a Q} hn hk h => S.hby (k := e k) hn hk h
  stay := fun {h h' k a b o es ep t} h1 h2 h3 h4 => S.stay (k := e k) h1 h2 h3 h4
  keep := fun {h h' k b} h1 h2 => S.keep (k := e k) h1 h2
/-! ### a number and such a thing -/
def IsRow (N : NKind P w α) (h : Heap) (y : Int × α) (a : Addr) : Prop := ∃ o n t b, h.get? a = some o ∧ o.cls = .type "tuple" ∧ o.data = .seq #[.int y.1 t, .ref b] n ∧ N.is h y.2 b
variable {N : NKind P w α}
theorem IsRow.ty {s : Shared} {y : Int × α} {a : Addr} (x : IsRow N s.heap y a) : s.TypeIs (.ref a) "tuple" := let ⟨o, _, _, _, ho, hc, _⟩ := x; ⟨o, ho, hc⟩
def rowHash (N : NKind P w α) (y : Int × α) : Int := reduceHash (Builtin.Tuple.tupleHashOf [hashInt y.1, N.hash y.2])
theorem row_hash {A : Around} {E : Value → Shared → Prop} {s : Shared} {y : Int × α} {a : Addr} {Q : Int → Shared → Prop} (hu : A.units + (N.lev + 1) < cLine) (hk : IsRow N s.heap y a) (h : Q (rowHash N y) { s with toks := s.toks + (N.draws y.2 + 2) }) : wpAny (model P w) A (pyHash (.ref a)) Q E s := by
  have T := hk.ty
  obtain ⟨o, n, t, b, ho, _, hd, hi⟩ := hk
  unfold pyHash
  first | unfold pyHashByItsType | skip
  first | refine wpAny_bind (wpAny_cRoomFor_or (.inr (by omega)) ?_) | skip
  refine wpAny_bind (wpAny_specialOf T F.slot_tuple_hash.lookup ?_)
  show wpAny _ _ (if (some (Value.builtin "tuple.__hash__") == some Value.none) = true then _ else _) Q E s
  rw [if_neg (by rw [beq_builtin_none]; exact Bool.false_ne_true)]
  refine wpAny_bind (wpAny_specialOf T F.slot_tuple_hash.lookup ?_)
  show wpAny _ _ (callSpecialIfBoundUnlessNone? (.ref a) "__hash__" _ >>= _) Q E s
  refine wpAny_bind (wpAny_callSpecialIfBoundUnlessNone?_slot T F.slot_tuple_hash (wpAny_call_entry F.slot_tuple_hash T F.entry_tuple_hash ?_ (F.args_tuple_hash_1 _)))
  show wpAny _ _ (Builtin.Tuple.tupleItemsOf (.ref a) >>= _) _ _ s
  refine wpAny_bind (wpAny_tupleItemsOf ho hd ?_)
  refine wpAny_bind ?_
  rw [← Array.forIn_toList]
  refine wpAny_forIn_list _ (fun rest (c : Array Int) u => (rest = [.int y.1 t, .ref b] ∧ c = #[] ∧ u = s) ∨ (rest = [.ref b] ∧ c = #[hashInt y.1] ∧ u = { s with toks := s.toks + 1 }) ∨ (rest = [] ∧ c = #[hashInt y.1, N.hash y.2] ∧ u = { s with toks := s.toks + 1 + N.draws y.2 })) _ ?_ ?_ _ _ (.inl ⟨rfl, rfl, rfl⟩)
  · rintro x rest c u (⟨h1, rfl, rfl⟩ | ⟨h1, rfl, rfl⟩ | ⟨h1, _, _⟩)
    · injection h1 with h1 h2
      subst h1 h2
      refine wpAny_bind ((intKind P w).pyHash (k := y.1) (intKind_is P w y.1 t) ?_)
      first
        | exact wpAny_pure (.inr (.inl ⟨rfl, rfl, rfl⟩))
        | exact wpAny_bind (wpAny_pure (wpAny_pure (.inr (.inl ⟨rfl, rfl, rfl⟩))))
    · injection h1 with h1 h2
      subst h1 h2
      refine wpAny_bind (N.pyHash (by show A.units + 1 + N.lev < cLine; omega) hi ?_)
      first
        | exact wpAny_pure (.inr (.inr ⟨rfl, rfl, rfl⟩))
        | exact wpAny_bind (wpAny_pure (wpAny_pure (.inr (.inr ⟨rfl, rfl, rfl⟩))))
    · cases h1
  · rintro c u (⟨h1, _, _⟩ | ⟨h1, _, _⟩ | ⟨_, rfl, rfl⟩)
    · cases h1
    · cases h1
    show wpAny _ _ (retInt (Builtin.Tuple.tupleHashOf [hashInt y.1, N.hash y.2])) _ _ _
    refine wpAny_ret_mkInt ?_
    show wpAny _ _ (if (decide (-(2 : Int) ^ 63 ≤ Builtin.Tuple.tupleHashOf [hashInt y.1, N.hash y.2]) && decide (Builtin.Tuple.tupleHashOf [hashInt y.1, N.hash y.2] < 2 ^ 63)) = true then _ else _) Q E _
    have eT : s.toks + 1 + N.draws y.2 + 1 = s.toks + (N.draws y.2 + 2) := by omega
    unfold rowHash reduceHash at h
    generalize Builtin.Tuple.tupleHashOf [hashInt y.1, N.hash y.2] = z at h ⊢
    by_cases hr : (decide (-(2 : Int) ^ 63 ≤ z) && decide (z < 2 ^ 63)) = true
    · rw [if_pos hr] at h ⊢
      rw [← eT] at h
      exact wpAny_pure h
    · rw [if_neg hr] at h ⊢
      rw [← eT] at h
      exact wpAny_bind (wpAny_rule (wpAny_pure h))
theorem row_tree {A : Around} {E : Value → Shared → Prop} {s : Shared} {x y : Int × α} {a b : Addr} {G : PySem.Fin → Shared → Prop} (hu : A.units + N.lev < cLine) (hx : IsRow N s.heap x a) (hy : IsRow N s.heap y b) (h : G (.done (.ret (.bool (decide (x = y))))) s) : wpAny (model P w) A (Builtin.«tuple.__eq__» ⟨[.ref a, .ref b], []⟩) G E s := by
  have Tb := hy.ty
  obtain ⟨oa, na, ta, ca, hoa, _, hda, hia⟩ := hx
  obtain ⟨ob, nb, tb, cb, hob, _, hdb, hib⟩ := hy
  show wpAny _ _ (isInstance (.ref b) (.type "tuple") >>= _) _ _ s
  refine wpAny_bind (wpAny_isInstance Tb isSubtype_tuple_tuple ?_)
  simp only [Bool.not_true, Bool.false_eq_true, if_false]
  refine wpAny_bind (wpAny_tupleItemsOf hoa hda ?_)
  refine wpAny_bind (wpAny_tupleItemsOf hob hdb ?_)
  refine wpAny_bind ?_
  refine wpAny_forIn_list _ (fun rest z u => (z.1 = none ∧ u = s) ∧ ((rest = [(.int x.1 ta, .int y.1 tb), (.ref ca, .ref cb)]) ∨ (rest = [(.ref ca, .ref cb)] ∧ x.1 = y.1) ∨ (rest = [] ∧ x.1 = y.1 ∧ x.2 = y.2))) _ ?_ ?_ _ _ ⟨⟨rfl, rfl⟩, .inl rfl⟩
  · rintro ⟨u, v⟩ rest z st ⟨⟨hz, rfl⟩, (h1 | ⟨h1, e1⟩ | ⟨h1, _⟩)⟩
    · injection h1 with h1 h2
      injection h1 with h1 h3
      subst h1 h2 h3
      refine wpAny_bind ((intKind P w).eqBool (a := x.1) (b := y.1) (intKind_is P w _ _) (intKind_is P w _ _) ?_)
      by_cases e : x.1 = y.1
      · rw [decide_eq_true e]
        simp only [Bool.not_true, Bool.false_eq_true, if_false]
        exact wpAny_pure ⟨by simp, .inr (.inl ⟨trivial, e⟩)⟩
      · rw [decide_eq_false e]
        simp only [Bool.not_false, if_true]
        rw [decide_eq_false (fun z : x = y => e (congrArg Prod.fst z))] at h
        exact wpAny_bind (wpAny_pure (wpAny_pure (wpAny_pure h)))
    · injection h1 with h1 h2
      injection h1 with h1 h3
      subst h1 h2 h3
      refine wpAny_bind (N.eqBool hu hia hib ?_)
      by_cases e : x.2 = y.2
      · rw [decide_eq_true e]
        simp only [Bool.not_true, Bool.false_eq_true, if_false]
        exact wpAny_pure ⟨by simp, .inr (.inr ⟨trivial, e1, e⟩)⟩
      · rw [decide_eq_false e]
        simp only [Bool.not_false, if_true]
        rw [decide_eq_false (fun z : x = y => e (congrArg Prod.snd z))] at h
        exact wpAny_bind (wpAny_pure (wpAny_pure (wpAny_pure h)))
    · cases h1
  · rintro ⟨z1, z2⟩ u ⟨⟨e0, rfl⟩, (h1 | ⟨h1, _⟩ | ⟨_, e1, e2⟩)⟩
    · cases h1
    · cases h1
    simp only at e0
    subst e0
    refine wpAny_pure ?_
    rw [decide_eq_true (Prod.ext e1 e2)] at h
    exact h
theorem IsRow.inj {h : Heap} {a : Addr} {x y : Int × α} (hx : IsRow N h x a) (hy : IsRow N h y a) : x = y := by
  obtain ⟨o, n, t, b, h1, _, h2, h3⟩ := hx
  obtain ⟨o', n', t', b', g1, _, g2, g3⟩ := hy
  obtain rfl := Option.some.inj (h1.symm.trans g1)
  rw [h2] at g2
  injection g2 with g2 _
  have e := congrArg Array.toList g2
  injection e with e1 e2
  injection e2 with e2 _
  injection e1 with e1 _
  injection e2 with e2
  subst e2
  exact Prod.ext e1 (N.inj h3 g3)
/-- a number and a thing, in a tuple -/
def rowN (N : NKind P w α) : NKind P w (Int × α) where
  is := IsRow N
  hash := rowHash N
  draws := fun y => N.draws y.2 + 2
  lev := N.lev + 1
  inj := fun hx hy => hx.inj hy
  keeps := fun {h h' k a d o es ep} x ho hd hs => by
    obtain ⟨o', n, t, b, g1, g2, g3, g4⟩ := x
    have ne : a ≠ d := fun e => by
      subst e
      obtain rfl := Option.some.inj (g1.symm.trans ho)
      rw [hd] at g3
      exact nomatch g3
    exact ⟨o', n, t, b, (hs.2 a ne).trans g1, g2, g3, N.keeps g4 ho hd hs⟩
  pyHash := fun hu hk h => row_hash hu hk h
  eqBool := fun {A E s x y a b Q} hu hx hy h => by
    unfold eqBool
    try with_reducible refine wpAny_holding ?_
    show wpAny _ _ (if (Value.ref a == Value.ref b) = true then _ else _) Q E s
    by_cases hab : (Value.ref a == Value.ref b) = true
    · rw [if_pos hab]
      obtain rfl : a = b := by have := eq_of_beq hab; injection this
      obtain rfl := hx.inj hy
      exact wpAny_bind (wpAny_rule (wpAny_pure (by simpa using h)))
    · rw [if_neg hab]
      exact wpAny_bind (wpAny_richCompare_same_room (op := .Eq) hx.ty hy.ty F.slot_tuple_eq (wpAny_call_entry F.slot_tuple_eq hx.ty F.entry_tuple_eq (row_tree (by show A.units + 1 + N.lev < cLine; omega) hx hy ⟨_, rfl, (fun e => nomatch e), wpAny_truthy_bool h⟩) (F.args_tuple_eq_2 _ _)) (by omega))
  quiet := fun {A E s n k a Q} hn hk h => by
    obtain ⟨m, rfl⟩ : ∃ m, n = m + 1 := ⟨n - 1, by omega⟩
    have T := hk.ty
    obtain ⟨o, n, t, b, ho, _, hd, hi⟩ := hk
    unfold eqIsQuiet
    refine wpAny_bind (wpAny_specialOf T F.slot_tuple_eq.lookup ?_)
    show wpAny _ _ (isInstance (.ref a) (.type "tuple") >>= _) _ _ s
    refine wpAny_bind (wpAny_isInstance T isSubtype_tuple_tuple ?_)
    simp only [Bool.not_true, Bool.false_eq_true, if_false]
    refine wpAny_bind (wpAny_seqItems ho hd ?_)
    refine wpAny_bind ?_
    show wpAny _ _ (forIn _ _ _) _ _ s
    rw [← Array.forIn_toList]
    refine wpAny_forIn_list _ (fun rest z u => (z.1 = none ∧ u = s) ∧ ∀ v ∈ rest, v = .int k.1 t ∨ v = .ref b) _ ?_ ?_ _ _ ⟨⟨rfl, rfl⟩, fun v hv => by simpa using hv⟩
    · rintro v rest z u ⟨⟨_, rfl⟩, al⟩
      have al2 : ∀ v ∈ rest, v = .int k.1 t ∨ v = .ref b := fun x q => al x (List.mem_cons_of_mem _ q)
      rcases al v List.mem_cons_self with rfl | rfl
      · rw [eqIsQuiet_byValue _ (show carriedByValue (.int k.1 t) = true from rfl)]
        refine wpAny_bind (wpAny_pure ?_)
        simp only [Bool.not_true, Bool.false_eq_true, if_false]
        exact wpAny_pure ⟨⟨rfl, rfl⟩, al2⟩
      · refine wpAny_bind (N.quiet (by omega) hi ?_)
        simp only [Bool.not_true, Bool.false_eq_true, if_false]
        exact wpAny_pure ⟨⟨rfl, rfl⟩, al2⟩
    · rintro ⟨z1, z2⟩ u ⟨⟨e1, rfl⟩, _⟩
      simp only at e1
      subst e1
      exact wpAny_pure h
theorem sk_row (S : SKind N) : SKind (rowN N) where
  ofc := fun {A E s n k a Q} hn hk h => by
    obtain ⟨o, m, t, b, ho, hc, hd, hi⟩ := (show IsRow N s.heap k a from hk)
    obtain ⟨j, rfl⟩ : ∃ j, n = j + 1 := ⟨n - 1, by omega⟩
    refine ofc_tup ho hc hd (fun v hv Q' q => ?_) h
    rcases (show v = .int k.1 t ∨ v = .ref b by simpa using hv) with rfl | rfl
    · rw [ofAClass_int]
      exact wpAny_pure q
    · exact S.ofc (show N.lev < j by have : N.lev + 1 < j + 1 := hn; omega) hi q
  hby := fun {A E s n k a Q} hn hk h => by
    obtain ⟨o, m, t, b, ho, hc, hd, hi⟩ := (show IsRow N s.heap k a from hk)
    obtain ⟨j, rfl⟩ : ∃ j, n = j + 1 := ⟨n - 1, by omega⟩
    refine hby_tup ho hc hd (fun v hv Q' q => ?_) h
    rcases (show v = .int k.1 t ∨ v = .ref b by simpa using hv) with rfl | rfl
    · rw [hashBy_int]
      exact wpAny_pure q
    · exact S.hby (show N.lev < j by have : N.lev + 1 < j + 1 := hn; omega) hi q
  stay := fun {h h' k a b o es ep t} hk ho hd hs => by
    obtain ⟨o', n, t', c, g1, g2, g3, g4⟩ := (show IsRow N h k b from hk)
    exact (show IsRow N h' k b from ⟨o', n, t', c, (hs.2 b (tup_no_set g1 g3 ho hd)).trans g1, g2, g3, S.stay g4 ho hd hs⟩)
  keep := fun {h h' k b} hk q => by
    obtain ⟨o', n, t', c, g1, g2, g3, g4⟩ := (show IsRow N h k b from hk)
    exact (show IsRow N h' k b from ⟨o', n, t', c, q _ _ g1, g2, g3, S.keep g4 q⟩)
end
/-! ### foldings; numbers with foldings -/
def two2 (p : Int × Int) : List Int := [p.1, p.2]
theorem two2_inj (p q : Int × Int) (h : two2 p = two2 q) : p = q := by
  unfold two2 at h
  injection h with h1 h2
  injection h2 with h2 _
  exact Prod.ext h1 h2
theorem map_inj {α β : Type} {f : α → β} (hf : ∀ x y, f x = f y → x = y) : ∀ xs ys : List α, xs.map f = ys.map f → xs = ys
  | [], [], _ => rfl
  | [], _ :: _, h => by cases h
  | _ :: _, [], h => by cases h
  | x :: xs, y :: ys, h => by
    injection h with h1 h2
    rw [hf _ _ h1, map_inj hf xs ys h2]
section
variable {P : Program} {w : World}
/-- a list of tuples of numbers, told by e, in a tuple -/
def listE {γ : Type} (e : γ → List Int) : List γ → List (List Int) := List.map e
theorem vals_items {k : List Int} {us : List Value} (r : Vals (k.map V.int) us) : ItemsAre (intKind P w) k us := items_of_vals r
theorem nest_ints {γ : Type} {e : γ → List Int} {H : Hp} {h : Heap} (ok : HOk P w H h) {vs : List V} {q : List γ} (p : Paired (fun v y => ∃ b, v = V.ref b ∧ H b = some (.tup ((e y).map V.int))) vs q) : ∀ {us : List Value}, Vals vs us → RefsAre (flatN (intKind P w)) h (q.map e) us := by
  induction p with
  | nil => intro us r; cases r; exact .nil
  | cons h1 _ ih =>
    intro us r
    cases r with
    | cons r1 rt =>
      obtain ⟨b, rfl, hb⟩ := h1
      cases r1
      obtain ⟨_, its, ri, o, g1, g2, n, g3⟩ := (show ObjOk P w H h b (.tup _) from ok b _ hb)
      exact .cons (show IsTupleKey (intKind P w) h _ b from ⟨o, its.toArray, n, g1, g2, g3, by simpa using vals_items ri⟩) (ih rt)
def NestE {γ : Type} (e : γ → List Int) (H : Hp) (a : Addr) (q : List γ) : Prop := ∃ vs, H a = some (.tup vs) ∧ Paired (fun v y => ∃ b, v = V.ref b ∧ H b = some (.tup ((e y).map V.int))) vs q
theorem nestE_is {γ : Type} {e : γ → List Int} {H : Hp} {h : Heap} (ok : HOk P w H h) {a : Addr} {q : List γ} (hk : NestE e H a q) : IsTupN (flatN (intKind P w)) h (q.map e) a := by
  obtain ⟨vs, ea, p⟩ := hk
  obtain ⟨_, its, r, o, g1, g2, n, g3⟩ := (show ObjOk P w H h a (.tup vs) from ok a _ ea)
  exact ⟨o, its.toArray, n, g1, g2, g3, by simpa using nest_ints ok p r⟩
def nestN {γ : Type} [DecidableEq γ] (e : γ → List Int) (he : ∀ x y, e x = e y → x = y) : NKind P w (List γ) := (upN (flatN (intKind P w))).by (List.map e) (map_inj he)
/-- tuples of tuples of numbers -/
def kdNest {γ : Type} [DecidableEq γ] (P : Program) (w : World) (e : γ → List Int) (he : ∀ x y, e x = e y → x = y) : Kd P w (List γ) where
  N := nestN e he
  S := (sk_up sk_flat).by _ _
  h8 := show 0 + 1 < 8 by decide
  at_ := NestE e
  sound := fun ok h => nestE_is ok h
def RowE {γ : Type} (e : γ → List Int) (H : Hp) (a : Addr) (y : Int × List γ) : Prop := ∃ b, H a = some (.tup [.int y.1, .ref b]) ∧ NestE e H b y.2
/-- numbers with such -/
def kdRow {γ : Type} [DecidableEq γ] (P : Program) (w : World) (e : γ → List Int) (he : ∀ x y, e x = e y → x = y) : Kd P w (Int × List γ) where
  N := rowN (nestN e he)
  S := sk_row ((sk_up sk_flat).by _ _)
  h8 := show 0 + 1 + 1 < 8 by decide
  at_ := RowE e
  sound := fun {H h a k} ok hk => by
    obtain ⟨b, ha, hb⟩ := hk
    obtain ⟨_, its, r, o, g1, g2, n, g3⟩ := (show ObjOk P w H h a (.tup _) from ok a _ ha)
    cases r with
    | cons r1 rt =>
      cases rt with
      | cons r2 rn =>
        cases rn
        obtain ⟨t, rfl⟩ := r1
        cases r2
        exact ⟨o, n, t, b, g1, g2, g3, nestE_is ok hb⟩
end
end Pf


namespace Pf
open PySem PySem.Spec PyProof.Rows L2
/-! ### a tuple's items, gathered -/
section
variable {prog : Program} {w : World} {A : Around} {E : Value → Shared → Prop} {s : Shared}
theorem gather_tup {a : Addr} {us : List Value} {Q : List Value → Shared → Prop} (ht : s.heap.IsTuple a us.toArray) (hz : us.length ≤ sizeLine)
    (q : Q us { s with heap := (s.heap.push (seqObj "list" #[] 0)).update s.heap.objs.size (Obj.mapSeq (· ++ us.toArray)) }) : wpAny (model prog w) A (collect (.ref a)) Q E s := by
  obtain ⟨ob, hob, hcl, n, hda⟩ := id ht
  have hob1 : (s.heap.push (seqObj "list" #[] 0)).get? a = some ob := Heap.get?_push_of_some _ hob
  have hnew : (s.heap.push (seqObj "list" #[] 0)).get? s.heap.objs.size = some (seqObj "list" #[] 0) := Heap.get?_push_size _ rfl
  unfold collect
  refine wpAny_bind (wpAny_runValue ?_)
  refine codeAny_builtin entry_proto_collect' ?_
  show wpAny _ _ (do again (.builtin "list.__iadd__" ⟨[← newList [], .ref a], []⟩)) _ _ s
  refine wpAny_bind (wpAny_newList (wpAny_pure ⟨Code.quiet_builtin _ (by decide +kernel), ?_⟩))
  refine codeAny_builtin entry_list_iadd' ?_
  show wpAny _ _ (Builtin.List.listExtendWith (.ref s.heap.objs.size) (.ref a) _) _ _ { s with heap := s.heap.push (seqObj "list" #[] 0) }
  unfold Builtin.List.listExtendWith
  refine wpAny_bind (wpAny_typeOf (T := "tuple") ⟨ob, hob1, hcl⟩ ?_)
  rw [if_pos (by rw [show (Value.type "tuple" == Value.type "tuple") = true from rfl, Bool.or_true])]
  refine wpAny_bind (listItems_at hob1 hda ?_)
  refine wpAny_bind (listItems_at (xs := #[]) (n := 0) hnew rfl ?_)
  rw [if_neg (by simp)]
  have hsz : ((#[] : Array Value) ++ us.toArray).size ≤ sizeLine + 1 := by
    rw [Array.size_append, List.size_toArray]
    show 0 + us.length ≤ _
    omega
  refine wpAny_bind (listUpdate_at (xs := #[]) (n := 0) hnew rfl ?_ (Nat.zero_le _) hsz)
  refine wpAny_pure ?_
  refine wpAny_bind (wpAny_load (get?_update_seq hnew _) ?_)
  have e : ((#[] : Array Value) ++ us.toArray).toList = us := by simp
  show wpAny _ _ (pure ((#[] : Array Value) ++ us.toArray).toList) Q E _
  rw [e]
  exact wpAny_pure q
theorem sorted_tup {β : Type} {R : Value → β → Prop} {enc : β → PyData} {a : Addr} {us : List Value} {bs : List β} {Q : Value → Shared → Prop} (ht : s.heap.IsTuple a us.toArray) (e : PySem.W.EachIs R us bs) (er : PySem.W.EachIs (fun v b => ∃ as, Reads s.heap v (enc b) as) us bs) (al : PySem.W.AllAlike (bs.map enc)) (so : PySem.W.Sortable (bs.map enc))
    (hz : bs.length ≤ sizeLine) (hu : ∀ b, b ∈ bs → A.units + 2 + (enc b).depth < cLine) (q : ∀ out, out.length = bs.length → PySem.W.EachIs R out (bs.mergeSort (PySem.W.dataLe false enc)) → Q (.ref (s.heap.objs.size + 1)) { s with heap := sortedAll s.heap us out.toArray }) :
    wpAny (model prog w) A (call (.builtin "sorted") [.ref a]) Q E s := by
  have hul : us.length ≤ sizeLine := by
    rw [e.length]
    exact hz
  refine Calls.call_function_entry kind_sorted plain_sorted
    entry_sorted (args_sorted1 _) ?_
  unfold Builtin.«sorted»
  refine wpAny_bind (m := checkCount "sorted" 1 1 _) (wpAny_pure ?_)
  refine wpAny_bind (gather_tup ht hul ?_)
  refine wpAny_bind (wpAny_newList ?_ hul)
  have hsz : ((s.heap.push (seqObj "list" #[] 0)).update s.heap.objs.size (Obj.mapSeq (· ++ us.toArray))).objs.size = s.heap.objs.size + 1 := by
    rw [Heap.size_update, size_push']
  have er2 : PySem.W.EachIs (fun v b => ∃ as, Reads (PySem.W.copyHeap s.heap us) v (enc b) as ∧ s.heap.objs.size + 1 ∉ as) us bs := er.mono fun v b ⟨as, r⟩ => by
    refine ⟨as, PyProof.Rows.Reads.keeps (fun _ _ h => PySem.W.copyHeap_old h) r, fun hm => ?_⟩
    obtain ⟨o, ho⟩ := PyProof.On.reads_mem_get r _ hm
    exact absurd (Nat.lt_of_succ_lt (Heap.lt_size ho)) (Nat.lt_irrefl _)
  show wpAny _ _ _ _ _ { s with heap := PySem.W.copyHeap s.heap us }
  rw [hsz]
  refine wpAny_bind (wpAny_holding (PySem.W.list_sort_data (s := { s with heap := PySem.W.copyHeap s.heap us }) (PySem.W.copyHeap_at s.heap us) e er2 al so hz (fun b hb => ?_) fun out h1 h2 => ?_))
  · have := hu b hb
    have e1 : A.in1.units = A.units + 1 := rfl
    rw [e1]
    exact this
  · exact wpAny_pure ⟨_, rfl, q out h1 h2⟩
end
def rSortTD (K : PySem.W.Frag) : List V → Hp → VK → Prop := fun vs H Q => ∃ (β : Type) (v : β → V) (d : β → PyData) (a : Addr) (bs : List β), vs = [.ref a] ∧ SqT K H a (bs.map v) ∧ (∀ b ∈ bs, Dp K H (v b) (d b) ∧ (d b).depth ≤ 50) ∧
  PySem.W.AllAlike (bs.map d) ∧ PySem.W.Sortable (bs.map d) ∧ ∀ p, H p = none → Q (.ref p) (upd H p (.lst ((bs.mergeSort (PySem.W.dataLe false d)).map v)))
/-- sorted(xs), xs a tuple of data -/
theorem cr_sortTD (K : PySem.W.Frag) {X : Cx} (hu : X.A.units + 64 < cLine) (hK : X.K = K := by rfl) : CallR X (.builtin "sorted") (rSortTD K) := by
  subst hK
  intro pins s σ H vs us Q I r h
  obtain ⟨β, v, d, a, bs, rfl, hs, hd, al, so, q⟩ := h
  obtain ⟨u, rfl, rfl⟩ := vals1 r
  obtain ⟨its, rv, ht, hz⟩ := I.tuple hs
  rw [List.length_map] at hz
  refine sorted_tup (enc := d) (R := fun (u : Value) (b : β) => RelV (v b) u) (show s.heap.IsTuple a its.toArray from ht) (each_vals rv) (each_reads I rv fun b hb => (hd b hb).1) al so hz (fun b hb => by have := (hd b hb).2; omega) fun out hlen he => ?_
  obtain ⟨ep, he'⟩ := PyProof.Rows.sortedAll_at s.heap its out.toArray
  have hlen2 : ((bs.mergeSort (PySem.W.dataLe false d)).map v).length ≤ sizeLine := by
    rw [List.length_map, List.length_mergeSort]
    exact hz
  exact ⟨.ref _, upd H (s.heap.objs.size + 1) (.lst ((bs.mergeSort (PySem.W.dataLe false d)).map v)), I.laid (t' := s.toks) (fun _ _ => PyProof.Rows.sortedAll_old) (Nat.le_succ _) ⟨hlen2, out, ep, vals_each he, by simpa using he'⟩, rfl, q _ (I.hok.fresh (Nat.le_succ _))⟩
def rSortLT (K : PySem.W.Frag) : List V → Hp → VK → Prop := fun vs H Q => rSortD K vs H Q ∨ rSortTD K vs H Q
/-- sorted(xs), xs a list or a tuple of data -/
theorem cr_sortLT (K : PySem.W.Frag) {X : Cx} (hu : X.A.units + 64 < cLine) (hK : X.K = K := by rfl) : CallR X (.builtin "sorted") (rSortLT K) := fun pins s σ H vs us Q I r h => h.elim (cr_sortD K hu hK pins s σ H vs us Q I r) (cr_sortTD K hu hK pins s σ H vs us Q I r)
/-! ### going through a list or a tuple -/
def iSeq (K : PySem.W.Frag) (tl : TE) : TI := fun σ H R => tl σ H fun x H1 => ∃ a, x = .ref a ∧ (((∃ xs, SqL K H1 a xs) ∧ R (Itl K a) H1) ∨ ((∃ xs, SqT K H1 a xs) ∧ R (Itt K a) H1))
theorem pi_seq {X : Cx} {tg l : Expr} {tl : TE} (K : PySem.W.Frag) (hl : PE X l tl) (hK : X.K = K := by rfl) : PI X tg l (iSeq K tl) := by
  subst hK
  refine ⟨fun pins s σ H R I h => ?_⟩
  have h1 := hl.run pins s σ H _ I h
  refine thn h1 fun v s1 ⟨x, H1, I1, r1, q1⟩ => ?_
  obtain ⟨a, rfl, ⟨hq, q⟩ | ⟨hq, q⟩⟩ := q1
  · obtain ⟨xs, hq⟩ := hq
    cases r1
    obtain ⟨its, rv, hp, hz⟩ := I1.list hq
    refine wpAny_pyIter_list hp.isList ?_
    have kk := I1.kept (h' := s1.heap.push { cls := .type "list_iterator", data := .fields #[.ref a, .int 0 0] }) (t' := s1.toks) fun b o e => Heap.get?_push_of_some _ e
    exact ⟨s1.heap.objs.size, [s1.heap.objs.size], _, _, H1, rfl, kk, turn_list a _, ⟨_, Heap.get?_push_size _ rfl, rfl, rfl⟩, fun b hb => by
      rw [show b = s1.heap.objs.size by simpa using hb]
      exact I1.fpOk (Nat.le_refl s1.heap.objs.size) (I1.hok.fresh (Nat.le_refl _)), q⟩
  · obtain ⟨xs, hq⟩ := hq
    cases r1
    obtain ⟨its, rv, hp, hz⟩ := I1.tuple hq
    refine wpAny_pyIter_tuple (show s1.heap.IsTuple a its.toArray from hp) ?_
    exact ⟨s1.heap.objs.size, [s1.heap.objs.size], _, _, H1, rfl, I1.kept (t' := s1.toks) (fun b o e => Heap.get?_push_of_some _ e), turn_tuple a _, ⟨_, Heap.get?_push_size _ rfl, rfl, rfl⟩, fun b hb => by
      rw [show b = s1.heap.objs.size by simpa using hb]
      exact I1.fpOk (Nat.le_refl s1.heap.objs.size) (I1.hok.fresh (Nat.le_refl _)), q⟩
/-- a list (true) or a tuple -/
def bo (b : Bool) (us : List V) : HO := match b with
  | true => .lst us
  | false => .tup us
def Sq2 (K : PySem.W.Frag) (H : Hp) (a : Addr) (xs : List V) (b : Bool) : Prop := match b with
  | true => SqL K H a xs
  | false => SqT K H a xs
theorem Sq2.of {K : PySem.W.Frag} {H : Hp} {a : Addr} {xs : List V} {b : Bool} (h : H a = some (bo b xs)) : Sq2 K H a xs b := by
  cases b with
  | true => exact SqL.of h
  | false => exact SqT.of h
theorem for_seq {K : PySem.W.Frag} {a : Addr} {xs : List V} {b : Bool} {g : TG} {tb : TS} {D : Ends} {σ : L2.St} {H : Hp} (e : Sq2 K H a xs b) (Pv : Nat → L2.St → Hp → Prop) (h0 : Pv 0 σ H) (hl : ∀ i σ H, i ≤ xs.length → Pv i σ H → Sq2 K H a xs b)
    (hs : ∀ i x σ H, xs[i]? = some x → Pv i σ H → g x σ H fun σ2 H2 => tb { D with nx := Pv (i + 1), ct := Pv (i + 1), bk := D.nx } σ2 H2) (hd : ∀ σ H, Pv xs.length σ H → D.nx σ H) :
    ((∃ xs, SqL K H a xs) ∧ ∃ W : Nat → Nat → L2.St → Hp → Prop, (∃ m, W 0 m σ H) ∧ ∀ i m σ H, W i m σ H →
      ((Itl K a).stop i H ∧ D.nx σ H) ∨ ((Itl K a).go i H ∧ ∃ N : L2.St → Hp → Prop, (∀ σ' H', N σ' H' → ∃ m', m' < m ∧ W (i + 1) m' σ' H') ∧ ∀ x H', (Itl K a).yld i H x H' → g x σ H' fun σ2 H2 => tb { D with nx := N, ct := N, bk := D.nx } σ2 H2)) ∨
    ((∃ xs, SqT K H a xs) ∧ ∃ W : Nat → Nat → L2.St → Hp → Prop, (∃ m, W 0 m σ H) ∧ ∀ i m σ H, W i m σ H →
      ((Itt K a).stop i H ∧ D.nx σ H) ∨ ((Itt K a).go i H ∧ ∃ N : L2.St → Hp → Prop, (∀ σ' H', N σ' H' → ∃ m', m' < m ∧ W (i + 1) m' σ' H') ∧ ∀ x H', (Itt K a).yld i H x H' → g x σ H' fun σ2 H2 => tb { D with nx := N, ct := N, bk := D.nx } σ2 H2)) := by
  cases b with
  | true => exact .inl ⟨⟨xs, e⟩, for_list Pv h0 hl hs hd⟩
  | false => exact .inr ⟨⟨xs, e⟩, for_tup Pv h0 hl hs hd⟩
theorem sort_lt {K : PySem.W.Frag} {β : Type} {v : β → V} {d : β → PyData} {a : Addr} {bs : List β} {b : Bool} {H : Hp} {Q : VK} (h : Sq2 K H a (bs.map v) b) (hd : ∀ y ∈ bs, Dp K H (v y) (d y) ∧ (d y).depth ≤ 50) (al : PySem.W.AllAlike (bs.map d)) (so : PySem.W.Sortable (bs.map d)) (q : ∀ p, H p = none → Q (.ref p) (upd H p (.lst ((bs.mergeSort (PySem.W.dataLe false d)).map v)))) : rSortLT K [.ref a] H Q := by
  cases b with
  | true => exact .inl ⟨β, v, d, a, bs, rfl, h, hd, al, so, q⟩
  | false => exact .inr ⟨β, v, d, a, bs, rfl, h, hd, al, so, q⟩
/-! ### set(xs), xs a tuple of tuples of ints -/
section
variable {P : Program} {w : World} {A : Around} {E : Value → Shared → Prop} {s : Shared}
abbrev newS (w : World) : Obj := { cls := .type "set", dict := none, data := .set #[] 0 (.fresh 0 0 (!w.params.followText "set-order")) }
theorem set_of_tup {a : Addr} {items : Array Value} (ks : List (Addr × List Int)) {Q : Value → Shared → Prop} (hh : A.handled = none) (ht : s.heap.IsTuple a items) (hit : items.toList = ks.map fun p => Value.ref p.1)
    (hk : ∀ p ∈ ks, IsT P w s.heap p.2 p.1) (hfew : ks.length < 64) (hu : A.units + 3 < cLine)
    (q : ∀ (h' : Heap) (tk : Nat) L es ep t, SetTR P w h' s.heap.objs.size L es ep t → Got ks ks.length L → (∀ b o, s.heap.get? b = some o → h'.get? b = some o) → Q (.ref s.heap.objs.size) { s with heap := h', toks := tk }) :
    wpAny (model P w) A (call (.type "set") [.ref a]) Q E s := by
  have hsz : items.size = ks.length := by
    have z := congrArg List.length hit
    rwa [Array.length_toList, List.length_map] at z
  obtain ⟨c, tl, hmro⟩ := F.called_set.mro
  have hmade := F.called_set.made
  have hsub := F.called_set.sub
  have h1 := F.called_set.notType
  have h2 := F.called_set.canCreate
  have hct := F.typeCall_set_1 (.ref a)
  refine wpAny_call (codeAny_of_tree ?_)
  show wpAny _ _ (callAny (.type "set") _) _ _ _
  refine wpAny_pure ⟨Code.quiet_builtin _ (by decide +kernel), ?_⟩
  refine codeAny_builtin F.entry_type_call ?_
  rw [Around.under_plain (weight_type_call_type "set" [.ref a] []) rfl]
  repeat (any_goals (first
    | assumption
    | wp_step))
  refine codeAny_mono (code_set_led1 (.ref a) (E := E) (Q₁ := fun obj s₁ => obj = .ref s.heap.objs.size ∧ s₁ = { s with heap := s.heap.push (newS w) }) ⟨rfl, rfl⟩) fun r s₁ hr => ?_
  cases r with
  | error e => exact hr
  | ok fl =>
    cases fl with
    | ret obj =>
      obtain ⟨rfl, rfl⟩ := hr
      have hS : (s.heap.push (newS w)).get? s.heap.objs.size = some (newS w) := Heap.get?_push_size _ rfl
      have hT : Shared.TypeIs { s with heap := s.heap.push (newS w) } (.ref s.heap.objs.size) "set" := ⟨_, hS, rfl⟩
      have hli := F.called_set.init.lookup
      have hbi := F.called_set.init.bind (.ref s.heap.objs.size)
      repeat (any_goals (first
        | assumption
        | wp_step))
      refine codeAny_mono (codeAny_call_builtin (R := wants (fun r s₂ => r = .none ∧ ∃ h' tk L es ep t, s₂ = { s with heap := h', toks := tk } ∧ SetTR P w h' s.heap.objs.size L es ep t ∧ Got ks ks.length L ∧ (∀ b o, s.heap.get? b = some o → h'.get? b = some o)) E)
        F.called_set.init.plain F.entry_set_init (check_set_init_1 hT ?_)) fun r₂ s₂ hr₂ => ?_
      · have ht1 : (s.heap.push (newS w)).IsTuple a items := ht.push _
        obtain ⟨ob, hob, hcl, nl, hda⟩ := id ht1
        obtain ⟨ocls, odict, odata, oslots⟩ := ob
        simp only at hcl hda
        subst hcl; subst hda
        have hsls := PySem.F.sub_tuple_set
        have hslf := PySem.F.sub_tuple_frozenset
        have hne : (Value.type "tuple" == Value.type "dict") = false := by decide
        unfold Builtin.«set.__init__» noKeywords Builtin.Frozenset.updateFrom
        generalize hPI : pyIter = PI
        wp_walk
        subst hPI
        refine wpAny_pyIter_tuple ht1 ?_
        refine wpAny_bind (wpAny_runValue ?_)
        obtain ⟨ob0, hob0, _⟩ := ht
        have hlt : a < s.heap.objs.size := Heap.lt_size hob0
        have hin : A.in1.in1.in1.handled = none := by simp [hh]
        have hz1 : (s.heap.push (newS w)).objs.size = s.heap.objs.size + 1 := Heap.size_push ..
        have hneI : a ≠ (s.heap.push (newS w)).objs.size := by
          rw [hz1]
          exact Nat.ne_of_lt (Nat.lt_succ_of_lt hlt)
        have hSf : s.heap.objs.size ∉ [(s.heap.push (newS w)).objs.size, a] := fun hm => by
          rw [hz1] at hm
          rcases List.mem_cons.mp hm with e | hm
          · exact absurd e (Nat.ne_of_lt (Nat.lt_succ_self _))
          · exact absurd (List.mem_singleton.mp hm) (Nat.ne_of_gt hlt)
        have hval : ∀ (i : Nat) (v : Value), items[i]? = some v → ∃ p, ks[i]? = some p ∧ v = .ref p.1 := fun i v hv => by
          rw [← Array.getElem?_toList, hit, List.getElem?_map] at hv
          obtain ⟨p, hp, e⟩ := Option.map_eq_some_iff.mp hv
          exact ⟨p, hp, e.symm⟩
        have gone : ∀ b, s.heap.objs.size ≤ b → s.heap.get? b = none := fun b hb => by
          cases z : s.heap.get? b with
          | none => rfl
          | some o => exact absurd (Nat.lt_of_lt_of_le (Heap.lt_size z) hb) (Nat.lt_irrefl _)
        have hgone : ∀ b ∈ [(s.heap.push (newS w)).objs.size], s.heap.get? b = none := fun b hb => gone b (by
          rw [List.mem_singleton.mp hb, hz1]
          exact Nat.le_succ _)
        refine set_update_tups ((Walks.tuple hin _ a hneI items).toS) s.heap.objs.size hSf ks hsz hfew hval s.heap hk (gone _ (Nat.le_refl _)) hgone hu (items.size - 0) 0 _ (by omega) (Nat.zero_le _)
          ⟨⟨_, Heap.get?_push_size _ rfl, rfl, rfl⟩, ht1.push _⟩ (fun b o e => Heap.get?_push_of_some _ (Heap.get?_push_of_some _ e)) ⟨[], #[], 0, _, setTR_fresh (Heap.get?_push_of_some _ hS), Got.zero ks⟩ fun s' L es ep t hm hS' g' hkp => ?_
        obtain ⟨h', g2, d', tk', os'⟩ := s'
        have eg : g2 = s.gens := hm.gens
        have ed : d' = s.drawn := hm.drawn
        have eo : os' = s.os := hm.os
        subst eg ed eo
        rw [hsz] at g'
        show wpAny _ _ _ _ _ _
        refine wpAny_pure ?_
        show wpAny _ _ (ret Value.none) _ _ _
        exact wpAny_pure ⟨rfl, h', tk', L, es, ep, t, rfl, hS', g', hkp⟩
      · cases r₂ with
        | error e => exact hr₂
        | ok fl₂ =>
          cases fl₂ with
          | ret r =>
            obtain ⟨rfl, h', tk, L, es, ep, t, rfl, hS', g', hk'⟩ := hr₂
            repeat (any_goals (first
              | assumption
              | wp_step))
            exact q _ _ _ _ _ _ hS' g' hk'
          | _ => exact hr₂.elim
    | _ => exact hr.elim
end
def rSetT (K : PySem.W.Frag) (P : Program) (w : World) : List V → Hp → VK → Prop := fun xs H Q => ∃ (l : Addr) (ks : List (Addr × List Int)), xs = [V.ref l] ∧ SqT K H l (ks.map fun p => V.ref p.1) ∧ (∀ p ∈ ks, SqT K H p.1 (p.2.map V.int)) ∧ ks.length < 64 ∧
  ∀ a L, H a = none → (∀ p ∈ L, p ∈ ks) → (∀ p ∈ ks, p.2 ∈ L.map (·.2)) → Q (.ref a) (upd H a (SetTO P w a L))
/-- set(xs), xs a tuple of fewer than 64 tuples of ints -/
theorem cr_setT {X : Cx} (hc : X.calm = true) (hu : X.A.units + 64 < cLine) : CallR X (.type "set") (rSetT X.K X.prog X.w) := by
  intro pins s σ H xs us Q I r h
  obtain ⟨l, ks, rfl, hl, hk, hf, q⟩ := h
  rw [Vals.ref1 r]
  obtain ⟨its, rv, ht, hz⟩ := I.tuple hl
  refine set_of_tup (P := X.prog) (w := X.w) ks (I.ok.hd hc) (show s.heap.IsTuple l its.toArray from ht) (by simpa using refs_of_vals rv) (fun p hp => I.isT (hk p hp)) hf (by omega) fun h' tk L es ep t R g k => ?_
  have hn : H s.heap.objs.size = none := I.hok.fresh (Nat.le_refl _)
  exact ⟨.ref s.heap.objs.size, upd H s.heap.objs.size (SetTO X.prog X.w s.heap.objs.size L), I.laid (t' := tk) k (Nat.le_refl _) (setTO_new R.t0), rfl, q _ L hn (fun p hp => List.mem_of_mem_take (g.sub p hp)) fun p hp => g.all p (by rw [List.take_length]; exact hp)⟩
theorem setT {X : Cx} {P : Program} {w : World} (K : PySem.W.Frag) (hc : X.calm = true) (hu : X.A.units + 64 < cLine) (h1 : X.K = K := by rfl) (h2 : X.prog = P := by rfl) (h3 : X.w = w := by rfl) : CallR X (.type "set") (rSetT K P w) := by
  subst h1 h2 h3
  exact cr_setT hc hu
theorem sortedT {X : Cx} {P : Program} {w : World} (K : PySem.W.Frag) (hc : X.calm = true) (h1 : X.K = K := by rfl) (h2 : X.prog = P := by rfl) (h3 : X.w = w := by rfl) : CallR X (.builtin "sorted") (rSortedT K P w) := by
  subst h1 h2 h3
  exact cr_sortedT hc
end Pf


namespace Pf
open PySem PySem.Spec PyProof.Rows L2
/-! ### things of any kind -/
inductive Dq (K : PySem.W.Frag) (H : Hp) : V → PyData → Prop
  | dp {v : V} {d : PyData} : Dp K H v d → Dq K H v d
  | emp {a : Addr} : H a = some (.dK []) → Dq K H (.ref a) (.dict [])
def tyD : PyData → String
  | .none => "NoneType"
  | .bool _ => "bool"
  | .int _ => "int"
  | .str _ => "str"
  | .list _ => "list"
  | .tuple _ => "tuple"
  | .dict _ => "dict"
theorem sqT_ty {K : PySem.W.Frag} {H : Hp} {a : Addr} {xs : List V} (h : SqT K H a xs) : TyX K H (.ref a) (.type "tuple") := by
  rcases h with (h | ⟨o, h⟩) | ⟨o, _, _, h, c, _⟩
  · exact .base (.tup h)
  · exact .fTuple h
  · exact .kTuple h c
theorem sqL_ty {K : PySem.W.Frag} {H : Hp} {a : Addr} {xs : List V} (h : SqL K H a xs) : TyX K H (.ref a) (.type "list") := by
  rcases h with (h | ⟨o, h⟩) | ⟨o, _, _, h, c, _⟩
  · exact .base (.lst h)
  · exact .base (.frz h)
  · exact .kList h c
theorem Dq.ty {K : PySem.W.Frag} {H : Hp} {v : V} {d : PyData} (h : Dq K H v d) : TyX K H v (.type (tyD d)) := by
  cases h with
  | emp h => exact .base (.dK h)
  | dp h =>
    cases h with
    | non => exact .base .non
    | bl b => exact .base (.bl b)
    | int i => exact .base (.int i)
    | str x => exact .base (.str x)
    | lst h _ => exact sqL_ty h
    | tup h _ => exact sqT_ty h
def isTup : PyData → Bool
  | .tuple _ => true
  | _ => false
def isIntB : PyData → Bool
  | .int _ => true
  | .bool _ => true
  | _ => false
def isBl : PyData → Bool
  | .bool _ => true
  | _ => false
def isLst : PyData → Bool
  | .list _ => true
  | _ => false
def isStr : PyData → Bool
  | .str _ => true
  | _ => false
theorem kit_tup {K : PySem.W.Frag} (d : PyData) : PySem.W.kitOne K (.type (tyD d)) (.type "tuple") = some (isTup d) := by
  cases d <;> (simp only [tyD, isTup]; exact kit_ty (by decide +kernel))
theorem kit_lst {K : PySem.W.Frag} (d : PyData) : PySem.W.kitOne K (.type (tyD d)) (.type "list") = some (isLst d) := by
  cases d <;> (simp only [tyD, isLst]; exact kit_ty (by decide +kernel))
theorem kit_int {K : PySem.W.Frag} (d : PyData) : PySem.W.kitOne K (.type (tyD d)) (.type "int") = some (isIntB d) := by
  cases d <;> (simp only [tyD, isIntB]; exact kit_ty (by decide +kernel))
theorem kit_bool {K : PySem.W.Frag} (d : PyData) : PySem.W.kitOne K (.type (tyD d)) (.type "bool") = some (isBl d) := by
  cases d <;> (simp only [tyD, isBl]; exact kit_ty (by decide +kernel))
theorem kit_str {K : PySem.W.Frag} (d : PyData) : PySem.W.kitOne K (.type (tyD d)) (.type "str") = some (isStr d) := by
  cases d <;> (simp only [tyD, isStr]; exact kit_ty (by decide +kernel))
theorem dpAll_len {K : PySem.W.Frag} {H : Hp} : ∀ {vs : List V} {ds : List PyData}, DpAll K H vs ds → vs.length = ds.length
  | _, _, .nil => rfl
  | _, _, .cons _ t => by rw [List.length_cons, List.length_cons, dpAll_len t]
theorem dpAll_get {K : PySem.W.Frag} {H : Hp} : ∀ {vs : List V} {ds : List PyData} {i : Nat} {v : V}, DpAll K H vs ds → vs[i]? = some v → ∃ d, ds[i]? = some d ∧ Dp K H v d
  | _, _, _, _, .nil, e => by simp at e
  | _, _, 0, _, .cons r _, e => by
    simp at e
    subst e
    exact ⟨_, rfl, r⟩
  | _, _, i + 1, v, .cons _ t, e => by
    obtain ⟨d, h1, h2⟩ := dpAll_get (i := i) (v := v) t (by simpa using e)
    exact ⟨d, by simpa using h1, h2⟩
theorem sqT_ext {K : PySem.W.Frag} {H H' : Hp} {a : Addr} {xs : List V} (k : Ext H H') (h : SqT K H a xs) : SqT K H' a xs := by
  rcases h with (h | ⟨o, h⟩) | h
  · exact .inl (.inl (k _ _ h))
  · exact .inl (.inr ⟨o, k _ _ h⟩)
  · exact .inr h
theorem sqL_ext {K : PySem.W.Frag} {H H' : Hp} {a : Addr} {xs : List V} (k : Ext H H') (h : SqL K H a xs) : SqL K H' a xs := by
  rcases h with (h | ⟨o, h⟩) | h
  · exact .inl (.inl (k _ _ h))
  · exact .inl (.inr ⟨o, k _ _ h⟩)
  · exact .inr h
mutual
theorem dp_ext {K : PySem.W.Frag} {H H' : Hp} (k : Ext H H') : ∀ {v : V} {d : PyData}, Dp K H v d → Dp K H' v d
  | _, _, .non => .non
  | _, _, .bl b => .bl b
  | _, _, .int i => .int i
  | _, _, .str x => .str x
  | _, _, .lst h r => .lst (sqL_ext k h) (dpAll_ext k r)
  | _, _, .tup h r => .tup (sqT_ext k h) (dpAll_ext k r)
theorem dpAll_ext {K : PySem.W.Frag} {H H' : Hp} (k : Ext H H') : ∀ {vs : List V} {ds : List PyData}, DpAll K H vs ds → DpAll K H' vs ds
  | _, _, .nil => .nil
  | _, _, .cons r t => .cons (dp_ext k r) (dpAll_ext k t)
end
theorem Dq.ext {K : PySem.W.Frag} {H H' : Hp} {v : V} {d : PyData} (h : Dq K H v d) (k : Ext H H') : Dq K H' v d := by
  cases h with
  | dp h => exact .dp (dp_ext k h)
  | emp h => exact .emp (k _ _ h)
/-! ### two numbers in a tuple of any make -/
def TwoS (K : PySem.W.Frag) (H : Hp) (v : V) (y : Int × Int) : Prop := ∃ a, v = .ref a ∧ SqT K H a [.int y.1, .int y.2]
theorem TwoS.ext {K : PySem.W.Frag} {H H' : Hp} (k : Ext H H') {v : V} {y : Int × Int} (h : TwoS K H v y) : TwoS K H' v y := by
  obtain ⟨a, e, h⟩ := h
  exact ⟨a, e, sqT_ext k h⟩
theorem TwoS.of {K : PySem.W.Frag} {H : Hp} {v : V} {y : Int × Int} (h : TwoAt H v y) : TwoS K H v y := by
  obtain ⟨a, e, h⟩ := h
  exact ⟨a, e, SqT.of h⟩
/-- the two numbers of a thing, if it is such a tuple -/
def twoD : PyData → Option (Int × Int)
  | .tuple [.int i, .int j] => some (i, j)
  | _ => none
theorem twoD_some {d : PyData} {y : Int × Int} (h : twoD d = some y) : d = .tuple [.int y.1, .int y.2] := by
  unfold twoD at h
  split at h
  · cases h
    rfl
  · cases h
theorem two_dp {K : PySem.W.Frag} {H : Hp} {v : V} {d : PyData} {y : Int × Int} (h : Dp K H v d) (e : twoD d = some y) : TwoS K H v y := by
  have e := twoD_some e
  subst e
  cases h with
  | tup h r =>
    cases r with
    | cons r1 r =>
      cases r with
      | cons r2 r =>
        cases r
        cases r1
        cases r2
        exact ⟨_, rfl, h⟩
theorem paired_two {K : PySem.W.Frag} {H : Hp} : ∀ {vs : List V} {ds : List PyData} {qs : List (Int × Int)}, DpAll K H vs ds → ds.mapM twoD = some qs → Paired (TwoS K H) vs qs
  | _, [], qs, .nil, e => by
    rw [List.mapM_nil] at e
    cases e
    exact .nil
  | _, d :: ds, qs, .cons h t, e => by
    rw [List.mapM_cons] at e
    cases h1 : twoD d with
    | none =>
      rw [h1] at e
      cases e
    | some y =>
      rw [h1] at e
      cases h2 : ds.mapM twoD with
      | none =>
        rw [h2] at e
        cases e
      | some ys =>
        rw [h2] at e
        cases e
        exact .cons (two_dp h h1) (paired_two t h2)
def dTw (y : Int × Int) : PyData := .tuple [.int y.1, .int y.2]
theorem dp_twos {K : PySem.W.Frag} {H : Hp} : ∀ {vs : List V} {qs : List (Int × Int)}, Paired (TwoS K H) vs qs → DpAll K H vs (qs.map dTw)
  | _, _, .nil => .nil
  | _, _, .cons ⟨_, e, h⟩ t => .cons (e ▸ .tup h (.cons (.int _) (.cons (.int _) .nil))) (dp_twos t)
theorem mapM_len {α β : Type} {f : α → Option β} : ∀ {xs : List α} {ys : List β}, xs.mapM f = some ys → ys.length = xs.length
  | [], ys, e => by
    rw [List.mapM_nil] at e
    cases e
    rfl
  | x :: xs, ys, e => by
    rw [List.mapM_cons] at e
    cases h1 : f x with
    | none =>
      rw [h1] at e
      cases e
    | some y =>
      rw [h1] at e
      cases h2 : xs.mapM f with
      | none =>
        rw [h2] at e
        cases e
      | some zs =>
        rw [h2] at e
        cases e
        rw [List.length_cons, List.length_cons, mapM_len h2]
theorem mapM_snoc {α β : Type} {f : α → Option β} : ∀ {xs : List α} {ys : List β} {x : α} {y : β}, xs.mapM f = some ys → f x = some y → (xs ++ [x]).mapM f = some (ys ++ [y])
  | xs, ys, x, y, e, e2 => by
    rw [List.mapM_append, e]
    show (do let z ← [x].mapM f; pure (ys ++ z)) = _
    rw [List.mapM_cons, e2, List.mapM_nil]
    rfl
theorem mapM_get {α β : Type} {f : α → Option β} : ∀ {xs : List α} {ys : List β} {i : Nat} {x : α}, xs.mapM f = some ys → xs[i]? = some x → ∃ y, f x = some y ∧ ys[i]? = some y
  | [], _, _, _, _, e2 => by simp at e2
  | x :: xs, ys, i, z, e, e2 => by
    rw [List.mapM_cons] at e
    cases h1 : f x with
    | none =>
      rw [h1] at e
      cases e
    | some y =>
      rw [h1] at e
      cases h2 : xs.mapM f with
      | none =>
        rw [h2] at e
        cases e
      | some zs =>
        rw [h2] at e
        cases e
        cases i with
        | zero =>
          simp at e2
          subst e2
          exact ⟨y, h1, rfl⟩
        | succ i =>
          obtain ⟨y2, q1, q2⟩ := mapM_get (i := i) h2 (by simpa using e2)
          exact ⟨y2, q1, by simpa using q2⟩
theorem mapM_none {α β : Type} {f : α → Option β} : ∀ {xs : List α} {x : α}, x ∈ xs → f x = none → xs.mapM f = none
  | y :: xs, x, h, e => by
    rw [List.mapM_cons]
    rcases List.mem_cons.mp h with rfl | h
    · rw [e]
      rfl
    · cases h1 : f y with
      | none => rfl
      | some z =>
        show (do let zs ← xs.mapM f; pure (z :: zs)) = none
        rw [mapM_none h e]
        rfl
/-! ### repr of a tuple of two, the second anything -/
mutual
def plainD : PyData → Bool
  | .none => true
  | .bool _ => true
  | .int _ => true
  | .str _ => true
  | .list _ => false
  | .tuple ds => plainDs ds
  | .dict _ => false
def plainDs : List PyData → Bool
  | [] => true
  | d :: r => plainD d && plainDs r
end
theorem plainDs_all {ds : List PyData} (h : ∀ d ∈ ds, plainD d = true) : plainDs ds = true := by
  induction ds with
  | nil => rfl
  | cons d r ih =>
    rw [plainDs, h d (List.mem_cons_self ..), ih fun x hx => h x (List.mem_cons_of_mem _ hx)]
    rfl
mutual
theorem reads_plain {h : Heap} : ∀ (d : PyData) (u : Value) (as : List Addr), plainD d = true → Reads h u d as → as = []
  | .none, _, _, _, r => by cases r; rfl
  | .bool _, _, _, _, r => by cases r; rfl
  | .int _, _, _, _, r => by cases r; rfl
  | .str _, _, _, _, r => by cases r; rfl
  | .list _, _, _, e, _ => by simp [plainD] at e
  | .tuple ds, _, _, e, r => by
    cases r with
    | tuple _ _ _ r => exact reads_plains ds _ _ (by simpa [plainD] using e) r
  | .dict _, _, _, e, _ => by simp [plainD] at e
theorem reads_plains {h : Heap} : ∀ (ds : List PyData) (us : List Value) (as : List Addr), plainDs ds = true → ReadsAll h us ds as → as = []
  | [], _, _, _, r => by cases r; rfl
  | d :: ds, _, _, e, r => by
    rw [plainDs, Bool.and_eq_true] at e
    cases r with
    | cons r1 r2 => rw [reads_plain d _ _ e.1 r1, reads_plains ds _ _ e.2 r2]; rfl
end
end Pf


namespace Pf
open PySem PySem.Spec PyProof.Rows L2
theorem tt_len (r x : Str) : (tupleText [r, x]).length = r.length + x.length + 4 := by
  have e1 : ("(" : Str).length = 1 := by decide +kernel
  have e2 : (", " : Str).length = 2 := by decide +kernel
  have e3 : ((")" : String) : Str).length = 1 := by decide +kernel
  show (("(" : Str) ++ (r ++ ", " ++ x) ++ ((")" : String) : Str)).length = _
  rw [Str.length_append, Str.length_append, Str.length_append, Str.length_append, e1, e2, e3]
  omega
theorem len_emp (d : PyData) : (PyData.tuple [d, .dict []]).shown.length = (PyData.tuple [d, .tuple []]).shown.length := by
  have e1 : (dictText []).length = 2 := by decide +kernel
  have e2 : (tupleText []).length = 2 := by decide +kernel
  simp only [PyData.shown, PyData.shownAll, PyData.shownKv]
  rw [tt_len, tt_len, e1, e2]
def rShow2 (K : PySem.W.Frag) : List V → Hp → VK → Prop := fun xs H Q => ∃ (t : Addr) (x y : V) (dx dy : PyData) (m k : Nat), xs = [.ref t] ∧ SqT K H t [x, y] ∧ Dp K H x dx ∧ plainD dx = true ∧ Dq K H y dy ∧ Sm m k dx ∧ (Sm m k dy ∨ dy = .dict []) ∧ m ≤ 200000 ∧ k ≤ 40 ∧ Q (.str (PyData.tuple [dx, dy]).shown) H
theorem sm_two' {m k : Nat} {a b : PyData} (ha : Sm m k a) (hb : Sm m k b) (hm : m ≤ 200000) : Sm 1000000 (k + 1) (.tuple [a, b]) :=
  Sm.tup (n := 2) (m := m) (k := k) (Nat.le_refl _) (fun d hd => by
    simp only [List.mem_cons, List.not_mem_nil, or_false] at hd
    rcases hd with rfl | rfl
    · exact ha
    · exact hb) (by omega)
theorem call_show2 (K : PySem.W.Frag) {X : Cx} (hg : X.A.guards = some []) (hu : X.A.units + 64 < cLine) (hK : X.K = K := by rfl) : CallR X (.builtin "repr") (rShow2 K) := by
  subst hK
  intro pins s σ H xs us Q I r h
  obtain ⟨t, x, y, dx, dy, m, k, rfl, hT, hx, px, hy, sx, sy, hm, hk, q⟩ := h
  cases hy with
  | dp hy =>
    have sy : Sm m k dy := sy.elim id fun e => by
      subst e
      cases hy
    exact call_show X.K hg hu rfl pins s σ H _ us Q I r ⟨.ref t, _, _, _, rfl, .tup hT (.cons hx (.cons hy .nil)), sm_two' sx sy hm, Nat.le_refl _, by omega, q⟩
  | @emp a hA =>
    obtain ⟨u, rfl, rfl⟩ := vals1 r
    obtain ⟨its, rv, ⟨o, ho, hc, n, hd⟩, hz⟩ := I.tuple hT
    obtain ⟨_, hsys, vs, rel, od, es, ep, h1, h2, h3, _, h5, _⟩ := dk_of I.hok hA
    cases rel
    have hes : es.toList = [] := List.length_eq_zero_iff.mp h5.length
    cases rv with
    | cons r1 r2 =>
      cases r2 with
      | cons r3 r4 =>
        cases r4
        cases r3
        obtain ⟨as, ra⟩ := Dp.reads I _ _ _ hx r1
        have ea := reads_plain _ _ _ px ra
        subst ea
        have rb : Reads s.heap (.ref a) (.dict []) (a :: [] ++ []) := Reads.dict h1 h2.1 h3 (by rw [hes]; exact .nil) (by rw [hes]; exact .nil)
        have rt : Reads s.heap (.ref t) (.tuple [dx, .dict []]) ([] ++ ((a :: [] ++ []) ++ [])) := Reads.tuple ho hc hd (.cons ra (.cons rb .nil))
        have s0 : Sm m (k + 1) (.tuple []) := (Sm.tup (n := 0) (m := 0) (k := k) (M := 0) (ds := []) (Nat.le_refl _) (fun d hd => by cases hd) (Nat.le_refl _)).le (Nat.zero_le _) (Nat.le_refl _)
        have s2 := sm_two' (sx.le (Nat.le_refl _) (Nat.le_succ k)) s0 hm
        refine PySem.repr_of_reads' rt ?_ (fun _ z => ?_) hg ?_ (fun _ _ e => e) (fun h' u tk keep => ⟨.str _, H, I.kept keep, ⟨_, rfl⟩, q⟩) ?_
        · have := sx.sho
          simp [PyData.showable, PyData.showableAll, PyData.showableKv, this]
        · have e : sysModules = a := by simpa using z
          rw [← e] at hsys
          cases hsys
        · have := sx.dep
          simp only [PyData.depth, PyData.depthAll, PyData.depthKv]
          omega
        · rw [len_emp]
          exact s2.short (Nat.le_refl _) (by omega)
/-! ### how many unlike ones -/
theorem dd_len : ∀ (ns acc : List Int), acc.Nodup → ((ns.foldl step_dedup acc).length = acc.length + ns.length ↔ (acc ++ ns).Nodup)
  | [], acc, h => by simp [h]
  | x :: r, acc, h => by
    rw [List.foldl_cons]
    unfold step_dedup
    by_cases c : acc.any (· == x) = true
    · rw [if_pos c]
      have hx : x ∈ acc := by
        obtain ⟨y, hy, e⟩ := List.any_eq_true.mp c
        rw [← eq_of_beq e]
        exact hy
      have hle := foldl_step_dedup_length_le acc r
      constructor
      · intro e
        rw [List.length_cons] at e
        unfold step_dedup at hle
        omega
      · intro e
        have := (List.nodup_append.mp e).2.2 x hx x (List.mem_cons_self ..)
        exact absurd rfl this
    · rw [if_neg c]
      have hx : x ∉ acc := fun z => c (List.any_eq_true.mpr ⟨x, z, beq_self_eq_true x⟩)
      have hn : (acc ++ [x]).Nodup := List.nodup_append.mpr ⟨h, by simp, fun a ha b hb e => by
        rw [List.mem_singleton] at hb
        subst hb
        subst e
        exact hx ha⟩
      have ih := dd_len r (acc ++ [x]) hn
      rw [List.length_append, List.length_singleton, List.append_assoc, List.singleton_append] at ih
      rw [List.length_cons]
      unfold step_dedup at ih
      constructor
      · intro e
        exact ih.mp (by omega)
      · intro e
        have := ih.mpr e
        omega
theorem range_getD (ns : List Int) : (List.range ns.length).map (fun i => ns.getD i 0) = ns := by
  refine List.ext_getElem? fun i => ?_
  rw [List.getElem?_map]
  by_cases h : i < ns.length
  · rw [List.getElem?_range h, List.getElem?_eq_getElem h]
    simp [h]
  · rw [List.getElem?_eq_none (by rw [List.length_range]; omega), List.getElem?_eq_none (by omega)]
    rfl
theorem met_lt (ns : List Int) : (firstMet (fun i => ns.getD i 0) ns.length).length < ns.length ↔ ¬ ns.Nodup := by
  unfold firstMet
  rw [range_getD]
  have h1 := dd_len ns [] List.nodup_nil
  have h2 := foldl_step_dedup_nil_length_le ns
  rw [List.nil_append, List.length_nil, Nat.zero_add] at h1
  constructor
  · intro e h
    have := h1.mpr h
    omega
  · intro e
    by_cases c : (ns.foldl step_dedup []).length = ns.length
    · exact absurd (h1.mp c) e
    · omega
section
variable {X : Cx}
def tLenSetM (K : PySem.W.Frag) (ta : TE) : TE := fun σ H Q => ta σ H fun x H1 => ∃ (l : Addr) (ns : List Int), x = V.ref l ∧ SqL K H1 l (ns.map V.int) ∧ ns.length < 1000 ∧ ∀ n : Nat, (n < ns.length ↔ ¬ ns.Nodup) → n ≤ ns.length → Q (.int n) H1
theorem pe_lenSetM {a : Expr} {ta : TE} {p p2 q pos : Pos} (hc : X.calm = true) (hg : Gl X "len") (hm : X.mg "len" = none) (hg2 : Gl X "set") (hm2 : X.mg "set" = none) (ha : PE X a ta)
    (na : starEach [a] X.env = (false, eval a X.env) :: starEach [] X.env := by rfl) : PE X (.Call (.Name "len" p) [.Call (.Name "set" p2) [a] [] q] [] pos) (tLenSetM X.K ta) := by
  refine ⟨fun pins s σ H Q I h => ?_⟩
  refine Call_ (ld_blt I hg hm PySem.boot_len (PyProof.Rows.callWith_builtin1 (PyProof.Rows.args_cons ?_ rfl) rfl rfl))
  refine Call_ (ld_blt I hg2 hm2 PyProof.Rows.boot_set ?_)
  refine PyProof.Rows.callWith_type1 (PyProof.Rows.args_cons (thn (ha.run pins s σ H _ I h) fun v s1 ⟨x, H1, I1, r1, q1⟩ => PyProof.Rows.args_nil ?_) na) na rfl
  obtain ⟨l, ns, ex, hL, hn, q2⟩ := q1
  subst ex
  cases r1
  obtain ⟨its, r, pl, hz⟩ := I1.list hL
  have el : its.length = ns.length := by
    have := r.length
    rw [List.length_map] at this
    exact this.symm
  have hmet : (firstMet (fun i => ns.getD i 0) ns.length).length ≤ ns.length := firstMet_length_le _ _
  refine call_set_list (I1.ok.hd hc) pl.isList (ns := ns) (intsAre_of r) (by rw [List.size_toArray, el]; unfold scanBound; omega) fun h' tk hS hk => ?_
  have el2 : its.toArray.size = ns.length := by rw [List.size_toArray, el]
  rw [el2] at hS
  obtain ⟨o, es, ep, t, ho, hex, hd, _, _, _, hf, hsz⟩ := hS
  have I2 : Inv X pins σ H1 { s1 with heap := h', toks := tk } := I1.kept fun b u e => hk b u (Heap.lt_size e) e
  refine PyProof.Rows.args_nil ?_
  exact call_len_set ho hex hd hf (by omega) ⟨.int (firstMet (fun i => ns.getD i 0) ns.length).length, H1, I2.tok _, ⟨_, by rw [hsz]⟩, q2 _ (met_lt ns) hmet⟩
end
/-! ### a tuple backwards -/
theorem sl_back {pg : Program} {ww : World} {AA : Around} {EE : Value → Shared → Prop} {st : Shared} {sa : Addr} {vl vu vs : Value} {n : Nat} {Q : Int × Int × Nat → Shared → Prop} (hS : st.heap.IsSliceOf sa vl vu vs) (pl : IsPart vl none) (pu : IsPart vu none) (ps : IsPart vs (some (-1)))
    (q : Q ((n : Int) - 1, -1, n) st) : wpAny (model pg ww) AA (Builtin.Slice.sliceApplied (.ref sa) (pure (n : Int))) Q EE st := by
  obtain ⟨o1, ho1, _, hd1⟩ := id hS
  unfold Builtin.Slice.sliceApplied Builtin.Slice.sliceFields
  refine wpAny_bind (wpAny_bind (wpAny_field ho1 hd1 (x := vl) rfl (wpAny_bind (wpAny_field ho1 hd1 (x := vu) rfl (wpAny_bind (wpAny_field ho1 hd1 (x := vs) rfl (wpAny_pure (wpAny_bind (HT.slicePart_ ps ?_)))))))))
  show wpAny _ _ (if ((-1 : Int) == 0) = true then _ else _) _ _ st
  rw [if_neg (by decide)]
  refine wpAny_bind (HT.slicePart_ pl (wpAny_bind (HT.slicePart_ pu (wpAny_bind (wpAny_pure ?_)))))
  have e1 : Builtin.Slice.sliceAdjust none none (-1) (n : Int) = ((n : Int) - 1, -1) := rfl
  have e2 : Builtin.Slice.slicePlaces ((n : Int) - 1) (-1) (-1) = n := by
    unfold Builtin.Slice.slicePlaces
    rw [if_neg (by decide)]
    simp only [Int.reduceNeg, Int.neg_neg, Int.ediv_one]
    split <;> omega
  show wpAny _ _ (match Builtin.Slice.sliceAdjust none none (-1) (n : Int) with | (a, b) => pure (a, (-1 : Int), Builtin.Slice.slicePlaces a b (-1))) _ _ st
  rw [e1]
  show wpAny _ _ (pure ((n : Int) - 1, (-1 : Int), Builtin.Slice.slicePlaces ((n : Int) - 1) (-1) (-1))) _ _ st
  rw [e2]
  exact wpAny_pure q
theorem pick_back (xs : Array Value) : ((List.range xs.size).filterMap fun (m : Nat) => xs[(((xs.size : Int) - 1) + (m : Int) * -1).toNat]?).toArray = xs.toList.reverse.toArray := by
  congr 1
  have e : ∀ m ∈ List.range xs.size, xs[(((xs.size : Int) - 1) + (m : Int) * -1).toNat]? = some (xs.toList.reverse.getD m .none) := fun m hm => by
    have hm := List.mem_range.mp hm
    rw [show (((xs.size : Int) - 1) + (m : Int) * -1).toNat = xs.size - 1 - m by omega, List.getD_eq_getElem?_getD, List.getElem?_reverse (by rw [Array.length_toList]; exact hm), Array.length_toList, Array.getElem?_toList, Array.getElem?_eq_getElem (by omega)]
    rfl
  have e2 : ∀ l : List Nat, (∀ m ∈ l, xs[(((xs.size : Int) - 1) + (m : Int) * -1).toNat]? = some (xs.toList.reverse.getD m .none)) → (l.filterMap fun (m : Nat) => xs[(((xs.size : Int) - 1) + (m : Int) * -1).toNat]?) = l.map fun m => xs.toList.reverse.getD m .none := by
    intro l
    induction l with
    | nil => intro _; rfl
    | cons m r ih =>
      intro h
      rw [List.filterMap_cons, h m (List.mem_cons_self ..), List.map_cons, ih fun z hz => h z (List.mem_cons_of_mem _ hz)]
  rw [e2 _ e]
  refine List.ext_getElem? fun i => ?_
  rw [List.getElem?_map]
  by_cases h : i < xs.size
  · rw [List.getElem?_range h]
    show some (xs.toList.reverse.getD i .none) = _
    rw [List.getD_eq_getElem?_getD, List.getElem?_eq_getElem (by rw [List.length_reverse, Array.length_toList]; exact h)]
    rfl
  · rw [List.getElem?_eq_none (by rw [List.length_range]; omega), List.getElem?_eq_none (by rw [List.length_reverse, Array.length_toList]; omega)]
    rfl
theorem getItem_tuple_back {pg : Program} {ww : World} {AA : Around} {EE : Value → Shared → Prop} {st : Shared} {tp sa : Addr} {items : Array Value} {vl vu vs : Value} {Q : Value → Shared → Prop} (hT : IsTup st.heap tp items) (hS : st.heap.IsSliceOf sa vl vu vs) (pl : IsPart vl none) (pu : IsPart vu none) (ps : IsPart vs (some (-1)))
    (q : Q (.ref st.heap.objs.size) { st with heap := st.heap.push { cls := .type "tuple", data := .seq items.toList.reverse.toArray } }) (hz : items.size ≤ sizeLine) : wpAny (model pg ww) AA (getItem (.ref tp) (.ref sa)) Q EE st := by
  have hfit : sizeOk (.seq items.toList.reverse.toArray) := by
    show items.toList.reverse.toArray.size ≤ sizeLine
    rw [List.size_toArray, List.length_reverse, Array.length_toList]
    exact hz
  have hSl : st.TypeIs (.ref sa) "slice" := let ⟨o, h1, h2, _⟩ := hS; ⟨o, h1, h2⟩
  unfold getItem; try with_reducible refine wpAny_holding ?_
  first | refine wpAny_bind (wpAny_pure ?_) | skip
  refine wpAny_bind (wpAny_sequenceKey hT.typeIs (by decide) (wpAny_bind (wpAny_callSpecial?_slot (name := Str.ofString "__getitem__") hT.typeIs slot_tuple_getitem (wpAny_call_entry slot_tuple_getitem hT.typeIs entry_tuple_getitem ?_ (args_tuple_getitem _ _)))))
  show wpAny _ _ (Builtin.Tuple.tupleItemsOf (.ref tp) >>= _) _ _ st
  refine wpAny_bind (tupleItemsOf_ hT (wpAny_bind (wpAny_typeOf hSl ?_)))
  rw [if_pos (by decide)]
  refine wpAny_bind (sl_back hS pl pu ps ?_)
  have no : ¬ (((((items.size : Int) - 1) == 0 && (-1 : Int) == 1 && items.size == items.size)) = true) := fun z => by
    rw [Bool.and_eq_true, Bool.and_eq_true] at z
    exact absurd z.1.2 (by decide)
  show wpAny _ _ (if ((((items.size : Int) - 1) == 0 && (-1 : Int) == 1 && items.size == items.size)) = true then _ else _) _ _ st
  rw [if_neg no, pick_back]
  first
    | exact wpAny_bind (m := Builtin.Tuple.tupleExact _) (wpAny_newObj_type (wpAny_pure ⟨_, rfl, wpAny_pure q⟩) hfit)
    | exact wpAny_bind (m := Builtin.Tuple.tupleExact _) (wpAny_newObj_type (wpAny_bind (wpAny_pure (wpAny_pure ⟨_, rfl, wpAny_pure q⟩))) hfit)
    | exact wpAny_bind (wpAny_bind (m := Builtin.Tuple.tupleExact _) (wpAny_newObj_type (wpAny_pure (wpAny_pure ⟨_, rfl, wpAny_pure q⟩)) hfit))
    | exact wpAny_bind (wpAny_bind (m := Builtin.Tuple.tupleExact _) (wpAny_newObj_type (wpAny_pure ⟨_, rfl, wpAny_pure q⟩) hfit))
def tRevT (K : PySem.W.Frag) (te : TE) : TE := fun σ H Q => te σ H fun x H1 => ∃ a xs, x = .ref a ∧ SqT K H1 a xs ∧ ∀ p, H1 p = none → Q (.ref p) (upd H1 p (.tup xs.reverse))
theorem pe_revT {X : Cx} {e : Expr} {te : TE} {k : Nat} {p1 p2 p3 pos : Pos} (he : PE X e te) : PE X (.Subscript e (.Slice none none (some (.UnaryOp .USub (.Constant (.int 1) k p1) p2)) p3) pos) (tRevT X.K te) := by
  refine ⟨fun pins s σ H Q I h => ?_⟩
  refine Subscript_ (thn (he.run pins s σ H _ I h) fun v s1 ⟨x, H1, I1, r1, a, xs, ex, hx, q⟩ => ?_)
  subst ex
  cases r1
  have hst : PO X (some (.UnaryOp .USub (.Constant (.int 1) k p1) p2)) (tPart (tUn (rU fun i => .int (-i)) (tC (.int 1)))) := po_some (pe_un un_neg pe_int)
  refine wpAny_Slice (thn (po_none.run pins s1 σ H1 (fun o H2 => o = none ∧ H2 = H1) I1 ⟨rfl, rfl⟩) fun vl s2 ⟨l, H2, I2, pl, el, e2⟩ => ?_)
  subst el e2
  refine thn (po_none.run pins s2 σ H2 (fun o H3 => o = none ∧ H3 = H2) I2 ⟨rfl, rfl⟩) fun vu s3 ⟨u, H3, I3, pu, eu, e3⟩ => ?_
  subst eu e3
  refine thn (hst.run pins s3 σ H3 (fun o H4 => o = some (-1) ∧ H4 = H3) I3 ⟨1, rfl, -1, rfl, rfl, rfl⟩) fun vs s4 ⟨o, H4, I4, ps, eo, e4⟩ => ?_
  subst eo e4
  have I5 : Inv X pins σ H4 { s4 with heap := s4.heap.push { cls := .type "slice", data := .fields #[vl, vu, vs] } } := I4.kept (t' := s4.toks) fun b ob z => Heap.get?_push_of_some _ z
  obtain ⟨its, r, ht, hz⟩ := I5.tuple hx
  have hlen : its.toArray.size = xs.length := by rw [List.size_toArray]; exact r.length.symm
  refine tail_any (ops := [.ref a, .ref s4.heap.objs.size]) ht.typeIs PyProof.Rows.slot_tuple_getitem.lookup ?_ (by with_unfolding_all rfl)
  refine getItem_tuple_back ht (Heap.IsSliceOf.new _ vl vu vs) pl pu ps ?_ (by rw [hlen]; exact hz)
  refine ⟨.ref _, _, I5.laid (t' := s4.toks) (o := .tup xs.reverse) (fun b ob z => Heap.get?_push_of_some _ z) (Nat.le_refl _) ?_, rfl, q _ (I5.hok.fresh (Nat.le_refl _))⟩
  exact ⟨by rw [List.length_reverse]; exact hz, _, r.reverse, IsTup.new _ _⟩
/-- a part of a tuple of any make; two put together -/
def rSlS (K : PySem.W.Frag) : V → Option Int → Option Int → Hp → VK → Prop := fun x lo hi H Q => ∃ a xs, x = .ref a ∧ SqT K H a xs ∧ ∀ p H', Ext H H' → SqT K H' p (cutV xs lo hi) → Q (.ref p) H'
theorem slS (K : PySem.W.Frag) {X : Cx} (h : X.K = K := by rfl) : SlR X (rSlS K) := fun pins s σ H x v vl vu lo hi sl Q I rx hs pl pu ⟨a, xs, ex, ha, q⟩ => by
  refine slA K h pins s σ H x v vl vu lo hi sl Q I rx hs pl pu ⟨a, xs, ex, ha, fun z => q a H Ext.refl ?_, fun _ p hp => q p _ (Ext.new hp) (SqT.of upd_same)⟩
  have e : cutV xs lo hi = xs := by
    unfold cutV
    rw [z.1, z.2, List.drop_zero, Nat.sub_zero, List.take_length]
  rw [e]
  exact ha
def rCatS (K : PySem.W.Frag) : R2 := fun x y H Q => ∃ a b xs ys, x = .ref a ∧ y = .ref b ∧ SqT K H a xs ∧ SqT K H b ys ∧ xs.length + ys.length ≤ sizeLine ∧ ∀ p H', Ext H H' → SqT K H' p (xs ++ ys) → Q (.ref p) H'
theorem catS (K : PySem.W.Frag) {X : Cx} (h : X.K = K := by rfl) : OpR X (binaryOp .Add) (rCatS K) := fun pins s σ H x y v u Q I rx ry ⟨a, b, xs, ys, ex, ey, ha, hb, hz, q⟩ => by
  refine catA K h pins s σ H x y v u Q I rx ry ⟨a, b, xs, ys, ex, ey, ha, hb, hz, fun z => q b H Ext.refl (by rw [z]; exact hb), fun _ z => q a H Ext.refl (by rw [z, List.append_nil]; exact ha), fun _ _ p hp => q p _ (Ext.new hp) (SqT.of upd_same)⟩
/-- sum of a list of lists and a list -/
def rSumS (K : PySem.W.Frag) : List V → Hp → VK → Prop := fun vs H Q => ∃ (a b : Addr) (ls : List (Addr × List V)) (xs : List V), vs = [.ref a, .ref b] ∧ SqL K H a (ls.map fun x => .ref x.1) ∧ (∀ x ∈ ls, H x.1 = some (.lst x.2)) ∧ H b = some (.lst xs) ∧ xs.length + (ls.map (·.2)).flatten.length ≤ sizeLine ∧
  ∀ p H', Ext H H' → SqL K H' p (xs ++ (ls.map (·.2)).flatten) → Q (.ref p) H'
theorem sumS (K : PySem.W.Frag) {X : Cx} (hcalm : X.calm = true) (hK : X.K = K := by rfl) : CallR X (.builtin "sum") (rSumS K) := fun pins s σ H vs us Q I r ⟨a, b, ls, xs, e, h1, h2, h3, h4, q⟩ =>
  cr_sumL K hcalm hK pins s σ H vs us Q I r ⟨a, b, ls, xs, e, h1, h2, h3, h4, fun z => q b H Ext.refl (by rw [z]; show SqL K H b (xs ++ []); rw [List.append_nil]; exact SqL.of h3), fun _ p hp => q p _ (Ext.new hp) (SqL.of upd_same)⟩
end Pf


namespace Pf
open PySem PySem.Spec PyProof.Rows L2
/-! ### set of a tuple of numbers, sorted -/
def rSetTI (K : PySem.W.Frag) (w : World) : List V → Hp → VK → Prop := fun xs H Q => ∃ (l : Addr) (ns : List Int), xs = [V.ref l] ∧ SqT K H l (ns.map V.int) ∧ ns.length < 60 ∧ ∀ (p : Addr) (c : Nat), H p = none → c ≤ ns.length → Q (.ref p) (upd H p (SetO w p (fun j => decide (j ∈ ns)) c))
theorem setTI {X : Cx} {w : World} (K : PySem.W.Frag) (hc : X.calm = true) (h1 : X.K = K := by rfl) (h2 : X.w = w := by rfl) : CallR X (.type "set") (rSetTI K w) := by
  subst h1 h2
  intro pins s σ H xs us Q I r h
  obtain ⟨l, ns, rfl, hT, hn, q⟩ := h
  obtain ⟨u, rfl, rfl⟩ := vals1 r
  obtain ⟨its, rv, ⟨o, ho, hcl, n, hd⟩, hz⟩ := I.tuple hT
  refine call_set_tupI (items := its.toArray) ns (I.ok.hd hc) ⟨o, ho, hcl, n, hd⟩ (intsAre_of rv) (by unfold scanBound; omega) fun h' tk c hS hle hk => ?_
  have hnone : H s.heap.objs.size = none := I.hok.fresh (Nat.le_refl _)
  exact ⟨.ref _, upd H s.heap.objs.size (SetO X.w s.heap.objs.size (fun j => decide (j ∈ ns)) c), I.laid (t' := tk) hk (Nat.le_refl _) (setO_new hS), rfl, q _ c hnone hle⟩
theorem sortedSI {X : Cx} {w : World} (hc : X.calm = true) (h2 : X.w = w := by rfl) : CallR X (.builtin "sorted") (rSortedSet w) := by
  subst h2
  exact cr_sortedSet hc
end Pf


namespace Pf
open PySem PySem.Spec PyProof.Rows L2
/-! ### set of a list of numbers -/
theorem call_set_li {P : Program} {w : World} {A : Around} {E : Value → Shared → Prop} {s : Shared} {l : Addr} {items : Array Value} (ns : List Int) {Q : Value → Shared → Prop} (hh : A.handled = none) (hl : s.heap.IsList l items) (hit : IntsAre items.toList ns) (hb : ns.length + 1 < scanBound)
    (h : ∀ (h' : Heap) (tk c : Nat), SetR w h' s.heap.objs.size (fun j => decide (j ∈ ns)) c → c ≤ ns.length → (∀ b o, s.heap.get? b = some o → h'.get? b = some o) → Q (.ref s.heap.objs.size) { s with heap := h', toks := tk }) : wpAny (model P w) A (call (.type "set") [.ref l]) Q E s := by
  have hisz : items.size = ns.length := by rw [← Array.length_toList]; exact IntsAre.length hit
  obtain ⟨c, tl, hmro⟩ := F.called_set.mro
  have hmade := F.called_set.made
  have hsub := F.called_set.sub
  refine wpAny_call (codeAny_of_tree ?_)
  show wpAny _ _ (callAny (.type "set") _) _ _ _
  refine wpAny_pure ⟨Code.quiet_builtin _ (by decide +kernel), codeAny_builtin F.entry_type_call ?_⟩
  rw [Around.under_plain (weight_type_call_type "set" [.ref l] []) rfl]
  have h1 := F.called_set.notType
  have h2 := F.called_set.canCreate
  have hct := F.typeCall_set_1 (.ref l)
  repeat (any_goals (first | assumption | wp_step))
  refine codeAny_mono (code_set_led1 (.ref l) (E := E) (Q₁ := fun obj s₁ => obj = .ref s.heap.objs.size ∧ s₁ = { s with heap := s.heap.push (freshSet w) }) ⟨rfl, rfl⟩) fun r s₁ hr => ?_
  cases r with
  | error e => exact hr
  | ok fl =>
    cases fl with
    | ret obj =>
      obtain ⟨rfl, rfl⟩ := hr
      have hS : (s.heap.push (freshSet w)).get? s.heap.objs.size = some (freshSet w) := Heap.get?_push_size _ rfl
      have hT : Shared.TypeIs { s with heap := s.heap.push (freshSet w) } (.ref s.heap.objs.size) "set" := ⟨_, hS, rfl⟩
      have hli := F.called_set.init.lookup
      have hbi := F.called_set.init.bind (.ref s.heap.objs.size)
      repeat (any_goals (first | assumption | wp_step))
      refine codeAny_mono (codeAny_call_builtin (R := wants (fun r s₂ => r = .none ∧ ∃ h' tk c, s₂ = { s with heap := h', toks := tk } ∧ SetR w h' s.heap.objs.size (fun j => decide (j ∈ ns)) c ∧ c ≤ ns.length ∧ (∀ b o, s.heap.get? b = some o → h'.get? b = some o)) E) F.called_set.init.plain F.entry_set_init (check_set_init_1 hT ?_)) fun r₂ s₂ hr₂ => ?_
      · obtain ⟨ol, hol, hcl, nl, hdl⟩ := hl
        obtain ⟨ocls, odict, odata, oslots⟩ := ol
        simp only at hcl hdl
        subst hcl; subst hdl
        have hol' : (s.heap.push (freshSet w)).get? l = some { cls := .type "list", dict := odict, data := .seq items nl, slots := oslots } := Heap.get?_push_of_some _ hol
        have hsls := F.sub_list_set
        have hslf := F.sub_list_frozenset
        have hne : (Value.type "list" == Value.type "dict") = false := by decide
        have hl1 : (s.heap.push (freshSet w)).IsList l items := ⟨_, hol', rfl, nl, rfl⟩
        unfold Builtin.«set.__init__» noKeywords Builtin.Frozenset.updateFrom
        generalize hPI : pyIter = PI
        wp_walk
        subst hPI
        refine wpAny_pyIter_list hl1 ?_
        refine wpAny_bind (wpAny_runValue ?_)
        have hlS : l < s.heap.objs.size := Heap.lt_size hol
        have hh3 : A.in1.in1.in1.handled = none := by simp [hh]
        have psz : (s.heap.push (freshSet w)).objs.size = s.heap.objs.size + 1 := Heap.size_push ..
        refine set_update_ints ((Walks.list hh3 (s.heap.push (freshSet w)).objs.size l (by rw [psz]; exact Nat.ne_of_lt (Nat.lt_succ_of_lt hlS)) items).toS) s.heap.objs.size (by rw [psz]; simp only [List.mem_cons, List.not_mem_nil, or_false, not_or]; exact ⟨Nat.ne_of_lt (Nat.lt_succ_self _), Nat.ne_of_gt hlS⟩) ns hisz hb (fun i v hv => ?_)
          (items.size - 0) 0 _ (by omega) (Nat.zero_le _) ⟨⟨_, Heap.get?_push_size _ rfl, rfl, rfl⟩, (hl1.push _)⟩ ⟨0, Nat.le_refl 0, setR_new_at (Heap.get?_push_of_some _ hS)⟩ ?hR
        · have hi : i < ns.length := by rw [← hisz]; exact (Array.getElem?_eq_some_iff.mp hv).1
          obtain ⟨t, e⟩ := PyProof.Rows.IntsAre.int_at hit i v (by rw [Array.getElem?_toList]; exact hv)
          exact ⟨ns[i], t, List.getElem?_eq_getElem hi, by rw [e, List.getD_eq_getElem?_getD, List.getElem?_eq_getElem hi]; rfl⟩
        case hR =>
          intro s' c' hm hc' hS'
          obtain ⟨h', g2, d', tk', os'⟩ := s'
          have eg : g2 = s.gens := hm.gens
          have ed : d' = s.drawn := hm.drawn
          have eo : os' = s.os := hm.os
          subst eg; subst ed; subst eo
          show wpAny _ _ _ _ _ _
          refine wpAny_pure ?_
          show wpAny _ _ (ret Value.none) _ _ _
          rw [hisz] at hc'
          refine wpAny_pure ⟨rfl, h', tk', c', rfl, hS', hc', fun b o e => ?_⟩
          have hb0 : b < s.heap.objs.size := Heap.lt_size e
          exact hm.heap b o (by rw [psz]; simp only [List.mem_cons, List.not_mem_nil, or_false, not_or]; exact ⟨Nat.ne_of_lt hb0, Nat.ne_of_lt (Nat.lt_succ_of_lt hb0)⟩) (Heap.get?_push_of_some _ (Heap.get?_push_of_some _ e))
      · cases r₂ with
        | error e => exact hr₂
        | ok fl₂ =>
          cases fl₂ with
          | ret r =>
            obtain ⟨rfl, h', tk, c', rfl, hS', hc', hk'⟩ := hr₂
            repeat (any_goals (first | assumption | wp_step))
            exact h _ _ _ hS' hc' hk'
          | _ => exact hr₂.elim
    | _ => exact hr.elim
def rSetLI (K : PySem.W.Frag) (w : World) : List V → Hp → VK → Prop := fun xs H Q => ∃ (l : Addr) (ns : List Int), xs = [V.ref l] ∧ SqL K H l (ns.map V.int) ∧ ns.length < 60 ∧ ∀ (p : Addr) (c : Nat), H p = none → c ≤ ns.length → Q (.ref p) (upd H p (SetO w p (fun j => decide (j ∈ ns)) c))
theorem setLI {X : Cx} {w : World} (K : PySem.W.Frag) (hc : X.calm = true) (h1 : X.K = K := by rfl) (h2 : X.w = w := by rfl) : CallR X (.type "set") (rSetLI K w) := by
  subst h1 h2
  intro pins s σ H xs us Q I r h
  obtain ⟨l, ns, rfl, hT, hn, q⟩ := h
  obtain ⟨u, rfl, rfl⟩ := vals1 r
  obtain ⟨its, rv, pl, hz⟩ := I.list hT
  refine call_set_li (items := its.toArray) ns (I.ok.hd hc) pl.isList (intsAre_of rv) (by unfold scanBound; omega) fun h' tk c hS hle hk => ?_
  have hnone : H s.heap.objs.size = none := I.hok.fresh (Nat.le_refl _)
  exact ⟨.ref _, upd H s.heap.objs.size (SetO X.w s.heap.objs.size (fun j => decide (j ∈ ns)) c), I.laid (t' := tk) hk (Nat.le_refl _) (setO_new hS), rfl, q _ c hnone hle⟩
end Pf


namespace Pf
open PySem PySem.Spec PyProof.Rows L2
/-! ### set of a list of numbers, sorted: up to 4000 -/
def rSetLB (K : PySem.W.Frag) (w : World) : List V → Hp → VK → Prop := fun xs H Q => ∃ (l : Addr) (ns : List Int), xs = [V.ref l] ∧ SqL K H l (ns.map V.int) ∧ ns.length < 4000 ∧ ∀ (p : Addr) (c : Nat), H p = none → c ≤ ns.length → Q (.ref p) (upd H p (SetO w p (fun j => decide (j ∈ ns)) c))
theorem setLB {X : Cx} {w : World} (K : PySem.W.Frag) (hc : X.calm = true) (h1 : X.K = K := by rfl) (h2 : X.w = w := by rfl) : CallR X (.type "set") (rSetLB K w) := by
  subst h1 h2
  intro pins s σ H xs us Q I r h
  obtain ⟨l, ns, rfl, hT, hn, q⟩ := h
  obtain ⟨u, rfl, rfl⟩ := vals1 r
  obtain ⟨its, rv, pl, hz⟩ := I.list hT
  refine call_set_li (items := its.toArray) ns (I.ok.hd hc) pl.isList (intsAre_of rv) (by unfold scanBound; omega) fun h' tk c hS hle hk => ?_
  have hnone : H s.heap.objs.size = none := I.hok.fresh (Nat.le_refl _)
  exact ⟨.ref _, upd H s.heap.objs.size (SetO X.w s.heap.objs.size (fun j => decide (j ∈ ns)) c), I.laid (t' := tk) hk (Nat.le_refl _) (setO_new hS), rfl, q _ c hnone hle⟩
def rSortedSetB (w : World) : List V → Hp → VK → Prop := fun vs H Q => ∃ (a : Addr) (S : Int → Bool) (n : Nat), vs = [V.ref a] ∧ H a = some (SetO w a S n) ∧ n ≤ 4000 ∧
  ∀ (ns : List Int) (p : Addr), ns.Nodup → (∀ k : Int, k ∈ ns ↔ S k = true) → ns.length = n → H p = none → Q (.ref p) (upd H p (.lst ((ns.mergeSort (PySem.W.dataLe false PyData.int)).map V.int)))
theorem sortedSB {X : Cx} {w : World} (hc : X.calm = true) (hu : X.A.units + 64 < cLine) (h2 : X.w = w := by rfl) : CallR X (.builtin "sorted") (rSortedSetB w) := by
  subst h2
  intro pins s σ H vs us Q I r h
  obtain ⟨a, S, n, rfl, ha, hn4, q⟩ := h
  have R := setO_get I ha
  rw [Vals.ref1 r]
  obtain ⟨o, es, ep, t, ho, hex, hd, g, nd, hm, hb, hf, hn, hr, hl⟩ := R
  refine Calls.call_function_entry PyProof.Rows.kind_sorted PyProof.Rows.plain_sorted PyProof.Rows.entry_sorted (PyProof.Rows.args_sorted1 _) ?_
  unfold Builtin.«sorted»
  refine wpAny_bind (m := checkCount "sorted" 1 1 _) (wpAny_pure ?_)
  refine wpAny_bind (collect_set (A := X.A.in1) (I.ok.hd hc) ⟨o, ho, hex.1, hd⟩ hf hb hr hl fun s2 vs k2 hz g2 o2 pm => ?_)
  have hvl : vs.length = n := by rw [pm.length_eq, List.length_map, Array.length_toList]; exact hn
  have hI : IntsAre vs (vs.map Builtin.Re.reRawOf) := L2.ints_of vs fun v hv => by
    obtain ⟨e, he, q⟩ := List.mem_map.mp (pm.mem_iff.mp hv)
    obtain ⟨k, tk, h1, _⟩ := g e he
    exact ⟨k, tk, by rw [← q]; exact h1⟩
  have pk : (vs.map Builtin.Re.reRawOf).Perm (es.toList.map keyOf) := by
    have q := pm.map Builtin.Re.reRawOf
    rw [List.map_map] at q
    exact q
  have I3 : Inv X pins σ H s2 := by
    obtain ⟨h2, gg, dr, tt, os⟩ := s2
    have eg : gg = s.gens := g2
    have eo : os = s.os := o2
    subst eg eo
    exact I.call (ch := []) (Un.kept fun b u e => k2 b u e) (I.hok.kept fun b u e => k2 b u e) I.bare (fun _ z => nomatch z)
  generalize vs.map Builtin.Re.reRawOf = ns at hI pk
  have hnl : ns.length = n := by rw [pk.length_eq, List.length_map, Array.length_toList]; exact hn
  refine sort_tail I3 hu (v := V.int) (dd := PyData.int) (ys := ns) (vals_of_ints hI) (fun y _ => ⟨.int _, by simp [PyData.depth]⟩) (PySem.W.AllAlike.of fun b b' => by simp [PySem.W.alike]) (PySem.W.Sortable.others fun b => ⟨(fun z => by cases z), fun xs z => by cases z⟩) (by rw [hnl, sizeLine_eq]; omega) (fun p hp => q ns p (pk.nodup_iff.mpr nd) (fun k => by rw [pk.mem_iff, ← hm k]) hnl hp) fun l s' h => ⟨_, rfl, h⟩
end Pf


/-! min(xs, default=d) of a list of whole numbers, which may be empty -/
namespace Pf
open PySem PySem.Spec PyProof.Rows L2
theorem minD_args (a v : Value) : argsOk "min" ⟨[a], [(Str.ofString "default", v)]⟩ := by unfold argsOk; kernel_rfl
section
variable {prog : Program} {w : World} {A : Around} {R : Result → Shared → Prop} {I S : Addr} {fp wr : List Addr} {n : Nat} {P : Nat → Value → Prop} {St : Nat → Heap → Prop} {d : Value} {bt : Nat → Nat → Bool}
abbrev mlName : (toString "min" ++ toString ".loop" : String) = "min.loop" := by decide
/-- what the loop holds behind j of them: the best so far, twice -/
def Hold (h : Heap) (S : Addr) (l : List Value) : Prop := ∃ c, h.get? S = some { cls := .type "list", dict := none, data := .seq l.toArray c, slots := #[] }
theorem minD_loop (W : Walks prog w A.in1 I fp wr n P St) (hcmp : CmpOf prog w A.in1 .Lt P bt) (hSf : S ∉ fp) : ∀ (k j : Nat) (s : Shared) (vb : Value), n = j + 1 + k → St (j + 1) s.heap → P (argBest bt j) vb → Hold s.heap S [vb, vb] →
    (∀ v h' tk, P (argBest bt (n - 1)) v → (∀ b o, b ∉ wr → b ≠ S → s.heap.get? b = some o → h'.get? b = some o) → R (.ok (.ret v)) { s with heap := h', toks := tk }) →
    codeAny (model prog w) A (.builtin "min.loop" ⟨[.ref I, .none, .ref S], [(Str.ofString "default", d)]⟩) R s := by
  have hSw : S ∉ wr := fun h => hSf (W.sub _ h)
  intro k
  induction k with
  | zero =>
    intro j s vb hn hst hb ⟨c, hS⟩ hR
    refine codeAny_builtin PySem.F.entry_min_loop ?_
    rw [Around.under_plainId PySem.F.plain_min_loop _]
    show wpAny _ A.in1 (seqItems? (.ref S) >>= _) _ _ s
    refine wpAny_bind (wpAny_seqItems hS rfl ?_)
    show wpAny _ A.in1 (tryCatch (pyNext (.ref I)) _ >>= _) _ _ s
    refine wpAny_bind (wpAny_tryCatch (W.done s _ _ ((show j + 1 = n by omega) ▸ hst) fun h' tk hk => ?_))
    show wpAny _ A.in1 (updateSeq S (fun _ => #[]) >>= _) _ _ _
    refine wpAny_bind (wpAny_updateSeq (hk S _ hSw hS) rfl (wpAny_bind (wpAny_letGo (wpAny_pure ?_))))
    exact hR vb _ tk ((show j = n - 1 by omega) ▸ hb) fun b o h1 h2 e => (Heap.get?_update_other _ _ (Ne.symm h2)).trans (hk b o h1 e)
  | succ k ih =>
    intro j s vb hn hst hb ⟨c, hS⟩ hR
    refine codeAny_builtin PySem.F.entry_min_loop ?_
    rw [Around.under_plainId PySem.F.plain_min_loop _]
    show wpAny _ A.in1 (seqItems? (.ref S) >>= _) _ _ s
    refine wpAny_bind (wpAny_seqItems hS rfl ?_)
    show wpAny _ A.in1 (tryCatch (pyNext (.ref I)) _ >>= _) _ _ s
    refine wpAny_bind (wpAny_tryCatch (W.item (j + 1) s _ _ (by omega) hst fun v h' tk hv hst' hk => ?_))
    have hS' := hk S _ hSw hS
    show wpAny _ A.in1 (tryCatch (holding [v, v] (richCompare .Lt v vb >>= _)) _ >>= _) _ _ _
    refine wpAny_bind (wpAny_tryCatch (wpAny_holding (wpAny_bind (hcmp (j + 1) (argBest bt j) v vb _ _ _ hv hb ?_))))
    refine wpAny_bind (wpAny_holding (wpAny_truthy_bool ?_))
    refine wpAny_bind (wpAny_letGo (wpAny_pure ?_))
    by_cases e : bt (j + 1) (argBest bt j) = true
    · rw [if_pos e]
      refine wpAny_bind (wpAny_updateSeq hS' rfl (wpAny_bind (wpAny_letGo ?_)))
      rw [mlName]
      refine wpAny_pure ⟨plainId_quiet PySem.F.plain_min_loop _, ih (j + 1) _ v (by omega) (W.frame _ _ _ hst' fun b hbf o e1 => ?_) ?_ ⟨_, Heap.get?_update_self _ hS' rfl⟩ fun v' h2 tk2 hv2 hk2 => ?_⟩
      · exact (Heap.get?_update_other _ _ (fun h : S = b => hSf (by rw [h]; exact hbf))).trans e1
      · unfold argBest
        rw [if_pos e]
        exact hv
      · exact hR v' h2 tk2 hv2 fun b o h1 h3 e1 => hk2 b o h1 h3 ((Heap.get?_update_other _ _ (Ne.symm h3)).trans (hk b o h1 e1))
    · rw [if_neg e]
      refine wpAny_bind (wpAny_letGo ?_)
      rw [mlName]
      refine wpAny_pure ⟨plainId_quiet PySem.F.plain_min_loop _, ih (j + 1) _ vb (by omega) hst' ?_ ⟨c, hS'⟩ fun v' h2 tk2 hv2 hk2 => ?_⟩
      · unfold argBest
        rw [if_neg e]
        exact hb
      · exact hR v' h2 tk2 hv2 fun b o h1 h3 e1 => hk2 b o h1 h3 (hk b o h1 e1)
/-- the first turn: the default where there is none -/
theorem minD_first (W : Walks prog w A.in1 I fp wr n P St) (hcmp : CmpOf prog w A.in1 .Lt P bt) (hSf : S ∉ fp) {s : Shared} (hst : St 0 s.heap) (hS : Hold s.heap S [])
    (h0 : n = 0 → ∀ h' tk, (∀ b o, b ∉ wr → b ≠ S → s.heap.get? b = some o → h'.get? b = some o) → R (.ok (.ret d)) { s with heap := h', toks := tk })
    (hR : 0 < n → ∀ v h' tk, P (argBest bt (n - 1)) v → (∀ b o, b ∉ wr → b ≠ S → s.heap.get? b = some o → h'.get? b = some o) → R (.ok (.ret v)) { s with heap := h', toks := tk }) :
    codeAny (model prog w) A (.builtin "min.loop" ⟨[.ref I, .none, .ref S], [(Str.ofString "default", d)]⟩) R s := by
  have hSw : S ∉ wr := fun h => hSf (W.sub _ h)
  obtain ⟨c, hS⟩ := hS
  refine codeAny_builtin PySem.F.entry_min_loop ?_
  rw [Around.under_plainId PySem.F.plain_min_loop _]
  show wpAny _ A.in1 (seqItems? (.ref S) >>= _) _ _ s
  refine wpAny_bind (wpAny_seqItems hS rfl ?_)
  show wpAny _ A.in1 (tryCatch (pyNext (.ref I)) _ >>= _) _ _ s
  by_cases hn : n = 0
  · refine wpAny_bind (wpAny_tryCatch (W.done s _ _ (hn ▸ hst) fun h' tk hk => ?_))
    show wpAny _ A.in1 (rule _ >>= _) _ _ _
    refine wpAny_bind (wpAny_rule ?_)
    exact wpAny_pure (h0 hn _ _ fun b o h1 _ e => hk b o h1 e)
  · refine wpAny_bind (wpAny_tryCatch (W.item 0 s _ _ (by omega) hst fun v h' tk hv hst' hk => ?_))
    have hS' := hk S _ hSw hS
    show wpAny _ A.in1 (updateSeq S (fun _ => #[v, v]) >>= _) _ _ _
    refine wpAny_bind (wpAny_updateSeq hS' rfl ?_)
    rw [mlName]
    refine wpAny_pure ⟨plainId_quiet PySem.F.plain_min_loop _, minD_loop W hcmp hSf (n - 1) 0 _ v (by omega) (W.frame _ _ _ hst' fun b hbf o e1 => ?_) hv ⟨_, Heap.get?_update_self _ hS' rfl⟩ fun v' h2 tk2 hv2 hk2 => ?_⟩
    · exact (Heap.get?_update_other _ _ (fun h : S = b => hSf (by rw [h]; exact hbf))).trans e1
    · exact hR (by omega) v' h2 tk2 hv2 fun b o h1 h3 e1 => hk2 b o h1 h3 ((Heap.get?_update_other _ _ (Ne.symm h3)).trans (hk b o h1 e1))
end
section
variable {prog : Program} {w : World} {A : Around} {E : Value → Shared → Prop} {s : Shared} {l : Addr} {its : List Value} {ns : List Int} {d : Value} {Q : Value → Shared → Prop}
theorem minD_raw (hh : A.handled = none) (hl : s.heap.IsList l its.toArray) (hi : IntsAre its ns)
    (h0 : ns = [] → ∀ h' tk, (∀ b o, s.heap.get? b = some o → h'.get? b = some o) → Q d { s with heap := h', toks := tk })
    (h : ∀ h' tk M t', (∀ b o, s.heap.get? b = some o → h'.get? b = some o) → M ∈ ns → (∀ a, a ∈ ns → M ≤ a) → Q (.int M t') { s with heap := h', toks := tk }) :
    wpAny (model prog w) A (call (.builtin "min") [.ref l] [(Str.ofString "default", d)]) Q E s := by
  obtain ⟨xs, e⟩ := hi.allInts.items
  have hn : numsOf (intItems xs).toList = ns := by rw [← e]; exact hi.numsOf
  rw [nums_intItems] at hn
  subst hn
  rw [e] at hl
  have hlen : (xs.toList.map (·.1)).length = xs.size := by rw [List.length_map, Array.length_toList]
  refine kmk_tree PySem.F.kind_min PySem.F.plain_min PySem.F.entry_min (minD_args _ _) ?_
  show wpAny _ A.in1 (Builtin.Builtins.bindParams "min" ["key", "default"] 0 ⟨[], [(Str.ofString "default", d)]⟩ >>= _) _ _ s
  refine wpAny_bind (wpAny_of_eq (show Builtin.Builtins.bindParams "min" ["key", "default"] 0 ⟨[], [(Str.ofString "default", d)]⟩ = pure [none, some d] from rfl) ?_)
  refine wpAny_bind (wpAny_pure ?_)
  refine wpAny_bind (iter_intList hl fun s₂ e2 st hfp hlI => ?_)
  subst e2
  refine wpAny_bind (wpAny_newObj_type ?_)
  rw [mlName]
  have hsz : (intItems xs).size = xs.size := by simp [intItems]
  refine wpAny_pure ⟨plainId_quiet PySem.F.plain_min_loop _, minD_first (bt := fun i j => decide (numAt xs i < numAt xs j)) (Walks.list (A := A.in1) hh _ l hlI (intItems xs)) (CmpOf.ints_lt (numAt xs) (fun _ _ => intItems_at)) (fun hm => Nat.lt_irrefl _ (hfp _ hm)) ?_ ⟨_, Heap.get?_push_size _ rfl⟩ (fun hn h' tk hk => ?_) (fun hn v h' tk hv hk => ?_)⟩
  · exact (Walks.list (prog := prog) (w := w) (A := A.in1) hh _ l hlI (intItems xs)).frame _ _ _ st fun b _ o e => Heap.get?_push_of_some _ e
  · refine h0 ?_ h' tk (old_kept fun b o hb e1 => hk b o hb (Nat.ne_of_lt (Heap.lt_size e1)) (Heap.get?_push_of_some _ e1))
    rw [hsz] at hn
    exact List.eq_nil_of_length_eq_zero (by rw [hlen]; exact hn)
  · obtain ⟨t, rfl⟩ := intItems_at hv
    rw [hsz] at hn
    obtain ⟨h1, h2⟩ := argBest_lt (numAt xs) ((intItems xs).size - 1)
    rw [hsz] at h1 h2 ⊢
    refine h h' tk _ t (old_kept fun b o hb e1 => hk b o hb (Nat.ne_of_lt (Heap.lt_size e1)) (Heap.get?_push_of_some _ e1)) ?_ fun a ha => ?_
    · rw [numAt_eq]
      exact PySem.getD_mem (by rw [hlen]; omega)
    · obtain ⟨j, hj, rfl⟩ := mem_getD ha
      rw [hlen] at hj
      rw [← numAt_eq]
      exact h2 j (by omega)
end
/-- min(xs, default=d) -/
def rMinD (K : PySem.W.Frag) : List V → List V → Hp → VK → Prop := fun vs zs H Q => ∃ (a : Addr) (ns : List Int) (z : V), vs = [V.ref a] ∧ zs = [z] ∧ SqL K H a (ns.map V.int) ∧ (ns = [] → Q z H) ∧ ∀ m, m ∈ ns → (∀ y, y ∈ ns → m ≤ y) → Q (.int m) H
theorem cr_minD {X : Cx} (hc : X.calm = true) : CallRK X (.builtin "min") [Str.ofString "default"] (rMinD X.K) := by
  intro pins s σ H xs zs us ws Q I r rz h
  obtain ⟨a, ns, z, rfl, rfl, hs, q0, q⟩ := h
  obtain ⟨its, rv, hl, _⟩ := I.list hs
  rw [Vals.ref1 r]
  obtain ⟨u, rfl, ru⟩ : ∃ u, ws = [u] ∧ RelV z u := by
    cases rz with
    | cons h t => cases t with
      | nil => exact ⟨_, rfl, h⟩
  exact minD_raw (I.ok.hd hc) hl.isList rv.ints (fun e h' tk hk => ⟨z, H, I.kept hk, ru, q0 e⟩) fun h' tk m t' hk h1 h2 => ⟨.int _, H, I.kept hk, ⟨_, rfl⟩, q m h1 h2⟩
theorem minL (K : PySem.W.Frag) {X : Cx} (hc : X.calm = true) (h : X.K = K := by rfl) : CallR X (.builtin "min") (rMin K) := h ▸ cr_min hc
theorem minD (K : PySem.W.Frag) {X : Cx} (hc : X.calm = true) (h : X.K = K := by rfl) : CallRK X (.builtin "min") [Str.ofString "default"] (rMinD K) := h ▸ cr_minD hc
end Pf


namespace Pf
open PySem PySem.Spec PyProof.Rows L2
section
variable {P : Program} {w : World} {K : PySem.W.Frag} {mg : Str → Option Value} {base : Heap}
theorem pow_bits {b e : Nat} (hb : b < 2 ^ 14) : b ^ e < 2 ^ (14 * e + 1) := by
  have h1 : b ^ e ≤ (2 ^ 14) ^ e := Nat.pow_le_pow_left (Nat.le_of_lt hb) e
  have h2 : (2 ^ 14) ^ e = 2 ^ (14 * e) := (Nat.pow_mul 2 14 e).symm
  have h3 : 2 ^ (14 * e) < 2 ^ (14 * e + 1) := Nat.pow_lt_pow_right (by decide) (by omega)
  omega
theorem mulW_of {a b B N : Nat} (ha : a ≤ B) (hb : b ≤ B) (hB : B < 2 ^ N) (h0 : 0 < N) (hN : N ≤ 100000) : CMulW (a : Int) (b : Int) :=
  wide_mul (a := N) (b := N) (by rw [Int.natAbs_natCast]; omega) (by rw [Int.natAbs_natCast]; omega) h0 h0 (by omega)
theorem int_eq_dec2 (a b : Int) : decide (V.int a = V.int b) = decide (a = b) := decide_eq_decide.mpr ⟨V.int.inj, congrArg V.int⟩
abbrev s_power : Stmt := topS 28
theorem sc_power : FnScope ["number", "exponent", "made", "square", "left"] ["number", "exponent"] (defScope s_power) :=
  ⟨rfl, rfl, rfl, by decide +kernel, rfl, by decide +kernel, by decide +kernel⟩
def spPow : Sp := fun vs H Q _ => ∃ (b : Nat) (e : Int), vs = [.int b, .int e] ∧ 1 ≤ b ∧ b < 2 ^ 14 ∧ e ≤ 4000 ∧ Q (.int ((b ^ e.toNat : Nat) : Int)) H
theorem ok_pow {f : Addr} {fd : FuncData} {k : Nat} (F : Fun K "power" "power" s_power f fd) : FnOk P w K mg base CX0 (k + 1) f fd ["number", "exponent"] spPow := by
  refine F.ok sc_power (fun vs H Q E h => ?_) (fun cdv A outer s H vs Q E hr h => ?_)
  · obtain ⟨b, e, rfl, _⟩ := h
    rfl
  · obtain ⟨b, e, rfl, b1, b14, he, q⟩ := h
    refine ⟨_, (pss_cons (ps_set (i := 2) sc_power.nd rfl (.inl rfl) pe_int)
      (pss_cons (ps_set (i := 3) sc_power.nd rfl (.inl rfl) (pv 0))
      (pss_cons (ps_set (i := 4) sc_power.nd rfl (.inl rfl) (pv 1))
      (pss_cons (ps_while PassesOwn.never (pt_cmpR op_gt (pv 4) pe_int (nomark _)) (pss_cons (ps_if (pt_cmpR op_eq (pe_op op_mod (pv 4) pe_int) pe_int (nomark _)) (pss_one (ps_aug (i := 2) sc_power.nd rfl (.inl rfl) (pv 3) ip_mulW)) pss_nil)
      (pss_cons (ps_aug (i := 3) sc_power.nd rfl (.inl rfl) (pv 3) ip_mulW)
      (pss_one (ps_aug (i := 4) sc_power.nd rfl (.inl rfl) pe_int ip_fdW)))))
      (pss_one (ps_ret (pv 2))))))), ?_⟩
    obtain ⟨B, hB⟩ : ∃ B, B = b ^ e.toNat := ⟨_, rfl⟩
    have hBb : B < 2 ^ (14 * e.toNat + 1) := hB ▸ pow_bits b14
    rw [← hB] at q
    refine ⟨_, rfl, _, rfl, ?_⟩
    refine ⟨fun m σ H' => ∃ (x y : Nat) (l : Int), σ = [some (.int b), some (.int e), some (.int x), some (.int y), some (.int l)] ∧ l.toNat = m ∧ 1 ≤ x ∧ 1 ≤ y ∧ x * y ^ l.toNat = B ∧ H' = H, ⟨e.toNat, 1, b, e, rfl, rfl, Nat.le_refl _, b1, by rw [Nat.one_mul, hB], rfl⟩, ?_⟩
    rintro m σ H0 ⟨x, y, l, rfl, rfl, hx, hy, hxy, rfl⟩
    refine ⟨_, rfl, _, _, rfl, rfl, _, rfl, ite2 (fun e1 => ?_) (fun e1 => ?_)⟩
    · have hl : 0 < l := of_decide_eq_true e1
      obtain ⟨n, rfl⟩ : ∃ n : Nat, l = (n : Int) := ⟨l.toNat, by omega⟩
      have hn : 0 < n := by omega
      rw [Int.toNat_natCast] at hxy
      have hyB : y ≤ B := by
        rw [← hxy]
        exact Nat.le_trans (Nat.le_trans (Nat.le_of_eq (Nat.pow_one y).symm) (Nat.pow_le_pow_right hy hn)) (Nat.le_mul_of_pos_left _ hx)
      have hxB : x ≤ B := by
        rw [← hxy]
        exact Nat.le_mul_of_pos_right _ (Nat.pow_pos hy)
      have hfd : ((n : Int)).fdiv 2 = ((n / 2 : Nat) : Int) := by
        rw [Int.fdiv_eq_ediv_of_nonneg _ (by decide)]
        rfl
      refine ⟨fun σ' H' => ∃ m', m' < ((n : Int)).toNat ∧ ∃ (x y : Nat) (l : Int), σ' = [some (.int b), some (.int e), some (.int x), some (.int y), some (.int l)] ∧ l.toNat = m' ∧ 1 ≤ x ∧ 1 ≤ y ∧ x * y ^ l.toNat = B ∧ H' = H0, fun _ _ h => h, ?_⟩
      have fin : ∀ x' : Nat, 1 ≤ x' → x' * (y * y) ^ (n / 2) = B → ∃ m', m' < ((n : Int)).toNat ∧ ∃ (x'' y'' : Nat) (l'' : Int), [some (V.int b), some (.int e), some (.int x'), some (.int ((y : Int) * y)), some (.int (((n : Int)).fdiv 2))] = [some (V.int b), some (.int e), some (.int x''), some (.int y''), some (.int l'')] ∧ l''.toNat = m' ∧ 1 ≤ x'' ∧ 1 ≤ y'' ∧ x'' * y'' ^ l''.toNat = B ∧ H0 = H0 := fun x' h1 h2 =>
        ⟨n / 2, by rw [Int.toNat_natCast]; exact Nat.div_lt_self hn (by decide), x', y * y, ((n / 2 : Nat) : Int), by rw [hfd, Int.natCast_mul], Int.toNat_natCast _, h1, Nat.mul_pos hy hy, by rw [Int.toNat_natCast]; exact h2, rfl⟩
      refine ⟨_, rfl, _, 2, rfl, rfl, (show (0 : Int) < 2 by decide), rfl, _, rfl, ?_⟩
      have hW : ∀ z : Nat, z ≤ B → CMulW (z : Int) (y : Int) := fun z hz => mulW_of hz hyB hBb (by omega) (by omega)
      rw [int_eq_dec2]
      refine ite2 (fun e2 => ?_) (fun e2 => ?_)
      · have e2 : (n : Int) % 2 = 1 := of_decide_eq_true e2
        refine ⟨_, rfl, _, rfl, x, y, rfl, rfl, hW x hxB, ?_⟩
        refine ⟨_, rfl, _, rfl, y, y, rfl, rfl, hW y hyB, ?_⟩
        refine ⟨_, rfl, _, 2, rfl, rfl, by decide, by decide +kernel, ?_⟩
        refine fin (x * y) (Nat.mul_pos hx hy) ?_
        rw [← hxy, ← Nat.pow_two, ← Nat.pow_mul, Nat.mul_assoc]
        congr 1
        rw [Nat.mul_comm y, ← Nat.pow_succ]
        congr 1
        omega
      · have e2 : ¬ (n : Int) % 2 = 1 := fun z => e2 (decide_eq_true z)
        refine ⟨_, rfl, _, rfl, y, y, rfl, rfl, hW y hyB, ?_⟩
        refine ⟨_, rfl, _, 2, rfl, rfl, by decide, by decide +kernel, ?_⟩
        refine fin x hx ?_
        rw [← hxy, ← Nat.pow_two, ← Nat.pow_mul]
        congr 2
        omega
    · have hl : l.toNat = 0 := by
        have : ¬ 0 < l := fun z => e1 (decide_eq_true z)
        omega
      rw [hl, Nat.pow_zero, Nat.mul_one] at hxy
      subst hxy
      exact ⟨_, rfl, q⟩
abbrev CPow (P : Program) (w : World) (K : PySem.W.Frag) (mg : Str → Option Value) (base : Heap) : Prop := Ca P w K mg base 1 "power" ["number", "exponent"] spPow
theorem putK_len1 {kvs : List (Key × V)} {k : Key} {v : V} {i : Nat} (h : kvs.length ≤ i) : (putK kvs k v).length ≤ i + 1 := by
  unfold putK
  split
  · rw [List.length_map]
    omega
  · rw [List.length_append, List.length_singleton]
    omega
def topN (b1 b2 : Nat) (lo hi w : Int) : Nat := b1 ^ (w - lo).toNat * b2 ^ (hi - w).toNat
theorem topN_pos {b1 b2 : Nat} (h1 : 1 ≤ b1) (h2 : 1 ≤ b2) (lo hi w : Int) : 1 ≤ topN b1 b2 lo hi w := Nat.mul_pos (Nat.pow_pos h1) (Nat.pow_pos h2)
theorem sqT_ext' {K : PySem.W.Frag} {H H' : Hp} {a : Addr} {xs : List V} (k : Ext H H') (h : SqT K H a xs) : SqT K H' a xs := by
  rcases h with (h | ⟨o, h⟩) | h
  · exact .inl (.inl (k _ _ h))
  · exact .inl (.inr ⟨o, k _ _ h⟩)
  · exact .inr h
/-- a base, be it made or written -/
def BsAt (K : PySem.W.Frag) (H : Hp) (v : V) (b1 b2 : Nat) : Prop := ∃ a, v = .ref a ∧ SqT K H a [.int b1, .int b2]
theorem BsAt.ext {K : PySem.W.Frag} {H H' : Hp} {v : V} {b1 b2 : Nat} (k : Ext H H') (h : BsAt K H v b1 b2) : BsAt K H' v b1 b2 := by
  obtain ⟨a, e, h⟩ := h
  exact ⟨a, e, sqT_ext' k h⟩
abbrev s_tops_by_worth : Stmt := topS 29
theorem sc_tops_by_worth : FnScope ["worths", "base", "low", "high", "worth"] ["worths", "base"] (defScope s_tops_by_worth) :=
  ⟨rfl, rfl, rfl, by decide +kernel, rfl, by decide +kernel, by decide +kernel⟩
def spTops (K : PySem.W.Frag) : Sp := fun vs H Q _ => ∃ (l : Addr) (vb : V) (ns : List Int) (b1 b2 : Nat), vs = [.ref l, vb] ∧ SqL K H l (ns.map V.int) ∧ 0 < ns.length ∧ ns.length < 4000 ∧ (∀ y ∈ ns, -2000 ≤ y ∧ y ≤ 2000) ∧ 1 ≤ b1 ∧ b1 < 2 ^ 14 ∧ 1 ≤ b2 ∧ b2 < 2 ^ 14 ∧ BsAt K H vb b1 b2 ∧
  ∀ (lo hi : Int) (D : Addr) (kvs : List (Key × V)) (H' : Hp), lo ∈ ns → hi ∈ ns → (∀ y ∈ ns, lo ≤ y ∧ y ≤ hi) → Ext H H' → H D = none → H' D = some (.dK kvs) → (∀ z ∈ ns, valV kvs (.inl z) = some (.int (topN b1 b2 lo hi z : Nat))) → Q (.ref D) H'
theorem ok_tops {f : Addr} {fd : FuncData} (F : Fun K "tops_by_worth" "tops_by_worth" s_tops_by_worth f fd) (cpower : CPow P w K mg base) (mmin : mg "min" = none) (mmax : mg "max" = none) (msorted : mg "sorted" = none) (mset : mg "set" = none) : FnOk P w K mg base CX0 2 f fd ["worths", "base"] (spTops K) := by
  refine F.ok sc_tops_by_worth (fun vs H Q E h => ?_) (fun cdv A outer s H vs Q E hr h => ?_)
  · obtain ⟨l, vb, ns, b1, b2, rfl, _⟩ := h
    rfl
  · obtain ⟨l, vb, ns, b1, b2, rfl, hL, hn0, hn4, hnb, p1, q1, p2, q2, ⟨tb, rfl, hB⟩, q⟩ := h
    refine ⟨_, (pss_cons (ps_set (i := 2) sc_tops_by_worth.nd rfl (.inr rfl) (pe_callB (minL K rfl) (by rfl) mmin (by decide +kernel) (pa_cons (pv 0) pa_nil)))
      (pss_cons (ps_set (i := 3) sc_tops_by_worth.nd rfl (.inr rfl) (pe_callB (maxL K rfl) (by rfl) mmax (by decide +kernel) (pa_cons (pv 0) pa_nil)))
      (pss_one (ps_ret (pe_dc (own := [("worth", 4)]) (g := gName 4) (by rfl) sc_tops_by_worth.nd (pi_list (pe_callB (sortedSB (w := w) rfl hr.units) (by rfl) msorted (by decide +kernel) (pa_cons (pe_callTy (setLB (w := w) K rfl) (by rfl) mset (by decide +kernel) (pa_cons (pv 0) pa_nil)) pa_nil))) (blkOk_by (own := [("worth", 4)]) (N := ["worths", "base", "low", "high", "worth"]) (sc := defScope s_tops_by_worth) (by decide +kernel)) (fun _ _ _ _ _ => (pg_name (i := 4) sc_tops_by_worth.nd rfl (.inl rfl))) (fun _ _ _ _ _ => pts_nil) (fun _ _ _ _ _ => (pv 4)) (fun _ _ _ _ _ => (pe_op op_mulW (pe_ca cpower (hr.mono (by decide)) (by rfl) (pa_cons (pe_ix (ixT K) (pv 1) pe_int (fun _ _ => rfl)) (pa_cons (pe_op op_sub (pv 4) (pv 2)) pa_nil))) (pe_ca cpower (hr.mono (by decide)) (by rfl) (pa_cons (pe_ix (ixT K) (pv 1) pe_int (fun _ _ => rfl)) (pa_cons (pe_op op_sub (pv 3) (pv 4)) pa_nil)))))))))), ?_⟩
    refine ⟨_, rfl, l, ns, rfl, hL, hn0, fun lo hlo hlm => ?_⟩
    refine ⟨_, rfl, l, ns, rfl, hL, hn0, fun hi' hhi hhm => ?_⟩
    refine ⟨_, rfl, l, ns, rfl, hL, hn4, fun sp c hsp hc => ?_⟩
    refine ⟨sp, _, c, rfl, upd_same, by omega, fun us p hnd hus hul hp => ?_⟩
    obtain ⟨M, hM⟩ : ∃ M, M = us.mergeSort (PySem.W.dataLe false PyData.int) := ⟨_, rfl⟩
    have hMm : ∀ z, z ∈ M ↔ z ∈ ns := fun z => by
      rw [hM, List.mem_mergeSort, hus]
      exact ⟨fun h => of_decide_eq_true h, fun h => decide_eq_true h⟩
    have hMl : M.length ≤ 4000 := by
      rw [hM, List.length_mergeSort]
      omega
    rw [← hM]
    have x2 := (Ext.new (o := SetO w sp (fun j => decide (j ∈ ns)) c) hsp).trans (Ext.new (o := .lst (M.map V.int)) hp)
    have hLM : (upd (upd H sp (SetO w sp (fun j => decide (j ∈ ns)) c)) p (.lst (M.map V.int))) p = some (.lst (M.map V.int)) := upd_same
    generalize upd (upd H sp (SetO w sp (fun j => decide (j ∈ ns)) c)) p (.lst (M.map V.int)) = H2 at x2 hLM ⊢
    have hB2 := sqT_ext' x2 hB
    refine ⟨p, rfl, ⟨_, SqL.of hLM⟩, fun D hD => dc_list (K := K) (xs := M.map V.int) (fun i H3 => ∃ kvs, H3 D = some (.dK kvs) ∧ kvs.length ≤ i ∧ (∀ z ∈ M.take i, valV kvs (.inl z) = some (.int (topN b1 b2 lo hi' z : Nat))) ∧ Ext H2 H3)
      ⟨[], upd_same, Nat.le_refl _, (fun z hz => by rw [List.take_zero] at hz; cases hz), Ext.new hD⟩ (fun i H3 _ h => by obtain ⟨_, _, _, _, k⟩ := h; exact SqL.of (k _ _ hLM)) (fun i u H3 hi hv => ?_) (fun H3 hv => ?_)⟩
    · obtain ⟨kvs, hD3, hkl, hkv, k3⟩ := hv
      rw [List.getElem?_map] at hi
      obtain ⟨z, hz, rfl⟩ := Option.map_eq_some_iff.mp hi
      have hzn : z ∈ ns := (hMm z).mp (List.mem_of_getElem? hz)
      have hil : i < M.length := (List.getElem?_eq_some_iff.mp hz).1
      have hb1 := hnb z hzn
      have hb2 := hnb lo hlo
      have hb3 := hnb hi' hhi
      have hB3 := sqT_ext' k3 hB2
      refine ⟨rfl, _, rfl, _, rfl, tb, _, 0, _, rfl, rfl, hB3, rfl, _, rfl, _, rfl, z, lo, rfl, rfl, b1, _, rfl, p1, q1, by omega, ?_⟩
      refine ⟨_, rfl, tb, _, 1, _, rfl, rfl, hB3, rfl, _, rfl, _, rfl, hi', z, rfl, rfl, b2, _, rfl, p2, q2, by omega, ?_⟩
      have hcm : CMulW ((b1 ^ (z - lo).toNat : Nat) : Int) ((b2 ^ (hi' - z).toNat : Nat) : Int) := wide_mul (a := 14 * (z - lo).toNat + 1) (b := 14 * (hi' - z).toNat + 1) (by rw [Int.natAbs_natCast]; exact pow_bits q1) (by rw [Int.natAbs_natCast]; exact pow_bits q2) (by omega) (by omega) (by omega)
      refine ⟨_, _, rfl, rfl, hcm, kvs, .inl z, rfl, hD3, szLt (by omega), _, upd_same, putK_len1 hkl, fun y hy => ?_, k3.put hD⟩
      rw [valV_put]
      by_cases e : (Sum.inl y : Key) = .inl z
      · have e2 : y = z := Sum.inl.inj e
        subst e2
        rw [if_pos rfl]
        rfl
      · rw [if_neg e]
        rw [List.take_add_one, hz] at hy
        rcases List.mem_append.mp hy with hy | hy
        · exact hkv y hy
        · have : y = z := by simpa using hy
          exact absurd (congrArg Sum.inl this) e
    · obtain ⟨kvs, hD3, hkl, hkv, k3⟩ := hv
      rw [List.take_of_length_le (by rw [List.length_map]; exact Nat.le_refl _)] at hkv
      exact q lo hi' D kvs H3 hlo hhi (fun y hy => ⟨hlm y hy, hhm y hy⟩) (x2.trans k3) (x2.none hD) hD3 (fun z hz => hkv z ((hMm z).mpr hz))
abbrev CTops (P : Program) (w : World) (K : PySem.W.Frag) (mg : Str → Option Value) (base : Heap) : Prop := Ca P w K mg base 2 "tops_by_worth" ["worths", "base"] (spTops K)
end
end Pf


namespace Pf
open PySem PySem.Spec PyProof.Rows L2
def sgn (x : Str) (i : Int) : Str := ⟨#[x.cps.toList.getD i.toNat 0]⟩
theorem sgn_at {x : Str} {i : Int} (h0 : 0 ≤ i) (h1 : i < x.length) : atI x.cps.toList i = some (x.cps.toList.getD i.toNat 0) := by
  have h2 : i < x.cps.toList.length := by
    rw [Array.length_toList]
    exact h1
  rw [atI_get h0 h2, List.getD_eq_getElem?_getD, List.getElem?_eq_getElem (by omega)]
  rfl
def tx2 (x : Str) (p : Int × Int) : Str := sgn x p.1 ++ sgn x p.2
def pwV : List (Str × Int) → Str → V
  | [], _ => .non
  | (t, x) :: r, b => if t = b then .int x else pwV r b
theorem pwV_at {prs : List (Str × Int)} {i : Nat} {t : Str} {x : Int} (h : prs[i]? = some (t, x)) (b : Str) : pwV (prs.drop i) b = if t = b then .int x else pwV (prs.drop (i + 1)) b := by
  obtain ⟨hi, e⟩ := List.getElem?_eq_some_iff.mp h
  rw [List.drop_eq_getElem_cons hi, e, pwV]
theorem pwV_end {prs : List (Str × Int)} {i : Nat} (h : prs.length ≤ i) (b : Str) : pwV (prs.drop i) b = .non := by
  rw [List.drop_eq_nil_of_le h, pwV]
theorem pwV_is : ∀ (prs : List (Str × Int)) (b : Str), (!decide (pwV prs b = .non)) = decide (b ∈ prs.map (·.1))
  | [], _ => rfl
  | (t, x) :: r, b => by
    rw [pwV, List.map_cons]
    by_cases e : t = b
    · rw [if_pos e, decide_eq_false (fun z => by cases z), decide_eq_true (by rw [e]; exact List.mem_cons_self ..)]
      rfl
    · rw [if_neg e, pwV_is r b]
      refine decide_eq_decide.mpr ⟨fun h => List.mem_cons_of_mem _ h, fun h => ?_⟩
      rcases List.mem_cons.mp h with h | h
      · exact absurd h.symm e
      · exact h
def mayC (r : Rl) (x : Str) (i j : Int) : Bool := decide (r.span < j - i) && decide (tx2 x (i, j) ∈ r.prs.map (·.1))
def encP (x : Str × Int) : Key × V := (.inr x.1, .int x.2)
theorem val_isSome : ∀ (prs : List (Str × Int)) (b : Str), (valV (prs.map encP) (.inr b)).isSome = decide (b ∈ prs.map (·.1))
  | [], _ => rfl
  | (t, x) :: r, b => by
    rw [List.map_cons, List.map_cons]
    by_cases e : t = b
    · rw [valV_pos (show (encP (t, x)).1 = Sum.inr b by rw [e]; rfl), decide_eq_true (by rw [e]; exact List.mem_cons_self ..)]
      rfl
    · rw [valV_neg (show ¬ (encP (t, x)).1 = Sum.inr b from fun z => e (Sum.inr.inj z)), val_isSome r b]
      refine decide_eq_decide.mpr ⟨fun h => List.mem_cons_of_mem _ h, fun h => ?_⟩
      rcases List.mem_cons.mp h with h | h
      · exact absurd h.symm e
      · exact h
theorem merge_nd : ∀ (kvs acc : List (Key × V)), ((acc ++ kvs).map (·.1)).Nodup → mergeK acc kvs = acc ++ kvs
  | [], acc, _ => by rw [List.append_nil]; rfl
  | (k, v) :: r, acc, h => by
    have hno : (acc.any fun kv => decide (kv.1 = k)) = false := by
      rw [List.any_eq_false]
      intro kv hkv e
      have e := of_decide_eq_true e
      rw [List.map_append, List.map_cons] at h
      have := (List.nodup_append.mp h).2.2 kv.1 (List.mem_map.mpr ⟨kv, hkv, rfl⟩) k (List.mem_cons_self ..)
      exact this e
    have e1 : putK acc k v = acc ++ [(k, v)] := by
      unfold putK
      rw [hno, if_neg Bool.false_ne_true]
    show mergeK (putK acc k v) r = _
    rw [e1, merge_nd r (acc ++ [(k, v)]) (by rw [List.append_assoc]; exact h), List.append_assoc]
    rfl
theorem merge_prs {prs : List (Str × Int)} (h : (prs.map (·.1)).Nodup) : mergeK [] (prs.map encP) = prs.map encP := by
  rw [merge_nd, List.nil_append]
  rw [List.nil_append, List.map_map]
  have e : ((fun x : Key × V => x.1) ∘ encP) = (fun x : Str × Int => (Sum.inr x.1 : Key)) := rfl
  rw [e]
  have e2 : (prs.map fun x : Str × Int => (Sum.inr x.1 : Key)) = (prs.map (·.1)).map Sum.inr := by
    rw [List.map_map]
    rfl
  rw [e2]
  exact List.Pairwise.map _ (fun a b z y => z (Sum.inr.inj y)) h
section
variable {P : Program} {w : World} {K : PySem.W.Frag} {mg : Str → Option Value} {base : Heap}
abbrev s_pair_worth : Stmt := topS 5
theorem sc_pair_worth : FnScope ["rules", "both", "text", "worth"] ["rules", "both"] (defScope s_pair_worth) :=
  ⟨rfl, rfl, rfl, by decide +kernel, rfl, by decide +kernel, by decide +kernel⟩
def spPW : Sp := fun vs H Q _ => ∃ (v : V) (r : Rl) (b : Str), vs = [v, .str b] ∧ RulesW H v r ∧ Q (pwV r.prs b) H
theorem ok_pw {f : Addr} {fd : FuncData} {k : Nat} (F : Fun K "pair_worth" "pair_worth" s_pair_worth f fd) : FnOk P w K mg base CX0 (k + 1) f fd ["rules", "both"] spPW := by
  refine F.ok sc_pair_worth (fun vs H Q E h => ?_) (fun cdv A outer s H vs Q E hr h => ?_)
  · obtain ⟨v, r, b, rfl, _⟩ := h
    rfl
  · obtain ⟨v, r, b, rfl, ⟨a, vp, vl, vs, rfl, hA, ⟨ap, us, rfl, hp, hR⟩, _, _⟩, q⟩ := h
    refine ⟨_, (pss_cons (ps_for PassesOwn.never rfl (pi_tup (pe_ix (ixT K) (pv 0) pe_int (fun _ _ => rfl))) (pg_tup rfl (pgs_cons (pg_name (i := 2) sc_pair_worth.nd rfl (.inl rfl)) (pgs_cons (pg_name (i := 3) sc_pair_worth.nd rfl (.inl rfl)) pgs_nil))) (pss_one (ps_if (pt_cmpR op_eq (pv 2) (pv 1) (nomark _)) (pss_one (ps_ret (pv 3))) pss_nil)))
      (pss_one (ps_ret pe_non))), ?_⟩
    have hlen := paired_len hR
    refine ⟨_, rfl, a, _, 1, _, rfl, rfl, SqT.of hA, rfl, ap, rfl, ⟨_, SqT.w hp⟩, for_tup (xs := us) (fun i σ H2 => ∃ (y2 y3 : Option V), σ = [some (.ref a), some (.str b), y2, y3] ∧ H2 = H ∧ pwV (r.prs.drop i) b = pwV r.prs b)
      ⟨none, none, rfl, rfl, rfl⟩ (fun i σ H2 _ ⟨y2, y3, _, e, _⟩ => SqT.w (by rw [e]; exact hp)) (fun i u σ H2 hi hv => ?_) (fun σ H2 hv => ?_)⟩
    · obtain ⟨y2, y3, rfl, rfl, hd⟩ := hv
      obtain ⟨⟨t, x⟩, hx, a1, rfl, ha1⟩ := paired_get hR hi
      rw [pwV_at hx] at hd
      refine ⟨a1, _, rfl, SqT.of ha1, rfl, _, _, rfl, _, _, rfl, rfl, ?_⟩
      refine ⟨_, rfl, _, rfl, rfl, _, rfl, ite2 (fun e => ?_) (fun e => ?_)⟩
      · have e2 : t = b := V.str.inj (of_decide_eq_true e)
        rw [if_pos e2] at hd
        refine ⟨_, rfl, ?_⟩
        show Q (.int x) _
        rw [hd]
        exact q
      · have e2 : ¬ t = b := fun z => e (decide_eq_true (congrArg V.str z))
        rw [if_neg e2] at hd
        exact ⟨_, _, rfl, rfl, hd⟩
    · obtain ⟨y2, y3, rfl, rfl, hd⟩ := hv
      rw [pwV_end (by omega)] at hd
      show Q .non _
      rw [hd]
      exact q
abbrev CPW (P : Program) (w : World) (K : PySem.W.Frag) (mg : Str → Option Value) (base : Heap) : Prop := Ca P w K mg base 1 "pair_worth" ["rules", "both"] spPW
abbrev s_text_of : Stmt := topS 11
theorem sc_text_of : FnScope ["string", "pair"] ["string", "pair"] (defScope s_text_of) :=
  ⟨rfl, rfl, rfl, by decide +kernel, rfl, by decide +kernel, by decide +kernel⟩
def spTextOf : Sp := fun vs H Q _ => ∃ (x : Str) (t : Addr) (y : Int × Int), vs = [.str x, .ref t] ∧ H t = some (.tup [.int y.1, .int y.2]) ∧ x.length ≤ 1000 ∧ 0 ≤ y.1 ∧ y.1 < x.length ∧ 0 ≤ y.2 ∧ y.2 < x.length ∧ Q (.str (tx2 x y)) H
theorem ok_text_of {f : Addr} {fd : FuncData} {k : Nat} (F : Fun K "text_of" "text_of" s_text_of f fd) : FnOk P w K mg base CX0 (k + 1) f fd ["string", "pair"] spTextOf := by
  refine F.ok sc_text_of (fun vs H Q E h => ?_) (fun cdv A outer s H vs Q E hr h => ?_)
  · obtain ⟨x, t, y, rfl, _⟩ := h
    rfl
  · obtain ⟨x, t, y, rfl, hT, hx, i0, i1, j0, j1, q⟩ := h
    refine ⟨_, (pss_one (ps_ret (pe_op op_add_str (pe_ix ix_str (pv 0) (pe_ix (ixT K) (pv 1) pe_int (fun _ _ => rfl)) (fun _ _ => rfl)) (pe_ix ix_str (pv 0) (pe_ix (ixT K) (pv 1) pe_int (fun _ _ => rfl)) (fun _ _ => rfl))))), ?_⟩
    refine ⟨_, rfl, _, rfl, t, _, 0, _, rfl, rfl, SqT.of hT, rfl, x, y.1, _, rfl, rfl, szL (by omega), sgn_at i0 i1, ?_⟩
    refine ⟨_, rfl, _, rfl, t, _, 1, _, rfl, rfl, SqT.of hT, rfl, x, y.2, _, rfl, rfl, szL (by omega), sgn_at j0 j1, ?_⟩
    exact ⟨_, _, rfl, rfl, szL (show 1 + 1 ≤ 1000000 by decide), q⟩
abbrev CTx (P : Program) (w : World) (K : PySem.W.Frag) (mg : Str → Option Value) (base : Heap) : Prop := Ca P w K mg base 1 "text_of" ["string", "pair"] spTextOf
abbrev s_may_pair : Stmt := topS 12
theorem sc_may_pair : FnScope ["rules", "string", "i", "j"] ["rules", "string", "i", "j"] (defScope s_may_pair) :=
  ⟨rfl, rfl, rfl, by decide +kernel, rfl, by decide +kernel, by decide +kernel⟩
def spMP : Sp := fun vs H Q _ => ∃ (v : V) (r : Rl) (x : Str) (i j : Int), vs = [v, .str x, .int i, .int j] ∧ RulesW H v r ∧ x.length ≤ 1000 ∧ 0 ≤ i ∧ i < j ∧ j < x.length ∧ ∀ H', Ext H H' → Q (.bl (mayC r x i j)) H'
theorem ok_mp {f : Addr} {fd : FuncData} (F : Fun K "may_pair" "may_pair" s_may_pair f fd) (ctext_of : CTx P w K mg base) (cpair_worth : CPW P w K mg base) (mlen : mg "len" = none) : FnOk P w K mg base CX0 2 f fd ["rules", "string", "i", "j"] spMP := by
  refine F.ok sc_may_pair (fun vs H Q E h => ?_) (fun cdv A outer s H vs Q E hr h => ?_)
  · obtain ⟨v, r, x, i, j, rfl, _⟩ := h
    rfl
  · obtain ⟨v, r, x, i, j, rfl, hR, hx, e1, e2, e3, q⟩ := h
    obtain ⟨a, vp, vl, vs, rfl, hA, hp, hl, hs⟩ := id hR
    refine ⟨_, (pss_cons (ps_if (pt_not (pt_chain3 op_le op_lt op_lt pe_int (pv 2) (pv 3) (pe_callB call_len_str (by rfl) mlen (by decide +kernel) (pa_cons (pv 1) pa_nil)))) (pss_one (ps_ret pe_bl)) pss_nil)
      (pss_cons (ps_if (pt_cmpR op_lt (pe_op op_sub (pe_op op_sub (pv 3) (pv 2)) pe_int) (pe_ix (ixT K) (pv 0) pe_int (fun _ _ => rfl)) (nomark _)) (pss_one (ps_ret pe_bl)) pss_nil)
      (pss_one (ps_ret (pe_cmpR op_notN (pe_ca cpair_worth (hr.mono (by decide)) (by rfl) (pa_cons (pv 0) (pa_cons (pe_ca ctext_of (hr.mono (by decide)) (by rfl) (pa_cons (pv 1) (pa_cons (pe_tup (pa_cons (pv 2) (pa_cons (pv 3) pa_nil))) pa_nil))) pa_nil))) pe_non (nomark _)))))), ?_⟩
    refine ⟨_, rfl, 0, i, rfl, rfl, _, rfl, ?_⟩
    rw [decide_eq_true e1]
    refine iteT ⟨_, rfl, i, j, rfl, rfl, _, rfl, ?_⟩
    rw [decide_eq_true e2]
    refine iteT ⟨_, rfl, x, rfl, szL (by omega), _, _, rfl, rfl, _, rfl, ?_⟩
    rw [decide_eq_true e3]
    refine iteF ⟨_, rfl, _, rfl, _, _, rfl, rfl, _, 1, rfl, rfl, _, rfl, a, _, 2, _, rfl, rfl, SqT.of hA, rfl, _, _, rfl, rfl, _, rfl, ite2 (fun e4 => ?_) (fun e4 => ?_)⟩
    · have e4 : j - i - 1 < r.span := of_decide_eq_true e4
      have e : mayC r x i j = false := by
        unfold mayC
        rw [decide_eq_false (show ¬ r.span < j - i by omega), Bool.false_and]
      have := q H Ext.refl
      rw [e] at this
      exact this
    · have e4 : ¬ j - i - 1 < r.span := fun z => e4 (decide_eq_true z)
      refine ⟨_, rfl, _, rfl, _, rfl, _, rfl, szL (show 2 ≤ 1000000 by decide), fun t ht => ?_⟩
      refine ⟨x, t, (i, j), rfl, upd_same, hx, e1, (show i < x.length by omega), (show 0 ≤ j by omega), e3, ?_⟩
      refine ⟨_, r, _, rfl, RulesW.mono _ _ _ _ (TupK.new ht) hR, rfl, ?_⟩
      have e : mayC r x i j = !decide (pwV r.prs (tx2 x (i, j)) = .non) := by
        unfold mayC
        rw [decide_eq_true (show r.span < j - i by omega), Bool.true_and, pwV_is]
      have := q _ (Ext.new (o := .tup [.int i, .int j]) ht)
      rw [e] at this
      exact this
abbrev CMP (P : Program) (w : World) (K : PySem.W.Frag) (mg : Str → Option Value) (base : Heap) : Prop := Ca P w K mg base 2 "may_pair" ["rules", "string", "i", "j"] spMP
abbrev s_is_string : Stmt := topS 9
theorem sc_is_string : FnScope ["rules", "thing", "letter"] ["rules", "thing"] (defScope s_is_string) :=
  ⟨rfl, rfl, rfl, by decide +kernel, rfl, by decide +kernel, by decide +kernel⟩
def spIS : Sp := fun vs H Q _ => ∃ (v : V) (r : Rl) (x : Str), vs = [v, .str x] ∧ RulesW H v r ∧ x.length ≤ 12 ∧ Of r.letters x ∧ ∀ H', Ext H H' → Q (.bl true) H'
theorem ok_is {f : Addr} {fd : FuncData} {k : Nat} (F : Fun K "is_string" "is_string" s_is_string f fd) {tM : Tok} (gMOST_PLACES : mg "MOST_PLACES" = some (.int 12 tM)) (misinstance : mg "isinstance" = none) (mstr : mg "str" = none) (mlen : mg "len" = none) (mall : mg "all" = none) : FnOk P w K mg base CX0 (k + 1) f fd ["rules", "thing"] spIS := by
  refine F.ok sc_is_string (fun vs H Q E h => ?_) (fun cdv A outer s H vs Q E hr h => ?_)
  · obtain ⟨v, r, x, rfl, _⟩ := h
    rfl
  · obtain ⟨v, r, x, rfl, hR, hx, hof, q⟩ := h
    obtain ⟨a, vp, vl, vs, rfl, hA, hp, hl, hs⟩ := id hR
    refine ⟨_, (pss_cons (ps_if (PW.pt (pw_or (pt_not (pt_val (pe_callB (isi1 K) (by rfl) misinstance (by decide +kernel) (pa_cons (pv 1) (pa_cons (pe_bltn (v := .ty "str") (by rfl) mstr (by decide +kernel) rfl) pa_nil))))) (pw_or1 (pt_cmpR op_gt (pe_callB call_len_str (by rfl) mlen (by decide +kernel) (pa_cons (pv 1) pa_nil)) (pe_glob (v := .int 12) (by rfl) gMOST_PLACES ⟨_, rfl⟩) (nomark _))))) (pss_one (ps_ret pe_bl)) pss_nil)
      (pss_one (ps_ret (pe_callB (cr_all rfl) (by rfl) mall (by decide +kernel) (pa_cons (pe_lc (own := [("letter", 2)]) (g := gName 2) (by rfl) sc_is_string.nd (pi_str (pv 1)) (blkOk_by (own := [("letter", 2)]) (N := ["rules", "thing", "letter"]) (sc := defScope s_is_string) (by decide +kernel)) (fun _ _ _ _ _ => (pg_name (i := 2) sc_is_string.nd rfl (.inl rfl))) (fun _ _ _ _ _ => pts_nil) (fun _ _ _ _ _ => (pe_cmpR op_in_sign (pv 2) (pe_ix (ixT K) (pv 0) pe_int (fun _ _ => rfl)) (by rfl)))) pa_nil))))), ?_⟩
    refine ⟨_, rfl, .str x, .ty "str", _, _, true, rfl, .ty _, .base (.str x), kit_ty (by decide +kernel), true, rfl, iteF ?_⟩
    refine ⟨_, rfl, x, rfl, szL (by omega), _, _, rfl, rfl, _, rfl, ?_⟩
    rw [decide_eq_false (show ¬ (x.length : Int) > 12 by omega)]
    refine iteF ⟨_, rfl, _, rfl, fun D hD => lc_str (fun i H2 => H2 D = some (.lst ((List.replicate i true).map V.bl)) ∧ Ext H H2) ⟨upd_same, Ext.new hD⟩ (fun i ch H2 hi hv => ?_) (fun H2 hv => ?_)⟩
    · obtain ⟨hL, k2⟩ := hv
      have hi12 : i < x.length := (Array.getElem?_eq_some_iff.mp hi).1
      have hm : ch ∈ r.letters.cps.toList := hof ch (Array.mem_toList_iff.mpr (Array.mem_of_getElem? hi))
      refine ⟨rfl, _, rfl, _, rfl, a, _, 0, _, rfl, rfl, SqT.of (k2 _ _ hA), rfl, ch, r.letters, rfl, rfl, _, hL, szLt ?_, ?_, k2.put hD⟩
      · rw [List.length_map, List.length_replicate]
        omega
      · rw [upd_same, List.replicate_succ', List.map_append, decide_eq_true hm]
        rfl
    · obtain ⟨hL, k2⟩ := hv
      refine ⟨D, _, rfl, SqL.of hL, ?_⟩
      have : (List.replicate x.cps.size true).all id = true := by
        rw [List.all_replicate]
        simp
      rw [this]
      exact q _ k2
abbrev CIS (P : Program) (w : World) (K : PySem.W.Frag) (mg : Str → Option Value) (base : Heap) : Prop := Ca P w K mg base 1 "is_string" ["rules", "thing"] spIS
abbrev s_need_string : Stmt := topS 10
theorem sc_need_string : FnScope ["rules", "thing"] ["rules", "thing"] (defScope s_need_string) :=
  ⟨rfl, rfl, rfl, by decide +kernel, rfl, by decide +kernel, by decide +kernel⟩
def spNS : Sp := fun vs H Q _ => ∃ (v : V) (r : Rl) (x : Str), vs = [v, .str x] ∧ RulesW H v r ∧ x.length ≤ 12 ∧ Of r.letters x ∧ ∀ H', Ext H H' → Q .non H'
theorem ok_ns {f : Addr} {fd : FuncData} (F : Fun K "need_string" "need_string" s_need_string f fd) (cis_string : CIS P w K mg base) : FnOk P w K mg base CX0 2 f fd ["rules", "thing"] spNS := by
  refine F.ok sc_need_string (fun vs H Q E h => ?_) (fun cdv A outer s H vs Q E hr h => ?_)
  · obtain ⟨v, r, x, rfl, _⟩ := h
    rfl
  · obtain ⟨v, r, x, rfl, hR, hx, hof, q⟩ := h
    refine ⟨_, (pss_one (ps_if (pt_not (pt_val (pe_ca cis_string (hr.mono (by decide)) (by rfl) (pa_cons (pv 0) (pa_cons (pv 1) pa_nil))))) (pss_one ps_never) pss_nil)), ?_⟩
    exact ⟨_, rfl, _, rfl, v, r, x, rfl, hR, hx, hof, fun H' k => ⟨_, rfl, iteF (q H' k)⟩⟩
abbrev CNS (P : Program) (w : World) (K : PySem.W.Frag) (mg : Str → Option Value) (base : Heap) : Prop := Ca P w K mg base 2 "need_string" ["rules", "thing"] spNS
end
end Pf


namespace Pf
open PySem PySem.Spec PyProof.Rows L2
abbrev Fo : Type := List (Int × Int)
/-! ### all foldings of a stretch, one behind another -/
def seg (r : Rl) (x : Str) (W : Nat → Int → List Fo) (n : Nat) (a : Int) (t : Nat) : List Fo :=
  if mayC r x a (a + 1 + t) = true then (W t (a + 1)).flatMap fun one => (W (n - 1 - t) (a + 2 + t)).map fun other => (a, a + 1 + t) :: (one ++ other) else []
def ws (r : Rl) (x : Str) : Nat → Nat → Int → List Fo
  | 0, _, _ => [[]]
  | _ + 1, 0, _ => [[]]
  | f + 1, n + 1, a => ws r x f n (a + 1) ++ (List.range n).flatMap fun t => seg r x (ws r x f) n a t
theorem seg_congr {r : Rl} {x : Str} {W W' : Nat → Int → List Fo} {n : Nat} {a : Int} {t : Nat} (ht : t < n) (h : ∀ m b, m < n → W m b = W' m b) : seg r x W n a t = seg r x W' n a t := by
  unfold seg
  rw [h t _ ht, h (n - 1 - t) _ (by omega)]
theorem flat_congr {α β : Type} {f g : α → List β} {l : List α} (h : ∀ y ∈ l, f y = g y) : l.flatMap f = l.flatMap g := by
  rw [List.flatMap_def, List.flatMap_def, List.map_congr_left h]
theorem ws_fuel (r : Rl) (x : Str) : ∀ (n f g : Nat) (a : Int), n ≤ f → n ≤ g → ws r x f n a = ws r x g n a := by
  intro n
  induction n using Nat.strongRecOn with
  | ind n ih =>
    intro f g a hf hg
    match n, f, g, hf, hg, ih with
    | 0, 0, 0, _, _, _ => rfl
    | 0, 0, g + 1, _, _, _ => rfl
    | 0, f + 1, 0, _, _, _ => rfl
    | 0, f + 1, g + 1, _, _, _ => rfl
    | n + 1, f + 1, g + 1, hf, hg, ih =>
      rw [ws, ws, ih n (by omega) f g (a + 1) (by omega) (by omega)]
      congr 1
      refine flat_congr fun t ht => ?_
      have ht := List.mem_range.mp ht
      exact seg_congr ht fun m b hm => ih m (by omega) f g b (by omega) (by omega)
def WA (r : Rl) (x : Str) (n : Nat) (a : Int) : List Fo := ws r x n n a
theorem WA_zero (r : Rl) (x : Str) (a : Int) : WA r x 0 a = [[]] := rfl
theorem WA_succ (r : Rl) (x : Str) (n : Nat) (a : Int) : WA r x (n + 1) a = WA r x n (a + 1) ++ (List.range n).flatMap fun t => seg r x (WA r x) n a t := by
  unfold WA
  rw [ws]
  congr 1
  refine flat_congr fun t ht => ?_
  have ht := List.mem_range.mp ht
  exact seg_congr ht fun m b hm => ws_fuel r x m n m b (by omega) (Nat.le_refl _)
theorem WA_one (r : Rl) (x : Str) (a : Int) : WA r x 1 a = [[]] := by
  rw [WA_succ, WA_zero]
  rfl
theorem WA_head (r : Rl) (x : Str) : ∀ (n : Nat) (a : Int), ∃ t, WA r x n a = [] :: t
  | 0, _ => ⟨[], rfl⟩
  | n + 1, a => by
    obtain ⟨t, e⟩ := WA_head r x n (a + 1)
    rw [WA_succ, e]
    exact ⟨_, rfl⟩
/-! ### how many, how long -/
def mz : Nat → Nat → Nat
  | 0, _ => 1
  | _ + 1, 0 => 1
  | f + 1, n + 1 => mz f n + ((List.range n).map fun t => mz f t * mz f (n - 1 - t)).sum
theorem sum_le {f g : Nat → Nat} : ∀ {l : List Nat}, (∀ t ∈ l, f t ≤ g t) → (l.map f).sum ≤ (l.map g).sum
  | [], _ => Nat.le_refl _
  | t :: r, h => by
    have h1 := h t (List.mem_cons_self ..)
    have h2 := sum_le (l := r) fun y hy => h y (List.mem_cons_of_mem _ hy)
    rw [List.map_cons, List.sum_cons, List.map_cons, List.sum_cons]
    omega
theorem flat_len {α β : Type} (f : α → List β) : ∀ l : List α, (l.flatMap f).length = (l.map fun y => (f y).length).sum
  | [] => rfl
  | y :: r => by
    rw [List.flatMap_cons, List.length_append, flat_len f r, List.map_cons, List.sum_cons]
theorem flat_const {α β : Type} {f : α → List β} {c : Nat} : ∀ {l : List α}, (∀ y ∈ l, (f y).length = c) → (l.flatMap f).length = l.length * c
  | [], _ => by rw [List.length_nil, Nat.zero_mul]; rfl
  | y :: r, h => by
    rw [List.flatMap_cons, List.length_append, h y (List.mem_cons_self ..), flat_const fun z hz => h z (List.mem_cons_of_mem _ hz), List.length_cons, Nat.succ_mul]
    omega
theorem seg_len {r : Rl} {x : Str} {W : Nat → Int → List Fo} {n : Nat} {a : Int} {t : Nat} : (seg r x W n a t).length ≤ (W t (a + 1)).length * (W (n - 1 - t) (a + 2 + t)).length := by
  unfold seg
  split
  · rw [flat_const (c := (W (n - 1 - t) (a + 2 + t)).length) fun y _ => List.length_map ..]
    exact Nat.le_refl _
  · exact Nat.zero_le _
theorem ws_len (r : Rl) (x : Str) : ∀ (f n : Nat) (a : Int), (ws r x f n a).length ≤ mz f n
  | 0, _, _ => Nat.le_refl _
  | _ + 1, 0, _ => Nat.le_refl _
  | f + 1, n + 1, a => by
    rw [ws, mz, List.length_append, flat_len]
    refine Nat.add_le_add (ws_len r x f n (a + 1)) (sum_le fun t _ => ?_)
    exact Nat.le_trans seg_len (Nat.mul_le_mul (ws_len r x f t _) (ws_len r x f _ _))
theorem WA_len (r : Rl) (x : Str) {n : Nat} (hn : n ≤ 12) (a : Int) : (WA r x n a).length ≤ 15511 := by
  have h1 := ws_len r x n n a
  have h2 : ∀ m : Nat, m < 13 → mz m m ≤ 15511 := by decide +kernel
  exact Nat.le_trans h1 (h2 n (by omega))
theorem WA_len10 (r : Rl) (x : Str) {n : Nat} (hn : n ≤ 10) (a : Int) : (WA r x n a).length ≤ 2188 := by
  have h1 := ws_len r x n n a
  have h2 : ∀ m : Nat, m < 11 → mz m m ≤ 2188 := by decide +kernel
  exact Nat.le_trans h1 (h2 n (by omega))
/-- each folding of a stretch: places within it, at most half as many pairs -/
theorem WA_in (r : Rl) (x : Str) : ∀ (n : Nat) (a : Int), ∀ q ∈ WA r x n a, (∀ y ∈ q, a ≤ y.1 ∧ y.1 < y.2 ∧ y.2 < a + n) ∧ 2 * q.length ≤ n := by
  intro n
  induction n using Nat.strongRecOn with
  | ind n ih =>
    intro a q hq
    match n, ih, hq with
    | 0, _, hq =>
      rw [WA_zero, List.mem_singleton] at hq
      subst hq
      exact ⟨(fun y hy => by cases hy), Nat.zero_le _⟩
    | n + 1, ih, hq =>
      rw [WA_succ] at hq
      rcases List.mem_append.mp hq with hq | hq
      · have := ih n (by omega) (a + 1) q hq
        exact ⟨fun y hy => by have := this.1 y hy; omega, by omega⟩
      · obtain ⟨t, ht, hq⟩ := List.mem_flatMap.mp hq
        have ht := List.mem_range.mp ht
        unfold seg at hq
        split at hq
        · obtain ⟨one, h1, hq⟩ := List.mem_flatMap.mp hq
          obtain ⟨other, h2, rfl⟩ := List.mem_map.mp hq
          have i1 := ih t (by omega) (a + 1) one h1
          have i2 := ih (n - 1 - t) (by omega) (a + 2 + t) other h2
          refine ⟨fun y hy => ?_, ?_⟩
          · rcases List.mem_cons.mp hy with rfl | hy
            · show a ≤ a ∧ a < a + 1 + t ∧ a + 1 + t < a + (n + 1 : Nat)
              omega
            · rcases List.mem_append.mp hy with hy | hy
              · have := i1.1 y hy
                omega
              · have := i2.1 y hy
                omega
          · rw [List.length_cons, List.length_append]
            omega
        · cases hq
/-! ### foldings in the heap, in a list -/
abbrev FoAt : Hp → V → Fo → Prop := TupOf TwoAt
theorem FoAt.mono : Mono FoAt := TupOf.mono TwoAt.mono
theorem paired_get2 {α β : Type} {R : α → β → Prop} {xs : List α} {ys : List β} {i : Nat} {x : α} (h : Paired R xs ys) (e : xs[i]? = some x) : ∃ y, ys[i]? = some y ∧ R x y := paired_get h e
section
variable {β : Type} {R : Hp → V → β → Prop} {D : Addr} {H H1 H4 : Hp} {bs : List β} {i n : Nat} {v : V} {b : β}
def GenP (R : Hp → V → β → Prop) (D : Addr) (H1 : Hp) (bs : List β) (i : Nat) (H : Hp) : Prop := ∃ vs, H D = some (.lst vs) ∧ Paired (R H) vs (bs.take i) ∧ Ext H1 H
theorem gen_new (hD : H1 D = none) : GenP R D H1 bs 0 (upd H1 D (.lst [])) := ⟨[], upd_same, by rw [List.take_zero]; exact .nil, Ext.new hD⟩
theorem GenP.ext (h : GenP R D H1 bs i H) : Ext H1 H := by
  obtain ⟨_, _, _, k⟩ := h
  exact k
theorem gen_step (m : Mono R) (hD : H1 D = none) (h : GenP R D H1 bs i H) (k : Ext H H4) (hv : R H4 v b) (hb : bs[i]? = some b) (hn : bs.length ≤ 1000000) : ∃ acc, H4 D = some (.lst acc) ∧ acc.length < sizeLine ∧ GenP R D H1 bs (i + 1) (upd H4 D (.lst (acc ++ [v]))) := by
  obtain ⟨vs, hL, hP, k1⟩ := h
  have hl := paired_len hP
  rw [List.length_take] at hl
  have hi := (List.getElem?_eq_some_iff.mp hb).1
  have hL4 := k _ _ hL
  refine ⟨vs, hL4, szLt (by omega), vs ++ [v], upd_same, ?_, (k1.trans k).put hD⟩
  rw [List.take_add_one, hb]
  exact paired_app (paired_imp (fun _ _ => m _ _ _ _ ((TupK.ext k).trans (TupK.lst hL4))) hP) (.cons (m _ _ _ _ (TupK.lst hL4) hv) .nil)
theorem gen_end (h : GenP R D H1 bs n H) (hn : bs.length ≤ n) : ∃ vs, H D = some (.lst vs) ∧ Paired (R H) vs bs ∧ Ext H1 H := by
  obtain ⟨vs, hL, hP, k⟩ := h
  rw [List.take_of_length_le hn] at hP
  exact ⟨vs, hL, hP, k⟩
end
section
variable {P : Program} {w : World} {K : PySem.W.Frag} {mg : Str → Option Value} {base : Heap}
/-! ### sorted -/
def dTwo (x : Int × Int) : PyData := .tuple [.int x.1, .int x.2]
def dFo (q : Fo) : PyData := .tuple (q.map dTwo)
theorem dpTwos {K : PySem.W.Frag} {H : Hp} : ∀ {vs : List V} {ps : List (Int × Int)}, Paired (TwoAt H) vs ps → DpAll K H vs (ps.map dTwo)
  | _, _, .nil => .nil
  | _, _, .cons ⟨_, e, h⟩ t => .cons (e ▸ .tup (SqT.of h) (.cons (.int _) (.cons (.int _) .nil))) (dpTwos t)
theorem dp_fo {K : PySem.W.Frag} {H : Hp} {v : V} {q : Fo} (h : FoAt H v q) : Dp K H v (dFo q) := by
  obtain ⟨a, vs, rfl, h1, h2⟩ := h
  exact .tup (SqT.of h1) (dpTwos h2)
theorem dpFos {K : PySem.W.Frag} {H : Hp} : ∀ {vs : List V} {L : List Fo}, Paired (FoAt H) vs L → DpAll K H vs (L.map dFo)
  | _, _, .nil => .nil
  | _, _, .cons h t => .cons (dp_fo h) (dpFos t)
theorem dep_twos : ∀ q : List (Int × Int), PyData.depthAll (q.map dTwo) ≤ 1
  | [] => by simp [PyData.depthAll]
  | y :: r => by
    rw [List.map_cons, PyData.depthAll]
    have := dep_twos r
    have h1 : (dTwo y).depth = 1 := by simp [dTwo, PyData.depth, PyData.depthAll]
    rw [h1]
    omega
theorem dep_fo (q : Fo) : (dFo q).depth ≤ 2 := by
  unfold dFo
  rw [PyData.depth]
  have := dep_twos q
  omega
theorem alike_twos : ∀ q s : List (Int × Int), PySem.W.alikeAll (q.map dTwo) (s.map dTwo) = true
  | [], _ => by simp [PySem.W.alikeAll]
  | _ :: _, [] => by simp [PySem.W.alikeAll]
  | y :: q, z :: s => by
    rw [List.map_cons, List.map_cons, PySem.W.alikeAll, alike_twos q s]
    simp [dTwo, PySem.W.alike, PySem.W.alikeAll]
def SF (L : List Fo) : List Fo := L.mergeSort (PySem.W.dataLe false dFo)
theorem sort_fos {K : PySem.W.Frag} {H : Hp} {l : Addr} {us : List V} {L : List Fo} {t : List Fo} {Q : VK} (hL : H l = some (.lst us)) (hP : Paired (FoAt H) us L) (h0 : L = [] :: t) (q : ∀ (p : Addr) (ws : List V) (H' : Hp), H p = none → H' p = some (.lst ws) → Paired (FoAt H') ws (SF L) → Ext H H' → Q (.ref p) H') : rSortE K [.ref l] H Q := by
  have hz := paired_len hP
  have e1 : (us.zip L).map (·.1) = us := List.map_fst_zip (by omega)
  have e2 : (us.zip L).map (·.2) = L := List.map_snd_zip (by omega)
  have hall : ∀ b ∈ us.zip L, FoAt H b.1 b.2 := by
    clear e1 e2 hz h0 q hL
    induction hP with
    | nil => intro b hb; cases hb
    | cons r _ ih =>
      intro b hb
      rw [List.zip_cons_cons] at hb
      rcases List.mem_cons.mp hb with rfl | hb
      · exact r
      · exact ih b hb
  have ed : (us.zip L).map (fun b => dFo b.2) = L.map dFo := by
    have := congrArg (List.map dFo) e2
    rw [List.map_map] at this
    exact this
  refine ⟨V × Fo, fun b => b.1, fun b => dFo b.2, l, us.zip L, t.map dFo, rfl, SqL.of (by rw [e1]; exact hL), fun b hb => ⟨dp_fo (hall b hb), Nat.le_trans (dep_fo _) (by decide)⟩, ?_, ?_, ?_, fun p hp => ?_⟩
  · intro d1 h1 d2 h2
    obtain ⟨b1, _, rfl⟩ := List.mem_map.mp h1
    obtain ⟨b2, _, rfl⟩ := List.mem_map.mp h2
    show PySem.W.alike (.tuple _) (.tuple _) = true
    rw [PySem.W.alike]
    exact alike_twos _ _
  · rw [ed, h0]
    rfl
  · intro e he
    obtain ⟨b1, _, rfl⟩ := List.mem_map.mp he
    exact ⟨_, rfl⟩
  · have x1 := Ext.new (o := .lst (((us.zip L).mergeSort (PySem.W.dataLe false fun b => dFo b.2)).map fun b => b.1)) hp
    refine q p _ _ hp upd_same ?_ x1
    have es : ((us.zip L).mergeSort (PySem.W.dataLe false fun b => dFo b.2)).map (·.2) = SF L := by
      have hm := List.map_mergeSort (r := PySem.W.dataLe false fun b : V × Fo => dFo b.2) (s := PySem.W.dataLe false dFo) (f := fun b : V × Fo => b.2) (l := us.zip L) (fun a _ b _ => rfl)
      rw [e2] at hm
      exact hm
    rw [← es]
    have hm : ∀ b ∈ (us.zip L).mergeSort (PySem.W.dataLe false fun b => dFo b.2), FoAt H b.1 b.2 := fun b hb => hall b ((List.mergeSort_perm _ _).mem_iff.mp hb)
    generalize (us.zip L).mergeSort (PySem.W.dataLe false fun b => dFo b.2) = S at hm x1
    have : ∀ {T : List (V × Fo)} {H2 : Hp}, (∀ b ∈ T, FoAt H b.1 b.2) → Ext H H2 → Paired (FoAt H2) (T.map (·.1)) (T.map (·.2)) := by
      intro T H2 hT hx
      induction T with
      | nil => exact .nil
      | cons b T ih => exact .cons (FoAt.mono _ _ _ _ (TupK.ext hx) (hT b (List.mem_cons_self ..))) (ih fun c hc => hT c (List.mem_cons_of_mem _ hc))
    exact this hm x1
end
end Pf


namespace Pf
open PySem PySem.Spec PyProof.Rows L2
/-! ### loops: what is asked -/
def swI : List (Str × Str × Int) → Str → Str → Int
  | [], _, _ => 0
  | (t, u, x) :: r, o, n => if t = o ∧ u = n then x else swI r o n
theorem swI_at {stk : List (Str × Str × Int)} {i : Nat} {t u : Str} {x : Int} (h : stk[i]? = some (t, u, x)) (o n : Str) : swI (stk.drop i) o n = if t = o ∧ u = n then x else swI (stk.drop (i + 1)) o n := by
  obtain ⟨hi, e⟩ := List.getElem?_eq_some_iff.mp h
  rw [List.drop_eq_getElem_cons hi, e, swI]
theorem swI_end {stk : List (Str × Str × Int)} {i : Nat} (h : stk.length ≤ i) (o n : Str) : swI (stk.drop i) o n = 0 := by
  rw [List.drop_eq_nil_of_le h, swI]
theorem swI_bound {stk : List (Str × Str × Int)} (h : ∀ y ∈ stk, -99 ≤ y.2.2 ∧ y.2.2 ≤ 99) (o n : Str) : -99 ≤ swI stk o n ∧ swI stk o n ≤ 99 := by
  induction stk with
  | nil => exact ⟨by show -99 ≤ (0 : Int); decide, by show (0 : Int) ≤ 99; decide⟩
  | cons y r ih =>
    rw [swI]
    by_cases e : y.1 = o ∧ y.2.1 = n
    · rw [if_pos e]
      exact h y (List.mem_cons_self ..)
    · rw [if_neg e]
      exact ih fun z hz => h z (List.mem_cons_of_mem _ hz)
inductive Sep2 : Int → Int → List (Int × Int) → Prop
  | nil {lo hi : Int} : lo ≤ hi → Sep2 lo hi []
  | cons {lo hi p q : Int} {ks : List (Int × Int)} : lo ≤ p → p ≤ q → Sep2 (q + 1) hi ks → Sep2 lo hi ((p, q) :: ks)
def wid (ks : List (Int × Int)) : Int := (ks.map fun y => y.2 - y.1 + 1).sum
theorem Sep2.wid {lo hi : Int} {ks : List (Int × Int)} (h : Sep2 lo hi ks) : 0 ≤ wid ks ∧ wid ks ≤ hi - lo := by
  induction h with
  | nil h => exact ⟨Int.le_refl _, by show (0 : Int) ≤ _; omega⟩
  | @cons lo hi p q ks h1 h2 _ ih =>
    have e : Pf.wid ((p, q) :: ks) = (q - p + 1) + Pf.wid ks := by
      unfold Pf.wid
      rw [List.map_cons, List.sum_cons]
    rw [e]
    omega
def freeI (one : Int × Int) (ks : List (Int × Int)) : Int := one.2 - one.1 - 1 - wid ks
theorem free_sep {one : Int × Int} {ks : List (Int × Int)} (h : Sep2 (one.1 + 1) one.2 ks) : 0 ≤ freeI one ks ∧ freeI one ks ≤ one.2 - one.1 - 1 := by
  have := h.wid
  unfold freeI
  omega
def lo (r : Rl) (i : Nat) : Int := r.loops.getD i 0
def kindN (free : Int) (n : Nat) : Str := if n = 0 then "lone" else if 1 < n then "forked" else if 0 < free then "inner" else "stacked"
def lpW (r : Rl) (x : Str) (one : Int × Int) (ks : List (Int × Int)) : Int :=
  if ks.length = 0 then lo r 6 + freeI one ks * lo r 7 else if 1 < ks.length then lo r 3 + (ks.length * lo r 4 + freeI one ks * lo r 5) else if 0 < freeI one ks then lo r 1 + freeI one ks * lo r 2 else lo r 0 + swI r.stk (tx2 x one) (tx2 x (ks.headD (0, 0)))
def LN : List Str := ["stacked", "inner", "inner free", "forked", "branch", "fork free", "lone", "lone free", "open"]
theorem LN_nd : LN.Nodup := by decide +kernel
def dLo (cs : List Int) : List (Key × V) := (LN.zip cs).map fun x => (.inr x.1, .int x.2)
theorem val_zip : ∀ {ns : List Str} {cs : List Int} {i : Nat} {n : Str} {c : Int}, ns.Nodup → ns[i]? = some n → cs[i]? = some c → valV ((ns.zip cs).map fun x => ((.inr x.1 : Key), V.int x.2)) (.inr n) = some (.int c)
  | [], _, i, _, _, _, h, _ => by simp at h
  | _ :: _, [], i, _, _, _, _, h => by simp at h
  | a :: ns, b :: cs, 0, n, c, _, h, h2 => by
    rw [List.getElem?_cons_zero] at h h2
    cases h
    cases h2
    rw [List.zip_cons_cons, List.map_cons, valV_pos rfl]
  | a :: ns, b :: cs, i + 1, n, c, hn, h, h2 => by
    rw [List.getElem?_cons_succ] at h h2
    have hne : ¬ (Sum.inr a : Key) = Sum.inr n := fun z => by
      have z := Sum.inr.inj z
      rw [z] at hn
      exact (List.nodup_cons.mp hn).1 (List.mem_of_getElem? h)
    rw [List.zip_cons_cons, List.map_cons, valV_neg hne]
    exact val_zip (List.nodup_cons.mp hn).2 h h2
theorem dLo_keys : ∀ {ns : List Str} {cs : List Int}, ns.length = cs.length → ((ns.zip cs).map fun x => ((.inr x.1 : Key), V.int x.2)).map (·.1) = ns.map Sum.inr
  | [], _, _ => rfl
  | _ :: _, [], h => by cases h
  | a :: ns, b :: cs, h => by
    rw [List.zip_cons_cons, List.map_cons, List.map_cons, List.map_cons, dLo_keys (Nat.succ.inj h)]
theorem dLo_merge {cs : List Int} (h : cs.length = 9) : mergeK [] (dLo cs) = dLo cs := by
  rw [merge_nd, List.nil_append]
  rw [List.nil_append]
  unfold dLo
  rw [dLo_keys (by rw [h]; rfl)]
  show (LN.map (Sum.inr : Str → Key)).Nodup
  decide +kernel
theorem get_lo {H : Hp} {d : Addr} {cs : List Int} (h : H d = some (.dK (dLo cs))) (hc : cs.length = 9) {i : Nat} {n : Str} (hn : LN[i]? = some n) : DGet H d (.str n) (some (.int (cs.getD i 0))) := by
  have hi : i < 9 := (List.getElem?_eq_some_iff.mp hn).1
  have e : cs[i]? = some (cs.getD i 0) := by
    rw [List.getD_eq_getElem?_getD, List.getElem?_eq_getElem (by omega)]
    rfl
  have := val_zip (cs := cs) LN_nd hn e
  exact this ▸ DGet.k (k := .inr n) h
theorem dLo_vals : ∀ {ns : List Str} {cs : List Int}, ns.length = cs.length → ((ns.zip cs).map fun x => ((.inr x.1 : Key), V.int x.2)).map (·.2) = cs.map V.int
  | [], [], _ => rfl
  | [], _ :: _, h => by cases h
  | _ :: _, [], h => by cases h
  | a :: ns, b :: cs, h => by
    rw [List.zip_cons_cons, List.map_cons, List.map_cons, List.map_cons, dLo_vals (Nat.succ.inj h)]
theorem dLo_kV : ∀ {ns : List Str} {cs : List Int}, ns.length = cs.length → (((ns.zip cs).map fun x => ((.inr x.1 : Key), V.int x.2)).map fun x => kV x.1) = ns.map V.str
  | [], _, _ => rfl
  | _ :: _, [], h => by cases h
  | a :: ns, b :: cs, h => by
    rw [List.zip_cons_cons, List.map_cons, List.map_cons, List.map_cons, dLo_kV (Nat.succ.inj h)]
    rfl
theorem ints_of {H : Hp} : ∀ {vs : List V} {ns : List Int}, Paired (IntAt H) vs ns → vs = ns.map V.int
  | _, _, .nil => rfl
  | _, _, .cons h t => by
    have h : _ = V.int _ := h
    rw [List.map_cons, ← ints_of t, h]
theorem lo_bound {r : Rl} (ok : RlOk r) {i : Nat} (hi : i < 9) : -99 ≤ lo r i ∧ lo r i ≤ 99 := by
  have h : i < r.loops.length := by
    rw [ok.lo9]
    exact hi
  have e : lo r i = r.loops[i] := by
    unfold lo
    rw [List.getD_eq_getElem?_getD, List.getElem?_eq_getElem h]
    rfl
  rw [e]
  exact ok.lo _ (List.getElem_mem h)
section
variable {P : Program} {w : World} {K : PySem.W.Frag} {mg : Str → Option Value} {base : Heap}
theorem sumI (K : PySem.W.Frag) {X : Cx} (hc : X.calm = true := by rfl) (h : X.K = K := by rfl) : CallR X (.builtin "sum") (rSum K) := h ▸ cr_sum hc
abbrev s_stack_worth : Stmt := topS 6
theorem sc_stack_worth : FnScope ["rules", "outer", "within", "text", "inner", "worth"] ["rules", "outer", "within"] (defScope s_stack_worth) :=
  ⟨rfl, rfl, rfl, by decide +kernel, rfl, by decide +kernel, by decide +kernel⟩
def spSW : Sp := fun vs H Q _ => ∃ (v : V) (r : Rl) (o n : Str), vs = [v, .str o, .str n] ∧ RulesW H v r ∧ Q (.int (swI r.stk o n)) H
theorem ok_sw {f : Addr} {fd : FuncData} {k : Nat} (F : Fun K "stack_worth" "stack_worth" s_stack_worth f fd) : FnOk P w K mg base CX0 (k + 1) f fd ["rules", "outer", "within"] spSW := by
  refine F.ok sc_stack_worth (fun vs H Q E h => ?_) (fun cdv A outer s H vs Q E hr h => ?_)
  · obtain ⟨v, r, o, n, rfl, _⟩ := h
    rfl
  · obtain ⟨v, r, o, n, rfl, ⟨a, vp, vl, vs, rfl, hA, _, _, ⟨as, us, rfl, hp, hR⟩⟩, q⟩ := h
    refine ⟨_, (pss_cons (ps_for PassesOwn.never rfl (pi_tup (pe_ix (ixT K) (pv 0) pe_int (fun _ _ => rfl))) (pg_tup rfl (pgs_cons (pg_name (i := 3) sc_stack_worth.nd rfl (.inl rfl)) (pgs_cons (pg_name (i := 4) sc_stack_worth.nd rfl (.inl rfl)) (pgs_cons (pg_name (i := 5) sc_stack_worth.nd rfl (.inl rfl)) pgs_nil)))) (pss_one (ps_if (PW.pt (pw_and (pt_cmpR op_eq (pv 3) (pv 1) (nomark _)) (pw_and1 (pt_cmpR op_eq (pv 4) (pv 2) (nomark _))))) (pss_one (ps_ret (pv 5))) pss_nil)))
      (pss_one (ps_ret pe_int))), ?_⟩
    have hlen := paired_len hR
    refine ⟨_, rfl, a, _, 4, _, rfl, rfl, SqT.of hA, rfl, as, rfl, ⟨_, SqT.of hp⟩, for_tup (xs := us) (fun i σ H2 => ∃ (y2 y3 y4 : Option V), σ = [some (.ref a), some (.str o), some (.str n), y2, y3, y4] ∧ H2 = H ∧ swI (r.stk.drop i) o n = swI r.stk o n)
      ⟨none, none, none, rfl, rfl, rfl⟩ (fun i σ H2 _ ⟨y2, y3, y4, _, e, _⟩ => SqT.of (by rw [e]; exact hp)) (fun i u σ H2 hi hv => ?_) (fun σ H2 hv => ?_)⟩
    · obtain ⟨y2, y3, y4, rfl, rfl, hd⟩ := hv
      obtain ⟨⟨t, t2, x⟩, hx, a1, rfl, ha1⟩ := paired_get hR hi
      rw [swI_at hx] at hd
      refine ⟨a1, _, rfl, SqT.of ha1, rfl, _, _, rfl, _, _, rfl, _, _, rfl, rfl, ?_⟩
      refine ⟨_, rfl, _, rfl, rfl, _, rfl, ite2 (fun e => ?_) (fun e => ?_)⟩
      · have e2 : t = o := V.str.inj (of_decide_eq_true e)
        refine ⟨_, rfl, _, rfl, rfl, _, rfl, ite2 (fun e3 => ?_) (fun e3 => ?_)⟩
        · have e4 : t2 = n := V.str.inj (of_decide_eq_true e3)
          rw [if_pos ⟨e2, e4⟩] at hd
          refine ⟨_, rfl, ?_⟩
          show Q (.int x) _
          rw [hd]
          exact q
        · have e4 : ¬ (t = o ∧ t2 = n) := fun z => e3 (decide_eq_true (congrArg V.str z.2))
          rw [if_neg e4] at hd
          exact ⟨_, _, _, rfl, rfl, hd⟩
      · have e4 : ¬ (t = o ∧ t2 = n) := fun z => e (decide_eq_true (congrArg V.str z.1))
        rw [if_neg e4] at hd
        exact ⟨_, _, _, rfl, rfl, hd⟩
    · obtain ⟨y2, y3, y4, rfl, rfl, hd⟩ := hv
      rw [swI_end (by omega)] at hd
      show Q (.int 0) _
      rw [hd]
      exact q
abbrev s_loop_worths : Stmt := topS 15
theorem sc_loop_worths : FnScope ["rules"] ["rules"] (defScope s_loop_worths) :=
  ⟨rfl, rfl, rfl, by decide +kernel, rfl, by decide +kernel, by decide +kernel⟩
def spLW : Sp := fun vs H Q _ => ∃ (v : V) (r : Rl), vs = [v] ∧ RulesW H v r ∧ r.loops.length = 9 ∧ ∀ d, H d = none → Q (.ref d) (upd H d (.dK (dLo r.loops)))
theorem ok_lw {f : Addr} {fd : FuncData} {k : Nat} {aLOOPS : Addr} (F : Fun K "loop_worths" "loop_worths" s_loop_worths f fd) (gLOOPS : mg "LOOPS" = some (.ref aLOOPS)) (hL : ∀ H : Hp, SqT K H aLOOPS (LN.map V.str)) (mdict : mg "dict" = none) (mzip : mg "zip" = none) : FnOk P w K mg base CX0 (k + 1) f fd ["rules"] spLW := by
  refine F.ok sc_loop_worths (fun vs H Q E h => ?_) (fun cdv A outer s H vs Q E hr h => ?_)
  · obtain ⟨v, r, rfl, _⟩ := h
    rfl
  · obtain ⟨v, r, rfl, ⟨a, vp, vl, vs, rfl, hA, _, ⟨al, us, rfl, hl, hR⟩, _⟩, h9, q⟩ := h
    refine ⟨_, (pss_one (ps_ret (pe_dictZip (by rfl) mdict (by rfl) mzip rfl (pa_cons (pe_glob (v := .ref aLOOPS) (by rfl) gLOOPS rfl) (pa_cons (pe_ix (ixT K) (pv 0) pe_int (fun _ _ => rfl)) pa_nil))))), ?_⟩
    have e9 : LN.length = r.loops.length := by
      rw [h9]
      rfl
    refine ⟨_, rfl, a, _, 3, _, rfl, rfl, SqT.of hA, rfl, aLOOPS, al, dLo r.loops, rfl, ?_, ?_, fun d hd => ?_⟩
    · unfold dLo
      rw [dLo_kV e9]
      exact hL H
    · unfold dLo
      rw [dLo_vals e9, ← ints_of hR]
      exact SqT.of hl
    · rw [dLo_merge h9]
      exact q d hd
abbrev s_kind_of : Stmt := topS 16
theorem sc_kind_of : FnScope ["free", "branches"] ["free", "branches"] (defScope s_kind_of) :=
  ⟨rfl, rfl, rfl, by decide +kernel, rfl, by decide +kernel, by decide +kernel⟩
def spKO : Sp := fun vs H Q _ => ∃ (fr : Int) (n : Nat), vs = [.int fr, .int (n : Nat)] ∧ Q (.str (kindN fr n)) H
theorem ok_ko {f : Addr} {fd : FuncData} {k : Nat} (F : Fun K "kind_of" "kind_of" s_kind_of f fd) : FnOk P w K mg base CX0 (k + 1) f fd ["free", "branches"] spKO := by
  refine F.ok sc_kind_of (fun vs H Q E h => ?_) (fun cdv A outer s H vs Q E hr h => ?_)
  · obtain ⟨fr, n, rfl, _⟩ := h
    rfl
  · obtain ⟨fr, n, rfl, q⟩ := h
    refine ⟨_, (pss_cons (ps_if (pt_cmpR op_eq (pv 1) pe_int (nomark _)) (pss_one (ps_ret pe_str)) pss_nil)
      (pss_cons (ps_if (pt_cmpR op_gt (pv 1) pe_int (nomark _)) (pss_one (ps_ret pe_str)) pss_nil)
      (pss_one (ps_ret (pe_ifExp (pt_cmpR op_gt (pv 0) pe_int (nomark _)) pe_str pe_str))))), ?_⟩
    unfold kindN at q
    refine ⟨_, rfl, rfl, _, rfl, ite2 (fun e => ?_) (fun e => ?_)⟩
    · have e : n = 0 := by
        have := V.int.inj (of_decide_eq_true e)
        omega
      rw [if_pos e] at q
      exact q
    · have e : ¬ n = 0 := fun z => e (decide_eq_true (by rw [z]; rfl))
      rw [if_neg e] at q
      refine ⟨_, rfl, _, _, rfl, rfl, _, rfl, ite2 (fun e1 => ?_) (fun e1 => ?_)⟩
      · have e1 : (1 : Int) < n := of_decide_eq_true e1
        rw [if_pos (by omega)] at q
        exact q
      · have e1 : ¬ (1 : Int) < n := fun z => e1 (decide_eq_true z)
        rw [if_neg (by omega)] at q
        refine ⟨_, rfl, _, _, rfl, rfl, _, rfl, ite2 (fun e2 => ?_) (fun e2 => ?_)⟩
        · have e2 : 0 < fr := of_decide_eq_true e2
          rw [if_pos e2] at q
          exact q
        · have e2 : ¬ 0 < fr := fun z => e2 (decide_eq_true z)
          rw [if_neg e2] at q
          exact q
end
def InX (x : Str) (qs : List (Int × Int)) : Prop := ∀ y ∈ qs, 0 ≤ y.1 ∧ y.1 < x.length ∧ 0 ≤ y.2 ∧ y.2 < x.length
theorem dget_ne {H H' : Hp} {d : Addr} {cs : List Int} (k : Ext H H') (h : H d = some (.dK (dLo cs))) : H' d = some (.dK (dLo cs)) := k _ _ h
theorem k_ne {a b : Str} (h : (a == b) = false) : (decide ((V.str a : V) = V.str b)) = false := decide_eq_false fun z => by
  have z := V.str.inj z
  rw [z] at h
  simp at h
section
variable {P : Program} {w : World} {K : PySem.W.Frag} {mg : Str → Option Value} {base : Heap}
abbrev CSW (P : Program) (w : World) (K : PySem.W.Frag) (mg : Str → Option Value) (base : Heap) : Prop := Ca P w K mg base 1 "stack_worth" ["rules", "outer", "within"] spSW
abbrev CLW (P : Program) (w : World) (K : PySem.W.Frag) (mg : Str → Option Value) (base : Heap) : Prop := Ca P w K mg base 1 "loop_worths" ["rules"] spLW
abbrev CKO (P : Program) (w : World) (K : PySem.W.Frag) (mg : Str → Option Value) (base : Heap) : Prop := Ca P w K mg base 1 "kind_of" ["free", "branches"] spKO
abbrev s_loop_within : Stmt := topS 17
theorem sc_loop_within : FnScope ["rules", "string", "pair", "within", "free", "kind", "told", "worth", "p", "q"] ["rules", "string", "pair", "within"] (defScope s_loop_within) :=
  ⟨rfl, rfl, rfl, by decide +kernel, rfl, by decide +kernel, by decide +kernel⟩
def spLoopW : Sp := fun vs H Q _ => ∃ (v : V) (r : Rl) (x : Str) (t l : Addr) (one : Int × Int) (us : List V) (ks : List (Int × Int)), vs = [v, .str x, .ref t, .ref l] ∧ RulesW H v r ∧ RlOk r ∧ x.length ≤ 1000 ∧ H t = some (.tup [.int one.1, .int one.2]) ∧ H l = some (.lst us) ∧ Paired (TwoAt H) us ks ∧ ks.length ≤ 1000 ∧ InX x [one] ∧ InX x ks ∧ 0 ≤ freeI one ks ∧ freeI one ks ≤ 1000 ∧
  ∀ (a : Addr) (H' : Hp), H' a = some (.tup [.str (kindN (freeI one ks) ks.length), .int (freeI one ks), .int (lpW r x one ks)]) → Ext H H' → Q (.ref a) H'
theorem ok_loopw {f : Addr} {fd : FuncData} (F : Fun K "loop_within" "loop_within" s_loop_within f fd) (cstack_worth : CSW P w K mg base) (ctext_of : CTx P w K mg base) (cloop_worths : CLW P w K mg base) (ckind_of : CKO P w K mg base) (msum : mg "sum" = none) (mlen : mg "len" = none) : FnOk P w K mg base CX0 2 f fd ["rules", "string", "pair", "within"] spLoopW := by
  refine F.ok sc_loop_within (fun vs H Q E h => ?_) (fun cdv A outer s H vs Q E hr h => ?_)
  · obtain ⟨v, r, x, t, l, one, us, ks, rfl, _⟩ := h
    rfl
  · obtain ⟨v, r, x, t, l, one, us, ks, rfl, hRu, ok, hx, hT, hL, hPk, hkl, hin1, hink, hf0, hf1, q⟩ := h
    refine ⟨_, (pss_cons (ps_set (i := 4) sc_loop_within.nd rfl (.inl rfl) (pe_op op_sub (pe_op op_sub (pe_op op_sub (pe_ix (ixT K) (pv 2) pe_int (fun _ _ => rfl)) (pe_ix (ixT K) (pv 2) pe_int (fun _ _ => rfl))) pe_int) (pe_callB (sumI K) (by rfl) msum (by decide +kernel) (pa_cons (pe_lc (own := [("p", 8), ("q", 9)]) (g := gTup K 2 (gCons (gName 8) (gCons (gName 9) gNil))) (by rfl) sc_loop_within.nd (pi_list (pv 3)) (blkOk_by (own := [("p", 8), ("q", 9)]) (N := ["rules", "string", "pair", "within", "free", "kind", "told", "worth", "p", "q"]) (sc := defScope s_loop_within) (by decide +kernel)) (fun _ _ _ _ _ => (pgT K rfl (pgs_cons (pg_name (i := 8) sc_loop_within.nd rfl (.inl rfl)) (pgs_cons (pg_name (i := 9) sc_loop_within.nd rfl (.inl rfl)) pgs_nil)))) (fun _ _ _ _ _ => pts_nil) (fun _ _ _ _ _ => (pe_op op_add (pe_op op_sub (pv 9) (pv 8)) pe_int))) pa_nil))))
      (pss_cons (ps_set (i := 5) sc_loop_within.nd rfl (.inl rfl) (pe_ca ckind_of (hr.mono (by decide)) (by rfl) (pa_cons (pv 4) (pa_cons (pe_callB (lenQ K) (by rfl) mlen (by decide +kernel) (pa_cons (pv 3) pa_nil)) pa_nil))))
      (pss_cons (ps_set (i := 6) sc_loop_within.nd rfl (.inl rfl) (pe_ca cloop_worths (hr.mono (by decide)) (by rfl) (pa_cons (pv 0) pa_nil)))
      (pss_cons (ps_set (i := 7) sc_loop_within.nd rfl (.inl rfl) (pe_dget (hu_of hr) (pv 6) (pv 5) (fun _ _ => rfl)))
      (pss_cons (ps_if (pt_cmpR op_eq (pv 5) pe_str (nomark _)) (pss_one (ps_aug (i := 7) sc_loop_within.nd rfl (.inl rfl) (pe_op op_mul (pv 4) (pe_dget (hu_of hr) (pv 6) pe_str (fun _ _ => rfl))) ip_add)) (pss_one (ps_if (pt_cmpR op_eq (pv 5) pe_str (nomark _)) (pss_one (ps_aug (i := 7) sc_loop_within.nd rfl (.inl rfl) (pe_op op_mul (pv 4) (pe_dget (hu_of hr) (pv 6) pe_str (fun _ _ => rfl))) ip_add)) (pss_one (ps_if (pt_cmpR op_eq (pv 5) pe_str (nomark _)) (pss_one (ps_aug (i := 7) sc_loop_within.nd rfl (.inl rfl) (pe_ca cstack_worth (hr.mono (by decide)) (by rfl) (pa_cons (pv 0) (pa_cons (pe_ca ctext_of (hr.mono (by decide)) (by rfl) (pa_cons (pv 1) (pa_cons (pv 2) pa_nil))) (pa_cons (pe_ca ctext_of (hr.mono (by decide)) (by rfl) (pa_cons (pv 1) (pa_cons (pe_ix (ixL K) (pv 3) pe_int (fun _ _ => rfl)) pa_nil))) pa_nil)))) ip_add)) (pss_one (ps_aug (i := 7) sc_loop_within.nd rfl (.inl rfl) (pe_op op_add (pe_op op_mul (pe_callB (lenQ K) (by rfl) mlen (by decide +kernel) (pa_cons (pv 3) pa_nil)) (pe_dget (hu_of hr) (pv 6) pe_str (fun _ _ => rfl))) (pe_op op_mul (pv 4) (pe_dget (hu_of hr) (pv 6) pe_str (fun _ _ => rfl)))) ip_add)))))))
      (pss_one (ps_ret (pe_tup (pa_cons (pv 5) (pa_cons (pv 4) (pa_cons (pv 7) pa_nil))))))))))), ?_⟩
    have hul := paired_len hPk
    have in1 := hin1 one (List.mem_singleton.mpr rfl)
    -- free
    refine ⟨_, rfl, t, _, 1, _, rfl, rfl, SqT.of hT, rfl, _, rfl, t, _, 0, _, rfl, rfl, SqT.of hT, rfl, _, _, rfl, rfl, _, 1, rfl, rfl, _, rfl, l, rfl, ⟨_, SqL.of hL⟩, fun D hD => lc_list (K := K) (xs := us) (fun i H2 => H2 D = some (.lst (((ks.take i).map fun y => y.2 - y.1 + 1).map V.int)) ∧ Ext H H2)
      ⟨upd_same, Ext.new hD⟩ (fun i H2 _ ⟨_, k⟩ => SqL.of (k _ _ hL)) (fun i u H2 hi hv => ?_) (fun H2 hv => ?_)⟩
    · obtain ⟨hL2, k2⟩ := hv
      obtain ⟨y, hy, a1, rfl, ha1⟩ := paired_get hPk hi
      have hil : i < us.length := (List.getElem?_eq_some_iff.mp hi).1
      refine ⟨a1, _, rfl, SqT.of (k2 _ _ ha1), rfl, _, _, rfl, _, _, rfl, rfl, rfl, _, rfl, _, rfl, _, _, rfl, rfl, _, 1, rfl, rfl, _, hL2, szLt ?_, ?_, k2.put hD⟩
      · rw [List.length_map, List.length_map, List.length_take]
        omega
      · rw [upd_same, List.take_add_one, hy, List.map_append, List.map_append]
        rfl
    · obtain ⟨hL2, k2⟩ := hv
      rw [List.take_of_length_le (by omega)] at hL2
      refine ⟨D, _, rfl, SqL.of hL2, _, _, rfl, rfl, ?_⟩
      have hf0' : 0 ≤ one.2 - one.1 - 1 - (ks.map fun y => y.2 - y.1 + 1).sum := hf0
      have hf1' : one.2 - one.1 - 1 - (ks.map fun y => y.2 - y.1 + 1).sum ≤ 1000 := hf1
      -- kind
      refine ⟨_, rfl, _, rfl, l, us, rfl, .inl (SqL.of (k2 _ _ hL)), freeI one ks, us.length, rfl, ?_⟩
      rw [hul]
      -- told
      refine ⟨_, rfl, v, r, rfl, RulesW.mono _ _ _ _ (TupK.ext k2) hRu, ok.lo9, fun d hd => ?_⟩
      have e3 := Ext.new (o := .dK (dLo r.loops)) hd
      have hd3 : (upd H2 d (.dK (dLo r.loops))) d = some (.dK (dLo r.loops)) := upd_same
      have k3 := k2.trans e3
      have fin : ∀ (wo : Int) (H9 : Hp), wo = lpW r x one ks → Ext (upd H2 d (.dK (dLo r.loops))) H9 → ∀ p, H9 p = none → Q (.ref p) (upd H9 p (.tup [.str (kindN (freeI one ks) ks.length), .int (freeI one ks), .int wo])) := fun wo H9 e k9 p hp => by
        rw [e]
        exact q p _ upd_same ((k3.trans k9).trans (Ext.new hp))
      have l0 := lo_bound ok (show 0 < 9 by decide)
      have l1 := lo_bound ok (show 1 < 9 by decide)
      have l2 := lo_bound ok (show 2 < 9 by decide)
      have l4 := lo_bound ok (show 4 < 9 by decide)
      have l5 := lo_bound ok (show 5 < 9 by decide)
      have l7 := lo_bound ok (show 7 < 9 by decide)
      by_cases c0 : ks.length = 0
      · have ek : kindN (freeI one ks) ks.length = "lone" := by
          unfold kindN
          rw [if_pos c0]
        rw [ek] at fin ⊢
        refine ⟨_, rfl, _, rfl, d, _, rfl, get_lo hd3 ok.lo9 (i := 6) (by decide +kernel), ?_⟩
        refine ⟨_, rfl, rfl, _, rfl, iteT ?_⟩
        refine ⟨_, rfl, _, rfl, _, rfl, d, _, rfl, get_lo hd3 ok.lo9 (i := 7) (by decide +kernel), _, _, rfl, rfl, .inl ⟨by omega, by omega⟩, _, _, rfl, rfl, ?_⟩
        refine ⟨_, rfl, _, rfl, _, rfl, szL (show 3 ≤ 1000000 by decide), fun p hp => fin _ _ ?_ Ext.refl p hp⟩
        unfold lpW
        rw [if_pos c0]
        rfl
      · by_cases c1 : 1 < ks.length
        · have ek : kindN (freeI one ks) ks.length = "forked" := by
            unfold kindN
            rw [if_neg c0, if_pos c1]
          rw [ek] at fin ⊢
          refine ⟨_, rfl, _, rfl, d, _, rfl, get_lo hd3 ok.lo9 (i := 3) (by decide +kernel), ?_⟩
          refine ⟨_, rfl, rfl, _, rfl, ?_⟩
          rw [k_ne (by decide +kernel)]
          refine iteF ⟨_, rfl, rfl, _, rfl, ?_⟩
          rw [k_ne (by decide +kernel)]
          refine iteF ⟨_, rfl, rfl, _, rfl, ?_⟩
          rw [k_ne (by decide +kernel)]
          refine iteF ⟨_, rfl, _, rfl, l, us, rfl, .inl (SqL.of (k3 _ _ hL)), _, rfl, d, _, rfl, get_lo hd3 ok.lo9 (i := 4) (by decide +kernel), _, _, rfl, rfl, .inl ⟨by omega, by omega⟩, ?_⟩
          refine ⟨_, rfl, _, rfl, d, _, rfl, get_lo hd3 ok.lo9 (i := 5) (by decide +kernel), _, _, rfl, rfl, .inl ⟨by omega, by omega⟩, _, _, rfl, rfl, _, _, rfl, rfl, ?_⟩
          refine ⟨_, rfl, _, rfl, _, rfl, szL (show 3 ≤ 1000000 by decide), fun p hp => fin _ _ ?_ Ext.refl p hp⟩
          unfold lpW
          rw [if_neg c0, if_pos c1, hul]
          rfl
        · by_cases c2 : 0 < freeI one ks
          · have ek : kindN (freeI one ks) ks.length = "inner" := by
              unfold kindN
              rw [if_neg c0, if_neg c1, if_pos c2]
            rw [ek] at fin ⊢
            refine ⟨_, rfl, _, rfl, d, _, rfl, get_lo hd3 ok.lo9 (i := 1) (by decide +kernel), ?_⟩
            refine ⟨_, rfl, rfl, _, rfl, ?_⟩
            rw [k_ne (by decide +kernel)]
            refine iteF ⟨_, rfl, rfl, _, rfl, iteT ?_⟩
            refine ⟨_, rfl, _, rfl, _, rfl, d, _, rfl, get_lo hd3 ok.lo9 (i := 2) (by decide +kernel), _, _, rfl, rfl, .inl ⟨by omega, by omega⟩, _, _, rfl, rfl, ?_⟩
            refine ⟨_, rfl, _, rfl, _, rfl, szL (show 3 ≤ 1000000 by decide), fun p hp => fin _ _ ?_ Ext.refl p hp⟩
            unfold lpW
            rw [if_neg c0, if_neg c1, if_pos c2]
            rfl
          · have ek : kindN (freeI one ks) ks.length = "stacked" := by
              unfold kindN
              rw [if_neg c0, if_neg c1, if_neg c2]
            rw [ek] at fin ⊢
            refine ⟨_, rfl, _, rfl, d, _, rfl, get_lo hd3 ok.lo9 (i := 0) (by decide +kernel), ?_⟩
            refine ⟨_, rfl, rfl, _, rfl, ?_⟩
            rw [k_ne (by decide +kernel)]
            refine iteF ⟨_, rfl, rfl, _, rfl, ?_⟩
            rw [k_ne (by decide +kernel)]
            refine iteF ⟨_, rfl, rfl, _, rfl, iteT ?_⟩
            have c3 : 0 < us.length := by omega
            obtain ⟨y, hy, a1, ev, ha1⟩ := paired_get hPk (List.getElem?_eq_getElem c3)
            have iny := hink y (List.mem_of_getElem? hy)
            have hat : atI us 0 = some (.ref a1) := by
              rw [atI_get (by decide) (by omega), ← ev]
              rfl
            refine ⟨_, rfl, _, rfl, _, rfl, _, rfl, x, t, one, rfl, k3 _ _ hT, hx, in1.1, in1.2.1, in1.2.2.1, in1.2.2.2, ?_⟩
            refine ⟨_, rfl, _, rfl, l, us, _, _, rfl, rfl, SqL.of (k3 _ _ hL), hat, x, a1, y, rfl, k3 _ _ ha1, hx, iny.1, iny.2.1, iny.2.2.1, iny.2.2.2, ?_⟩
            refine ⟨v, r, _, _, rfl, RulesW.mono _ _ _ _ (TupK.ext k3) hRu, _, _, rfl, rfl, ?_⟩
            refine ⟨_, rfl, _, rfl, _, rfl, szL (show 3 ≤ 1000000 by decide), fun p hp => fin _ _ ?_ Ext.refl p hp⟩
            have eh : ks.headD (0, 0) = y := by
              cases ks with
              | nil => cases hy
              | cons z zs =>
                rw [List.getElem?_cons_zero] at hy
                cases hy
                rfl
            unfold lpW
            rw [if_neg c0, if_neg c1, if_neg c2, eh]
            rfl
abbrev CLoopW (P : Program) (w : World) (K : PySem.W.Frag) (mg : Str → Option Value) (base : Heap) : Prop := Ca P w K mg base 2 "loop_within" ["rules", "string", "pair", "within"] spLoopW
end
end Pf


namespace Pf
open PySem PySem.Spec PyProof.Rows L2
/-! ### dict(list of pairs) by tuples -/
abbrev TKV : Type := List Key × Addr × V
def TkR (kv : TKV) (x : List Key × Addr × Value) : Prop := kv.1 = x.1 ∧ kv.2.1 = x.2.1 ∧ RelV kv.2.2 x.2.2
def TkP (K : PySem.W.Frag) (H : Hp) (p : Addr) (kv : TKV) : Prop := SqT K H p [.ref kv.2.1, kv.2.2] ∧ H kv.2.1 = some (.tup (kv.1.map kV))
theorem tkeys_of {X : Cx} {pins : List (Addr × Obj)} {σ : L2.St} {H : Hp} {s : Shared} (I : Inv X pins σ H s) : ∀ {ps : List Addr} {kvs : List TKV}, Paired (TkP X.K H) ps kvs →
    ∃ xs : List (List Key × Addr × Value), Paired TkR kvs xs ∧ xs.length = ps.length ∧ ∀ (j : Nat) (x : List Key × Addr × Value), xs[j]? = some x → H x.2.1 = some (.tup (x.1.map kV)) ∧ ∃ b, ps[j]? = some b ∧ IsTup s.heap b #[.ref x.2.1, x.2.2]
  | _, _, .nil => ⟨[], .nil, rfl, fun j q e => by simp at e⟩
  | _, _, .cons (a := p) (b := kv) h t => by
    obtain ⟨xs, r, hl, hp⟩ := tkeys_of I t
    obtain ⟨its, rv, ht, _⟩ := I.tuple h.1
    obtain ⟨u, y, ei, ru, ry⟩ := vals2 rv
    subst ei
    obtain rfl : u = Value.ref kv.2.1 := ru
    refine ⟨(kv.1, kv.2.1, y) :: xs, .cons ⟨rfl, rfl, ry⟩ r, by rw [List.length_cons, List.length_cons, hl], fun j q e => ?_⟩
    cases j with
    | zero =>
      have e' : (kv.1, kv.2.1, y) = q := Option.some.inj e
      subst e'
      exact ⟨h.2, p, rfl, ht⟩
    | succ j =>
      obtain ⟨e0, b, e1, e2⟩ := hp j q (by simpa using e)
      exact ⟨e0, b, by simpa using e1, e2⟩
def mergeT (acc : List (List Key × V)) (kvs : List TKV) : List (List Key × V) := kvs.foldl (fun acc x => putK acc x.1 x.2.2) acc
theorem mergeT_len : ∀ (kvs : List TKV) (acc : List (List Key × V)), (mergeT acc kvs).length ≤ acc.length + kvs.length
  | [], acc => Nat.le_refl _
  | x :: kvs, acc => by
    have h1 := mergeT_len kvs (putK acc x.1 x.2.2)
    have h2 := length_putK acc x.1 x.2.2
    rw [List.length_cons]
    show (mergeT (putK acc x.1 x.2.2) kvs).length ≤ _
    omega
theorem kt_merge {H : Hp} : ∀ {kvs : List TKV} {xs : List (List Key × Addr × Value)} {acc : List (List Key × V)} {ys : List (List Key × Addr × Value)}, Paired TkR kvs xs → (∀ x ∈ xs, H x.2.1 = some (.tup (x.1.map kV))) → KT H acc ys → KT H (mergeT acc kvs) (storedAllH ys xs)
  | _, _, _, _, .nil, _, r => r
  | _, _, acc, ys, .cons (a := kv) (b := x) h t, hH, r => by
    have hb := hH x (List.mem_cons_self ..)
    have r1 := r.put x.1 hb h.2.2
    have := kt_merge t (fun z hz => hH z (List.mem_cons_of_mem _ hz)) r1
    rw [← h.1] at this
    show KT H (mergeT (putK acc kv.1 kv.2.2) _) (storedAllH (storedH ys x.1 x.2.1 x.2.2) _)
    rw [← h.1]
    exact this
def rDictLT (K : PySem.W.Frag) : List V → Hp → VK → Prop := fun xs H Q => ∃ (a : Addr) (ps : List Addr) (kvs : List TKV), xs = [.ref a] ∧ SqL K H a (ps.map V.ref) ∧ Paired (TkP K H) ps kvs ∧ ∀ p, H p = none → Q (.ref p) (upd H p (.dT (mergeT [] kvs)))
theorem dictLT (K : PySem.W.Frag) {X : Cx} (hu : X.A.units + 64 < cLine) (calm : X.calm = true := by rfl) (hK : X.K = K := by rfl) : CallR X (.type "dict") (rDictLT K) := by
  subst hK
  intro pins s σ H xs us Q I r q
  obtain ⟨a, ps, kvs, ex, hq, hp, q⟩ := q
  subst ex
  obtain ⟨u, eu, rx⟩ := vals1 r
  subst eu
  cases rx
  obtain ⟨its, rv, pl, hz⟩ := I.list hq
  have ei := refs_at rv
  subst ei
  rw [List.length_map] at hz
  obtain ⟨xs, rel, hl, hpr⟩ := tkeys_of I hp
  obtain ⟨o, n, ho, hc, hd, hdat⟩ := pl
  have hH : ∀ x ∈ xs, H x.2.1 = some (.tup (x.1.map kV)) := fun x hx => by
    obtain ⟨j, hj⟩ := List.mem_iff_getElem?.mp hx
    exact (hpr j x hj).1
  have lkv : kvs.length = ps.length := (Paired.length rel).trans hl
  refine call_dict_pairsH (knd := tupleKind (mixKind X.prog X.w)) (ps := xs) (PairArg.list a (ps.map Value.ref).toArray (fun j => ps.getD j 0) (xs.map fun x => (Value.ref x.2.1, x.2.2))) (I.ok.hd calm) (show X.A.units + 2 < cLine by omega) ⟨⟨o, n, ho, hc, hd, hdat⟩, by simp [hl], fun j k v e => ?_⟩ ⟨by simp, fun i key v e => ?_⟩ (fun h' hk x hx => ?_) (by rw [List.length_map, hl]; exact hz) (fun h' tk hd' hk => ?_)
  · rw [List.getElem?_map] at e
    cases ex : xs[j]? with
    | none => rw [ex] at e; cases e
    | some x =>
      rw [ex] at e
      cases e
      obtain ⟨_, b, e1, e2⟩ := hpr j x ex
      refine ⟨by simp [e1], .inl ?_⟩
      have : ps.getD j 0 = b := by
        rw [List.getD_eq_getElem?_getD, e1]
        rfl
      show s.heap.IsTuple (ps.getD j 0) _
      rw [this]
      exact e2
  · rw [show PairRel (xs.map fun x => (Value.ref x.2.1, x.2.2)) i key v ↔ _ from Iff.rfl] at e
    have e : (xs.map fun x => (Value.ref x.2.1, x.2.2))[i]? = some (key, v) := e
    rw [List.getElem?_map] at e
    cases ex : xs[i]? with
    | none => rw [ex] at e; cases e
    | some x =>
      rw [ex] at e
      cases e
      exact ⟨x.1, x.2.1, rfl, rfl⟩
  · obtain ⟨o1, its1, n1, h1, h2, h3, h4⟩ := key_of I.hok (hH x hx)
    exact ⟨o1, its1, n1, hk _ _ (Nat.ne_of_lt (Heap.lt_size h1)) (by simp) h1, h2, h3, h4⟩
  · have hm : (s.heap.objs.size == sysModules) = false := beq_eq_false_iff_ne.mpr (Nat.ne_of_gt I.big)
    have fresh := I.hok.fresh (Nat.le_refl s.heap.objs.size)
    have hlen : (mergeT [] kvs).length ≤ sizeLine := by
      refine Nat.le_trans (mergeT_len kvs []) ?_
      rw [List.length_nil, Nat.zero_add, lkv]
      exact hz
    have kt : KT H (mergeT [] kvs) (storedAllH [] xs) := kt_merge rel hH .nil
    obtain ⟨ob, es, ep, e1, e2, e3, e4, _, e5⟩ := hd'
    exact ⟨.ref s.heap.objs.size, upd H s.heap.objs.size (.dT (mergeT [] kvs)), I.laid (t' := tk) (fun b o e => hk b o (by simp) e) (Nat.le_refl _) (show ObjOk X.prog X.w _ _ _ (.dT (mergeT [] kvs)) from ⟨hlen, hm, _, kt.keeps fun b ys e => by rw [upd_ne (ne_of_none e fresh)]; exact e, ob, es, ep, e1, e2, e3, e4, e5⟩), rfl, q _ fresh⟩
end Pf


namespace Pf
open PySem PySem.Spec PyProof.Rows L2
def pwI : List (Str × Int) → Str → Int
  | [], _ => 0
  | (t, x) :: r, b => if t = b then x else pwI r b
theorem pwV_int : ∀ {prs : List (Str × Int)} {b : Str}, b ∈ prs.map (·.1) → pwV prs b = .int (pwI prs b)
  | [], _, h => by cases h
  | (t, x) :: r, b, h => by
    rw [pwV, pwI]
    by_cases e : t = b
    · rw [if_pos e, if_pos e]
    · rw [if_neg e, if_neg e]
      rcases List.mem_cons.mp h with z | z
      · exact absurd z.symm e
      · exact pwV_int z
/-! ### outermost pairs, pairs straight within -/
def topF (z : Int) : Fo → Fo
  | [] => []
  | p :: r => if z ≤ p.1 then p :: topF (p.2 + 1) r else topF z r
def tops : Fo → Fo
  | [] => []
  | p :: r => p :: topF (p.2 + 1) r
theorem topF_skip {z : Int} : ∀ {u w : Fo}, (∀ p ∈ u, p.1 < z) → topF z (u ++ w) = topF z w
  | [], _, _ => rfl
  | p :: u, w, h => by
    have := h p (List.mem_cons_self ..)
    rw [List.cons_append, topF, if_neg (by omega)]
    exact topF_skip fun q hq => h q (List.mem_cons_of_mem _ hq)
theorem topF_tops {z : Int} : ∀ {w : Fo}, (∀ p ∈ w, z ≤ p.1) → topF z w = tops w
  | [], _ => rfl
  | p :: w, h => by
    rw [topF, if_pos (h p (List.mem_cons_self ..))]
    rfl
theorem tops_pair {a k : Int} {u w : Fo} (hu : ∀ p ∈ u, p.1 < k + 1) (hw : ∀ p ∈ w, k + 1 ≤ p.1) : tops ((a, k) :: (u ++ w)) = (a, k) :: tops w := by
  rw [tops, topF_skip hu, topF_tops hw]
theorem tops_nil {w : Fo} : tops w = [] ↔ w = [] := by
  cases w with
  | nil => exact ⟨fun _ => rfl, fun _ => rfl⟩
  | cons p r => exact ⟨(fun h => by cases h), (fun h => by cases h)⟩
def nestB (one two : Int × Int) : Bool := decide (two.1 < one.1) && decide (one.2 < two.2)
def nn (u : Fo) : Fo := u.filter fun one => (u.filter (nestB one)).isEmpty
def withinC (w : Fo) (i j : Int) : Fo := w.filter fun p => decide (i < p.1) && decide (p.2 < j)
def strC (w : Fo) (i j : Int) : Fo := nn (withinC w i j)
theorem WA_cases {r : Rl} {x : Str} {n : Nat} {a : Int} {q : Fo} (h : q ∈ WA r x (n + 1) a) : q ∈ WA r x n (a + 1) ∨ ∃ t one other, t < n ∧ mayC r x a (a + 1 + (t : Nat)) = true ∧ one ∈ WA r x t (a + 1) ∧ other ∈ WA r x (n - 1 - t) (a + 2 + (t : Nat)) ∧ q = (a, a + 1 + (t : Nat)) :: (one ++ other) := by
  rw [WA_succ] at h
  rcases List.mem_append.mp h with h | h
  · exact .inl h
  · obtain ⟨t, ht, hq⟩ := List.mem_flatMap.mp h
    have ht := List.mem_range.mp ht
    unfold seg at hq
    split at hq
    · rename_i hm
      obtain ⟨one, h1, hq⟩ := List.mem_flatMap.mp hq
      obtain ⟨other, h2, rfl⟩ := List.mem_map.mp hq
      exact .inr ⟨t, one, other, ht, hm, h1, h2, rfl⟩
    · cases hq
theorem filter_none {α : Type} {f : α → Bool} {l : List α} (h : ∀ y ∈ l, f y = false) : l.filter f = [] := by
  rw [List.filter_eq_nil_iff]
  intro y hy
  rw [h y hy]
  exact Bool.false_ne_true
theorem filter_all {α : Type} {f : α → Bool} {l : List α} (h : ∀ y ∈ l, f y = true) : l.filter f = l := List.filter_eq_self.mpr h
/-- where a folding is a pair around one, and one behind -/
structure Cut (a k : Int) (u w : Fo) : Prop where
  ak : a < k
  ui : ∀ p ∈ u, a < p.1 ∧ p.1 < p.2 ∧ p.2 < k
  wi : ∀ p ∈ w, k < p.1 ∧ p.1 < p.2
theorem Cut.of {r : Rl} {x : Str} {n t : Nat} {a : Int} {one other : Fo} (h1 : one ∈ WA r x t (a + 1)) (h2 : other ∈ WA r x n (a + 2 + (t : Nat))) : Cut a (a + 1 + (t : Nat)) one other :=
  ⟨by omega, fun p hp => by have := (WA_in r x t (a + 1) one h1).1 p hp; omega, fun p hp => by have := (WA_in r x n (a + 2 + (t : Nat)) other h2).1 p hp; omega⟩
theorem Cut.tops {a k : Int} {u w : Fo} (c : Cut a k u w) : tops ((a, k) :: (u ++ w)) = (a, k) :: tops w :=
  tops_pair (fun p hp => by have := c.ui p hp; omega) (fun p hp => by have := c.wi p hp; omega)
theorem dand {p q : Prop} [Decidable p] [Decidable q] (h : p ∧ q) : (decide p && decide q) = true := by
  rw [decide_eq_true h.1, decide_eq_true h.2]
  rfl
theorem dnot {p q : Prop} [Decidable p] [Decidable q] (h : ¬ (p ∧ q)) : (decide p && decide q) = false := by
  by_cases hp : p
  · have hq : ¬ q := fun z => h ⟨hp, z⟩
    rw [decide_eq_false hq, Bool.and_false]
  · rw [decide_eq_false hp, Bool.false_and]
theorem Cut.nn {a k : Int} {u w : Fo} (c : Cut a k u w) : nn ((a, k) :: (u ++ w)) = (a, k) :: nn w := by
  have hak := c.ak
  have n0 : nestB (a, k) (a, k) = false := dnot (by simp)
  have n1 : u.filter (nestB (a, k)) = [] := filter_none fun p hp => dnot (by have := c.ui p hp; simp; omega)
  have n2 : w.filter (nestB (a, k)) = [] := filter_none fun p hp => dnot (by have := c.wi p hp; simp; omega)
  unfold Pf.nn
  rw [List.filter_cons_of_pos (by rw [List.filter_cons_of_neg (by rw [n0]; exact Bool.false_ne_true), List.filter_append, n1, n2]; rfl), List.filter_append]
  congr 1
  have e1 : u.filter (fun one => (((a, k) :: (u ++ w)).filter (nestB one)).isEmpty) = [] := filter_none fun p hp => by
    have h := c.ui p hp
    have m0 : nestB p (a, k) = true := dand (show a < p.1 ∧ p.2 < k by omega)
    rw [List.filter_cons_of_pos m0]
    rfl
  have e2 : w.filter (fun one => (((a, k) :: (u ++ w)).filter (nestB one)).isEmpty) = w.filter (fun one => (w.filter (nestB one)).isEmpty) := List.filter_congr fun p hp => by
    have h := c.wi p hp
    have m0 : nestB p (a, k) = false := dnot (show ¬ (a < p.1 ∧ p.2 < k) by omega)
    have m1 : u.filter (nestB p) = [] := filter_none fun q hq => dnot (by have := c.ui q hq; omega)
    rw [List.filter_cons_of_neg (by rw [m0]; exact Bool.false_ne_true), List.filter_append, m1, List.nil_append]
  rw [e1, e2, List.nil_append]
theorem nn_tops (r : Rl) (x : Str) : ∀ (n : Nat) (a : Int), ∀ q ∈ WA r x n a, nn q = tops q := by
  intro n
  induction n using Nat.strongRecOn with
  | ind n ih =>
    intro a q hq
    match n, ih, hq with
    | 0, _, hq =>
      rw [WA_zero, List.mem_singleton] at hq
      subst hq
      rfl
    | n + 1, ih, hq =>
      rcases WA_cases hq with h | ⟨t, one, other, ht, hm, h1, h2, rfl⟩
      · exact ih n (by omega) _ _ h
      · have c := Cut.of h1 h2
        rw [c.nn, c.tops, ih (n - 1 - t) (by omega) _ _ h2]
theorem Cut.str0 {a k : Int} {u w : Fo} (c : Cut a k u w) : withinC ((a, k) :: (u ++ w)) a k = u := by
  unfold withinC
  rw [List.filter_cons_of_neg (by rw [dnot (by simp)]; exact Bool.false_ne_true), List.filter_append, filter_all (fun p hp => dand (by have := c.ui p hp; omega)), filter_none (fun p hp => dnot (by have := c.wi p hp; omega)), List.append_nil]
theorem Cut.str1 {a k : Int} {u w : Fo} (c : Cut a k u w) {p : Int × Int} (hp : p ∈ u) : withinC ((a, k) :: (u ++ w)) p.1 p.2 = withinC u p.1 p.2 := by
  have h := c.ui p hp
  unfold withinC
  rw [List.filter_cons_of_neg (by rw [dnot (show ¬ (p.1 < a ∧ k < p.2) by omega)]; exact Bool.false_ne_true), List.filter_append, filter_none (l := w) (fun q hq => dnot (by have := c.wi q hq; omega)), List.append_nil]
theorem Cut.str2 {a k : Int} {u w : Fo} (c : Cut a k u w) {p : Int × Int} (hp : p ∈ w) : withinC ((a, k) :: (u ++ w)) p.1 p.2 = withinC w p.1 p.2 := by
  have h := c.wi p hp
  have hak := c.ak
  unfold withinC
  rw [List.filter_cons_of_neg (by rw [dnot (show ¬ (p.1 < a ∧ k < p.2) by omega)]; exact Bool.false_ne_true), List.filter_append, filter_none (l := u) (fun q hq => dnot (by have := c.ui q hq; omega)), List.nil_append]
/-! ### worths -/
theorem wid_cons (p : Int × Int) (ks : Fo) : wid (p :: ks) = (p.2 - p.1 + 1) + wid ks := by
  unfold wid
  rw [List.map_cons, List.sum_cons]
/-! ### what rows stand for -/
theorem str_in (r : Rl) (x : Str) : ∀ (n : Nat) (a : Int), ∀ q ∈ WA r x n a, ∀ y ∈ q, ∃ (t : Nat) (u : Fo), u ∈ WA r x t (y.1 + 1) ∧ y.2 = y.1 + 1 + (t : Nat) ∧ strC q y.1 y.2 = tops u := by
  intro n
  induction n using Nat.strongRecOn with
  | ind n ih =>
    intro a q hq
    match n, ih, hq with
    | 0, _, hq =>
      rw [WA_zero, List.mem_singleton] at hq
      subst hq
      intro y hy
      cases hy
    | n + 1, ih, hq =>
      rcases WA_cases hq with h | ⟨t, one, other, ht, hm, h1, h2, rfl⟩
      · exact ih n (by omega) _ _ h
      · have c := Cut.of h1 h2
        intro y hy
        rcases List.mem_cons.mp hy with rfl | hy
        · refine ⟨t, one, h1, rfl, ?_⟩
          unfold strC
          rw [show withinC ((a, a + 1 + (t : Nat)) :: (one ++ other)) (a, a + 1 + (t : Nat)).1 (a, a + 1 + (t : Nat)).2 = one from c.str0, nn_tops r x t (a + 1) one h1]
        · rcases List.mem_append.mp hy with hy | hy
          · obtain ⟨t', u, h3, h4, h5⟩ := ih t (by omega) _ _ h1 y hy
            refine ⟨t', u, h3, h4, ?_⟩
            unfold strC at h5 ⊢
            rw [c.str1 hy]
            exact h5
          · obtain ⟨t', u, h3, h4, h5⟩ := ih (n - 1 - t) (by omega) _ _ h2 y hy
            refine ⟨t', u, h3, h4, ?_⟩
            unfold strC at h5 ⊢
            rw [c.str2 hy]
            exact h5
theorem wid_tops (r : Rl) (x : Str) : ∀ (n : Nat) (a : Int), ∀ q ∈ WA r x n a, wid (tops q) ≤ n := by
  intro n
  induction n using Nat.strongRecOn with
  | ind n ih =>
    intro a q hq
    match n, ih, hq with
    | 0, _, hq =>
      rw [WA_zero, List.mem_singleton] at hq
      subst hq
      exact (show (0 : Int) ≤ 0 by decide)
    | n + 1, ih, hq =>
      rcases WA_cases hq with h | ⟨t, one, other, ht, hm, h1, h2, rfl⟩
      · have := ih n (by omega) _ _ h
        omega
      · have := ih (n - 1 - t) (by omega) _ _ h2
        rw [(Cut.of h1 h2).tops, wid_cons]
        show a + 1 + (t : Nat) - a + 1 + wid (tops other) ≤ _
        omega
theorem free_nn {r : Rl} {x : Str} {n : Nat} {a : Int} {q : Fo} (hq : q ∈ WA r x n a) {y : Int × Int} (hy : y ∈ q) : 0 ≤ freeI y (strC q y.1 y.2) := by
  obtain ⟨t, u, h1, h2, h3⟩ := str_in r x n a q hq y hy
  have := wid_tops r x t (y.1 + 1) u h1
  unfold freeI
  rw [h3]
  omega
end Pf


namespace Pf
open PySem PySem.Spec PyProof.Rows L2
/-! ### all foldings of a stretch, told by what they are -/
structure Fo4 (r : Rl) (x : Str) (a b : Int) (q : Fo) : Prop where
  srt : q.Pairwise fun y z => y.1 < z.1
  inn : ∀ y ∈ q, a ≤ y.1 ∧ y.1 < y.2 ∧ y.2 < b
  may : ∀ y ∈ q, mayC r x y.1 y.2 = true
  sep : ∀ y ∈ q, ∀ z ∈ q, y.1 < z.1 → z.2 < y.2 ∨ y.2 < z.1
theorem fo4_of (r : Rl) (x : Str) : ∀ (n : Nat) (a : Int), ∀ q ∈ WA r x n a, Fo4 r x a (a + n) q := by
  intro n
  induction n using Nat.strongRecOn with
  | ind n ih =>
    intro a q hq
    match n, ih, hq with
    | 0, _, hq =>
      rw [WA_zero, List.mem_singleton] at hq
      subst hq
      exact ⟨.nil, (fun y hy => by cases hy), (fun y hy => by cases hy), (fun y hy => by cases hy)⟩
    | n + 1, ih, hq =>
      rcases WA_cases hq with h | ⟨t, one, other, ht, hm, h1, h2, rfl⟩
      · have := ih n (by omega) _ _ h
        exact ⟨this.srt, fun y hy => by have := this.inn y hy; omega, this.may, this.sep⟩
      · have f1 := ih t (by omega) _ _ h1
        have f2 := ih (n - 1 - t) (by omega) _ _ h2
        refine ⟨?_, fun y hy => ?_, fun y hy => ?_, fun y hy z hz hlt => ?_⟩
        · refine List.pairwise_cons.mpr ⟨fun z hz => ?_, List.pairwise_append.mpr ⟨f1.srt, f2.srt, fun y hy z hz => ?_⟩⟩
          · rcases List.mem_append.mp hz with hz | hz
            · have := f1.inn z hz
              show a < z.1
              omega
            · have := f2.inn z hz
              show a < z.1
              omega
          · have := f1.inn y hy
            have := f2.inn z hz
            omega
        · rcases List.mem_cons.mp hy with rfl | hy
          · show a ≤ a ∧ a < a + 1 + (t : Nat) ∧ a + 1 + (t : Nat) < a + (n + 1 : Nat)
            omega
          · rcases List.mem_append.mp hy with hy | hy
            · have := f1.inn y hy
              omega
            · have := f2.inn y hy
              omega
        · rcases List.mem_cons.mp hy with rfl | hy
          · exact hm
          · rcases List.mem_append.mp hy with hy | hy
            · exact f1.may y hy
            · exact f2.may y hy
        · rcases List.mem_cons.mp hy with rfl | hy
          · rcases List.mem_cons.mp hz with rfl | hz
            · omega
            · rcases List.mem_append.mp hz with hz | hz
              · have := f1.inn z hz
                left
                show z.2 < a + 1 + (t : Nat)
                omega
              · have := f2.inn z hz
                right
                show a + 1 + (t : Nat) < z.1
                omega
          · rcases List.mem_cons.mp hz with rfl | hz
            · have hlt : y.1 < a := hlt
              rcases List.mem_append.mp hy with hy | hy
              · have := f1.inn y hy
                omega
              · have := f2.inn y hy
                omega
            · rcases List.mem_append.mp hy with hy | hy
              · rcases List.mem_append.mp hz with hz | hz
                · exact f1.sep y hy z hz hlt
                · have := f1.inn y hy
                  have := f2.inn z hz
                  right
                  omega
              · rcases List.mem_append.mp hz with hz | hz
                · have := f1.inn z hz
                  have := f2.inn y hy
                  omega
                · exact f2.sep y hy z hz hlt
theorem split_at (k : Int) : ∀ {t : Fo}, t.Pairwise (fun y z => y.1 < z.1) → t = t.filter (fun z => decide (z.1 < k)) ++ t.filter fun z => decide (¬ z.1 < k)
  | [], _ => rfl
  | y :: t, h => by
    have hp := List.pairwise_cons.mp h
    by_cases c : y.1 < k
    · rw [List.filter_cons_of_pos (by simpa using c), List.filter_cons_of_neg (by simpa using c), List.cons_append, ← split_at k hp.2]
    · rw [List.filter_cons_of_neg (by simpa using c), List.filter_cons_of_pos (by simpa using c)]
      have e1 : t.filter (fun z => decide (z.1 < k)) = [] := filter_none fun z hz => decide_eq_false (by have := hp.1 z hz; omega)
      have e2 : t.filter (fun z => decide (¬ z.1 < k)) = t := filter_all fun z hz => decide_eq_true (by have := hp.1 z hz; omega)
      rw [e1, e2]
      rfl
theorem Fo4.sub {r : Rl} {x : Str} {a b a' b' : Int} {q q' : Fo} (h : Fo4 r x a b q) (hs : q'.Sublist q) (hin : ∀ y ∈ q', a' ≤ y.1 ∧ y.1 < y.2 ∧ y.2 < b') : Fo4 r x a' b' q' :=
  ⟨h.srt.sublist hs, hin, fun y hy => h.may y (hs.subset hy), fun y hy z hz => h.sep y (hs.subset hy) z (hs.subset hz)⟩
theorem of_fo4 (r : Rl) (x : Str) : ∀ (n : Nat) (a : Int) (q : Fo), Fo4 r x a (a + n) q → q ∈ WA r x n a := by
  intro n
  induction n using Nat.strongRecOn with
  | ind n ih =>
    intro a q hq
    match n, ih, hq with
    | 0, _, hq =>
      cases q with
      | nil => exact List.mem_cons_self ..
      | cons y t =>
        have := hq.inn y (List.mem_cons_self ..)
        omega
    | n + 1, ih, hq =>
      rw [WA_succ]
      cases q with
      | nil =>
        refine List.mem_append_left _ ?_
        obtain ⟨t, e⟩ := WA_head r x n (a + 1)
        rw [e]
        exact List.mem_cons_self ..
      | cons y t =>
        have hp := List.pairwise_cons.mp hq.srt
        have hy := hq.inn y (List.mem_cons_self ..)
        by_cases c : y.1 = a
        · obtain ⟨i, k⟩ := y
          have c : i = a := c
          subst c
          have hy : i ≤ i ∧ i < k ∧ k < i + ((n + 1 : Nat) : Int) := hy
          obtain ⟨m, hm⟩ : ∃ m : Nat, k = i + 1 + (m : Nat) := ⟨(k - i - 1).toNat, by omega⟩
          have s1 : (t.filter fun z => decide (z.1 < k)).Sublist t := List.filter_sublist
          have s2 : (t.filter fun z => decide (¬ z.1 < k)).Sublist t := List.filter_sublist
          have o1 := ih m (by omega) (i + 1) (t.filter fun z => decide (z.1 < k)) (hq.sub (s1.trans (List.sublist_cons_self ..)) fun z hz => by
            have hzt := s1.subset hz
            have hzk : z.1 < k := of_decide_eq_true (List.mem_filter.mp hz).2
            have h1 := hq.inn z (List.mem_cons_of_mem _ hzt)
            have h2 : i < z.1 := hp.1 z hzt
            have h3 : z.2 < k ∨ k < z.1 := hq.sep (i, k) (List.mem_cons_self ..) z (List.mem_cons_of_mem _ hzt) h2
            omega)
          have o2 := ih (n - 1 - m) (by omega) (i + 2 + (m : Nat)) (t.filter fun z => decide (¬ z.1 < k)) (hq.sub (s2.trans (List.sublist_cons_self ..)) fun z hz => by
            have hzt := s2.subset hz
            have hzk : ¬ z.1 < k := of_decide_eq_true (List.mem_filter.mp hz).2
            have h1 := hq.inn z (List.mem_cons_of_mem _ hzt)
            have h2 : i < z.1 := hp.1 z hzt
            have h3 : z.2 < k ∨ k < z.1 := hq.sep (i, k) (List.mem_cons_self ..) z (List.mem_cons_of_mem _ hzt) h2
            omega)
          refine List.mem_append_right _ (List.mem_flatMap.mpr ⟨m, List.mem_range.mpr (by omega), ?_⟩)
          have hmay : mayC r x i (i + 1 + (m : Nat)) = true := by
            rw [← hm]
            exact hq.may (i, k) (List.mem_cons_self ..)
          unfold seg
          rw [if_pos hmay]
          refine List.mem_flatMap.mpr ⟨_, o1, List.mem_map.mpr ⟨_, o2, ?_⟩⟩
          rw [← split_at k hp.2, hm]
        · refine List.mem_append_left _ (ih n (by omega) (a + 1) _ ⟨hq.srt, fun z hz => ?_, hq.may, hq.sep⟩)
          have h1 := hq.inn z hz
          rcases List.mem_cons.mp hz with rfl | hz
          · omega
          · have h2 := hp.1 z hz
            omega
theorem WA_iff (r : Rl) (x : Str) (n : Nat) (a : Int) (q : Fo) : q ∈ WA r x n a ↔ Fo4 r x a (a + n) q := ⟨fo4_of r x n a q, of_fo4 r x n a q⟩
/-- none stands twice -/
theorem WA_nd (r : Rl) (x : Str) : ∀ (n : Nat) (a : Int), (WA r x n a).Nodup := by
  intro n
  induction n using Nat.strongRecOn with
  | ind n ih =>
    intro a
    match n, ih with
    | 0, _ => exact List.pairwise_singleton _ _
    | n + 1, ih =>
      rw [WA_succ]
      refine List.pairwise_append.mpr ⟨ih n (by omega) (a + 1), List.pairwise_flatMap.mpr ⟨fun t ht => ?_, ?_⟩, fun q hq q' hq' => ?_⟩
      · have ht := List.mem_range.mp ht
        unfold seg
        split
        · refine List.pairwise_flatMap.mpr ⟨fun one h1 => List.pairwise_map.mpr ?_, ?_⟩
          · refine (ih (n - 1 - t) (by omega) (a + 2 + t)).imp fun hne e => hne ?_
            injection e with _ e
            exact List.append_cancel_left e
          · refine List.Pairwise.imp_of_mem (R := (· ≠ ·)) (fun {o1 o2} m1 m2 hne => ?_) (ih t (by omega) (a + 1))
            rintro u hu u' hu' rfl
            obtain ⟨w1, hw1, e1⟩ := List.mem_map.mp hu
            obtain ⟨w2, hw2, e2⟩ := List.mem_map.mp hu'
            rw [← e2] at e1
            injection e1 with _ e1
            refine hne ?_
            have g1 := fo4_of r x t (a + 1) o1 m1
            have g2 := fo4_of r x t (a + 1) o2 m2
            have v1 := fo4_of r x (n - 1 - t) (a + 2 + t) w1 hw1
            have v2 := fo4_of r x (n - 1 - t) (a + 2 + t) w2 hw2
            have c1 : (o1 ++ w1).filter (fun z => decide (z.1 < a + 1 + (t : Nat))) = o1 := by
              rw [List.filter_append, filter_all (fun z hz => decide_eq_true (by have := g1.inn z hz; omega)), filter_none (fun z hz => decide_eq_false (by have := v1.inn z hz; omega)), List.append_nil]
            have c2 : (o2 ++ w2).filter (fun z => decide (z.1 < a + 1 + (t : Nat))) = o2 := by
              rw [List.filter_append, filter_all (fun z hz => decide_eq_true (by have := g2.inn z hz; omega)), filter_none (fun z hz => decide_eq_false (by have := v2.inn z hz; omega)), List.append_nil]
            rw [← c1, ← c2, e1]
        · exact .nil
      · refine List.Pairwise.imp_of_mem (R := (· < ·)) (fun {t1 t2} _ _ hlt => ?_) List.pairwise_lt_range
        rintro u hu u' hu' rfl
        unfold seg at hu hu'
        split at hu
        · split at hu'
          · obtain ⟨o1, _, hu⟩ := List.mem_flatMap.mp hu
            obtain ⟨w1, _, e1⟩ := List.mem_map.mp hu
            obtain ⟨o2, _, hu'⟩ := List.mem_flatMap.mp hu'
            obtain ⟨w2, _, e2⟩ := List.mem_map.mp hu'
            rw [← e2] at e1
            injection e1 with e1 _
            have := congrArg Prod.snd e1
            have : a + 1 + (t1 : Int) = a + 1 + (t2 : Int) := this
            omega
          · cases hu'
        · cases hu
      · rintro rfl
        have h1 := fo4_of r x n (a + 1) q hq
        obtain ⟨t, _, hs⟩ := List.mem_flatMap.mp hq'
        unfold seg at hs
        split at hs
        · obtain ⟨o1, _, hs⟩ := List.mem_flatMap.mp hs
          obtain ⟨w1, _, rfl⟩ := List.mem_map.mp hs
          have := h1.inn (a, a + 1 + (t : Nat)) (List.mem_cons_self ..)
          have : a + 1 ≤ a := this.1
          omega
        · cases hs
/-! ### lists without one twice -/
theorem nd_count {α : Type} [DecidableEq α] {y : α} : ∀ {l : List α}, l.Nodup → y ∈ l → l.count y = 1
  | [], _, h => by cases h
  | z :: l, hl, h => by
    have hp := List.nodup_cons.mp hl
    by_cases e : z = y
    · subst e
      rw [List.count_cons_self, List.count_eq_zero.mpr hp.1]
    · rw [List.count_cons_of_ne (by simpa using e)]
      rcases List.mem_cons.mp h with h | h
      · exact absurd h.symm e
      · exact nd_count hp.2 h
theorem perm_nd {α : Type} [DecidableEq α] {l m : List α} (hl : l.Nodup) (hm : m.Nodup) (h : ∀ y, y ∈ l ↔ y ∈ m) : l.Perm m := List.perm_iff_count.mpr fun y => by
  by_cases c : y ∈ l
  · rw [nd_count hl c, nd_count hm ((h y).mp c)]
  · rw [List.count_eq_zero.mpr c, List.count_eq_zero.mpr fun z => c ((h y).mpr z)]
theorem len_nd {α : Type} [DecidableEq α] : ∀ {l m : List α}, l.Nodup → (∀ y ∈ l, y ∈ m) → l.length ≤ m.length
  | [], _, _, _ => Nat.zero_le _
  | y :: l, m, hl, h => by
    have hp := List.nodup_cons.mp hl
    have hy := h y (List.mem_cons_self ..)
    have := len_nd (l := l) (m := m.erase y) hp.2 fun z hz => (List.mem_erase_of_ne (fun e : z = y => hp.1 (by rw [← e]; exact hz))).mpr (h z (List.mem_cons_of_mem _ hz))
    rw [List.length_erase_of_mem hy] at this
    have : 0 < m.length := List.length_pos_of_mem hy
    rw [List.length_cons]
    omega
end Pf


namespace Pf
open PySem PySem.Spec PyProof.Rows L2
/-! ### foldings as data -/
theorem sm_i32 {i : Int} (h0 : 0 ≤ i) (h1 : i < 32) : Sm 5 0 (.int i) := by
  have h := Sm.int (i := i) (by omega) (by omega)
  refine ⟨h.lay, h.sho, h.ish, ?_, h.dep⟩
  have hl : i.natAbs.log2 < 5 := by
    by_cases z : i.natAbs = 0
    · rw [z]
      decide
    · exact (Nat.log2_lt z).mpr (by omega)
  simp only [PyData.weight]
  split <;> omega
theorem sm_fo {q : Fo} (hn : q.length ≤ 6) (h : ∀ y ∈ q, 0 ≤ y.1 ∧ y.1 < 32 ∧ 0 ≤ y.2 ∧ y.2 < 32) : Sm 78 2 (dFo q) := by
  refine Sm.tup (n := 6) (m := 12) (k := 1) (by rw [List.length_map]; exact hn) (fun d hd => ?_) (by decide)
  obtain ⟨y, hy, rfl⟩ := List.mem_map.mp hd
  have := h y hy
  refine Sm.tup (n := 2) (m := 5) (k := 0) (Nat.le_refl _) (fun d hd => ?_) (by decide)
  simp only [List.mem_cons, List.not_mem_nil, or_false] at hd
  rcases hd with rfl | rfl
  · exact sm_i32 (by omega) (by omega)
  · exact sm_i32 (by omega) (by omega)
theorem sm_fos {r : Rl} {x : Str} {n : Nat} (hn : n ≤ 10) {L : List Fo} (hp : L.Perm (WA r x n 0)) : Sm 1000000 3 (.list (L.map dFo)) := by
  have hl := WA_len10 r x hn 0
  refine Sm.lst (n := 2188) (m := 78) (k := 2) (by rw [List.length_map, hp.length_eq]; exact hl) (fun d hd => ?_) (by decide)
  obtain ⟨q, hq, rfl⟩ := List.mem_map.mp hd
  have hi := WA_in r x n 0 q (hp.mem_iff.mp hq)
  refine sm_fo (by omega) fun y hy => ?_
  have := hi.1 y hy
  omega
theorem SF_perm (L : List Fo) : (SF L).Perm L := List.mergeSort_perm _ _
/-! ### pairs as data -/
theorem lay_twos : ∀ L : Fo, PyData.canLayAll0 (L.map dTwo) = true
  | [] => by simp [PyData.canLayAll0]
  | y :: L => by
    rw [List.map_cons]
    simp [PyData.canLayAll0, PyData.canLay0, dTwo, lay_twos L]
theorem shaped_twos (L : Fo) : SeqAt.shaped (.list (L.map dTwo)) = true := by
  show (PyData.canLay0 (.list (L.map dTwo)) && decide (PyData.depth (.list (L.map dTwo)) ≤ 64)) = true
  have h1 : PyData.canLay0 (.list (L.map dTwo)) = true := by
    rw [PyData.canLay0]
    exact lay_twos L
  have h2 : PyData.depth (.list (L.map dTwo)) ≤ 64 := by
    rw [PyData.depth]
    have := dep_twos L
    omega
  rw [h1, decide_eq_true h2]
  rfl
theorem eqv_nil (L : Fo) : PyData.eqv (.list (L.map dTwo)) (.list []) = L.isEmpty := by
  cases L with
  | nil => simp [PyData.eqv, PyData.eqvAll]
  | cons y L => simp [PyData.eqv, PyData.eqvAll]
/-- what a comprehension keeps of pairs -/
def KeepL (E1 : Addr) (H : Hp) (L : Fo) (n : Nat) (H2 : Hp) : Prop := ∃ vs, H2 E1 = some (.lst vs) ∧ Paired (TwoAt H2) vs L ∧ L.length ≤ n ∧ Ext H H2
theorem KeepL.new {E1 : Addr} {H : Hp} (h : H E1 = none) : KeepL E1 H [] 0 (upd H E1 (.lst [])) := ⟨[], upd_same, .nil, Nat.le_refl _, Ext.new h⟩
theorem KeepL.add {E1 a1 : Addr} {H H2 H3 : Hp} {L : Fo} {n : Nat} {y : Int × Int} (hE : H E1 = none) (h : KeepL E1 H L n H2) (k : Ext H2 H3) (ha : H3 a1 = some (.tup [.int y.1, .int y.2])) (hn : n ≤ 1000) : ∃ acc, H3 E1 = some (.lst acc) ∧ acc.length < sizeLine ∧ KeepL E1 H (L ++ [y]) (n + 1) (upd H3 E1 (.lst (acc ++ [.ref a1]))) := by
  obtain ⟨vs, hL, hP, hl, k2⟩ := h
  have hL3 := k _ _ hL
  have := paired_len hP
  refine ⟨vs, hL3, szLt (by omega), _, upd_same, paired_app (paired_imp (fun _ _ => TwoAt.mono _ _ _ _ ((TupK.ext k).trans (TupK.lst hL3))) hP) (.cons (TwoAt.mono _ _ _ _ (TupK.lst hL3) ⟨a1, rfl, ha⟩) .nil), by rw [List.length_append, List.length_singleton]; omega, (k2.trans k).put hE⟩
theorem KeepL.skip {E1 : Addr} {H H2 H3 : Hp} {L : Fo} {n : Nat} (h : KeepL E1 H L n H2) (k : Ext H2 H3) : KeepL E1 H L (n + 1) H3 := by
  obtain ⟨vs, hL, hP, hl, k2⟩ := h
  exact ⟨vs, k _ _ hL, paired_imp (fun _ _ => TwoAt.mono _ _ _ _ (TupK.ext k)) hP, by omega, k2.trans k⟩
theorem KeepL.ext {E1 : Addr} {H H2 : Hp} {L : Fo} {n : Nat} (h : KeepL E1 H L n H2) : Ext H H2 := by
  obtain ⟨vs, hL, hP, hl, k2⟩ := h
  exact k2
theorem take_filt {w : Fo} {c : Nat} {y : Int × Int} {p : Int × Int → Bool} (h : w[c]? = some y) : (w.take (c + 1)).filter p = (w.take c).filter p ++ (if p y = true then [y] else []) := by
  rw [List.take_add_one, h, List.filter_append]
  congr 1
  by_cases e : p y = true
  · rw [if_pos e]
    exact List.filter_cons_of_pos e
  · rw [if_neg e]
    exact List.filter_cons_of_neg e
theorem str_sub (q0 : Fo) (i j : Int) : ∀ y ∈ strC q0 i j, y ∈ q0 := fun y hy => by
  unfold strC nn withinC at hy
  exact (List.mem_filter.mp (List.mem_filter.mp hy).1).1
theorem str_len (q0 : Fo) (i j : Int) : (strC q0 i j).length ≤ q0.length := by
  unfold strC nn withinC
  exact Nat.le_trans (List.length_filter_le _ _) (List.length_filter_le _ _)
theorem val_prs : ∀ (prs : List (Str × Int)) (b : Str), b ∈ prs.map (·.1) → valV (prs.map encP) (.inr b) = some (.int (pwI prs b))
  | [], _, h => by cases h
  | (t, x) :: r, b, h => by
    rw [List.map_cons, pwI]
    by_cases e : t = b
    · rw [valV_pos (show (encP (t, x)).1 = .inr b by rw [e]; rfl), if_pos e]
      rfl
    · rw [valV_neg (show ¬ (encP (t, x)).1 = .inr b from fun z => e (Sum.inr.inj z)), if_neg e]
      refine val_prs r b ?_
      rcases List.mem_cons.mp h with h | h
      · exact absurd h.symm e
      · exact h
end Pf


namespace Pf
open PySem PySem.Spec PyProof.Rows L2
/-! ### pairs straight within, as the program finds them -/
def ins (pr : Option (Int × Int)) (x : Int × Int) : Bool := match pr with
  | none => true
  | some q => decide (q.1 < x.1) && decide (x.2 < q.2)
def fits (acc : List (Int × Int)) (x : Int × Int) : Bool := acc.isEmpty || decide ((acc.getLast?.map (·.2)).getD 0 < x.1)
def gstep (pr : Option (Int × Int)) (acc : List (Int × Int)) (x : Int × Int) : List (Int × Int) := if (ins pr x && fits acc x) = true then acc ++ [x] else acc
def gr : Option Int → List (Int × Int) → List (Int × Int)
  | _, [] => []
  | e, x :: r => if (e.isNone || decide (e.getD 0 < x.1)) = true then x :: gr (some x.2) r else gr e r
theorem fits_last (acc : List (Int × Int)) (x : Int × Int) : fits acc x = ((acc.getLast?.map (·.2)).isNone || decide ((acc.getLast?.map (·.2)).getD 0 < x.1)) := by
  unfold fits
  cases acc with
  | nil => rfl
  | cons a r =>
    rw [List.getLast?_cons]
    rfl
theorem fold_gr (pr : Option (Int × Int)) : ∀ (ps acc : List (Int × Int)), ps.foldl (gstep pr) acc = acc ++ gr (acc.getLast?.map (·.2)) (ps.filter (ins pr))
  | [], acc => by
    rw [List.foldl_nil, List.filter_nil, gr, List.append_nil]
  | x :: r, acc => by
    rw [List.foldl_cons, fold_gr pr r]
    unfold gstep
    by_cases h : ins pr x = true
    · rw [List.filter_cons_of_pos h, gr, h, Bool.true_and, ← fits_last]
      by_cases h2 : fits acc x = true
      · rw [if_pos h2, if_pos h2, List.append_assoc]
        simp
      · rw [if_neg h2, if_neg h2]
    · rw [List.filter_cons_of_neg h, if_neg (by simp [h])]
def swL (pr : Option (Int × Int)) (ps : List (Int × Int)) : List (Int × Int) := ps.foldl (gstep pr) []
def OneAt (H : Hp) (v : V) (pr : Option (Int × Int)) : Prop := match pr with
  | none => v = .non
  | some q => TwoAt H v q
theorem OneAt.mono : Mono OneAt := fun H H' v x k h => by
  cases x with
  | none => exact h
  | some q => exact TwoAt.mono _ _ _ _ k h
theorem last_at {H : Hp} {vs : List V} {qs : List (Int × Int)} (hPr : Paired (TwoAt H) vs qs) (h : 0 < vs.length) : ∃ (a : Addr) (q : Int × Int), atI vs (-1) = some (.ref a) ∧ H a = some (.tup [.int q.1, .int q.2]) ∧ qs.getLast? = some q := by
  have hl := paired_len hPr
  have h1 : vs[vs.length - 1]? = some (vs[vs.length - 1]'(by omega)) := List.getElem?_eq_getElem _
  obtain ⟨q, hq, a, ea, ha⟩ := paired_get hPr h1
  refine ⟨a, q, ?_, ha, ?_⟩
  · unfold atI ixN
    rw [if_neg (by decide), if_pos (by omega)]
    show vs[(-1 + (vs.length : Int)).toNat]? = _
    rw [show (-1 + (vs.length : Int)).toNat = vs.length - 1 by omega, h1, ea]
  · rw [List.getLast?_eq_getElem?, ← hl]
    exact hq
theorem fold_take {α β : Type} {f : β → α → β} {b : β} {xs : List α} {i : Nat} {x : α} (h : xs[i]? = some x) : (xs.take (i + 1)).foldl f b = f ((xs.take i).foldl f b) x := by
  rw [List.take_add_one, h, List.foldl_append]
  rfl
theorem gstep_len (pr : Option (Int × Int)) (acc : List (Int × Int)) (x : Int × Int) : (gstep pr acc x).length ≤ acc.length + 1 := by
  unfold gstep
  split
  · rw [List.length_append]
    exact Nat.le_refl _
  · omega
theorem fold_len (pr : Option (Int × Int)) : ∀ (ps acc : List (Int × Int)), (ps.foldl (gstep pr) acc).length ≤ acc.length + ps.length
  | [], acc => by simp
  | x :: r, acc => by
    have h1 := fold_len pr r (gstep pr acc x)
    have h2 := gstep_len pr acc x
    rw [List.foldl_cons, List.length_cons]
    omega
theorem gr_some : ∀ (e : Int) (q : Fo), gr (some e) q = topF (e + 1) q
  | _, [] => rfl
  | e, y :: q => by
    rw [gr, topF]
    by_cases h : e < y.1
    · rw [if_pos (by simp; exact h), if_pos (by omega), gr_some y.2 q]
    · rw [if_neg (by simp; omega), if_neg (by omega), gr_some e q]
theorem gr_none (q : Fo) : gr none q = tops q := by
  cases q with
  | nil => rfl
  | cons y q =>
    rw [gr, tops, if_pos (by rfl), gr_some]
theorem sw_tops (pr : Option (Int × Int)) (q : Fo) : swL pr q = tops (q.filter (ins pr)) := by
  unfold swL
  rw [fold_gr, List.nil_append]
  exact gr_none _
theorem sw_none (q : Fo) : swL none q = tops q := by
  rw [sw_tops, filter_all (f := ins none) (fun y _ => rfl)]
/-- within a pair of a folding -/
theorem within_WA {r : Rl} {x : Str} {n : Nat} {a : Int} {q : Fo} (hq : q ∈ WA r x n a) {y : Int × Int} (hy : y ∈ q) : ∃ t : Nat, withinC q y.1 y.2 ∈ WA r x t (y.1 + 1) := by
  have f := fo4_of r x n a q hq
  have hb := f.inn y hy
  refine ⟨(y.2 - y.1 - 1).toNat, of_fo4 r x _ _ _ (f.sub (List.filter_sublist ..) fun z hz => ?_)⟩
  obtain ⟨hz1, hz2⟩ := List.mem_filter.mp hz
  rw [Bool.and_eq_true] at hz2
  have h1 : y.1 < z.1 := of_decide_eq_true hz2.1
  have h2 : z.2 < y.2 := of_decide_eq_true hz2.2
  have := f.inn z hz1
  omega
theorem sw_some {r : Rl} {x : Str} {n : Nat} {a : Int} {q : Fo} (hq : q ∈ WA r x n a) {y : Int × Int} (hy : y ∈ q) : swL (some y) q = strC q y.1 y.2 := by
  obtain ⟨t, ht⟩ := within_WA hq hy
  rw [sw_tops]
  show tops (withinC q y.1 y.2) = nn (withinC q y.1 y.2)
  exact (nn_tops r x t (y.1 + 1) _ ht).symm
theorem free_le {r : Rl} {x : Str} {n : Nat} {a : Int} {q : Fo} (hq : q ∈ WA r x n a) {y : Int × Int} (hy : y ∈ q) : freeI y (strC q y.1 y.2) ≤ y.2 - y.1 - 1 := by
  have f := fo4_of r x n a q hq
  unfold freeI wid
  have : 0 ≤ ((strC q y.1 y.2).map fun y => y.2 - y.1 + 1).sum := by
    have aux : ∀ l : Fo, (∀ z ∈ l, z ∈ q) → 0 ≤ (l.map fun y => y.2 - y.1 + 1).sum := by
      intro l
      induction l with
      | nil => intro _; exact Int.le_refl _
      | cons z l ih =>
        intro h
        rw [List.map_cons, List.sum_cons]
        have h1 := f.inn z (h z (List.mem_cons_self ..))
        have h2 := ih fun w hw => h w (List.mem_cons_of_mem _ hw)
        omega
    exact aux _ fun z hz => str_sub q y.1 y.2 z hz
  omega
theorem tops_len : ∀ q : Fo, (tops q).length ≤ q.length
  | [] => Nat.le_refl _
  | y :: q => by
    have aux : ∀ (z : Int) (q : Fo), (topF z q).length ≤ q.length := by
      intro z q
      induction q generalizing z with
      | nil => exact Nat.le_refl _
      | cons y q ih =>
        rw [topF]
        split
        · rw [List.length_cons, List.length_cons]
          have := ih (y.2 + 1)
          omega
        · rw [List.length_cons]
          have := ih z
          omega
    rw [tops, List.length_cons, List.length_cons]
    have := aux (y.2 + 1) q
    omega
def woV (r : Rl) (x : Str) (qs : Fo) : Int := (qs.map fun y => pwI r.prs (tx2 x y)).sum + (qs.map fun y => lpW r x y (strC qs y.1 y.2)).sum + ((tops qs).length : Int) * lo r 8
abbrev Row : Type := Int × Int × Str × Int × Int
def RowAt (H : Hp) (v : V) (y : Row) : Prop := ∃ a, v = .ref a ∧ H a = some (.tup [.int y.1, .int y.2.1, .str y.2.2.1, .int y.2.2.2.1, .int y.2.2.2.2])
theorem RowAt.mono : Mono RowAt := fun H H' v x k ⟨a, e, h⟩ => ⟨a, e, k _ _ h⟩
def lpR (r : Rl) (x : Str) (qs : List (Int × Int)) (one : Int × Int) : Row := (one.1, one.2, kindN (freeI one (strC qs one.1 one.2)) (strC qs one.1 one.2).length, freeI one (strC qs one.1 one.2), lpW r x one (strC qs one.1 one.2))
section
variable {P : Program} {w : World} {K : PySem.W.Frag} {mg : Str → Option Value} {base : Heap}
abbrev s_straight_within : Stmt := topS 14
theorem sc_straight_within : FnScope ["folding", "pair", "found", "i", "j", "inside"] ["folding", "pair"] (defScope s_straight_within) :=
  ⟨rfl, rfl, rfl, by decide +kernel, rfl, by decide +kernel, by decide +kernel⟩
def spWithin : Sp := fun vs H Q _ => ∃ (vf vp : V) (ps : List (Int × Int)) (pr : Option (Int × Int)), vs = [vf, vp] ∧ TupOf TwoAt H vf ps ∧ ps.length ≤ 1000 ∧ OneAt H vp pr ∧
  ∀ (l : Addr) (us : List V) (H' : Hp), H l = none → H' l = some (.lst us) → Paired (TwoAt H') us (swL pr ps) → Ext H H' → Q (.ref l) H'
theorem ok_within {f : Addr} {fd : FuncData} {k : Nat} (F : Fun K "straight_within" "straight_within" s_straight_within f fd) : FnOk P w K mg base CX0 (k + 1) f fd ["folding", "pair"] spWithin := by
  refine F.ok sc_straight_within (fun vs H Q E h => ?_) (fun cdv A outer s H vs Q E hr h => ?_)
  · obtain ⟨vf, vp, ps, pr, rfl, _⟩ := h
    rfl
  · obtain ⟨vf, vp, ps, pr, rfl, ⟨af, fs, rfl, hF, hPs⟩, hpl, hpr, q⟩ := h
    refine ⟨_, (pss_cons (ps_set (i := 2) sc_straight_within.nd rfl (.inl rfl) (pe_lst pa_nil))
      (pss_cons (ps_for PassesOwn.never rfl (pi_tup (pv 0)) (pg_tup rfl (pgs_cons (pg_name (i := 3) sc_straight_within.nd rfl (.inl rfl)) (pgs_cons (pg_name (i := 4) sc_straight_within.nd rfl (.inl rfl)) pgs_nil))) (pss_cons (ps_set (i := 5) sc_straight_within.nd rfl (.inl rfl) (pe_or (pe_cmpR op_isN (pv 1) pe_non (nomark _)) (pe_one (pe_and (pe_cmpR op_lt (pe_ix (ixT K) (pv 1) pe_int (fun _ _ => rfl)) (pv 3) (nomark _)) (pe_one (pe_cmpR op_lt (pv 4) (pe_ix (ixT K) (pv 1) pe_int (fun _ _ => rfl)) (nomark _)))))))
      (pss_one (ps_if (PW.pt (pw_and (pt_val (pv 5)) (pw_and1 (PW.pt (pw_or (pt_not (pt_truth (pv 2) (by intro _; rfl))) (pw_or1 (pt_cmpR op_lt (pe_ix (ixT K) (pe_ix (ixL K) (pv 2) (pe_un un_neg pe_int) (fun _ _ => rfl)) pe_int (fun _ _ => rfl)) (pv 3) (nomark _)))))))) (pss_one (ps_expr (pe_bm PySem.F.plainAttrs_list PySem.F.slot_list_append PySem.F.type_list_append mt_append (pv 2) (pa_cons (pe_tup (pa_cons (pv 3) (pa_cons (pv 4) pa_nil))) pa_nil)))) pss_nil))))
      (pss_one (ps_ret (pv 2))))), ?_⟩
    have hfl := paired_len hPs
    refine ⟨Nat.zero_le _, fun l hl => ?_⟩
    refine ⟨_, rfl, af, rfl, ⟨_, SqT.of (Ext.new hl _ _ hF)⟩, for_tup (xs := fs) (fun i σ H2 => ∃ (y3 y4 y5 : Option V) (us : List V), σ = [some (.ref af), some vp, some (.ref l), y3, y4, y5] ∧ H2 l = some (.lst us) ∧ Paired (TwoAt H2) us ((ps.take i).foldl (gstep pr) []) ∧ Ext H H2)
      ⟨none, none, none, [], rfl, upd_same, .nil, Ext.new hl⟩ (fun i σ H2 _ ⟨_, _, _, _, _, _, _, k⟩ => SqT.of (k _ _ hF)) (fun i u σ H2 hi hv => ?_) (fun σ H2 hv => ?_)⟩
    · obtain ⟨y3, y4, y5, us, rfl, hL2, hPr, k2⟩ := hv
      obtain ⟨⟨a, b⟩, hx, a1, rfl, ha1⟩ := paired_get hPs hi
      rw [fold_take hx]
      have hus := paired_len hPr
      have hul : us.length ≤ 1000 := by
        have := fold_len pr (ps.take i) []
        rw [List.length_take, List.length_nil] at this
        omega
      refine ⟨a1, _, rfl, SqT.of (k2 _ _ ha1), rfl, _, _, rfl, _, _, rfl, rfl, ?_⟩
      generalize (ps.take i).foldl (gstep pr) [] = acc at hPr hus
      cases pr with
      | none =>
        obtain rfl : vp = .non := hpr
        have hI : ins none (a, b) = true := rfl
        generalize (none : Option (Int × Int)) = pr at hI ⊢
        refine ⟨_, rfl, rfl, _, rfl, iteT ?_⟩
        refine ⟨_, rfl, _, rfl, ite2 (fun e => ?_) (fun e => ?_)⟩
        · have hI' : ins pr (a, b) = true := hI.trans e
          refine ⟨_, rfl, _, .inl ⟨us, SqL.of hL2, rfl⟩, ?_⟩
          cases us with
          | nil =>
            cases hPr
            refine iteT ?_
            refine iteT ?_
            refine ⟨_, rfl, .inl ⟨rfl, _, SqL.of hL2⟩, _, rfl, _, rfl, szL (show 2 ≤ 1000000 by decide), fun t ht => ?_⟩
            have e8 := Ext.new (o := .tup [.int a, .int b]) ht
            refine ⟨l, _, _, rfl, rfl, e8 _ _ hL2, szLt (show 0 < 1000000 by decide), ?_⟩
            refine ⟨_, _, _, [.ref t], rfl, upd_same, ?_, (k2.trans e8).put hl⟩
            unfold gstep
            rw [if_pos (by rw [hI']; rfl)]
            refine .cons ⟨t, rfl, ?_⟩ .nil
            rw [upd_ne (ne_of_none hL2 ht).symm, upd_same]
          | cons u0 us0 =>
            refine iteF ?_
            obtain ⟨ak, qk, hat, hak, hlast⟩ := last_at hPr (by rw [List.length_cons]; omega)
            have hfit : fits acc (a, b) = decide (qk.2 < a) := by
              rw [fits_last, hlast]
              rfl
            refine ⟨_, rfl, 1, rfl, l, _, -1, _, rfl, rfl, SqL.of hL2, hat, ak, _, 1, _, rfl, rfl, SqT.of hak, rfl, _, rfl, _, _, rfl, rfl, _, rfl, ite2 (fun e2 => ?_) (fun e2 => ?_)⟩
            · refine ⟨_, rfl, .inl ⟨rfl, _, SqL.of hL2⟩, _, rfl, _, rfl, szL (show 2 ≤ 1000000 by decide), fun t ht => ?_⟩
              have e8 := Ext.new (o := .tup [.int a, .int b]) ht
              have hL8 := e8 _ _ hL2
              refine ⟨l, _, _, rfl, rfl, hL8, szLt (by omega), ?_⟩
              refine ⟨_, _, _, (u0 :: us0) ++ [.ref t], rfl, upd_same, ?_, (k2.trans e8).put hl⟩
              unfold gstep
              rw [if_pos (by rw [hI', hfit]; exact e2)]
              refine (paired_imp (fun _ _ => TwoAt.mono _ _ _ _ ((TupK.ext e8).trans (TupK.lst hL8))) hPr).snoc ⟨t, rfl, ?_⟩
              rw [upd_ne (ne_of_none hL2 ht).symm, upd_same]
            · refine ⟨_, _, _, u0 :: us0, rfl, hL2, ?_, k2⟩
              unfold gstep
              rw [if_neg (by rw [hI', hfit]; exact e2)]
              exact hPr
        · have hI' : ins pr (a, b) = false := hI.trans (Bool.eq_false_iff.mpr e)
          refine ⟨_, _, _, us, rfl, hL2, ?_, k2⟩
          unfold gstep
          rw [if_neg (by rw [hI']; exact Bool.false_ne_true)]
          exact hPr
      | some q0 =>
        obtain ⟨ap, rfl, hap⟩ : TwoAt H vp q0 := hpr
        refine ⟨_, rfl, rfl, _, rfl, ?_⟩
        rw [decide_eq_false (show ¬ V.ref ap = V.non from fun z => by cases z)]
        refine iteF ⟨_, rfl, ap, _, 0, _, rfl, rfl, SqT.of (k2 _ _ hap), rfl, _, rfl, _, _, rfl, rfl, _, rfl, ite2 (fun e0 => ?_) (fun e0 => ?_)⟩
        · have hI : ins (some q0) (a, b) = decide (b < q0.2) := by
            show (decide (q0.1 < a) && decide (b < q0.2)) = _
            have e0 : decide (q0.1 < a) = true := e0
            rw [e0, Bool.true_and]
          refine ⟨_, rfl, _, rfl, ap, _, 1, _, rfl, rfl, SqT.of (k2 _ _ hap), rfl, _, _, rfl, rfl, ?_⟩
          generalize (some q0 : Option (Int × Int)) = pr at hI ⊢
          refine ⟨_, rfl, _, rfl, ite2 (fun e => ?_) (fun e => ?_)⟩
          · have hI' : ins pr (a, b) = true := hI.trans e
            refine ⟨_, rfl, _, .inl ⟨us, SqL.of hL2, rfl⟩, ?_⟩
            cases us with
            | nil =>
              cases hPr
              refine iteT ?_
              refine iteT ?_
              refine ⟨_, rfl, .inl ⟨rfl, _, SqL.of hL2⟩, _, rfl, _, rfl, szL (show 2 ≤ 1000000 by decide), fun t ht => ?_⟩
              have e8 := Ext.new (o := .tup [.int a, .int b]) ht
              refine ⟨l, _, _, rfl, rfl, e8 _ _ hL2, szLt (show 0 < 1000000 by decide), ?_⟩
              refine ⟨_, _, _, [.ref t], rfl, upd_same, ?_, (k2.trans e8).put hl⟩
              unfold gstep
              rw [if_pos (by rw [hI']; rfl)]
              refine .cons ⟨t, rfl, ?_⟩ .nil
              rw [upd_ne (ne_of_none hL2 ht).symm, upd_same]
            | cons u0 us0 =>
              refine iteF ?_
              obtain ⟨ak, qk, hat, hak, hlast⟩ := last_at hPr (by rw [List.length_cons]; omega)
              have hfit : fits acc (a, b) = decide (qk.2 < a) := by
                rw [fits_last, hlast]
                rfl
              refine ⟨_, rfl, 1, rfl, l, _, -1, _, rfl, rfl, SqL.of hL2, hat, ak, _, 1, _, rfl, rfl, SqT.of hak, rfl, _, rfl, _, _, rfl, rfl, _, rfl, ite2 (fun e2 => ?_) (fun e2 => ?_)⟩
              · refine ⟨_, rfl, .inl ⟨rfl, _, SqL.of hL2⟩, _, rfl, _, rfl, szL (show 2 ≤ 1000000 by decide), fun t ht => ?_⟩
                have e8 := Ext.new (o := .tup [.int a, .int b]) ht
                have hL8 := e8 _ _ hL2
                refine ⟨l, _, _, rfl, rfl, hL8, szLt (by omega), ?_⟩
                refine ⟨_, _, _, (u0 :: us0) ++ [.ref t], rfl, upd_same, ?_, (k2.trans e8).put hl⟩
                unfold gstep
                rw [if_pos (by rw [hI', hfit]; exact e2)]
                refine (paired_imp (fun _ _ => TwoAt.mono _ _ _ _ ((TupK.ext e8).trans (TupK.lst hL8))) hPr).snoc ⟨t, rfl, ?_⟩
                rw [upd_ne (ne_of_none hL2 ht).symm, upd_same]
              · refine ⟨_, _, _, u0 :: us0, rfl, hL2, ?_, k2⟩
                unfold gstep
                rw [if_neg (by rw [hI', hfit]; exact e2)]
                exact hPr
          · have hI' : ins pr (a, b) = false := hI.trans (Bool.eq_false_iff.mpr e)
            refine ⟨_, _, _, us, rfl, hL2, ?_, k2⟩
            unfold gstep
            rw [if_neg (by rw [hI']; exact Bool.false_ne_true)]
            exact hPr
        · have hI : ins (some q0) (a, b) = false := by
            show (decide (q0.1 < a) && decide (b < q0.2)) = _
            have e0 : decide (q0.1 < a) = false := Bool.eq_false_iff.mpr e0
            rw [e0, Bool.false_and]
          generalize (some q0 : Option (Int × Int)) = pr at hI ⊢
          refine ⟨_, rfl, _, rfl, ite2 (fun e => ?_) (fun e => ?_)⟩
          · have hI' : ins pr (a, b) = true := hI.trans e
            refine ⟨_, rfl, _, .inl ⟨us, SqL.of hL2, rfl⟩, ?_⟩
            cases us with
            | nil =>
              cases hPr
              refine iteT ?_
              refine iteT ?_
              refine ⟨_, rfl, .inl ⟨rfl, _, SqL.of hL2⟩, _, rfl, _, rfl, szL (show 2 ≤ 1000000 by decide), fun t ht => ?_⟩
              have e8 := Ext.new (o := .tup [.int a, .int b]) ht
              refine ⟨l, _, _, rfl, rfl, e8 _ _ hL2, szLt (show 0 < 1000000 by decide), ?_⟩
              refine ⟨_, _, _, [.ref t], rfl, upd_same, ?_, (k2.trans e8).put hl⟩
              unfold gstep
              rw [if_pos (by rw [hI']; rfl)]
              refine .cons ⟨t, rfl, ?_⟩ .nil
              rw [upd_ne (ne_of_none hL2 ht).symm, upd_same]
            | cons u0 us0 =>
              refine iteF ?_
              obtain ⟨ak, qk, hat, hak, hlast⟩ := last_at hPr (by rw [List.length_cons]; omega)
              have hfit : fits acc (a, b) = decide (qk.2 < a) := by
                rw [fits_last, hlast]
                rfl
              refine ⟨_, rfl, 1, rfl, l, _, -1, _, rfl, rfl, SqL.of hL2, hat, ak, _, 1, _, rfl, rfl, SqT.of hak, rfl, _, rfl, _, _, rfl, rfl, _, rfl, ite2 (fun e2 => ?_) (fun e2 => ?_)⟩
              · refine ⟨_, rfl, .inl ⟨rfl, _, SqL.of hL2⟩, _, rfl, _, rfl, szL (show 2 ≤ 1000000 by decide), fun t ht => ?_⟩
                have e8 := Ext.new (o := .tup [.int a, .int b]) ht
                have hL8 := e8 _ _ hL2
                refine ⟨l, _, _, rfl, rfl, hL8, szLt (by omega), ?_⟩
                refine ⟨_, _, _, (u0 :: us0) ++ [.ref t], rfl, upd_same, ?_, (k2.trans e8).put hl⟩
                unfold gstep
                rw [if_pos (by rw [hI', hfit]; exact e2)]
                refine (paired_imp (fun _ _ => TwoAt.mono _ _ _ _ ((TupK.ext e8).trans (TupK.lst hL8))) hPr).snoc ⟨t, rfl, ?_⟩
                rw [upd_ne (ne_of_none hL2 ht).symm, upd_same]
              · refine ⟨_, _, _, u0 :: us0, rfl, hL2, ?_, k2⟩
                unfold gstep
                rw [if_neg (by rw [hI', hfit]; exact e2)]
                exact hPr
          · have hI' : ins pr (a, b) = false := hI.trans (Bool.eq_false_iff.mpr e)
            refine ⟨_, _, _, us, rfl, hL2, ?_, k2⟩
            unfold gstep
            rw [if_neg (by rw [hI']; exact Bool.false_ne_true)]
            exact hPr
    · obtain ⟨y3, y4, y5, us, rfl, hL2, hPr, k2⟩ := hv
      rw [List.take_of_length_le (by omega)] at hPr
      exact ⟨_, rfl, q l us H2 hl hL2 hPr k2⟩
abbrev CWithin (P : Program) (w : World) (K : PySem.W.Frag) (mg : Str → Option Value) (base : Heap) : Prop := Ca P w K mg base 1 "straight_within" ["folding", "pair"] spWithin
abbrev s_loops_of : Stmt := topS 18
theorem sc_loops_of : FnScope ["rules", "string", "folding", "pair"] ["rules", "string", "folding"] (defScope s_loops_of) :=
  ⟨rfl, rfl, rfl, by decide +kernel, rfl, by decide +kernel, by decide +kernel⟩
def spLoops : Sp := fun vs H Q _ => ∃ (v vf : V) (r : Rl) (x : Str) (qs : Fo) (r0 : Rl), vs = [v, .str x, vf] ∧ RulesW H v r ∧ RlOk r ∧ x.length ≤ 1000 ∧ TupOf TwoAt H vf qs ∧ x.length ≤ 12 ∧ qs ∈ WA r0 x x.length 0 ∧
  ∀ (l : Addr) (us : List V) (H' : Hp), H' l = some (.lst us) → Paired (RowAt H') us (qs.map (lpR r x qs)) → H l = none → Ext H H' → Q (.ref l) H'
theorem ok_loops {f : Addr} {fd : FuncData} (F : Fun K "loops_of" "loops_of" s_loops_of f fd) (cloop_within : CLoopW P w K mg base) (cstraight_within : CWithin P w K mg base) : FnOk P w K mg base CX0 3 f fd ["rules", "string", "folding"] spLoops := by
  refine F.ok sc_loops_of (fun vs H Q E h => ?_) (fun cdv A outer s H vs Q E hr h => ?_)
  · obtain ⟨v, vf, r, x, qs, r0, rfl, _⟩ := h
    rfl
  · obtain ⟨v, vf, r, x, qs, r0, rfl, hRu, ok, hx, ⟨af, fs, rfl, hF, hPf⟩, hx12, hq, q⟩ := h
    have hWi := WA_in r0 x x.length 0 qs hq
    have hql : qs.length ≤ 1000 := by omega
    refine ⟨_, (pss_one (ps_ret (pe_lc (own := [("pair", 3)]) (g := gName 3) (by rfl) sc_loops_of.nd (pi_tup (pv 2)) (blkOk_by (own := [("pair", 3)]) (N := ["rules", "string", "folding", "pair"]) (sc := defScope s_loops_of) (by decide +kernel)) (fun _ _ _ _ _ => (pg_name (i := 3) sc_loops_of.nd rfl (.inl rfl))) (fun _ _ _ _ _ => pts_nil) (fun _ _ _ _ _ => (pe_op (catT K) (pv 3) (pe_ca cloop_within (hr.mono (by decide)) (by rfl) (pa_cons (pv 0) (pa_cons (pv 1) (pa_cons (pv 3) (pa_cons (pe_ca cstraight_within (hr.mono (by decide)) (by rfl) (pa_cons (pv 2) (pa_cons (pv 3) pa_nil))) pa_nil)))))))))), ?_⟩
    have hfl := paired_len hPf
    have hInX : InX x qs := fun y hy => by
      have := hWi.1 y hy
      omega
    refine ⟨_, rfl, af, rfl, ⟨_, SqT.of hF⟩, fun D hD => lc_tup (K := K) (xs := fs) (fun i H2 => ∃ us : List V, H2 D = some (.lst us) ∧ Paired (RowAt H2) us ((qs.take i).map (lpR r x qs)) ∧ Ext H H2)
      ⟨[], upd_same, .nil, Ext.new hD⟩ (fun i H2 _ ⟨_, _, _, k⟩ => SqT.of (k _ _ hF)) (fun i u H2 hi' hv => ?_) (fun H2 hv => ?_)⟩
    · obtain ⟨us, hL2, hPr2, k2⟩ := hv
      obtain ⟨one, hone, a1, rfl, ha1⟩ := paired_get hPf hi'
      have hm1 := List.mem_of_getElem? hone
      have hb1 := hWi.1 one hm1
      have hfr : 0 ≤ freeI one (strC qs one.1 one.2) ∧ freeI one (strC qs one.1 one.2) ≤ one.2 - one.1 - 1 := ⟨free_nn hq hm1, free_le hq hm1⟩
      have hkl := str_len qs one.1 one.2
      have hul := paired_len hPr2
      rw [List.length_map, List.length_take] at hul
      have hil : i < fs.length := (List.getElem?_eq_some_iff.mp hi').1
      refine ⟨rfl, _, rfl, _, rfl, _, rfl, _, rfl, _, rfl, _, rfl, .ref af, .ref a1, qs, some one, rfl, ⟨af, fs, rfl, k2 _ _ hF, paired_imp (fun _ _ => TwoAt.mono _ _ _ _ (TupK.ext k2)) hPf⟩, hql, ⟨a1, rfl, k2 _ _ ha1⟩, fun l ws H3 hl hL3 hPr3 k3 => ?_⟩
      have k23 := k2.trans k3
      rw [sw_some hq hm1] at hPr3
      refine ⟨v, r, x, a1, l, one, ws, _, rfl, RulesW.mono _ _ _ _ (TupK.ext k23) hRu, ok, hx, k23 _ _ ha1, hL3, hPr3, by omega, fun y hy => ?_, fun y hy => hInX y (str_sub qs one.1 one.2 y hy), hfr.1, by omega, fun a H4 hA4 k4 => ?_⟩
      · rw [List.mem_singleton.mp hy]
        exact hInX one hm1
      · have k14 := k3.trans k4
        refine ⟨a1, a, _, _, rfl, rfl, SqT.of (k4 _ _ (k23 _ _ ha1)), SqT.of hA4, by (intro z; cases z), szL (show 5 ≤ 1000000 by decide), (fun z => by cases z), fun _ p hp => ⟨us, Ext.new hp _ _ (k14 _ _ hL2), szLt (by omega), us ++ [.ref p], upd_same, ?_, ((k2.trans k14).trans (Ext.new hp)).put hD⟩⟩
        have e5 := Ext.new (o := .tup ([.int one.1, .int one.2] ++ [.str (kindN (freeI one (strC qs one.1 one.2)) (strC qs one.1 one.2).length), .int (freeI one (strC qs one.1 one.2)), .int (lpW r x one (strC qs one.1 one.2))])) hp
        have hL5 := e5 _ _ (k14 _ _ hL2)
        have tk := (TupK.ext (k14.trans e5)).trans (TupK.lst (o := .lst (us ++ [.ref p])) hL5)
        rw [List.take_add_one, hone, List.map_append]
        refine (paired_imp (fun _ _ => RowAt.mono _ _ _ _ tk) hPr2).snoc ⟨p, rfl, ?_⟩
        rw [upd_ne (ne_of_none (k14 _ _ hL2) hp).symm, upd_same]
        rfl
    · obtain ⟨us, hL2, hPr2, k2⟩ := hv
      rw [List.take_of_length_le (by omega)] at hPr2
      exact q D us H2 hL2 hPr2 hD k2
abbrev CLoops (P : Program) (w : World) (K : PySem.W.Frag) (mg : Str → Option Value) (base : Heap) : Prop := Ca P w K mg base 3 "loops_of" ["rules", "string", "folding"] spLoops
abbrev s_worth_of : Stmt := topS 19
theorem sc_worth_of : FnScope ["rules", "string", "folding", "pairs", "loops", "pair", "loop"] ["rules", "string", "folding"] (defScope s_worth_of) :=
  ⟨rfl, rfl, rfl, by decide +kernel, rfl, by decide +kernel, by decide +kernel⟩
def spWO : Sp := fun vs H Q _ => ∃ (v vf : V) (r : Rl) (x : Str) (qs : Fo) (r0 : Rl), vs = [v, .str x, vf] ∧ RulesW H v r ∧ RlOk r ∧ x.length ≤ 1000 ∧ TupOf TwoAt H vf qs ∧ x.length ≤ 12 ∧ qs ∈ WA r0 x x.length 0 ∧ (∀ y ∈ qs, tx2 x y ∈ r.prs.map (·.1)) ∧ ∀ H', Ext H H' → Q (.int (woV r x qs)) H'
theorem ok_wo {f : Addr} {fd : FuncData} (F : Fun K "worth_of" "worth_of" s_worth_of f fd) (cpair_worth : CPW P w K mg base) (ctext_of : CTx P w K mg base) (cloops_of : CLoops P w K mg base) (cstraight_within : CWithin P w K mg base) (cloop_worths : CLW P w K mg base) (msum : mg "sum" = none) (mlen : mg "len" = none) : FnOk P w K mg base CX0 4 f fd ["rules", "string", "folding"] spWO := by
  refine F.ok sc_worth_of (fun vs H Q E h => ?_) (fun cdv A outer s H vs Q E hr h => ?_)
  · obtain ⟨v, vf, r, x, qs, r0, rfl, _⟩ := h
    rfl
  · obtain ⟨v, vf, r, x, qs, r0, rfl, hRu, ok, hx, ⟨af, fs, rfl, hF, hPf⟩, hx12, hq, hMy, q⟩ := h
    have hWi := WA_in r0 x x.length 0 qs hq
    have hql : qs.length ≤ 1000 := by omega
    refine ⟨_, (pss_cons (ps_set (i := 3) sc_worth_of.nd rfl (.inl rfl) (pe_callB (sumI K) (by rfl) msum (by decide +kernel) (pa_cons (pe_lc (own := [("pair", 5)]) (g := gName 5) (by rfl) sc_worth_of.nd (pi_tup (pv 2)) (blkOk_by (own := [("pair", 5)]) (N := ["rules", "string", "folding", "pairs", "loops", "pair", "loop"]) (sc := defScope s_worth_of) (by decide +kernel)) (fun _ _ _ _ _ => (pg_name (i := 5) sc_worth_of.nd rfl (.inl rfl))) (fun _ _ _ _ _ => pts_nil) (fun _ _ _ _ _ => (pe_ca cpair_worth (hr.mono (by decide)) (by rfl) (pa_cons (pv 0) (pa_cons (pe_ca ctext_of (hr.mono (by decide)) (by rfl) (pa_cons (pv 1) (pa_cons (pv 5) pa_nil))) pa_nil))))) pa_nil)))
      (pss_cons (ps_set (i := 4) sc_worth_of.nd rfl (.inl rfl) (pe_callB (sumI K) (by rfl) msum (by decide +kernel) (pa_cons (pe_lc (own := [("loop", 6)]) (g := gName 6) (by rfl) sc_worth_of.nd (pi_list (pe_ca cloops_of (hr.mono (by decide)) (by rfl) (pa_cons (pv 0) (pa_cons (pv 1) (pa_cons (pv 2) pa_nil))))) (blkOk_by (own := [("loop", 6)]) (N := ["rules", "string", "folding", "pairs", "loops", "pair", "loop"]) (sc := defScope s_worth_of) (by decide +kernel)) (fun _ _ _ _ _ => (pg_name (i := 6) sc_worth_of.nd rfl (.inl rfl))) (fun _ _ _ _ _ => pts_nil) (fun _ _ _ _ _ => (pe_ix (ixT K) (pv 6) pe_int (fun _ _ => rfl)))) pa_nil)))
      (pss_one (ps_ret (pe_op op_add (pe_op op_add (pv 3) (pv 4)) (pe_op op_mul (pe_callB (lenQ K) (by rfl) mlen (by decide +kernel) (pa_cons (pe_ca cstraight_within (hr.mono (by decide)) (by rfl) (pa_cons (pv 2) (pa_cons pe_non pa_nil))) pa_nil)) (pe_dget (hu_of hr) (pe_ca cloop_worths (hr.mono (by decide)) (by rfl) (pa_cons (pv 0) pa_nil)) pe_str (fun _ _ => rfl)))))))), ?_⟩
    have hfl := paired_len hPf
    have hInX : InX x qs := fun y hy => by
      have := hWi.1 y hy
      omega
    refine ⟨_, rfl, af, rfl, ⟨_, SqT.of hF⟩, fun D hD => lc_tup (K := K) (xs := fs) (fun i H2 => H2 D = some (.lst (((qs.take i).map fun y => pwI r.prs (tx2 x y)).map V.int)) ∧ Ext H H2)
      ⟨upd_same, Ext.new hD⟩ (fun i H2 _ ⟨_, k⟩ => SqT.of (k _ _ hF)) (fun i u H2 hi' hv => ?_) (fun H2 hv => ?_)⟩
    · obtain ⟨hL2, k2⟩ := hv
      obtain ⟨one, hone, a1, rfl, ha1⟩ := paired_get hPf hi'
      have hm1 := List.mem_of_getElem? hone
      have in1 := hInX one hm1
      have hil : i < fs.length := (List.getElem?_eq_some_iff.mp hi').1
      refine ⟨rfl, _, rfl, _, rfl, _, rfl, x, a1, one, rfl, k2 _ _ ha1, hx, in1.1, in1.2.1, in1.2.2.1, in1.2.2.2, v, r, _, rfl, RulesW.mono _ _ _ _ (TupK.ext k2) hRu, ?_⟩
      rw [pwV_int (hMy one hm1)]
      refine ⟨_, hL2, szLt ?_, ?_, k2.put hD⟩
      · rw [List.length_map, List.length_map, List.length_take]
        omega
      · rw [upd_same, List.take_add_one, hone, List.map_append, List.map_append]
        rfl
    · obtain ⟨hL2, k2⟩ := hv
      rw [List.take_of_length_le (by omega)] at hL2
      refine ⟨D, _, rfl, SqL.of hL2, ?_⟩
      refine ⟨_, rfl, _, rfl, _, rfl, v, .ref af, r, x, qs, r0, rfl, RulesW.mono _ _ _ _ (TupK.ext k2) hRu, ok, hx, ⟨af, fs, rfl, k2 _ _ hF, paired_imp (fun _ _ => TwoAt.mono _ _ _ _ (TupK.ext k2)) hPf⟩, hx12, hq, fun l us H3 hL3 hPr3 hl k3 => ?_⟩
      have hul := paired_len hPr3
      rw [List.length_map] at hul
      refine ⟨l, rfl, ⟨_, SqL.of hL3⟩, fun D2 hD2 => lc_list (K := K) (xs := us) (fun i H4 => H4 D2 = some (.lst (((qs.take i).map fun y => lpW r x y (strC qs y.1 y.2)).map V.int)) ∧ Ext H3 H4)
        ⟨upd_same, Ext.new hD2⟩ (fun i H4 _ ⟨_, k⟩ => SqL.of (k _ _ hL3)) (fun i u H4 hi' hv => ?_) (fun H4 hv => ?_)⟩
      · obtain ⟨hL4, k4⟩ := hv
        obtain ⟨row, hrow, a1, rfl, ha1⟩ := paired_get hPr3 hi'
        have hil : i < us.length := (List.getElem?_eq_some_iff.mp hi').1
        obtain ⟨one, hone, e1⟩ : ∃ one, qs[i]? = some one ∧ lpR r x qs one = row := by
          rw [List.getElem?_map, List.getElem?_eq_getElem (show i < qs.length by omega)] at hrow
          exact ⟨_, List.getElem?_eq_getElem (show i < qs.length by omega), Option.some.inj hrow⟩
        subst e1
        refine ⟨rfl, _, rfl, a1, _, 4, _, rfl, rfl, SqT.of (k4 _ _ ha1), rfl, _, hL4, szLt ?_, ?_, k4.put hD2⟩
        · rw [List.length_map, List.length_map, List.length_take]
          omega
        · rw [upd_same, List.take_add_one, hone, List.map_append, List.map_append]
          rfl
      · obtain ⟨hL4, k4⟩ := hv
        rw [List.take_of_length_le (by omega)] at hL4
        have k04 := (k2.trans k3).trans k4
        refine ⟨D2, _, rfl, SqL.of hL4, ?_⟩
        refine ⟨_, rfl, _, rfl, _, _, rfl, rfl, _, rfl, .ref af, .non, qs, none, rfl, ⟨af, fs, rfl, k04 _ _ hF, paired_imp (fun _ _ => TwoAt.mono _ _ _ _ (TupK.ext k04)) hPf⟩, hql, rfl, fun l5 us5 H5 hl5 hL5 hPr5 k5 => ?_⟩
        rw [sw_none] at hPr5
        have h5l := paired_len hPr5
        have hol := tops_len qs
        have l8 := lo_bound ok (show 8 < 9 by decide)
        refine ⟨l5, us5, rfl, .inl (SqL.of hL5), _, rfl, v, r, rfl, RulesW.mono _ _ _ _ (TupK.ext (k04.trans k5)) hRu, ok.lo9, fun d hd => ?_⟩
        refine ⟨d, _, rfl, get_lo upd_same ok.lo9 (i := 8) (by decide +kernel), _, _, rfl, rfl, .inl ⟨by omega, by omega⟩, _, _, rfl, rfl, ?_⟩
        rw [h5l]
        exact q _ ((k04.trans k5).trans (Ext.new hd))
abbrev CWO (P : Program) (w : World) (K : PySem.W.Frag) (mg : Str → Option Value) (base : Heap) : Prop := Ca P w K mg base 4 "worth_of" ["rules", "string", "folding"] spWO
end
end Pf


namespace Pf
open PySem PySem.Spec PyProof.Rows L2
/-! ### the stretches told -/
def ToldAt (H : Hp) (r : Rl) (x : Str) (kvs : List (List Key × V)) (a b : Int) : Prop := ∃ l us, valV kvs [.inl a, .inl b] = some (.ref l) ∧ H l = some (.lst us) ∧ Paired (FoAt H) us (WA r x (b + 1 - a).toNat a)
theorem ToldAt.ext {H H' : Hp} {r : Rl} {x : Str} {kvs : List (List Key × V)} {a b : Int} (k : Ext H H') (h : ToldAt H r x kvs a b) : ToldAt H' r x kvs a b := by
  obtain ⟨l, us, e1, e2, e3⟩ := h
  exact ⟨l, us, e1, k _ _ e2, paired_imp (fun _ _ => FoAt.mono _ _ _ _ (TupK.ext k)) e3⟩
section
variable {P : Program} {w : World} {K : PySem.W.Frag} {mg : Str → Option Value} {base : Heap}
abbrev s_stretch_foldings : Stmt := topS 21
theorem sc_stretch_foldings : FnScope ["rules", "string", "i", "j", "told", "made", "k", "pair", "within", "behind"] ["rules", "string", "i", "j", "told"] (defScope s_stretch_foldings) :=
  ⟨rfl, rfl, rfl, by decide +kernel, rfl, by decide +kernel, by decide +kernel⟩
def spStr : Sp := fun vs H Q _ => ∃ (v : V) (r : Rl) (x : Str) (i j : Int) (D : Addr) (kvs : List (List Key × V)), vs = [v, .str x, .int i, .int j, .ref D] ∧ RulesW H v r ∧ x.length ≤ 12 ∧ 0 ≤ i ∧ i ≤ j ∧ j < x.length ∧ H D = some (.dT kvs) ∧ (∀ a b, i < a → a ≤ b + 1 → b ≤ j → ToldAt H r x kvs a b) ∧
  ∀ (l : Addr) (us : List V) (H' : Hp), H' l = some (.lst us) → Paired (FoAt H') us (WA r x (j + 1 - i).toNat i) → Ext H H' → Q (.ref l) H'
theorem ok_str {f : Addr} {fd : FuncData} (F : Fun K "stretch_foldings" "stretch_foldings" s_stretch_foldings f fd) (cmay_pair : CMP P w K mg base) (mrange : mg "range" = none) (mlist : mg "list" = none) : FnOk P w K mg base CX0 3 f fd ["rules", "string", "i", "j", "told"] spStr := by
  refine F.ok sc_stretch_foldings (fun vs H Q E h => ?_) (fun cdv A outer s H vs Q E hr h => ?_)
  · obtain ⟨v, r, x, i, j, D, kvs, rfl, _⟩ := h
    rfl
  · obtain ⟨v, r, x, i, j, D, kvs, rfl, hR, hx, i0, ij, jx, hD, hT, q⟩ := h
    refine ⟨_, (pss_cons (ps_set (i := 5) sc_stretch_foldings.nd rfl (.inl rfl) (pe_callTy (listOf K) (by rfl) mlist (by decide +kernel) (pa_cons (pe_dget (hu_of hr) (pv 4) (pe_tup (pa_cons (pe_op op_add (pv 2) pe_int) (pa_cons (pv 3) pa_nil))) (fun _ _ => rfl)) pa_nil)))
      (pss_cons (ps_for PassesOwn.never rfl (pi_range2 (by rfl) mrange (pa_cons (pe_op op_add (pv 2) pe_int) (pa_cons (pe_op op_add (pv 3) pe_int) pa_nil))) (pg_name (i := 6) sc_stretch_foldings.nd rfl (.inr rfl)) (pss_one (ps_if (pt_val (pe_ca cmay_pair (hr.mono (by decide)) (by rfl) (pa_cons (pv 0) (pa_cons (pv 1) (pa_cons (pv 2) (pa_cons (pv 6) pa_nil)))))) (pss_cons (ps_set (i := 7) sc_stretch_foldings.nd rfl (.inr rfl) (pe_tup (pa_cons (pe_tup (pa_cons (pv 2) (pa_cons (pv 6) pa_nil))) pa_nil)))
      (pss_one (ps_aug (i := 5) sc_stretch_foldings.nd rfl (.inl rfl) (pe_lc2 (own := [("within", 8), ("behind", 9)]) (vs1 := [9]) (g := gName 8) (g1 := gName 9) (by rfl) sc_stretch_foldings.nd (pi_list (pe_dget (hu_of hr) (pv 4) (pe_tup (pa_cons (pe_op op_add (pv 2) pe_int) (pa_cons (pe_op op_sub (pv 6) pe_int) pa_nil))) (fun _ _ => rfl))) (blkOk_by (own := [("within", 8), ("behind", 9)]) (N := ["rules", "string", "i", "j", "told", "made", "k", "pair", "within", "behind"]) (sc := defScope s_stretch_foldings) (by decide +kernel)) (by decide) (fun _ _ _ _ _ => (pg_name (i := 8) sc_stretch_foldings.nd rfl (.inl rfl))) (fun _ _ _ _ _ => pts_nil) (fun _ _ _ _ _ => (piL K (pe_dget (hu_of hr) (pv 4) (pe_tup (pa_cons (pe_op op_add (pv 6) pe_int) (pa_cons (pv 3) pa_nil))) (fun _ _ => rfl)))) (fun _ _ _ _ _ => (pg_name (i := 9) sc_stretch_foldings.nd rfl (.inl rfl))) (fun _ _ _ _ _ => pts_nil) (fun _ _ _ _ _ => (pe_op (catE K) (pe_op (catE K) (pv 7) (pv 8)) (pv 9)))) ip_ext))) pss_nil)))
      (pss_one (ps_ret (pv 5))))), ?_⟩
    obtain ⟨n, hn⟩ : ∃ n, n = (j - i).toNat := ⟨_, rfl⟩
    have hn1 : (j + 1 - i).toNat = n + 1 := by omega
    have wl := WA_len r x (n := n + 1) (by omega) i
    rw [hn1] at q
    rw [WA_succ] at q wl
    rw [List.length_append] at wl
    have rulE : ∀ {H' : Hp}, Ext H H' → RulesW H' v r := fun k => RulesW.mono _ _ _ _ (TupK.ext k) hR
    refine ⟨_, rfl, _, rfl, i, 1, rfl, rfl, _, rfl, szL (show 2 ≤ 1000000 by decide), fun t1 ht1 => ?_⟩
    have x1 := Ext.new (o := .tup [.int (i + 1), .int j]) ht1
    obtain ⟨l0, us0, e0, hl0, hP0⟩ := (hT (i + 1) j (by omega) (by omega) (by omega)).ext x1
    refine ⟨D, .ref l0, rfl, e0 ▸ DGet.t (k := [.inl (i + 1), .inl j]) (x1 _ _ hD) upd_same, l0, us0, rfl, .inl (SqL.of hl0), fun m hm => ?_⟩
    have x2 := Ext.new (o := .lst us0) hm
    have mH := x1.none hm
    rw [show (j + 1 - (i + 1)).toNat = n by omega] at hP0
    refine ⟨_, rfl, i, 1, rfl, rfl, _, rfl, j, 1, rfl, rfl, i + 1, j + 1, rfl, ⟨by omega, by omega, by omega, by omega⟩, for_range (lo := i + 1) (n := (j + 1 - (i + 1)).toNat) (fun t σ H2 => ∃ (y6 y7 : Option V) (us : List V), σ = [some v, some (.str x), some (.int i), some (.int j), some (.ref D), some (.ref m), y6, y7, none, none] ∧ H2 m = some (.lst us) ∧ Paired (FoAt H2) us (WA r x n (i + 1) ++ (List.range t).flatMap fun t => seg r x (WA r x) n i t) ∧ Ext H H2)
      ⟨none, none, us0, rfl, upd_same, by rw [List.range_zero, List.flatMap_nil, List.append_nil]; exact paired_imp (fun _ _ => FoAt.mono _ _ _ _ (TupK.ext x2)) hP0, x1.trans x2⟩ (fun t σ H2 ht hv => ?_) (fun σ H2 hv => ?_)⟩
    · obtain ⟨y6, y7, us, rfl, hL2, hP2, k2⟩ := hv
      have ht' : t < n := by omega
      have eflat : (List.range (t + 1)).flatMap (fun t => seg r x (WA r x) n i t) = (List.range t).flatMap (fun t => seg r x (WA r x) n i t) ++ seg r x (WA r x) n i t := by
        rw [List.range_succ, List.flatMap_append]
        simp
      have esub : ((List.range (t + 1)).flatMap fun t => seg r x (WA r x) n i t).length ≤ ((List.range n).flatMap fun t => seg r x (WA r x) n i t).length := by
        rw [flat_len, flat_len]
        have : (List.range n) = List.range (t + 1) ++ (List.range (n - (t + 1))).map (fun y => (t + 1) + y) := by
          rw [← List.range_add]
          congr 1
          omega
        rw [this, List.map_append, List.sum_append]
        omega
      refine ⟨_, rfl, _, rfl, _, rfl, _, rfl, v, r, x, i, i + 1 + t, rfl, rulE k2, by omega, i0, by omega, by omega, fun H3 k3 => ⟨_, rfl, ite2 (fun em => ?_) (fun em => ?_)⟩⟩
      · have k03 := k2.trans k3
        have es : seg r x (WA r x) n i t = (WA r x t (i + 1)).flatMap fun one => (WA r x (n - 1 - t) (i + 2 + t)).map fun other => (i, i + 1 + t) :: (one ++ other) := by
          unfold seg
          rw [if_pos em]
        rw [eflat, es, List.length_append] at esub
        have h2l := paired_len hP2
        rw [List.length_append] at h2l
        refine ⟨_, rfl, _, rfl, szL (show 2 ≤ 1000000 by decide), fun tp htp => ⟨szL (show 1 ≤ 1000000 by decide), fun tq htq => ?_⟩⟩
        have x8 := Ext.new (o := .tup [.int i, .int (i + 1 + (t : Int))]) htp
        have x9 := Ext.new (o := .tup [.ref tp]) htq
        have k89 := x8.trans x9
        have k09 := k03.trans k89
        refine ⟨_, rfl, _, rfl, _, rfl, i, 1, rfl, rfl, _, rfl, i + 1 + t, 1, rfl, rfl, szL (show 2 ≤ 1000000 by decide), fun t4 ht4 => ?_⟩
        have x4 := Ext.new (o := .tup [.int (i + 1), .int (i + 1 + (t : Int) - 1)]) ht4
        have k04 := k09.trans x4
        obtain ⟨l1, us1, e1, hl1, hP1⟩ := (hT (i + 1) (i + 1 + t - 1) (by omega) (by omega) (by omega)).ext k04
        rw [show (i + 1 + (t : Int) - 1 + 1 - (i + 1)).toNat = t by omega] at hP1
        have h1l := paired_len hP1
        obtain ⟨l2, us2, e2, hl2, hP2'⟩ := hT (i + 1 + t + 1) j (by omega) (by omega) (by omega)
        rw [show (j + 1 - (i + 1 + (t : Int) + 1)).toNat = n - 1 - t by omega, show i + 1 + (t : Int) + 1 = i + 2 + t by omega] at hP2'
        have h2l' := paired_len hP2'
        have hp4 : upd (upd (upd H3 tp (.tup [.int i, .int (i + 1 + (t : Int))])) tq (.tup [.ref tp])) t4 (.tup [.int (i + 1), .int (i + 1 + (t : Int) - 1)]) tp = some (.tup [.int i, .int (i + 1 + (t : Int))]) := x4 _ _ (x9 _ _ upd_same)
        have hq4 : upd (upd (upd H3 tp (.tup [.int i, .int (i + 1 + (t : Int))])) tq (.tup [.ref tp])) t4 (.tup [.int (i + 1), .int (i + 1 + (t : Int) - 1)]) tq = some (.tup [.ref tp]) := x4 _ _ upd_same
        refine ⟨D, .ref l1, rfl, e1 ▸ DGet.t (k := [.inl (i + 1), .inl (i + 1 + (t : Int) - 1)]) (k04 _ _ hD) upd_same, l1, rfl, ⟨_, SqL.of hl1⟩, fun D2 hD2 => ?_⟩
        generalize upd (upd (upd H3 tp (.tup [.int i, .int (i + 1 + (t : Int))])) tq (.tup [.ref tp])) t4 (.tup [.int (i + 1), .int (i + 1 + (t : Int) - 1)]) = H4 at hp4 hq4 hl1 hP1 k04 x4 hD2 ⊢
        have k34 := k89.trans x4
        refine lc_two (walk_list (xs := us1)) (fun c H5 => GenL FoAt D2 H4 (((WA r x t (i + 1)).take c).flatMap fun one => (WA r x (n - 1 - t) (i + 2 + t)).map fun other => (i, i + 1 + (t : Int)) :: (one ++ other)) H5)
          (by rw [List.take_zero, List.flatMap_nil]; exact genl_new hD2) (fun c H5 _ h => SqL.of (h.ext _ _ hl1)) (fun c u H5 H5' hc hv hy => ?_) (fun H5 hv => ?_)
        · obtain ⟨rfl, hu⟩ := hy
          obtain ⟨one, hone, a1, fs1, rfl, hT1, hF1⟩ := paired_get hP1 hu
          have k45 := hv.ext
          have etake : ((WA r x t (i + 1)).take (c + 1)).flatMap (fun one => (WA r x (n - 1 - t) (i + 2 + t)).map fun other => (i, i + 1 + (t : Int)) :: (one ++ other)) = ((WA r x t (i + 1)).take c).flatMap (fun one => (WA r x (n - 1 - t) (i + 2 + t)).map fun other => (i, i + 1 + (t : Int)) :: (one ++ other)) ++ (WA r x (n - 1 - t) (i + 2 + t)).map fun other => (i, i + 1 + (t : Int)) :: (one ++ other) := by
            rw [List.take_add_one, hone, List.flatMap_append]
            simp
          have e6 : (((WA r x t (i + 1)).take (c + 1)).flatMap (fun one => (WA r x (n - 1 - t) (i + 2 + t)).map fun other => (i, i + 1 + (t : Int)) :: (one ++ other))).length ≤ ((WA r x t (i + 1)).flatMap (fun one => (WA r x (n - 1 - t) (i + 2 + t)).map fun other => (i, i + 1 + (t : Int)) :: (one ++ other))).length := by
            rw [flat_const (c := (WA r x (n - 1 - t) (i + 2 + t)).length) (fun y _ => List.length_map ..), flat_const (c := (WA r x (n - 1 - t) (i + 2 + t)).length) (fun y _ => List.length_map ..)]
            exact Nat.mul_le_mul_right _ (by rw [List.length_take]; omega)
          rw [etake, List.length_append, List.length_map] at e6
          refine ⟨rfl, _, rfl, _, rfl, i + 1 + t, 1, rfl, rfl, _, rfl, szL (show 2 ≤ 1000000 by decide), fun t6 ht6 => ?_⟩
          have x6 := Ext.new (o := .tup [.int (i + 1 + (t : Int) + 1), .int j]) ht6
          have k06 := (k04.trans k45).trans x6
          have hl26 := k06 _ _ hl2
          refine ⟨D, .ref l2, rfl, e2 ▸ DGet.t (k := [.inl (i + 1 + (t : Int) + 1), .inl j]) (k06 _ _ hD) upd_same, l2, rfl, ⟨_, SqL.of hl26⟩, lc_in (walk_list (xs := us2)) (fun d H7 => GenL FoAt D2 H4 (((WA r x t (i + 1)).take c).flatMap (fun one => (WA r x (n - 1 - t) (i + 2 + t)).map fun other => (i, i + 1 + (t : Int)) :: (one ++ other)) ++ ((WA r x (n - 1 - t) (i + 2 + t)).take d).map fun other => (i, i + 1 + (t : Int)) :: (one ++ other)) H7)
            (by rw [List.take_zero, List.map_nil, List.append_nil]; exact hv.keep FoAt.mono x6) (fun d H7 _ h => SqL.of (h.ext _ _ (k04 _ _ hl2))) (fun d u H7 H7' hd hw hy => ?_) (fun H7 hw => ?_)⟩
          · obtain ⟨rfl, hu⟩ := hy
            obtain ⟨other, hother, a2, fs2, rfl, hT2, hF2⟩ := paired_get hP2' hu
            have k47 := hw.ext
            have k07 := k04.trans k47
            have hone1 := (WA_in r x t (i + 1) one (List.mem_of_getElem? hone)).2
            have hoth1 := (WA_in r x (n - 1 - t) (i + 2 + t) other (List.mem_of_getElem? hother)).2
            have f1l := paired_len hF1
            have f2l := paired_len hF2
            refine ⟨rfl, _, rfl, _, rfl, tq, a1, _, fs1, rfl, rfl, k47 _ _ hq4, k47 _ _ hT1, szL (by rw [List.length_singleton]; omega), fun p10 H10 k10 hp10 => ?_⟩
            refine ⟨_, rfl, p10, a2, _, fs2, rfl, rfl, hp10, k10 _ _ (k07 _ _ hT2), szL (by rw [List.length_append, List.length_singleton]; omega), fun p11 H11 k11 hp11 => ?_⟩
            have kk := k10.trans k11
            have hs := genl_step FoAt.mono hD2 hw kk (v := .ref p11) (b := (i, i + 1 + (t : Int)) :: (one ++ other)) ⟨p11, _, rfl, hp11, ?_⟩ ?_
            · rw [List.take_add_one, hother, List.map_append, ← List.append_assoc]
              exact hs
            · have eap : [V.ref tp] ++ fs1 ++ fs2 = V.ref tp :: (fs1 ++ fs2) := rfl
              rw [eap]
              exact .cons ⟨tp, rfl, (k47.trans kk) _ _ hp4⟩ (paired_app (paired_imp (fun _ _ => TwoAt.mono _ _ _ _ (TupK.ext (k47.trans kk))) hF1) (paired_imp (fun _ _ => TwoAt.mono _ _ _ _ (TupK.ext (k07.trans kk))) hF2))
            · rw [List.length_append, List.length_map, List.length_take]
              omega
          · rw [List.take_of_length_le (l := WA r x (n - 1 - t) (i + 2 + t)) (by omega)] at hw
            rw [etake]
            exact hw
        · rw [List.take_of_length_le (by omega), ← es] at hv
          obtain ⟨vs5, hL5, hP5, k45⟩ := hv
          have h5l := paired_len hP5
          rw [es] at h5l
          have hm5 := (k34.trans k45) _ _ (k3 _ _ hL2)
          refine ⟨m, D2, us, vs5, rfl, rfl, hm5, hL5, szL (by omega), ?_⟩
          refine ⟨_, _, us ++ vs5, rfl, upd_same, ?_, ((k04.trans k45)).put mH⟩
          rw [eflat, ← List.append_assoc]
          exact paired_app (paired_imp (fun _ _ => FoAt.mono _ _ _ _ ((TupK.ext (k3.trans (k34.trans k45))).trans (TupK.lst hm5))) hP2) (paired_imp (fun _ _ => FoAt.mono _ _ _ _ (TupK.lst hm5)) hP5)
      · have es : seg r x (WA r x) n i t = [] := by
          unfold seg
          rw [if_neg em]
        refine ⟨_, _, us, rfl, k3 _ _ hL2, ?_, k2.trans k3⟩
        rw [eflat, es, List.append_nil]
        exact paired_imp (fun _ _ => FoAt.mono _ _ _ _ (TupK.ext k3)) hP2
    · obtain ⟨y6, y7, us, rfl, hL2, hP2, k2⟩ := hv
      rw [show (j + 1 - (i + 1)).toNat = n by omega] at hP2
      exact ⟨_, rfl, q m us H2 hL2 hP2 k2⟩
abbrev CStr (P : Program) (w : World) (K : PySem.W.Frag) (mg : Str → Option Value) (base : Heap) : Prop := Ca P w K mg base 3 "stretch_foldings" ["rules", "string", "i", "j", "told"] spStr
end
end Pf


namespace Pf
open PySem PySem.Spec PyProof.Rows L2
theorem tk_dT {H : Hp} {D : Addr} {o : HO} {kvs : List (List Key × V)} (h : H D = some (.dT kvs)) : TupK H (upd H D o) := ⟨fun b xs e => by rw [upd_ne (ne_of e h (by intro z; cases z))]; exact e, fun b o u e => by rw [upd_ne (ne_of e h (by intro z; cases z))]; exact e⟩
/-- one stretch more -/
theorem told_put {H : Hp} {r : Rl} {x : Str} {kvs : List (List Key × V)} {D l : Addr} {a b i j : Int} {us : List V} (hD : H D = some (.dT kvs)) (hl : H l = some (.lst us)) (hP : Paired (FoAt H) us (WA r x (j + 1 - i).toNat i)) (h : (a = i ∧ b = j) ∨ ToldAt H r x kvs a b) : ToldAt (upd H D (.dT (putK kvs [.inl i, .inl j] (.ref l)))) r x (putK kvs [.inl i, .inl j] (.ref l)) a b := by
  have tk := tk_dT (o := .dT (putK kvs [.inl i, .inl j] (.ref l))) hD
  by_cases c : a = i ∧ b = j
  · obtain ⟨rfl, rfl⟩ := c
    exact ⟨l, us, by rw [valV_put, if_pos rfl], by rw [upd_ne (ne_of hl hD (by intro z; cases z))]; exact hl, paired_imp (fun _ _ => FoAt.mono _ _ _ _ tk) hP⟩
  · rcases h with h | ⟨l', us', e1, e2, e3⟩
    · exact absurd h c
    · refine ⟨l', us', ?_, by rw [upd_ne (ne_of e2 hD (by intro z; cases z))]; exact e2, paired_imp (fun _ _ => FoAt.mono _ _ _ _ tk) e3⟩
      rw [valV_put, if_neg (fun z => c ?_)]
      · exact e1
      · cases z
        exact ⟨rfl, rfl⟩
section
variable {P : Program} {w : World} {K : PySem.W.Frag} {mg : Str → Option Value} {base : Heap}
abbrev s_all_foldings : Stmt := topS 22
theorem sc_all_foldings : FnScope ["rules", "string", "length", "i", "told", "j"] ["rules", "string"] (defScope s_all_foldings) :=
  ⟨rfl, rfl, rfl, by decide +kernel, rfl, by decide +kernel, by decide +kernel⟩
def spAF : Sp := fun vs H Q _ => ∃ (v : V) (r : Rl) (x : Str), vs = [v, .str x] ∧ RulesW H v r ∧ x.length ≤ 12 ∧ Of r.letters x ∧
  ∀ (p : Addr) (ws : List V) (H' : Hp), H p = none → H' p = some (.lst ws) → Paired (FoAt H') ws (SF (WA r x x.length 0)) → Ext H H' → Q (.ref p) H'
theorem ok_af {f : Addr} {fd : FuncData} (F : Fun K "all_foldings" "all_foldings" s_all_foldings f fd) (cneed_string : CNS P w K mg base) (cstretch_foldings : CStr P w K mg base) (mlen : mg "len" = none) (mrange : mg "range" = none) (msorted : mg "sorted" = none) : FnOk P w K mg base CX0 4 f fd ["rules", "string"] spAF := by
  refine F.ok sc_all_foldings (fun vs H Q E h => ?_) (fun cdv A outer s H vs Q E hr h => ?_)
  · obtain ⟨v, r, x, rfl, _⟩ := h
    rfl
  · obtain ⟨v, r, x, rfl, hR, hx, hO, q⟩ := h
    refine ⟨_, (pss_cons (ps_expr (pe_ca cneed_string (hr.mono (by decide)) (by rfl) (pa_cons (pv 0) (pa_cons (pv 1) pa_nil))))
      (pss_cons (ps_set (i := 2) sc_all_foldings.nd rfl (.inl rfl) (pe_callB call_len_str (by rfl) mlen (by decide +kernel) (pa_cons (pv 1) pa_nil)))
      (pss_cons (ps_setDcT (i := 4) (own := [("i", 3)]) (g := gName 3) hr.units0 (by rfl) sc_all_foldings.nd rfl rfl (swD_true rfl rfl rfl (by decide +kernel)) (pi_range1 (by rfl) mrange (pa_cons (pe_op op_add (pv 2) pe_int) pa_nil)) (blkOk_by (own := [("i", 3)]) (N := ["rules", "string", "length", "i", "told", "j"]) (sc := defScope s_all_foldings) (by decide +kernel)) (fun _ _ _ _ _ => (pg_name (i := 3) sc_all_foldings.nd rfl (.inl rfl))) (fun _ _ _ _ _ => (pe_tup (pa_cons (pv 3) (pa_cons (pe_op op_sub (pv 3) pe_int) pa_nil)))) (fun _ _ _ _ _ => (pe_lst (pa_cons (pe_tup pa_nil) pa_nil))))
      (pss_cons (ps_for PassesOwn.never rfl (pi_range3 (by rfl) mrange (pa_cons (pe_op op_sub (pv 2) pe_int) (pa_cons (pe_un un_neg pe_int) (pa_cons (pe_un un_neg pe_int) pa_nil)))) (pg_name (i := 3) sc_all_foldings.nd rfl (.inl rfl)) (pss_one (ps_for PassesOwn.never rfl (pi_range2 (by rfl) mrange (pa_cons (pv 3) (pa_cons (pv 2) pa_nil))) (pg_name (i := 5) sc_all_foldings.nd rfl (.inl rfl)) (pss_one (ps_dput (hu_of hr) (pv 4) (pe_tup (pa_cons (pv 3) (pa_cons (pv 5) pa_nil))) (pe_ca cstretch_foldings (hr.mono (by decide)) (by rfl) (pa_cons (pv 0) (pa_cons (pv 1) (pa_cons (pv 3) (pa_cons (pv 5) (pa_cons (pv 4) pa_nil)))))) rfl)))))
      (pss_one (ps_ret (pe_callB (cr_sortE K hr.units) (by rfl) msorted (by decide +kernel) (pa_cons (pe_dget (hu_of hr) (pv 4) (pe_tup (pa_cons pe_int (pa_cons (pe_op op_sub (pv 2) pe_int) pa_nil))) (fun _ _ => rfl)) pa_nil)))))))), ?_⟩
    refine ⟨_, rfl, _, rfl, v, r, x, rfl, hR, hx, hO, fun H1 k1 => ⟨_, rfl, x, rfl, szL (by omega), ?_⟩⟩
    obtain ⟨L, hL⟩ : ∃ L, L = x.length := ⟨_, rfl⟩
    rw [← hL] at q hx ⊢
    have rulE : ∀ {H' : Hp}, Ext H1 H' → RulesW H' v r := fun k => RulesW.mono _ _ _ _ (TupK.ext (k1.trans k)) hR
    refine ⟨_, rfl, (L : Int), 1, rfl, rfl, (L : Int) + 1, rfl, by omega, by omega, fun D hD => dcT_it walk_range (fun c H2 => ∃ kvs, H2 D = some (.dT kvs) ∧ kvs.length ≤ c ∧ Ext H1 H2 ∧ ∀ a : Int, 0 ≤ a → a < c → ToldAt H2 r x kvs a (a - 1))
      ⟨[], upd_same, Nat.le_refl _, Ext.new hD, fun a h1 h2 => by omega⟩ (fun _ _ _ _ => trivial) (fun c u H2 H2' hc hv hy => ?_) (fun H2 hv => ?_)⟩
    · obtain ⟨kvs, hD2, hkl, k2, hT2⟩ := hv
      obtain ⟨rfl, rfl⟩ := hy
      refine ⟨rfl, _, rfl, _, rfl, (0 : Int) + c, 1, rfl, rfl, szL (show 2 ≤ 1000000 by decide), fun t1 ht1 => ⟨Nat.zero_le _, fun t2 ht2 => ⟨szL (show 1 ≤ 1000000 by decide), fun l hl => ?_⟩⟩⟩
      have x1 := Ext.new (o := .tup [.int ((0 : Int) + c), .int ((0 : Int) + c - 1)]) ht1
      have x2 := Ext.new (o := .tup []) ht2
      have x3 := Ext.new (o := .lst [.ref t2]) hl
      have k3 := x1.trans (x2.trans x3)
      have hD3 := k3 _ _ hD2
      refine ⟨kvs, [.inl ((0 : Int) + c), .inl ((0 : Int) + c - 1)], t1, rfl, x3 _ _ (x2 _ _ upd_same), hD3, szLt (by omega), _, upd_same, ?_, (k2.trans k3).put hD, fun a a0 a1 => ?_⟩
      · have := putT_len kvs [.inl ((0 : Int) + c), .inl ((0 : Int) + c - 1)] (.ref l)
        omega
      · refine told_put hD3 (us := [.ref t2]) upd_same ?_ ?_
        · rw [show ((0 : Int) + c - 1 + 1 - (0 + c)).toNat = 0 by omega]
          exact .cons ⟨t2, [], rfl, x3 _ _ upd_same, .nil⟩ .nil
        · by_cases e : a = (0 : Int) + c
          · exact .inl ⟨e, by omega⟩
          · exact .inr ((hT2 a a0 (by omega)).ext k3)
    obtain ⟨kvs0, hD2, hkl, k2, hT2⟩ := hv
    rw [show ((L : Int) + 1).toNat = L + 1 by omega] at hkl
    refine ⟨_, rfl, (L : Int), 1, rfl, rfl, 1, rfl, 1, rfl, (L : Int) - 1, -1, -1, _, rfl, RgC.neg (by omega) (by omega) (by decide) (by decide), for_rangeC (lo := (L : Int) - 1) (c := -1) (n := ((L : Int) - 1 - -1).toNat) (fun t σ H3 => ∃ (y3 y5 : Option V) (kvs : List (List Key × V)), σ = [some v, some (.str x), some (.int L), y3, some (.ref D), y5] ∧ H3 D = some (.dT kvs) ∧ kvs.length ≤ 13 + 13 * t ∧ Ext H1 H3 ∧ ∀ a b : Int, ((0 ≤ a ∧ a ≤ L ∧ b = a - 1) ∨ ((L : Int) - t ≤ a ∧ a ≤ b ∧ b < L)) → ToldAt H3 r x kvs a b)
      ⟨_, _, kvs0, rfl, hD2, by omega, k2, fun a b h => ?_⟩ (fun t σ H3 ht hv => ?_) (fun σ H3 hv => ?_)⟩
    · rcases h with ⟨h1, h2, rfl⟩ | h
      · exact hT2 a h1 (by omega)
      · omega
    · obtain ⟨y3, y5, kvs, rfl, hD3, hkl3, k3, hT3⟩ := hv
      obtain ⟨i, hi⟩ : ∃ i : Int, i = (L : Int) - 1 + (t : Nat) * (-1) := ⟨_, rfl⟩
      rw [← hi]
      refine ⟨_, rfl, _, rfl, i, (L : Int), rfl, ⟨by omega, by omega, by omega, by omega⟩, for_range (lo := i) (n := ((L : Int) - i).toNat) (fun u σ H4 => ∃ (y5 : Option V) (kvs : List (List Key × V)), σ = [some v, some (.str x), some (.int L), some (.int i), some (.ref D), y5] ∧ H4 D = some (.dT kvs) ∧ kvs.length ≤ 13 + 13 * t + u ∧ Ext H1 H4 ∧ ∀ a b : Int, ((0 ≤ a ∧ a ≤ L ∧ b = a - 1) ∨ ((L : Int) - t ≤ a ∧ a ≤ b ∧ b < L) ∨ (a = i ∧ i ≤ b ∧ b < i + u)) → ToldAt H4 r x kvs a b)
        ⟨_, kvs, rfl, hD3, by omega, k3, fun a b h => ?_⟩ (fun u σ H4 hu hv => ?_) (fun σ H4 hv => ?_)⟩
      · rcases h with h | h | h
        · exact hT3 a b (.inl h)
        · exact hT3 a b (.inr h)
        · omega
      · obtain ⟨y5, kvs, rfl, hD4, hkl4, k4, hT4⟩ := hv
        refine ⟨_, rfl, _, rfl, _, rfl, _, rfl, _, rfl, v, r, x, i, i + u, D, kvs, rfl, rulE k4, by omega, by omega, by omega, by omega, hD4, fun a b h1 h2 h3 => ?_, fun l us H5 hl5 hP5 k5 => ?_⟩
        · by_cases e : b = a - 1
          · exact hT4 a b (.inl ⟨by omega, by omega, e⟩)
          · exact hT4 a b (.inr (.inl ⟨by omega, by omega, by omega⟩))
        · refine ⟨_, rfl, _, rfl, _, rfl, szL (show 2 ≤ 1000000 by decide), fun t1 ht1 => ?_⟩
          have x1 := Ext.new (o := .tup [.int i, .int (i + (u : Int))]) ht1
          have k51 := k5.trans x1
          refine ⟨D, _, rfl, DPut.t (k := [.inl i, .inl (i + (u : Int))]) (k51 _ _ hD4) upd_same (szLt (by omega)), _, _, rfl, upd_same, ?_, (k4.trans k51).put hD, fun a b h => ?_⟩
          · have := putT_len kvs [.inl i, .inl (i + (u : Int))] (.ref l)
            omega
          · refine told_put (k51 _ _ hD4) (x1 _ _ hl5) (paired_imp (fun _ _ => FoAt.mono _ _ _ _ (TupK.ext x1)) hP5) ?_
            by_cases e : a = i ∧ b = i + (u : Int)
            · exact .inl e
            · refine .inr ((hT4 a b ?_).ext k51)
              rcases h with h | h | h
              · exact .inl h
              · exact .inr (.inl h)
              · exact .inr (.inr (by omega))
      · obtain ⟨y5, kvs, rfl, hD4, hkl4, k4, hT4⟩ := hv
        refine ⟨_, _, kvs, rfl, hD4, by omega, k4, fun a b h => hT4 a b ?_⟩
        rcases h with h | h
        · exact .inl h
        · by_cases e : a = i
          · exact .inr (.inr (by omega))
          · exact .inr (.inl (by omega))
    · obtain ⟨y3, y5, kvs, rfl, hD3, hkl3, k3, hT3⟩ := hv
      refine ⟨_, rfl, _, rfl, (L : Int), 1, rfl, rfl, szL (show 2 ≤ 1000000 by decide), fun t1 ht1 => ?_⟩
      have x1 := Ext.new (o := .tup [.int 0, .int ((L : Int) - 1)]) ht1
      obtain ⟨l, us, e1, hl, hP⟩ := (hT3 0 ((L : Int) - 1) (by omega)).ext x1
      rw [show ((L : Int) - 1 + 1 - 0).toNat = L by omega] at hP
      refine ⟨D, .ref l, rfl, e1 ▸ DGet.t (k := [.inl 0, .inl ((L : Int) - 1)]) (x1 _ _ hD3) upd_same, ?_⟩
      obtain ⟨t, ht⟩ := WA_head r x L 0
      delta tNil
      have kk := (k1.trans k3).trans x1
      exact sort_fos hl hP ht fun p ws H4 hp hp2 hP2 k4 => q p ws H4 (kk.none hp) hp2 hP2 (kk.trans k4)
abbrev CAF (P : Program) (w : World) (K : PySem.W.Frag) (mg : Str → Option Value) (base : Heap) : Prop := Ca P w K mg base 4 "all_foldings" ["rules", "string"] spAF
end
end Pf


namespace Pf
open PySem PySem.Spec PyProof.Rows L2
def stF (stk : List (Str × Str × Int)) (o n : Str) : List Int := (stk.filter fun z => decide (z.1 = o ∧ z.2.1 = n)).map (·.2.2)
theorem stF_no : ∀ {stk : List (Str × Str × Int)} {o n : Str}, (o, n) ∉ stk.map (fun z => (z.1, z.2.1)) → stF stk o n = []
  | [], _, _, _ => rfl
  | z :: r, o, n, h => by
    rw [List.map_cons, List.mem_cons, not_or] at h
    unfold stF
    rw [List.filter_cons_of_neg (p := fun z : Str × Str × Int => decide (z.1 = o ∧ z.2.1 = n)) (by
      intro e
      have e := of_decide_eq_true e
      exact h.1 (by rw [← e.1, ← e.2]))]
    exact stF_no h.2
theorem stF_sum : ∀ {stk : List (Str × Str × Int)} {o n : Str}, (stk.map fun z => (z.1, z.2.1)).Nodup → (stF stk o n).sum = swI stk o n
  | [], _, _, _ => rfl
  | (t, u, x) :: r, o, n, h => by
    rw [List.map_cons, List.nodup_cons] at h
    unfold swI
    by_cases c : t = o ∧ u = n
    · rw [if_pos c]
      unfold stF
      rw [List.filter_cons_of_pos (p := fun z : Str × Str × Int => decide (z.1 = o ∧ z.2.1 = n)) (decide_eq_true c), List.map_cons, List.sum_cons]
      have := stF_no (stk := r) (o := o) (n := n) (by rw [← c.1, ← c.2]; exact h.1)
      unfold stF at this
      rw [this]
      simp
    · rw [if_neg c, ← stF_sum h.2]
      unfold stF
      rw [List.filter_cons_of_neg (p := fun z : Str × Str × Int => decide (z.1 = o ∧ z.2.1 = n)) (by simpa using c)]
theorem eqv_two (a b c d : Str) : PyData.eqv (.tuple [.str a, .str b]) (.tuple [.str c, .str d]) = decide (a = c ∧ b = d) := by
  simp [PyData.eqv, PyData.eqvAll]
  by_cases h1 : a = c <;> by_cases h2 : b = d <;> simp [h1, h2]
theorem sm_two {a b : Str} (ha : Two a) (hb : Two b) : SeqAt.shaped (.tuple [.str a, .str b]) = true := by
  refine (Sm.tup (n := 2) (m := 2) (k := 0) (M := 1000000) (ds := [.str a, .str b]) (Nat.le_refl 2) (fun d hd => ?_) (by decide)).shaped (by decide)
  rcases List.mem_cons.mp hd with rfl | hd
  · exact Sm.str ha.2.ok (Nat.le_of_eq ha.1)
  · rw [List.mem_singleton.mp hd]
    exact Sm.str hb.2.ok (Nat.le_of_eq hb.1)
theorem getD_in {x : Str} {i : Int} (h0 : 0 ≤ i) (h1 : i < x.length) : x.cps.toList.getD i.toNat 0 ∈ x.cps.toList := by
  have h2 : i.toNat < x.cps.toList.length := by
    rw [Array.length_toList]
    have : i < (x.cps.size : Int) := h1
    omega
  rw [List.getD_eq_getElem?_getD, List.getElem?_eq_getElem h2]
  exact List.getElem_mem _
theorem two_tx {x : Str} {p : Int × Int} (h : Small x) (i0 : 0 ≤ p.1) (i1 : p.1 < x.length) (j0 : 0 ≤ p.2) (j1 : p.2 < x.length) : Two (tx2 x p) := ⟨rfl, (Small.one (h _ (getD_in i0 i1))).app (Small.one (h _ (getD_in j0 j1)))⟩
theorem in_str {b : Str} {ts : List Str} : inV (.str b) (ts.map V.str) = true ↔ b ∈ ts := by
  unfold inV
  rw [List.any_map, List.any_eq_true]
  constructor
  · rintro ⟨t, ht, e⟩
    have e : (t == b) = true := e
    rw [beq_iff_eq] at e
    exact e ▸ ht
  · intro h
    refine ⟨b, h, ?_⟩
    show (b == b) = true
    rw [beq_iff_eq]
theorem may_mem {r : Rl} {x : Str} {i j : Int} (h : mayC r x i j = true) : tx2 x (i, j) ∈ r.prs.map (·.1) := by
  unfold mayC at h
  rw [Bool.and_eq_true] at h
  exact of_decide_eq_true h.2
theorem inV_keys {t : Str} {prs : List (Str × Int)} : inV (.str t) ((prs.map (·.1)).map V.str) = decide (t ∈ prs.map (·.1)) := by
  by_cases h : t ∈ prs.map (·.1)
  · rw [decide_eq_true h, in_str.mpr h]
  · rw [decide_eq_false h]
    cases e : inV (.str t) ((prs.map (·.1)).map V.str) with
    | false => rfl
    | true => exact absurd (in_str.mp e) h
end Pf


namespace Pf
open PySem PySem.Spec PyProof.Rows L2
/-! ### sorted lists of the same things are the same, where keys tell them apart -/
theorem sort_eq {β : Type} (k : β → PyData) (inj : ∀ a b, PySem.W.keyToks (k a) = PySem.W.keyToks (k b) → a = b) {l l' : List β} (p : l.Perm l') : l.mergeSort (PySem.W.dataLe false k) = l'.mergeSort (PySem.W.dataLe false k) := by
  have T := PySem.W.sortLe_total (listOrd itemOrd) false fun z : β => PySem.W.keyToks (k z)
  have tot : ∀ a b : β, (PySem.W.dataLe false k a b || PySem.W.dataLe false k b a) = true := fun a b => by
    rcases T.total a b with h | h
    · rw [show PySem.W.dataLe false k a b = true from h]
      rfl
    · rw [show PySem.W.dataLe false k b a = true from h, Bool.or_true]
  have p1 := List.pairwise_mergeSort (le := PySem.W.dataLe false k) T.trans tot l
  have p2 := List.pairwise_mergeSort (le := PySem.W.dataLe false k) T.trans tot l'
  refine List.Perm.eq_of_pairwise (fun a b _ _ x y => ?_) p1 p2 (((List.mergeSort_perm l _).trans p).trans (List.mergeSort_perm l' _).symm)
  have x : (!(listOrd itemOrd).blt (PySem.W.keyToks (k b)) (PySem.W.keyToks (k a))) = true := x
  have y : (!(listOrd itemOrd).blt (PySem.W.keyToks (k a)) (PySem.W.keyToks (k b))) = true := y
  exact inj a b ((listOrd itemOrd).total _ _ (by simpa using y) (by simpa using x))
/-! ### foldings with their worths -/
abbrev Wf := Int × Fo
def dWf (y : Wf) : PyData := .tuple [.int y.1, dFo y.2]
def WfAt (H : Hp) (v : V) (y : Wf) : Prop := ∃ a u, v = .ref a ∧ H a = some (.tup [.int y.1, u]) ∧ FoAt H u y.2
theorem WfAt.mono : Mono WfAt := fun H H' v x k ⟨a, u, e, h, f⟩ => ⟨a, u, e, k.1 _ _ h, FoAt.mono _ _ _ _ k f⟩
theorem dp_wf {K : PySem.W.Frag} {H : Hp} {v : V} {y : Wf} (h : WfAt H v y) : Dp K H v (dWf y) := by
  obtain ⟨a, u, rfl, h1, h2⟩ := h
  exact .tup (SqT.of h1) (.cons (.int _) (.cons (dp_fo h2) .nil))
theorem dpWfs {K : PySem.W.Frag} {H : Hp} : ∀ {vs : List V} {L : List Wf}, Paired (WfAt H) vs L → DpAll K H vs (L.map dWf)
  | _, _, .nil => .nil
  | _, _, .cons h t => .cons (dp_wf h) (dpWfs t)
theorem dep_wf (y : Wf) : (dWf y).depth ≤ 3 := by
  unfold dWf
  have := dep_fo y.2
  simp only [PyData.depth, PyData.depthAll]
  omega
theorem toks_nil0 : PySem.W.keyToks (dFo []) = [.inl 0] := by
  simp [dFo, PySem.W.keyToks, PySem.W.keyToksAll]
theorem toks_cons0 (y : Int × Int) (q : Fo) : PySem.W.keyToks (dFo (y :: q)) = .inl 1 :: .inl 1 :: .inl y.1 :: .inl 1 :: .inl y.2 :: .inl 0 :: PySem.W.keyToks (dFo q) := by
  simp [dFo, dTwo, PySem.W.keyToks, PySem.W.keyToksAll]
theorem dFo_inj : ∀ a b : Fo, PySem.W.keyToks (dFo a) = PySem.W.keyToks (dFo b) → a = b
  | [], [], _ => rfl
  | [], y :: b, h => by
    rw [toks_nil0, toks_cons0] at h
    simp at h
  | y :: a, [], h => by
    rw [toks_nil0, toks_cons0] at h
    simp at h
  | y :: a, z :: b, h => by
    rw [toks_cons0, toks_cons0] at h
    simp only [List.cons.injEq, Sum.inl.injEq, true_and] at h
    obtain ⟨h1, h2, h3⟩ := h
    rw [dFo_inj a b h3, Prod.ext h1 h2]
theorem dWf_inj (a b : Wf) (h : PySem.W.keyToks (dWf a) = PySem.W.keyToks (dWf b)) : a = b := by
  have e : ∀ y : Wf, PySem.W.keyToks (dWf y) = .inl 1 :: .inl y.1 :: .inl 1 :: (PySem.W.keyToks (dFo y.2) ++ [.inl 0]) := fun y => by
    simp [dWf, PySem.W.keyToks, PySem.W.keyToksAll]
  rw [e, e] at h
  simp only [List.cons.injEq, Sum.inl.injEq, true_and, List.append_cancel_right_eq] at h
  exact Prod.ext h.1 (dFo_inj _ _ h.2)
def SW (L : List Wf) : List Wf := L.mergeSort (PySem.W.dataLe false dWf)
theorem SW_perm (L : List Wf) : (SW L).Perm L := List.mergeSort_perm _ _
theorem sort_wfs {K : PySem.W.Frag} {H : Hp} {l : Addr} {us : List V} {L : List Wf} {Q : VK} (hL : H l = some (.lst us)) (hP : Paired (WfAt H) us L) (q : ∀ (p : Addr) (ws : List V) (H' : Hp), H p = none → H' p = some (.lst ws) → Paired (WfAt H') ws (SW L) → Ext H H' → Q (.ref p) H') : rSortD K [.ref l] H Q := by
  have hz := paired_len hP
  have e1 : (us.zip L).map (·.1) = us := List.map_fst_zip (by omega)
  have e2 : (us.zip L).map (·.2) = L := List.map_snd_zip (by omega)
  have hall : ∀ b ∈ us.zip L, WfAt H b.1 b.2 := by
    clear e1 e2 hz q hL
    induction hP with
    | nil => intro b hb; cases hb
    | cons r _ ih =>
      intro b hb
      rw [List.zip_cons_cons] at hb
      rcases List.mem_cons.mp hb with rfl | hb
      · exact r
      · exact ih b hb
  refine ⟨V × Wf, fun b => b.1, fun b => dWf b.2, l, us.zip L, rfl, SqL.of (by rw [e1]; exact hL), fun b hb => ⟨dp_wf (hall b hb), Nat.le_trans (dep_wf _) (by decide)⟩, ?_, ?_, fun p hp => ?_⟩
  · intro d1 h1 d2 h2
    obtain ⟨b1, _, rfl⟩ := List.mem_map.mp h1
    obtain ⟨b2, _, rfl⟩ := List.mem_map.mp h2
    show PySem.W.alike (.tuple [.int _, .tuple _]) (.tuple [.int _, .tuple _]) = true
    simp only [PySem.W.alike, PySem.W.alikeAll, alike_twos, Bool.and_true, Bool.true_and]
  · refine .inl fun e he => ?_
    obtain ⟨b1, _, rfl⟩ := List.mem_map.mp he
    exact ⟨_, _, rfl⟩
  · have x1 := Ext.new (o := .lst (((us.zip L).mergeSort (PySem.W.dataLe false fun b => dWf b.2)).map fun b => b.1)) hp
    refine q p _ _ hp upd_same ?_ x1
    have es : ((us.zip L).mergeSort (PySem.W.dataLe false fun b => dWf b.2)).map (·.2) = SW L := by
      have hm := List.map_mergeSort (r := PySem.W.dataLe false fun b : V × Wf => dWf b.2) (s := PySem.W.dataLe false dWf) (f := fun b : V × Wf => b.2) (l := us.zip L) (fun a _ b _ => rfl)
      rw [e2] at hm
      exact hm
    rw [← es]
    have hm : ∀ b ∈ (us.zip L).mergeSort (PySem.W.dataLe false fun b => dWf b.2), WfAt H b.1 b.2 := fun b hb => hall b ((List.mergeSort_perm _ _).mem_iff.mp hb)
    generalize (us.zip L).mergeSort (PySem.W.dataLe false fun b => dWf b.2) = S at hm x1
    have : ∀ {T : List (V × Wf)} {H2 : Hp}, (∀ b ∈ T, WfAt H b.1 b.2) → Ext H H2 → Paired (WfAt H2) (T.map (·.1)) (T.map (·.2)) := by
      intro T H2 hT hx
      induction T with
      | nil => exact .nil
      | cons b T ih => exact .cons (WfAt.mono _ _ _ _ (TupK.ext hx) (hT b (List.mem_cons_self ..))) (ih fun c hc => hT c (List.mem_cons_of_mem _ hc))
    exact this hm x1
theorem sum_add {α : Type} (f g : α → Int) : ∀ l : List α, (l.map fun y => f y + g y).sum = (l.map f).sum + (l.map g).sum
  | [] => rfl
  | y :: l => by
    rw [List.map_cons, List.map_cons, List.map_cons, List.sum_cons, List.sum_cons, List.sum_cons, sum_add f g l]
    omega
def pV1 (r : Rl) (x : Str) (w : Fo) (p : Int × Int) : Int := pwI r.prs (tx2 x p) + lpW r x p (strC w p.1 p.2)
theorem woV_eq (r : Rl) (x : Str) (q : Fo) : lo r 8 * ((tops q).length : Int) + (q.map (pV1 r x q)).sum = woV r x q := by
  unfold woV
  rw [show (q.map (pV1 r x q)).sum = _ from sum_add (fun y => pwI r.prs (tx2 x y)) (fun y => lpW r x y (strC q y.1 y.2)) q, Int.mul_comm]
  omega
def wR (r : Rl) (x : Str) : List Wf := (WA r x x.length 0).map fun q => (woV r x q, q)
theorem ext_fresh {D : Addr} {H H1 H2 : Hp} (hD : H D = none) (x : Ext H H1) (k : Kp D H1 H2) : Ext H H2 := fun b o e => k b o (fun z => by rw [z, hD] at e; cases e) (x b o e)
section
variable {P : Program} {w : World} {K : PySem.W.Frag} {mg : Str → Option Value} {base : Heap}
abbrev s_with_worths : Stmt := topS 23
theorem sc_with_worths : FnScope ["rules", "string", "folding"] ["rules", "string"] (defScope s_with_worths) :=
  ⟨rfl, rfl, rfl, by decide +kernel, rfl, by decide +kernel, by decide +kernel⟩
def spWW : Sp := fun vs H Q _ => ∃ (v : V) (r : Rl) (x : Str), vs = [v, .str x] ∧ RulesW H v r ∧ RlOk r ∧ x.length ≤ 12 ∧ Of r.letters x ∧
  ∀ (l : Addr) (us : List V) (H' : Hp), H l = none → H' l = some (.lst us) → Paired (WfAt H') us (SW (wR r x)) → Ext H H' → Q (.ref l) H'
theorem ok_ww {f : Addr} {fd : FuncData} (F : Fun K "with_worths" "with_worths" s_with_worths f fd) (call_foldings : CAF P w K mg base) (cworth_of : CWO P w K mg base) (msorted : mg "sorted" = none) : FnOk P w K mg base CX0 5 f fd ["rules", "string"] spWW := by
  refine F.ok sc_with_worths (fun vs H Q E h => ?_) (fun cdv A outer s H vs Q E hr h => ?_)
  · obtain ⟨v, r, x, rfl, _⟩ := h
    rfl
  · obtain ⟨v, r, x, rfl, hR, ok, hx, hO, q⟩ := h
    refine ⟨_, (pss_one (ps_ret (pe_callB (cr_sortD K hr.units) (by rfl) msorted (by decide +kernel) (pa_cons (pe_lc (own := [("folding", 2)]) (g := gName 2) (by rfl) sc_with_worths.nd (pi_list (pe_ca call_foldings (hr.mono (by decide)) (by rfl) (pa_cons (pv 0) (pa_cons (pv 1) pa_nil)))) (blkOk_by (own := [("folding", 2)]) (N := ["rules", "string", "folding"]) (sc := defScope s_with_worths) (by decide +kernel)) (fun _ _ _ _ _ => (pg_name (i := 2) sc_with_worths.nd rfl (.inl rfl))) (fun _ _ _ _ _ => pts_nil) (fun _ _ _ _ _ => (pe_tup (pa_cons (pe_ca cworth_of (hr.mono (by decide)) (by rfl) (pa_cons (pv 0) (pa_cons (pv 1) (pa_cons (pv 2) pa_nil)))) (pa_cons (pv 2) pa_nil))))) pa_nil)))), ?_⟩
    refine ⟨_, rfl, _, rfl, v, r, x, rfl, hR, hx, hO, fun l us H1 hl hL hP x1 => ?_⟩
    have hul := paired_len hP
    have hwl := WA_len r x hx 0
    have hsl : (SF (WA r x x.length 0)).length = (WA r x x.length 0).length := (List.mergeSort_perm _ _).length_eq
    refine ⟨l, rfl, ⟨_, SqL.of hL⟩, fun G hG => lc_list (K := K) (xs := us) (GenP WfAt G H1 ((SF (WA r x x.length 0)).map fun q => (woV r x q, q))) (gen_new hG) (fun i H2 _ h => SqL.of (h.ext _ _ hL)) (fun i u H2 hi hv => ?_) (fun H2 hv => ?_)⟩
    · obtain ⟨one, hone, hF⟩ := paired_get hP hi
      have k2 := hv.ext
      have hF2 := FoAt.mono _ _ _ _ (TupK.ext k2) hF
      have hm : one ∈ WA r x x.length 0 := (List.mergeSort_perm _ _).mem_iff.mp (List.mem_of_getElem? hone)
      have hmay := (fo4_of r x x.length 0 one hm).may
      refine ⟨rfl, _, rfl, _, rfl, _, rfl, v, u, r, x, one, r, rfl, RulesW.mono _ _ _ _ (TupK.ext (x1.trans k2)) hR, ok, by omega, hF2, hx, hm, fun y hy => may_mem (hmay y hy), fun H3 k3 => ?_⟩
      refine ⟨_, rfl, szL (show 2 ≤ 1000000 by decide), fun t ht => ?_⟩
      have x4 := Ext.new (o := .tup [.int (woV r x one), u]) ht
      refine gen_step WfAt.mono hG hv (k3.trans x4) (b := (woV r x one, one)) ⟨t, u, rfl, upd_same, FoAt.mono _ _ _ _ (TupK.ext (k3.trans x4)) hF2⟩ ?_ ?_
      · rw [List.getElem?_map, hone]
        rfl
      · rw [List.length_map]
        omega
    obtain ⟨vs2, hL2, hP2, k2⟩ := gen_end hv (by rw [List.length_map]; omega)
    delta tNil
    have es : SW ((SF (WA r x x.length 0)).map fun q => (woV r x q, q)) = SW (wR r x) := sort_eq dWf dWf_inj ((List.mergeSort_perm _ _).map _)
    exact sort_wfs hL2 hP2 fun p ws H3 hp hp2 hP3 k3 => q p ws H3 ((x1.trans k2).none hp) hp2 (es ▸ hP3) ((x1.trans k2).trans k3)
abbrev CWW (P : Program) (w : World) (K : PySem.W.Frag) (mg : Str → Option Value) (base : Heap) : Prop := Ca P w K mg base 5 "with_worths" ["rules", "string"] spWW
end
end Pf


namespace Pf
open PySem PySem.Spec PyProof.Rows L2
/-! ### defs with arguments by name alone, and what stands in their place -/
structure CaN (P : Program) (w : World) (K : PySem.W.Frag) (mg : Str → Option Value) (base : Heap) (k : Nat) (x : Str) (ps : List Str) (n : Nat) (ks : List Str) (gV : List V → List V → List V) (sp : Sp) : Prop where
  ex : ∃ f fd g, FnOk P w K mg base CX0 k f fd ps sp ∧ mg x = some (.ref f) ∧ PySem.W.keepIn K (.ref f) = true ∧ KBn K fd ps n ks g gV
structure CaE (P : Program) (w : World) (K : PySem.W.Frag) (mg : Str → Option Value) (base : Heap) (k : Nat) (x : Str) (ps : List Str) (dvs : List V) (sp : Sp) : Prop where
  ex : ∃ f fd ds, FnOk P w K mg base CX0 k f fd ps sp ∧ mg x = some (.ref f) ∧ PySem.W.keepIn K (.ref f) = true ∧ Vals dvs ds ∧ Binds K fd ps ds
section
variable {X : Cx} {k n : Nat} {x : Str} {ps ks : List Str} {sp : Sp} {p pos : Pos} {e : Expr} {es : List Expr} {kws : List Keyword} {t tk : TA} {gV : List V → List V → List V} {dvs : List V}
theorem pe_caN (c : CaN X.prog X.w X.K X.mg X.base k x ps n ks gV sp) (hr : Room k X.A) (hg : Gl X x) (ha : PA X (e :: es) t) (hkw : PK X kws tk)
    (hall : (backToKw pos (keywordEach kws X.env)).all (·.1.isSome) = true := by rfl) (hks : (backToKw pos (keywordEach kws X.env)).filterMap (·.1) = ks := by rfl)
    (hdb : (x == ("__debug__" : Str)) = false := by decide) (he : starEach (e :: es) X.env = (false, eval e X.env) :: starEach es X.env := by rfl)
    (hpl : ((backTo pos (starEach (e :: es) X.env)).any (·.1) || (backToKw pos (keywordEach kws X.env)).any (·.1.isNone)) = false := by rfl) :
    PE X (.Call (.Name x p) (e :: es) kws pos) (tCallN n ks.length sp gV E0 t tk) := by
  obtain ⟨f, fd, g, F, hm, hk, hb⟩ := c.ex
  exact pe_callN F hr hg hm hk hb pass0 ha hkw hall hks hdb he hpl
theorem pe_caE (c : CaE X.prog X.w X.K X.mg X.base k x ps dvs sp) (hr : Room k X.A) (hg : Gl X x) (ha : PA X (e :: es) t) (hdb : (x == ("__debug__" : Str)) = false := by decide)
    (he : starEach (e :: es) X.env = (false, eval e X.env) :: starEach es X.env := by rfl) (hpl : (backTo pos (starEach es X.env)).any (·.1) = false := by rfl) :
    PE X (.Call (.Name x p) (e :: es) [] pos) (tCall sp dvs E0 t) := by
  obtain ⟨f, fd, ds, F, hm, hk, hv, hb⟩ := c.ex
  exact pe_call F hr hg hm hk hb hv pass0 ha hdb he hpl
end
def permA {α : Type} (js : List Nat) (l : List α) : List α := js.filterMap fun j => l[j]?
def permW (js : List Nat) (ms : List V) : List V → List V → List V := fun vs zs => permA js (vs ++ zs ++ ms)
theorem vals_at : ∀ {zs : List V} {ws : List Value} (j : Nat), Vals zs ws → (∃ z u, zs[j]? = some z ∧ ws[j]? = some u ∧ RelV z u) ∨ (zs[j]? = none ∧ ws[j]? = none)
  | _, _, _, .nil => .inr ⟨rfl, rfl⟩
  | _, _, 0, .cons r _ => .inl ⟨_, _, rfl, rfl, r⟩
  | _, _, j + 1, .cons _ t => by
    rw [List.getElem?_cons_succ, List.getElem?_cons_succ]
    exact vals_at j t
theorem permA_rel {zs : List V} {ws : List Value} (r : Vals zs ws) : ∀ js : List Nat, Vals (permA js zs) (permA js ws)
  | [] => .nil
  | j :: js => by
    unfold permA
    rcases vals_at j r with ⟨z, u, e1, e2, e3⟩ | ⟨e1, e2⟩
    · rw [List.filterMap_cons_some e1, List.filterMap_cons_some e2]
      exact .cons e3 (permA_rel r js)
    · rw [List.filterMap_cons_none e1, List.filterMap_cons_none e2]
      exact permA_rel r js
theorem kbn_kw {K : PySem.W.Frag} {x qual : Str} {params : Arguments} {body : List Stmt} {scope : Scope} {kws : List (Str × V)} {f : Addr} {fd : FuncData} {ps : List Str} (F : FunD K x qual params body scope [] kws f fd) (n : Nat) (ks : List Str) (ms : List (Str × V)) (js : List Nat) (hk : kws ≠ []) (hms : ∀ q ∈ ms, q ∈ kws)
    (h : ∀ (D : Addr) (doc pm : Value) (an : Option Addr) (cdv ct : Value) (us mv ws : List Value), us.length = n → mv.length = ms.length → ws.length = ks.length →
      KwChain D ((ms.map (·.1)).zip mv) (bindArgs (PySem.W.fnOf x qual params body scope .none (.ref D) doc pm an cdv ct) ⟨us, ks.zip ws⟩) (ps.zip (permA js (us ++ ws ++ mv)))) : ∃ g, KBn K fd ps n ks g (permW js (ms.map (·.2))) := by
  obtain ⟨mv, hb⟩ := F.kbinds0 (ps := ps) n ks ms (fun {α} vs mz zs => permA js (vs ++ zs ++ mz)) hk hms (fun r1 r2 r3 => permA_rel ((r1.append r3).append r2) js) h
  exact ⟨_, hb⟩
end Pf


namespace Pf
open PySem PySem.Spec PyProof.Rows L2
/-! ### sums over worths -/
theorem sum_zero {α : Type} (K : List α) : (K.map fun _ => (0 : Nat)).sum = 0 := by
  induction K with
  | nil => rfl
  | cons a K ih => rw [List.map_cons, List.sum_cons, ih]
theorem sum_at {f : Int → Nat} {m : Int} : ∀ {K : List Int}, K.Nodup → m ∈ K → (K.map fun z => if m = z then f z else 0).sum = f m
  | [], _, h => by cases h
  | k :: K, hn, h => by
    rw [List.nodup_cons] at hn
    rw [List.map_cons, List.sum_cons]
    by_cases e : m = k
    · subst e
      rw [if_pos rfl]
      have : (K.map fun z => if m = z then f z else 0) = K.map fun _ => 0 := List.map_congr_left fun z hz => if_neg (by
        intro h2
        rw [h2] at hn
        exact hn.1 hz)
      rw [this, sum_zero]
      rfl
    · rw [if_neg e, Nat.zero_add]
      rcases List.mem_cons.mp h with h | h
      · exact absurd h e
      · exact sum_at hn.2 h
theorem sum_count (f : Int → Nat) {K : List Int} (hn : K.Nodup) : ∀ M : List Int, (∀ m ∈ M, m ∈ K) → (M.map f).sum = (K.map fun z => M.count z * f z).sum
  | [], _ => by
    have : (K.map fun z => ([] : List Int).count z * f z) = K.map fun _ => 0 := List.map_congr_left fun z _ => by rw [List.count_nil, Nat.zero_mul]
    rw [this, sum_zero]
    rfl
  | m :: M, h => by
    have ih := sum_count f hn M fun z hz => h z (List.mem_cons_of_mem _ hz)
    have e : (K.map fun z => (m :: M).count z * f z) = K.map fun z => M.count z * f z + if m = z then f z else 0 := List.map_congr_left fun z _ => by
      rw [List.count_cons]
      by_cases c : m = z
      · subst c
        rw [if_pos rfl, beq_self_eq_true, if_pos rfl, Nat.add_mul, Nat.one_mul]
      · rw [if_neg c, if_neg (show ¬ (m == z) = true by rw [beq_iff_eq]; exact c), Nat.add_zero, Nat.add_zero]
    have sp : ∀ (K : List Int) (g h : Int → Nat), (K.map fun z => g z + h z).sum = (K.map g).sum + (K.map h).sum := by
      intro K g h
      induction K with
      | nil => rfl
      | cons a K ih =>
        rw [List.map_cons, List.map_cons, List.map_cons, List.sum_cons, List.sum_cons, List.sum_cons, ih]
        omega
    rw [e, sp, ← ih, sum_at hn (h m (List.mem_cons_self ..)), List.map_cons, List.sum_cons]
    omega
def botN (b1 b2 : Nat) (lo hi : Int) : Nat := b1 ^ (-lo).toNat * b2 ^ hi.toNat
/-- the least and the greatest of all worths -/
structure EndsW (r : Rl) (x : Str) (lo hi : Int) : Prop where
  lo_in : lo ∈ (WA r x x.length 0).map (woV r x)
  hi_in : hi ∈ (WA r x x.length 0).map (woV r x)
  btw : ∀ q ∈ WA r x x.length 0, lo ≤ woV r x q ∧ woV r x q ≤ hi
def totN (b1 b2 : Nat) (r : Rl) (x : Str) (lo hi : Int) : Nat := ((WA r x x.length 0).map fun q => topN b1 b2 lo hi (woV r x q)).sum
/-- how wide the numbers get -/
def WideB (r : Rl) (x : Str) (b1 b2 : Nat) : Prop := ∃ W k : Nat, (∀ q ∈ WA r x x.length 0, -(W : Int) ≤ woV r x q ∧ woV r x q ≤ W) ∧ W ≤ 2000 ∧ 1 ≤ b1 ∧ b1 ≤ 2 ^ k ∧ b1 < 2 ^ 14 ∧ 1 ≤ b2 ∧ b2 ≤ 2 ^ k ∧ b2 < 2 ^ 14 ∧ 2 * W * k ≤ 1800
theorem pow_k {b k e : Nat} (h : b ≤ 2 ^ k) : b ^ e ≤ 2 ^ (k * e) := by
  rw [Nat.pow_mul]
  exact Nat.pow_le_pow_left h e
theorem topN_le {b1 b2 k W : Nat} {lo hi z : Int} (h1 : b1 ≤ 2 ^ k) (h2 : b2 ≤ 2 ^ k) (hl : -(W : Int) ≤ lo) (hh : hi ≤ W) (hz : lo ≤ z ∧ z ≤ hi) : topN b1 b2 lo hi z ≤ 2 ^ (2 * W * k) := by
  unfold topN
  refine Nat.le_trans (Nat.mul_le_mul (pow_k h1) (pow_k h2)) ?_
  rw [← Nat.pow_add, ← Nat.mul_add]
  refine Nat.pow_le_pow_right (by decide) ?_
  rw [Nat.mul_comm]
  exact Nat.mul_le_mul_right _ (by omega)
theorem botN_le {b1 b2 k W : Nat} {lo hi : Int} (h1 : b1 ≤ 2 ^ k) (h2 : b2 ≤ 2 ^ k) (hl : -(W : Int) ≤ lo) (hh : hi ≤ W) : botN b1 b2 lo hi ≤ 2 ^ (2 * W * k) := by
  unfold botN
  refine Nat.le_trans (Nat.mul_le_mul (pow_k h1) (pow_k h2)) ?_
  rw [← Nat.pow_add, ← Nat.mul_add]
  refine Nat.pow_le_pow_right (by decide) ?_
  rw [Nat.mul_comm]
  exact Nat.mul_le_mul_right _ (by omega)
section
variable {P : Program} {w : World} {K : PySem.W.Frag} {mg : Str → Option Value} {base : Heap}
end
end Pf


namespace Pf
open PySem PySem.Spec PyProof.Rows L2
/-! ### tallies: how often a number stands in a list -/
def encN (x : Int × Nat) : Key × V := (.inl x.1, .int (x.2 : Nat))
def lkT : List (Int × Nat) → Int → Nat
  | [], _ => 0
  | x :: r, z => if x.1 = z then x.2 else lkT r z
structure TyAt (t : List (Int × Nat)) (M : List Int) : Prop where
  nd : (t.map (·.1)).Nodup
  pos : ∀ x ∈ t, 0 < x.2
  cnt : ∀ z, lkT t z = M.count z
def TyIs (kvs : List (Key × V)) (M : List Int) : Prop := ∃ t, kvs = t.map encN ∧ TyAt t M
theorem lk_val : ∀ (t : List (Int × Nat)) (z : Int), (∀ x ∈ t, 0 < x.2) → valV (t.map encN) (.inl z) = if lkT t z = 0 then none else some (.int (lkT t z : Nat))
  | [], z, _ => rfl
  | x :: r, z, h => by
    rw [List.map_cons, lkT]
    by_cases e : x.1 = z
    · have := h x (List.mem_cons_self ..)
      rw [if_pos e, if_neg (by omega), valV_pos (show (encN x).1 = .inl z from congrArg Sum.inl e)]
      rfl
    · rw [if_neg e, valV_neg (show ¬ (encN x).1 = .inl z from fun c => e (Sum.inl.inj c))]
      exact lk_val r z fun y hy => h y (List.mem_cons_of_mem _ hy)
theorem lk_no : ∀ {t : List (Int × Nat)} {z : Int}, z ∉ t.map (·.1) → lkT t z = 0
  | [], _, _ => rfl
  | x :: r, z, h => by
    rw [List.map_cons, List.mem_cons, not_or] at h
    rw [lkT, if_neg fun e => h.1 e.symm]
    exact lk_no h.2
def repN (x : Int × Nat) : List Int := List.replicate x.2 x.1
theorem cnt_rep (n : Nat) (a z : Int) : (List.replicate n a).count z = if a = z then n else 0 := by
  rw [List.count_replicate]
  by_cases e : a = z
  · rw [if_pos e, if_pos (by rw [e]; exact beq_self_eq_true _)]
  · rw [if_neg e, if_neg (by intro c; exact e (by simpa using c))]
theorem cnt_all : ∀ {t : List (Int × Nat)} (z : Int), (t.map (·.1)).Nodup → (t.flatMap repN).count z = lkT t z
  | [], _, _ => rfl
  | x :: r, z, h => by
    rw [List.map_cons, List.nodup_cons] at h
    rw [List.flatMap_cons, List.count_append, cnt_all z h.2, lkT]
    unfold repN
    rw [cnt_rep]
    by_cases e : x.1 = z
    · rw [if_pos e, if_pos e, lk_no (by rw [← e]; exact h.1), Nat.add_zero]
    · rw [if_neg e, if_neg e, Nat.zero_add]
theorem TyAt.perm {t : List (Int × Nat)} {M : List Int} (h : TyAt t M) : (t.flatMap repN).Perm M := List.perm_iff_count.mpr fun z => by rw [cnt_all z h.nd, h.cnt]
theorem len_rep : ∀ {t : List (Int × Nat)}, (∀ x ∈ t, 0 < x.2) → t.length ≤ (t.flatMap repN).length
  | [], _ => Nat.le_refl _
  | x :: r, h => by
    have h1 := h x (List.mem_cons_self ..)
    have h2 := len_rep fun y hy => h y (List.mem_cons_of_mem _ hy)
    rw [List.flatMap_cons, List.length_append, List.length_cons]
    have : (repN x).length = x.2 := List.length_replicate
    omega
theorem TyIs.len {kvs : List (Key × V)} {M : List Int} (h : TyIs kvs M) : kvs.length ≤ M.length := by
  obtain ⟨t, rfl, a⟩ := h
  rw [List.length_map, ← a.perm.length_eq]
  exact len_rep a.pos
theorem TyIs.same {kvs : List (Key × V)} {M N : List Int} (h : TyIs kvs M) (p : M.Perm N) : TyIs kvs N := by
  obtain ⟨t, e, a⟩ := h
  exact ⟨t, e, a.nd, a.pos, fun z => (a.cnt z).trans (p.count_eq z)⟩
theorem TyIs.nil : TyIs [] [] := ⟨[], rfl, List.nodup_nil, (fun x h => by cases h), fun _ => rfl⟩
theorem TyIs.get {kvs : List (Key × V)} {M : List Int} (h : TyIs kvs M) (z : Int) : (valV kvs (.inl z)).getD (.int 0) = .int (M.count z : Nat) := by
  obtain ⟨t, rfl, a⟩ := h
  rw [lk_val t z a.pos, a.cnt]
  by_cases e : M.count z = 0
  · rw [if_pos e, e]
    rfl
  · rw [if_neg e]
    rfl
def putN : List (Int × Nat) → Int → Nat → List (Int × Nat)
  | [], z, n => [(z, n)]
  | x :: r, z, n => if x.1 = z then (z, n) :: r else x :: putN r z n
theorem putN_keys : ∀ (t : List (Int × Nat)) (z : Int) (n : Nat) (y : Int), y ∈ (putN t z n).map (·.1) ↔ y = z ∨ y ∈ t.map (·.1)
  | [], z, n, y => by simp [putN]
  | x :: r, z, n, y => by
    rw [putN]
    by_cases e : x.1 = z
    · rw [if_pos e, List.map_cons, List.map_cons, List.mem_cons, List.mem_cons, e]
      exact ⟨fun h => h.elim .inl fun h => .inr (.inr h), fun h => h.elim .inl fun h => h.elim .inl .inr⟩
    · rw [if_neg e, List.map_cons, List.map_cons, List.mem_cons, List.mem_cons, putN_keys r z n y]
      exact ⟨fun h => h.elim (fun h => .inr (.inl h)) fun h => h.elim .inl fun h => .inr (.inr h), fun h => h.elim (fun h => .inr (.inl h)) fun h => h.elim .inl fun h => .inr (.inr h)⟩
theorem putN_nd : ∀ (t : List (Int × Nat)) (z : Int) (n : Nat), (t.map (·.1)).Nodup → ((putN t z n).map (·.1)).Nodup
  | [], z, n, _ => by simp [putN]
  | x :: r, z, n, h => by
    rw [List.map_cons, List.nodup_cons] at h
    rw [putN]
    by_cases e : x.1 = z
    · rw [if_pos e, List.map_cons, List.nodup_cons]
      exact ⟨by show z ∉ _; rw [← e]; exact h.1, h.2⟩
    · rw [if_neg e, List.map_cons, List.nodup_cons]
      refine ⟨fun c => ?_, putN_nd r z n h.2⟩
      rcases (putN_keys r z n x.1).mp c with c | c
      · exact e c
      · exact h.1 c
theorem putN_lk : ∀ (t : List (Int × Nat)) (z : Int) (n : Nat) (y : Int), lkT (putN t z n) y = if z = y then n else lkT t y
  | [], z, n, y => rfl
  | x :: r, z, n, y => by
    rw [putN]
    by_cases e : x.1 = z
    · rw [if_pos e, lkT, lkT]
      by_cases c : z = y
      · rw [if_pos c, if_pos c]
      · rw [if_neg c, if_neg c, if_neg (by rw [e]; exact c)]
    · rw [if_neg e, lkT, lkT, putN_lk r z n y]
      by_cases c : x.1 = y
      · rw [if_pos c, if_neg (fun d => e (c.trans d.symm)), if_pos c]
      · rw [if_neg c, if_neg c]
theorem putN_pos : ∀ (t : List (Int × Nat)) (z : Int) (n : Nat), (∀ x ∈ t, 0 < x.2) → 0 < n → ∀ x ∈ putN t z n, 0 < x.2
  | [], z, n, _, hn, x, hx => by
    rw [putN, List.mem_singleton] at hx
    rw [hx]
    exact hn
  | y :: r, z, n, h, hn, x, hx => by
    rw [putN] at hx
    by_cases e : y.1 = z
    · rw [if_pos e] at hx
      rcases List.mem_cons.mp hx with rfl | hx
      · exact hn
      · exact h x (List.mem_cons_of_mem _ hx)
    · rw [if_neg e] at hx
      rcases List.mem_cons.mp hx with rfl | hx
      · exact h _ (List.mem_cons_self ..)
      · exact putN_pos r z n (fun w hw => h w (List.mem_cons_of_mem _ hw)) hn x hx
theorem putN_enc (t : List (Int × Nat)) (z : Int) (n : Nat) (h : (t.map (·.1)).Nodup) : putK (t.map encN) (.inl z) (.int (n : Nat)) = (putN t z n).map encN := by
  have key : ∀ t : List (Int × Nat), (t.map (·.1)).Nodup → ((t.map encN).any fun kv => decide (kv.1 = .inl z)) = false → (putN t z n).map encN = t.map encN ++ [(.inl z, .int (n : Nat))] := by
    intro t
    induction t with
    | nil => intro _ _; rfl
    | cons x r ih =>
      intro h a
      rw [List.map_cons, List.nodup_cons] at h
      rw [List.map_cons, List.any_cons, Bool.or_eq_false_iff] at a
      have e : ¬ x.1 = z := fun c => by
        have := of_decide_eq_false a.1
        exact this (congrArg Sum.inl c)
      rw [putN, if_neg e, List.map_cons, ih h.2 a.2]
      rfl
  have key2 : ∀ t : List (Int × Nat), (t.map (·.1)).Nodup → ((t.map encN).any fun kv => decide (kv.1 = .inl z)) = true → (putN t z n).map encN = (t.map encN).map fun kv => if kv.1 = .inl z then (kv.1, .int (n : Nat)) else kv := by
    intro t
    induction t with
    | nil => intro _ a; cases a
    | cons x r ih =>
      intro h a
      rw [List.map_cons, List.nodup_cons] at h
      by_cases e : x.1 = z
      · rw [putN, if_pos e, List.map_cons, List.map_cons, List.map_cons, if_pos (show (encN x).1 = .inl z from congrArg Sum.inl e)]
        have er : ((r.map encN).map fun kv => if kv.1 = .inl z then (kv.1, V.int (n : Nat)) else kv) = r.map encN := by
          rw [List.map_map]
          refine List.map_congr_left fun y hy => ?_
          have : ¬ (encN y).1 = .inl z := fun c => h.1 (by rw [e, ← Sum.inl.inj c]; exact List.mem_map.mpr ⟨y, hy, rfl⟩)
          exact if_neg this
        rw [er]
        show _ :: _ = ((encN x).1, _) :: _
        rw [show (encN x).1 = (.inl z : Key) from congrArg Sum.inl e]
        rfl
      · rw [List.map_cons, List.any_cons, show decide ((encN x).1 = (.inl z : Key)) = false from decide_eq_false fun c => e (Sum.inl.inj c), Bool.false_or] at a
        rw [putN, if_neg e, List.map_cons, List.map_cons, List.map_cons, if_neg (show ¬ (encN x).1 = .inl z from fun c => e (Sum.inl.inj c)), ih h.2 a]
  unfold putK
  by_cases a : ((t.map encN).any fun kv => decide (kv.1 = .inl z)) = true
  · rw [if_pos a, key2 t h a]
  · rw [if_neg a, key t h (by cases q : (t.map encN).any fun kv => decide (kv.1 = .inl z) with | true => exact absurd q a | false => rfl)]
theorem TyIs.put {kvs : List (Key × V)} {M : List Int} (h : TyIs kvs M) {z : Int} {c : Nat} (hc : 0 < c) : TyIs (putK kvs (.inl z) (.int ((M.count z : Nat) + (c : Nat)))) (M ++ List.replicate c z) := by
  obtain ⟨t, rfl, a⟩ := h
  refine ⟨putN t z (M.count z + c), ?_, putN_nd _ _ _ a.nd, putN_pos _ _ _ a.pos (by omega), fun y => ?_⟩
  · rw [← putN_enc _ _ _ a.nd]
    rfl
  · rw [putN_lk, List.count_append, cnt_rep]
    by_cases e : z = y
    · rw [if_pos e, if_pos e, e]
    · rw [if_neg e, if_neg e, a.cnt]
      rfl
theorem lk_at : ∀ {t : List (Int × Nat)} {i : Nat} {x : Int × Nat}, (t.map (·.1)).Nodup → t[i]? = some x → lkT t x.1 = x.2
  | [], i, x, _, h => by simp at h
  | y :: r, 0, x, _, h => by
    rw [List.getElem?_cons_zero] at h
    cases h
    rw [lkT, if_pos rfl]
  | y :: r, i + 1, x, hn, h => by
    rw [List.getElem?_cons_succ] at h
    rw [List.map_cons, List.nodup_cons] at hn
    rw [lkT, if_neg fun e => hn.1 (by rw [e]; exact List.mem_map.mpr ⟨x, List.mem_of_getElem? h, rfl⟩)]
    exact lk_at hn.2 h
theorem val_at {t : List (Int × Nat)} {M : List Int} (a : TyAt t M) {i : Nat} {x : Int × Nat} (h : t[i]? = some x) : valV (t.map encN) (.inl x.1) = some (.int (x.2 : Nat)) := by
  have := a.pos x (List.mem_of_getElem? h)
  rw [lk_val t x.1 a.pos, lk_at a.nd h, if_neg (by omega)]
theorem enc_at {t : List (Int × Nat)} {i : Nat} {k : Key} {v : V} (h : (t.map encN)[i]? = some (k, v)) : ∃ x, t[i]? = some x ∧ k = .inl x.1 := by
  rw [List.getElem?_map] at h
  cases e : t[i]? with
  | none => rw [e] at h; cases h
  | some x =>
    rw [e] at h
    cases h
    exact ⟨x, rfl, rfl⟩
theorem cnt_le {t : List (Int × Nat)} {M : List Int} (a : TyAt t M) {i : Nat} {x : Int × Nat} (h : t[i]? = some x) : x.2 ≤ M.length := by
  rw [← lk_at a.nd h, a.cnt]
  exact List.count_le_length
/-- all stands but at a -/
def But (a : Addr) (H H' : Hp) : Prop := ∀ c o, c ≠ a → H c = some o → H' c = some o
theorem But.put {a q : Addr} {H H' : Hp} {o : HO} (k : But a H H') (h : H q = none) : But a H (upd H' q o) := fun c u n e => by
  rw [upd_ne (ne_of_none e h)]
  exact k c u n e
theorem But.back {a : Addr} {H H' : Hp} {o : HO} (k : But a H H') (h : H a = some o) : Ext H (upd H' a o) := fun c u e => by
  by_cases n : c = a
  · subst n
    rw [h] at e
    cases e
    exact upd_same
  · rw [upd_ne n]
    exact k c u n e
theorem But.lock {a : Addr} {H : Hp} {o : HO} : But a H (upd H a o) := fun c u n e => by
  rw [upd_ne n]
  exact e
end Pf


namespace Pf
open PySem PySem.Spec PyProof.Rows L2
/-! ### sums by a base, from the greatest worth down -/
def hor (c : Nat → Nat) (b1 b2 : Nat) : Nat → Nat
  | 0 => 0
  | t + 1 => hor c b1 b2 t * b1 + c t * b2 ^ t
theorem hor_sum (c : Nat → Nat) (b1 b2 : Nat) : ∀ n : Nat, hor c b1 b2 n = ((List.range n).map fun s => c s * (b1 ^ (n - 1 - s) * b2 ^ s)).sum
  | 0 => rfl
  | n + 1 => by
    rw [hor, hor_sum c b1 b2 n, List.range_succ, List.map_append, List.sum_append]
    congr 1
    · have e : ∀ s ∈ List.range n, c s * (b1 ^ (n + 1 - 1 - s) * b2 ^ s) = (c s * (b1 ^ (n - 1 - s) * b2 ^ s)) * b1 := fun s hs => by
        have := List.mem_range.mp hs
        rw [show n + 1 - 1 - s = (n - 1 - s) + 1 by omega, Nat.pow_succ]
        simp only [Nat.mul_assoc, Nat.mul_comm, Nat.mul_left_comm]
      rw [List.map_congr_left e]
      clear e
      generalize List.range n = l
      induction l with
      | nil => simp
      | cons s l ih => rw [List.map_cons, List.map_cons, List.sum_cons, List.sum_cons, Nat.add_mul, ih]
    · simp
theorem hor_mono {c : Nat → Nat} {b1 b2 : Nat} (h1 : 1 ≤ b1) {t : Nat} : ∀ {n : Nat}, t ≤ n → hor c b1 b2 t ≤ hor c b1 b2 n
  | 0, h => by rw [show t = 0 by omega]; exact Nat.le_refl _
  | n + 1, h => by
    by_cases e : t = n + 1
    · rw [e]; exact Nat.le_refl _
    · refine Nat.le_trans (hor_mono h1 (show t ≤ n by omega)) ?_
      rw [hor]
      exact Nat.le_trans (Nat.le_mul_of_pos_right _ h1) (Nat.le_add_right _ _)
theorem nd_sub (hi : Int) (n : Nat) : ((List.range n).map fun s : Nat => hi - (s : Int)).Nodup :=
  List.pairwise_map.mpr (List.nodup_range.imp fun h e => h (by omega))
/-- the sum over all worths, each by what it weighs over the bottom -/
def sumN (b1 b2 : Nat) (lo hi : Int) (M : List Int) : Nat := (M.map (topN b1 b2 lo hi)).sum
theorem hor_tot {M : List Int} {b1 b2 : Nat} {lo hi : Int} (hM : ∀ m ∈ M, lo ≤ m ∧ m ≤ hi) (hl : lo ≤ hi) : hor (fun s : Nat => M.count (hi - (s : Int))) b1 b2 (hi - lo + 1).toNat = sumN b1 b2 lo hi M := by
  unfold sumN
  rw [hor_sum, sum_count (topN b1 b2 lo hi) (nd_sub hi (hi - lo + 1).toNat) M fun m hm => List.mem_map.mpr ⟨(hi - m).toNat, List.mem_range.mpr (by have := hM m hm; omega), by have := hM m hm; omega⟩, List.map_map]
  congr 1
  refine List.map_congr_left fun s hs => ?_
  have := List.mem_range.mp hs
  show _ = M.count (hi - (s : Int)) * topN b1 b2 lo hi (hi - (s : Int))
  unfold topN
  rw [show (hi - (s : Int) - lo).toNat = (hi - lo + 1).toNat - 1 - s by omega, show (hi - (hi - (s : Int))).toNat = s by omega]
theorem sumB_le {c : Nat} : ∀ {l : List Nat}, (∀ y ∈ l, y ≤ c) → l.sum ≤ l.length * c
  | [], _ => by simp
  | y :: l, h => by
    rw [List.sum_cons, List.length_cons, Nat.succ_mul]
    have h1 := h y (List.mem_cons_self ..)
    have h2 := sumB_le fun z hz => h z (List.mem_cons_of_mem _ hz)
    omega
theorem sumN_le {M : List Int} {b1 b2 k W : Nat} {lo hi : Int} (h1 : b1 ≤ 2 ^ k) (h2 : b2 ≤ 2 ^ k) (hl : -(W : Int) ≤ lo) (hh : hi ≤ W) (hM : ∀ m ∈ M, lo ≤ m ∧ m ≤ hi) : sumN b1 b2 lo hi M ≤ M.length * 2 ^ (2 * W * k) := by
  unfold sumN
  have := sumB_le (c := 2 ^ (2 * W * k)) (l := M.map (topN b1 b2 lo hi)) fun y hy => by
    obtain ⟨m, hm, rfl⟩ := List.mem_map.mp hy
    exact topN_le h1 h2 hl hh (hM m hm)
  rw [List.length_map] at this
  exact this
theorem sumN_lt {M : List Int} {b1 b2 k W : Nat} {lo hi : Int} (h1 : b1 ≤ 2 ^ k) (h2 : b2 ≤ 2 ^ k) (hl : -(W : Int) ≤ lo) (hh : hi ≤ W) (hM : ∀ m ∈ M, lo ≤ m ∧ m ≤ hi) (hlen : M.length ≤ 2188) (hk : 2 * W * k ≤ 1800) : sumN b1 b2 lo hi M < 2 ^ 1812 := by
  refine Nat.lt_of_le_of_lt (sumN_le h1 h2 hl hh hM) (Nat.lt_of_le_of_lt (Nat.mul_le_mul hlen (Nat.pow_le_pow_right (by decide) hk)) ?_)
  have e : (2 : Nat) ^ 1812 = 2 ^ 12 * 2 ^ 1800 := by rw [← Nat.pow_add]
  rw [e]
  exact Nat.mul_lt_mul_of_pos_right (by decide) (Nat.pow_pos (by decide))
section
variable {P : Program} {w : World} {K : PySem.W.Frag} {mg : Str → Option Value} {base : Heap}
/-- how great what is summed may be -/
def WideM (b1 b2 : Nat) (lo hi : Int) : Prop := ∃ W k : Nat, -(W : Int) ≤ lo ∧ hi ≤ W ∧ W ≤ 2000 ∧ 1 ≤ b1 ∧ b1 ≤ 2 ^ k ∧ b1 < 2 ^ 14 ∧ 1 ≤ b2 ∧ b2 ≤ 2 ^ k ∧ b2 < 2 ^ 14 ∧ 2 * W * k ≤ 1800
abbrev s_law_sum : Stmt := topS 45
theorem sc_law_sum : FnScope ["_law_counts", "_law_ground", "_law_low", "_law_high", "_law_found", "_law_by", "_law_turn"] ["_law_counts", "_law_ground", "_law_low", "_law_high"] (defScope s_law_sum) :=
  ⟨rfl, rfl, rfl, by decide +kernel, rfl, by decide +kernel, by decide +kernel⟩
def spLSum (K : PySem.W.Frag) : Sp := fun vs H Q _ => ∃ (d : Addr) (vb : V) (kvs : List (Key × V)) (M : List Int) (b1 b2 : Nat) (lo hi : Int), vs = [.ref d, vb, .int lo, .int hi] ∧ H d = some (.dK kvs) ∧ TyIs kvs M ∧ BsAt K H vb b1 b2 ∧ WideM b1 b2 lo hi ∧ lo ≤ hi ∧ (∀ m ∈ M, lo ≤ m ∧ m ≤ hi) ∧ M.length ≤ 2188 ∧
  Q (.int ((sumN b1 b2 lo hi M : Nat) : Int)) H
theorem ok_lsum {f : Addr} {fd : FuncData} {k : Nat} (F : Fun K "_law_sum" "_law_sum" s_law_sum f fd) (mrange : mg "range" = none) : FnOk P w K mg base CX0 (k + 1) f fd ["_law_counts", "_law_ground", "_law_low", "_law_high"] (spLSum K) := by
  refine F.ok sc_law_sum (fun vs H Q E h => ?_) (fun cdv A outer s H vs Q E hr h => ?_)
  · obtain ⟨d, vb, kvs, M, b1, b2, lo, hi, rfl, _⟩ := h
    rfl
  · obtain ⟨d, vb, kvs, M, b1, b2, lo, hi, rfl, hd, hT, ⟨tb, rfl, hB⟩, ⟨W, k, hWl, hWh, hW2, p1, k1, q1, p2, k2, q2, hWk⟩, hlh, hM, hMl, q⟩ := h
    refine ⟨_, (pss_cons (ps_set (i := 4) sc_law_sum.nd rfl (.inl rfl) pe_int)
      (pss_cons (ps_set (i := 5) sc_law_sum.nd rfl (.inl rfl) pe_int)
      (pss_cons (ps_for PassesOwn.never rfl (pi_range1 (by rfl) mrange (pa_cons (pe_op op_add (pe_op op_sub (pv 3) (pv 2)) pe_int) pa_nil)) (pg_name (i := 6) sc_law_sum.nd rfl (.inl rfl)) (pss_cons (ps_set (i := 4) sc_law_sum.nd rfl (.inl rfl) (pe_op op_add (pe_op op_mulW (pv 4) (pe_ix (ixT K) (pv 1) pe_int (fun _ _ => rfl))) (pe_op op_mulW (pe_dget2 (hu_of hr) (pv 0) (pe_op op_sub (pv 3) (pv 6)) pe_int ⟨by rfl, by rfl, by rfl, by rfl⟩) (pv 5))))
      (pss_one (ps_set (i := 5) sc_law_sum.nd rfl (.inl rfl) (pe_op op_mulW (pv 5) (pe_ix (ixT K) (pv 1) pe_int (fun _ _ => rfl)))))))
      (pss_one (ps_ret (pv 4)))))), ?_⟩
    obtain ⟨c, hc⟩ : ∃ c : Nat → Nat, c = fun s : Nat => M.count (hi - (s : Int)) := ⟨_, rfl⟩
    obtain ⟨n, hn⟩ : ∃ n, n = (hi - lo + 1).toNat := ⟨_, rfl⟩
    have htot : hor c b1 b2 n = sumN b1 b2 lo hi M := by rw [hc, hn]; exact hor_tot hM hlh
    have hS := sumN_lt k1 k2 hWl hWh hM hMl hWk
    refine ⟨_, rfl, _, rfl, hi, lo, rfl, rfl, hi - lo, 1, rfl, rfl, hi - lo + 1, rfl, by omega, by omega, ?_⟩
    refine for_range (n := (hi - lo + 1).toNat) (fun t σ H2 => ∃ (y6 : Option V), σ = [some (.ref d), some (.ref tb), some (.int lo), some (.int hi), some (.int ((hor c b1 b2 t : Nat) : Int)), some (.int ((b2 ^ t : Nat) : Int)), y6] ∧ H2 = H)
      ⟨none, rfl, rfl⟩ (fun t σ H2 ht hv => ?_) (fun σ H2 hv => ?_)
    · obtain ⟨y6, rfl, rfl⟩ := hv
      have hmt : hor c b1 b2 t < 2 ^ 1812 := by
        have := hor_mono (c := c) (b2 := b2) p1 (show t ≤ n by omega)
        omega
      have hb1 : b1 < 2 ^ 14 := q1
      have hbt := pow_bits (e := t) q2
      have hct : c t ≤ 2188 := by
        rw [hc]
        exact Nat.le_trans List.count_le_length hMl
      have ht4 : t ≤ 4000 := by omega
      refine ⟨_, rfl, _, rfl, tb, _, 0, _, rfl, rfl, hB, rfl, _, _, rfl, rfl, wide_mul (a := 1812) (b := 14) (by rw [Int.natAbs_natCast]; exact hmt) (by rw [Int.natAbs_natCast]; exact hb1) (by decide) (by decide) (by decide), ?_⟩
      refine ⟨_, rfl, d, rfl, .inl ⟨_, .inl hd⟩, _, rfl, _, rfl, _, _, rfl, rfl, _, DGet.k (k := .inl (hi - (0 + (t : Int)))) hd, _, rfl, ((c t : Nat) : Int), _, ?_, rfl, wide_mul (a := 12) (b := 14 * t + 1) (by rw [Int.natAbs_natCast]; exact Nat.lt_of_le_of_lt hct (by decide)) (by rw [Int.natAbs_natCast]; exact hbt) (by decide) (by omega) (by omega), ?_⟩
      · have e := hT.get (hi - (0 + (t : Int)))
        rw [hc]
        rw [e, show hi - (0 + (t : Int)) = hi - (t : Int) by omega]
      · refine ⟨_, _, rfl, rfl, ?_⟩
        refine ⟨_, rfl, _, rfl, tb, _, 1, _, rfl, rfl, hB, rfl, _, _, rfl, rfl, wide_mul (a := 14 * t + 1) (b := 14) (by rw [Int.natAbs_natCast]; exact hbt) (by rw [Int.natAbs_natCast]; exact q2) (by omega) (by decide) (by omega), ?_⟩
        refine ⟨some (.int (0 + (t : Int))), ?_, rfl⟩
        have e1 : ((hor c b1 b2 (t + 1) : Nat) : Int) = (hor c b1 b2 t : Int) * b1 + (c t : Int) * ((b2 ^ t : Nat) : Int) := by
          rw [hor]
          push_cast
          rfl
        have e2 : ((b2 ^ (t + 1) : Nat) : Int) = ((b2 ^ t : Nat) : Int) * b2 := by
          rw [Nat.pow_succ]
          push_cast
          rfl
        rw [e1, e2]
        rfl
    · obtain ⟨y6, rfl, rfl⟩ := hv
      refine ⟨_, rfl, ?_⟩
      rw [← hn, htot]
      exact q
abbrev CLSum (P : Program) (w : World) (K : PySem.W.Frag) (mg : Str → Option Value) (base : Heap) : Prop := Ca P w K mg base 1 "_law_sum" ["_law_counts", "_law_ground", "_law_low", "_law_high"] (spLSum K)
end
end Pf


namespace Pf
open PySem PySem.Spec PyProof.Rows L2
/-! ### d.setdefault(t, v), the keys tuples of numbers and texts -/
def rSdT : V → List V → Hp → VK → Prop := fun x vs H Q => ∃ (D b : Addr) (ks : List Key) (v : V) (kvs : List (List Key × V)), x = .ref D ∧ vs = [.ref b, v] ∧ H D = some (.dT kvs) ∧ H b = some (.tup (ks.map kV)) ∧ kvs.length < sizeLine ∧
  (∀ u, valV kvs ks = some u → Q u H) ∧ (valV kvs ks = none → Q v (upd H D (.dT (kvs ++ [(ks, v)]))))
theorem mt_sdT {X : Cx} (hu : X.A.units + 64 < cLine) : MtM X "dict.setdefault" rSdT := by
  intro pins s σ H x vs v us Q I rx rv h
  obtain ⟨D, b, ks, y, kvs, rfl, rfl, hD, hb, hz, q1, q2⟩ := h
  cases rx
  obtain ⟨ua, uy, rfl, ra, ry⟩ : ∃ ua uy, us = [ua, uy] ∧ RelV (V.ref b) ua ∧ RelV y uy := by
    cases rv with
    | cons r1 rt =>
      cases rt with
      | cons r2 rn =>
        cases rn
        exact ⟨_, _, rfl, r1, r2⟩
  cases ra
  obtain ⟨len, nsys, xs, rel, dd⟩ := dt_of I.hok hD
  have lx : xs.length ≤ sizeLine := Paired.length rel ▸ len
  have hroom : (tupleKind (mixKind X.prog X.w)).room X.A.in1 := by
    show X.A.units + 1 < cLine
    omega
  have rv := rel.val ks
  refine call_setdefault_heap (k := ks) hroom (key_of I.hok hb) nsys dd (fun q hq => ?_) (fun hq h' hd' same => ?_) lx
  · rw [hq] at rv
    cases e : valV kvs ks with
    | none => rw [e] at rv; exact (show False from rv).elim
    | some u =>
      rw [e] at rv
      exact ⟨u, H, I.tok _, rv, q1 u e⟩
  · rw [hq] at rv
    have e : valV kvs ks = none := by
      cases e : valV kvs ks with
      | none => rfl
      | some u => rw [e] at rv; exact (show False from rv).elim
    have ep : putK kvs ks y = kvs ++ [(ks, y)] := by
      unfold putK
      rw [if_neg]
      rw [valV_any, e]
      exact Bool.false_ne_true
    have lp := length_putK kvs ks y
    obtain ⟨ob, es, epp, e1, e2, e3, e4, _, e5⟩ := hd'
    have stays : ∀ c ys, H c = some (.tup ys) → (upd H D (.dT (putK kvs ks y))) c = some (.tup ys) := fun c ys ec => by
      rw [upd_ne (ne_of ec hD (by intro y; cases y))]
      exact ec
    have I2 : Inv X pins σ (upd H D (.dT (putK kvs ks y))) { s with heap := h', toks := s.toks + (tupleKind (mixKind X.prog X.w)).draws ks } := d_write I (by rw [hD]; exact True.intro) same ⟨ob, e1⟩ ⟨by omega, nsys, _, (rel.put ks hb ry).keeps stays, ob, es, epp, e1, e2, e3, e4, e5⟩
    rw [ep] at I2
    exact ⟨y, _, I2, ry, q2 e⟩
def tyDT (x : V) (H : Hp) : Prop := ∃ D kvs, x = V.ref D ∧ H D = some (.dT kvs)
theorem tyDT_is {X : Cx} {pins : List (Addr × Obj)} {σ : L2.St} {H : Hp} {s : Shared} {x : V} {v : Value} (I : Inv X pins σ H s) (r : RelV x v) (ty : tyDT x H) : s.TypeIs v "dict" ∧ ∀ a, v = .ref a → ∃ ob, s.heap.get? a = some ob ∧ ob.dict = none := by
  obtain ⟨D, kvs, rfl, h⟩ := ty
  cases r
  obtain ⟨_, _, xs, _, o, _, _, h1, h2, _⟩ := dt_of I.hok h
  exact ⟨⟨o, h1, h2.1⟩, fun a e2 => by cases e2; exact ⟨o, h1, h2.2.1⟩⟩
def tMT (r : V → List V → Hp → VK → Prop) (to : TE) (t : TA) : TE := fun σ H Q => to σ H fun x H1 => tyDT x H1 ∧ t σ H1 fun xs H2 => r x xs H2 Q
theorem pe_sdT {X : Cx} {o e : Expr} {es : List Expr} {to : TE} {t : TA} {apos cpos : Pos} (ho : PE X o to) (ha : PA X (e :: es) t) (hu : X.A.units + 64 < cLine)
    (hbase : attributeBase o "setdefault" X.env (eval o X.env) = eval o X.env := by rfl)
    (hfew : ((backTo cpos (starEach (e :: es) X.env)).all (fun x => !x.1) && (backToKw cpos (keywordEach [] X.env)).all (fun x => x.1.isSome)
      && decide ((e :: es).length + ([] : List Keyword).length + (if ([] : List Keyword).isEmpty then 0 else 1) < 30)) = true := by rfl)
    (hline : (apos.endLine == cpos.line) = true := by rfl) (hs : starEach (e :: es) X.env = (false, eval e X.env) :: starEach es X.env := by rfl) (hplain : (backTo cpos (starEach es X.env)).any (·.1) = false := by rfl) :
    PE X (.Call (.Attribute o "setdefault" apos) (e :: es) [] cpos) (tMT rSdT to t) := by
  constructor
  intro pins s σ H Q I h
  refine wpAny_Call_method_late hbase hfew hline rfl (thn (ho.run pins s σ H _ I h) fun v s1 z => ?_)
  obtain ⟨x, H1, I1, rx, ty, q1⟩ := z
  have hty := tyDT_is I1 rx ty
  refine ⟨"dict", "dict.setdefault", PySem.F.plainAttrs_dict, PySem.F.slot_dict_setdefault, PySem.F.type_dict_setdefault, hty.1, hty.2, ?_⟩
  have hA := ha.run cpos pins s1 σ H1 _ I1 q1
  rw [hs] at hA ⊢
  refine Calls.callWith_builtin ?_ (Calls.evalArgs_plain (thn hA fun us s2 z2 => ?_))
  · show (false || (backTo cpos (starEach es X.env)).any (·.1)) = false
    rw [hplain]
    rfl
  · obtain ⟨vs, H2, I2, r2, q2⟩ := z2
    exact mt_sdT hu pins s2 σ H2 x vs v us Q I2 rx r2 q2
end Pf


namespace Pf
open PySem PySem.Spec PyProof.Rows L2
/-! ### how many have each worth: of all, of those with a pair, of those in which a place is free -/
inductive Ky where
  | all : Ky
  | pr : Int × Int → Ky
  | pl : Nat → Ky
  deriving DecidableEq
def takenL (q : Fo) : List Int := q.map (·.1) ++ q.map (·.2)
def hitB (q : Fo) : Ky → Bool
  | .all => true
  | .pr p => decide (p ∈ q)
  | .pl i => decide ((i : Int) ∉ takenL q)
def tal (r : Rl) (x : Str) (D : List Fo) (k : Ky) : List Int := (D.filter fun q => hitB q k).map (woV r x)
theorem tal_snoc (r : Rl) (x : Str) (D : List Fo) (q : Fo) (k : Ky) : tal r x (D ++ [q]) k = tal r x D k ++ if hitB q k = true then [woV r x q] else [] := by
  unfold tal
  rw [List.filter_append, List.map_append]
  congr 1
  by_cases e : hitB q k = true
  · rw [if_pos e, List.filter_cons_of_pos (p := fun q => hitB q k) e]
    rfl
  · rw [if_neg e, List.filter_cons_of_neg (p := fun q => hitB q k) e]
    rfl
theorem tal_len (r : Rl) (x : Str) (D : List Fo) (k : Ky) : (tal r x D k).length ≤ D.length := by
  unfold tal
  rw [List.length_map]
  exact List.length_filter_le _ _
def TyD (H : Hp) (a : Addr) (M : List Int) : Prop := ∃ kvs, H a = some (.dK kvs) ∧ TyIs kvs M
def TTk (e : Addr) (pl : List ((Int × Int) × Addr)) (as : List Addr) : Ky → Addr → Prop
  | .all, a => a = e
  | .pr p, a => (p, a) ∈ pl
  | .pl i, a => as[i]? = some a
def kyT (p : Int × Int) : List Key := [.inl p.1, .inl p.2]
theorem kyT_inj {p q : Int × Int} (h : kyT p = kyT q) : p = q := by
  unfold kyT at h
  injection h with h1 h2
  injection h2 with h2 _
  exact Prod.ext (Sum.inl.inj h1) (Sum.inl.inj h2)
def encT (y : (Int × Int) × Addr) : List Key × V := (kyT y.1, .ref y.2)
theorem val_pl (p : Int × Int) : ∀ pl : List ((Int × Int) × Addr), (∃ a, (p, a) ∈ pl ∧ valV (pl.map encT) (kyT p) = some (.ref a)) ∨ (p ∉ pl.map (·.1) ∧ valV (pl.map encT) (kyT p) = none)
  | [] => .inr ⟨by simp, rfl⟩
  | y :: pl => by
    rw [List.map_cons]
    by_cases e : y.1 = p
    · refine .inl ⟨y.2, by rw [← e]; exact List.mem_cons_self .., ?_⟩
      rw [valV_pos (show (encT y).1 = kyT p from congrArg kyT e)]
      rfl
    · rw [valV_neg (show ¬ (encT y).1 = kyT p from fun c => e (kyT_inj c))]
      rcases val_pl p pl with ⟨a, h1, h2⟩ | ⟨h1, h2⟩
      · exact .inl ⟨a, List.mem_cons_of_mem _ h1, h2⟩
      · refine .inr ⟨fun h => ?_, h2⟩
        rw [List.map_cons] at h
        rcases List.mem_cons.mp h with h | h
        · exact e h.symm
        · exact h1 h
theorem nd_key {pl : List ((Int × Int) × Addr)} (h : (pl.map (·.1)).Nodup) {p : Int × Int} {a b : Addr} (ha : (p, a) ∈ pl) (hb : (p, b) ∈ pl) : a = b := by
  induction pl with
  | nil => cases ha
  | cons y pl ih =>
    rw [List.map_cons, List.nodup_cons] at h
    rcases List.mem_cons.mp ha with rfl | ha2 <;> rcases List.mem_cons.mp hb with e | hb2
    · exact (congrArg Prod.snd e).symm
    · exact absurd (show p ∈ pl.map (·.1) from List.mem_map.mpr ⟨(p, b), hb2, rfl⟩) h.1
    · subst e
      exact absurd (show p ∈ pl.map (·.1) from List.mem_map.mpr ⟨(p, a), ha2, rfl⟩) h.1
    · exact ih h.2 ha2 hb2
/-- the tables as they stand, F what each has counted -/
structure Ct (H1 H : Hp) (e bp : Addr) (as : List Addr) (pl : List ((Int × Int) × Addr)) (F : Ky → List Int) : Prop where
  kp : ∀ b o, b ≠ e → b ≠ bp → b ∉ as → H1 b = some o → H b = some o
  ty : ∀ k a, TTk e pl as k a → TyD H a (F k)
  inj : ∀ k k' a, TTk e pl as k a → TTk e pl as k' a → k = k'
  nw : ∀ y ∈ pl, H1 y.2 = none
  bpH : H bp = some (.dT (pl.map encT))
  pn : (pl.map (·.1)).Nodup
section
variable {H1 H : Hp} {e bp : Addr} {as : List Addr} {pl : List ((Int × Int) × Addr)} {F : Ky → List Int}
theorem mem_at {as : List Addr} {a : Addr} (h : a ∈ as) : ∃ i : Nat, as[i]? = some a := by
  obtain ⟨i, hi, e⟩ := List.getElem_of_mem h
  exact ⟨i, by rw [List.getElem?_eq_getElem hi, e]⟩
theorem Ct.smt (c : Ct H1 H e bp as pl F) {b : Addr} {o : HO} (h : H1 b = some o) : ∃ o', H b = some o' := by
  by_cases h1 : b = e
  · obtain ⟨k, hk, _⟩ := c.ty .all b h1
    exact ⟨_, hk⟩
  · by_cases h2 : b = bp
    · exact ⟨_, h2 ▸ c.bpH⟩
    · by_cases h3 : b ∈ as
      · obtain ⟨i, hi⟩ := mem_at h3
        obtain ⟨k, hk, _⟩ := c.ty (.pl i) b hi
        exact ⟨_, hk⟩
      · exact ⟨o, c.kp b o h1 h2 h3 h⟩
theorem Ct.nn (c : Ct H1 H e bp as pl F) {b : Addr} (h : H b = none) : H1 b = none := by
  cases e1 : H1 b with
  | none => rfl
  | some o =>
    obtain ⟨o', h'⟩ := c.smt e1
    rw [h] at h'
    cases h'
theorem Ct.fn (c : Ct H1 H e bp as pl F) {k : Ky} {a b : Addr} (ha : TTk e pl as k a) (hb : TTk e pl as k b) : a = b := by
  cases k with
  | all => exact Eq.trans ha (Eq.symm hb)
  | pr p => exact nd_key c.pn ha hb
  | pl i => exact Option.some.inj (Eq.trans (Eq.symm ha) hb)
theorem Ct.ext (c : Ct H1 H e bp as pl F) {H' : Hp} (x : Ext H H') : Ct H1 H' e bp as pl F :=
  ⟨fun b o h1 h2 h3 h => x _ _ (c.kp b o h1 h2 h3 h), fun k a h => by
    obtain ⟨kv, hk, ht⟩ := c.ty k a h
    exact ⟨kv, x _ _ hk, ht⟩, c.inj, c.nw, x _ _ c.bpH, c.pn⟩
theorem Ct.congr (c : Ct H1 H e bp as pl F) {F' : Ky → List Int} (h : ∀ k a, TTk e pl as k a → F k = F' k) : Ct H1 H e bp as pl F' :=
  ⟨c.kp, fun k a ht => by rw [← h k a ht]; exact c.ty k a ht, c.inj, c.nw, c.bpH, c.pn⟩
theorem Ct.putL (c : Ct H1 H e bp as pl F) {D : Addr} {ys zs : List V} (hD : H D = some (.lst ys)) (h1 : H1 D = none) : Ct H1 (upd H D (.lst zs)) e bp as pl F :=
  ⟨fun b o h2 h3 h4 h => by
    rw [upd_ne (ne_of_none h h1)]
    exact c.kp b o h2 h3 h4 h, fun k a h => by
    obtain ⟨kv, hk, ht⟩ := c.ty k a h
    exact ⟨kv, by rw [upd_ne (ne_of hk hD (by intro z; cases z))]; exact hk, ht⟩, c.inj, c.nw, by
    rw [upd_ne (ne_of c.bpH hD (by intro z; cases z))]
    exact c.bpH, c.pn⟩
/-- a table counts one more -/
theorem Ct.inc (c : Ct H1 H e bp as pl F) {k : Ky} {a : Addr} {kvs : List (Key × V)} {z : Int} (ht : TTk e pl as k a) (ha : H a = some (.dK kvs)) (hT : TyIs kvs (F k)) : Ct H1 (upd H a (.dK (putK kvs (.inl z) (.int (((F k).count z : Nat) + (1 : Nat)))))) e bp as pl (fun k' => F k' ++ if k' = k then [z] else []) := by
  have hae : ∀ b o, b ≠ e → b ∉ as → H1 b = some o → b ≠ a := fun b o h1 h2 h3 => by
    cases k with
    | all => exact fun q => h1 (q.trans ht)
    | pr p => exact ne_of_none h3 (c.nw _ ht)
    | pl i => exact fun q => h2 (q ▸ List.mem_of_getElem? ht)
  refine ⟨fun b o h1 h2 h3 h => ?_, fun k' a' h => ?_, c.inj, c.nw, ?_, c.pn⟩
  · rw [upd_ne (hae b o h1 h3 h)]
    exact c.kp b o h1 h2 h3 h
  · by_cases q : k' = k
    · subst q
      have : a' = a := c.fn h ht
      subst this
      refine ⟨_, upd_same, ?_⟩
      rw [if_pos rfl]
      exact hT.put (c := 1) (by decide)
    · have na : a' ≠ a := fun w => q (c.inj k' k a (w ▸ h) ht)
      obtain ⟨kv, hk, h2⟩ := c.ty k' a' h
      refine ⟨kv, by rw [upd_ne na]; exact hk, ?_⟩
      rw [if_neg q, List.append_nil]
      exact h2
  · rw [upd_ne (ne_of c.bpH ha (by intro z; cases z))]
    exact c.bpH
/-- a pair has a table from now on -/
theorem Ct.grow (c : Ct H1 H e bp as pl F) {p : Int × Int} {d : Addr} (hp : p ∉ pl.map (·.1)) (hd : H d = none) (hF : F (.pr p) = []) : Ct H1 (upd (upd H d (.dK [])) bp (.dT (pl.map encT ++ [(kyT p, .ref d)]))) e bp as (pl ++ [(p, d)]) F := by
  have nbd : bp ≠ d := ne_of_none c.bpH hd
  have old : ∀ k a, TTk e pl as k a → a ≠ d := fun k a h => by
    obtain ⟨kv, hk, _⟩ := c.ty k a h
    exact ne_of_none hk hd
  have cs : ∀ k a, TTk e (pl ++ [(p, d)]) as k a → TTk e pl as k a ∨ (k = .pr p ∧ a = d) := fun k a h => by
    cases k with
    | all => exact .inl h
    | pr q =>
      rcases List.mem_append.mp h with h | h
      · exact .inl h
      · have := List.mem_singleton.mp h
        cases this
        exact .inr ⟨rfl, rfl⟩
    | pl i => exact .inl h
  refine ⟨fun b o h1 h2 h3 h => ?_, fun k a h => ?_, fun k k' a h h' => ?_, fun y hy => ?_, ?_, ?_⟩
  · have hb := c.kp b o h1 h2 h3 h
    rw [upd_ne h2, upd_ne (ne_of_none hb hd)]
    exact hb
  · rcases cs k a h with h | ⟨rfl, rfl⟩
    · obtain ⟨kv, hk, h2⟩ := c.ty k a h
      exact ⟨kv, by rw [upd_ne (ne_of hk c.bpH (by intro z; cases z)), upd_ne (old k a h)]; exact hk, h2⟩
    · refine ⟨[], by rw [upd_ne nbd.symm, upd_same], ?_⟩
      rw [hF]
      exact TyIs.nil
  · rcases cs k a h with h | ⟨rfl, rfl⟩ <;> rcases cs k' a h' with h' | ⟨rfl, e'⟩
    · exact c.inj k k' a h h'
    · exact absurd e' (old k a h)
    · exact absurd rfl (old k' _ h')
    · rfl
  · rcases List.mem_append.mp hy with hy | hy
    · exact c.nw y hy
    · rw [List.mem_singleton.mp hy]
      exact c.nn hd
  · rw [upd_same, List.map_append]
    rfl
  · rw [List.map_append]
    refine List.nodup_append.mpr ⟨c.pn, by simp, fun a ha b hb => ?_⟩
    have : b = p := by simpa using hb
    subst this
    exact fun q => hp (q ▸ ha)
theorem Ct.tk (c : Ct H1 H e bp as pl F) (he : ∃ k, H1 e = some (.dK k)) (hb : ∃ k, H1 bp = some (.dT k)) (ha : ∀ a ∈ as, ∃ k, H1 a = some (.dK k)) : TupK H1 H := by
  obtain ⟨k1, he⟩ := he
  obtain ⟨k2, hb⟩ := hb
  refine ⟨fun b xs h => c.kp b _ (ne_of h he (by intro z; cases z)) (ne_of h hb (by intro z; cases z)) (fun m => ?_) h, fun b o u h => c.kp b _ (ne_of h he (by intro z; cases z)) (ne_of h hb (by intro z; cases z)) (fun m => ?_) h⟩
  · obtain ⟨k3, h3⟩ := ha b m
    rw [h] at h3
    cases h3
  · obtain ⟨k3, h3⟩ := ha b m
    rw [h] at h3
    cases h3
theorem Ct.ls (c : Ct H1 H e bp as pl F) (he : ∃ k, H1 e = some (.dK k)) (hb : ∃ k, H1 bp = some (.dT k)) (ha : ∀ a ∈ as, ∃ k, H1 a = some (.dK k)) {b : Addr} {xs : List V} (h : H1 b = some (.lst xs)) : H b = some (.lst xs) := by
  obtain ⟨k1, he⟩ := he
  obtain ⟨k2, hb⟩ := hb
  refine c.kp b _ (ne_of h he (by intro z; cases z)) (ne_of h hb (by intro z; cases z)) (fun m => ?_) h
  obtain ⟨k3, h3⟩ := ha b m
  rw [h] at h3
  cases h3
end
theorem inV_int {i : Int} {ns : List Int} : inV (.int i) (ns.map V.int) = decide (i ∈ ns) := by
  unfold inV
  rw [List.any_map]
  by_cases h : i ∈ ns
  · rw [decide_eq_true h, List.any_eq_true]
    exact ⟨i, h, by show (i == i) = true; rw [beq_iff_eq]⟩
  · rw [decide_eq_false h, List.any_eq_false]
    intro z hz q
    have q : (z == i) = true := q
    rw [beq_iff_eq] at q
    exact h (q ▸ hz)
def kyL (q : Fo) (n : Nat) : List Ky := .all :: (q.map Ky.pr ++ ((List.range n).filter fun i => hitB q (.pl i)).map Ky.pl)
theorem kyL_nd {q : Fo} (hq : q.Nodup) (n : Nat) : (kyL q n).Nodup := by
  unfold kyL
  rw [List.nodup_cons]
  refine ⟨fun h => ?_, List.nodup_append.mpr ⟨List.pairwise_map.mpr (hq.imp fun h e => h (Ky.pr.inj e)), List.pairwise_map.mpr ((List.nodup_range.filter _).imp fun h e => h (Ky.pl.inj e)), fun a ha b hb e => ?_⟩⟩
  · rcases List.mem_append.mp h with h | h
    · obtain ⟨_, _, e⟩ := List.mem_map.mp h
      cases e
    · obtain ⟨_, _, e⟩ := List.mem_map.mp h
      cases e
  · obtain ⟨_, _, rfl⟩ := List.mem_map.mp ha
    obtain ⟨_, _, rfl⟩ := List.mem_map.mp hb
    cases e
theorem kyL_mem {q : Fo} {n : Nat} {e : Addr} {pl : List ((Int × Int) × Addr)} {as : List Addr} (hn : as.length = n) {k : Ky} {a : Addr} (h : TTk e pl as k a) : k ∈ kyL q n ↔ hitB q k = true := by
  unfold kyL
  rw [List.mem_cons, List.mem_append]
  cases k with
  | all => exact ⟨fun _ => rfl, fun _ => .inl rfl⟩
  | pr p =>
    constructor
    · rintro (h | h | h)
      · cases h
      · obtain ⟨_, hp, e⟩ := List.mem_map.mp h
        cases e
        exact decide_eq_true hp
      · obtain ⟨_, _, e⟩ := List.mem_map.mp h
        cases e
    · intro h
      exact .inr (.inl (List.mem_map.mpr ⟨p, of_decide_eq_true h, rfl⟩))
  | pl i =>
    constructor
    · rintro (h | h | h)
      · cases h
      · obtain ⟨_, _, e⟩ := List.mem_map.mp h
        cases e
      · obtain ⟨j, hj, e⟩ := List.mem_map.mp h
        cases e
        exact (List.mem_filter.mp hj).2
    · intro hh
      have : i < as.length := (List.getElem?_eq_some_iff.mp h).1
      exact .inr (.inr (List.mem_map.mpr ⟨i, List.mem_filter.mpr ⟨List.mem_range.mpr (by omega), hh⟩, rfl⟩))
theorem fold_nd {r : Rl} {x : Str} {n : Nat} {a : Int} {q : Fo} (hq : q ∈ WA r x n a) : q.Nodup := (fo4_of r x n a q hq).srt.imp fun h e => by
  subst e
  omega
theorem if_take {KA : List Ky} {c : Nat} {k k' : Ky} (hn : KA.Nodup) (hc : KA[c]? = some k) (z : Int) : ((if k' ∈ KA.take c then [z] else []) ++ if k' = k then [z] else []) = if k' ∈ KA.take (c + 1) then [z] else [] := by
  rw [List.take_add_one, hc]
  have hni : k ∉ KA.take c := by
    intro hm
    have h2 : KA = KA.take c ++ KA.drop c := (List.take_append_drop c KA).symm
    rw [h2] at hn
    have hd : k ∈ KA.drop c := by
      have : (KA.drop c)[0]? = some k := by rw [List.getElem?_drop]; exact hc
      exact List.mem_of_getElem? this
    exact (List.nodup_append.mp hn).2.2 k hm k hd rfl
  by_cases e : k' = k
  · subst e
    rw [if_pos rfl, if_neg hni, if_pos (by simp)]
    rfl
  · rw [if_neg e, List.append_nil]
    by_cases h : k' ∈ KA.take c
    · rw [if_pos h, if_pos (List.mem_append_left _ h)]
    · rw [if_neg h, if_neg (fun w => (List.mem_append.mp w).elim h (by simpa using e))]
theorem paired_mapR {α β γ : Type} {R : α → β → Prop} {S : α → γ → Prop} {f : β → γ} (h : ∀ a b, R a b → S a (f b)) : ∀ {xs : List α} {ys : List β}, Paired R xs ys → Paired S xs (ys.map f) := by
  intro xs ys p
  induction p with
  | nil => exact .nil
  | cons a _ ih => exact .cons (h _ _ a) ih
theorem at_z {xs : List V} {j : Nat} {v : V} (h : xs[j]? = some v) : atI xs (0 + (j : Int)) = some v := by
  have hl := (List.getElem?_eq_some_iff.mp h).1
  rw [atI_get (by omega) (by omega)]
  simp only [show (0 + (j : Int)).toNat = j by omega]
  rw [← h, List.getElem?_eq_getElem hl]
theorem at_z0 {xs : List V} {j : Nat} {v : V} (h : xs[j]? = some v) : atI xs (j : Int) = some v := by
  have := at_z h
  rw [show (0 : Int) + (j : Int) = (j : Int) by omega] at this
  exact this
theorem ps_len {ps : List (Int × Int)} (hn : ps.Nodup) (h : ∀ p ∈ ps, 0 ≤ p.1 ∧ p.1 < 12 ∧ 0 ≤ p.2 ∧ p.2 < 12) : ps.length ≤ 144 := by
  have h1 := len_nd (m := (List.range 12).flatMap fun i : Nat => (List.range 12).map fun j : Nat => ((i : Int), (j : Int))) hn fun p hp => by
    have := h p hp
    refine List.mem_flatMap.mpr ⟨p.1.toNat, List.mem_range.mpr (by omega), List.mem_map.mpr ⟨p.2.toNat, List.mem_range.mpr (by omega), Prod.ext ?_ ?_⟩⟩
    · show (p.1.toNat : Int) = p.1
      omega
    · show (p.2.toNat : Int) = p.2
      omega
  exact Nat.le_trans h1 (by decide +kernel)
theorem pl_len {pl : List ((Int × Int) × Addr)} (hn : (pl.map (·.1)).Nodup) (h : ∀ p ∈ pl.map (·.1), 0 ≤ p.1 ∧ p.1 < 12 ∧ 0 ≤ p.2 ∧ p.2 < 12) : pl.length ≤ 144 := by
  have h1 := len_nd (m := (List.range 12).flatMap fun i : Nat => (List.range 12).map fun j : Nat => ((i : Int), (j : Int))) hn fun p hp => by
    have := h p hp
    refine List.mem_flatMap.mpr ⟨p.1.toNat, List.mem_range.mpr (by omega), List.mem_map.mpr ⟨p.2.toNat, List.mem_range.mpr (by omega), Prod.ext ?_ ?_⟩⟩
    · show (p.1.toNat : Int) = p.1
      omega
    · show (p.2.toNat : Int) = p.2
      omega
  rw [List.length_map] at h1
  exact Nat.le_trans h1 (by decide +kernel)
/-- all that is told -/
structure Cd (r : Rl) (x : Str) (H : Hp) (e bp l : Addr) (as : List Addr) (pl : List ((Int × Int) × Addr)) : Prop where
  ty : ∀ k a, TTk e pl as k a → TyD H a (tal r x (WA r x x.length 0) k)
  bpH : H bp = some (.dT (pl.map encT))
  pn : (pl.map (·.1)).Nodup
  pk : ∀ p, p ∈ pl.map (·.1) ↔ ∃ q ∈ WA r x x.length 0, p ∈ q
  lH : H l = some (.lst (as.map V.ref))
  al : as.length = x.length
theorem Cd.ext {r : Rl} {x : Str} {H H' : Hp} {e bp l : Addr} {as : List Addr} {pl : List ((Int × Int) × Addr)} (c : Cd r x H e bp l as pl) (k : Ext H H') : Cd r x H' e bp l as pl :=
  ⟨fun y a h => by
    obtain ⟨kv, hk, ht⟩ := c.ty y a h
    exact ⟨kv, k _ _ hk, ht⟩, k _ _ c.bpH, c.pn, c.pk, k _ _ c.lH, c.al⟩
end Pf


namespace Pf
open PySem PySem.Spec PyProof.Rows L2
section
variable {P : Program} {w : World} {K : PySem.W.Frag} {mg : Str → Option Value} {base : Heap}
abbrev s_law_may : Stmt := topS 39
theorem sc_law_may : FnScope ["_law_bylaws", "_law_chars", "_law_i", "_law_j", "_law_texts", "_law_row"] ["_law_bylaws", "_law_chars", "_law_i", "_law_j"] (defScope s_law_may) :=
  ⟨rfl, rfl, rfl, by decide +kernel, rfl, by decide +kernel, by decide +kernel⟩
def spMayW : Sp := fun vs H Q _ => ∃ (v : V) (r : Rl) (x : Str) (i j : Int), vs = [v, .str x, .int i, .int j] ∧ RulesAt H v r ∧ RlOk r ∧ x.length ≤ 1000 ∧ 0 ≤ i ∧ i < x.length ∧ 0 ≤ j ∧ j < x.length ∧ ∀ H', Ext H H' → Q (.bl (mayC r x i j)) H'
theorem ok_mayW {f : Addr} {fd : FuncData} {k : Nat} (F : Fun K "_law_may" "_law_may" s_law_may f fd) : FnOk P w K mg base CX0 (k + 1) f fd ["_law_bylaws", "_law_chars", "_law_i", "_law_j"] spMayW := by
  refine F.ok sc_law_may (fun vs H Q E h => ?_) (fun cdv A outer s H vs Q E hr h => ?_)
  · obtain ⟨v, r, x, i, j, rfl, _⟩ := h
    rfl
  · obtain ⟨v, r, x, i, j, rfl, hR, ok, hx, i0, i1, j0, j1, q⟩ := h
    obtain ⟨a, vp, vl, vs, rfl, hA, ⟨ap, oz, pus, rfl, hp, hoz, hRp⟩, _, _⟩ := id hR
    refine ⟨_, (pss_cons (ps_setLc (i := 4) (own := [("_law_row", 5)]) (g := gName 5) (by rfl) sc_law_may.nd rfl rfl (sw_true rfl rfl rfl (by decide +kernel)) (pi_tup (pe_ix (ixT K) (pv 0) pe_int (fun _ _ => rfl))) (blkOk_by (own := [("_law_row", 5)]) (N := ["_law_bylaws", "_law_chars", "_law_i", "_law_j", "_law_texts", "_law_row"]) (sc := defScope s_law_may) (by decide +kernel)) (fun _ _ _ _ _ => (pg_name (i := 5) sc_law_may.nd rfl (.inl rfl))) (fun _ _ _ _ _ => pts_nil) (fun _ _ _ _ _ => (pe_ix (ixT K) (pv 5) pe_int (fun _ _ => rfl))))
      (pss_one (ps_ret (pe_and (pe_cmpR op_gt (pe_op op_sub (pv 3) (pv 2)) (pe_ix (ixT K) (pv 0) pe_int (fun _ _ => rfl)) (nomark _)) (pe_one (pe_cmpR (inSeq K) (pe_op op_add_str (pe_ix ix_str (pv 1) (pv 2) (fun _ _ => rfl)) (pe_ix ix_str (pv 1) (pv 3) (fun _ _ => rfl))) (pv 4) (by rfl))))))), ?_⟩
    have hpl := paired_len hRp
    have hpr := ok.prs
    refine ⟨_, rfl, a, _, 1, _, rfl, rfl, SqT.of hA, rfl, ap, rfl, ⟨_, SqT.fz hp⟩, fun D hD => lc_tup (K := K) (xs := pus) (fun c H2 => H2 D = some (.lst (((r.prs.take c).map (·.1)).map V.str)) ∧ Ext H H2)
      ⟨upd_same, Ext.new hD⟩ (fun c H2 _ ⟨_, k⟩ => SqT.fz (k _ _ hp)) (fun c u H2 hc hv => ?_) (fun H2 hv => ?_)⟩
    · obtain ⟨hL, k2⟩ := hv
      obtain ⟨y, hy, a1, rfl, ha1⟩ := paired_get hRp hc
      refine ⟨rfl, _, rfl, a1, _, 0, _, rfl, rfl, SqT.of (k2 _ _ ha1), rfl, _, hL, szLt ?_, ?_, k2.put hD⟩
      · rw [List.length_map, List.length_map, List.length_take]
        omega
      · rw [upd_same, List.take_add_one, hy, List.map_append, List.map_append]
        rfl
    obtain ⟨hL, k2⟩ := hv
    rw [List.take_of_length_le (by omega)] at hL
    have h := q H2 k2
    unfold mayC at h
    have e2 : inV (.str (sgn x i ++ sgn x j)) ((r.prs.map (·.1)).map V.str) = decide (tx2 x (i, j) ∈ r.prs.map (·.1)) := inV_keys
    refine ⟨_, rfl, _, rfl, _, _, rfl, rfl, _, rfl, a, _, 2, _, rfl, rfl, SqT.of (k2 _ _ hA), rfl, _, _, rfl, rfl, _, rfl, ite2 (fun e => ?_) (fun e => ?_)⟩
    · have e : decide (r.span < j - i) = true := e
      rw [e, Bool.true_and, ← e2] at h
      refine ⟨_, rfl, _, rfl, x, i, _, rfl, rfl, szL (by omega), sgn_at i0 i1, _, rfl, _, rfl, x, j, _, rfl, rfl, szL (by omega), sgn_at j0 j1, _, _, rfl, rfl, szL (show 1 + 1 ≤ 1000000 by decide), ?_⟩
      refine ⟨_, rfl, D, _, rfl, .inl (SqL.of hL), rfl, ?_, h⟩
      rw [List.all_map]
      exact List.all_eq_true.mpr fun z _ => rfl
    · have e : decide (r.span < j - i) = false := Bool.eq_false_iff.mpr e
      rw [e, Bool.false_and] at h
      exact h
abbrev CMayW (P : Program) (w : World) (K : PySem.W.Frag) (mg : Str → Option Value) (base : Heap) : Prop := Ca P w K mg base 1 "_law_may" ["_law_bylaws", "_law_chars", "_law_i", "_law_j"] spMayW
abbrev s_law_all : Stmt := topS 40
theorem sc_law_all : FnScope ["_law_bylaws", "_law_chars", "_law_first", "_law_end", "_law_found", "_law_k", "_law_later", "_law_one", "_law_two"] ["_law_bylaws", "_law_chars", "_law_first", "_law_end"] (defScope s_law_all) :=
  ⟨rfl, rfl, rfl, by decide +kernel, rfl, by decide +kernel, by decide +kernel⟩
def spAll (d : Nat) : Sp := fun vs H Q _ => ∃ (v : V) (r : Rl) (x : Str) (a b : Int), vs = [v, .str x, .int a, .int b] ∧ RulesAt H v r ∧ RlOk r ∧ x.length ≤ 12 ∧ 0 ≤ a ∧ a ≤ b ∧ b ≤ x.length ∧ (b - a).toNat < d ∧
  ∀ (l : Addr) (us : List V) (H' : Hp), H l = none → H' l = some (.lst us) → Paired (FoAt H') us (WA r x (b - a).toNat a) → Ext H H' → Q (.ref l) H'
theorem ok_all {f : Addr} {fd : FuncData} (F : Fun K "_law_all" "_law_all" s_law_all f fd) (bF : Binds K fd ["_law_bylaws", "_law_chars", "_law_first", "_law_end"] []) (gF : mg "_law_all" = some (.ref f)) (c_law_may : CMayW P w K mg base) (mrange : mg "range" = none) :
    ∀ d : Nat, FnOk P w K mg base CX0 (2 + d) f fd ["_law_bylaws", "_law_chars", "_law_first", "_law_end"] (spAll d)
  | 0 => ⟨fun vs H Q E h => by
      obtain ⟨v, r, x, a, b, rfl, _⟩ := h
      rfl, fun A outer s H args us vs Q E _ _ _ _ h => by
      obtain ⟨v, r, x, a, b, _, _, _, _, _, _, _, h2, _⟩ := h
      omega⟩
  | d + 1 => by
    have c_law_all : Ca P w K mg base (2 + d) "_law_all" ["_law_bylaws", "_law_chars", "_law_first", "_law_end"] (spAll d) := ⟨f, fd, ok_all F bF gF c_law_may mrange d, gF, F.kp, bF⟩
    refine F.ok (k := 2 + d) sc_law_all (fun vs H Q E h => ?_) (fun cdv A outer s H vs Q E hr h => ?_)
    · obtain ⟨v, r, x, a, b, rfl, _⟩ := h
      rfl
    · obtain ⟨v, r, x, a, b, rfl, hR, ok, hx, a0, ab, bx, hd, q⟩ := h
      refine ⟨_, (pss_cons (ps_if (pt_cmpR op_lt (pe_op op_sub (pv 3) (pv 2)) pe_int (nomark _)) (pss_one (ps_ret (pe_lst (pa_cons (pe_tup pa_nil) pa_nil)))) pss_nil)
      (pss_cons (ps_set (i := 4) sc_law_all.nd rfl (.inl rfl) (pe_ca c_law_all (hr.mono (by omega)) (by rfl) (pa_cons (pv 0) (pa_cons (pv 1) (pa_cons (pe_op op_add (pv 2) pe_int) (pa_cons (pv 3) pa_nil))))))
      (pss_cons (ps_for PassesOwn.never rfl (pi_range2 (by rfl) mrange (pa_cons (pe_op op_add (pv 2) pe_int) (pa_cons (pv 3) pa_nil))) (pg_name (i := 5) sc_law_all.nd rfl (.inr rfl)) (pss_one (ps_if (pt_val (pe_ca c_law_may (hr.mono (by omega)) (by rfl) (pa_cons (pv 0) (pa_cons (pv 1) (pa_cons (pv 2) (pa_cons (pv 5) pa_nil)))))) (pss_cons (ps_set (i := 6) sc_law_all.nd rfl (.inl rfl) (pe_ca c_law_all (hr.mono (by omega)) (by rfl) (pa_cons (pv 0) (pa_cons (pv 1) (pa_cons (pe_op op_add (pv 5) pe_int) (pa_cons (pv 3) pa_nil))))))
      (pss_one (ps_for PassesOwn.never rfl (pi_list (pe_ca c_law_all (hr.mono (by omega)) (by rfl) (pa_cons (pv 0) (pa_cons (pv 1) (pa_cons (pe_op op_add (pv 2) pe_int) (pa_cons (pv 5) pa_nil)))))) (pg_name (i := 7) sc_law_all.nd rfl (.inr rfl)) (pss_one (ps_set (i := 4) sc_law_all.nd rfl (.inl rfl) (pe_op op_cat (pv 4) (pe_lc (own := [("_law_two", 8)]) (g := gName 8) (by rfl) sc_law_all.nd (pi_list (pv 6)) (blkOk_by (own := [("_law_two", 8)]) (N := ["_law_bylaws", "_law_chars", "_law_first", "_law_end", "_law_found", "_law_k", "_law_later", "_law_one", "_law_two"]) (sc := defScope s_law_all) (by decide +kernel)) (fun _ _ _ _ _ => (pg_name (i := 8) sc_law_all.nd rfl (.inl rfl))) (fun _ _ _ _ _ => pts_nil) (fun _ _ _ _ _ => (pe_op (catE K) (pe_op (catE K) (pe_tup (pa_cons (pe_tup (pa_cons (pv 2) (pa_cons (pv 5) pa_nil))) pa_nil)) (pv 7)) (pv 8)))))))))) pss_nil)))
      (pss_one (ps_ret (pv 4)))))), ?_⟩
      refine ⟨_, rfl, _, rfl, _, _, rfl, rfl, _, _, rfl, rfl, _, rfl, ite2 (fun e => ?_) (fun e => ?_)⟩
      · have e : b ≤ a + 1 := by
          have : b - a < 2 := of_decide_eq_true e
          omega
        refine ⟨Nat.zero_le _, fun t ht => ⟨szL (show 1 ≤ 1000000 by decide), fun l hl => ?_⟩⟩
        have x1 := Ext.new (o := .tup []) ht
        have x2 := Ext.new (o := .lst [.ref t]) hl
        refine q l [.ref t] _ (x1.none hl) upd_same ?_ (x1.trans x2)
        have ew : WA r x (b - a).toNat a = [[]] := by
          by_cases c : b = a
          · rw [show (b - a).toNat = 0 by omega]
            rfl
          · rw [show (b - a).toNat = 1 by omega]
            exact WA_one r x a
        rw [ew]
        exact .cons ⟨t, [], rfl, x2 _ _ upd_same, .nil⟩ .nil
      · have e : ¬ b ≤ a + 1 := fun z => e (decide_eq_true (show b - a < 2 by omega))
        have hab : (b - (a + 1)).toNat + 1 = (b - a).toNat := by omega
        rw [← hab, WA_succ] at q
        obtain ⟨n, hn⟩ : ∃ n, n = (b - (a + 1)).toNat := ⟨_, rfl⟩
        have hn12 : n + 1 ≤ 12 := by omega
        have wl := WA_len r x (n := n + 1) (by omega) a
        rw [WA_succ, List.length_append] at wl
        refine ⟨_, rfl, _, rfl, _, rfl, a, 1, rfl, rfl, _, rfl, v, r, x, a + 1, b, rfl, hR, ok, hx, by omega, by omega, bx, by omega, fun l1 us1 H1 hl1 hL1 hP1 k1 => ?_⟩
        rw [← hn] at hP1 q
        have rulE : ∀ {H' : Hp}, Ext H H' → RulesAt H' v r := fun k => RulesAt.mono _ _ _ _ (TupK.ext k) hR
        refine ⟨_, rfl, a, 1, rfl, rfl, _, rfl, a + 1, b, rfl, ⟨by omega, by omega, by omega, by omega⟩, for_range (lo := a + 1) (n := (b - (a + 1)).toNat) (fun t σ H2 => ∃ (y5 y6 y7 : Option V) (l : Addr) (us : List V), σ = [some v, some (.str x), some (.int a), some (.int b), some (.ref l), y5, y6, y7, none] ∧ H l = none ∧ H2 l = some (.lst us) ∧ Paired (FoAt H2) us (WA r x n (a + 1) ++ (List.range t).flatMap fun t => seg r x (WA r x) n a t) ∧ Ext H H2)
          ⟨none, none, none, l1, us1, rfl, hl1, hL1, by rw [List.range_zero, List.flatMap_nil, List.append_nil]; exact hP1, k1⟩ (fun t σ H2 ht hv => ?_) (fun σ H2 hv => ?_)⟩
        · obtain ⟨y5, y6, y7, l, us, rfl, hl, hL2, hP2, k2⟩ := hv
          have ht' : t < n := by omega
          have eflat : (List.range (t + 1)).flatMap (fun t => seg r x (WA r x) n a t) = (List.range t).flatMap (fun t => seg r x (WA r x) n a t) ++ seg r x (WA r x) n a t := by
            rw [List.range_succ, List.flatMap_append]
            simp
          have esub : ((List.range (t + 1)).flatMap fun t => seg r x (WA r x) n a t).length ≤ ((List.range n).flatMap fun t => seg r x (WA r x) n a t).length := by
            rw [flat_len, flat_len]
            have : (List.range n) = List.range (t + 1) ++ (List.range (n - (t + 1))).map (fun y => (t + 1) + y) := by
              rw [← List.range_add]
              congr 1
              omega
            rw [this, List.map_append, List.sum_append]
            omega
          refine ⟨_, rfl, _, rfl, _, rfl, _, rfl, v, r, x, a, a + 1 + t, rfl, rulE k2, ok, by omega, a0, by omega, by omega, by omega, fun H3 k3 => ⟨_, rfl, ite2 (fun em => ?_) (fun em => ?_)⟩⟩
          · have k03 := k2.trans k3
            have es : seg r x (WA r x) n a t = (WA r x t (a + 1)).flatMap fun one => (WA r x (n - 1 - t) (a + 2 + t)).map fun other => (a, a + 1 + t) :: (one ++ other) := by
              unfold seg
              rw [if_pos em]
            rw [eflat, es, List.length_append] at esub
            -- behind, inner
            refine ⟨_, rfl, _, rfl, _, rfl, a + 1 + t, 1, rfl, rfl, _, rfl, v, r, x, a + 1 + t + 1, b, rfl, rulE k03, ok, hx, by omega, by omega, by omega, by omega, fun l5 us5 H4 hl5 hL5 hP5 k4 => ?_⟩
            rw [show (b - (a + 1 + (t : Int) + 1)).toNat = n - 1 - t by omega, show a + 1 + (t : Int) + 1 = a + 2 + t by omega] at hP5
            refine ⟨_, rfl, _, rfl, _, rfl, a, 1, rfl, rfl, _, rfl, v, r, x, a + 1, a + 1 + t, rfl, rulE (k03.trans k4), ok, hx, by omega, by omega, by omega, by omega, fun l4 us4 H5 hl4 hL4 hP4 k5 => ?_⟩
            rw [show (a + 1 + (t : Int) - (a + 1)).toNat = t by omega] at hP4
            have k05 := (k03.trans k4).trans k5
            have k35 := k4.trans k5
            have hL5' := k5 _ _ hL5
            have hP5' := paired_imp (fun _ _ => FoAt.mono _ _ _ _ (TupK.ext k5)) hP5
            have h4l := paired_len hP4
            have h5l := paired_len hP5
            refine ⟨l4, rfl, ⟨_, SqL.of hL4⟩, for_list (K := K) (xs := us4) (fun j σ H6 => ∃ (y7 : Option V) (l : Addr) (us : List V), σ = [some v, some (.str x), some (.int a), some (.int b), some (.ref l), some (.int (a + 1 + (t : Int))), some (.ref l5), y7, none] ∧ H l = none ∧ H6 l = some (.lst us) ∧ Paired (FoAt H6) us ((WA r x n (a + 1) ++ (List.range t).flatMap fun t => seg r x (WA r x) n a t) ++ ((WA r x t (a + 1)).take j).flatMap fun one => (WA r x (n - 1 - t) (a + 2 + t)).map fun other => (a, a + 1 + t) :: (one ++ other)) ∧ Ext H5 H6)
              ⟨y7, l, us, rfl, hl, k35 _ _ (k3 _ _ hL2), by rw [List.take_zero, List.flatMap_nil, List.append_nil]; exact paired_imp (fun _ _ => FoAt.mono _ _ _ _ (TupK.ext (k3.trans k35))) hP2, Ext.refl⟩ (fun j σ H6 _ ⟨_, _, _, _, _, _, _, k⟩ => SqL.of (k _ _ hL4)) (fun j u σ H6 hj hv => ?_) (fun σ H6 hv => ?_)⟩
            · obtain ⟨y7, l, us, rfl, hl, hL6, hP6, k6⟩ := hv
              obtain ⟨one, hone, t1, fs1, rfl, hT1, hF1⟩ := paired_get hP4 hj
              have k46 := k6
              have hjl : j < (WA r x t (a + 1)).length := (List.getElem?_eq_some_iff.mp hone).1
              -- the comprehension
              refine ⟨_, rfl, _, rfl, l5, rfl, ⟨_, SqL.of (k6 _ _ hL5')⟩, fun D hD => lc_list (K := K) (xs := us5) (GenP FoAt D H6 ((WA r x (n - 1 - t) (a + 2 + t)).map fun other => (a, a + 1 + (t : Int)) :: (one ++ other))) (gen_new hD) (fun i H7 _ h => SqL.of (h.ext _ _ (k6 _ _ hL5'))) (fun i u H7 hi hv => ?_) (fun H7 hv => ?_)⟩
              · obtain ⟨other, hother, t2, fs2, rfl, hT2, hF2⟩ := paired_get hP5' hi
                have k7 := hv.ext
                have k67 := k6.trans k7
                have hone1 := (WA_in r x t (a + 1) one (List.mem_of_getElem? hone)).2
                have hoth1 := (WA_in r x (n - 1 - t) (a + 2 + t) other (List.mem_of_getElem? hother)).2
                have f1l := paired_len hF1
                have f2l := paired_len hF2
                refine ⟨rfl, _, rfl, _, rfl, szL (show 2 ≤ 1000000 by decide), fun tp htp => ⟨szL (show 1 ≤ 1000000 by decide), fun tq htq => ?_⟩⟩
                have x8 := Ext.new (o := .tup [.int a, .int (a + 1 + (t : Int))]) htp
                have x9 := Ext.new (o := .tup [.ref tp]) htq
                have x89 := x8.trans x9
                refine ⟨_, rfl, tq, t1, _, fs1, rfl, rfl, upd_same, (k46.trans (k7.trans x89)) _ _ hT1, szL (by rw [List.length_singleton]; omega), fun p10 H10 k10 hp10 => ?_⟩
                refine ⟨_, rfl, p10, t2, _, fs2, rfl, rfl, hp10, (k67.trans (x89.trans k10)) _ _ hT2, szL (by rw [List.length_append, List.length_singleton]; omega), fun p11 H11 k11 hp11 => ?_⟩
                have kk := x89.trans (k10.trans k11)
                refine gen_step FoAt.mono hD hv kk (b := (a, a + 1 + (t : Int)) :: (one ++ other)) ⟨p11, _, rfl, hp11, ?_⟩ ?_ ?_
                · have eap : [V.ref tp] ++ fs1 ++ fs2 = V.ref tp :: (fs1 ++ fs2) := rfl
                  rw [eap]
                  refine .cons ⟨tp, rfl, (x9.trans (k10.trans k11)) _ _ upd_same⟩ (paired_app (paired_imp (fun _ _ => TwoAt.mono _ _ _ _ (TupK.ext (k46.trans (k7.trans kk)))) hF1) (paired_imp (fun _ _ => TwoAt.mono _ _ _ _ (TupK.ext (k67.trans kk))) hF2))
                · rw [List.getElem?_map, hother]
                  rfl
                · rw [List.length_map]
                  have := WA_len r x (n := n - 1 - t) (by omega) (a + 2 + t)
                  omega
              obtain ⟨vs7, hL7, hP7, k7⟩ := gen_end hv (by rw [List.length_map]; omega)
              clear hv
              have h6l := paired_len hP6
              have h7l := paired_len hP7
              rw [List.length_map] at h7l
              have etake : ((WA r x t (a + 1)).take (j + 1)).flatMap (fun one => (WA r x (n - 1 - t) (a + 2 + t)).map fun other => (a, a + 1 + (t : Int)) :: (one ++ other)) = ((WA r x t (a + 1)).take j).flatMap (fun one => (WA r x (n - 1 - t) (a + 2 + t)).map fun other => (a, a + 1 + (t : Int)) :: (one ++ other)) ++ (WA r x (n - 1 - t) (a + 2 + t)).map fun other => (a, a + 1 + (t : Int)) :: (one ++ other) := by
                rw [List.take_add_one, hone, List.flatMap_append]
                simp
              have esz : us.length + vs7.length ≤ 15511 := by
                have e1 : (((WA r x t (a + 1)).take (j + 1)).flatMap (fun one => (WA r x (n - 1 - t) (a + 2 + t)).map fun other => (a, a + 1 + (t : Int)) :: (one ++ other))).length ≤ ((WA r x t (a + 1)).flatMap (fun one => (WA r x (n - 1 - t) (a + 2 + t)).map fun other => (a, a + 1 + (t : Int)) :: (one ++ other))).length := by
                  rw [flat_const (c := (WA r x (n - 1 - t) (a + 2 + t)).length) (fun y _ => List.length_map ..), flat_const (c := (WA r x (n - 1 - t) (a + 2 + t)).length) (fun y _ => List.length_map ..)]
                  exact Nat.mul_le_mul_right _ (by rw [List.length_take]; omega)
                rw [etake, List.length_append, List.length_map] at e1
                rw [List.length_append, List.length_append] at h6l
                omega
              refine ⟨l, D, us, vs7, rfl, rfl, k7 _ _ hL6, hL7, szL (by omega), fun l8 hl8 => ?_⟩
              have x8 := Ext.new (o := .lst (us ++ vs7)) hl8
              refine ⟨_, l8, us ++ vs7, rfl, (k05.trans (k6.trans k7)).none hl8, upd_same, ?_, (k6.trans k7).trans x8⟩
              rw [etake, ← List.append_assoc]
              exact paired_app (paired_imp (fun _ _ => FoAt.mono _ _ _ _ (TupK.ext (k7.trans x8))) hP6) (paired_imp (fun _ _ => FoAt.mono _ _ _ _ (TupK.ext x8)) hP7)
            · obtain ⟨y7, l, us, rfl, hl, hL6, hP6, k6⟩ := hv
              rw [List.take_of_length_le (by omega)] at hP6
              refine ⟨_, _, _, l, us, rfl, hl, hL6, ?_, k05.trans k6⟩
              rw [eflat, es, ← List.append_assoc]
              exact hP6
          · have es : seg r x (WA r x) n a t = [] := by
              unfold seg
              rw [if_neg em]
            refine ⟨_, _, _, l, us, rfl, hl, k3 _ _ hL2, ?_, k2.trans k3⟩
            rw [eflat, es, List.append_nil]
            exact paired_imp (fun _ _ => FoAt.mono _ _ _ _ (TupK.ext k3)) hP2
        · obtain ⟨y5, y6, y7, l, us, rfl, hl, hL2, hP2, k2⟩ := hv
          rw [← hn] at hP2
          exact ⟨_, rfl, q l us H2 hl hL2 hP2 k2⟩
abbrev CAllW (P : Program) (w : World) (K : PySem.W.Frag) (mg : Str → Option Value) (base : Heap) : Prop := Ca P w K mg base 15 "_law_all" ["_law_bylaws", "_law_chars", "_law_first", "_law_end"] (spAll 13)
end
end Pf


namespace Pf
open PySem PySem.Spec PyProof.Rows L2
/-! ### sorted(d.items()): a dict by texts, of numbers -/
def d2S (y : Addr × Str × Int) : PyData := .tuple [.str y.2.1, .int y.2.2]
def tSortItemsS (te : TE) : TE := fun σ H Q => te σ H fun x H1 => ∃ (d : Addr) (t : List (Str × Int)), x = .ref d ∧ H1 d = some (.dK (t.map fun y => (.inr y.1, .int y.2))) ∧
  ∀ (p : Addr) (ys : List (Addr × Str × Int)) (H' : Hp), H1 p = none → Ext H1 H' → H' p = some (.lst (ys.map fun y => .ref y.1)) → (∀ y ∈ ys, H' y.1 = some (.tup [.str y.2.1, .int y.2.2])) → ys.map (·.2) = t.mergeSort (PySem.W.dataLe false fun z : Str × Int => PyData.tuple [.str z.1, .int z.2]) → Q (.ref p) H'
theorem pe_sortItemsS {X : Cx} {o : Expr} {p pos apos mpos : Pos} {td : TE} (calm : X.calm = true) (hu : X.A.units + 64 < cLine) (gl : Gl X "sorted") (free : X.mg "sorted" = none) (ho : PE X o td) (b0 : attributeBase o "items" X.env (eval o X.env) = eval o X.env := by rfl) (l0 : (apos.endLine == mpos.line) = true := by rfl)
    (st : starEach [Expr.Call (.Attribute o "items" apos) [] [] mpos] X.env = [(false, eval (Expr.Call (.Attribute o "items" apos) [] [] mpos) X.env)] := by rfl) : PE X (.Call (.Name "sorted" p) [.Call (.Attribute o "items" apos) [] [] mpos] [] pos) (tSortItemsS td) := by
  refine ⟨fun pins s σ H Q I h => wpAny_Call_Name_kw (ld_blt I gl free (u := .builtin "sorted") (by decide +kernel) ?_ (by decide) (by decide))⟩
  rw [st]
  refine PySem.callWith_builtin1 (wpAny_Call_method0_late b0 l0 (thn (ho.run pins s σ H _ I h) fun v s1 ⟨x, H1, I1, r1, a, t, ex, ha, q⟩ => ?_))
  subst ex
  obtain rfl : v = Value.ref a := r1
  obtain ⟨hz, nsys, vs, rel, dof⟩ := dk_of I1.hok ha
  obtain ⟨ep, dat⟩ := dof.dictAt
  obtain ⟨ob, es, hob, ex, _⟩ := id dat
  have low : a < s1.heap.objs.size := Heap.lt_size hob
  refine ⟨"dict", "dict.items", F.plainAttrs_dict, F.slot_dict_items, F.type_dict_items, ⟨ob, hob, ex.1⟩, fun b e => by cases e; exact ⟨ob, hob, ex.2.1⟩, Calls.callWith_builtin rfl (PySem.evalArgs_none ?_)⟩
  refine call_meetsIn F.slot_dict_items ⟨ob, hob, ex.1⟩ F.entry_dict_items (F.args_dict_items_1 _) (meets_dict_items (mixKind X.prog X.w) a nsys) ⟨⟨vs, dof⟩, ?_⟩
  have len : vs.length = t.length := by
    have e1 := KV.length rel
    rw [List.length_map] at e1
    exact e1.symm
  have hz' : t.length ≤ sizeLine := by
    rw [List.length_map] at hz
    exact hz
  have I2 : Inv X pins σ H1 { s1 with heap := s1.heap.push { cls := .type "dict_items", data := .fields #[.ref a] } } := I1.kept (t' := s1.toks) fun b ob q => Heap.get?_push_of_some _ q
  refine Calls.call_function_entry PyProof.Rows.kind_sorted PyProof.Rows.plain_sorted PyProof.Rows.entry_sorted (PyProof.Rows.args_sorted1 _) ?_
  unfold Builtin.«sorted»
  refine wpAny_bind (m := checkCount "sorted" 1 1 _) (wpAny_pure ?_)
  refine wpAny_bind (PySem.W.kdx_collect (A := X.A.in1) (knd := mixKind X.prog X.w) (kvs := vs) (ep := ep) (I.ok.hd calm) ⟨_, Heap.get?_push_size _ rfl, rfl, rfl⟩ (dat.push _) (by omega) fun h' tk as hk hl hG => ?_)
  obtain ⟨H', k1, k6, J⟩ := laid_tuples (tk := tk) I2 rel hk hl hG
  have hal : as.length = t.length := by omega
  have e1 : (as.zip t).map (·.1) = as := List.map_fst_zip (by omega)
  have e2 : (as.zip t).map (·.2) = t := List.map_snd_zip (by omega)
  have hat : ∀ y ∈ as.zip t, H' y.1 = some (.tup [.str y.2.1, .int y.2.2]) := by
    have : ∀ {as : List Addr} {t : List (Str × Int)}, Paired (fun (b : Addr) (q : Key × V) => H' b = some (.tup [kV q.1, q.2])) as (t.map fun y => ((.inr y.1 : Key), V.int y.2)) → ∀ y ∈ as.zip t, H' y.1 = some (.tup [.str y.2.1, .int y.2.2]) := by
      intro as
      induction as with
      | nil => intro t _ y hy; cases hy
      | cons b as ih =>
        intro t hp y hy
        cases t with
        | nil => cases hy
        | cons z t =>
          rw [List.map_cons] at hp
          cases hp with
          | cons r tl =>
            rcases List.mem_cons.mp hy with rfl | hy
            · exact r
            · exact ih tl y hy
    exact this k6
  have rv : Vals ((as.zip t).map fun y => V.ref y.1) (as.map Value.ref) := by
    have e3 : ((as.zip t).map fun y => V.ref y.1) = as.map V.ref := by
      have := congrArg (List.map V.ref) e1
      rw [List.map_map] at this
      exact this
    rw [e3]
    exact LiI.vals_refs as
  refine sort_tail J hu (v := fun y : Addr × Str × Int => V.ref y.1) (dd := d2S) (ys := as.zip t) rv (fun y hy => ⟨.tup (SqT.of (hat y hy)) (.cons (.str _) (.cons (.int _) .nil)), by simp [d2S, PyData.depth, PyData.depthAll]⟩) (PySem.W.AllAlike.of fun b b' => by simp [d2S, PySem.W.alike, PySem.W.alikeAll]) (PySem.W.Sortable.tuples fun b => ⟨_, _, rfl⟩) (by rw [List.length_zip]; omega) (fun p hp => ?_) fun l s' h => ⟨_, rfl, h⟩
  have xp := Ext.new (o := .lst (((as.zip t).mergeSort (PySem.W.dataLe false d2S)).map fun y => V.ref y.1)) hp
  refine q p _ _ (k1.none hp) (k1.trans xp) upd_same (fun y hy => xp _ _ (hat y ((List.mergeSort_perm _ _).mem_iff.mp hy))) ?_
  have hm := List.map_mergeSort (r := PySem.W.dataLe false d2S) (s := PySem.W.dataLe false fun z : Str × Int => PyData.tuple [.str z.1, .int z.2]) (f := fun b : Addr × Str × Int => b.2) (l := as.zip t) (fun a _ b _ => rfl)
  rw [e2] at hm
  exact hm
/-! ### the least of three -/
def rMin3 : List V → Hp → VK → Prop := fun xs H Q => ∃ i j k : Int, xs = [.int i, .int j, .int k] ∧ ∀ m : Int, m ≤ i → m ≤ j → m ≤ k → (m = i ∨ m = j ∨ m = k) → Q (.int m) H
theorem call_min3 {X : Cx} (hc : X.calm = true) : CallR X (.builtin "min") rMin3 := fun pins s σ H xs us Q I r h => by
  obtain ⟨i, j, k, ex, q⟩ := h
  refine call_min3Nu hc pins s σ H xs us Q I r ⟨.int i, .int j, .int k, .int (if k < (if j < i then j else i) then k else (if j < i then j else i)), ex, ?_, q _ ?_ ?_ ?_ ?_⟩
  · have e1 : nuMin2 (.int i) (.int j) = some (.int (if j < i then j else i)) := by
      show some (if decide (j < i) = true then V.int j else V.int i) = _
      by_cases h : j < i
      · rw [if_pos (decide_eq_true h), if_pos h]
      · rw [if_neg (fun z => h (of_decide_eq_true z)), if_neg h]
    show (nuMin2 (.int i) (.int j)).bind _ = _
    rw [e1]
    generalize (if j < i then j else i) = m
    show some (if decide (k < m) = true then V.int k else V.int m) = _
    by_cases h : k < m
    · rw [if_pos (decide_eq_true h), if_pos h]
    · rw [if_neg (fun z => h (of_decide_eq_true z)), if_neg h]
  all_goals (split <;> split <;> omega)
end Pf


namespace Pf
open PySem PySem.Spec PyProof.Rows L2
theorem wpN_get (σ : L2.St) : ∀ (vs : List Nat) (k : Nat), (wipe σ vs)[k]? = if k ∈ vs then σ[k]?.map (fun _ => none) else σ[k]?
  | [], k => by simp [wipe]
  | v :: vs, k => by
    show ((wipe σ vs).set v none)[k]? = _
    rw [List.getElem?_set, wipe_length, wpN_get σ vs k]
    by_cases hk : v = k
    · subst hk
      rw [if_pos rfl, if_pos (List.mem_cons_self)]
      by_cases hl : v < σ.length
      · rw [if_pos hl, List.getElem?_eq_getElem hl]
        rfl
      · rw [if_neg hl, List.getElem?_eq_none (by omega)]
        rfl
    · rw [if_neg hk]
      by_cases hm : k ∈ vs
      · rw [if_pos hm, if_pos (List.mem_cons_of_mem _ hm)]
      · rw [if_neg hm, if_neg]
        intro h
        rcases List.mem_cons.1 h with h | h
        · exact hk h.symm
        · exact hm h
theorem wp_set (σ : L2.St) (a : Option V) {i : Nat} {vs : List Nat} (hi : i ∈ vs) : wipe (σ.set i a) vs = wipe σ vs := by
  apply List.ext_getElem?
  intro k
  rw [wpN_get, wpN_get]
  by_cases hk : k ∈ vs
  · rw [if_pos hk, if_pos hk]
    by_cases hl : k < σ.length
    · rw [List.getElem?_eq_getElem hl, List.getElem?_eq_getElem (by simpa using hl)]
      rfl
    · rw [List.getElem?_eq_none (by simpa using hl), List.getElem?_eq_none (by simpa using hl)]
  · rw [if_neg hk, if_neg hk, List.getElem?_set_ne (fun e : i = k => hk (e ▸ hi))]
theorem wp_wp (σ : L2.St) (vs : List Nat) : wipe (wipe σ vs) vs = wipe σ vs := by
  apply List.ext_getElem?
  intro k
  rw [wpN_get, wpN_get]
  by_cases hk : k ∈ vs
  · rw [if_pos hk, if_pos hk]
    cases σ[k]? <;> rfl
  · rw [if_neg hk, if_neg hk]
theorem wp3 (σ : L2.St) (a b c : Option V) {i j k : Nat} {vs : List Nat} (hi : i ∈ vs) (hj : j ∈ vs) (hk : k ∈ vs) : wipe ((((wipe σ vs).set i a).set j b).set k c) vs = wipe σ vs := by
  rw [wp_set _ _ hk, wp_set _ _ hj, wp_set _ _ hi, wp_wp]
theorem wp2 (σ : L2.St) (a b : Option V) {i j : Nat} {vs : List Nat} (hi : i ∈ vs) (hj : j ∈ vs) : wipe (((wipe σ vs).set i a).set j b) vs = wipe σ vs := by
  rw [wp_set _ _ hj, wp_set _ _ hi, wp_wp]
theorem wp1 (σ : L2.St) (a : Option V) {i : Nat} {vs : List Nat} (hi : i ∈ vs) : wipe ((wipe σ vs).set i a) vs = wipe σ vs := by
  rw [wp_set _ _ hi, wp_wp]
end Pf


namespace Pf
open PySem PySem.Spec PyProof.Rows L2
theorem lo9_list {r : Rl} (ok : RlOk r) : r.loops.map V.int = [.int (lo r 0), .int (lo r 1), .int (lo r 2), .int (lo r 3), .int (lo r 4), .int (lo r 5), .int (lo r 6), .int (lo r 7), .int (lo r 8)] := by
  have h9 := ok.lo9
  unfold lo
  match r.loops, h9 with
  | [_, _, _, _, _, _, _, _, _], _ => rfl
theorem ns_eq {D : Ends} {σ σ' : L2.St} {H : Hp} (e : σ = σ') (h : D.nx σ' H) : D.nx σ H := by
  rw [e]
  exact h
theorem gow_eq {i : Nat} {v : V} {σ σ' : L2.St} {H : Hp} {Q : L2.St → Hp → Prop} (e : σ.set i (some v) = σ') (h : Q σ' H) : gName i v σ H Q := by
  rw [← e] at h
  exact h
section
variable {P : Program} {w : World} {K : PySem.W.Frag} {mg : Str → Option Value} {base : Heap}
abbrev s_law_loop : Stmt := topS 41
theorem sc_law_loop : FnScope ["_law_bylaws", "_law_chars", "_law_pair", "_law_inner", "_law_costs", "_law_i", "_law_j", "_law_free", "_law_both", "_law_p", "_law_q", "_law_row"] ["_law_bylaws", "_law_chars", "_law_pair", "_law_inner"] (defScope s_law_loop) :=
  ⟨rfl, rfl, rfl, by decide +kernel, rfl, by decide +kernel, by decide +kernel⟩
def spLpS : Sp := fun vs H Q _ => ∃ (v vo : V) (r : Rl) (x : Str) (one : Int × Int) (l : Addr) (us : List V) (ks : Fo), vs = [v, .str x, vo, .ref l] ∧ RulesAt H v r ∧ RlOk r ∧ x.length ≤ 12 ∧ Small x ∧ TwoAt H vo one ∧ H l = some (.lst us) ∧ Paired (TwoAt H) us ks ∧ ks.length ≤ 12 ∧ (∀ y ∈ ks, 0 ≤ y.1 ∧ y.1 < x.length ∧ 0 ≤ y.2 ∧ y.2 < x.length) ∧ 0 ≤ one.1 ∧ one.1 < x.length ∧ 0 ≤ one.2 ∧ one.2 < x.length ∧
  ∀ H', Ext H H' → Q (.int (lpW r x one ks)) H'
theorem ok_lpS {f : Addr} {fd : FuncData} {k : Nat} (F : Fun K "_law_loop" "_law_loop" s_law_loop f fd) (mlen : mg "len" = none) (msum : mg "sum" = none) : FnOk P w K mg base CX0 (k + 1) f fd ["_law_bylaws", "_law_chars", "_law_pair", "_law_inner"] spLpS := by
  refine F.ok sc_law_loop (fun vs H Q E h => ?_) (fun cdv A outer s H vs Q E hr h => ?_)
  · obtain ⟨v, vo, r, x, one, l, us, ks, rfl, _⟩ := h
    rfl
  · obtain ⟨v, vo, r, x, one, l, us, ks, rfl, hR, ok, hx, hsx, ⟨to, rfl, hTo⟩, hL, hP, hq0, hkin, i0, i1, j0, j1, q⟩ := h
    refine ⟨_, (pss_cons (ps_set (i := 4) sc_law_loop.nd rfl (.inl rfl) (pe_ix (ixT K) (pv 0) pe_int (fun _ _ => rfl)))
      (pss_cons (ps_asg (pv 2) (pg_tup rfl (pgs_cons (pg_name (i := 5) sc_law_loop.nd rfl (.inl rfl)) (pgs_cons (pg_name (i := 6) sc_law_loop.nd rfl (.inl rfl)) pgs_nil))))
      (pss_cons (ps_set (i := 7) sc_law_loop.nd rfl (.inl rfl) (pe_op op_sub (pe_op op_sub (pe_op op_sub (pv 6) (pv 5)) pe_int) (pe_callB (sumI K) (by rfl) msum (by decide +kernel) (pa_cons (pe_lc (own := [("_law_p", 9), ("_law_q", 10)]) (g := gTup K 2 (gCons (gName 9) (gCons (gName 10) gNil))) (by rfl) sc_law_loop.nd (pi_list (pv 3)) (blkOk_by (own := [("_law_p", 9), ("_law_q", 10)]) (N := ["_law_bylaws", "_law_chars", "_law_pair", "_law_inner", "_law_costs", "_law_i", "_law_j", "_law_free", "_law_both", "_law_p", "_law_q", "_law_row"]) (sc := defScope s_law_loop) (by decide +kernel)) (fun _ _ _ _ _ => (pgT K rfl (pgs_cons (pg_name (i := 9) sc_law_loop.nd rfl (.inl rfl)) (pgs_cons (pg_name (i := 10) sc_law_loop.nd rfl (.inl rfl)) pgs_nil)))) (fun _ _ _ _ _ => pts_nil) (fun _ _ _ _ _ => (pe_op op_add (pe_op op_sub (pv 10) (pv 9)) pe_int))) pa_nil))))
      (pss_cons (ps_if (pt_cmpR (eqD K hr.units) (pv 3) (pe_lst pa_nil) (nomark _)) (pss_one (ps_ret (pe_op op_add (pe_ix (ixT K) (pv 4) pe_int (fun _ _ => rfl)) (pe_op op_mul (pv 7) (pe_ix (ixT K) (pv 4) pe_int (fun _ _ => rfl)))))) pss_nil)
      (pss_cons (ps_if (pt_cmpR op_gt (pe_callB (lenQ K) (by rfl) mlen (by decide +kernel) (pa_cons (pv 3) pa_nil)) pe_int (nomark _)) (pss_one (ps_ret (pe_op op_add (pe_op op_add (pe_ix (ixT K) (pv 4) pe_int (fun _ _ => rfl)) (pe_op op_mul (pe_callB (lenQ K) (by rfl) mlen (by decide +kernel) (pa_cons (pv 3) pa_nil)) (pe_ix (ixT K) (pv 4) pe_int (fun _ _ => rfl)))) (pe_op op_mul (pv 7) (pe_ix (ixT K) (pv 4) pe_int (fun _ _ => rfl)))))) pss_nil)
      (pss_cons (ps_if (pt_cmpR op_gt (pv 7) pe_int (nomark _)) (pss_one (ps_ret (pe_op op_add (pe_ix (ixT K) (pv 4) pe_int (fun _ _ => rfl)) (pe_op op_mul (pv 7) (pe_ix (ixT K) (pv 4) pe_int (fun _ _ => rfl)))))) pss_nil)
      (pss_cons (ps_set (i := 8) sc_law_loop.nd rfl (.inr rfl) (pe_tup (pa_cons (pe_op op_add_str (pe_ix ix_str (pv 1) (pv 5) (fun _ _ => rfl)) (pe_ix ix_str (pv 1) (pv 6) (fun _ _ => rfl))) (pa_cons (pe_op op_add_str (pe_ix ix_str (pv 1) (pe_ix (ixT K) (pe_ix (ixL K) (pv 3) pe_int (fun _ _ => rfl)) pe_int (fun _ _ => rfl)) (fun _ _ => rfl)) (pe_ix ix_str (pv 1) (pe_ix (ixT K) (pe_ix (ixL K) (pv 3) pe_int (fun _ _ => rfl)) pe_int (fun _ _ => rfl)) (fun _ _ => rfl))) pa_nil))))
      (pss_one (ps_ret (pe_op op_add (pe_ix (ixT K) (pv 4) pe_int (fun _ _ => rfl)) (pe_callB (sumI K) (by rfl) msum (by decide +kernel) (pa_cons (pe_lc (own := [("_law_row", 11)]) (g := gName 11) (by rfl) sc_law_loop.nd (pi_tup (pe_ix (ixT K) (pv 0) pe_int (fun _ _ => rfl))) (blkOk_by (own := [("_law_row", 11)]) (N := ["_law_bylaws", "_law_chars", "_law_pair", "_law_inner", "_law_costs", "_law_i", "_law_j", "_law_free", "_law_both", "_law_p", "_law_q", "_law_row"]) (sc := defScope s_law_loop) (by decide +kernel)) (fun _ _ _ _ _ => (pg_name (i := 11) sc_law_loop.nd rfl (.inl rfl))) (fun _ _ _ _ _ => (pts_one (pt_cmpR (eqD K hr.units) (pe_slice (slE K) (pv 11) po_none (po_some pe_int)) (pv 8) (nomark _)))) (fun _ _ _ _ _ => (pe_ix (ixT K) (pv 11) pe_int (fun _ _ => rfl)))) pa_nil)))))))))))), ?_⟩
    obtain ⟨a, vp, vl, vs, rfl, hA, _, ⟨al, ls, rfl, hl9, hLo⟩, ⟨as, ss, rfl, hs9, hSt⟩⟩ := id hR
    have ils := ints_of hLo
    subst ils
    rw [lo9_list ok] at hl9
    have hul := paired_len hP
    refine ⟨_, rfl, a, _, 3, _, rfl, rfl, SqT.of hA, rfl, ?_⟩
    refine ⟨_, rfl, to, _, rfl, SqT.of hTo, rfl, _, _, rfl, _, _, rfl, rfl, ?_⟩
    refine ns_eq (σ' := [some (.ref a), some (.str x), some (.ref to), some (.ref l), some (.ref al), some (.int one.1), some (.int one.2), none, none, none, none, none]) rfl ?_
    have hL3 := hL
    have hP3 := hP
    -- free
    refine ⟨_, rfl, _, rfl, _, _, rfl, rfl, _, 1, rfl, rfl, _, rfl, l, rfl, ⟨_, SqL.of hL3⟩, fun D hD => lc_list (K := K) (xs := us) (fun i H2 => H2 D = some (.lst (((ks.take i).map fun y => y.2 - y.1 + 1).map V.int)) ∧ Ext H H2)
      ⟨upd_same, Ext.new hD⟩ (fun i H2 _ ⟨_, k⟩ => SqL.of (k _ _ hL3)) (fun i u H2 hi hv => ?_) (fun H4 hv => ?_)⟩
    · obtain ⟨hL2, k2⟩ := hv
      obtain ⟨y, hy, a1, rfl, ha1⟩ := paired_get hP3 hi
      have hil : i < us.length := (List.getElem?_eq_some_iff.mp hi).1
      refine ⟨a1, _, rfl, SqT.of (k2 _ _ ha1), rfl, _, _, rfl, _, _, rfl, rfl, wp2 _ _ _ (by decide) (by decide), _, rfl, _, rfl, _, _, rfl, rfl, _, 1, rfl, rfl, _, hL2, szLt ?_, ?_, k2.put hD⟩
      · rw [List.length_map, List.length_map, List.length_take]
        omega
      · rw [upd_same, List.take_add_one, hy, List.map_append, List.map_append]
        rfl
    obtain ⟨hL2, k4⟩ := hv
    rw [List.take_of_length_le (by omega)] at hL2
    refine ⟨D, _, rfl, SqL.of hL2, _, _, rfl, rfl, ?_⟩
    obtain ⟨fr, hfr⟩ : ∃ fr : Int, fr = one.2 - one.1 - 1 - (ks.map fun y => y.2 - y.1 + 1).sum := ⟨_, rfl⟩
    have hfr2 : fr = freeI one ks := hfr
    refine gow_as (v' := .int fr) (congrArg V.int hfr.symm) ?_
    show Ends.nx _ [some (.ref a), some (.str x), some (.ref to), some (.ref l), some (.ref al), some (.int one.1), some (.int one.2), some (.int fr), none, none, none, none] _
    have k04 := k4
    have hL4 := k4 _ _ hL3
    -- inner == []
    refine ⟨_, rfl, Nat.zero_le _, fun l5 hl5 => ?_⟩
    have x5 := Ext.new (o := .lst []) hl5
    have k05 := k04.trans x5
    have hL5 := x5 _ _ hL4
    have hl95 := k05 _ _ hl9
    refine ⟨.list (ks.map dTwo), .list [], .lst (SqL.of hL5) (dpTwos (paired_imp (fun _ _ => TwoAt.mono _ _ _ _ (TupK.ext (k4.trans x5))) hP3)), .lst (SqL.of upd_same) .nil, shaped_twos _, by decide +kernel, _, rfl, ?_⟩
    rw [eqv_nil]
    have l2 := lo_bound ok (show 2 < 9 by decide)
    have l4 := lo_bound ok (show 4 < 9 by decide)
    have l5' := lo_bound ok (show 5 < 9 by decide)
    have l7 := lo_bound ok (show 7 < 9 by decide)
    refine ite2 (fun e => ?_) (fun e => ?_)
    · have c0 : ks.length = 0 := by
        cases ks with
        | nil => rfl
        | cons _ _ => cases e
      refine ⟨_, rfl, al, _, 6, _, rfl, rfl, SqT.of hl95, rfl, _, rfl, _, rfl, al, _, 7, _, rfl, rfl, SqT.of hl95, rfl, _, _, rfl, rfl, .inr ⟨by omega, by omega⟩, _, _, rfl, rfl, ?_⟩
      have h := q _ k05
      unfold lpW at h
      rw [if_pos c0, ← hfr2] at h
      exact h
    · have c0 : ¬ ks.length = 0 := by
        cases ks with
        | nil => exact absurd rfl e
        | cons _ _ => exact Nat.succ_ne_zero _
      refine ⟨_, rfl, l, us, rfl, .inl (SqL.of hL5), _, 1, rfl, rfl, _, rfl, ite2 (fun e => ?_) (fun e => ?_)⟩
      · have c1 : 1 < ks.length := by
          have : (us.length : Int) > 1 := by simpa using e
          omega
        refine ⟨_, rfl, al, _, 3, _, rfl, rfl, SqT.of hl95, rfl, _, rfl, l, us, rfl, .inl (SqL.of hL5), _, rfl, al, _, 4, _, rfl, rfl, SqT.of hl95, rfl, _, _, rfl, rfl, .inr ⟨by omega, by omega⟩, _, _, rfl, rfl, _, rfl, _, rfl, al, _, 5, _, rfl, rfl, SqT.of hl95, rfl, _, _, rfl, rfl, .inr ⟨by omega, by omega⟩, _, _, rfl, rfl, ?_⟩
        have h := q _ k05
        unfold lpW at h
        rw [if_neg c0, if_pos c1, ← hfr2, ← hul] at h
        have e5 : lo r 3 + (us.length : Int) * lo r 4 + fr * lo r 5 = lo r 3 + ((us.length : Int) * lo r 4 + fr * lo r 5) := by
          omega
        rw [← e5] at h
        exact h
      · have c1 : ¬ 1 < ks.length := by
          have : ¬ (us.length : Int) > 1 := by simpa using e
          omega
        obtain ⟨y, hyk⟩ : ∃ y, ks = [y] := by
          match ks, c0, c1 with
          | [], c0, _ => exact absurd rfl c0
          | [y], _, _ => exact ⟨y, rfl⟩
          | _ :: _ :: _, _, c1 => exact absurd (by simp) c1
        subst hyk
        obtain ⟨u0, hu0, a2, hu2, ha2⟩ : ∃ u0, us = [u0] ∧ ∃ a2, u0 = .ref a2 ∧ H a2 = some (.tup [.int y.1, .int y.2]) := by
          cases hP3 with
          | cons r t =>
            cases t
            obtain ⟨a2, e1, e2⟩ := r
            exact ⟨_, rfl, a2, e1, e2⟩
        subst hu2
        subst hu0
        have hy := hkin y (List.mem_singleton.mpr rfl)
        have ha5 := x5 _ _ (k4 _ _ ha2)
        refine ⟨_, rfl, _, _, rfl, rfl, _, rfl, ite2 (fun e => ?_) (fun e => ?_)⟩
        · have c2 : 0 < fr := by simpa using e
          refine ⟨_, rfl, al, _, 1, _, rfl, rfl, SqT.of hl95, rfl, _, rfl, _, rfl, al, _, 2, _, rfl, rfl, SqT.of hl95, rfl, _, _, rfl, rfl, .inr ⟨by omega, by omega⟩, _, _, rfl, rfl, ?_⟩
          have h := q _ k05
          unfold lpW at h
          rw [if_neg c0, if_neg c1, ← hfr2, if_pos c2] at h
          exact h
        · have c2 : ¬ 0 < fr := by simpa using e
          refine ⟨_, rfl, _, rfl, x, one.1, _, rfl, rfl, szL (by omega), sgn_at i0 i1, _, rfl, _, rfl, x, one.2, _, rfl, rfl, szL (by omega), sgn_at j0 j1, _, _, rfl, rfl, szL (show 1 + 1 ≤ 1000000 by decide), ?_⟩
          refine ⟨_, rfl, _, rfl, l, _, 0, _, rfl, rfl, SqL.of hL5, rfl, a2, _, 0, _, rfl, rfl, SqT.of ha5, rfl, x, y.1, _, rfl, rfl, szL (by omega), sgn_at hy.1 hy.2.1, _, rfl, _, rfl, l, _, 0, _, rfl, rfl, SqL.of hL5, rfl, a2, _, 1, _, rfl, rfl, SqT.of ha5, rfl, x, y.2, _, rfl, rfl, szL (by omega), sgn_at hy.2.2.1 hy.2.2.2, _, _, rfl, rfl, szL (show 1 + 1 ≤ 1000000 by decide), szL (show 2 ≤ 1000000 by decide), fun t8 ht8 => ?_⟩
          have x8 := Ext.new (o := .tup [.str (tx2 x one), .str (tx2 x y)]) ht8
          have hT8 : upd (upd H4 l5 (.lst [])) t8 (.tup [.str (tx2 x one), .str (tx2 x y)]) t8 = some (.tup [.str (tx2 x one), .str (tx2 x y)]) := upd_same
          have k08 := k05.trans x8
          have hA8 := k08 _ _ hA
          have hs98 := k08 _ _ hs9
          have hSt8 := paired_imp (fun _ _ => StackAt.mono _ _ _ _ (TupK.ext k08)) hSt
          have hsl := paired_len hSt8
          have hst := ok.stk
          refine gow_eq (σ' := [some (.ref a), some (.str x), some (.ref to), some (.ref l), some (.ref al), some (.int one.1), some (.int one.2), some (.int fr), some (.ref t8), none, none, none]) rfl ?_
          show Ends.nx _ _ (upd (upd H4 l5 (.lst [])) t8 (.tup [.str (tx2 x one), .str (tx2 x y)]))
          generalize upd (upd H4 l5 (.lst [])) t8 (.tup [.str (tx2 x one), .str (tx2 x y)]) = H8 at hT8 k08 hA8 hs98 hSt8 ⊢
          refine ⟨_, rfl, al, _, 0, _, rfl, rfl, SqT.of (k08 _ _ hl9), rfl, _, rfl, a, _, 4, _, rfl, rfl, SqT.of hA8, rfl, as, rfl, ⟨_, SqT.of hs98⟩, fun E5 hE5 => ?_⟩
          refine lc_tup (K := K) (xs := ss) (fun c H5 => H5 E5 = some (.lst ((stF (r.stk.take c) (tx2 x one) (tx2 x y)).map V.int)) ∧ Ext H8 H5)
            ⟨upd_same, Ext.new hE5⟩ (fun c H5 _ ⟨_, k⟩ => SqT.of (k _ _ hs98)) (fun c u H5 hc hv => ?_) (fun H5 hv => ?_)
          · obtain ⟨hE, k5⟩ := hv
            obtain ⟨z, hz, b1, rfl, hb1⟩ := paired_get hSt8 hc
            have hb5 := k5 _ _ hb1
            have cl : c < ss.length := (List.getElem?_eq_some_iff.mp hc).1
            have hzo := ok.st z (List.mem_of_getElem? hz)
            have hle : (stF (r.stk.take c) (tx2 x one) (tx2 x y)).length ≤ 12 := by
              unfold stF
              rw [List.length_map]
              refine Nat.le_trans (List.length_filter_le _ _) ?_
              rw [List.length_take]
              omega
            refine ⟨wp1 _ _ (by decide), _, rfl, 2, rfl, b1, _, rfl, hb5, fun p6 H6 k6 hp6 => ?_⟩
            have hp6 : H6 p6 = some (.tup [.str z.1, .str z.2.1]) := hp6
            refine ⟨_, rfl, .tuple [.str z.1, .str z.2.1], .tuple [.str (tx2 x one), .str (tx2 x y)], .tup (SqT.of hp6) (.cons (.str _) (.cons (.str _) .nil)), .tup (SqT.of (k6 _ _ (k5 _ _ hT8))) (.cons (.str _) (.cons (.str _) .nil)), ?_, ?_, _, rfl, ?_⟩
            · exact sm_two hzo.1 hzo.2.1
            · exact sm_two (two_tx hsx i0 i1 j0 j1) (two_tx hsx hy.1 hy.2.1 hy.2.2.1 hy.2.2.2)
            rw [eqv_two]
            refine ite2 (fun e => ?_) (fun e => ?_)
            · refine ⟨_, rfl, b1, _, 2, _, rfl, rfl, SqT.of (k6 _ _ hb5), rfl, _, k6 _ _ hE, szLt (by rw [List.length_map]; omega), ?_, (k5.trans k6).put hE5⟩
              rw [upd_same, List.take_add_one, hz]
              unfold stF
              rw [List.filter_append, show (some z).toList = [z] from rfl, List.filter_cons_of_pos (p := fun z : Str × Str × Int => decide (z.1 = tx2 x one ∧ z.2.1 = tx2 x y)) e, List.map_append, List.map_append]
              rfl
            · refine ⟨?_, k5.trans k6⟩
              rw [List.take_add_one, hz]
              unfold stF
              rw [List.filter_append, show (some z).toList = [z] from rfl, List.filter_cons_of_neg (p := fun z : Str × Str × Int => decide (z.1 = tx2 x one ∧ z.2.1 = tx2 x y)) e, List.filter_nil, List.append_nil]
              exact k6 _ _ hE
          · obtain ⟨hE, k5⟩ := hv
            rw [List.take_of_length_le (by omega)] at hE
            refine ⟨E5, _, rfl, SqL.of hE, _, _, rfl, rfl, ?_⟩
            have h := q _ (k08.trans k5)
            unfold lpW at h
            rw [if_neg c0, if_neg c1, ← hfr2, if_neg c2, ← stF_sum ok.nd] at h
            exact h
abbrev CLpS (P : Program) (w : World) (K : PySem.W.Frag) (mg : Str → Option Value) (base : Heap) : Prop := Ca P w K mg base 1 "_law_loop" ["_law_bylaws", "_law_chars", "_law_pair", "_law_inner"] spLpS
end
end Pf


namespace Pf
open PySem PySem.Spec PyProof.Rows L2
theorem sum_takeS {l : List Int} {c : Nat} {y : Int} (h : l[c]? = some y) : (l.take (c + 1)).sum = (l.take c).sum + y := by
  rw [List.take_add_one, h, List.sum_append]
  simp
def outB (q : Fo) (y : Int × Int) : Bool := (q.filter (nestB y)).isEmpty
def pS (r : Rl) (x : Str) (q : Fo) (y : Int × Int) : Int := pV1 r x q y + if outB q y = true then lo r 8 else 0
theorem sum_if {α : Type} (p : α → Bool) (k : Int) : ∀ l : List α, (l.map fun y => if p y = true then k else 0).sum = k * ((l.filter p).length : Int)
  | [] => by simp
  | y :: l => by
    rw [List.map_cons, List.sum_cons, sum_if p k l]
    by_cases e : p y = true
    · rw [if_pos e, List.filter_cons_of_pos e, List.length_cons, Int.natCast_succ, Int.mul_add, Int.mul_one]
      omega
    · rw [if_neg e, List.filter_cons_of_neg e]
      omega
theorem woV_pS {r r0 : Rl} {x : Str} {n : Nat} {a : Int} {q : Fo} (hq : q ∈ WA r0 x n a) : (q.map (pS r x q)).sum = woV r x q := by
  have e : q.map (pS r x q) = q.map fun y => pV1 r x q y + if outB q y = true then lo r 8 else 0 := rfl
  rw [e, sum_add, sum_if, ← woV_eq]
  have h : q.filter (outB q) = tops q := nn_tops r0 x n a q hq
  rw [h]
  omega
theorem lam_eq {R : L2.St → Hp → Prop} {σ σ' : L2.St} {H : Hp} (e : σ = σ') (h : R σ' H) : R σ H := by
  rw [e]
  exact h
section
variable {P : Program} {w : World} {K : PySem.W.Frag} {mg : Str → Option Value} {base : Heap}
abbrev s_law_worth_of : Stmt := topS 42
theorem sc_law_worth_of : FnScope ["_law_bylaws", "_law_chars", "_law_fold", "_law_found", "_law_known", "_law_i", "_law_j", "_law_within", "_law_inner", "_law_one", "_law_two"] ["_law_bylaws", "_law_chars", "_law_fold"] (defScope s_law_worth_of) :=
  ⟨rfl, rfl, rfl, by decide +kernel, rfl, by decide +kernel, by decide +kernel⟩
def spWoS : Sp := fun vs H Q _ => ∃ (v sv : V) (r : Rl) (x : Str) (q0 : Fo), vs = [v, .str x, sv] ∧ RulesAt H v r ∧ RlOk r ∧ x.length ≤ 12 ∧ Small x ∧ FoAt H sv q0 ∧ q0 ∈ WA r x x.length 0 ∧ ∀ H', Ext H H' → Q (.int (woV r x q0)) H'
theorem ok_woS {f : Addr} {fd : FuncData} (F : Fun K "_law_worth_of" "_law_worth_of" s_law_worth_of f fd) (c_law_loop : CLpS P w K mg base) (mdict : mg "dict" = none) : FnOk P w K mg base CX0 2 f fd ["_law_bylaws", "_law_chars", "_law_fold"] spWoS := by
  refine F.ok sc_law_worth_of (fun vs H Q E h => ?_) (fun cdv A outer s H vs Q E hr h => ?_)
  · obtain ⟨v, sv, r, x, q0, rfl, _⟩ := h
    rfl
  · obtain ⟨v, sv, r, x, q0, rfl, hR, ok, hx, hsx, hF, hq0, q⟩ := h
    refine ⟨_, (pss_cons (ps_set (i := 3) sc_law_worth_of.nd rfl (.inl rfl) pe_int)
      (pss_cons (ps_set (i := 4) sc_law_worth_of.nd rfl (.inl rfl) (pe_callTy (dictT K) (by rfl) mdict (by decide +kernel) (pa_cons (pe_ix (ixT K) (pv 0) pe_int (fun _ _ => rfl)) pa_nil)))
      (pss_cons (ps_for PassesOwn.never rfl (pi_tup (pv 2)) (pg_tup rfl (pgs_cons (pg_name (i := 5) sc_law_worth_of.nd rfl (.inr rfl)) (pgs_cons (pg_name (i := 6) sc_law_worth_of.nd rfl (.inr rfl)) pgs_nil))) (pss_cons (ps_set (i := 7) sc_law_worth_of.nd rfl (.inr rfl) (pe_lc (own := [("_law_one", 9)]) (g := gName 9) (by rfl) sc_law_worth_of.nd (pi_tup (pv 2)) (blkOk_by (own := [("_law_one", 9)]) (N := ["_law_bylaws", "_law_chars", "_law_fold", "_law_found", "_law_known", "_law_i", "_law_j", "_law_within", "_law_inner", "_law_one", "_law_two"]) (sc := defScope s_law_worth_of) (by decide +kernel)) (fun _ _ _ _ _ => (pg_name (i := 9) sc_law_worth_of.nd rfl (.inl rfl))) (fun _ _ _ _ _ => (pts_one (PW.pt (pw_and (pt_cmpR op_lt (pv 5) (pe_ix (ixT K) (pv 9) pe_int (fun _ _ => rfl)) (nomark _)) (pw_and1 (pt_cmpR op_lt (pe_ix (ixT K) (pv 9) pe_int (fun _ _ => rfl)) (pv 6) (nomark _))))))) (fun _ _ _ _ _ => (pv 9))))
      (pss_cons (ps_setLc (i := 8) (own := [("_law_one", 9)]) (g := gName 9) (by rfl) sc_law_worth_of.nd rfl rfl (sw_true rfl rfl rfl (by decide +kernel)) (pi_list (pv 7)) (blkOk_by (own := [("_law_one", 9)]) (N := ["_law_bylaws", "_law_chars", "_law_fold", "_law_found", "_law_known", "_law_i", "_law_j", "_law_within", "_law_inner", "_law_one", "_law_two"]) (sc := defScope s_law_worth_of) (by decide +kernel)) (fun _ _ _ _ _ => (pg_name (i := 9) sc_law_worth_of.nd rfl (.inr rfl))) (fun _ _ _ _ _ => (pts_one (pt_cmpR (eqD K hr.units) (pe_lc (own := [("_law_two", 10)]) (g := gName 10) (by rfl) sc_law_worth_of.nd (piL K (pv 7)) (blkOk_by (own := [("_law_two", 10)]) (N := ["_law_bylaws", "_law_chars", "_law_fold", "_law_found", "_law_known", "_law_i", "_law_j", "_law_within", "_law_inner", "_law_one", "_law_two"]) (sc := relS _ (defScope s_law_worth_of)) (by decide +kernel)) (fun _ _ _ _ _ => (pg_name (i := 10) sc_law_worth_of.nd rfl (.inl rfl))) (fun _ _ _ _ _ => (pts_one (PW.pt (pw_and (pt_cmpR op_lt (pe_ix (ixT K) (pv 10) pe_int (fun _ _ => rfl)) (pe_ix (ixT K) (pv 9) pe_int (fun _ _ => rfl)) (nomark _)) (pw_and1 (pt_cmpR op_lt (pe_ix (ixT K) (pv 9) pe_int (fun _ _ => rfl)) (pe_ix (ixT K) (pv 10) pe_int (fun _ _ => rfl)) (nomark _))))))) (fun _ _ _ _ _ => (pv 10))) (pe_lst pa_nil) (nomark _)))) (fun _ _ _ _ _ => (pv 9)))
      (pss_cons (ps_set (i := 3) sc_law_worth_of.nd rfl (.inl rfl) (pe_op op_add (pv 3) (pe_dget (hu_of hr) (pv 4) (pe_op op_add_str (pe_ix ix_str (pv 1) (pv 5) (fun _ _ => rfl)) (pe_ix ix_str (pv 1) (pv 6) (fun _ _ => rfl))) (fun _ _ => rfl))))
      (pss_cons (ps_set (i := 3) sc_law_worth_of.nd rfl (.inl rfl) (pe_op op_add (pv 3) (pe_ca c_law_loop (hr.mono (by decide)) (by rfl) (pa_cons (pv 0) (pa_cons (pv 1) (pa_cons (pe_tup (pa_cons (pv 5) (pa_cons (pv 6) pa_nil))) (pa_cons (pv 8) pa_nil)))))))
      (pss_one (ps_if (pt_cmpR (eqD K hr.units) (pe_lc (own := [("_law_one", 9)]) (g := gName 9) (by rfl) sc_law_worth_of.nd (pi_tup (pv 2)) (blkOk_by (own := [("_law_one", 9)]) (N := ["_law_bylaws", "_law_chars", "_law_fold", "_law_found", "_law_known", "_law_i", "_law_j", "_law_within", "_law_inner", "_law_one", "_law_two"]) (sc := defScope s_law_worth_of) (by decide +kernel)) (fun _ _ _ _ _ => (pg_name (i := 9) sc_law_worth_of.nd rfl (.inl rfl))) (fun _ _ _ _ _ => (pts_one (PW.pt (pw_and (pt_cmpR op_lt (pe_ix (ixT K) (pv 9) pe_int (fun _ _ => rfl)) (pv 5) (nomark _)) (pw_and1 (pt_cmpR op_lt (pv 6) (pe_ix (ixT K) (pv 9) pe_int (fun _ _ => rfl)) (nomark _))))))) (fun _ _ _ _ _ => (pv 9))) (pe_lst pa_nil) (nomark _)) (pss_one (ps_set (i := 3) sc_law_worth_of.nd rfl (.inl rfl) (pe_op op_add (pv 3) (pe_ix (ixT K) (pe_ix (ixT K) (pv 0) pe_int (fun _ _ => rfl)) pe_int (fun _ _ => rfl))))) pss_nil)))))))
      (pss_one (ps_ret (pv 3)))))), ?_⟩
    obtain ⟨hin, hlen⟩ := WA_in r x x.length 0 q0 hq0
    have hmay : ∀ y ∈ q0, tx2 x y ∈ r.prs.map (·.1) := fun y hy => may_mem ((fo4_of r _ _ 0 _ hq0).may y hy)
    have hin' : ∀ y ∈ q0, 0 ≤ y.1 ∧ y.1 < x.length ∧ 0 ≤ y.2 ∧ y.2 < x.length := fun y hy => by
      have := hin y hy
      omega
    obtain ⟨a, vp, vl, vs, rfl, hA, ⟨ap, oz, pus, rfl, hp, hoz, hRp⟩, ⟨al, ls, rfl, hl9, hLo⟩, hvs⟩ := id hR
    have ils := ints_of hLo
    subst ils
    rw [lo9_list ok] at hl9
    obtain ⟨sa, fs, rfl, hS, hPf⟩ := hF
    have hfl := paired_len hPf
    obtain ⟨pas, hpas, hpp⟩ : ∃ pas : List Addr, pus = pas.map V.ref ∧ Paired (fun p kv => H p = some (.tup [kV kv.1, kv.2])) pas (r.prs.map encP) := by
      have aux : ∀ {us : List V} {ps : List (Str × Int)}, Paired (PairAt H) us ps → ∃ pas : List Addr, us = pas.map V.ref ∧ Paired (fun p kv => H p = some (.tup [kV kv.1, kv.2])) pas (ps.map encP) := by
        intro us ps h
        induction h with
        | nil => exact ⟨[], rfl, .nil⟩
        | cons h t ih =>
          obtain ⟨pas, e, hpp⟩ := ih
          obtain ⟨a1, e1, h1⟩ := h
          exact ⟨a1 :: pas, by rw [e1, e]; rfl, .cons h1 hpp⟩
      exact aux hRp
    refine ⟨_, rfl, a, _, 1, _, rfl, rfl, SqT.of hA, rfl, ap, oz, pas, r.prs.map encP, rfl, by rw [← hpas]; exact hp, hoz, paired_imp (fun _ _ h => SqT.of h) hpp, fun d hd => ?_⟩
    rw [merge_prs ok.pn]
    have x1 := Ext.new (o := .dK (r.prs.map encP)) hd
    have hd1 : (upd H d (.dK (r.prs.map encP))) d = some (.dK (r.prs.map encP)) := upd_same
    generalize upd H d (.dK (r.prs.map encP)) = H1 at x1 hd1 ⊢
    refine ⟨_, rfl, sa, rfl, ⟨_, SqT.of (x1 _ _ hS)⟩, for_tup (K := K) (xs := fs) (fun c σ H2 => ∃ (y5 y6 y7 y8 : Option V), σ = [some (.ref a), some (.str x), some (.ref sa), some (.int (((q0.map (pS r x q0)).take c).sum)), some (.ref d), y5, y6, y7, y8, none, none] ∧ Ext H1 H2)
      ⟨none, none, none, none, by rw [List.take_zero, List.sum_nil]; rfl, Ext.refl⟩ (fun c σ H2 _ h => by obtain ⟨_, _, _, _, _, k⟩ := h; exact SqT.of ((x1.trans k) _ _ hS)) (fun c u σ H2 hc hv => ?_) (fun σ H2 hv => ?_)⟩
    · obtain ⟨y5, y6, y7, y8, rfl, k2⟩ := hv
      obtain ⟨y, hy, a1, rfl, ha1⟩ := paired_get hPf hc
      have hyq := List.mem_of_getElem? hy
      have hi := hin' y hyq
      have k02 := x1.trans k2
      refine ⟨a1, _, rfl, SqT.of (k02 _ _ ha1), rfl, _, _, rfl, _, _, rfl, rfl, ?_⟩
      have hS2 := k02 _ _ hS
      show tSeq _ _ _ [some (.ref a), some (.str x), some (.ref sa), some (.int (((q0.map (pS r x q0)).take c).sum)), some (.ref d), some (.int y.1), some (.int y.2), y7, y8, none, none] _
      -- within
      refine ⟨_, rfl, sa, rfl, ⟨_, SqT.of hS2⟩, fun E1 hE1 => lc_tup (K := K) (xs := fs) (fun d H3 => KeepL E1 H2 ((q0.take d).filter fun p => decide (y.1 < p.1) && decide (p.2 < y.2)) d H3)
        (KeepL.new hE1) (fun d H3 _ h => SqT.of (h.ext _ _ hS2)) (fun d u H3 hd hw => ?_) (fun H3 hw => ?_)⟩
      · obtain ⟨z, hz, a2, rfl, ha2⟩ := paired_get hPf hd
        have hz3 := hw.ext _ _ (k02 _ _ ha2)
        have dl : d < fs.length := (List.getElem?_eq_some_iff.mp hd).1
        rw [take_filt hz]
        refine ⟨wp1 _ _ (by decide), _, rfl, _, rfl, a2, _, 0, _, rfl, rfl, SqT.of hz3, rfl, _, _, rfl, rfl, _, rfl, ite2 (fun e1 => ?_) (fun e1 => ?_)⟩
        · refine ⟨_, rfl, a2, _, 1, _, rfl, rfl, SqT.of hz3, rfl, _, rfl, _, _, rfl, rfl, _, rfl, ite2 (fun e2 => ?_) (fun e2 => ?_)⟩
          · rw [if_pos (show (decide (y.1 < z.1) && decide (z.2 < y.2)) = true by rw [show decide (y.1 < z.1) = true from e1, show decide (z.2 < y.2) = true from e2]; rfl)]
            exact ⟨_, rfl, KeepL.add hE1 hw Ext.refl hz3 (by omega)⟩
          · rw [if_neg (show ¬ (decide (y.1 < z.1) && decide (z.2 < y.2)) = true by rw [show decide (z.2 < y.2) = false from Bool.eq_false_iff.mpr e2, Bool.and_false]; exact Bool.false_ne_true), List.append_nil]
            exact hw.skip Ext.refl
        · rw [if_neg (show ¬ (decide (y.1 < z.1) && decide (z.2 < y.2)) = true by rw [show decide (y.1 < z.1) = false from Bool.eq_false_iff.mpr e1, Bool.false_and]; exact Bool.false_ne_true), List.append_nil]
          exact hw.skip Ext.refl
      rw [List.take_of_length_le (by omega)] at hw
      obtain ⟨ws, hL3, hP3, hl3, k3⟩ := hw
      obtain ⟨W, hW⟩ : ∃ W, W = withinC q0 y.1 y.2 := ⟨_, rfl⟩
      have ew : (q0.filter fun p => decide (y.1 < p.1) && decide (p.2 < y.2)) = W := hW.symm
      rw [ew] at hP3 hl3
      have hwl := paired_len hP3
      have hWin : ∀ z ∈ W, z ∈ q0 := fun z hz => by
        rw [hW] at hz
        exact (List.mem_filter.mp hz).1
      have k03 := k02.trans k3
      refine gow_eq (σ' := [some (.ref a), some (.str x), some (.ref sa), some (.int (((q0.map (pS r x q0)).take c).sum)), some (.ref d), some (.int y.1), some (.int y.2), some (.ref E1), y8, none, none]) rfl ?_
      -- inner
      refine ⟨_, rfl, E1, rfl, ⟨_, SqL.of hL3⟩, fun E2 hE2 => lc_list (K := K) (xs := ws) (fun d H4 => KeepL E2 H3 ((W.take d).filter fun one => (W.filter (nestB one)).isEmpty) d H4)
        (KeepL.new hE2) (fun d H4 _ h => SqL.of (h.ext _ _ hL3)) (fun d u H4 hd hw => ?_) (fun H4 hw => ?_)⟩
      · obtain ⟨z, hz, a2, rfl, ha2⟩ := paired_get hP3 hd
        have hz4 := hw.ext _ _ ha2
        have hL4 := hw.ext _ _ hL3
        have dl : d < ws.length := (List.getElem?_eq_some_iff.mp hd).1
        rw [take_filt hz]
        refine ⟨wp1 _ _ (by decide), _, rfl, E1, rfl, ⟨_, SqL.of hL4⟩, fun E3 hE3 => lc_list (K := K) (xs := ws) (fun e H5 => KeepL E3 H4 ((W.take e).filter (nestB z)) e H5)
          (KeepL.new hE3) (fun e H5 _ h => SqL.of (h.ext _ _ hL4)) (fun e u H5 he hx5 => ?_) (fun H5 hx5 => ?_)⟩
        · obtain ⟨v, hv, a3, rfl, ha3⟩ := paired_get hP3 he
          have k5 := hw.ext.trans hx5.ext
          have hz5 := k5 _ _ ha2
          have hv5 := k5 _ _ ha3
          have el : e < ws.length := (List.getElem?_eq_some_iff.mp he).1
          rw [take_filt hv]
          refine ⟨wp1 _ _ (by decide), _, rfl, a3, _, 0, _, rfl, rfl, SqT.of hv5, rfl, _, rfl, a2, _, 0, _, rfl, rfl, SqT.of hz5, rfl, _, _, rfl, rfl, _, rfl, ite2 (fun e1 => ?_) (fun e1 => ?_)⟩
          · refine ⟨_, rfl, a2, _, 1, _, rfl, rfl, SqT.of hz5, rfl, _, rfl, a3, _, 1, _, rfl, rfl, SqT.of hv5, rfl, _, _, rfl, rfl, _, rfl, ite2 (fun e2 => ?_) (fun e2 => ?_)⟩
            · rw [if_pos (show nestB z v = true by unfold nestB; rw [show decide (v.1 < z.1) = true from e1, show decide (z.2 < v.2) = true from e2]; rfl)]
              exact ⟨_, rfl, KeepL.add hE3 hx5 Ext.refl hv5 (by omega)⟩
            · rw [if_neg (show ¬ nestB z v = true by unfold nestB; rw [show decide (z.2 < v.2) = false from Bool.eq_false_iff.mpr e2, Bool.and_false]; exact Bool.false_ne_true), List.append_nil]
              exact hx5.skip Ext.refl
          · rw [if_neg (show ¬ nestB z v = true by unfold nestB; rw [show decide (v.1 < z.1) = false from Bool.eq_false_iff.mpr e1, Bool.false_and]; exact Bool.false_ne_true), List.append_nil]
            exact hx5.skip Ext.refl
        · rw [List.take_of_length_le (by omega)] at hx5
          obtain ⟨zs, hL5, hP5, _, k5⟩ := hx5
          refine ⟨Nat.zero_le _, fun l6 hl6 => ?_⟩
          have x6 := Ext.new (o := .lst []) hl6
          refine ⟨.list ((W.filter (nestB z)).map dTwo), .list [], .lst (SqL.of (x6 _ _ hL5)) (dpTwos (paired_imp (fun _ _ => TwoAt.mono _ _ _ _ (TupK.ext x6)) hP5)), .lst (SqL.of upd_same) .nil, shaped_twos _, by decide +kernel, _, rfl, ?_⟩
          rw [eqv_nil]
          have k46 := k5.trans x6
          refine ite2 (fun e => ?_) (fun e => ?_)
          · rw [if_pos e]
            exact ⟨_, rfl, KeepL.add hE2 hw k46 (k46 _ _ hz4) (by omega)⟩
          · rw [if_neg e, List.append_nil]
            exact hw.skip k46
      rw [List.take_of_length_le (by omega)] at hw
      obtain ⟨zs, hL4, hP4, hl4, k4⟩ := hw
      have en : (W.filter fun one => (W.filter (nestB one)).isEmpty) = strC q0 y.1 y.2 := by
        rw [hW]
        rfl
      have hnin : ∀ z ∈ strC q0 y.1 y.2, z ∈ q0 := fun z hz => by
        rw [← en] at hz
        exact hWin z (List.mem_filter.mp hz).1
      rw [en] at hP4 hl4
      have k04 := k03.trans k4
      have k14 := k2.trans (k3.trans k4)
      refine gow_eq (σ' := [some (.ref a), some (.str x), some (.ref sa), some (.int (((q0.map (pS r x q0)).take c).sum)), some (.ref d), some (.int y.1), some (.int y.2), some (.ref E1), some (.ref E2), none, none]) rfl ?_
      have hm := hmay y hyq
      refine ⟨_, rfl, _, rfl, _, rfl, _, rfl, x, y.1, _, rfl, rfl, szL (by omega), sgn_at hi.1 hi.2.1, _, rfl, _, rfl, x, y.2, _, rfl, rfl, szL (by omega), sgn_at hi.2.2.1 hi.2.2.2, _, _, rfl, rfl, szL (show 1 + 1 ≤ 1000000 by decide), ?_⟩
      refine ⟨d, _, rfl, val_prs r.prs (tx2 x y) hm ▸ DGet.k (k := .inr (tx2 x y)) (k14 _ _ hd1), _, _, rfl, rfl, ?_⟩
      refine gow_eq (σ' := [some (.ref a), some (.str x), some (.ref sa), some (.int (((q0.map (pS r x q0)).take c).sum + pwI r.prs (tx2 x y))), some (.ref d), some (.int y.1), some (.int y.2), some (.ref E1), some (.ref E2), none, none]) rfl ?_
      refine ⟨_, rfl, _, rfl, _, rfl, _, rfl, _, rfl, szL (show 2 ≤ 1000000 by decide), fun t5 ht5 => ?_⟩
      have x5 := Ext.new (o := .tup [.int y.1, .int y.2]) ht5
      have k05 := k04.trans x5
      have hcnt : (strC q0 y.1 y.2).length ≤ 12 := by omega
      refine ⟨_, rfl, .ref a, .ref t5, r, x, y, E2, zs, strC q0 y.1 y.2, rfl, RulesAt.mono _ _ _ _ (TupK.ext k05) hR, ok, hx, hsx, ⟨t5, rfl, upd_same⟩, x5 _ _ hL4, paired_imp (fun _ _ => TwoAt.mono _ _ _ _ (TupK.ext x5)) hP4, hcnt, fun z hz => hin' z (hnin z hz), hi.1, hi.2.1, hi.2.2.1, hi.2.2.2, fun H6 k6 => ?_⟩
      have k06 := k05.trans k6
      have k26 := ((k3.trans k4).trans x5).trans k6
      have k16 := k2.trans k26
      refine ⟨_, _, rfl, rfl, gow_eq (σ' := [some (.ref a), some (.str x), some (.ref sa), some (.int (((q0.map (pS r x q0)).take c).sum + pV1 r x q0 y)), some (.ref d), some (.int y.1), some (.int y.2), some (.ref E1), some (.ref E2), none, none]) ?_ ?_⟩
      · have e : ((q0.map (pS r x q0)).take c).sum + pwI r.prs (tx2 x y) + lpW r x y (strC q0 y.1 y.2) = ((q0.map (pS r x q0)).take c).sum + pV1 r x q0 y := by
          unfold pV1
          omega
        rw [← e]
        rfl
      have hS6 := k06 _ _ hS
      refine ⟨_, rfl, sa, rfl, ⟨_, SqT.of hS6⟩, fun E3 hE3 => lc_tup (K := K) (xs := fs) (fun d H7 => KeepL E3 H6 ((q0.take d).filter (nestB y)) d H7)
        (KeepL.new hE3) (fun d H7 _ h => SqT.of (h.ext _ _ hS6)) (fun d u H7 hd hw => ?_) (fun H7 hw => ?_)⟩
      · obtain ⟨z, hz, a2, rfl, ha2⟩ := paired_get hPf hd
        have hz3 := hw.ext _ _ (k06 _ _ ha2)
        have dl : d < fs.length := (List.getElem?_eq_some_iff.mp hd).1
        rw [take_filt hz]
        refine ⟨wp1 _ _ (by decide), _, rfl, a2, _, 0, _, rfl, rfl, SqT.of hz3, rfl, _, rfl, _, _, rfl, rfl, _, rfl, ite2 (fun e1 => ?_) (fun e1 => ?_)⟩
        · refine ⟨_, rfl, _, rfl, a2, _, 1, _, rfl, rfl, SqT.of hz3, rfl, _, _, rfl, rfl, _, rfl, ite2 (fun e2 => ?_) (fun e2 => ?_)⟩
          · rw [if_pos (show nestB y z = true by unfold nestB; rw [show decide (z.1 < y.1) = true from e1, show decide (y.2 < z.2) = true from e2]; rfl)]
            exact ⟨_, rfl, KeepL.add hE3 hw Ext.refl hz3 (by omega)⟩
          · rw [if_neg (show ¬ nestB y z = true by unfold nestB; rw [show decide (y.2 < z.2) = false from Bool.eq_false_iff.mpr e2, Bool.and_false]; exact Bool.false_ne_true), List.append_nil]
            exact hw.skip Ext.refl
        · rw [if_neg (show ¬ nestB y z = true by unfold nestB; rw [show decide (z.1 < y.1) = false from Bool.eq_false_iff.mpr e1, Bool.false_and]; exact Bool.false_ne_true), List.append_nil]
          exact hw.skip Ext.refl
      rw [List.take_of_length_le (by omega)] at hw
      obtain ⟨zs7, hL7, hP7, hl7, k7⟩ := hw
      refine ⟨Nat.zero_le _, fun l8 hl8 => ?_⟩
      have x8 := Ext.new (o := .lst []) hl8
      have k08 := (k06.trans k7).trans x8
      have k28 := k2.trans ((k26.trans k7).trans x8)
      refine ⟨.list ((q0.filter (nestB y)).map dTwo), .list [], .lst (SqL.of (x8 _ _ hL7)) (dpTwos (paired_imp (fun _ _ => TwoAt.mono _ _ _ _ (TupK.ext x8)) hP7)), .lst (SqL.of upd_same) .nil, shaped_twos _, by decide +kernel, _, rfl, ?_⟩
      rw [eqv_nil]
      have est := sum_takeS (l := q0.map (pS r x q0)) (c := c) (y := pS r x q0 y) (by rw [List.getElem?_map, hy]; rfl)
      refine ite2 (fun e => ?_) (fun e => ?_)
      · refine ⟨_, rfl, _, rfl, a, _, 3, _, rfl, rfl, SqT.of (k08 _ _ hA), rfl, al, _, 8, _, rfl, rfl, SqT.of (k08 _ _ hl9), rfl, _, _, rfl, rfl, some (.int y.1), some (.int y.2), some (.ref E1), some (.ref E2), ?_, k28⟩
        have e2 : ((q0.map (pS r x q0)).take c).sum + pV1 r x q0 y + lo r 8 = ((q0.map (pS r x q0)).take (c + 1)).sum := by
          rw [est]
          unfold pS
          rw [if_pos (show outB q0 y = true from e)]
          omega
        rw [← e2]
        rfl
      · refine ⟨some (.int y.1), some (.int y.2), some (.ref E1), some (.ref E2), ?_, k28⟩
        have e2 : ((q0.map (pS r x q0)).take c).sum + pV1 r x q0 y = ((q0.map (pS r x q0)).take (c + 1)).sum := by
          rw [est]
          unfold pS
          rw [if_neg (show ¬ outB q0 y = true from e)]
          omega
        rw [← e2]
    · obtain ⟨y5, y6, y7, y8, rfl, k2⟩ := hv
      rw [List.take_of_length_le (by rw [List.length_map]; omega), woV_pS hq0]
      exact ⟨_, rfl, q H2 (x1.trans k2)⟩
abbrev CWoS (P : Program) (w : World) (K : PySem.W.Frag) (mg : Str → Option Value) (base : Heap) : Prop := Ca P w K mg base 2 "_law_worth_of" ["_law_bylaws", "_law_chars", "_law_fold"] spWoS
end
end Pf


namespace Pf
open PySem PySem.Spec PyProof.Rows L2
section
variable {P : Program} {w : World} {K : PySem.W.Frag} {mg : Str → Option Value} {base : Heap}
abbrev s_law_counted : Stmt := topS 46
theorem sc_law_counted : FnScope ["_law_bylaws", "_law_chars", "_law_every", "_law_by_pair", "_law_by_place", "_law_fold", "_law_worth_here", "_law_some", "_law_taken", "_law_row", "_law_sign", "_law_two", "_law_k"] ["_law_bylaws", "_law_chars"] (defScope s_law_counted) :=
  ⟨rfl, rfl, rfl, by decide +kernel, rfl, by decide +kernel, by decide +kernel⟩
def spCtd : Sp := fun vs H Q _ => ∃ (v : V) (r : Rl) (x : Str), vs = [v, .str x] ∧ RulesAt H v r ∧ RlOk r ∧ x.length ≤ 10 ∧ Small x ∧
  ∀ (t : Addr) (H' : Hp) (e bp l : Addr) (as : List Addr) (pl : List ((Int × Int) × Addr)), H' t = some (.tup [.ref e, .ref bp, .ref l]) → Cd r x H' e bp l as pl → Ext H H' → Q (.ref t) H'
theorem ok_ctd {f : Addr} {fd : FuncData} (F : Fun K "_law_counted" "_law_counted" s_law_counted f fd) (c_law_all : CAllW P w K mg base) (c_law_worth_of : CWoS P w K mg base) (mlen : mg "len" = none) (mrange : mg "range" = none) : FnOk P w K mg base CX0 16 f fd ["_law_bylaws", "_law_chars"] spCtd := by
  refine F.ok sc_law_counted (fun vs H Q E h => ?_) (fun cdv A outer s H vs Q E hr h => ?_)
  · obtain ⟨v, r, x, rfl, _⟩ := h
    rfl
  · obtain ⟨v, r, x, rfl, hR, ok, hx, hsx, q⟩ := h
    refine ⟨_, (pss_cons (ps_set (i := 2) sc_law_counted.nd rfl (.inl rfl) pe_dnewK)
      (pss_cons (ps_set (i := 3) sc_law_counted.nd rfl (.inr rfl) pe_dnewT)
      (pss_cons (ps_set (i := 4) sc_law_counted.nd rfl (.inr rfl) (pe_lc (own := [("_law_sign", 10)]) (g := gName 10) (by rfl) sc_law_counted.nd (pi_str (pv 1)) (blkOk_by (own := [("_law_sign", 10)]) (N := ["_law_bylaws", "_law_chars", "_law_every", "_law_by_pair", "_law_by_place", "_law_fold", "_law_worth_here", "_law_some", "_law_taken", "_law_row", "_law_sign", "_law_two", "_law_k"]) (sc := defScope s_law_counted) (by decide +kernel)) (fun _ _ _ _ _ => (pg_name (i := 10) sc_law_counted.nd rfl (.inl rfl))) (fun _ _ _ _ _ => pts_nil) (fun _ _ _ _ _ => pe_dnewK)))
      (pss_cons (ps_for PassesOwn.never rfl (pi_list (pe_ca c_law_all (hr.mono (by decide)) (by rfl) (pa_cons (pv 0) (pa_cons (pv 1) (pa_cons pe_int (pa_cons (pe_callB call_len_str (by rfl) mlen (by decide +kernel) (pa_cons (pv 1) pa_nil)) pa_nil)))))) (pg_name (i := 5) sc_law_counted.nd rfl (.inl rfl)) (pss_cons (ps_set (i := 6) sc_law_counted.nd rfl (.inl rfl) (pe_ca c_law_worth_of (hr.mono (by decide)) (by rfl) (pa_cons (pv 0) (pa_cons (pv 1) (pa_cons (pv 5) pa_nil)))))
      (pss_cons (ps_set (i := 7) sc_law_counted.nd rfl (.inl rfl) (pe_op op_cat (pe_lst (pa_cons (pv 2) pa_nil)) (pe_lc (own := [("_law_two", 11)]) (g := gName 11) (by rfl) sc_law_counted.nd (pi_tup (pv 5)) (blkOk_by (own := [("_law_two", 11)]) (N := ["_law_bylaws", "_law_chars", "_law_every", "_law_by_pair", "_law_by_place", "_law_fold", "_law_worth_here", "_law_some", "_law_taken", "_law_row", "_law_sign", "_law_two", "_law_k"]) (sc := defScope s_law_counted) (by decide +kernel)) (fun _ _ _ _ _ => (pg_name (i := 11) sc_law_counted.nd rfl (.inl rfl))) (fun _ _ _ _ _ => pts_nil) (fun _ _ _ _ _ => (pe_sdT (pv 3) (pa_cons (pv 11) (pa_cons pe_dnewK pa_nil)) hr.units)))))
      (pss_cons (ps_set (i := 8) sc_law_counted.nd rfl (.inr rfl) (pe_op op_cat (pe_lc (own := [("_law_two", 11)]) (g := gName 11) (by rfl) sc_law_counted.nd (pi_tup (pv 5)) (blkOk_by (own := [("_law_two", 11)]) (N := ["_law_bylaws", "_law_chars", "_law_every", "_law_by_pair", "_law_by_place", "_law_fold", "_law_worth_here", "_law_some", "_law_taken", "_law_row", "_law_sign", "_law_two", "_law_k"]) (sc := defScope s_law_counted) (by decide +kernel)) (fun _ _ _ _ _ => (pg_name (i := 11) sc_law_counted.nd rfl (.inl rfl))) (fun _ _ _ _ _ => pts_nil) (fun _ _ _ _ _ => (pe_ix (ixT K) (pv 11) pe_int (fun _ _ => rfl)))) (pe_lc (own := [("_law_two", 11)]) (g := gName 11) (by rfl) sc_law_counted.nd (pi_tup (pv 5)) (blkOk_by (own := [("_law_two", 11)]) (N := ["_law_bylaws", "_law_chars", "_law_every", "_law_by_pair", "_law_by_place", "_law_fold", "_law_worth_here", "_law_some", "_law_taken", "_law_row", "_law_sign", "_law_two", "_law_k"]) (sc := defScope s_law_counted) (by decide +kernel)) (fun _ _ _ _ _ => (pg_name (i := 11) sc_law_counted.nd rfl (.inl rfl))) (fun _ _ _ _ _ => pts_nil) (fun _ _ _ _ _ => (pe_ix (ixT K) (pv 11) pe_int (fun _ _ => rfl))))))
      (pss_one (ps_for PassesOwn.never rfl (pi_list (pe_op op_cat (pv 7) (pe_lc (own := [("_law_k", 12)]) (g := gName 12) (by rfl) sc_law_counted.nd (pi_range1 (by rfl) mrange (pa_cons (pe_callB call_len_str (by rfl) mlen (by decide +kernel) (pa_cons (pv 1) pa_nil)) pa_nil)) (blkOk_by (own := [("_law_k", 12)]) (N := ["_law_bylaws", "_law_chars", "_law_every", "_law_by_pair", "_law_by_place", "_law_fold", "_law_worth_here", "_law_some", "_law_taken", "_law_row", "_law_sign", "_law_two", "_law_k"]) (sc := defScope s_law_counted) (by decide +kernel)) (fun _ _ _ _ _ => (pg_name (i := 12) sc_law_counted.nd rfl (.inl rfl))) (fun _ _ _ _ _ => (pts_one (pt_cmpR (notInSeq K) (pv 12) (pv 8) (by rfl)))) (fun _ _ _ _ _ => (pe_ix (ixL K) (pv 4) (pv 12) (fun _ _ => rfl)))))) (pg_name (i := 9) sc_law_counted.nd rfl (.inl rfl)) (pss_one (ps_dput (hu_of hr) (pv 9) (pv 6) (pe_op op_add (pe_dget2 (hu_of hr) (pv 9) (pv 6) pe_int ⟨by rfl, by rfl, by rfl, by rfl⟩) pe_int) rfl))))))))
      (pss_one (ps_ret (pe_tup (pa_cons (pv 2) (pa_cons (pv 3) (pa_cons (pv 4) pa_nil)))))))))), ?_⟩
    refine fun e he => ?_
    refine fun bp hbp => ?_
    have xe := Ext.new (o := .dK []) he
    have xbp := Ext.new (o := .dT []) hbp
    have hebp : (upd (upd H e (.dK [])) bp (.dT [])) e = some (.dK []) := xbp _ _ upd_same
    have hbp2 : (upd (upd H e (.dK [])) bp (.dT [])) bp = some (.dT []) := upd_same
    have x02 := xe.trans xbp
    generalize upd (upd H e (.dK [])) bp (.dT []) = H2 at hebp hbp2 x02 ⊢
    refine ⟨_, rfl, x, rfl, fun l hl => lc_str (fun j H3 => ∃ as : List Addr, as.length = j ∧ H3 l = some (.lst (as.map V.ref)) ∧ as.Nodup ∧ (∀ a ∈ as, H2 a = none ∧ H3 a = some (.dK [])) ∧ Ext H2 H3)
      ⟨[], rfl, upd_same, List.nodup_nil, (fun a ha => by cases ha), Ext.new hl⟩ (fun j ch H3 hj hv => ?_) (fun H3 hv => ?_)⟩
    · obtain ⟨as, hal, hL, hnd, hasn, k3⟩ := hv
      have hjs : j < x.length := (Array.getElem?_eq_some_iff.mp hj).1
      refine ⟨rfl, fun d hd => ?_⟩
      have xd := Ext.new (o := .dK []) hd
      refine ⟨_, xd _ _ hL, szLt (by rw [List.length_map]; omega), as ++ [d], by rw [List.length_append, List.length_singleton, hal], by rw [upd_same, List.map_append]; rfl, List.nodup_append.mpr ⟨hnd, by simp, fun a ha b hb => ?_⟩, fun a ha => ?_, (k3.trans xd).put hl⟩
      · have : b = d := by simpa using hb
        rw [this]
        exact ne_of_none (hasn a ha).2 hd
      · rcases List.mem_append.mp ha with ha | ha
        · have h3 := xd _ _ (hasn a ha).2
          exact ⟨(hasn a ha).1, by rw [upd_ne (ne_of h3 (xd _ _ hL) (by intro z; cases z))]; exact h3⟩
        · rw [List.mem_singleton.mp ha]
          refine ⟨k3.none hd, ?_⟩
          rw [upd_ne (ne_of_none hL hd).symm, upd_same]
    obtain ⟨as, hal, hlH, hnd, hasn, k3⟩ := hv
    have hal : as.length = x.length := hal
    have k03 := x02.trans k3
    have hx12 : x.length ≤ 12 := by omega
    refine ⟨_, rfl, _, rfl, _, rfl, x, rfl, szL (by omega), v, r, x, 0, _, rfl, RulesAt.mono _ _ _ _ (TupK.ext k03) hR, ok, hx12, by omega, by omega, by omega, by omega, fun la us H1 hla hL1 hP1 k1 => ?_⟩
    rw [show ((x.length : Int) - 0).toNat = x.length by omega] at hP1
    have k01 := k03.trans k1
    have hR1 := RulesAt.mono _ _ _ _ (TupK.ext k01) hR
    have heK : ∃ k, H1 e = some (.dK k) := ⟨_, (k3.trans k1) _ _ hebp⟩
    have hbpK : ∃ k, H1 bp = some (.dT k) := ⟨_, (k3.trans k1) _ _ hbp2⟩
    have haK : ∀ a ∈ as, ∃ k, H1 a = some (.dK k) := fun a ha => ⟨_, k1 _ _ (hasn a ha).2⟩
    have hlH1 := k1 _ _ hlH
    obtain ⟨WL, hWL⟩ : ∃ WL, WL = WA r x x.length 0 := ⟨_, rfl⟩
    rw [← hWL] at hP1
    have hWlen : WL.length ≤ 2188 := by rw [hWL]; exact WA_len10 r x hx 0
    have hul := paired_len hP1
    have c0 : Ct H1 H1 e bp as [] (tal r x []) := by
      refine ⟨fun _ _ _ _ _ h => h, fun k a h => ?_, fun k k' a h h' => ?_, (fun y hy => by cases hy), (k3.trans k1) _ _ hbp2, List.nodup_nil⟩
      · cases k with
        | all => exact ⟨[], (show a = e from h) ▸ (k3.trans k1) _ _ hebp, TyIs.nil⟩
        | pr p => cases h
        | pl i => exact ⟨[], k1 _ _ (hasn a (List.mem_of_getElem? h)).2, TyIs.nil⟩
      · have nea : ∀ i, as[i]? = some e → False := fun i hi => by
          have := (hasn e (List.mem_of_getElem? hi)).1
          rw [hebp] at this
          cases this
        cases k with
        | all =>
          cases k' with
          | all => rfl
          | pr p => cases h'
          | pl i =>
            have : a = e := h
            subst this
            exact (nea i h').elim
        | pr p => cases h
        | pl i =>
          cases k' with
          | all =>
            have : a = e := h'
            subst this
            exact (nea i h).elim
          | pr p => cases h'
          | pl j =>
            have h1 : as[i]? = some a := h
            have h2 : as[j]? = some a := h'
            have l1 := (List.getElem?_eq_some_iff.mp h1).1
            rw [show i = j from (List.getElem?_inj l1 hnd).mp (h1.trans h2.symm)]
    refine ⟨la, rfl, ⟨_, SqL.of hL1⟩, for_list (K := K) (xs := us) (fun n σ H2 => ∃ (y5 y6 y7 y8 y9 : Option V) (pl : List ((Int × Int) × Addr)), σ = [some v, some (.str x), some (.ref e), some (.ref bp), some (.ref l), y5, y6, y7, y8, y9, none, none, none] ∧ Ct H1 H2 e bp as pl (tal r x (WL.take n)) ∧ (∀ p, p ∈ pl.map (·.1) ↔ ∃ q ∈ WL.take n, p ∈ q))
      ⟨none, none, none, none, none, [], rfl, by rw [List.take_zero]; exact c0, fun p => ⟨fun h => (by cases h), fun ⟨q, hq, _⟩ => (by rw [List.take_zero] at hq; cases hq)⟩⟩ (fun n σ H2 _ h => by
        obtain ⟨_, _, _, _, _, _, _, c, _⟩ := h
        exact SqL.of (c.ls heK hbpK haK hL1)) (fun n u σ H2' hn hv => ?_) (fun σ H2' hv => ?_)⟩
    · obtain ⟨y5, y6, y7, y8, y9, pl, rfl, c, hpk⟩ := hv
      obtain ⟨q0, hq0, t, fs, rfl, hT1, hF1⟩ := paired_get hP1 hn
      have hq0m : q0 ∈ WA r x x.length 0 := hWL ▸ List.mem_of_getElem? hq0
      have tk := c.tk heK hbpK haK
      have hT := tk.1 _ _ hT1
      have hF := paired_imp (fun _ _ => TwoAt.mono _ _ _ _ tk) hF1
      have hfl := paired_len hF
      have hfl5 : fs.length ≤ 6 := by
        have := (WA_in r x x.length 0 q0 hq0m).2
        omega
      refine ⟨_, rfl, _, rfl, _, rfl, v, .ref t, r, x, q0, rfl, RulesAt.mono _ _ _ _ tk hR1, ok, hx12, hsx, ⟨t, fs, rfl, hT, hF⟩, hq0m, fun H4 k4 => ?_⟩
      obtain ⟨wq, hwq⟩ : ∃ wq, wq = woV r x q0 := ⟨_, rfl⟩
      have c4 := c.ext k4
      have hT4 := k4 _ _ hT
      have hF4 := paired_imp (fun _ _ => TwoAt.mono _ _ _ _ (TupK.ext k4)) hF
      -- [every] + [the pairs']
      refine ⟨_, rfl, szL (show 1 ≤ 1000000 by decide), fun l1 hl1 => ?_⟩
      have c5 := c4.ext (Ext.new (o := .lst [.ref e]) hl1)
      have hl1' : (upd H4 l1 (.lst [.ref e])) l1 = some (.lst [.ref e]) := upd_same
      have hT5 := Ext.new (o := .lst [.ref e]) hl1 _ _ hT4
      have hF5 := paired_imp (fun _ _ => TwoAt.mono _ _ _ _ (TupK.new (o := .lst [.ref e]) hl1)) hF4
      have hl1n := c4.nn hl1
      generalize upd H4 l1 (.lst [.ref e]) = H5 at c5 hl1' hT5 hF5 ⊢
      refine ⟨_, rfl, t, rfl, ⟨_, SqT.of hT5⟩, fun D hD => lc_tup (K := K) (xs := fs) (fun j H6 => ∃ (pl : List ((Int × Int) × Addr)) (As : List Addr), Ct H1 H6 e bp as pl (tal r x (WL.take n)) ∧ (∀ p, p ∈ pl.map (·.1) ↔ (∃ q ∈ WL.take n, p ∈ q) ∨ p ∈ q0.take j) ∧ Paired (fun a p => (p, a) ∈ pl) As (q0.take j) ∧ H6 D = some (.lst (As.map V.ref)) ∧ But bp H5 H6)
        ⟨pl, [], c5.ext (Ext.new hD), fun p => by rw [List.take_zero]; exact ⟨fun h => .inl ((hpk p).mp h), fun h => h.elim (hpk p).mpr (fun h => by cases h)⟩, by rw [List.take_zero]; exact .nil, upd_same, fun b o _ h2 => Ext.new hD _ _ h2⟩ (fun j H6 _ h => by
          obtain ⟨_, _, _, _, _, _, b6⟩ := h
          have h7 := b6 t _ (ne_of hT5 c5.bpH (by intro z; cases z)) hT5
          exact SqT.of h7) (fun j u H6 hj hv => ?_) (fun H6 hv => ?_)⟩
      · obtain ⟨pl, As, c6, hpk6, hAs, hD6, b6⟩ := hv
        obtain ⟨p, hp, b, rfl, hb5⟩ := paired_get hF5 hj
        have hb6 := b6 b _ (ne_of hb5 c5.bpH (by intro z; cases z)) hb5
        have hDn := c5.nn hD
        have hjl : j < fs.length := (List.getElem?_eq_some_iff.mp hj).1
        have hAl : As.length ≤ j := by
          have := paired_len hAs
          rw [List.length_take] at this
          omega
        have hpl : pl.length ≤ 144 := pl_len c6.pn fun p hp => by
          rcases (hpk6 p).mp hp with ⟨q, hq, hpq⟩ | hq
          · have := (WA_in r x x.length 0 q (hWL ▸ List.mem_of_mem_take hq)).1 p hpq
            omega
          · have := (WA_in r x x.length 0 q0 hq0m).1 p (List.mem_of_mem_take hq)
            omega
        have hbut : ∀ {b : Addr} {o : HO} {ys : List V} {H7 : Hp}, Ext H6 H7 → b ≠ bp → H5 b = some o → upd H7 D (.lst ys) b = some o := fun k h1 h2 => by
          rw [upd_ne (ne_of_none h2 hD)]
          exact k _ _ (b6 _ _ h1 h2)
        refine ⟨wp1 _ _ (by decide), _, rfl, ⟨bp, _, rfl, c6.bpH⟩, _, rfl, fun d hd => ?_⟩
        have xd := Ext.new (o := .dK []) hd
        refine ⟨bp, b, kyT p, .ref d, _, rfl, rfl, xd _ _ c6.bpH, xd _ _ hb6, szLt (by rw [List.length_map]; omega), fun u hu => ?_, fun hu => ?_⟩
        · rcases val_pl p pl with ⟨a, ha, hv⟩ | ⟨hn, hv⟩
          · rw [hv] at hu
            cases hu
            have hD7 := xd _ _ hD6
            refine ⟨_, hD7, szLt (by rw [List.length_map]; omega), pl, As ++ [a], (c6.ext xd).putL hD7 hDn, fun p' => ?_, ?_, by rw [upd_same, List.map_append]; rfl, fun b o h1 h2 => hbut xd h1 h2⟩
            · rw [hpk6 p', List.take_add_one, hp, List.mem_append]
              constructor
              · exact fun h => h.elim .inl fun h => .inr (.inl h)
              · rintro (h | h | h)
                · exact .inl h
                · exact .inr h
                · have : p' = p := by simpa using h
                  subst this
                  exact (hpk6 p').mp (List.mem_map.mpr ⟨_, ha, rfl⟩)
            · rw [List.take_add_one, hp]
              exact hAs.snoc ha
          · rw [hv] at hu
            cases hu
        · rcases val_pl p pl with ⟨a, ha, hv⟩ | ⟨hn, hv⟩
          · rw [hv] at hu
            cases hu
          · have hF0 : tal r x (WL.take n) (.pr p) = [] := by
              unfold tal
              have hnil : (WL.take n).filter (fun q => hitB q (.pr p)) = [] := List.filter_eq_nil_iff.mpr fun q hq h => hn ((hpk6 p).mpr (.inl ⟨q, hq, of_decide_eq_true h⟩))
              rw [hnil]
              rfl
            have c7 := c6.grow hn hd hF0
            have nDb : D ≠ bp := ne_of hD6 c6.bpH (by intro z; cases z)
            have hD7 : (upd (upd H6 d (.dK [])) bp (.dT (pl.map encT ++ [(kyT p, .ref d)]))) D = some (.lst (As.map V.ref)) := by
              rw [upd_ne nDb]
              exact xd _ _ hD6
            refine ⟨_, hD7, szLt (by rw [List.length_map]; omega), pl ++ [(p, d)], As ++ [d], c7.putL hD7 hDn, fun p' => ?_, ?_, by rw [upd_same, List.map_append]; rfl, fun b o h1 h2 => ?_⟩
            · rw [List.map_append, List.mem_append, hpk6 p', List.take_add_one, hp, List.mem_append]
              show (_ ∨ p' ∈ [p]) ↔ (_ ∨ (_ ∨ p' ∈ [p]))
              rw [or_assoc]
            · rw [List.take_add_one, hp]
              exact (paired_imp (fun _ _ h => List.mem_append_left _ h) hAs).snoc (List.mem_append_right _ (List.mem_singleton.mpr rfl))
            · rw [upd_ne (ne_of_none h2 hD), upd_ne h1]
              exact xd _ _ (b6 _ _ h1 h2)
      obtain ⟨pl, As, c6, hpk6, hAs, hD6, b6⟩ := hv
      have etk : q0.take fs.length = q0 := List.take_of_length_le (by omega)
      rw [etk] at hAs hpk6
      have hAl := paired_len hAs
      have hl16 := b6 l1 _ (ne_of hl1' c5.bpH (by intro z; cases z)) hl1'
      have hT6 := b6 t _ (ne_of hT5 c5.bpH (by intro z; cases z)) hT5
      have hF6 : Paired (TwoAt H6) fs q0 := paired_imp (fun u p h => by
        obtain ⟨b, rfl, hb⟩ := h
        exact ⟨b, rfl, b6 b _ (ne_of hb c5.bpH (by intro z; cases z)) hb⟩) hF5
      refine ⟨l1, D, _, _, rfl, rfl, hl16, hD6, szL (by rw [List.length_map, List.length_singleton]; omega), fun l2 hl2 => ?_⟩
      have x7 := Ext.new (o := .lst ([.ref e] ++ As.map V.ref)) hl2
      have hl27 : (upd H6 l2 (.lst ([.ref e] ++ As.map V.ref))) l2 = some (.lst ([.ref e] ++ As.map V.ref)) := upd_same
      have c7 := c6.ext x7
      have hT7 := x7 _ _ hT6
      have hF7 := paired_imp (fun _ _ => TwoAt.mono _ _ _ _ (TupK.ext x7)) hF6
      refine ns_eq (σ' := [some v, some (.str x), some (.ref e), some (.ref bp), some (.ref l), some (.ref t), some (.int wq), some (.ref l2), y8, y9, none, none, none]) (by rw [hwq]; rfl) ?_
      generalize upd H6 l2 (.lst ([.ref e] ++ As.map V.ref)) = H7 at hl27 c7 hT7 hF7 ⊢
      -- taken
      refine ⟨_, rfl, t, rfl, ⟨_, SqT.of hT7⟩, fun D1 hD1 => lc_tup (K := K) (xs := fs) (fun j H8 => H8 D1 = some (.lst (((q0.take j).map (·.1)).map V.int)) ∧ Ext H7 H8)
        ⟨upd_same, Ext.new hD1⟩ (fun j H8 _ h => SqT.of (h.2 _ _ hT7)) (fun j u H8 hj hv => ?_) (fun H8 hv => ?_)⟩
      · obtain ⟨hL, k⟩ := hv
        obtain ⟨p, hp, b, rfl, hb⟩ := paired_get hF7 hj
        refine ⟨wp1 _ _ (by decide), _, rfl, b, _, 0, _, rfl, rfl, SqT.of (k _ _ hb), rfl, _, hL, szLt (by rw [List.length_map, List.length_map, List.length_take]; omega), ?_, k.put hD1⟩
        rw [upd_same, List.take_add_one, hp, List.map_append, List.map_append]
        rfl
      obtain ⟨hL8, k8⟩ := hv
      rw [etk] at hL8
      have hT8 := k8 _ _ hT7
      have hF8 := paired_imp (fun _ _ => TwoAt.mono _ _ _ _ (TupK.ext k8)) hF7
      refine ⟨_, rfl, t, rfl, ⟨_, SqT.of hT8⟩, fun D2 hD2 => lc_tup (K := K) (xs := fs) (fun j H9 => H9 D2 = some (.lst (((q0.take j).map (·.2)).map V.int)) ∧ Ext H8 H9)
        ⟨upd_same, Ext.new hD2⟩ (fun j H9 _ h => SqT.of (h.2 _ _ hT8)) (fun j u H9 hj hv => ?_) (fun H9 hv => ?_)⟩
      · obtain ⟨hL, k⟩ := hv
        obtain ⟨p, hp, b, rfl, hb⟩ := paired_get hF8 hj
        refine ⟨wp1 _ _ (by decide), _, rfl, b, _, 1, _, rfl, rfl, SqT.of (k _ _ hb), rfl, _, hL, szLt (by rw [List.length_map, List.length_map, List.length_take]; omega), ?_, k.put hD2⟩
        rw [upd_same, List.take_add_one, hp, List.map_append, List.map_append]
        rfl
      obtain ⟨hL9, k9⟩ := hv
      rw [etk] at hL9
      refine ⟨D1, D2, _, _, rfl, rfl, k9 _ _ hL8, hL9, szL (by rw [List.length_map, List.length_map, List.length_map, List.length_map]; omega), fun l3 hl3 => ?_⟩
      have x10 := Ext.new (o := .lst ((q0.map (·.1)).map V.int ++ (q0.map (·.2)).map V.int)) hl3
      have hl310 : (upd H9 l3 (.lst ((q0.map (·.1)).map V.int ++ (q0.map (·.2)).map V.int))) l3 = some (.lst ((takenL q0).map V.int)) := by
        rw [upd_same]
        unfold takenL
        rw [List.map_append]
      have x7t := (k8.trans k9).trans x10
      refine ns_eq (σ' := [some v, some (.str x), some (.ref e), some (.ref bp), some (.ref l), some (.ref t), some (.int wq), some (.ref l2), some (.ref l3), y9, none, none, none]) rfl ?_
      generalize upd H9 l3 (.lst ((q0.map (·.1)).map V.int ++ (q0.map (·.2)).map V.int)) = H10 at hl310 x7t ⊢
      have c10 := c7.ext x7t
      have hl10 : H10 l = some (.lst (as.map V.ref)) := c10.ls heK hbpK haK hlH1
      have hl210 := x7t _ _ hl27
      -- the rows
      refine ⟨_, rfl, _, rfl, x, rfl, szL (by omega), (x.length : Int), rfl, by omega, by omega, fun D3 hD3 => lc_range (n := x.length) (fun j H11 => ∃ bs : List Addr, H11 D3 = some (.lst (bs.map V.ref)) ∧ Paired (fun a i => as[i]? = some a) bs ((List.range j).filter fun i => hitB q0 (.pl i)) ∧ Ext H10 H11)
        ⟨[], upd_same, .nil, Ext.new hD3⟩ (fun j H11 hj hv => ?_) (fun H11 hv => ?_)⟩
      · obtain ⟨bs, hL, hbs, k⟩ := hv
        have hbl : bs.length ≤ j := by
          have h1 := paired_len hbs
          have h2 := List.length_filter_le (fun i => hitB q0 (.pl i)) (List.range j)
          rw [List.length_range] at h2
          omega
        refine ⟨wp1 _ _ (by decide), _, rfl, _, rfl, l3, _, rfl, .inl (SqL.of (k _ _ hl310)), rfl, ?_, _, rfl, ?_⟩
        · rw [List.all_map]
          exact List.all_eq_true.mpr fun z _ => rfl
        rw [inV_int, show (0 : Int) + (j : Int) = (j : Int) by omega]
        have eh : hitB q0 (.pl j) = !decide ((j : Int) ∈ takenL q0) := by
          show decide (¬ ((j : Int) ∈ takenL q0)) = _
          rw [decide_not]
        refine ite2 (fun e1 => ?_) (fun e1 => ?_)
        · have e1 : hitB q0 (.pl j) = true := by rw [eh]; exact e1
          obtain ⟨a, ha⟩ : ∃ a, as[j]? = some a := ⟨_, List.getElem?_eq_getElem (by omega)⟩
          refine ⟨_, rfl, _, rfl, l, _, _, .ref a, rfl, rfl, SqL.of (k _ _ hl10), at_z0 (show (as.map V.ref)[j]? = some (.ref a) by rw [List.getElem?_map, ha]; rfl), _, hL, szLt (by rw [List.length_map]; omega), bs ++ [a], by rw [upd_same, List.map_append]; rfl, ?_, k.put hD3⟩
          rw [List.range_succ, List.filter_append, List.filter_cons_of_pos (p := fun i => hitB q0 (.pl i)) e1]
          exact hbs.snoc ha
        · refine ⟨bs, hL, ?_, k⟩
          rw [List.range_succ, List.filter_append, List.filter_cons_of_neg (p := fun i => hitB q0 (.pl i)) (by rw [eh]; exact e1), List.filter_nil, List.append_nil]
          exact hbs
      obtain ⟨bs, hL11, hbs, k11⟩ := hv
      have hbl : bs.length ≤ 10 := by
        have h1 := paired_len hbs
        have h2 := List.length_filter_le (fun i => hitB q0 (.pl i)) (List.range x.length)
        rw [List.length_range] at h2
        omega
      refine ⟨l2, D3, _, _, rfl, rfl, k11 _ _ hl210, hL11, szL (by rw [List.length_append, List.length_map, List.length_map, List.length_singleton]; omega), fun l4 hl4 => ?_⟩
      have x12 := k11.trans (Ext.new (o := .lst ([.ref e] ++ As.map V.ref ++ bs.map V.ref)) hl4)
      have hl412 : (upd H11 l4 (.lst ([.ref e] ++ As.map V.ref ++ bs.map V.ref))) l4 = some (.lst ((e :: (As ++ bs)).map V.ref)) := by
        rw [upd_same, List.map_cons, List.map_append]
        rfl
      have c12 := c10.ext x12
      generalize upd H11 l4 (.lst ([.ref e] ++ As.map V.ref ++ bs.map V.ref)) = H12 at x12 hl412 c12 ⊢
      have hPA : Paired (fun a k => TTk e pl as k a) (e :: (As ++ bs)) (kyL q0 x.length) := .cons rfl (paired_app (paired_mapR (f := Ky.pr) (fun _ _ h => h) hAs) (paired_mapR (f := Ky.pl) (fun _ _ h => h) hbs))
      have hAn := paired_len hPA
      have hkn := kyL_nd (fold_nd hq0m) x.length
      refine ⟨l4, rfl, ⟨_, SqL.of hl412⟩, for_list (K := K) (xs := (e :: (As ++ bs)).map V.ref) (fun c σ H13 => ∃ y9 : Option V, σ = [some v, some (.str x), some (.ref e), some (.ref bp), some (.ref l), some (.ref t), some (.int wq), some (.ref l2), some (.ref l3), y9, none, none, none] ∧ Ct H1 H13 e bp as pl (fun k => tal r x (WL.take n) k ++ if k ∈ (kyL q0 x.length).take c then [wq] else []) ∧ (∀ b xs, H12 b = some (.lst xs) → H13 b = some (.lst xs)))
        ⟨_, rfl, c12.congr fun k a _ => by rw [List.take_zero, if_neg (by simp), List.append_nil], fun _ _ h => h⟩ (fun c σ H13 _ h => by
          obtain ⟨_, _, _, h⟩ := h
          exact SqL.of (h _ _ hl412)) (fun c u σ H13 hc hv => ?_) (fun σ H13 hv => ?_)⟩
      · obtain ⟨y9, rfl, c13, hls⟩ := hv
        rw [List.getElem?_map] at hc
        obtain ⟨a, hac, rfl⟩ := Option.map_eq_some_iff.mp hc
        obtain ⟨k, hk, hTk⟩ := paired_get hPA hac
        obtain ⟨kvs, ha, hTy⟩ := c13.ty k a hTk
        have hlen := hTy.len
        have htl := tal_len r x (WL.take n) k
        rw [List.length_take] at htl
        have hif : (if k ∈ (kyL q0 x.length).take c then [wq] else []).length ≤ 1 := by split <;> simp
        rw [List.length_append] at hlen
        refine ⟨_, rfl, a, rfl, .inl ⟨_, .inl ha⟩, _, rfl, _, DGet.k (k := .inl wq) ha, _, 1, hTy.get wq, rfl, _, rfl, _, rfl, a, _, rfl, DPut.k (k := .inl wq) ha (szLt (by omega)), ?_⟩
        refine ⟨some (.ref a), rfl, (c13.inc hTk ha hTy).congr fun k' a' _ => ?_, fun b xs h => ?_⟩
        · show (_ ++ _) ++ _ = _
          rw [List.append_assoc, if_take hkn hk]
        · have h13 := hls b xs h
          rw [upd_ne (ne_of h13 ha (by intro z; cases z))]
          exact h13
      · obtain ⟨y9, rfl, c13, hls⟩ := hv
        refine ⟨_, _, _, _, y9, pl, rfl, c13.congr fun k a hTk => ?_, fun p => ?_⟩
        · have etA : (kyL q0 x.length).take ((e :: (As ++ bs)).map V.ref).length = kyL q0 x.length := List.take_of_length_le (by rw [List.length_map]; omega)
          rw [etA, List.take_add_one, hq0]
          show _ = tal r x (WL.take n ++ [q0]) k
          rw [tal_snoc, ← hwq]
          congr 1
          by_cases hh : hitB q0 k = true
          · rw [if_pos hh, if_pos ((kyL_mem hal hTk).mpr hh)]
          · rw [if_neg hh, if_neg fun w => hh ((kyL_mem hal hTk).mp w)]
        · rw [hpk6 p, List.take_add_one, hq0]
          constructor
          · rintro (⟨q, hq, h⟩ | h)
            · exact ⟨q, List.mem_append_left _ hq, h⟩
            · exact ⟨q0, List.mem_append_right _ (List.mem_singleton.mpr rfl), h⟩
          · rintro ⟨q, hq, h⟩
            rcases List.mem_append.mp hq with hq | hq
            · exact .inl ⟨q, hq, h⟩
            · have : q = q0 := by simpa using hq
              subst this
              exact .inr h
    · obtain ⟨y5, y6, y7, y8, y9, pl, rfl, c, hpk⟩ := hv
      rw [List.take_of_length_le (by omega)] at c hpk
      refine ⟨_, rfl, _, rfl, _, rfl, szL (show 3 ≤ 1000000 by decide), fun t ht => q t _ e bp l as pl upd_same ((Cd.mk (by rw [hWL] at c; exact c.ty) c.bpH c.pn (by rw [hWL] at hpk; exact hpk) (c.ls heK hbpK haK hlH1) hal).ext (Ext.new ht)) fun b o hb => Ext.new ht _ _ (c.kp b o (ne_of_none hb he) (ne_of_none (xe _ _ hb) hbp) (fun m => ?_) (k01 _ _ hb))⟩
      have := (hasn b m).1
      rw [x02 _ _ hb] at this
      cases this
abbrev CCtd (P : Program) (w : World) (K : PySem.W.Frag) (mg : Str → Option Value) (base : Heap) : Prop := Ca P w K mg base 16 "_law_counted" ["_law_bylaws", "_law_chars"] spCtd
end
end Pf


namespace Pf
open PySem PySem.Spec PyProof.Rows L2
/-! ### repr of data with many great numbers: what is laid in it is counted, not how great it is -/
structure Bk (B m k : Nat) (d : PyData) : Prop where
  lay : d.canLay0 = true
  sho : d.showable = true
  ish : d.leavesShort B = true
  wt : d.bulk ≤ m
  dep : d.depth ≤ k
theorem Bk.int {i : Int} {B : Nat} (hB : 1 < B) (h9 : B ≤ 1900) (h : i.natAbs < 2 ^ B) : Bk (B + 1) 0 0 (.int i) := by
  have b := Bg.int hB h9 h
  exact ⟨b.lay, b.sho, b.ish, by simp [PyData.bulk], b.dep⟩
theorem Bk.le {B m k m' k' : Nat} {d : PyData} (h : Bk B m k d) (hm : m ≤ m') (hk : k ≤ k') : Bk B m' k' d := ⟨h.lay, h.sho, h.ish, Nat.le_trans h.wt hm, Nat.le_trans h.dep hk⟩
structure BkA (B m k : Nat) (ds : List PyData) : Prop where
  lay : PyData.canLayAll0 ds = true
  sho : PyData.showableAll ds = true
  ish : PyData.leavesShortAll B ds = true
  wt : PyData.bulkAll ds ≤ ds.length * (m + 1)
  dep : PyData.depthAll ds ≤ k
theorem BkA.of {B m k : Nat} : ∀ {ds : List PyData}, (∀ d ∈ ds, Bk B m k d) → BkA B m k ds
  | [], _ => ⟨by simp [PyData.canLayAll0], by simp [PyData.showableAll], by simp [PyData.leavesShortAll], by simp [PyData.bulkAll], by simp [PyData.depthAll]⟩
  | d :: ds, h => by
    have h1 := h d (List.mem_cons_self ..)
    have h2 := BkA.of (ds := ds) fun x hx => h x (List.mem_cons_of_mem _ hx)
    refine ⟨by simp [PyData.canLayAll0, h1.lay, h2.lay], by simp [PyData.showableAll, h1.sho, h2.sho], by simp [PyData.leavesShortAll, h1.ish, h2.ish], ?_, ?_⟩
    · have e1 := h1.wt
      have e2 := h2.wt
      simp only [PyData.bulkAll, List.length_cons, Nat.succ_mul]
      omega
    · simp only [PyData.depthAll]
      exact Nat.max_le.mpr ⟨h1.dep, h2.dep⟩
theorem Bk.lst {B n m k M : Nat} {ds : List PyData} (hn : ds.length ≤ n) (h : ∀ d ∈ ds, Bk B m k d) (hM : n * (m + 1) ≤ M) : Bk B M (k + 1) (.list ds) := by
  have a := BkA.of h
  have hw : ds.length * (m + 1) ≤ n * (m + 1) := Nat.mul_le_mul_right _ hn
  exact ⟨by simpa only [PyData.canLay0] using a.lay, by simpa only [PyData.showable] using a.sho, by simpa only [PyData.leavesShort] using a.ish, by simp only [PyData.bulk]; exact Nat.le_trans a.wt (Nat.le_trans hw hM), by simp only [PyData.depth]; exact Nat.succ_le_succ a.dep⟩
theorem Bk.tup {B n m k M : Nat} {ds : List PyData} (hn : ds.length ≤ n) (h : ∀ d ∈ ds, Bk B m k d) (hM : n * (m + 1) ≤ M) : Bk B M (k + 1) (.tuple ds) := by
  have a := BkA.of h
  have hw : ds.length * (m + 1) ≤ n * (m + 1) := Nat.mul_le_mul_right _ hn
  exact ⟨by simpa only [PyData.canLay0] using a.lay, by simpa only [PyData.showable] using a.sho, by simpa only [PyData.leavesShort] using a.ish, by simp only [PyData.bulk]; exact Nat.le_trans a.wt (Nat.le_trans hw hM), by simp only [PyData.depth]; exact Nat.succ_le_succ a.dep⟩
theorem Bk.short {B m k : Nat} {d : PyData} (h : Bk B m k d) (hB : 8 ≤ B) (hm : (B + 2) * m + B ≤ 15000000) : d.shown.length ≤ sizeLine := by
  have h1 := PyData.shown_le_bulk B hB d h.ish
  have h2 : (B + 2) * d.bulk ≤ (B + 2) * m := Nat.mul_le_mul_left _ h.wt
  rw [sizeLine_eq]
  omega
def rShowK (K : PySem.W.Frag) : List V → Hp → VK → Prop := fun xs H Q => ∃ v d B m k, xs = [v] ∧ Dp K H v d ∧ Bk B m k d ∧ 8 ≤ B ∧ (B + 2) * m + B ≤ 15000000 ∧ k ≤ 50 ∧ Q (.str d.shown) H
theorem call_showK (K : PySem.W.Frag) {X : Cx} (hg : X.A.guards = some []) (hu : X.A.units + 64 < cLine) (hK : X.K = K := by rfl) : CallR X (.builtin "repr") (rShowK K) := by
  subst hK
  intro pins s σ H xs us Q I r h
  obtain ⟨v, d, B, m, k, rfl, hd, sh, hB, hm, hk, q⟩ := h
  have hdep := sh.dep
  have hz := sh.short hB hm
  cases hd with
  | non =>
    obtain ⟨u, rfl, rfl⟩ := vals1 r
    exact PySem.P.repr_of_none ⟨.str _, H, I.tok _, ⟨_, rfl⟩, by simpa only [PyData.shown] using q⟩
  | bl b =>
    obtain ⟨u, rfl, rfl⟩ := vals1 r
    refine PySem.P.repr_of_bool ⟨.str _, H, I.tok _, ⟨_, rfl⟩, ?_⟩
    simp only [PyData.shown] at q
    cases b <;> exact q
  | int i =>
    obtain ⟨u, rfl, t, rfl⟩ := vals1 r
    have hi : i.natAbs.log2 < 1920 := by simpa [PyData.showable] using sh.sho
    exact PySem.P.repr_of_int hi ⟨.str _, H, I.tok _, ⟨_, rfl⟩, by simpa only [PyData.shown] using q⟩
  | str x =>
    obtain ⟨u, rfl, t, rfl⟩ := vals1 r
    simp only [PyData.shown] at q hz
    exact PySem.P.repr_of_str ⟨.str _, H, I.tok _, ⟨_, rfl⟩, q⟩ hz
  | @lst a ys ds hs hds =>
    obtain ⟨u, rfl, rfl⟩ := vals1 r
    obtain ⟨as, rd⟩ := Dp.reads I _ _ _ (Dp.lst hs hds) (show RelV (.ref a) (.ref a) from rfl)
    exact PySem.repr_of_reads' rd sh.sho (PyData.noDict_hsm (PyData.hasDict_of_canLay _ sh.lay)) hg (by omega) (fun _ _ e => e) (fun h' u tk keep => ⟨.str _, H, I.kept keep, ⟨_, rfl⟩, q⟩) hz
  | @tup a ys ds hs hds =>
    obtain ⟨u, rfl, rfl⟩ := vals1 r
    obtain ⟨as, rd⟩ := Dp.reads I _ _ _ (Dp.tup hs hds) (show RelV (.ref a) (.ref a) from rfl)
    exact PySem.repr_of_reads' rd sh.sho (PyData.noDict_hsm (PyData.hasDict_of_canLay _ sh.lay)) hg (by omega) (fun _ _ e => e) (fun h' u tk keep => ⟨.str _, H, I.kept keep, ⟨_, rfl⟩, q⟩) hz
end Pf


namespace Pf
open PySem PySem.Spec PyProof.Rows L2
/-! ### pairs in order -/
def le2 (p q : Int × Int) : Bool := decide (p.1 < q.1 ∨ (p.1 = q.1 ∧ p.2 ≤ q.2))
def srt (ps : List (Int × Int)) : List (Int × Int) := ps.mergeSort le2
theorem le2_trans (a b c : Int × Int) (h1 : le2 a b = true) (h2 : le2 b c = true) : le2 a c = true := by
  have h1 := of_decide_eq_true h1
  have h2 := of_decide_eq_true h2
  exact decide_eq_true (by omega)
theorem le2_total (a b : Int × Int) : (le2 a b || le2 b a) = true := by
  rw [Bool.or_eq_true]
  by_cases h : a.1 < b.1 ∨ (a.1 = b.1 ∧ a.2 ≤ b.2)
  · exact .inl (decide_eq_true h)
  · exact .inr (decide_eq_true (by omega))
theorem srt_unique {L M : List (Int × Int)} (h1 : L.Pairwise (fun a b => le2 a b = true)) (h2 : M.Pairwise (fun a b => le2 a b = true)) (h : L.Perm M) : L = M :=
  List.Perm.eq_of_pairwise (fun a b _ _ x y => by
    have x := of_decide_eq_true x
    have y := of_decide_eq_true y
    exact Prod.ext (by omega) (by omega)) h1 h2 h
theorem srt_pw (ps : List (Int × Int)) : (srt ps).Pairwise (fun a b => le2 a b = true) := List.pairwise_mergeSort le2_trans le2_total ps
theorem srt_perm {F ps : List (Int × Int)} (h : F.Perm ps) : srt F = srt ps :=
  srt_unique (srt_pw F) (srt_pw ps) (((List.mergeSort_perm F le2).trans h).trans (List.mergeSort_perm ps le2).symm)
theorem paired_of {H : Hp} : ∀ {bes : List (Addr × (Int × Int))}, (∀ x ∈ bes, H x.1 = some (.tup [.int x.2.1, .int x.2.2])) → Paired (TwoAt H) (bes.map fun x => V.ref x.1) (bes.map (·.2))
  | [], _ => .nil
  | x :: r, h => .cons ⟨x.1, rfl, h x (List.mem_cons_self ..)⟩ (paired_of fun y hy => h y (List.mem_cons_of_mem _ hy))
theorem keysT_zip {H : Hp} : ∀ {kvs : List (List Key × V)} {bs : List Addr} {ps : List (Int × Int)}, IsKeys H kvs bs → kvs.map (·.1) = ps.map kyT → ∃ bes : List (Addr × (Int × Int)), bs = bes.map (·.1) ∧ bes.map (·.2) = ps ∧ ∀ x ∈ bes, H x.1 = some (.tup [.int x.2.1, .int x.2.2])
  | [], _, ps, .nil, e => by
    cases ps with
    | nil => exact ⟨[], rfl, rfl, fun x h => by cases h⟩
    | cons _ _ => cases e
  | kv :: kvs, b :: bs, ps, .cons r t, e => by
    cases ps with
    | nil => cases e
    | cons p ps =>
      rw [List.map_cons, List.map_cons] at e
      injection e with e1 e2
      obtain ⟨bes, h1, h2, h3⟩ := keysT_zip (ps := ps) t e2
      refine ⟨(b, p) :: bes, by rw [List.map_cons, h1], by rw [List.map_cons, h2], fun x hx => ?_⟩
      rcases List.mem_cons.mp hx with rfl | hx
      · have r : H b = some (.tup (kv.1.map kV)) := r
        rw [e1] at r
        exact r
      · exact h3 x hx
/-- sorted(d), the keys pairs of numbers -/
theorem sort_keysT {K : PySem.W.Frag} {H : Hp} {d : Addr} {kvs : List (List Key × V)} {ps : List (Int × Int)} {Q : VK} (hd : H d = some (.dT kvs)) (hk : kvs.map (·.1) = ps.map kyT) (q : ∀ (p : Addr) (us : List V), H p = none → Paired (TwoAt (upd H p (.lst us))) us (srt ps) → Q (.ref p) (upd H p (.lst us))) : rSortKT K [.ref d] H Q := by
  refine ⟨d, kvs, rfl, .inl hd, fun bs hbs => ?_⟩
  obtain ⟨bes, h1, h2, h3⟩ := keysT_zip hbs hk
  refine ⟨_, Prod.fst, fun x => .tuple [.int x.2.1, .int x.2.2], bes, h1, fun x hx => ⟨.tup (SqT.of (h3 x hx)) (.cons (.int _) (.cons (.int _) .nil)), by simp [PyData.depth, PyData.depthAll]⟩, ?_, .inl ?_, fun p hp => ?_⟩
  · intro d1 e1 d2 e2
    obtain ⟨x1, _, rfl⟩ := List.mem_map.mp e1
    obtain ⟨x2, _, rfl⟩ := List.mem_map.mp e2
    simp [PySem.W.alike, PySem.W.alikeAll]
  · intro d1 e1
    obtain ⟨x1, _, rfl⟩ := List.mem_map.mp e1
    exact ⟨_, _, rfl⟩
  · have ele : PySem.W.dataLe false (fun x : Addr × (Int × Int) => PyData.tuple [.int x.2.1, .int x.2.2]) = fun p q => le2 p.2 q.2 := PySem.W.dataLe_ii (fun x : Addr × (Int × Int) => x.2.1) (fun x : Addr × (Int × Int) => x.2.2)
    rw [ele]
    have hp0 : (bes.mergeSort fun p q => le2 p.2 q.2).Perm bes := List.mergeSort_perm _ _
    have hp1 : ((bes.mergeSort fun p q => le2 p.2 q.2).map (·.2)).Perm ps := by
      have z := hp0.map (fun x : Addr × (Int × Int) => x.2)
      rw [h2] at z
      exact z
    have hpw : ((bes.mergeSort fun p q => le2 p.2 q.2).map (·.2)).Pairwise (fun a b => le2 a b = true) := by
      rw [List.pairwise_map]
      exact List.pairwise_mergeSort (fun a b c => le2_trans a.2 b.2 c.2) (fun a b => le2_total a.2 b.2) bes
    have hs : (bes.mergeSort fun p q => le2 p.2 q.2).map (·.2) = srt ps := srt_unique hpw (srt_pw ps) (hp1.trans (List.mergeSort_perm ps le2).symm)
    refine q p _ hp ?_
    rw [← hs]
    exact paired_of fun x hx => Ext.new hp _ _ (h3 x (hp0.mem_iff.mp hx))
/-! ### a dict by pairs with numbers -/
structure DI (kvs : List (List Key × V)) (ps : List (Int × Int)) (W : Int × Int → Nat) : Prop where
  keys : kvs.map (·.1) = ps.map kyT
  nd : ps.Nodup
  val : ∀ p ∈ ps, valV kvs (kyT p) = some (.int (W p : Nat))
  off : ∀ p, p ∉ ps → W p = 0
theorem DI.nil {W : Int × Int → Nat} (h : ∀ p, W p = 0) : DI [] [] W := ⟨rfl, List.nodup_nil, (fun p hp => by cases hp), fun p _ => h p⟩
theorem val_none {kvs : List (List Key × V)} {k : List Key} (h : k ∉ kvs.map (·.1)) : valV kvs k = none := by
  unfold valV
  rw [List.find?_eq_none.mpr fun y hy e => h (List.mem_map.mpr ⟨y, hy, of_decide_eq_true e⟩)]
  rfl
theorem kyT_mem {ps : List (Int × Int)} {p : Int × Int} (h : kyT p ∈ ps.map kyT) : p ∈ ps := by
  obtain ⟨q, hq, e⟩ := List.mem_map.mp h
  rw [← kyT_inj e]
  exact hq
theorem DI.get {kvs : List (List Key × V)} {ps : List (Int × Int)} {W : Int × Int → Nat} (d : DI kvs ps W) (p : Int × Int) : (valV kvs (kyT p)).getD (.int 0) = .int (W p : Nat) := by
  by_cases h : p ∈ ps
  · rw [d.val p h]
    rfl
  · rw [val_none (by rw [d.keys]; exact fun e => h (kyT_mem e)), d.off p h]
    rfl
theorem keys_put1 {kvs : List (List Key × V)} {k : List Key} (h : k ∈ kvs.map (·.1)) (v : V) : (putK kvs k v).map (·.1) = kvs.map (·.1) := by
  unfold putK
  rw [if_pos (by
      obtain ⟨y, hy, e⟩ := List.mem_map.mp h
      exact List.any_eq_true.mpr ⟨y, hy, decide_eq_true e⟩), List.map_map]
  refine List.map_congr_left fun y _ => ?_
  show (if y.1 = k then (y.1, v) else y).1 = y.1
  split <;> rfl
theorem keys_put2 {kvs : List (List Key × V)} {k : List Key} (h : k ∉ kvs.map (·.1)) (v : V) : (putK kvs k v).map (·.1) = kvs.map (·.1) ++ [k] := by
  unfold putK
  rw [if_neg (fun e => by
      obtain ⟨y, hy, e⟩ := List.any_eq_true.mp e
      exact h (List.mem_map.mpr ⟨y, hy, of_decide_eq_true e⟩)), List.map_append]
  rfl
theorem DI.put {kvs : List (List Key × V)} {ps : List (Int × Int)} {W : Int × Int → Nat} (d : DI kvs ps W) (p : Int × Int) (z : Nat) : DI (putK kvs (kyT p) (.int (z : Nat))) (if p ∈ ps then ps else ps ++ [p]) (fun p' => if p' = p then z else W p') := by
  refine ⟨?_, ?_, fun p' hp' => ?_, fun p' hp' => ?_⟩
  · by_cases h : p ∈ ps
    · rw [if_pos h, keys_put1 (by rw [d.keys]; exact List.mem_map.mpr ⟨p, h, rfl⟩), d.keys]
    · rw [if_neg h, keys_put2 (by rw [d.keys]; exact fun e => h (kyT_mem e)), d.keys, List.map_append]
      rfl
  · split
    · exact d.nd
    · rename_i h
      exact List.nodup_append.mpr ⟨d.nd, by simp, fun a ha b hb => by
        have : b = p := by simpa using hb
        subst this
        exact fun q => h (q ▸ ha)⟩
  · rw [valV_put]
    by_cases e : p' = p
    · subst e
      rw [if_pos rfl, if_pos rfl]
    · rw [if_neg (fun q => e (kyT_inj q)), if_neg e]
      refine d.val p' ?_
      split at hp'
      · exact hp'
      · exact (List.mem_append.mp hp').elim id fun h => absurd (by simpa using h) e
  · have e : p' ≠ p := fun q => by
      subst q
      split at hp'
      · rename_i h; exact hp' h
      · exact hp' (List.mem_append_right _ (List.mem_singleton.mpr rfl))
    rw [if_neg e]
    refine d.off p' fun h => hp' ?_
    split
    · exact h
    · exact List.mem_append_left _ h
theorem DI.congr {kvs : List (List Key × V)} {ps : List (Int × Int)} {W W' : Int × Int → Nat} (d : DI kvs ps W) (h : ∀ p, W p = W' p) : DI kvs ps W' :=
  ⟨d.keys, d.nd, fun p hp => by rw [← h p]; exact d.val p hp, fun p hp => by rw [← h p]; exact d.off p hp⟩
/-! ### what all foldings with a pair weigh -/
def wOf (b1 b2 : Nat) (lo hi : Int) (r : Rl) (x : Str) (q : Fo) : Nat := topN b1 b2 lo hi (woV r x q)
def hW (b1 b2 : Nat) (lo hi : Int) (r : Rl) (x : Str) (L : List Fo) (k : Ky) : Nat := (L.map fun q => if hitB q k = true then wOf b1 b2 lo hi r x q else 0).sum
theorem hW_snoc {b1 b2 : Nat} {lo hi : Int} {r : Rl} {x : Str} (L : List Fo) (q : Fo) (k : Ky) : hW b1 b2 lo hi r x (L ++ [q]) k = hW b1 b2 lo hi r x L k + if hitB q k = true then wOf b1 b2 lo hi r x q else 0 := by
  unfold hW
  rw [List.map_append, List.sum_append, List.map_cons, List.map_nil, List.sum_cons, List.sum_nil, Nat.add_zero]
theorem perm_sum {l l' : List Nat} (h : l.Perm l') : l.sum = l'.sum := by
  induction h with
  | nil => rfl
  | cons a _ ih => rw [List.sum_cons, List.sum_cons, ih]
  | swap a b l => rw [List.sum_cons, List.sum_cons, List.sum_cons, List.sum_cons]; omega
  | trans _ _ h1 h2 => exact h1.trans h2
theorem sum_filter {α : Type} (p : α → Bool) (f : α → Nat) : ∀ l : List α, (l.map fun y => if p y = true then f y else 0).sum = ((l.filter p).map f).sum
  | [] => rfl
  | y :: l => by
    rw [List.map_cons, List.sum_cons, sum_filter p f l]
    by_cases e : p y = true
    · rw [if_pos e, List.filter_cons_of_pos e, List.map_cons, List.sum_cons]
    · rw [if_neg e, List.filter_cons_of_neg e, Nat.zero_add]
theorem hW_tal {b1 b2 : Nat} {lo hi : Int} {r : Rl} {x : Str} {L : List Fo} (h : L.Perm (WA r x x.length 0)) (k : Ky) : hW b1 b2 lo hi r x L k = sumN b1 b2 lo hi (tal r x (WA r x x.length 0) k) := by
  unfold hW sumN tal
  rw [perm_sum (h.map _), sum_filter (fun q => hitB q k), List.map_map]
  rfl
theorem hW_all {b1 b2 : Nat} {lo hi : Int} {r : Rl} {x : Str} {L : List Fo} (h : L.Perm (WA r x x.length 0)) : (L.map (wOf b1 b2 lo hi r x)).sum = totN b1 b2 r x lo hi := by
  rw [perm_sum (h.map _)]
  rfl
/-! ### the ends of all worths, how wide -/
theorem wo_nil (r : Rl) (x : Str) : woV r x [] = 0 := by
  unfold woV
  show (0 : Int) + 0 + (0 : Int) * lo r 8 = 0
  omega
theorem zero_in (r : Rl) (x : Str) : (0 : Int) ∈ (WA r x x.length 0).map (woV r x) := by
  obtain ⟨t, e⟩ := WA_head r x x.length 0
  rw [e, List.map_cons, wo_nil]
  exact List.mem_cons_self ..
theorem tal_all (r : Rl) (x : Str) (D : List Fo) : tal r x D .all = D.map (woV r x) := by
  unfold tal
  have : D.filter (fun q => hitB q .all) = D := List.filter_eq_self.mpr fun _ _ => rfl
  rw [this]
theorem sumN_tot (b1 b2 : Nat) (r : Rl) (x : Str) (lo hi : Int) : sumN b1 b2 lo hi ((WA r x x.length 0).map (woV r x)) = totN b1 b2 r x lo hi := by
  unfold sumN totN
  rw [List.map_map]
  rfl
theorem ends_of {r : Rl} {x : Str} {lo hi : Int} {ks : List Int} (hks : ∀ z, z ∈ ks ↔ z ∈ (WA r x x.length 0).map (woV r x)) (h1 : lo ∈ ks) (h2 : ∀ z ∈ ks, lo ≤ z) (h3 : hi ∈ ks) (h4 : ∀ z ∈ ks, z ≤ hi) : EndsW r x lo hi :=
  ⟨(hks lo).mp h1, (hks hi).mp h3, fun q hq => by
    have := (hks _).mpr (List.mem_map.mpr ⟨q, hq, rfl⟩)
    exact ⟨h2 _ this, h4 _ this⟩⟩
theorem EndsW.zero {r : Rl} {x : Str} {lo hi : Int} (h : EndsW r x lo hi) : lo ≤ 0 ∧ 0 ≤ hi := by
  obtain ⟨q, hq, e⟩ := List.mem_map.mp (zero_in r x)
  have := h.btw q hq
  omega
theorem wideM_of {r : Rl} {x : Str} {b1 b2 : Nat} {lo hi : Int} (h : WideB r x b1 b2) (e : EndsW r x lo hi) : WideM b1 b2 lo hi := by
  obtain ⟨W, k, hb, h1, h2, h3, h4, h5, h6, h7, h8⟩ := h
  obtain ⟨q, hq, e1⟩ := List.mem_map.mp e.lo_in
  obtain ⟨q', hq', e2⟩ := List.mem_map.mp e.hi_in
  have a1 := hb q hq
  have a2 := hb q' hq'
  exact ⟨W, k, by omega, by omega, h1, h2, h3, h4, h5, h6, h7, h8⟩
theorem EndsW.uniq {r : Rl} {x : Str} {lo hi lo' hi' : Int} (h : EndsW r x lo hi) (h' : EndsW r x lo' hi') : lo' = lo ∧ hi' = hi := by
  obtain ⟨q1, m1, e1⟩ := List.mem_map.mp h.lo_in
  obtain ⟨q2, m2, e2⟩ := List.mem_map.mp h.hi_in
  obtain ⟨q3, m3, e3⟩ := List.mem_map.mp h'.lo_in
  obtain ⟨q4, m4, e4⟩ := List.mem_map.mp h'.hi_in
  have a1 := h.btw q3 m3
  have a2 := h.btw q4 m4
  have a3 := h'.btw q1 m1
  have a4 := h'.btw q2 m2
  omega
/-- all sums over foldings are within one bound -/
theorem tal_lt {r : Rl} {x : Str} {b1 b2 : Nat} {lo hi : Int} (hW : WideB r x b1 b2) (hE : EndsW r x lo hi) (hx : x.length ≤ 10) (k : Ky) : sumN b1 b2 lo hi (tal r x (WA r x x.length 0) k) < 2 ^ 1812 := by
  obtain ⟨W, k', hWl, hWh, hW2, p1, k1, q1, p2, k2, q2, hWk⟩ := wideM_of hW hE
  refine sumN_lt k1 k2 hWl hWh (fun m hm => ?_) (Nat.le_trans (tal_len ..) (WA_len10 r x hx 0)) hWk
  unfold tal at hm
  obtain ⟨q, hq, rfl⟩ := List.mem_map.mp hm
  exact hE.btw q (List.mem_filter.mp hq).1
theorem tot_lt {r : Rl} {x : Str} {b1 b2 : Nat} {lo hi : Int} (hW : WideB r x b1 b2) (hE : EndsW r x lo hi) (hx : x.length ≤ 10) : totN b1 b2 r x lo hi < 2 ^ 1812 := by
  have := tal_lt hW hE hx .all
  rw [tal_all, sumN_tot] at this
  exact this
theorem tot_pos {r : Rl} {x : Str} {b1 b2 : Nat} {lo hi : Int} (h1 : 1 ≤ b1) (h2 : 1 ≤ b2) : 1 ≤ totN b1 b2 r x lo hi := by
  unfold totN
  obtain ⟨t, e⟩ := WA_head r x x.length 0
  rw [e, List.map_cons, List.sum_cons]
  have := topN_pos h1 h2 lo hi (woV r x [])
  omega
theorem p4000 : (2 : Nat) ^ 1812 ≤ 2 ^ 4000 := Nat.pow_le_pow_right (by decide) (by decide)
/-! ### a pair with its share -/
abbrev Ps := (Int × Int) × (Int × Int)
def PsAt (H : Hp) (v : V) (y : Ps) : Prop := ∃ a u, v = .ref a ∧ H a = some (.tup [.int y.1.1, .int y.1.2, u]) ∧ ShT H u y.2
theorem PsAt.mono : Mono PsAt := fun H H' v x k ⟨a, u, e, h, f⟩ => ⟨a, u, e, k.1 _ _ h, f.mono k⟩
theorem ShT.monoM : Mono ShT := fun H H' v x k h => h.mono k
def dPs (y : Ps) : PyData := .tuple [.int y.1.1, .int y.1.2, dSh y.2]
theorem dp_ps {K : PySem.W.Frag} {H : Hp} {v : V} {y : Ps} (h : PsAt H v y) : Dp K H v (dPs y) := by
  obtain ⟨a, u, rfl, h1, h2⟩ := h
  exact .tup (SqT.of h1) (.cons (.int _) (.cons (.int _) (.cons (dp_sh h2) .nil)))
theorem dp_pss {K : PySem.W.Frag} {H : Hp} : ∀ {vs : List V} {L : List Ps}, Paired (PsAt H) vs L → DpAll K H vs (L.map dPs)
  | _, _, .nil => .nil
  | _, _, .cons h t => .cons (dp_ps h) (dp_pss t)
theorem dp_shs {K : PySem.W.Frag} {H : Hp} : ∀ {vs : List V} {L : List (Int × Int)}, Paired (ShT H) vs L → DpAll K H vs (L.map dSh)
  | _, _, .nil => .nil
  | _, _, .cons h t => .cons (dp_sh h) (dp_shs t)
theorem bk_sh {s : Int × Int} (h1 : s.1.natAbs < 2 ^ 1812) (h2 : s.2.natAbs < 2 ^ 1812) : Bk 1813 2 1 (dSh s) := by
  refine Bk.tup (n := 2) (m := 0) (by simp) (fun d hd => ?_) (by decide)
  simp only [List.mem_cons, List.not_mem_nil, or_false] at hd
  rcases hd with rfl | rfl
  · exact Bk.int (by decide) (by decide) h1
  · exact Bk.int (by decide) (by decide) h2
theorem bk_ps {y : Ps} (h0 : y.1.1.natAbs < 2 ^ 1812) (h3 : y.1.2.natAbs < 2 ^ 1812) (h1 : y.2.1.natAbs < 2 ^ 1812) (h2 : y.2.2.natAbs < 2 ^ 1812) : Bk 1813 9 2 (dPs y) := by
  refine Bk.tup (n := 3) (m := 2) (by simp) (fun d hd => ?_) (by decide)
  simp only [List.mem_cons, List.not_mem_nil, or_false] at hd
  rcases hd with rfl | rfl | rfl
  · exact (Bk.int (by decide) (by decide) h0).le (by decide) (by decide)
  · exact (Bk.int (by decide) (by decide) h3).le (by decide) (by decide)
  · exact bk_sh h1 h2
/-- a share of the whole weight -/
def shO (b1 b2 : Nat) (r : Rl) (x : Str) (lo hi : Int) (k : Ky) : Int × Int := shr (sumN b1 b2 lo hi (tal r x (WA r x x.length 0) k) : Nat) (totN b1 b2 r x lo hi : Nat)
theorem shO_lt {r : Rl} {x : Str} {b1 b2 : Nat} {lo hi : Int} (hW : WideB r x b1 b2) (hE : EndsW r x lo hi) (hx : x.length ≤ 10) (k : Ky) : (shO b1 b2 r x lo hi k).1.natAbs < 2 ^ 1812 ∧ (shO b1 b2 r x lo hi k).2.natAbs < 2 ^ 1812 := by
  obtain ⟨W, k', hWl, hWh, hW2, p1, k1, q1, p2, k2, q2, hWk⟩ := wideM_of hW hE
  have h0 := tot_pos (r := r) (x := x) (lo := lo) (hi := hi) p1 p2
  have := shr_b (u := ((sumN b1 b2 lo hi (tal r x (WA r x x.length 0) k) : Nat) : Int)) (d := ((totN b1 b2 r x lo hi : Nat) : Int)) (B := 2 ^ 1812) (by omega) (by rw [Int.natAbs_natCast]; exact tal_lt hW hE hx k) (by rw [Int.natAbs_natCast]; exact tot_lt hW hE hx)
  exact ⟨this.1, this.2.1⟩
theorem perm_nd2 {ps qs : List (Int × Int)} (hp : ps.Nodup) (hq : qs.Nodup) (h : ∀ p, p ∈ ps ↔ p ∈ qs) : srt ps = srt qs := srt_perm (perm_nd hp hq h)
end Pf


namespace Pf
open PySem PySem.Spec PyProof.Rows L2
/-! ### comprehensions clause by clause -/
/-- the code of a clause's turn: the next item, its store, its tests, then `body` -/
def ClTurn (e : Expr) (d : Nat) (tg src : Expr) (ifs : List Expr) (acc : Value) (env : Env) (body : Sem Fin → Sem Fin) : Prop := ∀ it : Value, compTurn e d it acc env = (do
  standAt src.pos
  match ← pyNext it with
  | none => pure (.done .next)
  | some u =>
    letOwnedTupleGo tg it u
    assign tg env u
    let mut go := true
    for z in ifs do
      if go then go ← isTrue z env (eval z env)
    if go then body (again (.compLoop e d it acc env)) else again (.compLoop e d it acc env))
/-- the code that goes through a clause further in -/
def ClNext (e : Expr) (d : Nat) (src : Expr) (acc : Value) (env : Env) (k : Sem Fin) : Sem Fin := do
  let y ← eval src env
  standAt src.pos
  let y ← foldedSetIterable src env y
  let _ ← runOwn (.compStart e d (← holding [y] (pyIter y)) acc env) env
  k
/-- the code that puts an item behind the list -/
def ClPut (elt : Expr) (acc : Value) (env : Env) (k : Sem Fin) : Sem Fin := do
  (do let _ ← call (.builtin "list.append") [acc, ← eval elt env])
  k
section
variable {prog : Program} {w : World} {A : Around} {R : Result → Shared → Prop} {s : Shared} {elt tg src : Expr} {gens : List Comprehension} {scope : Scope} {pos : Pos} {d : Nat} {ifs : List Expr} {acc it : Value} {env : Env} {body : Sem Fin → Sem Fin}
abbrev Nt (prog : Program) (w : World) (A : Around) (env : Env) (R : Result → Shared → Prop) : Value → Shared → Prop := notedBy (model prog w) A env fun x t => R (.error x) t
abbrev tstS (ifs : List Expr) (env : Env) : Sem Bool := forIn ifs true fun z r => if r = true then do let k ← isTrue z env (eval z env); pure (ForInStep.yield k) else pure (ForInStep.yield r)
theorem clause_loop (hT : ClTurn (.ListComp elt gens scope pos) d tg src ifs acc env body) (I : Nat → Shared → Prop)
    (turn : ∀ n t, I n t → wpAny (model prog w) A (pyNext it) (fun r t1 => match r with
      | none => R (.ok .next) t1
      | some u => wpAny (model prog w) A (letOwnedTupleGo tg it u) (fun _ t2 => wpAny (model prog w) A (assign tg env u) (fun _ t3 => wpAny (model prog w) A (tstS ifs env) (fun k t4 =>
          if k = true then ∀ z Qz, (∀ t5, (∃ m, m < n ∧ I m t5) → wpAny (model prog w) A z Qz (Nt prog w A env R) t5) → wpAny (model prog w) A (body z) Qz (Nt prog w A env R) t4 else ∃ m, m < n ∧ I m t4) (Nt prog w A env R) t3) (Nt prog w A env R) t2) (Nt prog w A env R) t1) (Nt prog w A env R) t)
    (n : Nat) (h : I n s) : codeAny (model prog w) A (.compLoop (.ListComp elt gens scope pos) d it acc env) R s := by
  refine codeAny_loop rfl I (fun n t hI => ?_) n h
  show wpAny _ A ((compTurn (.ListComp elt gens scope pos) d it acc env).onRaise (fun x => do noteFrame x env; theTreesLotGoes x)) _ _ t
  refine wpAny_noted ?_
  rw [hT it]
  refine wpAny_bind (wpAny_standAt (wpAny_bind (wpAny_mono (turn n t hI) (fun r t1 h1 => ?_) fun _ _ z => z)))
  cases r with
  | none => exact wpAny_pure h1
  | some u =>
    refine wpAny_bind (wpAny_mono h1 (fun _ t2 h2 => ?_) fun _ _ z => z)
    refine wpAny_bind (wpAny_mono h2 (fun _ t3 h3 => wpAny_bind (wpAny_mono h3 (fun k t4 h4 => ?_) fun _ _ z => z)) fun _ _ z => z)
    cases k with
    | false => exact wpAny_pure ⟨rfl, h4⟩
    | true => exact h4 _ _ fun t5 h5 => wpAny_pure ⟨rfl, h5⟩
theorem clause_start (hcl : (clausesOf (.ListComp elt gens scope pos))[d]? = some ⟨tg, src, ifs, 0⟩) (h0 : codeAny (model prog w) A (.compLoop (.ListComp elt gens scope pos) d it acc env) R s)
    (h : wpAny (model prog w) A (pyIter it) (fun it' t => codeAny (model prog w) A (.compLoop (.ListComp elt gens scope pos) d it' acc env) R t) (Nt prog w A env R) s) : codeAny (model prog w) A (.compStart (.ListComp elt gens scope pos) d it acc env) R s := by
  refine codeAny_of_tree ?_
  show wpAny _ _ ((compStart (.ListComp elt gens scope pos) d it acc env).onRaise (fun x => do noteFrame x env; standAt theWindowsPlace)) _ _ s
  refine wpAny_notedAt ?_
  unfold compStart
  rw [hcl]
  show wpAny _ _ (ask >>= _) _ _ s
  refine wpAny_bind (wpAny_askSetting (wpAny_ite ?_))
  split
  · first
      | exact wpAny_bind (wpAny_pure (wpAny_pure (And.intro rfl h0)))
      | exact wpAny_pure (And.intro rfl h0)
  · refine wpAny_bind (wpAny_rule ?_)
    show wpAny _ _ (standAt src.pos >>= _) _ _ s
    exact wpAny_bind (wpAny_standAt (wpAny_bind (wpAny_mono h (fun it' t z => wpAny_pure (And.intro rfl z)) fun _ _ z => z)))
end
/-- what a clause's body asks and gives: vs are the slots that it may store -/
structure ClBody (Y : Cx) (body : Sem Fin → Sem Fin) (vs : List Nat) (tb : L2.St → Hp → (Hp → Prop) → Prop) : Prop where
  run : ∀ (pins : List (Addr × Obj)) (s : Shared) (σ : L2.St) (H : Hp) (Nx : Hp → Prop) (z : Sem Fin) (Qz : Fin → Shared → Prop) (E : Value → Shared → Prop), Inv Y pins σ H s → tb σ H Nx → (∀ t H', Inv Y pins (wipe σ vs) H' t → Nx H' → wpAny (model Y.prog Y.w) Y.A z Qz E t) →
    wpAny (model Y.prog Y.w) Y.A (body z) Qz E s
def tPut (D : Addr) (te : TE) : L2.St → Hp → (Hp → Prop) → Prop := fun σ H Nx => te σ H fun y H1 => ∃ ys, H1 D = some (.lst ys) ∧ ys.length < sizeLine ∧ Nx (upd H1 D (.lst (ys ++ [y])))
theorem put_body {Y : Cx} {elt : Expr} {te : TE} {D : Addr} (hx : Y.xe = fun _ _ => False) (he : PE Y elt te) : ClBody Y (ClPut elt (.ref D) Y.env) [] (tPut D te) := ⟨by
  intro pins s σ H Nx z Qz E I h hk
  have h1 := he.run pins s σ H _ I h
  rw [hx] at h1
  unfold ClPut
  refine wpAny_bind (wpAny_bind (wpAny_mono h1 (fun v t q => ?_) fun _ _ q => q.elim))
  obtain ⟨yv, H1, I1, r1, ys, hD, hz, nx⟩ := q
  refine wpAny_bind (wpAny_mono (L2.app_ok (X := Y) (E := E) (Q := fun _ t => wpAny (model Y.prog Y.w) Y.A z Qz E t) I1 hD hz r1 fun t1 I2 => hk t1 _ I2 nx) (fun _ t1 q => wpAny_pure q) fun _ _ q => q)⟩
def tCl (wi : TI) (g : TG) (tt : TT) (tb : L2.St → Hp → (Hp → Prop) → Prop) (vs : List Nat) : L2.St → Hp → (Hp → Prop) → Prop := fun σ H Nx => wi σ H fun J H1 => ∃ W : Nat → Nat → Hp → Prop, (∃ m, W 0 m H1) ∧ ∀ j k H2, W j k H2 →
  (J.stop j H2 ∧ Nx H2) ∨ (J.go j H2 ∧ ∃ Ny : Hp → Prop, (∀ H', Ny H' → ∃ m, m < k ∧ W (j + 1) m H') ∧ ∀ x H', J.yld j H2 x H' → g x (wipe σ vs) H' fun σ3 H3 => wipe σ3 vs = wipe σ vs ∧ tt σ3 H3 fun b H4 => if b = true then tb σ3 H4 Ny else Ny H4)
theorem clause_body {Y : Cx} {elt tg src : Expr} {gens : List Comprehension} {scope : Scope} {pos : Pos} {d : Nat} {ifs : List Expr} {acc : Value} {body : Sem Fin → Sem Fin} {vs vs' : List Nat} {wi : TI} {g : TG} {tt : TT} {tb : L2.St → Hp → (Hp → Prop) → Prop} (hc : Y.calm = true) (hx : Y.xe = fun _ _ => False)
    (hi : PI Y tg src wi) (hg : PG Y tg g) (ht : PTs Y ifs tt) (hb : ClBody Y body vs' tb) (hT : ClTurn (.ListComp elt gens scope pos) d tg src ifs acc Y.env body) (hcl : (clausesOf (.ListComp elt gens scope pos))[d]? = some ⟨tg, src, ifs, 0⟩) (hs : ∀ x, foldedSetIterable src Y.env x = pure x) (hv : ∀ i ∈ vs', i ∈ vs) :
    ClBody Y (ClNext (.ListComp elt gens scope pos) d src acc Y.env) vs (tCl wi g tt tb vs) := ⟨by
  intro pins s σ H Nx z0 Qz E I h hk
  have h1 := hi.run pins s σ H _ I h
  rw [hx] at h1
  unfold ClNext
  refine wpAny_bind (wpAny_mono h1 (fun xv s1 q1 => ?_) fun _ _ q => q.elim)
  refine wpAny_bind (wpAny_standAt (wpAny_bind (wpAny_of_eq (hs xv) (wpAny_bind (wpAny_holding (wpAny_mono q1 (fun itv s2 q2 => ?_) fun _ _ q => q.elim))))))
  obtain ⟨it, fp, tn, J, H1, eit, I1, T, st1, f1, W, ⟨m0, w0⟩, turn⟩ := q2
  subst eit
  refine wpAny_bind (wpAny_runOwn ?_)
  rw [Around.mark_none]
  have stat : ∀ {H' : Hp}, (∀ b ∈ fp, H' b = none) → ∀ b ∈ fp, FpOk Y pins H' b := fun hn b hb => ⟨hn b hb, (f1 b hb).2⟩
  have loop : codeAny (model Y.prog Y.w) Y.A (.compLoop (.ListComp elt gens scope pos) d (.ref it) acc Y.env) (fun r t => match r with | .ok _ => wpAny (model Y.prog Y.w) Y.A z0 Qz E t | .error _ => False) s2 := by
    refine clause_loop hT (fun k t => ∃ j H', Inv Y pins (wipe σ vs) H' t ∧ tn j t.heap ∧ (∀ b ∈ fp, H' b = none) ∧ W j k H') ?_ m0 ⟨0, H1, I1.weak (wipe_length _ _) (fun j v q => (wipe_some q).1), st1, fun b hb => (f1 b hb).1, w0⟩
    rintro k t ⟨j, H2, I2, st2, n2, w2⟩
    rcases turn j k H2 w2 with ⟨stop, nx⟩ | ⟨go, Ny, hNy, step⟩
    · refine thnF (T.done Y rfl rfl rfl hc j _ t (wipe σ vs) H2 (fun _ _ => False) I2 (stat n2) st2 stop) fun r t1 q => ?_
      obtain ⟨hr, I3⟩ := q
      subst hr
      exact hk t1 H2 I3 nx
    · refine thnF (T.item Y rfl rfl rfl hc j _ t (wipe σ vs) H2 (fun _ _ => False) I2 (stat n2) st2 go) fun r t1 q => ?_
      obtain ⟨u, hr, h3⟩ := q
      subst hr
      refine thnF h3 fun _ t2 q => ?_
      obtain ⟨x, H3, I3, r3, y3, st3, n3⟩ := q
      have I3' := I3.pinned (stat n3) (T.obj _ _ st3)
      have hgr := hg.run _ t2 (wipe σ vs) H3 x u _ I3' r3 (step x H3 y3)
      rw [hx] at hgr
      refine thnF hgr fun _ t3 q => ?_
      obtain ⟨σ4, H4, I4, hw4, q4⟩ := q
      have htr := ht.run _ t3 σ4 H4 _ I4 q4
      rw [hx] at htr
      refine thnF htr fun b t4 q => ?_
      obtain ⟨H5, I5, q5⟩ := q
      have hl4 : (wipe σ vs).length = σ4.length := by rw [← hw4, wipe_length]
      have fin : ∀ {σ5 : L2.St} {t' : Shared} {H' : Hp}, Inv Y (pins ++ pinsAt fp t2.heap) σ5 H' t' → (wipe σ vs).length = σ5.length → (∀ (i : Nat) v, (wipe σ vs)[i]? = some (some v) → σ5[i]? = some (some v)) → Ny H' → ∃ m, m < k ∧ ∃ j H', Inv Y pins (wipe σ vs) H' t' ∧ tn j t'.heap ∧ (∀ b ∈ fp, H' b = none) ∧ W j m H' := fun {σ5 t' H'} I' hl hkn ny => by
        obtain ⟨m', hm, w'⟩ := hNy H' ny
        have pin' : ∀ b ∈ fp, ∀ o, t2.heap.get? b = some o → t'.heap.get? b = some o ∧ H' b = none := fun b hb o q =>
          let z := I'.pin (b, o) (List.mem_append_right _ (List.mem_append_right _ (mem_pinsAt hb q)))
          ⟨z.1, z.2.1⟩
        refine ⟨m', hm, j + 1, H', I'.unpinned.weak hl hkn, T.keep _ _ _ st3 fun b hb o q => (pin' b hb o q).1, fun b hb => ?_, w'⟩
        obtain ⟨o, q, _⟩ := T.obj _ _ st3 b hb
        exact (pin' b hb o q).2
      have kn4 : ∀ (i : Nat) v, (wipe σ vs)[i]? = some (some v) → σ4[i]? = some (some v) := fun i v q => by
        rw [← hw4] at q
        exact (wipe_some q).1
      cases b with
      | false =>
        simp only [Bool.false_eq_true, if_false] at q5 ⊢
        exact fin I5 hl4 kn4 q5
      | true =>
        simp only [if_true] at q5 ⊢
        intro z1 Qz1 hz1
        refine hb.run _ t4 σ4 H5 Ny _ _ _ I5 q5 fun t5 H6 I6 ny => hz1 _ <| fin I6 (hl4.trans (wipe_length _ _).symm) (fun i v q => ?_) ny
        have q' := q
        rw [← hw4] at q'
        rw [wipe_out fun z => (wipe_some q').2 (hv i z)]
        exact (wipe_some q').1
  refine codeAny_mono (clause_start hcl loop (T.self Y.A 0 _ _ _ st1 loop)) fun r t hr => ?_
  cases r with
  | ok f => first
      | exact hr
      | exact wpAny_bind (wpAny_pure hr)
      | exact wpAny_pure hr
  | error q => exact hr.elim⟩
/-- a clause over what is gone through n times -/
theorem cl_it {J : It} {n : Nat} {G : Hp → Prop} {Y : Nat → Hp → V → Hp → Prop} (w : Walk J n G Y) {g : TG} {tt : TT} {tb : L2.St → Hp → (Hp → Prop) → Prop} {vs : List Nat} {σ : L2.St} {H0 : Hp} {Qd : Hp → Prop} (Pv : Nat → Hp → Prop) (h0 : Pv 0 H0) (hG : ∀ i H, i ≤ n → Pv i H → G H)
    (hs : ∀ i x H H', i < n → Pv i H → Y i H x H' → g x (wipe σ vs) H' fun σ2 H2 => wipe σ2 vs = wipe σ vs ∧ tt σ2 H2 fun b H3 => if b = true then tb σ2 H3 (Pv (i + 1)) else Pv (i + 1) H3) (hd : ∀ H, Pv n H → Qd H) :
    ∃ W : Nat → Nat → Hp → Prop, (∃ m, W 0 m H0) ∧ ∀ j k H2, W j k H2 → (J.stop j H2 ∧ Qd H2) ∨ (J.go j H2 ∧ ∃ Ny : Hp → Prop, (∀ H', Ny H' → ∃ m, m < k ∧ W (j + 1) m H') ∧ ∀ x H', J.yld j H2 x H' → g x (wipe σ vs) H' fun σ3 H3 => wipe σ3 vs = wipe σ vs ∧ tt σ3 H3 fun b H4 => if b = true then tb σ3 H4 Ny else Ny H4) := by
  refine ⟨fun i m H => m = n - i ∧ i ≤ n ∧ Pv i H, ⟨n, rfl, Nat.zero_le _, h0⟩, ?_⟩
  rintro i m H ⟨rfl, hi, pv⟩
  have hq := hG i H hi pv
  by_cases hlt : i < n
  · exact .inr ⟨w.goes i H hlt hq, Pv (i + 1), fun H' p' => ⟨n - (i + 1), by omega, rfl, hlt, p'⟩, fun x H' y => hs i x H H' hlt pv (w.yields i H x H' hlt hq y)⟩
  · obtain rfl : i = n := by omega
    exact .inl ⟨w.stops H hq, hd H pv⟩
/-- a list comprehension whose first clause's body is `body` -/
def tLcG (wi : TI) (g : TG) (tt : TT) (tb : Addr → L2.St → Hp → (Hp → Prop) → Prop) (vs : List Nat) : TE := fun σ H Q => wi σ H fun J H1 => ∀ D, H1 D = none → ∃ W : Nat → Nat → Hp → Prop, (∃ m, W 0 m (upd H1 D (.lst []))) ∧ ∀ j k H2, W j k H2 →
  (J.stop j H2 ∧ Q (.ref D) H2) ∨ (J.go j H2 ∧ ∃ Ny : Hp → Prop, (∀ H', Ny H' → ∃ m, m < k ∧ W (j + 1) m H') ∧ ∀ x H', J.yld j H2 x H' → g x (wipe σ vs) H' fun σ3 H3 => wipe σ3 vs = wipe σ vs ∧ tt σ3 H3 fun b H4 => if b = true then tb D σ3 H4 Ny else Ny H4)
theorem lcG {X : Cx} {pins : List (Addr × Obj)} {s : Shared} {σ : L2.St} {H : Hp} {Q : VK} {elt tg src : Expr} {ifs : List Expr} {gens : List Comprehension} {scope : Scope} {own : List (Str × Nat)} {vs' : List Nat} {pos pos' : Pos} {wi : TI} {g : TG} {tt : TT} {tb : Addr → L2.St → Hp → (Hp → Prop) → Prop} {body : Addr → Env → Sem Fin → Sem Fin} {use : Option (Value → Sem Unit)} {Qf : Value → Shared → Prop}
    (hc : X.calm = true) (hN : X.N.Nodup) (I : Inv X pins σ H s) (hi : PI X tg src wi) (ok : BlkOk X.N X.env.scope scope own) (hv : ∀ i ∈ vs', i ∈ own.map (·.2))
    (hg : ∀ (t : Shared) (H : Hp) (C : Addr) (cl : List (Str × Addr)) (fp : List Addr), PG (X.blk t H scope (compEnvC scope cl C X.env) fp) tg g) (ht : ∀ (t : Shared) (H : Hp) (C : Addr) (cl : List (Str × Addr)) (fp : List Addr), PTs (X.blk t H scope (compEnvC scope cl C X.env) fp) ifs tt)
    (hb : ∀ (D : Addr) (t : Shared) (H : Hp) (C : Addr) (cl : List (Str × Addr)) (fp : List Addr), ClBody (X.blk t H scope (compEnvC scope cl C X.env) fp) (body D (compEnvC scope cl C X.env)) vs' (tb D))
    (hT : ∀ (D : Addr) (env : Env), ClTurn (.ListComp elt (⟨tg, src, ifs, 0⟩ :: gens) scope pos) 0 tg src ifs (.ref D) env (body D env)) (hs : ∀ x, foldedSetIterable src X.env x = pure x)
    (h : tLcG wi g tt tb (own.map (·.2)) σ H Q)
    (hR : ∀ D C t m H', Inv X pins σ H' t → Q (.ref D) H' → t.heap.Ns C m → FpOk X pins H' C → compPost (model X.prog X.w) X.A X.xe use Qf (.ref D) C (.ok .next) t) :
    wpAny (model X.prog X.w) X.A (comprehension (.ListComp elt (⟨tg, src, ifs, 0⟩ :: gens) scope pos) scope X.env pos' (newList []) false (eval src X.env) use) Qf X.xe s := by
  have free : ∀ y ∈ scope.names, y.2 = .free → ∃ c, X.env.cells.lookup y.1 = some c := fun y hy q => (ok.free y hy q).elim (fun k => I.ok.has _ (.inl k)) fun k => I.ok.has _ (.inr k)
  refine wpAny_comprehension_free (use := use) rfl hs (closure_ok free) ok.kind (fun y hy q => by rw [ok.uniq y hy, q]) (thn (hi.run pins s σ H _ I h) fun xv t1 hx => thn hx fun itv t2 h2 => ?_)
  obtain ⟨it, fp, tn, J, H2, eit, I2, T, st2, f2, q⟩ := h2
  subst eit
  refine wpAny_newObj_type (newEnv_comp ?_) (by show 0 ≤ sizeLine; decide)
  obtain ⟨D, eD⟩ : ∃ D, t2.heap.objs.size = D := ⟨_, rfl⟩
  rw [eD]
  obtain ⟨W, ⟨m0, w0⟩, turn⟩ := q D (I2.hok.fresh (Nat.le_of_eq eD))
  obtain ⟨t3, et3⟩ : ∃ t3 : Shared, ({ t2 with heap := t2.heap.push { cls := .type "list", data := .seq ([] : List Value).toArray } } : Shared) = t3 := ⟨_, rfl⟩
  rw [et3]
  have e3 : t3.heap = t2.heap.push { cls := .type "list", data := .seq ([] : List Value).toArray } := by rw [← et3]
  have I3 : Inv X pins σ (upd H2 D (.lst [])) t3 := by
    rw [← et3]
    refine I2.laid (t' := t2.toks) (fun b o z => Heap.get?_push_of_some _ z) (Nat.le_of_eq eD) ⟨Nat.zero_le _, [], 0, .nil, ?_⟩
    rw [← eD]
    exact Heap.get?_push_size _ rfl
  have lt2 : ∀ b ∈ fp, b < t2.heap.objs.size := fun b hb => by
    obtain ⟨o, z, _⟩ := T.obj _ _ st2 b hb
    exact Heap.lt_size z
  have f3 : ∀ b ∈ fp, FpOk X pins (upd H2 D (.lst [])) b ∧ b < t3.heap.objs.size := fun b hb => by
    have l2 := lt2 b hb
    refine ⟨⟨?_, (f2 b hb).2⟩, by rw [e3, Heap.size_push]; exact Nat.lt_succ_of_lt l2⟩
    rw [upd_ne (by rw [← eD]; exact Nat.ne_of_lt l2)]
    exact (f2 b hb).1
  have st3 : tn 0 t3.heap := T.keep _ _ _ st2 fun b _ o z => by rw [e3]; exact Heap.get?_push_of_some _ z
  have I4 := block_start I3 ok hN f3
  have pg := hg t3 (upd H2 D (.lst [])) t3.heap.objs.size (cellsFrom (t3.heap.objs.size + 1) scope.names (cloFrom X.env.cells scope.names [])) fp
  have pt := ht t3 (upd H2 D (.lst [])) t3.heap.objs.size (cellsFrom (t3.heap.objs.size + 1) scope.names (cloFrom X.env.cells scope.names [])) fp
  have pb := hb D t3 (upd H2 D (.lst [])) t3.heap.objs.size (cellsFrom (t3.heap.objs.size + 1) scope.names (cloFrom X.env.cells scope.names [])) fp
  show codeAny _ _ (.compStart (.ListComp elt (⟨tg, src, ifs, 0⟩ :: gens) scope pos) 0 (.ref it) (.ref D) (compEnvC scope (cellsFrom (t3.heap.objs.size + 1) scope.names (cloFrom X.env.cells scope.names [])) t3.heap.objs.size X.env)) (compPost (model X.prog X.w) X.A X.xe use Qf (.ref D) t3.heap.objs.size) { t3 with heap := pushCells (t3.heap.push { cls := .type "dict", data := .dict #[] }) scope.names }
  have none3 : ∀ b ∈ fp, (upd H2 D (.lst [])) b = none := fun b hb => (f3 b hb).1.1
  generalize ece : compEnvC scope (cellsFrom (t3.heap.objs.size + 1) scope.names (cloFrom X.env.cells scope.names [])) t3.heap.objs.size X.env = ce at I4 pg pt pb ⊢
  have eL : ce.locals = t3.heap.objs.size := by subst ece; rfl
  generalize eH3 : upd H2 D (.lst []) = H3 at I3 I4 pg pt pb w0 none3 f3
  generalize et4 : ({ t3 with heap := pushCells (t3.heap.push { cls := .type "dict", data := .dict #[] }) scope.names } : Shared) = t4 at I4 ⊢
  have st4 : tn 0 t4.heap := T.keep _ _ _ st3 fun b _ o z => by rw [← et4]; exact pushCells_keeps _ _ _ _ (Heap.get?_push_of_some _ z)
  have stat : ∀ {σ' : L2.St} {H' : Hp} {t' : Shared}, Inv (X.blk t3 H3 scope ce fp) [] σ' H' t' → (∀ b ∈ fp, H' b = none) → ∀ b ∈ fp, FpOk (X.blk t3 H3 scope ce fp) [] H' b := fun {σ' H' t'} I' hn b hb =>
    ⟨hn b hb, (I'.ok.exf b hb).1, I'.ok.exfs b hb, .inl hb, fun x c z => (I'.ok.exf b hb).2 x c z, fun p hp => absurd (show p ∈ ([] : List (Addr × Obj)) ++ [] from hp) (by simp)⟩
  have loop : codeAny (model X.prog X.w) X.A (.compLoop (.ListComp elt (⟨tg, src, ifs, 0⟩ :: gens) scope pos) 0 (.ref it) (.ref D) ce) (compPost (model X.prog X.w) X.A X.xe use Qf (.ref D) t3.heap.objs.size) t4 := by
    refine clause_loop (hT D ce) (fun n t => ∃ i H', Inv (X.blk t3 H3 scope ce fp) [] (wipe σ (own.map (·.2))) H' t ∧ tn i t.heap ∧ (∀ b ∈ fp, H' b = none) ∧ W i n H') ?_ m0 ⟨0, H3, I4, st4, none3, w0⟩
    rintro n t5 ⟨i, H5, I5, st5, n5, w5⟩
    rcases turn i n H5 w5 with ⟨stop, qq⟩ | ⟨go, Ny, hNy, step⟩
    · refine thnF (T.done (X.blk t3 H3 scope ce fp) rfl rfl rfl hc i [] t5 _ H5 (fun _ _ => False) I5 (stat I5 n5) st5 stop) fun r t6 z => ?_
      obtain ⟨hr, I6⟩ := z
      subst hr
      have I7 : Inv X pins σ H5 t6 := I3.call' (ch := fp) I6.os I6.base I6.hok I6.bare fun b hb => let z := (f3 b hb).1.2; ⟨z.2.2.1, z.1, z.2.2.2.1, z.2.2.2.2⟩
      have nC : H5 t3.heap.objs.size = none := by
        have z : H5 ce.locals = none := I6.free
        rwa [eL] at z
      obtain ⟨m, hn, _⟩ := I6.loc
      have hn : t6.heap.Ns ce.locals m := hn
      rw [eL] at hn
      exact hR D t3.heap.objs.size t6 m H5 I7 qq hn (I3.fpOk (Nat.le_refl _) nC)
    · refine thnF (T.item (X.blk t3 H3 scope ce fp) rfl rfl rfl hc i [] t5 _ H5 (fun _ _ => False) I5 (stat I5 n5) st5 go) fun r t6 z => ?_
      obtain ⟨u, hr, h6⟩ := z
      subst hr
      refine thnF h6 fun _ t7 z => ?_
      obtain ⟨x, H7, I7, r7, y7, st7, n7⟩ := z
      have I7' := I7.pinned (stat I7 n7) (T.obj _ _ st7)
      refine thnF (pg.run _ t7 _ H7 x u _ I7' r7 (step x H7 y7)) fun _ t8 z => ?_
      obtain ⟨σ8, H8, I8, hw8, q8⟩ := z
      refine thnF (pt.run _ t8 σ8 H8 _ I8 q8) fun b t9 z => ?_
      obtain ⟨H9, I9, q9⟩ := z
      have fin : ∀ {σ9 : L2.St} {t' : Shared} {H' : Hp}, Inv (X.blk t3 H3 scope ce fp) ([] ++ pinsAt fp t7.heap) σ9 H' t' → (wipe σ (own.map (·.2))).length = σ9.length → (∀ (j : Nat) v, (wipe σ (own.map (·.2)))[j]? = some (some v) → σ9[j]? = some (some v)) → Ny H' →
          ∃ m, m < n ∧ ∃ i H', Inv (X.blk t3 H3 scope ce fp) [] (wipe σ (own.map (·.2))) H' t' ∧ tn i t'.heap ∧ (∀ b ∈ fp, H' b = none) ∧ W i m H' := fun {σ9 t' H'} I' hl hk ny => by
        obtain ⟨m', hm, w'⟩ := hNy H' ny
        have pin' : ∀ b ∈ fp, ∀ o, t7.heap.get? b = some o → t'.heap.get? b = some o ∧ H' b = none := fun b hb o q =>
          let z := I'.pin (b, o) (List.mem_append_right _ (List.mem_append_right _ (mem_pinsAt hb q)))
          ⟨z.1, z.2.1⟩
        refine ⟨m', hm, i + 1, H', (I'.unpinned (pins := [])).weak hl hk, T.keep _ _ _ st7 fun b hb o q => (pin' b hb o q).1, fun b hb => ?_, w'⟩
        obtain ⟨o, q, _⟩ := T.obj _ _ st7 b hb
        exact (pin' b hb o q).2
      cases b with
      | false =>
        simp only [Bool.false_eq_true, if_false] at q9 ⊢
        exact fin I9 (by rw [← hw8, wipe_length]) (fun j v q => by rw [← hw8] at q; exact (wipe_some q).1) q9
      | true =>
        simp only [if_true] at q9 ⊢
        intro z1 Qz1 hz1
        refine pb.run _ t9 σ8 H9 Ny _ _ _ I9 q9 fun t10 H10 I10 ny => hz1 _ <| fin I10 (by rw [← hw8, wipe_length, wipe_length]) (fun j v q => ?_) ny
        rw [← hw8] at q
        rw [wipe_out fun z => (wipe_some q).2 (hv j z)]
        exact (wipe_some q).1
  exact codeAny_compStart_list loop (T.self X.A 0 _ _ _ st4 loop)
/-- three clauses -/
def tLc3 (wi : TI) (g : TG) (tt : TT) (wi1 : TI) (g1 : TG) (tt1 : TT) (wi2 : TI) (g2 : TG) (tt2 : TT) (te : TE) (vs vs1 vs2 : List Nat) : TE := tLcG wi g tt (fun D => tCl wi1 g1 tt1 (tCl wi2 g2 tt2 (tPut D te) vs2) vs1) vs
theorem pe_lc3 {X : Cx} {elt tg src tg1 src1 tg2 src2 : Expr} {ifs ifs1 ifs2 : List Expr} {scope : Scope} {own : List (Str × Nat)} {vs1 vs2 : List Nat} {pos : Pos} {wi wi1 wi2 : TI} {g g1 g2 : TG} {tt tt1 tt2 : TT} {te : TE} (hc : X.calm = true) (hN : X.N.Nodup) (hi : PI X tg src wi) (ok : BlkOk X.N X.env.scope scope own) (hv1 : ∀ i ∈ vs1, i ∈ own.map (·.2)) (hv2 : ∀ i ∈ vs2, i ∈ vs1)
    (hg : ∀ (t : Shared) (H : Hp) (C : Addr) (cl : List (Str × Addr)) (fp : List Addr), PG (X.blk t H scope (compEnvC scope cl C X.env) fp) tg g) (ht : ∀ (t : Shared) (H : Hp) (C : Addr) (cl : List (Str × Addr)) (fp : List Addr), PTs (X.blk t H scope (compEnvC scope cl C X.env) fp) ifs tt)
    (hi1 : ∀ (t : Shared) (H : Hp) (C : Addr) (cl : List (Str × Addr)) (fp : List Addr), PI (X.blk t H scope (compEnvC scope cl C X.env) fp) tg1 src1 wi1)
    (hg1 : ∀ (t : Shared) (H : Hp) (C : Addr) (cl : List (Str × Addr)) (fp : List Addr), PG (X.blk t H scope (compEnvC scope cl C X.env) fp) tg1 g1) (ht1 : ∀ (t : Shared) (H : Hp) (C : Addr) (cl : List (Str × Addr)) (fp : List Addr), PTs (X.blk t H scope (compEnvC scope cl C X.env) fp) ifs1 tt1)
    (hi2 : ∀ (t : Shared) (H : Hp) (C : Addr) (cl : List (Str × Addr)) (fp : List Addr), PI (X.blk t H scope (compEnvC scope cl C X.env) fp) tg2 src2 wi2)
    (hg2 : ∀ (t : Shared) (H : Hp) (C : Addr) (cl : List (Str × Addr)) (fp : List Addr), PG (X.blk t H scope (compEnvC scope cl C X.env) fp) tg2 g2) (ht2 : ∀ (t : Shared) (H : Hp) (C : Addr) (cl : List (Str × Addr)) (fp : List Addr), PTs (X.blk t H scope (compEnvC scope cl C X.env) fp) ifs2 tt2)
    (he : ∀ (t : Shared) (H : Hp) (C : Addr) (cl : List (Str × Addr)) (fp : List Addr), PE (X.blk t H scope (compEnvC scope cl C X.env) fp) elt te) (hs : ∀ x, foldedSetIterable src X.env x = pure x := by intro _; rfl) (hs1 : ∀ env x, foldedSetIterable src1 env x = pure x := by intro _ _; rfl) (hs2 : ∀ env x, foldedSetIterable src2 env x = pure x := by intro _ _; rfl) :
    PE X (.ListComp elt [⟨tg, src, ifs, 0⟩, ⟨tg1, src1, ifs1, 0⟩, ⟨tg2, src2, ifs2, 0⟩] scope pos) (tLc3 wi g tt wi1 g1 tt1 wi2 g2 tt2 te (own.map (·.2)) vs1 vs2) := by
  refine ⟨fun pins s σ H Q I h => ?_⟩
  rw [eval_ListComp]
  refine lcG (body := fun D env => ClNext (.ListComp elt [⟨tg, src, ifs, 0⟩, ⟨tg1, src1, ifs1, 0⟩, ⟨tg2, src2, ifs2, 0⟩] scope pos) 1 src1 (.ref D) env) hc hN I hi ok hv1 hg ht (fun D t H' C cl fp => ?_) (fun D env it => by rfl) hs h fun D C t m H' I' q hn f => ⟨m, hn, fun h'' sb => ?_⟩
  · refine clause_body (body := ClNext (.ListComp elt [⟨tg, src, ifs, 0⟩, ⟨tg1, src1, ifs1, 0⟩, ⟨tg2, src2, ifs2, 0⟩] scope pos) 2 src2 (.ref D) (compEnvC scope cl C X.env)) hc rfl (hi1 t H' C cl fp) (hg1 t H' C cl fp) (ht1 t H' C cl fp) ?_ (fun it => by rfl) rfl (hs1 _) hv2
    refine clause_body (vs' := []) (body := ClPut elt (.ref D) (compEnvC scope cl C X.env)) hc rfl (hi2 t H' C cl fp) (hg2 t H' C cl fp) (ht2 t H' C cl fp) ?_ (fun it => by rfl) rfl (hs2 _) (fun i z => by cases z)
    exact put_body rfl (he t H' C cl fp)
  · obtain ⟨f0, f1, f2, f3, f4, f5⟩ := f
    exact ⟨.ref D, H', I'.turned (t' := t.toks) (fun b o hb z => (sb.2 b hb).trans z) f0 f1 f3 f4 f5, rfl, q⟩
/-- a def with defaults that lets nothing out -/
theorem fd_ok {P : Program} {w : World} {K : PySem.W.Frag} {mg : Str → Option Value} {base : Heap} {x qual : Str} {params : Arguments} {body : List Stmt} {scope : Scope} {dvs : List V} {kws : List (Str × V)} {f : Addr} {fd : FuncData} {N ps : List Str} {k : Nat} {sp : Sp} (F : FunD K x qual params body scope dvs kws f fd) (S : FnScope N ps scope) (len : ∀ vs H Q E, sp vs H Q E → vs.length = ps.length)
    (hbody : ∀ (cdv : Value) (A : Around) (outer : List Env) (s : Shared) (H : Hp) (vs : List V) (Q : VK) (E : XK), Room k (A.deeper (envOfC qual scope s.heap.objs.size f cdv)) → sp vs H Q E →
      ∃ t, PSs (cxOf CX0 P w K mg base N qual scope f cdv A outer s H E).nox body t ∧ t { nx := fun _ H' => Q .non H', rt := Q } (L2.start N vs) H) : FnOk P w K mg base CX0 (k + 1) f fd ps sp :=
  F.ok S len fun cdv A outer s H vs Q E hr hsp => by
    obtain ⟨t, h, q⟩ := hbody cdv A outer s H vs Q E hr hsp
    exact ⟨t, h.nox, q⟩
end Pf


namespace Pf
open PySem PySem.Spec PyProof.Rows L2
/-! ### xs[i] += e -/
def rGetL (K : PySem.W.Frag) : V → V → Hp → VK → Prop := fun o i H Q => ∃ p xs k v, o = .ref p ∧ i = .int k ∧ SqL K H p xs ∧ 0 ≤ k ∧ atI xs k = some v ∧ Q v H
theorem pget_list (K : PySem.W.Frag) {X : Cx} (hK : X.K = K := by rfl) : PGet X (rGetL K) := by
  subst hK
  intro pins s σ H o i ov iv Q I ro ri h
  obtain ⟨p, xs, k, v, rfl, rfl, hq, h0, he, q⟩ := h
  cases ro
  obtain ⟨t, rfl⟩ := ri
  obtain ⟨its, r, pl, hz⟩ := I.list hq
  obtain ⟨j, h1, h2, h3, h4, h5⟩ := L2.atI_get he
  obtain ⟨w, ew, rw'⟩ := r.get h2
  have hl := r.length
  have hn := line63
  have hj : k.toNat = j := by
    rw [seqIndex_of h0 h5] at h1
    exact Option.some.inj h1
  exact wpAny_getItem_list pl.isList h0 (by omega) (by rw [hj]; simpa using ew) ⟨v, H, I, rw', q⟩
end Pf


namespace Pf
open PySem PySem.Spec PyProof.Rows L2
section
variable {P : Program} {w : World} {K : PySem.W.Frag} {mg : Str → Option Value} {base : Heap}
theorem ns_eq3 {D : Ends} {σ σ' : L2.St} {H : Hp} (e : σ = σ') (h : D.nx σ' H) : D.nx σ H := by
  rw [e]
  exact h
abbrev s_foldings_with_tops : Stmt := topS 30
theorem sc_foldings_with_tops : FnScope ["rules", "string", "base", "rows", "tops", "worth", "folding"] ["rules", "string", "base"] (defScope s_foldings_with_tops) :=
  ⟨rfl, rfl, rfl, by decide +kernel, rfl, by decide +kernel, by decide +kernel⟩
def spFT (K : PySem.W.Frag) : Sp := fun vs H Q _ => ∃ (v vb : V) (r : Rl) (x : Str) (b1 b2 : Nat), vs = [v, .str x, vb] ∧ RulesW H v r ∧ RlOk r ∧ x.length ≤ 10 ∧ Of r.letters x ∧ BsAt K H vb b1 b2 ∧ WideB r x b1 b2 ∧
  ∀ (lo hi : Int) (l : Addr) (us : List V) (L : List Fo) (H' : Hp), EndsW r x lo hi → L.Perm (WA r x x.length 0) → H l = none → H' l = some (.lst us) → Paired (WfAt H') us (L.map fun q => ((wOf b1 b2 lo hi r x q : Int), q)) → Ext H H' → Q (.ref l) H'
theorem ok_ft {f : Addr} {fd : FuncData} (F : Fun K "foldings_with_tops" "foldings_with_tops" s_foldings_with_tops f fd) (cwith_worths : CWW P w K mg base) (ctops_by_worth : CTops P w K mg base) : FnOk P w K mg base CX0 6 f fd ["rules", "string", "base"] (spFT K) := by
  refine F.ok sc_foldings_with_tops (fun vs H Q E h => ?_) (fun cdv A outer s H vs Q E hr h => ?_)
  · obtain ⟨v, vb, r, x, b1, b2, rfl, _⟩ := h
    rfl
  · obtain ⟨v, vb, r, x, b1, b2, rfl, hR, ok, hx, hO, hB, hWd, q⟩ := h
    refine ⟨_, (pss_cons (ps_set (i := 3) sc_foldings_with_tops.nd rfl (.inl rfl) (pe_ca cwith_worths (hr.mono (by decide)) (by rfl) (pa_cons (pv 0) (pa_cons (pv 1) pa_nil))))
      (pss_cons (ps_set (i := 4) sc_foldings_with_tops.nd rfl (.inr rfl) (pe_ca ctops_by_worth (hr.mono (by decide)) (by rfl) (pa_cons (pe_lc (own := [("worth", 5), ("folding", 6)]) (g := gTup K 2 (gCons (gName 5) (gCons (gName 6) gNil))) (by rfl) sc_foldings_with_tops.nd (pi_list (pv 3)) (blkOk_by (own := [("worth", 5), ("folding", 6)]) (N := ["rules", "string", "base", "rows", "tops", "worth", "folding"]) (sc := defScope s_foldings_with_tops) (by decide +kernel)) (fun _ _ _ _ _ => (pgT K rfl (pgs_cons (pg_name (i := 5) sc_foldings_with_tops.nd rfl (.inl rfl)) (pgs_cons (pg_name (i := 6) sc_foldings_with_tops.nd rfl (.inl rfl)) pgs_nil)))) (fun _ _ _ _ _ => pts_nil) (fun _ _ _ _ _ => (pv 5))) (pa_cons (pv 2) pa_nil))))
      (pss_one (ps_ret (pe_lc (own := [("worth", 5), ("folding", 6)]) (g := gTup K 2 (gCons (gName 5) (gCons (gName 6) gNil))) (by rfl) sc_foldings_with_tops.nd (pi_list (pv 3)) (blkOk_by (own := [("worth", 5), ("folding", 6)]) (N := ["rules", "string", "base", "rows", "tops", "worth", "folding"]) (sc := defScope s_foldings_with_tops) (by decide +kernel)) (fun _ _ _ _ _ => (pgT K rfl (pgs_cons (pg_name (i := 5) sc_foldings_with_tops.nd rfl (.inl rfl)) (pgs_cons (pg_name (i := 6) sc_foldings_with_tops.nd rfl (.inl rfl)) pgs_nil)))) (fun _ _ _ _ _ => pts_nil) (fun _ _ _ _ _ => (pe_tup (pa_cons (pe_dget (hu_of hr) (pv 4) (pv 5) (fun _ _ => rfl)) (pa_cons (pv 6) pa_nil))))))))), ?_⟩
    obtain ⟨W, k, hWb, hW2, p1, k1, q1, p2, k2, q2, hWk⟩ := id hWd
    refine ⟨_, rfl, _, rfl, v, r, x, rfl, hR, ok, by omega, hO, fun l us H1 hl hL hP x1 => ?_⟩
    obtain ⟨SL, hSL⟩ : ∃ SL, SL = SW (wR r x) := ⟨_, rfl⟩
    rw [← hSL] at hP
    have hmem : ∀ y, y ∈ SL ↔ ∃ q ∈ WA r x x.length 0, y = (woV r x q, q) := fun y => by
      rw [hSL]
      constructor
      · intro h
        have h := (List.mergeSort_perm _ _).mem_iff.mp h
        unfold wR at h
        obtain ⟨q, hq, e⟩ := List.mem_map.mp h
        exact ⟨q, hq, e.symm⟩
      · rintro ⟨q, hq, rfl⟩
        exact (List.mergeSort_perm _ _).mem_iff.mpr (List.mem_map.mpr ⟨q, hq, rfl⟩)
    have hperm : (SL.map (·.2)).Perm (WA r x x.length 0) := by
      rw [hSL]
      have := (List.mergeSort_perm (wR r x) (PySem.W.dataLe false dWf)).map (fun y : Wf => y.2)
      have e : (wR r x).map (fun y : Wf => y.2) = WA r x x.length 0 := by
        unfold wR
        rw [List.map_map]
        exact List.map_id _
      rw [e] at this
      exact this
    have hul := paired_len hP
    have hSl : SL.length ≤ 2188 := by
      have := hperm.length_eq
      rw [List.length_map] at this
      have := WA_len10 r x hx 0
      omega
    have hS0 : 0 < SL.length := by
      obtain ⟨t, e⟩ := WA_head r x x.length 0
      have := hperm.length_eq
      rw [List.length_map, e, List.length_cons] at this
      omega
    have hns : ∀ z, z ∈ SL.map (·.1) ↔ z ∈ (WA r x x.length 0).map (woV r x) := fun z => by
      constructor
      · intro h
        obtain ⟨y, hy, rfl⟩ := List.mem_map.mp h
        obtain ⟨q, hq, rfl⟩ := (hmem y).mp hy
        exact List.mem_map.mpr ⟨q, hq, rfl⟩
      · intro h
        obtain ⟨q, hq, rfl⟩ := List.mem_map.mp h
        exact List.mem_map.mpr ⟨_, (hmem _).mpr ⟨q, hq, rfl⟩, rfl⟩
    have hLb : ∀ z ∈ SL.map (·.1), -(W : Int) ≤ z ∧ z ≤ W := fun z hz => by
      obtain ⟨q, hq, rfl⟩ := List.mem_map.mp ((hns z).mp hz)
      exact hWb q hq
    refine ⟨_, rfl, l, rfl, ⟨_, SqL.of hL⟩, fun G hG => lc_list (K := K) (xs := us) (fun c H2 => H2 G = some (.lst (((SL.take c).map (·.1)).map V.int)) ∧ Ext H1 H2)
      ⟨upd_same, Ext.new hG⟩ (fun i H2 _ h => SqL.of (h.2 _ _ hL)) (fun i u H2 hi hv => ?_) (fun H2 hv => ?_)⟩
    · obtain ⟨hG2, k2'⟩ := hv
      obtain ⟨y, hy, a1, u1, rfl, ha1, hF1⟩ := paired_get hP hi
      refine ⟨a1, _, rfl, SqT.of (k2' _ _ ha1), rfl, _, _, rfl, _, _, rfl, rfl, ?_⟩
      refine ⟨rfl, _, rfl, _, hG2, szLt (by rw [List.length_map, List.length_map, List.length_take]; omega), ?_, k2'.put hG⟩
      rw [upd_same, List.take_add_one, hy, List.map_append, List.map_append]
      rfl
    obtain ⟨hG2, k2'⟩ := hv
    rw [List.take_of_length_le (by omega)] at hG2
    have x2 := x1.trans k2'
    refine ⟨_, rfl, G, vb, SL.map (·.1), b1, b2, rfl, SqL.of hG2, by rw [List.length_map]; exact hS0, by rw [List.length_map]; omega, fun z hz => by have := hLb z hz; omega, p1, q1, p2, q2, hB.ext x2, fun lo hi D kvs H3 hlo hhi hbt k3 hDn hD hkv => ?_⟩
    have hE : EndsW r x lo hi := ends_of hns hlo (fun z hz => (hbt z hz).1) hhi fun z hz => (hbt z hz).2
    have hL3 := (k2'.trans k3) _ _ hL
    have hP3 := paired_imp (fun _ _ => WfAt.mono _ _ _ _ (TupK.ext (k2'.trans k3))) hP
    refine ⟨_, rfl, l, rfl, ⟨_, SqL.of hL3⟩, fun G2 hG2' => lc_list (K := K) (xs := us) (GenP WfAt G2 H3 ((SL.map (·.2)).map fun q => ((wOf b1 b2 lo hi r x q : Int), q))) (gen_new hG2') (fun i H4 _ h => SqL.of (h.ext _ _ hL3)) (fun i u H4 hi' hv => ?_) (fun H4 hv => ?_)⟩
    · obtain ⟨y, hy, a1, u1, rfl, ha1, hF1⟩ := paired_get hP3 hi'
      have hyl : y ∈ SL := List.mem_of_getElem? hy
      obtain ⟨q', hq', ey⟩ := (hmem y).mp hyl
      have hy1 : y.1 ∈ SL.map (·.1) := List.mem_map.mpr ⟨y, hyl, rfl⟩
      have k4 := hv.ext
      have hdg : DGet H4 D (kV (.inl y.1)) (some (.int (topN b1 b2 lo hi y.1 : Nat))) := hkv y.1 hy1 ▸ DGet.k (k := .inl y.1) (k4 _ _ hD)
      refine ⟨a1, _, rfl, SqT.of (k4 _ _ ha1), rfl, _, _, rfl, _, _, rfl, rfl, ?_⟩
      refine ⟨rfl, _, rfl, _, rfl, D, _, rfl, hdg, _, rfl, szL (show 2 ≤ 1000000 by decide), fun t ht => ?_⟩
      have x5 := Ext.new (o := .tup [.int (topN b1 b2 lo hi y.1 : Nat), u1]) ht
      refine gen_step WfAt.mono hG2' hv x5 (b := ((wOf b1 b2 lo hi r x y.2 : Int), y.2)) ⟨t, u1, rfl, ?_, FoAt.mono _ _ _ _ (TupK.ext (k4.trans x5)) hF1⟩ ?_ ?_
      · rw [upd_same]
        have : woV r x y.2 = y.1 := by rw [ey]
        unfold wOf
        rw [this]
      · rw [List.getElem?_map, List.getElem?_map, hy]
        rfl
      · rw [List.length_map, List.length_map]
        omega
    obtain ⟨vs2, hL4, hP4, k4⟩ := gen_end hv (by rw [List.length_map, List.length_map]; omega)
    exact q lo hi G2 vs2 (SL.map (·.2)) H4 hE hperm ((x2.trans k3).none hG2') hL4 hP4 ((x2.trans k3).trans k4)
abbrev CFT (P : Program) (w : World) (K : PySem.W.Frag) (mg : Str → Option Value) (base : Heap) : Prop := Ca P w K mg base 6 "foldings_with_tops" ["rules", "string", "base"] (spFT K)
theorem ixN_nt {n j : Nat} (hj : j < n) : ixN n (j : Int) = some j := by
  unfold ixN
  rw [if_pos (by omega), if_pos (by omega)]
  rfl
theorem set_range {n k : Nat} (hk : k < n) (f : Nat → V) (v : V) : ((List.range n).map f).set k v = (List.range n).map fun i => if i = k then v else f i := by
  apply List.ext_getElem?
  intro i
  rw [List.getElem?_set, List.getElem?_map, List.getElem?_map, List.length_map, List.length_range]
  by_cases h : i < n
  · rw [List.getElem?_range h]
    by_cases e : k = i
    · subst e
      rw [if_pos rfl, if_pos h]
      simp
    · rw [if_neg e]
      show some (f i) = some (if i = k then v else f i)
      rw [if_neg (fun q : i = k => e q.symm)]
  · have : (List.range n)[i]? = none := List.getElem?_eq_none (by rw [List.length_range]; omega)
    rw [this]
    by_cases e : k = i
    · subst e
      exact absurd hk h
    · rw [if_neg e]
      rfl
/-- what foldings weigh in which a place is taken -/
def tW (b1 b2 : Nat) (lo hi : Int) (r : Rl) (x : Str) (L : List Fo) (i : Nat) : Nat := (L.map fun q => if (i : Int) ∈ takenL q then wOf b1 b2 lo hi r x q else 0).sum
theorem tW_snoc {b1 b2 : Nat} {lo hi : Int} {r : Rl} {x : Str} (L : List Fo) (q : Fo) (i : Nat) : tW b1 b2 lo hi r x (L ++ [q]) i = tW b1 b2 lo hi r x L i + if (i : Int) ∈ takenL q then wOf b1 b2 lo hi r x q else 0 := by
  unfold tW
  rw [List.map_append, List.sum_append, List.map_cons, List.map_nil, List.sum_cons, List.sum_nil, Nat.add_zero]
theorem tW_free {b1 b2 : Nat} {lo hi : Int} {r : Rl} {x : Str} (i : Nat) : ∀ L : List Fo, tW b1 b2 lo hi r x L i + hW b1 b2 lo hi r x L (.pl i) = (L.map (wOf b1 b2 lo hi r x)).sum
  | [] => rfl
  | q :: L => by
    have ih := tW_free (b1 := b1) (b2 := b2) (lo := lo) (hi := hi) (r := r) (x := x) i L
    unfold tW hW at ih ⊢
    rw [List.map_cons, List.map_cons, List.map_cons, List.sum_cons, List.sum_cons, List.sum_cons]
    by_cases h : (i : Int) ∈ takenL q
    · rw [if_pos h, if_neg (show ¬ hitB q (.pl i) = true from fun w => (of_decide_eq_true w) h)]
      omega
    · rw [if_neg h, if_pos (show hitB q (.pl i) = true from decide_eq_true h)]
      omega
theorem taken_take {q : Fo} {j : Nat} {p : Int × Int} (h : q[j]? = some p) (z : Int) : z ∈ takenL (q.take (j + 1)) ↔ z ∈ takenL (q.take j) ∨ z = p.1 ∨ z = p.2 := by
  rw [List.take_add_one, h]
  unfold takenL
  simp only [Option.toList, List.map_append, List.map_cons, List.map_nil, List.mem_append, List.mem_singleton]
  constructor
  · rintro ((h | h) | (h | h))
    · exact .inl (.inl h)
    · exact .inr (.inl h)
    · exact .inl (.inr h)
    · exact .inr (.inr h)
  · rintro ((h | h) | (h | h))
    · exact .inl (.inl h)
    · exact .inr (.inl h)
    · exact .inl (.inr h)
    · exact .inr (.inr h)
theorem not_taken {r : Rl} {x : Str} {n : Nat} {a : Int} {q : Fo} (hq : q ∈ WA r x n a) {j : Nat} {p : Int × Int} (h : q[j]? = some p) : p.1 ∉ takenL (q.take j) ∧ p.2 ∉ takenL (q.take j) ∧ p.1 ≠ p.2 := by
  have f := fo4_of r x n a q hq
  have hpm := List.mem_of_getElem? h
  have hlt : ∀ z ∈ q.take j, z.1 < p.1 := fun z hz => by
    obtain ⟨i, hi, e⟩ := List.getElem_of_mem hz
    rw [List.length_take] at hi
    rw [List.getElem_take] at e
    have hj := (List.getElem?_eq_some_iff.mp h)
    have := List.pairwise_iff_getElem.mp f.srt i j (by omega) hj.1 (by omega)
    rw [e, hj.2] at this
    exact this
  have ip := f.inn p hpm
  refine ⟨fun w => ?_, fun w => ?_, by omega⟩
  · unfold takenL at w
    rcases List.mem_append.mp w with w | w
    · obtain ⟨z, hz, e⟩ := List.mem_map.mp w
      have := hlt z hz
      omega
    · obtain ⟨z, hz, e⟩ := List.mem_map.mp w
      have h1 := hlt z hz
      have h2 := f.sep z (List.mem_of_mem_take hz) p hpm h1
      have h3 := f.inn z (List.mem_of_mem_take hz)
      omega
  · unfold takenL at w
    rcases List.mem_append.mp w with w | w
    · obtain ⟨z, hz, e⟩ := List.mem_map.mp w
      have := hlt z hz
      omega
    · obtain ⟨z, hz, e⟩ := List.mem_map.mp w
      have h1 := hlt z hz
      have h2 := f.sep z (List.mem_of_mem_take hz) p hpm h1
      omega
theorem zeros_range (n : Nat) : (List.replicate n [V.int 0]).flatten = (List.range n).map fun _ => V.int 0 := by
  induction n with
  | zero => rfl
  | succ n ih => rw [List.replicate_succ', List.flatten_append, ih, List.range_succ, List.map_append]; rfl
abbrev s_free_shares : Stmt := topS 31
theorem sc_free_shares : FnScope ["rules", "string", "base", "rows", "top", "folding", "total", "paired", "i", "j"] ["rules", "string", "base"] (defScope s_free_shares) :=
  ⟨rfl, rfl, rfl, by decide +kernel, rfl, by decide +kernel, by decide +kernel⟩
def spFS (K : PySem.W.Frag) : Sp := fun vs H Q _ => ∃ (v vb : V) (r : Rl) (x : Str) (b1 b2 : Nat), vs = [v, .str x, vb] ∧ RulesW H v r ∧ RlOk r ∧ x.length ≤ 10 ∧ Of r.letters x ∧ BsAt K H vb b1 b2 ∧ WideB r x b1 b2 ∧
  ∀ (lo hi : Int) (l : Addr) (us : List V) (H' : Hp), EndsW r x lo hi → H l = none → H' l = some (.lst us) → Paired (ShT H') us ((List.range x.length).map fun i => shO b1 b2 r x lo hi (.pl i)) → Ext H H' → Q (.ref l) H'
theorem ok_fs {f : Addr} {fd : FuncData} {kd : List (Str × V)} (F : FunD K "free_shares" "free_shares" (defArgs s_free_shares) (defBody s_free_shares) (defScope s_free_shares) [] kd f fd) (cfoldings_with_tops : CFT P w K mg base) (cshare_of : CSh P w K mg base) (msum : mg "sum" = none) (mlen : mg "len" = none) : FnOk P w K mg base CX0 7 f fd ["rules", "string", "base"] (spFS K) := by
  refine fd_ok F sc_free_shares (fun vs H Q E h => ?_) (fun cdv A outer s H vs Q E hr h => ?_)
  · obtain ⟨v, vb, r, x, b1, b2, rfl, _⟩ := h
    rfl
  · obtain ⟨v, vb, r, x, b1, b2, rfl, hR, ok, hx, hO, hB, hWd, q⟩ := h
    refine ⟨_, (pss_cons (ps_set (i := 3) sc_free_shares.nd rfl (.inl rfl) (pe_ca cfoldings_with_tops (hr.mono (by decide)) (by rfl) (pa_cons (pv 0) (pa_cons (pv 1) (pa_cons (pv 2) pa_nil)))))
      (pss_cons (ps_set (i := 6) sc_free_shares.nd rfl (.inr rfl) (pe_callB (sumI K) (by rfl) msum (by decide +kernel) (pa_cons (pe_lc (own := [("top", 4), ("folding", 5)]) (g := gTup K 2 (gCons (gName 4) (gCons (gName 5) gNil))) (by rfl) sc_free_shares.nd (pi_list (pv 3)) (blkOk_by (own := [("top", 4), ("folding", 5)]) (N := ["rules", "string", "base", "rows", "top", "folding", "total", "paired", "i", "j"]) (sc := defScope s_free_shares) (by decide +kernel)) (fun _ _ _ _ _ => (pgT K rfl (pgs_cons (pg_name (i := 4) sc_free_shares.nd rfl (.inl rfl)) (pgs_cons (pg_name (i := 5) sc_free_shares.nd rfl (.inl rfl)) pgs_nil)))) (fun _ _ _ _ _ => pts_nil) (fun _ _ _ _ _ => (pv 4))) pa_nil)))
      (pss_cons (ps_set (i := 7) sc_free_shares.nd rfl (.inl rfl) (pe_op op_rep (pe_lst (pa_cons pe_int pa_nil)) (pe_callB call_len_str (by rfl) mlen (by decide +kernel) (pa_cons (pv 1) pa_nil))))
      (pss_cons (ps_for PassesOwn.never rfl (pi_list (pv 3)) (pg_tup rfl (pgs_cons (pg_name (i := 4) sc_free_shares.nd rfl (.inl rfl)) (pgs_cons (pg_name (i := 5) sc_free_shares.nd rfl (.inl rfl)) pgs_nil))) (pss_one (ps_for PassesOwn.never rfl (pi_tup (pv 5)) (pg_tup rfl (pgs_cons (pg_name (i := 8) sc_free_shares.nd rfl (.inl rfl)) (pgs_cons (pg_name (i := 9) sc_free_shares.nd rfl (.inl rfl)) pgs_nil))) (pss_cons (ps_augS (pv 7) (pv 8) (pget_list K) (pv 4) ip_add set_list)
      (pss_one (ps_augS (pv 7) (pv 9) (pget_list K) (pv 4) ip_add set_list))))))
      (pss_one (ps_ret (pe_lc (own := [("top", 4)]) (g := gName 4) (by rfl) sc_free_shares.nd (pi_list (pv 7)) (blkOk_by (own := [("top", 4)]) (N := ["rules", "string", "base", "rows", "top", "folding", "total", "paired", "i", "j"]) (sc := defScope s_free_shares) (by decide +kernel)) (fun _ _ _ _ _ => (pg_name (i := 4) sc_free_shares.nd rfl (.inl rfl))) (fun _ _ _ _ _ => pts_nil) (fun _ _ _ _ _ => (pe_ca cshare_of (hr.mono (by decide)) (by rfl) (pa_cons (pe_op op_sub (pv 6) (pv 4)) (pa_cons (pv 6) pa_nil))))))))))), ?_⟩
    refine ⟨_, rfl, _, rfl, _, rfl, v, vb, r, x, b1, b2, rfl, hR, ok, hx, hO, hB, hWd, fun lo hi l us L H1 hE hLp hl hL hP x1 => ?_⟩
    obtain ⟨W, k', hWl, hWh, hW2, p1, k1, q1, p2, k2, q2, hWk⟩ := wideM_of hWd hE
    have hul := paired_len hP
    rw [List.length_map] at hul
    have hLl : L.length ≤ 2188 := by
      have := hLp.length_eq
      have := WA_len10 r x hx 0
      omega
    refine ⟨_, rfl, l, rfl, ⟨_, SqL.of hL⟩, fun G hG => lc_list (K := K) (xs := us) (fun c H2 => H2 G = some (.lst (((L.take c).map fun q => ((wOf b1 b2 lo hi r x q : Nat) : Int)).map V.int)) ∧ Ext H1 H2)
      ⟨upd_same, Ext.new hG⟩ (fun i H2 _ h => SqL.of (h.2 _ _ hL)) (fun i u H2 hi hv => ?_) (fun H2 hv => ?_)⟩
    · obtain ⟨hG2, k2'⟩ := hv
      obtain ⟨y, hy, a1, u1, rfl, ha1, hF1⟩ := paired_get hP hi
      rw [List.getElem?_map] at hy
      obtain ⟨q', hq', rfl⟩ := Option.map_eq_some_iff.mp hy
      refine ⟨a1, _, rfl, SqT.of (k2' _ _ ha1), rfl, _, _, rfl, _, _, rfl, rfl, ?_⟩
      refine ⟨rfl, _, rfl, _, hG2, szLt (by rw [List.length_map, List.length_map, List.length_take]; omega), ?_, k2'.put hG⟩
      rw [upd_same, List.take_add_one, hq', List.map_append, List.map_append]
      rfl
    obtain ⟨hG2, k2'⟩ := hv
    rw [List.take_of_length_le (by omega)] at hG2
    refine ⟨G, _, rfl, SqL.of hG2, ?_⟩
    have esum : (L.map fun q => ((wOf b1 b2 lo hi r x q : Nat) : Int)).sum = ((totN b1 b2 r x lo hi : Nat) : Int) := by
      rw [← hW_all hLp]
      generalize L = L
      induction L with
      | nil => rfl
      | cons q L ih => rw [List.map_cons, List.map_cons, List.sum_cons, List.sum_cons, ih, Int.natCast_add]
    rw [esum]
    have x2 := x1.trans k2'
    -- as many noughts as places
    refine ⟨szL (show 1 ≤ 1000000 by decide), fun z0 hz0 => ⟨_, rfl, x, rfl, szL (by omega), z0, _, _, rfl, rfl, upd_same, by omega, by omega, szL (by rw [List.length_singleton]; omega), fun D hD => ?_⟩⟩
    have x3' := k2'.trans ((Ext.new (o := .lst [V.int 0]) hz0).trans (Ext.new (o := .lst (List.replicate ((x.length : Nat) : Int).toNat [V.int 0]).flatten) hD))
    have hD3 : (upd (upd H2 z0 (.lst [V.int 0])) D (.lst (List.replicate ((x.length : Nat) : Int).toNat [V.int 0]).flatten)) D = some (.lst ((List.range x.length).map fun _ => V.int 0)) := by
      rw [upd_same, zeros_range]
      rfl
    have hL3 := x3' _ _ hL
    have hP3 := paired_imp (fun _ _ => WfAt.mono _ _ _ _ (TupK.ext x3')) hP
    have x3 := x1.trans x3'
    have hD0 : H1 D = none := (k2'.trans (Ext.new (o := .lst [V.int 0]) hz0)).none hD
    have nlD : l ≠ D := ne_of_none hL hD0
    refine ns_eq3 (σ' := [some v, some (.str x), some vb, some (.ref l), none, none, some (.int (totN b1 b2 r x lo hi : Nat)), some (.ref D), none, none]) rfl ?_
    generalize upd (upd H2 z0 (.lst [V.int 0])) D (.lst (List.replicate ((x.length : Nat) : Int).toNat [V.int 0]).flatten) = H3 at x3 x3' hL3 hP3 hD3 ⊢
    refine ⟨_, rfl, l, rfl, ⟨_, SqL.of hL3⟩, for_list (K := K) (xs := us) (fun n σ H4 => ∃ (y4 y5 y8 y9 : Option V), σ = [some v, some (.str x), some vb, some (.ref l), y4, y5, some (.int (totN b1 b2 r x lo hi : Nat)), some (.ref D), y8, y9] ∧ H4 D = some (.lst ((List.range x.length).map fun i => V.int (tW b1 b2 lo hi r x (L.take n) i : Nat))) ∧ But D H3 H4)
      ⟨none, none, none, none, rfl, hD3, fun _ _ _ e => e⟩ (fun n σ H4 _ h => by
        obtain ⟨_, _, _, _, _, _, k⟩ := h
        exact SqL.of (k _ _ nlD hL3)) (fun n u σ H4 hn hv => ?_) (fun σ H4 hv => ?_)⟩
    · obtain ⟨y4, y5, y8, y9, rfl, hD4, b4⟩ := hv
      obtain ⟨y, hy, a1, u1, rfl, ha1, hF1⟩ := paired_get hP3 hn
      rw [List.getElem?_map] at hy
      obtain ⟨q0, hq0, rfl⟩ := Option.map_eq_some_iff.mp hy
      have hq0m : q0 ∈ WA r x x.length 0 := hLp.mem_iff.mp (List.mem_of_getElem? hq0)
      have tk4 : TupK H3 H4 := ⟨fun b xs e => b4 b _ (ne_of e hD3 (by intro z; cases z)) e, fun b ob u e => b4 b _ (ne_of e hD3 (by intro z; cases z)) e⟩
      obtain ⟨t, fs, rfl, hT, hPf⟩ := FoAt.mono _ _ _ _ tk4 hF1
      have hfl : fs.length = q0.length := paired_len hPf
      obtain ⟨top, htop⟩ : ∃ top, top = wOf b1 b2 lo hi r x q0 := ⟨_, rfl⟩
      refine ⟨a1, _, rfl, SqT.of (tk4.1 _ _ ha1), rfl, _, _, rfl, _, _, rfl, rfl, ?_⟩
      show tFor _ _ _ _ [some v, some (.str x), some vb, some (.ref l), some (.int (wOf b1 b2 lo hi r x q0 : Nat)), some (.ref t), some (.int (totN b1 b2 r x lo hi : Nat)), some (.ref D), y8, y9] _
      rw [← htop]
      refine ⟨_, rfl, t, rfl, ⟨_, SqT.of hT⟩, for_tup (K := K) (xs := fs) (fun j σ H5 => ∃ (y8 y9 : Option V), σ = [some v, some (.str x), some vb, some (.ref l), some (.int (top : Nat)), some (.ref t), some (.int (totN b1 b2 r x lo hi : Nat)), some (.ref D), y8, y9] ∧ H5 D = some (.lst ((List.range x.length).map fun i => V.int ((tW b1 b2 lo hi r x (L.take n) i + if (i : Int) ∈ takenL (q0.take j) then top else 0 : Nat) : Int))) ∧ But D H4 H5)
        ⟨y8, y9, rfl, by
          rw [hD4]
          exact congrArg (fun l => some (HO.lst l)) (List.map_congr_left fun i _ => by rw [List.take_zero, if_neg (show (i : Int) ∉ takenL [] from fun w => by cases w), Nat.add_zero]), fun _ _ _ e => e⟩ (fun j σ H5 _ h => by
          obtain ⟨_, _, _, _, k⟩ := h
          exact SqT.of (k _ _ (ne_of hT hD4 (by intro z; cases z)) hT)) (fun j u σ H5 hj hv => ?_) (fun σ H5 hv => ?_)⟩
      · obtain ⟨y8, y9, rfl, hD5, b5⟩ := hv
        obtain ⟨p, hp, b, rfl, hb⟩ := paired_get hPf hj
        have hb5 := b5 _ _ (ne_of hb hD4 (by intro z; cases z)) hb
        have hin := (WA_in r x x.length 0 q0 hq0m).1 p (List.mem_of_getElem? hp)
        obtain ⟨nt1, nt2, n12⟩ := not_taken hq0m hp
        obtain ⟨i1, hi1⟩ : ∃ i1 : Nat, p.1 = (i1 : Int) := ⟨p.1.toNat, by omega⟩
        obtain ⟨i2, hi2⟩ : ∃ i2 : Nat, p.2 = (i2 : Int) := ⟨p.2.toNat, by omega⟩
        refine ⟨b, _, rfl, SqT.of hb5, rfl, _, _, rfl, _, _, rfl, rfl, ?_⟩
        rw [hi1] at nt1 n12
        rw [hi2] at nt2 n12
        show tSeq _ _ _ [some v, some (.str x), some vb, some (.ref l), some (.int (top : Nat)), some (.ref t), some (.int (totN b1 b2 r x lo hi : Nat)), some (.ref D), some (.int p.1), some (.int p.2)] _
        rw [hi1, hi2]
        refine ⟨_, rfl, _, rfl, D, _, _, _, rfl, rfl, SqL.of hD5, by omega, at_z0 (show ((List.range x.length).map _)[i1]? = some _ by rw [List.getElem?_map, List.getElem?_range (by omega)]; rfl), _, rfl, _, _, rfl, rfl, D, _, _, i1, rfl, rfl, hD5, ixN_nt (by rw [List.length_map, List.length_range]; omega), ?_⟩
        rw [set_range (by omega)]
        refine ⟨_, rfl, _, rfl, D, _, _, _, rfl, rfl, SqL.of upd_same, by omega, at_z0 (show ((List.range x.length).map _)[i2]? = some _ by rw [List.getElem?_map, List.getElem?_range (by omega)]; rfl), _, rfl, _, _, (if_neg (show ¬ i2 = i1 by omega)), rfl, D, _, _, i2, rfl, rfl, upd_same, ixN_nt (by rw [List.length_map, List.length_range]; omega), ?_⟩
        rw [set_range (by omega)]
        refine ⟨_, _, rfl, ?_, fun bb o h1 h2 => ?_⟩
        · rw [upd_same]
          congr 2
          refine List.map_congr_left fun i _ => ?_
          have ht := taken_take hp (i : Int)
          rw [hi1, hi2] at ht
          by_cases e2 : i = i2
          · subst e2
            rw [if_pos rfl, if_neg nt2, if_pos (ht.mpr (.inr (.inr rfl)))]
            rfl
          · rw [if_neg e2]
            by_cases e1 : i = i1
            · subst e1
              rw [if_pos rfl, if_neg nt1, if_pos (ht.mpr (.inr (.inl rfl)))]
              rfl
            · rw [if_neg e1]
              by_cases h : (i : Int) ∈ takenL (q0.take j)
              · rw [if_pos h, if_pos (ht.mpr (.inl h))]
              · rw [if_neg h, if_neg fun w => (ht.mp w).elim h fun w => by omega]
        · rw [upd_ne h1, upd_ne h1]
          exact b5 _ _ h1 h2
      · obtain ⟨y8, y9, rfl, hD5, b5⟩ := hv
        have etk : q0.take fs.length = q0 := List.take_of_length_le (by omega)
        rw [etk] at hD5
        refine ⟨_, _, y8, y9, rfl, ?_, fun bb o h1 h2 => b5 _ _ h1 (b4 _ _ h1 h2)⟩
        rw [hD5]
        congr 2
        refine List.map_congr_left fun i _ => ?_
        rw [List.take_add_one, hq0]
        show _ = V.int ((tW b1 b2 lo hi r x (L.take n ++ [q0]) i : Nat) : Int)
        rw [tW_snoc, ← htop]
    · obtain ⟨y4, y5, y8, y9, rfl, hD4, b4⟩ := hv
      rw [List.take_of_length_le (by omega)] at hD4
      have x04 : Ext H H4 := fun b o h => b4 _ _ (fun w => by
        have := x1 _ _ h
        rw [w, hD0] at this
        cases this) (x3 _ _ h)
      refine ⟨_, rfl, D, rfl, ⟨_, SqL.of hD4⟩, fun G2 hG2' => lc_list (K := K) (xs := (List.range x.length).map fun i => V.int (tW b1 b2 lo hi r x L i : Nat)) (GenP ShT G2 H4 ((List.range x.length).map fun i => shO b1 b2 r x lo hi (.pl i))) (gen_new hG2') (fun i H6 _ h => SqL.of (h.ext _ _ hD4)) (fun i u H6 hi' hv => ?_) (fun H6 hv => ?_)⟩
      · have hil : i < x.length := by
          have := (List.getElem?_eq_some_iff.mp hi').1
          rw [List.length_map, List.length_range] at this
          exact this
        rw [List.getElem?_map, List.getElem?_range hil] at hi'
        obtain rfl := Option.some.inj hi'
        have h0 := tot_pos (r := r) (x := x) (lo := lo) (hi := hi) p1 p2
        have htl := tot_lt hWd hE hx
        have hfr := tW_free (b1 := b1) (b2 := b2) (lo := lo) (hi := hi) (r := r) (x := x) i L
        rw [hW_all hLp] at hfr
        have ed : ((totN b1 b2 r x lo hi : Nat) : Int) - ((tW b1 b2 lo hi r x L i : Nat) : Int) = ((hW b1 b2 lo hi r x L (.pl i) : Nat) : Int) := by omega
        refine ⟨rfl, _, rfl, _, rfl, _, _, rfl, rfl, _, rfl, _, _, rfl, by omega, by rw [Int.natAbs_natCast]; exact Nat.lt_of_lt_of_le htl p4000, fun u7 H7 hs7 k7 => ?_⟩
        rw [ed, hW_tal hLp] at hs7
        refine gen_step ShT.monoM hG2' hv k7 (b := shO b1 b2 r x lo hi (.pl i)) hs7 ?_ ?_
        · rw [List.getElem?_map, List.getElem?_range hil]
          rfl
        · rw [List.length_map, List.length_range]
          omega
      obtain ⟨vs2, hL6, hP6, k6⟩ := gen_end hv (by rw [List.length_map, List.length_map]; omega)
      exact q lo hi G2 vs2 H6 hE (x04.none hG2') hL6 hP6 (x04.trans k6)
end
end Pf


namespace Pf
open PySem PySem.Spec PyProof.Rows L2
theorem ty_keys {t : List (Int × Nat)} {M : List Int} (h : TyAt t M) (z : Int) : z ∈ t.map (·.1) ↔ z ∈ M := by
  constructor
  · intro hz
    obtain ⟨y, hy, rfl⟩ := List.mem_map.mp hz
    obtain ⟨i, hi, e⟩ := List.getElem_of_mem hy
    have h1 := lk_at h.nd (show t[i]? = some y by rw [List.getElem?_eq_getElem hi, e])
    have h2 := h.pos y hy
    have h3 := h.cnt y.1
    exact List.count_pos_iff.mp (by omega)
  · intro hz
    apply Classical.byContradiction
    intro hn
    have h1 := lk_no hn
    have h2 := h.cnt z
    have := List.count_pos_iff.mpr hz
    omega
theorem ty_list {kvs : List (Key × V)} {M : List Int} (h : TyIs kvs M) : ∃ ks : List Int, (kvs.map fun kv => kV kv.1) = ks.map V.int ∧ (∀ z, z ∈ ks ↔ z ∈ M) ∧ kvs.map (·.1) = ks.map Sum.inl ∧ ks.Nodup := by
  obtain ⟨t, rfl, a⟩ := h
  refine ⟨t.map (·.1), ?_, ty_keys a, ?_, a.nd⟩
  · rw [List.map_map, List.map_map]
    rfl
  · rw [List.map_map, List.map_map]
    rfl
theorem mul_cast (a b : Nat) : ((a : Int) * (b : Int)) = ((a * b : Nat) : Int) := by
  rw [Int.natCast_mul]
section
variable {P : Program} {w : World} {K : PySem.W.Frag} {mg : Str → Option Value} {base : Heap}
abbrev s_law_due : Stmt := topS 47
theorem sc_law_due : FnScope ["_law_counted_here", "_law_ground", "_law_every", "_law_by_pair", "_law_by_place", "_law_low", "_law_high", "_law_whole", "_law_row"] ["_law_counted_here", "_law_ground"] (defScope s_law_due) :=
  ⟨rfl, rfl, rfl, by decide +kernel, rfl, by decide +kernel, by decide +kernel⟩
def spDue33 (K : PySem.W.Frag) : Sp := fun vs H Q _ => ∃ (t e bp l : Addr) (as : List Addr) (pl : List ((Int × Int) × Addr)) (vb : V) (r : Rl) (x : Str) (b1 b2 : Nat), vs = [.ref t, vb] ∧ H t = some (.tup [.ref e, .ref bp, .ref l]) ∧ Cd r x H e bp l as pl ∧ BsAt K H vb b1 b2 ∧ WideB r x b1 b2 ∧ x.length ≤ 10 ∧
  ∀ (lo hi : Int) (lf : Addr) (us : List V) (H' : Hp), EndsW r x lo hi → H' lf = some (.lst us) → Paired (ShT H') us ((List.range x.length).map fun i => shO b1 b2 r x lo hi (.pl i)) → Ext H H' → Q (.ref lf) H'
theorem ok_due33 {f : Addr} {fd : FuncData} (F : Fun K "_law_due" "_law_due" s_law_due f fd) (c_law_sum : CLSum P w K mg base) (c_law_short : CShort P w K mg base) (mlist : mg "list" = none) (mmin : mg "min" = none) (mmax : mg "max" = none) : FnOk P w K mg base CX0 2 f fd ["_law_counted_here", "_law_ground"] (spDue33 K) := by
  refine F.ok sc_law_due (fun vs H Q E h => ?_) (fun cdv A outer s H vs Q E hr h => ?_)
  · obtain ⟨t, e, bp, l, as, pl, vb, r, x, b1, b2, rfl, _⟩ := h
    rfl
  · obtain ⟨t, e, bp, l, as, pl, vb, r, x, b1, b2, rfl, ht, hC, hB, hW, hx, q⟩ := h
    refine ⟨_, (pss_cons (ps_asg (pv 0) (pg_tup rfl (pgs_cons (pg_name (i := 2) sc_law_due.nd rfl (.inl rfl)) (pgs_cons (pg_name (i := 3) sc_law_due.nd rfl (.inl rfl)) (pgs_cons (pg_name (i := 4) sc_law_due.nd rfl (.inl rfl)) pgs_nil)))))
      (pss_cons (ps_asg (pe_tup (pa_cons (pe_callB (minL K rfl) (by rfl) mmin (by decide +kernel) (pa_cons (pe_callTy (call_list_dK rfl) (by rfl) mlist (by decide +kernel) (pa_cons (pv 2) pa_nil)) pa_nil)) (pa_cons (pe_callB (maxL K rfl) (by rfl) mmax (by decide +kernel) (pa_cons (pe_callTy (call_list_dK rfl) (by rfl) mlist (by decide +kernel) (pa_cons (pv 2) pa_nil)) pa_nil)) pa_nil))) (pg_tup rfl (pgs_cons (pg_name (i := 5) sc_law_due.nd rfl (.inr rfl)) (pgs_cons (pg_name (i := 6) sc_law_due.nd rfl (.inr rfl)) pgs_nil))))
      (pss_cons (ps_set (i := 7) sc_law_due.nd rfl (.inr rfl) (pe_ca c_law_sum (hr.mono (by decide)) (by rfl) (pa_cons (pv 2) (pa_cons (pv 1) (pa_cons (pv 5) (pa_cons (pv 6) pa_nil))))))
      (pss_one (ps_ret (pe_lc (own := [("_law_row", 8)]) (g := gName 8) (by rfl) sc_law_due.nd (pi_list (pv 4)) (blkOk_by (own := [("_law_row", 8)]) (N := ["_law_counted_here", "_law_ground", "_law_every", "_law_by_pair", "_law_by_place", "_law_low", "_law_high", "_law_whole", "_law_row"]) (sc := defScope s_law_due) (by decide +kernel)) (fun _ _ _ _ _ => (pg_name (i := 8) sc_law_due.nd rfl (.inl rfl))) (fun _ _ _ _ _ => pts_nil) (fun _ _ _ _ _ => (pe_ca c_law_short (hr.mono (by decide)) (by rfl) (pa_cons (pe_ca c_law_sum (hr.mono (by decide)) (by rfl) (pa_cons (pv 8) (pa_cons (pv 1) (pa_cons (pv 5) (pa_cons (pv 6) pa_nil))))) (pa_cons (pv 7) pa_nil)))))))))), ?_⟩
    obtain ⟨kvs, hkv, hTy⟩ := hC.ty .all e rfl
    rw [tal_all] at hTy
    obtain ⟨ks, hks, hkm, _, hknd⟩ := ty_list hTy
    have hk0 : 0 < ks.length := by
      have := (hkm 0).mpr (zero_in r x)
      cases ks with
      | nil => cases this
      | cons _ _ => exact Nat.succ_pos _
    refine ⟨_, rfl, t, _, rfl, SqT.of ht, rfl, _, _, rfl, _, _, rfl, _, _, rfl, rfl, ?_⟩
    refine ⟨_, rfl, e, kvs, rfl, hkv, fun l1 hl1 => ?_⟩
    rw [hks]
    refine ⟨l1, ks, rfl, SqL.of upd_same, hk0, fun lo hlo hlm => ?_⟩
    have x1 := Ext.new (o := .lst (ks.map V.int)) hl1
    have hkv1 := x1 _ _ hkv
    refine ⟨_, rfl, e, kvs, rfl, hkv1, fun l2 hl2 => ?_⟩
    rw [hks]
    refine ⟨l2, ks, rfl, SqL.of upd_same, hk0, fun hi hhi hhm => ?_⟩
    have x2 := x1.trans (Ext.new (o := .lst (ks.map V.int)) hl2)
    have hE : EndsW r x lo hi := ends_of hkm hlo hlm hhi hhm
    have hE0 := hE.zero
    have hWM := wideM_of hW hE
    have hkv2 := x2 _ _ hkv
    have hC2 := hC.ext x2
    have hB2 := hB.ext x2
    generalize upd (upd H l1 (.lst (ks.map V.int))) l2 (.lst (ks.map V.int)) = H2' at x2 hkv2 hB2 hC2 ⊢
    refine ⟨szL (show 2 ≤ 1000000 by decide), fun tp htp => ⟨tp, _, rfl, SqT.of upd_same, rfl, _, _, rfl, _, _, rfl, rfl, ?_⟩⟩
    have xtp := Ext.new (o := .tup [.int lo, .int hi]) htp
    have x2 := x2.trans xtp
    have hkv2 := xtp _ _ hkv2
    have hB2 := hB2.ext xtp
    have hC2 := hC2.ext xtp
    generalize upd H2' tp (.tup [.int lo, .int hi]) = H2 at x2 hkv2 hB2 hC2 ⊢
    obtain ⟨W, k, hWl, hWh, hW2, p1, k1, q1, p2, k2, q2, hWk⟩ := id hWM
    obtain ⟨tb, rfl, hB3⟩ := id hB2
    have hMm : ∀ m ∈ (WA r x x.length 0).map (woV r x), lo ≤ m ∧ m ≤ hi := fun m hm => ⟨hlm m ((hkm m).mpr hm), hhm m ((hkm m).mpr hm)⟩
    have hMl : ((WA r x x.length 0).map (woV r x)).length ≤ 2188 := by
      rw [List.length_map]
      exact WA_len10 r x hx 0
    have hSl := tot_lt hW hE hx
    have hS0 := tot_pos (r := r) (x := x) (lo := lo) (hi := hi) p1 p2
    refine ⟨_, rfl, _, rfl, _, rfl, _, rfl, e, _, kvs, _, b1, b2, lo, hi, rfl, hkv2, hTy, hB2, hWM, by omega, hMm, hMl, ?_⟩
    rw [sumN_tot]
    obtain ⟨S, hSe⟩ : ∃ S, S = totN b1 b2 r x lo hi := ⟨_, rfl⟩
    rw [← hSe] at hSl hS0 ⊢
    refine ⟨_, rfl, l, rfl, ⟨_, SqL.of hC2.lH⟩, fun G2 hG2' => lc_list (K := K) (xs := as.map V.ref) (GenP ShT G2 H2 ((List.range x.length).map fun i => shO b1 b2 r x lo hi (.pl i))) (gen_new hG2') (fun i H6 _ h => SqL.of (h.ext _ _ hC2.lH)) (fun i u H6 hi' hv => ?_) (fun H6 hv => ?_)⟩
    · rw [List.getElem?_map] at hi'
      obtain ⟨a, ha, rfl⟩ := Option.map_eq_some_iff.mp hi'
      have hil : i < x.length := by
        have := (List.getElem?_eq_some_iff.mp ha).1
        rw [hC.al] at this
        exact this
      have k6 := hv.ext
      obtain ⟨ky, hky, hTky⟩ := hC2.ty (.pl i) a ha
      have hMk : ∀ m ∈ tal r x (WA r x x.length 0) (.pl i), lo ≤ m ∧ m ≤ hi := fun m hm => by
        unfold tal at hm
        obtain ⟨q', hq, rfl⟩ := List.mem_map.mp hm
        exact hE.btw q' (List.mem_filter.mp hq).1
      refine ⟨rfl, _, rfl, _, rfl, _, rfl, _, rfl, a, _, ky, _, b1, b2, lo, hi, rfl, k6 _ _ hky, hTky, hB2.ext k6, hWM, by omega, hMk, Nat.le_trans (tal_len ..) (WA_len10 r x hx 0), ?_⟩
      refine ⟨_, rfl, _, _, rfl, by omega, by rw [Int.natAbs_natCast]; exact Nat.lt_of_lt_of_le hSl p4000, fun u7 H7 hs7 k7 => ?_⟩
      refine gen_step ShT.monoM hG2' hv k7 (b := shO b1 b2 r x lo hi (.pl i)) ?_ ?_ ?_
      · unfold shO
        rw [← hSe]
        exact hs7
      · rw [List.getElem?_map, List.getElem?_range hil]
        rfl
      · rw [List.length_map, List.length_range]
        omega
    obtain ⟨vs2, hL6, hP6, k6⟩ := gen_end hv (by rw [List.length_map, List.length_map, List.length_range, hC.al]; exact Nat.le_refl _)
    exact q lo hi G2 vs2 H6 hE hL6 hP6 (x2.trans k6)
abbrev CDue33 (P : Program) (w : World) (K : PySem.W.Frag) (mg : Str → Option Value) (base : Heap) : Prop := Ca P w K mg base 2 "_law_due" ["_law_counted_here", "_law_ground"] (spDue33 K)
end
end Pf


namespace Pf
open PySem PySem.Spec PyProof.Rows L2
/-! ### how great worths get, by how great the rules' worths are -/
theorem mulB {m c l : Int} (hc : 0 ≤ c) (h : -m ≤ l ∧ l ≤ m) : -(m * c) ≤ c * l ∧ c * l ≤ m * c := by
  have h1 := Int.mul_le_mul_of_nonneg_left h.2 hc
  have h2 := Int.mul_le_mul_of_nonneg_left h.1 hc
  rw [Int.mul_neg] at h2
  rw [Int.mul_comm m c]
  omega
theorem loB {m : Int} {r : Rl} (hm : 0 ≤ m) (h : WB m r) (i : Nat) : -m ≤ lo r i ∧ lo r i ≤ m := by
  unfold lo
  rw [List.getD_eq_getElem?_getD]
  cases e : r.loops[i]? with
  | none =>
    show -m ≤ (0 : Int) ∧ (0 : Int) ≤ m
    omega
  | some y => exact h.2.1 y (List.mem_of_getElem? e)
theorem pwB {m : Int} (hm : 0 ≤ m) (b : Str) : ∀ {prs : List (Str × Int)}, (∀ y ∈ prs, -m ≤ y.2 ∧ y.2 ≤ m) → -m ≤ pwI prs b ∧ pwI prs b ≤ m
  | [], _ => by
    show -m ≤ (0 : Int) ∧ (0 : Int) ≤ m
    omega
  | y :: r, h => by
    rw [pwI]
    split
    · exact h y (List.mem_cons_self ..)
    · exact pwB hm b fun z hz => h z (List.mem_cons_of_mem _ hz)
theorem swB {m : Int} (hm : 0 ≤ m) (o n : Str) : ∀ {stk : List (Str × Str × Int)}, (∀ y ∈ stk, -m ≤ y.2.2 ∧ y.2.2 ≤ m) → -m ≤ swI stk o n ∧ swI stk o n ≤ m
  | [], _ => by
    show -m ≤ (0 : Int) ∧ (0 : Int) ≤ m
    omega
  | (t, u, z) :: r, h => by
    rw [swI]
    split
    · exact h (t, u, z) (List.mem_cons_self ..)
    · exact swB hm o n fun z hz => h z (List.mem_cons_of_mem _ hz)
theorem lpB {m : Int} (hm : 0 ≤ m) {r : Rl} (h : WB m r) (x : Str) (one : Int × Int) (ks : Fo) (hf : 0 ≤ freeI one ks) : -(m * (1 + ks.length + freeI one ks)) ≤ lpW r x one ks ∧ lpW r x one ks ≤ m * (1 + ks.length + freeI one ks) := by
  have e : m * (1 + (ks.length : Int) + freeI one ks) = m + m * (ks.length : Int) + m * freeI one ks := by rw [Int.mul_add, Int.mul_add, Int.mul_one]
  rw [e]
  have hk := mulB (m := m) (c := (ks.length : Int)) (by omega) (loB hm h 4)
  have h7 := mulB hf (loB hm h 7)
  have h5 := mulB hf (loB hm h 5)
  have h2 := mulB hf (loB hm h 2)
  have l6 := loB hm h 6
  have l3 := loB hm h 3
  have l1 := loB hm h 1
  have l0 := loB hm h 0
  have n1 : 0 ≤ m * (ks.length : Int) := Int.mul_nonneg hm (by omega)
  have n2 : 0 ≤ m * freeI one ks := Int.mul_nonneg hm hf
  have sw := swB hm (tx2 x one) (tx2 x (ks.headD (0, 0))) h.2.2
  unfold lpW
  split
  · omega
  · split
    · omega
    · rename_i c0 c1
      have k1 : ks.length = 1 := by omega
      split
      · omega
      · have : m * (ks.length : Int) = m := by rw [k1]; exact Int.mul_one m
        omega
theorem dist4 (m a b c : Int) : m + m * a + m * b + m * c = m * (1 + a + b + c) := by
  rw [Int.mul_add, Int.mul_add, Int.mul_add, Int.mul_one]
theorem pV1_left {a k : Int} {u w : Fo} (c : Cut a k u w) (r : Rl) (x : Str) {p : Int × Int} (hp : p ∈ u) : pV1 r x ((a, k) :: (u ++ w)) p = pV1 r x u p := by
  unfold pV1 strC
  rw [c.str1 hp]
theorem pV1_right {a k : Int} {u w : Fo} (c : Cut a k u w) (r : Rl) (x : Str) {p : Int × Int} (hp : p ∈ w) : pV1 r x ((a, k) :: (u ++ w)) p = pV1 r x w p := by
  unfold pV1 strC
  rw [c.str2 hp]
theorem zB {m : Int} (hm : 0 ≤ m) {r : Rl} (h : WB m r) (r0 : Rl) (x : Str) : ∀ (n : Nat) (a : Int), ∀ q ∈ WA r0 x n a, -(m * (wid (tops q) + q.length - (tops q).length)) ≤ (q.map (pV1 r x q)).sum ∧ (q.map (pV1 r x q)).sum ≤ m * (wid (tops q) + q.length - (tops q).length) := by
  intro n
  induction n using Nat.strongRecOn with
  | ind n ih =>
    intro a q hq
    match n, ih, hq with
    | 0, _, hq =>
      rw [WA_zero, List.mem_singleton] at hq
      subst hq
      show -(m * (0 + 0 - 0)) ≤ (0 : Int) ∧ (0 : Int) ≤ m * (0 + 0 - 0)
      simp
    | n + 1, ih, hq =>
      rcases WA_cases hq with hq | ⟨t, one, other, ht, _, h1, h2, rfl⟩
      · exact ih n (by omega) _ _ hq
      · have c := Cut.of h1 h2
        have i1 := ih t (by omega) _ _ h1
        have i2 := ih (n - 1 - t) (by omega) _ _ h2
        have ws := wid_tops r0 x t (a + 1) one h1
        have es : strC ((a, a + 1 + (t : Int)) :: (one ++ other)) a (a + 1 + (t : Int)) = tops one := by
          unfold strC
          rw [c.str0, nn_tops r0 x t (a + 1) one h1]
        have hf : freeI (a, a + 1 + (t : Int)) (tops one) = (t : Int) - wid (tops one) := by
          unfold freeI
          show a + 1 + (t : Int) - a - 1 - wid (tops one) = _
          omega
        have hl := lpB hm h x (a, a + 1 + (t : Int)) (tops one) (by rw [hf]; omega)
        have hp := pwB hm (tx2 x (a, a + 1 + (t : Int))) h.1
        rw [hf] at hl
        have e1 : one.map (pV1 r x ((a, a + 1 + (t : Int)) :: (one ++ other))) = one.map (pV1 r x one) := List.map_congr_left fun p hp => pV1_left c r x hp
        have e2 : other.map (pV1 r x ((a, a + 1 + (t : Int)) :: (one ++ other))) = other.map (pV1 r x other) := List.map_congr_left fun p hp => pV1_right c r x hp
        have e0 : pV1 r x ((a, a + 1 + (t : Int)) :: (one ++ other)) (a, a + 1 + (t : Int)) = pwI r.prs (tx2 x (a, a + 1 + (t : Int))) + lpW r x (a, a + 1 + (t : Int)) (tops one) := by
          unfold pV1
          rw [es]
        rw [List.map_cons, List.sum_cons, List.map_append, List.sum_append, e1, e2, e0, c.tops, wid_cons]
        have et : m * ((a + 1 + (t : Int) - a + 1) + wid (tops other) + (((a, a + 1 + (t : Int)) :: (one ++ other)).length : Int) - (((a, a + 1 + (t : Int)) :: tops other).length : Int)) = m + m * (1 + ((tops one).length : Int) + ((t : Int) - wid (tops one))) + m * (wid (tops one) + (one.length : Int) - ((tops one).length : Int)) + m * (wid (tops other) + (other.length : Int) - ((tops other).length : Int)) := by
          have : m + m * (1 + ((tops one).length : Int) + ((t : Int) - wid (tops one))) + m * (wid (tops one) + (one.length : Int) - ((tops one).length : Int)) + m * (wid (tops other) + (other.length : Int) - ((tops other).length : Int)) = m * (1 + (1 + ((tops one).length : Int) + ((t : Int) - wid (tops one))) + (wid (tops one) + (one.length : Int) - ((tops one).length : Int)) + (wid (tops other) + (other.length : Int) - ((tops other).length : Int))) := by
            exact dist4 _ _ _ _
          rw [this]
          congr 1
          simp only [List.length_cons, List.length_append, Int.natCast_add, Int.natCast_one]
          omega
        show -(m * ((a + 1 + (t : Int) - a + 1) + wid (tops other) + (((a, a + 1 + (t : Int)) :: (one ++ other)).length : Int) - (((a, a + 1 + (t : Int)) :: tops other).length : Int))) ≤ _ ∧ _ ≤ m * ((a + 1 + (t : Int) - a + 1) + wid (tops other) + (((a, a + 1 + (t : Int)) :: (one ++ other)).length : Int) - (((a, a + 1 + (t : Int)) :: tops other).length : Int))
        rw [et]
        omega
theorem woB {m : Int} (hm : 0 ≤ m) {r : Rl} (h : WB m r) (r0 : Rl) (x : Str) {n : Nat} {a : Int} {q : Fo} (hq : q ∈ WA r0 x n a) {N : Int} (hN : (n : Int) + (n / 2 : Nat) ≤ N) : -(m * N) ≤ woV r x q ∧ woV r x q ≤ m * N := by
  have hz := zB hm h r0 x n a q hq
  have hw := wid_tops r0 x n a q hq
  have hl := (WA_in r0 x n a q hq).2
  have h8 := mulB (m := m) (c := ((tops q).length : Int)) (by omega) (loB hm h 8)
  have e : m * ((tops q).length : Int) + m * (wid (tops q) + q.length - (tops q).length) = m * (wid (tops q) + q.length) := by
    rw [← Int.mul_add]
    congr 1
    omega
  have hle : m * (wid (tops q) + (q.length : Int)) ≤ m * N := Int.mul_le_mul_of_nonneg_left (by omega) hm
  rw [← woV_eq, Int.mul_comm (lo r 8)]
  omega
theorem wide_of {m : Int} {W k : Nat} {r : Rl} {x : Str} {b1 b2 : Nat} (hm : 0 ≤ m) (h : WB m r) (hW : m * ((x.length : Int) + (x.length / 2 : Nat)) ≤ W) (hW2 : W ≤ 2000) (h1 : 1 ≤ b1) (k1 : b1 ≤ 2 ^ k) (q1 : b1 < 2 ^ 14) (h2 : 1 ≤ b2) (k2 : b2 ≤ 2 ^ k) (q2 : b2 < 2 ^ 14) (hk : 2 * W * k ≤ 1800) : WideB r x b1 b2 :=
  ⟨W, k, fun q hq => by
    have := woB hm h r x hq (Int.le_refl _)
    omega, hW2, h1, k1, q1, h2, k2, q2, hk⟩
end Pf


namespace Pf
open PySem PySem.Spec PyProof.Rows L2
/-! ### rules as data -/
theorem dpIntsAt {K : PySem.W.Frag} {H : Hp} : ∀ {vs : List V} {ns : List Int}, Paired (IntAt H) vs ns → DpAll K H vs (ns.map PyData.int)
  | _, _, .nil => .nil
  | _, _, .cons e t => .cons ((show _ = V.int _ from e) ▸ .int _) (dpIntsAt t)
def dPr (x : Str × Int) : PyData := .tuple [.str x.1, .int x.2]
theorem dpPairs {K : PySem.W.Frag} {H : Hp} : ∀ {vs : List V} {prs : List (Str × Int)}, Paired (PairAt H) vs prs → DpAll K H vs (prs.map dPr)
  | _, _, .nil => .nil
  | _, _, .cons ⟨_, e, h⟩ t => .cons (e ▸ .tup (SqT.of h) (.cons (.str _) (.cons (.int _) .nil))) (dpPairs t)
theorem sm_prs {prs : List (Str × Int)} (hn : prs.length ≤ 12) (h : ∀ x ∈ prs, Two x.1 ∧ -99 ≤ x.2 ∧ x.2 ≤ 99) : Sm 2000 2 (.tuple (prs.map dPr)) := by
  refine Sm.tup (n := 12) (m := 130) (k := 1) (by rw [List.length_map]; exact hn) (fun d hd => ?_) (by decide)
  obtain ⟨x, hx, rfl⟩ := List.mem_map.mp hd
  have h1 := h x hx
  refine Sm.tup (n := 2) (m := 64) (k := 0) (Nat.le_refl _) (fun d hd => ?_) (by decide)
  simp only [List.mem_cons, List.not_mem_nil, or_false] at hd
  rcases hd with rfl | rfl
  · exact (Sm.str h1.1.2.ok (Nat.le_refl _)).le (by rw [h1.1.1]; decide) (Nat.le_refl _)
  · exact Sm.int (by omega) (by omega)
def dSt (x : Str × Str × Int) : PyData := .tuple [.str x.1, .str x.2.1, .int x.2.2]
theorem dpStacks {K : PySem.W.Frag} {H : Hp} : ∀ {vs : List V} {ps : List (Str × Str × Int)}, Paired (StackAt H) vs ps → DpAll K H vs (ps.map dSt)
  | _, _, .nil => .nil
  | _, _, .cons ⟨_, e, h⟩ t => .cons (e ▸ .tup (SqT.of h) (.cons (.str _) (.cons (.str _) (.cons (.int _) .nil)))) (dpStacks t)
def dRl (r : Rl) : PyData := .tuple [.str r.letters, .tuple (r.prs.map dPr), .int r.span, .tuple (r.loops.map PyData.int), .tuple (r.stk.map dSt)]
theorem dp_rules {K : PySem.W.Frag} {H : Hp} {v : V} {r : Rl} (h : RulesAt H v r) : Dp K H v (dRl r) := by
  obtain ⟨a, vp, vl, vs, rfl, hA, ⟨ap, oz, us, rfl, hp, _, hP⟩, ⟨al, ls, rfl, hl, hL⟩, ⟨as, ss, rfl, hs, hS⟩⟩ := h
  exact .tup (SqT.of hA) (.cons (.str _) (.cons (.tup (SqT.fz hp) (dpPairs hP)) (.cons (.int _) (.cons (.tup (SqT.of hl) (dpIntsAt hL)) (.cons (.tup (SqT.of hs) (dpStacks hS)) .nil)))))
theorem sm_rules {r : Rl} (ok : RlOk r) : Sm 50000 3 (dRl r) := by
  refine Sm.tup (n := 5) (m := 5000) (k := 2) (Nat.le_refl _) (fun d hd => ?_) (by decide)
  simp only [List.mem_cons, List.not_mem_nil, or_false] at hd
  have h3 := ok.sp0
  have h4 := ok.sp3
  rcases hd with rfl | rfl | rfl | rfl | rfl
  · exact (Sm.str ok.small.ok ok.let6).le (by decide) (by decide)
  · exact (sm_prs ok.prs ok.pr).le (by decide) (by decide)
  · exact (Sm.int (by omega) (by omega)).le (by decide) (by decide)
  · refine (Sm.tup (n := 9) (m := 64) (k := 0) (by rw [List.length_map, ok.lo9]; exact Nat.le_refl _) (fun d hd => ?_) (Nat.le_refl _)).le (by decide) (by decide)
    obtain ⟨z, hz, rfl⟩ := List.mem_map.mp hd
    have := ok.lo z hz
    exact Sm.int (by omega) (by omega)
  · refine (Sm.tup (n := 12) (m := 200) (k := 1) (by rw [List.length_map]; exact ok.stk) (fun d hd => ?_) (Nat.le_refl _)).le (by decide) (by decide)
    obtain ⟨z, hz, rfl⟩ := List.mem_map.mp hd
    have hk := ok.st z hz
    refine Sm.tup (n := 3) (m := 64) (k := 0) (Nat.le_refl _) (fun d hd => ?_) (by decide)
    simp only [List.mem_cons, List.not_mem_nil, or_false] at hd
    rcases hd with rfl | rfl | rfl
    · exact (Sm.str hk.1.2.ok (Nat.le_of_eq hk.1.1)).le (by decide) (by decide)
    · exact (Sm.str hk.2.1.2.ok (Nat.le_of_eq hk.2.1.1)).le (by decide) (by decide)
    · exact Sm.int (by omega) (by omega)
/-! ### what is found, as data -/
end Pf


namespace Pf
open PySem PySem.Spec PyProof.Rows L2
theorem bg_sh {s : Int × Int} (h1 : s.1.natAbs < 2 ^ 1812) (h2 : s.2.natAbs < 2 ^ 1812) : Bg 1813 3626 1 (dSh s) := by
  refine Bg.tup (n := 2) (m := 1812) (by simp) (fun d hd => ?_) (by decide)
  simp only [List.mem_cons, List.not_mem_nil, or_false] at hd
  rcases hd with rfl | rfl
  · exact Bg.int (by decide) (by decide) h1
  · exact Bg.int (by decide) (by decide) h2
theorem tot_bg {r : Rl} {x : Str} {b1 b2 : Nat} {lo hi : Int} (hW : WideB r x b1 b2) (hE : EndsW r x lo hi) (hx : x.length ≤ 10) : totN b1 b2 r x lo hi < 2 ^ 1812 ∧ botN b1 b2 lo hi < 2 ^ 1812 ∧ 1 ≤ botN b1 b2 lo hi := by
  obtain ⟨W, k, hWl, hWh, hW2, p1, k1, q1, p2, k2, q2, hWk⟩ := wideM_of hW hE
  refine ⟨?_, Nat.lt_of_le_of_lt (botN_le k1 k2 hWl hWh) (Nat.pow_lt_pow_right (by decide) (by omega)), Nat.mul_pos (Nat.pow_pos p1) (Nat.pow_pos p2)⟩
  rw [← sumN_tot]
  refine sumN_lt k1 k2 hWl hWh (fun m hm => ?_) (by rw [List.length_map]; exact WA_len10 r x hx 0) hWk
  obtain ⟨q, hq, rfl⟩ := List.mem_map.mp hm
  exact hE.btw q hq
theorem bg_tot {r : Rl} {x : Str} {b1 b2 : Nat} {lo hi : Int} (hW : WideB r x b1 b2) (hE : EndsW r x lo hi) (hx : x.length ≤ 10) : Bg 1813 3626 1 (dSh (shr (totN b1 b2 r x lo hi : Nat) (botN b1 b2 lo hi : Nat))) := by
  obtain ⟨h1, h2, h3⟩ := tot_bg hW hE hx
  have := shr_b (u := ((totN b1 b2 r x lo hi : Nat) : Int)) (d := ((botN b1 b2 lo hi : Nat) : Int)) (B := 2 ^ 1812) (by omega) (by rw [Int.natAbs_natCast]; exact h1) (by rw [Int.natAbs_natCast]; exact h2)
  exact bg_sh this.1 this.2.1
def dKs (r : Rl) (x : Str) (b : Int × Int) : PyData := .tuple [dRl r, .str x, dSh b]
theorem dp_two {K : PySem.W.Frag} {H : Hp} {v : V} {b : Int × Int} (h : TwoAt H v b) : Dp K H v (dSh b) := by
  obtain ⟨t, rfl, e⟩ := h
  exact .tup (SqT.of e) (.cons (.int _) (.cons (.int _) .nil))
theorem sm_ks {r : Rl} (ok : RlOk r) {x : Str} (hs : Small x) (hx : x.length ≤ 20) {b : Int × Int} (h1 : 0 ≤ b.1 ∧ b.1 < 10000) (h2 : 0 ≤ b.2 ∧ b.2 < 10000) : Sm 200000 4 (dKs r x b) := by
  refine Sm.tup (n := 3) (m := 50000) (by simp) (fun d hd => ?_) (by decide)
  simp only [List.mem_cons, List.not_mem_nil, or_false] at hd
  rcases hd with rfl | rfl | rfl
  · exact (sm_rules ok).le (by decide) (by decide)
  · exact (Sm.str hs.ok hx).le (by decide) (by decide)
  · refine (Sm.tup (n := 2) (m := 64) (M := 130) (k := 0) (by simp) (fun d hd => ?_) (by decide)).le (by decide) (by decide)
    simp only [List.mem_cons, List.not_mem_nil, or_false] at hd
    rcases hd with rfl | rfl
    · exact Sm.int (by omega) (by omega)
    · exact Sm.int (by omega) (by omega)
/-- what a base, drawn for a limit, lets worths be -/
theorem wide_base {m : Int} {r : Rl} {x : Str} {b : Int × Int} (hb : BaseOk m b) (hWB : WB m r) (hm : (m = 2 ∧ x.length ≤ 8) ∨ (m = 30 ∧ x.length ≤ 6) ∨ (m = 99 ∧ x.length ≤ 5)) : WideB r x b.1.toNat b.2.toNat := by
  obtain ⟨h1, h2, h3, h4, h5, h6⟩ := hb
  rcases hm with ⟨rfl, hx⟩ | ⟨rfl, hx⟩ | ⟨rfl, hx⟩
  · exact wide_of (W := 24) (k := 14) (by decide) hWB (by omega) (by decide) (by omega) (by omega) (by omega) (by omega) (by omega) (by omega) (by decide)
  · have := h5 (by decide)
    exact wide_of (W := 270) (k := 1) (by decide) hWB (by omega) (by decide) (by omega) (by omega) (by omega) (by omega) (by omega) (by omega) (by decide)
  · have := h6 (by decide)
    subst this
    exact wide_of (W := 693) (k := 0) (by decide) hWB (by omega) (by decide) (by decide) (by decide) (by decide) (by decide) (by decide) (by decide) (by decide)
theorem wide_one {m : Int} {r : Rl} {x : Str} (hWB : WB m r) (hm : (m = 2 ∧ x.length ≤ 8) ∨ (m = 30 ∧ x.length ≤ 6) ∨ (m = 99 ∧ x.length ≤ 5)) : WideB r x 1 1 := by
  have h0 : 0 ≤ m := by omega
  have hW : m * ((x.length : Int) + (x.length / 2 : Nat)) ≤ (900 : Nat) := by
    rcases hm with ⟨rfl, hx⟩ | ⟨rfl, hx⟩ | ⟨rfl, hx⟩ <;> omega
  exact wide_of (W := 900) (k := 0) h0 hWB hW (by decide) (by decide) (by decide) (by decide) (by decide) (by decide) (by decide) (by decide)
theorem bs_two {K : PySem.W.Frag} {H : Hp} {v : V} {b : Int × Int} (h : TwoAt H v b) (h1 : 0 ≤ b.1) (h2 : 0 ≤ b.2) : BsAt K H v b.1.toNat b.2.toNat := by
  obtain ⟨t, rfl, e⟩ := h
  refine ⟨t, rfl, ?_⟩
  rw [show ((b.1.toNat : Nat) : Int) = b.1 by omega, show ((b.2.toNat : Nat) : Int) = b.2 by omega]
  exact SqT.of e

def dLf (b1 b2 : Nat) (r : Rl) (x : Str) (lo hi : Int) : PyData := .list (((List.range x.length).map fun i => shO b1 b2 r x lo hi (.pl i)).map dSh)
theorem bk_lf {r : Rl} {x : Str} {b1 b2 : Nat} {lo hi : Int} (hW : WideB r x b1 b2) (hE : EndsW r x lo hi) (hx : x.length ≤ 10) : Bk 1813 1440 3 (dLf b1 b2 r x lo hi) := by
  refine (Bk.lst (n := 10) (m := 2) (k := 1) (M := 30) (by rw [List.length_map, List.length_map, List.length_range]; exact hx) (fun d hd => ?_) (by decide)).le (by decide) (by decide)
  obtain ⟨y, hy, rfl⟩ := List.mem_map.mp hd
  obtain ⟨p, hp, rfl⟩ := List.mem_map.mp hy
  have h := shO_lt hW hE hx (.pl p)
  exact bk_sh h.1 h.2
section
variable {P : Program} {w : World} {K : PySem.W.Frag} {mg : Str → Option Value} {base : Heap}
abbrev s_law : Stmt := topS 48
theorem sc_law : FnScope ["_law_script", "_law_pen_here", "_law_turn", "_law_limit", "_law_bylaws", "_law_chars", "_law_ground", "_law_counted_here", "_law_kept", "_law_due_here", "_law_found"] ["_law_script"] (defScope s_law) :=
  ⟨rfl, rfl, rfl, by decide +kernel, rfl, by decide +kernel, by decide +kernel⟩
def spLaw (K : PySem.W.Frag) : Sp := fun vs H Q _ => ∃ (a : Addr) (ns : List Int), vs = [.ref a] ∧ SqL K H a (ns.map V.int) ∧ ns.length ≤ 63 ∧ ∀ H', Q (.bl true) H'
theorem ok_law {f : Addr} {fd : FuncData} (F : Fun K "law" "law" s_law f fd) (room : Room 18 callerA) {aB : Addr} (hB1 : ∀ H : Hp, SqT K H aB [.int 1, .int 1]) (c_law_pen : Ca P w K mg base 1 "_law_pen" ["_law_script"] (spStart K)) (c_law_take : CDraw P w K mg base) (c_law_rules : Ca P w K mg base 3 "_law_rules" ["_law_pen_here", "_law_limit"] spRules) (c_law_string : CString P w K mg base) (c_law_base : Ca P w K mg base 2 "_law_base" ["_law_pen_here", "_law_limit"] spBase) (c_law_counted : CCtd P w K mg base) (c_law_due : CDue33 P w K mg base)
    (cfree_sharesN : CaN P w K mg base 7 "free_shares" ["rules", "string", "base"] 2 ["base"] (permW [0, 1, 2] []) (spFS K)) (cfree_sharesE : CaE P w K mg base 7 "free_shares" ["rules", "string", "base"] [.ref aB] (spFS K)) (cfree_sharesK : CaK P w K mg base 7 "free_shares" ["rules", "string", "base"] ["base", "string", "rules"] (permW [2, 1, 0] []) (spFS K))
    (mrepr : mg "repr" = none) (mrange : mg "range" = none) (mint : mg "int" = none) : FnG P w K mg base f fd ["_law_script"] (spLaw K) := by
  refine FnG.of (k := 17) F sc_law room (fun vs H Q E h => ?_) (fun cdv s H vs Q E hr hG h => ?_)
  · obtain ⟨a, ns, rfl, _⟩ := h
    rfl
  · obtain ⟨a0, ns, rfl, hS, hns, q⟩ := h
    refine ⟨_, (pss_cons (ps_set (i := 1) sc_law.nd rfl (.inl rfl) (pe_ca c_law_pen (hr.mono (by decide)) (by rfl) (pa_cons (pv 0) pa_nil)))
      (pss_cons (ps_for PassesOwn.never rfl (pi_range1 (by rfl) mrange (pa_cons pe_int pa_nil)) (pg_name (i := 2) sc_law.nd rfl (.inl rfl)) (pss_cons (ps_set (i := 3) sc_law.nd rfl (.inl rfl) (pe_ix (ixL K) (pe_lst (pa_cons pe_int (pa_cons pe_int (pa_cons pe_int pa_nil)))) (pv 2) (fun _ _ => rfl)))
      (pss_cons (ps_set (i := 4) sc_law.nd rfl (.inl rfl) (pe_ca c_law_rules (hr.mono (by decide)) (by rfl) (pa_cons (pv 1) (pa_cons (pv 3) pa_nil))))
      (pss_cons (ps_set (i := 5) sc_law.nd rfl (.inl rfl) (pe_ca c_law_string (hr.mono (by decide)) (by rfl) (pa_cons (pv 1) (pa_cons (pv 4) (pa_cons (pe_ix (ixL K) (pe_lst (pa_cons (pe_ix (ixL K) (pe_lst (pa_cons pe_int (pa_cons pe_int pa_nil))) (pe_callTy call_int1 (by rfl) mint (by decide +kernel) (pa_cons (pe_cmpR op_gt (pe_ca c_law_take (hr.mono (by decide)) (by rfl) (pa_cons (pv 1) (pa_cons pe_int pa_nil))) pe_int (nomark _)) pa_nil)) (fun _ _ => rfl)) (pa_cons pe_int (pa_cons pe_int pa_nil)))) (pv 2) (fun _ _ => rfl)) pa_nil)))))
      (pss_cons (ps_set (i := 6) sc_law.nd rfl (.inl rfl) (pe_ca c_law_base (hr.mono (by decide)) (by rfl) (pa_cons (pv 1) (pa_cons (pv 3) pa_nil))))
      (pss_cons (ps_set (i := 7) sc_law.nd rfl (.inl rfl) (pe_ca c_law_counted (hr.mono (by decide)) (by rfl) (pa_cons (pv 4) (pa_cons (pv 5) pa_nil))))
      (pss_cons (ps_set (i := 8) sc_law.nd rfl (.inl rfl) (pe_callB (call_show K hG hr.units) (by rfl) mrepr (by decide +kernel) (pa_cons (pe_tup (pa_cons (pv 4) (pa_cons (pv 5) (pa_cons (pv 6) pa_nil)))) pa_nil)))
      (pss_cons (ps_set (i := 9) sc_law.nd rfl (.inl rfl) (pe_callB (call_showK K hG hr.units) (by rfl) mrepr (by decide +kernel) (pa_cons (pe_ca c_law_due (hr.mono (by decide)) (by rfl) (pa_cons (pv 7) (pa_cons (pv 6) pa_nil))) pa_nil)))
      (pss_cons (ps_set (i := 10) sc_law.nd rfl (.inl rfl) (pe_caN cfree_sharesN (hr.mono (by decide)) (by rfl) (pa_cons (pv 4) (pa_cons (pv 5) pa_nil)) (pk_cons (pv 6) pk_nil)))
      (pss_cons (ps_if (pt_cmpR op_ne (pe_callB (call_showK K hG hr.units) (by rfl) mrepr (by decide +kernel) (pa_cons (pv 10) pa_nil)) (pv 9) (nomark _)) (pss_one (ps_ret pe_bl)) pss_nil)
      (pss_cons (ps_expr (pe_bm PySem.F.plainAttrs_list PySem.F.slot_list_append PySem.F.type_list_append mt_append (pv 10) (pa_cons (pe_tup (pa_cons pe_int (pa_cons pe_int pa_nil))) pa_nil)))
      (pss_cons (ps_if (pt_cmpR op_ne (pe_callB (call_showK K hG hr.units) (by rfl) mrepr (by decide +kernel) (pa_cons (pe_caK cfree_sharesK (hr.mono (by decide)) (by rfl) (pk_cons (pv 6) (pk_cons (pv 5) (pk_cons (pv 4) pk_nil)))) pa_nil)) (pv 9) (nomark _)) (pss_one (ps_ret pe_bl)) pss_nil)
      (pss_cons (ps_if (pt_cmpR op_ne (pe_callB (call_showK K hG hr.units) (by rfl) mrepr (by decide +kernel) (pa_cons (pe_caE cfree_sharesE (hr.mono (by decide)) (by rfl) (pa_cons (pv 4) (pa_cons (pv 5) pa_nil))) pa_nil)) (pe_callB (call_showK K hG hr.units) (by rfl) mrepr (by decide +kernel) (pa_cons (pe_ca c_law_due (hr.mono (by decide)) (by rfl) (pa_cons (pv 7) (pa_cons (pe_tup (pa_cons pe_int (pa_cons pe_int pa_nil))) pa_nil))) pa_nil)) (nomark _)) (pss_one (ps_ret pe_bl)) pss_nil)
      (pss_one (ps_if (pt_cmpR op_ne (pe_callB (call_show K hG hr.units) (by rfl) mrepr (by decide +kernel) (pa_cons (pe_tup (pa_cons (pv 4) (pa_cons (pv 5) (pa_cons (pv 6) pa_nil)))) pa_nil)) (pv 8) (nomark _)) (pss_one (ps_ret pe_bl)) pss_nil)))))))))))))))
      (pss_one (ps_ret (pe_cmpR (eqD K hr.units) (pe_caE cfree_sharesE (hr.mono (by decide)) (by rfl) (pa_cons (pv 4) (pa_cons pe_str pa_nil))) (pe_lst pa_nil) (nomark _)))))), ?_⟩
    refine ⟨_, rfl, a0, ns, rfl, hS, hns, fun p c H1 hP1 => ?_⟩
    refine ⟨3, rfl, by decide, by decide, for_range (n := 3) (fun t σ H2 => ∃ (y2 y3 y4 y5 y6 y7 y8 y9 y10 : Option V) (n : Nat), σ = [some (.ref a0), some (.ref p), y2, y3, y4, y5, y6, y7, y8, y9, y10] ∧ Pen H2 p c n ∧ n ≤ 2000 * t ∧ (0 < t → ∃ v4 r4 m4, y4 = some v4 ∧ RulesAt H2 v4 r4 ∧ RlOk r4 ∧ 0 ≤ m4 ∧ WB m4 r4))
      ⟨none, none, none, none, none, none, none, none, none, 0, rfl, hP1, by decide, fun h => absurd h (by decide)⟩ (fun t σ H2 ht hv => ?_) (fun σ H2 hv => ?_)⟩
    rotate_left
    · obtain ⟨_, _, y4, _, _, _, _, _, _, _, rfl, _, _, hlast⟩ := hv
      obtain ⟨v4, r4, m4, rfl, hR4, ok4, hm4, hWB4⟩ := hlast (by decide)
      have hWn : WideB r4 "" 1 1 := wide_of (W := 0) (k := 0) hm4 hWB4 (by rw [show ("" : Str).length = 0 from by decide +kernel]; simp) (by decide) (by decide) (by decide) (by decide) (by decide) (by decide) (by decide) (by decide)
      refine ⟨_, rfl, v4, .ref aB, r4, "", 1, 1, rfl, hR4.w, ok4, by decide +kernel, (fun c hc => by rw [show ("" : Str).cps.toList = [] from by decide +kernel] at hc; cases hc), ⟨aB, rfl, hB1 _⟩, hWn, fun lo hi l us H3 hE hl hL hP k3 => ?_⟩
      rw [show ("" : Str).length = 0 from by decide +kernel] at hP
      cases hP
      refine ⟨Nat.zero_le _, fun l4 hl4 => ?_⟩
      refine ⟨.list [], .list [], .lst (SqL.of (Ext.new hl4 _ _ hL)) .nil, .lst (SqL.of upd_same) .nil, by decide +kernel, by decide +kernel, ?_⟩
      rw [show PyData.eqv (.list []) (.list []) = true from by decide +kernel]
      exact q _
    obtain ⟨y2, y3, y4, y5, y6, y7, y8, y9, y10, n, rfl, hP2, hn, _⟩ := hv
    -- the limit
    obtain ⟨m, hat, hm⟩ : ∃ m : Int, atI [V.int 2, .int 30, .int 99] (0 + (t : Int)) = some (.int m) ∧ ((t = 0 ∧ m = 2) ∨ (t = 1 ∧ m = 30) ∨ (t = 2 ∧ m = 99)) := by
      match t, ht with
      | 0, _ => exact ⟨2, rfl, by decide⟩
      | 1, _ => exact ⟨30, rfl, by decide⟩
      | 2, _ => exact ⟨99, rfl, by decide⟩
      | t + 3, ht => omega
    refine ⟨szL (show 3 ≤ 1000000 by decide), fun l1 hl1 => ⟨_, rfl, l1, _, _, _, rfl, rfl, SqL.of upd_same, hat, ?_⟩⟩
    have hP3 := hP2.new (o := .lst [V.int 2, .int 30, .int 99]) hl1
    generalize upd H2 l1 (.lst [V.int 2, .int 30, .int 99]) = H3 at hP3 ⊢
    -- rules
    refine ⟨_, rfl, _, rfl, p, c, m, n, rfl, by omega, by omega, hP3, by omega, fun v r H4 hR4 ok hofp hWB hAsc hStk k4 hP4 => ?_⟩
    -- the string
    refine ⟨_, rfl, _, rfl, szL (show 2 ≤ 1000000 by decide), fun l2 hl2 => ?_⟩
    have hR5 := RulesAt.mono _ _ _ _ (TupK.new (o := .lst [V.int 8, .int 6]) hl2) hR4
    have hP5 := hP4.new (o := .lst [V.int 8, .int 6]) hl2
    have hl5 : (upd H4 l2 (.lst [V.int 8, .int 6])) l2 = some (.lst [V.int 8, .int 6]) := upd_same
    generalize upd H4 l2 (.lst [V.int 8, .int 6]) = H5 at hR5 hP5 hl5 ⊢
    refine ⟨_, rfl, p, c, 4, _, rfl, hP5, by omega, by decide, by decide, fun r1 H6 r1a r1b k6 hP6 => ?_⟩
    have hR6 := RulesAt.mono _ _ _ _ (TupK.of k6 hP5) hR5
    have nl2 : l2 ≠ p := by
      obtain ⟨cells, a, r, h1, _⟩ := hP5
      exact ne_of hl5 h1 (by intro z; injection z with z; injection z with z _; cases z)
    have hl6 := k6 _ _ nl2 hl5
    obtain ⟨ix, s8, hix, hs8, hs8b⟩ : ∃ ix s8 : Int, (if decide (r1 > 0) = true then (1 : Int) else 0) = ix ∧ atI [V.int 8, .int 6] ix = some (.int s8) ∧ 0 ≤ s8 ∧ s8 ≤ 8 := by
      by_cases a : r1 > 0
      · exact ⟨1, 6, by rw [decide_eq_true a]; rfl, rfl, by decide⟩
      · exact ⟨0, 8, by rw [decide_eq_false a]; rfl, rfl, by decide⟩
    refine ⟨r1, 0, rfl, rfl, .inr ⟨_, rfl, l2, _, ix, .int s8, rfl, congrArg V.int hix, SqL.of hl6, hs8, szL (show 3 ≤ 1000000 by decide), fun l3 hl3 => ?_⟩⟩
    obtain ⟨sz, hsz, hszb⟩ : ∃ sz : Int, atI [V.int s8, .int 5, .int 5] (0 + (t : Int)) = some (.int sz) ∧ 0 ≤ sz ∧ ((m = 2 ∧ sz ≤ 8) ∨ (m = 30 ∧ sz ≤ 6) ∨ (m = 99 ∧ sz ≤ 5)) := by
      rcases hm with ⟨rfl, rfl⟩ | ⟨rfl, rfl⟩ | ⟨rfl, rfl⟩
      · exact ⟨s8, rfl, by omega, by omega⟩
      · exact ⟨5, rfl, by decide, by decide⟩
      · exact ⟨5, rfl, by decide, by decide⟩
    have x7 := Ext.new (o := .lst [V.int s8, .int 5, .int 5]) hl3
    refine ⟨_, rfl, l3, _, _, _, rfl, rfl, SqL.of upd_same, hsz, ?_⟩
    refine ⟨p, c, v, r, sz, _, rfl, RulesAt.mono _ _ _ _ (TupK.ext x7) hR6, ok, hofp, by omega, by omega, hP6.ext x7, by omega, fun x H8 hxl hxO k8 hP8 => ?_⟩
    have hR8 := RulesAt.mono _ _ _ _ (TupK.of k8 (hP6.ext x7)) (RulesAt.mono _ _ _ _ (TupK.ext x7) hR6)
    have hxm : (m = 2 ∧ x.length ≤ 8) ∨ (m = 30 ∧ x.length ≤ 6) ∨ (m = 99 ∧ x.length ≤ 5) := by omega
    have hx10 : x.length ≤ 10 := by omega
    have hxs : Small x := hxO.small ok.small
    -- the base
    refine ⟨_, rfl, _, rfl, p, c, m, _, rfl, by omega, by omega, hP8, by omega, fun vb b H9 hT9 hBO k9 hP9 => ?_⟩
    have hR9 := RulesAt.mono _ _ _ _ (TupK.of k9 hP8) hR8
    have hW := wide_base hBO hWB hxm
    have hW1 := wide_one hWB hxm
    obtain ⟨b1a, b1b, b2a, b2b, _, _⟩ := id hBO
    have hB9 : BsAt K H9 vb b.1.toNat b.2.toNat := bs_two hT9 (by omega) (by omega)
    clear k4 hP4 hP5 hP6 hP3 hP2 hP8 k6 k8 k9 hR4 hR5 hR6 hR8
    generalize hPn : n + 1200 + 1 + 30 + 1 = n9 at hP9

    -- counted
    refine ⟨_, rfl, _, rfl, v, r, x, rfl, hR9, ok, hx10, hxs, fun t1 H10 e bp l as pl ht1 hC k10 => ?_⟩
    have hR10 := RulesAt.mono _ _ _ _ (TupK.ext k10) hR9
    have hT10 := TwoAt.mono _ _ _ _ (TupK.ext k10) hT9
    have hB10 := hB9.ext k10
    -- kept
    refine ⟨_, rfl, _, rfl, _, rfl, szL (show 3 ≤ 1000000 by decide), fun tk htk => ?_⟩
    have x11 := Ext.new (o := .tup [v, .str x, vb]) htk
    refine ⟨_, dKs r x b, _, _, rfl, .tup (SqT.of upd_same) (.cons (dp_rules (RulesAt.mono _ _ _ _ (TupK.ext x11) hR10)) (.cons (.str _) (.cons (dp_two (TwoAt.mono _ _ _ _ (TupK.ext x11) hT10)) .nil))), sm_ks ok hxs (by omega) ⟨by omega, by omega⟩ ⟨by omega, by omega⟩, by decide, by decide, ?_⟩
    generalize hS0 : (dKs r x b).shown = S0
    have ht11 := x11 _ _ ht1
    have hC11 := hC.ext x11
    have k011 := k10.trans x11
    have hR11 := RulesAt.mono _ _ _ _ (TupK.ext x11) hR10
    have hT11 := TwoAt.mono _ _ _ _ (TupK.ext x11) hT10
    have hB11 := hB10.ext x11
    have hP11 := (hP9.ext k10).ext x11
    generalize upd H10 tk (.tup [v, .str x, vb]) = H11 at ht11 hC11 hR11 hT11 hB11 hP11 k011 ⊢
    -- what is due
    refine ⟨_, rfl, _, rfl, t1, e, bp, l, as, pl, vb, r, x, b.1.toNat, b.2.toNat, rfl, ht11, hC11, hB11, hW, hx10, fun lo hi lf us H12 hE hLf hPf k12 => ?_⟩
    refine ⟨_, dLf b.1.toNat b.2.toNat r x lo hi, _, _, _, rfl, .lst (SqL.of hLf) (dp_shs hPf), bk_lf hW hE hx10, by decide, by decide, by decide, ?_⟩
    generalize hS1 : (dLf b.1.toNat b.2.toNat r x lo hi).shown = S1
    have hR12 := RulesAt.mono _ _ _ _ (TupK.ext k12) hR11
    have hB12 := hB11.ext k12
    -- asked
    refine ⟨_, rfl, _, rfl, _, rfl, rfl, rfl, v, vb, r, x, _, _, rfl, hR12.w, ok, hx10, hxO, hB12, hW, fun lo' hi' l13 us13 H13 hE' hl13 hL13 hP13 k13 => ?_⟩
    obtain ⟨rfl, rfl⟩ := hE.uniq hE'
    have hS1' : (PyData.list (((List.range x.length).map fun i => shO b.1.toNat b.2.toNat r x lo' hi' (.pl i)).map dSh)).shown = S1 := hS1
    have hl13l : us13.length < 1000000 := by
      have h1 := paired_len hP13
      rw [List.length_map, List.length_range] at h1
      omega
    refine ⟨_, rfl, _, _, _, _, _, rfl, .lst (SqL.of hL13) (dp_shs hP13), bk_lf hW hE hx10, by decide, by decide, by decide, ?_⟩
    rw [hS1']
    refine ⟨_, rfl, rfl, _, rfl, iteNS rfl ?_⟩
    -- told list changed
    refine ⟨_, rfl, .inl ⟨rfl, _, SqL.of hL13⟩, szL (show 2 ≤ 1000000 by decide), fun ta hta => ?_⟩
    have xta := Ext.new (o := .tup [.int 1, .int 1]) hta
    refine ⟨l13, _, _, rfl, rfl, xta _ _ hL13, szLt hl13l, ?_⟩
    have k14 : Ext H12 (upd (upd H13 ta (.tup [.int 1, .int 1])) l13 (.lst (us13 ++ [.ref ta]))) := (k13.trans xta).put hl13
    generalize upd (upd H13 ta (.tup [.int 1, .int 1])) l13 (.lst (us13 ++ [.ref ta])) = H14 at k14 ⊢

    have k1113 : Ext H11 H14 := k12.trans k14
    -- by names
    refine ⟨_, rfl, _, rfl, _, rfl, rfl, rfl, v, vb, r, x, _, _, rfl, (RulesAt.mono _ _ _ _ (TupK.ext k1113) hR11).w, ok, hx10, hxO, hB11.ext k1113, hW, fun lo'' hi'' l15 us15 H15 hE'' hl15 hL15 hP15 k15 => ?_⟩
    obtain ⟨rfl, rfl⟩ := hE.uniq hE''
    have hS1' : (PyData.list (((List.range x.length).map fun i => shO b.1.toNat b.2.toNat r x lo'' hi'' (.pl i)).map dSh)).shown = S1 := hS1
    refine ⟨_, _, _, _, _, rfl, .lst (SqL.of hL15) (dp_shs hP15), bk_lf hW hE hx10, by decide, by decide, by decide, ?_⟩
    rw [hS1']
    refine ⟨_, rfl, rfl, _, rfl, iteNS rfl ?_⟩
    have k1115 := k1113.trans k15
    -- base 1
    refine ⟨_, rfl, _, rfl, v, .ref aB, r, x, 1, 1, rfl, (RulesAt.mono _ _ _ _ (TupK.ext k1115) hR11).w, ok, hx10, hxO, ⟨aB, rfl, hB1 _⟩, hW1, fun lo1 hi1 l16 us16 H16 hE1 hl16 hL16 hP16 k16 => ?_⟩
    refine ⟨_, _, _, _, _, rfl, .lst (SqL.of hL16) (dp_shs hP16), bk_lf hW1 hE1 hx10, by decide, by decide, by decide, ?_⟩
    have k1116 := k1115.trans k16
    refine ⟨_, rfl, szL (show 2 ≤ 1000000 by decide), fun to hto => ?_⟩
    have xto := Ext.new (o := .tup [.int 1, .int 1]) hto
    have k1117 := k1116.trans xto
    refine ⟨t1, e, bp, l, as, pl, .ref to, r, x, 1, 1, rfl, k1117 _ _ ht11, hC11.ext k1117, ⟨to, rfl, SqT.of upd_same⟩, hW1, hx10, fun lo2 hi2 lf2 us2 H18 hE2 hLf2 hPf2 k18 => ?_⟩
    obtain ⟨rfl, rfl⟩ := hE1.uniq hE2
    refine ⟨_, _, _, _, _, rfl, .lst (SqL.of hLf2) (dp_shs hPf2), bk_lf hW1 hE1 hx10, by decide, by decide, by decide, ?_⟩
    refine ⟨rfl, _, rfl, iteNS rfl ?_⟩
    have k1118 := k1117.trans k18
    -- what was handed in stays
    refine ⟨_, rfl, _, rfl, _, rfl, szL (show 3 ≤ 1000000 by decide), fun tk2 htk2 => ?_⟩
    have kF := k1118.trans (Ext.new (o := .tup [v, .str x, vb]) htk2)
    refine ⟨_, dKs r x b, _, _, rfl, .tup (SqT.of upd_same) (.cons (dp_rules (RulesAt.mono _ _ _ _ (TupK.ext kF) hR11)) (.cons (.str _) (.cons (dp_two (TwoAt.mono _ _ _ _ (TupK.ext kF) hT11)) .nil))), sm_ks ok hxs (by omega) ⟨by omega, by omega⟩ ⟨by omega, by omega⟩, by decide, by decide, ?_⟩
    rw [hS0]
    refine ⟨_, rfl, rfl, _, rfl, iteNS rfl ?_⟩
    exact ⟨_, _, _, _, _, _, _, _, _, n9, rfl, hP11.ext kF, by omega, fun _ => ⟨v, r, m, rfl, RulesAt.mono _ _ _ _ (TupK.ext kF) hR11, ok, by omega, hWB⟩⟩
end
end Pf


namespace Pf
open PySem PySem.Spec PyProof.Rows L2
/-! ### what the top has written; the law's own head -/
theorem all_mk {l : PySem.W.OpenLaw} {w : World} {K : PySem.W.Frag} {h : Heap} {mg : Str → Option Value} {fa f0 f1 f2 f3 f4 f5 f6 f7 f8 f9 f10 f11 f12 f13 f14 f15 f16 f17 f18 f19 f20 f21 f22 f23 f24 f25 f26 f27 f28 f29 f30 f31 f32 f33 f34 f35 f36 : Addr} (X : K.In h) (G : h.Ns mainGlobals mg) (hfa : mg "law" = some (.ref fa))
    {od0 an0 od1 an1 od2 an2 od3 an3 od4 an4 od5 an5 od6 an6 od7 an7 od8 an8 od9 an9 od10 an10 od11 an11 od12 an12 od13 an13 od14 an14 od15 an15 od16 an16 od17 an17 od18 an18 od19 an19 od20 an20 od21 an21 od22 an22 od23 an23 od24 an24 od25 an25 od26 an26 od27 an27 od28 an28 od29 an29 od30 an30 od31 an31 od32 an32 od33 an33 od34 an34 od35 an35 od36 an36 : Option Addr} {sl0 sl1 sl2 sl3 sl4 sl5 sl6 sl7 sl8 sl9 sl10 sl11 sl12 sl13 sl14 sl15 sl16 sl17 sl18 sl19 sl20 sl21 sl22 sl23 sl24 sl25 sl26 sl27 sl28 sl29 sl30 sl31 sl32 sl33 sl34 sl35 sl36 : Array (Option Value)} {oc0 kV0 dc0 pm0 cd0 ct0 oc1 kV1 dc1 pm1 cd1 ct1 oc2 kV2 dc2 pm2 cd2 ct2 oc3 kV3 dc3 pm3 cd3 ct3 oc4 kV4 dc4 pm4 cd4 ct4 oc5 kV5 dc5 pm5 cd5 ct5 oc6 kV6 dc6 pm6 cd6 ct6 oc7 kV7 dc7 pm7 cd7 ct7 oc8 kV8 dc8 pm8 cd8 ct8 oc9 kV9 dc9 pm9 cd9 ct9 oc10 kV10 dc10 pm10 cd10 ct10 oc11 kV11 dc11 pm11 cd11 ct11 oc12 kV12 dc12 pm12 cd12 ct12 oc13 kV13 dc13 pm13 cd13 ct13 oc14 kV14 dc14 pm14 cd14 ct14 oc15 kV15 dc15 pm15 cd15 ct15 oc16 kV16 dc16 pm16 cd16 ct16 oc17 kV17 dc17 pm17 cd17 ct17 oc18 kV18 dc18 pm18 cd18 ct18 oc19 kV19 dc19 pm19 cd19 ct19 oc20 dc20 pm20 cd20 ct20 oc21 kV21 dc21 pm21 cd21 ct21 oc22 kV22 dc22 pm22 cd22 ct22 oc23 kV23 dc23 pm23 cd23 ct23 oc24 kV24 dc24 pm24 cd24 ct24 oc25 kV25 dc25 pm25 cd25 ct25 oc26 kV26 dc26 pm26 cd26 ct26 oc27 kV27 dc27 pm27 cd27 ct27 oc28 kV28 dc28 pm28 cd28 ct28 oc29 kV29 dc29 pm29 cd29 ct29 oc30 kV30 dc30 pm30 cd30 ct30 oc31 kV31 dc31 pm31 cd31 ct31 oc32 kV32 dc32 pm32 cd32 ct32 oc33 kV33 dc33 pm33 cd33 ct33 oc34 kV34 dc34 pm34 cd34 ct34 oc35 kV35 dc35 pm35 cd35 ct35 oc36 kV36 dc36 pm36 cd36 ct36 : Value} {T16 : Addr} {odT16 : Option Addr} {slT16 : Array (Option Value)} {nT16 : Nat} {tD16_0 : Tok} {D20 : Addr} {B20_0 : Addr} {oB20_0 : Option Addr} {sB20_0 : Array (Option Value)} {nB20_0 : Nat} {tB20_0_0 : Tok} {tB20_0_1 : Tok} {aL : Addr} {odG : Option Addr} {slG : Array (Option Value)} {nG : Nat} {tG0 tG1 tG2 tG3 tG4 tG5 tG6 tG7 tG8 : Tok} {tI0 : Tok} 
    (a0 : PySem.W.nsIn K mainGlobals "pair_worth" = some (some (.ref f0))) (l0 : K.lookup f0 = some ⟨oc0, od0, .func (PySem.W.fnOf "pair_worth" "pair_worth" (defArgs s_pair_worth) (defBody s_pair_worth) (defScope s_pair_worth) .none kV0 dc0 pm0 an0 cd0 ct0), sl0⟩) (c0 : PySem.W.codeIn K cd0 "pair_worth" = true) (k0 : PySem.W.keepIn K (.ref f0) = true)
    (a1 : PySem.W.nsIn K mainGlobals "text_of" = some (some (.ref f1))) (l1 : K.lookup f1 = some ⟨oc1, od1, .func (PySem.W.fnOf "text_of" "text_of" (defArgs s_text_of) (defBody s_text_of) (defScope s_text_of) .none kV1 dc1 pm1 an1 cd1 ct1), sl1⟩) (c1 : PySem.W.codeIn K cd1 "text_of" = true) (k1 : PySem.W.keepIn K (.ref f1) = true)
    (a2 : PySem.W.nsIn K mainGlobals "may_pair" = some (some (.ref f2))) (l2 : K.lookup f2 = some ⟨oc2, od2, .func (PySem.W.fnOf "may_pair" "may_pair" (defArgs s_may_pair) (defBody s_may_pair) (defScope s_may_pair) .none kV2 dc2 pm2 an2 cd2 ct2), sl2⟩) (c2 : PySem.W.codeIn K cd2 "may_pair" = true) (k2 : PySem.W.keepIn K (.ref f2) = true)
    (a3 : PySem.W.nsIn K mainGlobals "is_string" = some (some (.ref f3))) (l3 : K.lookup f3 = some ⟨oc3, od3, .func (PySem.W.fnOf "is_string" "is_string" (defArgs s_is_string) (defBody s_is_string) (defScope s_is_string) .none kV3 dc3 pm3 an3 cd3 ct3), sl3⟩) (c3 : PySem.W.codeIn K cd3 "is_string" = true) (k3 : PySem.W.keepIn K (.ref f3) = true)
    (a4 : PySem.W.nsIn K mainGlobals "need_string" = some (some (.ref f4))) (l4 : K.lookup f4 = some ⟨oc4, od4, .func (PySem.W.fnOf "need_string" "need_string" (defArgs s_need_string) (defBody s_need_string) (defScope s_need_string) .none kV4 dc4 pm4 an4 cd4 ct4), sl4⟩) (c4 : PySem.W.codeIn K cd4 "need_string" = true) (k4 : PySem.W.keepIn K (.ref f4) = true)
    (a5 : PySem.W.nsIn K mainGlobals "stretch_foldings" = some (some (.ref f5))) (l5 : K.lookup f5 = some ⟨oc5, od5, .func (PySem.W.fnOf "stretch_foldings" "stretch_foldings" (defArgs s_stretch_foldings) (defBody s_stretch_foldings) (defScope s_stretch_foldings) .none kV5 dc5 pm5 an5 cd5 ct5), sl5⟩) (c5 : PySem.W.codeIn K cd5 "stretch_foldings" = true) (k5 : PySem.W.keepIn K (.ref f5) = true)
    (a6 : PySem.W.nsIn K mainGlobals "all_foldings" = some (some (.ref f6))) (l6 : K.lookup f6 = some ⟨oc6, od6, .func (PySem.W.fnOf "all_foldings" "all_foldings" (defArgs s_all_foldings) (defBody s_all_foldings) (defScope s_all_foldings) .none kV6 dc6 pm6 an6 cd6 ct6), sl6⟩) (c6 : PySem.W.codeIn K cd6 "all_foldings" = true) (k6 : PySem.W.keepIn K (.ref f6) = true)
    (a7 : PySem.W.nsIn K mainGlobals "stack_worth" = some (some (.ref f7))) (l7 : K.lookup f7 = some ⟨oc7, od7, .func (PySem.W.fnOf "stack_worth" "stack_worth" (defArgs s_stack_worth) (defBody s_stack_worth) (defScope s_stack_worth) .none kV7 dc7 pm7 an7 cd7 ct7), sl7⟩) (c7 : PySem.W.codeIn K cd7 "stack_worth" = true) (k7 : PySem.W.keepIn K (.ref f7) = true)
    (a8 : PySem.W.nsIn K mainGlobals "loop_worths" = some (some (.ref f8))) (l8 : K.lookup f8 = some ⟨oc8, od8, .func (PySem.W.fnOf "loop_worths" "loop_worths" (defArgs s_loop_worths) (defBody s_loop_worths) (defScope s_loop_worths) .none kV8 dc8 pm8 an8 cd8 ct8), sl8⟩) (c8 : PySem.W.codeIn K cd8 "loop_worths" = true) (k8 : PySem.W.keepIn K (.ref f8) = true)
    (a9 : PySem.W.nsIn K mainGlobals "kind_of" = some (some (.ref f9))) (l9 : K.lookup f9 = some ⟨oc9, od9, .func (PySem.W.fnOf "kind_of" "kind_of" (defArgs s_kind_of) (defBody s_kind_of) (defScope s_kind_of) .none kV9 dc9 pm9 an9 cd9 ct9), sl9⟩) (c9 : PySem.W.codeIn K cd9 "kind_of" = true) (k9 : PySem.W.keepIn K (.ref f9) = true)
    (a10 : PySem.W.nsIn K mainGlobals "loop_within" = some (some (.ref f10))) (l10 : K.lookup f10 = some ⟨oc10, od10, .func (PySem.W.fnOf "loop_within" "loop_within" (defArgs s_loop_within) (defBody s_loop_within) (defScope s_loop_within) .none kV10 dc10 pm10 an10 cd10 ct10), sl10⟩) (c10 : PySem.W.codeIn K cd10 "loop_within" = true) (k10 : PySem.W.keepIn K (.ref f10) = true)
    (a11 : PySem.W.nsIn K mainGlobals "straight_within" = some (some (.ref f11))) (l11 : K.lookup f11 = some ⟨oc11, od11, .func (PySem.W.fnOf "straight_within" "straight_within" (defArgs s_straight_within) (defBody s_straight_within) (defScope s_straight_within) .none kV11 dc11 pm11 an11 cd11 ct11), sl11⟩) (c11 : PySem.W.codeIn K cd11 "straight_within" = true) (k11 : PySem.W.keepIn K (.ref f11) = true)
    (a12 : PySem.W.nsIn K mainGlobals "loops_of" = some (some (.ref f12))) (l12 : K.lookup f12 = some ⟨oc12, od12, .func (PySem.W.fnOf "loops_of" "loops_of" (defArgs s_loops_of) (defBody s_loops_of) (defScope s_loops_of) .none kV12 dc12 pm12 an12 cd12 ct12), sl12⟩) (c12 : PySem.W.codeIn K cd12 "loops_of" = true) (k12 : PySem.W.keepIn K (.ref f12) = true)
    (a13 : PySem.W.nsIn K mainGlobals "worth_of" = some (some (.ref f13))) (l13 : K.lookup f13 = some ⟨oc13, od13, .func (PySem.W.fnOf "worth_of" "worth_of" (defArgs s_worth_of) (defBody s_worth_of) (defScope s_worth_of) .none kV13 dc13 pm13 an13 cd13 ct13), sl13⟩) (c13 : PySem.W.codeIn K cd13 "worth_of" = true) (k13 : PySem.W.keepIn K (.ref f13) = true)
    (a14 : PySem.W.nsIn K mainGlobals "with_worths" = some (some (.ref f14))) (l14 : K.lookup f14 = some ⟨oc14, od14, .func (PySem.W.fnOf "with_worths" "with_worths" (defArgs s_with_worths) (defBody s_with_worths) (defScope s_with_worths) .none kV14 dc14 pm14 an14 cd14 ct14), sl14⟩) (c14 : PySem.W.codeIn K cd14 "with_worths" = true) (k14 : PySem.W.keepIn K (.ref f14) = true)
    (a15 : PySem.W.nsIn K mainGlobals "greatest_divisor" = some (some (.ref f15))) (l15 : K.lookup f15 = some ⟨oc15, od15, .func (PySem.W.fnOf "greatest_divisor" "greatest_divisor" (defArgs s_greatest_divisor) (defBody s_greatest_divisor) (defScope s_greatest_divisor) .none kV15 dc15 pm15 an15 cd15 ct15), sl15⟩) (c15 : PySem.W.codeIn K cd15 "greatest_divisor" = true) (k15 : PySem.W.keepIn K (.ref f15) = true)
    (a16 : PySem.W.nsIn K mainGlobals "share_of" = some (some (.ref f16))) (l16 : K.lookup f16 = some ⟨oc16, od16, .func (PySem.W.fnOf "share_of" "share_of" (defArgs s_share_of) (defBody s_share_of) (defScope s_share_of) (.ref T16) kV16 dc16 pm16 an16 cd16 ct16), sl16⟩) (c16 : PySem.W.codeIn K cd16 "share_of" = true) (k16 : PySem.W.keepIn K (.ref f16) = true) (u16 : K.lookup T16 = some ⟨.type "tuple", odT16, .seq #[.int 1 tD16_0] nT16, slT16⟩)
    (a17 : PySem.W.nsIn K mainGlobals "power" = some (some (.ref f17))) (l17 : K.lookup f17 = some ⟨oc17, od17, .func (PySem.W.fnOf "power" "power" (defArgs s_power) (defBody s_power) (defScope s_power) .none kV17 dc17 pm17 an17 cd17 ct17), sl17⟩) (c17 : PySem.W.codeIn K cd17 "power" = true) (k17 : PySem.W.keepIn K (.ref f17) = true)
    (a18 : PySem.W.nsIn K mainGlobals "tops_by_worth" = some (some (.ref f18))) (l18 : K.lookup f18 = some ⟨oc18, od18, .func (PySem.W.fnOf "tops_by_worth" "tops_by_worth" (defArgs s_tops_by_worth) (defBody s_tops_by_worth) (defScope s_tops_by_worth) .none kV18 dc18 pm18 an18 cd18 ct18), sl18⟩) (c18 : PySem.W.codeIn K cd18 "tops_by_worth" = true) (k18 : PySem.W.keepIn K (.ref f18) = true)
    (a19 : PySem.W.nsIn K mainGlobals "foldings_with_tops" = some (some (.ref f19))) (l19 : K.lookup f19 = some ⟨oc19, od19, .func (PySem.W.fnOf "foldings_with_tops" "foldings_with_tops" (defArgs s_foldings_with_tops) (defBody s_foldings_with_tops) (defScope s_foldings_with_tops) .none kV19 dc19 pm19 an19 cd19 ct19), sl19⟩) (c19 : PySem.W.codeIn K cd19 "foldings_with_tops" = true) (k19 : PySem.W.keepIn K (.ref f19) = true)
    (a20 : PySem.W.nsIn K mainGlobals "free_shares" = some (some (.ref f20))) (l20 : K.lookup f20 = some ⟨oc20, od20, .func (PySem.W.fnOf "free_shares" "free_shares" (defArgs s_free_shares) (defBody s_free_shares) (defScope s_free_shares) .none (.ref D20) dc20 pm20 an20 cd20 ct20), sl20⟩) (c20 : PySem.W.codeIn K cd20 "free_shares" = true) (k20 : PySem.W.keepIn K (.ref f20) = true) (q20_0 : PySem.W.nsIn K D20 "base" = some (some (.ref B20_0))) (qB20_0 : K.lookup B20_0 = some ⟨.type "tuple", oB20_0, .seq #[.int 1 tB20_0_0, .int 1 tB20_0_1] nB20_0, sB20_0⟩)
    (a21 : PySem.W.nsIn K mainGlobals "_law_pen" = some (some (.ref f21))) (l21 : K.lookup f21 = some ⟨oc21, od21, .func (PySem.W.fnOf "_law_pen" "_law_pen" (defArgs s_law_pen) (defBody s_law_pen) (defScope s_law_pen) .none kV21 dc21 pm21 an21 cd21 ct21), sl21⟩) (c21 : PySem.W.codeIn K cd21 "_law_pen" = true) (k21 : PySem.W.keepIn K (.ref f21) = true)
    (a22 : PySem.W.nsIn K mainGlobals "_law_take" = some (some (.ref f22))) (l22 : K.lookup f22 = some ⟨oc22, od22, .func (PySem.W.fnOf "_law_take" "_law_take" (defArgs s_law_take) (defBody s_law_take) (defScope s_law_take) .none kV22 dc22 pm22 an22 cd22 ct22), sl22⟩) (c22 : PySem.W.codeIn K cd22 "_law_take" = true) (k22 : PySem.W.keepIn K (.ref f22) = true)
    (a23 : PySem.W.nsIn K mainGlobals "_law_letters" = some (some (.ref f23))) (l23 : K.lookup f23 = some ⟨oc23, od23, .func (PySem.W.fnOf "_law_letters" "_law_letters" (defArgs s_law_letters) (defBody s_law_letters) (defScope s_law_letters) .none kV23 dc23 pm23 an23 cd23 ct23), sl23⟩) (c23 : PySem.W.codeIn K cd23 "_law_letters" = true) (k23 : PySem.W.keepIn K (.ref f23) = true)
    (a24 : PySem.W.nsIn K mainGlobals "_law_worth" = some (some (.ref f24))) (l24 : K.lookup f24 = some ⟨oc24, od24, .func (PySem.W.fnOf "_law_worth" "_law_worth" (defArgs s_law_worth) (defBody s_law_worth) (defScope s_law_worth) .none kV24 dc24 pm24 an24 cd24 ct24), sl24⟩) (c24 : PySem.W.codeIn K cd24 "_law_worth" = true) (k24 : PySem.W.keepIn K (.ref f24) = true)
    (a25 : PySem.W.nsIn K mainGlobals "_law_rules" = some (some (.ref f25))) (l25 : K.lookup f25 = some ⟨oc25, od25, .func (PySem.W.fnOf "_law_rules" "_law_rules" (defArgs s_law_rules) (defBody s_law_rules) (defScope s_law_rules) .none kV25 dc25 pm25 an25 cd25 ct25), sl25⟩) (c25 : PySem.W.codeIn K cd25 "_law_rules" = true) (k25 : PySem.W.keepIn K (.ref f25) = true)
    (a26 : PySem.W.nsIn K mainGlobals "_law_string" = some (some (.ref f26))) (l26 : K.lookup f26 = some ⟨oc26, od26, .func (PySem.W.fnOf "_law_string" "_law_string" (defArgs s_law_string) (defBody s_law_string) (defScope s_law_string) .none kV26 dc26 pm26 an26 cd26 ct26), sl26⟩) (c26 : PySem.W.codeIn K cd26 "_law_string" = true) (k26 : PySem.W.keepIn K (.ref f26) = true)
    (a27 : PySem.W.nsIn K mainGlobals "_law_may" = some (some (.ref f27))) (l27 : K.lookup f27 = some ⟨oc27, od27, .func (PySem.W.fnOf "_law_may" "_law_may" (defArgs s_law_may) (defBody s_law_may) (defScope s_law_may) .none kV27 dc27 pm27 an27 cd27 ct27), sl27⟩) (c27 : PySem.W.codeIn K cd27 "_law_may" = true) (k27 : PySem.W.keepIn K (.ref f27) = true)
    (a28 : PySem.W.nsIn K mainGlobals "_law_all" = some (some (.ref f28))) (l28 : K.lookup f28 = some ⟨oc28, od28, .func (PySem.W.fnOf "_law_all" "_law_all" (defArgs s_law_all) (defBody s_law_all) (defScope s_law_all) .none kV28 dc28 pm28 an28 cd28 ct28), sl28⟩) (c28 : PySem.W.codeIn K cd28 "_law_all" = true) (k28 : PySem.W.keepIn K (.ref f28) = true)
    (a29 : PySem.W.nsIn K mainGlobals "_law_loop" = some (some (.ref f29))) (l29 : K.lookup f29 = some ⟨oc29, od29, .func (PySem.W.fnOf "_law_loop" "_law_loop" (defArgs s_law_loop) (defBody s_law_loop) (defScope s_law_loop) .none kV29 dc29 pm29 an29 cd29 ct29), sl29⟩) (c29 : PySem.W.codeIn K cd29 "_law_loop" = true) (k29 : PySem.W.keepIn K (.ref f29) = true)
    (a30 : PySem.W.nsIn K mainGlobals "_law_worth_of" = some (some (.ref f30))) (l30 : K.lookup f30 = some ⟨oc30, od30, .func (PySem.W.fnOf "_law_worth_of" "_law_worth_of" (defArgs s_law_worth_of) (defBody s_law_worth_of) (defScope s_law_worth_of) .none kV30 dc30 pm30 an30 cd30 ct30), sl30⟩) (c30 : PySem.W.codeIn K cd30 "_law_worth_of" = true) (k30 : PySem.W.keepIn K (.ref f30) = true)
    (a31 : PySem.W.nsIn K mainGlobals "_law_short" = some (some (.ref f31))) (l31 : K.lookup f31 = some ⟨oc31, od31, .func (PySem.W.fnOf "_law_short" "_law_short" (defArgs s_law_short) (defBody s_law_short) (defScope s_law_short) .none kV31 dc31 pm31 an31 cd31 ct31), sl31⟩) (c31 : PySem.W.codeIn K cd31 "_law_short" = true) (k31 : PySem.W.keepIn K (.ref f31) = true)
    (a32 : PySem.W.nsIn K mainGlobals "_law_base" = some (some (.ref f32))) (l32 : K.lookup f32 = some ⟨oc32, od32, .func (PySem.W.fnOf "_law_base" "_law_base" (defArgs s_law_base) (defBody s_law_base) (defScope s_law_base) .none kV32 dc32 pm32 an32 cd32 ct32), sl32⟩) (c32 : PySem.W.codeIn K cd32 "_law_base" = true) (k32 : PySem.W.keepIn K (.ref f32) = true)
    (a33 : PySem.W.nsIn K mainGlobals "_law_sum" = some (some (.ref f33))) (l33 : K.lookup f33 = some ⟨oc33, od33, .func (PySem.W.fnOf "_law_sum" "_law_sum" (defArgs s_law_sum) (defBody s_law_sum) (defScope s_law_sum) .none kV33 dc33 pm33 an33 cd33 ct33), sl33⟩) (c33 : PySem.W.codeIn K cd33 "_law_sum" = true) (k33 : PySem.W.keepIn K (.ref f33) = true)
    (a34 : PySem.W.nsIn K mainGlobals "_law_counted" = some (some (.ref f34))) (l34 : K.lookup f34 = some ⟨oc34, od34, .func (PySem.W.fnOf "_law_counted" "_law_counted" (defArgs s_law_counted) (defBody s_law_counted) (defScope s_law_counted) .none kV34 dc34 pm34 an34 cd34 ct34), sl34⟩) (c34 : PySem.W.codeIn K cd34 "_law_counted" = true) (k34 : PySem.W.keepIn K (.ref f34) = true)
    (a35 : PySem.W.nsIn K mainGlobals "_law_due" = some (some (.ref f35))) (l35 : K.lookup f35 = some ⟨oc35, od35, .func (PySem.W.fnOf "_law_due" "_law_due" (defArgs s_law_due) (defBody s_law_due) (defScope s_law_due) .none kV35 dc35 pm35 an35 cd35 ct35), sl35⟩) (c35 : PySem.W.codeIn K cd35 "_law_due" = true) (k35 : PySem.W.keepIn K (.ref f35) = true)
    (a36 : PySem.W.nsIn K mainGlobals "law" = some (some (.ref f36))) (l36 : K.lookup f36 = some ⟨oc36, od36, .func (PySem.W.fnOf "law" "law" (defArgs s_law) (defBody s_law) (defScope s_law) .none kV36 dc36 pm36 an36 cd36 ct36), sl36⟩) (c36 : PySem.W.codeIn K cd36 "law" = true) (k36 : PySem.W.keepIn K (.ref f36) = true)
    (z0 : PySem.W.nsIn K mainGlobals "list" = some none)
    (z1 : PySem.W.nsIn K mainGlobals "len" = some none)
    (z2 : PySem.W.nsIn K mainGlobals "abs" = some none)
    (z3 : PySem.W.nsIn K mainGlobals "int" = some none)
    (z4 : PySem.W.nsIn K mainGlobals "sum" = some none)
    (z5 : PySem.W.nsIn K mainGlobals "min" = some none)
    (z6 : PySem.W.nsIn K mainGlobals "max" = some none)
    (z7 : PySem.W.nsIn K mainGlobals "range" = some none)
    (z8 : PySem.W.nsIn K mainGlobals "sorted" = some none)
    (z9 : PySem.W.nsIn K mainGlobals "tuple" = some none)
    (z10 : PySem.W.nsIn K mainGlobals "dict" = some none)
    (z11 : PySem.W.nsIn K mainGlobals "isinstance" = some none)
    (z12 : PySem.W.nsIn K mainGlobals "str" = some none)
    (z13 : PySem.W.nsIn K mainGlobals "all" = some none)
    (z14 : PySem.W.nsIn K mainGlobals "zip" = some none)
    (z15 : PySem.W.nsIn K mainGlobals "set" = some none)
    (z16 : PySem.W.nsIn K mainGlobals "repr" = some none)
    (aG : PySem.W.nsIn K mainGlobals "LOOPS" = some (some (.ref aL))) (lG : K.lookup aL = some ⟨.type "tuple", odG, .seq #[.str "stacked" tG0, .str "inner" tG1, .str "inner free" tG2, .str "forked" tG3, .str "branch" tG4, .str "fork free" tG5, .str "lone" tG6, .str "lone free" tG7, .str "open" tG8] nG, slG⟩)
    (aI0 : PySem.W.nsIn K mainGlobals "MOST_PLACES" = some (some (.int 12 tI0))) :
    ∃ fd : FuncData, (∀ (s : Shared) (v : Value), BindsTo s fd ⟨[v], []⟩ [("_law_script", v)]) ∧ ∀ base : Heap, K.In base → base.Ns mainGlobals mg → FnG l.prog w K mg base fa fd ["_law_script"] (spLaw K) := by
  have e := hfa.symm.trans (PySem.W.mg_of X G a36)
  cases e
  have F0 := fun_mk (st := s_pair_worth) l0 c0 k0
  have F1 := fun_mk (st := s_text_of) l1 c1 k1
  have F2 := fun_mk (st := s_may_pair) l2 c2 k2
  have F3 := fun_mk (st := s_is_string) l3 c3 k3
  have F4 := fun_mk (st := s_need_string) l4 c4 k4
  have F5 := fun_mk (st := s_stretch_foldings) l5 c5 k5
  have F6 := fun_mk (st := s_all_foldings) l6 c6 k6
  have F7 := fun_mk (st := s_stack_worth) l7 c7 k7
  have F8 := fun_mk (st := s_loop_worths) l8 c8 k8
  have F9 := fun_mk (st := s_kind_of) l9 c9 k9
  have F10 := fun_mk (st := s_loop_within) l10 c10 k10
  have F11 := fun_mk (st := s_straight_within) l11 c11 k11
  have F12 := fun_mk (st := s_loops_of) l12 c12 k12
  have F13 := fun_mk (st := s_worth_of) l13 c13 k13
  have F14 := fun_mk (st := s_with_worths) l14 c14 k14
  have F15 := fun_mk (st := s_greatest_divisor) l15 c15 k15
  have F16 : FunD K "share_of" "share_of" (defArgs s_share_of) (defBody s_share_of) (defScope s_share_of) [.int 1] [] f16 (PySem.W.fnOf "share_of" "share_of" (defArgs s_share_of) (defBody s_share_of) (defScope s_share_of) (.ref T16) kV16 dc16 pm16 an16 cd16 ct16) := ⟨⟨oc16, od16, .ref T16, kV16, dc16, pm16, an16, cd16, ct16, sl16, rfl, l16, c16, .inr ⟨by simp, T16, _, [.int 1 tD16_0], nT16, rfl, u16, rfl, (.cons ⟨_, rfl⟩ .nil)⟩, .inl rfl⟩, k16⟩
  have F17 := fun_mk (st := s_power) l17 c17 k17
  have F18 := fun_mk (st := s_tops_by_worth) l18 c18 k18
  have F19 := fun_mk (st := s_foldings_with_tops) l19 c19 k19
  have hTB20_0 : ∀ H : Hp, SqT K H B20_0 [.int 1, .int 1] := fun H => .inr ⟨_, _, _, qB20_0, rfl, rfl, szL (show 2 ≤ 1000000 by decide), (.cons ⟨_, rfl⟩ (.cons ⟨_, rfl⟩ .nil))⟩
  have F20 : FunD K "free_shares" "free_shares" (defArgs s_free_shares) (defBody s_free_shares) (defScope s_free_shares) [] [("base", .ref B20_0)] f20 (PySem.W.fnOf "free_shares" "free_shares" (defArgs s_free_shares) (defBody s_free_shares) (defScope s_free_shares) .none (.ref D20) dc20 pm20 an20 cd20 ct20) := ⟨⟨oc20, od20, .none, .ref D20, dc20, pm20, an20, cd20, ct20, sl20, rfl, l20, c20, .inl ⟨rfl, rfl⟩, .inr ⟨D20, rfl, fun q hq => by rcases List.mem_cons.mp hq with rfl | hq; exact ⟨_, q20_0, rfl⟩; cases hq⟩⟩, k20⟩
  have F21 := fun_mk (st := s_law_pen) l21 c21 k21
  have F22 := fun_mk (st := s_law_take) l22 c22 k22
  have F23 := fun_mk (st := s_law_letters) l23 c23 k23
  have F24 := fun_mk (st := s_law_worth) l24 c24 k24
  have F25 := fun_mk (st := s_law_rules) l25 c25 k25
  have F26 := fun_mk (st := s_law_string) l26 c26 k26
  have F27 := fun_mk (st := s_law_may) l27 c27 k27
  have F28 := fun_mk (st := s_law_all) l28 c28 k28
  have F29 := fun_mk (st := s_law_loop) l29 c29 k29
  have F30 := fun_mk (st := s_law_worth_of) l30 c30 k30
  have F31 := fun_mk (st := s_law_short) l31 c31 k31
  have F32 := fun_mk (st := s_law_base) l32 c32 k32
  have F33 := fun_mk (st := s_law_sum) l33 c33 k33
  have F34 := fun_mk (st := s_law_counted) l34 c34 k34
  have F35 := fun_mk (st := s_law_due) l35 c35 k35
  have F36 := fun_mk (st := s_law) l36 c36 k36
  have mlist := PySem.W.mg_none_of X G z0
  have mlen := PySem.W.mg_none_of X G z1
  have mabs := PySem.W.mg_none_of X G z2
  have mint := PySem.W.mg_none_of X G z3
  have msum := PySem.W.mg_none_of X G z4
  have mmin := PySem.W.mg_none_of X G z5
  have mmax := PySem.W.mg_none_of X G z6
  have mrange := PySem.W.mg_none_of X G z7
  have msorted := PySem.W.mg_none_of X G z8
  have mtuple := PySem.W.mg_none_of X G z9
  have mdict := PySem.W.mg_none_of X G z10
  have misinstance := PySem.W.mg_none_of X G z11
  have mstr := PySem.W.mg_none_of X G z12
  have mall := PySem.W.mg_none_of X G z13
  have mzip := PySem.W.mg_none_of X G z14
  have mset := PySem.W.mg_none_of X G z15
  have mrepr := PySem.W.mg_none_of X G z16
  have gLOOPS := PySem.W.mg_of X G aG
  have hLO : ∀ H : Hp, SqT K H aL (LN.map V.str) := fun H => .inr ⟨_, _, _, lG, rfl, rfl, szL (show 9 ≤ 1000000 by decide), (.cons ⟨_, rfl⟩ (.cons ⟨_, rfl⟩ (.cons ⟨_, rfl⟩ (.cons ⟨_, rfl⟩ (.cons ⟨_, rfl⟩ (.cons ⟨_, rfl⟩ (.cons ⟨_, rfl⟩ (.cons ⟨_, rfl⟩ (.cons ⟨_, rfl⟩ .nil)))))))))⟩
  have gMOST_PLACES := PySem.W.mg_of X G aI0
  refine ⟨PySem.W.fnOf "law" "law" (defArgs s_law) (defBody s_law) (defScope s_law) .none kV36 dc36 pm36 an36 cd36 ct36, fun s v => .of_eq rfl, fun base _ _ => ?_⟩
  have cpair_worth : Ca l.prog w K mg base 1 "pair_worth" ["rules", "both"] spPW := ⟨f0, _, ok_pw F0, PySem.W.mg_of X G a0, F0.kp, F0.binds fun _ _ _ _ _ _ us hl => match us, hl with | [_, _], _ => rfl⟩
  have ctext_of : Ca l.prog w K mg base 1 "text_of" ["string", "pair"] spTextOf := ⟨f1, _, ok_text_of F1, PySem.W.mg_of X G a1, F1.kp, F1.binds fun _ _ _ _ _ _ us hl => match us, hl with | [_, _], _ => rfl⟩
  have cmay_pair : Ca l.prog w K mg base 2 "may_pair" ["rules", "string", "i", "j"] spMP := ⟨f2, _, ok_mp F2 ctext_of cpair_worth mlen, PySem.W.mg_of X G a2, F2.kp, F2.binds fun _ _ _ _ _ _ us hl => match us, hl with | [_, _, _, _], _ => rfl⟩
  have cis_string : Ca l.prog w K mg base 1 "is_string" ["rules", "thing"] spIS := ⟨f3, _, ok_is F3 gMOST_PLACES misinstance mstr mlen mall, PySem.W.mg_of X G a3, F3.kp, F3.binds fun _ _ _ _ _ _ us hl => match us, hl with | [_, _], _ => rfl⟩
  have cneed_string : Ca l.prog w K mg base 2 "need_string" ["rules", "thing"] spNS := ⟨f4, _, ok_ns F4 cis_string, PySem.W.mg_of X G a4, F4.kp, F4.binds fun _ _ _ _ _ _ us hl => match us, hl with | [_, _], _ => rfl⟩
  have cstretch_foldings : Ca l.prog w K mg base 3 "stretch_foldings" ["rules", "string", "i", "j", "told"] spStr := ⟨f5, _, ok_str F5 cmay_pair mrange mlist, PySem.W.mg_of X G a5, F5.kp, F5.binds fun _ _ _ _ _ _ us hl => match us, hl with | [_, _, _, _, _], _ => rfl⟩
  have call_foldings : Ca l.prog w K mg base 4 "all_foldings" ["rules", "string"] spAF := ⟨f6, _, ok_af F6 cneed_string cstretch_foldings mlen mrange msorted, PySem.W.mg_of X G a6, F6.kp, F6.binds fun _ _ _ _ _ _ us hl => match us, hl with | [_, _], _ => rfl⟩
  have cstack_worth : Ca l.prog w K mg base 1 "stack_worth" ["rules", "outer", "within"] spSW := ⟨f7, _, ok_sw F7, PySem.W.mg_of X G a7, F7.kp, F7.binds fun _ _ _ _ _ _ us hl => match us, hl with | [_, _, _], _ => rfl⟩
  have cloop_worths : Ca l.prog w K mg base 1 "loop_worths" ["rules"] spLW := ⟨f8, _, ok_lw F8 gLOOPS hLO mdict mzip, PySem.W.mg_of X G a8, F8.kp, F8.binds fun _ _ _ _ _ _ us hl => match us, hl with | [_], _ => rfl⟩
  have ckind_of : Ca l.prog w K mg base 1 "kind_of" ["free", "branches"] spKO := ⟨f9, _, ok_ko F9, PySem.W.mg_of X G a9, F9.kp, F9.binds fun _ _ _ _ _ _ us hl => match us, hl with | [_, _], _ => rfl⟩
  have cloop_within : Ca l.prog w K mg base 2 "loop_within" ["rules", "string", "pair", "within"] spLoopW := ⟨f10, _, ok_loopw F10 cstack_worth ctext_of cloop_worths ckind_of msum mlen, PySem.W.mg_of X G a10, F10.kp, F10.binds fun _ _ _ _ _ _ us hl => match us, hl with | [_, _, _, _], _ => rfl⟩
  have cstraight_within : Ca l.prog w K mg base 1 "straight_within" ["folding", "pair"] spWithin := ⟨f11, _, ok_within F11, PySem.W.mg_of X G a11, F11.kp, F11.binds fun _ _ _ _ _ _ us hl => match us, hl with | [_, _], _ => rfl⟩
  have cloops_of : Ca l.prog w K mg base 3 "loops_of" ["rules", "string", "folding"] spLoops := ⟨f12, _, ok_loops F12 cloop_within cstraight_within, PySem.W.mg_of X G a12, F12.kp, F12.binds fun _ _ _ _ _ _ us hl => match us, hl with | [_, _, _], _ => rfl⟩
  have cworth_of : Ca l.prog w K mg base 4 "worth_of" ["rules", "string", "folding"] spWO := ⟨f13, _, ok_wo F13 cpair_worth ctext_of cloops_of cstraight_within cloop_worths msum mlen, PySem.W.mg_of X G a13, F13.kp, F13.binds fun _ _ _ _ _ _ us hl => match us, hl with | [_, _, _], _ => rfl⟩
  have cwith_worths : Ca l.prog w K mg base 5 "with_worths" ["rules", "string"] spWW := ⟨f14, _, ok_ww F14 call_foldings cworth_of msorted, PySem.W.mg_of X G a14, F14.kp, F14.binds fun _ _ _ _ _ _ us hl => match us, hl with | [_, _], _ => rfl⟩
  have cgreatest_divisor : Ca l.prog w K mg base 1 "greatest_divisor" ["number", "other"] spGD := ⟨f15, _, ok_gd F15, PySem.W.mg_of X G a15, F15.kp, F15.binds fun _ _ _ _ _ _ us hl => match us, hl with | [_, _], _ => rfl⟩
  have hbA : Binds K (PySem.W.fnOf "share_of" "share_of" (defArgs s_share_of) (defBody s_share_of) (defScope s_share_of) (.ref T16) kV16 dc16 pm16 an16 cd16 ct16) ["top", "bottom"] [] := by
    obtain ⟨ds, hv, hb⟩ := F16.binds1 (ps := ["top", "bottom"]) 2 1 (by simp) rfl (fun T kV doc pm an cdv ct us its h1 h2 => match us, its, h1, h2 with | [_, _], [_], _, _ => ⟨_, rfl, rfl⟩)
    cases hv
    exact hb
  have cF : Ca l.prog w K mg base 0 "share_of" ["top", "bottom"] (fun _ _ _ _ => False) := ⟨f16, _, fn_false, PySem.W.mg_of X G a16, F16.kp, hbA⟩
  have c0 : Ca l.prog w K mg base 2 "share_of" ["top", "bottom"] spSh0 := ⟨f16, _, ok_sh0 F16 cF cgreatest_divisor mabs, PySem.W.mg_of X G a16, F16.kp, hbA⟩
  have cshare_of : Ca l.prog w K mg base 3 "share_of" ["top", "bottom"] spShU := ⟨f16, _, ok_sh F16 c0 cgreatest_divisor mabs, PySem.W.mg_of X G a16, F16.kp, hbA⟩
  have cpower : Ca l.prog w K mg base 1 "power" ["number", "exponent"] spPow := ⟨f17, _, ok_pow F17, PySem.W.mg_of X G a17, F17.kp, F17.binds fun _ _ _ _ _ _ us hl => match us, hl with | [_, _], _ => rfl⟩
  have ctops_by_worth : Ca l.prog w K mg base 2 "tops_by_worth" ["worths", "base"] (spTops K) := ⟨f18, _, ok_tops F18 cpower mmin mmax msorted mset, PySem.W.mg_of X G a18, F18.kp, F18.binds fun _ _ _ _ _ _ us hl => match us, hl with | [_, _], _ => rfl⟩
  have cfoldings_with_tops : Ca l.prog w K mg base 6 "foldings_with_tops" ["rules", "string", "base"] (spFT K) := ⟨f19, _, ok_ft F19 cwith_worths ctops_by_worth, PySem.W.mg_of X G a19, F19.kp, F19.binds fun _ _ _ _ _ _ us hl => match us, hl with | [_, _, _], _ => rfl⟩
  have okk20 := ok_fs F20 cfoldings_with_tops cshare_of msum mlen
  obtain ⟨ds20, hv20, hb20⟩ := F20.binds0 (ps := ["rules", "string", "base"]) 2 (by simp) rfl (fun D doc pm an cdv ct us ks h1 h2 => match us, ks, h1, h2 with | [_, _], [_], _, _ => ⟨_, _, _, _, _, _, rfl, rfl, rfl⟩)
  have cfree_sharesE : CaE l.prog w K mg base 7 "free_shares" ["rules", "string", "base"] [.ref B20_0] (spFS K) := ⟨f20, _, ds20, okk20, PySem.W.mg_of X G a20, F20.kp, hv20, hb20⟩
  obtain ⟨gK20, hK20⟩ := kbn_kw (ps := ["rules", "string", "base"]) F20 0 ["base", "string", "rules"] [] [2, 1, 0] (by simp) (fun q hq => by cases hq) (fun D doc pm an cdv ct us mv ws h1 h2 h3 => match us, mv, ws, h1, h2, h3 with | [], [], [_, _, _], _, _, _ => rfl)
  have cfree_sharesK : CaK l.prog w K mg base 7 "free_shares" ["rules", "string", "base"] ["base", "string", "rules"] (permW [2, 1, 0] []) (spFS K) := ⟨f20, _, gK20, okk20, PySem.W.mg_of X G a20, F20.kp, hK20⟩
  obtain ⟨gN20, hN20⟩ := kbn_kw (ps := ["rules", "string", "base"]) F20 2 ["base"] [] [0, 1, 2] (by simp) (fun q hq => by cases hq) (fun D doc pm an cdv ct us mv ws h1 h2 h3 => match us, mv, ws, h1, h2, h3 with | [_, _], [], [_], _, _, _ => rfl)
  have cfree_sharesN : CaN l.prog w K mg base 7 "free_shares" ["rules", "string", "base"] 2 ["base"] (permW [0, 1, 2] []) (spFS K) := ⟨f20, _, gN20, okk20, PySem.W.mg_of X G a20, F20.kp, hN20⟩
  have c_law_pen : Ca l.prog w K mg base 1 "_law_pen" ["_law_script"] (spStart K) := ⟨f21, _, ok_start F21, PySem.W.mg_of X G a21, F21.kp, F21.binds fun _ _ _ _ _ _ us hl => match us, hl with | [_], _ => rfl⟩
  have c_law_take : Ca l.prog w K mg base 1 "_law_take" ["_law_pen_here", "_law_many"] spDraw := ⟨f22, _, ok_draw F22 mlen mabs mint, PySem.W.mg_of X G a22, F22.kp, F22.binds fun _ _ _ _ _ _ us hl => match us, hl with | [_, _], _ => rfl⟩
  have c_law_letters : Ca l.prog w K mg base 2 "_law_letters" ["_law_pen_here"] spLetters := ⟨f23, _, ok_letters F23 c_law_take mint, PySem.W.mg_of X G a23, F23.kp, F23.binds fun _ _ _ _ _ _ us hl => match us, hl with | [_], _ => rfl⟩
  have c_law_worth : Ca l.prog w K mg base 2 "_law_worth" ["_law_pen_here", "_law_limit"] spWorth := ⟨f24, _, ok_worth F24 c_law_take, PySem.W.mg_of X G a24, F24.kp, F24.binds fun _ _ _ _ _ _ us hl => match us, hl with | [_, _], _ => rfl⟩
  have c_law_rules : Ca l.prog w K mg base 3 "_law_rules" ["_law_pen_here", "_law_limit"] spRules := ⟨f25, _, ok_rules F25 c_law_take c_law_letters c_law_worth mlen mtuple mrange, PySem.W.mg_of X G a25, F25.kp, F25.binds fun _ _ _ _ _ _ us hl => match us, hl with | [_, _], _ => rfl⟩
  have c_law_string : Ca l.prog w K mg base 2 "_law_string" ["_law_pen_here", "_law_bylaws", "_law_most"] spString := ⟨f26, _, ok_string F26 c_law_take mrange mlen mmax, PySem.W.mg_of X G a26, F26.kp, F26.binds fun _ _ _ _ _ _ us hl => match us, hl with | [_, _, _], _ => rfl⟩
  have c_law_may : Ca l.prog w K mg base 1 "_law_may" ["_law_bylaws", "_law_chars", "_law_i", "_law_j"] spMayW := ⟨f27, _, ok_mayW F27, PySem.W.mg_of X G a27, F27.kp, F27.binds fun _ _ _ _ _ _ us hl => match us, hl with | [_, _, _, _], _ => rfl⟩
  have c_law_all : Ca l.prog w K mg base 15 "_law_all" ["_law_bylaws", "_law_chars", "_law_first", "_law_end"] (spAll 13) := ⟨f28, _, ok_all F28 (F28.binds fun _ _ _ _ _ _ us hl => match us, hl with | [_, _, _, _], _ => rfl) (PySem.W.mg_of X G a28) c_law_may mrange 13, PySem.W.mg_of X G a28, F28.kp, F28.binds fun _ _ _ _ _ _ us hl => match us, hl with | [_, _, _, _], _ => rfl⟩
  have c_law_loop : Ca l.prog w K mg base 1 "_law_loop" ["_law_bylaws", "_law_chars", "_law_pair", "_law_inner"] spLpS := ⟨f29, _, ok_lpS F29 mlen msum, PySem.W.mg_of X G a29, F29.kp, F29.binds fun _ _ _ _ _ _ us hl => match us, hl with | [_, _, _, _], _ => rfl⟩
  have c_law_worth_of : Ca l.prog w K mg base 2 "_law_worth_of" ["_law_bylaws", "_law_chars", "_law_fold"] spWoS := ⟨f30, _, ok_woS F30 c_law_loop mdict, PySem.W.mg_of X G a30, F30.kp, F30.binds fun _ _ _ _ _ _ us hl => match us, hl with | [_, _, _], _ => rfl⟩
  have c_law_short : Ca l.prog w K mg base 1 "_law_short" ["_law_up", "_law_down"] spShort := ⟨f31, _, ok_short F31 mabs, PySem.W.mg_of X G a31, F31.kp, F31.binds fun _ _ _ _ _ _ us hl => match us, hl with | [_, _], _ => rfl⟩
  have c_law_base : Ca l.prog w K mg base 2 "_law_base" ["_law_pen_here", "_law_limit"] spBase := ⟨f32, _, ok_base F32 c_law_take mint, PySem.W.mg_of X G a32, F32.kp, F32.binds fun _ _ _ _ _ _ us hl => match us, hl with | [_, _], _ => rfl⟩
  have c_law_sum : Ca l.prog w K mg base 1 "_law_sum" ["_law_counts", "_law_ground", "_law_low", "_law_high"] (spLSum K) := ⟨f33, _, ok_lsum F33 mrange, PySem.W.mg_of X G a33, F33.kp, F33.binds fun _ _ _ _ _ _ us hl => match us, hl with | [_, _, _, _], _ => rfl⟩
  have c_law_counted : Ca l.prog w K mg base 16 "_law_counted" ["_law_bylaws", "_law_chars"] spCtd := ⟨f34, _, ok_ctd F34 c_law_all c_law_worth_of mlen mrange, PySem.W.mg_of X G a34, F34.kp, F34.binds fun _ _ _ _ _ _ us hl => match us, hl with | [_, _], _ => rfl⟩
  have c_law_due : Ca l.prog w K mg base 2 "_law_due" ["_law_counted_here", "_law_ground"] (spDue33 K) := ⟨f35, _, ok_due33 F35 c_law_sum c_law_short mlist mmin mmax, PySem.W.mg_of X G a35, F35.kp, F35.binds fun _ _ _ _ _ _ us hl => match us, hl with | [_, _], _ => rfl⟩
  exact ok_law F36 ⟨rfl, by decide, by decide⟩ hTB20_0 c_law_pen c_law_take c_law_rules c_law_string c_law_base c_law_counted c_law_due cfree_sharesN cfree_sharesE cfree_sharesK mrepr mrange mint
end Pf
open PySem PySem.W PyProof.Rows
set_option maxHeartbeats 0 in
theorem PySem.Challenge.cw_pairfolds_k33_shares_of_free_places_told_holds : PySem.Challenge.rw_pairfolds_k33_shares_of_free_places_told.Holds := by
  w_on; o_law; k_head; (case hw => w_witness2)
  k_fill
  refine Pf.walk_g (l := PySem.Challenge.rw_pairfolds_k33_shares_of_free_places_told) (n := 63) (x := "_law_script") (sp := fun w => Pf.spLaw _) rfl (by decide) rfl (fun w h Y => PySem.W.kIn_of Y) ?F (fun _ _ a ns hl hS => ⟨a, ns, rfl, hS, hl, fun _ => rfl⟩)
  case F =>
    intro w mg fa h KX G hmg
    refine' Pf.all_mk KX G hmg ?a0 ?l0 ?c0 ?k0 ?a1 ?l1 ?c1 ?k1 ?a2 ?l2 ?c2 ?k2 ?a3 ?l3 ?c3 ?k3 ?a4 ?l4 ?c4 ?k4 ?a5 ?l5 ?c5 ?k5 ?a6 ?l6 ?c6 ?k6 ?a7 ?l7 ?c7 ?k7 ?a8 ?l8 ?c8 ?k8 ?a9 ?l9 ?c9 ?k9 ?a10 ?l10 ?c10 ?k10 ?a11 ?l11 ?c11 ?k11 ?a12 ?l12 ?c12 ?k12 ?a13 ?l13 ?c13 ?k13 ?a14 ?l14 ?c14 ?k14 ?a15 ?l15 ?c15 ?k15 ?a16 ?l16 ?c16 ?k16 ?u16 ?a17 ?l17 ?c17 ?k17 ?a18 ?l18 ?c18 ?k18 ?a19 ?l19 ?c19 ?k19 ?a20 ?l20 ?c20 ?k20 ?q20_0 ?qB20_0 ?a21 ?l21 ?c21 ?k21 ?a22 ?l22 ?c22 ?k22 ?a23 ?l23 ?c23 ?k23 ?a24 ?l24 ?c24 ?k24 ?a25 ?l25 ?c25 ?k25 ?a26 ?l26 ?c26 ?k26 ?a27 ?l27 ?c27 ?k27 ?a28 ?l28 ?c28 ?k28 ?a29 ?l29 ?c29 ?k29 ?a30 ?l30 ?c30 ?k30 ?a31 ?l31 ?c31 ?k31 ?a32 ?l32 ?c32 ?k32 ?a33 ?l33 ?c33 ?k33 ?a34 ?l34 ?c34 ?k34 ?a35 ?l35 ?c35 ?k35 ?a36 ?l36 ?c36 ?k36 ?z0 ?z1 ?z2 ?z3 ?z4 ?z5 ?z6 ?z7 ?z8 ?z9 ?z10 ?z11 ?z12 ?z13 ?z14 ?z15 ?z16 ?aG ?lG ?aI0
    (case a0 => k_is); (case l0 => k_is); (case c0 => k_is); (case k0 => k_is); (case a1 => k_is); (case l1 => k_is); (case c1 => k_is); (case k1 => k_is); (case a2 => k_is); (case l2 => k_is); (case c2 => k_is); (case k2 => k_is); (case a3 => k_is); (case l3 => k_is); (case c3 => k_is); (case k3 => k_is); (case a4 => k_is); (case l4 => k_is); (case c4 => k_is); (case k4 => k_is); (case a5 => k_is); (case l5 => k_is); (case c5 => k_is); (case k5 => k_is); (case a6 => k_is); (case l6 => k_is); (case c6 => k_is); (case k6 => k_is); (case a7 => k_is); (case l7 => k_is); (case c7 => k_is); (case k7 => k_is); (case a8 => k_is); (case l8 => k_is); (case c8 => k_is); (case k8 => k_is); (case a9 => k_is); (case l9 => k_is); (case c9 => k_is); (case k9 => k_is); (case a10 => k_is); (case l10 => k_is); (case c10 => k_is); (case k10 => k_is); (case a11 => k_is); (case l11 => k_is); (case c11 => k_is); (case k11 => k_is); (case a12 => k_is); (case l12 => k_is); (case c12 => k_is); (case k12 => k_is); (case a13 => k_is); (case l13 => k_is); (case c13 => k_is); (case k13 => k_is); (case a14 => k_is); (case l14 => k_is); (case c14 => k_is); (case k14 => k_is); (case a15 => k_is); (case l15 => k_is); (case c15 => k_is); (case k15 => k_is); (case a16 => k_is); (case l16 => k_is); (case c16 => k_is); (case k16 => k_is); (case u16 => k_is); (case a17 => k_is); (case l17 => k_is); (case c17 => k_is); (case k17 => k_is); (case a18 => k_is); (case l18 => k_is); (case c18 => k_is); (case k18 => k_is); (case a19 => k_is); (case l19 => k_is); (case c19 => k_is); (case k19 => k_is); (case a20 => k_is); (case l20 => k_is); (case c20 => k_is); (case k20 => k_is); (case q20_0 => k_is); (case qB20_0 => k_is); (case a21 => k_is); (case l21 => k_is); (case c21 => k_is); (case k21 => k_is); (case a22 => k_is); (case l22 => k_is); (case c22 => k_is); (case k22 => k_is); (case a23 => k_is); (case l23 => k_is); (case c23 => k_is); (case k23 => k_is); (case a24 => k_is); (case l24 => k_is); (case c24 => k_is); (case k24 => k_is); (case a25 => k_is); (case l25 => k_is); (case c25 => k_is); (case k25 => k_is); (case a26 => k_is); (case l26 => k_is); (case c26 => k_is); (case k26 => k_is); (case a27 => k_is); (case l27 => k_is); (case c27 => k_is); (case k27 => k_is); (case a28 => k_is); (case l28 => k_is); (case c28 => k_is); (case k28 => k_is); (case a29 => k_is); (case l29 => k_is); (case c29 => k_is); (case k29 => k_is); (case a30 => k_is); (case l30 => k_is); (case c30 => k_is); (case k30 => k_is); (case a31 => k_is); (case l31 => k_is); (case c31 => k_is); (case k31 => k_is); (case a32 => k_is); (case l32 => k_is); (case c32 => k_is); (case k32 => k_is); (case a33 => k_is); (case l33 => k_is); (case c33 => k_is); (case k33 => k_is); (case a34 => k_is); (case l34 => k_is); (case c34 => k_is); (case k34 => k_is); (case a35 => k_is); (case l35 => k_is); (case c35 => k_is); (case k35 => k_is); (case a36 => k_is); (case l36 => k_is); (case c36 => k_is); (case k36 => k_is); (case z0 => k_is); (case z1 => k_is); (case z2 => k_is); (case z3 => k_is); (case z4 => k_is); (case z5 => k_is); (case z6 => k_is); (case z7 => k_is); (case z8 => k_is); (case z9 => k_is); (case z10 => k_is); (case z11 => k_is); (case z12 => k_is); (case z13 => k_is); (case z14 => k_is); (case z15 => k_is); (case z16 => k_is); (case aG => k_is); (case lG => k_is); (case aI0 => k_is)
