import PyProof.Rows.All
import Wide.All
import OpenK.AllK
import Wide.FinOn
import HandS.ForMost
import HandS.Defaults
import HandS.TupMul
import HandS.TupAny
import HandS.IsInst
import HandS.Conv
import KE.SortData
import KE.GoesMore
import HandS.Style
import HandS.Walk
import HandS.Zip
import HandS.TupLe
import HandS.DictComp
import KE.KDictSum
import HandS.ExcValue
import PySem.Challenge.RW_pairfolds_k43_papers_against_told
import KE.KDictZip
import PyProof.CollectStr
import PyProof.Rows.StrRev
import HandS.Sort
import PyProof.SumWalkG
import HandS.ListItems
import HandS.More
import HandS.Flt
import HandS.Text
import KE.KDictKeyed
import KE.DataCmp
import HandS.Flow
import HandS.TupSets
import PyProof.FactsAll.subtypes_4
import PyProof.Transfer
import HandS.MakeKwOnly
import HandS.Deep
import HandS.Wide
import PyProof.ReprLen
set_option Elab.async false
set_option linter.all false
set_option maxRecDepth 100000
set_option maxHeartbeats 4000000
namespace Pf
open PySem PySem.Spec PyProof.Rows L2

/-! ### a def that may be called: its promise, its name, its binding -/
structure Ca (P : Program) (w : World) (K : PySem.W.Frag) (mg : Str → Option Value) (base : Heap) (k : Nat) (x : Str) (ps : List Str) (sp : Sp) : Prop where
  ex : ∃ f fd, FnOk P w K mg base CX0 k f fd ps sp ∧ mg x = some (.ref f) ∧ PySem.W.keepIn K (.ref f) = true ∧ Binds K fd ps []
structure CaK (P : Program) (w : World) (K : PySem.W.Frag) (mg : Str → Option Value) (base : Heap) (k : Nat) (x : Str) (ps ks : List Str) (gV : List V → List V → List V) (sp : Sp) : Prop where
  ex : ∃ f fd g, FnOk P w K mg base CX0 k f fd ps sp ∧ mg x = some (.ref f) ∧ PySem.W.keepIn K (.ref f) = true ∧ KBn K fd ps 0 ks g gV
section
variable {X : Cx} {k : Nat} {x : Str} {ps ks : List Str} {sp : Sp} {p pos : Pos} {e : Expr} {es : List Expr} {kws : List Keyword} {t tk : TA} {gV : List V → List V → List V}
theorem pe_ca (c : Ca X.prog X.w X.K X.mg X.base k x ps sp) (hr : Room k X.A) (hg : Gl X x) (ha : PA X (e :: es) t) (hdb : (x == ("__debug__" : Str)) = false := by decide)
    (he : starEach (e :: es) X.env = (false, eval e X.env) :: starEach es X.env := by rfl) (hpl : (backTo pos (starEach es X.env)).any (·.1) = false := by rfl) :
    PE X (.Call (.Name x p) (e :: es) [] pos) (tCall sp [] E0 t) := by
  obtain ⟨f, fd, F, hm, hk, hb⟩ := c.ex
  exact pe_call F hr hg hm hk hb .nil pass0 ha hdb he hpl
theorem pe_ca0 (c : Ca X.prog X.w X.K X.mg X.base k x ps sp) (hr : Room k X.A) (hg : Gl X x) (hdb : (x == ("__debug__" : Str)) = false := by decide) :
    PE X (.Call (.Name x p) [] [] pos) (tCall sp [] E0 tNil) := by
  obtain ⟨f, fd, F, hm, hk, hb⟩ := c.ex
  exact pe_call0 F hr hg hm hk hb .nil pass0 hdb
/-- f(k = v, ..), by names alone -/
theorem pe_caK (c : CaK X.prog X.w X.K X.mg X.base k x ps ks gV sp) (hr : Room k X.A) (hg : Gl X x) (hkw : PK X kws tk)
    (hall : (backToKw pos (keywordEach kws X.env)).all (·.1.isSome) = true := by rfl) (hks : (backToKw pos (keywordEach kws X.env)).filterMap (·.1) = ks := by rfl) (hdb : (x == ("__debug__" : Str)) = false := by decide)
    (hpl : ((backTo pos (starEach [] X.env)).any (·.1) || (backToKw pos (keywordEach kws X.env)).any (·.1.isNone)) = false := by rfl) :
    PE X (.Call (.Name x p) [] kws pos) (tCallN 0 ks.length sp gV E0 tNil tk) := by
  obtain ⟨f, fd, g, F, hm, hk, hb⟩ := c.ex
  refine ⟨fun pins s σ H Q I h => ?_⟩
  refine wpAny_Call_Name_kw (ld_glob I hg hm ?_ hdb)
  refine PySem.W.callWith_KW0 (h₀ := X.base) I.ok.mod.kin hk hall ?_ hpl
  refine thn (hkw.run pos pins s σ H _ I h) fun ws s2 ⟨zs, H2, I2, rz, l1, l2, q2⟩ => ⟨I2.kIn, ?_⟩
  rw [hks]
  exact run_fnN (us := []) (vs := []) F hr hb pass0 I2 .nil rz rfl l2 q2
end

/-! ### rules that read a list or a tuple, the written part by its letter -/
theorem ixL (K : PySem.W.Frag) {X : Cx} (h : X.K = K := by rfl) : IxR X (rIxL K) := h ▸ ix_list
theorem ixT (K : PySem.W.Frag) {X : Cx} (h : X.K = K := by rfl) : IxR X (rIxT K) := h ▸ ix_tup
theorem ixA (K : PySem.W.Frag) {X : Cx} (h : X.K = K := by rfl) : IxR X (rIx K) := h ▸ ix_seq
def rLenA (K : PySem.W.Frag) : List V → Hp → VK → Prop := fun xs H Q => ∃ x n, xs = [x] ∧ LenV K x H n ∧ Q (.int n) H
theorem lenA (K : PySem.W.Frag) {X : Cx} (h : X.K = K := by rfl) : CallR X (.builtin "len") (rLenA K) := by
  subst h
  exact call_len
theorem repT (K : PySem.W.Frag) {X : Cx} (h : X.K = K := by rfl) : OpR X (binaryOp .Mult) (rRepT K) := h ▸ op_repT
theorem slL (K : PySem.W.Frag) {X : Cx} (h : X.K = K := by rfl) : SlR X (rSlL K) := h ▸ sl_list
theorem slT (K : PySem.W.Frag) {X : Cx} (h : X.K = K := by rfl) : SlR X (rSlT K) := h ▸ sl_tup
theorem eqD (K : PySem.W.Frag) {X : Cx} (hu : X.A.units + 64 < cLine) (h : X.K = K := by rfl) : OpR X (compareOp .Eq) (rEqD K) := h ▸ op_eqD hu
theorem neD (K : PySem.W.Frag) {X : Cx} (hu : X.A.units + 64 < cLine) (h : X.K = K := by rfl) : OpR X (compareOp .NotEq) (rNeD K) := h ▸ op_neD hu
theorem catT (K : PySem.W.Frag) {X : Cx} (h : X.K = K := by rfl) : OpR X (binaryOp .Add) (rCatT K) := h ▸ op_catT
theorem catA (K : PySem.W.Frag) {X : Cx} (h : X.K = K := by rfl) : OpR X (binaryOp .Add) (rCatA K) := h ▸ op_catA
theorem slA (K : PySem.W.Frag) {X : Cx} (h : X.K = K := by rfl) : SlR X (rSlA K) := h ▸ sl_tupA
theorem isi1 (K : PySem.W.Frag) {X : Cx} (h : X.K = K := by rfl) : CallR X (.builtin "isinstance") (rIsi K) := h ▸ call_isi
theorem pgT (K : PySem.W.Frag) {X : Cx} {es : List Expr} {k n : Nat} {t : TGs} {pos : Pos} (hc : X.calm = true) (h : PGs X es t) (hK : X.K = K := by rfl) (hn : (assignEach es X.env).length = n := by rfl) (hst : (assignEach es X.env).findIdx? (·.1) = none := by rfl) :
    PG X (.Tuple es k pos) (gTup K n t) := by
  subst hK
  exact pg_tup hc h hn hst
def rLen (K : PySem.W.Frag) : List V → Hp → VK → Prop := fun xs H Q => ∃ p ys, xs = [.ref p] ∧ (SqL K H p ys ∨ SqT K H p ys) ∧ Q (.int ys.length) H
theorem lenQ (K : PySem.W.Frag) {X : Cx} (h : X.K = K := by rfl) : CallR X (.builtin "len") (rLen K) := by
  subst h
  exact call_len_seq
def rListOf (K : PySem.W.Frag) : List V → Hp → VK → Prop := fun xs H Q => ∃ p ys, xs = [.ref p] ∧ (SqL K H p ys ∨ SqT K H p ys) ∧ ∀ l, H l = none → Q (.ref l) (upd H l (.lst ys))
theorem listOf (K : PySem.W.Frag) {X : Cx} (h : X.K = K := by rfl) : CallR X (.type "list") (rListOf K) := by
  subst h
  exact call_list_of
def rTupleOf (K : PySem.W.Frag) : List V → Hp → VK → Prop := fun xs H Q => ∃ p ys, xs = [.ref p] ∧ ((SqL K H p ys ∧ ∀ l, H l = none → Q (.ref l) (upd H l (.tup ys))) ∨ (SqT K H p ys ∧ Q (.ref p) H))
theorem tupleOf (K : PySem.W.Frag) {X : Cx} (h : X.K = K := by rfl) : CallR X (.type "tuple") (rTupleOf K) := by
  subst h
  exact call_tuple_of

/-! ### repr of a plain thing -/
def repV : V → Str
  | .non => "None"
  | .bl b => if b then "True" else "False"
  | .int i => toString i
  | _ => ""
def RepOk : V → Prop
  | .non => True
  | .bl _ => True
  | .int i => i.natAbs.log2 < 1920
  | _ => False
theorem call_repr {X : Cx} : CallR X (.builtin "repr") (fun xs H Q => ∃ v, xs = [v] ∧ RepOk v ∧ Q (.str (repV v)) H) := by
  intro pins s σ H xs us Q I r h
  obtain ⟨v, rfl, hz, q⟩ := h
  cases v with
  | non =>
    obtain ⟨u, rfl, rfl⟩ := vals1 r
    exact PySem.P.repr_of_none ⟨.str _, H, I.tok _, ⟨_, rfl⟩, q⟩
  | bl b =>
    obtain ⟨u, rfl, rfl⟩ := vals1 r
    exact PySem.P.repr_of_bool ⟨.str _, H, I.tok _, ⟨_, rfl⟩, by cases b <;> exact q⟩
  | int i =>
    obtain ⟨u, rfl, t, rfl⟩ := vals1 r
    exact PySem.P.repr_of_int hz ⟨.str _, H, I.tok _, ⟨_, rfl⟩, q⟩
  | str _ => exact hz.elim
  | byt _ => exact hz.elim
  | flt _ => exact hz.elim
  | ref _ => exact hz.elim
  | ty _ => exact hz.elim

/-! ### texts of small letters -/
def Small (x : Str) : Prop := ∀ c ∈ x.cps.toList, 97 ≤ c ∧ c ≤ 122
theorem Small.app {a b : Str} (ha : Small a) (hb : Small b) : Small (a ++ b) := fun c h => by
  rw [Str.cps_append, Array.toList_append, List.mem_append] at h
  rcases h with h | h
  · exact ha c h
  · exact hb c h
theorem Small.one {c : Nat} (h : 97 ≤ c ∧ c ≤ 122) : Small ⟨#[c]⟩ := fun d hd => by
  have e : d = c := by simpa using hd
  subst e
  exact h
theorem Small.at {x : Str} (h : Small x) {i c : Nat} (hi : x.cps[i]? = some c) : 97 ≤ c ∧ c ≤ 122 := by
  refine h c ?_
  have := Array.mem_of_getElem? hi
  exact Array.mem_toList_iff.mpr this
theorem Small.ok {x : Str} (h : Small x) : PyData.strOk x = true := by
  show x.cps.all (· < 0x110000) = true
  rw [Array.all_eq_true_iff_forall_mem]
  intro c hc
  have := h c (Array.mem_toList_iff.mpr hc)
  exact decide_eq_true (by omega)
/-! ### a chain of three comparisons -/
def tChain3 (r1 r2 r3 : R2) (ta tb tc td : TE) : TE := fun σ H Q => ta σ H fun x H1 => tb σ H1 fun y H2 => r1 x y H2 fun z H3 => ∃ k, z = .bl k ∧
  (if k = true then tc σ H3 fun u H4 => r2 y u H4 fun z2 H5 => ∃ k2, z2 = .bl k2 ∧ (if k2 = true then td σ H5 fun v H6 => r3 u v H6 Q else Q (.bl false) H5) else Q (.bl false) H3)
theorem pt_chain3 {X : Cx} {o1 o2 o3 : CmpOp} {r1 r2 r3 : R2} {a b c d : Expr} {ta tb tc td : TE} {pos : Pos} (h1 : OpR X (compareOp o1) r1) (h2 : OpR X (compareOp o2) r2) (h3 : OpR X (compareOp o3) r3)
    (ha : PE X a ta) (hb : PE X b tb) (hc : PE X c tc) (hd : PE X d td) (hm : lastMarks [o1, o2, o3] [b, c, d] = false := by with_unfolding_all rfl) :
    PT X (.Compare a [o1, o2, o3] [b, c, d] pos) (tTest (tChain3 r1 r2 r3 ta tb tc td)) := by
  refine ⟨fun pins s σ H Q I h => isTrue_chain (thn (ha.run pins s σ H _ I h) fun v s1 ⟨x, H1, I1, e1, q1⟩ => test_link ?_) hm⟩
  refine thn (hb.run pins s1 σ H1 _ I1 q1) fun u s2 ⟨y, H2, I2, e2, q2⟩ => ?_
  refine thn (h1 pins s2 σ H2 x y v u _ I2 e1 e2 q2) fun dv s3 ⟨z, H3, I3, e3, k, ek, q3⟩ => ?_
  subst ek
  cases e3
  refine wpAny_truthy_bool ?_
  cases k with
  | false =>
    obtain ⟨k', e', q'⟩ := q3
    cases e'
    exact ite_ff ⟨H3, I3, q'⟩
  | true =>
    refine ite_tt (test_link ?_)
    refine thn (hc.run pins s3 σ H3 _ I3 q3) fun u4 s4 ⟨y4, H4, I4, e4, q4⟩ => ?_
    refine thn (h2 pins s4 σ H4 y y4 u u4 _ I4 e2 e4 q4) fun dv5 s5 ⟨z5, H5, I5, e5, k5, ek5, q5⟩ => ?_
    subst ek5
    cases e5
    refine wpAny_truthy_bool ?_
    cases k5 with
    | false =>
      obtain ⟨k', e', q'⟩ := q5
      cases e'
      exact ite_ff ⟨H5, I5, q'⟩
    | true =>
      refine ite_tt (test_last ?_)
      refine thn (hd.run pins s5 σ H5 _ I5 q5) fun u6 s6 ⟨y6, H6, I6, e6, q6⟩ => ?_
      refine thn (h3 pins s6 σ H6 y4 y6 u4 u6 _ I6 e4 e6 q6) fun dv7 s7 ⟨z7, H7, I7, e7, k7, ek7, q7⟩ => ?_
      subst ek7
      cases e7
      exact wpAny_truthy_bool ⟨H7, I7, q7⟩
theorem inSeq (K : PySem.W.Frag) {X : Cx} (h : X.K = K := by rfl) : OpR X (compareOp .In) (rIn K false) := h ▸ op_in_seq
theorem notInSeq (K : PySem.W.Frag) {X : Cx} (h : X.K = K := by rfl) : OpR X (compareOp .NotIn) (rIn K true) := h ▸ op_notIn_seq
/-! ### join with nothing between -/
theorem join_str (ys : List Str) : Txt.join "" ys = Str.join "" ys := eq_of_beq (join_closes (ys := ys) rfl)
theorem sjoin_le {m : Nat} : ∀ {ys : List Str}, (∀ y ∈ ys, y.length ≤ m) → (Str.join "" ys).length ≤ ys.length * m
  | [], _ => Nat.zero_le _
  | [y], h => by
    have := h y (List.mem_cons_self ..)
    show y.length ≤ 1 * m
    omega
  | y :: z :: r, h => by
    have h1 := h y (List.mem_cons_self ..)
    have h2 := sjoin_le (ys := z :: r) fun x hx => h x (List.mem_cons_of_mem _ hx)
    show (y ++ "" ++ Str.join "" (z :: r)).length ≤ _
    rw [Str.length_append, Str.length_append, List.length_cons, Nat.succ_mul]
    show y.length + 0 + _ ≤ _
    omega
theorem small_nil : Small "" := by
  unfold Small
  decide +kernel
theorem sjoin_small : ∀ {ys : List Str}, (∀ y ∈ ys, Small y) → Small (Str.join "" ys)
  | [], _ => small_nil
  | [y], h => h y (List.mem_cons_self ..)
  | y :: z :: r, h => ((h y (List.mem_cons_self ..)).app small_nil).app (sjoin_small (ys := z :: r) fun x hx => h x (List.mem_cons_of_mem _ hx))
theorem join_le {m : Nat} {ys : List Str} (h : ∀ y ∈ ys, y.length ≤ m) : (Txt.join "" ys).length ≤ ys.length * m := by
  rw [join_str]
  exact sjoin_le h
theorem join_small {ys : List Str} (h : ∀ y ∈ ys, Small y) : Small (Txt.join "" ys) := by
  rw [join_str]
  exact sjoin_small h

/-! ### a walk over a text's signs -/
theorem for_str {x : Str} {g : TG} {tb : TS} {D : Ends} {σ : L2.St} {H : Hp} (Pv : Nat → L2.St → Hp → Prop) (h0 : Pv 0 σ H)
    (hs : ∀ i c σ H, x.cps[i]? = some c → Pv i σ H → g (.str ⟨#[c]⟩) σ H fun σ2 H2 => tb { D with nx := Pv (i + 1), ct := Pv (i + 1), bk := D.nx } σ2 H2) (hd : ∀ σ H, Pv x.cps.size σ H → D.nx σ H) :
    ∃ W : Nat → Nat → L2.St → Hp → Prop, (∃ m, W 0 m σ H) ∧ ∀ i m σ H, W i m σ H →
      ((Its x).stop i H ∧ D.nx σ H) ∨ ((Its x).go i H ∧ ∃ N : L2.St → Hp → Prop, (∀ σ' H', N σ' H' → ∃ m', m' < m ∧ W (i + 1) m' σ' H') ∧ ∀ y H', (Its x).yld i H y H' → g y σ H' fun σ2 H2 => tb { D with nx := N, ct := N, bk := D.nx } σ2 H2) := by
  refine ⟨fun i m σ H => m = x.cps.size - i ∧ i ≤ x.cps.size ∧ Pv i σ H, ⟨x.cps.size, by simp, Nat.zero_le _, h0⟩, ?_⟩
  rintro i m σ H ⟨rfl, hi, p⟩
  by_cases hlt : i < x.cps.size
  · refine .inr ⟨hlt, Pv (i + 1), fun σ' H' p' => ⟨x.cps.size - (i + 1), by omega, rfl, hlt, p'⟩, fun y H' z => ?_⟩
    obtain ⟨e, c, hc, ev⟩ := z
    subst e ev
    exact hs i c σ _ hc p
  · have e : i = x.cps.size := by omega
    subst e
    exact .inl ⟨Nat.le_refl _, hd σ H p⟩
theorem lc_str {x : Str} {g : TG} {tt : TT} {te : TE} {vs : List Nat} {σ : L2.St} {H1 : Hp} {D : Addr} {Qd : Hp → Prop} (Pv : Nat → Hp → Prop) (h0 : Pv 0 (upd H1 D (.lst [])))
    (hs : ∀ i c H, x.cps[i]? = some c → Pv i H → g (.str ⟨#[c]⟩) (wipe σ vs) H fun σ2 H2 => wipe σ2 vs = wipe σ vs ∧ tt σ2 H2 fun b H3 =>
      if b = true then te σ2 H3 fun y H4 => ∃ acc, H4 D = some (.lst acc) ∧ acc.length < sizeLine ∧ Pv (i + 1) (upd H4 D (.lst (acc ++ [y]))) else Pv (i + 1) H3) (hd : ∀ H, Pv x.cps.size H → Qd H) :
    ∃ W : Nat → Nat → Hp → Prop, (∃ m, W 0 m (upd H1 D (.lst []))) ∧ ∀ i m H, W i m H →
      ((Its x).stop i H ∧ Qd H) ∨ ((Its x).go i H ∧ ∃ Nx : Hp → Prop, (∀ H', Nx H' → ∃ m', m' < m ∧ W (i + 1) m' H') ∧ ∀ y H', (Its x).yld i H y H' → g y (wipe σ vs) H' fun σ2 H2 => wipe σ2 vs = wipe σ vs ∧ tt σ2 H2 fun b H3 =>
        if b = true then te σ2 H3 fun y H4 => ∃ acc, H4 D = some (.lst acc) ∧ acc.length < sizeLine ∧ Nx (upd H4 D (.lst (acc ++ [y]))) else Nx H3) := by
  refine ⟨fun i m H => m = x.cps.size - i ∧ i ≤ x.cps.size ∧ Pv i H, ⟨x.cps.size, by simp, Nat.zero_le _, h0⟩, ?_⟩
  rintro i m H ⟨rfl, hi, p⟩
  by_cases hlt : i < x.cps.size
  · refine .inr ⟨hlt, Pv (i + 1), fun H' p' => ⟨x.cps.size - (i + 1), by omega, rfl, hlt, p'⟩, fun y H' z => ?_⟩
    obtain ⟨e, c, hc, ev⟩ := z
    subst e ev
    exact hs i c _ hc p
  · have e : i = x.cps.size := by omega
    subst e
    exact .inl ⟨Nat.le_refl _, hd H p⟩

/-! ### what stays in the heap, but the thing at p -/
def Kp (p : Addr) (H H' : Hp) : Prop := ∀ b o, b ≠ p → H b = some o → H' b = some o
theorem Kp.refl {p : Addr} {H : Hp} : Kp p H H := fun _ _ _ e => e
theorem Kp.trans {p : Addr} {H H1 H2 : Hp} (a : Kp p H H1) (b : Kp p H1 H2) : Kp p H H2 := fun c o n e => b c o n (a c o n e)
theorem Kp.new {p q : Addr} {H : Hp} {o : HO} (h : H q = none) : Kp p H (upd H q o) := fun b x _ e => by
  rw [upd_ne (ne_of_none e h)]
  exact e
theorem Kp.at {p : Addr} {H : Hp} {o : HO} : Kp p H (upd H p o) := fun b x n e => by
  rw [upd_ne n]
  exact e
/-- a change of what stood nowhere in H -/
theorem Kp.put {p q : Addr} {H H1 : Hp} {o : HO} (k : Kp p H H1) (h : H q = none) : Kp p H (upd H1 q o) := fun b x n e => by
  rw [upd_ne (ne_of_none e h)]
  exact k b x n e
theorem Kp.tup {p : Addr} {H H' : Hp} {ys : List V} {b : Addr} {xs : List V} (k : Kp p H H') (hp : H p = some (.lst ys)) (h : H b = some (.tup xs)) : H' b = some (.tup xs) :=
  k b _ (ne_of h hp (by intro z; cases z)) h
theorem Kp.some {p : Addr} {H H' : Hp} (k : Kp p H H') (hp : ∃ o, H' p = some o) {b : Addr} (h : H' b = none) : H b = none := by
  cases e : H b with
  | none => rfl
  | some o =>
    by_cases n : b = p
    · subst n
      obtain ⟨o', e'⟩ := hp
      rw [e'] at h
      cases h
    · rw [k b o n e] at h
      cases h

/-! ### arguments by names, in another order -/
def permV (js : List Nat) : List V → List V → List V := fun _ zs => js.map fun j => zs.getD j .non
def permU (js : List Nat) : List Value → List Value → List Value := fun _ ws => js.map fun j => ws.getD j .none
theorem vals_getD : ∀ {zs : List V} {ws : List Value} (j : Nat), Vals zs ws → RelV (zs.getD j .non) (ws.getD j .none)
  | _, _, _, .nil => rfl
  | _, _, 0, .cons r _ => r
  | _, _, j + 1, .cons _ t => vals_getD j t
theorem perm_rel {zs : List V} {ws : List Value} (r : Vals zs ws) : ∀ js : List Nat, Vals (js.map fun j => zs.getD j .non) (js.map fun j => ws.getD j .none)
  | [] => .nil
  | j :: js => .cons (vals_getD j r) (perm_rel r js)
theorem kbn_of {K : PySem.W.Frag} {fd : FuncData} {ps ks : List Str} (js : List Nat) (h : ∀ ws : List Value, ws.length = ks.length → bindArgs fd ⟨[], ks.zip ws⟩ = pure (ps.zip (js.map fun j => ws.getD j .none))) :
    KBn K fd ps 0 ks (permU js) (permV js) where
  to := fun s us ws _ hu hw => by
    obtain rfl := List.length_eq_zero_iff.mp hu
    exact .of_eq (h ws hw)
  rel := fun _ r => perm_rel r js
/-! ### what is added, and nothing changed -/
def Ext (H H' : Hp) : Prop := ∀ b o, H b = some o → H' b = some o
theorem Ext.refl {H : Hp} : Ext H H := fun _ _ e => e
theorem Ext.trans {H H1 H2 : Hp} (a : Ext H H1) (b : Ext H1 H2) : Ext H H2 := fun c o e => b c o (a c o e)
theorem Ext.new {q : Addr} {H : Hp} {o : HO} (h : H q = none) : Ext H (upd H q o) := fun b x e => by
  rw [upd_ne (ne_of_none e h)]
  exact e
theorem Ext.put {q : Addr} {H H1 : Hp} {o : HO} (k : Ext H H1) (h : H q = none) : Ext H (upd H1 q o) := fun b x e => by
  rw [upd_ne (ne_of_none e h)]
  exact k b x e
theorem Ext.none {H H' : Hp} (k : Ext H H') {q : Addr} (h : H' q = none) : H q = none := by
  cases e : H q with
  | none => rfl
  | some o =>
    rw [k q o e] at h
    cases h

theorem atI_get {α : Type} {xs : List α} {i : Int} (h0 : 0 ≤ i) (h1 : i < xs.length) : atI xs i = some (xs[i.toNat]'(by omega)) := by
  unfold atI ixN
  rw [if_pos h0, if_pos h1]
  exact List.getElem?_eq_getElem _
theorem atI_ints {ns : List Int} {i : Int} (h0 : 0 ≤ i) (h1 : i < ns.length) : ∃ z, z ∈ ns ∧ atI (ns.map V.int) i = some (.int z) := by
  have h2 : i < (ns.map V.int).length := by rw [List.length_map]; exact h1
  refine ⟨ns[i.toNat]'(by omega), List.getElem_mem _, ?_⟩
  rw [atI_get h0 h2, List.getElem_map]
theorem atI_mem {α : Type} {xs : List α} {i : Int} (h0 : 0 ≤ i) (h1 : i < xs.length) : ∃ v, v ∈ xs ∧ atI xs i = some v :=
  ⟨xs[i.toNat]'(by omega), List.getElem_mem _, atI_get h0 h1⟩
theorem len_pos {x : Str} (h : ¬ x = "") : 1 ≤ x.length := by
  obtain ⟨⟨l⟩⟩ := x
  cases l with
  | nil => exact absurd (by decide +kernel) h
  | cons a r =>
    show 1 ≤ (a :: r).length
    exact Nat.succ_pos _
theorem natAbs_lt_of {i : Int} {n : Nat} (h0 : -(n : Int) < i) (h1 : i < n) : i.natAbs < n := by omega
theorem log2_small {i : Int} (h : i.natAbs < 2 ^ 64) : i.natAbs.log2 < 1920 := by
  by_cases z : i.natAbs = 0
  · rw [z]
    decide
  · exact (Nat.log2_lt z).mpr (Nat.lt_of_lt_of_le h (Nat.pow_le_pow_right (by decide) (by decide)))
theorem szL {n : Nat} (h : n ≤ 1000000) : n ≤ sizeLine := by
  rw [sizeLine_eq]
  omega
theorem szLt {n : Nat} (h : n < 1000000) : n < sizeLine := by
  rw [sizeLine_eq]
  omega
end Pf


namespace Pf
open PySem PySem.Spec PyProof.Rows L2
/-! ### the law's own call: made by nobody, nothing being shown meanwhile -/
structure FnG (P : Program) (w : World) (K : PySem.W.Frag) (mg : Str → Option Value) (base : Heap) (f : Addr) (fd : FuncData) (ps : List Str) (sp : Sp) : Prop where
  run : ∀ (s : Shared) (H : Hp) (args : Args) (us : List Value) (vs : List V) (Q : VK) (E : XK), Env0 P w K mg base callerA [] s H → BindsTo s fd args (ps.zip us) → Vals vs us → sp vs H Q E →
    codeAny (model P w) callerA (.call (.ref f) args) (CR CX0 [] P w H s Q E) s
theorem FnG.of {P : Program} {w : World} {K : PySem.W.Frag} {mg : Str → Option Value} {base : Heap} {k : Nat} {f : Addr} {fd : FuncData} {x qual : Str} {st : Stmt} {N ps : List Str} {sp : Sp} (F : Fun K x qual st f fd) (S : FnScope N ps (defScope st))
    (room : Room (k + 1) callerA) (len : ∀ vs H Q E, sp vs H Q E → vs.length = ps.length)
    (body : ∀ (cdv : Value) (s : Shared) (H : Hp) (vs : List V) (Q : VK) (E : XK), Room k (callerA.deeper (envOfC qual (defScope st) s.heap.objs.size f cdv)) → (callerA.deeper (envOfC qual (defScope st) s.heap.objs.size f cdv)).guards = some [] → sp vs H Q E →
      ∃ t, PSs (cxOf CX0 P w K mg base N qual (defScope st) f cdv callerA [] s H E).nox (defBody st) t ∧ t { nx := fun _ H' => Q .non H', rt := Q } (start N vs) H) : FnG P w K mg base f fd ps sp := by
  obtain ⟨oc, od, kV, doc, pm, an, cdv, ct, osl, rfl, lk, hcd⟩ := F.ex
  refine ⟨fun s H args us vs Q E env0 bnd rel hsp => ?_⟩
  have inS : K.In s.heap := env0.mod.kin.keeps fun b o e => (env0.bs b o e).1
  have limS : s.heap.NoLimit := env0.mod.nolimit.keeps fun b o e => (env0.bs b o e).1
  have kinds : ∀ y ∈ ps.zip us, (defScope st).names.lookup y.1 = some .local ∨ ((defScope st).names.lookup y.1 = some .cell ∧ ((cellsFrom (s.heap.objs.size + 1) (defScope st).names []).lookup y.1).isSome = true) := by
    rintro ⟨n, v⟩ hy
    cases S.par n (List.of_mem_zip hy).1 with
    | inl q => exact .inl q
    | inr q => exact .inr ⟨q, PySem.W.cellsFrom_some _ _ _ (.inl q)⟩
  refine codeAny_call_function room.depth (inS _ _ lk) rfl S.co S.gen rfl (PySem.W.codeRec_of inS hcd) (bnd _ _ _ _ ?_)
  refine wpAny_newFunctionEnv_cells S.kind kinds fun env0' he s1 inC => ?_
  subst he
  refine ⟨limS.keeps inC.toInCall.keep, codeAny_func ?_⟩
  obtain ⟨t, ht, hq⟩ := body cdv s H vs Q E (room.deeper _) rfl hsp
  have I0 : Inv (cxOf CX0 P w K mg base N qual (defScope st) f cdv callerA [] s H E) [] (start N vs) H s1 := inv_start S room.hd env0 (len _ _ _ _ hsp) rel inC
  refine wpAny_mono (ht.nox.run [] s1 (start N vs) H _ I0 hq) (fun fl s' hs => ?_) fun _ _ z => z
  cases fl with
  | ret u =>
    obtain ⟨v, σ', H', J, rv, q⟩ := hs
    exact ⟨v, H', J.os, J.bare, J.base, J.hok, rv, q⟩
  | next =>
    obtain ⟨σ', H', J, q⟩ := hs
    exact ⟨.non, H', J.os, J.bare, J.base, J.hok, rfl, q⟩
  | brk => exact False.elim (by obtain ⟨_, _, _, q⟩ := hs; exact q)
  | cont => exact False.elim (by obtain ⟨_, _, _, q⟩ := hs; exact q)
/-- its end: from an abstract heap that holds the script or nothing -/
theorem FnG.ends {P : Program} {w : World} {K : PySem.W.Frag} {mg mb : Str → Option Value} {fa a : Addr} {fd : FuncData} {x : Str} {sp : Sp} {s1 : Shared} {vs : List Value} {ns : List Int}
    (inK : K.In s1.heap) (gl : s1.heap.Ns mainGlobals mg) (bl : s1.heap.Ns builtinsNs mb) (bb : ∀ x : Str, x ≠ "__name__" → mb x = bootBuiltins x) (lim : s1.heap.NoLimit) (gens : s1.gens = #[])
    (hscr : s1.heap.get? a = some { cls := .type "list", data := .seq vs.toArray }) (hin : IntsAre vs ns) (F : ∀ base : Heap, K.In base → base.Ns mainGlobals mg → FnG P w K mg base fa fd [x] sp) (bnd : ∀ (s : Shared) (u : Value), BindsTo s fd ⟨[u], []⟩ [(x, u)])
    {H : Hp} (only : Only H) (hsp : sp [.ref a] H (fun v _ => v = .bl true) fun _ _ _ => False) (hok : HOk P w H s1.heap) (hA : ∀ b, H b ≠ none → b = a) (hK : H a ≠ none → K.lookup a = none) :
    codeAny (model P w) callerA (.call (.ref fa) ⟨[.ref a], []⟩) (fun r s' => r = .ok (.ret (.bool true)) ∧ OldK s1.heap s'.heap ∧ s'.os = s1.os ∧ AllBare s'.gens) s1 := by
  have isA : ∀ {b : Addr} {u : HO}, H b = some u → b = a := fun {b u} q => hA b (by rw [q]; exact Option.some_ne_none _)
  have hid : ∀ {b : Addr} {o : Obj}, s1.heap.get? b = some o → H b = none → (hidT s1.heap H).get? b = some o := fun e n => hidT_get e n
  have dictN : ∀ {b : Addr} {o : Obj} {es : Array DictEntry} {ep : Nat}, s1.heap.get? b = some o → o.data = .dict es ep → H b = none := by
    intro b o es ep e d
    cases q : H b with
    | none => rfl
    | some u =>
      obtain rfl := isA q
      rw [hscr] at e
      cases e
      exact nomatch d
  have nsH : ∀ {b : Addr} {m : Str → Option Value}, s1.heap.Ns b m → (hidT s1.heap H).Ns b m := by
    rintro b m ⟨o, es, ep, e, d, r⟩
    exact ⟨o, es, ep, hid e (dictN e d), d, r⟩
  have inB : K.In (hidT s1.heap H) := by
    intro b o e
    refine hid (inK b o e) ?_
    cases q : H b with
    | none => rfl
    | some u =>
      obtain rfl := isA q
      rw [hK (by rw [q]; exact Option.some_ne_none _)] at e
      cases e
  have limB : (hidT s1.heap H).NoLimit := by
    obtain ⟨mc, h1, h2⟩ := lim
    exact ⟨mc, nsH h1, h2⟩
  have env0 : Env0 P w K mg (hidT s1.heap H) callerA [] s1 H :=
    ⟨rfl, ⟨inB, nsH gl, ⟨mb, nsH bl, bb⟩, limB⟩, fun b o e => of_hidT e, Nat.le_of_eq (hidT_size _ _), trivial, fun b hb => (nomatch (show b ∈ ([] : List Addr) from hb)), hok, .of_eq gens⟩
  refine codeAny_mono ((F _ inB (nsH gl)).run s1 H ⟨[.ref a], []⟩ [.ref a] [.ref a] _ _ env0 (bnd s1 (.ref a)) (.cons rfl .nil) hsp) fun r s' h => ?_
  match r, h with
  | .error _, h => exact False.elim h
  | .ok .next, h => exact False.elim h
  | .ok .brk, h => exact False.elim h
  | .ok .cont, h => exact False.elim h
  | .ok (.ret u), h =>
    obtain ⟨v, H', os, bare, un, hok', rel, q⟩ := h
    obtain rfl : v = .bl true := q
    obtain rfl : u = Value.bool true := rel
    refine ⟨rfl, OldK.of_keep fun b o e => ?_, os, bare⟩
    cases q : H b with
    | none => exact un.keep b o e q (fun z => (nomatch (show b ∈ ([] : List Addr) from z))) (by simp)
    | some u =>
      cases only b with
      | inl z => rw [q] at z; cases z
      | inr z =>
        obtain ⟨ob, xs, z⟩ := z
        have kept := (hok' b _ (un.frzs b ob _ z)).1
        have was := (hok b _ z).1
        rw [e] at was
        cases was
        exact kept
theorem walk_g {l : PySem.W.OpenLaw} {n : Nat} {q : Program} {loose : List Str} {XP : (Str → Option Value) → Heap → Prop} {YP : World → Heap → Prop} {d : DefRec} {K : Params → PySem.W.Frag} {sp : World → Sp} {x : Str}
    (hn : l.most = some n) (hn2 : n ≤ sizeLine) (hdf : d.params.defaults = []) (hY : ∀ (w : World) (h : Heap), YP w h → (K w.params).In h)
    (F : ∀ (w : World) (mg : Str → Option Value) (fa : Addr) (h : Heap), (K w.params).In h → h.Ns mainGlobals mg → mg d.name = some (.ref fa) →
      ∃ fd : FuncData, (∀ (s : Shared) (u : Value), BindsTo s fd ⟨[u], []⟩ [(x, u)]) ∧ ∀ base : Heap, (K w.params).In base → base.Ns mainGlobals mg → FnG l.prog w (K w.params) mg base fa fd [x] (sp w))
    (hsp : ∀ (w : World) (H : Hp) (a : Addr) (ns : List Int), ns.length ≤ n → SqL (K w.params) H a (ns.map V.int) → sp w [.ref a] H (fun v _ => v = .bl true) fun _ _ _ => False) :
    PySem.W.WalkO q loose XP YP l.row.toRowW d [] (fun f vs => PySem.call f vs) := by
  refine Att.attach_call hn hdf fun w s0 s1 mg mb fa o pm cd doc a vs ns G Y ho hd hcd hmg hobj hints hlen hg => ?_
  have inK := hY w _ Y
  obtain ⟨fd, bnd, hF⟩ := F w mg fa _ inK G.T.g hmg
  have szs : ns.length ≤ sizeLine := Nat.le_trans hlen hn2
  have vals := vals_ints hints
  cases hk : (K w.params).lookup a with
  | some ob =>
    have e := inK a ob hk
    rw [hobj] at e
    cases e
    have here : SqL (K w.params) (fun _ => none) a (ns.map V.int) := .inr ⟨_, vs.toArray, _, hk, rfl, rfl, rfl, by rw [List.size_toArray, hints.length]; exact szs, by simpa using vals⟩
    exact FnG.ends inK G.T.g G.T.b G.T.builtins G.T.nolimit hg hobj hints hF bnd (fun _ => .inl rfl) (hsp w _ a ns hlen here) (fun _ _ z => (nomatch z)) (fun b z => absurd rfl z) fun z => absurd rfl z
  | none =>
    have here : SqL (K w.params) (fun b => if b = a then some (.frz { cls := .type "list", data := .seq vs.toArray } (.lst (ns.map V.int))) else none) a (ns.map V.int) := .inl (.inr ⟨_, if_pos rfl⟩)
    refine FnG.ends inK G.T.g G.T.b G.T.builtins G.T.nolimit hg hobj hints hF bnd (fun b => ?_) (hsp w _ a ns hlen here) (fun b u z => ?_) (fun b z => ?_) fun _ => hk
    · exact if h : b = a then .inr ⟨_, _, if_pos h⟩ else .inl (if_neg h)
    · by_cases h : b = a
      · rw [if_pos h] at z
        cases z
        subst h
        exact ⟨hobj, by rw [List.length_map]; exact szs, vs, _, vals, hobj⟩
      · rw [if_neg h] at z
        cases z
    · by_cases h : b = a
      · exact h
      · exact absurd (if_neg h) z
/-! ### data that are small: how much they weigh, how deep they are -/
structure Sm (m k : Nat) (d : PyData) : Prop where
  lay : d.canLay0 = true
  sho : d.showable = true
  ish : d.intsShort 13 = true
  wt : d.weight ≤ m
  dep : d.depth ≤ k
theorem Sm.le {m k m' k' : Nat} {d : PyData} (h : Sm m k d) (hm : m ≤ m') (hk : k ≤ k') : Sm m' k' d := ⟨h.lay, h.sho, h.ish, Nat.le_trans h.wt hm, Nat.le_trans h.dep hk⟩
theorem Sm.non : Sm 0 0 .none := ⟨by simp [PyData.canLay0], by simp [PyData.showable], by simp [PyData.intsShort], by simp [PyData.weight], by simp [PyData.depth]⟩
theorem Sm.bl (b : Bool) : Sm 0 0 (.bool b) := ⟨by simp [PyData.canLay0], by simp [PyData.showable], by simp [PyData.intsShort], by simp [PyData.weight], by simp [PyData.depth]⟩
theorem Sm.int {i : Int} (h0 : -1000000000 < i) (h1 : i < 1000000000) : Sm 64 0 (.int i) := by
  have hb : i.natAbs < 2 ^ 64 := by omega
  have hl : i.natAbs.log2 < 64 := by
    by_cases z : i.natAbs = 0
    · rw [z]
      decide
    · exact (Nat.log2_lt z).mpr hb
  refine ⟨by simp [PyData.canLay0], ?_, ?_, ?_, by simp [PyData.depth]⟩
  · simp only [PyData.showable]
    exact decide_eq_true (by omega)
  · simp only [PyData.intsShort, PyData.shown]
    refine decide_eq_true ?_
    by_cases hn : i < 0
    · rw [len_text_neg hn]
      have := toString_length_le (v := 0 - i) (k := 9) (by omega) (by decide) (by omega)
      omega
    · have := toString_length_le (v := i) (k := 9) (by omega) (by decide) (by omega)
      omega
  · simp only [PyData.weight]
    split <;> omega
theorem Sm.str {x : Str} {n : Nat} (h : PyData.strOk x = true) (hn : x.length ≤ n) : Sm n 0 (.str x) :=
  ⟨by simpa only [PyData.canLay0] using h, by simp [PyData.showable], by simp [PyData.intsShort], by simp only [PyData.weight]; exact hn, by simp [PyData.depth]⟩
structure SmA (n m k : Nat) (ds : List PyData) : Prop where
  lay : PyData.canLayAll0 ds = true
  sho : PyData.showableAll ds = true
  ish : PyData.intsShortAll 13 ds = true
  wt : PyData.weightAll ds ≤ ds.length * (m + 1)
  dep : PyData.depthAll ds ≤ k
theorem SmA.of {m k : Nat} : ∀ {ds : List PyData}, (∀ d ∈ ds, Sm m k d) → SmA ds.length m k ds
  | [], _ => ⟨by simp [PyData.canLayAll0], by simp [PyData.showableAll], by simp [PyData.intsShortAll], by simp [PyData.weightAll], by simp [PyData.depthAll]⟩
  | d :: ds, h => by
    have h1 := h d (List.mem_cons_self ..)
    have h2 := SmA.of (ds := ds) fun x hx => h x (List.mem_cons_of_mem _ hx)
    refine ⟨by simp [PyData.canLayAll0, h1.lay, h2.lay], by simp [PyData.showableAll, h1.sho, h2.sho], by simp [PyData.intsShortAll, h1.ish, h2.ish], ?_, ?_⟩
    · have e1 := h1.wt
      have e2 := h2.wt
      simp only [PyData.weightAll, List.length_cons, Nat.succ_mul]
      omega
    · simp only [PyData.depthAll]
      exact Nat.max_le.mpr ⟨h1.dep, h2.dep⟩
theorem Sm.lst {n m k M : Nat} {ds : List PyData} (hn : ds.length ≤ n) (h : ∀ d ∈ ds, Sm m k d) (hM : n * (m + 1) ≤ M) : Sm M (k + 1) (.list ds) := by
  have a := SmA.of h
  have hw : ds.length * (m + 1) ≤ n * (m + 1) := Nat.mul_le_mul_right _ hn
  exact ⟨by simpa only [PyData.canLay0] using a.lay, by simpa only [PyData.showable] using a.sho, by simpa only [PyData.intsShort] using a.ish, by simp only [PyData.weight]; exact Nat.le_trans a.wt (Nat.le_trans hw hM), by simp only [PyData.depth]; exact Nat.succ_le_succ a.dep⟩
theorem Sm.tup {n m k M : Nat} {ds : List PyData} (hn : ds.length ≤ n) (h : ∀ d ∈ ds, Sm m k d) (hM : n * (m + 1) ≤ M) : Sm M (k + 1) (.tuple ds) := by
  have a := SmA.of h
  have hw : ds.length * (m + 1) ≤ n * (m + 1) := Nat.mul_le_mul_right _ hn
  exact ⟨by simpa only [PyData.canLay0] using a.lay, by simpa only [PyData.showable] using a.sho, by simpa only [PyData.intsShort] using a.ish, by simp only [PyData.weight]; exact Nat.le_trans a.wt (Nat.le_trans hw hM), by simp only [PyData.depth]; exact Nat.succ_le_succ a.dep⟩
theorem Sm.shaped {m k : Nat} {d : PyData} (h : Sm m k d) (hk : k ≤ 50) : SeqAt.shaped d = true := by
  show (d.canLay0 && decide (d.depth ≤ 64)) = true
  rw [h.lay, decide_eq_true (show d.depth ≤ 64 from Nat.le_trans h.dep (by omega))]
  rfl
theorem Sm.short {m k : Nat} {d : PyData} (h : Sm m k d) (hm : m ≤ 1000000) (hk : k ≤ 50) : d.shown.length ≤ sizeLine := by
  have e : PyData.layable0 d = true := by
    show (d.canLay0 && decide (d.depth ≤ 64) && decide (d.weight ≤ 2 ^ 20)) = true
    rw [h.lay, decide_eq_true (show d.depth ≤ 64 from Nat.le_trans h.dep (by omega)), decide_eq_true (show d.weight ≤ 2 ^ 20 from Nat.le_trans h.wt (by omega))]
    rfl
  have := shown_le13 e h.ish
  rw [sizeLine_eq]
  omega
/-! ### repr of data at any depth -/
def rShow (K : PySem.W.Frag) : List V → Hp → VK → Prop := fun xs H Q => ∃ v d m k, xs = [v] ∧ Dp K H v d ∧ Sm m k d ∧ m ≤ 1000000 ∧ k ≤ 50 ∧ Q (.str d.shown) H
theorem call_show (K : PySem.W.Frag) {X : Cx} (hg : X.A.guards = some []) (hu : X.A.units + 64 < cLine) (hK : X.K = K := by rfl) : CallR X (.builtin "repr") (rShow K) := by
  subst hK
  intro pins s σ H xs us Q I r h
  obtain ⟨v, d, m, k, rfl, hd, sh, hm, hk, q⟩ := h
  have hdep := sh.dep
  have hz := sh.short hm hk
  cases hd with
  | non =>
    obtain ⟨u, rfl, rfl⟩ := vals1 r
    exact PySem.P.repr_of_none ⟨.str _, H, I.tok _, ⟨_, rfl⟩, by simpa only [PyData.shown] using q⟩
  | bl b =>
    obtain ⟨u, rfl, rfl⟩ := vals1 r
    refine PySem.P.repr_of_bool ⟨.str _, H, I.tok _, ⟨_, rfl⟩, ?_⟩
    simp only [PyData.shown] at q
    cases b <;> exact q
  | int i =>
    obtain ⟨u, rfl, t, rfl⟩ := vals1 r
    have hi : i.natAbs.log2 < 1920 := by simpa [PyData.showable] using sh.sho
    exact PySem.P.repr_of_int hi ⟨.str _, H, I.tok _, ⟨_, rfl⟩, by simpa only [PyData.shown] using q⟩
  | str x =>
    obtain ⟨u, rfl, t, rfl⟩ := vals1 r
    simp only [PyData.shown] at q hz
    exact PySem.P.repr_of_str ⟨.str _, H, I.tok _, ⟨_, rfl⟩, q⟩ hz
  | @lst a ys ds hs hds =>
    obtain ⟨u, rfl, rfl⟩ := vals1 r
    obtain ⟨as, rd⟩ := Dp.reads I _ _ _ (Dp.lst hs hds) (show RelV (.ref a) (.ref a) from rfl)
    exact PySem.repr_of_reads' rd sh.sho (PyData.noDict_hsm (PyData.hasDict_of_canLay _ sh.lay)) hg (by omega) (fun _ _ e => e) (fun h' u tk keep => ⟨.str _, H, I.kept keep, ⟨_, rfl⟩, q⟩) hz
  | @tup a ys ds hs hds =>
    obtain ⟨u, rfl, rfl⟩ := vals1 r
    obtain ⟨as, rd⟩ := Dp.reads I _ _ _ (Dp.tup hs hds) (show RelV (.ref a) (.ref a) from rfl)
    exact PySem.repr_of_reads' rd sh.sho (PyData.noDict_hsm (PyData.hasDict_of_canLay _ sh.lay)) hg (by omega) (fun _ _ e => e) (fun h' u tk keep => ⟨.str _, H, I.kept keep, ⟨_, rfl⟩, q⟩) hz
/-! ### sorted of data -/
def rSortD (K : PySem.W.Frag) : List V → Hp → VK → Prop := fun vs H Q => ∃ (β : Type) (v : β → V) (d : β → PyData) (a : Addr) (bs : List β), vs = [.ref a] ∧ SqL K H a (bs.map v) ∧ (∀ b ∈ bs, Dp K H (v b) (d b) ∧ (d b).depth ≤ 50) ∧
  PySem.W.AllAlike (bs.map d) ∧ PySem.W.Sortable (bs.map d) ∧ ∀ p, H p = none → Q (.ref p) (upd H p (.lst ((bs.mergeSort (PySem.W.dataLe false d)).map v)))
section
variable {β : Type} {v : β → V} {d : β → PyData}
theorem each_vals : ∀ {bs : List β} {its : List Value}, Vals (bs.map v) its → PySem.W.EachIs (fun (u : Value) (b : β) => RelV (v b) u) its bs
  | [], _, .nil => .nil
  | _ :: _, _, .cons r t => .cons r (each_vals t)
theorem vals_each : ∀ {bs : List β} {its : List Value}, PySem.W.EachIs (fun (u : Value) (b : β) => RelV (v b) u) its bs → Vals (bs.map v) its
  | [], _, .nil => .nil
  | _ :: _, _, .cons r t => .cons r (vals_each t)
theorem each_reads {X : Cx} {pins : List (Addr × Obj)} {σ : L2.St} {H : Hp} {s : Shared} (I : Inv X pins σ H s) : ∀ {bs : List β} {its : List Value}, Vals (bs.map v) its → (∀ b ∈ bs, Dp X.K H (v b) (d b)) → PySem.W.EachIs (fun (u : Value) (b : β) => ∃ as, Reads s.heap u (d b) as) its bs
  | [], _, .nil, _ => .nil
  | b :: _, _, .cons r t, h => .cons (Dp.reads I _ _ _ (h b (List.mem_cons_self ..)) r) (each_reads I t fun x hx => h x (List.mem_cons_of_mem _ hx))
end
theorem cr_sortD (K : PySem.W.Frag) {X : Cx} (hu : X.A.units + 64 < cLine) (hK : X.K = K := by rfl) : CallR X (.builtin "sorted") (rSortD K) := by
  subst hK
  intro pins s σ H vs us Q I r h
  obtain ⟨β, v, d, a, bs, rfl, hs, hd, al, so, q⟩ := h
  obtain ⟨u, rfl, rfl⟩ := vals1 r
  obtain ⟨its, rv, hl, hz⟩ := I.list hs
  rw [List.length_map] at hz
  refine PySem.W.sorted_data (enc := d) (R := fun (u : Value) (b : β) => RelV (v b) u) hl.isList (each_vals rv) (each_reads I rv fun b hb => (hd b hb).1) al so hz (fun b hb => ?_) fun out hlen he => ?_
  · have := (hd b hb).2
    omega
  · obtain ⟨ep, he'⟩ := PyProof.Rows.sortedAll_at s.heap its out.toArray
    have hlen2 : ((bs.mergeSort (PySem.W.dataLe false d)).map v).length ≤ sizeLine := by
      rw [List.length_map, List.length_mergeSort]
      exact hz
    exact ⟨.ref _, upd H (s.heap.objs.size + 1) (.lst ((bs.mergeSort (PySem.W.dataLe false d)).map v)), I.laid (t' := s.toks) (fun _ _ => PyProof.Rows.sortedAll_old) (Nat.le_succ _) ⟨hlen2, out, ep, vals_each he, by simpa using he'⟩, rfl, q _ (I.hok.fresh (Nat.le_succ _))⟩
end Pf


namespace Pf
open PySem PySem.Spec PyProof.Rows L2
/-! ### tuples stay -/
structure TupK (H H' : Hp) : Prop where
  tup : ∀ b xs, H b = some (.tup xs) → H' b = some (.tup xs)
  frz : ∀ b o u, H b = some (.frz o u) → H' b = some (.frz o u)
instance {H H' : Hp} : CoeFun (TupK H H') (fun _ => ∀ b xs, H b = some (.tup xs) → H' b = some (.tup xs)) := ⟨TupK.tup⟩
theorem TupK.refl {H : Hp} : TupK H H := ⟨fun _ _ e => e, fun _ _ _ e => e⟩
theorem TupK.trans {H H1 H2 : Hp} (a : TupK H H1) (b : TupK H1 H2) : TupK H H2 := ⟨fun c xs e => b.tup c xs (a.tup c xs e), fun c o u e => b.frz c o u (a.frz c o u e)⟩
theorem TupK.ext {H H' : Hp} (k : Ext H H') : TupK H H' := ⟨fun b _ e => k b _ e, fun b _ _ e => k b _ e⟩
theorem TupK.new {q : Addr} {H : Hp} {o : HO} (h : H q = none) : TupK H (upd H q o) := TupK.ext (Ext.new h)
theorem TupK.lst {q : Addr} {H : Hp} {o : HO} {ys : List V} (h : H q = some (.lst ys)) : TupK H (upd H q o) := by
  refine ⟨fun b xs e => ?_, fun b o u e => ?_⟩
  · rw [upd_ne (ne_of e h (by intro z; cases z))]
    exact e
  · rw [upd_ne (ne_of e h (by intro z; cases z))]
    exact e
theorem paired_imp {α β : Type} {R S : α → β → Prop} (h : ∀ a b, R a b → S a b) : ∀ {xs : List α} {ys : List β}, Paired R xs ys → Paired S xs ys
  | _, _, .nil => .nil
  | _, _, .cons r t => .cons (h _ _ r) (paired_imp h t)
theorem paired_get {α β : Type} {R : α → β → Prop} : ∀ {xs : List α} {ys : List β} {i : Nat} {x : α}, Paired R xs ys → xs[i]? = some x → ∃ y, ys[i]? = some y ∧ R x y
  | _, _, _, _, .nil, e => by simp at e
  | _, _, 0, _, .cons r _, e => by
    simp at e
    subst e
    exact ⟨_, rfl, r⟩
  | _, _, i + 1, x, .cons _ t, e => by
    obtain ⟨y, h1, h2⟩ := paired_get (i := i) (x := x) t (by simpa using e)
    exact ⟨y, by simpa using h1, h2⟩
theorem paired_len {α β : Type} {R : α → β → Prop} : ∀ {xs : List α} {ys : List β}, Paired R xs ys → xs.length = ys.length
  | _, _, .nil => rfl
  | _, _, .cons _ t => by rw [List.length_cons, List.length_cons, paired_len t]
theorem paired_app {α β : Type} {R : α → β → Prop} : ∀ {xs xs' : List α} {ys ys' : List β}, Paired R xs ys → Paired R xs' ys' → Paired R (xs ++ xs') (ys ++ ys')
  | _, _, _, _, .nil, s => s
  | _, _, _, _, .cons r t, s => .cons r (paired_app t s)
/-! ### things as they lie in the heap -/
def PairAt (H : Hp) (v : V) (x : Str × Int) : Prop := ∃ a, v = .ref a ∧ H a = some (.tup [.str x.1, .int x.2])
def StackAt (H : Hp) (v : V) (x : Str × Str × Int) : Prop := ∃ a, v = .ref a ∧ H a = some (.tup [.str x.1, .str x.2.1, .int x.2.2])
def TwoAt (H : Hp) (v : V) (x : Int × Int) : Prop := ∃ a, v = .ref a ∧ H a = some (.tup [.int x.1, .int x.2])
def TupOf {α : Type} (R : Hp → V → α → Prop) (H : Hp) (v : V) (xs : List α) : Prop := ∃ a vs, v = .ref a ∧ H a = some (.tup vs) ∧ Paired (R H) vs xs
def Mono {α : Type} (R : Hp → V → α → Prop) : Prop := ∀ H H' v x, TupK H H' → R H v x → R H' v x
theorem PairAt.mono : Mono PairAt := fun H H' v x k ⟨a, e, h⟩ => ⟨a, e, k _ _ h⟩
theorem StackAt.mono : Mono StackAt := fun H H' v x k ⟨a, e, h⟩ => ⟨a, e, k _ _ h⟩
theorem TwoAt.mono : Mono TwoAt := fun H H' v x k ⟨a, e, h⟩ => ⟨a, e, k _ _ h⟩
theorem TupOf.mono {α : Type} {R : Hp → V → α → Prop} (m : Mono R) : Mono (TupOf R) := fun H H' v x k ⟨a, vs, e, h, r⟩ => ⟨a, vs, e, k _ _ h, paired_imp (fun _ _ => m _ _ _ _ k) r⟩
/-- a tuple whose object is known to have no dict -/
def FrzOf {α : Type} (R : Hp → V → α → Prop) (H : Hp) (v : V) (xs : List α) : Prop := ∃ (a : Addr) (o : Obj) (vs : List V), v = .ref a ∧ H a = some (.frz o (.tup vs)) ∧ o.dict = none ∧ Paired (R H) vs xs
theorem FrzOf.mono {α : Type} {R : Hp → V → α → Prop} (m : Mono R) : Mono (FrzOf R) := fun H H' v x k ⟨a, o, vs, e, h, hd, r⟩ => ⟨a, o, vs, e, k.frz _ _ _ h, hd, paired_imp (fun _ _ => m _ _ _ _ k) r⟩
theorem SqT.fz {K : PySem.W.Frag} {H : Hp} {a : Addr} {o : Obj} {xs : List V} (h : H a = some (.frz o (.tup xs))) : SqT K H a xs := .inl (.inr ⟨o, h⟩)
def IntAt (_ : Hp) (v : V) (x : Int) : Prop := v = .int x
theorem IntAt.mono : Mono IntAt := fun _ _ _ _ _ e => e
theorem paired_ints {H : Hp} : ∀ ns : List Int, Paired (IntAt H) (ns.map V.int) ns
  | [] => .nil
  | _ :: r => .cons rfl (paired_ints r)
structure Rl where
  letters : Str
  prs : List (Str × Int)
  span : Int
  loops : List Int
  stk : List (Str × Str × Int)
def RulesAt (H : Hp) (v : V) (r : Rl) : Prop := ∃ a vp vl vs, v = .ref a ∧ H a = some (.tup [.str r.letters, vp, .int r.span, vl, vs]) ∧ FrzOf PairAt H vp r.prs ∧ TupOf IntAt H vl r.loops ∧ TupOf StackAt H vs r.stk
theorem RulesAt.mono : Mono RulesAt := fun H H' v x k ⟨a, vp, vl, vs, e, h, h1, h2, h3⟩ => ⟨a, vp, vl, vs, e, k _ _ h, FrzOf.mono PairAt.mono _ _ _ _ k h1, TupOf.mono IntAt.mono _ _ _ _ k h2, TupOf.mono StackAt.mono _ _ _ _ k h3⟩
/-- pairs as a tuple of either make -/
def PrsW (H : Hp) (v : V) (xs : List (Str × Int)) : Prop := ∃ (a : Addr) (vs : List V), v = .ref a ∧ ((∃ o, H a = some (.frz o (.tup vs))) ∨ H a = some (.tup vs)) ∧ Paired (PairAt H) vs xs
theorem PrsW.mono : Mono PrsW := fun H H' v x k ⟨a, vs, e, h, r⟩ => ⟨a, vs, e, h.elim (fun ⟨o, h⟩ => .inl ⟨o, k.frz _ _ _ h⟩) (fun h => .inr (k _ _ h)), paired_imp (fun _ _ => PairAt.mono _ _ _ _ k) r⟩
theorem SqT.w {K : PySem.W.Frag} {H : Hp} {a : Addr} {xs : List V} (h : (∃ o, H a = some (.frz o (.tup xs))) ∨ H a = some (.tup xs)) : SqT K H a xs := h.elim (fun ⟨_, h⟩ => SqT.fz h) (fun h => SqT.of h)
def RulesW (H : Hp) (v : V) (r : Rl) : Prop := ∃ a vp vl vs, v = .ref a ∧ H a = some (.tup [.str r.letters, vp, .int r.span, vl, vs]) ∧ PrsW H vp r.prs ∧ TupOf IntAt H vl r.loops ∧ TupOf StackAt H vs r.stk
theorem RulesW.mono : Mono RulesW := fun H H' v x k ⟨a, vp, vl, vs, e, h, h1, h2, h3⟩ => ⟨a, vp, vl, vs, e, k _ _ h, PrsW.mono _ _ _ _ k h1, TupOf.mono IntAt.mono _ _ _ _ k h2, TupOf.mono StackAt.mono _ _ _ _ k h3⟩
theorem RulesAt.w {H : Hp} {v : V} {r : Rl} (h : RulesAt H v r) : RulesW H v r := by
  obtain ⟨a, vp, vl, vs, e, h, ⟨ap, o, us, e1, h1, _, p⟩, h2, h3⟩ := h
  exact ⟨a, vp, vl, vs, e, h, ⟨ap, us, e1, .inl ⟨o, h1⟩, p⟩, h2, h3⟩
def Two (t : Str) : Prop := t.length = 2 ∧ Small t
structure RlOk (r : Rl) : Prop where
  let6 : r.letters.length ≤ 6
  let1 : 1 ≤ r.letters.length
  small : Small r.letters
  prs : r.prs.length ≤ 12
  pr : ∀ x ∈ r.prs, Two x.1 ∧ -99 ≤ x.2 ∧ x.2 ≤ 99
  sp0 : 0 ≤ r.span
  sp3 : r.span ≤ 3
  lo9 : r.loops.length = 9
  lo : ∀ x ∈ r.loops, -99 ≤ x ∧ x ≤ 99
  stk : r.stk.length ≤ 12
  st : ∀ x ∈ r.stk, Two x.1 ∧ Two x.2.1 ∧ -99 ≤ x.2.2 ∧ x.2.2 ≤ 99
  nd : (r.stk.map fun x => (x.1, x.2.1)).Nodup
  pn : (r.prs.map (·.1)).Nodup
/-! ### a dict by two texts -/
def encE (x : Str × Str × Int) : List Key × V := ([.inr x.1, .inr x.2.1], .int x.2.2)
def putE (es : List (Str × Str × Int)) (a b : Str) (i : Int) : List (Str × Str × Int) :=
  if (es.any fun x => decide (x.1 = a ∧ x.2.1 = b)) = true then es.map (fun x => if x.1 = a ∧ x.2.1 = b then (x.1, x.2.1, i) else x) else es ++ [(a, b, i)]
theorem encE_key (x : Str × Str × Int) (a b : Str) : ((encE x).1 = [Sum.inr a, Sum.inr b]) ↔ (x.1 = a ∧ x.2.1 = b) := by
  unfold encE
  constructor
  · intro h
    injection h with h1 h2
    injection h2 with h3 _
    exact ⟨Sum.inr.inj h1, Sum.inr.inj h3⟩
  · rintro ⟨h1, h2⟩
    rw [h1, h2]
theorem put_enc (es : List (Str × Str × Int)) (a b : Str) (i : Int) : putK (es.map encE) [Sum.inr a, Sum.inr b] (.int i) = (putE es a b i).map encE := by
  have hany : ((es.map encE).any fun kv => decide (kv.1 = [Sum.inr a, Sum.inr b])) = es.any fun x => decide (x.1 = a ∧ x.2.1 = b) := by
    rw [List.any_map]
    congr 1
    funext x
    exact decide_eq_decide.mpr (encE_key x a b)
  unfold putK putE
  rw [hany]
  by_cases h : (es.any fun x => decide (x.1 = a ∧ x.2.1 = b)) = true
  · rw [if_pos h, if_pos h, List.map_map, List.map_map]
    refine List.map_congr_left fun x _ => ?_
    show (if (encE x).1 = [Sum.inr a, Sum.inr b] then ((encE x).1, V.int i) else encE x) = encE (if x.1 = a ∧ x.2.1 = b then (x.1, x.2.1, i) else x)
    by_cases e : x.1 = a ∧ x.2.1 = b
    · rw [if_pos ((encE_key x a b).mpr e), if_pos e]
      rfl
    · rw [if_neg (fun z => e ((encE_key x a b).mp z)), if_neg e]
  · rw [if_neg h, if_neg h, List.map_append]
    rfl
theorem putE_keys (es : List (Str × Str × Int)) (a b : Str) (i : Int) (hn : (es.map fun x => (x.1, x.2.1)).Nodup) : ((putE es a b i).map fun x => (x.1, x.2.1)).Nodup := by
  unfold putE
  split
  · rw [List.map_map]
    have e : ((fun x : Str × Str × Int => (x.1, x.2.1)) ∘ fun x => if x.1 = a ∧ x.2.1 = b then (x.1, x.2.1, i) else x) = fun x => (x.1, x.2.1) := by
      funext x
      show (fun x : Str × Str × Int => (x.1, x.2.1)) (if x.1 = a ∧ x.2.1 = b then (x.1, x.2.1, i) else x) = _
      split <;> rfl
    rw [e]
    exact hn
  · rename_i h
    rw [List.map_append]
    refine List.nodup_append.mpr ⟨hn, by simp, fun x hx y hy e => ?_⟩
    obtain ⟨z, hz, rfl⟩ := List.mem_map.mp hx
    have hy' : y = (a, b) := by simpa using hy
    rw [hy'] at e
    injection e with e1 e2
    exact h (List.any_eq_true.mpr ⟨z, hz, decide_eq_true ⟨e1, e2⟩⟩)
theorem putE_len (es : List (Str × Str × Int)) (a b : Str) (i : Int) : (putE es a b i).length ≤ es.length + 1 := by
  unfold putE
  split
  · rw [List.length_map]
    omega
  · rw [List.length_append]
    exact Nat.le_refl _
theorem putE_all {Pd : Str × Str × Int → Prop} {es : List (Str × Str × Int)} {a b : Str} {i : Int} (h : ∀ x ∈ es, Pd x) (hn : Pd (a, b, i)) : ∀ x ∈ putE es a b i, Pd x := by
  intro x hx
  unfold putE at hx
  split at hx
  · obtain ⟨y, hy, rfl⟩ := List.mem_map.mp hx
    split
    · rename_i e
      rw [e.1, e.2]
      exact hn
    · exact h y hy
  · rcases List.mem_append.mp hx with hx | hx
    · exact h x hx
    · rw [List.mem_singleton.mp hx]
      exact hn
theorem val_enc {es : List (Str × Str × Int)} {a b : Str} {i : Int} (hn : (es.map fun x => (x.1, x.2.1)).Nodup) (h : (a, b, i) ∈ es) : valV (es.map encE) [Sum.inr a, Sum.inr b] = some (.int i) := by
  induction es with
  | nil => cases h
  | cons y r ih =>
    rw [List.map_cons]
    rw [List.map_cons, List.nodup_cons] at hn
    by_cases e : y.1 = a ∧ y.2.1 = b
    · rw [valV_pos ((encE_key y a b).mpr e)]
      rcases List.mem_cons.mp h with z | z
      · rw [← z]
        rfl
      · exact absurd (List.mem_map.mpr ⟨_, z, by rw [e.1, e.2]⟩) hn.1
    · rw [valV_neg (fun z => e ((encE_key y a b).mp z))]
      rcases List.mem_cons.mp h with z | z
      · rw [← z] at e
        exact absurd ⟨rfl, rfl⟩ e
      · exact ih hn.2 z
theorem map_erase {α β : Type} (f : α → β) : ∀ (xs : List α) (k : Nat), (xs.map f).eraseIdx k = (xs.eraseIdx k).map f
  | [], _ => rfl
  | _ :: _, 0 => rfl
  | x :: r, k + 1 => by
    show f x :: (r.map f).eraseIdx k = f x :: (r.eraseIdx k).map f
    rw [map_erase f r k]
theorem dpStrs {K : PySem.W.Frag} {H : Hp} : ∀ us : List Str, DpAll K H (us.map V.str) (us.map PyData.str)
  | [] => .nil
  | _ :: r => .cons (.str _) (dpStrs r)
theorem sm_strs {us : List Str} {n m : Nat} (hn : us.length ≤ n) (h : ∀ t ∈ us, Small t ∧ t.length ≤ m) (hM : n * (m + 1) ≤ 1000000) : Sm 1000000 1 (.list (us.map PyData.str)) := by
  refine Sm.lst (n := n) (m := m) (k := 0) (by rw [List.length_map]; exact hn) (fun d hd => ?_) hM
  obtain ⟨t, ht, rfl⟩ := List.mem_map.mp hd
  exact Sm.str (h t ht).1.ok (h t ht).2
theorem keys_zip {H : Hp} : ∀ {es : List (Str × Str × Int)} {bs : List Addr}, IsKeys H (es.map encE) bs → ∃ bes : List (Addr × (Str × Str × Int)), bes.map (·.1) = bs ∧ bes.map (·.2) = es ∧ ∀ x ∈ bes, H x.1 = some (.tup [.str x.2.1, .str x.2.2.1])
  | [], _, .nil => ⟨[], rfl, rfl, fun x h => by cases h⟩
  | e :: es, b :: bs, .cons r t => by
    obtain ⟨bes, h1, h2, h3⟩ := keys_zip (es := es) t
    refine ⟨(b, e) :: bes, by rw [List.map_cons, h1], by rw [List.map_cons, h2], fun x hx => ?_⟩
    rcases List.mem_cons.mp hx with rfl | hx
    · exact r
    · exact h3 x hx
theorem ixN_in {n : Nat} {i : Int} (h0 : 0 ≤ i) (h1 : i < n) : seqIndex? i n = some i.toNat := by
  refine (ixN_seq ?_).1
  unfold ixN
  rw [if_pos h0, if_pos h1]
end Pf


namespace Pf
open PySem PySem.Spec PyProof.Rows L2
/-! ### enumerate of a text -/
def ItES (x : Str) : It :=
  ⟨fun i _ => i < x.cps.size, fun i H v H' => ∃ T c, v = .ref T ∧ H T = none ∧ H' = upd H T (.tup [.int (i : Nat), .str ⟨#[c]⟩]) ∧ x.cps[i]? = some c, fun i _ => i = x.cps.size⟩
theorem turn_es {P : Program} {w : World} {K : PySem.W.Frag} {elts : List Expr} {kk : Nat} {tpos : Pos} (x : Str) (t : Tok) (e it : Addr) :
    Turn P w K (.Tuple elts kk tpos) (ItES x) [e, it] e (fun i h => (∃ old, IsEnum h e it ((i : Nat) : Int) old) ∧ h.IsStrIter it (strIterType x) x t i ∧ e ≠ it) where
  mem := by simp
  obj := fun i h st b hb => by
    obtain ⟨⟨old, he⟩, ⟨o, ho, hc, hd⟩, _⟩ := st
    have e' : b = e ∨ b = it := by simpa using hb
    cases e' with
    | inl z =>
      rw [z]
      exact ⟨_, he, fun v q => nomatch q⟩
    | inr z =>
      rw [z]
      exact ⟨o, ho, fun v q => by rw [hd] at q; cases q⟩
  keep := fun i h h' st k => by
    obtain ⟨⟨old, he⟩, ⟨o, ho, r⟩, hne⟩ := st
    exact ⟨⟨old, k e (by simp) _ he⟩, ⟨o, k it (by simp) o ho, r⟩, hne⟩
  item := by
    intro X hP hw hK hc i pins s σ H E I hf st hg
    subst hP hw hK
    obtain ⟨⟨old, he⟩, hit, hne⟩ := st
    have hel : e < s.heap.objs.size := Heap.lt_size he
    have hil : it < s.heap.objs.size := by
      obtain ⟨_, q, _⟩ := hit
      exact Heap.lt_size q
    have D := Draws.text (prog := X.prog) (w := X.w) (A := X.A.in1) (show X.A.in1.handled = none from I.ok.hd hc) it x t
    refine wpAny_pyNext_enum_itemD D he hit hg hne (by simpa using hne) fun u h' tk hu ho hit' hT hsz hk => ?_
    obtain ⟨c, t2, hcx, rfl⟩ := hu
    refine ⟨_, rfl, wpAny_letOwnedTupleGo_enum (s := { s with heap := h', toks := tk + 1 }) ho fun h'' he' sb => ?_⟩
    have hT2 := (sb.2 _ (Nat.ne_of_gt hel)).trans hT
    have new : ObjOk X.prog X.w (upd H s.heap.objs.size (.tup [.int (i : Nat), .str ⟨#[c]⟩])) h'' s.heap.objs.size (.tup [.int (i : Nat), .str ⟨#[c]⟩]) :=
      ⟨by show 2 ≤ sizeLine; decide, [.int i tk, .str ⟨#[c]⟩ t2], .cons ⟨_, rfl⟩ (.cons ⟨_, rfl⟩ .nil), ⟨_, hT2, rfl, _, rfl⟩⟩
    have I1 : Inv X pins σ (upd H s.heap.objs.size (.tup [.int (i : Nat), .str ⟨#[c]⟩])) { s with heap := h'', toks := tk + 1 } :=
      I.turnedNew (ch := [e, it]) (fun b ob hb q => (sb.2 b (fun z => hb (by simp [z]))).trans (hk b ob (fun z => hb (by simp [z])) (fun z => hb (by simp [z])) q)) hf (Nat.le_refl _) new
    obtain ⟨oi, hoi, ri⟩ := hit'
    refine ⟨.ref s.heap.objs.size, _, I1, rfl, ⟨_, c, rfl, I.hok.fresh (Nat.le_refl _), rfl, hcx⟩, ⟨⟨.str ⟨#[c]⟩ t2, ?_⟩, ⟨oi, (sb.2 it (Ne.symm hne)).trans hoi, ri⟩, hne⟩, fun b hb => ?_⟩
    · have e1 : ((i + 1 : Nat) : Int) = (i : Int) + 1 := by omega
      rw [e1]
      exact he'
    · have hb' : b < s.heap.objs.size := by
        have e' : b = e ∨ b = it := by simpa using hb
        cases e' with
        | inl z => rw [z]; exact hel
        | inr z => rw [z]; exact hil
      rw [upd_ne (Nat.ne_of_lt hb')]
      exact (hf b hb).1
  done := by
    intro X hP hw hK hc i pins s σ H E I hf st hg
    subst hP hw hK
    obtain ⟨⟨old, he⟩, hit, hne⟩ := st
    have hi : i = x.cps.size := hg
    subst hi
    obtain ⟨f0, f1, f2, f3, f4, f5⟩ := hf it (by simp)
    have D := Draws.text (prog := X.prog) (w := X.w) (A := X.A.in1) (show X.A.in1.handled = none from I.ok.hd hc) it x t
    exact wpAny_pyNext_enum_endD D he hit fun h' eb => ⟨rfl, I.turned (t' := s.toks) (fun b o hb q => eb b o hb q) f0 f1 f3 f4 f5⟩
  self := fun A i s Q E st h => by
    obtain ⟨⟨_, he⟩, _⟩ := st
    exact wpAny_pyIter_enum he h
def iEnumS (ta : TA) : TI := fun σ H R => ta σ H fun vs H1 => ∃ x, vs = [.str x] ∧ R (ItES x) H1
theorem pi_enumS {X : Cx} {e : Expr} {ta : TA} {p pos tpos : Pos} {elts : List Expr} {kk : Nat} (hg : Gl X "enumerate") (hm : X.mg "enumerate" = none) (ha : PA X [e] ta) (hs : starEach [e] X.env = [(false, eval e X.env)] := by rfl) :
    PI X (.Tuple elts kk tpos) (.Call (.Name "enumerate" p) [e] [] pos) (iEnumS ta) := by
  refine ⟨fun pins s σ H R I h => ?_⟩
  refine Call_ (ld_blt I hg hm boot_enumerate (PyProof.Rows.callWith_type1 (thn (ha.run pos pins s σ H _ I h) fun us s1 ⟨vs, H1, I1, r1, q1⟩ => ?_) hs rfl))
  obtain ⟨x, rfl, q⟩ := q1
  obtain ⟨u, rfl, t, rfl⟩ := vals1 r1
  refine call_enumerate_str fun h' he hit hsz hk => wpAny_pyIter_enum he ?_
  refine ⟨s1.heap.objs.size + 1, [s1.heap.objs.size + 1, s1.heap.objs.size], _, _, H1, rfl, I1.kept (t' := s1.toks) hk, turn_es x t (s1.heap.objs.size + 1) s1.heap.objs.size, ⟨⟨.none, he⟩, hit, Nat.succ_ne_self _⟩, fun b hb => ?_, q⟩
  have e' : b = s1.heap.objs.size + 1 ∨ b = s1.heap.objs.size := by simpa using hb
  have hle : s1.heap.objs.size ≤ b := by
    cases e' with
    | inl z => rw [z]; exact Nat.le_add_right _ _
    | inr z => rw [z]; exact Nat.le_refl _
  exact I1.fpOk hle (I1.hok.fresh hle)
theorem for_es {x : Str} {g : TG} {tb : TS} {D : Ends} {σ : L2.St} {H : Hp} (Pv : Nat → L2.St → Hp → Prop) (h0 : Pv 0 σ H)
    (hs : ∀ i c T σ H, x.cps[i]? = some c → Pv i σ H → H T = none → g (.ref T) σ (upd H T (.tup [.int (i : Nat), .str ⟨#[c]⟩])) fun σ2 H2 => tb { D with nx := Pv (i + 1), ct := Pv (i + 1), bk := D.nx } σ2 H2) (hd : ∀ σ H, Pv x.cps.size σ H → D.nx σ H) :
    ∃ W : Nat → Nat → L2.St → Hp → Prop, (∃ m, W 0 m σ H) ∧ ∀ i m σ H, W i m σ H →
      ((ItES x).stop i H ∧ D.nx σ H) ∨ ((ItES x).go i H ∧ ∃ N : L2.St → Hp → Prop, (∀ σ' H', N σ' H' → ∃ m', m' < m ∧ W (i + 1) m' σ' H') ∧ ∀ y H', (ItES x).yld i H y H' → g y σ H' fun σ2 H2 => tb { D with nx := N, ct := N, bk := D.nx } σ2 H2) := by
  refine ⟨fun i m σ H => m = x.cps.size - i ∧ i ≤ x.cps.size ∧ Pv i σ H, ⟨x.cps.size, by simp, Nat.zero_le _, h0⟩, ?_⟩
  rintro i m σ H ⟨rfl, hi, p⟩
  by_cases hlt : i < x.cps.size
  · refine .inr ⟨hlt, Pv (i + 1), fun σ' H' p' => ⟨x.cps.size - (i + 1), by omega, rfl, hlt, p'⟩, fun y H' z => ?_⟩
    obtain ⟨T, c, rfl, hT, rfl, hc⟩ := z
    exact hs i c T σ _ hc p hT
  · have e : i = x.cps.size := by omega
    subst e
    exact .inl ⟨rfl, hd σ H p⟩
theorem lc_es {x : Str} {g : TG} {tt : TT} {te : TE} {vs : List Nat} {σ : L2.St} {H1 : Hp} {D : Addr} {Qd : Hp → Prop} (Pv : Nat → Hp → Prop) (h0 : Pv 0 (upd H1 D (.lst [])))
    (hs : ∀ i c T H, x.cps[i]? = some c → Pv i H → H T = none → g (.ref T) (wipe σ vs) (upd H T (.tup [.int (i : Nat), .str ⟨#[c]⟩])) fun σ2 H2 => wipe σ2 vs = wipe σ vs ∧ tt σ2 H2 fun b H3 =>
      if b = true then te σ2 H3 fun y H4 => ∃ acc, H4 D = some (.lst acc) ∧ acc.length < sizeLine ∧ Pv (i + 1) (upd H4 D (.lst (acc ++ [y]))) else Pv (i + 1) H3) (hd : ∀ H, Pv x.cps.size H → Qd H) :
    ∃ W : Nat → Nat → Hp → Prop, (∃ m, W 0 m (upd H1 D (.lst []))) ∧ ∀ i m H, W i m H →
      ((ItES x).stop i H ∧ Qd H) ∨ ((ItES x).go i H ∧ ∃ Nx : Hp → Prop, (∀ H', Nx H' → ∃ m', m' < m ∧ W (i + 1) m' H') ∧ ∀ y H', (ItES x).yld i H y H' → g y (wipe σ vs) H' fun σ2 H2 => wipe σ2 vs = wipe σ vs ∧ tt σ2 H2 fun b H3 =>
        if b = true then te σ2 H3 fun y H4 => ∃ acc, H4 D = some (.lst acc) ∧ acc.length < sizeLine ∧ Nx (upd H4 D (.lst (acc ++ [y]))) else Nx H3) := by
  refine ⟨fun i m H => m = x.cps.size - i ∧ i ≤ x.cps.size ∧ Pv i H, ⟨x.cps.size, by simp, Nat.zero_le _, h0⟩, ?_⟩
  rintro i m H ⟨rfl, hi, p⟩
  by_cases hlt : i < x.cps.size
  · refine .inr ⟨hlt, Pv (i + 1), fun H' p' => ⟨x.cps.size - (i + 1), by omega, rfl, hlt, p'⟩, fun y H' z => ?_⟩
    obtain ⟨T, c, rfl, hT, rfl, hc⟩ := z
    exact hs i c T _ hc p hT
  · have e : i = x.cps.size := by omega
    subst e
    exact .inl ⟨rfl, hd H p⟩
/-! ### a text backwards: some text, no longer -/
def tRevS (te : TE) : TE := fun σ H Q => te σ H fun x H1 => ∃ z : Str, x = .str z ∧ z.length ≤ sizeLine ∧ ∀ y : Str, y.length ≤ z.length → (∀ c ∈ y.cps.toList, c ∈ z.cps.toList) → Q (.str y) H1
theorem sliceBy_mem (x : Str) (l u : Option (Int × Tok)) (st : Int × Tok) : ∀ c ∈ (Txt.sliceBy x l u st).cps.toList, c ∈ x.cps.toList := by
  intro c hc
  unfold Txt.sliceBy at hc
  split at hc
  · exact hc
  · have hc : c ∈ List.filterMap (x.cps[·]?) _ := hc
    obtain ⟨i, _, hi⟩ := List.mem_filterMap.mp hc
    exact Array.mem_toList_iff.mpr (Array.mem_of_getElem? hi)
theorem pe_revS {X : Cx} {e : Expr} {te : TE} {k : Nat} {p1 p2 p3 pos : Pos} (he : PE X e te) : PE X (.Subscript e (.Slice none none (some (.UnaryOp .USub (.Constant (.int 1) k p1) p2)) p3) pos) (tRevS te) := by
  refine ⟨fun pins s σ H Q I h => ?_⟩
  refine Subscript_ (thn (he.run pins s σ H _ I h) fun v s1 ⟨x, H1, I1, r1, q1⟩ => ?_)
  obtain ⟨z, rfl, hz, q⟩ := q1
  obtain ⟨t, rfl⟩ := r1
  have hst : PO X (some (.UnaryOp .USub (.Constant (.int 1) k p1) p2)) (tPart (tUn (rU fun i => .int (-i)) (tC (.int 1)))) := po_some (pe_un un_neg pe_int)
  refine wpAny_Slice (thn (po_none.run pins s1 σ H1 (fun o H2 => o = none ∧ H2 = H1) I1 ⟨rfl, rfl⟩) fun vl s2 ⟨l, H2, I2, pl, el, e2⟩ => ?_)
  subst el e2
  refine thn (po_none.run pins s2 σ H2 (fun o H3 => o = none ∧ H3 = H2) I2 ⟨rfl, rfl⟩) fun vu s3 ⟨u, H3, I3, pu, eu, e3⟩ => ?_
  subst eu e3
  refine thn (hst.run pins s3 σ H3 (fun o H4 => o = some (-1) ∧ H4 = H3) I3 ⟨1, rfl, -1, rfl, rfl, rfl⟩) fun vs s4 ⟨o, H4, I4, ps, eo, e4⟩ => ?_
  subst eo e4
  cases pl
  cases pu
  cases ps with
  | int i t5 =>
    refine tail_any (ops := [.str z t, .ref s4.heap.objs.size]) (typeIs_str _ _ _) (PySem.F.slot_str_getitem.lookup) ?_ (by with_unfolding_all rfl)
    refine wpAny_getItem_str_slice (l := none) (u := none) (st := some (-1, t5)) ⟨_, Heap.get?_push_size _ rfl, rfl, rfl⟩ rfl ?_
    refine post_val_or_str ⟨Nat.le_trans (Txt.sliceBy_le z none none (-1, t5) (show (-1 : Int) ≠ 0 by decide)) hz, fun t6 tk => ?_⟩
    exact ⟨.str _, H4, (I4.kept (t' := tk) fun b ob q => Heap.get?_push_of_some _ q), ⟨_, rfl⟩, q _ (Txt.sliceBy_le z none none (-1, t5) (show (-1 : Int) ≠ 0 by decide)) (sliceBy_mem z none none (-1, t5))⟩
end Pf


namespace Pf
open PySem PySem.Spec PyProof.Rows L2
/-! ### enumerate of a tuple -/
abbrev EnO (a : Addr) : Obj := { cls := .type "enumerate", data := .fields #[.none, .bool false, .ref a, rawInt 0, .none, .none] }
theorem meets_en1 {u : Value} {ob : Obj} {G : Heap → Prop} (B : Begins u ob G) : Meets (Builtin.«enumerate.__new__» ⟨[.type "enumerate", u], []⟩) (fun _ R s => G s.heap ∧ R (.ok (.ret (.ref (s.heap.push ob).objs.size))) { s with heap := (s.heap.push ob).push (EnO s.heap.objs.size) }) :=
  .of_wp fun prog w A R s z => by
    obtain ⟨hp, g, d, tk, os⟩ := s
    obtain ⟨z1, z⟩ := z
    have hse := sub_enumerate
    have q : ∀ {A' : Around} {E : Value → Shared → Prop} {Q : Value → Shared → Prop}, Q (.ref hp.objs.size) ⟨hp.push ob, g, d, tk, os⟩ → wpAny (model prog w) A' (pyIter u) Q E ⟨hp, g, d, tk, os⟩ := fun r => B.iter prog w _ _ ⟨hp, g, d, tk, os⟩ _ z1 r
    wp_walk using q
    refine wpAny_stack_any fun sk => wpAny_pure ?_
    split
    · rename_i c _ _ _ _ _
      cases ec : (c == Value.type "enumerate")
      · wp_walk using q
        exact ⟨_, rfl, z⟩
      · wp_walk using q
        exact ⟨_, rfl, z⟩
    · wp_walk using q
      exact ⟨_, rfl, z⟩
theorem en1_begins {P : Program} {w : World} {A : Around} {E : Value → Shared → Prop} {s : Shared} {u : Value} {ob : Obj} {G : Heap → Prop} {Q : Value → Shared → Prop} (B : Begins u ob G) (z1 : G s.heap)
    (z : ∀ h', IsEnum h' (s.heap.objs.size + 1) s.heap.objs.size 0 .none → h'.get? s.heap.objs.size = some ob → h'.objs.size = s.heap.objs.size + 2 → (∀ b o, s.heap.get? b = some o → h'.get? b = some o) → Q (.ref (s.heap.objs.size + 1)) { s with heap := h' }) :
    wpAny (model P w) A (call (.type "enumerate") [u]) Q E s := by
  refine callType_new F.called_enumerate (by decide) (F.typeCall_enumerate_1 _) (F.newCall_enumerate_1 _) (fun obj => F.args_object_init_2 obj _) F.entry_enumerate_new (meets_en1 B) ⟨z1, ?_⟩
  have e1 : (s.heap.push ob).objs.size = s.heap.objs.size + 1 := Heap.size_push ..
  show _ ∧ _
  rw [e1]
  have hen : IsEnum ((s.heap.push ob).push (EnO s.heap.objs.size)) (s.heap.objs.size + 1) s.heap.objs.size 0 .none := by
    have := Heap.get?_push_size (s.heap.push ob) (o := EnO s.heap.objs.size) rfl
    rw [e1] at this
    exact this
  exact ⟨⟨_, hen, rfl⟩, z _ hen (Heap.get?_push_of_some _ (Heap.get?_push_size _ B.free)) (by rw [Heap.size_push, e1]) fun b o y => Heap.get?_push_of_some _ (Heap.get?_push_of_some _ y)⟩
def ItET (K : PySem.W.Frag) (a : Addr) : It :=
  ⟨fun i H => ∃ (xs : List V) (x : V), SqT K H a xs ∧ xs[i]? = some x, fun i H v H' => ∃ T x, v = .ref T ∧ H T = none ∧ H' = upd H T (.tup [.int (i : Nat), x]) ∧ ∀ xs, SqT K H a xs → xs[i]? = some x, fun i H => ∃ xs : List V, SqT K H a xs ∧ xs.length = i⟩
theorem turn_et {P : Program} {w : World} {K : PySem.W.Frag} {elts : List Expr} {kk : Nat} {tpos : Pos} (a e it : Addr) :
    Turn P w K (.Tuple elts kk tpos) (ItET K a) [e, it] e (fun i h => (∃ old, IsEnum h e it ((i : Nat) : Int) old) ∧ h.IsTupleIter it a i ∧ e ≠ it ∧ e ≠ a ∧ a ≠ it) where
  mem := by simp
  obj := fun i h st b hb => by
    obtain ⟨⟨old, he⟩, ⟨o, ho, hc, hd⟩, _⟩ := st
    have e' : b = e ∨ b = it := by simpa using hb
    cases e' with
    | inl z =>
      rw [z]
      exact ⟨_, he, fun v q => nomatch q⟩
    | inr z =>
      rw [z]
      exact ⟨o, ho, fun v q => by rw [hd] at q; cases q⟩
  keep := fun i h h' st k => by
    obtain ⟨⟨old, he⟩, ⟨o, ho, r⟩, hne⟩ := st
    exact ⟨⟨old, k e (by simp) _ he⟩, ⟨o, k it (by simp) o ho, r⟩, hne⟩
  item := by
    intro X hP hw hK hc i pins s σ H E I hf st hg
    subst hP hw hK
    obtain ⟨⟨old, he⟩, hit, hne, hea, hai⟩ := st
    obtain ⟨xs, x, hq, hx⟩ := hg
    obtain ⟨its, rv, pt, hz⟩ := I.tuple hq
    obtain ⟨u, hu, ru⟩ := rv.get hx
    have hel : e < s.heap.objs.size := Heap.lt_size he
    have hil : it < s.heap.objs.size := by
      obtain ⟨_, q, _⟩ := hit
      exact Heap.lt_size q
    have hti : s.heap.IsTuple a its.toArray := pt
    have D := Draws.tuple (prog := X.prog) (w := X.w) (A := X.A.in1) (show X.A.in1.handled = none from I.ok.hd hc) it a hai its.toArray
    refine wpAny_pyNext_enum_itemD D he ⟨hit, hti⟩ (by have := (List.getElem?_eq_some_iff.mp hu).1; simpa using this) hne (by simp [hne, hea]) fun y h' tk hy ho hit' hT hsz hk => ?_
    have ey : y = u := by
      have h2 : its[i]? = some y := by simpa using hy
      rw [hu] at h2
      exact (Option.some.inj h2).symm
    subst ey
    refine ⟨_, rfl, wpAny_letOwnedTupleGo_enum (s := { s with heap := h', toks := tk + 1 }) ho fun h'' he' sb => ?_⟩
    have hT2 := (sb.2 _ (Nat.ne_of_gt hel)).trans hT
    have new : ObjOk X.prog X.w (upd H s.heap.objs.size (.tup [.int (i : Nat), x])) h'' s.heap.objs.size (.tup [.int (i : Nat), x]) :=
      ⟨by show 2 ≤ sizeLine; decide, [.int i tk, y], .cons ⟨_, rfl⟩ (.cons ru .nil), ⟨_, hT2, rfl, _, rfl⟩⟩
    have I1 : Inv X pins σ (upd H s.heap.objs.size (.tup [.int (i : Nat), x])) { s with heap := h'', toks := tk + 1 } :=
      I.turnedNew (ch := [e, it]) (fun b ob hb q => (sb.2 b (fun z => hb (by simp [z]))).trans (hk b ob (fun z => hb (by simp [z])) (fun z => hb (by simp [z])) q)) hf (Nat.le_refl _) new
    obtain ⟨oi, hoi, ri⟩ := hit'.1
    refine ⟨.ref s.heap.objs.size, _, I1, rfl, ⟨_, x, rfl, I.hok.fresh (Nat.le_refl _), rfl, fun ys hy => by rw [I.tuple_inj hy hq]; exact hx⟩, ⟨⟨y, ?_⟩, ⟨oi, (sb.2 it (Ne.symm hne)).trans hoi, ri⟩, hne, hea, hai⟩, fun b hb => ?_⟩
    · have e1 : ((i + 1 : Nat) : Int) = (i : Int) + 1 := by omega
      rw [e1]
      exact he'
    · have hb' : b < s.heap.objs.size := by
        have e' : b = e ∨ b = it := by simpa using hb
        cases e' with
        | inl z => rw [z]; exact hel
        | inr z => rw [z]; exact hil
      rw [upd_ne (Nat.ne_of_lt hb')]
      exact (hf b hb).1
  done := by
    intro X hP hw hK hc i pins s σ H E I hf st hg
    subst hP hw hK
    obtain ⟨⟨old, he⟩, hit, hne, hea, hai⟩ := st
    obtain ⟨xs, hq, hx⟩ := hg
    obtain ⟨its, rv, pt, hz⟩ := I.tuple hq
    have hln := rv.length
    obtain ⟨f0, f1, f2, f3, f4, f5⟩ := hf it (by simp)
    have hti : s.heap.IsTuple a its.toArray := pt
    have D := Draws.tuple (prog := X.prog) (w := X.w) (A := X.A.in1) (show X.A.in1.handled = none from I.ok.hd hc) it a hai its.toArray
    have ei : its.toArray.size = i := by
      rw [List.size_toArray]
      omega
    exact wpAny_pyNext_enum_endD D he ⟨by rw [ei]; exact hit, hti⟩ fun h' eb => ⟨rfl, I.turned (t' := s.toks) (fun b o hb q => eb b o hb q) f0 f1 f3 f4 f5⟩
  self := fun A i s Q E st h => by
    obtain ⟨⟨_, he⟩, _⟩ := st
    exact wpAny_pyIter_enum he h
def iEnumT (K : PySem.W.Frag) (ta : TA) : TI := fun σ H R => ta σ H fun vs H1 => ∃ a xs, vs = [.ref a] ∧ SqT K H1 a xs ∧ R (ItET K a) H1
theorem pi_enumT {X : Cx} {e : Expr} {ta : TA} {p pos tpos : Pos} {elts : List Expr} {kk : Nat} (hg : Gl X "enumerate") (hm : X.mg "enumerate" = none) (ha : PA X [e] ta) (hs : starEach [e] X.env = [(false, eval e X.env)] := by rfl) :
    PI X (.Tuple elts kk tpos) (.Call (.Name "enumerate" p) [e] [] pos) (iEnumT X.K ta) := by
  refine ⟨fun pins s σ H R I h => ?_⟩
  refine Call_ (ld_blt I hg hm boot_enumerate (PyProof.Rows.callWith_type1 (thn (ha.run pos pins s σ H _ I h) fun us s1 ⟨vs, H1, I1, r1, q1⟩ => ?_) hs rfl))
  obtain ⟨a, xs, rfl, hq, q⟩ := q1
  obtain ⟨u, rfl, er⟩ := vals1 r1
  cases er
  obtain ⟨its, rv, pt, hz⟩ := I1.tuple hq
  have hti : s1.heap.IsTuple a its.toArray := pt
  have hal : a < s1.heap.objs.size := by
    obtain ⟨_, q, _⟩ := hti
    exact Heap.lt_size q
  refine en1_begins (begins_tuple a its.toArray) hti fun h' he hit hsz hk => wpAny_pyIter_enum he ?_
  refine ⟨s1.heap.objs.size + 1, [s1.heap.objs.size + 1, s1.heap.objs.size], _, _, H1, rfl, I1.kept (t' := s1.toks) hk, turn_et a (s1.heap.objs.size + 1) s1.heap.objs.size, ⟨⟨.none, he⟩, ⟨_, hit, rfl, rfl⟩, Nat.succ_ne_self _, Nat.ne_of_gt (Nat.lt_succ_of_lt hal), Nat.ne_of_lt hal⟩, fun b hb => ?_, q⟩
  have e' : b = s1.heap.objs.size + 1 ∨ b = s1.heap.objs.size := by simpa using hb
  have hle : s1.heap.objs.size ≤ b := by
    cases e' with
    | inl z => rw [z]; exact Nat.le_add_right _ _
    | inr z => rw [z]; exact Nat.le_refl _
  exact I1.fpOk hle (I1.hok.fresh hle)
theorem walk_et {K : PySem.W.Frag} {a : Addr} {xs : List V} : Walk (ItET K a) xs.length (fun H => SqT K H a xs) (YPair (fun i => some (.int (i : Nat))) (fun i => xs[i]?)) :=
  ⟨fun i H hi q => ⟨xs, _, q, List.getElem?_eq_getElem hi⟩, fun H q => ⟨xs, q, rfl⟩, fun i H x H' hi q ⟨T, y, e1, e2, e3, e4⟩ => ⟨T, _, y, e1, e2, e3, rfl, e4 xs q⟩⟩
theorem walk_zt {K : PySem.W.Frag} {a b : Addr} {xs ys : List V} {n : Nat} (hn : n = min xs.length ys.length) : Walk (RZ.ItzT K a b) n (fun H => SqT K H a xs ∧ SqT K H b ys) (YPair (fun i => xs[i]?) (fun i => ys[i]?)) := by
  subst hn
  refine ⟨fun i H hi q => ⟨xs, ys, _, _, q.1, q.2, List.getElem?_eq_getElem (by omega), List.getElem?_eq_getElem (by omega)⟩, fun H q => ⟨xs, ys, q.1, q.2, by omega⟩, fun i H x H' hi q ⟨T, y, z, e1, e2, e3, e4, e5⟩ => ⟨T, y, z, e1, e2, e3, e4 xs q.1, e5 ys q.2⟩⟩
/-! ### two fors in a comprehension -/
def LcIn (J1 : It) (g1 : TG) (tt1 : TT) (te : TE) (vs1 : List Nat) (σ2 : L2.St) (D : Addr) (H4 : Hp) (Nx : Hp → Prop) : Prop := ∃ W1 : Nat → Nat → Hp → Prop, (∃ m, W1 0 m H4) ∧ ∀ j k H, W1 j k H →
  (J1.stop j H ∧ Nx H) ∨ (J1.go j H ∧ ∃ Nx1 : Hp → Prop, (∀ H', Nx1 H' → ∃ k', k' < k ∧ W1 (j + 1) k' H') ∧ ∀ x H', J1.yld j H x H' → g1 x (wipe σ2 vs1) H' fun σ3 H5 => wipe σ3 vs1 = wipe σ2 vs1 ∧ tt1 σ3 H5 fun b H6 => if b = true then te σ3 H6 fun y H7 => ∃ acc, H7 D = some (.lst acc) ∧ acc.length < sizeLine ∧ Nx1 (upd H7 D (.lst (acc ++ [y]))) else Nx1 H6)
theorem lc_in {J1 : It} {n : Nat} {G : Hp → Prop} {Y : Nat → Hp → V → Hp → Prop} (w : Walk J1 n G Y) {g1 : TG} {tt1 : TT} {te : TE} {vs1 : List Nat} {σ2 : L2.St} {D : Addr} {H4 : Hp} {Nx : Hp → Prop} (Pv : Nat → Hp → Prop) (h0 : Pv 0 H4) (hG : ∀ i H, i ≤ n → Pv i H → G H)
    (hs : ∀ i x H H', i < n → Pv i H → Y i H x H' → g1 x (wipe σ2 vs1) H' fun σ3 H5 => wipe σ3 vs1 = wipe σ2 vs1 ∧ tt1 σ3 H5 fun b H6 => if b = true then te σ3 H6 fun y H7 => ∃ acc, H7 D = some (.lst acc) ∧ acc.length < sizeLine ∧ Pv (i + 1) (upd H7 D (.lst (acc ++ [y]))) else Pv (i + 1) H6)
    (hd : ∀ H, Pv n H → Nx H) : LcIn J1 g1 tt1 te vs1 σ2 D H4 Nx := by
  refine ⟨fun i m H => m = n - i ∧ i ≤ n ∧ Pv i H, ⟨n, rfl, Nat.zero_le _, h0⟩, ?_⟩
  rintro i m H ⟨rfl, hi, pv⟩
  have hq := hG i H hi pv
  by_cases hlt : i < n
  · exact .inr ⟨w.goes i H hlt hq, Pv (i + 1), fun H' p' => ⟨n - (i + 1), by omega, rfl, hlt, p'⟩, fun x H' y => hs i x H H' hlt pv (w.yields i H x H' hlt hq y)⟩
  · obtain rfl : i = n := by omega
    exact .inl ⟨w.stops H hq, hd H pv⟩
theorem lc_two {J : It} {n : Nat} {G : Hp → Prop} {Y : Nat → Hp → V → Hp → Prop} (w : Walk J n G Y) {g : TG} {tt : TT} {wi1 : TI} {g1 : TG} {tt1 : TT} {te : TE} {vs vs1 : List Nat} {σ : L2.St} {H1 : Hp} {D : Addr} {Qd : Hp → Prop} (Pv : Nat → Hp → Prop) (h0 : Pv 0 (upd H1 D (.lst []))) (hG : ∀ i H, i ≤ n → Pv i H → G H)
    (hs : ∀ i x H H', i < n → Pv i H → Y i H x H' → g x (wipe σ vs) H' fun σ2 H2 => wipe σ2 vs = wipe σ vs ∧ tt σ2 H2 fun b H3 => if b = true then wi1 σ2 H3 fun J1 H4 => LcIn J1 g1 tt1 te vs1 σ2 D H4 (Pv (i + 1)) else Pv (i + 1) H3)
    (hd : ∀ H, Pv n H → Qd H) :
    ∃ W : Nat → Nat → Hp → Prop, (∃ m, W 0 m (upd H1 D (.lst []))) ∧ ∀ i m H, W i m H → (J.stop i H ∧ Qd H) ∨ (J.go i H ∧ ∃ Nx : Hp → Prop, (∀ H', Nx H' → ∃ m', m' < m ∧ W (i + 1) m' H') ∧ ∀ x H', J.yld i H x H' → g x (wipe σ vs) H' fun σ2 H2 => wipe σ2 vs = wipe σ vs ∧ tt σ2 H2 fun b H3 =>
      if b = true then wi1 σ2 H3 fun J1 H4 => LcIn J1 g1 tt1 te vs1 σ2 D H4 Nx else Nx H3) := by
  refine ⟨fun i m H => m = n - i ∧ i ≤ n ∧ Pv i H, ⟨n, rfl, Nat.zero_le _, h0⟩, ?_⟩
  rintro i m H ⟨rfl, hi, pv⟩
  have hq := hG i H hi pv
  by_cases hlt : i < n
  · exact .inr ⟨w.goes i H hlt hq, Pv (i + 1), fun H' p' => ⟨n - (i + 1), by omega, rfl, hlt, p'⟩, fun x H' y => hs i x H H' hlt pv (w.yields i H x H' hlt hq y)⟩
  · obtain rfl : i = n := by omega
    exact .inl ⟨w.stops H hq, hd H pv⟩
/-! ### tuples of numbers compared; truths by identity -/
theorem ltT (K : PySem.W.Frag) {X : Cx} (hu : X.A.units < cLine) (h : X.K = K := by rfl) : OpR X (compareOp .Lt) (rLtT K) := h ▸ op_ltT hu
theorem lex2 (a b c d : Int) : HT.lexLt [a, b] [c, d] = decide (a < c ∨ (a = c ∧ b < d)) := by
  rw [HT.lexLt_cons, HT.lexLt_cons, HT.lexLt_nil_nil]
  by_cases e : a = c
  · rw [if_pos e]
    by_cases e2 : b = d
    · rw [if_pos e2]
      exact (decide_eq_false (by omega)).symm
    · rw [if_neg e2]
      exact decide_eq_decide.mpr (by omega)
  · rw [if_neg e]
    exact decide_eq_decide.mpr (by omega)
/-! ### parts of tuples -/
theorem piT (K : PySem.W.Frag) {X : Cx} {tg l : Expr} {tl : TE} (hl : PE X l tl) (h : X.K = K := by rfl) : PI X tg l (iTup K tl) := by
  subst h
  exact pi_tup hl
theorem piL (K : PySem.W.Frag) {X : Cx} {tg l : Expr} {tl : TE} (hl : PE X l tl) (h : X.K = K := by rfl) : PI X tg l (iList K tl) := by
  subst h
  exact pi_list hl
/-- a part of a tuple: the same one, or another -/
def rSlE (K : PySem.W.Frag) : V → Option Int → Option Int → Hp → VK → Prop := fun x lo hi H Q => ∃ a xs, x = .ref a ∧ H a = some (.tup xs) ∧ ∀ p H', Ext H H' → H' p = some (.tup (cutV xs lo hi)) → Q (.ref p) H'
theorem slE (K : PySem.W.Frag) {X : Cx} (h : X.K = K := by rfl) : SlR X (rSlE K) := fun pins s σ H x v vl vu lo hi sl Q I rx hs pl pu ⟨a, xs, ex, ha, q⟩ => by
  refine slA K h pins s σ H x v vl vu lo hi sl Q I rx hs pl pu ⟨a, xs, ex, SqT.of ha, fun z => ?_, fun _ p hp => q p _ (Ext.new hp) upd_same⟩
  refine q a H Ext.refl ?_
  have e : cutV xs lo hi = xs := by
    unfold cutV
    rw [z.1, z.2, List.drop_zero, Nat.sub_zero, List.take_length]
  rw [e]
  exact ha
theorem cut_from {xs : List V} {k : Nat} : cutV xs (some (k : Int)) none = xs.drop k := by
  unfold cutV
  have e1 : HT.sIx xs.length 0 (some (k : Int)) = min k xs.length := HT.sIx_nat _ _ _
  have e2 : HT.sIx xs.length xs.length none = xs.length := rfl
  rw [e1, e2, List.take_of_length_le (by rw [List.length_drop]; omega)]
  by_cases h : k ≤ xs.length
  · rw [Nat.min_eq_left h]
  · rw [Nat.min_eq_right (by omega), List.drop_length, List.drop_eq_nil_of_le (by omega)]
theorem cut_to {xs : List V} {k : Nat} : cutV xs none (some (k : Int)) = xs.take k := by
  unfold cutV
  have e1 : HT.sIx xs.length 0 none = 0 := rfl
  have e2 : HT.sIx xs.length xs.length (some (k : Int)) = min k xs.length := HT.sIx_nat _ _ _
  rw [e1, e2, List.drop_zero, Nat.sub_zero]
  by_cases h : k ≤ xs.length
  · rw [Nat.min_eq_left h]
  · rw [Nat.min_eq_right (by omega), List.take_length, List.take_of_length_le (by omega)]
theorem paired_take {α β : Type} {R : α → β → Prop} : ∀ {xs : List α} {ys : List β} (k : Nat), Paired R xs ys → Paired R (xs.take k) (ys.take k)
  | _, _, 0, _ => by rw [List.take_zero, List.take_zero]; exact .nil
  | _, _, k + 1, .nil => by rw [List.take_nil, List.take_nil]; exact .nil
  | _, _, k + 1, .cons r t => by rw [List.take_succ_cons, List.take_succ_cons]; exact .cons r (paired_take k t)
theorem paired_drop {α β : Type} {R : α → β → Prop} : ∀ {xs : List α} {ys : List β} (k : Nat), Paired R xs ys → Paired R (xs.drop k) (ys.drop k)
  | _, _, 0, h => by rw [List.drop_zero, List.drop_zero]; exact h
  | _, _, k + 1, .nil => by rw [List.drop_nil, List.drop_nil]; exact .nil
  | _, _, k + 1, .cons r t => by rw [List.drop_succ_cons, List.drop_succ_cons]; exact paired_drop k t
/-- two tuples put together: one of them, or another -/
def rCatE (K : PySem.W.Frag) : R2 := fun x y H Q => ∃ a b xs ys, x = .ref a ∧ y = .ref b ∧ H a = some (.tup xs) ∧ H b = some (.tup ys) ∧ xs.length + ys.length ≤ sizeLine ∧ ∀ p H', Ext H H' → H' p = some (.tup (xs ++ ys)) → Q (.ref p) H'
theorem catE (K : PySem.W.Frag) {X : Cx} (h : X.K = K := by rfl) : OpR X (binaryOp .Add) (rCatE K) := fun pins s σ H x y v u Q I rx ry ⟨a, b, xs, ys, ex, ey, ha, hb, hz, q⟩ => by
  refine catA K h pins s σ H x y v u Q I rx ry ⟨a, b, xs, ys, ex, ey, SqT.of ha, SqT.of hb, hz, fun z => ?_, fun _ z => ?_, fun _ _ p hp => q p _ (Ext.new hp) upd_same⟩
  · exact q b H Ext.refl (by rw [z]; exact hb)
  · exact q a H Ext.refl (by rw [z, List.append_nil]; exact ha)
end Pf


namespace Pf
open PySem PySem.Spec PyProof.Rows L2
/-! ### sorting tuples, the first of them empty -/
section
open PySem.W PySem.SeqAt PySem.Calls
variable {prog : Program} {w : World} {A : Around} {E : Value → Shared → Prop} {s : Shared}
theorem tup_lt1 {Q : Bool → Shared → Prop} {a b : Value} {xs ys : List PyData} {as bs : List Addr} (ra : Reads s.heap a (.tuple xs) as) (rb : Reads s.heap b (.tuple ys) bs) (hal : alikeAll xs ys = true)
    (hu : A.units + min (PyData.tuple xs).depth (PyData.tuple ys).depth < cLine) (hq : Q (dataLt (.tuple xs) (.tuple ys)) s) : wpAny (model prog w) A (oneLt' true a b) Q E s := by
  cases ra with
  | @tuple l o vs n _ as₁ h1 h2 h3 h4 =>
    cases rb with
    | @tuple m p ws k _ bs₁ g1 g2 g3 g4 =>
      have z1 : vs.size = xs.length := by simpa using ReadsAll.length _ _ _ h4
      have z2 : ws.size = ys.length := by simpa using ReadsAll.length _ _ _ g4
      rw [dataLt_tuple, ← firstLt_toks xs ys hal, ← z1, ← z2] at hq
      obtain ⟨ocls, odd, odata, osl⟩ := o
      obtain ⟨pcls, pdd, pdata, psl⟩ := p
      simp only at h2 h3 g2 g3
      subst h2 h3 g2 g3
      rw [oneLt'_eq]
      simp only [if_true]
      refine wpAny_bind (wpAny_cRoomFor (room_here hu) (wpAny_bind (wpAny_callSpecialIfBound?_slot (T := "tuple") ⟨_, h1, rfl⟩ F.slot_tuple_lt ?_)))
      refine call_meets F.slot_tuple_lt ⟨_, h1, rfl⟩ F.entry_tuple_lt (F.args_tuple_lt_2 _ _) (tuple_ltAt l m vs ws n k odd pdd osl psl (pairEq xs ys) (fun j => dataLt (xs.getD j .none) (ys.getD j .none))) ⟨h1, g1, fun j j1 j2 => ?_, fun j j1 j2 hj => ?_, wpAny_truthy_bool hq⟩
      · have y := eqAt_alikeAll xs ys A.in1 s vs.toList ws.toList _ _ h4 g4 hal (room_in hu) j (by simpa using j1) (by simpa using j2)
        simpa using y
      · have y := rcLt_alikeAll xs ys A.in1 s vs.toList ws.toList _ _ h4 g4 hal (room_in hu) j (by simpa using j1) (by simpa using j2) hj
        simpa using y
theorem ft_at {M : Model} {v : Value} {ds : List PyData} {as : List Addr} (r : Reads s.heap v (.tuple ds) as) : ∃ f : Option Value, (ds = [] → f = none) ∧ ∀ Q : Option Value → Shared → Prop, Q f s → wpAny M A (firstOfTuple' v) Q E s := by
  cases r with
  | @tuple a o xs n _ _ ho hc hd hr =>
    refine ⟨xs[0]?, fun e => ?_, fun Q q => ?_⟩
    · subst e
      cases q : xs.toList with
      | nil =>
        rw [← Array.getElem?_toList, q]
        rfl
      | cons f fr =>
        rw [q] at hr
        cases hr
    · rw [kas_first_eq]
      refine wpAny_bind (Looks.here (show Looks M s.heap (typeOf (.ref a)) o.cls from (Looks.ld ho).andThen .now) ?_)
      rw [hc, if_neg (by simp)]
      exact wpAny_bind (listItems_at ho hd (wpAny_pure q))
theorem fts_at {M : Model} : ∀ {vs : List Value} {ds : List PyData}, EachIs (fun v d => ∃ as, Reads s.heap v d as) vs ds → (∀ d ∈ ds, ∃ xs, d = .tuple xs) → ∃ fs : List (Option Value), (∀ r, ds = .tuple [] :: r → ∃ t, fs = none :: t) ∧ ∀ Q : List (Option Value) → Shared → Prop, Q fs s → wpAny M A (vs.mapM firstOfTuple') Q E s
  | _, _, .nil, _ => ⟨[], (fun r z => by cases z), fun Q q => by rw [List.mapM_nil]; exact wpAny_pure q⟩
  | _, _, .cons (b := d) ⟨as, r⟩ t, ht => by
    obtain ⟨fs, _, h2⟩ := fts_at (M := M) t fun d hd => ht d (List.mem_cons_of_mem _ hd)
    obtain ⟨xs, rfl⟩ := ht d (List.mem_cons_self ..)
    obtain ⟨f, e1, e2⟩ := ft_at (M := M) (A := A) (E := E) r
    refine ⟨f :: fs, fun r z => ⟨fs, ?_⟩, fun Q q => ?_⟩
    · injection z with z _
      injection z with z
      rw [e1 z]
    · rw [List.mapM_cons]
      exact wpAny_bind (e2 _ (wpAny_bind (h2 _ (wpAny_pure q))))
theorem kind_empt {M : Model} {vs : List Value} {ds : List PyData} {Q : SortKind → Shared → Prop} (e : EachIs (fun v d => ∃ as, Reads s.heap v d as) vs (.tuple [] :: ds)) (ht : ∀ d ∈ PyData.tuple [] :: ds, ∃ xs, d = .tuple xs) (q : Q oneType' s) : wpAny M A (keyKind' vs.toArray) Q E s := by
  obtain ⟨fs, h1, h2⟩ := fts_at (M := M) (A := A) (E := E) e ht
  obtain ⟨t, rfl⟩ := h1 ds rfl
  obtain ⟨v0, vr, rfl⟩ : ∃ v0 vr, vs = v0 :: vr := by
    cases e with
    | cons z zs => exact ⟨_, _, rfl⟩
  rw [keyKind'_eq, List.mapM_toArray, map_eq_pure_bind]
  refine wpAny_bind (wpAny_bind (h2 _ (wpAny_pure ?_)))
  rw [if_neg (by simp), if_neg (by simp), oneTypeOnly'_eq, List.mapM_toArray, map_eq_pure_bind]
  refine wpAny_bind (wpAny_bind (wpAny_bind (kas_mapM (r := Value.type "tuple") _ (fun v hv Q' hq => ?_) (wpAny_pure ?_))))
  · obtain ⟨d, hd, as, r⟩ := e.left v hv
    obtain ⟨xs, rfl⟩ := ht d hd
    exact (looks_reads r).here hq
  · have h0 : (List.map (fun _ => Value.type "tuple") (v0 :: vr)).toArray[0]? = some (Value.type "tuple") := by simp
    rw [h0]
    have ha : ((List.map (fun _ : Value => Value.type "tuple") (v0 :: vr)).toArray.all fun x => x == Value.type "tuple") = true := by
      simp only [List.all_toArray, List.all_map, List.all_eq_true]
      intro _ _
      rfl
    simp only [ha, if_true]
    exact wpAny_pure (wpAny_pure q)
theorem sorts_empt {vs : List Value} {ds : List PyData} (e : EachIs (fun v d => ∃ as, Reads s.heap v d as) vs (.tuple [] :: ds)) (hal : AllAlike (.tuple [] :: ds)) (ht : ∀ d ∈ PyData.tuple [] :: ds, ∃ xs, d = .tuple xs) (hu : ∀ d ∈ PyData.tuple [] :: ds, A.units + d.depth < cLine) : SortsAt prog w A s (dataKind s.heap (.tuple [] :: ds)) vs := by
  refine ⟨fun v hv => ?_, oneType', ?_, fun h2 E Q hq => kind_empt e ht hq⟩
  · obtain ⟨d, hd, as, r⟩ := e.left v hv
    exact ⟨_, dataKind_some hal hd r⟩
  · intro E x y a b Q ha hb hq
    obtain ⟨d, as, hd, ra, rfl⟩ := dataKind_inv ha
    obtain ⟨d', as', hd', rb, rfl⟩ := dataKind_inv hb
    have hdd := hal d hd d' hd'
    have hroom : A.units + min d.depth d'.depth < cLine := Nat.lt_of_le_of_lt (Nat.add_le_add_left (Nat.min_le_left _ _) _) (hu d hd)
    obtain ⟨xs, rfl⟩ := ht d hd
    obtain ⟨ys, rfl⟩ := ht d' hd'
    rw [keyLt'_oneType]
    exact tup_lt1 ra rb (by simpa [alike] using hdd) hroom hq
theorem sorted_empt {β : Type} {vs : List Value} {bs : List β} {enc : β → PyData} {R : Value → β → Prop} {l : Addr} {r : List PyData} {Q : Value → Shared → Prop} (hl : s.heap.IsList l vs.toArray) (e : EachIs R vs bs) (er : EachIs (fun v b => ∃ as, Reads s.heap v (enc b) as) vs bs) (hal : AllAlike (bs.map enc)) (h0 : bs.map enc = .tuple [] :: r) (ht : ∀ d ∈ bs.map enc, ∃ xs, d = .tuple xs) (hL : bs.length ≤ sizeLine)
    (hu : ∀ b, b ∈ bs → A.units + 2 + (enc b).depth < cLine) (h : ∀ out, out.length = bs.length → EachIs R out (bs.mergeSort (dataLe false enc)) → Q (.ref (s.heap.objs.size + 1)) { s with heap := sortedAll s.heap vs (List.toArray out) }) :
    wpAny (model prog w) A (call (.builtin "sorted") [.ref l]) Q E s := by
  have er2 : EachIs (fun v b => ∃ as, Reads (sortingHeap (copyHeap s.heap vs) (s.heap.objs.size + 1) vs) v (enc b) as) vs bs := er.mono fun _ _ ⟨as, z⟩ => ⟨as, PyProof.Rows.Reads.keeps (fun _ _ => sorting_copy_old) z⟩
  have em := each_map (R := fun v d => ∃ as, Reads (sortingHeap (copyHeap s.heap vs) (s.heap.objs.size + 1) vs) v d as) enc er2
  have bm := bound_map (A := A.in1.in1) (bs := bs) (enc := enc) hu
  have S : SortsAt prog w A.in1.in1 { s with heap := sortingHeap (copyHeap s.heap vs) (s.heap.objs.size + 1) vs } (dataKind (sortingHeap (copyHeap s.heap vs) (s.heap.objs.size + 1) vs) (bs.map enc)) vs := by
    rw [h0] at em bm ht hal ⊢
    exact sorts_empt (s := { s with heap := sortingHeap (copyHeap s.heap vs) (s.heap.objs.size + 1) vs }) em hal ht bm
  exact sorted_vals hl S (by rw [e.length]; exact hL) (h _ (by rw [sortVals_length false rfl]; exact e.length) (sortVals_data false e er2 hal))
end
/-- sorted of tuples, the first of them empty -/
def rSortE (K : PySem.W.Frag) : List V → Hp → VK → Prop := fun vs H Q => ∃ (β : Type) (v : β → V) (d : β → PyData) (a : Addr) (bs : List β) (r : List PyData), vs = [.ref a] ∧ SqL K H a (bs.map v) ∧ (∀ b ∈ bs, Dp K H (v b) (d b) ∧ (d b).depth ≤ 50) ∧
  PySem.W.AllAlike (bs.map d) ∧ bs.map d = .tuple [] :: r ∧ (∀ e ∈ bs.map d, ∃ xs, e = .tuple xs) ∧ ∀ p, H p = none → Q (.ref p) (upd H p (.lst ((bs.mergeSort (PySem.W.dataLe false d)).map v)))
theorem cr_sortE (K : PySem.W.Frag) {X : Cx} (hu : X.A.units + 64 < cLine) (hK : X.K = K := by rfl) : CallR X (.builtin "sorted") (rSortE K) := by
  subst hK
  intro pins s σ H vs us Q I r h
  obtain ⟨β, v, d, a, bs, rd, rfl, hs, hd, al, h0, ht, q⟩ := h
  obtain ⟨u, rfl, rfl⟩ := vals1 r
  obtain ⟨its, rv, hl, hz⟩ := I.list hs
  rw [List.length_map] at hz
  refine sorted_empt (enc := d) (R := fun (u : Value) (b : β) => RelV (v b) u) hl.isList (each_vals rv) (each_reads I rv fun b hb => (hd b hb).1) al h0 ht hz (fun b hb => ?_) fun out hlen he => ?_
  · have := (hd b hb).2
    omega
  · obtain ⟨ep, he'⟩ := PyProof.Rows.sortedAll_at s.heap its out.toArray
    have hlen2 : ((bs.mergeSort (PySem.W.dataLe false d)).map v).length ≤ sizeLine := by
      rw [List.length_map, List.length_mergeSort]
      exact hz
    exact ⟨.ref _, upd H (s.heap.objs.size + 1) (.lst ((bs.mergeSort (PySem.W.dataLe false d)).map v)), I.laid (t' := s.toks) (fun _ _ => PyProof.Rows.sortedAll_old) (Nat.le_succ _) ⟨hlen2, out, ep, vals_each he, by simpa using he'⟩, rfl, q _ (I.hok.fresh (Nat.le_succ _))⟩
end Pf


namespace Pf
open PySem PySem.Spec PyProof.Rows L2
/-! ### a dict by tuples, made in a comprehension -/
theorem dset_t {X : Cx} {pins : List (Addr × Obj)} {σ : L2.St} {H : Hp} {s : Shared} {E : Value → Shared → Prop} {D b : Addr} {kvs : List (List Key × V)} {ks : List Key} {z : V} {u : Value} {Q : Unit → Shared → Prop} (hu : X.A.units < cLine) (I : Inv X pins σ H s) (hD : H D = some (.dT kvs)) (hb : H b = some (.tup (ks.map kV))) (hz : kvs.length < sizeLine)
    (rz : RelV z u) (go : ∀ s', Inv X pins σ (upd H D (.dT (putK kvs ks z))) s' → Q () s') : wpAny (model X.prog X.w) X.A (dictSet D (.ref b) u) Q E s := by
  obtain ⟨len, nsys, xs, rel, dd⟩ := dt_of I.hok hD
  have lx : xs.length ≤ sizeLine := Paired.length rel ▸ len
  have lp := length_putK kvs ks z
  refine wpAny_dictSet_heap (hsz := lx) (show (tupleKind (mixKind X.prog X.w)).room X.A from hu) (key_of I.hok hb) dd fun h' dd' same => go _ ?_
  obtain ⟨ob, es, ep, e1, e2, e3, e4, _, e5⟩ := dd'
  have stays : ∀ c ys, H c = some (.tup ys) → (upd H D (.dT (putK kvs ks z))) c = some (.tup ys) := fun c ys ec => by
    rw [upd_ne (ne_of ec hD (by intro y; cases y))]
    exact ec
  exact d_write I (by rw [hD]; exact True.intro) same ⟨ob, e1⟩ ⟨by omega, nsys, _, (rel.put ks hb rz).keeps stays, ob, es, ep, e1, e2, e3, e4, e5⟩
/-- what is asked of a turn's key and value -/
def PutT (D : Addr) (y z : V) (H : Hp) (N : Hp → Prop) : Prop := ∃ kvs ks b, y = .ref b ∧ H b = some (.tup (ks.map kV)) ∧ H D = some (.dT kvs) ∧ kvs.length < sizeLine ∧ N (upd H D (.dT (putK kvs ks z)))
def tDcT (wi : TI) (g : TG) (tk tv : TE) (vs : List Nat) : TE := fun σ H Q => wi σ H fun J H1 => ∀ D, H1 D = none → ∃ W : Nat → Nat → Hp → Prop, (∃ m, W 0 m (upd H1 D (.dT []))) ∧ ∀ i m H, W i m H →
  (J.stop i H ∧ Q (.ref D) H) ∨ (J.go i H ∧ ∃ Nx : Hp → Prop, (∀ H', Nx H' → ∃ m', m' < m ∧ W (i + 1) m' H') ∧ ∀ x H', J.yld i H x H' → g x (wipe σ vs) H' fun σ2 H2 => wipe σ2 vs = wipe σ vs ∧ tk σ2 H2 fun y H3 => tv σ2 H3 fun z H4 => PutT D y z H4 Nx)
/-- the block's context is free of what the walk itself holds -/
theorem blk_free {X : Cx} {s : Shared} {H : Hp} {scope : Scope} {ce : Env} {fp : List Addr} {σ' : L2.St} {H' : Hp} {s' : Shared} (J : Inv (X.blk s H scope ce fp) [] σ' H' s') (nn : ∀ b ∈ fp, H' b = none) : ∀ b ∈ fp, FpOk (X.blk s H scope ce fp) [] H' b := fun b hb =>
  ⟨nn b hb, (J.ok.exf b hb).1, J.ok.exfs b hb, .inl hb, fun x c e => (J.ok.exf b hb).2 x c e, fun p hp => by
    have hp : p ∈ ([] : List (Addr × Obj)) ++ [] := hp
    cases hp⟩
/-- a turn is over: the block again as it began, but for the heap -/
theorem blk_turn {X Y : Cx} {fp : List Addr} {it : Addr} {tg : Expr} {J : It} {tn : Nat → Heap → Prop} {P : Program} {w : World} {K : PySem.W.Frag} (T : Turn P w K tg J fp it tn) {i : Nat} {h7 : Heap} (st : tn (i + 1) h7) {σ0 σ8 : L2.St} {vs : List Nat} {H' : Hp} {s' : Shared} (hw : wipe σ8 vs = wipe σ0 vs)
    (JJ : Inv Y ([] ++ pinsAt fp h7) σ8 H' s') : Inv Y [] (wipe σ0 vs) H' s' ∧ tn (i + 1) s'.heap ∧ ∀ b ∈ fp, H' b = none := by
  have held : ∀ b ∈ fp, ∀ o, h7.get? b = some o → s'.heap.get? b = some o ∧ H' b = none := fun b hb o e => by
    have z := JJ.pin (b, o) (List.mem_append_right _ (List.mem_append_right _ (mem_pinsAt hb e)))
    exact ⟨z.1, z.2.1⟩
  refine ⟨(JJ.unpinned (pins := [])).weak (by rw [← hw, wipe_length]) (fun j v e => ?_), T.keep _ _ _ st fun b hb o e => (held b hb o e).1, fun b hb => ?_⟩
  · rw [← hw] at e
    exact (wipe_some e).1
  · obtain ⟨o, e, _⟩ := T.obj _ _ st b hb
    exact (held b hb o e).2
theorem dcT_core {X : Cx} {pins : List (Addr × Obj)} {s : Shared} {σ : L2.St} {H : Hp} {Q : VK} {kx vx tg iter : Expr} {scope : Scope} {own : List (Str × Nat)} {pos pos' : Pos} {wi : TI} {g : TG} {tk tv : TE} {use : Option (Value → Sem Unit)} {Qf : Value → Shared → Prop} (hu : X.A.units < cLine) (calm : X.calm = true) (nd : X.N.Nodup) (I : Inv X pins σ H s) (hi : PI X tg iter wi) (ok : BlkOk X.N X.env.scope scope own)
    (hg : ∀ (s : Shared) (H : Hp) (C : Addr) (cl : List (Str × Addr)) (fp : List Addr), PG (X.blk s H scope (compEnvC scope cl C X.env) fp) tg g)
    (hk : ∀ (s : Shared) (H : Hp) (C : Addr) (cl : List (Str × Addr)) (fp : List Addr), PE (X.blk s H scope (compEnvC scope cl C X.env) fp) kx tk)
    (hv : ∀ (s : Shared) (H : Hp) (C : Addr) (cl : List (Str × Addr)) (fp : List Addr), PE (X.blk s H scope (compEnvC scope cl C X.env) fp) vx tv) (hfs : ∀ x, foldedSetIterable iter X.env x = pure x) (h : tDcT wi g tk tv (own.map (·.2)) σ H Q)
    (fin : ∀ D C s' m H', Inv X pins σ H' s' → Q (.ref D) H' → s'.heap.Ns C m → FpOk X pins H' C → compPost (model X.prog X.w) X.A X.xe use Qf (.ref D) C (.ok .next) s') :
    wpAny (model X.prog X.w) X.A (comprehension (.DictComp kx vx [⟨tg, iter, [], 0⟩] scope pos) scope X.env pos' newDict false (eval iter X.env) use) Qf X.xe s := by
  have cells : ∀ y ∈ scope.names, y.2 = .free → ∃ c, X.env.cells.lookup y.1 = some c := fun y hy e => (ok.free y hy e).elim (fun k => I.ok.has _ (.inl k)) fun k => I.ok.has _ (.inr k)
  refine wpAny_comprehension_free (use := use) rfl hfs (closure_ok cells) ok.kind (fun y hy e => by rw [ok.uniq y hy, e]) (thn (hi.run pins s σ H _ I h) fun xv sa ha => thn ha fun itv sb hb => ?_)
  obtain ⟨it, fp, tn, J, Hb, rfl, Ib, T, stb, fb, rest⟩ := hb
  refine wpAny_newObj_type (newEnv_comp ?_)
  obtain ⟨W, ⟨m0, w0⟩, turn⟩ := rest sb.heap.objs.size (Ib.hok.fresh (Nat.le_refl _))
  have Ic : Inv X pins σ (upd Hb sb.heap.objs.size (.dT [])) { sb with heap := sb.heap.push { cls := .type "dict", data := .dict #[] } } := Ib.laid (t' := sb.toks) (fun b o e => Heap.get?_push_of_some _ e) (Nat.le_refl _) (dt_empty sb.heap Ib.big)
  have stc : tn 0 (sb.heap.push { cls := .type "dict", data := .dict #[] }) := T.keep _ _ _ stb fun b _ o e => Heap.get?_push_of_some _ e
  have below : ∀ b ∈ fp, b < sb.heap.objs.size := fun b hb => by
    obtain ⟨o, e, _⟩ := T.obj _ _ stb b hb
    exact Heap.lt_size e
  have fc : ∀ b ∈ fp, FpOk X pins (upd Hb sb.heap.objs.size (.dT [])) b ∧ b < (sb.heap.push { cls := .type "dict", data := .dict #[] }).objs.size := fun b hb => by
    refine ⟨⟨?_, (fb b hb).2⟩, ?_⟩
    · rw [upd_ne (Nat.ne_of_lt (below b hb))]
      exact (fb b hb).1
    · rw [Heap.size_push]
      exact Nat.lt_succ_of_lt (below b hb)
  generalize sb.heap.objs.size = D at turn w0 Ic fc ⊢
  generalize hsc : ({ sb with heap := sb.heap.push { cls := .type "dict", data := .dict #[] } } : Shared) = sc at Ic ⊢
  have stc : tn 0 sc.heap := by rw [← hsc]; exact stc
  generalize upd Hb D (.dT []) = Hc at w0 Ic fc
  have fc : ∀ b ∈ fp, FpOk X pins Hc b ∧ b < sc.heap.objs.size := by rw [← hsc]; exact fc
  have Id := block_start Ic ok nd fc
  have pg := hg sc Hc sc.heap.objs.size (cellsFrom (sc.heap.objs.size + 1) scope.names (cloFrom X.env.cells scope.names [])) fp
  have pk := hk sc Hc sc.heap.objs.size (cellsFrom (sc.heap.objs.size + 1) scope.names (cloFrom X.env.cells scope.names [])) fp
  have pv := hv sc Hc sc.heap.objs.size (cellsFrom (sc.heap.objs.size + 1) scope.names (cloFrom X.env.cells scope.names [])) fp
  show codeAny _ _ (.compStart _ 0 (.ref it) (.ref D) (compEnvC scope (cellsFrom (sc.heap.objs.size + 1) scope.names (cloFrom X.env.cells scope.names [])) sc.heap.objs.size X.env)) (compPost _ _ _ _ _ (.ref D) sc.heap.objs.size) { sc with heap := pushCells (sc.heap.push { cls := .type "dict", data := .dict #[] }) scope.names }
  have std : tn 0 (pushCells (sc.heap.push { cls := .type "dict", data := .dict #[] }) scope.names) := T.keep _ _ _ stc fun b _ o e => pushCells_keeps _ _ _ _ (Heap.get?_push_of_some _ e)
  generalize ec : compEnvC scope (cellsFrom (sc.heap.objs.size + 1) scope.names (cloFrom X.env.cells scope.names [])) sc.heap.objs.size X.env = ce at Id pg pk pv ⊢
  have cl : ce.locals = sc.heap.objs.size := by rw [← ec]; rfl
  generalize ed : ({ sc with heap := pushCells (sc.heap.push { cls := .type "dict", data := .dict #[] }) scope.names } : Shared) = sd at Id ⊢
  have std : tn 0 sd.heap := by rw [← ed]; exact std
  have loop : codeAny (model X.prog X.w) X.A (.compLoop (.DictComp kx vx [⟨tg, iter, [], 0⟩] scope pos) 0 (.ref it) (.ref D) ce) (compPost (model X.prog X.w) X.A X.xe use Qf (.ref D) sc.heap.objs.size) sd := by
    refine compLoop_anyD (fun n s' => ∃ i H', Inv (X.blk sc Hc scope ce fp) [] (wipe σ (own.map (·.2))) H' s' ∧ tn i s'.heap ∧ (∀ b ∈ fp, H' b = none) ∧ W i n H') ?_ m0 ⟨0, Hc, Id, std, fun b hb => (fc b hb).1.1, w0⟩
    rintro n s5 ⟨i, H5, I5, st5, n5, w5⟩
    rcases turn i n H5 w5 with ⟨ends, qq⟩ | ⟨goes, Nx, hNx, step⟩
    · refine thnF (T.done (X.blk sc Hc scope ce fp) rfl rfl rfl calm i [] s5 _ H5 (fun _ _ => False) I5 (blk_free I5 n5) st5 ends) fun r s6 ⟨er, I6⟩ => ?_
      subst er
      have I7 : Inv X pins σ H5 s6 := Ic.call' (ch := fp) I6.os I6.base I6.hok I6.bare fun b hb => ⟨(fc b hb).1.2.2.2.1, (fc b hb).1.2.1, (fc b hb).1.2.2.2.2.1, (fc b hb).1.2.2.2.2.2⟩
      have nl : H5 sc.heap.objs.size = none := by
        rw [← cl]
        exact I6.free
      obtain ⟨m, hn, _⟩ := I6.loc
      have hn : s6.heap.Ns ce.locals m := hn
      rw [cl] at hn
      exact fin D sc.heap.objs.size s6 m H5 I7 qq hn (Ic.fpOk (Nat.le_refl _) nl)
    · refine thnF (T.item (X.blk sc Hc scope ce fp) rfl rfl rfl calm i [] s5 _ H5 (fun _ _ => False) I5 (blk_free I5 n5) st5 goes) fun r s6 ⟨u, er, h6⟩ => ?_
      subst er
      refine thnF h6 fun _ s7 ⟨x, H7, I7, r7, y7, st7, n7⟩ => ?_
      refine thnF (pg.run _ s7 _ H7 x u _ (I7.pinned (blk_free I7 n7) (T.obj _ _ st7)) r7 (step x H7 y7)) fun _ s8 ⟨σ8, H8, I8, hw8, q8⟩ => ?_
      rw [List.forIn_nil]
      refine wpAny_pure ?_
      rw [if_pos rfl]
      refine thnF (pk.run _ s8 σ8 H8 _ I8 q8) fun v9 s9 ⟨y9, H9, I9, r9, q9⟩ => ?_
      refine thnF (pv.run _ s9 σ8 H9 _ I9 q9) fun v10 s10 ⟨z10, H10, I10, r10, kvs, ks, b, ey, eb, eD, lz, nx⟩ => ?_
      subst ey
      cases (show v9 = Value.ref b from r9)
      refine dset_t (X := X.blk sc Hc scope ce fp) hu I10 eD eb lz r10 fun s11 I11 => ?_
      obtain ⟨m', hm, w'⟩ := hNx _ nx
      obtain ⟨a1, a2, a3⟩ := blk_turn (X := X) T st7 hw8 I11
      exact ⟨m', hm, i + 1, _, a1, a2, a3, w'⟩
  exact codeAny_compStart_dict loop (T.self X.A 0 _ _ _ std loop)
theorem pe_dcT {X : Cx} {kx vx tg iter : Expr} {scope : Scope} {own : List (Str × Nat)} {pos : Pos} {wi : TI} {g : TG} {tk tv : TE} (hu : X.A.units < cLine) (calm : X.calm = true) (nd : X.N.Nodup) (hi : PI X tg iter wi) (ok : BlkOk X.N X.env.scope scope own)
    (hg : ∀ (s : Shared) (H : Hp) (C : Addr) (cl : List (Str × Addr)) (fp : List Addr), PG (X.blk s H scope (compEnvC scope cl C X.env) fp) tg g)
    (hk : ∀ (s : Shared) (H : Hp) (C : Addr) (cl : List (Str × Addr)) (fp : List Addr), PE (X.blk s H scope (compEnvC scope cl C X.env) fp) kx tk)
    (hv : ∀ (s : Shared) (H : Hp) (C : Addr) (cl : List (Str × Addr)) (fp : List Addr), PE (X.blk s H scope (compEnvC scope cl C X.env) fp) vx tv) (hfs : ∀ x, foldedSetIterable iter X.env x = pure x := by intro _; rfl) :
    PE X (.DictComp kx vx [⟨tg, iter, [], 0⟩] scope pos) (tDcT wi g tk tv (own.map (·.2))) := by
  refine ⟨fun pins s σ H Q I h => ?_⟩
  rw [arm_eval_DictComp]
  refine dcT_core hu calm nd I hi ok hg hk hv hfs h fun D C s' m H' I' q hn f => ⟨m, hn, fun h'' sb => ?_⟩
  obtain ⟨f0, f1, f2, f3, f4, f5⟩ := f
  exact ⟨.ref D, H', I'.turned (t' := s'.toks) (fun b o hb e => (sb.2 b hb).trans e) f0 f1 f3 f4 f5, rfl, q⟩
/-- a name on the same line takes it, before the block's own names go -/
theorem ps_setDcT {X : Cx} {i : Nat} {y : Str} {py : Pos} {kx vx tg iter : Expr} {scope : Scope} {own : List (Str × Nat)} {pos spos : Pos} {wi : TI} {g : TG} {tk tv : TE} (hu : X.A.units < cLine) (calm : X.calm = true) (nd : X.N.Nodup) (at_ : X.N[i]? = some y) (loc : X.env.scope.names.lookup y = some .local)
    (sw : swapsWith (.DictComp kx vx [⟨tg, iter, [], 0⟩] scope pos) (some (.Name y py)) spos.line X.env = pure true) (hi : PI X tg iter wi) (ok : BlkOk X.N X.env.scope scope own)
    (hg : ∀ (s : Shared) (H : Hp) (C : Addr) (cl : List (Str × Addr)) (fp : List Addr), PG (X.blk s H scope (compEnvC scope cl C X.env) fp) tg g)
    (hk : ∀ (s : Shared) (H : Hp) (C : Addr) (cl : List (Str × Addr)) (fp : List Addr), PE (X.blk s H scope (compEnvC scope cl C X.env) fp) kx tk)
    (hv : ∀ (s : Shared) (H : Hp) (C : Addr) (cl : List (Str × Addr)) (fp : List Addr), PE (X.blk s H scope (compEnvC scope cl C X.env) fp) vx tv) (hfs : ∀ x, foldedSetIterable iter X.env x = pure x := by intro _; rfl) :
    PS X (.Assign [.Name y py] (.DictComp kx vx [⟨tg, iter, [], 0⟩] scope pos) spos) (tAsg (tDcT wi g tk tv (own.map (·.2))) (gName i)) := by
  refine ⟨fun pins s σ H D I h => ?_⟩
  rw [exec_Assign_Name_used _ _ _ _ sw]
  refine wpAny_bind (wpAny_standAt (wpAny_bind ?_))
  show wpAny _ X.A (do let _ ← comprehension (.DictComp kx vx [⟨tg, iter, [], 0⟩] scope pos) scope X.env (firstIterPos [⟨tg, iter, [], 0⟩] pos) newDict false (eval iter X.env) (some (assign (.Name y py) X.env))) _ _ s
  have h : tDcT wi g tk tv (own.map (·.2)) σ H (fun x H1 => gName i x σ H1 D.nx) := h
  refine wpAny_bind (thn (dcT_core (Qf := fun _ s' => SP X pins D .next s') hu calm nd I hi ok hg hk hv hfs h fun L C s' m H' I' q hn f => ?_) fun _ s' hq => wpAny_pure (wpAny_pure hq))
  show wpAny _ _ (assign (.Name y py) X.env (.ref L)) _ _ _
  refine wpAny_assign_Name (store_ok2 (v := V.ref L) I' nd at_ (.inl loc) rfl (fun s2 I2 ⟨a, sb, ha⟩ => ?_) (.inr loc))
  obtain ⟨f0, f1, f2, f3, f4, f5⟩ := f
  have apart : C ≠ a := by
    rcases ha with z | z
    · rw [z]
      exact f1
    · exact fun e => f4 y a z e.symm
  exact ⟨m, hn.sameBut sb apart, fun h3 sb3 => ⟨_, H', I2.turned (t' := s2.toks) (fun b o hb e => (sb3.2 b hb).trans e) f0 f1 f3 f4 f5, q⟩⟩
theorem swD_true {kx vx : Expr} {gs : List Comprehension} {scope : Scope} {pos py : Pos} {y : Str} {l : Nat} {env : Env} (hk : env.scope.kind = .function) (hy : env.scope.names.lookup y = some .local) (hl : (py.line == pos.line) = true)
    (ha : (scope.names.any fun (n, k) => n == y && (k == .local || k == .cell)) = false) : swapsWith (.DictComp kx vx gs scope pos) (some (.Name y py)) l env = pure true := by
  have ky : env.kindOf y = some .local := hy
  have hb : env.blockKind = .function := by unfold Env.blockKind; rw [hk]; rfl
  unfold swapsWith
  simp only [hb, ky, ha, Expr.pos, hl]
  rfl
theorem dcT_it {J : It} {n : Nat} {G : Hp → Prop} {Y : Nat → Hp → V → Hp → Prop} (w : Walk J n G Y) {g : TG} {tk tv : TE} {vs : List Nat} {σ : L2.St} {H1 : Hp} {D : Addr} {Qd : Hp → Prop} (Pv : Nat → Hp → Prop) (h0 : Pv 0 (upd H1 D (.dT []))) (hG : ∀ i H, i ≤ n → Pv i H → G H)
    (hs : ∀ i x H H', i < n → Pv i H → Y i H x H' → g x (wipe σ vs) H' fun σ2 H2 => wipe σ2 vs = wipe σ vs ∧ tk σ2 H2 fun y H3 => tv σ2 H3 fun z H4 => PutT D y z H4 (Pv (i + 1))) (hd : ∀ H, Pv n H → Qd H) :
    ∃ W : Nat → Nat → Hp → Prop, (∃ m, W 0 m (upd H1 D (.dT []))) ∧ ∀ i m H, W i m H → (J.stop i H ∧ Qd H) ∨ (J.go i H ∧ ∃ Nx : Hp → Prop, (∀ H', Nx H' → ∃ m', m' < m ∧ W (i + 1) m' H') ∧ ∀ x H', J.yld i H x H' → g x (wipe σ vs) H' fun σ2 H2 => wipe σ2 vs = wipe σ vs ∧ tk σ2 H2 fun y H3 => tv σ2 H3 fun z H4 => PutT D y z H4 Nx) := by
  refine ⟨fun i m H => m = n - i ∧ i ≤ n ∧ Pv i H, ⟨n, rfl, Nat.zero_le _, h0⟩, ?_⟩
  rintro i m H ⟨rfl, hi, pv⟩
  have hq := hG i H hi pv
  by_cases hlt : i < n
  · exact .inr ⟨w.goes i H hlt hq, Pv (i + 1), fun H' p' => ⟨n - (i + 1), by omega, rfl, hlt, p'⟩, fun x H' y => hs i x H H' hlt pv (w.yields i H x H' hlt hq y)⟩
  · obtain rfl : i = n := by omega
    exact .inl ⟨w.stops H hq, hd H pv⟩
end Pf


namespace Pf
open PySem PySem.Spec PyProof.Rows L2
/-! ### a list lengthened in its place -/
theorem lk_iadd : typeLookup (.type "list") (dunderI "add") = pure (some (.builtin "list.__iadd__")) := PySem.F.slot_list_iadd.lookup
theorem nf_list : fillsNumberSlot (.type "list") "add" = pure false := by kernel_rfl
theorem iadd_lst {M : Model} {A : Around} {E : Value → Shared → Prop} {s : Shared} {a b : Value} {Q : Value → Shared → Prop} (ha : s.TypeIs a "list") (hb : s.TypeIs b "list") (hc : wpAny M A (call (.builtin "list.__iadd__") [a, b]) Q E s) : wpAny M A (inplaceOp .Add a b) Q E s := by
  unfold inplaceOp
  refine wpAny_holding ?_
  have h1 : fillsInplaceSlot (.type "list") "add" (Operator.Add == .Add) = pure false := by
    unfold fillsInplaceSlot
    show (typeLookup (.type "list") (dunderI "add") >>= fun z => pure (z.isSome && !isSeqSlot z)) = pure false
    rw [lk_iadd]
    kernel_rfl
  have h2 : seqSlot? (.type "list") (dunderI "add") = pure (some (.builtin "list.__iadd__")) := PySem.seqSlot_of lk_iadd (by kernel_rfl)
  refine wpAny_bind (wpAny_typeOf ha (wpAny_bind (wpAny_of_eq h1 ?_)))
  show wpAny M A (if false = true then _ else _) Q E s
  rw [if_neg Bool.false_ne_true]
  exact wpAny_bind (wpAny_binaryOp1_none (nm := "add") ha hb nf_list (wpAny_bind (wpAny_of_eq h2 (wpAny_bind (wpAny_rule hc)))))
def rIext : TIp := fun x y H Q => ∃ l b xs zs, x = .ref l ∧ y = .ref b ∧ H l = some (.lst xs) ∧ H b = some (.lst zs) ∧ xs.length + zs.length ≤ sizeLine ∧ Q (.ref l) (upd H l (.lst (xs ++ zs)))
theorem ip_ext {X : Cx} : PIp X .Add rIext := by
  intro pins s σ H x y v u Q I rx ry h
  obtain ⟨l, b, xs, zs, rfl, rfl, hH, hB, hz, q⟩ := h
  cases rx
  cases ry
  obtain ⟨z, its, n, r, hl, e⟩ := I.lstM hH
  obtain ⟨z2, its2, n2, r2, hl2, e2⟩ := I.lstM hB
  have hs2 : its.toArray.size + its2.toArray.size ≤ sizeLine := by
    rw [List.size_toArray, List.size_toArray]
    omega
  have long : ¬ (!its.toArray.isEmpty && Builtin.List.listTooLong (its.toArray.size + its2.toArray.size)) = true := by
    rw [notLongL hs2, Bool.and_false]
    exact Bool.false_ne_true
  refine iadd_lst ⟨_, e, rfl⟩ ⟨_, e2, rfl⟩ (call_meets PySem.F.slot_list_iadd ⟨_, e, rfl⟩ PySem.F.entry_list_iadd (PySem.F.args_list_iadd_2 _ _) (AutoSeq1.list___iadd___list_list_0 l its.toArray n b its2.toArray n2 long (by rw [List.size_toArray]; omega) (by omega)) ⟨e, e2, ?_⟩)
  refine ⟨.ref l, _, I.lset (its' := its ++ its2) hH e (by simp) (r.append r2) ?_, rfl, q⟩
  rw [List.length_append]
  omega
end Pf


namespace Pf
open PySem PySem.Spec PyProof.Rows L2
/-! ### sorted of a dict by tuples -/
theorem obj_there {P : Program} {w : World} {H : Hp} {h : Heap} {a : Addr} {o : HO} (x : ObjOk P w H h a o) : ∃ u, h.get? a = some u := by
  cases o with
  | lst _ =>
    obtain ⟨_, _, _, _, e⟩ := x
    exact ⟨_, e⟩
  | tup _ =>
    obtain ⟨_, _, _, u, e, _⟩ := x
    exact ⟨u, e⟩
  | dK _ =>
    obtain ⟨_, _, _, _, u, _, _, e, _⟩ := x
    exact ⟨u, e⟩
  | dT _ =>
    obtain ⟨_, _, _, _, u, _, _, e, _⟩ := x
    exact ⟨u, e⟩
  | set _ _ =>
    obtain ⟨u, _, _, _, e, _⟩ := x
    exact ⟨u, e⟩
  | ins _ _ _ =>
    obtain ⟨_, _, _, e, _⟩ := x
    exact ⟨_, e⟩
  | own _ => exact x
  | xd _ =>
    obtain ⟨_, ⟨u, _, _, e, _⟩, _⟩ := x
    exact ⟨u, e⟩
  | rng _ _ =>
    obtain ⟨_, _, _, e⟩ := x
    exact ⟨_, e⟩
  | frz u _ => exact ⟨u, x.1⟩
  | tbl _ => exact ⟨_, x⟩
  | met _ _ => exact ⟨_, x⟩
  | ext _ => exact x.2.1
def rSortKT (K : PySem.W.Frag) : List V → Hp → VK → Prop := fun vs H Q => ∃ (d : Addr) (kvs : List (List Key × V)), vs = [.ref d] ∧ Rd H d (.dT kvs) ∧ ∀ bs : List Addr, IsKeys H kvs bs → ∃ (β : Type) (ad : β → Addr) (dd : β → PyData) (ys : List β), bs = ys.map ad ∧ (∀ y ∈ ys, Dp K H (.ref (ad y)) (dd y) ∧ (dd y).depth ≤ 50) ∧
  PySem.W.AllAlike (ys.map dd) ∧ PySem.W.Sortable (ys.map dd) ∧ ∀ p, H p = none → Q (.ref p) (upd H p (.lst ((ys.mergeSort (PySem.W.dataLe false dd)).map fun y => .ref (ad y))))
theorem cr_sortKT (K : PySem.W.Frag) {X : Cx} (calm : X.calm = true) (hu : X.A.units + 64 < cLine) (hK : X.K = K := by rfl) : CallR X (.builtin "sorted") (rSortKT K) := by
  subst hK
  intro pins s σ H vs us Q I r h
  obtain ⟨d, kvs, rfl, hd, q⟩ := h
  obtain ⟨u, rfl, er⟩ := vals1 r
  cases er
  obtain ⟨z, hs, ks, pr, o, es, ep, ho, hx, hdt, he, hn⟩ := (show ObjOk X.prog X.w H s.heap d (.dT kvs) from hd.ok I.hok)
  have l1 : es.size = ks.length := size_of_entries he
  have l2 : kvs.length = ks.length := Paired.length pr
  obtain ⟨β, ad, dd, ys, eys, hy, al, so, qq⟩ := q _ (isKeys_of pr)
  have hyl : ys.length = ks.length := by
    have := congrArg List.length eys
    rw [List.length_map, List.length_map] at this
    exact this.symm
  refine Calls.call_function_entry kind_sorted plain_sorted entry_sorted (args_sorted1 _) ?_
  unfold Builtin.«sorted»
  refine wpAny_bind (m := checkCount "sorted" 1 1 _) (wpAny_pure ?_)
  refine wpAny_bind (PySem.W.kdu_collect (kdl_raw hs hx hdt) (I.ok.hd calm) ho (by omega) fun h1 tk acc kp items => ?_)
  have ea : acc.toList = ys.map fun y => Value.ref (ad y) := by
    have e0 : (ks.map fun x => x.2.1).map Value.ref = ys.map fun y => Value.ref (ad y) := by
      rw [eys, List.map_map]
      rfl
    rw [← e0]
    refine List.ext_getElem? fun j => ?_
    rw [List.getElem?_map, List.getElem?_map]
    cases hj : acc.toList[j]? with
    | none =>
      have := List.getElem?_eq_none_iff.mp hj
      rw [Array.length_toList, items.1] at this
      rw [List.getElem?_eq_none (by omega)]
      rfl
    | some v =>
      obtain ⟨en, hen, hv⟩ := items.2 j v (by rw [← Array.getElem?_toList]; exact hj)
      have qe := entry_at he j
      rw [hen] at qe
      cases hb : ks[j]? with
      | none =>
        rw [hb] at qe
        exact nomatch (show some en = none from qe)
      | some b =>
        rw [hb] at qe
        rw [hv, Option.some.inj (show some en = some (entryOfKey (tupleKind (mixKind X.prog X.w)) b) from qe)]
        rfl
  have hz2 : acc.toList.length ≤ sizeLine := by
    rw [ea, List.length_map]
    omega
  refine wpAny_bind (wpAny_newList ?_ hz2)
  have hat : (h1.push (seqObj "list" acc.toList.toArray 0)).get? h1.objs.size = some (seqObj "list" acc.toList.toArray 0) := Heap.get?_push_size _ rfl
  have hlt : ∀ b ob, s.heap.get? b = some ob → b ≠ h1.objs.size := fun b ob e => Nat.ne_of_lt (Heap.lt_size (kp b ob e))
  have old : ∀ b ob, s.heap.get? b = some ob → (h1.push (seqObj "list" acc.toList.toArray 0)).get? b = some ob := fun b ob e => Heap.get?_push_of_some _ (kp b ob e)
  have rel : PySem.W.EachIs (fun (v : Value) (y : β) => RelV (V.ref (ad y)) v) acc.toList ys := by
    rw [ea]
    clear q qq eys hy al so hyl ea
    induction ys with
    | nil => exact .nil
    | cons y t ih => exact .cons rfl ih
  have rv : Vals (ys.map fun y => V.ref (ad y)) acc.toList := vals_each (v := fun y => V.ref (ad y)) rel
  have rd : PySem.W.EachIs (fun (v : Value) (y : β) => ∃ as, Reads (PySem.W.sortingHeap (h1.push (seqObj "list" acc.toList.toArray 0)) h1.objs.size acc.toList) v (dd y) as) acc.toList ys := (each_reads (v := fun y => V.ref (ad y)) I rv fun y hy' => (hy y hy').1).mono fun _ _ ⟨as, w⟩ => ⟨as, PyProof.Rows.Reads.keeps (fun b ob e => PySem.W.sortingHeap_old (hlt b ob e) (old b ob e)) w⟩
  have hub : ∀ y ∈ ys, X.A.in1.in1.units + (dd y).depth < cLine := fun y hy' => by
    have := (hy y hy').2
    show X.A.units + 2 + (dd y).depth < cLine
    omega
  have S := PySem.W.SortsAt.data (prog := X.prog) (w := X.w) (A := X.A.in1.in1) (s := { s with heap := PySem.W.sortingHeap (h1.push (seqObj "list" acc.toList.toArray 0)) h1.objs.size acc.toList, toks := tk }) (PySem.W.each_map (R := fun v d => ∃ as, Reads (PySem.W.sortingHeap (h1.push (seqObj "list" acc.toList.toArray 0)) h1.objs.size acc.toList) v d as) dd rd) al so (PySem.W.bound_map hub)
  refine wpAny_bind (wpAny_holding (wpAny_call_entry slot_list_sort ⟨_, hat, rfl⟩ entry_list_sort ?body (args_list_sort _)))
  case body =>
    refine PySem.W.list_sort_vals (s := { s with heap := h1.push (seqObj "list" acc.toList.toArray 0), toks := tk }) hat S hz2 ⟨_, rfl, wpAny_pure ⟨_, rfl, ?_⟩⟩
    have each := PySem.W.sortVals_data false rel rd al
    generalize PySem.W.sortVals (PySem.W.dataKind (PySem.W.sortingHeap (h1.push (seqObj "list" acc.toList.toArray 0)) h1.objs.size acc.toList) (ys.map dd)) false acc.toList acc.toList = out at each ⊢
    obtain ⟨ee, he'⟩ := PyProof.Rows.sortedHeap_at (vs := acc.toList) (out := out.toArray) hat
    have hl2 : ((ys.mergeSort (PySem.W.dataLe false dd)).map fun y => V.ref (ad y)).length ≤ sizeLine := by
      rw [List.length_map, List.length_mergeSort]
      omega
    have gone : s.heap.get? h1.objs.size = none := by
      cases e : s.heap.get? h1.objs.size with
      | none => rfl
      | some ob => exact absurd rfl (hlt _ ob e)
    have free : H h1.objs.size = none := by
      cases e : H h1.objs.size with
      | none => rfl
      | some u =>
        obtain ⟨ob, e2⟩ := obj_there (I.hok _ _ e)
        rw [gone] at e2
        cases e2
    exact ⟨.ref h1.objs.size, upd H h1.objs.size (.lst ((ys.mergeSort (PySem.W.dataLe false dd)).map fun y => V.ref (ad y))), I.laidN (t' := tk) (fun b ob e => by rw [PyProof.Rows.sortedHeap_old (hlt b ob e) (Heap.lt_size (old b ob e))]; exact old b ob e) gone free ⟨hl2, out, ee, vals_each (v := fun y => V.ref (ad y)) each, by simpa using he'⟩, rfl, qq _ free⟩
end Pf


namespace Pf
open PySem PySem.Spec PyProof.Rows L2
/-! ### a text so many times: some text of its letters, no longer than it may be -/
theorem rep_cps (x : Array Nat) : ∀ (n : Nat) (acc : Array Nat), (((List.replicate n x).foldl (· ++ ·) acc).size = acc.size + x.size * n) ∧ ∀ c ∈ ((List.replicate n x).foldl (· ++ ·) acc).toList, c ∈ acc.toList ∨ c ∈ x.toList
  | 0, acc => ⟨by rw [Nat.mul_zero]; rfl, fun c h => .inl h⟩
  | n + 1, acc => by
    have ih := rep_cps x n (acc ++ x)
    rw [List.replicate_succ, List.foldl_cons]
    refine ⟨?_, fun c h => ?_⟩
    · rw [ih.1, Array.size_append, Nat.mul_succ]
      omega
    · rcases ih.2 c h with z | z
      · rw [Array.toList_append, List.mem_append] at z
        exact z
      · exact .inr z
def rRepS : R2 := fun x y H Q => ∃ (z : Str) (k : Int), x = .str z ∧ y = .int k ∧ 0 ≤ k ∧ k ≤ 1000 ∧ z.length ≤ 1000 ∧ ∀ w : Str, w.length ≤ z.length * k.toNat → (∀ c ∈ w.cps.toList, c ∈ z.cps.toList) → Q (.str w) H
theorem op_repS {X : Cx} : OpR X (binaryOp .Mult) rRepS := by
  intro pins s σ H x y v u Q I rx ry h
  obtain ⟨z, k, rfl, rfl, k0, k1, hz, q⟩ := h
  obtain ⟨t, rfl⟩ := rx
  obtain ⟨t2, rfl⟩ := ry
  have hm : z.length * k.toNat ≤ 1000 * 1000 := Nat.mul_le_mul hz (by omega)
  have hbig : (z.length : Int) * k ≤ 1000 * 1000 := Int.mul_le_mul (by omega) k1 k0 (by decide)
  refine PySem.P.mul_str (by rw [decide_eq_false (by omega), decide_eq_false (by omega)]; rfl) (fun h1 _ z2 => ?_) (fun _ _ => ?_) ?_
  · have h3 : (1000 : Int) ≤ (2 ^ 63 - 1) / k := by
      rw [Int.le_ediv_iff_mul_le (by omega)]
      omega
    omega
  · unfold Builtin.Str.tooLong
    exact decide_eq_false (by rw [sizeLine_eq]; omega)
  · by_cases c1 : k < 1
    · rw [if_pos c1]
      exact ⟨by decide, .str Str.empty, H, I.tok _, ⟨_, rfl⟩, q _ (Nat.zero_le _) (fun c hc => by cases hc)⟩
    · rw [if_neg c1]
      by_cases c2 : (k == 1 || z.length == 0) = true
      · rw [if_pos c2]
        refine ⟨.str z, H, I, ⟨_, rfl⟩, q z ?_ fun _ hc => hc⟩
        exact Nat.le_mul_of_pos_right _ (by omega)
      · rw [if_neg c2]
        have hr := rep_cps z.cps k.toNat #[]
        have hl : (⟨(List.replicate k.toNat z.cps).foldl (· ++ ·) #[]⟩ : Str).length = z.length * k.toNat := by
          show ((List.replicate k.toNat z.cps).foldl (· ++ ·) #[]).size = _
          rw [hr.1]
          show 0 + z.length * k.toNat = _
          omega
        refine ⟨?_, .str _, H, I.tok _, ⟨_, rfl⟩, q _ (Nat.le_of_eq hl) fun c hc => ?_⟩
        · rw [hl, sizeLine_eq]
          omega
        · rcases hr.2 c hc with y | y
          · cases y
          · exact y
/-! ### a list under way -/
section
variable {β : Type} {R : Hp → V → β → Prop} {D : Addr} {H H1 H4 : Hp} {ys : List β} {v : V} {b : β}
def GenL (R : Hp → V → β → Prop) (D : Addr) (H1 : Hp) (ys : List β) (H : Hp) : Prop := ∃ vs, H D = some (.lst vs) ∧ Paired (R H) vs ys ∧ Ext H1 H
theorem genl_new (hD : H1 D = none) : GenL R D H1 [] (upd H1 D (.lst [])) := ⟨[], upd_same, .nil, Ext.new hD⟩
theorem GenL.ext (h : GenL R D H1 ys H) : Ext H1 H := by
  obtain ⟨_, _, _, k⟩ := h
  exact k
theorem GenL.keep (m : Mono R) (h : GenL R D H1 ys H) (k : Ext H H4) : GenL R D H1 ys H4 := by
  obtain ⟨vs, hL, hP, k1⟩ := h
  exact ⟨vs, k _ _ hL, paired_imp (fun _ _ => m _ _ _ _ (TupK.ext k)) hP, k1.trans k⟩
theorem genl_step (m : Mono R) (hD : H1 D = none) (h : GenL R D H1 ys H) (k : Ext H H4) (hv : R H4 v b) (hn : ys.length < 1000000) : ∃ acc, H4 D = some (.lst acc) ∧ acc.length < sizeLine ∧ GenL R D H1 (ys ++ [b]) (upd H4 D (.lst (acc ++ [v]))) := by
  obtain ⟨vs, hL, hP, k1⟩ := h
  have hl := paired_len hP
  have hL4 := k _ _ hL
  exact ⟨vs, hL4, szLt (by omega), vs ++ [v], upd_same, paired_app (paired_imp (fun _ _ => m _ _ _ _ ((TupK.ext k).trans (TupK.lst hL4))) hP) (.cons (m _ _ _ _ (TupK.lst hL4) hv) .nil), (k1.trans k).put hD⟩
/-- one more at its end -/
theorem app_ok {Q : VK} (m : Mono R) (hD : H1 D = none) (h : GenL R D H1 ys H) (k : Ext H H4) (hv : R H4 v b) (hn : ys.length < 1000000) (q : ∀ H', GenL R D H1 (ys ++ [b]) H' → Q .non H') : rAppend (.ref D) [v] H4 Q := by
  obtain ⟨acc, h1, h2, h3⟩ := genl_step m hD h k hv hn
  exact ⟨D, acc, v, rfl, rfl, h1, h2, q _ h3⟩
theorem GenL.sq {K : PySem.W.Frag} (h : GenL R D H1 ys H) : ∃ vs, SqL K H D vs := by
  obtain ⟨vs, h1, _⟩ := h
  exact ⟨vs, SqL.of h1⟩
end
theorem putT_len (c : List (List Key × V)) (k : List Key) (v : V) : (putK c k v).length ≤ c.length + 1 := by
  unfold putK
  split
  · rw [List.length_map]
    omega
  · rw [List.length_append, List.length_singleton]
    exact Nat.le_refl _
end Pf


namespace Pf
open PySem PySem.Spec PyProof.Rows L2
def topS (i : Nat) : Stmt := PySem.Challenge.pw_pairfolds_k43_papers_against_told.main.body.getD i (.Pass ⟨0, 0, 0, 0⟩)
/-! ### the pen: a list of cells, a place, a rest -/
def Pen (H : Hp) (p c : Addr) (n : Nat) : Prop := ∃ (cells : List Int) (a r : Int), H p = some (.lst [.ref c, .int a, .int r]) ∧ H c = some (.lst (cells.map V.int)) ∧ 0 ≤ a ∧ a ≤ n ∧ 0 ≤ r ∧ cells.length ≤ 63
section
variable {H H' : Hp} {p c q : Addr} {n m : Nat} {o : HO}
theorem Pen.mono (h : Pen H p c n) (l : n ≤ m) : Pen H p c m := by
  obtain ⟨cells, a, r, h1, h2, h3, h4, h5, h6⟩ := h
  exact ⟨cells, a, r, h1, h2, h3, by omega, h5, h6⟩
theorem Pen.put (h : Pen H p c n) (hp : q ≠ p) (hc : q ≠ c) : Pen (upd H q o) p c n := by
  obtain ⟨cells, a, r, h1, h2, h3⟩ := h
  exact ⟨cells, a, r, by rw [upd_ne hp.symm]; exact h1, by rw [upd_ne hc.symm]; exact h2, h3⟩
theorem Pen.ne (h : Pen H p c n) (hq : H q = none) : q ≠ p ∧ q ≠ c := by
  obtain ⟨cells, a, r, h1, h2, h3⟩ := h
  exact ⟨(ne_of_none h1 hq).symm, (ne_of_none h2 hq).symm⟩
theorem Pen.new (h : Pen H p c n) (hq : H q = none) : Pen (upd H q o) p c n := h.put (h.ne hq).1 (h.ne hq).2
theorem Pen.tup (h : Pen H p c n) {b : Addr} {xs : List V} (e : H b = some (.tup xs)) : b ≠ p := by
  obtain ⟨cells, a, r, h1, _⟩ := h
  exact ne_of e h1 (by intro z; cases z)
theorem Pen.frz (h : Pen H p c n) {b : Addr} {ob : Obj} {u : HO} (e : H b = some (.frz ob u)) : b ≠ p := by
  obtain ⟨cells, a, r, h1, _⟩ := h
  exact ne_of e h1 (by intro z; cases z)
theorem Pen.ext (h : Pen H p c n) (k : Ext H H') : Pen H' p c n := by
  obtain ⟨cells, a, r, h1, h2, h3⟩ := h
  exact ⟨cells, a, r, k _ _ h1, k _ _ h2, h3⟩
end
theorem TupK.of {p c : Addr} {n : Nat} {H H' : Hp} (k : Kp p H H') (hP : Pen H p c n) : TupK H H' := ⟨fun b _ e => k b _ (hP.tup e) e, fun b _ _ e => k b _ (hP.frz e) e⟩
theorem Kp.ext {p : Addr} {H H' : Hp} (k : Ext H H') : Kp p H H' := fun b o _ e => k b o e
theorem dpInts {K : PySem.W.Frag} {H : Hp} : ∀ cells : List Int, DpAll K H (cells.map V.int) (cells.map PyData.int)
  | [] => .nil
  | _ :: r => .cons (.int _) (dpInts r)
theorem cut_ints (ns : List Int) (lo hi : Option Int) : ∃ cs : List Int, cutV (ns.map V.int) lo hi = cs.map V.int ∧ cs.length ≤ ns.length := by
  unfold cutV
  refine ⟨(ns.drop _).take _, by rw [List.map_take, List.map_drop], ?_⟩
  rw [List.length_take, List.length_drop]
  omega
theorem mod_b (z m : Int) (h : 0 < m) (h2 : m < 2 ^ 64) : -(2 ^ 64) < z % m ∧ z % m < 2 ^ 64 := by
  have h3 := Int.emod_nonneg z (show m ≠ 0 by omega)
  have h4 := Int.emod_lt_of_pos z h
  omega
theorem draw_b1 {z a : Int} (a0 : 0 ≤ a) (a1 : a ≤ 1000000) : (z % 2147483579 + 47017 * a + 41).natAbs < 2 ^ 64 := by
  have h3 := Int.emod_nonneg z (show (2147483579 : Int) ≠ 0 by decide)
  have h4 := Int.emod_lt_of_pos z (show (0 : Int) < 2147483579 by decide)
  omega
theorem draw_b3 (z : Int) {a : Int} (a0 : 0 ≤ a) (a1 : a ≤ 1000000) : (z % 2147483629 + 92003 * a * a + 19).natAbs < 2 ^ 64 := by
  have h3 := Int.emod_nonneg z (show (2147483629 : Int) ≠ 0 by decide)
  have h4 := Int.emod_lt_of_pos z (show (0 : Int) < 2147483629 by decide)
  have h5 : 92003 * a * a ≤ 92003 * 1000000 * 1000000 := Int.mul_le_mul (by omega) a1 a0 (by decide)
  have h6 : 0 ≤ 92003 * a * a := Int.mul_nonneg (by omega) a0
  omega
section
variable {P : Program} {w : World} {K : PySem.W.Frag} {mg : Str → Option Value} {base : Heap}
abbrev s_law_draw : Stmt := topS 37
theorem sc_law_draw : FnScope ["_law_pen", "_law_upto", "_law_digit", "_law_nth", "_law_cell", "_law_number"] ["_law_pen", "_law_upto"] (defScope s_law_draw) :=
  ⟨rfl, rfl, rfl, by decide +kernel, rfl, by decide +kernel, by decide +kernel⟩
def spDraw : Sp := fun vs H Q _ => ∃ (p c : Addr) (m : Int) (n : Nat), vs = [.ref p, .int m] ∧ Pen H p c n ∧ n < 1000000 ∧ 0 < m ∧ m < 1000000 ∧
  ∀ r H', 0 ≤ r → r < m → Kp p H H' → Pen H' p c (n + 1) → Q (.int r) H'
theorem ok_draw {f : Addr} {fd : FuncData} {k : Nat} (F : Fun K "_law_draw" "_law_draw" s_law_draw f fd) (mlen : mg "len" = none) (mabs : mg "abs" = none) : FnOk P w K mg base CX0 (k + 1) f fd ["_law_pen", "_law_upto"] spDraw := by
  refine F.ok sc_law_draw (fun vs H Q E h => ?_) (fun cdv A outer s H vs Q E hr h => ?_)
  · obtain ⟨p, c, m, n, rfl, _⟩ := h
    rfl
  · obtain ⟨p, c, m, n, rfl, hP, hn, m0, m1, q⟩ := h
    obtain ⟨cells, a, r, hp, hc, a0, a1, r0, cl⟩ := hP
    refine ⟨_, (pss_cons (ps_if (pt_cmpR op_gt (pe_ix (ixL K) (pv 0) pe_int (fun _ _ => rfl)) pe_int (nomark _)) (pss_cons (ps_set (i := 2) sc_law_draw.nd rfl (.inl rfl) (pe_op op_mod (pe_ix (ixL K) (pv 0) pe_int (fun _ _ => rfl)) (pv 1)))
      (pss_cons (ps_asg (pe_op op_fdiv (pe_ix (ixL K) (pv 0) pe_int (fun _ _ => rfl)) (pv 1)) (pg_sub (pv 0) pe_int set_list))
      (pss_one (ps_ret (pv 2))))) pss_nil)
      (pss_cons (ps_set (i := 3) sc_law_draw.nd rfl (.inl rfl) (pe_ix (ixL K) (pv 0) pe_int (fun _ _ => rfl)))
      (pss_cons (ps_asg (pe_op op_add (pv 3) pe_int) (pg_sub (pv 0) pe_int set_list))
      (pss_cons (ps_set (i := 4) sc_law_draw.nd rfl (.inl rfl) (pe_op op_add (pe_op op_mul pe_int (pv 3)) pe_int))
      (pss_cons (ps_if (pt_cmpR (neD K hr.units) (pe_ix (ixL K) (pv 0) pe_int (fun _ _ => rfl)) (pe_lst pa_nil) (nomark _)) (pss_one (ps_set (i := 4) sc_law_draw.nd rfl (.inl rfl) (pe_ix (ixL K) (pe_ix (ixL K) (pv 0) pe_int (fun _ _ => rfl)) (pe_op op_mod (pv 3) (pe_callB (lenQ K) (by rfl) mlen (by decide +kernel) (pa_cons (pe_ix (ixL K) (pv 0) pe_int (fun _ _ => rfl)) pa_nil))) (fun _ _ => rfl)))) pss_nil)
      (pss_cons (ps_if (PW.pt (pw_and (pt_cmpR op_lt (pv 3) (pe_callB (lenQ K) (by rfl) mlen (by decide +kernel) (pa_cons (pe_ix (ixL K) (pv 0) pe_int (fun _ _ => rfl)) pa_nil)) (nomark _)) (pw_and1 (pt_cmpR op_ge (pe_callB call_abs (by rfl) mabs (by decide +kernel) (pa_cons (pv 4) pa_nil)) (pe_op op_pow pe_int pe_int) (nomark _))))) (pss_cons (ps_asg (pe_op op_fdiv (pe_callB call_abs (by rfl) mabs (by decide +kernel) (pa_cons (pv 4) pa_nil)) (pv 1)) (pg_sub (pv 0) pe_int set_list))
      (pss_one (ps_ret (pe_op op_mod (pe_callB call_abs (by rfl) mabs (by decide +kernel) (pa_cons (pv 4) pa_nil)) (pv 1))))) pss_nil)
      (pss_cons (ps_set (i := 5) sc_law_draw.nd rfl (.inl rfl) (pe_op op_mod (pe_op op_pow (pe_op op_add (pe_op op_add (pe_op op_mod (pv 4) pe_int) (pe_op op_mul pe_int (pv 3))) pe_int) pe_int) pe_int))
      (pss_cons (ps_set (i := 5) sc_law_draw.nd rfl (.inl rfl) (pe_op op_mod (pe_op op_pow (pe_op op_add (pe_op op_add (pv 5) (pe_op op_mul (pe_op op_mul pe_int (pv 3)) (pv 3))) pe_int) pe_int) pe_int))
      (pss_one (ps_ret (pe_op op_mod (pe_op op_fdiv (pe_op op_mod (pe_op op_add (pe_op op_mul (pv 5) (pe_op op_add (pe_op op_mul pe_int (pv 3)) pe_int)) pe_int) pe_int) pe_int) (pv 1)))))))))))), ?_⟩
    have ncp : c ≠ p := ne_of hc hp (by
      intro z
      injection z with z
      cases cells with
      | nil => cases z
      | cons x y => injection z with z1 _; cases z1)
    refine ⟨.ref p, rfl, p, _, 2, .int r, rfl, rfl, SqL.of hp, rfl, _, _, rfl, rfl, _, rfl, ite2 (fun e => ?_) (fun e => ?_)⟩
    · refine ⟨.ref p, rfl, p, _, 2, .int r, rfl, rfl, SqL.of hp, rfl, .int m, rfl, r, m, rfl, rfl, m0, ?_⟩
      refine ⟨.ref p, rfl, p, _, 2, .int r, rfl, rfl, SqL.of hp, rfl, .int m, rfl, r, m, rfl, rfl, ⟨m0, by omega⟩, .ref p, rfl, p, _, 2, 2, rfl, rfl, hp, rfl, ?_⟩
      refine ⟨_, rfl, q _ _ (Int.emod_nonneg _ (by omega)) (Int.emod_lt_of_pos _ m0) Kp.at ⟨cells, a, r / m, upd_same, ?_, a0, by omega, Int.ediv_nonneg r0 (by omega), cl⟩⟩
      rw [upd_ne ncp]
      exact hc
    · refine ⟨.ref p, rfl, p, _, 1, .int a, rfl, rfl, SqL.of hp, rfl, ?_⟩
      refine ⟨.int a, rfl, a, 1, rfl, rfl, .ref p, rfl, p, _, 1, 1, rfl, rfl, hp, rfl, ?_⟩
      have hp1 : (upd H p (.lst [.ref c, .int (a + 1), .int r])) p = some (.lst [.ref c, .int (a + 1), .int r]) := upd_same
      have hc1 : (upd H p (.lst [.ref c, .int (a + 1), .int r])) c = some (.lst (cells.map V.int)) := by
        rw [upd_ne ncp]
        exact hc
      -- cell
      refine ⟨.int a, rfl, 81013, a, rfl, rfl, .inl ⟨by decide, by decide⟩, _, 37, rfl, rfl, ?_⟩
      refine ⟨.ref p, rfl, p, _, 0, .ref c, rfl, rfl, SqL.of hp1, rfl, Nat.zero_le _, fun l hl => ?_⟩
      have nlp : l ≠ p := (ne_of_none hp1 hl).symm
      have nlc : l ≠ c := (ne_of_none hc1 hl).symm
      have hl0 : H l = none := by
        have h := hl
        rw [upd_ne nlp] at h
        exact h
      have hp2 : (upd (upd H p (.lst [.ref c, .int (a + 1), .int r])) l (.lst [])) p = some (.lst [.ref c, .int (a + 1), .int r]) := by
        rw [upd_ne nlp.symm]
        exact hp1
      have hc2 : (upd (upd H p (.lst [.ref c, .int (a + 1), .int r])) l (.lst [])) c = some (.lst (cells.map V.int)) := by
        rw [upd_ne nlc.symm]
        exact hc1
      have k2 : Kp p H (upd (upd H p (.lst [.ref c, .int (a + 1), .int r])) l (.lst [])) := Kp.at.put hl0
      refine ⟨.list (cells.map .int), .list [], .lst (SqL.of hc2) (dpInts cells), .lst (SqL.of upd_same) .nil, PySem.W.shaped_ints _, by decide, _, rfl, ite2 (fun e1 => ?_) (fun e1 => ?_)⟩
      have hne : 0 < cells.length := by
        cases cells with
        | nil => cases e1
        | cons x y => exact Nat.succ_pos _
      have hl1 : ((cells.map V.int).length : Int) = cells.length := by rw [List.length_map]
      obtain ⟨z, _, hat⟩ := atI_ints (ns := cells) (Int.emod_nonneg a (show ((cells.map V.int).length : Int) ≠ 0 by omega)) (by
        have := Int.emod_lt_of_pos a (show (0 : Int) < ((cells.map V.int).length : Int) by omega)
        omega)
      have hl2 : (0 : Int) < ((cells.map V.int).length : Int) := by omega
      refine ⟨.ref p, rfl, p, _, 0, .ref c, rfl, rfl, SqL.of hp2, rfl, .int a, rfl, .ref p, rfl, p, _, 0, .ref c, rfl, rfl, SqL.of hp2, rfl, c, _, rfl, .inl (SqL.of hc2), _, _, rfl, rfl, hl2, c, _, _, _, rfl, rfl, SqL.of hc2, hat, ?_⟩
      all_goals
        refine ⟨.int a, rfl, .ref p, rfl, p, _, 0, .ref c, rfl, rfl, SqL.of hp2, rfl, c, _, rfl, .inl (SqL.of hc2), _, _, rfl, rfl, _, rfl, ite2 (fun e2 => ?_) (fun e2 => ?_)⟩
        refine ⟨_, rfl, _, rfl, 10, 18, rfl, rfl, ⟨by decide, by decide, by decide⟩, _, _, rfl, rfl, _, rfl, ite2 (fun e3 => ?_) (fun e3 => ?_)⟩
        · refine ⟨_, rfl, _, rfl, .int m, rfl, _, m, rfl, rfl, ⟨m0, by omega⟩, .ref p, rfl, p, _, 2, 2, rfl, rfl, hp2, rfl, ?_⟩
          refine ⟨_, rfl, _, rfl, .int m, rfl, _, m, rfl, rfl, m0, q _ _ (Int.emod_nonneg _ (by omega)) (Int.emod_lt_of_pos _ m0) (k2.trans Kp.at) ⟨cells, a + 1, _, upd_same, ?_, by omega, by omega, Int.ediv_nonneg ?_ (by omega), cl⟩⟩
          · rw [upd_ne ncp]
            exact hc2
          · split <;> omega
        all_goals
          refine ⟨_, rfl, _, 2147483579, rfl, rfl, (show (0 : Int) < 2147483579 by decide), .int a, rfl, 47017, a, rfl, rfl, .inl ⟨by decide, by decide⟩, _, _, rfl, rfl, _, 41, rfl, rfl, _, 3, rfl, rfl, ⟨by decide, by decide, draw_b1 a0 (by omega)⟩, _, 2147483629, rfl, rfl, (show (0 : Int) < 2147483629 by decide), ?_⟩
          refine ⟨_, rfl, .int a, rfl, 92003, a, rfl, rfl, .inl ⟨by decide, by decide⟩, .int a, rfl, _, a, rfl, rfl, .inl ⟨by omega, by omega⟩, _, _, rfl, rfl, _, 19, rfl, rfl, _, 5, rfl, rfl, ⟨by decide, by decide, draw_b3 _ a0 (by omega)⟩, _, 2147483549, rfl, rfl, (show (0 : Int) < 2147483549 by decide), ?_⟩
          refine ⟨_, rfl, .int a, rfl, 2, a, rfl, rfl, .inl ⟨by decide, by decide⟩, _, 23, rfl, rfl, _, _, rfl, rfl, .inl (mod_b _ 2147483549 (by decide) (by decide)), _, 67, rfl, rfl, _, 2147483647, rfl, rfl, (show (0 : Int) < 2147483647 by decide), _, 16, rfl, rfl, ⟨by decide, by decide⟩, .int m, rfl, _, m, rfl, rfl, m0, q _ _ (Int.emod_nonneg _ (by omega)) (Int.emod_lt_of_pos _ m0) k2 ⟨cells, a + 1, r, hp2, hc2, by omega, by omega, r0, cl⟩⟩
abbrev CDraw (P : Program) (w : World) (K : PySem.W.Frag) (mg : Str → Option Value) (base : Heap) : Prop := Ca P w K mg base 1 "_law_draw" ["_law_pen", "_law_upto"] spDraw
abbrev s_law_worth : Stmt := topS 39
theorem sc_law_worth : FnScope ["_law_pen"] ["_law_pen"] (defScope s_law_worth) :=
  ⟨rfl, rfl, rfl, by decide +kernel, rfl, by decide +kernel, by decide +kernel⟩
def spWorth : Sp := fun vs H Q _ => ∃ (p c : Addr) (n : Nat), vs = [.ref p] ∧ Pen H p c n ∧ n + 3 < 1000000 ∧
  ∀ (i : Int) H', -99 ≤ i → i ≤ 99 → Kp p H H' → Pen H' p c (n + 4) → Q (.int i) H'
theorem ok_worth {f : Addr} {fd : FuncData} (F : Fun K "_law_worth" "_law_worth" s_law_worth f fd) (c_law_draw : CDraw P w K mg base) : FnOk P w K mg base CX0 2 f fd ["_law_pen"] spWorth := by
  refine F.ok sc_law_worth (fun vs H Q E h => ?_) (fun cdv A outer s H vs Q E hr h => ?_)
  · obtain ⟨p, c, n, rfl, _⟩ := h
    rfl
  · obtain ⟨p, c, n, rfl, hP, hn, q⟩ := h
    refine ⟨_, (pss_one (ps_ret (pe_ix (ixL K) (pe_lst (pa_cons pe_int (pa_cons (pe_un un_neg pe_int) (pa_cons (pe_un un_neg pe_int) (pa_cons pe_int (pa_cons pe_int (pa_cons (pe_op op_sub (pe_ca c_law_draw (hr.mono (by decide)) (by rfl) (pa_cons (pv 0) (pa_cons pe_int pa_nil))) pe_int) (pa_cons (pe_un un_neg pe_int) (pa_cons (pe_op op_sub (pe_ca c_law_draw (hr.mono (by decide)) (by rfl) (pa_cons (pv 0) (pa_cons pe_int pa_nil))) pe_int) pa_nil))))))))) (pe_ca c_law_draw (hr.mono (by decide)) (by rfl) (pa_cons (pv 0) (pa_cons pe_int pa_nil))) (fun _ _ => rfl)))), ?_⟩
    refine ⟨1, rfl, 2, rfl, _, rfl, p, c, 9, n, rfl, hP, by omega, by decide, by decide, fun r1 H1 r1a r1b k1 hP1 => ⟨r1, 4, rfl, rfl, 3, rfl, ?_⟩⟩
    refine ⟨_, rfl, p, c, 199, n + 1, rfl, hP1, by omega, by decide, by decide, fun r3 H3 r3a r3b k3 hP3 => ⟨r3, 99, rfl, rfl, ?_⟩⟩
    refine ⟨szL (show 8 ≤ 1000000 by decide), fun l hl => ?_⟩
    refine ⟨_, rfl, p, c, 8, n + 2, rfl, hP3.new hl, by omega, by decide, by decide, fun r4 H4 r4a r4b k4 hP4 => ?_⟩
    obtain ⟨z, hz, hat⟩ := atI_ints (ns := [0, -1, -2, 1, 2, r1 - 4, -3, r3 - 99]) r4a r4b
    have hz2 : -99 ≤ z ∧ z ≤ 99 := by
      simp only [List.mem_cons, List.not_mem_nil, or_false] at hz
      omega
    exact ⟨l, _, r4, _, rfl, rfl, SqL.of (k4 _ _ (hP3.ne hl).1 upd_same), hat, q z _ hz2.1 hz2.2 ((k1.trans k3).trans ((Kp.new hl).trans k4)) (hP4.mono (by omega))⟩
abbrev CWorth (P : Program) (w : World) (K : PySem.W.Frag) (mg : Str → Option Value) (base : Heap) : Prop := Ca P w K mg base 2 "_law_worth" ["_law_pen"] spWorth
end
end Pf


namespace Pf
open PySem PySem.Spec PyProof.Rows L2
theorem sum_len_le {m : Nat} : ∀ {ys : List Str}, (∀ y ∈ ys, y.length ≤ m) → (ys.map (·.length)).sum ≤ ys.length * m
  | [], _ => Nat.zero_le _
  | y :: r, h => by
    have h1 := h y (List.mem_cons_self ..)
    have h2 := sum_len_le (ys := r) fun x hx => h x (List.mem_cons_of_mem _ hx)
    rw [List.map_cons, List.sum_cons, List.length_cons, Nat.succ_mul]
    omega
theorem fits_join {ys : List Str} {k m : Nat} (hk : ys.length ≤ k) (h : ∀ y ∈ ys, y.length ≤ m) (hm : k * m ≤ 1000000) : (ys.map (·.length)).sum + ys.length * ("" : Str).length ≤ 16777216 := by
  have h1 := sum_len_le h
  have h2 : ys.length * m ≤ k * m := Nat.mul_le_mul_right m hk
  have h3 : ("" : Str).length = 0 := by decide +kernel
  rw [h3, Nat.mul_zero]
  omega
def Of (L x : Str) : Prop := ∀ c ∈ x.cps.toList, c ∈ L.cps.toList
theorem Of.small {L x : Str} (h : Of L x) (hs : Small L) : Small x := fun c hc => hs c (h c hc)
theorem Of.app {L a b : Str} (ha : Of L a) (hb : Of L b) : Of L (a ++ b) := fun c h => by
  rw [Str.cps_append, Array.toList_append, List.mem_append] at h
  exact h.elim (ha c) (hb c)
theorem of_nil (L : Str) : Of L "" := by
  have : ("" : Str).cps.toList = [] := by decide +kernel
  intro c hc
  rw [this] at hc
  cases hc
theorem sjoin_of {L : Str} : ∀ {ys : List Str}, (∀ y ∈ ys, Of L y) → Of L (Str.join "" ys)
  | [], _ => of_nil L
  | [y], h => h y (List.mem_cons_self ..)
  | y :: z :: r, h => ((h y (List.mem_cons_self ..)).app (of_nil L)).app (sjoin_of (ys := z :: r) fun x hx => h x (List.mem_cons_of_mem _ hx))
theorem cutS_of {L x : Str} (h : Of L x) (lo hi : Option Int) : Of L (cutS x lo hi) := fun c hc => by
  unfold cutS at hc
  exact h c (List.mem_of_mem_drop (List.mem_of_mem_take hc))
theorem cutS_one (x : Str) : (cutS x none (some 1)).length ≤ 1 := by
  show (((x.cps.toList.drop (HT.sIx x.length 0 none)).take (HT.sIx x.length x.length (some 1) - HT.sIx x.length 0 none)).toArray).size ≤ 1
  rw [List.size_toArray, List.length_take]
  have : HT.sIx x.length x.length (some ((1 : Nat) : Int)) = min 1 x.length := HT.sIx_nat _ _ _
  have h2 : HT.sIx x.length x.length (some (1 : Int)) = min 1 x.length := this
  rw [h2]
  omega
end Pf


namespace Pf
open PySem PySem.Spec PyProof.Rows L2
/-! ### dict(zip(a, b)) of two tuples -/
section
variable {P : Program} {w : World} {A : Around} {E : Value → Shared → Prop} {s : Shared} {q U O G j1 j2 m1 m2 : Addr} {f : Bool} {og : Obj} {k1 k2 : Nat} {us vs : Array Value}
theorem zn_item {u v : Value} {R : Value → Shared → Prop} (D : ZipApart q U O j1 j2 m1 m2) (hq : IsZipHeld s.heap q U O G f) (hG : s.heap.get? G = some og) (hU : IsPair s.heap U (.ref j1) (.ref j2)) (t1 : s.heap.IsTupleIter j1 m1 k1) (t2 : s.heap.IsTupleIter j2 m2 k2) (b1 : s.heap.IsTuple m1 us) (b2 : s.heap.IsTuple m2 vs) (eu : us[k1]? = some u) (ev : vs[k2]? = some v)
    (next : ∀ h', IsZipHeld h' q U O G true → h'.IsTupleIter j1 m1 (k1 + 1) → h'.IsTupleIter j2 m2 (k2 + 1) → IsPair h' s.heap.objs.size u v → (∀ c o, c ≠ q → c ≠ j1 → c ≠ j2 → s.heap.get? c = some o → h'.get? c = some o) → R (.ref s.heap.objs.size) { s with heap := h' }) :
    wpAny (model P w) A (Builtin.«zip.__next__» ⟨[.ref q], []⟩) (fun fin s' => ∃ v, fin = .done (.ret v) ∧ R v s') E s := by
  show wpAny _ _ (field (.ref q) 2 >>= _) _ _ _
  refine wpAny_bind (wpAny_field hq rfl (x := .bool false) rfl ?_)
  show wpAny _ _ (field (.ref q) 3 >>= _) _ _ _
  refine wpAny_bind (wpAny_field hq rfl (x := .ref U) rfl (wpAny_bind (wpAny_seqItems hU rfl ?_)))
  show wpAny _ _ (Builtin.SmallTypes.ownedTupleIsFree (.ref q) >>= _) _ _ _
  refine wpAny_bind (wpAny_tupleHeld_zip hq hG fun g1 q1 e1 => ?_)
  simp only [Bool.false_eq_true, if_false]; refine wpAny_bind ?_; rw [← Array.forIn_toList]; simp only [List.forIn_cons, List.forIn_nil]
  refine wpAny_bind (wpAny_bind (wpAny_holding ?_))
  show wpAny _ _ (Builtin.SmallTypes.nextOf (.ref j1) >>= _) _ _ _
  refine wpAny_bind (RZ.nextOf_tuple_item (s := { s with heap := g1 }) (t1.extBut e1.extBut D.i1z) (b1.extBut e1.extBut D.l1z) eu fun g2 t1b e2 => wpAny_pure (wpAny_pure ?_))
  refine wpAny_bind (wpAny_bind (wpAny_holding ?_))
  show wpAny _ _ (Builtin.SmallTypes.nextOf (.ref j2) >>= _) _ _ _
  refine wpAny_bind (RZ.nextOf_tuple_item (s := { s with heap := g2 }) ((t2.extBut e1.extBut D.i2z).extBut e2.extBut D.i12.symm) ((b2.extBut e1.extBut D.l2z).extBut e2.extBut D.l2i1) ev fun g3 t2b e3 => wpAny_pure (wpAny_pure (wpAny_pure ?_)))
  show wpAny _ _ (newTuple [u, v] >>= _) _ _ _
  refine wpAny_bind (wpAny_newTuple (wpAny_pure ⟨_, rfl, ?_⟩))
  have sz : g3.objs.size = s.heap.objs.size := by rw [e3.1, e2.1, e1.1]
  have q3 : IsZipHeld g3 q U O G true := e3.extBut _ _ D.i2z.symm (e2.extBut _ _ D.i1z.symm q1)
  have pr : IsPair (g3.push { cls := .type "tuple", data := .seq #[u, v] }) g3.objs.size u v := Heap.get?_push_size _ rfl
  show R (.ref g3.objs.size) _
  rw [sz] at pr ⊢
  exact next _ (Heap.get?_push_of_some _ q3) ((t1b.extBut e3.extBut D.i12).at fun o e => Heap.get?_push_of_some _ e) (t2b.at fun o e => Heap.get?_push_of_some _ e) pr fun c o c1 c2 c3 e => Heap.get?_push_of_some _ (e3.extBut _ _ c3 (e2.extBut _ _ c2 (e1.extBut _ _ c1 e)))
theorem zn_end {R : Fin → Shared → Prop} (hh : A.handled = none) (D : ZipApart q U O j1 j2 m1 m2) (hq : IsZipHeld s.heap q U O G f) (hG : s.heap.get? G = some og) (hU : IsPair s.heap U (.ref j1) (.ref j2)) (t1 : s.heap.IsTupleIter j1 m1 k1) (b1 : s.heap.IsTuple m1 us) (eu : us[k1]? = none)
    (next : ∀ h' e, (∀ c o, c ≠ q → c ≠ j1 → s.heap.get? c = some o → h'.get? c = some o) → (∃ o, h'.get? e = some o ∧ o.cls = .type "StopIteration") → E (.ref e) { s with heap := h' }) :
    wpAny (model P w) A (Builtin.«zip.__next__» ⟨[.ref q], []⟩) R E s := by
  show wpAny _ _ (field (.ref q) 2 >>= _) _ _ _
  refine wpAny_bind (wpAny_field hq rfl (x := .bool false) rfl ?_)
  show wpAny _ _ (field (.ref q) 3 >>= _) _ _ _
  refine wpAny_bind (wpAny_field hq rfl (x := .ref U) rfl (wpAny_bind (wpAny_seqItems hU rfl ?_)))
  show wpAny _ _ (Builtin.SmallTypes.ownedTupleIsFree (.ref q) >>= _) _ _ _
  refine wpAny_bind (wpAny_tupleHeld_zip hq hG fun g1 q1 e1 => ?_)
  simp only [Bool.false_eq_true, if_false]; refine wpAny_bind ?_; rw [← Array.forIn_toList]; simp only [List.forIn_cons, List.forIn_nil]
  refine wpAny_bind (wpAny_bind (wpAny_holding ?_))
  show wpAny _ _ (Builtin.SmallTypes.nextOf (.ref j1) >>= _) _ _ _
  exact wpAny_bind (RZ.nextOf_tuple_end (s := { s with heap := g1 }) hh (t1.extBut e1.extBut D.i1z) (b1.extBut e1.extBut D.l1z) eu fun g2 e e2 he => next g2 e (fun c o c1 c2 x => e2 _ _ c2 (e1.extBut _ _ c1 x)) he)
theorem zp_item {u v : Value} {R : Option Value → Shared → Prop} (D : ZipApart q U O j1 j2 m1 m2) (hq : IsZipHeld s.heap q U O G f) (hG : s.heap.get? G = some og) (hU : IsPair s.heap U (.ref j1) (.ref j2)) (t1 : s.heap.IsTupleIter j1 m1 k1) (t2 : s.heap.IsTupleIter j2 m2 k2) (b1 : s.heap.IsTuple m1 us) (b2 : s.heap.IsTuple m2 vs) (eu : us[k1]? = some u) (ev : vs[k2]? = some v)
    (next : ∀ h', IsZipHeld h' q U O G true → h'.IsTupleIter j1 m1 (k1 + 1) → h'.IsTupleIter j2 m2 (k2 + 1) → IsPair h' s.heap.objs.size u v → (∀ c o, c ≠ q → c ≠ j1 → c ≠ j2 → s.heap.get? c = some o → h'.get? c = some o) → R (some (.ref s.heap.objs.size)) { s with heap := h' }) :
    wpAny (model P w) A (pyNext (.ref q)) R E s := by
  have ty : s.TypeIs (.ref q) "zip" := ⟨_, hq, rfl⟩
  unfold pyNext
  exact wpAny_bind (wpAny_attempt (wpAny_callSpecial?_slot (name := Str.ofString "__next__") ty F.slot_zip_next (wpAny_call_entry F.slot_zip_next ty F.entry_zip_next (zn_item D hq hG hU t1 t2 b1 b2 eu ev fun h' a1 a3 a4 a5 a7 => wpAny_pure (next h' a1 a3 a4 a5 a7)) (F.args_zip_next_1 _))))
theorem zp_end {R : Option Value → Shared → Prop} (hh : A.handled = none) (D : ZipApart q U O j1 j2 m1 m2) (hq : IsZipHeld s.heap q U O G f) (hG : s.heap.get? G = some og) (hU : IsPair s.heap U (.ref j1) (.ref j2)) (t1 : s.heap.IsTupleIter j1 m1 k1) (b1 : s.heap.IsTuple m1 us) (eu : us[k1]? = none)
    (next : ∀ h', (∀ c o, c ≠ q → c ≠ j1 → s.heap.get? c = some o → h'.get? c = some o) → R none { s with heap := h' }) : wpAny (model P w) A (pyNext (.ref q)) R E s := by
  have ty : s.TypeIs (.ref q) "zip" := ⟨_, hq, rfl⟩
  unfold pyNext
  refine wpAny_bind (wpAny_attempt (wpAny_callSpecial?_slot (name := Str.ofString "__next__") ty F.slot_zip_next (wpAny_call_entry F.slot_zip_next ty F.entry_zip_next (zn_end hh D hq hG hU t1 b1 eu fun h' e kp ⟨o, ho, hc⟩ => ?_) (F.args_zip_next_1 _))))
  exact wpAny_bind (wpAny_isInstance (T := "StopIteration") (b := true) ⟨o, ho, hc⟩ isSubtype_stop (wpAny_pure (next _ kp)))
end
theorem zipT_arg {P : Program} {w : World} (q U O j1 j2 m1 m2 : Addr) (D : ZipApart q U O j1 j2 m1 m2) (us vs : Array Value) (hl : us.size = vs.size) :
    PairArg P w "zip" q [q, U, O, j1, j2, m1, m2] [q, O, j1, j2] us.size (fun i k v => us[i]? = some k ∧ vs[i]? = some v)
      (fun h => IsZip h q U O .none ∧ IsPair h U (.ref j1) (.ref j2) ∧ (∃ a b, IsPair h O a b) ∧ h.IsTupleIter j1 m1 0 ∧ h.IsTupleIter j2 m2 0 ∧ h.IsTuple m1 us ∧ h.IsTuple m2 vs) where
  type := fun s ok => ⟨_, ok.1, rfl⟩
  notDict := by decide
  keep := fun h h' ⟨z0, z1, ⟨a, b, z2⟩, z3, z4, z5, z6⟩ k => ⟨k _ _ z0, k _ _ z1, ⟨a, b, k _ _ z2⟩, z3.at fun o e => k _ o e, z4.at fun o e => k _ o e, z5.at fun o e => k _ o e, z6.at fun o e => k _ o e⟩
  there := fun h ⟨z0, z1, ⟨a, b, z2⟩, ⟨_, z3, _⟩, ⟨_, z4, _⟩, ⟨_, z5, _⟩, ⟨_, z6, _⟩⟩ c hc => by
    simp only [List.mem_cons, List.not_mem_nil, or_false] at hc
    rcases hc with rfl | rfl | rfl | rfl | rfl | rfl | rfl
    · exact ⟨_, z0⟩
    · exact ⟨_, z1⟩
    · exact ⟨_, z2⟩
    · exact ⟨_, z3⟩
    · exact ⟨_, z4⟩
    · exact ⟨_, z5⟩
    · exact ⟨_, z6⟩
  sub := fun b hb => by simp only [List.mem_cons, List.not_mem_nil, or_false] at hb ⊢; rcases hb with rfl | rfl | rfl | rfl <;> simp
  noKeys := fun A s Q E hA ok h => getAttrOr_miss_zip ok.1 rfl rfl rfl zip_no_keys (by decide +kernel) hA h
  iter := fun A s d Q E hA ⟨z0, z1, ⟨a, b, z2⟩, z3, z4, z5, z6⟩ hd hdf h => by
    simp only [List.mem_cons, List.not_mem_nil, or_false, not_or] at hdf
    obtain ⟨d0, d1, d2, d3, d4, d5, d6⟩ := hdf
    refine wpAny_pyIter_zip z0 (h q [q, O, j1, j2] (fun i h => IsPair h U (.ref j1) (.ref j2) ∧ h.IsTupleIter j1 m1 i ∧ h.IsTupleIter j2 m2 i ∧ h.IsTuple m1 us ∧ h.IsTuple m2 vs ∧ ((IsZip h q U O .none ∧ ∃ a b, IsPair h O a b) ∨ ∃ G f og, IsZipHeld h q U O G f ∧ h.get? G = some og ∧ G ≠ q ∧ G ≠ j1 ∧ G ≠ j2 ∧ G ≠ d)) s.heap s.toks ?_ ⟨z1, z3, z4, z5, z6, .inl ⟨z0, a, b, z2⟩⟩ (fun _ _ e => e) fun b hb => .inl hb)
    refine { off := fun hm => ?_, frame := fun i g1 g2 st k => ?_, item := fun i s1 Q1 E1 hi st hds next => ?_, done := fun s1 Q1 E1 st next => ?_ }
    · simp only [List.mem_cons, List.not_mem_nil, or_false] at hm
      rcases hm with e | e | e | e
      · exact d0 e
      · exact d2 e
      · exact d3 e
      · exact d4 e
    · obtain ⟨y1, y3, y4, y5, y6, y⟩ := st
      refine ⟨k _ _ (Ne.symm d1) y1, y3.at fun o e => k _ o (Ne.symm d3) e, y4.at fun o e => k _ o (Ne.symm d4) e, y5.at fun o e => k _ o (Ne.symm d5) e, y6.at fun o e => k _ o (Ne.symm d6) e, ?_⟩
      rcases y with ⟨y0, a, b, y2⟩ | ⟨G, f, og, y0, yG, r1, r2, r3, r4⟩
      · exact .inl ⟨k _ _ (Ne.symm d0) y0, a, b, k _ _ (Ne.symm d2) y2⟩
      · exact .inr ⟨G, f, og, k _ _ (Ne.symm d0) y0, k _ _ r4 yG, r1, r2, r3, r4⟩
    · obtain ⟨y1, y3, y4, y5, y6, y⟩ := st
      have eu := Array.getElem?_eq_getElem hi
      have ev := Array.getElem?_eq_getElem (hl ▸ hi : i < vs.size)
      have lt : ∀ {c o}, s1.heap.get? c = some o → s1.heap.objs.size ≠ c := fun e => Nat.ne_of_gt (Heap.lt_size e)
      have n1 : s1.heap.objs.size ≠ j1 := let ⟨_, e, _⟩ := y3; lt e
      have n2 : s1.heap.objs.size ≠ j2 := let ⟨_, e, _⟩ := y4; lt e
      rcases y with ⟨y0, a, b, y2⟩ | ⟨G, f, og, y0, yG, r1, r2, r3, r4⟩
      · refine RZ.pyNext_zipT_item D y0 y1 y2 y3 y4 y5 y6 eu ev fun h' a1 a2 a3 a4 a5 a6 k => ?_
        refine next s1.heap.objs.size _ _ h' s1.toks ⟨eu, ev⟩ (.inl ⟨_, a5, rfl, _, rfl⟩) ⟨k _ _ D.TIz D.TITO D.TIi1 D.TIi2 y1, a3, a4, y5.at fun o e => k _ o D.l1z D.l1TO D.l1i1 D.l1i2 e, y6.at fun o e => k _ o D.l2z D.l2TO D.l2i1 D.l2i2 e, .inr ⟨s1.heap.objs.size, false, _, a1, a5, lt y0, n1, n2, Nat.ne_of_gt hds⟩⟩ fun c o hc e => ?_
        simp only [List.mem_cons, List.not_mem_nil, or_false, not_or] at hc
        exact k c o hc.1 hc.2.1 hc.2.2.1 hc.2.2.2 e
      · refine zp_item D y0 yG y1 y3 y4 y5 y6 eu ev fun h' a1 a3 a4 a5 k => ?_
        refine next s1.heap.objs.size _ _ h' s1.toks ⟨eu, ev⟩ (.inl ⟨_, a5, rfl, _, rfl⟩) ⟨k _ _ D.TIz D.TIi1 D.TIi2 y1, a3, a4, y5.at fun o e => k _ o D.l1z D.l1i1 D.l1i2 e, y6.at fun o e => k _ o D.l2z D.l2i1 D.l2i2 e, .inr ⟨G, true, og, a1, k _ _ r1 r2 r3 yG, r1, r2, r3, r4⟩⟩ fun c o hc e => ?_
        simp only [List.mem_cons, List.not_mem_nil, or_false, not_or] at hc
        exact k c o hc.1 hc.2.2.1 hc.2.2.2 e
    · obtain ⟨y1, y3, y4, y5, y6, y⟩ := st
      have eu : us[us.size]? = none := Array.getElem?_eq_none (Nat.le_refl _)
      rcases y with ⟨y0, a, b, y2⟩ | ⟨G, f, og, y0, yG, r1, r2, r3, r4⟩
      · refine RZ.pyNext_zipT_end hA D y0 y1 y2 y3 y4 y5 y6 (.inl eu) fun h' k => next h' s1.toks fun c o hc e => ?_
        simp only [List.mem_cons, List.not_mem_nil, or_false, not_or] at hc
        exact k c o hc.1 hc.2.1 hc.2.2.1 hc.2.2.2 e
      · refine zp_end hA D y0 yG y1 y3 y5 eu fun h' k => next h' s1.toks fun c o hc e => ?_
        simp only [List.mem_cons, List.not_mem_nil, or_false, not_or] at hc
        exact k c o hc.1 hc.2.2.1 e
theorem kv_zip {P : Program} {w : World} : ∀ {kvs : List (Key × V)} {its its2 : List Value}, Vals (kvs.map fun x => kV x.1) its → Vals (kvs.map (·.2)) its2 → ∃ prs : List (Key × Value), KV kvs prs ∧ prs.length = kvs.length ∧ ∀ (i : Nat) (key v : Value), its[i]? = some key → its2[i]? = some v → ∃ k, prs[i]? = some (k, v) ∧ (mixKind P w).is k key = true
  | [], _, _, r1, r2 => ⟨[], .nil, rfl, fun i key v e _ => by
      cases r1
      cases e⟩
  | (k, y) :: rest, _, _, r1, r2 => by
    rw [List.map_cons] at r1 r2
    cases r1 with
    | cons a1 t1 =>
      cases r2 with
      | cons a2 t2 =>
        obtain ⟨prs, r, hl, hp⟩ := kv_zip (P := P) (w := w) t1 t2
        refine ⟨(k, _) :: prs, .cons ⟨rfl, a2⟩ r, by rw [List.length_cons, List.length_cons, hl], fun i key v e e2 => ?_⟩
        cases i with
        | zero =>
          rw [List.getElem?_cons_zero] at e e2
          cases e
          cases e2
          exact ⟨k, rfl, kV_is a1⟩
        | succ i =>
          rw [List.getElem?_cons_succ] at e e2
          exact hp i key v e e2
def tDz (K : PySem.W.Frag) (ta : TA) : TE := fun σ H Q => ta σ H fun vs H1 => ∃ (a b : Addr) (kvs : List (Key × V)), vs = [.ref a, .ref b] ∧ SqT K H1 a (kvs.map fun x => kV x.1) ∧ SqT K H1 b (kvs.map (·.2)) ∧ ∀ p, H1 p = none → Q (.ref p) (upd H1 p (.dK (mergeK [] kvs)))
theorem pe_dictZip {X : Cx} {e e2 : Expr} {ta : TA} {p p2 pos pos2 : Pos} (hgd : Gl X "dict") (hmd : X.mg "dict" = none) (hg : Gl X "zip") (hm : X.mg "zip" = none) (hcalm : X.calm = true) (ha : PA X [e, e2] ta)
    (na : starEach [.Call (.Name "zip" p2) [e, e2] [] pos2] X.env = (false, eval (.Call (.Name "zip" p2) [e, e2] [] pos2) X.env) :: starEach [] X.env := by rfl)
    (hs : starEach [e, e2] X.env = (false, eval e X.env) :: starEach [e2] X.env := by rfl) (hpl : (backTo pos2 (starEach [e2] X.env)).any (·.1) = false := by rfl) :
    PE X (.Call (.Name "dict" p) [.Call (.Name "zip" p2) [e, e2] [] pos2] [] pos) (tDz X.K ta) := by
  refine ⟨fun pins s σ H Q I h => ?_⟩
  refine Call_ (ld_blt I hgd hmd PyProof.Rows.boot_dict (PyProof.Rows.callWith_type1 (args_cons (Call_ (ld_blt I hg hm PyProof.Rows.boot_zip (PyProof.Rows.callWith_type1 (thn (ha.run pos2 pins s σ H _ I h) fun us s1 ⟨vs, H1, I1, r1, q1⟩ => ?_) hs hpl))) na) na))
  obtain ⟨a, b, kvs, rfl, ha1, hb1, q⟩ := q1
  cases r1 with
  | cons ra rr =>
    cases rr with
    | cons rb rr =>
      cases rr
      cases ra
      cases rb
      obtain ⟨its, v1, p1, hz1⟩ := I1.tuple ha1
      obtain ⟨its2, v2, p2', hz2⟩ := I1.tuple hb1
      obtain ⟨o1, ho1, y1⟩ := id p1
      obtain ⟨o2, ho2, y2⟩ := id p2'
      obtain ⟨prs, rel, hl, hp⟩ := kv_zip (P := X.prog) (w := X.w) v1 v2
      have l1 : its.length = kvs.length := by
        have := v1.length
        rw [List.length_map] at this
        exact this.symm
      have l2 : its2.length = kvs.length := by
        have := v2.length
        rw [List.length_map] at this
        exact this.symm
      rw [List.length_map] at hz1
      refine RZ.call_zipT (show s1.heap.IsTuple a its.toArray from p1) (show s1.heap.IsTuple b its2.toArray from p2') fun h' hz hTI hTO t1 t2 hsz hk => args_nil ?_
      have D := PySem.W.ktu_apart s1.heap.objs.size a b (Heap.lt_size ho1) (Heap.lt_size ho2)
      refine PySem.call_dict_pairs (knd := mixKind X.prog X.w) (kvs := prs) (zipT_arg _ _ _ _ _ a b D its.toArray its2.toArray (by rw [List.size_toArray, List.size_toArray, l1, l2])) (I1.ok.hd hcalm) ⟨hz, hTI, ⟨_, _, hTO⟩, t1, t2, ⟨o1, hk _ _ ho1, y1⟩, ⟨o2, hk _ _ ho2, y2⟩⟩ ⟨?_, fun i key v e => ?_⟩ ?_ fun h2 tk hd hk2 => ?_
      · rw [hl, List.size_toArray, l1]
      · exact hp i key v (by simpa using e.1) (by simpa using e.2)
      · rw [List.size_toArray, l1]
        exact hz1
      · have keep : ∀ c o, s1.heap.get? c = some o → h2.get? c = some o := fun c o e => by
          have hlt := Heap.lt_size e
          refine hk2 c o (fun hm => ?_) (hk c o e)
          simp only [List.mem_cons, List.not_mem_nil, or_false] at hm
          rcases hm with z | z | z | z
          · exact Nat.not_lt.mpr (Nat.le_add_right _ _) (z ▸ hlt)
          · exact Nat.not_lt.mpr (Nat.le_add_right _ _) (z ▸ hlt)
          · exact Nat.not_lt.mpr (Nat.le_refl _) (z ▸ hlt)
          · exact Nat.not_lt.mpr (Nat.le_add_right _ _) (z ▸ hlt)
        have hle : s1.heap.objs.size ≤ h'.objs.size := by
          rw [hsz]
          exact Nat.le_add_right _ _
        have hm : (h'.objs.size == sysModules) = false := beq_eq_false_iff_ne.mpr (Nat.ne_of_gt (Nat.lt_of_lt_of_le I1.big hle))
        have hlen : (mergeK [] kvs).length ≤ sizeLine := by
          refine Nat.le_trans (length_mergeK kvs []) ?_
          rw [List.length_nil, Nat.zero_add]
          exact hz1
        exact ⟨.ref h'.objs.size, upd H1 h'.objs.size (.dK (mergeK [] kvs)), I1.laid (t' := tk) keep hle (show ObjOk X.prog X.w _ _ _ (.dK (mergeK [] kvs)) from ⟨hlen, hm, merged [] prs, KV.merge rel .nil, hd⟩), rfl, q _ (I1.hok.fresh hle)⟩
end Pf


namespace Pf
open PySem PySem.Spec PyProof.Rows L2
/-! ### sum(lists, start) -/
abbrev LiO (its : List Value) (n : Nat) : Obj := { cls := .type "list", dict := none, data := .seq its.toArray n, slots := #[] }
section
variable {P : Program} {w : World} {A : Around} {R : Result → Shared → Prop} {I l S : Addr} {items : Array Value}
theorem suml_loop (hh : A.in1.handled = none) (nIS : I ≠ S) (nIl : l ≠ I) (nSl : l ≠ S) : ∀ (rest : List (Addr × List Value)) (i : Nat) (s : Shared) (t : Addr) (acc : List Value) (c1 ct : Nat), items.size = i + rest.length → s.heap.IsListIter I l i → s.heap.IsList l items →
    (∀ (j : Nat) (x : Addr × List Value), rest[j]? = some x → items[i + j]? = some (.ref x.1) ∧ x.1 ≠ I ∧ x.1 ≠ S ∧ ∃ c, s.heap.get? x.1 = some (LiO x.2 c)) → s.heap.get? S = some (LiO [.ref t] c1) → s.heap.get? t = some (LiO acc ct) → t ≠ I → t ≠ S →
    acc.length + (rest.map (·.2)).flatten.length ≤ sizeLine →
    (∀ h' tk t' c', h'.get? t' = some (LiO (acc ++ (rest.map (·.2)).flatten) c') → (rest = [] → t' = t) → (rest ≠ [] → s.heap.objs.size ≤ t') → (∀ b o, b ≠ I → b ≠ S → s.heap.get? b = some o → h'.get? b = some o) → R (.ok (.ret (.ref t'))) { s with heap := h', toks := tk }) →
    codeAny (model P w) A (.builtin "sum.loop" ⟨[.ref I, .ref S, rawInt 2, rawInt 0], []⟩) R s
  | [], i, s, t, acc, c1, ct, hn, it, hl, _, hS, ht, _, _, _, hR => by
    refine codeAny_builtin F.entry_sum_loop ?_; rw [Around.under_plainId F.plain_sum_loop _]
    show wpAny _ A.in1 (seqItems? (.ref S) >>= _) _ _ _
    refine wpAny_bind (wpAny_seqItems hS rfl ?_)
    show wpAny _ A.in1 (tryCatch (pyNext (.ref I)) _ >>= _) _ _ _
    refine wpAny_bind (wpAny_tryCatch (wpAny_pyNext_list_end hh it hl (Array.getElem?_eq_none (by rw [hn]; exact Nat.le_refl _)) fun h' he => ?_))
    exact wpAny_pure (hR h' s.toks t ct (by rw [List.map_nil, List.flatten_nil, List.append_nil]; exact he t _ (by assumption) ht) (fun _ => rfl) (fun z => absurd rfl z) fun b o n1 _ e => he b o n1 e)
  | (b, ys) :: rest, i, s, t, acc, c1, ct, hn, it, hl, hx, hS, ht, ntI, ntS, hz, hR => by
    obtain ⟨e0, nbI, nbS, cb, hb⟩ := hx 0 (b, ys) rfl
    rw [List.map_cons, List.flatten_cons] at hR
    rw [List.map_cons, List.flatten_cons, List.length_append] at hz
    have hz : acc.length + (ys.length + (rest.map (·.2)).flatten.length) ≤ sizeLine := hz
    refine codeAny_builtin F.entry_sum_loop ?_; rw [Around.under_plainId F.plain_sum_loop _]
    show wpAny _ A.in1 (seqItems? (.ref S) >>= _) _ _ _
    refine wpAny_bind (wpAny_seqItems hS rfl ?_)
    show wpAny _ A.in1 (tryCatch (pyNext (.ref I)) _ >>= _) _ _ _
    refine wpAny_bind (wpAny_tryCatch (wpAny_pyNext_list_item it hl e0 fun h1 it1 s1 => ?_))
    have hS1 := s1.extBut _ _ nIS.symm hS
    have ht1 := s1.extBut _ _ ntI ht
    have hb1 := s1.extBut _ _ nbI hb
    show wpAny _ A.in1 ((holding [Value.ref b] (binaryOp .Add (.ref t) (.ref b))).attempt >>= _) _ _ _
    refine wpAny_bind (wpAny_attempt (wpAny_holding (PySem.P.add_list (n := ct) (n2 := cb) ht1 hb1 ?_ (by rw [List.size_toArray, List.size_toArray]; show acc.length + ys.length ≤ _; omega))))
    have ea : acc.toArray ++ ys.toArray = (acc ++ ys).toArray := by simp
    rw [ea]
    have sz1 : h1.objs.size = s.heap.objs.size := s1.1
    generalize hh2 : h1.push { cls := Value.type "list", data := Data.seq (acc ++ ys).toArray } = h2
    have up2 : ∀ c o, h1.get? c = some o → h2.get? c = some o := fun c o e => hh2 ▸ Heap.get?_push_of_some _ e
    have new2 : h2.get? h1.objs.size = some (LiO (acc ++ ys) 0) := hh2 ▸ Heap.get?_push_size _ rfl
    have sz2 : h2.objs.size = h1.objs.size + 1 := hh2 ▸ Heap.size_push ..
    have ltS : S < h1.objs.size := Heap.lt_size hS1
    have ltI : I < h1.objs.size := by
      obtain ⟨_, e, _⟩ := it1
      exact Heap.lt_size e
    show wpAny _ A.in1 (updateSeq S (fun _ => #[.ref h1.objs.size]) >>= _) _ _ _
    refine wpAny_bind (wpAny_updateSeq (up2 _ _ hS1) rfl ?_)
    have hS3 := Heap.get?_update_self (Obj.mapSeq fun _ => #[Value.ref h1.objs.size]) (up2 _ _ hS1) rfl
    refine wpAny_bind (wpAny_letGo ?_)
    refine wpAny_bind (wpAny_updateSeq hS3 rfl (wpAny_pure ⟨plainId_quiet F.plain_sum_loop _, ?_⟩))
    have hS4 := Heap.get?_update_self (Obj.mapSeq fun _ => #[Value.ref h1.objs.size]) hS3 rfl
    have up4 : ∀ c o, c ≠ S → h2.get? c = some o → ((h2.update S (Obj.mapSeq fun _ => #[Value.ref h1.objs.size])).update S (Obj.mapSeq fun _ => #[Value.ref h1.objs.size])).get? c = some o := fun c o n e => (Heap.get?_update_other _ _ n.symm).trans ((Heap.get?_update_other _ _ n.symm).trans e)
    have all : ∀ c o, c ≠ I → c ≠ S → s.heap.get? c = some o → ((h2.update S (Obj.mapSeq fun _ => #[Value.ref h1.objs.size])).update S (Obj.mapSeq fun _ => #[Value.ref h1.objs.size])).get? c = some o := fun c o n1 n2 e => up4 c o n2 (up2 _ _ (s1.extBut _ _ n1 e))
    refine suml_loop hh nIS nIl nSl rest (i + 1) { s with heap := (h2.update S (Obj.mapSeq fun _ => #[Value.ref h1.objs.size])).update S (Obj.mapSeq fun _ => #[Value.ref h1.objs.size]) } h1.objs.size (acc ++ ys) _ 0 ?_ ?_ ?_ (fun j x hj => ?_) hS4 (up4 _ _ (Nat.ne_of_gt ltS) new2) (Nat.ne_of_gt ltI) (Nat.ne_of_gt ltS) ?_ fun h' tk t' c' g1 g2 g3 g4 => ?_
    · rw [hn, List.length_cons]
      omega
    · exact it1.at fun o e => up4 _ _ nIS (up2 _ _ e)
    · exact hl.at fun o e => all _ _ nIl nSl e
    · obtain ⟨y1, y2, y3, c, y4⟩ := hx (j + 1) x hj
      exact ⟨by rw [show i + 1 + j = i + (j + 1) by omega]; exact y1, y2, y3, c, all _ _ y2 y3 y4⟩
    · rw [List.length_append]
      omega
    · refine hR h' tk t' c' (by rw [← List.append_assoc]; exact g1) (fun z => nomatch z) (fun _ => ?_) fun b o n1 n2 e => g4 b o n1 n2 (all _ _ n1 n2 e)
      cases hr : rest with
      | nil =>
        rw [g2 hr, sz1]
        exact Nat.le_refl _
      | cons y r =>
        have := g3 (by rw [hr]; intro z; cases z)
        have e4 : ((h2.update S (Obj.mapSeq fun _ => #[Value.ref h1.objs.size])).update S (Obj.mapSeq fun _ => #[Value.ref h1.objs.size])).objs.size = h2.objs.size := by
          rw [Heap.size_update, Heap.size_update]
        exact Nat.le_trans (by rw [← sz1, ← Nat.lt_succ_iff]; show h1.objs.size < _; rw [e4, sz2]; exact Nat.lt_succ_of_le (Nat.le_succ _)) this
end
theorem sub_ls : isSubtype (.type "list") (.type "str") = pure false := by rw [isSubtype_type]; kernel_rfl
theorem sub_lb : isSubtype (.type "list") (.type "bytes") = pure false := by rw [isSubtype_type]; kernel_rfl
theorem sub_la : isSubtype (.type "list") (.type "bytearray") = pure false := by rw [isSubtype_type]; kernel_rfl
theorem args_sum2 (a b : Value) : argsOk "sum" ⟨[a, b], []⟩ := by unfold argsOk; kernel_rfl
theorem lists_of {X : Cx} {pins : List (Addr × Obj)} {σ : L2.St} {H : Hp} {s : Shared} (I : Inv X pins σ H s) : ∀ {ls : List (Addr × List V)}, (∀ x ∈ ls, H x.1 = some (.lst x.2)) → ∃ rest : List (Addr × List Value), rest.map (·.1) = ls.map (·.1) ∧ Vals (ls.map (·.2)).flatten (rest.map (·.2)).flatten ∧ ∀ x ∈ rest, ∃ c, s.heap.get? x.1 = some (LiO x.2 c)
  | [], _ => ⟨[], rfl, .nil, fun x h => by cases h⟩
  | (a, ys) :: ls, h => by
    obtain ⟨rest, r1, r2, r3⟩ := lists_of I (ls := ls) fun x hx => h x (List.mem_cons_of_mem _ hx)
    obtain ⟨_, its, n, r, _, e⟩ := I.lstM (h (a, ys) (List.mem_cons_self ..))
    refine ⟨(a, its) :: rest, by rw [List.map_cons, List.map_cons, r1], ?_, fun x hx => ?_⟩
    · rw [List.map_cons, List.map_cons, List.flatten_cons, List.flatten_cons]
      exact r.append r2
    · rcases List.mem_cons.mp hx with rfl | hx
      · exact ⟨n, e⟩
      · exact r3 x hx
def rSumL (K : PySem.W.Frag) : List V → Hp → VK → Prop := fun vs H Q => ∃ (a b : Addr) (ls : List (Addr × List V)) (xs : List V), vs = [.ref a, .ref b] ∧ SqL K H a (ls.map fun x => .ref x.1) ∧ (∀ x ∈ ls, H x.1 = some (.lst x.2)) ∧ H b = some (.lst xs) ∧ xs.length + (ls.map (·.2)).flatten.length ≤ sizeLine ∧
  (ls = [] → Q (.ref b) H) ∧ (ls ≠ [] → ∀ p, H p = none → Q (.ref p) (upd H p (.lst (xs ++ (ls.map (·.2)).flatten))))
theorem cr_sumL (K : PySem.W.Frag) {X : Cx} (hcalm : X.calm = true) (hK : X.K = K := by rfl) : CallR X (.builtin "sum") (rSumL K) := by
  subst hK
  intro pins s σ H vs us Q I r h
  obtain ⟨a, b, ls, xs, rfl, ha, hls, hb, hz, q0, q1⟩ := h
  cases r with
  | cons ra rr =>
    cases rr with
    | cons rb rr =>
      cases rr
      cases ra
      cases rb
      obtain ⟨its, v1, pl, _⟩ := I.list ha
      obtain ⟨rest, r1, r2, r3⟩ := lists_of I hls
      obtain ⟨_, bs, nb, vb, _, eb⟩ := I.lstM hb
      have hl : s.heap.IsList a its.toArray := pl.isList
      have ei : its = rest.map fun x => Value.ref x.1 := by
        have e1 : (ls.map fun x => V.ref x.1) = (ls.map (·.1)).map V.ref := by rw [List.map_map]; rfl
        rw [e1] at v1
        rw [refs_at v1, ← r1, List.map_map]
        rfl
      refine call_function_tree F.kind_sum F.plain_sum F.entry_sum (args_sum2 _ _) ?_
      unfold Builtin.«sum»; simp only [List.length_cons, List.length_nil]; rw [if_neg (by decide)]
      refine wpAny_bind (wpAny_of_eq (show Builtin.Builtins.bindParams "sum" ["start"] 0 ⟨[.ref b], []⟩ = pure [some (.ref b)] from rfl) ?_)
      refine wpAny_bind (wpAny_pyIter_list hl ?_)
      have tb : ∀ tk, Shared.TypeIs { s with heap := s.heap.push { cls := .type "list_iterator", data := .fields #[.ref a, .int 0 0] }, toks := tk } (.ref b) "list" := fun _ => ⟨_, Heap.get?_push_of_some _ eb, rfl⟩
      refine wpAny_bind (wpAny_pure ?_)
      simp only [List.forIn_cons, List.forIn_nil]
      refine wpAny_bind (wpAny_bind (wpAny_bind (wpAny_isInstance (T := "list") (b := false) (tb _) sub_ls ?_))); simp only [Bool.false_eq_true, if_false]
      refine wpAny_pure (wpAny_bind (wpAny_bind (wpAny_isInstance (T := "list") (b := false) (tb _) sub_lb ?_))); simp only [Bool.false_eq_true, if_false]
      refine wpAny_pure (wpAny_bind (wpAny_bind (wpAny_isInstance (T := "list") (b := false) (tb _) sub_la ?_))); simp only [Bool.false_eq_true, if_false]
      refine wpAny_pure (wpAny_pure (wpAny_bind (wpAny_newObj_type (wpAny_pure ⟨plainId_quiet F.plain_sum_loop _, ?_⟩))))
      have lt : ∀ {c o}, s.heap.get? c = some o → c < s.heap.objs.size := fun e => Heap.lt_size e
      have la : a < s.heap.objs.size := pl.lt
      have lb : b < s.heap.objs.size := lt eb
      have sz : (s.heap.push { cls := .type "list_iterator", data := .fields #[.ref a, .int 0 0] }).objs.size = s.heap.objs.size + 1 := Heap.size_push ..
      have up : ∀ c o, s.heap.get? c = some o → ((s.heap.push { cls := .type "list_iterator", data := .fields #[.ref a, .int 0 0] }).push (LiO [.ref b] 0)).get? c = some o := fun c o e => Heap.get?_push_of_some _ (Heap.get?_push_of_some _ e)
      have off : ∀ {c}, c < s.heap.objs.size + 1 → c ≠ (s.heap.push { cls := .type "list_iterator", data := .fields #[.ref a, .int 0 0] }).objs.size := fun h => by
        rw [sz]
        exact Nat.ne_of_lt h
      refine suml_loop (P := X.prog) (w := X.w) (A := X.A) (I := s.heap.objs.size) (l := a) (S := (s.heap.push { cls := .type "list_iterator", data := .fields #[.ref a, .int 0 0] }).objs.size) (items := its.toArray) (I.ok.hd hcalm) (off (Nat.lt_succ_self _)) (Nat.ne_of_lt la) (off (Nat.lt_succ_of_lt la)) rest 0 { s with heap := (s.heap.push { cls := .type "list_iterator", data := .fields #[.ref a, .int 0 0] }).push (LiO [.ref b] 0) } b bs 0 nb ?_ ⟨_, Heap.get?_push_of_some _ (Heap.get?_push_size _ rfl), rfl, rfl⟩ (hl.at fun o e => up _ _ e) (fun j x hj => ?_) ?_ (up _ _ eb) (Nat.ne_of_lt lb) (off (Nat.lt_succ_of_lt lb)) ?_ fun h' tk t' c' g1 g2 g3 g4 => ?_
      · rw [List.size_toArray, ei, List.length_map, Nat.zero_add]
      · obtain ⟨c, hc⟩ := r3 x (List.mem_of_getElem? hj)
        have lx := lt hc
        refine ⟨?_, Nat.ne_of_lt lx, off (Nat.lt_succ_of_lt lx), c, up _ _ hc⟩
        rw [Nat.zero_add, List.getElem?_toArray, ei, List.getElem?_map, hj]
        rfl
      · exact Heap.get?_push_size _ rfl
      · have := r2.length
        have := vb.length
        omega
      · have keep : ∀ c o, s.heap.get? c = some o → h'.get? c = some o := fun c o e => g4 c o (Nat.ne_of_lt (lt e)) (off (Nat.lt_succ_of_lt (lt e))) (up c o e)
        cases hr : ls with
        | nil =>
          have hrest : rest = [] := by
            rw [hr] at r1
            cases rest with
            | nil => rfl
            | cons y z => cases r1
          rw [g2 hrest]
          exact ⟨.ref b, H, I.kept keep, rfl, q0 hr⟩
        | cons y z =>
          have hrest : rest ≠ [] := fun e => by
            rw [e, hr] at r1
            cases r1
          have hle : s.heap.objs.size ≤ t' := Nat.le_trans (by rw [Heap.size_push, Heap.size_push]; omega) (g3 hrest)
          refine ⟨.ref t', upd H t' (.lst (xs ++ (ls.map (·.2)).flatten)), I.laid keep hle (show ObjOk X.prog X.w _ _ _ (.lst (xs ++ (ls.map (·.2)).flatten)) from ⟨?_, bs ++ (rest.map (·.2)).flatten, c', vb.append r2, g1⟩), rfl, q1 (by rw [hr]; intro e; cases e) _ (I.hok.fresh hle)⟩
          rw [List.length_append]
          exact hz
/-! ### tuple(xs) of a list, its object known; dict(ps) of such a tuple of pairs -/
def rTupleFz (K : PySem.W.Frag) : List V → Hp → VK → Prop := fun xs H Q => ∃ p ys, xs = [.ref p] ∧ SqL K H p ys ∧ ∀ (l : Addr) (o : Obj), H l = none → o.dict = none → Q (.ref l) (upd H l (.frz o (.tup ys)))
theorem tupleFz (K : PySem.W.Frag) {X : Cx} (hK : X.K = K := by rfl) : CallR X (.type "tuple") (rTupleFz K) := by
  subst hK
  intro pins s σ H vs us Q I r h
  obtain ⟨p, ys, rfl, hs, q⟩ := h
  obtain ⟨u, rfl, rfl⟩ := vals1 r
  obtain ⟨its, rv, pl, hz⟩ := I.list hs
  refine call_tuple_list pl.isList (fun h' hk => ?_) (by rw [List.size_toArray, ← rv.length]; exact hz)
  have I1 : Inv X pins σ H { s with heap := h' } := I.kept (t' := s.toks) hk
  refine ⟨.ref h'.objs.size, _, I1.laid (t' := s.toks) (o := .frz { cls := .type "tuple", data := .seq its.toArray } (.tup ys)) (fun b o e => Heap.get?_push_of_some _ e) (Nat.le_refl _) ?_, rfl, q _ _ (I1.hok.fresh (Nat.le_refl _)) rfl⟩
  exact ⟨Heap.get?_push_size _ rfl, hz, its, rv, IsTup.new _ _⟩
theorem trips {X : Cx} {pins : List (Addr × Obj)} {σ : L2.St} {H : Hp} {s : Shared} (I : Inv X pins σ H s) : ∀ {ps : List Addr} {kvs : List (Key × V)}, Paired (fun p kv => SqT X.K H p [kV kv.1, kv.2]) ps kvs →
    ∃ tr : List (Key × Value × Value), tr.length = ps.length ∧ KV kvs (tr.map fun t => (t.1, t.2.2)) ∧ ∀ (j : Nat) (t : Key × Value × Value), tr[j]? = some t → ∃ b : Addr, ps[j]? = some b ∧ IsTup s.heap b #[t.2.1, t.2.2] ∧ (mixKind X.prog X.w).is t.1 t.2.1 = true
  | _, _, .nil => ⟨[], rfl, .nil, fun j t e => by simp at e⟩
  | _, _, .cons (a := p) (b := kv) h t => by
    obtain ⟨tr, hl, r, hp⟩ := trips I t
    obtain ⟨its, rv, ht, _⟩ := I.tuple h
    obtain ⟨u, y, ei, ru, ry⟩ := vals2 rv
    subst ei
    refine ⟨(kv.1, u, y) :: tr, by rw [List.length_cons, List.length_cons, hl], .cons ⟨rfl, ry⟩ r, fun j t e => ?_⟩
    cases j with
    | zero =>
      rw [List.getElem?_cons_zero] at e
      cases e
      exact ⟨p, rfl, ht, kV_is ru⟩
    | succ j =>
      rw [List.getElem?_cons_succ] at e
      obtain ⟨b, e1, e2⟩ := hp j t e
      exact ⟨b, by rw [List.getElem?_cons_succ]; exact e1, e2⟩
def rDictT (K : PySem.W.Frag) : List V → Hp → VK → Prop := fun xs H Q => ∃ (a : Addr) (o : Obj) (ps : List Addr) (kvs : List (Key × V)), xs = [.ref a] ∧ H a = some (.frz o (.tup (ps.map V.ref))) ∧ o.dict = none ∧ Paired (fun p kv => SqT K H p [kV kv.1, kv.2]) ps kvs ∧ ∀ p, H p = none → Q (.ref p) (upd H p (.dK (mergeK [] kvs)))
theorem dictT (K : PySem.W.Frag) {X : Cx} (hcalm : X.calm = true := by rfl) (hK : X.K = K := by rfl) : CallR X (.type "dict") (rDictT K) := by
  subst hK
  intro pins s σ H xs us Q I r h
  obtain ⟨a, o, ps, kvs, rfl, ha, hd, hp, q⟩ := h
  obtain ⟨u, rfl, rfl⟩ := vals1 r
  obtain ⟨e, hz, its, rv, o', e', hc, n, hdat⟩ := I.hok a _ ha
  have eo : o' = o := by
    rw [e] at e'
    exact (Option.some.inj e').symm
  subst eo
  obtain ⟨tr, hl, rel, htr⟩ := trips I hp
  have ei : its = ps.map Value.ref := refs_at rv
  rw [List.length_map] at hz
  refine PySem.call_dict_pairs (knd := mixKind X.prog X.w) (kvs := tr.map fun t => (t.1, t.2.2)) (PairArg.tuple a its.toArray (fun j => ps.getD j 0) (tr.map fun t => (t.2.1, t.2.2))) (I.ok.hd hcalm) ⟨⟨o', n, e, hc, hd, hdat⟩, ?_, fun j k v hj => ?_⟩ ⟨?_, fun i key v hi => ?_⟩ ?_ fun h' tk hd' k => ?_
  · rw [List.size_toArray, ei, List.length_map, List.length_map, hl]
  · rw [List.getElem?_map] at hj
    cases ht : tr[j]? with
    | none =>
      rw [ht] at hj
      cases hj
    | some t =>
      rw [ht] at hj
      cases hj
      obtain ⟨b, e1, e2, _⟩ := htr j t ht
      have eb : ps.getD j 0 = b := by
        rw [List.getD_eq_getElem?_getD, e1]
        rfl
      refine ⟨?_, .inl ?_⟩
      · rw [List.getElem?_toArray, ei, List.getElem?_map, e1]
        show some (Value.ref b) = some (Value.ref (ps.getD j 0))
        rw [eb]
      · show s.heap.IsTuple (ps.getD j 0) _
        rw [eb]
        exact e2
  · rw [List.length_map, List.length_map]
  · have hi : (tr.map fun t => (t.2.1, t.2.2))[i]? = some (key, v) := hi
    rw [List.getElem?_map] at hi
    cases ht : tr[i]? with
    | none =>
      rw [ht] at hi
      cases hi
    | some t =>
      rw [ht] at hi
      cases hi
      obtain ⟨b, _, _, e3⟩ := htr i t ht
      exact ⟨t.1, by rw [List.getElem?_map, ht]; rfl, e3⟩
  · rw [List.length_map, hl]
    exact hz
  · have hm : (s.heap.objs.size == sysModules) = false := beq_eq_false_iff_ne.mpr (Nat.ne_of_gt I.big)
    have hkl : kvs.length = ps.length := by
      have := rel.length
      rw [List.length_map, hl] at this
      exact this
    have hlen : (mergeK [] kvs).length ≤ sizeLine := by
      refine Nat.le_trans (length_mergeK kvs []) ?_
      rw [List.length_nil, Nat.zero_add, hkl]
      exact hz
    exact ⟨.ref s.heap.objs.size, upd H s.heap.objs.size (.dK (mergeK [] kvs)), I.laid (t' := tk) (fun b o e => k b o (fun z => nomatch z) e) (Nat.le_refl _) (show ObjOk X.prog X.w _ _ _ (.dK (mergeK [] kvs)) from ⟨hlen, hm, merged [] _, KV.merge rel .nil, hd'⟩), rfl, q _ (I.hok.fresh (Nat.le_refl _))⟩
end Pf


namespace Pf
open PySem PySem.Spec PyProof.Rows L2
def evL (x : Str) (i : Nat) : List Str := (x.cps.toList.take i).flatMap fun a => x.cps.toList.map fun b => (⟨#[a]⟩ ++ ⟨#[b]⟩ : Str)
def OfP (r : Rl) : Prop := ∀ y ∈ r.prs, Of r.letters y.1
theorem evL_of {x : Str} {i : Nat} {t : Str} (h : t ∈ evL x i) : Of x t := by
  unfold evL at h
  obtain ⟨a, ha, h⟩ := List.mem_flatMap.mp h
  obtain ⟨b, hb, rfl⟩ := List.mem_map.mp h
  have ha := List.mem_of_mem_take ha
  intro c hc
  rw [Str.cps_append, Array.toList_append, List.mem_append] at hc
  rcases hc with hc | hc
  · have : c = a := by simpa using hc
    rw [this]
    exact ha
  · have : c = b := by simpa using hc
    rw [this]
    exact hb
theorem none_of {p : Addr} {H H' : Hp} (k : Kp p H H') {b : Addr} (nb : b ≠ p) (h : H' b = none) : H b = none := by
  cases e : H b with
  | none => rfl
  | some o =>
    rw [k b o nb e] at h
    cases h
end Pf


namespace Pf
open PySem PySem.Spec PyProof.Rows L2
/-! ### sorted of a text: its signs in some order -/
def sgs (x : Str) : List Str := x.cps.toList.map fun c => ⟨#[c]⟩
def rSortTx : List V → Hp → VK → Prop := fun vs H Q => ∃ x : Str, vs = [.str x] ∧ x.length ≤ 1000 ∧ ∀ (ys : List Str) p, ys.Perm (sgs x) → H p = none → Q (.ref p) (upd H p (.lst (ys.map V.str)))
theorem cr_sortTx {X : Cx} (calm : X.calm = true) (hu : X.A.units + 64 < cLine) : CallR X (.builtin "sorted") rSortTx := by
  intro pins s σ H vs us Q I r h
  obtain ⟨x, rfl, hx, q⟩ := h
  obtain ⟨u, rfl, t0, rfl⟩ := vals1 r
  refine Calls.call_function_entry kind_sorted plain_sorted entry_sorted (args_sorted1 _) ?_
  unfold Builtin.«sorted»
  refine wpAny_bind (m := checkCount "sorted" 1 1 _) (wpAny_pure ?_)
  refine wpAny_bind (wpAny_collect_str (A := X.A.in1) (show X.A.in1.handled = none from I.ok.hd calm) x t0 (fun s' acc kp hg hd ho items => ?_) (Nat.le_trans hx (by decide)))
  obtain ⟨h1, g1, d1, tk, os1⟩ := s'
  obtain rfl : g1 = s.gens := hg
  obtain rfl : d1 = s.drawn := hd
  obtain rfl : os1 = s.os := ho
  have kp : ∀ b o, s.heap.get? b = some o → h1.get? b = some o := kp
  have hsl : (sgs x).length = x.cps.size := by
    unfold sgs
    rw [List.length_map, Array.length_toList]
  have hal : acc.toList.length = x.cps.size := by
    rw [Array.length_toList]
    exact items.1
  have hz2 : acc.toList.length ≤ sizeLine := by
    have : x.cps.size ≤ 1000 := hx
    rw [hal]
    exact Nat.le_trans this (by decide)
  refine wpAny_bind (wpAny_newList ?_ hz2)
  have hat : (h1.push (seqObj "list" acc.toList.toArray 0)).get? h1.objs.size = some (seqObj "list" acc.toList.toArray 0) := Heap.get?_push_size _ rfl
  have hlt : ∀ b ob, s.heap.get? b = some ob → b ≠ h1.objs.size := fun b ob e => Nat.ne_of_lt (Heap.lt_size (kp b ob e))
  have old : ∀ b ob, s.heap.get? b = some ob → (h1.push (seqObj "list" acc.toList.toArray 0)).get? b = some ob := fun b ob e => Heap.get?_push_of_some _ (kp b ob e)
  have rel : PySem.W.EachIs (fun (v : Value) (y : Str) => RelV (V.str y) v) acc.toList (sgs x) := by
    have aux : ∀ (vs : List Value) (ys : List Str), vs.length = ys.length → (∀ (i : Nat) (v : Value), vs[i]? = some v → ∃ y, ys[i]? = some y ∧ RelV (V.str y) v) → PySem.W.EachIs (fun (v : Value) (y : Str) => RelV (V.str y) v) vs ys := by
      intro vs
      induction vs with
      | nil =>
        intro ys hl _
        cases ys with
        | nil => exact .nil
        | cons _ _ => cases hl
      | cons v vs ih =>
        intro ys hl h
        cases ys with
        | nil => cases hl
        | cons y ys =>
          obtain ⟨y', e, hr⟩ := h 0 v rfl
          cases e
          exact .cons hr (ih ys (Nat.succ.inj hl) fun i w hw => h (i + 1) w hw)
    refine aux _ _ (by rw [hal, hsl]) fun i v hv => ?_
    rw [Array.getElem?_toList] at hv
    obtain ⟨c, t, hc, rfl⟩ := items.2 i v hv
    refine ⟨⟨#[c]⟩, ?_, ⟨t, rfl⟩⟩
    unfold sgs
    rw [List.getElem?_map, Array.getElem?_toList, hc]
    rfl
  have rv : Vals ((sgs x).map V.str) acc.toList := vals_each (v := V.str) rel
  have rd : PySem.W.EachIs (fun (v : Value) (y : Str) => ∃ as, Reads (PySem.W.sortingHeap (h1.push (seqObj "list" acc.toList.toArray 0)) h1.objs.size acc.toList) v (PyData.str y) as) acc.toList (sgs x) := (each_reads (v := V.str) (d := PyData.str) I rv fun y hy' => .str _).mono fun _ _ ⟨as, w⟩ => ⟨as, PyProof.Rows.Reads.keeps (fun b ob e => PySem.W.sortingHeap_old (hlt b ob e) (old b ob e)) w⟩
  have hub : ∀ y ∈ sgs x, X.A.in1.in1.units + (PyData.str y).depth < cLine := fun y hy' => by
    show X.A.units + 2 + (PyData.str y).depth < cLine
    have : (PyData.str y).depth ≤ 1 := by simp [PyData.depth]
    omega
  have al : PySem.W.AllAlike ((sgs x).map PyData.str) := PySem.W.AllAlike.of fun b b' => by simp [PySem.W.alike]
  have so : PySem.W.Sortable ((sgs x).map PyData.str) := PySem.W.Sortable.others fun b => ⟨(fun z => by cases z), (fun xs z => by cases z)⟩
  have S := PySem.W.SortsAt.data (prog := X.prog) (w := X.w) (A := X.A.in1.in1) (s := { s with heap := PySem.W.sortingHeap (h1.push (seqObj "list" acc.toList.toArray 0)) h1.objs.size acc.toList, toks := tk }) (PySem.W.each_map (R := fun v d => ∃ as, Reads (PySem.W.sortingHeap (h1.push (seqObj "list" acc.toList.toArray 0)) h1.objs.size acc.toList) v d as) PyData.str rd) al so (PySem.W.bound_map hub)
  refine wpAny_bind (wpAny_holding (wpAny_call_entry slot_list_sort ⟨_, hat, rfl⟩ entry_list_sort ?body (args_list_sort _)))
  case body =>
    refine PySem.W.list_sort_vals (s := { s with heap := h1.push (seqObj "list" acc.toList.toArray 0), toks := tk }) hat S hz2 ⟨_, rfl, wpAny_pure ⟨_, rfl, ?_⟩⟩
    have each := PySem.W.sortVals_data false rel rd al
    generalize PySem.W.sortVals (PySem.W.dataKind (PySem.W.sortingHeap (h1.push (seqObj "list" acc.toList.toArray 0)) h1.objs.size acc.toList) ((sgs x).map PyData.str)) false acc.toList acc.toList = out at each ⊢
    obtain ⟨ee, he'⟩ := PyProof.Rows.sortedHeap_at (vs := acc.toList) (out := out.toArray) hat
    have hl2 : (((sgs x).mergeSort (PySem.W.dataLe false PyData.str)).map V.str).length ≤ sizeLine := by
      rw [List.length_map, List.length_mergeSort, hsl]
      exact Nat.le_trans hx (by decide)
    have gone : s.heap.get? h1.objs.size = none := by
      cases e : s.heap.get? h1.objs.size with
      | none => rfl
      | some ob => exact absurd rfl (hlt _ ob e)
    have free : H h1.objs.size = none := by
      cases e : H h1.objs.size with
      | none => rfl
      | some u =>
        obtain ⟨ob, e2⟩ := obj_there (I.hok _ _ e)
        rw [gone] at e2
        cases e2
    exact ⟨.ref h1.objs.size, upd H h1.objs.size (.lst (((sgs x).mergeSort (PySem.W.dataLe false PyData.str)).map V.str)), I.laidN (t' := tk) (fun b ob e => by rw [PyProof.Rows.sortedHeap_old (hlt b ob e) (Heap.lt_size (old b ob e))]; exact old b ob e) gone free ⟨hl2, out, ee, vals_each (v := V.str) each, by simpa using he'⟩, rfl, q _ _ (List.mergeSort_perm _ _) free⟩
/-! ### a text backwards -/
def revX (x : Str) : Str := ⟨((List.range x.length).map fun k => x.cps.getD (x.length - 1 - k) 0).toArray⟩
theorem revX_is (x : Str) (u : Tok) : Txt.sliceBy x none none (-1, u) = revX x := by
  refine PySem.W.str_of_cps ?_
  rw [PyProof.Rows.step_rev_list]
  rfl
theorem revX_len (x : Str) : (revX x).length = x.length := by
  show ((List.range x.length).map fun k => x.cps.getD (x.length - 1 - k) 0).toArray.size = _
  rw [List.size_toArray, List.length_map, List.length_range]
def tRevX (te : TE) : TE := fun σ H Q => te σ H fun x H1 => ∃ z : Str, x = .str z ∧ z.length ≤ sizeLine ∧ Q (.str (revX z)) H1
theorem pe_revX {X : Cx} {e : Expr} {te : TE} {k : Nat} {p1 p2 p3 pos : Pos} (he : PE X e te) : PE X (.Subscript e (.Slice none none (some (.UnaryOp .USub (.Constant (.int 1) k p1) p2)) p3) pos) (tRevX te) := by
  refine ⟨fun pins s σ H Q I h => ?_⟩
  refine Subscript_ (thn (he.run pins s σ H _ I h) fun v s1 ⟨x, H1, I1, r1, q1⟩ => ?_)
  obtain ⟨z, rfl, hz, q⟩ := q1
  obtain ⟨t, rfl⟩ := r1
  have hst : PO X (some (.UnaryOp .USub (.Constant (.int 1) k p1) p2)) (tPart (tUn (rU fun i => .int (-i)) (tC (.int 1)))) := po_some (pe_un un_neg pe_int)
  refine wpAny_Slice (thn (po_none.run pins s1 σ H1 (fun o H2 => o = none ∧ H2 = H1) I1 ⟨rfl, rfl⟩) fun vl s2 ⟨l, H2, I2, pl, el, e2⟩ => ?_)
  subst el e2
  refine thn (po_none.run pins s2 σ H2 (fun o H3 => o = none ∧ H3 = H2) I2 ⟨rfl, rfl⟩) fun vu s3 ⟨u, H3, I3, pu, eu, e3⟩ => ?_
  subst eu e3
  refine thn (hst.run pins s3 σ H3 (fun o H4 => o = some (-1) ∧ H4 = H3) I3 ⟨1, rfl, -1, rfl, rfl, rfl⟩) fun vs s4 ⟨o, H4, I4, ps, eo, e4⟩ => ?_
  subst eo e4
  cases pl
  cases pu
  cases ps with
  | int i t5 =>
    refine tail_any (ops := [.str z t, .ref s4.heap.objs.size]) (typeIs_str _ _ _) (PySem.F.slot_str_getitem.lookup) ?_ (by with_unfolding_all rfl)
    refine wpAny_getItem_str_slice (l := none) (u := none) (st := some (-1, t5)) ⟨_, Heap.get?_push_size _ rfl, rfl, rfl⟩ rfl ?_
    refine post_val_or_str ⟨Nat.le_trans (Txt.sliceBy_le z none none (-1, t5) (show (-1 : Int) ≠ 0 by decide)) hz, fun t6 tk => ?_⟩
    refine ⟨.str (revX z), H4, (I4.kept (t' := tk) fun b ob q => Heap.get?_push_of_some _ q), ⟨t6, ?_⟩, q⟩
    rw [← revX_is z t5]
    rfl
end Pf


namespace Pf
open PySem PySem.Spec PyProof.Rows L2
def AZs : Str := "abcdefghijklmnopqrstuvwxyz"
theorem az_small : Small AZs := by unfold Small; decide +kernel
theorem az_len : AZs.length = 26 := by decide +kernel
theorem cutS_to (x : Str) (k : Nat) : (cutS x none (some (k : Int))).length = min k x.length := by
  show (((x.cps.toList.drop (HT.sIx x.length 0 none)).take (HT.sIx x.length x.length (some (k : Int)) - HT.sIx x.length 0 none)).toArray).size = _
  rw [List.size_toArray, List.length_take, List.length_drop]
  have h1 : HT.sIx x.length x.length (some (k : Int)) = min k x.length := HT.sIx_nat _ _ _
  have h3 : HT.sIx x.length 0 none = 0 := rfl
  have h4 : x.cps.toList.length = x.length := Array.length_toList
  rw [h1, h3, h4]
  omega
theorem cutS_fr (x : Str) (k : Nat) : (cutS x (some (k : Int)) none).length = x.length - k := by
  show (((x.cps.toList.drop (HT.sIx x.length 0 (some (k : Int)))).take (HT.sIx x.length x.length none - HT.sIx x.length 0 (some (k : Int)))).toArray).size = _
  rw [List.size_toArray, List.length_take, List.length_drop]
  have h1 : HT.sIx x.length 0 (some (k : Int)) = min k x.length := HT.sIx_nat _ _ _
  have h3 : HT.sIx x.length x.length none = x.length := rfl
  have h4 : x.cps.toList.length = x.length := Array.length_toList
  rw [h1, h3, h4]
  omega
def leftS (x : Str) (L : List Nat) : List Nat := L.filter fun c => !decide (c ∈ x.cps.toList)
theorem pigS : ∀ (L x : List Nat), L.Nodup → (∀ c ∈ L, c ∈ x) → L.length ≤ x.length
  | [], _, _, _ => Nat.zero_le _
  | c :: L, x, hn, h => by
    have hc := h c (List.mem_cons_self ..)
    have h1 := pigS L (x.erase c) (List.nodup_cons.mp hn).2 fun d hd => by
      have : d ≠ c := fun z => (List.nodup_cons.mp hn).1 (z ▸ hd)
      exact (List.mem_erase_of_ne this).mpr (h d (List.mem_cons_of_mem _ hd))
    rw [List.length_erase_of_mem hc] at h1
    have := List.length_pos_of_mem hc
    rw [List.length_cons]
    omega
theorem leftS_some {x : Str} (hx : x.length ≤ 25) : 0 < (leftS x AZs.cps.toList).length := by
  cases e : leftS x AZs.cps.toList with
  | cons _ _ => exact Nat.succ_pos _
  | nil =>
    have h := pigS AZs.cps.toList x.cps.toList (by decide +kernel) (fun c hc => by
      have h : ¬ (!decide (c ∈ x.cps.toList)) = true := List.filter_eq_nil_iff.mp e c hc
      by_cases z : c ∈ x.cps.toList
      · exact z
      · rw [decide_eq_false z] at h
        exact absurd rfl h)
    have h26 : AZs.cps.toList.length = 26 := by decide +kernel
    have h5 : x.cps.toList.length = x.length := Array.length_toList
    omega
theorem filt_one {α : Type} (f : α → Bool) (c : α) : [c].filter f = if f c = true then [c] else [] := by cases e : f c <;> simp [List.filter, e]
theorem gow_as {i : Nat} {v v' : V} {σ : L2.St} {H : Hp} {Q : L2.St → Hp → Prop} (e : v = v') (h : Q (σ.set i (some v')) H) : gName i v σ H Q := by
  rw [e]
  exact h
section
variable {P : Program} {w : World} {K : PySem.W.Frag} {mg : Str → Option Value} {base : Heap}
abbrev s_law_letters : Stmt := topS 38
theorem sc_law_letters : FnScope ["_law_pen", "_law_most", "_law_every", "_law_size", "_law_way", "_law_found", "_law_k", "_law_left", "_law_sign"] ["_law_pen", "_law_most"] (defScope s_law_letters) :=
  ⟨rfl, rfl, rfl, by decide +kernel, rfl, by decide +kernel, by decide +kernel⟩
def spLetters : Sp := fun vs H Q _ => ∃ (p c : Addr) (most : Int) (n : Nat), vs = [.ref p, .int most] ∧ Pen H p c n ∧ n + 20 < 1000000 ∧ 1 ≤ most ∧ most ≤ 6 ∧
  ∀ (x : Str) H', 1 ≤ x.length → (x.length : Int) ≤ most → Small x → Kp p H H' → Pen H' p c (n + 10) → Q (.str x) H'
theorem ok_letters {f : Addr} {fd : FuncData} (F : Fun K "_law_letters" "_law_letters" s_law_letters f fd) (c_law_draw : CDraw P w K mg base) (mlen : mg "len" = none) (mrange : mg "range" = none) (msorted : mg "sorted" = none) : FnOk P w K mg base CX0 2 f fd ["_law_pen", "_law_most"] spLetters := by
  refine F.ok sc_law_letters (fun vs H Q E h => ?_) (fun cdv A outer s H vs Q E hr h => ?_)
  · obtain ⟨p, c, most, n, rfl, _⟩ := h
    rfl
  · obtain ⟨p, c, most, n, rfl, hP, hn, m1, m6, q⟩ := h
    refine ⟨_, (pss_cons (ps_set (i := 2) sc_law_letters.nd rfl (.inl rfl) pe_str)
      (pss_cons (ps_set (i := 3) sc_law_letters.nd rfl (.inl rfl) (pe_op op_add pe_int (pe_ca c_law_draw (hr.mono (by decide)) (by rfl) (pa_cons (pv 0) (pa_cons (pv 1) pa_nil)))))
      (pss_cons (ps_set (i := 4) sc_law_letters.nd rfl (.inl rfl) (pe_ca c_law_draw (hr.mono (by decide)) (by rfl) (pa_cons (pv 0) (pa_cons pe_int pa_nil))))
      (pss_cons (ps_if (pt_cmpR op_lt (pv 4) pe_int (nomark _)) (pss_one (ps_ret (pe_ix (ixL K) (pe_lst (pa_cons (pe_slice sl_str (pv 2) po_none (po_some (pv 3))) (pa_cons (pe_slice sl_str (pv 2) (po_some (pe_op op_sub pe_int (pv 3))) po_none) pa_nil))) (pv 4) (fun _ _ => rfl)))) pss_nil)
      (pss_cons (ps_set (i := 5) sc_law_letters.nd rfl (.inr rfl) pe_str)
      (pss_cons (ps_for PassesOwn.never rfl (pi_range1 (by rfl) mrange (pa_cons (pv 3) pa_nil)) (pg_name (i := 6) sc_law_letters.nd rfl (.inl rfl)) (pss_cons (ps_setLc (i := 7) (own := [("_law_sign", 8)]) (g := gName 8) (by rfl) sc_law_letters.nd rfl rfl (sw_true rfl rfl rfl (by decide +kernel)) (pi_str (pv 2)) (blkOk_by (own := [("_law_sign", 8)]) (N := ["_law_pen", "_law_most", "_law_every", "_law_size", "_law_way", "_law_found", "_law_k", "_law_left", "_law_sign"]) (sc := defScope s_law_letters) (by decide +kernel)) (fun _ _ _ _ _ => (pg_name (i := 8) sc_law_letters.nd rfl (.inl rfl))) (fun _ _ _ _ _ => (pts_one (pt_cmpR op_notIn_sign (pv 8) (pv 5) (by rfl)))) (fun _ _ _ _ _ => (pv 8)))
      (pss_one (ps_set (i := 5) sc_law_letters.nd rfl (.inr rfl) (pe_op op_add_str (pv 5) (pe_ix (ixL K) (pv 7) (pe_ca c_law_draw (hr.mono (by decide)) (by rfl) (pa_cons (pv 0) (pa_cons (pe_callB (lenQ K) (by rfl) mlen (by decide +kernel) (pa_cons (pv 7) pa_nil)) pa_nil))) (fun _ _ => rfl)))))))
      (pss_one (ps_ret (pe_join pe_str (pe_callB (cr_sortTx rfl hr.units) (by rfl) msorted (by decide +kernel) (pa_cons (pv 5) pa_nil))))))))))), ?_⟩
    refine ⟨_, rfl, _, rfl, p, c, most, n, rfl, hP, by omega, by omega, by omega, fun r1 H1 r1a r1b k1 hP1 => ⟨1, r1, rfl, rfl, ?_⟩⟩
    obtain ⟨sz, hsz⟩ : ∃ sz : Nat, (1 : Int) + r1 = (sz : Int) := ⟨(1 + r1).toNat, by omega⟩
    refine gow_as (v' := .int sz) (congrArg V.int hsz) ?_
    refine ⟨_, rfl, p, c, 3, n + 1, rfl, hP1, by omega, by decide, by decide, fun r2 H2 r2a r2b k2 hP2 => ?_⟩
    have k02 := k1.trans k2
    refine ⟨_, rfl, _, _, rfl, rfl, _, rfl, ite2 (fun e => ?_) (fun e => ?_)⟩
    · have e : r2 < 2 := of_decide_eq_true e
      refine ⟨_, rfl, _, rfl, _, rfl, AZs, rfl, szL (by rw [az_len]; decide), ?_⟩
      refine ⟨_, rfl, _, rfl, 26, sz, rfl, rfl, _, rfl, AZs, rfl, szL (by rw [az_len]; decide), szL (show 2 ≤ 1000000 by decide), fun l hl => ?_⟩
      have h26 : (26 : Int) - (sz : Int) = ((26 - sz : Nat) : Int) := by omega
      rw [h26]
      have hat : ∃ x : Str, atI [V.str (cutS AZs none (some (sz : Int))), V.str (cutS AZs (some ((26 - sz : Nat) : Int)) none)] r2 = some (.str x) ∧ x.length = sz ∧ Small x := by
        rcases (by omega : r2 = 0 ∨ r2 = 1) with rfl | rfl
        · refine ⟨_, rfl, ?_, fun c hc => az_small c (cutS_of (fun d hd => hd) _ _ c hc)⟩
          rw [cutS_to, az_len]
          omega
        · refine ⟨_, rfl, ?_, fun c hc => az_small c (cutS_of (fun d hd => hd) _ _ c hc)⟩
          rw [cutS_fr, az_len]
          omega
      obtain ⟨x, hat, hxl, hxs⟩ := hat
      exact ⟨_, rfl, l, _, r2, _, rfl, rfl, SqL.of upd_same, hat, q x _ (by omega) (by omega) hxs (k02.trans (Kp.new hl)) ((hP2.new hl).mono (by omega))⟩
    · refine ⟨_, rfl, (sz : Int), rfl, by omega, by omega, for_range (lo := 0) (n := ((sz : Int)).toNat) (fun i σ H3 => ∃ (y6 y7 : Option V) (x : Str), σ = [some (.ref p), some (.int most), some (.str AZs), some (.int sz), some (.int r2), some (.str x), y6, y7, none] ∧ x.length = i ∧ Small x ∧ Kp p H H3 ∧ Pen H3 p c (n + 2 + i))
        ⟨none, none, _, rfl, rfl, small_nil, k02, hP2⟩ (fun i σ H3 hi hv => ?_) (fun σ H3 hv => ?_)⟩
      · obtain ⟨y6, y7, x, rfl, hxl, hxs, k3, hP3⟩ := hv
        refine ⟨_, rfl, AZs, rfl, fun D hD => lc_str (fun j H4 => H4 D = some (.lst ((leftS x (AZs.cps.toList.take j)).map fun c => V.str ⟨#[c]⟩)) ∧ Ext H3 H4) ⟨upd_same, Ext.new hD⟩ (fun j ch H4 hj hv => ?_) (fun H4 hv => ?_)⟩
        · obtain ⟨hL, k4⟩ := hv
          have htj : AZs.cps.toList[j]? = some ch := by rw [Array.getElem?_toList]; exact hj
          have hstep : leftS x (AZs.cps.toList.take (j + 1)) = leftS x (AZs.cps.toList.take j) ++ if decide (ch ∈ x.cps.toList) = true then [] else [ch] := by
            unfold leftS
            rw [List.take_add_one, htj, List.filter_append]
            congr 1
            refine (filt_one _ ch).trans ?_
            cases decide (ch ∈ x.cps.toList) <;> rfl
          refine ⟨rfl, _, rfl, _, rfl, ch, x, rfl, rfl, _, rfl, ?_⟩
          cases hin : decide (ch ∈ x.cps.toList) with
          | true =>
            refine iteF ⟨?_, k4⟩
            rw [hstep, hin, if_pos rfl, List.append_nil]
            exact hL
          | false =>
            refine iteT ⟨_, rfl, _, hL, szLt ?_, ?_, k4.put hD⟩
            · rw [List.length_map]
              have : (leftS x (AZs.cps.toList.take j)).length ≤ (AZs.cps.toList.take j).length := List.length_filter_le _ _
              rw [List.length_take] at this
              have hj' : j < AZs.cps.size := (Array.getElem?_eq_some_iff.mp hj).1
              have h26 : AZs.cps.size = 26 := az_len
              omega
            · rw [upd_same, hstep, hin, if_neg Bool.false_ne_true, List.map_append]
              rfl
        · obtain ⟨hL, k4⟩ := hv
          have eall : AZs.cps.toList.take AZs.cps.size = AZs.cps.toList := List.take_of_length_le (by rw [Array.length_toList]; exact Nat.le_refl _)
          rw [eall] at hL
          have hpos := leftS_some (x := x) (by omega)
          obtain ⟨LL, hLL⟩ : ∃ LL, LL = leftS x AZs.cps.toList := ⟨_, rfl⟩
          rw [← hLL] at hL hpos
          have hP4 := hP3.ext k4
          have nD : D ≠ p := (hP3.ne hD).1
          have hlen : ((LL.map fun c => V.str ⟨#[c]⟩).length : Int) = LL.length := by rw [List.length_map]
          have h26 : LL.length ≤ 26 := by
            rw [hLL]
            exact Nat.le_trans (List.length_filter_le _ _) (by decide +kernel)
          refine ⟨_, rfl, _, rfl, _, rfl, _, rfl, D, _, rfl, .inl (SqL.of hL), p, c, _, n + 2 + i, rfl, hP4, by omega, by omega, by omega, fun r5 H5 r5a r5b k5 hP5 => ?_⟩
          obtain ⟨v, hvm, hat⟩ := atI_mem (xs := LL.map fun c => V.str ⟨#[c]⟩) r5a r5b
          obtain ⟨ch, hch, rfl⟩ := List.mem_map.mp hvm
          have hcs : Small ⟨#[ch]⟩ := by
            refine Small.one ?_
            rw [hLL] at hch
            exact az_small ch (List.mem_filter.mp hch).1
          refine ⟨D, _, r5, _, rfl, rfl, SqL.of (k5 _ _ nD hL), hat, x, ⟨#[ch]⟩, rfl, rfl, szL ?_, ?_⟩
          · show x.length + 1 ≤ _
            omega
          · refine ⟨_, _, x ++ ⟨#[ch]⟩, rfl, ?_, hxs.app hcs, (k3.trans (Kp.ext k4)).trans k5, hP5⟩
            rw [Str.length_append, hxl]
            rfl
      · obtain ⟨y6, y7, x, rfl, hxl, hxs, k3, hP3⟩ := hv
        have hsz2 : x.length = sz := by omega
        refine ⟨⟨_, rfl⟩, _, rfl, x, rfl, (show x.length ≤ 1000 by omega), fun ys l hperm hl => ?_⟩
        have hys : ∀ y ∈ ys, ∃ c ∈ x.cps.toList, y = ⟨#[c]⟩ := fun y hy => by
          obtain ⟨c, hc, e⟩ := List.mem_map.mp (hperm.mem_iff.mp hy)
          exact ⟨c, hc, e.symm⟩
        have hyl : ys.length = sz := by
          rw [hperm.length_eq]
          unfold sgs
          rw [List.length_map, Array.length_toList]
          exact hsz2
        refine ⟨"", l, ys, rfl, rfl, .inl (SqL.of upd_same), ?_, ?_⟩
        · exact fits_join (k := 6) (m := 1) (by omega) (fun y hy => by
            obtain ⟨c, _, rfl⟩ := hys y hy
            exact Nat.le_refl 1) (by decide)
        · have hj : (Txt.join "" ys).length = sz := by
            rw [join_str]
            have aux : ∀ ys : List Str, (∀ y ∈ ys, y.length = 1) → (Str.join "" ys).length = ys.length := by
              intro ys
              induction ys with
              | nil => intro _; rfl
              | cons y t ih =>
                intro h
                cases t with
                | nil =>
                  show y.length = 1
                  exact h y (List.mem_cons_self ..)
                | cons z r =>
                  have h1 := h y (List.mem_cons_self ..)
                  have h2 := ih fun u hu => h u (List.mem_cons_of_mem _ hu)
                  show (y ++ "" ++ Str.join "" (z :: r)).length = _
                  rw [Str.length_append, Str.length_append, h2]
                  show y.length + 0 + (z :: r).length = (y :: z :: r).length
                  rw [h1, List.length_cons, List.length_cons, List.length_cons]
                  omega
            rw [aux ys (fun y hy => by obtain ⟨c, _, rfl⟩ := hys y hy; rfl)]
            exact hyl
          refine q _ _ (by omega) (by omega) (join_small fun y hy => ?_) (k3.trans (Kp.new hl)) ((hP3.new hl).mono (by omega))
          obtain ⟨c, hc, rfl⟩ := hys y hy
          exact Small.one (hxs c hc)
abbrev CLetters (P : Program) (w : World) (K : PySem.W.Frag) (mg : Str → Option Value) (base : Heap) : Prop := Ca P w K mg base 2 "_law_letters" ["_law_pen", "_law_most"] spLetters
end
end Pf


namespace Pf
open PySem PySem.Spec PyProof.Rows L2
/-! ### the sum of a dict's values -/
theorem preSum_is (is : List Int) : ∀ n, n ≤ is.length → preSum (fun i => is.getD i 0) n = (is.take n).sum
  | 0, _ => by rw [List.take_zero]; rfl
  | n + 1, h => by
    have ih := preSum_is is n (by omega)
    have e : is[n]? = some (is.getD n 0) := by
      rw [List.getD_eq_getElem?_getD, List.getElem?_eq_getElem (by omega)]
      rfl
    rw [List.take_add_one, e, List.sum_append, ← ih]
    simp [preSum]
def tSumV (td : TE) : TE := fun σ H Q => td σ H fun x H1 => ∃ (a : Addr) (kvs : List (Key × V)) (is : List Int), x = V.ref a ∧ H1 a = some (.dK kvs) ∧ kvs.map (·.2) = is.map V.int ∧ Q (.int is.sum) H1
theorem pe_sumV {X : Cx} {o : Expr} {p pos apos mpos : Pos} {td : TE} (calm : X.calm = true) (gl : Gl X "sum") (free : X.mg "sum" = none) (ho : PE X o td) (b0 : attributeBase o "values" X.env (eval o X.env) = eval o X.env := by rfl) (l0 : (apos.endLine == mpos.line) = true := by rfl)
    (st : starEach [Expr.Call (.Attribute o "values" apos) [] [] mpos] X.env = [(false, eval (Expr.Call (.Attribute o "values" apos) [] [] mpos) X.env)] := by rfl) : PE X (.Call (.Name "sum" p) [.Call (.Attribute o "values" apos) [] [] mpos] [] pos) (tSumV td) := by
  refine ⟨fun pins s σ H Q I h => wpAny_Call_Name_kw (ld_blt I gl free (u := .builtin "sum") (by decide +kernel) ?_ (by decide) (by decide))⟩
  rw [st]
  refine PySem.callWith_builtin1 (wpAny_Call_method0_late b0 l0 (thn (ho.run pins s σ H _ I h) fun v s1 ⟨x, H1, I1, r1, a, kvs, is, ex, ha, hv, q⟩ => ?_))
  subst ex
  obtain rfl : v = Value.ref a := r1
  obtain ⟨_, nsys, vs, rel, dof⟩ := dk_of I1.hok ha
  obtain ⟨ep, dat⟩ := dof.dictAt
  obtain ⟨ob, es, hob, ex, _⟩ := id dat
  have low : a < s1.heap.objs.size := Heap.lt_size hob
  refine ⟨"dict", "dict.values", F.plainAttrs_dict, F.slot_dict_values, F.type_dict_values, ⟨ob, hob, ex.1⟩, fun b e => by cases e; exact ⟨ob, hob, ex.2.1⟩, Calls.callWith_builtin rfl (PySem.evalArgs_none ?_)⟩
  refine call_meetsIn F.slot_dict_values ⟨ob, hob, ex.1⟩ F.entry_dict_values (F.args_dict_values_1 _) (meets_dict_values (mixKind X.prog X.w) a nsys) ⟨⟨vs, dof⟩, ?_⟩
  have len : vs.length = is.length := by
    have e1 := congrArg List.length hv
    rw [List.length_map, List.length_map] at e1
    exact (KV.length rel).symm.trans e1
  have each : ∀ (i : Nat) (v : Value), (∃ k, vs[i]? = some (k, v)) → ∃ t, v = Value.int (is.getD i 0) t := fun i v ⟨k, hk⟩ => by
    obtain ⟨y, h1, h2⟩ := KV.at' rel hk
    have e1 : (kvs.map (·.2))[i]? = some y := by
      rw [List.getElem?_map, h1]
      rfl
    rw [hv, List.getElem?_map] at e1
    obtain ⟨j, hj, rfl⟩ := Option.map_eq_some_iff.mp e1
    obtain ⟨t, h3⟩ := h2
    refine ⟨t, ?_⟩
    rw [h3, List.getD_eq_getElem?_getD, hj]
    rfl
  have stay : ∀ b u, s1.heap.get? b = some u → (s1.heap.push { cls := .type "dict_values", data := .fields #[.ref a] }).get? b = some u := fun b u e => Heap.get?_push_of_some _ e
  have dat1 : (s1.heap.push { cls := .type "dict_values", data := .fields #[.ref a] }).DictAt (mixKind X.prog X.w) a vs ep := dat.keep stay
  have grown : (s1.heap.push { cls := .type "dict_values", data := .fields #[.ref a] }).objs.size = s1.heap.objs.size + 1 := Heap.size_push _ _
  refine call_sum_walkG (wpAny_pyIter_values (v := s1.heap.objs.size) (d := a) ⟨_, Heap.get?_push_size _ rfl, rfl, rfl⟩ dat1 ?_)
  refine ⟨_, _, _, _, _, _, fun i => is.getD i 0, rfl, Walks.dictValues (knd := mixKind X.prog X.w) (A := X.A.in1) (I.ok.hd calm) (s1.heap.push { cls := .type "dict_values", data := .fields #[.ref a] }).objs.size a (by rw [grown]; exact Nat.ne_of_lt (Nat.lt_succ_of_lt low)) vs ep,
    ⟨⟨_, Heap.get?_push_size _ rfl, rfl, rfl⟩, dat1.keep fun b u e => Heap.get?_push_of_some _ e⟩, fun b hb => ?_, each, fun h' tk t' hk => ?_⟩
  · show b < ((s1.heap.push _).push _).objs.size
    rw [Heap.size_push, Heap.size_push]
    rw [grown] at hb
    simp only [List.mem_cons, List.not_mem_nil, or_false] at hb
    rcases hb with rfl | rfl
    · exact Nat.lt_succ_self _
    · exact Nat.lt_succ_of_lt (Nat.lt_succ_of_lt low)
  · have e0 := preSum_is is vs.length (by omega)
    rw [len, List.take_length] at e0
    refine ⟨.int is.sum, H1, I1.kept (t' := tk) fun b u e => hk b u (fun hmem => ?_) (Heap.get?_push_of_some _ (stay b u e)), ⟨t', ?_⟩, q⟩
    · have e1 := List.mem_singleton.mp hmem
      have e2 := Heap.lt_size e
      rw [grown] at e1
      rw [e1] at e2
      exact absurd e2 (Nat.not_lt.mpr (Nat.le_succ _))
    · rw [len, e0]
end Pf


namespace Pf
open PySem PySem.Spec PyProof.Rows L2
/-! ### what is sorted once it is gathered -/
theorem sort_tail {X : Cx} {pins : List (Addr × Obj)} {σ : L2.St} {H : Hp} {s : Shared} {Q : VK} (I : Inv X pins σ H s) (hu : X.A.units + 64 < cLine) {β : Type} {v : β → V} {dd : β → PyData} {ys : List β} {acc : List Value} (rv : Vals (ys.map v) acc) (hy : ∀ y ∈ ys, Dp X.K H (v y) (dd y) ∧ (dd y).depth ≤ 50)
    (al : PySem.W.AllAlike (ys.map dd)) (so : PySem.W.Sortable (ys.map dd)) (hn : ys.length ≤ sizeLine) (qq : ∀ p, H p = none → Q (.ref p) (upd H p (.lst ((ys.mergeSort (PySem.W.dataLe false dd)).map v)))) {R : PySem.Fin → Shared → Prop} {E : Value → Shared → Prop}
    (hR : ∀ l s', EP X pins σ Q l s' → R (.done (.ret l)) s') :
    wpAny (model X.prog X.w) X.A.in1 (do let l ← newList acc; let _ ← holding [l] (call (.builtin "list.sort") [l] []); ret l) R E s := by
  have hz2 : acc.length ≤ sizeLine := by
    rw [← rv.length, List.length_map]
    exact hn
  refine wpAny_bind (wpAny_newList ?_ hz2)
  have hat : (s.heap.push (seqObj "list" acc.toArray 0)).get? s.heap.objs.size = some (seqObj "list" acc.toArray 0) := Heap.get?_push_size _ rfl
  have hlt : ∀ b ob, s.heap.get? b = some ob → b ≠ s.heap.objs.size := fun b ob e => Nat.ne_of_lt (Heap.lt_size e)
  have old : ∀ b ob, s.heap.get? b = some ob → (s.heap.push (seqObj "list" acc.toArray 0)).get? b = some ob := fun b ob e => Heap.get?_push_of_some _ e
  have rel : PySem.W.EachIs (fun (u : Value) (y : β) => RelV (v y) u) acc ys := each_vals (v := v) rv
  have rd : PySem.W.EachIs (fun (u : Value) (y : β) => ∃ as, Reads (PySem.W.sortingHeap (s.heap.push (seqObj "list" acc.toArray 0)) s.heap.objs.size acc) u (dd y) as) acc ys := (each_reads (v := v) I rv fun y hy' => (hy y hy').1).mono fun _ _ ⟨as, w⟩ => ⟨as, PyProof.Rows.Reads.keeps (fun b ob e => PySem.W.sortingHeap_old (hlt b ob e) (old b ob e)) w⟩
  have hub : ∀ y ∈ ys, X.A.in1.in1.units + (dd y).depth < cLine := fun y hy' => by
    have := (hy y hy').2
    show X.A.units + 2 + (dd y).depth < cLine
    omega
  have S := PySem.W.SortsAt.data (prog := X.prog) (w := X.w) (A := X.A.in1.in1) (s := { s with heap := PySem.W.sortingHeap (s.heap.push (seqObj "list" acc.toArray 0)) s.heap.objs.size acc }) (PySem.W.each_map (R := fun v d => ∃ as, Reads (PySem.W.sortingHeap (s.heap.push (seqObj "list" acc.toArray 0)) s.heap.objs.size acc) v d as) dd rd) al so (PySem.W.bound_map hub)
  refine wpAny_bind (wpAny_holding (wpAny_call_entry slot_list_sort ⟨_, hat, rfl⟩ entry_list_sort ?body (args_list_sort _)))
  case body =>
    refine PySem.W.list_sort_vals (s := { s with heap := s.heap.push (seqObj "list" acc.toArray 0) }) hat S hz2 ⟨_, rfl, wpAny_pure (hR _ _ ?_)⟩
    have each := PySem.W.sortVals_data false rel rd al
    generalize PySem.W.sortVals (PySem.W.dataKind (PySem.W.sortingHeap (s.heap.push (seqObj "list" acc.toArray 0)) s.heap.objs.size acc) (ys.map dd)) false acc acc = out at each ⊢
    obtain ⟨ee, he'⟩ := PyProof.Rows.sortedHeap_at (vs := acc) (out := out.toArray) hat
    have hl2 : ((ys.mergeSort (PySem.W.dataLe false dd)).map v).length ≤ sizeLine := by
      rw [List.length_map, List.length_mergeSort]
      omega
    have free : H s.heap.objs.size = none := I.hok.fresh (Nat.le_refl _)
    have gone : s.heap.get? s.heap.objs.size = none := by
      cases e : s.heap.get? s.heap.objs.size with
      | none => rfl
      | some ob => exact absurd rfl (hlt _ ob e)
    exact ⟨.ref s.heap.objs.size, upd H s.heap.objs.size (.lst ((ys.mergeSort (PySem.W.dataLe false dd)).map v)), I.laidN (t' := s.toks) (fun b ob e => by rw [PyProof.Rows.sortedHeap_old (hlt b ob e) (Heap.lt_size (old b ob e))]; exact old b ob e) gone free ⟨hl2, out, ee, vals_each (v := v) each, by simpa using he'⟩, rfl, qq _ free⟩
/-! ### sorted(d): a dict by numbers -/
def rSortKI (K : PySem.W.Frag) : List V → Hp → VK → Prop := fun vs H Q => ∃ (a : Addr) (kvs : List (Key × V)) (ks : List Int), vs = [.ref a] ∧ Rd H a (.dK kvs) ∧ kvs.map (·.1) = ks.map Sum.inl ∧ ∀ p, H p = none → Q (.ref p) (upd H p (.lst ((ks.mergeSort (PySem.W.dataLe false PyData.int)).map V.int)))
theorem cr_sortKI (K : PySem.W.Frag) {X : Cx} (calm : X.calm = true) (hu : X.A.units + 64 < cLine) (hK : X.K = K := by rfl) : CallR X (.builtin "sorted") (rSortKI K) := by
  subst hK
  intro pins s σ H xs us Q I r q
  obtain ⟨a, kvs, ks, ex, hd, hks, q⟩ := q
  subst ex
  obtain ⟨u, eu, rx⟩ := vals1 r
  subst eu
  cases rx
  obtain ⟨z, lo, vs, rel, dd⟩ := dk_rd I.hok hd
  obtain ⟨ep, hat⟩ := dd.dictAt
  have hkeys : vs.map (·.1) = ks.map Sum.inl := rel.keys.symm.trans hks
  have hl : vs.length = ks.length := by
    have e := congrArg List.length hkeys
    rw [List.length_map, List.length_map] at e
    exact e
  have hkl : kvs.length = ks.length := by
    have e := congrArg List.length hks
    rw [List.length_map, List.length_map] at e
    exact e
  have h16 : vs.length ≤ sizeLine := by omega
  refine Calls.call_function_entry PyProof.Rows.kind_sorted PyProof.Rows.plain_sorted PyProof.Rows.entry_sorted (PyProof.Rows.args_sorted1 _) ?_
  unfold Builtin.«sorted»
  refine wpAny_bind (m := checkCount "sorted" 1 1 _) (wpAny_pure ?_)
  refine wpAny_bind (PySem.W.kdu_collect (A := X.A.in1) (PySem.W.kdl_dict (knd := mixKind X.prog X.w) (kvs := vs) (ep := ep) lo) (I.ok.hd calm) hat h16 fun h' tk acc hk hacc => ?_)
  have hal : acc.toList.length = ks.length := by rw [Array.length_toList, hacc.1, hl]
  have hS : IntsAre acc.toList ks := ints_each hal fun j v e => by
    obtain ⟨k, x, e1, e2⟩ := hacc.2 j v (by rw [← Array.getElem?_toList]; exact e)
    have e3 : (vs.map (·.1))[j]? = some k := by rw [List.getElem?_map, e1]; rfl
    rw [hkeys, List.getElem?_map] at e3
    cases e4 : ks[j]? with
    | none => rw [e4] at e3; cases e3
    | some y =>
      rw [e4] at e3
      have e5 : Sum.inl y = k := Option.some.inj e3
      subst e5
      rcases keyIs_shape (show keyIs (Sum.inl y) v = true from e2) with ⟨i, t, ek, ev⟩ | ⟨z, t, ek, ev⟩
      · cases ek
        exact ⟨y, t, rfl, ev⟩
      · cases ek
  have I1 : Inv X pins σ H { s with heap := h', toks := tk } := I.kept hk
  refine sort_tail I1 hu (v := V.int) (dd := PyData.int) (ys := ks) (vals_of_ints hS) (fun y _ => ⟨.int _, by simp [PyData.depth]⟩) (PySem.W.AllAlike.of fun b b' => by simp [PySem.W.alike]) (PySem.W.Sortable.others fun b => ⟨(fun z => by cases z), fun xs z => by cases z⟩) (by omega) q fun l s' h => ⟨_, rfl, h⟩
/-! ### sorted(d.items()): a dict by numbers, of numbers -/
theorem laid_tuples {X : Cx} {pins : List (Addr × Obj)} {σ : L2.St} {H : Hp} {s : Shared} {h' : Heap} {tk : Nat} {kvs : List (Key × V)} {vs : List (Key × Value)} {as : List Addr} (I : Inv X pins σ H s) (kv : KV kvs vs)
    (hk : ∀ b o, s.heap.get? b = some o → h'.get? b = some o) (hl : as.length = vs.length) (hG : PySem.W.KdxG (mixKind X.prog X.w) vs s.heap.objs.size h' as) :
    ∃ H' : Hp, Ext H H' ∧ Paired (fun (t : Addr) (q : Key × V) => H' t = some (.tup [kV q.1, q.2])) as kvs ∧ Inv X pins σ H' { s with heap := h', toks := tk } := by
  have lk : kvs.length = vs.length := Paired.length kv
  have nd : as.Nodup := List.Pairwise.imp (fun {a b} (h : a < b) => Nat.ne_of_lt h) hG.rise
  have new : ∀ t ∈ as, H t = none := fun t ht => I.hok.fresh (Nat.le_of_lt (hG.above t ht))
  have atP := LiI.putT_at as kvs H (by omega) nd
  have off : ∀ b, b ∉ as → LiI.putT H as kvs b = H b := fun b h1 => LiI.putT_off as kvs _ h1
  have low : ∀ b o, s.heap.get? b = some o → b ∉ as := fun b o e z => absurd (Heap.lt_size e) (Nat.not_lt.mpr (Nat.le_of_lt (hG.above b z)))
  have kp : ∀ b u, H b = some u → (LiI.putT H as kvs) b = some u := fun b u e => by
    rw [off b (fun z => by rw [new b z] at e; cases e)]
    exact e
  refine ⟨LiI.putT H as kvs, kp, atP, ?_⟩
  refine I.call' (ch := []) rfl ⟨fun b o q _ _ _ => hk b o q, fun b o q _ _ _ => ⟨o.slots, hk b o q⟩, fun b o q n _ => ?_, fun b o q _ => ⟨o, hk b o q⟩, fun b xs q => kp b _ q, fun b o u q => kp b _ q, fun b ps q => ⟨#[], by rw [kp b _ q]; simp⟩⟩ (fun b u q => ?_) I.bare fun b z => by simp at z
  · rw [off b (low b o q)]
    exact n
  · by_cases hb : b ∈ as
    · obtain ⟨j, pk, e1, e2, e3⟩ := LiI.paired_ix atP hb
      rw [e3] at q
      cases q
      obtain ⟨key, k, x, f1, f2, f3⟩ := hG.pairs j b e1
      obtain ⟨qv, g1, g2, g3⟩ := LiI.paired_get kv e2
      rw [f1] at g1
      cases g1
      have rk : RelV (kV pk.1) key := by
        rw [g2]
        exact relV_key (show keyIs k key = true from f2)
      exact ⟨by show 2 ≤ sizeLine; decide, [key, x], .cons rk (.cons g3 .nil), ⟨_, f3, rfl, _, rfl⟩⟩
    · rw [off b hb] at q
      exact (I.hok b u q).stay (fun d v _ y => hk d v y) (fun d y => kp d _ y) fun d xs y => kp d _ y
def d2 (y : Addr × Int × Int) : PyData := .tuple [.int y.2.1, .int y.2.2]
def tSortItems (te : TE) : TE := fun σ H Q => te σ H fun x H1 => ∃ (d : Addr) (t : List (Int × Int)), x = .ref d ∧ H1 d = some (.dK (t.map fun y => (.inl y.1, .int y.2))) ∧
  ∀ (p : Addr) (ys : List (Addr × Int × Int)) (H' : Hp), H1 p = none → Ext H1 H' → H' p = some (.lst (ys.map fun y => .ref y.1)) → (∀ y ∈ ys, H' y.1 = some (.tup [.int y.2.1, .int y.2.2])) → ys.map (·.2) = t.mergeSort (PySem.W.dataLe false fun z : Int × Int => PyData.tuple [.int z.1, .int z.2]) → Q (.ref p) H'
theorem pe_sortItems {X : Cx} {o : Expr} {p pos apos mpos : Pos} {td : TE} (calm : X.calm = true) (hu : X.A.units + 64 < cLine) (gl : Gl X "sorted") (free : X.mg "sorted" = none) (ho : PE X o td) (b0 : attributeBase o "items" X.env (eval o X.env) = eval o X.env := by rfl) (l0 : (apos.endLine == mpos.line) = true := by rfl)
    (st : starEach [Expr.Call (.Attribute o "items" apos) [] [] mpos] X.env = [(false, eval (Expr.Call (.Attribute o "items" apos) [] [] mpos) X.env)] := by rfl) : PE X (.Call (.Name "sorted" p) [.Call (.Attribute o "items" apos) [] [] mpos] [] pos) (tSortItems td) := by
  refine ⟨fun pins s σ H Q I h => wpAny_Call_Name_kw (ld_blt I gl free (u := .builtin "sorted") (by decide +kernel) ?_ (by decide) (by decide))⟩
  rw [st]
  refine PySem.callWith_builtin1 (wpAny_Call_method0_late b0 l0 (thn (ho.run pins s σ H _ I h) fun v s1 ⟨x, H1, I1, r1, a, t, ex, ha, q⟩ => ?_))
  subst ex
  obtain rfl : v = Value.ref a := r1
  obtain ⟨hz, nsys, vs, rel, dof⟩ := dk_of I1.hok ha
  obtain ⟨ep, dat⟩ := dof.dictAt
  obtain ⟨ob, es, hob, ex, _⟩ := id dat
  have low : a < s1.heap.objs.size := Heap.lt_size hob
  refine ⟨"dict", "dict.items", F.plainAttrs_dict, F.slot_dict_items, F.type_dict_items, ⟨ob, hob, ex.1⟩, fun b e => by cases e; exact ⟨ob, hob, ex.2.1⟩, Calls.callWith_builtin rfl (PySem.evalArgs_none ?_)⟩
  refine call_meetsIn F.slot_dict_items ⟨ob, hob, ex.1⟩ F.entry_dict_items (F.args_dict_items_1 _) (meets_dict_items (mixKind X.prog X.w) a nsys) ⟨⟨vs, dof⟩, ?_⟩
  have len : vs.length = t.length := by
    have e1 := KV.length rel
    rw [List.length_map] at e1
    exact e1.symm
  have hz' : t.length ≤ sizeLine := by
    rw [List.length_map] at hz
    exact hz
  have I2 : Inv X pins σ H1 { s1 with heap := s1.heap.push { cls := .type "dict_items", data := .fields #[.ref a] } } := I1.kept (t' := s1.toks) fun b ob q => Heap.get?_push_of_some _ q
  refine Calls.call_function_entry PyProof.Rows.kind_sorted PyProof.Rows.plain_sorted PyProof.Rows.entry_sorted (PyProof.Rows.args_sorted1 _) ?_
  unfold Builtin.«sorted»
  refine wpAny_bind (m := checkCount "sorted" 1 1 _) (wpAny_pure ?_)
  refine wpAny_bind (PySem.W.kdx_collect (A := X.A.in1) (knd := mixKind X.prog X.w) (kvs := vs) (ep := ep) (I.ok.hd calm) ⟨_, Heap.get?_push_size _ rfl, rfl, rfl⟩ (dat.push _) (by omega) fun h' tk as hk hl hG => ?_)
  obtain ⟨H', k1, k6, J⟩ := laid_tuples (tk := tk) I2 rel hk hl hG
  have hal : as.length = t.length := by omega
  have e1 : (as.zip t).map (·.1) = as := List.map_fst_zip (by omega)
  have e2 : (as.zip t).map (·.2) = t := List.map_snd_zip (by omega)
  have hat : ∀ y ∈ as.zip t, H' y.1 = some (.tup [.int y.2.1, .int y.2.2]) := by
    have : ∀ {as : List Addr} {t : List (Int × Int)}, Paired (fun (b : Addr) (q : Key × V) => H' b = some (.tup [kV q.1, q.2])) as (t.map fun y => ((.inl y.1 : Key), V.int y.2)) → ∀ y ∈ as.zip t, H' y.1 = some (.tup [.int y.2.1, .int y.2.2]) := by
      intro as
      induction as with
      | nil => intro t _ y hy; cases hy
      | cons b as ih =>
        intro t hp y hy
        cases t with
        | nil => cases hy
        | cons z t =>
          rw [List.map_cons] at hp
          cases hp with
          | cons r tl =>
            rcases List.mem_cons.mp hy with rfl | hy
            · exact r
            · exact ih tl y hy
    exact this k6
  have rv : Vals ((as.zip t).map fun y => V.ref y.1) (as.map Value.ref) := by
    have e3 : ((as.zip t).map fun y => V.ref y.1) = as.map V.ref := by
      have := congrArg (List.map V.ref) e1
      rw [List.map_map] at this
      exact this
    rw [e3]
    exact LiI.vals_refs as
  refine sort_tail J hu (v := fun y : Addr × Int × Int => V.ref y.1) (dd := d2) (ys := as.zip t) rv (fun y hy => ⟨.tup (SqT.of (hat y hy)) (.cons (.int _) (.cons (.int _) .nil)), by simp [d2, PyData.depth, PyData.depthAll]⟩) (PySem.W.AllAlike.of fun b b' => by simp [d2, PySem.W.alike, PySem.W.alikeAll]) (PySem.W.Sortable.tuples fun b => ⟨_, _, rfl⟩) (by rw [List.length_zip]; omega) (fun p hp => ?_) fun l s' h => ⟨_, rfl, h⟩
  have xp := Ext.new (o := .lst (((as.zip t).mergeSort (PySem.W.dataLe false d2)).map fun y => V.ref y.1)) hp
  refine q p _ _ (k1.none hp) (k1.trans xp) upd_same (fun y hy => xp _ _ (hat y ((List.mergeSort_perm _ _).mem_iff.mp hy))) ?_
  have hm := List.map_mergeSort (r := PySem.W.dataLe false d2) (s := PySem.W.dataLe false fun z : Int × Int => PyData.tuple [.int z.1, .int z.2]) (f := fun b : Addr × Int × Int => b.2) (l := as.zip t) (fun a _ b _ => rfl)
  rw [e2] at hm
  exact hm
end Pf


namespace Pf
open PySem PySem.Spec PyProof.Rows L2
/-! ### sorted(d.items()): a dict by texts, of numbers -/
def d2S (y : Addr × Str × Int) : PyData := .tuple [.str y.2.1, .int y.2.2]
def tSortItemsS (te : TE) : TE := fun σ H Q => te σ H fun x H1 => ∃ (d : Addr) (t : List (Str × Int)), x = .ref d ∧ H1 d = some (.dK (t.map fun y => (.inr y.1, .int y.2))) ∧
  ∀ (p : Addr) (ys : List (Addr × Str × Int)) (H' : Hp), H1 p = none → Ext H1 H' → H' p = some (.lst (ys.map fun y => .ref y.1)) → (∀ y ∈ ys, H' y.1 = some (.tup [.str y.2.1, .int y.2.2])) → ys.map (·.2) = t.mergeSort (PySem.W.dataLe false fun z : Str × Int => PyData.tuple [.str z.1, .int z.2]) → Q (.ref p) H'
theorem pe_sortItemsS {X : Cx} {o : Expr} {p pos apos mpos : Pos} {td : TE} (calm : X.calm = true) (hu : X.A.units + 64 < cLine) (gl : Gl X "sorted") (free : X.mg "sorted" = none) (ho : PE X o td) (b0 : attributeBase o "items" X.env (eval o X.env) = eval o X.env := by rfl) (l0 : (apos.endLine == mpos.line) = true := by rfl)
    (st : starEach [Expr.Call (.Attribute o "items" apos) [] [] mpos] X.env = [(false, eval (Expr.Call (.Attribute o "items" apos) [] [] mpos) X.env)] := by rfl) : PE X (.Call (.Name "sorted" p) [.Call (.Attribute o "items" apos) [] [] mpos] [] pos) (tSortItemsS td) := by
  refine ⟨fun pins s σ H Q I h => wpAny_Call_Name_kw (ld_blt I gl free (u := .builtin "sorted") (by decide +kernel) ?_ (by decide) (by decide))⟩
  rw [st]
  refine PySem.callWith_builtin1 (wpAny_Call_method0_late b0 l0 (thn (ho.run pins s σ H _ I h) fun v s1 ⟨x, H1, I1, r1, a, t, ex, ha, q⟩ => ?_))
  subst ex
  obtain rfl : v = Value.ref a := r1
  obtain ⟨hz, nsys, vs, rel, dof⟩ := dk_of I1.hok ha
  obtain ⟨ep, dat⟩ := dof.dictAt
  obtain ⟨ob, es, hob, ex, _⟩ := id dat
  have low : a < s1.heap.objs.size := Heap.lt_size hob
  refine ⟨"dict", "dict.items", F.plainAttrs_dict, F.slot_dict_items, F.type_dict_items, ⟨ob, hob, ex.1⟩, fun b e => by cases e; exact ⟨ob, hob, ex.2.1⟩, Calls.callWith_builtin rfl (PySem.evalArgs_none ?_)⟩
  refine call_meetsIn F.slot_dict_items ⟨ob, hob, ex.1⟩ F.entry_dict_items (F.args_dict_items_1 _) (meets_dict_items (mixKind X.prog X.w) a nsys) ⟨⟨vs, dof⟩, ?_⟩
  have len : vs.length = t.length := by
    have e1 := KV.length rel
    rw [List.length_map] at e1
    exact e1.symm
  have hz' : t.length ≤ sizeLine := by
    rw [List.length_map] at hz
    exact hz
  have I2 : Inv X pins σ H1 { s1 with heap := s1.heap.push { cls := .type "dict_items", data := .fields #[.ref a] } } := I1.kept (t' := s1.toks) fun b ob q => Heap.get?_push_of_some _ q
  refine Calls.call_function_entry PyProof.Rows.kind_sorted PyProof.Rows.plain_sorted PyProof.Rows.entry_sorted (PyProof.Rows.args_sorted1 _) ?_
  unfold Builtin.«sorted»
  refine wpAny_bind (m := checkCount "sorted" 1 1 _) (wpAny_pure ?_)
  refine wpAny_bind (PySem.W.kdx_collect (A := X.A.in1) (knd := mixKind X.prog X.w) (kvs := vs) (ep := ep) (I.ok.hd calm) ⟨_, Heap.get?_push_size _ rfl, rfl, rfl⟩ (dat.push _) (by omega) fun h' tk as hk hl hG => ?_)
  obtain ⟨H', k1, k6, J⟩ := laid_tuples (tk := tk) I2 rel hk hl hG
  have hal : as.length = t.length := by omega
  have e1 : (as.zip t).map (·.1) = as := List.map_fst_zip (by omega)
  have e2 : (as.zip t).map (·.2) = t := List.map_snd_zip (by omega)
  have hat : ∀ y ∈ as.zip t, H' y.1 = some (.tup [.str y.2.1, .int y.2.2]) := by
    have : ∀ {as : List Addr} {t : List (Str × Int)}, Paired (fun (b : Addr) (q : Key × V) => H' b = some (.tup [kV q.1, q.2])) as (t.map fun y => ((.inr y.1 : Key), V.int y.2)) → ∀ y ∈ as.zip t, H' y.1 = some (.tup [.str y.2.1, .int y.2.2]) := by
      intro as
      induction as with
      | nil => intro t _ y hy; cases hy
      | cons b as ih =>
        intro t hp y hy
        cases t with
        | nil => cases hy
        | cons z t =>
          rw [List.map_cons] at hp
          cases hp with
          | cons r tl =>
            rcases List.mem_cons.mp hy with rfl | hy
            · exact r
            · exact ih tl y hy
    exact this k6
  have rv : Vals ((as.zip t).map fun y => V.ref y.1) (as.map Value.ref) := by
    have e3 : ((as.zip t).map fun y => V.ref y.1) = as.map V.ref := by
      have := congrArg (List.map V.ref) e1
      rw [List.map_map] at this
      exact this
    rw [e3]
    exact LiI.vals_refs as
  refine sort_tail J hu (v := fun y : Addr × Str × Int => V.ref y.1) (dd := d2S) (ys := as.zip t) rv (fun y hy => ⟨.tup (SqT.of (hat y hy)) (.cons (.str _) (.cons (.int _) .nil)), by simp [d2S, PyData.depth, PyData.depthAll]⟩) (PySem.W.AllAlike.of fun b b' => by simp [d2S, PySem.W.alike, PySem.W.alikeAll]) (PySem.W.Sortable.tuples fun b => ⟨_, _, rfl⟩) (by rw [List.length_zip]; omega) (fun p hp => ?_) fun l s' h => ⟨_, rfl, h⟩
  have xp := Ext.new (o := .lst (((as.zip t).mergeSort (PySem.W.dataLe false d2S)).map fun y => V.ref y.1)) hp
  refine q p _ _ (k1.none hp) (k1.trans xp) upd_same (fun y hy => xp _ _ (hat y ((List.mergeSort_perm _ _).mem_iff.mp hy))) ?_
  have hm := List.map_mergeSort (r := PySem.W.dataLe false d2S) (s := PySem.W.dataLe false fun z : Str × Int => PyData.tuple [.str z.1, .int z.2]) (f := fun b : Addr × Str × Int => b.2) (l := as.zip t) (fun a _ b _ => rfl)
  rw [e2] at hm
  exact hm
/-! ### the least of three -/
def rMin3 : List V → Hp → VK → Prop := fun xs H Q => ∃ i j k : Int, xs = [.int i, .int j, .int k] ∧ ∀ m : Int, m ≤ i → m ≤ j → m ≤ k → (m = i ∨ m = j ∨ m = k) → Q (.int m) H
theorem call_min3 {X : Cx} (hc : X.calm = true) : CallR X (.builtin "min") rMin3 := fun pins s σ H xs us Q I r h => by
  obtain ⟨i, j, k, ex, q⟩ := h
  refine call_min3Nu hc pins s σ H xs us Q I r ⟨.int i, .int j, .int k, .int (if k < (if j < i then j else i) then k else (if j < i then j else i)), ex, ?_, q _ ?_ ?_ ?_ ?_⟩
  · have e1 : nuMin2 (.int i) (.int j) = some (.int (if j < i then j else i)) := by
      show some (if decide (j < i) = true then V.int j else V.int i) = _
      by_cases h : j < i
      · rw [if_pos (decide_eq_true h), if_pos h]
      · rw [if_neg (fun z => h (of_decide_eq_true z)), if_neg h]
    show (nuMin2 (.int i) (.int j)).bind _ = _
    rw [e1]
    generalize (if j < i then j else i) = m
    show some (if decide (k < m) = true then V.int k else V.int m) = _
    by_cases h : k < m
    · rw [if_pos (decide_eq_true h), if_pos h]
    · rw [if_neg (fun z => h (of_decide_eq_true z)), if_neg h]
  all_goals (split <;> split <;> omega)
end Pf


namespace Pf
open PySem PySem.Spec PyProof.Rows L2
/-! ### d != {} -/
def rNeDK0 : R2 := fun x y H Q => ∃ a b ks, x = .ref a ∧ y = .ref b ∧ H a = some (.dK ks) ∧ H b = some (.dK []) ∧ Q (.bl (!ks.isEmpty)) H
theorem neDK0 {X : Cx} (hu : X.A.units + 64 < cLine) : OpR X (compareOp .NotEq) rNeDK0 := by
  intro pins s σ H x y v u Q I rx ry h
  obtain ⟨a, b, ks, rfl, rfl, ea, eb, q⟩ := h
  obtain rfl : v = Value.ref a := rx
  obtain rfl : u = Value.ref b := ry
  obtain ⟨_, ya, va, ra, da⟩ := (show ObjOk X.prog X.w H s.heap a (.dK ks) from I.hok a _ ea)
  obtain ⟨_, yb, vb, rb, db⟩ := (show ObjOk X.prog X.w H s.heap b (.dK []) from I.hok b _ eb)
  have hb0 : vb.length = 0 := rb.length.symm
  refine PySem.W.keq_ne (knd := mixKind X.prog X.w) (r := true) ya yb da db (by omega) (fun hl => ?_) (fin_bl I q ?_)
  · have h0 : ks = [] := by
      have : ks.length = 0 := by rw [ra.length, hl, hb0]
      exact List.length_eq_zero_iff.mp this
    subst h0
    exact hits_all rb ra (fun p hp => by cases hp)
  · have h1 : ks.isEmpty = decide (va.length = vb.length) := by
      rw [hb0, ← ra.length]
      cases ks <;> simp
    rw [h1, Bool.and_true]
    rfl
/-! ### sorted(d): a dict by texts -/
def rSortKS (K : PySem.W.Frag) : List V → Hp → VK → Prop := fun vs H Q => ∃ (a : Addr) (kvs : List (Key × V)) (ks : List Str), vs = [.ref a] ∧ Rd H a (.dK kvs) ∧ kvs.map (·.1) = ks.map Sum.inr ∧ ∀ p, H p = none → Q (.ref p) (upd H p (.lst ((ks.mergeSort (PySem.W.dataLe false PyData.str)).map V.str)))
theorem cr_sortKS (K : PySem.W.Frag) {X : Cx} (calm : X.calm = true) (hu : X.A.units + 64 < cLine) (hK : X.K = K := by rfl) : CallR X (.builtin "sorted") (rSortKS K) := by
  subst hK
  intro pins s σ H xs us Q I r q
  obtain ⟨a, kvs, ks, ex, hd, hks, q⟩ := q
  subst ex
  obtain ⟨u, eu, rx⟩ := vals1 r
  subst eu
  cases rx
  obtain ⟨z, lo, vs, rel, dd⟩ := dk_rd I.hok hd
  obtain ⟨ep, hat⟩ := dd.dictAt
  have hkeys : vs.map (·.1) = ks.map Sum.inr := rel.keys.symm.trans hks
  have hl : vs.length = ks.length := by
    have e := congrArg List.length hkeys
    rw [List.length_map, List.length_map] at e
    exact e
  have hkl : kvs.length = ks.length := by
    have e := congrArg List.length hks
    rw [List.length_map, List.length_map] at e
    exact e
  have h16 : vs.length ≤ sizeLine := by omega
  refine Calls.call_function_entry PyProof.Rows.kind_sorted PyProof.Rows.plain_sorted PyProof.Rows.entry_sorted (PyProof.Rows.args_sorted1 _) ?_
  unfold Builtin.«sorted»
  refine wpAny_bind (m := checkCount "sorted" 1 1 _) (wpAny_pure ?_)
  refine wpAny_bind (PySem.W.kdu_collect (A := X.A.in1) (PySem.W.kdl_dict (knd := mixKind X.prog X.w) (kvs := vs) (ep := ep) lo) (I.ok.hd calm) hat h16 fun h' tk acc hk hacc => ?_)
  have hal : acc.toList.length = ks.length := by rw [Array.length_toList, hacc.1, hl]
  have hS : Vals (ks.map V.str) acc.toList := by
    have aux : ∀ (ks : List Str) (us : List Value), us.length = ks.length → (∀ (j : Nat) (v : Value), us[j]? = some v → ∃ (z : Str) (t : Tok), ks[j]? = some z ∧ v = Value.str z t) → Vals (ks.map V.str) us := by
      intro ks
      induction ks with
      | nil =>
        intro us h _
        cases us with
        | nil => exact .nil
        | cons _ _ => cases h
      | cons k ks ih =>
        intro us h hv
        cases us with
        | nil => cases h
        | cons u us =>
          obtain ⟨z, t, e1, e2⟩ := hv 0 u rfl
          have e1 : k = z := Option.some.inj e1
          subst e1 e2
          exact .cons ⟨_, rfl⟩ (ih us (by simpa using h) fun j v e => hv (j + 1) v e)
    refine aux ks acc.toList hal fun j v e => ?_
    obtain ⟨k, x, e1, e2⟩ := hacc.2 j v (by rw [← Array.getElem?_toList]; exact e)
    have e3 : (vs.map (·.1))[j]? = some k := by rw [List.getElem?_map, e1]; rfl
    rw [hkeys, List.getElem?_map] at e3
    cases e4 : ks[j]? with
    | none => rw [e4] at e3; cases e3
    | some y =>
      rw [e4] at e3
      have e5 : Sum.inr y = k := Option.some.inj e3
      subst e5
      rcases keyIs_shape (show keyIs (Sum.inr y) v = true from e2) with ⟨i, t, ek, ev⟩ | ⟨z, t, ek, ev⟩
      · cases ek
      · cases ek
        exact ⟨y, t, rfl, ev⟩
  have I1 : Inv X pins σ H { s with heap := h', toks := tk } := I.kept hk
  refine sort_tail I1 hu (v := V.str) (dd := PyData.str) (ys := ks) hS (fun y _ => ⟨.str _, by simp [PyData.depth]⟩) (PySem.W.AllAlike.of fun b b' => by simp [PySem.W.alike]) (PySem.W.Sortable.others fun b => ⟨(fun z => by cases z), fun xs z => by cases z⟩) (by omega) q fun l s' h => ⟨_, rfl, h⟩
end Pf


namespace Pf
open PySem PySem.Spec PyProof.Rows L2
/-! ### a dict by texts, of small numbers -/
def encT (y : Str × Int) : Key × V := (.inr y.1, .int y.2)
theorem put_encT (t : List (Str × Int)) (k : Str) (z : Int) (hn : (t.map (·.1)).Nodup) : ∃ t' : List (Str × Int), putK (t.map encT) (.inr k) (.int z) = t'.map encT ∧ (t'.map (·.1)).Nodup ∧ t'.length ≤ t.length + 1 ∧ ∀ y ∈ t', y ∈ t ∨ y = (k, z) := by
  unfold putK
  by_cases h : k ∈ t.map (·.1)
  · rw [if_pos (by
      rw [List.any_eq_true]
      obtain ⟨y, hy, e⟩ := List.mem_map.mp h
      exact ⟨encT y, List.mem_map.mpr ⟨y, hy, rfl⟩, decide_eq_true (by rw [← e]; rfl)⟩)]
    refine ⟨t.map fun y => if y.1 = k then (k, z) else y, ?_, ?_, by rw [List.length_map]; omega, fun y hy => ?_⟩
    · rw [List.map_map, List.map_map]
      refine List.map_congr_left fun y _ => ?_
      show (if (Sum.inr y.1 : Key) = Sum.inr k then (Sum.inr y.1, V.int z) else encT y) = encT (if y.1 = k then (k, z) else y)
      by_cases e : y.1 = k
      · rw [if_pos (by rw [e]), if_pos e, e]
        rfl
      · rw [if_neg (fun w => e (Sum.inr.inj w)), if_neg e]
    · rw [List.map_map]
      have e : ((fun y : Str × Int => y.1) ∘ fun y => if y.1 = k then (k, z) else y) = fun y => y.1 := by
        funext y
        show (if y.1 = k then (k, z) else y).1 = y.1
        split
        · rename_i e
          exact e.symm
        · rfl
      rw [e]
      exact hn
    · obtain ⟨y0, hy0, rfl⟩ := List.mem_map.mp hy
      split
      · exact .inr rfl
      · exact .inl hy0
  · rw [if_neg (by
      intro w
      obtain ⟨kv, hkv, e⟩ := List.any_eq_true.mp w
      obtain ⟨y, hy, rfl⟩ := List.mem_map.mp hkv
      have e : (Sum.inr y.1 : Key) = Sum.inr k := of_decide_eq_true e
      exact h (List.mem_map.mpr ⟨y, hy, Sum.inr.inj e⟩))]
    refine ⟨t ++ [(k, z)], by rw [List.map_append]; rfl, ?_, by rw [List.length_append]; exact Nat.le_refl _, fun y hy => ?_⟩
    · rw [List.map_append]
      refine List.nodup_append.mpr ⟨hn, List.pairwise_singleton _ _, fun a ha b hb => ?_⟩
      rw [List.mem_singleton.mp hb]
      intro e
      have e : a = k := e
      exact h (by rw [← e]; exact ha)
    · rcases List.mem_append.mp hy with hy | hy
      · exact .inl hy
      · exact .inr (List.mem_singleton.mp hy)
def lkS (t : List (Str × Int)) (k : Str) : Int := match t with
  | [] => 0
  | y :: r => if y.1 = k then y.2 else lkS r k
theorem val_encT : ∀ {t : List (Str × Int)} {k : Str}, k ∈ t.map (·.1) → valV (t.map encT) (.inr k) = some (.int (lkS t k)) ∧ (k, lkS t k) ∈ t
  | [], k, h => by cases h
  | y :: r, k, h => by
    rw [List.map_cons, lkS]
    by_cases e : y.1 = k
    · rw [valV_pos (show (encT y).1 = Sum.inr k by rw [← e]; rfl), if_pos e]
      refine ⟨rfl, ?_⟩
      rw [← e]
      exact List.mem_cons_self ..
    · rw [valV_neg (show ¬ (encT y).1 = Sum.inr k from fun z => e (Sum.inr.inj z)), if_neg e]
      rw [List.map_cons] at h
      rcases List.mem_cons.mp h with z | z
      · exact absurd z.symm e
      · have := val_encT z
        exact ⟨this.1, List.mem_cons_of_mem _ this.2⟩
section
variable {β : Type} {R : Hp → V → β → Prop} {D : Addr} {H H1 H4 : Hp} {bs : List β} {i n : Nat} {v : V} {b : β}
def GenP2 (R : Hp → V → β → Prop) (D : Addr) (H1 : Hp) (bs : List β) (i : Nat) (H : Hp) : Prop := ∃ vs, H D = some (.lst vs) ∧ Paired (R H) vs (bs.take i) ∧ Ext H1 H
theorem gen2_new (hD : H1 D = none) : GenP2 R D H1 bs 0 (upd H1 D (.lst [])) := ⟨[], upd_same, by rw [List.take_zero]; exact .nil, Ext.new hD⟩
theorem GenP2.ext (h : GenP2 R D H1 bs i H) : Ext H1 H := by
  obtain ⟨_, _, _, k⟩ := h
  exact k
theorem gen2_step (m : Mono R) (hD : H1 D = none) (h : GenP2 R D H1 bs i H) (k : Ext H H4) (hv : R H4 v b) (hb : bs[i]? = some b) (hn : bs.length ≤ 1000000) : ∃ acc, H4 D = some (.lst acc) ∧ acc.length < sizeLine ∧ GenP2 R D H1 bs (i + 1) (upd H4 D (.lst (acc ++ [v]))) := by
  obtain ⟨vs, hL, hP, k1⟩ := h
  have hl := paired_len hP
  rw [List.length_take] at hl
  have hi := (List.getElem?_eq_some_iff.mp hb).1
  have hL4 := k _ _ hL
  refine ⟨vs, hL4, szLt (by omega), vs ++ [v], upd_same, ?_, (k1.trans k).put hD⟩
  rw [List.take_add_one, hb]
  exact paired_app (paired_imp (fun _ _ => m _ _ _ _ ((TupK.ext k).trans (TupK.lst hL4))) hP) (.cons (m _ _ _ _ (TupK.lst hL4) hv) .nil)
theorem gen2_end (h : GenP2 R D H1 bs n H) (hn : bs.length ≤ n) : ∃ vs, H D = some (.lst vs) ∧ Paired (R H) vs bs ∧ Ext H1 H := by
  obtain ⟨vs, hL, hP, k⟩ := h
  rw [List.take_of_length_le hn] at hP
  exact ⟨vs, hL, hP, k⟩
end
theorem int_01 {b : Bool} : (if b = true then (1 : Int) else 0) = 0 ∨ (if b = true then (1 : Int) else 0) = 1 := by
  cases b
  · exact .inl rfl
  · exact .inr rfl
section
variable {P : Program} {w : World} {K : PySem.W.Frag} {mg : Str → Option Value} {base : Heap}
abbrev s_law_rules : Stmt := topS 40
theorem sc_law_rules : FnScope ["_law_pen", "_law_most", "_law_signs", "_law_every", "_law_one", "_law_some", "_law_k", "_law_costs", "_law_close_ones", "_law_texts", "_law_both", "_law_stacked_so", "_law_text", "_law_two", "_law_other"] ["_law_pen", "_law_most"] (defScope s_law_rules) :=
  ⟨rfl, rfl, rfl, by decide +kernel, rfl, by decide +kernel, by decide +kernel⟩
def spRules : Sp := fun vs H Q _ => ∃ (p c : Addr) (most : Int) (n : Nat), vs = [.ref p, .int most] ∧ Pen H p c n ∧ n + 300 < 1000000 ∧ 1 ≤ most ∧ most ≤ 4 ∧
  ∀ v r H', RulesAt H' v r → RlOk r → OfP r → (r.letters.length : Int) ≤ most → Kp p H H' → Pen H' p c (n + 300) → Q v H'
theorem ok_rules {f : Addr} {fd : FuncData} (F : Fun K "_law_rules" "_law_rules" s_law_rules f fd) (c_law_draw : CDraw P w K mg base) (c_law_letters : CLetters P w K mg base) (c_law_worth : CWorth P w K mg base)
    (mlen : mg "len" = none) (mint : mg "int" = none) (mtuple : mg "tuple" = none) (mrange : mg "range" = none) (msorted : mg "sorted" = none) : FnOk P w K mg base CX0 3 f fd ["_law_pen", "_law_most"] spRules := by
  refine F.ok sc_law_rules (fun vs H Q E h => ?_) (fun cdv A outer s H vs Q E hr h => ?_)
  · obtain ⟨p, c, most, n, rfl, _⟩ := h
    rfl
  · obtain ⟨p, c, most, n, rfl, hP, hn, m1, m6, q⟩ := h
    refine ⟨_, (pss_cons (ps_set (i := 2) sc_law_rules.nd rfl (.inl rfl) (pe_ca c_law_letters (hr.mono (by decide)) (by rfl) (pa_cons (pv 0) (pa_cons (pv 1) pa_nil))))
      (pss_cons (ps_set (i := 3) sc_law_rules.nd rfl (.inl rfl) (pe_lst pa_nil))
      (pss_cons (ps_for PassesOwn.never rfl (pi_str (pv 2)) (pg_name (i := 4) sc_law_rules.nd rfl (.inr rfl)) (pss_one (ps_set (i := 3) sc_law_rules.nd rfl (.inl rfl) (pe_op op_cat (pv 3) (pe_lc (own := [("_law_other", 14)]) (g := gName 14) (by rfl) sc_law_rules.nd (pi_str (pv 2)) (blkOk_by (own := [("_law_other", 14)]) (N := ["_law_pen", "_law_most", "_law_signs", "_law_every", "_law_one", "_law_some", "_law_k", "_law_costs", "_law_close_ones", "_law_texts", "_law_both", "_law_stacked_so", "_law_text", "_law_two", "_law_other"]) (sc := defScope s_law_rules) (by decide +kernel)) (fun _ _ _ _ _ => (pg_name (i := 14) sc_law_rules.nd rfl (.inl rfl))) (fun _ _ _ _ _ => pts_nil) (fun _ _ _ _ _ => (pe_op op_add_str (pv 4) (pv 14))))))))
      (pss_cons (ps_set (i := 3) sc_law_rules.nd rfl (.inl rfl) (pe_slice (slL K) (pv 3) po_none (po_some pe_int)))
      (pss_cons (ps_set (i := 5) sc_law_rules.nd rfl (.inr rfl) pe_dnewK)
      (pss_cons (ps_for PassesOwn.never rfl (pi_range1 (by rfl) mrange (pa_cons (pe_callB (lenQ K) (by rfl) mlen (by decide +kernel) (pa_cons (pv 3) pa_nil)) pa_nil)) (pg_name (i := 6) sc_law_rules.nd rfl (.inl rfl)) (pss_one (ps_if (pt_cmpR op_gt (pe_ca c_law_draw (hr.mono (by decide)) (by rfl) (pa_cons (pv 0) (pa_cons (pe_ix (ixL K) (pe_lst (pa_cons pe_int (pa_cons pe_int pa_nil))) (pe_ca c_law_draw (hr.mono (by decide)) (by rfl) (pa_cons (pv 0) (pa_cons pe_int pa_nil))) (fun _ _ => rfl)) pa_nil))) pe_int (nomark _)) (pss_one (ps_dput (hu_of hr) (pv 5) (pe_ix (ixL K) (pv 3) (pv 6) (fun _ _ => rfl)) (pe_ix (ixL K) (pe_lst (pa_cons (pe_ca c_law_worth (hr.mono (by decide)) (by rfl) (pa_cons (pv 0) pa_nil)) (pa_cons (pe_op op_sub (pe_un un_neg pe_int) (pe_ca c_law_draw (hr.mono (by decide)) (by rfl) (pa_cons (pv 0) (pa_cons pe_int pa_nil)))) pa_nil))) (pe_callTy call_int1 (by rfl) mint (by decide +kernel) (pa_cons (pe_cmpR op_gt (pe_ca c_law_draw (hr.mono (by decide)) (by rfl) (pa_cons (pv 0) (pa_cons pe_int pa_nil))) pe_int (nomark _)) pa_nil)) (fun _ _ => rfl)) rfl)) pss_nil)))
      (pss_cons (ps_set (i := 7) sc_law_rules.nd rfl (.inl rfl) (pe_callTy (tupleOf K) (by rfl) mtuple (by decide +kernel) (pa_cons (pe_lc (own := [("_law_k", 6)]) (g := gName 6) (by rfl) sc_law_rules.nd (pi_range1 (by rfl) mrange (pa_cons pe_int pa_nil)) (blkOk_by (own := [("_law_k", 6)]) (N := ["_law_pen", "_law_most", "_law_signs", "_law_every", "_law_one", "_law_some", "_law_k", "_law_costs", "_law_close_ones", "_law_texts", "_law_both", "_law_stacked_so", "_law_text", "_law_two", "_law_other"]) (sc := defScope s_law_rules) (by decide +kernel)) (fun _ _ _ _ _ => (pg_name (i := 6) sc_law_rules.nd rfl (.inl rfl))) (fun _ _ _ _ _ => pts_nil) (fun _ _ _ _ _ => (pe_ix (ixL K) (pe_lst (pa_cons pe_int (pa_cons (pe_ca c_law_worth (hr.mono (by decide)) (by rfl) (pa_cons (pv 0) pa_nil)) pa_nil))) (pe_callTy call_int1 (by rfl) mint (by decide +kernel) (pa_cons (pe_cmpR op_gt (pe_ca c_law_draw (hr.mono (by decide)) (by rfl) (pa_cons (pv 0) (pa_cons pe_int pa_nil))) pe_int (nomark _)) pa_nil)) (fun _ _ => rfl)))) pa_nil)))
      (pss_cons (ps_set (i := 8) sc_law_rules.nd rfl (.inr rfl) pe_dnewT)
      (pss_cons (ps_for PassesOwn.never rfl (pi_range1 (by rfl) mrange (pa_cons (pe_op op_mul (pe_ix (ixL K) (pe_lst (pa_cons pe_int (pa_cons pe_int (pa_cons pe_int pa_nil)))) (pe_ca c_law_draw (hr.mono (by decide)) (by rfl) (pa_cons (pv 0) (pa_cons pe_int pa_nil))) (fun _ _ => rfl)) (pe_callTy call_int1 (by rfl) mint (by decide +kernel) (pa_cons (pe_cmpR (neDK0 hr.units) (pv 5) pe_dnewK (nomark _)) pa_nil))) pa_nil)) (pg_name (i := 6) sc_law_rules.nd rfl (.inl rfl)) (pss_cons (ps_set (i := 9) sc_law_rules.nd rfl (.inl rfl) (pe_callB (cr_sortKS K rfl hr.units) (by rfl) msorted (by decide +kernel) (pa_cons (pv 5) pa_nil)))
      (pss_one (ps_dput (hu_of hr) (pv 8) (pe_tup (pa_cons (pe_ix (ixL K) (pv 9) (pe_ca c_law_draw (hr.mono (by decide)) (by rfl) (pa_cons (pv 0) (pa_cons (pe_callB (lenQ K) (by rfl) mlen (by decide +kernel) (pa_cons (pv 9) pa_nil)) pa_nil))) (fun _ _ => rfl)) (pa_cons (pe_ix (ixL K) (pv 9) (pe_ca c_law_draw (hr.mono (by decide)) (by rfl) (pa_cons (pv 0) (pa_cons (pe_callB (lenQ K) (by rfl) mlen (by decide +kernel) (pa_cons (pv 9) pa_nil)) pa_nil))) (fun _ _ => rfl)) pa_nil))) (pe_ca c_law_worth (hr.mono (by decide)) (by rfl) (pa_cons (pv 0) pa_nil)) rfl))))
      (pss_cons (ps_set (i := 10) sc_law_rules.nd rfl (.inl rfl) (pe_callTy (tupleFz K) (by rfl) mtuple (by decide +kernel) (pa_cons (pe_lc (own := [("_law_text", 12)]) (g := gName 12) (by rfl) sc_law_rules.nd (pi_list (pe_callB (cr_sortKS K rfl hr.units) (by rfl) msorted (by decide +kernel) (pa_cons (pv 5) pa_nil))) (blkOk_by (own := [("_law_text", 12)]) (N := ["_law_pen", "_law_most", "_law_signs", "_law_every", "_law_one", "_law_some", "_law_k", "_law_costs", "_law_close_ones", "_law_texts", "_law_both", "_law_stacked_so", "_law_text", "_law_two", "_law_other"]) (sc := defScope s_law_rules) (by decide +kernel)) (fun _ _ _ _ _ => (pg_name (i := 12) sc_law_rules.nd rfl (.inl rfl))) (fun _ _ _ _ _ => pts_nil) (fun _ _ _ _ _ => (pe_tup (pa_cons (pv 12) (pa_cons (pe_dget (hu_of hr) (pv 5) (pv 12) (fun _ _ => rfl)) pa_nil))))) pa_nil)))
      (pss_cons (ps_set (i := 11) sc_law_rules.nd rfl (.inl rfl) (pe_callTy (tupleOf K) (by rfl) mtuple (by decide +kernel) (pa_cons (pe_lc (own := [("_law_two", 13)]) (g := gName 13) (by rfl) sc_law_rules.nd (pi_list (pe_callB (cr_sortKT K rfl hr.units) (by rfl) msorted (by decide +kernel) (pa_cons (pv 8) pa_nil))) (blkOk_by (own := [("_law_two", 13)]) (N := ["_law_pen", "_law_most", "_law_signs", "_law_every", "_law_one", "_law_some", "_law_k", "_law_costs", "_law_close_ones", "_law_texts", "_law_both", "_law_stacked_so", "_law_text", "_law_two", "_law_other"]) (sc := defScope s_law_rules) (by decide +kernel)) (fun _ _ _ _ _ => (pg_name (i := 13) sc_law_rules.nd rfl (.inl rfl))) (fun _ _ _ _ _ => pts_nil) (fun _ _ _ _ _ => (pe_op (catT K) (pv 13) (pe_tup (pa_cons (pe_dget (hu_of hr) (pv 8) (pv 13) (fun _ _ => rfl)) pa_nil))))) pa_nil)))
      (pss_one (ps_ret (pe_tup (pa_cons (pv 2) (pa_cons (pv 10) (pa_cons (pe_ix (ixL K) (pe_lst (pa_cons pe_int (pa_cons pe_int (pa_cons pe_int (pa_cons (pe_ca c_law_draw (hr.mono (by decide)) (by rfl) (pa_cons (pv 0) (pa_cons pe_int pa_nil))) pa_nil))))) (pe_ca c_law_draw (hr.mono (by decide)) (by rfl) (pa_cons (pv 0) (pa_cons pe_int pa_nil))) (fun _ _ => rfl)) (pa_cons (pv 7) (pa_cons (pv 11) pa_nil))))))))))))))))))), ?_⟩
    refine ⟨_, rfl, _, rfl, p, c, most, n, rfl, hP, by omega, m1, by omega, fun sg H1 hs1 hsm6 hsm kp1 hP1 => ?_⟩
    have hs6 : sg.length ≤ 4 := by omega
    -- texts
    refine ⟨Nat.zero_le _, fun e0 he0 => ?_⟩
    refine ⟨_, rfl, _, rfl, for_str (fun i σ H2 => ∃ (l : Addr) (y3 : Option V) (ts : List Str), σ = [some (.ref p), some (.int most), some (.str sg), some (.ref l), y3, none, none, none, none, none, none, none, none, none, none] ∧ l ≠ p ∧ Ext H1 H2 ∧ H2 l = some (.lst (ts.map V.str)) ∧ ts.length ≤ 4 * i ∧ (∀ t ∈ ts, Two t) ∧ ts = evL sg i)
      ⟨e0, none, [], rfl, (hP1.ne he0).1, Ext.new he0, upd_same, by decide, (fun t h => by cases h), by unfold evL; rw [List.take_zero]; rfl⟩ (fun i ch σ H2 hi hv => ?_) (fun σ H2 hv => ?_)⟩
    · obtain ⟨l, y3, ts, rfl, nl, k2, hL, hts, ht2, hte⟩ := hv
      have hi6 : i < sg.length := (Array.getElem?_eq_some_iff.mp hi).1
      refine ⟨_, rfl, _, rfl, _, rfl, fun D hD => lc_str (fun j H3 => ∃ zs : List Str, zs.length = j ∧ (∀ t ∈ zs, Two t) ∧ Ext H2 H3 ∧ H3 D = some (.lst (zs.map V.str)) ∧ zs = (sg.cps.toList.take j).map fun b => (⟨#[ch]⟩ ++ ⟨#[b]⟩ : Str)) ⟨[], rfl, (fun t h => by cases h), Ext.new hD, upd_same, by rw [List.take_zero]; rfl⟩ (fun j cj H3 hj hv => ?_) (fun H3 hv => ?_)⟩
      · obtain ⟨zs, hzs, hz2, k3, hL3, hze⟩ := hv
        have hj6 : j < sg.length := (Array.getElem?_eq_some_iff.mp hj).1
        refine ⟨rfl, _, rfl, _, rfl, _, _, rfl, rfl, szL (show 1 + 1 ≤ 1000000 by decide), _, hL3, szLt ?_, zs ++ [⟨#[ch]⟩ ++ ⟨#[cj]⟩], ?_, fun t ht => ?_, k3.put hD, ?_, ?_⟩
        · rw [List.length_map]
          omega
        · rw [List.length_append, List.length_singleton]
          omega
        · rcases List.mem_append.mp ht with ht | ht
          · exact hz2 t ht
          · rw [List.mem_singleton.mp ht]
            exact ⟨rfl, (Small.one (hsm.at hi)).app (Small.one (hsm.at hj))⟩
        · rw [upd_same, List.map_append]
          rfl
        · have hj' : sg.cps.toList[j]? = some cj := by
            rw [Array.getElem?_toList]
            exact hj
          rw [List.take_add_one, hj', List.map_append, hze]
          rfl
      · obtain ⟨zs, hzs, hz2, k3, hL3, hze⟩ := hv
        have hzs : zs.length ≤ 4 := by
          have : sg.cps.size ≤ 4 := hs6
          omega
        refine ⟨l, D, _, _, rfl, rfl, k3 _ _ hL, hL3, szL ?_, fun l2 hl2 => ⟨l2, _, ts ++ zs, rfl, (((hP1.ext k2).ext k3).ne hl2).1, (k2.trans k3).trans (Ext.new hl2), ?_, ?_, fun t ht => ?_, ?_⟩⟩
        · rw [List.length_map, List.length_map]
          omega
        · rw [upd_same, List.map_append]
        · rw [List.length_append]
          omega
        · rcases List.mem_append.mp ht with ht | ht
          · exact ht2 t ht
          · exact hz2 t ht
        · have hi' : sg.cps.toList[i]? = some ch := by
            rw [Array.getElem?_toList]
            exact hi
          rw [List.take_of_length_le (by rw [Array.length_toList]; exact Nat.le_refl _)] at hze
          rw [hte, hze]
          unfold evL
          rw [List.take_add_one, hi', List.flatMap_append]
          simp
    obtain ⟨le, y3, ts, rfl, nle, k2, hLe, hts, ht2, hte⟩ := hv
    have hts16 : ts.length ≤ 16 := by
      have : sg.cps.size ≤ 4 := hs6
      omega
    have hP2 := hP1.ext k2
    have kp2 : Kp p H H2 := kp1.trans (Kp.ext k2)
    clear hts k2 kp1 hP1
    refine ⟨_, rfl, 12, rfl, le, _, rfl, SqL.of hLe, fun so hso => ?_⟩
    have ecut : cutV (ts.map V.str) none (some 12) = (ts.take 12).map V.str := by
      have := cut_to (xs := ts.map V.str) (k := 12)
      rw [List.map_take]
      exact this
    rw [ecut]
    obtain ⟨us, eus⟩ : ∃ us, us = ts.take 12 := ⟨_, rfl⟩
    rw [← eus]
    have hu12 : us.length ≤ 12 := by
      rw [eus, List.length_take]
      omega
    have hut : ∀ t ∈ us, Two t ∧ Of sg t := fun t ht => by
      rw [eus] at ht
      have h1 := List.mem_of_mem_take ht
      refine ⟨ht2 t h1, ?_⟩
      rw [hte] at h1
      exact evL_of h1
    have nso := hP2.ne hso
    have hP6 := hP2.new (o := .lst (us.map V.str)) hso
    have kp6 : Kp p H (upd H2 so (.lst (us.map V.str))) := kp2.trans (Kp.new hso)
    have hS6 : (upd H2 so (.lst (us.map V.str))) so = some (.lst (us.map V.str)) := upd_same
    generalize upd H2 so (.lst (us.map V.str)) = H6 at hP6 kp6 hS6 ⊢
    clear hso kp2 hP2 hLe nle
    -- a dict
    refine fun D7 hD7 => ?_
    have nD7 := hP6.ne hD7
    have hP7 := hP6.new (o := .dK []) hD7
    have hS7 := Ext.new (o := .dK []) hD7 _ _ hS6
    have hul : ((us.map V.str).length : Int) = us.length := by rw [List.length_map]
    refine ⟨_, rfl, so, _, rfl, .inl (SqL.of hS7), _, rfl, by omega, by omega, for_range (lo := 0) (n := (((us.map V.str).length : Nat) : Int).toNat) (fun i σ H9 => ∃ (y4 y6 : Option V) (t : List (Str × Int)), σ = [some (.ref p), some (.int most), some (.str sg), some (.ref so), y4, some (.ref D7), y6, none, none, none, none, none, none, none, none] ∧ H9 D7 = some (.dK (t.map encT)) ∧ t.length ≤ i ∧ (t.map (·.1)).Nodup ∧ (∀ y ∈ t, Two y.1 ∧ Of sg y.1 ∧ -99 ≤ y.2 ∧ y.2 ≤ 99) ∧ H9 so = some (.lst (us.map V.str)) ∧ Kp p H6 H9 ∧ Pen H9 p c (n + 10 + 8 * i))
      ⟨_, none, [], rfl, upd_same, Nat.le_refl _, List.Pairwise.nil, (fun y hy => by cases hy), hS7, Kp.new hD7, hP7.mono (by omega)⟩ (fun i σ H9 hi hv => ?_) (fun σ H9 hv => ?_)⟩
    · obtain ⟨y4, y6, t, rfl, hD9, htl9, htn, htb, hS9, k9, hP9⟩ := hv
      refine ⟨_, rfl, szL (show 2 ≤ 1000000 by decide), fun l1 hl1 => ⟨_, rfl, p, c, 2, _, rfl, hP9.new hl1, by omega, by decide, by decide, fun r1 H10 r1a r1b k10 hP10 => ?_⟩⟩
      obtain ⟨z1, hz1, hat1⟩ := atI_ints (ns := [4, 2]) r1a r1b
      have hz1b : 0 < z1 ∧ z1 < 1000000 := by
        simp only [List.mem_cons, List.not_mem_nil, or_false] at hz1
        omega
      refine ⟨l1, _, r1, _, rfl, rfl, SqL.of (k10 _ _ (hP9.ne hl1).1 upd_same), hat1, ?_⟩
      refine ⟨p, c, z1, _, rfl, hP10, by omega, hz1b.1, hz1b.2, fun r2 H11 r2a r2b k11 hP11 => ⟨_, _, rfl, rfl, _, rfl, ite2 (fun e => ?_) (fun e => ?_)⟩⟩
      · have k911 : Kp p H9 H11 := ((Kp.new hl1).trans k10).trans k11
        -- the worth
        refine ⟨_, rfl, p, c, _, rfl, hP11, by omega, fun wv H12 w0 w1 k12 hP12 => ?_⟩
        refine ⟨2, rfl, _, rfl, p, c, 3, _, rfl, hP12, by omega, by decide, by decide, fun r3 H13 r3a r3b k13 hP13 => ⟨-2, r3, rfl, rfl, szL (show 2 ≤ 1000000 by decide), fun l2 hl2 => ?_⟩⟩
        refine ⟨_, rfl, p, c, 3, _, rfl, hP13.new hl2, by omega, by decide, by decide, fun r4 H14 r4a r4b k14 hP14 => ⟨_, _, rfl, rfl, .inr ⟨_, rfl, ?_⟩⟩⟩
        have k1114 : Kp p H11 H14 := ((k12.trans k13).trans (Kp.new hl2)).trans k14
        have hl14 : H14 l2 = some (.lst [V.int wv, .int (-2 - r3)]) := k14 _ _ (hP13.ne hl2).1 upd_same
        obtain ⟨zb, hzb, hzr⟩ : ∃ zb : Int, atI [V.int wv, .int (-2 - r3)] (if decide (r4 > 0) = true then (1 : Int) else 0) = some (.int zb) ∧ -99 ≤ zb ∧ zb ≤ 99 := by
          rcases int_01 (b := decide (r4 > 0)) with h | h
          · rw [h]
            exact ⟨wv, rfl, w0, w1⟩
          · rw [h]
            exact ⟨-2 - r3, rfl, by omega, by omega⟩
        refine ⟨l2, _, _, _, rfl, rfl, SqL.of hl14, hzb, ?_⟩
        have hD14 := k1114 _ _ nD7.1 (k911 _ _ nD7.1 hD9)
        have hS14 := k1114 _ _ nso.1 (k911 _ _ nso.1 hS9)
        have hi2 : i < us.length := by omega
        obtain ⟨u, hu⟩ : ∃ u, us[i]? = some u := ⟨_, List.getElem?_eq_getElem hi2⟩
        have hat : atI (us.map V.str) (0 + (i : Int)) = some (.str u) := by
          rw [atI_get (by omega) (by rw [hul]; omega)]
          have e1 : (us.map V.str)[(0 + (i : Int)).toNat]? = some (.str u) := by
            rw [show (0 + (i : Int)).toNat = i by omega, List.getElem?_map, hu]
            rfl
          rw [← e1, List.getElem?_eq_getElem]
        obtain ⟨t', e', hn', hl', hb'⟩ := put_encT t u zb htn
        refine ⟨_, rfl, _, rfl, _, rfl, so, _, _, _, rfl, rfl, SqL.of hS14, hat, D7, _, rfl, DPut.k (k := .inr u) hD14 (szLt (by rw [List.length_map]; omega)), ?_⟩
        have nDl : so ≠ D7 := fun z => by
          rw [z, hD14] at hS14
          cases hS14
        have hD7H6 : H6 D7 = none := hD7
        refine ⟨_, _, t', rfl, by rw [upd_same, e'], by omega, hn', fun y hy => ?_, ?_, ((k9.trans k911).trans k1114).put hD7H6, (hP14.put nD7.1 nD7.2).mono (by omega)⟩
        · rcases hb' y hy with h | rfl
          · exact htb y h
          · have := hut u (List.mem_of_getElem? hu)
            exact ⟨this.1, this.2, hzr.1, hzr.2⟩
        · rw [upd_ne nDl]
          exact hS14
      · refine ⟨_, _, t, rfl, k11 _ _ nD7.1 (k10 _ _ nD7.1 (Ext.new hl1 _ _ hD9)), by omega, htn, htb, k11 _ _ nso.1 (k10 _ _ nso.1 (Ext.new hl1 _ _ hS9)), ((k9.trans (Kp.new hl1)).trans k10).trans k11, hP11.mono (by omega)⟩
    obtain ⟨y4, y6, t, rfl, hD9, htl9, htn, htb, hS9, k9, hP9⟩ := hv
    have ht12 : t.length ≤ 12 := by omega
    have hP9 := hP9.mono (show n + 10 + 8 * (((us.map V.str).length : Nat) : Int).toNat ≤ n + 106 by omega)
    have kp9 := kp6.trans k9
    clear hP7 hS7 k9 hS9 hP6 kp6 hS6 hD7
    -- costs
    refine ⟨9, rfl, by decide, by decide, fun D22 hD22 => lc_range (lo := 0) (n := 9) (fun i H22 => ∃ ns : List Int, ns.length = i ∧ (∀ x ∈ ns, -99 ≤ x ∧ x ≤ 99) ∧ H22 D22 = some (.lst (ns.map V.int)) ∧ Kp p H9 H22 ∧ Pen H22 p c (n + 106 + 5 * i)) ⟨[], rfl, (fun x h => by cases h), upd_same, Kp.new hD22, (hP9.new hD22).mono (by omega)⟩ (fun i H22 hi hv => ?_) (fun H22 hv => ?_)⟩
    · obtain ⟨ns, hns, hnb, hL22, k22, hP22⟩ := hv
      have nD := hP9.ne hD22
      refine ⟨rfl, _, rfl, p, c, _, rfl, hP22, by omega, fun w H23 wa wb k23 hP23 => ⟨szL (show 2 ≤ 1000000 by decide), fun l2 hl2 => ?_⟩⟩
      refine ⟨_, rfl, p, c, 3, _, rfl, hP23.new hl2, by omega, by decide, by decide, fun r4 H24 r4a r4b k24 hP24 => ⟨_, _, rfl, rfl, .inr ⟨_, rfl, ?_⟩⟩⟩
      have hl24 : H24 l2 = some (.lst [V.int 0, .int w]) := k24 _ _ (hP23.ne hl2).1 upd_same
      obtain ⟨zb, hzb, hzr⟩ : ∃ zb : Int, atI [V.int 0, .int w] (if decide (r4 > 0) = true then (1 : Int) else 0) = some (.int zb) ∧ -99 ≤ zb ∧ zb ≤ 99 := by
        rcases int_01 (b := decide (r4 > 0)) with h | h
        · rw [h]
          exact ⟨0, rfl, by decide, by decide⟩
        · rw [h]
          exact ⟨w, rfl, wa, wb⟩
      have k2224 : Kp p H22 H24 := (k23.trans (Kp.new hl2)).trans k24
      refine ⟨l2, _, _, _, rfl, rfl, SqL.of hl24, hzb, _, k2224 _ _ nD.1 hL22, szLt ?_, ns ++ [zb], ?_, fun x hx => ?_, ?_, (k22.trans k2224).put hD22, (hP24.put nD.1 nD.2).mono (by omega)⟩
      · rw [List.length_map]
        omega
      · rw [List.length_append, List.length_singleton]
        omega
      · rcases List.mem_append.mp hx with hx | hx
        · exact hnb x hx
        · rw [List.mem_singleton.mp hx]
          exact hzr
      · rw [upd_same, List.map_append]
        rfl
    obtain ⟨ns, hns, hnb, hL22, k22, hP22⟩ := hv
    refine ⟨D22, _, rfl, .inl ⟨SqL.of hL22, fun tl htl => ?_⟩⟩
    have x23 := Ext.new (o := .tup (ns.map V.int)) htl
    have hTl : (upd H22 tl (.tup (ns.map V.int))) tl = some (.tup (ns.map V.int)) := upd_same
    have hD23 := x23 _ _ (k22 _ _ nD7.1 hD9)
    have hP23 := hP22.ext x23
    have kp23 := (kp9.trans k22).trans (Kp.ext x23)
    generalize upd H22 tl (.tup (ns.map V.int)) = H23 at hTl hD23 hP23 kp23 ⊢
    clear x23 hL22 k22 hP22 htl hP9 kp9 hD9 hD22
    -- rows
    refine fun st hst => ?_
    have nst := hP23.ne hst
    have x13 := Ext.new (o := .dT []) hst
    have hP13 := hP23.ext x13
    have kp13 := kp23.trans (Kp.ext x13)
    have hD13 := x13 _ _ hD23
    have hTl13 := x13 _ _ hTl
    have hE13 : (upd H23 st (.dT [])) st = some (.dT []) := upd_same
    have nstD : st ≠ D7 := fun z => by
      rw [z, hD23] at hst
      cases hst
    have hst0 : H st = none := none_of kp23 nst.1 hst
    generalize upd H23 st (.dT []) = H13 at hP13 kp13 hD13 hTl13 hE13 ⊢
    clear x13 hst hTl hD23 hP23 kp23
    refine ⟨szL (show 3 ≤ 1000000 by decide), fun l14 hl14 => ⟨_, rfl, p, c, 3, _, rfl, hP13.new hl14, by omega, by decide, by decide, fun rc H14 rca rcb k14 hP14 => ?_⟩⟩
    obtain ⟨y, hy, haty⟩ := atI_ints (ns := [0, 2, 12]) rca rcb
    have hy2 : 0 ≤ y ∧ y ≤ 12 := by
      simp only [List.mem_cons, List.not_mem_nil, or_false] at hy
      omega
    have k1314 : Kp p H13 H14 := (Kp.new hl14).trans k14
    have hD14 := k1314 _ _ nD7.1 hD13
    have hE14 := k1314 _ _ nst.1 hE13
    have tk1314 : TupK H13 H14 := TupK.of k1314 hP13
    refine ⟨l14, _, rc, _, rfl, rfl, SqL.of (k14 _ _ (hP13.ne hl14).1 upd_same), haty, _, rfl, fun d15 hd15 => ?_⟩
    have x15 := Ext.new (o := .dK []) hd15
    refine ⟨D7, d15, t.map encT, rfl, rfl, x15 _ _ hD14, upd_same, .inr ⟨_, rfl, y, _, rfl, rfl, .inl ⟨by omega, by omega⟩, ?_⟩⟩
    obtain ⟨cnt, hcnt, cnt0, cnt12, cntU⟩ : ∃ cnt : Int, cnt = y * (if (!(t.map encT).isEmpty) = true then 1 else 0) ∧ 0 ≤ cnt ∧ cnt ≤ 12 ∧ (0 < cnt → 0 < t.length) := by
      refine ⟨_, rfl, ?_⟩
      cases t with
      | nil => simp
      | cons y z =>
        rw [show (!((y :: z).map encT).isEmpty) = true from rfl, if_pos rfl, Int.mul_one, List.length_cons]
        omega
    have hkeys : (t.map encT).map (·.1) = (t.map (·.1)).map Sum.inr := by
      rw [List.map_map, List.map_map]
      rfl
    obtain ⟨kz, hkz⟩ : ∃ kz, kz = (t.map (·.1)).mergeSort (PySem.W.dataLe false PyData.str) := ⟨_, rfl⟩
    have kzp : kz.Perm (t.map (·.1)) := hkz ▸ List.mergeSort_perm _ _
    have hkl : kz.length = t.length := by rw [kzp.length_eq, List.length_map]
    have hkm : ∀ k ∈ kz, k ∈ t.map (·.1) := fun k hk => kzp.mem_iff.mp hk
    have hk2 : ∀ k ∈ kz, Two k ∧ Of sg k := fun k hk => by
      obtain ⟨y, hy, rfl⟩ := List.mem_map.mp (hkm k hk)
      exact ⟨(htb y hy).1, (htb y hy).2.1⟩
    refine ⟨cnt, congrArg (fun z => [V.int z]) hcnt.symm, by omega, by omega, for_range (lo := 0) (n := cnt.toNat) (fun i σ H16 => ∃ (y6 y9 : Option V) (es : List (Str × Str × Int)), σ = [some (.ref p), some (.int most), some (.str sg), some (.ref so), y4, some (.ref D7), y6, some (.ref tl), some (.ref st), y9, none, none, none, none, none] ∧ H16 st = some (.dT (es.map encE)) ∧ es.length ≤ i ∧ (es.map fun x => (x.1, x.2.1)).Nodup ∧ (∀ x ∈ es, Two x.1 ∧ Two x.2.1 ∧ -99 ≤ x.2.2 ∧ x.2.2 ≤ 99) ∧ H16 D7 = some (.dK (t.map encT)) ∧ TupK H13 H16 ∧ Kp p H H16 ∧ Pen H16 p c (n + 152 + 6 * i))
      ⟨_, none, [], rfl, x15 _ _ hE14, Nat.zero_le _, List.nodup_nil, (fun x h => by cases h), x15 _ _ hD14, tk1314.trans (TupK.ext x15), (kp13.trans k1314).trans (Kp.ext x15), (hP14.ext x15).mono (by omega)⟩ (fun i σ H16 hi hv => ?_) (fun σ H16 hv => ?_)⟩
    · obtain ⟨y6, y9, es, rfl, hE16, hel, hnd, hok, hD16, tk16, k16, hP16⟩ := hv
      have hu0 : 0 < kz.length := by
        have := cntU (by omega)
        omega
      refine ⟨_, rfl, D7, _, _, rfl, .inl hD16, hkeys, fun lz hlz => ?_⟩
      rw [← hkz]
      have nlz := hP16.ne hlz
      have x17 := Ext.new (o := .lst (kz.map V.str)) hlz
      have hP17 := hP16.ext x17
      have hZ17 : (upd H16 lz (.lst (kz.map V.str))) lz = some (.lst (kz.map V.str)) := upd_same
      have hD17 := x17 _ _ hD16
      have hE17 := x17 _ _ hE16
      generalize upd H16 lz (.lst (kz.map V.str)) = H17 at x17 hP17 hZ17 hD17 hE17 ⊢
      have hzl : ((kz.map V.str).length : Int) = kz.length := by rw [List.length_map]
      refine ⟨_, rfl, p, c, _, rfl, hP17, by omega, fun w H18 wa wb k18 hP18 => ?_⟩
      have hZ18 := k18 _ _ nlz.1 hZ17
      refine ⟨_, rfl, _, rfl, _, rfl, _, rfl, lz, _, rfl, .inl (SqL.of hZ18), p, c, _, _, rfl, hP18, by omega, by omega, by omega, fun r1 H19 r1a r1b k19 hP19 => ?_⟩
      have hZ19 := k19 _ _ nlz.1 hZ18
      obtain ⟨v1, hv1, hat1⟩ := atI_mem (xs := kz.map V.str) r1a r1b
      obtain ⟨t1, ht1, rfl⟩ := List.mem_map.mp hv1
      refine ⟨lz, _, r1, _, rfl, rfl, SqL.of hZ19, hat1, ?_⟩
      refine ⟨_, rfl, _, rfl, _, rfl, lz, _, rfl, .inl (SqL.of hZ19), p, c, _, _, rfl, hP19, by omega, by omega, by omega, fun r2 H20 r2a r2b k20 hP20 => ?_⟩
      obtain ⟨v2, hv2, hat2⟩ := atI_mem (xs := kz.map V.str) r2a r2b
      obtain ⟨t2, ht2', rfl⟩ := List.mem_map.mp hv2
      refine ⟨lz, _, r2, _, rfl, rfl, SqL.of (k20 _ _ nlz.1 hZ19), hat2, szL (show 2 ≤ 1000000 by decide), fun tk htk => ?_⟩
      have k1720 : Kp p H17 H20 := (k18.trans k19).trans k20
      have x21 := Ext.new (o := .tup [.str t1, .str t2]) htk
      have hT21 : (upd H20 tk (.tup [.str t1, .str t2])) tk = some (.tup [.str t1, .str t2]) := upd_same
      have hP21 := hP20.ext x21
      have hE21 := x21 _ _ (k1720 _ _ nst.1 hE17)
      have hD21 := x21 _ _ (k1720 _ _ nD7.1 hD17)
      refine ⟨st, _, rfl, DPut.t (k := [.inr t1, .inr t2]) hE21 hT21 (szLt ?_), ?_⟩
      · rw [List.length_map]
        omega
      · rw [put_enc]
        generalize upd H20 tk (.tup [.str t1, .str t2]) = H21 at hT21 hP21 hE21 hD21 x21 ⊢
        have tkd : TupK H21 (upd H21 st (.dT ((putE es t1 t2 w).map encE))) := ⟨fun b xs e => by rw [upd_ne (ne_of e hE21 (by intro z; cases z))]; exact e, fun b o u e => by rw [upd_ne (ne_of e hE21 (by intro z; cases z))]; exact e⟩
        refine ⟨_, _, putE es t1 t2 w, rfl, upd_same, ?_, putE_keys _ _ _ _ hnd, putE_all hok ⟨(hk2 t1 ht1).1, (hk2 t2 ht2').1, wa, wb⟩, ?_, ?_, ?_, ?_⟩
        · have := putE_len es t1 t2 w
          omega
        · rw [upd_ne nstD.symm]
          exact hD21
        · exact (((tk16.trans (TupK.ext x17)).trans (TupK.of k1720 hP17)).trans (TupK.ext x21)).trans tkd
        · exact (((k16.trans (Kp.ext x17)).trans k1720).trans (Kp.ext x21)).put hst0
        · exact (hP21.put nst.1 nst.2).mono (by omega)
    · obtain ⟨y6, y9, es, rfl, hE16, hel, hnd, hok, hD16, tk16, k16, hP16⟩ := hv
      have hes12 : es.length ≤ 12 := by omega
      -- both
      refine ⟨_, rfl, D7, _, _, rfl, .inl hD16, hkeys, fun lz hlz => ?_⟩
      rw [← hkz]
      have x17 := Ext.new (o := .lst (kz.map V.str)) hlz
      have hZ17 : (upd H16 lz (.lst (kz.map V.str))) lz = some (.lst (kz.map V.str)) := upd_same
      have hD17 := x17 _ _ hD16
      have hE17 := x17 _ _ hE16
      have hP17 := hP16.ext x17
      have kp17 := k16.trans (Kp.ext x17)
      have tk17 := tk16.trans (TupK.ext x17)
      generalize upd H16 lz (.lst (kz.map V.str)) = H17 at hZ17 hD17 hE17 hP17 kp17 tk17 ⊢
      clear x17 hP16 k16 tk16 hD16 hE16
      refine ⟨lz, rfl, ⟨_, SqL.of hZ17⟩, fun D hD => lc_list (K := K) (xs := kz.map V.str) (GenP2 PairAt D H17 (kz.map fun k => (k, lkS t k)))
        (gen2_new hD) (fun i H18 _ h => SqL.of (h.ext _ _ hZ17)) (fun i u H18 hi hv => ?_) (fun H18 hv => ?_)⟩
      · rw [List.getElem?_map] at hi
        obtain ⟨k, hk, rfl⟩ : ∃ k, kz[i]? = some k ∧ u = V.str k := by
          cases e : kz[i]? with
          | none => rw [e] at hi; cases hi
          | some k => rw [e] at hi; exact ⟨k, rfl, (Option.some.inj hi).symm⟩
        have hval := val_encT (hkm k (List.mem_of_getElem? hk))
        have hD18 := hv.ext _ _ hD17
        refine ⟨rfl, _, rfl, _, rfl, _, rfl, D7, _, rfl, hval.1 ▸ DGet.k (k := .inr k) hD18, szL (show 2 ≤ 1000000 by decide), fun t7 ht7 => ?_⟩
        have x7 := Ext.new (o := .tup [.str k, .int (lkS t k)]) ht7
        refine gen2_step PairAt.mono hD hv x7 (b := (k, lkS t k)) ⟨t7, rfl, upd_same⟩ ?_ (by rw [List.length_map]; omega)
        rw [List.getElem?_map, hk]
        rfl
      obtain ⟨vs, hL18, hPr, k18⟩ := gen2_end hv (by rw [List.length_map, List.length_map]; exact Nat.le_refl _)
      clear hv
      refine ⟨D, _, rfl, SqL.of hL18, fun tp oz htp hoz => ?_⟩
      have hTp : FrzOf PairAt (upd H18 tp (.frz oz (.tup vs))) (.ref tp) (kz.map fun k => (k, lkS t k)) := ⟨tp, oz, vs, rfl, upd_same, hoz, paired_imp (fun _ _ => PairAt.mono _ _ _ _ (TupK.new htp)) hPr⟩
      have x19 := k18.trans (Ext.new (o := .frz oz (.tup vs)) htp)
      have hE19 := x19 _ _ hE17
      have hP19 := hP17.ext x19
      have kp19 := kp17.trans (Kp.ext x19)
      have tk19 := tk17.trans (TupK.ext x19)
      generalize upd H18 tp (.frz oz (.tup vs)) = H16 at hTp hE19 hP19 kp19 tk19 ⊢
      clear x19 hL18 hPr k18 hP17 kp17 tk17 hZ17 hD17 hE17 htp hD
      -- piles
      have hD16 := hE19
      have hP16 := hP19
      have k16 := kp19
      have tk16 := tk19
      refine ⟨_, rfl, st, _, rfl, .inl hD16, fun bs hkeys => ?_⟩
      obtain ⟨bes, hb1, hb2, hb3⟩ := keys_zip hkeys
      refine ⟨_, fun x => x.1, fun x => .tuple [.str x.2.1, .str x.2.2.1], bes, hb1.symm, fun x hx => ⟨.tup (SqT.of (hb3 x hx)) (.cons (.str _) (.cons (.str _) .nil)), by simp [PyData.depth, PyData.depthAll]⟩, ?_, .inl ?_, fun ls hls2 => ?_⟩
      · intro d1 h1 d2 h2
        obtain ⟨x1, _, rfl⟩ := List.mem_map.mp h1
        obtain ⟨x2, _, rfl⟩ := List.mem_map.mp h2
        simp [PySem.W.alike, PySem.W.alikeAll]
      · intro d1 h1
        obtain ⟨x1, _, rfl⟩ := List.mem_map.mp h1
        exact ⟨_, _, rfl⟩
      · obtain ⟨S, hS⟩ : ∃ S, S = bes.mergeSort (PySem.W.dataLe false fun x => PyData.tuple [.str x.2.1, .str x.2.2.1]) := ⟨_, rfl⟩
        rw [← hS]
        have hperm : S.Perm bes := hS ▸ List.mergeSort_perm _ _
        have hSl : S.length ≤ 12 := by
          rw [hperm.length_eq]
          have := congrArg List.length hb2
          rw [List.length_map] at this
          omega
        have e17 := Ext.new (o := .lst (S.map fun x => V.ref x.1)) hls2
        refine ⟨ls, rfl, ⟨_, SqL.of upd_same⟩, fun D hD => lc_list (K := K) (xs := S.map fun x => V.ref x.1) (fun i H18 => ∃ (vs : List V) (stk : List (Str × Str × Int)), H18 D = some (.lst vs) ∧ Paired (StackAt H18) vs stk ∧ stk = (S.take i).map (·.2) ∧ Ext (upd H16 ls (.lst (S.map fun x => V.ref x.1))) H18)
          ⟨[], [], upd_same, .nil, rfl, Ext.new hD⟩ (fun i H18 _ ⟨_, _, _, _, _, k⟩ => SqL.of (k _ _ upd_same)) (fun i u H18 hi hv => ?_) (fun H18 hv => ?_)⟩
        · obtain ⟨vs, stk, hL18, hPr18, hstk, k18⟩ := hv
          rw [List.getElem?_map] at hi
          obtain ⟨x, hx, rfl⟩ : ∃ x, S[i]? = some x ∧ u = V.ref x.1 := by
            cases e : S[i]? with
            | none => rw [e] at hi; cases hi
            | some x => rw [e] at hi; exact ⟨x, rfl, (Option.some.inj hi).symm⟩
          have hxm : x ∈ bes := hperm.mem_iff.mp (List.mem_of_getElem? hx)
          have hxe : x.2 ∈ es := hb2 ▸ List.mem_map.mpr ⟨x, hxm, rfl⟩
          have hb18 := k18 _ _ (e17 _ _ (hb3 x hxm))
          have hD18 := k18 _ _ (e17 _ _ hD16)
          have hdg : DGet H18 st (.ref x.1) (some (.int x.2.2.2)) := val_enc hnd hxe ▸ DGet.t (k := [.inr x.2.1, .inr x.2.2.1]) hD18 hb18
          refine ⟨rfl, _, rfl, _, rfl, _, rfl, st, _, rfl, hdg, szL (show 1 ≤ 1000000 by decide), fun t1 ht1 => ?_⟩
          have e19 := Ext.new (o := .tup [.int x.2.2.2]) ht1
          refine ⟨x.1, t1, _, _, rfl, rfl, SqT.of (e19 _ _ hb18), SqT.of upd_same, (fun z => by cases z), szL (show 2 + 1 ≤ 1000000 by decide), (fun z => by cases z), fun _ t2 ht2 => ?_⟩
          have e20 := e19.trans (Ext.new (o := .tup [.str x.2.1, .str x.2.2.1, .int x.2.2.2]) ht2)
          have hL20 := e20 _ _ hL18
          have nDt : t2 ≠ D := by
            intro z
            rw [← z] at hL20
            rw [upd_same] at hL20
            cases hL20
          have hvl : vs.length ≤ 12 := by
            rw [paired_len hPr18, hstk, List.length_map, List.length_take]
            omega
          refine ⟨vs, hL20, szLt (by omega), vs ++ [.ref t2], stk ++ [x.2], upd_same, ?_, ?_, (k18.trans e20).put hD⟩
          · refine (paired_imp (fun _ _ => StackAt.mono _ _ _ _ ((TupK.ext e20).trans (TupK.lst hL20))) hPr18).snoc ⟨t2, rfl, ?_⟩
            rw [upd_ne nDt, upd_same]
          · rw [List.take_add_one, hx, List.map_append, hstk]
            rfl
        · obtain ⟨vs, stk, hL18, hPr18, hstk, k18⟩ := hv
          rw [List.length_map, List.take_of_length_le (Nat.le_refl _)] at hstk
          have hkeys2 : (stk.map fun x => (x.1, x.2.1)).Nodup := by
            rw [hstk, List.map_map]
            have : (S.map ((fun x : Str × Str × Int => (x.1, x.2.1)) ∘ fun x : Addr × Str × Str × Int => x.2)).Perm (es.map fun x => (x.1, x.2.1)) := by
              rw [← hb2, List.map_map]
              exact hperm.map _
            exact this.nodup_iff.mpr hnd
          have hstE : ∀ x ∈ stk, x ∈ es := fun x hx => by
            rw [hstk] at hx
            obtain ⟨y, hy, rfl⟩ := List.mem_map.mp hx
            exact hb2 ▸ List.mem_map.mpr ⟨y, hperm.mem_iff.mp hy, rfl⟩
          have hst12 : stk.length ≤ 12 := by
            rw [hstk, List.length_map]
            exact hSl
          refine ⟨D, _, rfl, .inl ⟨SqL.of hL18, fun tr htr => ?_⟩⟩
          have e21 := (e17.trans k18).trans (Ext.new (o := .tup vs) htr)
          have hTr : TupOf StackAt (upd H18 tr (.tup vs)) (.ref tr) stk := ⟨tr, vs, rfl, upd_same, paired_imp (fun _ _ => StackAt.mono _ _ _ _ (TupK.new htr)) hPr18⟩
          have hP21 := hP16.ext e21
          have k21 := k16.trans (Kp.ext e21)
          have tk21 := tk16.trans (TupK.ext e21)
          generalize upd H18 tr (.tup vs) = H21 at hTr hP21 k21 tk21 e21 ⊢
          refine ⟨_, rfl, _, rfl, ?_⟩
          refine ⟨_, rfl, p, c, 4, _, rfl, hP21, by omega, by decide, by decide, fun ra H22 raa rab k22 hP22 => ⟨szL (show 4 ≤ 1000000 by decide), fun l12 hl12 => ?_⟩⟩
          refine ⟨_, rfl, p, c, 4, _, rfl, hP22.new hl12, by omega, by decide, by decide, fun rb H24 rba rbb k24 hP24 => ?_⟩
          obtain ⟨z, hz, hatz⟩ := atI_ints (ns := [0, 0, 1, ra]) rba rbb
          have hz2 : 0 ≤ z ∧ z ≤ 3 := by
            simp only [List.mem_cons, List.not_mem_nil, or_false] at hz
            omega
          refine ⟨l12, _, rb, _, rfl, rfl, SqL.of (k24 _ _ (hP22.ne hl12).1 upd_same), hatz, ?_⟩
          have k2124 : Kp p H21 H24 := (k22.trans (Kp.new hl12)).trans k24
          refine ⟨_, rfl, _, rfl, szL (show 5 ≤ 1000000 by decide), fun tR htR => ?_⟩
          have xR := Ext.new (o := .tup [.str sg, .ref tp, .int z, .ref tl, .ref tr]) htR
          have kR := k2124.trans (Kp.ext xR)
          have tkR : TupK H21 _ := TupK.of kR hP21
          refine q _ ⟨sg, kz.map fun k => (k, lkS t k), z, ns, stk⟩ _ ⟨tR, .ref tp, .ref tl, .ref tr, rfl, upd_same, FrzOf.mono PairAt.mono _ _ _ _ ((TupK.ext e21).trans tkR) hTp, ⟨tl, _, rfl, tkR.1 _ _ (tk21.1 _ _ hTl13), paired_ints ns⟩, TupOf.mono StackAt.mono _ _ _ _ tkR hTr⟩
            ⟨by show sg.length ≤ 6; omega, hs1, hsm, ?_, ?_, hz2.1, hz2.2, hns, hnb, hst12, fun x hx => hok x (hstE x hx), hkeys2, ?_⟩ ?_ hsm6 (k21.trans kR) ((hP24.ext xR).mono (by omega))
          · show (kz.map _).length ≤ 12
            rw [List.length_map]
            omega
          · intro x hx
            obtain ⟨k, hk, rfl⟩ := List.mem_map.mp hx
            have := htb _ (val_encT (hkm k hk)).2
            exact ⟨this.1, this.2.2⟩
          · show ((kz.map fun k => (k, lkS t k)).map (·.1)).Nodup
            rw [List.map_map]
            have : ((fun x : Str × Int => x.1) ∘ fun k => (k, lkS t k)) = id := rfl
            rw [this, List.map_id]
            exact kzp.nodup_iff.mpr htn
          · intro x hx
            obtain ⟨k, hk, rfl⟩ := List.mem_map.mp hx
            exact (hk2 k hk).2
abbrev CRules (P : Program) (w : World) (K : PySem.W.Frag) (mg : Str → Option Value) (base : Heap) : Prop := Ca P w K mg base 3 "_law_rules" ["_law_pen", "_law_most"] spRules
end
end Pf


namespace Pf
open PySem PySem.Spec PyProof.Rows L2
def sgn (x : Str) (i : Int) : Str := ⟨#[x.cps.toList.getD i.toNat 0]⟩
theorem sgn_at {x : Str} {i : Int} (h0 : 0 ≤ i) (h1 : i < x.length) : atI x.cps.toList i = some (x.cps.toList.getD i.toNat 0) := by
  have h2 : i < x.cps.toList.length := by
    rw [Array.length_toList]
    exact h1
  rw [atI_get h0 h2, List.getD_eq_getElem?_getD, List.getElem?_eq_getElem (by omega)]
  rfl
def tx2 (x : Str) (p : Int × Int) : Str := sgn x p.1 ++ sgn x p.2
def pwV : List (Str × Int) → Str → V
  | [], _ => .non
  | (t, x) :: r, b => if t = b then .int x else pwV r b
theorem pwV_at {prs : List (Str × Int)} {i : Nat} {t : Str} {x : Int} (h : prs[i]? = some (t, x)) (b : Str) : pwV (prs.drop i) b = if t = b then .int x else pwV (prs.drop (i + 1)) b := by
  obtain ⟨hi, e⟩ := List.getElem?_eq_some_iff.mp h
  rw [List.drop_eq_getElem_cons hi, e, pwV]
theorem pwV_end {prs : List (Str × Int)} {i : Nat} (h : prs.length ≤ i) (b : Str) : pwV (prs.drop i) b = .non := by
  rw [List.drop_eq_nil_of_le h, pwV]
theorem pwV_is : ∀ (prs : List (Str × Int)) (b : Str), (!decide (pwV prs b = .non)) = decide (b ∈ prs.map (·.1))
  | [], _ => rfl
  | (t, x) :: r, b => by
    rw [pwV, List.map_cons]
    by_cases e : t = b
    · rw [if_pos e, decide_eq_false (fun z => by cases z), decide_eq_true (by rw [e]; exact List.mem_cons_self ..)]
      rfl
    · rw [if_neg e, pwV_is r b]
      refine decide_eq_decide.mpr ⟨fun h => List.mem_cons_of_mem _ h, fun h => ?_⟩
      rcases List.mem_cons.mp h with h | h
      · exact absurd h.symm e
      · exact h
def mayC (r : Rl) (x : Str) (i j : Int) : Bool := decide (r.span < j - i) && decide (tx2 x (i, j) ∈ r.prs.map (·.1))
def encP (x : Str × Int) : Key × V := (.inr x.1, .int x.2)
theorem val_isSome : ∀ (prs : List (Str × Int)) (b : Str), (valV (prs.map encP) (.inr b)).isSome = decide (b ∈ prs.map (·.1))
  | [], _ => rfl
  | (t, x) :: r, b => by
    rw [List.map_cons, List.map_cons]
    by_cases e : t = b
    · rw [valV_pos (show (encP (t, x)).1 = Sum.inr b by rw [e]; rfl), decide_eq_true (by rw [e]; exact List.mem_cons_self ..)]
      rfl
    · rw [valV_neg (show ¬ (encP (t, x)).1 = Sum.inr b from fun z => e (Sum.inr.inj z)), val_isSome r b]
      refine decide_eq_decide.mpr ⟨fun h => List.mem_cons_of_mem _ h, fun h => ?_⟩
      rcases List.mem_cons.mp h with h | h
      · exact absurd h.symm e
      · exact h
theorem merge_nd : ∀ (kvs acc : List (Key × V)), ((acc ++ kvs).map (·.1)).Nodup → mergeK acc kvs = acc ++ kvs
  | [], acc, _ => by rw [List.append_nil]; rfl
  | (k, v) :: r, acc, h => by
    have hno : (acc.any fun kv => decide (kv.1 = k)) = false := by
      rw [List.any_eq_false]
      intro kv hkv e
      have e := of_decide_eq_true e
      rw [List.map_append, List.map_cons] at h
      have := (List.nodup_append.mp h).2.2 kv.1 (List.mem_map.mpr ⟨kv, hkv, rfl⟩) k (List.mem_cons_self ..)
      exact this e
    have e1 : putK acc k v = acc ++ [(k, v)] := by
      unfold putK
      rw [hno, if_neg Bool.false_ne_true]
    show mergeK (putK acc k v) r = _
    rw [e1, merge_nd r (acc ++ [(k, v)]) (by rw [List.append_assoc]; exact h), List.append_assoc]
    rfl
theorem merge_prs {prs : List (Str × Int)} (h : (prs.map (·.1)).Nodup) : mergeK [] (prs.map encP) = prs.map encP := by
  rw [merge_nd, List.nil_append]
  rw [List.nil_append, List.map_map]
  have e : ((fun x : Key × V => x.1) ∘ encP) = (fun x : Str × Int => (Sum.inr x.1 : Key)) := rfl
  rw [e]
  have e2 : (prs.map fun x : Str × Int => (Sum.inr x.1 : Key)) = (prs.map (·.1)).map Sum.inr := by
    rw [List.map_map]
    rfl
  rw [e2]
  exact List.Pairwise.map _ (fun a b z y => z (Sum.inr.inj y)) h
section
variable {P : Program} {w : World} {K : PySem.W.Frag} {mg : Str → Option Value} {base : Heap}
abbrev s_pair_worth : Stmt := topS 8
theorem sc_pair_worth : FnScope ["rules", "both", "text", "worth"] ["rules", "both"] (defScope s_pair_worth) :=
  ⟨rfl, rfl, rfl, by decide +kernel, rfl, by decide +kernel, by decide +kernel⟩
def spPW : Sp := fun vs H Q _ => ∃ (v : V) (r : Rl) (b : Str), vs = [v, .str b] ∧ RulesW H v r ∧ Q (pwV r.prs b) H
theorem ok_pw {f : Addr} {fd : FuncData} {k : Nat} (F : Fun K "pair_worth" "pair_worth" s_pair_worth f fd) : FnOk P w K mg base CX0 (k + 1) f fd ["rules", "both"] spPW := by
  refine F.ok sc_pair_worth (fun vs H Q E h => ?_) (fun cdv A outer s H vs Q E hr h => ?_)
  · obtain ⟨v, r, b, rfl, _⟩ := h
    rfl
  · obtain ⟨v, r, b, rfl, ⟨a, vp, vl, vs, rfl, hA, ⟨ap, us, rfl, hp, hR⟩, _, _⟩, q⟩ := h
    refine ⟨_, (pss_cons (ps_for PassesOwn.never rfl (pi_tup (pe_ix (ixT K) (pv 0) pe_int (fun _ _ => rfl))) (pg_tup rfl (pgs_cons (pg_name (i := 2) sc_pair_worth.nd rfl (.inl rfl)) (pgs_cons (pg_name (i := 3) sc_pair_worth.nd rfl (.inl rfl)) pgs_nil))) (pss_one (ps_if (pt_cmpR op_eq (pv 2) (pv 1) (nomark _)) (pss_one (ps_ret (pv 3))) pss_nil)))
      (pss_one (ps_ret pe_non))), ?_⟩
    have hlen := paired_len hR
    refine ⟨_, rfl, a, _, 1, _, rfl, rfl, SqT.of hA, rfl, ap, rfl, ⟨_, SqT.w hp⟩, for_tup (xs := us) (fun i σ H2 => ∃ (y2 y3 : Option V), σ = [some (.ref a), some (.str b), y2, y3] ∧ H2 = H ∧ pwV (r.prs.drop i) b = pwV r.prs b)
      ⟨none, none, rfl, rfl, rfl⟩ (fun i σ H2 _ ⟨y2, y3, _, e, _⟩ => SqT.w (by rw [e]; exact hp)) (fun i u σ H2 hi hv => ?_) (fun σ H2 hv => ?_)⟩
    · obtain ⟨y2, y3, rfl, rfl, hd⟩ := hv
      obtain ⟨⟨t, x⟩, hx, a1, rfl, ha1⟩ := paired_get hR hi
      rw [pwV_at hx] at hd
      refine ⟨a1, _, rfl, SqT.of ha1, rfl, _, _, rfl, _, _, rfl, rfl, ?_⟩
      refine ⟨_, rfl, _, rfl, rfl, _, rfl, ite2 (fun e => ?_) (fun e => ?_)⟩
      · have e2 : t = b := V.str.inj (of_decide_eq_true e)
        rw [if_pos e2] at hd
        refine ⟨_, rfl, ?_⟩
        show Q (.int x) _
        rw [hd]
        exact q
      · have e2 : ¬ t = b := fun z => e (decide_eq_true (congrArg V.str z))
        rw [if_neg e2] at hd
        exact ⟨_, _, rfl, rfl, hd⟩
    · obtain ⟨y2, y3, rfl, rfl, hd⟩ := hv
      rw [pwV_end (by omega)] at hd
      show Q .non _
      rw [hd]
      exact q
abbrev CPW (P : Program) (w : World) (K : PySem.W.Frag) (mg : Str → Option Value) (base : Heap) : Prop := Ca P w K mg base 1 "pair_worth" ["rules", "both"] spPW
abbrev s_text_of : Stmt := topS 14
theorem sc_text_of : FnScope ["string", "pair"] ["string", "pair"] (defScope s_text_of) :=
  ⟨rfl, rfl, rfl, by decide +kernel, rfl, by decide +kernel, by decide +kernel⟩
def spTextOf : Sp := fun vs H Q _ => ∃ (x : Str) (t : Addr) (y : Int × Int), vs = [.str x, .ref t] ∧ H t = some (.tup [.int y.1, .int y.2]) ∧ x.length ≤ 1000 ∧ 0 ≤ y.1 ∧ y.1 < x.length ∧ 0 ≤ y.2 ∧ y.2 < x.length ∧ Q (.str (tx2 x y)) H
theorem ok_text_of {f : Addr} {fd : FuncData} {k : Nat} (F : Fun K "text_of" "text_of" s_text_of f fd) : FnOk P w K mg base CX0 (k + 1) f fd ["string", "pair"] spTextOf := by
  refine F.ok sc_text_of (fun vs H Q E h => ?_) (fun cdv A outer s H vs Q E hr h => ?_)
  · obtain ⟨x, t, y, rfl, _⟩ := h
    rfl
  · obtain ⟨x, t, y, rfl, hT, hx, i0, i1, j0, j1, q⟩ := h
    refine ⟨_, (pss_one (ps_ret (pe_op op_add_str (pe_ix ix_str (pv 0) (pe_ix (ixT K) (pv 1) pe_int (fun _ _ => rfl)) (fun _ _ => rfl)) (pe_ix ix_str (pv 0) (pe_ix (ixT K) (pv 1) pe_int (fun _ _ => rfl)) (fun _ _ => rfl))))), ?_⟩
    refine ⟨_, rfl, _, rfl, t, _, 0, _, rfl, rfl, SqT.of hT, rfl, x, y.1, _, rfl, rfl, szL (by omega), sgn_at i0 i1, ?_⟩
    refine ⟨_, rfl, _, rfl, t, _, 1, _, rfl, rfl, SqT.of hT, rfl, x, y.2, _, rfl, rfl, szL (by omega), sgn_at j0 j1, ?_⟩
    exact ⟨_, _, rfl, rfl, szL (show 1 + 1 ≤ 1000000 by decide), q⟩
abbrev CTx (P : Program) (w : World) (K : PySem.W.Frag) (mg : Str → Option Value) (base : Heap) : Prop := Ca P w K mg base 1 "text_of" ["string", "pair"] spTextOf
abbrev s_may_pair : Stmt := topS 15
theorem sc_may_pair : FnScope ["rules", "string", "i", "j"] ["rules", "string", "i", "j"] (defScope s_may_pair) :=
  ⟨rfl, rfl, rfl, by decide +kernel, rfl, by decide +kernel, by decide +kernel⟩
def spMP : Sp := fun vs H Q _ => ∃ (v : V) (r : Rl) (x : Str) (i j : Int), vs = [v, .str x, .int i, .int j] ∧ RulesW H v r ∧ x.length ≤ 1000 ∧ 0 ≤ i ∧ i < j ∧ j < x.length ∧ ∀ H', Ext H H' → Q (.bl (mayC r x i j)) H'
theorem ok_mp {f : Addr} {fd : FuncData} (F : Fun K "may_pair" "may_pair" s_may_pair f fd) (ctext_of : CTx P w K mg base) (cpair_worth : CPW P w K mg base) (mlen : mg "len" = none) : FnOk P w K mg base CX0 2 f fd ["rules", "string", "i", "j"] spMP := by
  refine F.ok sc_may_pair (fun vs H Q E h => ?_) (fun cdv A outer s H vs Q E hr h => ?_)
  · obtain ⟨v, r, x, i, j, rfl, _⟩ := h
    rfl
  · obtain ⟨v, r, x, i, j, rfl, hR, hx, e1, e2, e3, q⟩ := h
    obtain ⟨a, vp, vl, vs, rfl, hA, hp, hl, hs⟩ := id hR
    refine ⟨_, (pss_cons (ps_if (pt_not (pt_chain3 op_le op_lt op_lt pe_int (pv 2) (pv 3) (pe_callB call_len_str (by rfl) mlen (by decide +kernel) (pa_cons (pv 1) pa_nil)))) (pss_one (ps_ret pe_bl)) pss_nil)
      (pss_cons (ps_if (pt_cmpR op_lt (pe_op op_sub (pe_op op_sub (pv 3) (pv 2)) pe_int) (pe_ix (ixT K) (pv 0) pe_int (fun _ _ => rfl)) (nomark _)) (pss_one (ps_ret pe_bl)) pss_nil)
      (pss_one (ps_ret (pe_cmpR op_notN (pe_ca cpair_worth (hr.mono (by decide)) (by rfl) (pa_cons (pv 0) (pa_cons (pe_ca ctext_of (hr.mono (by decide)) (by rfl) (pa_cons (pv 1) (pa_cons (pe_tup (pa_cons (pv 2) (pa_cons (pv 3) pa_nil))) pa_nil))) pa_nil))) pe_non (nomark _)))))), ?_⟩
    refine ⟨_, rfl, 0, i, rfl, rfl, _, rfl, ?_⟩
    rw [decide_eq_true e1]
    refine iteT ⟨_, rfl, i, j, rfl, rfl, _, rfl, ?_⟩
    rw [decide_eq_true e2]
    refine iteT ⟨_, rfl, x, rfl, szL (by omega), _, _, rfl, rfl, _, rfl, ?_⟩
    rw [decide_eq_true e3]
    refine iteF ⟨_, rfl, _, rfl, _, _, rfl, rfl, _, 1, rfl, rfl, _, rfl, a, _, 2, _, rfl, rfl, SqT.of hA, rfl, _, _, rfl, rfl, _, rfl, ite2 (fun e4 => ?_) (fun e4 => ?_)⟩
    · have e4 : j - i - 1 < r.span := of_decide_eq_true e4
      have e : mayC r x i j = false := by
        unfold mayC
        rw [decide_eq_false (show ¬ r.span < j - i by omega), Bool.false_and]
      have := q H Ext.refl
      rw [e] at this
      exact this
    · have e4 : ¬ j - i - 1 < r.span := fun z => e4 (decide_eq_true z)
      refine ⟨_, rfl, _, rfl, _, rfl, _, rfl, szL (show 2 ≤ 1000000 by decide), fun t ht => ?_⟩
      refine ⟨x, t, (i, j), rfl, upd_same, hx, e1, (show i < x.length by omega), (show 0 ≤ j by omega), e3, ?_⟩
      refine ⟨_, r, _, rfl, RulesW.mono _ _ _ _ (TupK.new ht) hR, rfl, ?_⟩
      have e : mayC r x i j = !decide (pwV r.prs (tx2 x (i, j)) = .non) := by
        unfold mayC
        rw [decide_eq_true (show r.span < j - i by omega), Bool.true_and, pwV_is]
      have := q _ (Ext.new (o := .tup [.int i, .int j]) ht)
      rw [e] at this
      exact this
abbrev CMP (P : Program) (w : World) (K : PySem.W.Frag) (mg : Str → Option Value) (base : Heap) : Prop := Ca P w K mg base 2 "may_pair" ["rules", "string", "i", "j"] spMP
abbrev s_is_string : Stmt := topS 12
theorem sc_is_string : FnScope ["rules", "thing", "letter"] ["rules", "thing"] (defScope s_is_string) :=
  ⟨rfl, rfl, rfl, by decide +kernel, rfl, by decide +kernel, by decide +kernel⟩
def spIS : Sp := fun vs H Q _ => ∃ (v : V) (r : Rl) (x : Str), vs = [v, .str x] ∧ RulesW H v r ∧ x.length ≤ 12 ∧ Of r.letters x ∧ ∀ H', Ext H H' → Q (.bl true) H'
theorem ok_is {f : Addr} {fd : FuncData} {k : Nat} (F : Fun K "is_string" "is_string" s_is_string f fd) {tM : Tok} (gMOST_PLACES : mg "MOST_PLACES" = some (.int 12 tM)) (misinstance : mg "isinstance" = none) (mstr : mg "str" = none) (mlen : mg "len" = none) (mall : mg "all" = none) : FnOk P w K mg base CX0 (k + 1) f fd ["rules", "thing"] spIS := by
  refine F.ok sc_is_string (fun vs H Q E h => ?_) (fun cdv A outer s H vs Q E hr h => ?_)
  · obtain ⟨v, r, x, rfl, _⟩ := h
    rfl
  · obtain ⟨v, r, x, rfl, hR, hx, hof, q⟩ := h
    obtain ⟨a, vp, vl, vs, rfl, hA, hp, hl, hs⟩ := id hR
    refine ⟨_, (pss_cons (ps_if (PW.pt (pw_or (pt_not (pt_val (pe_callB (isi1 K) (by rfl) misinstance (by decide +kernel) (pa_cons (pv 1) (pa_cons (pe_bltn (v := .ty "str") (by rfl) mstr (by decide +kernel) rfl) pa_nil))))) (pw_or1 (pt_cmpR op_gt (pe_callB call_len_str (by rfl) mlen (by decide +kernel) (pa_cons (pv 1) pa_nil)) (pe_glob (v := .int 12) (by rfl) gMOST_PLACES ⟨_, rfl⟩) (nomark _))))) (pss_one (ps_ret pe_bl)) pss_nil)
      (pss_one (ps_ret (pe_callB (cr_all rfl) (by rfl) mall (by decide +kernel) (pa_cons (pe_lc (own := [("letter", 2)]) (g := gName 2) (by rfl) sc_is_string.nd (pi_str (pv 1)) (blkOk_by (own := [("letter", 2)]) (N := ["rules", "thing", "letter"]) (sc := defScope s_is_string) (by decide +kernel)) (fun _ _ _ _ _ => (pg_name (i := 2) sc_is_string.nd rfl (.inl rfl))) (fun _ _ _ _ _ => pts_nil) (fun _ _ _ _ _ => (pe_cmpR op_in_sign (pv 2) (pe_ix (ixT K) (pv 0) pe_int (fun _ _ => rfl)) (by rfl)))) pa_nil))))), ?_⟩
    refine ⟨_, rfl, .str x, .ty "str", _, _, true, rfl, .ty _, .base (.str x), kit_ty (by decide +kernel), true, rfl, iteF ?_⟩
    refine ⟨_, rfl, x, rfl, szL (by omega), _, _, rfl, rfl, _, rfl, ?_⟩
    rw [decide_eq_false (show ¬ (x.length : Int) > 12 by omega)]
    refine iteF ⟨_, rfl, _, rfl, fun D hD => lc_str (fun i H2 => H2 D = some (.lst ((List.replicate i true).map V.bl)) ∧ Ext H H2) ⟨upd_same, Ext.new hD⟩ (fun i ch H2 hi hv => ?_) (fun H2 hv => ?_)⟩
    · obtain ⟨hL, k2⟩ := hv
      have hi12 : i < x.length := (Array.getElem?_eq_some_iff.mp hi).1
      have hm : ch ∈ r.letters.cps.toList := hof ch (Array.mem_toList_iff.mpr (Array.mem_of_getElem? hi))
      refine ⟨rfl, _, rfl, _, rfl, a, _, 0, _, rfl, rfl, SqT.of (k2 _ _ hA), rfl, ch, r.letters, rfl, rfl, _, hL, szLt ?_, ?_, k2.put hD⟩
      · rw [List.length_map, List.length_replicate]
        omega
      · rw [upd_same, List.replicate_succ', List.map_append, decide_eq_true hm]
        rfl
    · obtain ⟨hL, k2⟩ := hv
      refine ⟨D, _, rfl, SqL.of hL, ?_⟩
      have : (List.replicate x.cps.size true).all id = true := by
        rw [List.all_replicate]
        simp
      rw [this]
      exact q _ k2
abbrev CIS (P : Program) (w : World) (K : PySem.W.Frag) (mg : Str → Option Value) (base : Heap) : Prop := Ca P w K mg base 1 "is_string" ["rules", "thing"] spIS
abbrev s_need_string : Stmt := topS 13
theorem sc_need_string : FnScope ["rules", "thing"] ["rules", "thing"] (defScope s_need_string) :=
  ⟨rfl, rfl, rfl, by decide +kernel, rfl, by decide +kernel, by decide +kernel⟩
def spNS : Sp := fun vs H Q _ => ∃ (v : V) (r : Rl) (x : Str), vs = [v, .str x] ∧ RulesW H v r ∧ x.length ≤ 12 ∧ Of r.letters x ∧ ∀ H', Ext H H' → Q .non H'
theorem ok_ns {f : Addr} {fd : FuncData} (F : Fun K "need_string" "need_string" s_need_string f fd) (cis_string : CIS P w K mg base) : FnOk P w K mg base CX0 2 f fd ["rules", "thing"] spNS := by
  refine F.ok sc_need_string (fun vs H Q E h => ?_) (fun cdv A outer s H vs Q E hr h => ?_)
  · obtain ⟨v, r, x, rfl, _⟩ := h
    rfl
  · obtain ⟨v, r, x, rfl, hR, hx, hof, q⟩ := h
    refine ⟨_, (pss_one (ps_if (pt_not (pt_val (pe_ca cis_string (hr.mono (by decide)) (by rfl) (pa_cons (pv 0) (pa_cons (pv 1) pa_nil))))) (pss_one ps_never) pss_nil)), ?_⟩
    exact ⟨_, rfl, _, rfl, v, r, x, rfl, hR, hx, hof, fun H' k => ⟨_, rfl, iteF (q H' k)⟩⟩
abbrev CNS (P : Program) (w : World) (K : PySem.W.Frag) (mg : Str → Option Value) (base : Heap) : Prop := Ca P w K mg base 2 "need_string" ["rules", "thing"] spNS
end
end Pf


namespace Pf
open PySem PySem.Spec PyProof.Rows L2
abbrev Fo : Type := List (Int × Int)
/-! ### all foldings of a stretch, one behind another -/
def seg (r : Rl) (x : Str) (W : Nat → Int → List Fo) (n : Nat) (a : Int) (t : Nat) : List Fo :=
  if mayC r x a (a + 1 + t) = true then (W t (a + 1)).flatMap fun one => (W (n - 1 - t) (a + 2 + t)).map fun other => (a, a + 1 + t) :: (one ++ other) else []
def ws (r : Rl) (x : Str) : Nat → Nat → Int → List Fo
  | 0, _, _ => [[]]
  | _ + 1, 0, _ => [[]]
  | f + 1, n + 1, a => ws r x f n (a + 1) ++ (List.range n).flatMap fun t => seg r x (ws r x f) n a t
theorem seg_congr {r : Rl} {x : Str} {W W' : Nat → Int → List Fo} {n : Nat} {a : Int} {t : Nat} (ht : t < n) (h : ∀ m b, m < n → W m b = W' m b) : seg r x W n a t = seg r x W' n a t := by
  unfold seg
  rw [h t _ ht, h (n - 1 - t) _ (by omega)]
theorem flat_congr {α β : Type} {f g : α → List β} {l : List α} (h : ∀ y ∈ l, f y = g y) : l.flatMap f = l.flatMap g := by
  rw [List.flatMap_def, List.flatMap_def, List.map_congr_left h]
theorem ws_fuel (r : Rl) (x : Str) : ∀ (n f g : Nat) (a : Int), n ≤ f → n ≤ g → ws r x f n a = ws r x g n a := by
  intro n
  induction n using Nat.strongRecOn with
  | ind n ih =>
    intro f g a hf hg
    match n, f, g, hf, hg, ih with
    | 0, 0, 0, _, _, _ => rfl
    | 0, 0, g + 1, _, _, _ => rfl
    | 0, f + 1, 0, _, _, _ => rfl
    | 0, f + 1, g + 1, _, _, _ => rfl
    | n + 1, f + 1, g + 1, hf, hg, ih =>
      rw [ws, ws, ih n (by omega) f g (a + 1) (by omega) (by omega)]
      congr 1
      refine flat_congr fun t ht => ?_
      have ht := List.mem_range.mp ht
      exact seg_congr ht fun m b hm => ih m (by omega) f g b (by omega) (by omega)
def WA (r : Rl) (x : Str) (n : Nat) (a : Int) : List Fo := ws r x n n a
theorem WA_zero (r : Rl) (x : Str) (a : Int) : WA r x 0 a = [[]] := rfl
theorem WA_succ (r : Rl) (x : Str) (n : Nat) (a : Int) : WA r x (n + 1) a = WA r x n (a + 1) ++ (List.range n).flatMap fun t => seg r x (WA r x) n a t := by
  unfold WA
  rw [ws]
  congr 1
  refine flat_congr fun t ht => ?_
  have ht := List.mem_range.mp ht
  exact seg_congr ht fun m b hm => ws_fuel r x m n m b (by omega) (Nat.le_refl _)
theorem WA_one (r : Rl) (x : Str) (a : Int) : WA r x 1 a = [[]] := by
  rw [WA_succ, WA_zero]
  rfl
theorem WA_head (r : Rl) (x : Str) : ∀ (n : Nat) (a : Int), ∃ t, WA r x n a = [] :: t
  | 0, _ => ⟨[], rfl⟩
  | n + 1, a => by
    obtain ⟨t, e⟩ := WA_head r x n (a + 1)
    rw [WA_succ, e]
    exact ⟨_, rfl⟩
/-! ### how many, how long -/
def mz : Nat → Nat → Nat
  | 0, _ => 1
  | _ + 1, 0 => 1
  | f + 1, n + 1 => mz f n + ((List.range n).map fun t => mz f t * mz f (n - 1 - t)).sum
theorem sum_le {f g : Nat → Nat} : ∀ {l : List Nat}, (∀ t ∈ l, f t ≤ g t) → (l.map f).sum ≤ (l.map g).sum
  | [], _ => Nat.le_refl _
  | t :: r, h => by
    have h1 := h t (List.mem_cons_self ..)
    have h2 := sum_le (l := r) fun y hy => h y (List.mem_cons_of_mem _ hy)
    rw [List.map_cons, List.sum_cons, List.map_cons, List.sum_cons]
    omega
theorem flat_len {α β : Type} (f : α → List β) : ∀ l : List α, (l.flatMap f).length = (l.map fun y => (f y).length).sum
  | [] => rfl
  | y :: r => by
    rw [List.flatMap_cons, List.length_append, flat_len f r, List.map_cons, List.sum_cons]
theorem flat_const {α β : Type} {f : α → List β} {c : Nat} : ∀ {l : List α}, (∀ y ∈ l, (f y).length = c) → (l.flatMap f).length = l.length * c
  | [], _ => by rw [List.length_nil, Nat.zero_mul]; rfl
  | y :: r, h => by
    rw [List.flatMap_cons, List.length_append, h y (List.mem_cons_self ..), flat_const fun z hz => h z (List.mem_cons_of_mem _ hz), List.length_cons, Nat.succ_mul]
    omega
theorem seg_len {r : Rl} {x : Str} {W : Nat → Int → List Fo} {n : Nat} {a : Int} {t : Nat} : (seg r x W n a t).length ≤ (W t (a + 1)).length * (W (n - 1 - t) (a + 2 + t)).length := by
  unfold seg
  split
  · rw [flat_const (c := (W (n - 1 - t) (a + 2 + t)).length) fun y _ => List.length_map ..]
    exact Nat.le_refl _
  · exact Nat.zero_le _
theorem ws_len (r : Rl) (x : Str) : ∀ (f n : Nat) (a : Int), (ws r x f n a).length ≤ mz f n
  | 0, _, _ => Nat.le_refl _
  | _ + 1, 0, _ => Nat.le_refl _
  | f + 1, n + 1, a => by
    rw [ws, mz, List.length_append, flat_len]
    refine Nat.add_le_add (ws_len r x f n (a + 1)) (sum_le fun t _ => ?_)
    exact Nat.le_trans seg_len (Nat.mul_le_mul (ws_len r x f t _) (ws_len r x f _ _))
theorem WA_len (r : Rl) (x : Str) {n : Nat} (hn : n ≤ 12) (a : Int) : (WA r x n a).length ≤ 15511 := by
  have h1 := ws_len r x n n a
  have h2 : ∀ m : Nat, m < 13 → mz m m ≤ 15511 := by decide +kernel
  exact Nat.le_trans h1 (h2 n (by omega))
theorem WA_len10 (r : Rl) (x : Str) {n : Nat} (hn : n ≤ 10) (a : Int) : (WA r x n a).length ≤ 2188 := by
  have h1 := ws_len r x n n a
  have h2 : ∀ m : Nat, m < 11 → mz m m ≤ 2188 := by decide +kernel
  exact Nat.le_trans h1 (h2 n (by omega))
/-- each folding of a stretch: places within it, at most half as many pairs -/
theorem WA_in (r : Rl) (x : Str) : ∀ (n : Nat) (a : Int), ∀ q ∈ WA r x n a, (∀ y ∈ q, a ≤ y.1 ∧ y.1 < y.2 ∧ y.2 < a + n) ∧ 2 * q.length ≤ n := by
  intro n
  induction n using Nat.strongRecOn with
  | ind n ih =>
    intro a q hq
    match n, ih, hq with
    | 0, _, hq =>
      rw [WA_zero, List.mem_singleton] at hq
      subst hq
      exact ⟨(fun y hy => by cases hy), Nat.zero_le _⟩
    | n + 1, ih, hq =>
      rw [WA_succ] at hq
      rcases List.mem_append.mp hq with hq | hq
      · have := ih n (by omega) (a + 1) q hq
        exact ⟨fun y hy => by have := this.1 y hy; omega, by omega⟩
      · obtain ⟨t, ht, hq⟩ := List.mem_flatMap.mp hq
        have ht := List.mem_range.mp ht
        unfold seg at hq
        split at hq
        · obtain ⟨one, h1, hq⟩ := List.mem_flatMap.mp hq
          obtain ⟨other, h2, rfl⟩ := List.mem_map.mp hq
          have i1 := ih t (by omega) (a + 1) one h1
          have i2 := ih (n - 1 - t) (by omega) (a + 2 + t) other h2
          refine ⟨fun y hy => ?_, ?_⟩
          · rcases List.mem_cons.mp hy with rfl | hy
            · show a ≤ a ∧ a < a + 1 + t ∧ a + 1 + t < a + (n + 1 : Nat)
              omega
            · rcases List.mem_append.mp hy with hy | hy
              · have := i1.1 y hy
                omega
              · have := i2.1 y hy
                omega
          · rw [List.length_cons, List.length_append]
            omega
        · cases hq
/-! ### foldings in the heap, in a list -/
abbrev FoAt : Hp → V → Fo → Prop := TupOf TwoAt
theorem FoAt.mono : Mono FoAt := TupOf.mono TwoAt.mono
theorem paired_get2 {α β : Type} {R : α → β → Prop} {xs : List α} {ys : List β} {i : Nat} {x : α} (h : Paired R xs ys) (e : xs[i]? = some x) : ∃ y, ys[i]? = some y ∧ R x y := paired_get h e
section
variable {β : Type} {R : Hp → V → β → Prop} {D : Addr} {H H1 H4 : Hp} {bs : List β} {i n : Nat} {v : V} {b : β}
def GenP (R : Hp → V → β → Prop) (D : Addr) (H1 : Hp) (bs : List β) (i : Nat) (H : Hp) : Prop := ∃ vs, H D = some (.lst vs) ∧ Paired (R H) vs (bs.take i) ∧ Ext H1 H
theorem gen_new (hD : H1 D = none) : GenP R D H1 bs 0 (upd H1 D (.lst [])) := ⟨[], upd_same, by rw [List.take_zero]; exact .nil, Ext.new hD⟩
theorem GenP.ext (h : GenP R D H1 bs i H) : Ext H1 H := by
  obtain ⟨_, _, _, k⟩ := h
  exact k
theorem gen_step (m : Mono R) (hD : H1 D = none) (h : GenP R D H1 bs i H) (k : Ext H H4) (hv : R H4 v b) (hb : bs[i]? = some b) (hn : bs.length ≤ 1000000) : ∃ acc, H4 D = some (.lst acc) ∧ acc.length < sizeLine ∧ GenP R D H1 bs (i + 1) (upd H4 D (.lst (acc ++ [v]))) := by
  obtain ⟨vs, hL, hP, k1⟩ := h
  have hl := paired_len hP
  rw [List.length_take] at hl
  have hi := (List.getElem?_eq_some_iff.mp hb).1
  have hL4 := k _ _ hL
  refine ⟨vs, hL4, szLt (by omega), vs ++ [v], upd_same, ?_, (k1.trans k).put hD⟩
  rw [List.take_add_one, hb]
  exact paired_app (paired_imp (fun _ _ => m _ _ _ _ ((TupK.ext k).trans (TupK.lst hL4))) hP) (.cons (m _ _ _ _ (TupK.lst hL4) hv) .nil)
theorem gen_end (h : GenP R D H1 bs n H) (hn : bs.length ≤ n) : ∃ vs, H D = some (.lst vs) ∧ Paired (R H) vs bs ∧ Ext H1 H := by
  obtain ⟨vs, hL, hP, k⟩ := h
  rw [List.take_of_length_le hn] at hP
  exact ⟨vs, hL, hP, k⟩
end
section
variable {P : Program} {w : World} {K : PySem.W.Frag} {mg : Str → Option Value} {base : Heap}
/-! ### sorted -/
def dTwo (x : Int × Int) : PyData := .tuple [.int x.1, .int x.2]
def dFo (q : Fo) : PyData := .tuple (q.map dTwo)
theorem dpTwos {K : PySem.W.Frag} {H : Hp} : ∀ {vs : List V} {ps : List (Int × Int)}, Paired (TwoAt H) vs ps → DpAll K H vs (ps.map dTwo)
  | _, _, .nil => .nil
  | _, _, .cons ⟨_, e, h⟩ t => .cons (e ▸ .tup (SqT.of h) (.cons (.int _) (.cons (.int _) .nil))) (dpTwos t)
theorem dp_fo {K : PySem.W.Frag} {H : Hp} {v : V} {q : Fo} (h : FoAt H v q) : Dp K H v (dFo q) := by
  obtain ⟨a, vs, rfl, h1, h2⟩ := h
  exact .tup (SqT.of h1) (dpTwos h2)
theorem dpFos {K : PySem.W.Frag} {H : Hp} : ∀ {vs : List V} {L : List Fo}, Paired (FoAt H) vs L → DpAll K H vs (L.map dFo)
  | _, _, .nil => .nil
  | _, _, .cons h t => .cons (dp_fo h) (dpFos t)
theorem dep_twos : ∀ q : List (Int × Int), PyData.depthAll (q.map dTwo) ≤ 1
  | [] => by simp [PyData.depthAll]
  | y :: r => by
    rw [List.map_cons, PyData.depthAll]
    have := dep_twos r
    have h1 : (dTwo y).depth = 1 := by simp [dTwo, PyData.depth, PyData.depthAll]
    rw [h1]
    omega
theorem dep_fo (q : Fo) : (dFo q).depth ≤ 2 := by
  unfold dFo
  rw [PyData.depth]
  have := dep_twos q
  omega
theorem alike_twos : ∀ q s : List (Int × Int), PySem.W.alikeAll (q.map dTwo) (s.map dTwo) = true
  | [], _ => by simp [PySem.W.alikeAll]
  | _ :: _, [] => by simp [PySem.W.alikeAll]
  | y :: q, z :: s => by
    rw [List.map_cons, List.map_cons, PySem.W.alikeAll, alike_twos q s]
    simp [dTwo, PySem.W.alike, PySem.W.alikeAll]
def SF (L : List Fo) : List Fo := L.mergeSort (PySem.W.dataLe false dFo)
theorem sort_fos {K : PySem.W.Frag} {H : Hp} {l : Addr} {us : List V} {L : List Fo} {t : List Fo} {Q : VK} (hL : H l = some (.lst us)) (hP : Paired (FoAt H) us L) (h0 : L = [] :: t) (q : ∀ (p : Addr) (ws : List V) (H' : Hp), H p = none → H' p = some (.lst ws) → Paired (FoAt H') ws (SF L) → Ext H H' → Q (.ref p) H') : rSortE K [.ref l] H Q := by
  have hz := paired_len hP
  have e1 : (us.zip L).map (·.1) = us := List.map_fst_zip (by omega)
  have e2 : (us.zip L).map (·.2) = L := List.map_snd_zip (by omega)
  have hall : ∀ b ∈ us.zip L, FoAt H b.1 b.2 := by
    clear e1 e2 hz h0 q hL
    induction hP with
    | nil => intro b hb; cases hb
    | cons r _ ih =>
      intro b hb
      rw [List.zip_cons_cons] at hb
      rcases List.mem_cons.mp hb with rfl | hb
      · exact r
      · exact ih b hb
  have ed : (us.zip L).map (fun b => dFo b.2) = L.map dFo := by
    have := congrArg (List.map dFo) e2
    rw [List.map_map] at this
    exact this
  refine ⟨V × Fo, fun b => b.1, fun b => dFo b.2, l, us.zip L, t.map dFo, rfl, SqL.of (by rw [e1]; exact hL), fun b hb => ⟨dp_fo (hall b hb), Nat.le_trans (dep_fo _) (by decide)⟩, ?_, ?_, ?_, fun p hp => ?_⟩
  · intro d1 h1 d2 h2
    obtain ⟨b1, _, rfl⟩ := List.mem_map.mp h1
    obtain ⟨b2, _, rfl⟩ := List.mem_map.mp h2
    show PySem.W.alike (.tuple _) (.tuple _) = true
    rw [PySem.W.alike]
    exact alike_twos _ _
  · rw [ed, h0]
    rfl
  · intro e he
    obtain ⟨b1, _, rfl⟩ := List.mem_map.mp he
    exact ⟨_, rfl⟩
  · have x1 := Ext.new (o := .lst (((us.zip L).mergeSort (PySem.W.dataLe false fun b => dFo b.2)).map fun b => b.1)) hp
    refine q p _ _ hp upd_same ?_ x1
    have es : ((us.zip L).mergeSort (PySem.W.dataLe false fun b => dFo b.2)).map (·.2) = SF L := by
      have hm := List.map_mergeSort (r := PySem.W.dataLe false fun b : V × Fo => dFo b.2) (s := PySem.W.dataLe false dFo) (f := fun b : V × Fo => b.2) (l := us.zip L) (fun a _ b _ => rfl)
      rw [e2] at hm
      exact hm
    rw [← es]
    have hm : ∀ b ∈ (us.zip L).mergeSort (PySem.W.dataLe false fun b => dFo b.2), FoAt H b.1 b.2 := fun b hb => hall b ((List.mergeSort_perm _ _).mem_iff.mp hb)
    generalize (us.zip L).mergeSort (PySem.W.dataLe false fun b => dFo b.2) = S at hm x1
    have : ∀ {T : List (V × Fo)} {H2 : Hp}, (∀ b ∈ T, FoAt H b.1 b.2) → Ext H H2 → Paired (FoAt H2) (T.map (·.1)) (T.map (·.2)) := by
      intro T H2 hT hx
      induction T with
      | nil => exact .nil
      | cons b T ih => exact .cons (FoAt.mono _ _ _ _ (TupK.ext hx) (hT b (List.mem_cons_self ..))) (ih fun c hc => hT c (List.mem_cons_of_mem _ hc))
    exact this hm x1
end
end Pf


namespace Pf
open PySem PySem.Spec PyProof.Rows L2
/-! ### loops: what is asked -/
def swI : List (Str × Str × Int) → Str → Str → Int
  | [], _, _ => 0
  | (t, u, x) :: r, o, n => if t = o ∧ u = n then x else swI r o n
theorem swI_at {stk : List (Str × Str × Int)} {i : Nat} {t u : Str} {x : Int} (h : stk[i]? = some (t, u, x)) (o n : Str) : swI (stk.drop i) o n = if t = o ∧ u = n then x else swI (stk.drop (i + 1)) o n := by
  obtain ⟨hi, e⟩ := List.getElem?_eq_some_iff.mp h
  rw [List.drop_eq_getElem_cons hi, e, swI]
theorem swI_end {stk : List (Str × Str × Int)} {i : Nat} (h : stk.length ≤ i) (o n : Str) : swI (stk.drop i) o n = 0 := by
  rw [List.drop_eq_nil_of_le h, swI]
theorem swI_bound {stk : List (Str × Str × Int)} (h : ∀ y ∈ stk, -99 ≤ y.2.2 ∧ y.2.2 ≤ 99) (o n : Str) : -99 ≤ swI stk o n ∧ swI stk o n ≤ 99 := by
  induction stk with
  | nil => exact ⟨by show -99 ≤ (0 : Int); decide, by show (0 : Int) ≤ 99; decide⟩
  | cons y r ih =>
    rw [swI]
    by_cases e : y.1 = o ∧ y.2.1 = n
    · rw [if_pos e]
      exact h y (List.mem_cons_self ..)
    · rw [if_neg e]
      exact ih fun z hz => h z (List.mem_cons_of_mem _ hz)
inductive Sep2 : Int → Int → List (Int × Int) → Prop
  | nil {lo hi : Int} : lo ≤ hi → Sep2 lo hi []
  | cons {lo hi p q : Int} {ks : List (Int × Int)} : lo ≤ p → p ≤ q → Sep2 (q + 1) hi ks → Sep2 lo hi ((p, q) :: ks)
def wid (ks : List (Int × Int)) : Int := (ks.map fun y => y.2 - y.1 + 1).sum
theorem Sep2.wid {lo hi : Int} {ks : List (Int × Int)} (h : Sep2 lo hi ks) : 0 ≤ wid ks ∧ wid ks ≤ hi - lo := by
  induction h with
  | nil h => exact ⟨Int.le_refl _, by show (0 : Int) ≤ _; omega⟩
  | @cons lo hi p q ks h1 h2 _ ih =>
    have e : Pf.wid ((p, q) :: ks) = (q - p + 1) + Pf.wid ks := by
      unfold Pf.wid
      rw [List.map_cons, List.sum_cons]
    rw [e]
    omega
def freeI (one : Int × Int) (ks : List (Int × Int)) : Int := one.2 - one.1 - 1 - wid ks
theorem free_sep {one : Int × Int} {ks : List (Int × Int)} (h : Sep2 (one.1 + 1) one.2 ks) : 0 ≤ freeI one ks ∧ freeI one ks ≤ one.2 - one.1 - 1 := by
  have := h.wid
  unfold freeI
  omega
def lo (r : Rl) (i : Nat) : Int := r.loops.getD i 0
def kindN (free : Int) (n : Nat) : Str := if n = 0 then "lone" else if 1 < n then "forked" else if 0 < free then "inner" else "stacked"
def lpW (r : Rl) (x : Str) (one : Int × Int) (ks : List (Int × Int)) : Int :=
  if ks.length = 0 then lo r 6 + freeI one ks * lo r 7 else if 1 < ks.length then lo r 3 + (ks.length * lo r 4 + freeI one ks * lo r 5) else if 0 < freeI one ks then lo r 1 + freeI one ks * lo r 2 else lo r 0 + swI r.stk (tx2 x one) (tx2 x (ks.headD (0, 0)))
def LN : List Str := ["stacked", "inner", "inner free", "forked", "branch", "fork free", "lone", "lone free", "open"]
theorem LN_nd : LN.Nodup := by decide +kernel
def dLo (cs : List Int) : List (Key × V) := (LN.zip cs).map fun x => (.inr x.1, .int x.2)
theorem val_zip : ∀ {ns : List Str} {cs : List Int} {i : Nat} {n : Str} {c : Int}, ns.Nodup → ns[i]? = some n → cs[i]? = some c → valV ((ns.zip cs).map fun x => ((.inr x.1 : Key), V.int x.2)) (.inr n) = some (.int c)
  | [], _, i, _, _, _, h, _ => by simp at h
  | _ :: _, [], i, _, _, _, _, h => by simp at h
  | a :: ns, b :: cs, 0, n, c, _, h, h2 => by
    rw [List.getElem?_cons_zero] at h h2
    cases h
    cases h2
    rw [List.zip_cons_cons, List.map_cons, valV_pos rfl]
  | a :: ns, b :: cs, i + 1, n, c, hn, h, h2 => by
    rw [List.getElem?_cons_succ] at h h2
    have hne : ¬ (Sum.inr a : Key) = Sum.inr n := fun z => by
      have z := Sum.inr.inj z
      rw [z] at hn
      exact (List.nodup_cons.mp hn).1 (List.mem_of_getElem? h)
    rw [List.zip_cons_cons, List.map_cons, valV_neg hne]
    exact val_zip (List.nodup_cons.mp hn).2 h h2
theorem dLo_keys : ∀ {ns : List Str} {cs : List Int}, ns.length = cs.length → ((ns.zip cs).map fun x => ((.inr x.1 : Key), V.int x.2)).map (·.1) = ns.map Sum.inr
  | [], _, _ => rfl
  | _ :: _, [], h => by cases h
  | a :: ns, b :: cs, h => by
    rw [List.zip_cons_cons, List.map_cons, List.map_cons, List.map_cons, dLo_keys (Nat.succ.inj h)]
theorem dLo_merge {cs : List Int} (h : cs.length = 9) : mergeK [] (dLo cs) = dLo cs := by
  rw [merge_nd, List.nil_append]
  rw [List.nil_append]
  unfold dLo
  rw [dLo_keys (by rw [h]; rfl)]
  show (LN.map (Sum.inr : Str → Key)).Nodup
  decide +kernel
theorem get_lo {H : Hp} {d : Addr} {cs : List Int} (h : H d = some (.dK (dLo cs))) (hc : cs.length = 9) {i : Nat} {n : Str} (hn : LN[i]? = some n) : DGet H d (.str n) (some (.int (cs.getD i 0))) := by
  have hi : i < 9 := (List.getElem?_eq_some_iff.mp hn).1
  have e : cs[i]? = some (cs.getD i 0) := by
    rw [List.getD_eq_getElem?_getD, List.getElem?_eq_getElem (by omega)]
    rfl
  have := val_zip (cs := cs) LN_nd hn e
  exact this ▸ DGet.k (k := .inr n) h
theorem dLo_vals : ∀ {ns : List Str} {cs : List Int}, ns.length = cs.length → ((ns.zip cs).map fun x => ((.inr x.1 : Key), V.int x.2)).map (·.2) = cs.map V.int
  | [], [], _ => rfl
  | [], _ :: _, h => by cases h
  | _ :: _, [], h => by cases h
  | a :: ns, b :: cs, h => by
    rw [List.zip_cons_cons, List.map_cons, List.map_cons, List.map_cons, dLo_vals (Nat.succ.inj h)]
theorem dLo_kV : ∀ {ns : List Str} {cs : List Int}, ns.length = cs.length → (((ns.zip cs).map fun x => ((.inr x.1 : Key), V.int x.2)).map fun x => kV x.1) = ns.map V.str
  | [], _, _ => rfl
  | _ :: _, [], h => by cases h
  | a :: ns, b :: cs, h => by
    rw [List.zip_cons_cons, List.map_cons, List.map_cons, List.map_cons, dLo_kV (Nat.succ.inj h)]
    rfl
theorem ints_of {H : Hp} : ∀ {vs : List V} {ns : List Int}, Paired (IntAt H) vs ns → vs = ns.map V.int
  | _, _, .nil => rfl
  | _, _, .cons h t => by
    have h : _ = V.int _ := h
    rw [List.map_cons, ← ints_of t, h]
theorem lo_bound {r : Rl} (ok : RlOk r) {i : Nat} (hi : i < 9) : -99 ≤ lo r i ∧ lo r i ≤ 99 := by
  have h : i < r.loops.length := by
    rw [ok.lo9]
    exact hi
  have e : lo r i = r.loops[i] := by
    unfold lo
    rw [List.getD_eq_getElem?_getD, List.getElem?_eq_getElem h]
    rfl
  rw [e]
  exact ok.lo _ (List.getElem_mem h)
section
variable {P : Program} {w : World} {K : PySem.W.Frag} {mg : Str → Option Value} {base : Heap}
theorem sumI (K : PySem.W.Frag) {X : Cx} (hc : X.calm = true := by rfl) (h : X.K = K := by rfl) : CallR X (.builtin "sum") (rSum K) := h ▸ cr_sum hc
abbrev s_stack_worth : Stmt := topS 9
theorem sc_stack_worth : FnScope ["rules", "outer", "within", "text", "inner", "worth"] ["rules", "outer", "within"] (defScope s_stack_worth) :=
  ⟨rfl, rfl, rfl, by decide +kernel, rfl, by decide +kernel, by decide +kernel⟩
def spSW : Sp := fun vs H Q _ => ∃ (v : V) (r : Rl) (o n : Str), vs = [v, .str o, .str n] ∧ RulesW H v r ∧ Q (.int (swI r.stk o n)) H
theorem ok_sw {f : Addr} {fd : FuncData} {k : Nat} (F : Fun K "stack_worth" "stack_worth" s_stack_worth f fd) : FnOk P w K mg base CX0 (k + 1) f fd ["rules", "outer", "within"] spSW := by
  refine F.ok sc_stack_worth (fun vs H Q E h => ?_) (fun cdv A outer s H vs Q E hr h => ?_)
  · obtain ⟨v, r, o, n, rfl, _⟩ := h
    rfl
  · obtain ⟨v, r, o, n, rfl, ⟨a, vp, vl, vs, rfl, hA, _, _, ⟨as, us, rfl, hp, hR⟩⟩, q⟩ := h
    refine ⟨_, (pss_cons (ps_for PassesOwn.never rfl (pi_tup (pe_ix (ixT K) (pv 0) pe_int (fun _ _ => rfl))) (pg_tup rfl (pgs_cons (pg_name (i := 3) sc_stack_worth.nd rfl (.inl rfl)) (pgs_cons (pg_name (i := 4) sc_stack_worth.nd rfl (.inl rfl)) (pgs_cons (pg_name (i := 5) sc_stack_worth.nd rfl (.inl rfl)) pgs_nil)))) (pss_one (ps_if (PW.pt (pw_and (pt_cmpR op_eq (pv 3) (pv 1) (nomark _)) (pw_and1 (pt_cmpR op_eq (pv 4) (pv 2) (nomark _))))) (pss_one (ps_ret (pv 5))) pss_nil)))
      (pss_one (ps_ret pe_int))), ?_⟩
    have hlen := paired_len hR
    refine ⟨_, rfl, a, _, 4, _, rfl, rfl, SqT.of hA, rfl, as, rfl, ⟨_, SqT.of hp⟩, for_tup (xs := us) (fun i σ H2 => ∃ (y2 y3 y4 : Option V), σ = [some (.ref a), some (.str o), some (.str n), y2, y3, y4] ∧ H2 = H ∧ swI (r.stk.drop i) o n = swI r.stk o n)
      ⟨none, none, none, rfl, rfl, rfl⟩ (fun i σ H2 _ ⟨y2, y3, y4, _, e, _⟩ => SqT.of (by rw [e]; exact hp)) (fun i u σ H2 hi hv => ?_) (fun σ H2 hv => ?_)⟩
    · obtain ⟨y2, y3, y4, rfl, rfl, hd⟩ := hv
      obtain ⟨⟨t, t2, x⟩, hx, a1, rfl, ha1⟩ := paired_get hR hi
      rw [swI_at hx] at hd
      refine ⟨a1, _, rfl, SqT.of ha1, rfl, _, _, rfl, _, _, rfl, _, _, rfl, rfl, ?_⟩
      refine ⟨_, rfl, _, rfl, rfl, _, rfl, ite2 (fun e => ?_) (fun e => ?_)⟩
      · have e2 : t = o := V.str.inj (of_decide_eq_true e)
        refine ⟨_, rfl, _, rfl, rfl, _, rfl, ite2 (fun e3 => ?_) (fun e3 => ?_)⟩
        · have e4 : t2 = n := V.str.inj (of_decide_eq_true e3)
          rw [if_pos ⟨e2, e4⟩] at hd
          refine ⟨_, rfl, ?_⟩
          show Q (.int x) _
          rw [hd]
          exact q
        · have e4 : ¬ (t = o ∧ t2 = n) := fun z => e3 (decide_eq_true (congrArg V.str z.2))
          rw [if_neg e4] at hd
          exact ⟨_, _, _, rfl, rfl, hd⟩
      · have e4 : ¬ (t = o ∧ t2 = n) := fun z => e (decide_eq_true (congrArg V.str z.1))
        rw [if_neg e4] at hd
        exact ⟨_, _, _, rfl, rfl, hd⟩
    · obtain ⟨y2, y3, y4, rfl, rfl, hd⟩ := hv
      rw [swI_end (by omega)] at hd
      show Q (.int 0) _
      rw [hd]
      exact q
abbrev s_loop_worths : Stmt := topS 18
theorem sc_loop_worths : FnScope ["rules"] ["rules"] (defScope s_loop_worths) :=
  ⟨rfl, rfl, rfl, by decide +kernel, rfl, by decide +kernel, by decide +kernel⟩
def spLW : Sp := fun vs H Q _ => ∃ (v : V) (r : Rl), vs = [v] ∧ RulesW H v r ∧ r.loops.length = 9 ∧ ∀ d, H d = none → Q (.ref d) (upd H d (.dK (dLo r.loops)))
theorem ok_lw {f : Addr} {fd : FuncData} {k : Nat} {aLOOPS : Addr} (F : Fun K "loop_worths" "loop_worths" s_loop_worths f fd) (gLOOPS : mg "LOOPS" = some (.ref aLOOPS)) (hL : ∀ H : Hp, SqT K H aLOOPS (LN.map V.str)) (mdict : mg "dict" = none) (mzip : mg "zip" = none) : FnOk P w K mg base CX0 (k + 1) f fd ["rules"] spLW := by
  refine F.ok sc_loop_worths (fun vs H Q E h => ?_) (fun cdv A outer s H vs Q E hr h => ?_)
  · obtain ⟨v, r, rfl, _⟩ := h
    rfl
  · obtain ⟨v, r, rfl, ⟨a, vp, vl, vs, rfl, hA, _, ⟨al, us, rfl, hl, hR⟩, _⟩, h9, q⟩ := h
    refine ⟨_, (pss_one (ps_ret (pe_dictZip (by rfl) mdict (by rfl) mzip rfl (pa_cons (pe_glob (v := .ref aLOOPS) (by rfl) gLOOPS rfl) (pa_cons (pe_ix (ixT K) (pv 0) pe_int (fun _ _ => rfl)) pa_nil))))), ?_⟩
    have e9 : LN.length = r.loops.length := by
      rw [h9]
      rfl
    refine ⟨_, rfl, a, _, 3, _, rfl, rfl, SqT.of hA, rfl, aLOOPS, al, dLo r.loops, rfl, ?_, ?_, fun d hd => ?_⟩
    · unfold dLo
      rw [dLo_kV e9]
      exact hL H
    · unfold dLo
      rw [dLo_vals e9, ← ints_of hR]
      exact SqT.of hl
    · rw [dLo_merge h9]
      exact q d hd
abbrev s_kind_of : Stmt := topS 19
theorem sc_kind_of : FnScope ["free", "branches"] ["free", "branches"] (defScope s_kind_of) :=
  ⟨rfl, rfl, rfl, by decide +kernel, rfl, by decide +kernel, by decide +kernel⟩
def spKO : Sp := fun vs H Q _ => ∃ (fr : Int) (n : Nat), vs = [.int fr, .int (n : Nat)] ∧ Q (.str (kindN fr n)) H
theorem ok_ko {f : Addr} {fd : FuncData} {k : Nat} (F : Fun K "kind_of" "kind_of" s_kind_of f fd) : FnOk P w K mg base CX0 (k + 1) f fd ["free", "branches"] spKO := by
  refine F.ok sc_kind_of (fun vs H Q E h => ?_) (fun cdv A outer s H vs Q E hr h => ?_)
  · obtain ⟨fr, n, rfl, _⟩ := h
    rfl
  · obtain ⟨fr, n, rfl, q⟩ := h
    refine ⟨_, (pss_cons (ps_if (pt_cmpR op_eq (pv 1) pe_int (nomark _)) (pss_one (ps_ret pe_str)) pss_nil)
      (pss_cons (ps_if (pt_cmpR op_gt (pv 1) pe_int (nomark _)) (pss_one (ps_ret pe_str)) pss_nil)
      (pss_one (ps_ret (pe_ifExp (pt_cmpR op_gt (pv 0) pe_int (nomark _)) pe_str pe_str))))), ?_⟩
    unfold kindN at q
    refine ⟨_, rfl, rfl, _, rfl, ite2 (fun e => ?_) (fun e => ?_)⟩
    · have e : n = 0 := by
        have := V.int.inj (of_decide_eq_true e)
        omega
      rw [if_pos e] at q
      exact q
    · have e : ¬ n = 0 := fun z => e (decide_eq_true (by rw [z]; rfl))
      rw [if_neg e] at q
      refine ⟨_, rfl, _, _, rfl, rfl, _, rfl, ite2 (fun e1 => ?_) (fun e1 => ?_)⟩
      · have e1 : (1 : Int) < n := of_decide_eq_true e1
        rw [if_pos (by omega)] at q
        exact q
      · have e1 : ¬ (1 : Int) < n := fun z => e1 (decide_eq_true z)
        rw [if_neg (by omega)] at q
        refine ⟨_, rfl, _, _, rfl, rfl, _, rfl, ite2 (fun e2 => ?_) (fun e2 => ?_)⟩
        · have e2 : 0 < fr := of_decide_eq_true e2
          rw [if_pos e2] at q
          exact q
        · have e2 : ¬ 0 < fr := fun z => e2 (decide_eq_true z)
          rw [if_neg e2] at q
          exact q
end
def InX (x : Str) (qs : List (Int × Int)) : Prop := ∀ y ∈ qs, 0 ≤ y.1 ∧ y.1 < x.length ∧ 0 ≤ y.2 ∧ y.2 < x.length
theorem dget_ne {H H' : Hp} {d : Addr} {cs : List Int} (k : Ext H H') (h : H d = some (.dK (dLo cs))) : H' d = some (.dK (dLo cs)) := k _ _ h
theorem k_ne {a b : Str} (h : (a == b) = false) : (decide ((V.str a : V) = V.str b)) = false := decide_eq_false fun z => by
  have z := V.str.inj z
  rw [z] at h
  simp at h
section
variable {P : Program} {w : World} {K : PySem.W.Frag} {mg : Str → Option Value} {base : Heap}
abbrev CSW (P : Program) (w : World) (K : PySem.W.Frag) (mg : Str → Option Value) (base : Heap) : Prop := Ca P w K mg base 1 "stack_worth" ["rules", "outer", "within"] spSW
abbrev CLW (P : Program) (w : World) (K : PySem.W.Frag) (mg : Str → Option Value) (base : Heap) : Prop := Ca P w K mg base 1 "loop_worths" ["rules"] spLW
abbrev CKO (P : Program) (w : World) (K : PySem.W.Frag) (mg : Str → Option Value) (base : Heap) : Prop := Ca P w K mg base 1 "kind_of" ["free", "branches"] spKO
abbrev s_loop_within : Stmt := topS 20
theorem sc_loop_within : FnScope ["rules", "string", "pair", "within", "free", "kind", "told", "worth", "p", "q"] ["rules", "string", "pair", "within"] (defScope s_loop_within) :=
  ⟨rfl, rfl, rfl, by decide +kernel, rfl, by decide +kernel, by decide +kernel⟩
def spLoopW : Sp := fun vs H Q _ => ∃ (v : V) (r : Rl) (x : Str) (t l : Addr) (one : Int × Int) (us : List V) (ks : List (Int × Int)), vs = [v, .str x, .ref t, .ref l] ∧ RulesW H v r ∧ RlOk r ∧ x.length ≤ 1000 ∧ H t = some (.tup [.int one.1, .int one.2]) ∧ H l = some (.lst us) ∧ Paired (TwoAt H) us ks ∧ ks.length ≤ 1000 ∧ InX x [one] ∧ InX x ks ∧ 0 ≤ freeI one ks ∧ freeI one ks ≤ 1000 ∧
  ∀ (a : Addr) (H' : Hp), H' a = some (.tup [.str (kindN (freeI one ks) ks.length), .int (freeI one ks), .int (lpW r x one ks)]) → Ext H H' → Q (.ref a) H'
theorem ok_loopw {f : Addr} {fd : FuncData} (F : Fun K "loop_within" "loop_within" s_loop_within f fd) (cstack_worth : CSW P w K mg base) (ctext_of : CTx P w K mg base) (cloop_worths : CLW P w K mg base) (ckind_of : CKO P w K mg base) (msum : mg "sum" = none) (mlen : mg "len" = none) : FnOk P w K mg base CX0 2 f fd ["rules", "string", "pair", "within"] spLoopW := by
  refine F.ok sc_loop_within (fun vs H Q E h => ?_) (fun cdv A outer s H vs Q E hr h => ?_)
  · obtain ⟨v, r, x, t, l, one, us, ks, rfl, _⟩ := h
    rfl
  · obtain ⟨v, r, x, t, l, one, us, ks, rfl, hRu, ok, hx, hT, hL, hPk, hkl, hin1, hink, hf0, hf1, q⟩ := h
    refine ⟨_, (pss_cons (ps_set (i := 4) sc_loop_within.nd rfl (.inl rfl) (pe_op op_sub (pe_op op_sub (pe_op op_sub (pe_ix (ixT K) (pv 2) pe_int (fun _ _ => rfl)) (pe_ix (ixT K) (pv 2) pe_int (fun _ _ => rfl))) pe_int) (pe_callB (sumI K) (by rfl) msum (by decide +kernel) (pa_cons (pe_lc (own := [("p", 8), ("q", 9)]) (g := gTup K 2 (gCons (gName 8) (gCons (gName 9) gNil))) (by rfl) sc_loop_within.nd (pi_list (pv 3)) (blkOk_by (own := [("p", 8), ("q", 9)]) (N := ["rules", "string", "pair", "within", "free", "kind", "told", "worth", "p", "q"]) (sc := defScope s_loop_within) (by decide +kernel)) (fun _ _ _ _ _ => (pgT K rfl (pgs_cons (pg_name (i := 8) sc_loop_within.nd rfl (.inl rfl)) (pgs_cons (pg_name (i := 9) sc_loop_within.nd rfl (.inl rfl)) pgs_nil)))) (fun _ _ _ _ _ => pts_nil) (fun _ _ _ _ _ => (pe_op op_add (pe_op op_sub (pv 9) (pv 8)) pe_int))) pa_nil))))
      (pss_cons (ps_set (i := 5) sc_loop_within.nd rfl (.inl rfl) (pe_ca ckind_of (hr.mono (by decide)) (by rfl) (pa_cons (pv 4) (pa_cons (pe_callB (lenQ K) (by rfl) mlen (by decide +kernel) (pa_cons (pv 3) pa_nil)) pa_nil))))
      (pss_cons (ps_set (i := 6) sc_loop_within.nd rfl (.inl rfl) (pe_ca cloop_worths (hr.mono (by decide)) (by rfl) (pa_cons (pv 0) pa_nil)))
      (pss_cons (ps_set (i := 7) sc_loop_within.nd rfl (.inl rfl) (pe_dget (hu_of hr) (pv 6) (pv 5) (fun _ _ => rfl)))
      (pss_cons (ps_if (pt_cmpR op_eq (pv 5) pe_str (nomark _)) (pss_one (ps_aug (i := 7) sc_loop_within.nd rfl (.inl rfl) (pe_op op_mul (pv 4) (pe_dget (hu_of hr) (pv 6) pe_str (fun _ _ => rfl))) ip_add)) (pss_one (ps_if (pt_cmpR op_eq (pv 5) pe_str (nomark _)) (pss_one (ps_aug (i := 7) sc_loop_within.nd rfl (.inl rfl) (pe_op op_mul (pv 4) (pe_dget (hu_of hr) (pv 6) pe_str (fun _ _ => rfl))) ip_add)) (pss_one (ps_if (pt_cmpR op_eq (pv 5) pe_str (nomark _)) (pss_one (ps_aug (i := 7) sc_loop_within.nd rfl (.inl rfl) (pe_ca cstack_worth (hr.mono (by decide)) (by rfl) (pa_cons (pv 0) (pa_cons (pe_ca ctext_of (hr.mono (by decide)) (by rfl) (pa_cons (pv 1) (pa_cons (pv 2) pa_nil))) (pa_cons (pe_ca ctext_of (hr.mono (by decide)) (by rfl) (pa_cons (pv 1) (pa_cons (pe_ix (ixL K) (pv 3) pe_int (fun _ _ => rfl)) pa_nil))) pa_nil)))) ip_add)) (pss_one (ps_aug (i := 7) sc_loop_within.nd rfl (.inl rfl) (pe_op op_add (pe_op op_mul (pe_callB (lenQ K) (by rfl) mlen (by decide +kernel) (pa_cons (pv 3) pa_nil)) (pe_dget (hu_of hr) (pv 6) pe_str (fun _ _ => rfl))) (pe_op op_mul (pv 4) (pe_dget (hu_of hr) (pv 6) pe_str (fun _ _ => rfl)))) ip_add)))))))
      (pss_one (ps_ret (pe_tup (pa_cons (pv 5) (pa_cons (pv 4) (pa_cons (pv 7) pa_nil))))))))))), ?_⟩
    have hul := paired_len hPk
    have in1 := hin1 one (List.mem_singleton.mpr rfl)
    -- free
    refine ⟨_, rfl, t, _, 1, _, rfl, rfl, SqT.of hT, rfl, _, rfl, t, _, 0, _, rfl, rfl, SqT.of hT, rfl, _, _, rfl, rfl, _, 1, rfl, rfl, _, rfl, l, rfl, ⟨_, SqL.of hL⟩, fun D hD => lc_list (K := K) (xs := us) (fun i H2 => H2 D = some (.lst (((ks.take i).map fun y => y.2 - y.1 + 1).map V.int)) ∧ Ext H H2)
      ⟨upd_same, Ext.new hD⟩ (fun i H2 _ ⟨_, k⟩ => SqL.of (k _ _ hL)) (fun i u H2 hi hv => ?_) (fun H2 hv => ?_)⟩
    · obtain ⟨hL2, k2⟩ := hv
      obtain ⟨y, hy, a1, rfl, ha1⟩ := paired_get hPk hi
      have hil : i < us.length := (List.getElem?_eq_some_iff.mp hi).1
      refine ⟨a1, _, rfl, SqT.of (k2 _ _ ha1), rfl, _, _, rfl, _, _, rfl, rfl, rfl, _, rfl, _, rfl, _, _, rfl, rfl, _, 1, rfl, rfl, _, hL2, szLt ?_, ?_, k2.put hD⟩
      · rw [List.length_map, List.length_map, List.length_take]
        omega
      · rw [upd_same, List.take_add_one, hy, List.map_append, List.map_append]
        rfl
    · obtain ⟨hL2, k2⟩ := hv
      rw [List.take_of_length_le (by omega)] at hL2
      refine ⟨D, _, rfl, SqL.of hL2, _, _, rfl, rfl, ?_⟩
      have hf0' : 0 ≤ one.2 - one.1 - 1 - (ks.map fun y => y.2 - y.1 + 1).sum := hf0
      have hf1' : one.2 - one.1 - 1 - (ks.map fun y => y.2 - y.1 + 1).sum ≤ 1000 := hf1
      -- kind
      refine ⟨_, rfl, _, rfl, l, us, rfl, .inl (SqL.of (k2 _ _ hL)), freeI one ks, us.length, rfl, ?_⟩
      rw [hul]
      -- told
      refine ⟨_, rfl, v, r, rfl, RulesW.mono _ _ _ _ (TupK.ext k2) hRu, ok.lo9, fun d hd => ?_⟩
      have e3 := Ext.new (o := .dK (dLo r.loops)) hd
      have hd3 : (upd H2 d (.dK (dLo r.loops))) d = some (.dK (dLo r.loops)) := upd_same
      have k3 := k2.trans e3
      have fin : ∀ (wo : Int) (H9 : Hp), wo = lpW r x one ks → Ext (upd H2 d (.dK (dLo r.loops))) H9 → ∀ p, H9 p = none → Q (.ref p) (upd H9 p (.tup [.str (kindN (freeI one ks) ks.length), .int (freeI one ks), .int wo])) := fun wo H9 e k9 p hp => by
        rw [e]
        exact q p _ upd_same ((k3.trans k9).trans (Ext.new hp))
      have l0 := lo_bound ok (show 0 < 9 by decide)
      have l1 := lo_bound ok (show 1 < 9 by decide)
      have l2 := lo_bound ok (show 2 < 9 by decide)
      have l4 := lo_bound ok (show 4 < 9 by decide)
      have l5 := lo_bound ok (show 5 < 9 by decide)
      have l7 := lo_bound ok (show 7 < 9 by decide)
      by_cases c0 : ks.length = 0
      · have ek : kindN (freeI one ks) ks.length = "lone" := by
          unfold kindN
          rw [if_pos c0]
        rw [ek] at fin ⊢
        refine ⟨_, rfl, _, rfl, d, _, rfl, get_lo hd3 ok.lo9 (i := 6) (by decide +kernel), ?_⟩
        refine ⟨_, rfl, rfl, _, rfl, iteT ?_⟩
        refine ⟨_, rfl, _, rfl, _, rfl, d, _, rfl, get_lo hd3 ok.lo9 (i := 7) (by decide +kernel), _, _, rfl, rfl, .inl ⟨by omega, by omega⟩, _, _, rfl, rfl, ?_⟩
        refine ⟨_, rfl, _, rfl, _, rfl, szL (show 3 ≤ 1000000 by decide), fun p hp => fin _ _ ?_ Ext.refl p hp⟩
        unfold lpW
        rw [if_pos c0]
        rfl
      · by_cases c1 : 1 < ks.length
        · have ek : kindN (freeI one ks) ks.length = "forked" := by
            unfold kindN
            rw [if_neg c0, if_pos c1]
          rw [ek] at fin ⊢
          refine ⟨_, rfl, _, rfl, d, _, rfl, get_lo hd3 ok.lo9 (i := 3) (by decide +kernel), ?_⟩
          refine ⟨_, rfl, rfl, _, rfl, ?_⟩
          rw [k_ne (by decide +kernel)]
          refine iteF ⟨_, rfl, rfl, _, rfl, ?_⟩
          rw [k_ne (by decide +kernel)]
          refine iteF ⟨_, rfl, rfl, _, rfl, ?_⟩
          rw [k_ne (by decide +kernel)]
          refine iteF ⟨_, rfl, _, rfl, l, us, rfl, .inl (SqL.of (k3 _ _ hL)), _, rfl, d, _, rfl, get_lo hd3 ok.lo9 (i := 4) (by decide +kernel), _, _, rfl, rfl, .inl ⟨by omega, by omega⟩, ?_⟩
          refine ⟨_, rfl, _, rfl, d, _, rfl, get_lo hd3 ok.lo9 (i := 5) (by decide +kernel), _, _, rfl, rfl, .inl ⟨by omega, by omega⟩, _, _, rfl, rfl, _, _, rfl, rfl, ?_⟩
          refine ⟨_, rfl, _, rfl, _, rfl, szL (show 3 ≤ 1000000 by decide), fun p hp => fin _ _ ?_ Ext.refl p hp⟩
          unfold lpW
          rw [if_neg c0, if_pos c1, hul]
          rfl
        · by_cases c2 : 0 < freeI one ks
          · have ek : kindN (freeI one ks) ks.length = "inner" := by
              unfold kindN
              rw [if_neg c0, if_neg c1, if_pos c2]
            rw [ek] at fin ⊢
            refine ⟨_, rfl, _, rfl, d, _, rfl, get_lo hd3 ok.lo9 (i := 1) (by decide +kernel), ?_⟩
            refine ⟨_, rfl, rfl, _, rfl, ?_⟩
            rw [k_ne (by decide +kernel)]
            refine iteF ⟨_, rfl, rfl, _, rfl, iteT ?_⟩
            refine ⟨_, rfl, _, rfl, _, rfl, d, _, rfl, get_lo hd3 ok.lo9 (i := 2) (by decide +kernel), _, _, rfl, rfl, .inl ⟨by omega, by omega⟩, _, _, rfl, rfl, ?_⟩
            refine ⟨_, rfl, _, rfl, _, rfl, szL (show 3 ≤ 1000000 by decide), fun p hp => fin _ _ ?_ Ext.refl p hp⟩
            unfold lpW
            rw [if_neg c0, if_neg c1, if_pos c2]
            rfl
          · have ek : kindN (freeI one ks) ks.length = "stacked" := by
              unfold kindN
              rw [if_neg c0, if_neg c1, if_neg c2]
            rw [ek] at fin ⊢
            refine ⟨_, rfl, _, rfl, d, _, rfl, get_lo hd3 ok.lo9 (i := 0) (by decide +kernel), ?_⟩
            refine ⟨_, rfl, rfl, _, rfl, ?_⟩
            rw [k_ne (by decide +kernel)]
            refine iteF ⟨_, rfl, rfl, _, rfl, ?_⟩
            rw [k_ne (by decide +kernel)]
            refine iteF ⟨_, rfl, rfl, _, rfl, iteT ?_⟩
            have c3 : 0 < us.length := by omega
            obtain ⟨y, hy, a1, ev, ha1⟩ := paired_get hPk (List.getElem?_eq_getElem c3)
            have iny := hink y (List.mem_of_getElem? hy)
            have hat : atI us 0 = some (.ref a1) := by
              rw [atI_get (by decide) (by omega), ← ev]
              rfl
            refine ⟨_, rfl, _, rfl, _, rfl, _, rfl, x, t, one, rfl, k3 _ _ hT, hx, in1.1, in1.2.1, in1.2.2.1, in1.2.2.2, ?_⟩
            refine ⟨_, rfl, _, rfl, l, us, _, _, rfl, rfl, SqL.of (k3 _ _ hL), hat, x, a1, y, rfl, k3 _ _ ha1, hx, iny.1, iny.2.1, iny.2.2.1, iny.2.2.2, ?_⟩
            refine ⟨v, r, _, _, rfl, RulesW.mono _ _ _ _ (TupK.ext k3) hRu, _, _, rfl, rfl, ?_⟩
            refine ⟨_, rfl, _, rfl, _, rfl, szL (show 3 ≤ 1000000 by decide), fun p hp => fin _ _ ?_ Ext.refl p hp⟩
            have eh : ks.headD (0, 0) = y := by
              cases ks with
              | nil => cases hy
              | cons z zs =>
                rw [List.getElem?_cons_zero] at hy
                cases hy
                rfl
            unfold lpW
            rw [if_neg c0, if_neg c1, if_neg c2, eh]
            rfl
abbrev CLoopW (P : Program) (w : World) (K : PySem.W.Frag) (mg : Str → Option Value) (base : Heap) : Prop := Ca P w K mg base 2 "loop_within" ["rules", "string", "pair", "within"] spLoopW
end
end Pf


namespace Pf
open PySem PySem.Spec PyProof.Rows L2
/-! ### dict(list of pairs) by tuples -/
abbrev TKV : Type := List Key × Addr × V
def TkR (kv : TKV) (x : List Key × Addr × Value) : Prop := kv.1 = x.1 ∧ kv.2.1 = x.2.1 ∧ RelV kv.2.2 x.2.2
def TkP (K : PySem.W.Frag) (H : Hp) (p : Addr) (kv : TKV) : Prop := SqT K H p [.ref kv.2.1, kv.2.2] ∧ H kv.2.1 = some (.tup (kv.1.map kV))
theorem tkeys_of {X : Cx} {pins : List (Addr × Obj)} {σ : L2.St} {H : Hp} {s : Shared} (I : Inv X pins σ H s) : ∀ {ps : List Addr} {kvs : List TKV}, Paired (TkP X.K H) ps kvs →
    ∃ xs : List (List Key × Addr × Value), Paired TkR kvs xs ∧ xs.length = ps.length ∧ ∀ (j : Nat) (x : List Key × Addr × Value), xs[j]? = some x → H x.2.1 = some (.tup (x.1.map kV)) ∧ ∃ b, ps[j]? = some b ∧ IsTup s.heap b #[.ref x.2.1, x.2.2]
  | _, _, .nil => ⟨[], .nil, rfl, fun j q e => by simp at e⟩
  | _, _, .cons (a := p) (b := kv) h t => by
    obtain ⟨xs, r, hl, hp⟩ := tkeys_of I t
    obtain ⟨its, rv, ht, _⟩ := I.tuple h.1
    obtain ⟨u, y, ei, ru, ry⟩ := vals2 rv
    subst ei
    obtain rfl : u = Value.ref kv.2.1 := ru
    refine ⟨(kv.1, kv.2.1, y) :: xs, .cons ⟨rfl, rfl, ry⟩ r, by rw [List.length_cons, List.length_cons, hl], fun j q e => ?_⟩
    cases j with
    | zero =>
      have e' : (kv.1, kv.2.1, y) = q := Option.some.inj e
      subst e'
      exact ⟨h.2, p, rfl, ht⟩
    | succ j =>
      obtain ⟨e0, b, e1, e2⟩ := hp j q (by simpa using e)
      exact ⟨e0, b, by simpa using e1, e2⟩
def mergeT (acc : List (List Key × V)) (kvs : List TKV) : List (List Key × V) := kvs.foldl (fun acc x => putK acc x.1 x.2.2) acc
theorem mergeT_len : ∀ (kvs : List TKV) (acc : List (List Key × V)), (mergeT acc kvs).length ≤ acc.length + kvs.length
  | [], acc => Nat.le_refl _
  | x :: kvs, acc => by
    have h1 := mergeT_len kvs (putK acc x.1 x.2.2)
    have h2 := length_putK acc x.1 x.2.2
    rw [List.length_cons]
    show (mergeT (putK acc x.1 x.2.2) kvs).length ≤ _
    omega
theorem kt_merge {H : Hp} : ∀ {kvs : List TKV} {xs : List (List Key × Addr × Value)} {acc : List (List Key × V)} {ys : List (List Key × Addr × Value)}, Paired TkR kvs xs → (∀ x ∈ xs, H x.2.1 = some (.tup (x.1.map kV))) → KT H acc ys → KT H (mergeT acc kvs) (storedAllH ys xs)
  | _, _, _, _, .nil, _, r => r
  | _, _, acc, ys, .cons (a := kv) (b := x) h t, hH, r => by
    have hb := hH x (List.mem_cons_self ..)
    have r1 := r.put x.1 hb h.2.2
    have := kt_merge t (fun z hz => hH z (List.mem_cons_of_mem _ hz)) r1
    rw [← h.1] at this
    show KT H (mergeT (putK acc kv.1 kv.2.2) _) (storedAllH (storedH ys x.1 x.2.1 x.2.2) _)
    rw [← h.1]
    exact this
def rDictLT (K : PySem.W.Frag) : List V → Hp → VK → Prop := fun xs H Q => ∃ (a : Addr) (ps : List Addr) (kvs : List TKV), xs = [.ref a] ∧ SqL K H a (ps.map V.ref) ∧ Paired (TkP K H) ps kvs ∧ ∀ p, H p = none → Q (.ref p) (upd H p (.dT (mergeT [] kvs)))
theorem dictLT (K : PySem.W.Frag) {X : Cx} (hu : X.A.units + 64 < cLine) (calm : X.calm = true := by rfl) (hK : X.K = K := by rfl) : CallR X (.type "dict") (rDictLT K) := by
  subst hK
  intro pins s σ H xs us Q I r q
  obtain ⟨a, ps, kvs, ex, hq, hp, q⟩ := q
  subst ex
  obtain ⟨u, eu, rx⟩ := vals1 r
  subst eu
  cases rx
  obtain ⟨its, rv, pl, hz⟩ := I.list hq
  have ei := refs_at rv
  subst ei
  rw [List.length_map] at hz
  obtain ⟨xs, rel, hl, hpr⟩ := tkeys_of I hp
  obtain ⟨o, n, ho, hc, hd, hdat⟩ := pl
  have hH : ∀ x ∈ xs, H x.2.1 = some (.tup (x.1.map kV)) := fun x hx => by
    obtain ⟨j, hj⟩ := List.mem_iff_getElem?.mp hx
    exact (hpr j x hj).1
  have lkv : kvs.length = ps.length := (Paired.length rel).trans hl
  refine call_dict_pairsH (knd := tupleKind (mixKind X.prog X.w)) (ps := xs) (PairArg.list a (ps.map Value.ref).toArray (fun j => ps.getD j 0) (xs.map fun x => (Value.ref x.2.1, x.2.2))) (I.ok.hd calm) (show X.A.units + 2 < cLine by omega) ⟨⟨o, n, ho, hc, hd, hdat⟩, by simp [hl], fun j k v e => ?_⟩ ⟨by simp, fun i key v e => ?_⟩ (fun h' hk x hx => ?_) (by rw [List.length_map, hl]; exact hz) (fun h' tk hd' hk => ?_)
  · rw [List.getElem?_map] at e
    cases ex : xs[j]? with
    | none => rw [ex] at e; cases e
    | some x =>
      rw [ex] at e
      cases e
      obtain ⟨_, b, e1, e2⟩ := hpr j x ex
      refine ⟨by simp [e1], .inl ?_⟩
      have : ps.getD j 0 = b := by
        rw [List.getD_eq_getElem?_getD, e1]
        rfl
      show s.heap.IsTuple (ps.getD j 0) _
      rw [this]
      exact e2
  · rw [show PairRel (xs.map fun x => (Value.ref x.2.1, x.2.2)) i key v ↔ _ from Iff.rfl] at e
    have e : (xs.map fun x => (Value.ref x.2.1, x.2.2))[i]? = some (key, v) := e
    rw [List.getElem?_map] at e
    cases ex : xs[i]? with
    | none => rw [ex] at e; cases e
    | some x =>
      rw [ex] at e
      cases e
      exact ⟨x.1, x.2.1, rfl, rfl⟩
  · obtain ⟨o1, its1, n1, h1, h2, h3, h4⟩ := key_of I.hok (hH x hx)
    exact ⟨o1, its1, n1, hk _ _ (Nat.ne_of_lt (Heap.lt_size h1)) (by simp) h1, h2, h3, h4⟩
  · have hm : (s.heap.objs.size == sysModules) = false := beq_eq_false_iff_ne.mpr (Nat.ne_of_gt I.big)
    have fresh := I.hok.fresh (Nat.le_refl s.heap.objs.size)
    have hlen : (mergeT [] kvs).length ≤ sizeLine := by
      refine Nat.le_trans (mergeT_len kvs []) ?_
      rw [List.length_nil, Nat.zero_add, lkv]
      exact hz
    have kt : KT H (mergeT [] kvs) (storedAllH [] xs) := kt_merge rel hH .nil
    obtain ⟨ob, es, ep, e1, e2, e3, e4, _, e5⟩ := hd'
    exact ⟨.ref s.heap.objs.size, upd H s.heap.objs.size (.dT (mergeT [] kvs)), I.laid (t' := tk) (fun b o e => hk b o (by simp) e) (Nat.le_refl _) (show ObjOk X.prog X.w _ _ _ (.dT (mergeT [] kvs)) from ⟨hlen, hm, _, kt.keeps fun b ys e => by rw [upd_ne (ne_of_none e fresh)]; exact e, ob, es, ep, e1, e2, e3, e4, e5⟩), rfl, q _ fresh⟩
end Pf


namespace Pf
open PySem PySem.Spec PyProof.Rows L2
def pwI : List (Str × Int) → Str → Int
  | [], _ => 0
  | (t, x) :: r, b => if t = b then x else pwI r b
theorem pwV_int : ∀ {prs : List (Str × Int)} {b : Str}, b ∈ prs.map (·.1) → pwV prs b = .int (pwI prs b)
  | [], _, h => by cases h
  | (t, x) :: r, b, h => by
    rw [pwV, pwI]
    by_cases e : t = b
    · rw [if_pos e, if_pos e]
    · rw [if_neg e, if_neg e]
      rcases List.mem_cons.mp h with z | z
      · exact absurd z.symm e
      · exact pwV_int z
/-! ### outermost pairs, pairs straight within -/
def topF (z : Int) : Fo → Fo
  | [] => []
  | p :: r => if z ≤ p.1 then p :: topF (p.2 + 1) r else topF z r
def tops : Fo → Fo
  | [] => []
  | p :: r => p :: topF (p.2 + 1) r
theorem topF_skip {z : Int} : ∀ {u w : Fo}, (∀ p ∈ u, p.1 < z) → topF z (u ++ w) = topF z w
  | [], _, _ => rfl
  | p :: u, w, h => by
    have := h p (List.mem_cons_self ..)
    rw [List.cons_append, topF, if_neg (by omega)]
    exact topF_skip fun q hq => h q (List.mem_cons_of_mem _ hq)
theorem topF_tops {z : Int} : ∀ {w : Fo}, (∀ p ∈ w, z ≤ p.1) → topF z w = tops w
  | [], _ => rfl
  | p :: w, h => by
    rw [topF, if_pos (h p (List.mem_cons_self ..))]
    rfl
theorem tops_pair {a k : Int} {u w : Fo} (hu : ∀ p ∈ u, p.1 < k + 1) (hw : ∀ p ∈ w, k + 1 ≤ p.1) : tops ((a, k) :: (u ++ w)) = (a, k) :: tops w := by
  rw [tops, topF_skip hu, topF_tops hw]
theorem tops_nil {w : Fo} : tops w = [] ↔ w = [] := by
  cases w with
  | nil => exact ⟨fun _ => rfl, fun _ => rfl⟩
  | cons p r => exact ⟨(fun h => by cases h), (fun h => by cases h)⟩
def nestB (one two : Int × Int) : Bool := decide (two.1 < one.1) && decide (one.2 < two.2)
def nn (u : Fo) : Fo := u.filter fun one => (u.filter (nestB one)).isEmpty
def withinC (w : Fo) (i j : Int) : Fo := w.filter fun p => decide (i < p.1) && decide (p.2 < j)
def strC (w : Fo) (i j : Int) : Fo := nn (withinC w i j)
theorem WA_cases {r : Rl} {x : Str} {n : Nat} {a : Int} {q : Fo} (h : q ∈ WA r x (n + 1) a) : q ∈ WA r x n (a + 1) ∨ ∃ t one other, t < n ∧ mayC r x a (a + 1 + (t : Nat)) = true ∧ one ∈ WA r x t (a + 1) ∧ other ∈ WA r x (n - 1 - t) (a + 2 + (t : Nat)) ∧ q = (a, a + 1 + (t : Nat)) :: (one ++ other) := by
  rw [WA_succ] at h
  rcases List.mem_append.mp h with h | h
  · exact .inl h
  · obtain ⟨t, ht, hq⟩ := List.mem_flatMap.mp h
    have ht := List.mem_range.mp ht
    unfold seg at hq
    split at hq
    · rename_i hm
      obtain ⟨one, h1, hq⟩ := List.mem_flatMap.mp hq
      obtain ⟨other, h2, rfl⟩ := List.mem_map.mp hq
      exact .inr ⟨t, one, other, ht, hm, h1, h2, rfl⟩
    · cases hq
theorem filter_none {α : Type} {f : α → Bool} {l : List α} (h : ∀ y ∈ l, f y = false) : l.filter f = [] := by
  rw [List.filter_eq_nil_iff]
  intro y hy
  rw [h y hy]
  exact Bool.false_ne_true
theorem filter_all {α : Type} {f : α → Bool} {l : List α} (h : ∀ y ∈ l, f y = true) : l.filter f = l := List.filter_eq_self.mpr h
/-- where a folding is a pair around one, and one behind -/
structure Cut (a k : Int) (u w : Fo) : Prop where
  ak : a < k
  ui : ∀ p ∈ u, a < p.1 ∧ p.1 < p.2 ∧ p.2 < k
  wi : ∀ p ∈ w, k < p.1 ∧ p.1 < p.2
theorem Cut.of {r : Rl} {x : Str} {n t : Nat} {a : Int} {one other : Fo} (h1 : one ∈ WA r x t (a + 1)) (h2 : other ∈ WA r x n (a + 2 + (t : Nat))) : Cut a (a + 1 + (t : Nat)) one other :=
  ⟨by omega, fun p hp => by have := (WA_in r x t (a + 1) one h1).1 p hp; omega, fun p hp => by have := (WA_in r x n (a + 2 + (t : Nat)) other h2).1 p hp; omega⟩
theorem Cut.tops {a k : Int} {u w : Fo} (c : Cut a k u w) : tops ((a, k) :: (u ++ w)) = (a, k) :: tops w :=
  tops_pair (fun p hp => by have := c.ui p hp; omega) (fun p hp => by have := c.wi p hp; omega)
theorem dand {p q : Prop} [Decidable p] [Decidable q] (h : p ∧ q) : (decide p && decide q) = true := by
  rw [decide_eq_true h.1, decide_eq_true h.2]
  rfl
theorem dnot {p q : Prop} [Decidable p] [Decidable q] (h : ¬ (p ∧ q)) : (decide p && decide q) = false := by
  by_cases hp : p
  · have hq : ¬ q := fun z => h ⟨hp, z⟩
    rw [decide_eq_false hq, Bool.and_false]
  · rw [decide_eq_false hp, Bool.false_and]
theorem Cut.nn {a k : Int} {u w : Fo} (c : Cut a k u w) : nn ((a, k) :: (u ++ w)) = (a, k) :: nn w := by
  have hak := c.ak
  have n0 : nestB (a, k) (a, k) = false := dnot (by simp)
  have n1 : u.filter (nestB (a, k)) = [] := filter_none fun p hp => dnot (by have := c.ui p hp; simp; omega)
  have n2 : w.filter (nestB (a, k)) = [] := filter_none fun p hp => dnot (by have := c.wi p hp; simp; omega)
  unfold Pf.nn
  rw [List.filter_cons_of_pos (by rw [List.filter_cons_of_neg (by rw [n0]; exact Bool.false_ne_true), List.filter_append, n1, n2]; rfl), List.filter_append]
  congr 1
  have e1 : u.filter (fun one => (((a, k) :: (u ++ w)).filter (nestB one)).isEmpty) = [] := filter_none fun p hp => by
    have h := c.ui p hp
    have m0 : nestB p (a, k) = true := dand (show a < p.1 ∧ p.2 < k by omega)
    rw [List.filter_cons_of_pos m0]
    rfl
  have e2 : w.filter (fun one => (((a, k) :: (u ++ w)).filter (nestB one)).isEmpty) = w.filter (fun one => (w.filter (nestB one)).isEmpty) := List.filter_congr fun p hp => by
    have h := c.wi p hp
    have m0 : nestB p (a, k) = false := dnot (show ¬ (a < p.1 ∧ p.2 < k) by omega)
    have m1 : u.filter (nestB p) = [] := filter_none fun q hq => dnot (by have := c.ui q hq; omega)
    rw [List.filter_cons_of_neg (by rw [m0]; exact Bool.false_ne_true), List.filter_append, m1, List.nil_append]
  rw [e1, e2, List.nil_append]
theorem nn_tops (r : Rl) (x : Str) : ∀ (n : Nat) (a : Int), ∀ q ∈ WA r x n a, nn q = tops q := by
  intro n
  induction n using Nat.strongRecOn with
  | ind n ih =>
    intro a q hq
    match n, ih, hq with
    | 0, _, hq =>
      rw [WA_zero, List.mem_singleton] at hq
      subst hq
      rfl
    | n + 1, ih, hq =>
      rcases WA_cases hq with h | ⟨t, one, other, ht, hm, h1, h2, rfl⟩
      · exact ih n (by omega) _ _ h
      · have c := Cut.of h1 h2
        rw [c.nn, c.tops, ih (n - 1 - t) (by omega) _ _ h2]
theorem Cut.str0 {a k : Int} {u w : Fo} (c : Cut a k u w) : withinC ((a, k) :: (u ++ w)) a k = u := by
  unfold withinC
  rw [List.filter_cons_of_neg (by rw [dnot (by simp)]; exact Bool.false_ne_true), List.filter_append, filter_all (fun p hp => dand (by have := c.ui p hp; omega)), filter_none (fun p hp => dnot (by have := c.wi p hp; omega)), List.append_nil]
theorem Cut.str1 {a k : Int} {u w : Fo} (c : Cut a k u w) {p : Int × Int} (hp : p ∈ u) : withinC ((a, k) :: (u ++ w)) p.1 p.2 = withinC u p.1 p.2 := by
  have h := c.ui p hp
  unfold withinC
  rw [List.filter_cons_of_neg (by rw [dnot (show ¬ (p.1 < a ∧ k < p.2) by omega)]; exact Bool.false_ne_true), List.filter_append, filter_none (l := w) (fun q hq => dnot (by have := c.wi q hq; omega)), List.append_nil]
theorem Cut.str2 {a k : Int} {u w : Fo} (c : Cut a k u w) {p : Int × Int} (hp : p ∈ w) : withinC ((a, k) :: (u ++ w)) p.1 p.2 = withinC w p.1 p.2 := by
  have h := c.wi p hp
  have hak := c.ak
  unfold withinC
  rw [List.filter_cons_of_neg (by rw [dnot (show ¬ (p.1 < a ∧ k < p.2) by omega)]; exact Bool.false_ne_true), List.filter_append, filter_none (l := u) (fun q hq => dnot (by have := c.ui q hq; omega)), List.nil_append]
/-! ### worths -/
theorem wid_cons (p : Int × Int) (ks : Fo) : wid (p :: ks) = (p.2 - p.1 + 1) + wid ks := by
  unfold wid
  rw [List.map_cons, List.sum_cons]
/-! ### what rows stand for -/
theorem str_in (r : Rl) (x : Str) : ∀ (n : Nat) (a : Int), ∀ q ∈ WA r x n a, ∀ y ∈ q, ∃ (t : Nat) (u : Fo), u ∈ WA r x t (y.1 + 1) ∧ y.2 = y.1 + 1 + (t : Nat) ∧ strC q y.1 y.2 = tops u := by
  intro n
  induction n using Nat.strongRecOn with
  | ind n ih =>
    intro a q hq
    match n, ih, hq with
    | 0, _, hq =>
      rw [WA_zero, List.mem_singleton] at hq
      subst hq
      intro y hy
      cases hy
    | n + 1, ih, hq =>
      rcases WA_cases hq with h | ⟨t, one, other, ht, hm, h1, h2, rfl⟩
      · exact ih n (by omega) _ _ h
      · have c := Cut.of h1 h2
        intro y hy
        rcases List.mem_cons.mp hy with rfl | hy
        · refine ⟨t, one, h1, rfl, ?_⟩
          unfold strC
          rw [show withinC ((a, a + 1 + (t : Nat)) :: (one ++ other)) (a, a + 1 + (t : Nat)).1 (a, a + 1 + (t : Nat)).2 = one from c.str0, nn_tops r x t (a + 1) one h1]
        · rcases List.mem_append.mp hy with hy | hy
          · obtain ⟨t', u, h3, h4, h5⟩ := ih t (by omega) _ _ h1 y hy
            refine ⟨t', u, h3, h4, ?_⟩
            unfold strC at h5 ⊢
            rw [c.str1 hy]
            exact h5
          · obtain ⟨t', u, h3, h4, h5⟩ := ih (n - 1 - t) (by omega) _ _ h2 y hy
            refine ⟨t', u, h3, h4, ?_⟩
            unfold strC at h5 ⊢
            rw [c.str2 hy]
            exact h5
theorem wid_tops (r : Rl) (x : Str) : ∀ (n : Nat) (a : Int), ∀ q ∈ WA r x n a, wid (tops q) ≤ n := by
  intro n
  induction n using Nat.strongRecOn with
  | ind n ih =>
    intro a q hq
    match n, ih, hq with
    | 0, _, hq =>
      rw [WA_zero, List.mem_singleton] at hq
      subst hq
      exact (show (0 : Int) ≤ 0 by decide)
    | n + 1, ih, hq =>
      rcases WA_cases hq with h | ⟨t, one, other, ht, hm, h1, h2, rfl⟩
      · have := ih n (by omega) _ _ h
        omega
      · have := ih (n - 1 - t) (by omega) _ _ h2
        rw [(Cut.of h1 h2).tops, wid_cons]
        show a + 1 + (t : Nat) - a + 1 + wid (tops other) ≤ _
        omega
theorem free_nn {r : Rl} {x : Str} {n : Nat} {a : Int} {q : Fo} (hq : q ∈ WA r x n a) {y : Int × Int} (hy : y ∈ q) : 0 ≤ freeI y (strC q y.1 y.2) := by
  obtain ⟨t, u, h1, h2, h3⟩ := str_in r x n a q hq y hy
  have := wid_tops r x t (y.1 + 1) u h1
  unfold freeI
  rw [h3]
  omega
end Pf


namespace Pf
open PySem PySem.Spec PyProof.Rows L2
/-! ### all foldings of a stretch, told by what they are -/
structure Fo4 (r : Rl) (x : Str) (a b : Int) (q : Fo) : Prop where
  srt : q.Pairwise fun y z => y.1 < z.1
  inn : ∀ y ∈ q, a ≤ y.1 ∧ y.1 < y.2 ∧ y.2 < b
  may : ∀ y ∈ q, mayC r x y.1 y.2 = true
  sep : ∀ y ∈ q, ∀ z ∈ q, y.1 < z.1 → z.2 < y.2 ∨ y.2 < z.1
theorem fo4_of (r : Rl) (x : Str) : ∀ (n : Nat) (a : Int), ∀ q ∈ WA r x n a, Fo4 r x a (a + n) q := by
  intro n
  induction n using Nat.strongRecOn with
  | ind n ih =>
    intro a q hq
    match n, ih, hq with
    | 0, _, hq =>
      rw [WA_zero, List.mem_singleton] at hq
      subst hq
      exact ⟨.nil, (fun y hy => by cases hy), (fun y hy => by cases hy), (fun y hy => by cases hy)⟩
    | n + 1, ih, hq =>
      rcases WA_cases hq with h | ⟨t, one, other, ht, hm, h1, h2, rfl⟩
      · have := ih n (by omega) _ _ h
        exact ⟨this.srt, fun y hy => by have := this.inn y hy; omega, this.may, this.sep⟩
      · have f1 := ih t (by omega) _ _ h1
        have f2 := ih (n - 1 - t) (by omega) _ _ h2
        refine ⟨?_, fun y hy => ?_, fun y hy => ?_, fun y hy z hz hlt => ?_⟩
        · refine List.pairwise_cons.mpr ⟨fun z hz => ?_, List.pairwise_append.mpr ⟨f1.srt, f2.srt, fun y hy z hz => ?_⟩⟩
          · rcases List.mem_append.mp hz with hz | hz
            · have := f1.inn z hz
              show a < z.1
              omega
            · have := f2.inn z hz
              show a < z.1
              omega
          · have := f1.inn y hy
            have := f2.inn z hz
            omega
        · rcases List.mem_cons.mp hy with rfl | hy
          · show a ≤ a ∧ a < a + 1 + (t : Nat) ∧ a + 1 + (t : Nat) < a + (n + 1 : Nat)
            omega
          · rcases List.mem_append.mp hy with hy | hy
            · have := f1.inn y hy
              omega
            · have := f2.inn y hy
              omega
        · rcases List.mem_cons.mp hy with rfl | hy
          · exact hm
          · rcases List.mem_append.mp hy with hy | hy
            · exact f1.may y hy
            · exact f2.may y hy
        · rcases List.mem_cons.mp hy with rfl | hy
          · rcases List.mem_cons.mp hz with rfl | hz
            · omega
            · rcases List.mem_append.mp hz with hz | hz
              · have := f1.inn z hz
                left
                show z.2 < a + 1 + (t : Nat)
                omega
              · have := f2.inn z hz
                right
                show a + 1 + (t : Nat) < z.1
                omega
          · rcases List.mem_cons.mp hz with rfl | hz
            · have hlt : y.1 < a := hlt
              rcases List.mem_append.mp hy with hy | hy
              · have := f1.inn y hy
                omega
              · have := f2.inn y hy
                omega
            · rcases List.mem_append.mp hy with hy | hy
              · rcases List.mem_append.mp hz with hz | hz
                · exact f1.sep y hy z hz hlt
                · have := f1.inn y hy
                  have := f2.inn z hz
                  right
                  omega
              · rcases List.mem_append.mp hz with hz | hz
                · have := f1.inn z hz
                  have := f2.inn y hy
                  omega
                · exact f2.sep y hy z hz hlt
theorem split_at (k : Int) : ∀ {t : Fo}, t.Pairwise (fun y z => y.1 < z.1) → t = t.filter (fun z => decide (z.1 < k)) ++ t.filter fun z => decide (¬ z.1 < k)
  | [], _ => rfl
  | y :: t, h => by
    have hp := List.pairwise_cons.mp h
    by_cases c : y.1 < k
    · rw [List.filter_cons_of_pos (by simpa using c), List.filter_cons_of_neg (by simpa using c), List.cons_append, ← split_at k hp.2]
    · rw [List.filter_cons_of_neg (by simpa using c), List.filter_cons_of_pos (by simpa using c)]
      have e1 : t.filter (fun z => decide (z.1 < k)) = [] := filter_none fun z hz => decide_eq_false (by have := hp.1 z hz; omega)
      have e2 : t.filter (fun z => decide (¬ z.1 < k)) = t := filter_all fun z hz => decide_eq_true (by have := hp.1 z hz; omega)
      rw [e1, e2]
      rfl
theorem Fo4.sub {r : Rl} {x : Str} {a b a' b' : Int} {q q' : Fo} (h : Fo4 r x a b q) (hs : q'.Sublist q) (hin : ∀ y ∈ q', a' ≤ y.1 ∧ y.1 < y.2 ∧ y.2 < b') : Fo4 r x a' b' q' :=
  ⟨h.srt.sublist hs, hin, fun y hy => h.may y (hs.subset hy), fun y hy z hz => h.sep y (hs.subset hy) z (hs.subset hz)⟩
theorem of_fo4 (r : Rl) (x : Str) : ∀ (n : Nat) (a : Int) (q : Fo), Fo4 r x a (a + n) q → q ∈ WA r x n a := by
  intro n
  induction n using Nat.strongRecOn with
  | ind n ih =>
    intro a q hq
    match n, ih, hq with
    | 0, _, hq =>
      cases q with
      | nil => exact List.mem_cons_self ..
      | cons y t =>
        have := hq.inn y (List.mem_cons_self ..)
        omega
    | n + 1, ih, hq =>
      rw [WA_succ]
      cases q with
      | nil =>
        refine List.mem_append_left _ ?_
        obtain ⟨t, e⟩ := WA_head r x n (a + 1)
        rw [e]
        exact List.mem_cons_self ..
      | cons y t =>
        have hp := List.pairwise_cons.mp hq.srt
        have hy := hq.inn y (List.mem_cons_self ..)
        by_cases c : y.1 = a
        · obtain ⟨i, k⟩ := y
          have c : i = a := c
          subst c
          have hy : i ≤ i ∧ i < k ∧ k < i + ((n + 1 : Nat) : Int) := hy
          obtain ⟨m, hm⟩ : ∃ m : Nat, k = i + 1 + (m : Nat) := ⟨(k - i - 1).toNat, by omega⟩
          have s1 : (t.filter fun z => decide (z.1 < k)).Sublist t := List.filter_sublist
          have s2 : (t.filter fun z => decide (¬ z.1 < k)).Sublist t := List.filter_sublist
          have o1 := ih m (by omega) (i + 1) (t.filter fun z => decide (z.1 < k)) (hq.sub (s1.trans (List.sublist_cons_self ..)) fun z hz => by
            have hzt := s1.subset hz
            have hzk : z.1 < k := of_decide_eq_true (List.mem_filter.mp hz).2
            have h1 := hq.inn z (List.mem_cons_of_mem _ hzt)
            have h2 : i < z.1 := hp.1 z hzt
            have h3 : z.2 < k ∨ k < z.1 := hq.sep (i, k) (List.mem_cons_self ..) z (List.mem_cons_of_mem _ hzt) h2
            omega)
          have o2 := ih (n - 1 - m) (by omega) (i + 2 + (m : Nat)) (t.filter fun z => decide (¬ z.1 < k)) (hq.sub (s2.trans (List.sublist_cons_self ..)) fun z hz => by
            have hzt := s2.subset hz
            have hzk : ¬ z.1 < k := of_decide_eq_true (List.mem_filter.mp hz).2
            have h1 := hq.inn z (List.mem_cons_of_mem _ hzt)
            have h2 : i < z.1 := hp.1 z hzt
            have h3 : z.2 < k ∨ k < z.1 := hq.sep (i, k) (List.mem_cons_self ..) z (List.mem_cons_of_mem _ hzt) h2
            omega)
          refine List.mem_append_right _ (List.mem_flatMap.mpr ⟨m, List.mem_range.mpr (by omega), ?_⟩)
          have hmay : mayC r x i (i + 1 + (m : Nat)) = true := by
            rw [← hm]
            exact hq.may (i, k) (List.mem_cons_self ..)
          unfold seg
          rw [if_pos hmay]
          refine List.mem_flatMap.mpr ⟨_, o1, List.mem_map.mpr ⟨_, o2, ?_⟩⟩
          rw [← split_at k hp.2, hm]
        · refine List.mem_append_left _ (ih n (by omega) (a + 1) _ ⟨hq.srt, fun z hz => ?_, hq.may, hq.sep⟩)
          have h1 := hq.inn z hz
          rcases List.mem_cons.mp hz with rfl | hz
          · omega
          · have h2 := hp.1 z hz
            omega
theorem WA_iff (r : Rl) (x : Str) (n : Nat) (a : Int) (q : Fo) : q ∈ WA r x n a ↔ Fo4 r x a (a + n) q := ⟨fo4_of r x n a q, of_fo4 r x n a q⟩
/-- none stands twice -/
theorem WA_nd (r : Rl) (x : Str) : ∀ (n : Nat) (a : Int), (WA r x n a).Nodup := by
  intro n
  induction n using Nat.strongRecOn with
  | ind n ih =>
    intro a
    match n, ih with
    | 0, _ => exact List.pairwise_singleton _ _
    | n + 1, ih =>
      rw [WA_succ]
      refine List.pairwise_append.mpr ⟨ih n (by omega) (a + 1), List.pairwise_flatMap.mpr ⟨fun t ht => ?_, ?_⟩, fun q hq q' hq' => ?_⟩
      · have ht := List.mem_range.mp ht
        unfold seg
        split
        · refine List.pairwise_flatMap.mpr ⟨fun one h1 => List.pairwise_map.mpr ?_, ?_⟩
          · refine (ih (n - 1 - t) (by omega) (a + 2 + t)).imp fun hne e => hne ?_
            injection e with _ e
            exact List.append_cancel_left e
          · refine List.Pairwise.imp_of_mem (R := (· ≠ ·)) (fun {o1 o2} m1 m2 hne => ?_) (ih t (by omega) (a + 1))
            rintro u hu u' hu' rfl
            obtain ⟨w1, hw1, e1⟩ := List.mem_map.mp hu
            obtain ⟨w2, hw2, e2⟩ := List.mem_map.mp hu'
            rw [← e2] at e1
            injection e1 with _ e1
            refine hne ?_
            have g1 := fo4_of r x t (a + 1) o1 m1
            have g2 := fo4_of r x t (a + 1) o2 m2
            have v1 := fo4_of r x (n - 1 - t) (a + 2 + t) w1 hw1
            have v2 := fo4_of r x (n - 1 - t) (a + 2 + t) w2 hw2
            have c1 : (o1 ++ w1).filter (fun z => decide (z.1 < a + 1 + (t : Nat))) = o1 := by
              rw [List.filter_append, filter_all (fun z hz => decide_eq_true (by have := g1.inn z hz; omega)), filter_none (fun z hz => decide_eq_false (by have := v1.inn z hz; omega)), List.append_nil]
            have c2 : (o2 ++ w2).filter (fun z => decide (z.1 < a + 1 + (t : Nat))) = o2 := by
              rw [List.filter_append, filter_all (fun z hz => decide_eq_true (by have := g2.inn z hz; omega)), filter_none (fun z hz => decide_eq_false (by have := v2.inn z hz; omega)), List.append_nil]
            rw [← c1, ← c2, e1]
        · exact .nil
      · refine List.Pairwise.imp_of_mem (R := (· < ·)) (fun {t1 t2} _ _ hlt => ?_) List.pairwise_lt_range
        rintro u hu u' hu' rfl
        unfold seg at hu hu'
        split at hu
        · split at hu'
          · obtain ⟨o1, _, hu⟩ := List.mem_flatMap.mp hu
            obtain ⟨w1, _, e1⟩ := List.mem_map.mp hu
            obtain ⟨o2, _, hu'⟩ := List.mem_flatMap.mp hu'
            obtain ⟨w2, _, e2⟩ := List.mem_map.mp hu'
            rw [← e2] at e1
            injection e1 with e1 _
            have := congrArg Prod.snd e1
            have : a + 1 + (t1 : Int) = a + 1 + (t2 : Int) := this
            omega
          · cases hu'
        · cases hu
      · rintro rfl
        have h1 := fo4_of r x n (a + 1) q hq
        obtain ⟨t, _, hs⟩ := List.mem_flatMap.mp hq'
        unfold seg at hs
        split at hs
        · obtain ⟨o1, _, hs⟩ := List.mem_flatMap.mp hs
          obtain ⟨w1, _, rfl⟩ := List.mem_map.mp hs
          have := h1.inn (a, a + 1 + (t : Nat)) (List.mem_cons_self ..)
          have : a + 1 ≤ a := this.1
          omega
        · cases hs
/-! ### lists without one twice -/
theorem nd_count {α : Type} [DecidableEq α] {y : α} : ∀ {l : List α}, l.Nodup → y ∈ l → l.count y = 1
  | [], _, h => by cases h
  | z :: l, hl, h => by
    have hp := List.nodup_cons.mp hl
    by_cases e : z = y
    · subst e
      rw [List.count_cons_self, List.count_eq_zero.mpr hp.1]
    · rw [List.count_cons_of_ne (by simpa using e)]
      rcases List.mem_cons.mp h with h | h
      · exact absurd h.symm e
      · exact nd_count hp.2 h
theorem perm_nd {α : Type} [DecidableEq α] {l m : List α} (hl : l.Nodup) (hm : m.Nodup) (h : ∀ y, y ∈ l ↔ y ∈ m) : l.Perm m := List.perm_iff_count.mpr fun y => by
  by_cases c : y ∈ l
  · rw [nd_count hl c, nd_count hm ((h y).mp c)]
  · rw [List.count_eq_zero.mpr c, List.count_eq_zero.mpr fun z => c ((h y).mpr z)]
theorem len_nd {α : Type} [DecidableEq α] : ∀ {l m : List α}, l.Nodup → (∀ y ∈ l, y ∈ m) → l.length ≤ m.length
  | [], _, _, _ => Nat.zero_le _
  | y :: l, m, hl, h => by
    have hp := List.nodup_cons.mp hl
    have hy := h y (List.mem_cons_self ..)
    have := len_nd (l := l) (m := m.erase y) hp.2 fun z hz => (List.mem_erase_of_ne (fun e : z = y => hp.1 (by rw [← e]; exact hz))).mpr (h z (List.mem_cons_of_mem _ hz))
    rw [List.length_erase_of_mem hy] at this
    have : 0 < m.length := List.length_pos_of_mem hy
    rw [List.length_cons]
    omega
end Pf


namespace Pf
open PySem PySem.Spec PyProof.Rows L2
/-! ### foldings as data -/
theorem sm_i32 {i : Int} (h0 : 0 ≤ i) (h1 : i < 32) : Sm 5 0 (.int i) := by
  have h := Sm.int (i := i) (by omega) (by omega)
  refine ⟨h.lay, h.sho, h.ish, ?_, h.dep⟩
  have hl : i.natAbs.log2 < 5 := by
    by_cases z : i.natAbs = 0
    · rw [z]
      decide
    · exact (Nat.log2_lt z).mpr (by omega)
  simp only [PyData.weight]
  split <;> omega
theorem sm_fo {q : Fo} (hn : q.length ≤ 6) (h : ∀ y ∈ q, 0 ≤ y.1 ∧ y.1 < 32 ∧ 0 ≤ y.2 ∧ y.2 < 32) : Sm 78 2 (dFo q) := by
  refine Sm.tup (n := 6) (m := 12) (k := 1) (by rw [List.length_map]; exact hn) (fun d hd => ?_) (by decide)
  obtain ⟨y, hy, rfl⟩ := List.mem_map.mp hd
  have := h y hy
  refine Sm.tup (n := 2) (m := 5) (k := 0) (Nat.le_refl _) (fun d hd => ?_) (by decide)
  simp only [List.mem_cons, List.not_mem_nil, or_false] at hd
  rcases hd with rfl | rfl
  · exact sm_i32 (by omega) (by omega)
  · exact sm_i32 (by omega) (by omega)
theorem sm_fos {r : Rl} {x : Str} {n : Nat} (hn : n ≤ 10) {L : List Fo} (hp : L.Perm (WA r x n 0)) : Sm 1000000 3 (.list (L.map dFo)) := by
  have hl := WA_len10 r x hn 0
  refine Sm.lst (n := 2188) (m := 78) (k := 2) (by rw [List.length_map, hp.length_eq]; exact hl) (fun d hd => ?_) (by decide)
  obtain ⟨q, hq, rfl⟩ := List.mem_map.mp hd
  have hi := WA_in r x n 0 q (hp.mem_iff.mp hq)
  refine sm_fo (by omega) fun y hy => ?_
  have := hi.1 y hy
  omega
theorem SF_perm (L : List Fo) : (SF L).Perm L := List.mergeSort_perm _ _
/-! ### pairs as data -/
theorem lay_twos : ∀ L : Fo, PyData.canLayAll0 (L.map dTwo) = true
  | [] => by simp [PyData.canLayAll0]
  | y :: L => by
    rw [List.map_cons]
    simp [PyData.canLayAll0, PyData.canLay0, dTwo, lay_twos L]
theorem shaped_twos (L : Fo) : SeqAt.shaped (.list (L.map dTwo)) = true := by
  show (PyData.canLay0 (.list (L.map dTwo)) && decide (PyData.depth (.list (L.map dTwo)) ≤ 64)) = true
  have h1 : PyData.canLay0 (.list (L.map dTwo)) = true := by
    rw [PyData.canLay0]
    exact lay_twos L
  have h2 : PyData.depth (.list (L.map dTwo)) ≤ 64 := by
    rw [PyData.depth]
    have := dep_twos L
    omega
  rw [h1, decide_eq_true h2]
  rfl
theorem eqv_nil (L : Fo) : PyData.eqv (.list (L.map dTwo)) (.list []) = L.isEmpty := by
  cases L with
  | nil => simp [PyData.eqv, PyData.eqvAll]
  | cons y L => simp [PyData.eqv, PyData.eqvAll]
/-- what a comprehension keeps of pairs -/
def KeepL (E1 : Addr) (H : Hp) (L : Fo) (n : Nat) (H2 : Hp) : Prop := ∃ vs, H2 E1 = some (.lst vs) ∧ Paired (TwoAt H2) vs L ∧ L.length ≤ n ∧ Ext H H2
theorem KeepL.new {E1 : Addr} {H : Hp} (h : H E1 = none) : KeepL E1 H [] 0 (upd H E1 (.lst [])) := ⟨[], upd_same, .nil, Nat.le_refl _, Ext.new h⟩
theorem KeepL.add {E1 a1 : Addr} {H H2 H3 : Hp} {L : Fo} {n : Nat} {y : Int × Int} (hE : H E1 = none) (h : KeepL E1 H L n H2) (k : Ext H2 H3) (ha : H3 a1 = some (.tup [.int y.1, .int y.2])) (hn : n ≤ 1000) : ∃ acc, H3 E1 = some (.lst acc) ∧ acc.length < sizeLine ∧ KeepL E1 H (L ++ [y]) (n + 1) (upd H3 E1 (.lst (acc ++ [.ref a1]))) := by
  obtain ⟨vs, hL, hP, hl, k2⟩ := h
  have hL3 := k _ _ hL
  have := paired_len hP
  refine ⟨vs, hL3, szLt (by omega), _, upd_same, paired_app (paired_imp (fun _ _ => TwoAt.mono _ _ _ _ ((TupK.ext k).trans (TupK.lst hL3))) hP) (.cons (TwoAt.mono _ _ _ _ (TupK.lst hL3) ⟨a1, rfl, ha⟩) .nil), by rw [List.length_append, List.length_singleton]; omega, (k2.trans k).put hE⟩
theorem KeepL.skip {E1 : Addr} {H H2 H3 : Hp} {L : Fo} {n : Nat} (h : KeepL E1 H L n H2) (k : Ext H2 H3) : KeepL E1 H L (n + 1) H3 := by
  obtain ⟨vs, hL, hP, hl, k2⟩ := h
  exact ⟨vs, k _ _ hL, paired_imp (fun _ _ => TwoAt.mono _ _ _ _ (TupK.ext k)) hP, by omega, k2.trans k⟩
theorem KeepL.ext {E1 : Addr} {H H2 : Hp} {L : Fo} {n : Nat} (h : KeepL E1 H L n H2) : Ext H H2 := by
  obtain ⟨vs, hL, hP, hl, k2⟩ := h
  exact k2
theorem take_filt {w : Fo} {c : Nat} {y : Int × Int} {p : Int × Int → Bool} (h : w[c]? = some y) : (w.take (c + 1)).filter p = (w.take c).filter p ++ (if p y = true then [y] else []) := by
  rw [List.take_add_one, h, List.filter_append]
  congr 1
  by_cases e : p y = true
  · rw [if_pos e]
    exact List.filter_cons_of_pos e
  · rw [if_neg e]
    exact List.filter_cons_of_neg e
theorem str_sub (q0 : Fo) (i j : Int) : ∀ y ∈ strC q0 i j, y ∈ q0 := fun y hy => by
  unfold strC nn withinC at hy
  exact (List.mem_filter.mp (List.mem_filter.mp hy).1).1
theorem str_len (q0 : Fo) (i j : Int) : (strC q0 i j).length ≤ q0.length := by
  unfold strC nn withinC
  exact Nat.le_trans (List.length_filter_le _ _) (List.length_filter_le _ _)
theorem val_prs : ∀ (prs : List (Str × Int)) (b : Str), b ∈ prs.map (·.1) → valV (prs.map encP) (.inr b) = some (.int (pwI prs b))
  | [], _, h => by cases h
  | (t, x) :: r, b, h => by
    rw [List.map_cons, pwI]
    by_cases e : t = b
    · rw [valV_pos (show (encP (t, x)).1 = .inr b by rw [e]; rfl), if_pos e]
      rfl
    · rw [valV_neg (show ¬ (encP (t, x)).1 = .inr b from fun z => e (Sum.inr.inj z)), if_neg e]
      refine val_prs r b ?_
      rcases List.mem_cons.mp h with h | h
      · exact absurd h.symm e
      · exact h
end Pf


namespace Pf
open PySem PySem.Spec PyProof.Rows L2
/-! ### pairs straight within, as the program finds them -/
def ins (pr : Option (Int × Int)) (x : Int × Int) : Bool := match pr with
  | none => true
  | some q => decide (q.1 < x.1) && decide (x.2 < q.2)
def fits (acc : List (Int × Int)) (x : Int × Int) : Bool := acc.isEmpty || decide ((acc.getLast?.map (·.2)).getD 0 < x.1)
def gstep (pr : Option (Int × Int)) (acc : List (Int × Int)) (x : Int × Int) : List (Int × Int) := if (ins pr x && fits acc x) = true then acc ++ [x] else acc
def gr : Option Int → List (Int × Int) → List (Int × Int)
  | _, [] => []
  | e, x :: r => if (e.isNone || decide (e.getD 0 < x.1)) = true then x :: gr (some x.2) r else gr e r
theorem fits_last (acc : List (Int × Int)) (x : Int × Int) : fits acc x = ((acc.getLast?.map (·.2)).isNone || decide ((acc.getLast?.map (·.2)).getD 0 < x.1)) := by
  unfold fits
  cases acc with
  | nil => rfl
  | cons a r =>
    rw [List.getLast?_cons]
    rfl
theorem fold_gr (pr : Option (Int × Int)) : ∀ (ps acc : List (Int × Int)), ps.foldl (gstep pr) acc = acc ++ gr (acc.getLast?.map (·.2)) (ps.filter (ins pr))
  | [], acc => by
    rw [List.foldl_nil, List.filter_nil, gr, List.append_nil]
  | x :: r, acc => by
    rw [List.foldl_cons, fold_gr pr r]
    unfold gstep
    by_cases h : ins pr x = true
    · rw [List.filter_cons_of_pos h, gr, h, Bool.true_and, ← fits_last]
      by_cases h2 : fits acc x = true
      · rw [if_pos h2, if_pos h2, List.append_assoc]
        simp
      · rw [if_neg h2, if_neg h2]
    · rw [List.filter_cons_of_neg h, if_neg (by simp [h])]
def swL (pr : Option (Int × Int)) (ps : List (Int × Int)) : List (Int × Int) := ps.foldl (gstep pr) []
def OneAt (H : Hp) (v : V) (pr : Option (Int × Int)) : Prop := match pr with
  | none => v = .non
  | some q => TwoAt H v q
theorem OneAt.mono : Mono OneAt := fun H H' v x k h => by
  cases x with
  | none => exact h
  | some q => exact TwoAt.mono _ _ _ _ k h
theorem last_at {H : Hp} {vs : List V} {qs : List (Int × Int)} (hPr : Paired (TwoAt H) vs qs) (h : 0 < vs.length) : ∃ (a : Addr) (q : Int × Int), atI vs (-1) = some (.ref a) ∧ H a = some (.tup [.int q.1, .int q.2]) ∧ qs.getLast? = some q := by
  have hl := paired_len hPr
  have h1 : vs[vs.length - 1]? = some (vs[vs.length - 1]'(by omega)) := List.getElem?_eq_getElem _
  obtain ⟨q, hq, a, ea, ha⟩ := paired_get hPr h1
  refine ⟨a, q, ?_, ha, ?_⟩
  · unfold atI ixN
    rw [if_neg (by decide), if_pos (by omega)]
    show vs[(-1 + (vs.length : Int)).toNat]? = _
    rw [show (-1 + (vs.length : Int)).toNat = vs.length - 1 by omega, h1, ea]
  · rw [List.getLast?_eq_getElem?, ← hl]
    exact hq
theorem fold_take {α β : Type} {f : β → α → β} {b : β} {xs : List α} {i : Nat} {x : α} (h : xs[i]? = some x) : (xs.take (i + 1)).foldl f b = f ((xs.take i).foldl f b) x := by
  rw [List.take_add_one, h, List.foldl_append]
  rfl
theorem gstep_len (pr : Option (Int × Int)) (acc : List (Int × Int)) (x : Int × Int) : (gstep pr acc x).length ≤ acc.length + 1 := by
  unfold gstep
  split
  · rw [List.length_append]
    exact Nat.le_refl _
  · omega
theorem fold_len (pr : Option (Int × Int)) : ∀ (ps acc : List (Int × Int)), (ps.foldl (gstep pr) acc).length ≤ acc.length + ps.length
  | [], acc => by simp
  | x :: r, acc => by
    have h1 := fold_len pr r (gstep pr acc x)
    have h2 := gstep_len pr acc x
    rw [List.foldl_cons, List.length_cons]
    omega
theorem gr_some : ∀ (e : Int) (q : Fo), gr (some e) q = topF (e + 1) q
  | _, [] => rfl
  | e, y :: q => by
    rw [gr, topF]
    by_cases h : e < y.1
    · rw [if_pos (by simp; exact h), if_pos (by omega), gr_some y.2 q]
    · rw [if_neg (by simp; omega), if_neg (by omega), gr_some e q]
theorem gr_none (q : Fo) : gr none q = tops q := by
  cases q with
  | nil => rfl
  | cons y q =>
    rw [gr, tops, if_pos (by rfl), gr_some]
theorem sw_tops (pr : Option (Int × Int)) (q : Fo) : swL pr q = tops (q.filter (ins pr)) := by
  unfold swL
  rw [fold_gr, List.nil_append]
  exact gr_none _
theorem sw_none (q : Fo) : swL none q = tops q := by
  rw [sw_tops, filter_all (f := ins none) (fun y _ => rfl)]
/-- within a pair of a folding -/
theorem within_WA {r : Rl} {x : Str} {n : Nat} {a : Int} {q : Fo} (hq : q ∈ WA r x n a) {y : Int × Int} (hy : y ∈ q) : ∃ t : Nat, withinC q y.1 y.2 ∈ WA r x t (y.1 + 1) := by
  have f := fo4_of r x n a q hq
  have hb := f.inn y hy
  refine ⟨(y.2 - y.1 - 1).toNat, of_fo4 r x _ _ _ (f.sub (List.filter_sublist ..) fun z hz => ?_)⟩
  obtain ⟨hz1, hz2⟩ := List.mem_filter.mp hz
  rw [Bool.and_eq_true] at hz2
  have h1 : y.1 < z.1 := of_decide_eq_true hz2.1
  have h2 : z.2 < y.2 := of_decide_eq_true hz2.2
  have := f.inn z hz1
  omega
theorem sw_some {r : Rl} {x : Str} {n : Nat} {a : Int} {q : Fo} (hq : q ∈ WA r x n a) {y : Int × Int} (hy : y ∈ q) : swL (some y) q = strC q y.1 y.2 := by
  obtain ⟨t, ht⟩ := within_WA hq hy
  rw [sw_tops]
  show tops (withinC q y.1 y.2) = nn (withinC q y.1 y.2)
  exact (nn_tops r x t (y.1 + 1) _ ht).symm
theorem free_le {r : Rl} {x : Str} {n : Nat} {a : Int} {q : Fo} (hq : q ∈ WA r x n a) {y : Int × Int} (hy : y ∈ q) : freeI y (strC q y.1 y.2) ≤ y.2 - y.1 - 1 := by
  have f := fo4_of r x n a q hq
  unfold freeI wid
  have : 0 ≤ ((strC q y.1 y.2).map fun y => y.2 - y.1 + 1).sum := by
    have aux : ∀ l : Fo, (∀ z ∈ l, z ∈ q) → 0 ≤ (l.map fun y => y.2 - y.1 + 1).sum := by
      intro l
      induction l with
      | nil => intro _; exact Int.le_refl _
      | cons z l ih =>
        intro h
        rw [List.map_cons, List.sum_cons]
        have h1 := f.inn z (h z (List.mem_cons_self ..))
        have h2 := ih fun w hw => h w (List.mem_cons_of_mem _ hw)
        omega
    exact aux _ fun z hz => str_sub q y.1 y.2 z hz
  omega
theorem tops_len : ∀ q : Fo, (tops q).length ≤ q.length
  | [] => Nat.le_refl _
  | y :: q => by
    have aux : ∀ (z : Int) (q : Fo), (topF z q).length ≤ q.length := by
      intro z q
      induction q generalizing z with
      | nil => exact Nat.le_refl _
      | cons y q ih =>
        rw [topF]
        split
        · rw [List.length_cons, List.length_cons]
          have := ih (y.2 + 1)
          omega
        · rw [List.length_cons]
          have := ih z
          omega
    rw [tops, List.length_cons, List.length_cons]
    have := aux (y.2 + 1) q
    omega
def woV (r : Rl) (x : Str) (qs : Fo) : Int := (qs.map fun y => pwI r.prs (tx2 x y)).sum + (qs.map fun y => lpW r x y (strC qs y.1 y.2)).sum + ((tops qs).length : Int) * lo r 8
abbrev Row : Type := Int × Int × Str × Int × Int
def RowAt (H : Hp) (v : V) (y : Row) : Prop := ∃ a, v = .ref a ∧ H a = some (.tup [.int y.1, .int y.2.1, .str y.2.2.1, .int y.2.2.2.1, .int y.2.2.2.2])
theorem RowAt.mono : Mono RowAt := fun H H' v x k ⟨a, e, h⟩ => ⟨a, e, k _ _ h⟩
def lpR (r : Rl) (x : Str) (qs : List (Int × Int)) (one : Int × Int) : Row := (one.1, one.2, kindN (freeI one (strC qs one.1 one.2)) (strC qs one.1 one.2).length, freeI one (strC qs one.1 one.2), lpW r x one (strC qs one.1 one.2))
section
variable {P : Program} {w : World} {K : PySem.W.Frag} {mg : Str → Option Value} {base : Heap}
abbrev s_straight_within : Stmt := topS 17
theorem sc_straight_within : FnScope ["folding", "pair", "found", "i", "j", "inside"] ["folding", "pair"] (defScope s_straight_within) :=
  ⟨rfl, rfl, rfl, by decide +kernel, rfl, by decide +kernel, by decide +kernel⟩
def spWithin : Sp := fun vs H Q _ => ∃ (vf vp : V) (ps : List (Int × Int)) (pr : Option (Int × Int)), vs = [vf, vp] ∧ TupOf TwoAt H vf ps ∧ ps.length ≤ 1000 ∧ OneAt H vp pr ∧
  ∀ (l : Addr) (us : List V) (H' : Hp), H l = none → H' l = some (.lst us) → Paired (TwoAt H') us (swL pr ps) → Ext H H' → Q (.ref l) H'
theorem ok_within {f : Addr} {fd : FuncData} {k : Nat} (F : Fun K "straight_within" "straight_within" s_straight_within f fd) : FnOk P w K mg base CX0 (k + 1) f fd ["folding", "pair"] spWithin := by
  refine F.ok sc_straight_within (fun vs H Q E h => ?_) (fun cdv A outer s H vs Q E hr h => ?_)
  · obtain ⟨vf, vp, ps, pr, rfl, _⟩ := h
    rfl
  · obtain ⟨vf, vp, ps, pr, rfl, ⟨af, fs, rfl, hF, hPs⟩, hpl, hpr, q⟩ := h
    refine ⟨_, (pss_cons (ps_set (i := 2) sc_straight_within.nd rfl (.inl rfl) (pe_lst pa_nil))
      (pss_cons (ps_for PassesOwn.never rfl (pi_tup (pv 0)) (pg_tup rfl (pgs_cons (pg_name (i := 3) sc_straight_within.nd rfl (.inl rfl)) (pgs_cons (pg_name (i := 4) sc_straight_within.nd rfl (.inl rfl)) pgs_nil))) (pss_cons (ps_set (i := 5) sc_straight_within.nd rfl (.inl rfl) (pe_or (pe_cmpR op_isN (pv 1) pe_non (nomark _)) (pe_one (pe_and (pe_cmpR op_lt (pe_ix (ixT K) (pv 1) pe_int (fun _ _ => rfl)) (pv 3) (nomark _)) (pe_one (pe_cmpR op_lt (pv 4) (pe_ix (ixT K) (pv 1) pe_int (fun _ _ => rfl)) (nomark _)))))))
      (pss_one (ps_if (PW.pt (pw_and (pt_val (pv 5)) (pw_and1 (PW.pt (pw_or (pt_not (pt_truth (pv 2) (by intro _; rfl))) (pw_or1 (pt_cmpR op_lt (pe_ix (ixT K) (pe_ix (ixL K) (pv 2) (pe_un un_neg pe_int) (fun _ _ => rfl)) pe_int (fun _ _ => rfl)) (pv 3) (nomark _)))))))) (pss_one (ps_expr (pe_bm PySem.F.plainAttrs_list PySem.F.slot_list_append PySem.F.type_list_append mt_append (pv 2) (pa_cons (pe_tup (pa_cons (pv 3) (pa_cons (pv 4) pa_nil))) pa_nil)))) pss_nil))))
      (pss_one (ps_ret (pv 2))))), ?_⟩
    have hfl := paired_len hPs
    refine ⟨Nat.zero_le _, fun l hl => ?_⟩
    refine ⟨_, rfl, af, rfl, ⟨_, SqT.of (Ext.new hl _ _ hF)⟩, for_tup (xs := fs) (fun i σ H2 => ∃ (y3 y4 y5 : Option V) (us : List V), σ = [some (.ref af), some vp, some (.ref l), y3, y4, y5] ∧ H2 l = some (.lst us) ∧ Paired (TwoAt H2) us ((ps.take i).foldl (gstep pr) []) ∧ Ext H H2)
      ⟨none, none, none, [], rfl, upd_same, .nil, Ext.new hl⟩ (fun i σ H2 _ ⟨_, _, _, _, _, _, _, k⟩ => SqT.of (k _ _ hF)) (fun i u σ H2 hi hv => ?_) (fun σ H2 hv => ?_)⟩
    · obtain ⟨y3, y4, y5, us, rfl, hL2, hPr, k2⟩ := hv
      obtain ⟨⟨a, b⟩, hx, a1, rfl, ha1⟩ := paired_get hPs hi
      rw [fold_take hx]
      have hus := paired_len hPr
      have hul : us.length ≤ 1000 := by
        have := fold_len pr (ps.take i) []
        rw [List.length_take, List.length_nil] at this
        omega
      refine ⟨a1, _, rfl, SqT.of (k2 _ _ ha1), rfl, _, _, rfl, _, _, rfl, rfl, ?_⟩
      generalize (ps.take i).foldl (gstep pr) [] = acc at hPr hus
      cases pr with
      | none =>
        obtain rfl : vp = .non := hpr
        have hI : ins none (a, b) = true := rfl
        generalize (none : Option (Int × Int)) = pr at hI ⊢
        refine ⟨_, rfl, rfl, _, rfl, iteT ?_⟩
        refine ⟨_, rfl, _, rfl, ite2 (fun e => ?_) (fun e => ?_)⟩
        · have hI' : ins pr (a, b) = true := hI.trans e
          refine ⟨_, rfl, _, .inl ⟨us, SqL.of hL2, rfl⟩, ?_⟩
          cases us with
          | nil =>
            cases hPr
            refine iteT ?_
            refine iteT ?_
            refine ⟨_, rfl, .inl ⟨rfl, _, SqL.of hL2⟩, _, rfl, _, rfl, szL (show 2 ≤ 1000000 by decide), fun t ht => ?_⟩
            have e8 := Ext.new (o := .tup [.int a, .int b]) ht
            refine ⟨l, _, _, rfl, rfl, e8 _ _ hL2, szLt (show 0 < 1000000 by decide), ?_⟩
            refine ⟨_, _, _, [.ref t], rfl, upd_same, ?_, (k2.trans e8).put hl⟩
            unfold gstep
            rw [if_pos (by rw [hI']; rfl)]
            refine .cons ⟨t, rfl, ?_⟩ .nil
            rw [upd_ne (ne_of_none hL2 ht).symm, upd_same]
          | cons u0 us0 =>
            refine iteF ?_
            obtain ⟨ak, qk, hat, hak, hlast⟩ := last_at hPr (by rw [List.length_cons]; omega)
            have hfit : fits acc (a, b) = decide (qk.2 < a) := by
              rw [fits_last, hlast]
              rfl
            refine ⟨_, rfl, 1, rfl, l, _, -1, _, rfl, rfl, SqL.of hL2, hat, ak, _, 1, _, rfl, rfl, SqT.of hak, rfl, _, rfl, _, _, rfl, rfl, _, rfl, ite2 (fun e2 => ?_) (fun e2 => ?_)⟩
            · refine ⟨_, rfl, .inl ⟨rfl, _, SqL.of hL2⟩, _, rfl, _, rfl, szL (show 2 ≤ 1000000 by decide), fun t ht => ?_⟩
              have e8 := Ext.new (o := .tup [.int a, .int b]) ht
              have hL8 := e8 _ _ hL2
              refine ⟨l, _, _, rfl, rfl, hL8, szLt (by omega), ?_⟩
              refine ⟨_, _, _, (u0 :: us0) ++ [.ref t], rfl, upd_same, ?_, (k2.trans e8).put hl⟩
              unfold gstep
              rw [if_pos (by rw [hI', hfit]; exact e2)]
              refine (paired_imp (fun _ _ => TwoAt.mono _ _ _ _ ((TupK.ext e8).trans (TupK.lst hL8))) hPr).snoc ⟨t, rfl, ?_⟩
              rw [upd_ne (ne_of_none hL2 ht).symm, upd_same]
            · refine ⟨_, _, _, u0 :: us0, rfl, hL2, ?_, k2⟩
              unfold gstep
              rw [if_neg (by rw [hI', hfit]; exact e2)]
              exact hPr
        · have hI' : ins pr (a, b) = false := hI.trans (Bool.eq_false_iff.mpr e)
          refine ⟨_, _, _, us, rfl, hL2, ?_, k2⟩
          unfold gstep
          rw [if_neg (by rw [hI']; exact Bool.false_ne_true)]
          exact hPr
      | some q0 =>
        obtain ⟨ap, rfl, hap⟩ : TwoAt H vp q0 := hpr
        refine ⟨_, rfl, rfl, _, rfl, ?_⟩
        rw [decide_eq_false (show ¬ V.ref ap = V.non from fun z => by cases z)]
        refine iteF ⟨_, rfl, ap, _, 0, _, rfl, rfl, SqT.of (k2 _ _ hap), rfl, _, rfl, _, _, rfl, rfl, _, rfl, ite2 (fun e0 => ?_) (fun e0 => ?_)⟩
        · have hI : ins (some q0) (a, b) = decide (b < q0.2) := by
            show (decide (q0.1 < a) && decide (b < q0.2)) = _
            have e0 : decide (q0.1 < a) = true := e0
            rw [e0, Bool.true_and]
          refine ⟨_, rfl, _, rfl, ap, _, 1, _, rfl, rfl, SqT.of (k2 _ _ hap), rfl, _, _, rfl, rfl, ?_⟩
          generalize (some q0 : Option (Int × Int)) = pr at hI ⊢
          refine ⟨_, rfl, _, rfl, ite2 (fun e => ?_) (fun e => ?_)⟩
          · have hI' : ins pr (a, b) = true := hI.trans e
            refine ⟨_, rfl, _, .inl ⟨us, SqL.of hL2, rfl⟩, ?_⟩
            cases us with
            | nil =>
              cases hPr
              refine iteT ?_
              refine iteT ?_
              refine ⟨_, rfl, .inl ⟨rfl, _, SqL.of hL2⟩, _, rfl, _, rfl, szL (show 2 ≤ 1000000 by decide), fun t ht => ?_⟩
              have e8 := Ext.new (o := .tup [.int a, .int b]) ht
              refine ⟨l, _, _, rfl, rfl, e8 _ _ hL2, szLt (show 0 < 1000000 by decide), ?_⟩
              refine ⟨_, _, _, [.ref t], rfl, upd_same, ?_, (k2.trans e8).put hl⟩
              unfold gstep
              rw [if_pos (by rw [hI']; rfl)]
              refine .cons ⟨t, rfl, ?_⟩ .nil
              rw [upd_ne (ne_of_none hL2 ht).symm, upd_same]
            | cons u0 us0 =>
              refine iteF ?_
              obtain ⟨ak, qk, hat, hak, hlast⟩ := last_at hPr (by rw [List.length_cons]; omega)
              have hfit : fits acc (a, b) = decide (qk.2 < a) := by
                rw [fits_last, hlast]
                rfl
              refine ⟨_, rfl, 1, rfl, l, _, -1, _, rfl, rfl, SqL.of hL2, hat, ak, _, 1, _, rfl, rfl, SqT.of hak, rfl, _, rfl, _, _, rfl, rfl, _, rfl, ite2 (fun e2 => ?_) (fun e2 => ?_)⟩
              · refine ⟨_, rfl, .inl ⟨rfl, _, SqL.of hL2⟩, _, rfl, _, rfl, szL (show 2 ≤ 1000000 by decide), fun t ht => ?_⟩
                have e8 := Ext.new (o := .tup [.int a, .int b]) ht
                have hL8 := e8 _ _ hL2
                refine ⟨l, _, _, rfl, rfl, hL8, szLt (by omega), ?_⟩
                refine ⟨_, _, _, (u0 :: us0) ++ [.ref t], rfl, upd_same, ?_, (k2.trans e8).put hl⟩
                unfold gstep
                rw [if_pos (by rw [hI', hfit]; exact e2)]
                refine (paired_imp (fun _ _ => TwoAt.mono _ _ _ _ ((TupK.ext e8).trans (TupK.lst hL8))) hPr).snoc ⟨t, rfl, ?_⟩
                rw [upd_ne (ne_of_none hL2 ht).symm, upd_same]
              · refine ⟨_, _, _, u0 :: us0, rfl, hL2, ?_, k2⟩
                unfold gstep
                rw [if_neg (by rw [hI', hfit]; exact e2)]
                exact hPr
          · have hI' : ins pr (a, b) = false := hI.trans (Bool.eq_false_iff.mpr e)
            refine ⟨_, _, _, us, rfl, hL2, ?_, k2⟩
            unfold gstep
            rw [if_neg (by rw [hI']; exact Bool.false_ne_true)]
            exact hPr
        · have hI : ins (some q0) (a, b) = false := by
            show (decide (q0.1 < a) && decide (b < q0.2)) = _
            have e0 : decide (q0.1 < a) = false := Bool.eq_false_iff.mpr e0
            rw [e0, Bool.false_and]
          generalize (some q0 : Option (Int × Int)) = pr at hI ⊢
          refine ⟨_, rfl, _, rfl, ite2 (fun e => ?_) (fun e => ?_)⟩
          · have hI' : ins pr (a, b) = true := hI.trans e
            refine ⟨_, rfl, _, .inl ⟨us, SqL.of hL2, rfl⟩, ?_⟩
            cases us with
            | nil =>
              cases hPr
              refine iteT ?_
              refine iteT ?_
              refine ⟨_, rfl, .inl ⟨rfl, _, SqL.of hL2⟩, _, rfl, _, rfl, szL (show 2 ≤ 1000000 by decide), fun t ht => ?_⟩
              have e8 := Ext.new (o := .tup [.int a, .int b]) ht
              refine ⟨l, _, _, rfl, rfl, e8 _ _ hL2, szLt (show 0 < 1000000 by decide), ?_⟩
              refine ⟨_, _, _, [.ref t], rfl, upd_same, ?_, (k2.trans e8).put hl⟩
              unfold gstep
              rw [if_pos (by rw [hI']; rfl)]
              refine .cons ⟨t, rfl, ?_⟩ .nil
              rw [upd_ne (ne_of_none hL2 ht).symm, upd_same]
            | cons u0 us0 =>
              refine iteF ?_
              obtain ⟨ak, qk, hat, hak, hlast⟩ := last_at hPr (by rw [List.length_cons]; omega)
              have hfit : fits acc (a, b) = decide (qk.2 < a) := by
                rw [fits_last, hlast]
                rfl
              refine ⟨_, rfl, 1, rfl, l, _, -1, _, rfl, rfl, SqL.of hL2, hat, ak, _, 1, _, rfl, rfl, SqT.of hak, rfl, _, rfl, _, _, rfl, rfl, _, rfl, ite2 (fun e2 => ?_) (fun e2 => ?_)⟩
              · refine ⟨_, rfl, .inl ⟨rfl, _, SqL.of hL2⟩, _, rfl, _, rfl, szL (show 2 ≤ 1000000 by decide), fun t ht => ?_⟩
                have e8 := Ext.new (o := .tup [.int a, .int b]) ht
                have hL8 := e8 _ _ hL2
                refine ⟨l, _, _, rfl, rfl, hL8, szLt (by omega), ?_⟩
                refine ⟨_, _, _, (u0 :: us0) ++ [.ref t], rfl, upd_same, ?_, (k2.trans e8).put hl⟩
                unfold gstep
                rw [if_pos (by rw [hI', hfit]; exact e2)]
                refine (paired_imp (fun _ _ => TwoAt.mono _ _ _ _ ((TupK.ext e8).trans (TupK.lst hL8))) hPr).snoc ⟨t, rfl, ?_⟩
                rw [upd_ne (ne_of_none hL2 ht).symm, upd_same]
              · refine ⟨_, _, _, u0 :: us0, rfl, hL2, ?_, k2⟩
                unfold gstep
                rw [if_neg (by rw [hI', hfit]; exact e2)]
                exact hPr
          · have hI' : ins pr (a, b) = false := hI.trans (Bool.eq_false_iff.mpr e)
            refine ⟨_, _, _, us, rfl, hL2, ?_, k2⟩
            unfold gstep
            rw [if_neg (by rw [hI']; exact Bool.false_ne_true)]
            exact hPr
    · obtain ⟨y3, y4, y5, us, rfl, hL2, hPr, k2⟩ := hv
      rw [List.take_of_length_le (by omega)] at hPr
      exact ⟨_, rfl, q l us H2 hl hL2 hPr k2⟩
abbrev CWithin (P : Program) (w : World) (K : PySem.W.Frag) (mg : Str → Option Value) (base : Heap) : Prop := Ca P w K mg base 1 "straight_within" ["folding", "pair"] spWithin
abbrev s_loops_of : Stmt := topS 21
theorem sc_loops_of : FnScope ["rules", "string", "folding", "pair"] ["rules", "string", "folding"] (defScope s_loops_of) :=
  ⟨rfl, rfl, rfl, by decide +kernel, rfl, by decide +kernel, by decide +kernel⟩
def spLoops : Sp := fun vs H Q _ => ∃ (v vf : V) (r : Rl) (x : Str) (qs : Fo) (r0 : Rl), vs = [v, .str x, vf] ∧ RulesW H v r ∧ RlOk r ∧ x.length ≤ 1000 ∧ TupOf TwoAt H vf qs ∧ x.length ≤ 12 ∧ qs ∈ WA r0 x x.length 0 ∧
  ∀ (l : Addr) (us : List V) (H' : Hp), H' l = some (.lst us) → Paired (RowAt H') us (qs.map (lpR r x qs)) → H l = none → Ext H H' → Q (.ref l) H'
theorem ok_loops {f : Addr} {fd : FuncData} (F : Fun K "loops_of" "loops_of" s_loops_of f fd) (cloop_within : CLoopW P w K mg base) (cstraight_within : CWithin P w K mg base) : FnOk P w K mg base CX0 3 f fd ["rules", "string", "folding"] spLoops := by
  refine F.ok sc_loops_of (fun vs H Q E h => ?_) (fun cdv A outer s H vs Q E hr h => ?_)
  · obtain ⟨v, vf, r, x, qs, r0, rfl, _⟩ := h
    rfl
  · obtain ⟨v, vf, r, x, qs, r0, rfl, hRu, ok, hx, ⟨af, fs, rfl, hF, hPf⟩, hx12, hq, q⟩ := h
    have hWi := WA_in r0 x x.length 0 qs hq
    have hql : qs.length ≤ 1000 := by omega
    refine ⟨_, (pss_one (ps_ret (pe_lc (own := [("pair", 3)]) (g := gName 3) (by rfl) sc_loops_of.nd (pi_tup (pv 2)) (blkOk_by (own := [("pair", 3)]) (N := ["rules", "string", "folding", "pair"]) (sc := defScope s_loops_of) (by decide +kernel)) (fun _ _ _ _ _ => (pg_name (i := 3) sc_loops_of.nd rfl (.inl rfl))) (fun _ _ _ _ _ => pts_nil) (fun _ _ _ _ _ => (pe_op (catT K) (pv 3) (pe_ca cloop_within (hr.mono (by decide)) (by rfl) (pa_cons (pv 0) (pa_cons (pv 1) (pa_cons (pv 3) (pa_cons (pe_ca cstraight_within (hr.mono (by decide)) (by rfl) (pa_cons (pv 2) (pa_cons (pv 3) pa_nil))) pa_nil)))))))))), ?_⟩
    have hfl := paired_len hPf
    have hInX : InX x qs := fun y hy => by
      have := hWi.1 y hy
      omega
    refine ⟨_, rfl, af, rfl, ⟨_, SqT.of hF⟩, fun D hD => lc_tup (K := K) (xs := fs) (fun i H2 => ∃ us : List V, H2 D = some (.lst us) ∧ Paired (RowAt H2) us ((qs.take i).map (lpR r x qs)) ∧ Ext H H2)
      ⟨[], upd_same, .nil, Ext.new hD⟩ (fun i H2 _ ⟨_, _, _, k⟩ => SqT.of (k _ _ hF)) (fun i u H2 hi' hv => ?_) (fun H2 hv => ?_)⟩
    · obtain ⟨us, hL2, hPr2, k2⟩ := hv
      obtain ⟨one, hone, a1, rfl, ha1⟩ := paired_get hPf hi'
      have hm1 := List.mem_of_getElem? hone
      have hb1 := hWi.1 one hm1
      have hfr : 0 ≤ freeI one (strC qs one.1 one.2) ∧ freeI one (strC qs one.1 one.2) ≤ one.2 - one.1 - 1 := ⟨free_nn hq hm1, free_le hq hm1⟩
      have hkl := str_len qs one.1 one.2
      have hul := paired_len hPr2
      rw [List.length_map, List.length_take] at hul
      have hil : i < fs.length := (List.getElem?_eq_some_iff.mp hi').1
      refine ⟨rfl, _, rfl, _, rfl, _, rfl, _, rfl, _, rfl, _, rfl, .ref af, .ref a1, qs, some one, rfl, ⟨af, fs, rfl, k2 _ _ hF, paired_imp (fun _ _ => TwoAt.mono _ _ _ _ (TupK.ext k2)) hPf⟩, hql, ⟨a1, rfl, k2 _ _ ha1⟩, fun l ws H3 hl hL3 hPr3 k3 => ?_⟩
      have k23 := k2.trans k3
      rw [sw_some hq hm1] at hPr3
      refine ⟨v, r, x, a1, l, one, ws, _, rfl, RulesW.mono _ _ _ _ (TupK.ext k23) hRu, ok, hx, k23 _ _ ha1, hL3, hPr3, by omega, fun y hy => ?_, fun y hy => hInX y (str_sub qs one.1 one.2 y hy), hfr.1, by omega, fun a H4 hA4 k4 => ?_⟩
      · rw [List.mem_singleton.mp hy]
        exact hInX one hm1
      · have k14 := k3.trans k4
        refine ⟨a1, a, _, _, rfl, rfl, SqT.of (k4 _ _ (k23 _ _ ha1)), SqT.of hA4, by (intro z; cases z), szL (show 5 ≤ 1000000 by decide), (fun z => by cases z), fun _ p hp => ⟨us, Ext.new hp _ _ (k14 _ _ hL2), szLt (by omega), us ++ [.ref p], upd_same, ?_, ((k2.trans k14).trans (Ext.new hp)).put hD⟩⟩
        have e5 := Ext.new (o := .tup ([.int one.1, .int one.2] ++ [.str (kindN (freeI one (strC qs one.1 one.2)) (strC qs one.1 one.2).length), .int (freeI one (strC qs one.1 one.2)), .int (lpW r x one (strC qs one.1 one.2))])) hp
        have hL5 := e5 _ _ (k14 _ _ hL2)
        have tk := (TupK.ext (k14.trans e5)).trans (TupK.lst (o := .lst (us ++ [.ref p])) hL5)
        rw [List.take_add_one, hone, List.map_append]
        refine (paired_imp (fun _ _ => RowAt.mono _ _ _ _ tk) hPr2).snoc ⟨p, rfl, ?_⟩
        rw [upd_ne (ne_of_none (k14 _ _ hL2) hp).symm, upd_same]
        rfl
    · obtain ⟨us, hL2, hPr2, k2⟩ := hv
      rw [List.take_of_length_le (by omega)] at hPr2
      exact q D us H2 hL2 hPr2 hD k2
abbrev CLoops (P : Program) (w : World) (K : PySem.W.Frag) (mg : Str → Option Value) (base : Heap) : Prop := Ca P w K mg base 3 "loops_of" ["rules", "string", "folding"] spLoops
abbrev s_worth_of : Stmt := topS 22
theorem sc_worth_of : FnScope ["rules", "string", "folding", "pairs", "loops", "pair", "loop"] ["rules", "string", "folding"] (defScope s_worth_of) :=
  ⟨rfl, rfl, rfl, by decide +kernel, rfl, by decide +kernel, by decide +kernel⟩
def spWO : Sp := fun vs H Q _ => ∃ (v vf : V) (r : Rl) (x : Str) (qs : Fo) (r0 : Rl), vs = [v, .str x, vf] ∧ RulesW H v r ∧ RlOk r ∧ x.length ≤ 1000 ∧ TupOf TwoAt H vf qs ∧ x.length ≤ 12 ∧ qs ∈ WA r0 x x.length 0 ∧ (∀ y ∈ qs, tx2 x y ∈ r.prs.map (·.1)) ∧ ∀ H', Ext H H' → Q (.int (woV r x qs)) H'
theorem ok_wo {f : Addr} {fd : FuncData} (F : Fun K "worth_of" "worth_of" s_worth_of f fd) (cpair_worth : CPW P w K mg base) (ctext_of : CTx P w K mg base) (cloops_of : CLoops P w K mg base) (cstraight_within : CWithin P w K mg base) (cloop_worths : CLW P w K mg base) (msum : mg "sum" = none) (mlen : mg "len" = none) : FnOk P w K mg base CX0 4 f fd ["rules", "string", "folding"] spWO := by
  refine F.ok sc_worth_of (fun vs H Q E h => ?_) (fun cdv A outer s H vs Q E hr h => ?_)
  · obtain ⟨v, vf, r, x, qs, r0, rfl, _⟩ := h
    rfl
  · obtain ⟨v, vf, r, x, qs, r0, rfl, hRu, ok, hx, ⟨af, fs, rfl, hF, hPf⟩, hx12, hq, hMy, q⟩ := h
    have hWi := WA_in r0 x x.length 0 qs hq
    have hql : qs.length ≤ 1000 := by omega
    refine ⟨_, (pss_cons (ps_set (i := 3) sc_worth_of.nd rfl (.inl rfl) (pe_callB (sumI K) (by rfl) msum (by decide +kernel) (pa_cons (pe_lc (own := [("pair", 5)]) (g := gName 5) (by rfl) sc_worth_of.nd (pi_tup (pv 2)) (blkOk_by (own := [("pair", 5)]) (N := ["rules", "string", "folding", "pairs", "loops", "pair", "loop"]) (sc := defScope s_worth_of) (by decide +kernel)) (fun _ _ _ _ _ => (pg_name (i := 5) sc_worth_of.nd rfl (.inl rfl))) (fun _ _ _ _ _ => pts_nil) (fun _ _ _ _ _ => (pe_ca cpair_worth (hr.mono (by decide)) (by rfl) (pa_cons (pv 0) (pa_cons (pe_ca ctext_of (hr.mono (by decide)) (by rfl) (pa_cons (pv 1) (pa_cons (pv 5) pa_nil))) pa_nil))))) pa_nil)))
      (pss_cons (ps_set (i := 4) sc_worth_of.nd rfl (.inl rfl) (pe_callB (sumI K) (by rfl) msum (by decide +kernel) (pa_cons (pe_lc (own := [("loop", 6)]) (g := gName 6) (by rfl) sc_worth_of.nd (pi_list (pe_ca cloops_of (hr.mono (by decide)) (by rfl) (pa_cons (pv 0) (pa_cons (pv 1) (pa_cons (pv 2) pa_nil))))) (blkOk_by (own := [("loop", 6)]) (N := ["rules", "string", "folding", "pairs", "loops", "pair", "loop"]) (sc := defScope s_worth_of) (by decide +kernel)) (fun _ _ _ _ _ => (pg_name (i := 6) sc_worth_of.nd rfl (.inl rfl))) (fun _ _ _ _ _ => pts_nil) (fun _ _ _ _ _ => (pe_ix (ixT K) (pv 6) pe_int (fun _ _ => rfl)))) pa_nil)))
      (pss_one (ps_ret (pe_op op_add (pe_op op_add (pv 3) (pv 4)) (pe_op op_mul (pe_callB (lenQ K) (by rfl) mlen (by decide +kernel) (pa_cons (pe_ca cstraight_within (hr.mono (by decide)) (by rfl) (pa_cons (pv 2) (pa_cons pe_non pa_nil))) pa_nil)) (pe_dget (hu_of hr) (pe_ca cloop_worths (hr.mono (by decide)) (by rfl) (pa_cons (pv 0) pa_nil)) pe_str (fun _ _ => rfl)))))))), ?_⟩
    have hfl := paired_len hPf
    have hInX : InX x qs := fun y hy => by
      have := hWi.1 y hy
      omega
    refine ⟨_, rfl, af, rfl, ⟨_, SqT.of hF⟩, fun D hD => lc_tup (K := K) (xs := fs) (fun i H2 => H2 D = some (.lst (((qs.take i).map fun y => pwI r.prs (tx2 x y)).map V.int)) ∧ Ext H H2)
      ⟨upd_same, Ext.new hD⟩ (fun i H2 _ ⟨_, k⟩ => SqT.of (k _ _ hF)) (fun i u H2 hi' hv => ?_) (fun H2 hv => ?_)⟩
    · obtain ⟨hL2, k2⟩ := hv
      obtain ⟨one, hone, a1, rfl, ha1⟩ := paired_get hPf hi'
      have hm1 := List.mem_of_getElem? hone
      have in1 := hInX one hm1
      have hil : i < fs.length := (List.getElem?_eq_some_iff.mp hi').1
      refine ⟨rfl, _, rfl, _, rfl, _, rfl, x, a1, one, rfl, k2 _ _ ha1, hx, in1.1, in1.2.1, in1.2.2.1, in1.2.2.2, v, r, _, rfl, RulesW.mono _ _ _ _ (TupK.ext k2) hRu, ?_⟩
      rw [pwV_int (hMy one hm1)]
      refine ⟨_, hL2, szLt ?_, ?_, k2.put hD⟩
      · rw [List.length_map, List.length_map, List.length_take]
        omega
      · rw [upd_same, List.take_add_one, hone, List.map_append, List.map_append]
        rfl
    · obtain ⟨hL2, k2⟩ := hv
      rw [List.take_of_length_le (by omega)] at hL2
      refine ⟨D, _, rfl, SqL.of hL2, ?_⟩
      refine ⟨_, rfl, _, rfl, _, rfl, v, .ref af, r, x, qs, r0, rfl, RulesW.mono _ _ _ _ (TupK.ext k2) hRu, ok, hx, ⟨af, fs, rfl, k2 _ _ hF, paired_imp (fun _ _ => TwoAt.mono _ _ _ _ (TupK.ext k2)) hPf⟩, hx12, hq, fun l us H3 hL3 hPr3 hl k3 => ?_⟩
      have hul := paired_len hPr3
      rw [List.length_map] at hul
      refine ⟨l, rfl, ⟨_, SqL.of hL3⟩, fun D2 hD2 => lc_list (K := K) (xs := us) (fun i H4 => H4 D2 = some (.lst (((qs.take i).map fun y => lpW r x y (strC qs y.1 y.2)).map V.int)) ∧ Ext H3 H4)
        ⟨upd_same, Ext.new hD2⟩ (fun i H4 _ ⟨_, k⟩ => SqL.of (k _ _ hL3)) (fun i u H4 hi' hv => ?_) (fun H4 hv => ?_)⟩
      · obtain ⟨hL4, k4⟩ := hv
        obtain ⟨row, hrow, a1, rfl, ha1⟩ := paired_get hPr3 hi'
        have hil : i < us.length := (List.getElem?_eq_some_iff.mp hi').1
        obtain ⟨one, hone, e1⟩ : ∃ one, qs[i]? = some one ∧ lpR r x qs one = row := by
          rw [List.getElem?_map, List.getElem?_eq_getElem (show i < qs.length by omega)] at hrow
          exact ⟨_, List.getElem?_eq_getElem (show i < qs.length by omega), Option.some.inj hrow⟩
        subst e1
        refine ⟨rfl, _, rfl, a1, _, 4, _, rfl, rfl, SqT.of (k4 _ _ ha1), rfl, _, hL4, szLt ?_, ?_, k4.put hD2⟩
        · rw [List.length_map, List.length_map, List.length_take]
          omega
        · rw [upd_same, List.take_add_one, hone, List.map_append, List.map_append]
          rfl
      · obtain ⟨hL4, k4⟩ := hv
        rw [List.take_of_length_le (by omega)] at hL4
        have k04 := (k2.trans k3).trans k4
        refine ⟨D2, _, rfl, SqL.of hL4, ?_⟩
        refine ⟨_, rfl, _, rfl, _, _, rfl, rfl, _, rfl, .ref af, .non, qs, none, rfl, ⟨af, fs, rfl, k04 _ _ hF, paired_imp (fun _ _ => TwoAt.mono _ _ _ _ (TupK.ext k04)) hPf⟩, hql, rfl, fun l5 us5 H5 hl5 hL5 hPr5 k5 => ?_⟩
        rw [sw_none] at hPr5
        have h5l := paired_len hPr5
        have hol := tops_len qs
        have l8 := lo_bound ok (show 8 < 9 by decide)
        refine ⟨l5, us5, rfl, .inl (SqL.of hL5), _, rfl, v, r, rfl, RulesW.mono _ _ _ _ (TupK.ext (k04.trans k5)) hRu, ok.lo9, fun d hd => ?_⟩
        refine ⟨d, _, rfl, get_lo upd_same ok.lo9 (i := 8) (by decide +kernel), _, _, rfl, rfl, .inl ⟨by omega, by omega⟩, _, _, rfl, rfl, ?_⟩
        rw [h5l]
        exact q _ ((k04.trans k5).trans (Ext.new hd))
abbrev CWO (P : Program) (w : World) (K : PySem.W.Frag) (mg : Str → Option Value) (base : Heap) : Prop := Ca P w K mg base 4 "worth_of" ["rules", "string", "folding"] spWO
end
end Pf


namespace Pf
open PySem PySem.Spec PyProof.Rows L2
/-! ### the stretches told -/
def ToldAt (H : Hp) (r : Rl) (x : Str) (kvs : List (List Key × V)) (a b : Int) : Prop := ∃ l us, valV kvs [.inl a, .inl b] = some (.ref l) ∧ H l = some (.lst us) ∧ Paired (FoAt H) us (WA r x (b + 1 - a).toNat a)
theorem ToldAt.ext {H H' : Hp} {r : Rl} {x : Str} {kvs : List (List Key × V)} {a b : Int} (k : Ext H H') (h : ToldAt H r x kvs a b) : ToldAt H' r x kvs a b := by
  obtain ⟨l, us, e1, e2, e3⟩ := h
  exact ⟨l, us, e1, k _ _ e2, paired_imp (fun _ _ => FoAt.mono _ _ _ _ (TupK.ext k)) e3⟩
section
variable {P : Program} {w : World} {K : PySem.W.Frag} {mg : Str → Option Value} {base : Heap}
abbrev s_stretch_foldings : Stmt := topS 24
theorem sc_stretch_foldings : FnScope ["rules", "string", "i", "j", "told", "made", "k", "pair", "within", "behind"] ["rules", "string", "i", "j", "told"] (defScope s_stretch_foldings) :=
  ⟨rfl, rfl, rfl, by decide +kernel, rfl, by decide +kernel, by decide +kernel⟩
def spStr : Sp := fun vs H Q _ => ∃ (v : V) (r : Rl) (x : Str) (i j : Int) (D : Addr) (kvs : List (List Key × V)), vs = [v, .str x, .int i, .int j, .ref D] ∧ RulesW H v r ∧ x.length ≤ 12 ∧ 0 ≤ i ∧ i ≤ j ∧ j < x.length ∧ H D = some (.dT kvs) ∧ (∀ a b, i < a → a ≤ b + 1 → b ≤ j → ToldAt H r x kvs a b) ∧
  ∀ (l : Addr) (us : List V) (H' : Hp), H' l = some (.lst us) → Paired (FoAt H') us (WA r x (j + 1 - i).toNat i) → Ext H H' → Q (.ref l) H'
theorem ok_str {f : Addr} {fd : FuncData} (F : Fun K "stretch_foldings" "stretch_foldings" s_stretch_foldings f fd) (cmay_pair : CMP P w K mg base) (mrange : mg "range" = none) (mlist : mg "list" = none) : FnOk P w K mg base CX0 3 f fd ["rules", "string", "i", "j", "told"] spStr := by
  refine F.ok sc_stretch_foldings (fun vs H Q E h => ?_) (fun cdv A outer s H vs Q E hr h => ?_)
  · obtain ⟨v, r, x, i, j, D, kvs, rfl, _⟩ := h
    rfl
  · obtain ⟨v, r, x, i, j, D, kvs, rfl, hR, hx, i0, ij, jx, hD, hT, q⟩ := h
    refine ⟨_, (pss_cons (ps_set (i := 5) sc_stretch_foldings.nd rfl (.inl rfl) (pe_callTy (listOf K) (by rfl) mlist (by decide +kernel) (pa_cons (pe_dget (hu_of hr) (pv 4) (pe_tup (pa_cons (pe_op op_add (pv 2) pe_int) (pa_cons (pv 3) pa_nil))) (fun _ _ => rfl)) pa_nil)))
      (pss_cons (ps_for PassesOwn.never rfl (pi_range2 (by rfl) mrange (pa_cons (pe_op op_add (pv 2) pe_int) (pa_cons (pe_op op_add (pv 3) pe_int) pa_nil))) (pg_name (i := 6) sc_stretch_foldings.nd rfl (.inr rfl)) (pss_one (ps_if (pt_val (pe_ca cmay_pair (hr.mono (by decide)) (by rfl) (pa_cons (pv 0) (pa_cons (pv 1) (pa_cons (pv 2) (pa_cons (pv 6) pa_nil)))))) (pss_cons (ps_set (i := 7) sc_stretch_foldings.nd rfl (.inr rfl) (pe_tup (pa_cons (pe_tup (pa_cons (pv 2) (pa_cons (pv 6) pa_nil))) pa_nil)))
      (pss_one (ps_aug (i := 5) sc_stretch_foldings.nd rfl (.inl rfl) (pe_lc2 (own := [("within", 8), ("behind", 9)]) (vs1 := [9]) (g := gName 8) (g1 := gName 9) (by rfl) sc_stretch_foldings.nd (pi_list (pe_dget (hu_of hr) (pv 4) (pe_tup (pa_cons (pe_op op_add (pv 2) pe_int) (pa_cons (pe_op op_sub (pv 6) pe_int) pa_nil))) (fun _ _ => rfl))) (blkOk_by (own := [("within", 8), ("behind", 9)]) (N := ["rules", "string", "i", "j", "told", "made", "k", "pair", "within", "behind"]) (sc := defScope s_stretch_foldings) (by decide +kernel)) (by decide) (fun _ _ _ _ _ => (pg_name (i := 8) sc_stretch_foldings.nd rfl (.inl rfl))) (fun _ _ _ _ _ => pts_nil) (fun _ _ _ _ _ => (piL K (pe_dget (hu_of hr) (pv 4) (pe_tup (pa_cons (pe_op op_add (pv 6) pe_int) (pa_cons (pv 3) pa_nil))) (fun _ _ => rfl)))) (fun _ _ _ _ _ => (pg_name (i := 9) sc_stretch_foldings.nd rfl (.inl rfl))) (fun _ _ _ _ _ => pts_nil) (fun _ _ _ _ _ => (pe_op (catE K) (pe_op (catE K) (pv 7) (pv 8)) (pv 9)))) ip_ext))) pss_nil)))
      (pss_one (ps_ret (pv 5))))), ?_⟩
    obtain ⟨n, hn⟩ : ∃ n, n = (j - i).toNat := ⟨_, rfl⟩
    have hn1 : (j + 1 - i).toNat = n + 1 := by omega
    have wl := WA_len r x (n := n + 1) (by omega) i
    rw [hn1] at q
    rw [WA_succ] at q wl
    rw [List.length_append] at wl
    have rulE : ∀ {H' : Hp}, Ext H H' → RulesW H' v r := fun k => RulesW.mono _ _ _ _ (TupK.ext k) hR
    refine ⟨_, rfl, _, rfl, i, 1, rfl, rfl, _, rfl, szL (show 2 ≤ 1000000 by decide), fun t1 ht1 => ?_⟩
    have x1 := Ext.new (o := .tup [.int (i + 1), .int j]) ht1
    obtain ⟨l0, us0, e0, hl0, hP0⟩ := (hT (i + 1) j (by omega) (by omega) (by omega)).ext x1
    refine ⟨D, .ref l0, rfl, e0 ▸ DGet.t (k := [.inl (i + 1), .inl j]) (x1 _ _ hD) upd_same, l0, us0, rfl, .inl (SqL.of hl0), fun m hm => ?_⟩
    have x2 := Ext.new (o := .lst us0) hm
    have mH := x1.none hm
    rw [show (j + 1 - (i + 1)).toNat = n by omega] at hP0
    refine ⟨_, rfl, i, 1, rfl, rfl, _, rfl, j, 1, rfl, rfl, i + 1, j + 1, rfl, ⟨by omega, by omega, by omega, by omega⟩, for_range (lo := i + 1) (n := (j + 1 - (i + 1)).toNat) (fun t σ H2 => ∃ (y6 y7 : Option V) (us : List V), σ = [some v, some (.str x), some (.int i), some (.int j), some (.ref D), some (.ref m), y6, y7, none, none] ∧ H2 m = some (.lst us) ∧ Paired (FoAt H2) us (WA r x n (i + 1) ++ (List.range t).flatMap fun t => seg r x (WA r x) n i t) ∧ Ext H H2)
      ⟨none, none, us0, rfl, upd_same, by rw [List.range_zero, List.flatMap_nil, List.append_nil]; exact paired_imp (fun _ _ => FoAt.mono _ _ _ _ (TupK.ext x2)) hP0, x1.trans x2⟩ (fun t σ H2 ht hv => ?_) (fun σ H2 hv => ?_)⟩
    · obtain ⟨y6, y7, us, rfl, hL2, hP2, k2⟩ := hv
      have ht' : t < n := by omega
      have eflat : (List.range (t + 1)).flatMap (fun t => seg r x (WA r x) n i t) = (List.range t).flatMap (fun t => seg r x (WA r x) n i t) ++ seg r x (WA r x) n i t := by
        rw [List.range_succ, List.flatMap_append]
        simp
      have esub : ((List.range (t + 1)).flatMap fun t => seg r x (WA r x) n i t).length ≤ ((List.range n).flatMap fun t => seg r x (WA r x) n i t).length := by
        rw [flat_len, flat_len]
        have : (List.range n) = List.range (t + 1) ++ (List.range (n - (t + 1))).map (fun y => (t + 1) + y) := by
          rw [← List.range_add]
          congr 1
          omega
        rw [this, List.map_append, List.sum_append]
        omega
      refine ⟨_, rfl, _, rfl, _, rfl, _, rfl, v, r, x, i, i + 1 + t, rfl, rulE k2, by omega, i0, by omega, by omega, fun H3 k3 => ⟨_, rfl, ite2 (fun em => ?_) (fun em => ?_)⟩⟩
      · have k03 := k2.trans k3
        have es : seg r x (WA r x) n i t = (WA r x t (i + 1)).flatMap fun one => (WA r x (n - 1 - t) (i + 2 + t)).map fun other => (i, i + 1 + t) :: (one ++ other) := by
          unfold seg
          rw [if_pos em]
        rw [eflat, es, List.length_append] at esub
        have h2l := paired_len hP2
        rw [List.length_append] at h2l
        refine ⟨_, rfl, _, rfl, szL (show 2 ≤ 1000000 by decide), fun tp htp => ⟨szL (show 1 ≤ 1000000 by decide), fun tq htq => ?_⟩⟩
        have x8 := Ext.new (o := .tup [.int i, .int (i + 1 + (t : Int))]) htp
        have x9 := Ext.new (o := .tup [.ref tp]) htq
        have k89 := x8.trans x9
        have k09 := k03.trans k89
        refine ⟨_, rfl, _, rfl, _, rfl, i, 1, rfl, rfl, _, rfl, i + 1 + t, 1, rfl, rfl, szL (show 2 ≤ 1000000 by decide), fun t4 ht4 => ?_⟩
        have x4 := Ext.new (o := .tup [.int (i + 1), .int (i + 1 + (t : Int) - 1)]) ht4
        have k04 := k09.trans x4
        obtain ⟨l1, us1, e1, hl1, hP1⟩ := (hT (i + 1) (i + 1 + t - 1) (by omega) (by omega) (by omega)).ext k04
        rw [show (i + 1 + (t : Int) - 1 + 1 - (i + 1)).toNat = t by omega] at hP1
        have h1l := paired_len hP1
        obtain ⟨l2, us2, e2, hl2, hP2'⟩ := hT (i + 1 + t + 1) j (by omega) (by omega) (by omega)
        rw [show (j + 1 - (i + 1 + (t : Int) + 1)).toNat = n - 1 - t by omega, show i + 1 + (t : Int) + 1 = i + 2 + t by omega] at hP2'
        have h2l' := paired_len hP2'
        have hp4 : upd (upd (upd H3 tp (.tup [.int i, .int (i + 1 + (t : Int))])) tq (.tup [.ref tp])) t4 (.tup [.int (i + 1), .int (i + 1 + (t : Int) - 1)]) tp = some (.tup [.int i, .int (i + 1 + (t : Int))]) := x4 _ _ (x9 _ _ upd_same)
        have hq4 : upd (upd (upd H3 tp (.tup [.int i, .int (i + 1 + (t : Int))])) tq (.tup [.ref tp])) t4 (.tup [.int (i + 1), .int (i + 1 + (t : Int) - 1)]) tq = some (.tup [.ref tp]) := x4 _ _ upd_same
        refine ⟨D, .ref l1, rfl, e1 ▸ DGet.t (k := [.inl (i + 1), .inl (i + 1 + (t : Int) - 1)]) (k04 _ _ hD) upd_same, l1, rfl, ⟨_, SqL.of hl1⟩, fun D2 hD2 => ?_⟩
        generalize upd (upd (upd H3 tp (.tup [.int i, .int (i + 1 + (t : Int))])) tq (.tup [.ref tp])) t4 (.tup [.int (i + 1), .int (i + 1 + (t : Int) - 1)]) = H4 at hp4 hq4 hl1 hP1 k04 x4 hD2 ⊢
        have k34 := k89.trans x4
        refine lc_two (walk_list (xs := us1)) (fun c H5 => GenL FoAt D2 H4 (((WA r x t (i + 1)).take c).flatMap fun one => (WA r x (n - 1 - t) (i + 2 + t)).map fun other => (i, i + 1 + (t : Int)) :: (one ++ other)) H5)
          (by rw [List.take_zero, List.flatMap_nil]; exact genl_new hD2) (fun c H5 _ h => SqL.of (h.ext _ _ hl1)) (fun c u H5 H5' hc hv hy => ?_) (fun H5 hv => ?_)
        · obtain ⟨rfl, hu⟩ := hy
          obtain ⟨one, hone, a1, fs1, rfl, hT1, hF1⟩ := paired_get hP1 hu
          have k45 := hv.ext
          have etake : ((WA r x t (i + 1)).take (c + 1)).flatMap (fun one => (WA r x (n - 1 - t) (i + 2 + t)).map fun other => (i, i + 1 + (t : Int)) :: (one ++ other)) = ((WA r x t (i + 1)).take c).flatMap (fun one => (WA r x (n - 1 - t) (i + 2 + t)).map fun other => (i, i + 1 + (t : Int)) :: (one ++ other)) ++ (WA r x (n - 1 - t) (i + 2 + t)).map fun other => (i, i + 1 + (t : Int)) :: (one ++ other) := by
            rw [List.take_add_one, hone, List.flatMap_append]
            simp
          have e6 : (((WA r x t (i + 1)).take (c + 1)).flatMap (fun one => (WA r x (n - 1 - t) (i + 2 + t)).map fun other => (i, i + 1 + (t : Int)) :: (one ++ other))).length ≤ ((WA r x t (i + 1)).flatMap (fun one => (WA r x (n - 1 - t) (i + 2 + t)).map fun other => (i, i + 1 + (t : Int)) :: (one ++ other))).length := by
            rw [flat_const (c := (WA r x (n - 1 - t) (i + 2 + t)).length) (fun y _ => List.length_map ..), flat_const (c := (WA r x (n - 1 - t) (i + 2 + t)).length) (fun y _ => List.length_map ..)]
            exact Nat.mul_le_mul_right _ (by rw [List.length_take]; omega)
          rw [etake, List.length_append, List.length_map] at e6
          refine ⟨rfl, _, rfl, _, rfl, i + 1 + t, 1, rfl, rfl, _, rfl, szL (show 2 ≤ 1000000 by decide), fun t6 ht6 => ?_⟩
          have x6 := Ext.new (o := .tup [.int (i + 1 + (t : Int) + 1), .int j]) ht6
          have k06 := (k04.trans k45).trans x6
          have hl26 := k06 _ _ hl2
          refine ⟨D, .ref l2, rfl, e2 ▸ DGet.t (k := [.inl (i + 1 + (t : Int) + 1), .inl j]) (k06 _ _ hD) upd_same, l2, rfl, ⟨_, SqL.of hl26⟩, lc_in (walk_list (xs := us2)) (fun d H7 => GenL FoAt D2 H4 (((WA r x t (i + 1)).take c).flatMap (fun one => (WA r x (n - 1 - t) (i + 2 + t)).map fun other => (i, i + 1 + (t : Int)) :: (one ++ other)) ++ ((WA r x (n - 1 - t) (i + 2 + t)).take d).map fun other => (i, i + 1 + (t : Int)) :: (one ++ other)) H7)
            (by rw [List.take_zero, List.map_nil, List.append_nil]; exact hv.keep FoAt.mono x6) (fun d H7 _ h => SqL.of (h.ext _ _ (k04 _ _ hl2))) (fun d u H7 H7' hd hw hy => ?_) (fun H7 hw => ?_)⟩
          · obtain ⟨rfl, hu⟩ := hy
            obtain ⟨other, hother, a2, fs2, rfl, hT2, hF2⟩ := paired_get hP2' hu
            have k47 := hw.ext
            have k07 := k04.trans k47
            have hone1 := (WA_in r x t (i + 1) one (List.mem_of_getElem? hone)).2
            have hoth1 := (WA_in r x (n - 1 - t) (i + 2 + t) other (List.mem_of_getElem? hother)).2
            have f1l := paired_len hF1
            have f2l := paired_len hF2
            refine ⟨rfl, _, rfl, _, rfl, tq, a1, _, fs1, rfl, rfl, k47 _ _ hq4, k47 _ _ hT1, szL (by rw [List.length_singleton]; omega), fun p10 H10 k10 hp10 => ?_⟩
            refine ⟨_, rfl, p10, a2, _, fs2, rfl, rfl, hp10, k10 _ _ (k07 _ _ hT2), szL (by rw [List.length_append, List.length_singleton]; omega), fun p11 H11 k11 hp11 => ?_⟩
            have kk := k10.trans k11
            have hs := genl_step FoAt.mono hD2 hw kk (v := .ref p11) (b := (i, i + 1 + (t : Int)) :: (one ++ other)) ⟨p11, _, rfl, hp11, ?_⟩ ?_
            · rw [List.take_add_one, hother, List.map_append, ← List.append_assoc]
              exact hs
            · have eap : [V.ref tp] ++ fs1 ++ fs2 = V.ref tp :: (fs1 ++ fs2) := rfl
              rw [eap]
              exact .cons ⟨tp, rfl, (k47.trans kk) _ _ hp4⟩ (paired_app (paired_imp (fun _ _ => TwoAt.mono _ _ _ _ (TupK.ext (k47.trans kk))) hF1) (paired_imp (fun _ _ => TwoAt.mono _ _ _ _ (TupK.ext (k07.trans kk))) hF2))
            · rw [List.length_append, List.length_map, List.length_take]
              omega
          · rw [List.take_of_length_le (l := WA r x (n - 1 - t) (i + 2 + t)) (by omega)] at hw
            rw [etake]
            exact hw
        · rw [List.take_of_length_le (by omega), ← es] at hv
          obtain ⟨vs5, hL5, hP5, k45⟩ := hv
          have h5l := paired_len hP5
          rw [es] at h5l
          have hm5 := (k34.trans k45) _ _ (k3 _ _ hL2)
          refine ⟨m, D2, us, vs5, rfl, rfl, hm5, hL5, szL (by omega), ?_⟩
          refine ⟨_, _, us ++ vs5, rfl, upd_same, ?_, ((k04.trans k45)).put mH⟩
          rw [eflat, ← List.append_assoc]
          exact paired_app (paired_imp (fun _ _ => FoAt.mono _ _ _ _ ((TupK.ext (k3.trans (k34.trans k45))).trans (TupK.lst hm5))) hP2) (paired_imp (fun _ _ => FoAt.mono _ _ _ _ (TupK.lst hm5)) hP5)
      · have es : seg r x (WA r x) n i t = [] := by
          unfold seg
          rw [if_neg em]
        refine ⟨_, _, us, rfl, k3 _ _ hL2, ?_, k2.trans k3⟩
        rw [eflat, es, List.append_nil]
        exact paired_imp (fun _ _ => FoAt.mono _ _ _ _ (TupK.ext k3)) hP2
    · obtain ⟨y6, y7, us, rfl, hL2, hP2, k2⟩ := hv
      rw [show (j + 1 - (i + 1)).toNat = n by omega] at hP2
      exact ⟨_, rfl, q m us H2 hL2 hP2 k2⟩
abbrev CStr (P : Program) (w : World) (K : PySem.W.Frag) (mg : Str → Option Value) (base : Heap) : Prop := Ca P w K mg base 3 "stretch_foldings" ["rules", "string", "i", "j", "told"] spStr
end
end Pf


namespace Pf
open PySem PySem.Spec PyProof.Rows L2
theorem tk_dT {H : Hp} {D : Addr} {o : HO} {kvs : List (List Key × V)} (h : H D = some (.dT kvs)) : TupK H (upd H D o) := ⟨fun b xs e => by rw [upd_ne (ne_of e h (by intro z; cases z))]; exact e, fun b o u e => by rw [upd_ne (ne_of e h (by intro z; cases z))]; exact e⟩
/-- one stretch more -/
theorem told_put {H : Hp} {r : Rl} {x : Str} {kvs : List (List Key × V)} {D l : Addr} {a b i j : Int} {us : List V} (hD : H D = some (.dT kvs)) (hl : H l = some (.lst us)) (hP : Paired (FoAt H) us (WA r x (j + 1 - i).toNat i)) (h : (a = i ∧ b = j) ∨ ToldAt H r x kvs a b) : ToldAt (upd H D (.dT (putK kvs [.inl i, .inl j] (.ref l)))) r x (putK kvs [.inl i, .inl j] (.ref l)) a b := by
  have tk := tk_dT (o := .dT (putK kvs [.inl i, .inl j] (.ref l))) hD
  by_cases c : a = i ∧ b = j
  · obtain ⟨rfl, rfl⟩ := c
    exact ⟨l, us, by rw [valV_put, if_pos rfl], by rw [upd_ne (ne_of hl hD (by intro z; cases z))]; exact hl, paired_imp (fun _ _ => FoAt.mono _ _ _ _ tk) hP⟩
  · rcases h with h | ⟨l', us', e1, e2, e3⟩
    · exact absurd h c
    · refine ⟨l', us', ?_, by rw [upd_ne (ne_of e2 hD (by intro z; cases z))]; exact e2, paired_imp (fun _ _ => FoAt.mono _ _ _ _ tk) e3⟩
      rw [valV_put, if_neg (fun z => c ?_)]
      · exact e1
      · cases z
        exact ⟨rfl, rfl⟩
section
variable {P : Program} {w : World} {K : PySem.W.Frag} {mg : Str → Option Value} {base : Heap}
abbrev s_all_foldings : Stmt := topS 25
theorem sc_all_foldings : FnScope ["rules", "string", "length", "i", "told", "j"] ["rules", "string"] (defScope s_all_foldings) :=
  ⟨rfl, rfl, rfl, by decide +kernel, rfl, by decide +kernel, by decide +kernel⟩
def spAF : Sp := fun vs H Q _ => ∃ (v : V) (r : Rl) (x : Str), vs = [v, .str x] ∧ RulesW H v r ∧ x.length ≤ 12 ∧ Of r.letters x ∧
  ∀ (p : Addr) (ws : List V) (H' : Hp), H p = none → H' p = some (.lst ws) → Paired (FoAt H') ws (SF (WA r x x.length 0)) → Ext H H' → Q (.ref p) H'
theorem ok_af {f : Addr} {fd : FuncData} (F : Fun K "all_foldings" "all_foldings" s_all_foldings f fd) (cneed_string : CNS P w K mg base) (cstretch_foldings : CStr P w K mg base) (mlen : mg "len" = none) (mrange : mg "range" = none) (msorted : mg "sorted" = none) : FnOk P w K mg base CX0 4 f fd ["rules", "string"] spAF := by
  refine F.ok sc_all_foldings (fun vs H Q E h => ?_) (fun cdv A outer s H vs Q E hr h => ?_)
  · obtain ⟨v, r, x, rfl, _⟩ := h
    rfl
  · obtain ⟨v, r, x, rfl, hR, hx, hO, q⟩ := h
    refine ⟨_, (pss_cons (ps_expr (pe_ca cneed_string (hr.mono (by decide)) (by rfl) (pa_cons (pv 0) (pa_cons (pv 1) pa_nil))))
      (pss_cons (ps_set (i := 2) sc_all_foldings.nd rfl (.inl rfl) (pe_callB call_len_str (by rfl) mlen (by decide +kernel) (pa_cons (pv 1) pa_nil)))
      (pss_cons (ps_setDcT (i := 4) (own := [("i", 3)]) (g := gName 3) hr.units0 (by rfl) sc_all_foldings.nd rfl rfl (swD_true rfl rfl rfl (by decide +kernel)) (pi_range1 (by rfl) mrange (pa_cons (pe_op op_add (pv 2) pe_int) pa_nil)) (blkOk_by (own := [("i", 3)]) (N := ["rules", "string", "length", "i", "told", "j"]) (sc := defScope s_all_foldings) (by decide +kernel)) (fun _ _ _ _ _ => (pg_name (i := 3) sc_all_foldings.nd rfl (.inl rfl))) (fun _ _ _ _ _ => (pe_tup (pa_cons (pv 3) (pa_cons (pe_op op_sub (pv 3) pe_int) pa_nil)))) (fun _ _ _ _ _ => (pe_lst (pa_cons (pe_tup pa_nil) pa_nil))))
      (pss_cons (ps_for PassesOwn.never rfl (pi_range3 (by rfl) mrange (pa_cons (pe_op op_sub (pv 2) pe_int) (pa_cons (pe_un un_neg pe_int) (pa_cons (pe_un un_neg pe_int) pa_nil)))) (pg_name (i := 3) sc_all_foldings.nd rfl (.inl rfl)) (pss_one (ps_for PassesOwn.never rfl (pi_range2 (by rfl) mrange (pa_cons (pv 3) (pa_cons (pv 2) pa_nil))) (pg_name (i := 5) sc_all_foldings.nd rfl (.inl rfl)) (pss_one (ps_dput (hu_of hr) (pv 4) (pe_tup (pa_cons (pv 3) (pa_cons (pv 5) pa_nil))) (pe_ca cstretch_foldings (hr.mono (by decide)) (by rfl) (pa_cons (pv 0) (pa_cons (pv 1) (pa_cons (pv 3) (pa_cons (pv 5) (pa_cons (pv 4) pa_nil)))))) rfl)))))
      (pss_one (ps_ret (pe_callB (cr_sortE K hr.units) (by rfl) msorted (by decide +kernel) (pa_cons (pe_dget (hu_of hr) (pv 4) (pe_tup (pa_cons pe_int (pa_cons (pe_op op_sub (pv 2) pe_int) pa_nil))) (fun _ _ => rfl)) pa_nil)))))))), ?_⟩
    refine ⟨_, rfl, _, rfl, v, r, x, rfl, hR, hx, hO, fun H1 k1 => ⟨_, rfl, x, rfl, szL (by omega), ?_⟩⟩
    obtain ⟨L, hL⟩ : ∃ L, L = x.length := ⟨_, rfl⟩
    rw [← hL] at q hx ⊢
    have rulE : ∀ {H' : Hp}, Ext H1 H' → RulesW H' v r := fun k => RulesW.mono _ _ _ _ (TupK.ext (k1.trans k)) hR
    refine ⟨_, rfl, (L : Int), 1, rfl, rfl, (L : Int) + 1, rfl, by omega, by omega, fun D hD => dcT_it walk_range (fun c H2 => ∃ kvs, H2 D = some (.dT kvs) ∧ kvs.length ≤ c ∧ Ext H1 H2 ∧ ∀ a : Int, 0 ≤ a → a < c → ToldAt H2 r x kvs a (a - 1))
      ⟨[], upd_same, Nat.le_refl _, Ext.new hD, fun a h1 h2 => by omega⟩ (fun _ _ _ _ => trivial) (fun c u H2 H2' hc hv hy => ?_) (fun H2 hv => ?_)⟩
    · obtain ⟨kvs, hD2, hkl, k2, hT2⟩ := hv
      obtain ⟨rfl, rfl⟩ := hy
      refine ⟨rfl, _, rfl, _, rfl, (0 : Int) + c, 1, rfl, rfl, szL (show 2 ≤ 1000000 by decide), fun t1 ht1 => ⟨Nat.zero_le _, fun t2 ht2 => ⟨szL (show 1 ≤ 1000000 by decide), fun l hl => ?_⟩⟩⟩
      have x1 := Ext.new (o := .tup [.int ((0 : Int) + c), .int ((0 : Int) + c - 1)]) ht1
      have x2 := Ext.new (o := .tup []) ht2
      have x3 := Ext.new (o := .lst [.ref t2]) hl
      have k3 := x1.trans (x2.trans x3)
      have hD3 := k3 _ _ hD2
      refine ⟨kvs, [.inl ((0 : Int) + c), .inl ((0 : Int) + c - 1)], t1, rfl, x3 _ _ (x2 _ _ upd_same), hD3, szLt (by omega), _, upd_same, ?_, (k2.trans k3).put hD, fun a a0 a1 => ?_⟩
      · have := putT_len kvs [.inl ((0 : Int) + c), .inl ((0 : Int) + c - 1)] (.ref l)
        omega
      · refine told_put hD3 (us := [.ref t2]) upd_same ?_ ?_
        · rw [show ((0 : Int) + c - 1 + 1 - (0 + c)).toNat = 0 by omega]
          exact .cons ⟨t2, [], rfl, x3 _ _ upd_same, .nil⟩ .nil
        · by_cases e : a = (0 : Int) + c
          · exact .inl ⟨e, by omega⟩
          · exact .inr ((hT2 a a0 (by omega)).ext k3)
    obtain ⟨kvs0, hD2, hkl, k2, hT2⟩ := hv
    rw [show ((L : Int) + 1).toNat = L + 1 by omega] at hkl
    refine ⟨_, rfl, (L : Int), 1, rfl, rfl, 1, rfl, 1, rfl, (L : Int) - 1, -1, -1, _, rfl, RgC.neg (by omega) (by omega) (by decide) (by decide), for_rangeC (lo := (L : Int) - 1) (c := -1) (n := ((L : Int) - 1 - -1).toNat) (fun t σ H3 => ∃ (y3 y5 : Option V) (kvs : List (List Key × V)), σ = [some v, some (.str x), some (.int L), y3, some (.ref D), y5] ∧ H3 D = some (.dT kvs) ∧ kvs.length ≤ 13 + 13 * t ∧ Ext H1 H3 ∧ ∀ a b : Int, ((0 ≤ a ∧ a ≤ L ∧ b = a - 1) ∨ ((L : Int) - t ≤ a ∧ a ≤ b ∧ b < L)) → ToldAt H3 r x kvs a b)
      ⟨_, _, kvs0, rfl, hD2, by omega, k2, fun a b h => ?_⟩ (fun t σ H3 ht hv => ?_) (fun σ H3 hv => ?_)⟩
    · rcases h with ⟨h1, h2, rfl⟩ | h
      · exact hT2 a h1 (by omega)
      · omega
    · obtain ⟨y3, y5, kvs, rfl, hD3, hkl3, k3, hT3⟩ := hv
      obtain ⟨i, hi⟩ : ∃ i : Int, i = (L : Int) - 1 + (t : Nat) * (-1) := ⟨_, rfl⟩
      rw [← hi]
      refine ⟨_, rfl, _, rfl, i, (L : Int), rfl, ⟨by omega, by omega, by omega, by omega⟩, for_range (lo := i) (n := ((L : Int) - i).toNat) (fun u σ H4 => ∃ (y5 : Option V) (kvs : List (List Key × V)), σ = [some v, some (.str x), some (.int L), some (.int i), some (.ref D), y5] ∧ H4 D = some (.dT kvs) ∧ kvs.length ≤ 13 + 13 * t + u ∧ Ext H1 H4 ∧ ∀ a b : Int, ((0 ≤ a ∧ a ≤ L ∧ b = a - 1) ∨ ((L : Int) - t ≤ a ∧ a ≤ b ∧ b < L) ∨ (a = i ∧ i ≤ b ∧ b < i + u)) → ToldAt H4 r x kvs a b)
        ⟨_, kvs, rfl, hD3, by omega, k3, fun a b h => ?_⟩ (fun u σ H4 hu hv => ?_) (fun σ H4 hv => ?_)⟩
      · rcases h with h | h | h
        · exact hT3 a b (.inl h)
        · exact hT3 a b (.inr h)
        · omega
      · obtain ⟨y5, kvs, rfl, hD4, hkl4, k4, hT4⟩ := hv
        refine ⟨_, rfl, _, rfl, _, rfl, _, rfl, _, rfl, v, r, x, i, i + u, D, kvs, rfl, rulE k4, by omega, by omega, by omega, by omega, hD4, fun a b h1 h2 h3 => ?_, fun l us H5 hl5 hP5 k5 => ?_⟩
        · by_cases e : b = a - 1
          · exact hT4 a b (.inl ⟨by omega, by omega, e⟩)
          · exact hT4 a b (.inr (.inl ⟨by omega, by omega, by omega⟩))
        · refine ⟨_, rfl, _, rfl, _, rfl, szL (show 2 ≤ 1000000 by decide), fun t1 ht1 => ?_⟩
          have x1 := Ext.new (o := .tup [.int i, .int (i + (u : Int))]) ht1
          have k51 := k5.trans x1
          refine ⟨D, _, rfl, DPut.t (k := [.inl i, .inl (i + (u : Int))]) (k51 _ _ hD4) upd_same (szLt (by omega)), _, _, rfl, upd_same, ?_, (k4.trans k51).put hD, fun a b h => ?_⟩
          · have := putT_len kvs [.inl i, .inl (i + (u : Int))] (.ref l)
            omega
          · refine told_put (k51 _ _ hD4) (x1 _ _ hl5) (paired_imp (fun _ _ => FoAt.mono _ _ _ _ (TupK.ext x1)) hP5) ?_
            by_cases e : a = i ∧ b = i + (u : Int)
            · exact .inl e
            · refine .inr ((hT4 a b ?_).ext k51)
              rcases h with h | h | h
              · exact .inl h
              · exact .inr (.inl h)
              · exact .inr (.inr (by omega))
      · obtain ⟨y5, kvs, rfl, hD4, hkl4, k4, hT4⟩ := hv
        refine ⟨_, _, kvs, rfl, hD4, by omega, k4, fun a b h => hT4 a b ?_⟩
        rcases h with h | h
        · exact .inl h
        · by_cases e : a = i
          · exact .inr (.inr (by omega))
          · exact .inr (.inl (by omega))
    · obtain ⟨y3, y5, kvs, rfl, hD3, hkl3, k3, hT3⟩ := hv
      refine ⟨_, rfl, _, rfl, (L : Int), 1, rfl, rfl, szL (show 2 ≤ 1000000 by decide), fun t1 ht1 => ?_⟩
      have x1 := Ext.new (o := .tup [.int 0, .int ((L : Int) - 1)]) ht1
      obtain ⟨l, us, e1, hl, hP⟩ := (hT3 0 ((L : Int) - 1) (by omega)).ext x1
      rw [show ((L : Int) - 1 + 1 - 0).toNat = L by omega] at hP
      refine ⟨D, .ref l, rfl, e1 ▸ DGet.t (k := [.inl 0, .inl ((L : Int) - 1)]) (x1 _ _ hD3) upd_same, ?_⟩
      obtain ⟨t, ht⟩ := WA_head r x L 0
      delta tNil
      have kk := (k1.trans k3).trans x1
      exact sort_fos hl hP ht fun p ws H4 hp hp2 hP2 k4 => q p ws H4 (kk.none hp) hp2 hP2 (kk.trans k4)
abbrev CAF (P : Program) (w : World) (K : PySem.W.Frag) (mg : Str → Option Value) (base : Heap) : Prop := Ca P w K mg base 4 "all_foldings" ["rules", "string"] spAF
end
end Pf


namespace Pf
open PySem PySem.Spec PyProof.Rows L2
def stF (stk : List (Str × Str × Int)) (o n : Str) : List Int := (stk.filter fun z => decide (z.1 = o ∧ z.2.1 = n)).map (·.2.2)
theorem stF_no : ∀ {stk : List (Str × Str × Int)} {o n : Str}, (o, n) ∉ stk.map (fun z => (z.1, z.2.1)) → stF stk o n = []
  | [], _, _, _ => rfl
  | z :: r, o, n, h => by
    rw [List.map_cons, List.mem_cons, not_or] at h
    unfold stF
    rw [List.filter_cons_of_neg (p := fun z : Str × Str × Int => decide (z.1 = o ∧ z.2.1 = n)) (by
      intro e
      have e := of_decide_eq_true e
      exact h.1 (by rw [← e.1, ← e.2]))]
    exact stF_no h.2
theorem stF_sum : ∀ {stk : List (Str × Str × Int)} {o n : Str}, (stk.map fun z => (z.1, z.2.1)).Nodup → (stF stk o n).sum = swI stk o n
  | [], _, _, _ => rfl
  | (t, u, x) :: r, o, n, h => by
    rw [List.map_cons, List.nodup_cons] at h
    unfold swI
    by_cases c : t = o ∧ u = n
    · rw [if_pos c]
      unfold stF
      rw [List.filter_cons_of_pos (p := fun z : Str × Str × Int => decide (z.1 = o ∧ z.2.1 = n)) (decide_eq_true c), List.map_cons, List.sum_cons]
      have := stF_no (stk := r) (o := o) (n := n) (by rw [← c.1, ← c.2]; exact h.1)
      unfold stF at this
      rw [this]
      simp
    · rw [if_neg c, ← stF_sum h.2]
      unfold stF
      rw [List.filter_cons_of_neg (p := fun z : Str × Str × Int => decide (z.1 = o ∧ z.2.1 = n)) (by simpa using c)]
theorem eqv_two (a b c d : Str) : PyData.eqv (.tuple [.str a, .str b]) (.tuple [.str c, .str d]) = decide (a = c ∧ b = d) := by
  simp [PyData.eqv, PyData.eqvAll]
  by_cases h1 : a = c <;> by_cases h2 : b = d <;> simp [h1, h2]
theorem sm_two {a b : Str} (ha : Two a) (hb : Two b) : SeqAt.shaped (.tuple [.str a, .str b]) = true := by
  refine (Sm.tup (n := 2) (m := 2) (k := 0) (M := 1000000) (ds := [.str a, .str b]) (Nat.le_refl 2) (fun d hd => ?_) (by decide)).shaped (by decide)
  rcases List.mem_cons.mp hd with rfl | hd
  · exact Sm.str ha.2.ok (Nat.le_of_eq ha.1)
  · rw [List.mem_singleton.mp hd]
    exact Sm.str hb.2.ok (Nat.le_of_eq hb.1)
theorem getD_in {x : Str} {i : Int} (h0 : 0 ≤ i) (h1 : i < x.length) : x.cps.toList.getD i.toNat 0 ∈ x.cps.toList := by
  have h2 : i.toNat < x.cps.toList.length := by
    rw [Array.length_toList]
    have : i < (x.cps.size : Int) := h1
    omega
  rw [List.getD_eq_getElem?_getD, List.getElem?_eq_getElem h2]
  exact List.getElem_mem _
theorem two_tx {x : Str} {p : Int × Int} (h : Small x) (i0 : 0 ≤ p.1) (i1 : p.1 < x.length) (j0 : 0 ≤ p.2) (j1 : p.2 < x.length) : Two (tx2 x p) := ⟨rfl, (Small.one (h _ (getD_in i0 i1))).app (Small.one (h _ (getD_in j0 j1)))⟩
theorem in_str {b : Str} {ts : List Str} : inV (.str b) (ts.map V.str) = true ↔ b ∈ ts := by
  unfold inV
  rw [List.any_map, List.any_eq_true]
  constructor
  · rintro ⟨t, ht, e⟩
    have e : (t == b) = true := e
    rw [beq_iff_eq] at e
    exact e ▸ ht
  · intro h
    refine ⟨b, h, ?_⟩
    show (b == b) = true
    rw [beq_iff_eq]
def lt2 (a b : Int × Int) : Bool := decide (a.1 < b.1 ∨ (a.1 = b.1 ∧ a.2 < b.2))
theorem may_mem {r : Rl} {x : Str} {i j : Int} (h : mayC r x i j = true) : tx2 x (i, j) ∈ r.prs.map (·.1) := by
  unfold mayC at h
  rw [Bool.and_eq_true] at h
  exact of_decide_eq_true h.2
theorem inV_keys {t : Str} {prs : List (Str × Int)} : inV (.str t) ((prs.map (·.1)).map V.str) = decide (t ∈ prs.map (·.1)) := by
  by_cases h : t ∈ prs.map (·.1)
  · rw [decide_eq_true h, in_str.mpr h]
  · rw [decide_eq_false h]
    cases e : inV (.str t) ((prs.map (·.1)).map V.str) with
    | false => rfl
    | true => exact absurd (in_str.mp e) h
end Pf


namespace Pf
open PySem PySem.Spec PyProof.Rows L2
/-! ### pairs of brackets that match: by a pile, by innermost ones -/
def run : List Int → List (Nat × Int) → Option (List (Int × Int))
  | b, [] => if b = [] then some [] else none
  | b, (c, i) :: r => if c = 40 then run (i :: b) r else if c = 41 then (match b with
    | [] => none
    | p :: b' => (run b' r).map ((p, i) :: ·)) else none
theorem run_nil (b : List Int) : run b [] = if b = [] then some [] else none := by
  rw [run.eq_def]
theorem run_cons (b : List Int) (c : Nat) (i : Int) (r : List (Nat × Int)) : run b ((c, i) :: r) = if c = 40 then run (i :: b) r else if c = 41 then (match b with
    | [] => none
    | p :: b' => (run b' r).map ((p, i) :: ·)) else none := by
  rw [run.eq_def]
def toks : Nat → List Nat → List (Nat × Int)
  | _, [] => []
  | k, c :: r => if c = 46 then toks (k + 1) r else (c, (k : Int)) :: toks (k + 1) r
theorem run_cut {p q : Int} {Y : List (Nat × Int)} : ∀ (X : List (Nat × Int)) (b : List Int), (run b (X ++ Y) = none → run b (X ++ (40, p) :: (41, q) :: Y) = none) ∧ ∀ ps, run b (X ++ Y) = some ps → ∃ ps', run b (X ++ (40, p) :: (41, q) :: Y) = some ps' ∧ ps'.Perm ((p, q) :: ps)
  | [], b => by
    have e : run b ([] ++ (40, p) :: (41, q) :: Y) = (run b Y).map ((p, q) :: ·) := by
      rw [List.nil_append, run_cons, if_pos rfl, run_cons, if_neg (by decide), if_pos rfl]
    rw [e, List.nil_append]
    refine ⟨fun h => by rw [h]; rfl, fun ps h => ⟨(p, q) :: ps, by rw [h]; rfl, List.Perm.refl _⟩⟩
  | (c, i) :: X, b => by
    rw [List.cons_append, List.cons_append, run_cons, run_cons]
    by_cases h1 : c = 40
    · rw [if_pos h1, if_pos h1]
      exact run_cut X (i :: b)
    · rw [if_neg h1, if_neg h1]
      by_cases h2 : c = 41
      · rw [if_pos h2, if_pos h2]
        cases b with
        | nil => exact ⟨fun _ => rfl, fun ps h => by cases h⟩
        | cons z b' =>
          have ih := run_cut (p := p) (q := q) (Y := Y) X b'
          dsimp only
          refine ⟨fun h => ?_, fun ps h => ?_⟩
          · cases e : run b' (X ++ Y) with
            | none => show (run b' _).map _ = none; rw [ih.1 e]; rfl
            | some r => rw [e] at h; cases h
          · cases e : run b' (X ++ Y) with
            | none => rw [e] at h; cases h
            | some r =>
              rw [e] at h
              obtain ⟨ps', h1, h2⟩ := ih.2 r e
              have hp : ps = (z, i) :: r := (Option.some.inj h).symm
              refine ⟨(z, i) :: ps', by show (run b' _).map _ = _; rw [h1]; rfl, ?_⟩
              rw [hp]
              exact (List.Perm.cons _ h2).trans (List.Perm.swap _ _ _)
      · rw [if_neg h2, if_neg h2]
        exact ⟨fun _ => rfl, fun ps h => by cases h⟩
def NoAdj (L : List (Nat × Int)) : Prop := ∀ (k : Nat) (x y : Nat × Int), L[k]? = some x → L[k + 1]? = some y → ¬ (x.1 = 40 ∧ y.1 = 41)
theorem run_dead : ∀ (L : List (Nat × Int)) (b : List Int), L ≠ [] → NoAdj L → (b = [] ∨ ∀ x, L[0]? = some x → x.1 ≠ 41) → run b L = none
  | [], _, h, _, _ => absurd rfl h
  | (c, i) :: r, b, _, hN, hb => by
    rw [run_cons]
    by_cases h1 : c = 40
    · rw [if_pos h1]
      cases r with
      | nil => rw [run_nil, if_neg (by intro z; cases z)]
      | cons y r' =>
        refine run_dead (y :: r') (i :: b) (by intro z; cases z) (fun k x z hx hz => hN (k + 1) x z hx hz) (.inr fun x hx e => ?_)
        exact hN 0 (c, i) x rfl hx ⟨h1, e⟩
    · rw [if_neg h1]
      by_cases h2 : c = 41
      · rw [if_pos h2]
        rcases hb with rfl | hb
        · rfl
        · exact absurd h2 (hb (c, i) rfl)
      · rw [if_neg h2]
def le2 (p q : Int × Int) : Bool := decide (p.1 < q.1 ∨ (p.1 = q.1 ∧ p.2 ≤ q.2))
def srt (ps : List (Int × Int)) : List (Int × Int) := ps.mergeSort le2
theorem le2_trans (a b c : Int × Int) (h1 : le2 a b = true) (h2 : le2 b c = true) : le2 a c = true := by
  have h1 := of_decide_eq_true h1
  have h2 := of_decide_eq_true h2
  exact decide_eq_true (by omega)
theorem le2_total (a b : Int × Int) : (le2 a b || le2 b a) = true := by
  rw [Bool.or_eq_true]
  by_cases h : a.1 < b.1 ∨ (a.1 = b.1 ∧ a.2 ≤ b.2)
  · exact .inl (decide_eq_true h)
  · exact .inr (decide_eq_true (by omega))
theorem srt_unique {L M : List (Int × Int)} (h1 : L.Pairwise (fun a b => le2 a b = true)) (h2 : M.Pairwise (fun a b => le2 a b = true)) (h : L.Perm M) : L = M :=
  List.Perm.eq_of_pairwise (fun a b _ _ x y => by
    have x := of_decide_eq_true x
    have y := of_decide_eq_true y
    exact Prod.ext (by omega) (by omega)) h1 h2 h
theorem srt_pw (ps : List (Int × Int)) : (srt ps).Pairwise (fun a b => le2 a b = true) := List.pairwise_mergeSort le2_trans le2_total ps
theorem srt_perm {F ps : List (Int × Int)} (h : F.Perm ps) : srt F = srt ps :=
  srt_unique (srt_pw F) (srt_pw ps) (((List.mergeSort_perm F le2).trans h).trans (List.mergeSort_perm ps le2).symm)
theorem twos_zip {H : Hp} : ∀ {vs : List V} {ps : List (Int × Int)}, Paired (TwoAt H) vs ps → ∃ bes : List (Addr × (Int × Int)), bes.map (fun x => V.ref x.1) = vs ∧ bes.map (·.2) = ps ∧ ∀ x ∈ bes, H x.1 = some (.tup [.int x.2.1, .int x.2.2])
  | _, _, .nil => ⟨[], rfl, rfl, fun x h => by cases h⟩
  | _, _, .cons (b := y) ⟨a, e, ha⟩ t => by
    obtain ⟨bes, h1, h2, h3⟩ := twos_zip t
    refine ⟨(a, y) :: bes, by rw [List.map_cons, h1, e], by rw [List.map_cons, h2], fun x hx => ?_⟩
    rcases List.mem_cons.mp hx with rfl | hx
    · exact ha
    · exact h3 x hx
theorem paired_of {H : Hp} : ∀ {bes : List (Addr × (Int × Int))}, (∀ x ∈ bes, H x.1 = some (.tup [.int x.2.1, .int x.2.2])) → Paired (TwoAt H) (bes.map fun x => V.ref x.1) (bes.map (·.2))
  | [], _ => .nil
  | x :: r, h => .cons ⟨x.1, rfl, h x (List.mem_cons_self ..)⟩ (paired_of fun y hy => h y (List.mem_cons_of_mem _ hy))
/-- sorted(pairs), as cr_sortD asks it -/
theorem sort_twos {K : PySem.W.Frag} {H : Hp} {l : Addr} {vs : List V} {ps : List (Int × Int)} {Q : VK} (hL : H l = some (.lst vs)) (hPr : Paired (TwoAt H) vs ps) (q : ∀ (p : Addr) (us : List V), H p = none → Paired (TwoAt (upd H p (.lst us))) us (srt ps) → us.length = vs.length → Q (.ref p) (upd H p (.lst us))) : rSortD K [.ref l] H Q := by
  obtain ⟨bes, h1, h2, h3⟩ := twos_zip hPr
  refine ⟨_, fun x => V.ref x.1, fun x => .tuple [.int x.2.1, .int x.2.2], l, bes, rfl, SqL.of (by rw [h1]; exact hL), fun x hx => ⟨.tup (SqT.of (h3 x hx)) (.cons (.int _) (.cons (.int _) .nil)), by simp [PyData.depth, PyData.depthAll]⟩, ?_, .inl ?_, fun p hp => ?_⟩
  · intro d1 e1 d2 e2
    obtain ⟨x1, _, rfl⟩ := List.mem_map.mp e1
    obtain ⟨x2, _, rfl⟩ := List.mem_map.mp e2
    simp [PySem.W.alike, PySem.W.alikeAll]
  · intro d1 e1
    obtain ⟨x1, _, rfl⟩ := List.mem_map.mp e1
    exact ⟨_, _, rfl⟩
  · have ele : PySem.W.dataLe false (fun x : Addr × (Int × Int) => PyData.tuple [.int x.2.1, .int x.2.2]) = fun p q => le2 p.2 q.2 := PySem.W.dataLe_ii (fun x : Addr × (Int × Int) => x.2.1) (fun x : Addr × (Int × Int) => x.2.2)
    rw [ele]
    have hp0 : (bes.mergeSort fun p q => le2 p.2 q.2).Perm bes := List.mergeSort_perm _ _
    have hp1 : ((bes.mergeSort fun p q => le2 p.2 q.2).map (·.2)).Perm ps := by
      have z := hp0.map (fun x : Addr × (Int × Int) => x.2)
      rw [h2] at z
      exact z
    have hpw : ((bes.mergeSort fun p q => le2 p.2 q.2).map (·.2)).Pairwise (fun a b => le2 a b = true) := by
      rw [List.pairwise_map]
      exact List.pairwise_mergeSort (fun a b c => le2_trans a.2 b.2 c.2) (fun a b => le2_total a.2 b.2) bes
    have hs : (bes.mergeSort fun p q => le2 p.2 q.2).map (·.2) = srt ps := srt_unique hpw (srt_pw ps) (hp1.trans (List.mergeSort_perm ps le2).symm)
    refine q p _ hp ?_ ?_
    · rw [← hs]
      exact paired_of fun x hx => Ext.new hp _ _ (h3 x (hp0.mem_iff.mp hx))
    · rw [List.length_map, List.length_mergeSort, ← h1, List.length_map]
def ResAt (H : Hp) (v : V) (o : Option (List (Int × Int))) : Prop := match o with
  | none => v = .non
  | some qs => TupOf TwoAt H v qs
def ask (x : Str) : Option (List (Int × Int)) := (run [] (toks 0 x.cps.toList)).map srt
theorem one_is (c d : Nat) : (decide ((V.str ⟨#[c]⟩ : V) = V.str ⟨#[d]⟩)) = decide (c = d) := by
  by_cases h : c = d
  · rw [h]
    simp
  · rw [decide_eq_false h, decide_eq_false]
    intro z
    injection z with z
    injection z with z
    injection z with z
    injection z with z
    exact h z
theorem sign_o : (Str.ofString "(") = ⟨#[40]⟩ := by decide +kernel
theorem sign_c : (Str.ofString ")") = ⟨#[41]⟩ := by decide +kernel
theorem sign_d : (Str.ofString ".") = ⟨#[46]⟩ := by decide +kernel
theorem drop_at {x : Str} {i c : Nat} (h : x.cps[i]? = some c) : x.cps.toList.drop i = c :: x.cps.toList.drop (i + 1) := by
  have h2 : x.cps.toList[i]? = some c := by
    rw [Array.getElem?_toList]
    exact h
  obtain ⟨hi, e⟩ := List.getElem?_eq_some_iff.mp h2
  rw [List.drop_eq_getElem_cons hi, e]
section
variable {P : Program} {w : World} {K : PySem.W.Frag} {mg : Str → Option Value} {base : Heap}
abbrev s_pairs_in : Stmt := topS 30
theorem sc_pairs_in : FnScope ["text", "begun", "pairs", "at", "sign"] ["text"] (defScope s_pairs_in) :=
  ⟨rfl, rfl, rfl, by decide +kernel, rfl, by decide +kernel, by decide +kernel⟩
def spPin : Sp := fun vs H Q _ => ∃ x : Str, vs = [.str x] ∧ x.length ≤ 1000 ∧ ∀ v H', Ext H H' → ResAt H' v (ask x) → Q v H'
theorem ok_pin {f : Addr} {fd : FuncData} {k : Nat} (F : Fun K "pairs_in" "pairs_in" s_pairs_in f fd) (menumerate : mg "enumerate" = none) (mtuple : mg "tuple" = none) (msorted : mg "sorted" = none) : FnOk P w K mg base CX0 (k + 1) f fd ["text"] spPin := by
  refine F.ok sc_pairs_in (fun vs H Q E h => ?_) (fun cdv A outer s H vs Q E hr h => ?_)
  · obtain ⟨x, rfl, _⟩ := h
    rfl
  · obtain ⟨x, rfl, hx, q⟩ := h
    refine ⟨_, (pss_cons (ps_set (i := 1) sc_pairs_in.nd rfl (.inl rfl) (pe_lst pa_nil))
      (pss_cons (ps_set (i := 2) sc_pairs_in.nd rfl (.inl rfl) (pe_lst pa_nil))
      (pss_cons (ps_for PassesOwn.never rfl (pi_enumS (by rfl) menumerate (pa_cons (pv 0) pa_nil)) (pg_tup rfl (pgs_cons (pg_name (i := 3) sc_pairs_in.nd rfl (.inl rfl)) (pgs_cons (pg_name (i := 4) sc_pairs_in.nd rfl (.inl rfl)) pgs_nil))) (pss_one (ps_if (pt_cmpR op_eq (pv 4) pe_str (nomark _)) (pss_one (ps_expr (pe_bm PySem.F.plainAttrs_list PySem.F.slot_list_append PySem.F.type_list_append mt_append (pv 1) (pa_cons (pv 3) pa_nil)))) (pss_one (ps_if (PW.pt (pw_and (pt_cmpR op_eq (pv 4) pe_str (nomark _)) (pw_and1 (pt_truth (pv 1) (by intro _; rfl))))) (pss_one (ps_expr (pe_bm PySem.F.plainAttrs_list PySem.F.slot_list_append PySem.F.type_list_append mt_append (pv 2) (pa_cons (pe_tup (pa_cons (pe_bm0 PySem.F.plainAttrs_list PySem.F.slot_list_pop PySem.F.type_list_pop mt_pop (pv 1)) (pa_cons (pv 3) pa_nil))) pa_nil)))) (pss_one (ps_if (pt_cmpR op_ne (pv 4) pe_str (nomark _)) (pss_one (ps_ret pe_non)) pss_nil)))))))
      (pss_one (ps_ret (pe_ifExp (pt_truth (pv 1) (by intro _; rfl)) pe_non (pe_callTy (tupleOf K) (by rfl) mtuple (by decide +kernel) (pa_cons (pe_callB (cr_sortD K hr.units) (by rfl) msorted (by decide +kernel) (pa_cons (pv 2) pa_nil)) pa_nil)))))))), ?_⟩
    refine ⟨Nat.zero_le _, fun lb hlb => ⟨Nat.zero_le _, fun lp hlp => ?_⟩⟩
    have e0 := (Ext.new (o := .lst []) hlb).trans (Ext.new (o := .lst []) hlp)
    have nbp : lb ≠ lp := fun z => by
      rw [← z, upd_same] at hlp
      cases hlp
    have hlp0 : H lp = none := Ext.none (Ext.new hlb) hlp
    refine ⟨_, rfl, x, rfl, for_es (fun i σ H2 => ∃ (y3 y4 : Option V) (b : List Int) (vs : List V) (ps : List (Int × Int)), σ = [some (.str x), some (.ref lb), some (.ref lp), y3, y4] ∧ H2 lb = some (.lst (b.reverse.map V.int)) ∧ H2 lp = some (.lst vs) ∧ Paired (TwoAt H2) vs ps ∧ b.length ≤ i ∧ vs.length ≤ i ∧ Ext H H2 ∧ run [] (toks 0 x.cps.toList) = (run b (toks i (x.cps.toList.drop i))).map (ps ++ ·))
      ⟨none, none, [], [], [], rfl, by rw [upd_ne nbp, upd_same]; rfl, upd_same, .nil, Nat.le_refl _, Nat.le_refl _, e0, ?_⟩ (fun i c T σ H2 hi hv hT => ?_) (fun σ H2 hv => ?_)⟩
    · rw [List.drop_zero]
      cases run [] (toks 0 x.cps.toList) <;> rfl
    · obtain ⟨y3, y4, b, vs, ps, rfl, hB, hV, hPr, hbl, hvl, k2, hrun⟩ := hv
      have hi' : i < x.length := (Array.getElem?_eq_some_iff.mp hi).1
      rw [drop_at hi, toks] at hrun
      have e3 := Ext.new (o := .tup [.int (i : Nat), .str ⟨#[c]⟩]) hT
      have hB3 := e3 _ _ hB
      have hV3 := e3 _ _ hV
      have hPr3 := paired_imp (fun _ _ => TwoAt.mono _ _ _ _ (TupK.ext e3)) hPr
      have k3 := k2.trans e3
      refine ⟨T, _, rfl, SqT.of upd_same, rfl, _, _, rfl, _, _, rfl, rfl, ?_⟩
      refine ⟨_, rfl, rfl, _, rfl, ?_⟩
      rw [sign_o, one_is]
      refine ite2 (fun e => ?_) (fun e => ?_)
      · -- (
        have e : c = 40 := of_decide_eq_true e
        rw [if_neg (by omega), run_cons, if_pos e] at hrun
        refine ⟨_, rfl, .inl ⟨rfl, _, SqL.of hB3⟩, _, rfl, lb, _, _, rfl, rfl, hB3, szLt ?_, ?_⟩
        · rw [List.length_map, List.length_reverse]
          omega
        · refine ⟨_, _, (i : Int) :: b, vs, ps, rfl, ?_, ?_, paired_imp (fun _ _ => TwoAt.mono _ _ _ _ (TupK.lst hB3)) hPr3, ?_, by omega, k3.put hlb, hrun⟩
          · rw [upd_same, List.reverse_cons, List.map_append]
            rfl
          · rw [upd_ne nbp.symm]
            exact hV3
          · rw [List.length_cons]
            omega
      · have e : ¬ c = 40 := fun z => e (decide_eq_true z)
        refine ⟨_, rfl, rfl, _, rfl, ?_⟩
        rw [sign_c, one_is]
        have last : ¬ (c = 41 ∧ b ≠ []) → tIfS (tTest (tOp rNe (tVar 4) (tC (.str (Str.ofString "."))))) (tRet (tC .non)) tNext
            { nx := fun σ H2 => ∃ (y3 y4 : Option V) (b : List Int) (vs : List V) (ps : List (Int × Int)), σ = [some (.str x), some (.ref lb), some (.ref lp), y3, y4] ∧ H2 lb = some (.lst (b.reverse.map V.int)) ∧ H2 lp = some (.lst vs) ∧ Paired (TwoAt H2) vs ps ∧ b.length ≤ i + 1 ∧ vs.length ≤ i + 1 ∧ Ext H H2 ∧ run [] (toks 0 x.cps.toList) = (run b (toks (i + 1) (x.cps.toList.drop (i + 1)))).map (ps ++ ·), rt := Q, bk := fun _ _ => False, ct := fun _ _ => False }
            [some (.str x), some (.ref lb), some (.ref lp), some (.int (i : Nat)), some (.str ⟨#[c]⟩)] (upd H2 T (.tup [.int (i : Nat), .str ⟨#[c]⟩])) := fun hn => by
          refine ⟨_, rfl, rfl, _, rfl, ?_⟩
          rw [sign_d, one_is]
          refine ite2 (fun e2 => ?_) (fun e2 => ?_)
          · have e2 : ¬ c = 46 := fun z => by
              rw [decide_eq_true z] at e2
              cases e2
            rw [if_neg e2, run_cons, if_neg e] at hrun
            have hnone : run [] (toks 0 x.cps.toList) = none := by
              rw [hrun]
              by_cases h41 : c = 41
              · rw [if_pos h41]
                cases b with
                | nil => rfl
                | cons p b' => exact absurd ⟨h41, by intro z; cases z⟩ hn
              · rw [if_neg h41]
                rfl
            refine q .non _ k3 ?_
            unfold ask
            rw [hnone]
            rfl
          · have e2 : c = 46 := by
              by_cases z : c = 46
              · exact z
              · rw [decide_eq_false z] at e2
                exact absurd rfl e2
            rw [if_pos e2] at hrun
            exact ⟨_, _, b, vs, ps, rfl, hB3, hV3, hPr3, by omega, by omega, k3, hrun⟩
        refine ite2 (fun e1 => ?_) (fun e1 => ?_)
        · have e1 : c = 41 := of_decide_eq_true e1
          refine ⟨_, rfl, _, .inl ⟨_, SqL.of hB3, rfl⟩, ?_⟩
          cases b with
          | nil => exact iteF (last (fun z => z.2 rfl))
          | cons p b' =>
            rw [if_neg (by omega), run_cons, if_neg e, if_pos e1] at hrun
            have hne : (!((p :: b').reverse.map V.int).isEmpty) = true := by
              rw [List.reverse_cons, List.map_append]
              cases (b'.reverse.map V.int) <;> rfl
            rw [hne]
            refine iteT ⟨_, rfl, .inl ⟨rfl, _, SqL.of hV3⟩, _, rfl, .inl ⟨rfl, _, SqL.of hB3⟩, lb, _, .int p, rfl, rfl, hB3, ?_, _, rfl, szL (show 2 ≤ 1000000 by decide), fun t ht => ?_⟩
            · rw [List.reverse_cons, List.map_append, List.length_append, List.map_singleton, List.length_singleton, Nat.add_sub_cancel, List.getElem?_append_right (Nat.le_refl _), Nat.sub_self]
              rfl
            · have hdl : ((p :: b').reverse.map V.int).dropLast = b'.reverse.map V.int := by
                rw [List.reverse_cons, List.map_append, List.map_singleton, List.dropLast_concat]
              rw [hdl] at ht ⊢
              have hV4 : (upd (upd H2 T (.tup [.int (i : Nat), .str ⟨#[c]⟩])) lb (.lst (b'.reverse.map V.int))) lp = some (.lst vs) := by
                rw [upd_ne nbp.symm]
                exact hV3
              have e5 := Ext.new (o := .tup [.int p, .int (i : Nat)]) ht
              have hV5 := e5 _ _ hV4
              have nlt : lp ≠ t := ne_of_none hV4 ht
              refine ⟨lp, _, _, rfl, rfl, hV5, szLt (by omega), ?_⟩
              have tk := ((TupK.lst (o := .lst (b'.reverse.map V.int)) hB3).trans (TupK.ext e5)).trans (TupK.lst (o := .lst (vs ++ [.ref t])) hV5)
              refine ⟨_, _, b', vs ++ [.ref t], ps ++ [(p, (i : Int))], rfl, ?_, upd_same, ?_, ?_, ?_, ?_, ?_⟩
              · rw [upd_ne nbp]
                exact e5 _ _ upd_same
              · refine (paired_imp (fun _ _ => TwoAt.mono _ _ _ _ tk) hPr3).snoc ⟨t, rfl, ?_⟩
                rw [upd_ne nlt.symm, upd_same]
              · rw [List.length_cons] at hbl
                omega
              · rw [List.length_append, List.length_singleton]
                omega
              · exact ((k3.put hlb).trans e5).put hlp0
              · dsimp only at hrun
                rw [hrun]
                cases run b' (toks (i + 1) (x.cps.toList.drop (i + 1))) with
                | none => rfl
                | some r =>
                  show some (ps ++ (p, (i : Int)) :: r) = some ((ps ++ [(p, (i : Int))]) ++ r)
                  rw [List.append_assoc]
                  rfl
        · have e1 : ¬ c = 41 := fun z => e1 (decide_eq_true z)
          exact iteF (last (fun z => e1 z.1))
    · obtain ⟨y3, y4, b, vs, ps, rfl, hB, hV, hPr, hbl, hvl, k2, hrun⟩ := hv
      rw [List.drop_eq_nil_of_le (by rw [Array.length_toList]; exact Nat.le_refl _), toks, run_nil] at hrun
      have hsz : x.cps.size ≤ 1000 := hx
      refine ⟨_, rfl, _, .inl ⟨_, SqL.of hB, rfl⟩, ?_⟩
      cases b with
      | nil =>
        refine iteF ⟨_, rfl, ?_⟩
        show rSortD K [.ref lp] H2 (fun x H1 => rTupleOf K [x] H1 Q)
        refine sort_twos hV hPr fun p us hp hPu hul => ?_
        refine ⟨p, us, rfl, .inl ⟨SqL.of upd_same, fun tR htR => q _ _ ((k2.trans (Ext.new hp)).trans (Ext.new htR)) ?_⟩⟩
        unfold ask
        rw [hrun, if_pos rfl]
        show TupOf TwoAt _ _ (srt (ps ++ []))
        rw [List.append_nil]
        exact ⟨tR, us, rfl, upd_same, paired_imp (fun _ _ => TwoAt.mono _ _ _ _ (TupK.new htR)) hPu⟩
      | cons p b' =>
        have hne : (!((p :: b').reverse.map V.int).isEmpty) = true := by
          rw [List.reverse_cons, List.map_append]
          cases (b'.reverse.map V.int) <;> rfl
        rw [hne]
        refine iteT (q .non _ k2 ?_)
        unfold ask
        rw [hrun, if_neg (by intro z; cases z)]
        rfl
end
end Pf


namespace Pf
open PySem PySem.Spec PyProof.Rows L2 HT
/-! ### a product in its place; a tuple lengthened; data compared -/
def ipM : TIp := fun x y H Q => ∃ i j, x = .int i ∧ y = .int j ∧ CMul i j ∧ Q (.int (i * j)) H
theorem ip_mul {X : Cx} : PIp X .Mult ipM := by
  intro pins s σ H x y v u Q I r1 r2 h
  obtain ⟨i, j, e1, e2, hc, q⟩ := h
  subst e1; subst e2
  obtain ⟨t, rfl⟩ := r1
  obtain ⟨t', rfl⟩ := r2
  exact imul_int ⟨.int _, H, I.tok _, ⟨_, rfl⟩, q⟩ hc.ok
theorem no_tup_iadd : typeLookup (.type "tuple") (dunderI "add") = pure none := by kernel_rfl
def rItup : TIp := fun x y H Q => ∃ a b xs ys, x = .ref a ∧ y = .ref b ∧ H a = some (.tup xs) ∧ H b = some (.tup ys) ∧ xs.length + ys.length ≤ sizeLine ∧ ∀ p H', Ext H H' → H' p = some (.tup (xs ++ ys)) → Q (.ref p) H'
theorem ip_tup {X : Cx} : PIp X .Add rItup := by
  intro pins s σ H x y v u Q I rx ry h
  obtain ⟨a, b, xs, ys, rfl, rfl, ha, hb, hz, q⟩ := h
  cases rx
  cases ry
  obtain ⟨its, r1, p1, _⟩ := I.tuple (SqT.of (K := X.K) ha)
  obtain ⟨its2, r2, p2, _⟩ := I.tuple (SqT.of (K := X.K) hb)
  obtain ⟨⟨cls, dd, data, sl⟩, ho, hc, n, hd⟩ := id p1
  obtain ⟨⟨cls2, dd2, data2, sl2⟩, ho2, hc2, n2, hd2⟩ := id p2
  simp only at hc hd hc2 hd2
  subst hc hd hc2 hd2
  have e : its.toArray ++ its2.toArray = (its ++ its2).toArray := by simp
  have go : ∀ {S : PySem.Spec}, PySem.Meets (Builtin.«tuple.__add__» ⟨[.ref a, .ref b], []⟩) S → S X.A (wants (EP X pins σ Q) X.xe) s → wpAny (model X.prog X.w) X.A (inplaceOp .Add (.ref a) (.ref b)) (EP X pins σ Q) X.xe s := fun g h =>
    inplaceOp_concat ⟨_, ho, rfl⟩ ⟨_, ho2, rfl⟩ no_tup_iadd PySem.noFill_tuple_add PySem.seq_tuple_add (call_meets PySem.F.slot_tuple_add ⟨_, ho, rfl⟩ PySem.F.entry_tuple_add (PySem.F.args_tuple_add_2 _ _) g h)
  by_cases h1 : its = []
  · have hx : xs = [] := by
      have := r1.length
      rw [h1] at this
      exact List.eq_nil_of_length_eq_zero this
    exact go (tuple_addW0 a b its.toArray its2.toArray n n2 dd dd2 sl sl2 (by simp [h1])) ⟨ho, ho2, .ref b, H, I, rfl, q b H Ext.refl (by rw [hx]; exact hb)⟩
  · by_cases h2 : its2 = []
    · have hy : ys = [] := by
        have := r2.length
        rw [h2] at this
        exact List.eq_nil_of_length_eq_zero this
      exact go (tuple_addW1 a b its.toArray its2.toArray n n2 dd dd2 sl sl2 (by simpa using h1) (by simp [h2])) ⟨ho, ho2, .ref a, H, I, rfl, q a H Ext.refl (by rw [hy, List.append_nil]; exact ha)⟩
    · refine go (tuple_addW2 a b its.toArray its2.toArray n n2 dd dd2 sl sl2 (by simpa using h1) (by simpa using h2) (by rw [List.size_toArray, List.size_toArray, ← r1.length, ← r2.length]; exact hz)) ⟨ho, ho2, ?_⟩
      rw [e]
      refine ⟨.ref s.heap.objs.size, _, I.laid (t' := s.toks) (o := .tup (xs ++ ys)) (fun b ob q => Heap.get?_push_of_some _ q) (Nat.le_refl _) ?_, rfl, q _ _ (Ext.new (I.hok.fresh (Nat.le_refl _))) upd_same⟩
      exact ⟨by rw [List.length_append]; exact hz, _, r1.append r2, IsTup.new _ _⟩
def rLtD (K : PySem.W.Frag) : R2 := fun x y H Q => ∃ d e, Dp K H x d ∧ Dp K H y e ∧ PySem.W.alike d e = true ∧ d ≠ .none ∧ d.depth ≤ 64 ∧ Q (.bl (PySem.W.dataLt d e)) H
theorem ltD (K : PySem.W.Frag) {X : Cx} (hu : X.A.units + 64 < cLine) (h : X.K = K := by rfl) : OpR X (compareOp .Lt) (rLtD K) := by
  subst h
  intro pins s σ H x y v u Q I rx ry h
  obtain ⟨d, e, hd, he, ha, hn, hdp, q⟩ := h
  obtain ⟨as, r1⟩ := Dp.reads I d x v hd rx
  obtain ⟨bs, r2⟩ := Dp.reads I e y u he ry
  exact PySem.W.lt_data r1 r2 ha hn (by have := Nat.min_le_left d.depth e.depth; omega) ⟨.bl _, H, I, rfl, q⟩
end Pf


namespace Pf
open PySem PySem.Spec PyProof.Rows L2
/-! ### what is a folding -/
def go2 (p q : Int × Int) : Bool := decide (p.2 < q.1) || decide (q.2 < p.2)
def risL (qs : List (Int × Int)) : List Bool := (qs.zip (qs.drop 1)).map fun z => lt2 z.1 z.2
def goL : List (Int × Int) → List Bool
  | [] => []
  | p :: r => r.map (go2 p) ++ goL r
def isF (r : Rl) (x : Str) (qs : List (Int × Int)) : Bool := (qs.map fun y => mayC r x y.1 y.2).all id && ((risL qs).all id && (goL qs).all id)
theorem goL_len : ∀ qs : List (Int × Int), (goL qs).length ≤ qs.length * qs.length
  | [] => Nat.le_refl _
  | p :: r => by
    have h := goL_len r
    rw [goL, List.length_append, List.length_map, List.length_cons, Nat.succ_mul, Nat.mul_succ]
    omega
theorem goL_at {qs : List (Int × Int)} {i : Nat} {p : Int × Int} (h : qs[i]? = some p) : goL (qs.drop i) = (qs.drop (i + 1)).map (go2 p) ++ goL (qs.drop (i + 1)) := by
  obtain ⟨hi, e⟩ := List.getElem?_eq_some_iff.mp h
  rw [List.drop_eq_getElem_cons hi, e, goL]
theorem isF_true {r : Rl} {x : Str} {qs : Fo} (h : Fo4 r x 0 x.length qs) : isF r x qs = true := by
  unfold isF
  rw [Bool.and_eq_true, Bool.and_eq_true]
  refine ⟨List.all_eq_true.mpr fun b hb => ?_, List.all_eq_true.mpr fun b hb => ?_, ?_⟩
  · obtain ⟨y, hy, rfl⟩ := List.mem_map.mp hb
    exact h.may y hy
  · obtain ⟨z, hz, rfl⟩ := List.mem_map.mp hb
    obtain ⟨i, hi⟩ := List.getElem?_of_mem hz
    obtain ⟨h1, h2⟩ := (List.getElem?_zip_eq_some (z := z)).mp hi
    rw [List.getElem?_drop] at h2
    obtain ⟨l1, e1⟩ := List.getElem?_eq_some_iff.mp h1
    obtain ⟨l2, e2⟩ := List.getElem?_eq_some_iff.mp h2
    have := List.pairwise_iff_getElem.mp h.srt i (1 + i) l1 l2 (by omega)
    rw [e1, e2] at this
    exact decide_eq_true (.inl this)
  · have aux : ∀ l : Fo, l.Sublist qs → (goL l).all id = true := by
      intro l
      induction l with
      | nil => intro _; rfl
      | cons p l ih =>
        intro hs
        rw [goL, List.all_append, ih ((List.sublist_cons_self p l).trans hs), Bool.and_true]
        refine List.all_eq_true.mpr fun b hb => ?_
        obtain ⟨y, hy, rfl⟩ := List.mem_map.mp hb
        have h1 := (List.pairwise_cons.mp (h.srt.sublist hs)).1 y hy
        have h2 := h.sep p (hs.subset (List.mem_cons_self ..)) y (hs.subset (List.mem_cons_of_mem _ hy)) h1
        show (decide (p.2 < y.1) || decide (y.2 < p.2)) = true
        rcases h2 with h2 | h2
        · rw [decide_eq_true h2, Bool.or_true]
        · rw [decide_eq_true h2, Bool.true_or]
    exact aux qs (List.Sublist.refl _)
section
variable {P : Program} {w : World} {K : PySem.W.Frag} {mg : Str → Option Value} {base : Heap}
abbrev s_is_whole : Stmt := topS 5
theorem sc_is_whole : FnScope ["thing"] ["thing"] (defScope s_is_whole) :=
  ⟨rfl, rfl, rfl, by decide +kernel, rfl, by decide +kernel, by decide +kernel⟩
def spWhI : Sp := fun vs H Q _ => ∃ i : Int, vs = [.int i] ∧ Q (.bl true) H
theorem ok_whI {f : Addr} {fd : FuncData} {k : Nat} (F : Fun K "is_whole" "is_whole" s_is_whole f fd) (misinstance : mg "isinstance" = none) (mint : mg "int" = none) (mbool : mg "bool" = none) : FnOk P w K mg base CX0 (k + 1) f fd ["thing"] spWhI := by
  refine F.ok sc_is_whole (fun vs H Q E h => ?_) (fun cdv A outer s H vs Q E hr h => ?_)
  · obtain ⟨i, rfl, _⟩ := h
    rfl
  · obtain ⟨i, rfl, q⟩ := h
    refine ⟨_, (pss_one (ps_ret (pe_and (pe_callB (isi1 K) (by rfl) misinstance (by decide +kernel) (pa_cons (pv 0) (pa_cons (pe_bltn (v := .ty "int") (by rfl) mint (by decide +kernel) rfl) pa_nil))) (pe_one (pe_not (pe_callB (isi1 K) (by rfl) misinstance (by decide +kernel) (pa_cons (pv 0) (pa_cons (pe_bltn (v := .ty "bool") (by rfl) mbool (by decide +kernel) rfl) pa_nil)))))))), ?_⟩
    refine ⟨_, rfl, .int i, .ty "int", _, _, true, rfl, .ty _, .base (.int i), kit_ty (by decide +kernel), true, rfl, iteT ?_⟩
    exact ⟨_, rfl, .int i, .ty "bool", _, _, false, rfl, .ty _, .base (.int i), kit_ty (by decide +kernel), false, rfl, q⟩
abbrev s_is_row : Stmt := topS 6
theorem sc_is_row : FnScope ["thing", "size"] ["thing", "size"] (defScope s_is_row) :=
  ⟨rfl, rfl, rfl, by decide +kernel, rfl, by decide +kernel, by decide +kernel⟩
def spRow2 : Sp := fun vs H Q _ => ∃ (t : Addr) (xs : List V) (n : Int), vs = [.ref t, .int n] ∧ H t = some (.tup xs) ∧ Q (.bl (decide ((xs.length : Int) = n))) H
theorem ok_row2 {f : Addr} {fd : FuncData} {k : Nat} (F : Fun K "is_row" "is_row" s_is_row f fd) (misinstance : mg "isinstance" = none) (mtuple : mg "tuple" = none) (mlen : mg "len" = none) : FnOk P w K mg base CX0 (k + 1) f fd ["thing", "size"] spRow2 := by
  refine F.ok sc_is_row (fun vs H Q E h => ?_) (fun cdv A outer s H vs Q E hr h => ?_)
  · obtain ⟨t, xs, n, rfl, _⟩ := h
    rfl
  · obtain ⟨t, xs, n, rfl, hT, q⟩ := h
    refine ⟨_, (pss_one (ps_ret (pe_and (pe_callB (isi1 K) (by rfl) misinstance (by decide +kernel) (pa_cons (pv 0) (pa_cons (pe_bltn (v := .ty "tuple") (by rfl) mtuple (by decide +kernel) rfl) pa_nil))) (pe_one (pe_cmpR op_eq (pe_callB (lenQ K) (by rfl) mlen (by decide +kernel) (pa_cons (pv 0) pa_nil)) (pv 1) (nomark _)))))), ?_⟩
    refine ⟨_, rfl, .ref t, .ty "tuple", _, _, true, rfl, .ty _, .base (.tup hT), kit_ty (by decide +kernel), true, rfl, iteT ?_⟩
    refine ⟨_, rfl, t, xs, rfl, .inr (SqT.of hT), _, rfl, rfl, ?_⟩
    have e : decide ((V.int (xs.length : Nat)) = V.int n) = decide ((xs.length : Int) = n) := decide_eq_decide.mpr ⟨V.int.inj, congrArg V.int⟩
    rw [e]
    exact q
abbrev CWhI (P : Program) (w : World) (K : PySem.W.Frag) (mg : Str → Option Value) (base : Heap) : Prop := Ca P w K mg base 1 "is_whole" ["thing"] spWhI
abbrev CRow2 (P : Program) (w : World) (K : PySem.W.Frag) (mg : Str → Option Value) (base : Heap) : Prop := Ca P w K mg base 1 "is_row" ["thing", "size"] spRow2
abbrev s_is_pair : Stmt := topS 27
theorem sc_is_pair : FnScope ["rules", "string", "thing"] ["rules", "string", "thing"] (defScope s_is_pair) :=
  ⟨rfl, rfl, rfl, by decide +kernel, rfl, by decide +kernel, by decide +kernel⟩
def spIP : Sp := fun vs H Q _ => ∃ (v : V) (r : Rl) (x : Str) (t : Addr) (y : Int × Int), vs = [v, .str x, .ref t] ∧ RulesW H v r ∧ x.length ≤ 1000 ∧ H t = some (.tup [.int y.1, .int y.2]) ∧ 0 ≤ y.1 ∧ y.1 < y.2 ∧ y.2 < x.length ∧ ∀ H', Ext H H' → Q (.bl (mayC r x y.1 y.2)) H'
theorem ok_ip {f : Addr} {fd : FuncData} (F : Fun K "is_pair" "is_pair" s_is_pair f fd) (cis_row : CRow2 P w K mg base) (cis_whole : CWhI P w K mg base) (cmay_pair : CMP P w K mg base) : FnOk P w K mg base CX0 3 f fd ["rules", "string", "thing"] spIP := by
  refine F.ok sc_is_pair (fun vs H Q E h => ?_) (fun cdv A outer s H vs Q E hr h => ?_)
  · obtain ⟨v, r, x, t, y, rfl, _⟩ := h
    rfl
  · obtain ⟨v, r, x, t, y, rfl, hR, hx, hT, b1, b2, b3, q⟩ := h
    refine ⟨_, (pss_cons (ps_if (PW.pt (pw_or (pt_not (pt_val (pe_ca cis_row (hr.mono (by decide)) (by rfl) (pa_cons (pv 2) (pa_cons pe_int pa_nil))))) (pw_or (pt_not (pt_val (pe_ca cis_whole (hr.mono (by decide)) (by rfl) (pa_cons (pe_ix (ixT K) (pv 2) pe_int (fun _ _ => rfl)) pa_nil)))) (pw_or1 (pt_not (pt_val (pe_ca cis_whole (hr.mono (by decide)) (by rfl) (pa_cons (pe_ix (ixT K) (pv 2) pe_int (fun _ _ => rfl)) pa_nil)))))))) (pss_one (ps_ret pe_bl)) pss_nil)
      (pss_one (ps_ret (pe_ca cmay_pair (hr.mono (by decide)) (by rfl) (pa_cons (pv 0) (pa_cons (pv 1) (pa_cons (pe_ix (ixT K) (pv 2) pe_int (fun _ _ => rfl)) (pa_cons (pe_ix (ixT K) (pv 2) pe_int (fun _ _ => rfl)) pa_nil)))))))), ?_⟩
    refine ⟨_, rfl, t, _, 2, rfl, hT, true, rfl, iteF ?_⟩
    refine ⟨_, rfl, t, _, 0, _, rfl, rfl, SqT.of hT, rfl, y.1, rfl, true, rfl, iteF ?_⟩
    refine ⟨_, rfl, t, _, 1, _, rfl, rfl, SqT.of hT, rfl, y.2, rfl, true, rfl, iteF ?_⟩
    exact ⟨_, rfl, _, rfl, _, rfl, t, _, 0, _, rfl, rfl, SqT.of hT, rfl, _, rfl, t, _, 1, _, rfl, rfl, SqT.of hT, rfl, v, r, x, y.1, y.2, rfl, hR, hx, b1, b2, b3, q⟩
abbrev s_go_together : Stmt := topS 28
theorem sc_go_together : FnScope ["pair", "later"] ["pair", "later"] (defScope s_go_together) :=
  ⟨rfl, rfl, rfl, by decide +kernel, rfl, by decide +kernel, by decide +kernel⟩
def spGT : Sp := fun vs H Q _ => ∃ (t u : Addr) (p y : Int × Int), vs = [.ref t, .ref u] ∧ H t = some (.tup [.int p.1, .int p.2]) ∧ H u = some (.tup [.int y.1, .int y.2]) ∧ Q (.bl (go2 p y)) H
theorem ok_gt {f : Addr} {fd : FuncData} {k : Nat} (F : Fun K "go_together" "go_together" s_go_together f fd) : FnOk P w K mg base CX0 (k + 1) f fd ["pair", "later"] spGT := by
  refine F.ok sc_go_together (fun vs H Q E h => ?_) (fun cdv A outer s H vs Q E hr h => ?_)
  · obtain ⟨t, u, p, y, rfl, _⟩ := h
    rfl
  · obtain ⟨t, u, p, y, rfl, hT, hU, q⟩ := h
    refine ⟨_, (pss_one (ps_ret (pe_or (pe_cmpR op_lt (pe_ix (ixT K) (pv 0) pe_int (fun _ _ => rfl)) (pe_ix (ixT K) (pv 1) pe_int (fun _ _ => rfl)) (nomark _)) (pe_one (pe_cmpR op_lt (pe_ix (ixT K) (pv 1) pe_int (fun _ _ => rfl)) (pe_ix (ixT K) (pv 0) pe_int (fun _ _ => rfl)) (nomark _)))))), ?_⟩
    unfold go2 at q
    refine ⟨_, rfl, t, _, 1, _, rfl, rfl, SqT.of hT, rfl, _, rfl, u, _, 0, _, rfl, rfl, SqT.of hU, rfl, _, _, rfl, rfl, _, rfl, ite2 (fun e => ?_) (fun e => ?_)⟩
    · have e : decide (p.2 < y.1) = true := e
      rw [e, Bool.true_or] at q
      exact q
    · have e : decide (p.2 < y.1) = false := Bool.eq_false_iff.mpr e
      rw [e, Bool.false_or] at q
      exact ⟨_, rfl, u, _, 1, _, rfl, rfl, SqT.of hU, rfl, _, rfl, t, _, 1, _, rfl, rfl, SqT.of hT, rfl, _, _, rfl, rfl, q⟩
abbrev s_rises : Stmt := topS 7
theorem sc_rises : FnScope ["things", "thing", "after"] ["things"] (defScope s_rises) :=
  ⟨rfl, rfl, rfl, by decide +kernel, rfl, by decide +kernel, by decide +kernel⟩
def spRi : Sp := fun vs H Q _ => ∃ (v : V) (qs : List (Int × Int)), vs = [v] ∧ TupOf TwoAt H v qs ∧ qs.length ≤ 100 ∧ ∀ H', Ext H H' → Q (.bl ((risL qs).all id)) H'
theorem ok_ri {f : Addr} {fd : FuncData} {k : Nat} (F : Fun K "rises" "rises" s_rises f fd) (mall : mg "all" = none) (mzip : mg "zip" = none) : FnOk P w K mg base CX0 (k + 1) f fd ["things"] spRi := by
  refine F.ok sc_rises (fun vs H Q E h => ?_) (fun cdv A outer s H vs Q E hr h => ?_)
  · obtain ⟨v, qs, rfl, _⟩ := h
    rfl
  · obtain ⟨v, qs, rfl, ⟨af, fs, rfl, hF, hPs⟩, hql, q⟩ := h
    refine ⟨_, (pss_one (ps_ret (pe_callB (cr_all rfl) (by rfl) mall (by decide +kernel) (pa_cons (pe_lc (own := [("thing", 1), ("after", 2)]) (g := gTup K 2 (gCons (gName 1) (gCons (gName 2) gNil))) (by rfl) sc_rises.nd (RZ.pi_zipA (by rfl) mzip (pa_cons (pv 0) (pa_cons (pe_slice (slE K) (pv 0) (po_some pe_int) po_none) pa_nil))) (blkOk_by (own := [("thing", 1), ("after", 2)]) (N := ["things", "thing", "after"]) (sc := defScope s_rises) (by decide +kernel)) (fun _ _ _ _ _ => (pgT K rfl (pgs_cons (pg_name (i := 1) sc_rises.nd rfl (.inl rfl)) (pgs_cons (pg_name (i := 2) sc_rises.nd rfl (.inl rfl)) pgs_nil)))) (fun _ _ _ _ _ => pts_nil) (fun _ _ _ _ _ => (pe_cmpR (ltT K hr.units0) (pv 1) (pv 2) (nomark _)))) pa_nil)))), ?_⟩
    have hfl := paired_len hPs
    refine ⟨_, rfl, _, rfl, 1, rfl, af, fs, rfl, hF, fun t H1 k1 hT => ?_⟩
    have ec : cutV fs (some 1) none = fs.drop 1 := cut_from (k := 1)
    rw [ec] at hT
    have hrl : (risL qs).length = fs.length - 1 := by
      unfold risL
      rw [List.length_map, List.length_zip, List.length_drop]
      omega
    refine ⟨af, t, fs, fs.drop 1, rfl, .inr ⟨SqT.of (k1 _ _ hF), SqT.of hT, fun D hD => lc_it (walk_zt (n := fs.length - 1) (by rw [List.length_drop]; omega)) (fun i H2 => H2 D = some (.lst (((risL qs).take i).map V.bl)) ∧ Ext H1 H2)
      ⟨upd_same, Ext.new hD⟩ (fun i H2 _ ⟨_, k⟩ => ⟨SqT.of (k _ _ (k1 _ _ hF)), SqT.of (k _ _ hT)⟩) (fun i u H2 H3 hi hv hy => ?_) (fun H2 hv => ?_)⟩⟩
    · obtain ⟨hL, k2⟩ := hv
      obtain ⟨T, a, b, rfl, hTn, rfl, ha, hb⟩ := hy
      obtain ⟨y1, hy1, a1, rfl, ha1⟩ := paired_get hPs ha
      have hb : (fs.drop 1)[i]? = some b := hb
      rw [List.getElem?_drop] at hb
      obtain ⟨y2, hy2, a2, rfl, ha2⟩ := paired_get hPs hb
      have e3 := Ext.new (o := .tup [.ref a1, .ref a2]) hTn
      have k03 := (k1.trans k2).trans e3
      refine ⟨T, _, rfl, SqT.of upd_same, rfl, _, _, rfl, _, _, rfl, rfl, rfl, _, rfl, _, rfl, a1, a2, [y1.1, y1.2], [y2.1, y2.2], rfl, rfl, SqT.of (k03 _ _ ha1), SqT.of (k03 _ _ ha2), _, e3 _ _ hL, szLt ?_, ?_, (k2.trans e3).put hD⟩
      · rw [List.length_map, List.length_take]
        omega
      · have er : (risL qs)[i]? = some (lt2 y1 y2) := by
          unfold risL
          rw [List.getElem?_map, (List.getElem?_zip_eq_some (z := (y1, y2))).mpr ⟨hy1, by rw [List.getElem?_drop]; exact hy2⟩]
          rfl
        rw [upd_same, List.take_add_one, er, List.map_append, lex2]
        rfl
    · obtain ⟨hL, k2⟩ := hv
      rw [List.take_of_length_le (by omega)] at hL
      exact ⟨D, risL qs, rfl, SqL.of hL, q _ (k1.trans k2)⟩
abbrev CIP (P : Program) (w : World) (K : PySem.W.Frag) (mg : Str → Option Value) (base : Heap) : Prop := Ca P w K mg base 3 "is_pair" ["rules", "string", "thing"] spIP
abbrev CGT (P : Program) (w : World) (K : PySem.W.Frag) (mg : Str → Option Value) (base : Heap) : Prop := Ca P w K mg base 1 "go_together" ["pair", "later"] spGT
abbrev CRi (P : Program) (w : World) (K : PySem.W.Frag) (mg : Str → Option Value) (base : Heap) : Prop := Ca P w K mg base 1 "rises" ["things"] spRi
abbrev s_is_folding : Stmt := topS 29
theorem sc_is_folding : FnScope ["rules", "string", "thing", "at", "pair", "later"] ["rules", "string", "thing"] (defScope s_is_folding) :=
  ⟨rfl, rfl, rfl, by decide +kernel, rfl, by decide +kernel, by decide +kernel⟩
def spIF : Sp := fun vs H Q _ => ∃ (v vf : V) (r : Rl) (x : Str) (qs : List (Int × Int)), vs = [v, .str x, vf] ∧ RulesW H v r ∧ x.length ≤ 1000 ∧ TupOf TwoAt H vf qs ∧ qs.length ≤ 100 ∧ (∀ y ∈ qs, 0 ≤ y.1 ∧ y.1 < y.2 ∧ y.2 < x.length) ∧ ∀ H', Ext H H' → Q (.bl (isF r x qs)) H'
theorem ok_if {f : Addr} {fd : FuncData} (F : Fun K "is_folding" "is_folding" s_is_folding f fd) (cis_pair : CIP P w K mg base) (cgo_together : CGT P w K mg base) (crises : CRi P w K mg base) (misinstance : mg "isinstance" = none) (mtuple : mg "tuple" = none) (mall : mg "all" = none) (menumerate : mg "enumerate" = none) : FnOk P w K mg base CX0 4 f fd ["rules", "string", "thing"] spIF := by
  refine F.ok sc_is_folding (fun vs H Q E h => ?_) (fun cdv A outer s H vs Q E hr h => ?_)
  · obtain ⟨v, vf, r, x, qs, rfl, _⟩ := h
    rfl
  · obtain ⟨v, vf, r, x, qs, rfl, hR, hx, ⟨af, fs, rfl, hF, hPs⟩, hql, hb, q⟩ := h
    refine ⟨_, (pss_cons (ps_if (PW.pt (pw_or (pt_not (pt_val (pe_callB (isi1 K) (by rfl) misinstance (by decide +kernel) (pa_cons (pv 2) (pa_cons (pe_bltn (v := .ty "tuple") (by rfl) mtuple (by decide +kernel) rfl) pa_nil))))) (pw_or1 (pt_not (pt_val (pe_callB (cr_all rfl) (by rfl) mall (by decide +kernel) (pa_cons (pe_lc (own := [("pair", 4)]) (g := gName 4) (by rfl) sc_is_folding.nd (pi_tup (pv 2)) (blkOk_by (own := [("pair", 4)]) (N := ["rules", "string", "thing", "at", "pair", "later"]) (sc := defScope s_is_folding) (by decide +kernel)) (fun _ _ _ _ _ => (pg_name (i := 4) sc_is_folding.nd rfl (.inl rfl))) (fun _ _ _ _ _ => pts_nil) (fun _ _ _ _ _ => (pe_ca cis_pair (hr.mono (by decide)) (by rfl) (pa_cons (pv 0) (pa_cons (pv 1) (pa_cons (pv 4) pa_nil)))))) pa_nil))))))) (pss_one (ps_ret pe_bl)) pss_nil)
      (pss_cons (ps_if (pt_not (pt_val (pe_ca crises (hr.mono (by decide)) (by rfl) (pa_cons (pv 2) pa_nil)))) (pss_one (ps_ret pe_bl)) pss_nil)
      (pss_one (ps_ret (pe_callB (cr_all rfl) (by rfl) mall (by decide +kernel) (pa_cons (pe_lc2 (own := [("at", 3), ("pair", 4), ("later", 5)]) (vs1 := [5]) (g := gTup K 2 (gCons (gName 3) (gCons (gName 4) gNil))) (g1 := gName 5) (by rfl) sc_is_folding.nd (pi_enumT (by rfl) menumerate (pa_cons (pv 2) pa_nil)) (blkOk_by (own := [("at", 3), ("pair", 4), ("later", 5)]) (N := ["rules", "string", "thing", "at", "pair", "later"]) (sc := defScope s_is_folding) (by decide +kernel)) (by decide) (fun _ _ _ _ _ => (pgT K rfl (pgs_cons (pg_name (i := 3) sc_is_folding.nd rfl (.inl rfl)) (pgs_cons (pg_name (i := 4) sc_is_folding.nd rfl (.inl rfl)) pgs_nil)))) (fun _ _ _ _ _ => pts_nil) (fun _ _ _ _ _ => (piT K (pe_slice (slE K) (pv 2) (po_some (pe_op op_add (pv 3) pe_int)) po_none))) (fun _ _ _ _ _ => (pg_name (i := 5) sc_is_folding.nd rfl (.inl rfl))) (fun _ _ _ _ _ => pts_nil) (fun _ _ _ _ _ => (pe_ca cgo_together (hr.mono (by decide)) (by rfl) (pa_cons (pv 4) (pa_cons (pv 5) pa_nil))))) pa_nil)))))), ?_⟩
    have hfl := paired_len hPs
    refine ⟨_, rfl, .ref af, .ty "tuple", _, _, true, rfl, .ty _, .base (.tup hF), kit_ty (by decide +kernel), true, rfl, iteF ?_⟩
    -- all([is_pair(..)])
    refine ⟨_, rfl, af, rfl, ⟨_, SqT.of hF⟩, fun D hD => lc_tup (K := K) (xs := fs) (fun i H2 => H2 D = some (.lst (((qs.take i).map fun y => mayC r x y.1 y.2).map V.bl)) ∧ Ext H H2)
      ⟨upd_same, Ext.new hD⟩ (fun i H2 _ ⟨_, k⟩ => SqT.of (k _ _ hF)) (fun i u H2 hi hv => ?_) (fun H2 hv => ?_)⟩
    · obtain ⟨hL, k2⟩ := hv
      obtain ⟨y, hy, a1, rfl, ha1⟩ := paired_get hPs hi
      refine ⟨rfl, _, rfl, _, rfl, _, rfl, v, r, x, a1, y, rfl, RulesW.mono _ _ _ _ (TupK.ext k2) hR, hx, k2 _ _ ha1, (hb y (List.mem_of_getElem? hy)).1, (hb y (List.mem_of_getElem? hy)).2.1, (hb y (List.mem_of_getElem? hy)).2.2, fun H3 k3 => ⟨_, k3 _ _ hL, szLt ?_, ?_, (k2.trans k3).put hD⟩⟩
      · rw [List.length_map, List.length_map, List.length_take]
        omega
      · rw [upd_same, List.take_add_one, hy, List.map_append, List.map_append]
        rfl
    · obtain ⟨hL, k2⟩ := hv
      rw [List.take_of_length_le (by omega)] at hL
      refine ⟨D, _, rfl, SqL.of hL, _, rfl, ite2 (fun e => ?_) (fun e => ?_)⟩
      · have e : ((qs.map fun y => mayC r x y.1 y.2).all id) = false := by simpa using e
        have := q H2 k2
        unfold isF at this
        rw [e, Bool.false_and] at this
        exact this
      · have e : ((qs.map fun y => mayC r x y.1 y.2).all id) = true := by simpa using e
        have q1 : ∀ H', Ext H H' → Q (.bl ((risL qs).all id && (goL qs).all id)) H' := fun H' k => by
          have := q H' k
          unfold isF at this
          rw [e, Bool.true_and] at this
          exact this
        refine ⟨_, rfl, .ref af, qs, rfl, ⟨af, fs, rfl, k2 _ _ hF, paired_imp (fun _ _ => TwoAt.mono _ _ _ _ (TupK.ext k2)) hPs⟩, hql, fun H3 k3 => ⟨_, rfl, ite2 (fun e2 => ?_) (fun e2 => ?_)⟩⟩
        · have e2 : (risL qs).all id = false := by simpa using e2
          have := q1 H3 (k2.trans k3)
          rw [e2, Bool.false_and] at this
          exact this
        · have e2 : (risL qs).all id = true := by simpa using e2
          have q2 : ∀ H', Ext H H' → Q (.bl ((goL qs).all id)) H' := fun H' k => by
            have := q1 H' k
            rw [e2, Bool.true_and] at this
            exact this
          have k03 := k2.trans k3
          have hgl := goL_len qs
          have hgm : qs.length * qs.length ≤ 100 * 100 := Nat.mul_le_mul hql hql
          refine ⟨_, rfl, af, fs, rfl, SqT.of (k03 _ _ hF), fun D2 hD2 => lc_two walk_et (fun i H4 => ∃ bs : List Bool, goL qs = bs ++ goL (qs.drop i) ∧ H4 D2 = some (.lst (bs.map V.bl)) ∧ Ext H3 H4)
            ⟨[], rfl, upd_same, Ext.new hD2⟩ (fun i H4 _ ⟨_, _, _, k⟩ => SqT.of (k _ _ (k03 _ _ hF))) (fun i u H4 H5 hi hv hy => ?_) (fun H4 hv => ?_)⟩
          · obtain ⟨bs, hbs, hL4, k4⟩ := hv
            obtain ⟨T, a, b, rfl, hTn, rfl, ha, hb⟩ := hy
            cases ha
            obtain ⟨p, hp, a1, rfl, ha1⟩ := paired_get hPs hb
            have e5 := Ext.new (o := .tup [.int (i : Nat), .ref a1]) hTn
            have k05 := (k03.trans k4).trans e5
            refine ⟨T, _, rfl, SqT.of upd_same, rfl, _, _, rfl, _, _, rfl, rfl, rfl, ?_⟩
            refine ⟨_, rfl, _, rfl, _, 1, rfl, rfl, _, rfl, af, fs, rfl, k05 _ _ hF, fun t H6 k6 hT => ?_⟩
            have ec : cutV fs (some ((i : Int) + 1)) none = fs.drop (i + 1) := cut_from (k := i + 1)
            rw [ec] at hT
            have k06 := k05.trans k6
            rw [goL_at hp, ← List.append_assoc] at hbs
            refine ⟨t, rfl, ⟨_, SqT.of hT⟩, lc_in (walk_tup (xs := fs.drop (i + 1))) (fun j H7 => H7 D2 = some (.lst ((bs ++ ((qs.drop (i + 1)).take j).map (go2 p)).map V.bl)) ∧ H7 t = some (.tup (fs.drop (i + 1))) ∧ Ext H3 H7)
              ⟨?_, hT, (k4.trans e5).trans k6⟩ (fun j H7 _ ⟨_, h, _⟩ => SqT.of h) (fun j u H7 H8 hj hv hy => ?_) (fun H7 hv => ?_)⟩
            · rw [List.take_zero, List.map_nil, List.append_nil]
              exact k6 _ _ (e5 _ _ hL4)
            · obtain ⟨hL7, hT7, k7⟩ := hv
              obtain ⟨rfl, hu⟩ := hy
              obtain ⟨y, hy, a2, rfl, ha2⟩ := paired_get (paired_drop (i + 1) hPs) hu
              have k07 := k03.trans k7
              refine ⟨rfl, _, rfl, _, rfl, a1, a2, p, y, rfl, k07 _ _ ha1, k07 _ _ ha2, _, hL7, szLt ?_, ?_, ?_, k7.put hD2⟩
              · have hz := congrArg List.length hbs
                rw [List.length_append, List.length_append, List.length_map] at hz
                rw [List.length_map, List.length_append, List.length_map, List.length_take]
                omega
              · rw [upd_same, List.take_add_one, hy]
                simp only [List.map_append, List.append_assoc]
                rfl
              · rw [upd_ne (ne_of hT7 hL7 (by intro z; cases z))]
                exact hT7
            · obtain ⟨hL7, _, k7⟩ := hv
              rw [List.take_of_length_le (by rw [List.length_drop, List.length_drop]; omega)] at hL7
              exact ⟨_, hbs, hL7, k7⟩
          · obtain ⟨bs, hbs, hL4, k4⟩ := hv
            rw [List.drop_eq_nil_of_le (by omega)] at hbs
            rw [show goL [] = [] from rfl, List.append_nil] at hbs
            subst hbs
            exact ⟨D2, goL qs, rfl, SqL.of hL4, q2 _ (k03.trans k4)⟩
abbrev CIF (P : Program) (w : World) (K : PySem.W.Frag) (mg : Str → Option Value) (base : Heap) : Prop := Ca P w K mg base 4 "is_folding" ["rules", "string", "thing"] spIF
end
end Pf


namespace Pf
open PySem PySem.Spec PyProof.Rows L2
/-! ### brackets that match: their pairs don't cross -/
def NC2 (y z : Int × Int) : Prop := y.2 < z.1 ∨ (z.1 < y.1 ∧ y.2 < z.2)
theorem run_nc : ∀ {L : List (Nat × Int)} {b : List Int} {ps : List (Int × Int)}, run b L = some ps → (b.Pairwise fun i j => j < i) → (L.Pairwise fun x y => x.2 < y.2) → (∀ i ∈ b, ∀ x ∈ L, i < x.2) →
    ps.Pairwise NC2 ∧ ∀ p ∈ ps, p.1 < p.2 ∧ (p.1 ∈ b ∨ ∃ x ∈ L, p.1 = x.2) ∧ ∃ x ∈ L, p.2 = x.2
  | [], b, ps, h, _, _, _ => by
    rw [run_nil] at h
    by_cases e : b = []
    · rw [if_pos e] at h
      cases h
      exact ⟨.nil, fun p hp => by cases hp⟩
    · rw [if_neg e] at h
      cases h
  | (c, i) :: r, b, ps, h, hb, hL, hbL => by
    rw [run_cons] at h
    have hi := (List.pairwise_cons.mp hL).1
    have hr := (List.pairwise_cons.mp hL).2
    by_cases h1 : c = 40
    · rw [if_pos h1] at h
      have ih := run_nc (L := r) h (List.pairwise_cons.mpr ⟨fun j hj => hbL j hj (c, i) (List.mem_cons_self ..), hb⟩) hr (fun j hj x hx => by
        rcases List.mem_cons.mp hj with rfl | hj
        · exact hi x hx
        · exact hbL j hj x (List.mem_cons_of_mem _ hx))
      refine ⟨ih.1, fun p hp => ?_⟩
      obtain ⟨g1, g2, x, hx, g3⟩ := ih.2 p hp
      refine ⟨g1, ?_, x, List.mem_cons_of_mem _ hx, g3⟩
      rcases g2 with g2 | ⟨z, hz, g2⟩
      · rcases List.mem_cons.mp g2 with e | g2
        · exact .inr ⟨(c, i), List.mem_cons_self .., e⟩
        · exact .inl g2
      · exact .inr ⟨z, List.mem_cons_of_mem _ hz, g2⟩
    · rw [if_neg h1] at h
      by_cases h2 : c = 41
      · rw [if_pos h2] at h
        cases b with
        | nil => cases h
        | cons p b' =>
          dsimp only at h
          cases e : run b' r with
          | none => rw [e] at h; cases h
          | some qs =>
            rw [e] at h
            have ep : (p, i) :: qs = ps := Option.some.inj h
            have hb' := List.pairwise_cons.mp hb
            have ih := run_nc (L := r) e hb'.2 hr (fun j hj x hx => hbL j (List.mem_cons_of_mem _ hj) x (List.mem_cons_of_mem _ hx))
            rw [← ep]
            have hpi : p < i := hbL p (List.mem_cons_self ..) (c, i) (List.mem_cons_self ..)
            refine ⟨List.pairwise_cons.mpr ⟨fun z hz => ?_, ih.1⟩, fun z hz => ?_⟩
            · obtain ⟨g1, g2, x, hx, g3⟩ := ih.2 z hz
              have hix := hi x hx
              rcases g2 with g2 | ⟨w, hw, g2⟩
              · have := hb'.1 z.1 g2
                refine .inr ⟨this, ?_⟩
                show i < z.2
                rw [g3]
                exact hix
              · have := hi w hw
                refine .inl ?_
                show i < z.1
                rw [g2]
                exact this
            · rcases List.mem_cons.mp hz with rfl | hz
              · exact ⟨hpi, .inl (List.mem_cons_self ..), (c, i), List.mem_cons_self .., rfl⟩
              · obtain ⟨g1, g2, x, hx, g3⟩ := ih.2 z hz
                refine ⟨g1, ?_, x, List.mem_cons_of_mem _ hx, g3⟩
                rcases g2 with g2 | ⟨w, hw, g2⟩
                · exact .inl (List.mem_cons_of_mem _ g2)
                · exact .inr ⟨w, List.mem_cons_of_mem _ hw, g2⟩
      · rw [if_neg h2] at h
        cases h
theorem toks_inc : ∀ (l : List Nat) (k : Nat), ((toks k l).Pairwise fun x y => x.2 < y.2) ∧ ∀ x ∈ toks k l, (k : Int) ≤ x.2 ∧ x.2 < k + l.length
  | [], k => ⟨.nil, fun x h => by cases h⟩
  | c :: r, k => by
    have ih := toks_inc r (k + 1)
    rw [toks, List.length_cons]
    by_cases e : c = 46
    · rw [if_pos e]
      exact ⟨ih.1, fun x hx => by have := ih.2 x hx; omega⟩
    · rw [if_neg e]
      refine ⟨List.pairwise_cons.mpr ⟨fun x hx => by have := ih.2 x hx; show (k : Int) < x.2; omega, ih.1⟩, fun x hx => ?_⟩
      rcases List.mem_cons.mp hx with rfl | hx
      · show (k : Int) ≤ (k : Int) ∧ (k : Int) < _
        omega
      · have := ih.2 x hx
        omega
/-- what matched brackets write -/
structure Mt (L : Int) (q : Fo) : Prop where
  srt : q.Pairwise fun y z => y.1 < z.1
  inn : ∀ y ∈ q, 0 ≤ y.1 ∧ y.1 < y.2 ∧ y.2 < L
  sep : ∀ y ∈ q, ∀ z ∈ q, y.1 < z.1 → z.2 < y.2 ∨ y.2 < z.1
theorem pw_two {α : Type} {R : α → α → Prop} {l : List α} (h : l.Pairwise R) {y z : α} (hy : y ∈ l) (hz : z ∈ l) : y = z ∨ R y z ∨ R z y := by
  induction h with
  | nil => cases hy
  | cons hx _ ih =>
    rcases List.mem_cons.mp hy with rfl | hy'
    · rcases List.mem_cons.mp hz with rfl | hz'
      · exact .inl rfl
      · exact .inr (.inl (hx z hz'))
    · rcases List.mem_cons.mp hz with rfl | hz'
      · exact .inr (.inr (hx y hy'))
      · exact ih hy' hz'
theorem mt_of {x : Str} {ps : List (Int × Int)} (h : run [] (toks 0 x.cps.toList) = some ps) : Mt x.length (srt ps) := by
  have ti := toks_inc x.cps.toList 0
  have hl : x.cps.toList.length = x.length := Array.length_toList
  obtain ⟨h1, h2⟩ := run_nc h .nil ti.1 (fun i hi => by cases hi)
  have hpm : (srt ps).Perm ps := List.mergeSort_perm ps le2
  have hin : ∀ y ∈ ps, 0 ≤ y.1 ∧ y.1 < y.2 ∧ y.2 < (x.length : Int) := fun y hy => by
    obtain ⟨g1, g2, z, hz, g3⟩ := h2 y hy
    have hz2 := ti.2 z hz
    rcases g2 with g2 | ⟨w, hw, g2⟩
    · cases g2
    · have hw2 := ti.2 w hw
      omega
  have nd : ps.Pairwise fun y z => y.1 ≠ z.1 := by
    have aux : ∀ l : List (Int × Int), l.Pairwise NC2 → (∀ y ∈ l, y.1 < y.2) → l.Pairwise fun y z => y.1 ≠ z.1 := by
      intro l hl
      induction hl with
      | nil => intro _; exact .nil
      | cons hx _ ih =>
        intro hb
        refine List.pairwise_cons.mpr ⟨fun z hz e => ?_, ih fun y hy => hb y (List.mem_cons_of_mem _ hy)⟩
        have hy := hb _ (List.mem_cons_self ..)
        rcases hx z hz with g | g <;> omega
    exact aux ps h1 fun y hy => (hin y hy).2.1
  have nd2 : (srt ps).Pairwise fun y z => y.1 ≠ z.1 := (hpm.pairwise_iff fun {a b} h e => h e.symm).mpr nd
  have hs := srt_pw ps
  refine ⟨?_, fun y hy => hin y (hpm.mem_iff.mp hy), fun y hy z hz hlt => ?_⟩
  · have := List.Pairwise.and hs nd2
    refine this.imp fun {a b} h => ?_
    have h1 := of_decide_eq_true h.1
    have h2 := h.2
    omega
  · have hy' := hpm.mem_iff.mp hy
    have hz' := hpm.mem_iff.mp hz
    have iy := hin y hy'
    have iz := hin z hz'
    rcases pw_two h1 hy' hz' with e | g | g
    · rw [e] at hlt
      omega
    · rcases g with g | g
      · exact .inr g
      · omega
    · rcases g with g | g
      · omega
      · exact .inl g.2
theorem mt_isF {r : Rl} {x : Str} {q : Fo} (h : Mt x.length q) : isF r x q = (q.map fun y => mayC r x y.1 y.2).all id := by
  cases e : (q.map fun y => mayC r x y.1 y.2).all id with
  | true =>
    refine isF_true ⟨h.srt, h.inn, fun y hy => ?_, h.sep⟩
    exact List.all_eq_true.mp e _ (List.mem_map.mpr ⟨y, hy, rfl⟩)
  | false =>
    unfold isF
    rw [e, Bool.false_and]
theorem mt_WA {r : Rl} {x : Str} {q : Fo} (h : Mt x.length q) (hm : (q.map fun y => mayC r x y.1 y.2).all id = true) : q ∈ WA r x x.length 0 := by
  refine of_fo4 r x x.length 0 q ⟨h.srt, fun y hy => ?_, fun y hy => List.all_eq_true.mp hm _ (List.mem_map.mpr ⟨y, hy, rfl⟩), h.sep⟩
  have := h.inn y hy
  omega
theorem mt_len {L : Nat} {q : Fo} (h : Mt L q) : q.length ≤ L := by
  have aux : ∀ (n : Nat) (l : Fo), (l.Pairwise fun y z => y.1 < z.1) → (∀ y ∈ l, 0 ≤ y.1 ∧ y.1 < (n : Int)) → l.length ≤ n := by
    intro n l hl
    have nd : (l.map (·.1)).Nodup := by
      refine List.pairwise_map.mpr (hl.imp fun {a b} h e => ?_)
      have e : a.1 = b.1 := e
      omega
    intro hb
    have hsub : ∀ c ∈ l.map (·.1), c ∈ (List.range n).map fun k : Nat => (k : Int) := fun c hc => by
      obtain ⟨y, hy, rfl⟩ := List.mem_map.mp hc
      have := hb y hy
      exact List.mem_map.mpr ⟨y.1.toNat, List.mem_range.mpr (by omega), by omega⟩
    have := len_nd nd hsub
    rw [List.length_map, List.length_map, List.length_range] at this
    exact this
  exact aux L q h.srt fun y hy => by have := h.inn y hy; omega
end Pf


namespace Pf
open PySem PySem.Spec PyProof.Rows L2
/-! ### all strings of so many letters -/
def stS (L : List Nat) : Nat → List Str
  | 0 => [""]
  | n + 1 => (stS L n).flatMap fun s => L.map fun c => s ++ ⟨#[c]⟩
theorem stS_len (L : List Nat) : ∀ n, (stS L n).length = L.length ^ n
  | 0 => rfl
  | n + 1 => by
    rw [stS, flat_const (c := L.length) (fun s _ => List.length_map ..), stS_len L n, Nat.pow_succ]
theorem stS_of {x : Str} : ∀ (n : Nat), ∀ s ∈ stS x.cps.toList n, s.length = n ∧ Of x s
  | 0, s, h => by
    rw [List.mem_singleton.mp h]
    exact ⟨rfl, of_nil x⟩
  | n + 1, s, h => by
    obtain ⟨t, ht, h⟩ := List.mem_flatMap.mp h
    obtain ⟨c, hc, rfl⟩ := List.mem_map.mp h
    have ih := stS_of n t ht
    refine ⟨?_, Of.app ih.2 fun d hd => ?_⟩
    · rw [Str.length_append, ih.1]
      rfl
    · have : d = c := by simpa using hd
      rw [this]
      exact hc
def StAt (H1 : Hp) (D : Addr) (zs : List Str) (H : Hp) : Prop := H D = some (.lst (zs.map V.str)) ∧ Ext H1 H
def fbB (r : Rl) (x : Str) (qa : Fo) (al : Bool) (qf : Fo) : Bool := decide (woV r x qf < woV r x qa) || (al && (decide (woV r x qf = woV r x qa) && !PyData.eqv (dFo qf) (dFo qa)))
def fsB (r : Rl) (x : Str) (qa : Fo) (al : Bool) : Bool := (qa.map fun y => mayC r x y.1 y.2).all id && ((SF (WA r x x.length 0)).filter (fbB r x qa al)).isEmpty
def oS : Option Str → V
  | none => .non
  | some s => .str s
def wsV (r : Rl) (qa : Fo) (al : Bool) (n : Nat) : V := oS ((stS r.letters.cps.toList n).find? fun s => fsB r s qa al)
theorem int_eq_dec (a b : Int) : decide (V.int a = V.int b) = decide (a = b) := decide_eq_decide.mpr ⟨V.int.inj, congrArg V.int⟩
theorem shaped_fo {r : Rl} {x : Str} {q : Fo} (hx : x.length ≤ 12) (hq : q ∈ WA r x x.length 0) : SeqAt.shaped (dFo q) = true := by
  obtain ⟨h1, h2⟩ := WA_in r x x.length 0 q hq
  exact (sm_fo (by omega) fun y hy => by have := h1 y hy; omega).shaped (by decide)
section
variable {P : Program} {w : World} {K : PySem.W.Frag} {mg : Str → Option Value} {base : Heap}
theorem FunD.okW {x qual : Str} {params : Arguments} {body : List Stmt} {scope : Scope} {dvs : List V} {kws : List (Str × V)} {f : Addr} {fd : FuncData} {N ps : List Str} {k : Nat} {sp : Sp} (F : FunD K x qual params body scope dvs kws f fd) (S : FnScope N ps scope) (len : ∀ vs H Q E, sp vs H Q E → vs.length = ps.length)
    (hbody : ∀ (cdv : Value) (A : Around) (outer : List Env) (s : Shared) (H : Hp) (vs : List V) (Q : VK) (E : XK), Room k (A.deeper (envOfC qual scope s.heap.objs.size f cdv)) → sp vs H Q E →
      ∃ t, PSs (cxOf CX0 P w K mg base N qual scope f cdv A outer s H E).nox body t ∧ t { nx := fun _ H' => Q .non H', rt := Q } (L2.start N vs) H) : FnOk P w K mg base CX0 (k + 1) f fd ps sp :=
  F.ok S len fun cdv A outer s H vs Q E hr hsp => by
    obtain ⟨t, h, q⟩ := hbody cdv A outer s H vs Q E hr hsp
    exact ⟨t, h.nox, q⟩
abbrev s_strings_of : Stmt := topS 32
theorem sc_strings_of : FnScope ["rules", "length", "made", "turn", "string", "letter"] ["rules", "length"] (defScope s_strings_of) :=
  ⟨rfl, rfl, rfl, by decide +kernel, rfl, by decide +kernel, by decide +kernel⟩
def spSts : Sp := fun vs H Q _ => ∃ (v : V) (r : Rl) (n : Nat), vs = [v, .int (n : Nat)] ∧ RulesW H v r ∧ 1 ≤ r.letters.length ∧ n ≤ 12 ∧ r.letters.length ^ n ≤ 10000 ∧
  ∀ (l : Addr) (H' : Hp), H l = none → H' l = some (.lst ((stS r.letters.cps.toList n).map V.str)) → Ext H H' → Q (.ref l) H'
theorem ok_sts {f : Addr} {fd : FuncData} {k : Nat} (F : Fun K "strings_of" "strings_of" s_strings_of f fd) (mrange : mg "range" = none) : FnOk P w K mg base CX0 (k + 1) f fd ["rules", "length"] spSts := by
  refine F.ok sc_strings_of (fun vs H Q E h => ?_) (fun cdv A outer s H vs Q E hr h => ?_)
  · obtain ⟨v, r, n, rfl, _⟩ := h
    rfl
  · obtain ⟨v, r, n, rfl, hR, hl1, hn, hpw, q⟩ := h
    obtain ⟨a, vp, vl, vs, rfl, hA, hp, hlo, hs⟩ := id hR
    refine ⟨_, (pss_cons (ps_set (i := 2) sc_strings_of.nd rfl (.inl rfl) (pe_lst (pa_cons pe_str pa_nil)))
      (pss_cons (ps_for PassesOwn.never rfl (pi_range1 (by rfl) mrange (pa_cons (pv 1) pa_nil)) (pg_name (i := 3) sc_strings_of.nd rfl (.inl rfl)) (pss_one (ps_setLc2 (i := 2) (own := [("string", 4), ("letter", 5)]) (vs1 := [5]) (g := gName 4) (g1 := gName 5) (by rfl) sc_strings_of.nd rfl rfl (sw_true rfl rfl rfl (by decide +kernel)) (pi_list (pv 2)) (blkOk_by (own := [("string", 4), ("letter", 5)]) (N := ["rules", "length", "made", "turn", "string", "letter"]) (sc := defScope s_strings_of) (by decide +kernel)) (by decide) (fun _ _ _ _ _ => (pg_name (i := 4) sc_strings_of.nd rfl (.inl rfl))) (fun _ _ _ _ _ => pts_nil) (fun _ _ _ _ _ => (pi_str (pe_ix (ixT K) (pv 0) pe_int (fun _ _ => rfl)))) (fun _ _ _ _ _ => (pg_name (i := 5) sc_strings_of.nd rfl (.inl rfl))) (fun _ _ _ _ _ => pts_nil) (fun _ _ _ _ _ => (pe_op op_add_str (pv 4) (pv 5))))))
      (pss_one (ps_ret (pv 2))))), ?_⟩
    obtain ⟨L, hL⟩ : ∃ L, L = r.letters.cps.toList := ⟨_, rfl⟩
    have hLl : L.length = r.letters.length := by rw [hL]; exact Array.length_toList
    rw [← hL] at q
    have hmon : ∀ i, i ≤ n → L.length ^ i ≤ 10000 := fun i hi => by
      rw [hLl]
      exact Nat.le_trans (Nat.pow_le_pow_right hl1 hi) hpw
    refine ⟨szL (show 1 ≤ 1000000 by decide), fun l0 hl0 => ?_⟩
    refine ⟨_, rfl, (n : Int), rfl, by omega, by omega, for_range (lo := 0) (n := (n : Int).toNat) (fun i σ H2 => ∃ (y3 y4 y5 : Option V) (l : Addr), σ = [some (.ref a), some (.int n), some (.ref l), y3, y4, y5] ∧ H l = none ∧ StAt H l (stS L i) H2)
      ⟨none, none, none, l0, rfl, hl0, upd_same, Ext.new hl0⟩ (fun i σ H2 hi hv => ?_) (fun σ H2 hv => ?_)⟩
    · obtain ⟨y3, y4, y5, l, rfl, hl, hL2, k2⟩ := hv
      have hi2 : i + 1 ≤ n := by omega
      have hsl := stS_len L i
      have hm1 := hmon (i + 1) hi2
      rw [Nat.pow_succ, ← hsl] at hm1
      refine ⟨_, rfl, l, rfl, ⟨_, SqL.of hL2⟩, fun D hD => lc_two (walk_list (xs := (stS L i).map V.str)) (fun c H3 => StAt H2 D (((stS L i).take c).flatMap fun s => L.map fun c => s ++ ⟨#[c]⟩) H3)
        ⟨by rw [upd_same, List.take_zero]; rfl, Ext.new hD⟩ (fun c H3 _ h => SqL.of (h.2 _ _ hL2)) (fun c u H3 H3' hc hv hy => ?_) (fun H3 hv => ?_)⟩
      · obtain ⟨rfl, hu⟩ := hy
        obtain ⟨hD3, k3⟩ := hv
        rw [List.length_map] at hc
        obtain ⟨s, hs, rfl⟩ : ∃ s, (stS L i)[c]? = some s ∧ u = .str s := by
          rw [List.getElem?_map, List.getElem?_eq_getElem hc] at hu
          exact ⟨_, List.getElem?_eq_getElem hc, (Option.some.inj hu).symm⟩
        have hs2 : s.length = i := by
          have h := List.mem_of_getElem? hs
          rw [hL] at h
          exact (stS_of i s h).1
        have etk : ((stS L i).take (c + 1)).flatMap (fun s => L.map fun c => s ++ ⟨#[c]⟩) = ((stS L i).take c).flatMap (fun s => L.map fun c => s ++ ⟨#[c]⟩) ++ L.map fun c => s ++ ⟨#[c]⟩ := by
          rw [List.take_add_one, hs, List.flatMap_append]
          simp
        have hcl : (((stS L i).take c).flatMap fun s => L.map fun c => s ++ (⟨#[c]⟩ : Str)).length = c * L.length := by
          rw [flat_const (c := L.length) (fun s _ => List.length_map ..), List.length_take, Nat.min_eq_left (Nat.le_of_lt hc)]
        have hcb : (c + 1) * L.length ≤ (stS L i).length * L.length := Nat.mul_le_mul_right _ hc
        rw [Nat.succ_mul] at hcb
        refine ⟨rfl, _, rfl, a, _, 0, _, rfl, rfl, SqT.of (k3 _ _ (k2 _ _ hA)), rfl, r.letters, rfl, lc_in (walk_str (z := r.letters)) (fun d H4 => StAt H2 D (((stS L i).take c).flatMap (fun s => L.map fun c => s ++ ⟨#[c]⟩) ++ (L.take d).map fun c => s ++ ⟨#[c]⟩) H4)
          ⟨by rw [List.take_zero, List.map_nil, List.append_nil]; exact hD3, k3⟩ (fun _ _ _ _ => trivial) (fun d u H4 H4' hd hw hy => ?_) (fun H4 hw => ?_)⟩
        · obtain ⟨rfl, ch, hch, rfl⟩ := hy
          obtain ⟨hD4, k4⟩ := hw
          have hch2 : L[d]? = some ch := by
            rw [hL, Array.getElem?_toList]
            exact hch
          have hdl : d < L.length := (List.getElem?_eq_some_iff.mp hch2).1
          refine ⟨rfl, _, rfl, _, rfl, s, ⟨#[ch]⟩, rfl, rfl, szL ?_, _, hD4, szLt ?_, ?_, k4.put hD⟩
          · show s.length + 1 ≤ _
            omega
          · rw [List.length_map, List.length_append, hcl, List.length_map, List.length_take]
            omega
          · rw [upd_same, List.take_add_one, hch2]
            simp only [List.map_append, List.append_assoc]
            rfl
        · have e : L.take r.letters.cps.size = L := List.take_of_length_le (by rw [hL, Array.length_toList]; exact Nat.le_refl _)
          rw [e, ← etk] at hw
          exact hw
      · obtain ⟨hD3, k3⟩ := hv
        rw [List.take_of_length_le (by rw [List.length_map]; exact Nat.le_refl _)] at hD3
        exact ⟨_, _, _, D, rfl, k2.none hD, hD3, k2.trans k3⟩
    · obtain ⟨y3, y4, y5, l, rfl, hl, hL2, k2⟩ := hv
      rw [show ((n : Int)).toNat = n by omega] at hL2
      exact ⟨_, rfl, q l H2 hl hL2 k2⟩
abbrev CSts (P : Program) (w : World) (K : PySem.W.Frag) (mg : Str → Option Value) (base : Heap) : Prop := Ca P w K mg base 1 "strings_of" ["rules", "length"] spSts
abbrev s_forbids : Stmt := topS 33
theorem sc_forbids : FnScope ["rules", "string", "asked", "folding", "alone", "worth", "most"] ["rules", "string", "asked", "folding", "alone"] (defScope s_forbids) :=
  ⟨rfl, rfl, rfl, by decide +kernel, rfl, by decide +kernel, by decide +kernel⟩
def spForb : Sp := fun vs H Q _ => ∃ (v av fv : V) (r : Rl) (x : Str) (qa qf : Fo) (al : Bool), vs = [v, .str x, av, fv, .bl al] ∧ RulesW H v r ∧ RlOk r ∧ x.length ≤ 12 ∧ FoAt H av qa ∧ FoAt H fv qf ∧ qa ∈ WA r x x.length 0 ∧ qf ∈ WA r x x.length 0 ∧ ∀ H', Ext H H' → Q (.bl (fbB r x qa al qf)) H'
theorem ok_forb {f : Addr} {fd : FuncData} (F : Fun K "forbids" "forbids" s_forbids f fd) (cworth_of : CWO P w K mg base) : FnOk P w K mg base CX0 5 f fd ["rules", "string", "asked", "folding", "alone"] spForb := by
  refine F.ok sc_forbids (fun vs H Q E h => ?_) (fun cdv A outer s H vs Q E hr h => ?_)
  · obtain ⟨v, av, fv, r, x, qa, qf, al, rfl, _⟩ := h
    rfl
  · obtain ⟨v, av, fv, r, x, qa, qf, al, rfl, hR, ok, hx, hFa, hFf, ha, hf, q⟩ := h
    refine ⟨_, (pss_cons (ps_set (i := 5) sc_forbids.nd rfl (.inl rfl) (pe_ca cworth_of (hr.mono (by decide)) (by rfl) (pa_cons (pv 0) (pa_cons (pv 1) (pa_cons (pv 3) pa_nil)))))
      (pss_cons (ps_set (i := 6) sc_forbids.nd rfl (.inl rfl) (pe_ca cworth_of (hr.mono (by decide)) (by rfl) (pa_cons (pv 0) (pa_cons (pv 1) (pa_cons (pv 2) pa_nil)))))
      (pss_one (ps_ret (pe_or (pe_cmpR op_lt (pv 5) (pv 6) (nomark _)) (pe_one (pe_and (pv 4) (pe_and (pe_cmpR op_eq (pv 5) (pv 6) (nomark _)) (pe_one (pe_cmpR (neD K hr.units) (pv 3) (pv 2) (nomark _))))))))))), ?_⟩
    have tx : ∀ {q : Fo}, q ∈ WA r x x.length 0 → ∀ y ∈ q, tx2 x y ∈ r.prs.map (·.1) := fun hq y hy => may_mem ((fo4_of r x x.length 0 _ hq).may y hy)
    refine ⟨_, rfl, _, rfl, _, rfl, v, fv, r, x, qf, r, rfl, hR, ok, by omega, hFf, hx, hf, tx hf, fun H1 k1 => ?_⟩
    refine ⟨_, rfl, _, rfl, _, rfl, v, av, r, x, qa, r, rfl, RulesW.mono _ _ _ _ (TupK.ext k1) hR, ok, by omega, FoAt.mono _ _ _ _ (TupK.ext k1) hFa, hx, ha, tx ha, fun H2 k2 => ?_⟩
    have k02 := k1.trans k2
    have h := q H2 k02
    unfold fbB at h
    refine ⟨_, rfl, _, rfl, _, _, rfl, rfl, _, rfl, ite2 (fun e => ?_) (fun e => ?_)⟩
    · have e : decide (woV r x qf < woV r x qa) = true := e
      rw [e, Bool.true_or] at h
      exact h
    · have e : decide (woV r x qf < woV r x qa) = false := Bool.eq_false_iff.mpr e
      rw [e, Bool.false_or] at h
      refine ⟨_, rfl, _, rfl, ?_⟩
      cases al with
      | false => exact iteF h
      | true =>
        rw [Bool.true_and] at h
        refine iteT ⟨_, rfl, _, rfl, rfl, _, rfl, ?_⟩
        rw [int_eq_dec]
        by_cases e2 : woV r x qf = woV r x qa
        · rw [decide_eq_true e2, Bool.true_and] at h
          rw [decide_eq_true e2]
          refine iteT ⟨_, rfl, _, rfl, dFo qf, dFo qa, dp_fo (FoAt.mono _ _ _ _ (TupK.ext k02) hFf), dp_fo (FoAt.mono _ _ _ _ (TupK.ext k02) hFa), shaped_fo hx hf, shaped_fo hx ha, h⟩
        · rw [decide_eq_false e2, Bool.false_and] at h
          rw [decide_eq_false e2]
          exact iteF h
abbrev CForb (P : Program) (w : World) (K : PySem.W.Frag) (mg : Str → Option Value) (base : Heap) : Prop := Ca P w K mg base 5 "forbids" ["rules", "string", "asked", "folding", "alone"] spForb
abbrev s_all_forbidding : Stmt := topS 34
theorem sc_all_forbidding : FnScope ["rules", "string", "asked", "alone", "foldings", "folding"] ["rules", "string", "asked", "alone"] (defScope s_all_forbidding) :=
  ⟨rfl, rfl, rfl, by decide +kernel, rfl, by decide +kernel, by decide +kernel⟩
def spAFb : Sp := fun vs H Q _ => ∃ (v av : V) (r : Rl) (x : Str) (qa : Fo) (al : Bool), vs = [v, .str x, av, .bl al] ∧ RulesW H v r ∧ RlOk r ∧ x.length ≤ 12 ∧ Of r.letters x ∧ FoAt H av qa ∧ qa ∈ WA r x x.length 0 ∧
  ∀ (l : Addr) (us : List V) (H' : Hp), H l = none → H' l = some (.lst us) → Paired (FoAt H') us ((SF (WA r x x.length 0)).filter (fbB r x qa al)) → Ext H H' → Q (.ref l) H'
theorem ok_afb {f : Addr} {fd : FuncData} (F : Fun K "all_forbidding" "all_forbidding" s_all_forbidding f fd) (call_foldings : CAF P w K mg base) (cforbids : CForb P w K mg base) : FnOk P w K mg base CX0 6 f fd ["rules", "string", "asked", "alone"] spAFb := by
  refine F.ok sc_all_forbidding (fun vs H Q E h => ?_) (fun cdv A outer s H vs Q E hr h => ?_)
  · obtain ⟨v, av, r, x, qa, al, rfl, _⟩ := h
    rfl
  · obtain ⟨v, av, r, x, qa, al, rfl, hR, ok, hx, hO, hFa, ha, q⟩ := h
    refine ⟨_, (pss_cons (ps_set (i := 4) sc_all_forbidding.nd rfl (.inl rfl) (pe_ca call_foldings (hr.mono (by decide)) (by rfl) (pa_cons (pv 0) (pa_cons (pv 1) pa_nil))))
      (pss_one (ps_ret (pe_lc (own := [("folding", 5)]) (g := gName 5) (by rfl) sc_all_forbidding.nd (pi_list (pv 4)) (blkOk_by (own := [("folding", 5)]) (N := ["rules", "string", "asked", "alone", "foldings", "folding"]) (sc := defScope s_all_forbidding) (by decide +kernel)) (fun _ _ _ _ _ => (pg_name (i := 5) sc_all_forbidding.nd rfl (.inl rfl))) (fun _ _ _ _ _ => (pts_one (pt_val (pe_ca cforbids (hr.mono (by decide)) (by rfl) (pa_cons (pv 0) (pa_cons (pv 1) (pa_cons (pv 2) (pa_cons (pv 5) (pa_cons (pv 3) pa_nil))))))))) (fun _ _ _ _ _ => (pv 5)))))), ?_⟩
    refine ⟨_, rfl, _, rfl, v, r, x, rfl, hR, hx, hO, fun p ws H1 hp hp1 hP1 k1 => ?_⟩
    obtain ⟨SFL, hSF⟩ : ∃ L, L = SF (WA r x x.length 0) := ⟨_, rfl⟩
    have hperm : SFL.Perm (WA r x x.length 0) := hSF ▸ SF_perm _
    rw [← hSF] at hP1 q
    have hwl := paired_len hP1
    have hSl : SFL.length ≤ 15511 := by
      rw [hperm.length_eq]
      exact WA_len r x hx 0
    refine ⟨_, rfl, p, rfl, ⟨_, SqL.of hp1⟩, fun D hD => lc_list (K := K) (xs := ws) (fun c H2 => ∃ us, H2 D = some (.lst us) ∧ Paired (FoAt H2) us ((SFL.take c).filter (fbB r x qa al)) ∧ us.length ≤ c ∧ Ext H1 H2)
      ⟨[], upd_same, .nil, Nat.le_refl _, Ext.new hD⟩ (fun c H2 _ ⟨_, _, _, _, k⟩ => SqL.of (k _ _ hp1)) (fun c u H2 hc hv => ?_) (fun H2 hv => ?_)⟩
    · obtain ⟨us, hL, hP, hul, k2⟩ := hv
      obtain ⟨q1, hq1, hfo⟩ := paired_get hP1 hc
      have hmem : q1 ∈ WA r x x.length 0 := hperm.mem_iff.mp (List.mem_of_getElem? hq1)
      have cl : c < ws.length := (List.getElem?_eq_some_iff.mp hc).1
      have k02 := k1.trans k2
      have hfo2 := FoAt.mono _ _ _ _ (TupK.ext k2) hfo
      have etk : (SFL.take (c + 1)).filter (fbB r x qa al) = (SFL.take c).filter (fbB r x qa al) ++ if fbB r x qa al q1 = true then [q1] else [] := by
        rw [List.take_add_one, hq1, List.filter_append]
        congr 1
        exact filt_one _ _
      refine ⟨rfl, _, rfl, _, rfl, _, rfl, _, rfl, _, rfl, v, av, u, r, x, qa, q1, al, rfl, RulesW.mono _ _ _ _ (TupK.ext k02) hR, ok, hx, FoAt.mono _ _ _ _ (TupK.ext k02) hFa, hfo2, ha, hmem, fun H3 k3 => ⟨_, rfl, ?_⟩⟩
      rw [etk]
      cases hb : fbB r x qa al q1 with
      | true =>
        have hL3 := k3 _ _ hL
        refine iteT ⟨_, rfl, us, hL3, szLt (by omega), us ++ [u], upd_same, ?_, by rw [List.length_append, List.length_singleton]; omega, (k2.trans k3).put hD⟩
        exact (paired_imp (fun _ _ => FoAt.mono _ _ _ _ ((TupK.ext k3).trans (TupK.lst hL3))) hP).snoc (FoAt.mono _ _ _ _ ((TupK.ext k3).trans (TupK.lst hL3)) hfo2)
      | false =>
        refine iteF ⟨us, k3 _ _ hL, ?_, by omega, k2.trans k3⟩
        rw [if_neg Bool.false_ne_true, List.append_nil]
        exact paired_imp (fun _ _ => FoAt.mono _ _ _ _ (TupK.ext k3)) hP
    · obtain ⟨us, hL, hP, hul, k2⟩ := hv
      rw [List.take_of_length_le (by omega)] at hP
      exact q D us H2 (k1.none hD) hL hP (k1.trans k2)
abbrev CAFb (P : Program) (w : World) (K : PySem.W.Frag) (mg : Str → Option Value) (base : Heap) : Prop := Ca P w K mg base 6 "all_forbidding" ["rules", "string", "asked", "alone"] spAFb
theorem paired_empty {α β : Type} {R : α → β → Prop} {xs : List α} {ys : List β} (h : Paired R xs ys) : xs.isEmpty = ys.isEmpty := by
  cases h <;> rfl
end
end Pf


namespace Pf
open PySem PySem.Spec PyProof.Rows L2
section
variable {P : Program} {w : World} {K : PySem.W.Frag} {mg : Str → Option Value} {base : Heap}
abbrev s_law_may : Stmt := topS 41
theorem sc_law_may : FnScope ["_law_book", "_law_line", "_law_i", "_law_j", "_law_row"] ["_law_book", "_law_line", "_law_i", "_law_j"] (defScope s_law_may) :=
  ⟨rfl, rfl, rfl, by decide +kernel, rfl, by decide +kernel, by decide +kernel⟩
def spMayW : Sp := fun vs H Q _ => ∃ (v : V) (r : Rl) (x : Str) (i j : Int), vs = [v, .str x, .int i, .int j] ∧ RulesAt H v r ∧ RlOk r ∧ x.length ≤ 1000 ∧ 0 ≤ i ∧ i < x.length ∧ 0 ≤ j ∧ j < x.length ∧ ∀ H', Ext H H' → Q (.bl (mayC r x i j)) H'
theorem ok_mayW {f : Addr} {fd : FuncData} {k : Nat} (F : Fun K "_law_may" "_law_may" s_law_may f fd) : FnOk P w K mg base CX0 (k + 1) f fd ["_law_book", "_law_line", "_law_i", "_law_j"] spMayW := by
  refine F.ok sc_law_may (fun vs H Q E h => ?_) (fun cdv A outer s H vs Q E hr h => ?_)
  · obtain ⟨v, r, x, i, j, rfl, _⟩ := h
    rfl
  · obtain ⟨v, r, x, i, j, rfl, hR, ok, hx, i0, i1, j0, j1, q⟩ := h
    obtain ⟨a, vp, vl, vs, rfl, hA, ⟨ap, oz, pus, rfl, hp, hoz, hRp⟩, _, _⟩ := id hR
    refine ⟨_, (pss_one (ps_ret (pe_and (pe_cmpR (inSeq K) (pe_op op_add_str (pe_ix ix_str (pv 1) (pv 2) (fun _ _ => rfl)) (pe_ix ix_str (pv 1) (pv 3) (fun _ _ => rfl))) (pe_lc (own := [("_law_row", 4)]) (g := gName 4) (by rfl) sc_law_may.nd (pi_tup (pe_ix (ixT K) (pv 0) pe_int (fun _ _ => rfl))) (blkOk_by (own := [("_law_row", 4)]) (N := ["_law_book", "_law_line", "_law_i", "_law_j", "_law_row"]) (sc := defScope s_law_may) (by decide +kernel)) (fun _ _ _ _ _ => (pg_name (i := 4) sc_law_may.nd rfl (.inl rfl))) (fun _ _ _ _ _ => pts_nil) (fun _ _ _ _ _ => (pe_ix (ixT K) (pv 4) pe_int (fun _ _ => rfl)))) (by rfl)) (pe_one (pe_cmpR op_gt (pe_op op_sub (pv 3) (pv 2)) (pe_ix (ixT K) (pv 0) pe_int (fun _ _ => rfl)) (nomark _)))))), ?_⟩
    have hpl := paired_len hRp
    have hpr := ok.prs
    refine ⟨_, rfl, _, rfl, x, i, _, rfl, rfl, szL (by omega), sgn_at i0 i1, _, rfl, _, rfl, x, j, _, rfl, rfl, szL (by omega), sgn_at j0 j1, _, _, rfl, rfl, szL (show 1 + 1 ≤ 1000000 by decide), ?_⟩
    refine ⟨_, rfl, a, _, 1, _, rfl, rfl, SqT.of hA, rfl, ap, rfl, ⟨_, SqT.fz hp⟩, fun D hD => lc_tup (K := K) (xs := pus) (fun c H2 => H2 D = some (.lst (((r.prs.take c).map (·.1)).map V.str)) ∧ Ext H H2)
      ⟨upd_same, Ext.new hD⟩ (fun c H2 _ ⟨_, k⟩ => SqT.fz (k _ _ hp)) (fun c u H2 hc hv => ?_) (fun H2 hv => ?_)⟩
    · obtain ⟨hL, k2⟩ := hv
      obtain ⟨y, hy, a1, rfl, ha1⟩ := paired_get hRp hc
      refine ⟨rfl, _, rfl, a1, _, 0, _, rfl, rfl, SqT.of (k2 _ _ ha1), rfl, _, hL, szLt ?_, ?_, k2.put hD⟩
      · rw [List.length_map, List.length_map, List.length_take]
        omega
      · rw [upd_same, List.take_add_one, hy, List.map_append, List.map_append]
        rfl
    obtain ⟨hL, k2⟩ := hv
    rw [List.take_of_length_le (by omega)] at hL
    refine ⟨D, _, rfl, .inl (SqL.of hL), rfl, ?_, _, rfl, ?_⟩
    · rw [List.all_map]
      exact List.all_eq_true.mpr fun z _ => rfl
    have h := q H2 k2
    unfold mayC at h
    have e2 : inV (.str (sgn x i ++ sgn x j)) ((r.prs.map (·.1)).map V.str) = decide (tx2 x (i, j) ∈ r.prs.map (·.1)) := inV_keys
    refine ite2 (fun e => ?_) (fun e => ?_)
    · have e : inV (.str (sgn x i ++ sgn x j)) ((r.prs.map (·.1)).map V.str) = true := e
      rw [← e2, e, Bool.and_true] at h
      exact ⟨_, rfl, _, rfl, _, _, rfl, rfl, _, rfl, a, _, 2, _, rfl, rfl, SqT.of (k2 _ _ hA), rfl, _, _, rfl, rfl, h⟩
    · have e : inV (.str (sgn x i ++ sgn x j)) ((r.prs.map (·.1)).map V.str) = false := Bool.eq_false_iff.mpr e
      rw [← e2, e, Bool.and_false] at h
      exact h
abbrev CMayW (P : Program) (w : World) (K : PySem.W.Frag) (mg : Str → Option Value) (base : Heap) : Prop := Ca P w K mg base 1 "_law_may" ["_law_book", "_law_line", "_law_i", "_law_j"] spMayW
abbrev s_law_all : Stmt := topS 42
theorem sc_law_all : FnScope ["_law_book", "_law_line", "_law_first", "_law_last", "_law_found", "_law_k", "_law_behind", "_law_one", "_law_other"] ["_law_book", "_law_line", "_law_first", "_law_last"] (defScope s_law_all) :=
  ⟨rfl, rfl, rfl, by decide +kernel, rfl, by decide +kernel, by decide +kernel⟩
def spAll (d : Nat) : Sp := fun vs H Q _ => ∃ (v : V) (r : Rl) (x : Str) (a b : Int), vs = [v, .str x, .int a, .int b] ∧ RulesAt H v r ∧ RlOk r ∧ x.length ≤ 12 ∧ 0 ≤ a ∧ a ≤ b ∧ b ≤ x.length ∧ (b - a).toNat < d ∧
  ∀ (l : Addr) (us : List V) (H' : Hp), H l = none → H' l = some (.lst us) → Paired (FoAt H') us (WA r x (b - a).toNat a) → Ext H H' → Q (.ref l) H'
theorem ok_all {f : Addr} {fd : FuncData} (F : Fun K "_law_all" "_law_all" s_law_all f fd) (bF : Binds K fd ["_law_book", "_law_line", "_law_first", "_law_last"] []) (gF : mg "_law_all" = some (.ref f)) (c_law_may : CMayW P w K mg base) (mrange : mg "range" = none) :
    ∀ d : Nat, FnOk P w K mg base CX0 (2 + d) f fd ["_law_book", "_law_line", "_law_first", "_law_last"] (spAll d)
  | 0 => ⟨fun vs H Q E h => by
      obtain ⟨v, r, x, a, b, rfl, _⟩ := h
      rfl, fun A outer s H args us vs Q E _ _ _ _ h => by
      obtain ⟨v, r, x, a, b, _, _, _, _, _, _, _, h2, _⟩ := h
      omega⟩
  | d + 1 => by
    have c_law_all : Ca P w K mg base (2 + d) "_law_all" ["_law_book", "_law_line", "_law_first", "_law_last"] (spAll d) := ⟨f, fd, ok_all F bF gF c_law_may mrange d, gF, F.kp, bF⟩
    refine F.ok (k := 2 + d) sc_law_all (fun vs H Q E h => ?_) (fun cdv A outer s H vs Q E hr h => ?_)
    · obtain ⟨v, r, x, a, b, rfl, _⟩ := h
      rfl
    · obtain ⟨v, r, x, a, b, rfl, hR, ok, hx, a0, ab, bx, hd, q⟩ := h
      refine ⟨_, (pss_cons (ps_if (pt_cmpR op_lt (pe_op op_sub (pv 3) (pv 2)) pe_int (nomark _)) (pss_one (ps_ret (pe_lst (pa_cons (pe_tup pa_nil) pa_nil)))) pss_nil)
      (pss_cons (ps_set (i := 4) sc_law_all.nd rfl (.inl rfl) (pe_ca c_law_all (hr.mono (by omega)) (by rfl) (pa_cons (pv 0) (pa_cons (pv 1) (pa_cons (pe_op op_add (pv 2) pe_int) (pa_cons (pv 3) pa_nil))))))
      (pss_cons (ps_for PassesOwn.never rfl (pi_range2 (by rfl) mrange (pa_cons (pe_op op_add (pv 2) pe_int) (pa_cons (pv 3) pa_nil))) (pg_name (i := 5) sc_law_all.nd rfl (.inr rfl)) (pss_one (ps_if (pt_val (pe_ca c_law_may (hr.mono (by omega)) (by rfl) (pa_cons (pv 0) (pa_cons (pv 1) (pa_cons (pv 2) (pa_cons (pv 5) pa_nil)))))) (pss_cons (ps_set (i := 6) sc_law_all.nd rfl (.inl rfl) (pe_ca c_law_all (hr.mono (by omega)) (by rfl) (pa_cons (pv 0) (pa_cons (pv 1) (pa_cons (pe_op op_add (pv 5) pe_int) (pa_cons (pv 3) pa_nil))))))
      (pss_one (ps_for PassesOwn.never rfl (pi_list (pe_ca c_law_all (hr.mono (by omega)) (by rfl) (pa_cons (pv 0) (pa_cons (pv 1) (pa_cons (pe_op op_add (pv 2) pe_int) (pa_cons (pv 5) pa_nil)))))) (pg_name (i := 7) sc_law_all.nd rfl (.inr rfl)) (pss_one (ps_set (i := 4) sc_law_all.nd rfl (.inl rfl) (pe_op op_cat (pv 4) (pe_lc (own := [("_law_other", 8)]) (g := gName 8) (by rfl) sc_law_all.nd (pi_list (pv 6)) (blkOk_by (own := [("_law_other", 8)]) (N := ["_law_book", "_law_line", "_law_first", "_law_last", "_law_found", "_law_k", "_law_behind", "_law_one", "_law_other"]) (sc := defScope s_law_all) (by decide +kernel)) (fun _ _ _ _ _ => (pg_name (i := 8) sc_law_all.nd rfl (.inl rfl))) (fun _ _ _ _ _ => pts_nil) (fun _ _ _ _ _ => (pe_op (catE K) (pe_op (catE K) (pe_tup (pa_cons (pe_tup (pa_cons (pv 2) (pa_cons (pv 5) pa_nil))) pa_nil)) (pv 7)) (pv 8)))))))))) pss_nil)))
      (pss_one (ps_ret (pv 4)))))), ?_⟩
      refine ⟨_, rfl, _, rfl, _, _, rfl, rfl, _, _, rfl, rfl, _, rfl, ite2 (fun e => ?_) (fun e => ?_)⟩
      · have e : b ≤ a + 1 := by
          have : b - a < 2 := of_decide_eq_true e
          omega
        refine ⟨Nat.zero_le _, fun t ht => ⟨szL (show 1 ≤ 1000000 by decide), fun l hl => ?_⟩⟩
        have x1 := Ext.new (o := .tup []) ht
        have x2 := Ext.new (o := .lst [.ref t]) hl
        refine q l [.ref t] _ (x1.none hl) upd_same ?_ (x1.trans x2)
        have ew : WA r x (b - a).toNat a = [[]] := by
          by_cases c : b = a
          · rw [show (b - a).toNat = 0 by omega]
            rfl
          · rw [show (b - a).toNat = 1 by omega]
            exact WA_one r x a
        rw [ew]
        exact .cons ⟨t, [], rfl, x2 _ _ upd_same, .nil⟩ .nil
      · have e : ¬ b ≤ a + 1 := fun z => e (decide_eq_true (show b - a < 2 by omega))
        have hab : (b - (a + 1)).toNat + 1 = (b - a).toNat := by omega
        rw [← hab, WA_succ] at q
        obtain ⟨n, hn⟩ : ∃ n, n = (b - (a + 1)).toNat := ⟨_, rfl⟩
        have hn12 : n + 1 ≤ 12 := by omega
        have wl := WA_len r x (n := n + 1) (by omega) a
        rw [WA_succ, List.length_append] at wl
        refine ⟨_, rfl, _, rfl, _, rfl, a, 1, rfl, rfl, _, rfl, v, r, x, a + 1, b, rfl, hR, ok, hx, by omega, by omega, bx, by omega, fun l1 us1 H1 hl1 hL1 hP1 k1 => ?_⟩
        rw [← hn] at hP1 q
        have rulE : ∀ {H' : Hp}, Ext H H' → RulesAt H' v r := fun k => RulesAt.mono _ _ _ _ (TupK.ext k) hR
        refine ⟨_, rfl, a, 1, rfl, rfl, _, rfl, a + 1, b, rfl, ⟨by omega, by omega, by omega, by omega⟩, for_range (lo := a + 1) (n := (b - (a + 1)).toNat) (fun t σ H2 => ∃ (y5 y6 y7 : Option V) (l : Addr) (us : List V), σ = [some v, some (.str x), some (.int a), some (.int b), some (.ref l), y5, y6, y7, none] ∧ H l = none ∧ H2 l = some (.lst us) ∧ Paired (FoAt H2) us (WA r x n (a + 1) ++ (List.range t).flatMap fun t => seg r x (WA r x) n a t) ∧ Ext H H2)
          ⟨none, none, none, l1, us1, rfl, hl1, hL1, by rw [List.range_zero, List.flatMap_nil, List.append_nil]; exact hP1, k1⟩ (fun t σ H2 ht hv => ?_) (fun σ H2 hv => ?_)⟩
        · obtain ⟨y5, y6, y7, l, us, rfl, hl, hL2, hP2, k2⟩ := hv
          have ht' : t < n := by omega
          have eflat : (List.range (t + 1)).flatMap (fun t => seg r x (WA r x) n a t) = (List.range t).flatMap (fun t => seg r x (WA r x) n a t) ++ seg r x (WA r x) n a t := by
            rw [List.range_succ, List.flatMap_append]
            simp
          have esub : ((List.range (t + 1)).flatMap fun t => seg r x (WA r x) n a t).length ≤ ((List.range n).flatMap fun t => seg r x (WA r x) n a t).length := by
            rw [flat_len, flat_len]
            have : (List.range n) = List.range (t + 1) ++ (List.range (n - (t + 1))).map (fun y => (t + 1) + y) := by
              rw [← List.range_add]
              congr 1
              omega
            rw [this, List.map_append, List.sum_append]
            omega
          refine ⟨_, rfl, _, rfl, _, rfl, _, rfl, v, r, x, a, a + 1 + t, rfl, rulE k2, ok, by omega, a0, by omega, by omega, by omega, fun H3 k3 => ⟨_, rfl, ite2 (fun em => ?_) (fun em => ?_)⟩⟩
          · have k03 := k2.trans k3
            have es : seg r x (WA r x) n a t = (WA r x t (a + 1)).flatMap fun one => (WA r x (n - 1 - t) (a + 2 + t)).map fun other => (a, a + 1 + t) :: (one ++ other) := by
              unfold seg
              rw [if_pos em]
            rw [eflat, es, List.length_append] at esub
            -- behind, inner
            refine ⟨_, rfl, _, rfl, _, rfl, a + 1 + t, 1, rfl, rfl, _, rfl, v, r, x, a + 1 + t + 1, b, rfl, rulE k03, ok, hx, by omega, by omega, by omega, by omega, fun l5 us5 H4 hl5 hL5 hP5 k4 => ?_⟩
            rw [show (b - (a + 1 + (t : Int) + 1)).toNat = n - 1 - t by omega, show a + 1 + (t : Int) + 1 = a + 2 + t by omega] at hP5
            refine ⟨_, rfl, _, rfl, _, rfl, a, 1, rfl, rfl, _, rfl, v, r, x, a + 1, a + 1 + t, rfl, rulE (k03.trans k4), ok, hx, by omega, by omega, by omega, by omega, fun l4 us4 H5 hl4 hL4 hP4 k5 => ?_⟩
            rw [show (a + 1 + (t : Int) - (a + 1)).toNat = t by omega] at hP4
            have k05 := (k03.trans k4).trans k5
            have k35 := k4.trans k5
            have hL5' := k5 _ _ hL5
            have hP5' := paired_imp (fun _ _ => FoAt.mono _ _ _ _ (TupK.ext k5)) hP5
            have h4l := paired_len hP4
            have h5l := paired_len hP5
            refine ⟨l4, rfl, ⟨_, SqL.of hL4⟩, for_list (K := K) (xs := us4) (fun j σ H6 => ∃ (y7 : Option V) (l : Addr) (us : List V), σ = [some v, some (.str x), some (.int a), some (.int b), some (.ref l), some (.int (a + 1 + (t : Int))), some (.ref l5), y7, none] ∧ H l = none ∧ H6 l = some (.lst us) ∧ Paired (FoAt H6) us ((WA r x n (a + 1) ++ (List.range t).flatMap fun t => seg r x (WA r x) n a t) ++ ((WA r x t (a + 1)).take j).flatMap fun one => (WA r x (n - 1 - t) (a + 2 + t)).map fun other => (a, a + 1 + t) :: (one ++ other)) ∧ Ext H5 H6)
              ⟨y7, l, us, rfl, hl, k35 _ _ (k3 _ _ hL2), by rw [List.take_zero, List.flatMap_nil, List.append_nil]; exact paired_imp (fun _ _ => FoAt.mono _ _ _ _ (TupK.ext (k3.trans k35))) hP2, Ext.refl⟩ (fun j σ H6 _ ⟨_, _, _, _, _, _, _, k⟩ => SqL.of (k _ _ hL4)) (fun j u σ H6 hj hv => ?_) (fun σ H6 hv => ?_)⟩
            · obtain ⟨y7, l, us, rfl, hl, hL6, hP6, k6⟩ := hv
              obtain ⟨one, hone, t1, fs1, rfl, hT1, hF1⟩ := paired_get hP4 hj
              have k46 := k6
              have hjl : j < (WA r x t (a + 1)).length := (List.getElem?_eq_some_iff.mp hone).1
              -- the comprehension
              refine ⟨_, rfl, _, rfl, l5, rfl, ⟨_, SqL.of (k6 _ _ hL5')⟩, fun D hD => lc_list (K := K) (xs := us5) (GenP FoAt D H6 ((WA r x (n - 1 - t) (a + 2 + t)).map fun other => (a, a + 1 + (t : Int)) :: (one ++ other))) (gen_new hD) (fun i H7 _ h => SqL.of (h.ext _ _ (k6 _ _ hL5'))) (fun i u H7 hi hv => ?_) (fun H7 hv => ?_)⟩
              · obtain ⟨other, hother, t2, fs2, rfl, hT2, hF2⟩ := paired_get hP5' hi
                have k7 := hv.ext
                have k67 := k6.trans k7
                have hone1 := (WA_in r x t (a + 1) one (List.mem_of_getElem? hone)).2
                have hoth1 := (WA_in r x (n - 1 - t) (a + 2 + t) other (List.mem_of_getElem? hother)).2
                have f1l := paired_len hF1
                have f2l := paired_len hF2
                refine ⟨rfl, _, rfl, _, rfl, szL (show 2 ≤ 1000000 by decide), fun tp htp => ⟨szL (show 1 ≤ 1000000 by decide), fun tq htq => ?_⟩⟩
                have x8 := Ext.new (o := .tup [.int a, .int (a + 1 + (t : Int))]) htp
                have x9 := Ext.new (o := .tup [.ref tp]) htq
                have x89 := x8.trans x9
                refine ⟨_, rfl, tq, t1, _, fs1, rfl, rfl, upd_same, (k46.trans (k7.trans x89)) _ _ hT1, szL (by rw [List.length_singleton]; omega), fun p10 H10 k10 hp10 => ?_⟩
                refine ⟨_, rfl, p10, t2, _, fs2, rfl, rfl, hp10, (k67.trans (x89.trans k10)) _ _ hT2, szL (by rw [List.length_append, List.length_singleton]; omega), fun p11 H11 k11 hp11 => ?_⟩
                have kk := x89.trans (k10.trans k11)
                refine gen_step FoAt.mono hD hv kk (b := (a, a + 1 + (t : Int)) :: (one ++ other)) ⟨p11, _, rfl, hp11, ?_⟩ ?_ ?_
                · have eap : [V.ref tp] ++ fs1 ++ fs2 = V.ref tp :: (fs1 ++ fs2) := rfl
                  rw [eap]
                  refine .cons ⟨tp, rfl, (x9.trans (k10.trans k11)) _ _ upd_same⟩ (paired_app (paired_imp (fun _ _ => TwoAt.mono _ _ _ _ (TupK.ext (k46.trans (k7.trans kk)))) hF1) (paired_imp (fun _ _ => TwoAt.mono _ _ _ _ (TupK.ext (k67.trans kk))) hF2))
                · rw [List.getElem?_map, hother]
                  rfl
                · rw [List.length_map]
                  have := WA_len r x (n := n - 1 - t) (by omega) (a + 2 + t)
                  omega
              obtain ⟨vs7, hL7, hP7, k7⟩ := gen_end hv (by rw [List.length_map]; omega)
              clear hv
              have h6l := paired_len hP6
              have h7l := paired_len hP7
              rw [List.length_map] at h7l
              have etake : ((WA r x t (a + 1)).take (j + 1)).flatMap (fun one => (WA r x (n - 1 - t) (a + 2 + t)).map fun other => (a, a + 1 + (t : Int)) :: (one ++ other)) = ((WA r x t (a + 1)).take j).flatMap (fun one => (WA r x (n - 1 - t) (a + 2 + t)).map fun other => (a, a + 1 + (t : Int)) :: (one ++ other)) ++ (WA r x (n - 1 - t) (a + 2 + t)).map fun other => (a, a + 1 + (t : Int)) :: (one ++ other) := by
                rw [List.take_add_one, hone, List.flatMap_append]
                simp
              have esz : us.length + vs7.length ≤ 15511 := by
                have e1 : (((WA r x t (a + 1)).take (j + 1)).flatMap (fun one => (WA r x (n - 1 - t) (a + 2 + t)).map fun other => (a, a + 1 + (t : Int)) :: (one ++ other))).length ≤ ((WA r x t (a + 1)).flatMap (fun one => (WA r x (n - 1 - t) (a + 2 + t)).map fun other => (a, a + 1 + (t : Int)) :: (one ++ other))).length := by
                  rw [flat_const (c := (WA r x (n - 1 - t) (a + 2 + t)).length) (fun y _ => List.length_map ..), flat_const (c := (WA r x (n - 1 - t) (a + 2 + t)).length) (fun y _ => List.length_map ..)]
                  exact Nat.mul_le_mul_right _ (by rw [List.length_take]; omega)
                rw [etake, List.length_append, List.length_map] at e1
                rw [List.length_append, List.length_append] at h6l
                omega
              refine ⟨l, D, us, vs7, rfl, rfl, k7 _ _ hL6, hL7, szL (by omega), fun l8 hl8 => ?_⟩
              have x8 := Ext.new (o := .lst (us ++ vs7)) hl8
              refine ⟨_, l8, us ++ vs7, rfl, (k05.trans (k6.trans k7)).none hl8, upd_same, ?_, (k6.trans k7).trans x8⟩
              rw [etake, ← List.append_assoc]
              exact paired_app (paired_imp (fun _ _ => FoAt.mono _ _ _ _ (TupK.ext (k7.trans x8))) hP6) (paired_imp (fun _ _ => FoAt.mono _ _ _ _ (TupK.ext x8)) hP7)
            · obtain ⟨y7, l, us, rfl, hl, hL6, hP6, k6⟩ := hv
              rw [List.take_of_length_le (by omega)] at hP6
              refine ⟨_, _, _, l, us, rfl, hl, hL6, ?_, k05.trans k6⟩
              rw [eflat, es, ← List.append_assoc]
              exact hP6
          · have es : seg r x (WA r x) n a t = [] := by
              unfold seg
              rw [if_neg em]
            refine ⟨_, _, _, l, us, rfl, hl, k3 _ _ hL2, ?_, k2.trans k3⟩
            rw [eflat, es, List.append_nil]
            exact paired_imp (fun _ _ => FoAt.mono _ _ _ _ (TupK.ext k3)) hP2
        · obtain ⟨y5, y6, y7, l, us, rfl, hl, hL2, hP2, k2⟩ := hv
          rw [← hn] at hP2
          exact ⟨_, rfl, q l us H2 hl hL2 hP2 k2⟩
abbrev CAllW (P : Program) (w : World) (K : PySem.W.Frag) (mg : Str → Option Value) (base : Heap) : Prop := Ca P w K mg base 15 "_law_all" ["_law_book", "_law_line", "_law_first", "_law_last"] (spAll 13)
end
end Pf


namespace Pf
open PySem PySem.Spec PyProof.Rows L2
/-! ### a tuple's items, gathered -/
section
variable {prog : Program} {w : World} {A : Around} {E : Value → Shared → Prop} {s : Shared}
theorem gather_tup {a : Addr} {us : List Value} {Q : List Value → Shared → Prop} (ht : s.heap.IsTuple a us.toArray) (hz : us.length ≤ sizeLine)
    (q : Q us { s with heap := (s.heap.push (seqObj "list" #[] 0)).update s.heap.objs.size (Obj.mapSeq (· ++ us.toArray)) }) : wpAny (model prog w) A (collect (.ref a)) Q E s := by
  obtain ⟨ob, hob, hcl, n, hda⟩ := id ht
  have hob1 : (s.heap.push (seqObj "list" #[] 0)).get? a = some ob := Heap.get?_push_of_some _ hob
  have hnew : (s.heap.push (seqObj "list" #[] 0)).get? s.heap.objs.size = some (seqObj "list" #[] 0) := Heap.get?_push_size _ rfl
  unfold collect
  refine wpAny_bind (wpAny_runValue ?_)
  refine codeAny_builtin entry_proto_collect' ?_
  show wpAny _ _ (do again (.builtin "list.__iadd__" ⟨[← newList [], .ref a], []⟩)) _ _ s
  refine wpAny_bind (wpAny_newList (wpAny_pure ⟨Code.quiet_builtin _ (by decide +kernel), ?_⟩))
  refine codeAny_builtin entry_list_iadd' ?_
  show wpAny _ _ (Builtin.List.listExtendWith (.ref s.heap.objs.size) (.ref a) _) _ _ { s with heap := s.heap.push (seqObj "list" #[] 0) }
  unfold Builtin.List.listExtendWith
  refine wpAny_bind (wpAny_typeOf (T := "tuple") ⟨ob, hob1, hcl⟩ ?_)
  rw [if_pos (by rw [show (Value.type "tuple" == Value.type "tuple") = true from rfl, Bool.or_true])]
  refine wpAny_bind (listItems_at hob1 hda ?_)
  refine wpAny_bind (listItems_at (xs := #[]) (n := 0) hnew rfl ?_)
  rw [if_neg (by simp)]
  have hsz : ((#[] : Array Value) ++ us.toArray).size ≤ sizeLine + 1 := by
    rw [Array.size_append, List.size_toArray]
    show 0 + us.length ≤ _
    omega
  refine wpAny_bind (listUpdate_at (xs := #[]) (n := 0) hnew rfl ?_ (Nat.zero_le _) hsz)
  refine wpAny_pure ?_
  refine wpAny_bind (wpAny_load (get?_update_seq hnew _) ?_)
  have e : ((#[] : Array Value) ++ us.toArray).toList = us := by simp
  show wpAny _ _ (pure ((#[] : Array Value) ++ us.toArray).toList) Q E _
  rw [e]
  exact wpAny_pure q
theorem sorted_tup {β : Type} {R : Value → β → Prop} {enc : β → PyData} {a : Addr} {us : List Value} {bs : List β} {Q : Value → Shared → Prop} (ht : s.heap.IsTuple a us.toArray) (e : PySem.W.EachIs R us bs) (er : PySem.W.EachIs (fun v b => ∃ as, Reads s.heap v (enc b) as) us bs) (al : PySem.W.AllAlike (bs.map enc)) (so : PySem.W.Sortable (bs.map enc))
    (hz : bs.length ≤ sizeLine) (hu : ∀ b, b ∈ bs → A.units + 2 + (enc b).depth < cLine) (q : ∀ out, out.length = bs.length → PySem.W.EachIs R out (bs.mergeSort (PySem.W.dataLe false enc)) → Q (.ref (s.heap.objs.size + 1)) { s with heap := sortedAll s.heap us out.toArray }) :
    wpAny (model prog w) A (call (.builtin "sorted") [.ref a]) Q E s := by
  have hul : us.length ≤ sizeLine := by
    rw [e.length]
    exact hz
  refine Calls.call_function_entry kind_sorted plain_sorted
    entry_sorted (args_sorted1 _) ?_
  unfold Builtin.«sorted»
  refine wpAny_bind (m := checkCount "sorted" 1 1 _) (wpAny_pure ?_)
  refine wpAny_bind (gather_tup ht hul ?_)
  refine wpAny_bind (wpAny_newList ?_ hul)
  have hsz : ((s.heap.push (seqObj "list" #[] 0)).update s.heap.objs.size (Obj.mapSeq (· ++ us.toArray))).objs.size = s.heap.objs.size + 1 := by
    rw [Heap.size_update, size_push']
  have er2 : PySem.W.EachIs (fun v b => ∃ as, Reads (PySem.W.copyHeap s.heap us) v (enc b) as ∧ s.heap.objs.size + 1 ∉ as) us bs := er.mono fun v b ⟨as, r⟩ => by
    refine ⟨as, PyProof.Rows.Reads.keeps (fun _ _ h => PySem.W.copyHeap_old h) r, fun hm => ?_⟩
    obtain ⟨o, ho⟩ := PyProof.On.reads_mem_get r _ hm
    exact absurd (Nat.lt_of_succ_lt (Heap.lt_size ho)) (Nat.lt_irrefl _)
  show wpAny _ _ _ _ _ { s with heap := PySem.W.copyHeap s.heap us }
  rw [hsz]
  refine wpAny_bind (wpAny_holding (PySem.W.list_sort_data (s := { s with heap := PySem.W.copyHeap s.heap us }) (PySem.W.copyHeap_at s.heap us) e er2 al so hz (fun b hb => ?_) fun out h1 h2 => ?_))
  · have := hu b hb
    have e1 : A.in1.units = A.units + 1 := rfl
    rw [e1]
    exact this
  · exact wpAny_pure ⟨_, rfl, q out h1 h2⟩
end
def rSortTD (K : PySem.W.Frag) : List V → Hp → VK → Prop := fun vs H Q => ∃ (β : Type) (v : β → V) (d : β → PyData) (a : Addr) (bs : List β), vs = [.ref a] ∧ SqT K H a (bs.map v) ∧ (∀ b ∈ bs, Dp K H (v b) (d b) ∧ (d b).depth ≤ 50) ∧
  PySem.W.AllAlike (bs.map d) ∧ PySem.W.Sortable (bs.map d) ∧ ∀ p, H p = none → Q (.ref p) (upd H p (.lst ((bs.mergeSort (PySem.W.dataLe false d)).map v)))
/-- sorted(xs), xs a tuple of data -/
theorem cr_sortTD (K : PySem.W.Frag) {X : Cx} (hu : X.A.units + 64 < cLine) (hK : X.K = K := by rfl) : CallR X (.builtin "sorted") (rSortTD K) := by
  subst hK
  intro pins s σ H vs us Q I r h
  obtain ⟨β, v, d, a, bs, rfl, hs, hd, al, so, q⟩ := h
  obtain ⟨u, rfl, rfl⟩ := vals1 r
  obtain ⟨its, rv, ht, hz⟩ := I.tuple hs
  rw [List.length_map] at hz
  refine sorted_tup (enc := d) (R := fun (u : Value) (b : β) => RelV (v b) u) (show s.heap.IsTuple a its.toArray from ht) (each_vals rv) (each_reads I rv fun b hb => (hd b hb).1) al so hz (fun b hb => by have := (hd b hb).2; omega) fun out hlen he => ?_
  obtain ⟨ep, he'⟩ := PyProof.Rows.sortedAll_at s.heap its out.toArray
  have hlen2 : ((bs.mergeSort (PySem.W.dataLe false d)).map v).length ≤ sizeLine := by
    rw [List.length_map, List.length_mergeSort]
    exact hz
  exact ⟨.ref _, upd H (s.heap.objs.size + 1) (.lst ((bs.mergeSort (PySem.W.dataLe false d)).map v)), I.laid (t' := s.toks) (fun _ _ => PyProof.Rows.sortedAll_old) (Nat.le_succ _) ⟨hlen2, out, ep, vals_each he, by simpa using he'⟩, rfl, q _ (I.hok.fresh (Nat.le_succ _))⟩
def rSortLT (K : PySem.W.Frag) : List V → Hp → VK → Prop := fun vs H Q => rSortD K vs H Q ∨ rSortTD K vs H Q
/-- sorted(xs), xs a list or a tuple of data -/
theorem cr_sortLT (K : PySem.W.Frag) {X : Cx} (hu : X.A.units + 64 < cLine) (hK : X.K = K := by rfl) : CallR X (.builtin "sorted") (rSortLT K) := fun pins s σ H vs us Q I r h => h.elim (cr_sortD K hu hK pins s σ H vs us Q I r) (cr_sortTD K hu hK pins s σ H vs us Q I r)
/-! ### going through a list or a tuple -/
def iSeq (K : PySem.W.Frag) (tl : TE) : TI := fun σ H R => tl σ H fun x H1 => ∃ a, x = .ref a ∧ (((∃ xs, SqL K H1 a xs) ∧ R (Itl K a) H1) ∨ ((∃ xs, SqT K H1 a xs) ∧ R (Itt K a) H1))
theorem pi_seq {X : Cx} {tg l : Expr} {tl : TE} (K : PySem.W.Frag) (hl : PE X l tl) (hK : X.K = K := by rfl) : PI X tg l (iSeq K tl) := by
  subst hK
  refine ⟨fun pins s σ H R I h => ?_⟩
  have h1 := hl.run pins s σ H _ I h
  refine thn h1 fun v s1 ⟨x, H1, I1, r1, q1⟩ => ?_
  obtain ⟨a, rfl, ⟨hq, q⟩ | ⟨hq, q⟩⟩ := q1
  · obtain ⟨xs, hq⟩ := hq
    cases r1
    obtain ⟨its, rv, hp, hz⟩ := I1.list hq
    refine wpAny_pyIter_list hp.isList ?_
    have kk := I1.kept (h' := s1.heap.push { cls := .type "list_iterator", data := .fields #[.ref a, .int 0 0] }) (t' := s1.toks) fun b o e => Heap.get?_push_of_some _ e
    exact ⟨s1.heap.objs.size, [s1.heap.objs.size], _, _, H1, rfl, kk, turn_list a _, ⟨_, Heap.get?_push_size _ rfl, rfl, rfl⟩, fun b hb => by
      rw [show b = s1.heap.objs.size by simpa using hb]
      exact I1.fpOk (Nat.le_refl s1.heap.objs.size) (I1.hok.fresh (Nat.le_refl _)), q⟩
  · obtain ⟨xs, hq⟩ := hq
    cases r1
    obtain ⟨its, rv, hp, hz⟩ := I1.tuple hq
    refine wpAny_pyIter_tuple (show s1.heap.IsTuple a its.toArray from hp) ?_
    exact ⟨s1.heap.objs.size, [s1.heap.objs.size], _, _, H1, rfl, I1.kept (t' := s1.toks) (fun b o e => Heap.get?_push_of_some _ e), turn_tuple a _, ⟨_, Heap.get?_push_size _ rfl, rfl, rfl⟩, fun b hb => by
      rw [show b = s1.heap.objs.size by simpa using hb]
      exact I1.fpOk (Nat.le_refl s1.heap.objs.size) (I1.hok.fresh (Nat.le_refl _)), q⟩
/-- a list (true) or a tuple -/
def bo (b : Bool) (us : List V) : HO := match b with
  | true => .lst us
  | false => .tup us
def Sq2 (K : PySem.W.Frag) (H : Hp) (a : Addr) (xs : List V) (b : Bool) : Prop := match b with
  | true => SqL K H a xs
  | false => SqT K H a xs
theorem Sq2.of {K : PySem.W.Frag} {H : Hp} {a : Addr} {xs : List V} {b : Bool} (h : H a = some (bo b xs)) : Sq2 K H a xs b := by
  cases b with
  | true => exact SqL.of h
  | false => exact SqT.of h
theorem for_seq {K : PySem.W.Frag} {a : Addr} {xs : List V} {b : Bool} {g : TG} {tb : TS} {D : Ends} {σ : L2.St} {H : Hp} (e : Sq2 K H a xs b) (Pv : Nat → L2.St → Hp → Prop) (h0 : Pv 0 σ H) (hl : ∀ i σ H, i ≤ xs.length → Pv i σ H → Sq2 K H a xs b)
    (hs : ∀ i x σ H, xs[i]? = some x → Pv i σ H → g x σ H fun σ2 H2 => tb { D with nx := Pv (i + 1), ct := Pv (i + 1), bk := D.nx } σ2 H2) (hd : ∀ σ H, Pv xs.length σ H → D.nx σ H) :
    ((∃ xs, SqL K H a xs) ∧ ∃ W : Nat → Nat → L2.St → Hp → Prop, (∃ m, W 0 m σ H) ∧ ∀ i m σ H, W i m σ H →
      ((Itl K a).stop i H ∧ D.nx σ H) ∨ ((Itl K a).go i H ∧ ∃ N : L2.St → Hp → Prop, (∀ σ' H', N σ' H' → ∃ m', m' < m ∧ W (i + 1) m' σ' H') ∧ ∀ x H', (Itl K a).yld i H x H' → g x σ H' fun σ2 H2 => tb { D with nx := N, ct := N, bk := D.nx } σ2 H2)) ∨
    ((∃ xs, SqT K H a xs) ∧ ∃ W : Nat → Nat → L2.St → Hp → Prop, (∃ m, W 0 m σ H) ∧ ∀ i m σ H, W i m σ H →
      ((Itt K a).stop i H ∧ D.nx σ H) ∨ ((Itt K a).go i H ∧ ∃ N : L2.St → Hp → Prop, (∀ σ' H', N σ' H' → ∃ m', m' < m ∧ W (i + 1) m' σ' H') ∧ ∀ x H', (Itt K a).yld i H x H' → g x σ H' fun σ2 H2 => tb { D with nx := N, ct := N, bk := D.nx } σ2 H2)) := by
  cases b with
  | true => exact .inl ⟨⟨xs, e⟩, for_list Pv h0 hl hs hd⟩
  | false => exact .inr ⟨⟨xs, e⟩, for_tup Pv h0 hl hs hd⟩
theorem sort_lt {K : PySem.W.Frag} {β : Type} {v : β → V} {d : β → PyData} {a : Addr} {bs : List β} {b : Bool} {H : Hp} {Q : VK} (h : Sq2 K H a (bs.map v) b) (hd : ∀ y ∈ bs, Dp K H (v y) (d y) ∧ (d y).depth ≤ 50) (al : PySem.W.AllAlike (bs.map d)) (so : PySem.W.Sortable (bs.map d)) (q : ∀ p, H p = none → Q (.ref p) (upd H p (.lst ((bs.mergeSort (PySem.W.dataLe false d)).map v)))) : rSortLT K [.ref a] H Q := by
  cases b with
  | true => exact .inl ⟨β, v, d, a, bs, rfl, h, hd, al, so, q⟩
  | false => exact .inr ⟨β, v, d, a, bs, rfl, h, hd, al, so, q⟩
/-! ### set(xs), xs a tuple of tuples of ints -/
section
variable {P : Program} {w : World} {A : Around} {E : Value → Shared → Prop} {s : Shared}
abbrev newS (w : World) : Obj := { cls := .type "set", dict := none, data := .set #[] 0 (.fresh 0 0 (!w.params.followText "set-order")) }
theorem set_of_tup {a : Addr} {items : Array Value} (ks : List (Addr × List Int)) {Q : Value → Shared → Prop} (hh : A.handled = none) (ht : s.heap.IsTuple a items) (hit : items.toList = ks.map fun p => Value.ref p.1)
    (hk : ∀ p ∈ ks, IsT P w s.heap p.2 p.1) (hfew : ks.length < 64) (hu : A.units + 3 < cLine)
    (q : ∀ (h' : Heap) (tk : Nat) L es ep t, SetTR P w h' s.heap.objs.size L es ep t → Got ks ks.length L → (∀ b o, s.heap.get? b = some o → h'.get? b = some o) → Q (.ref s.heap.objs.size) { s with heap := h', toks := tk }) :
    wpAny (model P w) A (call (.type "set") [.ref a]) Q E s := by
  have hsz : items.size = ks.length := by
    have z := congrArg List.length hit
    rwa [Array.length_toList, List.length_map] at z
  obtain ⟨c, tl, hmro⟩ := F.called_set.mro
  have hmade := F.called_set.made
  have hsub := F.called_set.sub
  have h1 := F.called_set.notType
  have h2 := F.called_set.canCreate
  have hct := F.typeCall_set_1 (.ref a)
  refine wpAny_call (codeAny_of_tree ?_)
  show wpAny _ _ (callAny (.type "set") _) _ _ _
  refine wpAny_pure ⟨Code.quiet_builtin _ (by decide +kernel), ?_⟩
  refine codeAny_builtin F.entry_type_call ?_
  rw [Around.under_plain (weight_type_call_type "set" [.ref a] []) rfl]
  repeat (any_goals (first
    | assumption
    | wp_step))
  refine codeAny_mono (code_set_led1 (.ref a) (E := E) (Q₁ := fun obj s₁ => obj = .ref s.heap.objs.size ∧ s₁ = { s with heap := s.heap.push (newS w) }) ⟨rfl, rfl⟩) fun r s₁ hr => ?_
  cases r with
  | error e => exact hr
  | ok fl =>
    cases fl with
    | ret obj =>
      obtain ⟨rfl, rfl⟩ := hr
      have hS : (s.heap.push (newS w)).get? s.heap.objs.size = some (newS w) := Heap.get?_push_size _ rfl
      have hT : Shared.TypeIs { s with heap := s.heap.push (newS w) } (.ref s.heap.objs.size) "set" := ⟨_, hS, rfl⟩
      have hli := F.called_set.init.lookup
      have hbi := F.called_set.init.bind (.ref s.heap.objs.size)
      repeat (any_goals (first
        | assumption
        | wp_step))
      refine codeAny_mono (codeAny_call_builtin (R := wants (fun r s₂ => r = .none ∧ ∃ h' tk L es ep t, s₂ = { s with heap := h', toks := tk } ∧ SetTR P w h' s.heap.objs.size L es ep t ∧ Got ks ks.length L ∧ (∀ b o, s.heap.get? b = some o → h'.get? b = some o)) E)
        F.called_set.init.plain F.entry_set_init (check_set_init_1 hT ?_)) fun r₂ s₂ hr₂ => ?_
      · have ht1 : (s.heap.push (newS w)).IsTuple a items := ht.push _
        obtain ⟨ob, hob, hcl, nl, hda⟩ := id ht1
        obtain ⟨ocls, odict, odata, oslots⟩ := ob
        simp only at hcl hda
        subst hcl; subst hda
        have hsls := PySem.F.sub_tuple_set
        have hslf := PySem.F.sub_tuple_frozenset
        have hne : (Value.type "tuple" == Value.type "dict") = false := by decide
        unfold Builtin.«set.__init__» noKeywords Builtin.Frozenset.updateFrom
        generalize hPI : pyIter = PI
        wp_walk
        subst hPI
        refine wpAny_pyIter_tuple ht1 ?_
        refine wpAny_bind (wpAny_runValue ?_)
        obtain ⟨ob0, hob0, _⟩ := ht
        have hlt : a < s.heap.objs.size := Heap.lt_size hob0
        have hin : A.in1.in1.in1.handled = none := by simp [hh]
        have hz1 : (s.heap.push (newS w)).objs.size = s.heap.objs.size + 1 := Heap.size_push ..
        have hneI : a ≠ (s.heap.push (newS w)).objs.size := by
          rw [hz1]
          exact Nat.ne_of_lt (Nat.lt_succ_of_lt hlt)
        have hSf : s.heap.objs.size ∉ [(s.heap.push (newS w)).objs.size, a] := fun hm => by
          rw [hz1] at hm
          rcases List.mem_cons.mp hm with e | hm
          · exact absurd e (Nat.ne_of_lt (Nat.lt_succ_self _))
          · exact absurd (List.mem_singleton.mp hm) (Nat.ne_of_gt hlt)
        have hval : ∀ (i : Nat) (v : Value), items[i]? = some v → ∃ p, ks[i]? = some p ∧ v = .ref p.1 := fun i v hv => by
          rw [← Array.getElem?_toList, hit, List.getElem?_map] at hv
          obtain ⟨p, hp, e⟩ := Option.map_eq_some_iff.mp hv
          exact ⟨p, hp, e.symm⟩
        have gone : ∀ b, s.heap.objs.size ≤ b → s.heap.get? b = none := fun b hb => by
          cases z : s.heap.get? b with
          | none => rfl
          | some o => exact absurd (Nat.lt_of_lt_of_le (Heap.lt_size z) hb) (Nat.lt_irrefl _)
        have hgone : ∀ b ∈ [(s.heap.push (newS w)).objs.size], s.heap.get? b = none := fun b hb => gone b (by
          rw [List.mem_singleton.mp hb, hz1]
          exact Nat.le_succ _)
        refine set_update_tups ((Walks.tuple hin _ a hneI items).toS) s.heap.objs.size hSf ks hsz hfew hval s.heap hk (gone _ (Nat.le_refl _)) hgone hu (items.size - 0) 0 _ (by omega) (Nat.zero_le _)
          ⟨⟨_, Heap.get?_push_size _ rfl, rfl, rfl⟩, ht1.push _⟩ (fun b o e => Heap.get?_push_of_some _ (Heap.get?_push_of_some _ e)) ⟨[], #[], 0, _, setTR_fresh (Heap.get?_push_of_some _ hS), Got.zero ks⟩ fun s' L es ep t hm hS' g' hkp => ?_
        obtain ⟨h', g2, d', tk', os'⟩ := s'
        have eg : g2 = s.gens := hm.gens
        have ed : d' = s.drawn := hm.drawn
        have eo : os' = s.os := hm.os
        subst eg ed eo
        rw [hsz] at g'
        show wpAny _ _ _ _ _ _
        refine wpAny_pure ?_
        show wpAny _ _ (ret Value.none) _ _ _
        exact wpAny_pure ⟨rfl, h', tk', L, es, ep, t, rfl, hS', g', hkp⟩
      · cases r₂ with
        | error e => exact hr₂
        | ok fl₂ =>
          cases fl₂ with
          | ret r =>
            obtain ⟨rfl, h', tk, L, es, ep, t, rfl, hS', g', hk'⟩ := hr₂
            repeat (any_goals (first
              | assumption
              | wp_step))
            exact q _ _ _ _ _ _ hS' g' hk'
          | _ => exact hr₂.elim
    | _ => exact hr.elim
end
def rSetT (K : PySem.W.Frag) (P : Program) (w : World) : List V → Hp → VK → Prop := fun xs H Q => ∃ (l : Addr) (ks : List (Addr × List Int)), xs = [V.ref l] ∧ SqT K H l (ks.map fun p => V.ref p.1) ∧ (∀ p ∈ ks, SqT K H p.1 (p.2.map V.int)) ∧ ks.length < 64 ∧
  ∀ a L, H a = none → (∀ p ∈ L, p ∈ ks) → (∀ p ∈ ks, p.2 ∈ L.map (·.2)) → Q (.ref a) (upd H a (SetTO P w a L))
/-- set(xs), xs a tuple of fewer than 64 tuples of ints -/
theorem cr_setT {X : Cx} (hc : X.calm = true) (hu : X.A.units + 64 < cLine) : CallR X (.type "set") (rSetT X.K X.prog X.w) := by
  intro pins s σ H xs us Q I r h
  obtain ⟨l, ks, rfl, hl, hk, hf, q⟩ := h
  rw [Vals.ref1 r]
  obtain ⟨its, rv, ht, hz⟩ := I.tuple hl
  refine set_of_tup (P := X.prog) (w := X.w) ks (I.ok.hd hc) (show s.heap.IsTuple l its.toArray from ht) (by simpa using refs_of_vals rv) (fun p hp => I.isT (hk p hp)) hf (by omega) fun h' tk L es ep t R g k => ?_
  have hn : H s.heap.objs.size = none := I.hok.fresh (Nat.le_refl _)
  exact ⟨.ref s.heap.objs.size, upd H s.heap.objs.size (SetTO X.prog X.w s.heap.objs.size L), I.laid (t' := tk) k (Nat.le_refl _) (setTO_new R.t0), rfl, q _ L hn (fun p hp => List.mem_of_mem_take (g.sub p hp)) fun p hp => g.all p (by rw [List.take_length]; exact hp)⟩
theorem setT {X : Cx} {P : Program} {w : World} (K : PySem.W.Frag) (hc : X.calm = true) (hu : X.A.units + 64 < cLine) (h1 : X.K = K := by rfl) (h2 : X.prog = P := by rfl) (h3 : X.w = w := by rfl) : CallR X (.type "set") (rSetT K P w) := by
  subst h1 h2 h3
  exact cr_setT hc hu
theorem sortedT {X : Cx} {P : Program} {w : World} (K : PySem.W.Frag) (hc : X.calm = true) (h1 : X.K = K := by rfl) (h2 : X.prog = P := by rfl) (h3 : X.w = w := by rfl) : CallR X (.builtin "sorted") (rSortedT K P w) := by
  subst h1 h2 h3
  exact cr_sortedT hc
end Pf


namespace Pf
open PySem PySem.Spec PyProof.Rows L2
theorem wpN_get (σ : L2.St) : ∀ (vs : List Nat) (k : Nat), (wipe σ vs)[k]? = if k ∈ vs then σ[k]?.map (fun _ => none) else σ[k]?
  | [], k => by simp [wipe]
  | v :: vs, k => by
    show ((wipe σ vs).set v none)[k]? = _
    rw [List.getElem?_set, wipe_length, wpN_get σ vs k]
    by_cases hk : v = k
    · subst hk
      rw [if_pos rfl, if_pos (List.mem_cons_self)]
      by_cases hl : v < σ.length
      · rw [if_pos hl, List.getElem?_eq_getElem hl]
        rfl
      · rw [if_neg hl, List.getElem?_eq_none (by omega)]
        rfl
    · rw [if_neg hk]
      by_cases hm : k ∈ vs
      · rw [if_pos hm, if_pos (List.mem_cons_of_mem _ hm)]
      · rw [if_neg hm, if_neg]
        intro h
        rcases List.mem_cons.1 h with h | h
        · exact hk h.symm
        · exact hm h
theorem wp_set (σ : L2.St) (a : Option V) {i : Nat} {vs : List Nat} (hi : i ∈ vs) : wipe (σ.set i a) vs = wipe σ vs := by
  apply List.ext_getElem?
  intro k
  rw [wpN_get, wpN_get]
  by_cases hk : k ∈ vs
  · rw [if_pos hk, if_pos hk]
    by_cases hl : k < σ.length
    · rw [List.getElem?_eq_getElem hl, List.getElem?_eq_getElem (by simpa using hl)]
      rfl
    · rw [List.getElem?_eq_none (by simpa using hl), List.getElem?_eq_none (by simpa using hl)]
  · rw [if_neg hk, if_neg hk, List.getElem?_set_ne (fun e : i = k => hk (e ▸ hi))]
theorem wp_wp (σ : L2.St) (vs : List Nat) : wipe (wipe σ vs) vs = wipe σ vs := by
  apply List.ext_getElem?
  intro k
  rw [wpN_get, wpN_get]
  by_cases hk : k ∈ vs
  · rw [if_pos hk, if_pos hk]
    cases σ[k]? <;> rfl
  · rw [if_neg hk, if_neg hk]
theorem wp3 (σ : L2.St) (a b c : Option V) {i j k : Nat} {vs : List Nat} (hi : i ∈ vs) (hj : j ∈ vs) (hk : k ∈ vs) : wipe ((((wipe σ vs).set i a).set j b).set k c) vs = wipe σ vs := by
  rw [wp_set _ _ hk, wp_set _ _ hj, wp_set _ _ hi, wp_wp]
theorem wp2 (σ : L2.St) (a b : Option V) {i j : Nat} {vs : List Nat} (hi : i ∈ vs) (hj : j ∈ vs) : wipe (((wipe σ vs).set i a).set j b) vs = wipe σ vs := by
  rw [wp_set _ _ hj, wp_set _ _ hi, wp_wp]
theorem wp1 (σ : L2.St) (a : Option V) {i : Nat} {vs : List Nat} (hi : i ∈ vs) : wipe ((wipe σ vs).set i a) vs = wipe σ vs := by
  rw [wp_set _ _ hi, wp_wp]
end Pf


namespace Pf
open PySem PySem.Spec PyProof.Rows L2
def wiL : Int → Int → Fo → Fo
  | _, _, [] => []
  | z, j, p :: r => if z ≤ p.1 ∧ p.2 < j then p :: wiL (p.2 + 1) j r else wiL z j r
theorem wiL_top : ∀ (z j : Int) (q : Fo), wiL z j q = topF z (q.filter fun p => decide (p.2 < j))
  | _, _, [] => rfl
  | z, j, p :: r => by
    rw [wiL]
    by_cases h : p.2 < j
    · rw [List.filter_cons_of_pos (p := fun p : Int × Int => decide (p.2 < j)) (decide_eq_true h), topF]
      by_cases h2 : z ≤ p.1
      · rw [if_pos ⟨h2, h⟩, if_pos h2, wiL_top]
      · rw [if_neg (fun w => h2 w.1), if_neg h2, wiL_top]
    · rw [if_neg (fun w => h w.2), List.filter_cons_of_neg (p := fun p : Int × Int => decide (p.2 < j)) (by simpa using h), wiL_top]
theorem wiL_len : ∀ (z j : Int) (q : Fo), (wiL z j q).length ≤ q.length
  | _, _, [] => Nat.le_refl _
  | z, j, p :: r => by
    rw [wiL]
    split
    · rw [List.length_cons, List.length_cons]
      exact Nat.succ_le_succ (wiL_len _ _ _)
    · rw [List.length_cons]
      exact Nat.le_succ_of_le (wiL_len _ _ _)
theorem wiL_in {r : Rl} {x : Str} {n : Nat} {a : Int} {q : Fo} (hq : q ∈ WA r x n a) {y : Int × Int} (hy : y ∈ q) : wiL (y.1 + 1) y.2 (q.filter fun p => decide (p.1 > y.1)) = strC q y.1 y.2 := by
  obtain ⟨t, ht⟩ := within_WA hq hy
  rw [wiL_top, List.filter_filter]
  have e : (q.filter fun p => decide (p.2 < y.2) && decide (p.1 > y.1)) = withinC q y.1 y.2 := by
    unfold withinC
    refine List.filter_congr fun p _ => ?_
    rw [Bool.and_comm]
  rw [e, topF_tops (fun p hp => by
    have h := (List.mem_filter.mp hp).2
    rw [Bool.and_eq_true] at h
    have := of_decide_eq_true h.1
    omega)]
  exact (nn_tops r x t (y.1 + 1) _ ht).symm
theorem wiL_out {r : Rl} {x : Str} {q : Fo} (hq : q ∈ WA r x x.length 0) : wiL (-1 + 1) (x.length : Int) q = tops q := by
  have hin := (WA_in r x x.length 0 q hq).1
  rw [wiL_top, filter_all (fun p hp => decide_eq_true (by have := hin p hp; omega))]
  exact topF_tops fun p hp => by have := hin p hp; omega
theorem lo9_list {r : Rl} (ok : RlOk r) : r.loops.map V.int = [.int (lo r 0), .int (lo r 1), .int (lo r 2), .int (lo r 3), .int (lo r 4), .int (lo r 5), .int (lo r 6), .int (lo r 7), .int (lo r 8)] := by
  have h9 := ok.lo9
  unfold lo
  match r.loops, h9 with
  | [_, _, _, _, _, _, _, _, _], _ => rfl
theorem ns_eq {D : Ends} {σ σ' : L2.St} {H : Hp} (e : σ = σ') (h : D.nx σ' H) : D.nx σ H := by
  rw [e]
  exact h
theorem gow_eq {i : Nat} {v : V} {σ σ' : L2.St} {H : Hp} {Q : L2.St → Hp → Prop} (e : σ.set i (some v) = σ') (h : Q σ' H) : gName i v σ H Q := by
  rw [← e] at h
  exact h
section
variable {P : Program} {w : World} {K : PySem.W.Frag} {mg : Str → Option Value} {base : Heap}
abbrev s_law_within : Stmt := topS 43
theorem sc_law_within : FnScope ["_law_pairs_here", "_law_i", "_law_j", "_law_found", "_law_here", "_law_p", "_law_q"] ["_law_pairs_here", "_law_i", "_law_j"] (defScope s_law_within) :=
  ⟨rfl, rfl, rfl, by decide +kernel, rfl, by decide +kernel, by decide +kernel⟩
def spWithW : Sp := fun vs H Q _ => ∃ (l : Addr) (us : List V) (b : Bool) (q0 : Fo) (i j : Int), vs = [.ref l, .int i, .int j] ∧ H l = some (bo b us) ∧ Paired (TwoAt H) us q0 ∧ q0.length ≤ 100 ∧
  ∀ (l : Addr) (us : List V) (H' : Hp), H l = none → H' l = some (.lst us) → Paired (TwoAt H') us (wiL (i + 1) j q0) → Ext H H' → Q (.ref l) H'
theorem ok_withW {f : Addr} {fd : FuncData} {k : Nat} (F : Fun K "_law_within" "_law_within" s_law_within f fd) : FnOk P w K mg base CX0 (k + 1) f fd ["_law_pairs_here", "_law_i", "_law_j"] spWithW := by
  refine F.ok sc_law_within (fun vs H Q E h => ?_) (fun cdv A outer s H vs Q E hr h => ?_)
  · obtain ⟨l, us, b, q0, i, j, rfl, _⟩ := h
    rfl
  · obtain ⟨l0, us0, b, q0, i, j, rfl, hL0, hP0, hq, q⟩ := h
    refine ⟨_, (pss_cons (ps_set (i := 3) sc_law_within.nd rfl (.inl rfl) (pe_lst pa_nil))
      (pss_cons (ps_set (i := 4) sc_law_within.nd rfl (.inl rfl) (pe_op op_add (pv 1) pe_int))
      (pss_cons (ps_for PassesOwn.never rfl (pi_seq K (pv 0)) (pg_tup rfl (pgs_cons (pg_name (i := 5) sc_law_within.nd rfl (.inl rfl)) (pgs_cons (pg_name (i := 6) sc_law_within.nd rfl (.inl rfl)) pgs_nil))) (pss_one (ps_if (PW.pt (pw_and (pt_cmpR op_le (pv 4) (pv 5) (nomark _)) (pw_and1 (pt_cmpR op_lt (pv 6) (pv 2) (nomark _))))) (pss_cons (ps_expr (pe_bm PySem.F.plainAttrs_list PySem.F.slot_list_append PySem.F.type_list_append mt_append (pv 3) (pa_cons (pe_tup (pa_cons (pv 5) (pa_cons (pv 6) pa_nil))) pa_nil)))
      (pss_one (ps_set (i := 4) sc_law_within.nd rfl (.inl rfl) (pe_op op_add (pv 6) pe_int)))) pss_nil)))
      (pss_one (ps_ret (pv 3)))))), ?_⟩
    have hul0 := paired_len hP0
    refine ⟨Nat.zero_le _, fun lf hlf => ?_⟩
    have x1 := Ext.new (o := .lst []) hlf
    refine ⟨_, rfl, i, 1, rfl, rfl, ?_⟩
    refine ⟨_, rfl, l0, rfl, for_seq (K := K) (xs := us0) (b := b) (Sq2.of (x1 _ _ hL0)) (fun c σ H2 => ∃ (y5 y6 : Option V) (here : Int) (us : List V) (acc : Fo), σ = [some (.ref l0), some (.int i), some (.int j), some (.ref lf), some (.int here), y5, y6] ∧ H2 lf = some (.lst us) ∧ Paired (TwoAt H2) us acc ∧ acc.length ≤ c ∧ acc ++ wiL here j (q0.drop c) = wiL (i + 1) j q0 ∧ Ext H H2)
      ⟨none, none, i + 1, [], [], rfl, upd_same, .nil, Nat.le_refl _, by rw [List.drop_zero]; rfl, x1⟩ (fun c σ H2 _ h => by obtain ⟨_, _, _, _, _, _, _, _, _, _, k⟩ := h; exact Sq2.of (k _ _ hL0)) (fun c u σ H2 hc hv => ?_) (fun σ H2 hv => ?_)⟩
    · obtain ⟨y5, y6, here, us, acc, rfl, hL, hP, hal, hac, k2⟩ := hv
      obtain ⟨y, hy, a1, rfl, ha1⟩ := paired_get hP0 hc
      have hul := paired_len hP
      have hcl : c < us0.length := (List.getElem?_eq_some_iff.mp hc).1
      have ed : q0.drop c = y :: q0.drop (c + 1) := by
        obtain ⟨hi, e⟩ := List.getElem?_eq_some_iff.mp hy
        rw [List.drop_eq_getElem_cons hi, e]
      rw [ed, wiL] at hac
      refine ⟨a1, _, rfl, SqT.of (k2 _ _ ha1), rfl, _, _, rfl, _, _, rfl, rfl, ?_⟩
      refine ⟨_, rfl, _, rfl, _, _, rfl, rfl, _, rfl, ite2 (fun e1 => ?_) (fun e1 => ?_)⟩
      · have e1 : here ≤ y.1 := of_decide_eq_true e1
        refine ⟨_, rfl, _, rfl, _, _, rfl, rfl, _, rfl, ite2 (fun e2 => ?_) (fun e2 => ?_)⟩
        · have e2 : y.2 < j := of_decide_eq_true e2
          rw [if_pos ⟨e1, e2⟩] at hac
          refine ⟨_, rfl, .inl ⟨rfl, _, SqL.of hL⟩, _, rfl, _, rfl, szL (show 2 ≤ 1000000 by decide), fun t ht => ?_⟩
          have x3 := Ext.new (o := .tup [.int y.1, .int y.2]) ht
          have hL3 := x3 _ _ hL
          refine ⟨lf, _, _, rfl, rfl, hL3, szLt (by omega), _, rfl, y.2, 1, rfl, rfl, ?_⟩
          refine ⟨_, _, y.2 + 1, us ++ [.ref t], acc ++ [y], rfl, upd_same, ?_, by rw [List.length_append, List.length_singleton]; omega, by rw [List.append_assoc]; exact hac, (k2.trans x3).put hlf⟩
          refine (paired_imp (fun _ _ => TwoAt.mono _ _ _ _ ((TupK.ext x3).trans (TupK.lst hL3))) hP).snoc ⟨t, rfl, ?_⟩
          rw [upd_ne (ne_of_none hL ht).symm, upd_same]
        · have e2 : ¬ y.2 < j := fun z => e2 (decide_eq_true z)
          rw [if_neg (fun z => e2 z.2)] at hac
          exact ⟨_, _, here, us, acc, rfl, hL, hP, by omega, hac, k2⟩
      · have e1 : ¬ here ≤ y.1 := fun z => e1 (decide_eq_true z)
        rw [if_neg (fun z => e1 z.1)] at hac
        exact ⟨_, _, here, us, acc, rfl, hL, hP, by omega, hac, k2⟩
    · obtain ⟨y5, y6, here, us, acc, rfl, hL, hP, hal, hac, k2⟩ := hv
      rw [List.drop_eq_nil_of_le (by omega), wiL, List.append_nil] at hac
      rw [hac] at hP
      exact ⟨_, rfl, q lf us H2 hlf hL hP k2⟩
abbrev CWithW (P : Program) (w : World) (K : PySem.W.Frag) (mg : Str → Option Value) (base : Heap) : Prop := Ca P w K mg base 1 "_law_within" ["_law_pairs_here", "_law_i", "_law_j"] spWithW
abbrev s_law_loop : Stmt := topS 44
theorem sc_law_loop : FnScope ["_law_book", "_law_line", "_law_i", "_law_j", "_law_inner", "_law_stacked_so", "_law_inner_so", "_law_inner_free", "_law_forked", "_law_branch", "_law_fork_free", "_law_lone", "_law_lone_free", "_law_p", "_law_q", "_law_free", "_law_two", "_law_row"] ["_law_book", "_law_line", "_law_i", "_law_j", "_law_inner"] (defScope s_law_loop) :=
  ⟨rfl, rfl, rfl, by decide +kernel, rfl, by decide +kernel, by decide +kernel⟩
def spLpW : Sp := fun vs H Q _ => ∃ (v : V) (r : Rl) (x : Str) (one : Int × Int) (l : Addr) (us : List V) (ks : Fo), vs = [v, .str x, .int one.1, .int one.2, .ref l] ∧ RulesAt H v r ∧ RlOk r ∧ x.length ≤ 12 ∧ Small x ∧ H l = some (.lst us) ∧ Paired (TwoAt H) us ks ∧ ks.length ≤ 12 ∧ (∀ y ∈ ks, 0 ≤ y.1 ∧ y.1 < x.length ∧ 0 ≤ y.2 ∧ y.2 < x.length) ∧ 0 ≤ one.1 ∧ one.1 < x.length ∧ 0 ≤ one.2 ∧ one.2 < x.length ∧
  ∀ H', Ext H H' → Q (.int (lpW r x one ks)) H'
theorem ok_lpW {f : Addr} {fd : FuncData} {k : Nat} (F : Fun K "_law_loop" "_law_loop" s_law_loop f fd) (mlen : mg "len" = none) (msum : mg "sum" = none) : FnOk P w K mg base CX0 (k + 1) f fd ["_law_book", "_law_line", "_law_i", "_law_j", "_law_inner"] spLpW := by
  refine F.ok sc_law_loop (fun vs H Q E h => ?_) (fun cdv A outer s H vs Q E hr h => ?_)
  · obtain ⟨v, r, x, one, l, us, ks, rfl, _⟩ := h
    rfl
  · obtain ⟨v, r, x, one, l, us, ks, rfl, hR, ok, hx, hsx, hL, hP, hq0, hkin, i0, i1, j0, j1, q⟩ := h
    refine ⟨_, (pss_cons (ps_asg (pe_slice (slE K) (pe_ix (ixT K) (pv 0) pe_int (fun _ _ => rfl)) po_none (po_some pe_int)) (pg_tup rfl (pgs_cons (pg_name (i := 5) sc_law_loop.nd rfl (.inl rfl)) (pgs_cons (pg_name (i := 6) sc_law_loop.nd rfl (.inl rfl)) (pgs_cons (pg_name (i := 7) sc_law_loop.nd rfl (.inl rfl)) pgs_nil)))))
      (pss_cons (ps_asg (pe_slice (slE K) (pe_ix (ixT K) (pv 0) pe_int (fun _ _ => rfl)) (po_some pe_int) (po_some pe_int)) (pg_tup rfl (pgs_cons (pg_name (i := 8) sc_law_loop.nd rfl (.inl rfl)) (pgs_cons (pg_name (i := 9) sc_law_loop.nd rfl (.inl rfl)) (pgs_cons (pg_name (i := 10) sc_law_loop.nd rfl (.inl rfl)) pgs_nil)))))
      (pss_cons (ps_asg (pe_slice (slE K) (pe_ix (ixT K) (pv 0) pe_int (fun _ _ => rfl)) (po_some pe_int) (po_some pe_int)) (pg_tup rfl (pgs_cons (pg_name (i := 11) sc_law_loop.nd rfl (.inl rfl)) (pgs_cons (pg_name (i := 12) sc_law_loop.nd rfl (.inl rfl)) pgs_nil))))
      (pss_cons (ps_set (i := 15) sc_law_loop.nd rfl (.inl rfl) (pe_op op_sub (pe_op op_sub (pe_op op_sub (pv 3) (pv 2)) pe_int) (pe_callB (sumI K) (by rfl) msum (by decide +kernel) (pa_cons (pe_lc (own := [("_law_p", 13), ("_law_q", 14)]) (g := gTup K 2 (gCons (gName 13) (gCons (gName 14) gNil))) (by rfl) sc_law_loop.nd (pi_list (pv 4)) (blkOk_by (own := [("_law_p", 13), ("_law_q", 14)]) (N := ["_law_book", "_law_line", "_law_i", "_law_j", "_law_inner", "_law_stacked_so", "_law_inner_so", "_law_inner_free", "_law_forked", "_law_branch", "_law_fork_free", "_law_lone", "_law_lone_free", "_law_p", "_law_q", "_law_free", "_law_two", "_law_row"]) (sc := defScope s_law_loop) (by decide +kernel)) (fun _ _ _ _ _ => (pgT K rfl (pgs_cons (pg_name (i := 13) sc_law_loop.nd rfl (.inl rfl)) (pgs_cons (pg_name (i := 14) sc_law_loop.nd rfl (.inl rfl)) pgs_nil)))) (fun _ _ _ _ _ => pts_nil) (fun _ _ _ _ _ => (pe_op op_add (pe_op op_sub (pv 14) (pv 13)) pe_int))) pa_nil))))
      (pss_cons (ps_if (pt_cmpR (eqD K hr.units) (pv 4) (pe_lst pa_nil) (nomark _)) (pss_one (ps_ret (pe_op op_add (pv 11) (pe_op op_mul (pv 15) (pv 12))))) pss_nil)
      (pss_cons (ps_if (pt_cmpR op_gt (pe_callB (lenQ K) (by rfl) mlen (by decide +kernel) (pa_cons (pv 4) pa_nil)) pe_int (nomark _)) (pss_one (ps_ret (pe_op op_add (pe_op op_add (pv 8) (pe_op op_mul (pv 9) (pe_callB (lenQ K) (by rfl) mlen (by decide +kernel) (pa_cons (pv 4) pa_nil)))) (pe_op op_mul (pv 15) (pv 10))))) pss_nil)
      (pss_cons (ps_asg (pe_ix (ixL K) (pv 4) pe_int (fun _ _ => rfl)) (pg_tup rfl (pgs_cons (pg_name (i := 13) sc_law_loop.nd rfl (.inl rfl)) (pgs_cons (pg_name (i := 14) sc_law_loop.nd rfl (.inl rfl)) pgs_nil))))
      (pss_cons (ps_if (pt_cmpR op_gt (pv 15) pe_int (nomark _)) (pss_one (ps_ret (pe_op op_add (pv 6) (pe_op op_mul (pv 15) (pv 7))))) pss_nil)
      (pss_cons (ps_set (i := 16) sc_law_loop.nd rfl (.inr rfl) (pe_tup (pa_cons (pe_op op_add_str (pe_ix ix_str (pv 1) (pv 2) (fun _ _ => rfl)) (pe_ix ix_str (pv 1) (pv 3) (fun _ _ => rfl))) (pa_cons (pe_op op_add_str (pe_ix ix_str (pv 1) (pv 13) (fun _ _ => rfl)) (pe_ix ix_str (pv 1) (pv 14) (fun _ _ => rfl))) pa_nil))))
      (pss_one (ps_ret (pe_op op_add (pv 5) (pe_callB (sumI K) (by rfl) msum (by decide +kernel) (pa_cons (pe_lc (own := [("_law_row", 17)]) (g := gName 17) (by rfl) sc_law_loop.nd (pi_tup (pe_ix (ixT K) (pv 0) pe_int (fun _ _ => rfl))) (blkOk_by (own := [("_law_row", 17)]) (N := ["_law_book", "_law_line", "_law_i", "_law_j", "_law_inner", "_law_stacked_so", "_law_inner_so", "_law_inner_free", "_law_forked", "_law_branch", "_law_fork_free", "_law_lone", "_law_lone_free", "_law_p", "_law_q", "_law_free", "_law_two", "_law_row"]) (sc := defScope s_law_loop) (by decide +kernel)) (fun _ _ _ _ _ => (pg_name (i := 17) sc_law_loop.nd rfl (.inl rfl))) (fun _ _ _ _ _ => (pts_one (pt_cmpR (eqD K hr.units) (pe_slice (slE K) (pv 17) po_none (po_some pe_int)) (pv 16) (nomark _)))) (fun _ _ _ _ _ => (pe_ix (ixT K) (pv 17) pe_int (fun _ _ => rfl)))) pa_nil)))))))))))))), ?_⟩
    obtain ⟨a, vp, vl, vs, rfl, hA, _, ⟨al, ls, rfl, hl9, hLo⟩, ⟨as, ss, rfl, hs9, hSt⟩⟩ := id hR
    have ils := ints_of hLo
    subst ils
    rw [lo9_list ok] at hl9
    have hul := paired_len hP
    refine ⟨_, rfl, a, _, 3, _, rfl, rfl, SqT.of hA, rfl, 3, rfl, al, _, rfl, hl9, fun t1 H1 k1 hT1 => ?_⟩
    refine ⟨t1, [.int (lo r 0), .int (lo r 1), .int (lo r 2)], rfl, SqT.of hT1, rfl, _, _, rfl, _, _, rfl, _, _, rfl, rfl, ?_⟩
    refine ⟨_, rfl, a, _, 3, _, rfl, rfl, SqT.of (k1 _ _ hA), rfl, 3, rfl, 6, rfl, al, _, rfl, k1 _ _ hl9, fun t2 H2 k2 hT2 => ?_⟩
    refine ⟨t2, [.int (lo r 3), .int (lo r 4), .int (lo r 5)], rfl, SqT.of hT2, rfl, _, _, rfl, _, _, rfl, _, _, rfl, rfl, ?_⟩
    have k02 := k1.trans k2
    refine ⟨_, rfl, a, _, 3, _, rfl, rfl, SqT.of (k02 _ _ hA), rfl, 6, rfl, 8, rfl, al, _, rfl, k02 _ _ hl9, fun t3 H3 k3 hT3 => ?_⟩
    refine ⟨t3, [.int (lo r 6), .int (lo r 7)], rfl, SqT.of hT3, rfl, _, _, rfl, _, _, rfl, rfl, ?_⟩
    refine ns_eq (σ' := [some (.ref a), some (.str x), some (.int one.1), some (.int one.2), some (.ref l), some (.int (lo r 0)), some (.int (lo r 1)), some (.int (lo r 2)), some (.int (lo r 3)), some (.int (lo r 4)), some (.int (lo r 5)), some (.int (lo r 6)), some (.int (lo r 7)), none, none, none, none, none]) rfl ?_
    have k03 := k02.trans k3
    have hL3 := k03 _ _ hL
    have hP3 := paired_imp (fun _ _ => TwoAt.mono _ _ _ _ (TupK.ext k03)) hP
    -- free
    refine ⟨_, rfl, _, rfl, _, _, rfl, rfl, _, 1, rfl, rfl, _, rfl, l, rfl, ⟨_, SqL.of hL3⟩, fun D hD => lc_list (K := K) (xs := us) (fun i H2 => H2 D = some (.lst (((ks.take i).map fun y => y.2 - y.1 + 1).map V.int)) ∧ Ext H3 H2)
      ⟨upd_same, Ext.new hD⟩ (fun i H2 _ ⟨_, k⟩ => SqL.of (k _ _ hL3)) (fun i u H2 hi hv => ?_) (fun H4 hv => ?_)⟩
    · obtain ⟨hL2, k2⟩ := hv
      obtain ⟨y, hy, a1, rfl, ha1⟩ := paired_get hP3 hi
      have hil : i < us.length := (List.getElem?_eq_some_iff.mp hi).1
      refine ⟨a1, _, rfl, SqT.of (k2 _ _ ha1), rfl, _, _, rfl, _, _, rfl, rfl, wp2 _ _ _ (by decide) (by decide), _, rfl, _, rfl, _, _, rfl, rfl, _, 1, rfl, rfl, _, hL2, szLt ?_, ?_, k2.put hD⟩
      · rw [List.length_map, List.length_map, List.length_take]
        omega
      · rw [upd_same, List.take_add_one, hy, List.map_append, List.map_append]
        rfl
    obtain ⟨hL2, k4⟩ := hv
    rw [List.take_of_length_le (by omega)] at hL2
    refine ⟨D, _, rfl, SqL.of hL2, _, _, rfl, rfl, ?_⟩
    obtain ⟨fr, hfr⟩ : ∃ fr : Int, fr = one.2 - one.1 - 1 - (ks.map fun y => y.2 - y.1 + 1).sum := ⟨_, rfl⟩
    have hfr2 : fr = freeI one ks := hfr
    refine gow_as (v' := .int fr) (congrArg V.int hfr.symm) ?_
    show Ends.nx _ [some (.ref a), some (.str x), some (.int one.1), some (.int one.2), some (.ref l), some (.int (lo r 0)), some (.int (lo r 1)), some (.int (lo r 2)), some (.int (lo r 3)), some (.int (lo r 4)), some (.int (lo r 5)), some (.int (lo r 6)), some (.int (lo r 7)), none, none, some (.int fr), none, none] _
    have k04 := k03.trans k4
    have hL4 := k4 _ _ hL3
    -- inner == []
    refine ⟨_, rfl, Nat.zero_le _, fun l5 hl5 => ?_⟩
    have x5 := Ext.new (o := .lst []) hl5
    have k05 := k04.trans x5
    have hL5 := x5 _ _ hL4
    refine ⟨.list (ks.map dTwo), .list [], .lst (SqL.of hL5) (dpTwos (paired_imp (fun _ _ => TwoAt.mono _ _ _ _ (TupK.ext (k4.trans x5))) hP3)), .lst (SqL.of upd_same) .nil, shaped_twos _, by decide +kernel, _, rfl, ?_⟩
    rw [eqv_nil]
    have l2 := lo_bound ok (show 2 < 9 by decide)
    have l4 := lo_bound ok (show 4 < 9 by decide)
    have l5' := lo_bound ok (show 5 < 9 by decide)
    have l7 := lo_bound ok (show 7 < 9 by decide)
    refine ite2 (fun e => ?_) (fun e => ?_)
    · have c0 : ks.length = 0 := by
        cases ks with
        | nil => rfl
        | cons _ _ => cases e
      refine ⟨_, rfl, _, rfl, _, rfl, _, _, rfl, rfl, .inr ⟨by omega, by omega⟩, _, _, rfl, rfl, ?_⟩
      have h := q _ k05
      unfold lpW at h
      rw [if_pos c0, ← hfr2] at h
      exact h
    · have c0 : ¬ ks.length = 0 := by
        cases ks with
        | nil => exact absurd rfl e
        | cons _ _ => exact Nat.succ_ne_zero _
      refine ⟨_, rfl, l, us, rfl, .inl (SqL.of hL5), _, 1, rfl, rfl, _, rfl, ite2 (fun e => ?_) (fun e => ?_)⟩
      · have c1 : 1 < ks.length := by
          have : (us.length : Int) > 1 := by simpa using e
          omega
        refine ⟨_, rfl, _, rfl, _, rfl, l, us, rfl, .inl (SqL.of hL5), _, _, rfl, rfl, .inl ⟨by omega, by omega⟩, _, _, rfl, rfl, _, rfl, _, rfl, _, _, rfl, rfl, .inr ⟨by omega, by omega⟩, _, _, rfl, rfl, ?_⟩
        have h := q _ k05
        unfold lpW at h
        rw [if_neg c0, if_pos c1, ← hfr2, ← hul] at h
        have e5 : lo r 3 + lo r 4 * (us.length : Int) + fr * lo r 5 = lo r 3 + ((us.length : Int) * lo r 4 + fr * lo r 5) := by
          rw [Int.mul_comm (lo r 4)]
          omega
        rw [← e5] at h
        exact h
      · have c1 : ¬ 1 < ks.length := by
          have : ¬ (us.length : Int) > 1 := by simpa using e
          omega
        obtain ⟨y, hyk⟩ : ∃ y, ks = [y] := by
          match ks, c0, c1 with
          | [], c0, _ => exact absurd rfl c0
          | [y], _, _ => exact ⟨y, rfl⟩
          | _ :: _ :: _, _, c1 => exact absurd (by simp) c1
        subst hyk
        obtain ⟨u0, hu0, a2, hu2, ha2⟩ : ∃ u0, us = [u0] ∧ ∃ a2, u0 = .ref a2 ∧ H3 a2 = some (.tup [.int y.1, .int y.2]) := by
          cases hP3 with
          | cons r t =>
            cases t
            obtain ⟨a2, e1, e2⟩ := r
            exact ⟨_, rfl, a2, e1, e2⟩
        subst hu2
        subst hu0
        have hy := hkin y (List.mem_singleton.mpr rfl)
        have ha5 := x5 _ _ (k4 _ _ ha2)
        refine ⟨_, rfl, l, _, 0, _, rfl, rfl, SqL.of hL5, rfl, a2, _, rfl, SqT.of ha5, rfl, _, _, rfl, _, _, rfl, rfl, ?_⟩
        refine ⟨_, rfl, _, _, rfl, rfl, _, rfl, ite2 (fun e => ?_) (fun e => ?_)⟩
        · have c2 : 0 < fr := by simpa using e
          refine ⟨_, rfl, _, rfl, _, rfl, _, _, rfl, rfl, .inr ⟨by omega, by omega⟩, _, _, rfl, rfl, ?_⟩
          have h := q _ k05
          unfold lpW at h
          rw [if_neg c0, if_neg c1, ← hfr2, if_pos c2] at h
          exact h
        · have c2 : ¬ 0 < fr := by simpa using e
          refine ⟨_, rfl, _, rfl, x, one.1, _, rfl, rfl, szL (by omega), sgn_at i0 i1, _, rfl, _, rfl, x, one.2, _, rfl, rfl, szL (by omega), sgn_at j0 j1, _, _, rfl, rfl, szL (show 1 + 1 ≤ 1000000 by decide), ?_⟩
          refine ⟨_, rfl, _, rfl, x, y.1, _, rfl, rfl, szL (by omega), sgn_at hy.1 hy.2.1, _, rfl, _, rfl, x, y.2, _, rfl, rfl, szL (by omega), sgn_at hy.2.2.1 hy.2.2.2, _, _, rfl, rfl, szL (show 1 + 1 ≤ 1000000 by decide), szL (show 2 ≤ 1000000 by decide), fun t8 ht8 => ?_⟩
          have x8 := Ext.new (o := .tup [.str (tx2 x one), .str (tx2 x y)]) ht8
          have hT8 : upd (upd H4 l5 (.lst [])) t8 (.tup [.str (tx2 x one), .str (tx2 x y)]) t8 = some (.tup [.str (tx2 x one), .str (tx2 x y)]) := upd_same
          have k08 := k05.trans x8
          have hA8 := k08 _ _ hA
          have hs98 := k08 _ _ hs9
          have hSt8 := paired_imp (fun _ _ => StackAt.mono _ _ _ _ (TupK.ext k08)) hSt
          have hsl := paired_len hSt8
          have hst := ok.stk
          refine gow_eq (σ' := [some (.ref a), some (.str x), some (.int one.1), some (.int one.2), some (.ref l), some (.int (lo r 0)), some (.int (lo r 1)), some (.int (lo r 2)), some (.int (lo r 3)), some (.int (lo r 4)), some (.int (lo r 5)), some (.int (lo r 6)), some (.int (lo r 7)), some (.int y.1), some (.int y.2), some (.int fr), some (.ref t8), none]) rfl ?_
          show Ends.nx _ _ (upd (upd H4 l5 (.lst [])) t8 (.tup [.str (tx2 x one), .str (tx2 x y)]))
          generalize upd (upd H4 l5 (.lst [])) t8 (.tup [.str (tx2 x one), .str (tx2 x y)]) = H8 at hT8 k08 hA8 hs98 hSt8 ⊢
          refine ⟨_, rfl, _, rfl, a, _, 4, _, rfl, rfl, SqT.of hA8, rfl, as, rfl, ⟨_, SqT.of hs98⟩, fun E5 hE5 => ?_⟩
          refine lc_tup (K := K) (xs := ss) (fun c H5 => H5 E5 = some (.lst ((stF (r.stk.take c) (tx2 x one) (tx2 x y)).map V.int)) ∧ Ext H8 H5)
            ⟨upd_same, Ext.new hE5⟩ (fun c H5 _ ⟨_, k⟩ => SqT.of (k _ _ hs98)) (fun c u H5 hc hv => ?_) (fun H5 hv => ?_)
          · obtain ⟨hE, k5⟩ := hv
            obtain ⟨z, hz, b1, rfl, hb1⟩ := paired_get hSt8 hc
            have hb5 := k5 _ _ hb1
            have cl : c < ss.length := (List.getElem?_eq_some_iff.mp hc).1
            have hzo := ok.st z (List.mem_of_getElem? hz)
            have hle : (stF (r.stk.take c) (tx2 x one) (tx2 x y)).length ≤ 12 := by
              unfold stF
              rw [List.length_map]
              refine Nat.le_trans (List.length_filter_le _ _) ?_
              rw [List.length_take]
              omega
            refine ⟨wp1 _ _ (by decide), _, rfl, 2, rfl, b1, _, rfl, hb5, fun p6 H6 k6 hp6 => ?_⟩
            have hp6 : H6 p6 = some (.tup [.str z.1, .str z.2.1]) := hp6
            refine ⟨_, rfl, .tuple [.str z.1, .str z.2.1], .tuple [.str (tx2 x one), .str (tx2 x y)], .tup (SqT.of hp6) (.cons (.str _) (.cons (.str _) .nil)), .tup (SqT.of (k6 _ _ (k5 _ _ hT8))) (.cons (.str _) (.cons (.str _) .nil)), ?_, ?_, _, rfl, ?_⟩
            · exact sm_two hzo.1 hzo.2.1
            · exact sm_two (two_tx hsx i0 i1 j0 j1) (two_tx hsx hy.1 hy.2.1 hy.2.2.1 hy.2.2.2)
            rw [eqv_two]
            refine ite2 (fun e => ?_) (fun e => ?_)
            · refine ⟨_, rfl, b1, _, 2, _, rfl, rfl, SqT.of (k6 _ _ hb5), rfl, _, k6 _ _ hE, szLt (by rw [List.length_map]; omega), ?_, (k5.trans k6).put hE5⟩
              rw [upd_same, List.take_add_one, hz]
              unfold stF
              rw [List.filter_append, show (some z).toList = [z] from rfl, List.filter_cons_of_pos (p := fun z : Str × Str × Int => decide (z.1 = tx2 x one ∧ z.2.1 = tx2 x y)) e, List.map_append, List.map_append]
              rfl
            · refine ⟨?_, k5.trans k6⟩
              rw [List.take_add_one, hz]
              unfold stF
              rw [List.filter_append, show (some z).toList = [z] from rfl, List.filter_cons_of_neg (p := fun z : Str × Str × Int => decide (z.1 = tx2 x one ∧ z.2.1 = tx2 x y)) e, List.filter_nil, List.append_nil]
              exact k6 _ _ hE
          · obtain ⟨hE, k5⟩ := hv
            rw [List.take_of_length_le (by omega)] at hE
            refine ⟨E5, _, rfl, SqL.of hE, _, _, rfl, rfl, ?_⟩
            have h := q _ (k08.trans k5)
            unfold lpW at h
            rw [if_neg c0, if_neg c1, ← hfr2, if_neg c2, ← stF_sum ok.nd] at h
            exact h
abbrev CLpW (P : Program) (w : World) (K : PySem.W.Frag) (mg : Str → Option Value) (base : Heap) : Prop := Ca P w K mg base 1 "_law_loop" ["_law_book", "_law_line", "_law_i", "_law_j", "_law_inner"] spLpW
end
end Pf


namespace Pf
open PySem PySem.Spec PyProof.Rows L2
theorem sum_takeW {l : List Int} {c : Nat} {y : Int} (h : l[c]? = some y) : (l.take (c + 1)).sum = (l.take c).sum + y := by
  rw [List.take_add_one, h, List.sum_append]
  simp
def pVW (r : Rl) (x : Str) (q : Fo) (y : Int × Int) : Int := pwI r.prs (tx2 x y) + lpW r x y (strC q y.1 y.2)
theorem woV_pV (r : Rl) (x : Str) (q : Fo) : woV r x q = lo r 8 * ((tops q).length : Int) + (q.map (pVW r x q)).sum := by
  unfold woV pVW
  have aux : ∀ (l : Fo) (f g : Int × Int → Int), (l.map fun y => f y + g y).sum = (l.map f).sum + (l.map g).sum := by
    intro l f g
    induction l with
    | nil => rfl
    | cons y l ih =>
      rw [List.map_cons, List.sum_cons, ih, List.map_cons, List.sum_cons, List.map_cons, List.sum_cons]
      omega
  rw [aux, Int.mul_comm]
  omega
theorem eqv_ones (n : Nat) : PyData.eqv (.list ((List.replicate n (1 : Int)).map PyData.int)) (.list []) = decide (n = 0) := by
  cases n with
  | zero => simp [PyData.eqv, PyData.eqvAll]
  | succ n => simp [List.replicate_succ, PyData.eqv, PyData.eqvAll]
section
variable {P : Program} {w : World} {K : PySem.W.Frag} {mg : Str → Option Value} {base : Heap}
abbrev s_law_cost : Stmt := topS 45
theorem sc_law_cost : FnScope ["_law_book", "_law_line", "_law_pairs_here", "_law_found", "_law_i", "_law_j", "_law_one"] ["_law_book", "_law_line", "_law_pairs_here"] (defScope s_law_cost) :=
  ⟨rfl, rfl, rfl, by decide +kernel, rfl, by decide +kernel, by decide +kernel⟩
def spCost : Sp := fun vs H Q _ => ∃ (v sv : V) (r r0 : Rl) (x : Str) (q0 : Fo), vs = [v, .str x, sv] ∧ RulesAt H v r ∧ RlOk r ∧ x.length ≤ 12 ∧ Small x ∧ FoAt H sv q0 ∧ q0 ∈ WA r0 x x.length 0 ∧ (∀ y ∈ q0, tx2 x y ∈ r.prs.map (·.1)) ∧ ∀ H', Ext H H' → Q (.int (woV r x q0)) H'
theorem ok_cost {f : Addr} {fd : FuncData} (F : Fun K "_law_cost" "_law_cost" s_law_cost f fd) (c_law_within : CWithW P w K mg base) (c_law_loop : CLpW P w K mg base) (mlen : mg "len" = none) (mdict : mg "dict" = none) : FnOk P w K mg base CX0 2 f fd ["_law_book", "_law_line", "_law_pairs_here"] spCost := by
  refine F.ok sc_law_cost (fun vs H Q E h => ?_) (fun cdv A outer s H vs Q E hr h => ?_)
  · obtain ⟨v, sv, r, r0, x, q0, rfl, _⟩ := h
    rfl
  · obtain ⟨v, sv, r, r0, x, q0, rfl, hR, ok, hx, hsx, hF, hq0, hmay, q⟩ := h
    refine ⟨_, (pss_cons (ps_set (i := 3) sc_law_cost.nd rfl (.inl rfl) (pe_op op_mul (pe_ix (ixT K) (pe_ix (ixT K) (pv 0) pe_int (fun _ _ => rfl)) pe_int (fun _ _ => rfl)) (pe_callB (lenQ K) (by rfl) mlen (by decide +kernel) (pa_cons (pe_ca c_law_within (hr.mono (by decide)) (by rfl) (pa_cons (pv 2) (pa_cons (pe_un un_neg pe_int) (pa_cons (pe_callB call_len_str (by rfl) mlen (by decide +kernel) (pa_cons (pv 1) pa_nil)) pa_nil)))) pa_nil))))
      (pss_cons (ps_for PassesOwn.never rfl (pi_tup (pv 2)) (pg_tup rfl (pgs_cons (pg_name (i := 4) sc_law_cost.nd rfl (.inr rfl)) (pgs_cons (pg_name (i := 5) sc_law_cost.nd rfl (.inl rfl)) pgs_nil))) (pss_cons (ps_set (i := 3) sc_law_cost.nd rfl (.inl rfl) (pe_op op_add (pv 3) (pe_dget (hu_of hr) (pe_callTy (dictT K) (by rfl) mdict (by decide +kernel) (pa_cons (pe_ix (ixT K) (pv 0) pe_int (fun _ _ => rfl)) pa_nil)) (pe_op op_add_str (pe_ix ix_str (pv 1) (pv 4) (fun _ _ => rfl)) (pe_ix ix_str (pv 1) (pv 5) (fun _ _ => rfl))) (fun _ _ => rfl))))
      (pss_one (ps_set (i := 3) sc_law_cost.nd rfl (.inl rfl) (pe_op op_add (pv 3) (pe_ca c_law_loop (hr.mono (by decide)) (by rfl) (pa_cons (pv 0) (pa_cons (pv 1) (pa_cons (pv 4) (pa_cons (pv 5) (pa_cons (pe_ca c_law_within (hr.mono (by decide)) (by rfl) (pa_cons (pe_lc (own := [("_law_one", 6)]) (g := gName 6) (by rfl) sc_law_cost.nd (pi_tup (pv 2)) (blkOk_by (own := [("_law_one", 6)]) (N := ["_law_book", "_law_line", "_law_pairs_here", "_law_found", "_law_i", "_law_j", "_law_one"]) (sc := defScope s_law_cost) (by decide +kernel)) (fun _ _ _ _ _ => (pg_name (i := 6) sc_law_cost.nd rfl (.inl rfl))) (fun _ _ _ _ _ => (pts_one (pt_cmpR op_gt (pe_ix (ixT K) (pv 6) pe_int (fun _ _ => rfl)) (pv 4) (nomark _)))) (fun _ _ _ _ _ => (pv 6))) (pa_cons (pv 4) (pa_cons (pv 5) pa_nil)))) pa_nil)))))))))))
      (pss_one (ps_ret (pv 3))))), ?_⟩
    obtain ⟨hin, hlen⟩ := WA_in r0 x x.length 0 q0 hq0
    have hin' : ∀ y ∈ q0, 0 ≤ y.1 ∧ y.1 < x.length ∧ 0 ≤ y.2 ∧ y.2 < x.length := fun y hy => by
      have := hin y hy
      omega
    obtain ⟨a, vp, vl, vs, rfl, hA, ⟨ap, oz, pus, rfl, hp, hoz, hRp⟩, ⟨al, ls, rfl, hl9, hLo⟩, hvs⟩ := id hR
    have ils := ints_of hLo
    subst ils
    rw [lo9_list ok] at hl9
    have l8 := lo_bound ok (show 8 < 9 by decide)
    obtain ⟨sa, fs, rfl, hS, hPf⟩ := hF
    have hfl := paired_len hPf
    refine ⟨_, rfl, a, _, 3, _, rfl, rfl, SqT.of hA, rfl, al, _, 8, _, rfl, rfl, SqT.of hl9, rfl, ?_⟩
    refine ⟨_, rfl, 1, rfl, _, rfl, x, rfl, szL (by omega), sa, fs, false, q0, -1, (x.length : Int), rfl, hS, hPf, by omega, fun l us H1 hl hL hP k1 => ?_⟩
    rw [wiL_out hq0] at hP
    have hul := paired_len hP
    have htl := tops_len q0
    refine ⟨l, us, rfl, .inl (SqL.of hL), _, _, rfl, rfl, .inl ⟨by omega, by omega⟩, ?_⟩
    obtain ⟨pas, hpas, hpp⟩ : ∃ pas : List Addr, pus = pas.map V.ref ∧ Paired (fun p kv => H p = some (.tup [kV kv.1, kv.2])) pas (r.prs.map encP) := by
      have aux : ∀ {us : List V} {ps : List (Str × Int)}, Paired (PairAt H) us ps → ∃ pas : List Addr, us = pas.map V.ref ∧ Paired (fun p kv => H p = some (.tup [kV kv.1, kv.2])) pas (ps.map encP) := by
        intro us ps h
        induction h with
        | nil => exact ⟨[], rfl, .nil⟩
        | cons h t ih =>
          obtain ⟨pas, e, hpp⟩ := ih
          obtain ⟨a1, e1, h1⟩ := h
          exact ⟨a1 :: pas, by rw [e1, e]; rfl, .cons h1 hpp⟩
      exact aux hRp
    refine ⟨_, rfl, sa, rfl, ⟨_, SqT.of (k1 _ _ hS)⟩, for_tup (K := K) (xs := fs) (fun c σ H2 => ∃ (y4 y5 : Option V), σ = [some (.ref a), some (.str x), some (.ref sa), some (.int (lo r 8 * (us.length : Int) + ((q0.map (pVW r x q0)).take c).sum)), y4, y5, none] ∧ Ext H H2)
      ⟨none, none, by rw [List.take_zero, List.sum_nil, Int.add_zero]; rfl, k1⟩ (fun c σ H2 _ h => by obtain ⟨_, _, _, k⟩ := h; exact SqT.of (k _ _ hS)) (fun c u σ H2 hc hv => ?_) (fun σ H2 hv => ?_)⟩
    · obtain ⟨y4, y5, rfl, k2⟩ := hv
      obtain ⟨y, hy, a1, rfl, ha1⟩ := paired_get hPf hc
      have hyq := List.mem_of_getElem? hy
      have hi := hin' y hyq
      have hm := hmay y hyq
      refine ⟨a1, _, rfl, SqT.of (k2 _ _ ha1), rfl, _, _, rfl, _, _, rfl, rfl, ?_⟩
      refine ⟨_, rfl, _, rfl, a, _, 1, _, rfl, rfl, SqT.of (k2 _ _ hA), rfl, ap, oz, pas, r.prs.map encP, rfl, by rw [← hpas]; exact k2 _ _ hp, hoz, paired_imp (fun _ _ h => SqT.of (k2 _ _ h)) hpp, fun d hd => ?_⟩
      rw [merge_prs ok.pn]
      have x3 := Ext.new (o := .dK (r.prs.map encP)) hd
      refine ⟨_, rfl, _, rfl, x, y.1, _, rfl, rfl, szL (by omega), sgn_at hi.1 hi.2.1, _, rfl, _, rfl, x, y.2, _, rfl, rfl, szL (by omega), sgn_at hi.2.2.1 hi.2.2.2, _, _, rfl, rfl, szL (show 1 + 1 ≤ 1000000 by decide), ?_⟩
      refine ⟨d, _, rfl, val_prs r.prs (tx2 x y) hm ▸ DGet.k (k := .inr (tx2 x y)) upd_same, _, _, rfl, rfl, ?_⟩
      have k3 := k2.trans x3
      refine ⟨_, rfl, _, rfl, _, rfl, _, rfl, _, rfl, _, rfl, sa, rfl, ⟨_, SqT.of (k3 _ _ hS)⟩, fun D hD => lc_tup (K := K) (xs := fs) (fun e H4 => KeepL D (upd H2 d (.dK (r.prs.map encP))) ((q0.take e).filter fun p => decide (p.1 > y.1)) e H4)
        (KeepL.new hD) (fun e H4 _ h => SqT.of (h.ext _ _ (k3 _ _ hS))) (fun e u H4 he hv => ?_) (fun H4 hv => ?_)⟩
      · obtain ⟨z, hz, a2, rfl, ha2⟩ := paired_get hPf he
        have ha4 := hv.ext _ _ (k3 _ _ ha2)
        have cl : e < fs.length := (List.getElem?_eq_some_iff.mp he).1
        rw [take_filt hz]
        refine ⟨rfl, _, rfl, a2, _, 0, _, rfl, rfl, SqT.of ha4, rfl, _, rfl, _, _, rfl, rfl, _, rfl, ite2 (fun e1 => ?_) (fun e1 => ?_)⟩
        · have e1 : decide (z.1 > y.1) = true := e1
          rw [if_pos e1]
          exact ⟨_, rfl, KeepL.add hD hv Ext.refl ha4 (by omega)⟩
        · have e1 : ¬ decide (z.1 > y.1) = true := e1
          rw [if_neg e1, List.append_nil]
          exact hv.skip Ext.refl
      · rw [List.take_of_length_le (by omega)] at hv
        obtain ⟨ws, hL4, hP4, hl4, k4⟩ := hv
        have k04 := k3.trans k4
        refine ⟨_, rfl, _, rfl, D, ws, true, _, y.1, y.2, rfl, hL4, hP4, by omega, fun l5 us5 H5 hl5 hL5 hP5 k5 => ?_⟩
        rw [wiL_in hq0 hyq] at hP5
        have k05 := k04.trans k5
        refine ⟨.ref a, r, x, y, l5, us5, strC q0 y.1 y.2, rfl, RulesAt.mono _ _ _ _ (TupK.ext k05) hR, ok, hx, hsx, hL5, hP5, by have := str_len q0 y.1 y.2; omega, fun z hz => hin' z (str_sub _ _ _ z hz), hi.1, hi.2.1, hi.2.2.1, hi.2.2.2, fun H6 k6 => ?_⟩
        refine ⟨_, _, rfl, rfl, some (.int y.1), some (.int y.2), ?_, k05.trans k6⟩
        rw [sum_takeW (y := pVW r x q0 y) (by rw [List.getElem?_map, hy]; rfl)]
        have e : lo r 8 * (us.length : Int) + ((q0.map (pVW r x q0)).take c).sum + pwI r.prs (tx2 x y) + lpW r x y (strC q0 y.1 y.2) = lo r 8 * (us.length : Int) + (((q0.map (pVW r x q0)).take c).sum + pVW r x q0 y) := by
          unfold pVW
          omega
        rw [← e]
        rfl
    · obtain ⟨y4, y5, rfl, k2⟩ := hv
      rw [List.take_of_length_le (by rw [List.length_map]; omega)]
      refine ⟨_, rfl, ?_⟩
      have := q H2 k2
      rw [woV_pV, ← hul] at this
      exact this
abbrev CCost (P : Program) (w : World) (K : PySem.W.Frag) (mg : Str → Option Value) (base : Heap) : Prop := Ca P w K mg base 2 "_law_cost" ["_law_book", "_law_line", "_law_pairs_here"] spCost
abbrev s_law_stands : Stmt := topS 46
theorem sc_law_stands : FnScope ["_law_book", "_law_line", "_law_pairs_here", "_law_i", "_law_j"] ["_law_book", "_law_line", "_law_pairs_here"] (defScope s_law_stands) :=
  ⟨rfl, rfl, rfl, by decide +kernel, rfl, by decide +kernel, by decide +kernel⟩
def spStandW : Sp := fun vs H Q _ => ∃ (v sv : V) (r : Rl) (x : Str) (q0 : Fo), vs = [v, .str x, sv] ∧ RulesAt H v r ∧ RlOk r ∧ x.length ≤ 12 ∧ FoAt H sv q0 ∧ q0.length ≤ 12 ∧ (∀ y ∈ q0, 0 ≤ y.1 ∧ y.1 < x.length ∧ 0 ≤ y.2 ∧ y.2 < x.length) ∧ ∀ H', Ext H H' → Q (.bl ((q0.map fun y => mayC r x y.1 y.2).all id)) H'
theorem ok_standW {f : Addr} {fd : FuncData} (F : Fun K "_law_stands" "_law_stands" s_law_stands f fd) (c_law_may : CMayW P w K mg base) : FnOk P w K mg base CX0 2 f fd ["_law_book", "_law_line", "_law_pairs_here"] spStandW := by
  refine F.ok sc_law_stands (fun vs H Q E h => ?_) (fun cdv A outer s H vs Q E hr h => ?_)
  · obtain ⟨v, sv, r, x, q0, rfl, _⟩ := h
    rfl
  · obtain ⟨v, sv, r, x, q0, rfl, hR, ok, hx, ⟨sa, fs, rfl, hS, hPf⟩, hq, hin, q⟩ := h
    refine ⟨_, (pss_one (ps_ret (pe_cmpR (eqD K hr.units) (pe_lc (own := [("_law_i", 3), ("_law_j", 4)]) (g := gTup K 2 (gCons (gName 3) (gCons (gName 4) gNil))) (by rfl) sc_law_stands.nd (pi_tup (pv 2)) (blkOk_by (own := [("_law_i", 3), ("_law_j", 4)]) (N := ["_law_book", "_law_line", "_law_pairs_here", "_law_i", "_law_j"]) (sc := defScope s_law_stands) (by decide +kernel)) (fun _ _ _ _ _ => (pgT K rfl (pgs_cons (pg_name (i := 3) sc_law_stands.nd rfl (.inl rfl)) (pgs_cons (pg_name (i := 4) sc_law_stands.nd rfl (.inl rfl)) pgs_nil)))) (fun _ _ _ _ _ => (pts_one (pt_not (pt_val (pe_ca c_law_may (hr.mono (by decide)) (by rfl) (pa_cons (pv 0) (pa_cons (pv 1) (pa_cons (pv 3) (pa_cons (pv 4) pa_nil))))))))) (fun _ _ _ _ _ => pe_int)) (pe_lst pa_nil) (nomark _)))), ?_⟩
    have hfl := paired_len hPf
    refine ⟨_, rfl, sa, rfl, ⟨_, SqT.of hS⟩, fun D hD => lc_tup (K := K) (xs := fs) (fun c H2 => ∃ n : Nat, n ≤ c ∧ H2 D = some (.lst ((List.replicate n (1 : Int)).map V.int)) ∧ (n = 0 ↔ ((q0.take c).map fun y => mayC r x y.1 y.2).all id = true) ∧ Ext H H2)
      ⟨0, Nat.le_refl _, upd_same, by simp, Ext.new hD⟩ (fun c H2 _ ⟨_, _, _, _, k⟩ => SqT.of (k _ _ hS)) (fun c u H2 hc hv => ?_) (fun H2 hv => ?_)⟩
    · obtain ⟨n, hn, hL, hn0, k2⟩ := hv
      obtain ⟨y, hy, a1, rfl, ha1⟩ := paired_get hPf hc
      have hi := hin y (List.mem_of_getElem? hy)
      have cl : c < fs.length := (List.getElem?_eq_some_iff.mp hc).1
      have est : ((q0.take (c + 1)).map fun y => mayC r x y.1 y.2).all id = (((q0.take c).map fun y => mayC r x y.1 y.2).all id && mayC r x y.1 y.2) := by
        rw [List.take_add_one, hy, List.map_append, List.all_append]
        simp
      refine ⟨a1, _, rfl, SqT.of (k2 _ _ ha1), rfl, _, _, rfl, _, _, rfl, rfl, rfl, ?_⟩
      refine ⟨_, rfl, _, rfl, _, rfl, _, rfl, v, r, x, y.1, y.2, rfl, RulesAt.mono _ _ _ _ (TupK.ext k2) hR, ok, by omega, hi.1, hi.2.1, hi.2.2.1, hi.2.2.2, fun H3 k3 => ⟨_, rfl, ?_⟩⟩
      cases hm : mayC r x y.1 y.2 with
      | true =>
        refine iteF ⟨n, by omega, k3 _ _ hL, ?_, k2.trans k3⟩
        rw [est, hm, Bool.and_true]
        exact hn0
      | false =>
        refine iteT ⟨_, k3 _ _ hL, szLt (by rw [List.length_map, List.length_replicate]; omega), n + 1, by omega, ?_, ?_, (k2.trans k3).put hD⟩
        · rw [upd_same, List.replicate_succ', List.map_append]
          rfl
        · rw [est, hm, Bool.and_false]
          constructor
          · intro z; omega
          · intro z; cases z
    obtain ⟨n, hn, hL, hn0, k2⟩ := hv
    rw [List.take_of_length_le (by omega)] at hn0
    refine ⟨Nat.zero_le _, fun l5 hl5 => ?_⟩
    have x5 := Ext.new (o := .lst []) hl5
    refine ⟨.list ((List.replicate n (1 : Int)).map PyData.int), .list [], .lst (SqL.of (x5 _ _ hL)) (dpInts _), .lst (SqL.of upd_same) .nil, PySem.W.shaped_ints _, by decide +kernel, ?_⟩
    rw [eqv_ones]
    have h := q _ (k2.trans x5)
    have e : ((q0.map fun y => mayC r x y.1 y.2).all id) = decide (n = 0) := by
      cases h2 : (q0.map fun y => mayC r x y.1 y.2).all id with
      | true => rw [decide_eq_true (hn0.mpr h2)]
      | false => rw [decide_eq_false (fun z => by rw [hn0.mp z] at h2; cases h2)]
    rw [e] at h
    exact h
abbrev CStandW (P : Program) (w : World) (K : PySem.W.Frag) (mg : Str → Option Value) (base : Heap) : Prop := Ca P w K mg base 2 "_law_stands" ["_law_book", "_law_line", "_law_pairs_here"] spStandW
end
end Pf


namespace Pf
open PySem PySem.Spec PyProof.Rows L2
/-! ### how deep a text of brackets goes -/
def bst : Option Nat → Nat → Option Nat
  | none, _ => none
  | some d, c => if c = 40 then some (d + 1) else if c = 41 then (match d with | 0 => none | d + 1 => some d) else if c = 46 then some d else none
theorem bst_none : ∀ l : List Nat, l.foldl bst none = none
  | [] => rfl
  | _ :: l => bst_none l
theorem run_bst : ∀ (l : List Nat) (k : Nat) (b : List Int), l.foldl bst (some b.length) = some 0 → ∃ ps, run b (toks k l) = some ps
  | [], k, b, h => by
    have h : some b.length = some 0 := h
    have hb : b = [] := List.length_eq_zero_iff.mp (Option.some.inj h)
    exact ⟨[], by rw [toks, run_nil, if_pos hb]⟩
  | c :: l, k, b, h => by
    have h : l.foldl bst (bst (some b.length) c) = some 0 := h
    rw [toks]
    by_cases h0 : c = 46
    · subst h0
      rw [if_pos rfl]
      exact run_bst l (k + 1) b h
    · rw [if_neg h0, run_cons]
      by_cases h1 : c = 40
      · subst h1
        rw [if_pos rfl]
        exact run_bst l (k + 1) ((k : Int) :: b) h
      · rw [if_neg h1]
        by_cases h2 : c = 41
        · subst h2
          rw [if_pos rfl]
          cases b with
          | nil =>
            have h : l.foldl bst none = some 0 := h
            rw [bst_none] at h
            cases h
          | cons p b' =>
            obtain ⟨ps, e⟩ := run_bst l (k + 1) b' h
            exact ⟨(p, (k : Int)) :: ps, by dsimp only; rw [e]; rfl⟩
        · have e : bst (some b.length) c = none := by
            show (if c = 40 then _ else _) = none
            rw [if_neg h1, if_neg h2, if_neg h0]
          rw [e, bst_none] at h
          cases h
theorem Pen.kp {p p2 c2 : Addr} {n : Nat} {H H' : Hp} (h : Pen H p2 c2 n) (k : Kp p H H') (n1 : p2 ≠ p) (n2 : c2 ≠ p) : Pen H' p2 c2 n := by
  obtain ⟨cells, a, r, h1, h2, h3⟩ := h
  exact ⟨cells, a, r, k _ _ n1 h1, k _ _ n2 h2, h3⟩
/-- what two pens leave as it was -/
def Kp2 (p q : Addr) (H H' : Hp) : Prop := ∀ b o, b ≠ p → b ≠ q → H b = some o → H' b = some o
theorem Kp2.left {p q : Addr} {H H' : Hp} (k : Kp p H H') : Kp2 p q H H' := fun b o n _ e => k b o n e
theorem Kp2.right {p q : Addr} {H H' : Hp} (k : Kp q H H') : Kp2 p q H H' := fun b o _ n e => k b o n e
theorem Kp2.trans {p q : Addr} {H H1 H2 : Hp} (a : Kp2 p q H H1) (b : Kp2 p q H1 H2) : Kp2 p q H H2 := fun c o n m e => b c o n m (a c o n m e)
theorem perm_filter_empty {α : Type} {l m : List α} (h : l.Perm m) (f : α → Bool) : (l.filter f).isEmpty = (m.filter f).isEmpty := by
  have := (h.filter f).length_eq
  cases e1 : l.filter f <;> cases e2 : m.filter f <;> rw [e1, e2] at this <;> first | rfl | cases this
theorem sgs3 : ("(" : Str) = ⟨#[40]⟩ ∧ (")" : Str) = ⟨#[41]⟩ ∧ ("." : Str) = ⟨#[46]⟩ := ⟨by decide +kernel, by decide +kernel, by decide +kernel⟩
/-- what may stand next, at this depth, with so many places left -/
def NxS (d : Int) (left : Int) (s : Str) : Prop := (s = ⟨#[46]⟩ ∧ d ≤ left) ∨ (s = ⟨#[40]⟩ ∧ d < left) ∨ (s = ⟨#[41]⟩ ∧ 0 < d)
section
variable {P : Program} {w : World} {K : PySem.W.Frag} {mg : Str → Option Value} {base : Heap}
abbrev s_law_wish : Stmt := topS 47
theorem sc_law_wish : FnScope ["_law_pen", "_law_size", "_law_line", "_law_depth", "_law_k", "_law_left", "_law_sign", "_law_some"] ["_law_pen", "_law_size"] (defScope s_law_wish) :=
  ⟨rfl, rfl, rfl, by decide +kernel, rfl, by decide +kernel, by decide +kernel⟩
def spLWi : Sp := fun vs H Q _ => ∃ (p c : Addr) (n sz : Nat), vs = [.ref p, .int (sz : Nat)] ∧ sz ≤ 12 ∧ Pen H p c n ∧ n + 20 < 1000000 ∧
  ∀ (x : Str) H', x.length = sz → x.cps.toList.foldl bst (some 0) = some 0 → Kp p H H' → Pen H' p c (n + sz) → Q (.str x) H'
theorem ok_lwi {f : Addr} {fd : FuncData} (F : Fun K "_law_wish" "_law_wish" s_law_wish f fd) (c_law_draw : CDraw P w K mg base) (mlen : mg "len" = none) (mint : mg "int" = none) (mrange : mg "range" = none) : FnOk P w K mg base CX0 2 f fd ["_law_pen", "_law_size"] spLWi := by
  refine F.ok sc_law_wish (fun vs H Q E h => ?_) (fun cdv A outer s H vs Q E hr h => ?_)
  · obtain ⟨p, c, n, sz, rfl, _⟩ := h
    rfl
  · obtain ⟨p, c, n, sz, rfl, hsz, hP, hn, q⟩ := h
    refine ⟨_, (pss_cons (ps_set (i := 2) sc_law_wish.nd rfl (.inl rfl) pe_str)
      (pss_cons (ps_set (i := 3) sc_law_wish.nd rfl (.inr rfl) pe_int)
      (pss_cons (ps_for PassesOwn.never rfl (pi_range1 (by rfl) mrange (pa_cons (pv 1) pa_nil)) (pg_name (i := 4) sc_law_wish.nd rfl (.inl rfl)) (pss_cons (ps_set (i := 5) sc_law_wish.nd rfl (.inr rfl) (pe_op op_sub (pe_op op_sub (pv 1) (pv 4)) pe_int))
      (pss_cons (ps_setLc (i := 7) (own := [("_law_sign", 6)]) (g := gName 6) (by rfl) sc_law_wish.nd rfl rfl (sw_true rfl rfl rfl (by decide +kernel)) (pi_str pe_str) (blkOk_by (own := [("_law_sign", 6)]) (N := ["_law_pen", "_law_size", "_law_line", "_law_depth", "_law_k", "_law_left", "_law_sign", "_law_some"]) (sc := defScope s_law_wish) (by decide +kernel)) (fun _ _ _ _ _ => (pg_name (i := 6) sc_law_wish.nd rfl (.inl rfl))) (fun _ _ _ _ _ => (pts_one (PW.pt (pw_or (PW.pt (pw_and (pt_cmpR op_eq (pv 6) pe_str (nomark _)) (pw_and1 (pt_cmpR op_le (pv 3) (pv 5) (nomark _))))) (pw_or1 (PW.pt (pw_and (pt_cmpR op_eq (pv 6) pe_str (nomark _)) (pw_and1 (pt_cmpR op_lt (pv 3) (pv 5) (nomark _)))))))))) (fun _ _ _ _ _ => (pv 6)))
      (pss_cons (ps_set (i := 7) sc_law_wish.nd rfl (.inl rfl) (pe_op op_cat (pv 7) (pe_op op_rep (pe_lst (pa_cons pe_str pa_nil)) (pe_op op_mul pe_int (pe_callTy call_int1 (by rfl) mint (by decide +kernel) (pa_cons (pe_cmpR op_gt (pv 3) pe_int (nomark _)) pa_nil))))))
      (pss_cons (ps_set (i := 6) sc_law_wish.nd rfl (.inl rfl) (pe_ix (ixL K) (pv 7) (pe_ca c_law_draw (hr.mono (by decide)) (by rfl) (pa_cons (pv 0) (pa_cons (pe_callB (lenQ K) (by rfl) mlen (by decide +kernel) (pa_cons (pv 7) pa_nil)) pa_nil))) (fun _ _ => rfl)))
      (pss_cons (ps_set (i := 3) sc_law_wish.nd rfl (.inr rfl) (pe_op op_sub (pe_op op_add (pv 3) (pe_callTy call_int1 (by rfl) mint (by decide +kernel) (pa_cons (pe_cmpR op_eq (pv 6) pe_str (nomark _)) pa_nil))) (pe_callTy call_int1 (by rfl) mint (by decide +kernel) (pa_cons (pe_cmpR op_eq (pv 6) pe_str (nomark _)) pa_nil))))
      (pss_one (ps_set (i := 2) sc_law_wish.nd rfl (.inl rfl) (pe_op op_add_str (pv 2) (pv 6))))))))))
      (pss_one (ps_ret (pv 2)))))), ?_⟩
    refine ⟨_, rfl, (sz : Int), rfl, by omega, by omega, for_range (lo := 0) (n := (sz : Int).toNat) (fun i σ H2 => ∃ (y4 y5 y6 y7 : Option V) (x : Str) (d : Nat), σ = [some (.ref p), some (.int sz), some (.str x), some (.int d), y4, y5, y6, y7] ∧ x.length = i ∧ x.cps.toList.foldl bst (some 0) = some d ∧ d + i ≤ sz ∧ Kp p H H2 ∧ Pen H2 p c (n + i))
      ⟨none, none, none, none, "", 0, rfl, rfl, by decide +kernel, by omega, Kp.refl, hP⟩ (fun i σ H2 hi hv => ?_) (fun σ H2 hv => ?_)⟩
    · obtain ⟨y4, y5, y6, y7, x, d, rfl, hxl, hb, hd, k2, hP2⟩ := hv
      have hi2 : i < sz := by omega
      refine ⟨_, rfl, _, rfl, _, _, rfl, rfl, _, 1, rfl, rfl, ?_⟩
      obtain ⟨lf, hlf⟩ : ∃ lf : Int, lf = (sz : Int) - (0 + (i : Int)) - 1 := ⟨_, rfl⟩
      refine gow_as (v' := .int lf) (congrArg V.int hlf.symm) ?_
      -- what may stand next
      refine ⟨".((", rfl, fun D hD => lc_str (fun j H3 => ∃ ss : List Str, H3 D = some (.lst (ss.map V.str)) ∧ (∀ s ∈ ss, NxS d lf s) ∧ ss.length ≤ j ∧ (1 ≤ j → d = 0 → 0 < ss.length) ∧ Ext H2 H3)
        ⟨[], upd_same, (fun s hs => by cases hs), Nat.le_refl _, (fun h => by omega), Ext.new hD⟩ (fun j ch H3 hj hv => ?_) (fun H3 hv => ?_)⟩
      · obtain ⟨ss, hL, hss, hsl, hs0, k3⟩ := hv
        have hch : (j = 0 ∧ ch = 46) ∨ (1 ≤ j ∧ ch = 40) := by
          have e3 : (".((" : Str).cps = #[46, 40, 40] := by decide +kernel
          rw [e3] at hj
          match j, hj with
          | 0, hj => exact .inl ⟨rfl, (Option.some.inj hj).symm⟩
          | 1, hj => exact .inr ⟨by decide, (Option.some.inj hj).symm⟩
          | 2, hj => exact .inr ⟨by decide, (Option.some.inj hj).symm⟩
          | j + 3, hj => cases hj
        have hj3 : j < 3 := (Array.getElem?_eq_some_iff.mp hj).1
        have add : NxS d lf ⟨#[ch]⟩ → ∃ acc, H3 D = some (.lst acc) ∧ acc.length < sizeLine ∧ ∃ ss : List Str, upd H3 D (.lst (acc ++ [.str ⟨#[ch]⟩])) D = some (.lst (ss.map V.str)) ∧ (∀ s ∈ ss, NxS d lf s) ∧ ss.length ≤ j + 1 ∧ (1 ≤ j + 1 → d = 0 → 0 < ss.length) ∧ Ext H2 (upd H3 D (.lst (acc ++ [.str ⟨#[ch]⟩]))) := fun hx => by
          refine ⟨_, hL, szLt (by rw [List.length_map]; omega), ss ++ [⟨#[ch]⟩], by rw [upd_same, List.map_append]; rfl, fun s hs => ?_, by rw [List.length_append, List.length_singleton]; exact Nat.succ_le_succ hsl, fun _ _ => by rw [List.length_append, List.length_singleton]; exact Nat.succ_pos _, k3.put hD⟩
          rcases List.mem_append.mp hs with hs | hs
          · exact hss s hs
          · rw [List.mem_singleton.mp hs]
            exact hx
        refine ⟨rfl, _, rfl, rfl, _, rfl, ?_⟩
        rw [sign_d, one_is]
        have skip : (ch = 46 → ¬ (d : Int) ≤ lf) → ∃ ss : List Str, H3 D = some (.lst (ss.map V.str)) ∧ (∀ s ∈ ss, NxS d lf s) ∧ ss.length ≤ j + 1 ∧ (1 ≤ j + 1 → d = 0 → 0 < ss.length) ∧ Ext H2 H3 := fun hno => by
          refine ⟨ss, hL, hss, by omega, fun _ h0 => ?_, k3⟩
          rcases hch with ⟨h1, h2⟩ | ⟨h1, h2⟩
          · exact absurd (show (d : Int) ≤ lf by omega) (hno h2)
          · exact hs0 h1 h0
        refine ite2 (fun e => ?_) (fun e => ?_)
        · have e : ch = 46 := of_decide_eq_true e
          refine ⟨_, rfl, _, rfl, _, _, rfl, rfl, _, rfl, ite2 (fun e1 => ?_) (fun e1 => ?_)⟩
          · have e1 : (d : Int) ≤ lf := of_decide_eq_true e1
            exact ⟨_, rfl, add (.inl ⟨by rw [e], e1⟩)⟩
          · have e1 : ¬ (d : Int) ≤ lf := fun z => e1 (decide_eq_true z)
            refine ⟨_, rfl, rfl, _, rfl, ?_⟩
            rw [sign_o, one_is, decide_eq_false (show ¬ ch = 40 by omega)]
            exact iteF (skip fun _ => e1)
        · have e : ¬ ch = 46 := fun z => e (decide_eq_true z)
          have e4 : ch = 40 := hch.elim (fun z => absurd z.2 e) fun z => z.2
          refine ⟨_, rfl, rfl, _, rfl, ?_⟩
          rw [sign_o, one_is, decide_eq_true e4]
          refine iteT ⟨_, rfl, _, rfl, _, _, rfl, rfl, _, rfl, ite2 (fun e1 => ?_) (fun e1 => ?_)⟩
          · have e1 : (d : Int) < lf := of_decide_eq_true e1
            exact ⟨_, rfl, add (.inr (.inl ⟨by rw [e4], e1⟩))⟩
          · exact skip fun z => absurd z e
      obtain ⟨ss, hL, hss, hsl, hs0, k3⟩ := hv
      have e3 : (".((" : Str).cps.size = 3 := by decide +kernel
      have hsl : ss.length ≤ 3 := by
        have : ss.length ≤ (".((" : Str).cps.size := hsl
        omega
      have hs0 : d = 0 → 0 < ss.length := hs0 (show 1 ≤ (".((" : Str).cps.size by omega)
      -- and a closing one
      refine ⟨_, rfl, szL (show 1 ≤ 1000000 by decide), fun l4 hl4 => ?_⟩
      have x4 := Ext.new (o := .lst [.str ")"]) hl4
      obtain ⟨kk, hkk⟩ : ∃ kk : Nat, (2 : Int) * (if decide ((d : Int) > 0) = true then 1 else 0) = (kk : Int) ∧ kk ≤ 2 ∧ (0 < d ↔ 0 < kk) := by
        by_cases h : (d : Int) > 0
        · rw [decide_eq_true h, if_pos rfl]
          exact ⟨2, rfl, by decide, by omega⟩
        · rw [decide_eq_false h, if_neg Bool.false_ne_true]
          exact ⟨0, rfl, by decide, by omega⟩
      refine ⟨_, rfl, _, _, rfl, rfl, .inr ⟨_, rfl, 2, _, rfl, rfl, .inl ⟨by decide, by decide⟩, l4, kk, [.str ")"], rfl, congrArg V.int hkk.1, upd_same, by omega, by omega, szL (by rw [List.length_singleton]; omega), fun l5 hl5 => ?_⟩⟩
      have hrep : ((List.replicate (kk : Int).toNat [V.str ")"]).flatten) = (List.replicate kk (⟨#[41]⟩ : Str)).map V.str := by
        rw [show ((kk : Int)).toNat = kk by omega]
        have : ∀ m : Nat, (List.replicate m [V.str ")"]).flatten = (List.replicate m (⟨#[41]⟩ : Str)).map V.str := by
          intro m
          induction m with
          | zero => rfl
          | succ m ih =>
            rw [List.replicate_succ, List.flatten_cons, ih, List.replicate_succ, List.map_cons, sgs3.2.1]
            rfl
        exact this kk
      rw [hrep]
      have x5 := Ext.new (o := .lst ((List.replicate kk (⟨#[41]⟩ : Str)).map V.str)) hl5
      refine ⟨D, l5, ss.map V.str, (List.replicate kk (⟨#[41]⟩ : Str)).map V.str, rfl, rfl, x5 _ _ (x4 _ _ hL), upd_same, szL (by rw [List.length_map, List.length_map, List.length_replicate]; omega), fun l6 hl6 => ?_⟩
      rw [← List.map_append]
      obtain ⟨ts, hts⟩ : ∃ ts, ts = ss ++ List.replicate kk (⟨#[41]⟩ : Str) := ⟨_, rfl⟩
      have htN : ∀ t ∈ ts, NxS d lf t := fun t ht => by
        rw [hts] at ht
        rcases List.mem_append.mp ht with ht | ht
        · exact hss t ht
        · have h := List.mem_replicate.mp ht
          exact .inr (.inr ⟨h.2, by have := hkk.2.2; omega⟩)
      have htl : 0 < ts.length ∧ ts.length ≤ 5 := by
        rw [hts, List.length_append, List.length_replicate]
        have := hkk.2
        omega
      rw [← hts]
      have x6 := Ext.new (o := .lst (ts.map V.str)) hl6
      have k26 := ((k3.trans x4).trans x5).trans x6
      have hT6 : upd (upd (upd H3 l4 (.lst [.str ")"])) l5 (.lst ((List.replicate kk (⟨#[41]⟩ : Str)).map V.str))) l6 (.lst (ts.map V.str)) l6 = some (.lst (ts.map V.str)) := upd_same
      generalize upd (upd (upd H3 l4 (.lst [.str ")"])) l5 (.lst ((List.replicate kk (⟨#[41]⟩ : Str)).map V.str))) l6 (.lst (ts.map V.str)) = H6 at k26 hT6 ⊢
      have hP6 := hP2.ext k26
      have n6 : l6 ≠ p := by
        have := ((k3.trans x4).trans x5).none hl6
        exact (hP2.ne this).1
      have htl2 : ((ts.map V.str).length : Int) = ts.length := by rw [List.length_map]
      refine ⟨_, rfl, _, rfl, _, rfl, l6, _, rfl, .inl (SqL.of hT6), p, c, _, _, rfl, hP6, by omega, by omega, by omega, fun r7 H7 r7a r7b k7 hP7 => ?_⟩
      obtain ⟨v, hvm, hat⟩ := atI_mem (xs := ts.map V.str) r7a r7b
      obtain ⟨t, ht, rfl⟩ := List.mem_map.mp hvm
      have hN := htN t ht
      refine ⟨l6, _, r7, _, rfl, rfl, SqL.of (k7 _ _ n6 hT6), hat, ?_⟩
      obtain ⟨ch, d', rfl, hch, hd'⟩ : ∃ (ch : Nat) (d' : Nat), t = ⟨#[ch]⟩ ∧ bst (some d) ch = some d' ∧ ((d' : Int) = (d : Int) + (if decide (ch = 40) = true then 1 else 0) - (if decide (ch = 41) = true then 1 else 0) ∧ d' + (i + 1) ≤ sz) := by
        rcases hN with ⟨h1, h2⟩ | ⟨h1, h2⟩ | ⟨h1, h2⟩
        · exact ⟨46, d, h1, rfl, by rw [decide_eq_false (by decide), decide_eq_false (by decide), if_neg Bool.false_ne_true]; omega, by omega⟩
        · exact ⟨40, d + 1, h1, rfl, by rw [decide_eq_true rfl, decide_eq_false (by decide), if_pos rfl, if_neg Bool.false_ne_true]; omega, by omega⟩
        · obtain ⟨e, rfl⟩ : ∃ e, d = e + 1 := ⟨d - 1, by omega⟩
          exact ⟨41, e, h1, rfl, by rw [decide_eq_true rfl, decide_eq_false (by decide), if_pos rfl, if_neg Bool.false_ne_true]; omega, by omega⟩
      refine ⟨_, rfl, _, rfl, rfl, .inr ⟨_, rfl, _, _, rfl, rfl, _, rfl, rfl, .inr ⟨_, rfl, _, _, rfl, rfl, ?_⟩⟩⟩
      refine gow_as (v' := .int d') ?_ ?_
      · rw [sign_o, sign_c, one_is, one_is]
        exact congrArg V.int hd'.1.symm
      refine ⟨_, rfl, _, rfl, x, ⟨#[ch]⟩, rfl, rfl, szL ?_, ?_⟩
      · show x.length + 1 ≤ _
        omega
      refine ⟨_, _, _, _, x ++ ⟨#[ch]⟩, d', rfl, ?_, ?_, hd'.2, (k2.trans (Kp.ext k26)).trans k7, hP7⟩
      · rw [Str.length_append, hxl]
        rfl
      · rw [Str.cps_append, Array.toList_append, List.foldl_append, hb]
        show bst (some d) ch = some d'
        exact hch
    · obtain ⟨y4, y5, y6, y7, x, d, rfl, hxl, hb, hd, k2, hP2⟩ := hv
      have hxs : x.length = sz := by omega
      have hd0 : d = 0 := by omega
      subst hd0
      refine ⟨_, rfl, q x H2 hxs hb k2 (hP2.mono (by omega))⟩
abbrev CLWi (P : Program) (w : World) (K : PySem.W.Frag) (mg : Str → Option Value) (base : Heap) : Prop := Ca P w K mg base 2 "_law_wish" ["_law_pen", "_law_size"] spLWi
end
end Pf


namespace Pf
open PySem PySem.Spec PyProof.Rows L2
section
variable {P : Program} {w : World} {K : PySem.W.Frag} {mg : Str → Option Value} {base : Heap}
abbrev s_law_pairs_in : Stmt := topS 48
theorem sc_law_pairs_in : FnScope ["_law_text", "_law_waiting", "_law_found", "_law_spot", "_law_sign"] ["_law_text"] (defScope s_law_pairs_in) :=
  ⟨rfl, rfl, rfl, by decide +kernel, rfl, by decide +kernel, by decide +kernel⟩
def spLPin : Sp := fun vs H Q _ => ∃ (x : Str) (ps0 : Fo), vs = [.str x] ∧ x.length ≤ 1000 ∧ run [] (toks 0 x.cps.toList) = some ps0 ∧ (∀ c ∈ x.cps.toList, c = 40 ∨ c = 41 ∨ c = 46) ∧ ∀ v H', Ext H H' → FoAt H' v (srt ps0) → Q v H'
theorem ok_lpin {f : Addr} {fd : FuncData} {k : Nat} (F : Fun K "_law_pairs_in" "_law_pairs_in" s_law_pairs_in f fd) (menumerate : mg "enumerate" = none) (mtuple : mg "tuple" = none) (msorted : mg "sorted" = none) : FnOk P w K mg base CX0 (k + 1) f fd ["_law_text"] spLPin := by
  refine F.ok sc_law_pairs_in (fun vs H Q E h => ?_) (fun cdv A outer s H vs Q E hr h => ?_)
  · obtain ⟨x, ps0, rfl, _⟩ := h
    rfl
  · obtain ⟨x, ps0, rfl, hx, hr0, hchs, q⟩ := h
    refine ⟨_, (pss_cons (ps_set (i := 1) sc_law_pairs_in.nd rfl (.inl rfl) (pe_lst pa_nil))
      (pss_cons (ps_set (i := 2) sc_law_pairs_in.nd rfl (.inl rfl) (pe_lst pa_nil))
      (pss_cons (ps_for PassesOwn.never rfl (pi_enumS (by rfl) menumerate (pa_cons (pv 0) pa_nil)) (pg_tup rfl (pgs_cons (pg_name (i := 3) sc_law_pairs_in.nd rfl (.inl rfl)) (pgs_cons (pg_name (i := 4) sc_law_pairs_in.nd rfl (.inl rfl)) pgs_nil))) (pss_cons (ps_if (pt_cmpR op_eq (pv 4) pe_str (nomark _)) (pss_one (ps_expr (pe_bm PySem.F.plainAttrs_list PySem.F.slot_list_append PySem.F.type_list_append mt_append (pv 1) (pa_cons (pv 3) pa_nil)))) pss_nil)
      (pss_one (ps_if (pt_cmpR op_eq (pv 4) pe_str (nomark _)) (pss_one (ps_expr (pe_bm PySem.F.plainAttrs_list PySem.F.slot_list_append PySem.F.type_list_append mt_append (pv 2) (pa_cons (pe_tup (pa_cons (pe_bm0 PySem.F.plainAttrs_list PySem.F.slot_list_pop PySem.F.type_list_pop mt_pop (pv 1)) (pa_cons (pv 3) pa_nil))) pa_nil)))) pss_nil))))
      (pss_one (ps_ret (pe_callTy (tupleOf K) (by rfl) mtuple (by decide +kernel) (pa_cons (pe_callB (cr_sortD K hr.units) (by rfl) msorted (by decide +kernel) (pa_cons (pv 2) pa_nil)) pa_nil))))))), ?_⟩
    refine ⟨Nat.zero_le _, fun lb hlb => ⟨Nat.zero_le _, fun lp hlp => ?_⟩⟩
    have e0 := (Ext.new (o := .lst []) hlb).trans (Ext.new (o := .lst []) hlp)
    have nbp : lb ≠ lp := fun z => by
      rw [← z, upd_same] at hlp
      cases hlp
    have hlp0 : H lp = none := Ext.none (Ext.new hlb) hlp
    refine ⟨_, rfl, x, rfl, for_es (fun i σ H2 => ∃ (y3 y4 : Option V) (b : List Int) (vs : List V) (ps : List (Int × Int)), σ = [some (.str x), some (.ref lb), some (.ref lp), y3, y4] ∧ H2 lb = some (.lst (b.reverse.map V.int)) ∧ H2 lp = some (.lst vs) ∧ Paired (TwoAt H2) vs ps ∧ b.length ≤ i ∧ vs.length ≤ i ∧ Ext H H2 ∧ run [] (toks 0 x.cps.toList) = (run b (toks i (x.cps.toList.drop i))).map (ps ++ ·))
      ⟨none, none, [], [], [], rfl, by rw [upd_ne nbp, upd_same]; rfl, upd_same, .nil, Nat.le_refl _, Nat.le_refl _, e0, ?_⟩ (fun i c T σ H2 hi hv hT => ?_) (fun σ H2 hv => ?_)⟩
    · rw [List.drop_zero]
      cases run [] (toks 0 x.cps.toList) <;> rfl
    · obtain ⟨y3, y4, b, vs, ps, rfl, hB, hV, hPr, hbl, hvl, k2, hrun⟩ := hv
      have hi' : i < x.length := (Array.getElem?_eq_some_iff.mp hi).1
      have hcm : c = 40 ∨ c = 41 ∨ c = 46 := hchs c (Array.mem_toList_iff.mpr (Array.mem_of_getElem? hi))
      rw [drop_at hi, toks] at hrun
      have e3 := Ext.new (o := .tup [.int (i : Nat), .str ⟨#[c]⟩]) hT
      have hB3 := e3 _ _ hB
      have hV3 := e3 _ _ hV
      have hPr3 := paired_imp (fun _ _ => TwoAt.mono _ _ _ _ (TupK.ext e3)) hPr
      have k3 := k2.trans e3
      refine ⟨T, _, rfl, SqT.of upd_same, rfl, _, _, rfl, _, _, rfl, rfl, ?_⟩
      refine ⟨_, rfl, rfl, _, rfl, ?_⟩
      rw [sign_o, one_is]
      refine ite2 (fun e => ?_) (fun e => ?_)
      · have e : c = 40 := of_decide_eq_true e
        rw [if_neg (by omega), run_cons, if_pos e] at hrun
        refine ⟨_, rfl, .inl ⟨rfl, _, SqL.of hB3⟩, _, rfl, lb, _, _, rfl, rfl, hB3, szLt ?_, ?_⟩
        · rw [List.length_map, List.length_reverse]
          omega
        · refine ⟨_, rfl, rfl, _, rfl, ?_⟩
          rw [sign_c, one_is, decide_eq_false (show ¬ c = 41 by omega)]
          refine iteF ⟨_, _, (i : Int) :: b, vs, ps, rfl, ?_, ?_, paired_imp (fun _ _ => TwoAt.mono _ _ _ _ (TupK.lst hB3)) hPr3, ?_, by omega, k3.put hlb, hrun⟩
          · rw [upd_same, List.reverse_cons, List.map_append]
            rfl
          · rw [upd_ne nbp.symm]
            exact hV3
          · rw [List.length_cons]
            omega
      · have e : ¬ c = 40 := fun z => e (decide_eq_true z)
        refine ⟨_, rfl, rfl, _, rfl, ?_⟩
        rw [sign_c, one_is]
        refine ite2 (fun e1 => ?_) (fun e1 => ?_)
        · have e1 : c = 41 := of_decide_eq_true e1
          rw [if_neg (by omega), run_cons, if_neg e, if_pos e1] at hrun
          cases b with
          | nil =>
            rw [hr0] at hrun
            cases hrun
          | cons p b' =>
            refine ⟨_, rfl, .inl ⟨rfl, _, SqL.of hV3⟩, _, rfl, .inl ⟨rfl, _, SqL.of hB3⟩, lb, _, .int p, rfl, rfl, hB3, ?_, _, rfl, szL (show 2 ≤ 1000000 by decide), fun t ht => ?_⟩
            · rw [List.reverse_cons, List.map_append, List.length_append, List.map_singleton, List.length_singleton, Nat.add_sub_cancel, List.getElem?_append_right (Nat.le_refl _), Nat.sub_self]
              rfl
            · have hdl : ((p :: b').reverse.map V.int).dropLast = b'.reverse.map V.int := by
                rw [List.reverse_cons, List.map_append, List.map_singleton, List.dropLast_concat]
              rw [hdl] at ht ⊢
              have hV4 : (upd (upd H2 T (.tup [.int (i : Nat), .str ⟨#[c]⟩])) lb (.lst (b'.reverse.map V.int))) lp = some (.lst vs) := by
                rw [upd_ne nbp.symm]
                exact hV3
              have x5 := Ext.new (o := .tup [.int p, .int (i : Nat)]) ht
              have hV5 := x5 _ _ hV4
              refine ⟨lp, _, _, rfl, rfl, hV5, szLt (by omega), ?_⟩
              have hPr4 := paired_imp (fun _ _ => TwoAt.mono _ _ _ _ (((TupK.lst hB3).trans (TupK.ext x5)).trans (TupK.lst (o := .lst (vs ++ [.ref t])) hV5))) hPr3
              refine ⟨_, _, b', vs ++ [.ref t], ps ++ [(p, (i : Int))], rfl, ?_, upd_same, hPr4.snoc ⟨t, rfl, ?_⟩, ?_, by rw [List.length_append, List.length_singleton]; omega, (((k3.put hlb).trans x5).put hlp0), ?_⟩
              · rw [upd_ne nbp]
                refine x5 _ _ upd_same
              · rw [upd_ne (ne_of_none hV4 ht).symm, upd_same]
              · rw [List.length_cons] at hbl
                omega
              · rw [hrun]
                dsimp only
                cases run b' (toks (i + 1) (x.cps.toList.drop (i + 1))) with
                | none => rfl
                | some qs => simp
        · have e1 : ¬ c = 41 := fun z => e1 (decide_eq_true z)
          have e2 : c = 46 := by omega
          rw [if_pos e2] at hrun
          exact ⟨_, _, b, vs, ps, rfl, hB3, hV3, hPr3, by omega, by omega, k3, hrun⟩
    · obtain ⟨y3, y4, b, vs, ps, rfl, hB, hV, hPr, hbl, hvl, k2, hrun⟩ := hv
      have hd : x.cps.toList.drop x.cps.size = [] := List.drop_eq_nil_of_le (by rw [Array.length_toList]; exact Nat.le_refl _)
      rw [hd, toks, run_nil, hr0] at hrun
      have hb : b = [] := by
        by_cases z : b = []
        · exact z
        · rw [if_neg z] at hrun
          cases hrun
      rw [if_pos hb] at hrun
      have hps : ps0 = ps := by
        have this : ps0 = ps ++ [] := Option.some.inj hrun
        rw [List.append_nil] at this
        exact this
      refine ⟨_, rfl, ?_⟩
      unfold tNil
      refine sort_twos hV hPr fun p us hp hPu hul => ?_
      have e3 := Ext.new (o := .lst us) hp
      refine ⟨p, us, rfl, .inl ⟨SqL.of upd_same, fun tR htR => ?_⟩⟩
      have e4 := Ext.new (o := .tup us) htR
      refine q _ _ ((k2.trans e3).trans e4) ⟨tR, us, rfl, upd_same, ?_⟩
      rw [hps]
      exact paired_imp (fun _ _ => TwoAt.mono _ _ _ _ (TupK.ext e4)) hPu
abbrev CLPin (P : Program) (w : World) (K : PySem.W.Frag) (mg : Str → Option Value) (base : Heap) : Prop := Ca P w K mg base 1 "_law_pairs_in" ["_law_text"] spLPin
abbrev s_law_strings : Stmt := topS 49
theorem sc_law_strings : FnScope ["_law_book", "_law_size", "_law_found", "_law_k", "_law_longer", "_law_line", "_law_sign"] ["_law_book", "_law_size"] (defScope s_law_strings) :=
  ⟨rfl, rfl, rfl, by decide +kernel, rfl, by decide +kernel, by decide +kernel⟩
theorem ok_lsts {f : Addr} {fd : FuncData} {k : Nat} (F : Fun K "_law_strings" "_law_strings" s_law_strings f fd) (mrange : mg "range" = none) : FnOk P w K mg base CX0 (k + 1) f fd ["_law_book", "_law_size"] spSts := by
  refine F.ok sc_law_strings (fun vs H Q E h => ?_) (fun cdv A outer s H vs Q E hr h => ?_)
  · obtain ⟨v, r, n, rfl, _⟩ := h
    rfl
  · obtain ⟨v, r, n, rfl, hR, hl1, hn, hpw, q⟩ := h
    obtain ⟨a, vp, vl, vs, rfl, hA, hp, hlo, hs⟩ := id hR
    refine ⟨_, (pss_cons (ps_set (i := 2) sc_law_strings.nd rfl (.inl rfl) (pe_lst (pa_cons pe_str pa_nil)))
      (pss_cons (ps_for PassesOwn.never rfl (pi_range1 (by rfl) mrange (pa_cons (pv 1) pa_nil)) (pg_name (i := 3) sc_law_strings.nd rfl (.inl rfl)) (pss_cons (ps_set (i := 4) sc_law_strings.nd rfl (.inl rfl) (pe_lst pa_nil))
      (pss_cons (ps_for PassesOwn.never rfl (pi_list (pv 2)) (pg_name (i := 5) sc_law_strings.nd rfl (.inr rfl)) (pss_one (ps_set (i := 4) sc_law_strings.nd rfl (.inl rfl) (pe_op op_cat (pv 4) (pe_lc (own := [("_law_sign", 6)]) (g := gName 6) (by rfl) sc_law_strings.nd (pi_str (pe_ix (ixT K) (pv 0) pe_int (fun _ _ => rfl))) (blkOk_by (own := [("_law_sign", 6)]) (N := ["_law_book", "_law_size", "_law_found", "_law_k", "_law_longer", "_law_line", "_law_sign"]) (sc := defScope s_law_strings) (by decide +kernel)) (fun _ _ _ _ _ => (pg_name (i := 6) sc_law_strings.nd rfl (.inl rfl))) (fun _ _ _ _ _ => pts_nil) (fun _ _ _ _ _ => (pe_op op_add_str (pv 5) (pv 6))))))))
      (pss_one (ps_set (i := 2) sc_law_strings.nd rfl (.inl rfl) (pv 4))))))
      (pss_one (ps_ret (pv 2))))), ?_⟩
    obtain ⟨L, hL⟩ : ∃ L, L = r.letters.cps.toList := ⟨_, rfl⟩
    have hLl : L.length = r.letters.length := by rw [hL]; exact Array.length_toList
    rw [← hL] at q
    have hmon : ∀ i, i ≤ n → L.length ^ i ≤ 10000 := fun i hi => by
      rw [hLl]
      exact Nat.le_trans (Nat.pow_le_pow_right hl1 hi) hpw
    refine ⟨szL (show 1 ≤ 1000000 by decide), fun l0 hl0 => ?_⟩
    refine ⟨_, rfl, (n : Int), rfl, by omega, by omega, for_range (lo := 0) (n := (n : Int).toNat) (fun i σ H2 => ∃ (y3 y4 y5 : Option V) (l : Addr), σ = [some (.ref a), some (.int n), some (.ref l), y3, y4, y5, none] ∧ H l = none ∧ StAt H l (stS L i) H2)
      ⟨none, none, none, l0, rfl, hl0, upd_same, Ext.new hl0⟩ (fun i σ H2 hi hv => ?_) (fun σ H2 hv => ?_)⟩
    · obtain ⟨y3, y4, y5, l, rfl, hl, hL2, k2⟩ := hv
      have hi2 : i + 1 ≤ n := by omega
      have hsl := stS_len L i
      have hm1 := hmon (i + 1) hi2
      rw [Nat.pow_succ, ← hsl] at hm1
      refine ⟨Nat.zero_le _, fun e0 he0 => ?_⟩
      have x0 := Ext.new (o := .lst []) he0
      refine ⟨_, rfl, l, rfl, ⟨_, SqL.of (x0 _ _ hL2)⟩, for_list (K := K) (xs := (stS L i).map V.str) (fun c σ H3 => ∃ (y5 : Option V) (l4 : Addr), σ = [some (.ref a), some (.int n), some (.ref l), some (.int (0 + (i : Int))), some (.ref l4), y5, none] ∧ H2 l4 = none ∧ StAt H2 l4 (((stS L i).take c).flatMap fun s => L.map fun c => s ++ ⟨#[c]⟩) H3)
        ⟨_, e0, rfl, he0, by rw [upd_same, List.take_zero]; rfl, x0⟩ (fun c σ H3 _ ⟨_, _, _, _, h⟩ => SqL.of (h.2 _ _ hL2)) (fun c u σ H3 hc hv => ?_) (fun σ H3 hv => ?_)⟩
      · obtain ⟨y5, l4, rfl, hl4, hD3, k3⟩ := hv
        have hcl0 : c < (stS L i).length := by
          have := (List.getElem?_eq_some_iff.mp hc).1
          rw [List.length_map] at this
          exact this
        obtain ⟨s, hs, rfl⟩ : ∃ s, (stS L i)[c]? = some s ∧ u = .str s := by
          rw [List.getElem?_map, List.getElem?_eq_getElem hcl0] at hc
          exact ⟨_, List.getElem?_eq_getElem hcl0, (Option.some.inj hc).symm⟩
        have hs2 : s.length = i := by
          have h := List.mem_of_getElem? hs
          rw [hL] at h
          exact (stS_of i s h).1
        have etk : ((stS L i).take (c + 1)).flatMap (fun s => L.map fun c => s ++ ⟨#[c]⟩) = ((stS L i).take c).flatMap (fun s => L.map fun c => s ++ ⟨#[c]⟩) ++ L.map fun c => s ++ ⟨#[c]⟩ := by
          rw [List.take_add_one, hs, List.flatMap_append]
          simp
        have hcl : (((stS L i).take c).flatMap fun s => L.map fun c => s ++ (⟨#[c]⟩ : Str)).length = c * L.length := by
          rw [flat_const (c := L.length) (fun s _ => List.length_map ..), List.length_take, Nat.min_eq_left (Nat.le_of_lt hcl0)]
        have hcb : (c + 1) * L.length ≤ (stS L i).length * L.length := Nat.mul_le_mul_right _ hcl0
        rw [Nat.succ_mul] at hcb
        refine ⟨_, rfl, _, rfl, a, _, 0, _, rfl, rfl, SqT.of (k3 _ _ (k2 _ _ hA)), rfl, r.letters, rfl, fun D hD => lc_str (fun d H4 => StAt H3 D ((L.take d).map fun c => s ++ ⟨#[c]⟩) H4)
          ⟨by rw [upd_same, List.take_zero]; rfl, Ext.new hD⟩ (fun d ch H4 hd hw => ?_) (fun H4 hw => ?_)⟩
        · obtain ⟨hD4, k4⟩ := hw
          have hch2 : L[d]? = some ch := by
            rw [hL, Array.getElem?_toList]
            exact hd
          have hdl : d < L.length := (List.getElem?_eq_some_iff.mp hch2).1
          refine ⟨rfl, _, rfl, _, rfl, s, ⟨#[ch]⟩, rfl, rfl, szL ?_, _, hD4, szLt ?_, ?_, k4.put hD⟩
          · show s.length + 1 ≤ _
            omega
          · rw [List.length_map, List.length_map, List.length_take]
            omega
          · rw [upd_same, List.take_add_one, hch2]
            simp only [List.map_append]
            rfl
        · obtain ⟨hD4, k4⟩ := hw
          have e : L.take r.letters.cps.size = L := List.take_of_length_le (by rw [hL, Array.length_toList]; exact Nat.le_refl _)
          rw [e] at hD4
          refine ⟨l4, D, _, _, rfl, rfl, k4 _ _ hD3, hD4, szL ?_, fun l6 hl6 => ?_⟩
          · rw [List.length_map, List.length_map, hcl, List.length_map]
            omega
          · refine ⟨_, l6, rfl, (k3.trans k4).none hl6, ?_, (k3.trans k4).trans (Ext.new hl6)⟩
            rw [upd_same, ← List.map_append, etk]
      · obtain ⟨y5, l4, rfl, hl4, hD3, k3⟩ := hv
        rw [List.take_of_length_le (by rw [List.length_map]; exact Nat.le_refl _)] at hD3
        exact ⟨_, rfl, _, _, _, l4, rfl, k2.none hl4, hD3, k2.trans k3⟩
    · obtain ⟨y3, y4, y5, l, rfl, hl, hL2, k2⟩ := hv
      rw [show ((n : Int)).toNat = n by omega] at hL2
      exact ⟨_, rfl, q l H2 hl hL2 k2⟩
abbrev CLSts (P : Program) (w : World) (K : PySem.W.Frag) (mg : Str → Option Value) (base : Heap) : Prop := Ca P w K mg base 1 "_law_strings" ["_law_book", "_law_size"] spSts
abbrev s_law_case : Stmt := topS 50
theorem sc_law_case : FnScope ["_law_pen", "_law_odd", "_law_great", "_law_book", "_law_size"] ["_law_pen", "_law_odd"] (defScope s_law_case) :=
  ⟨rfl, rfl, rfl, by decide +kernel, rfl, by decide +kernel, by decide +kernel⟩
def spCase : Sp := fun vs H Q _ => ∃ (p c p2 c2 : Addr) (n n2 : Nat), vs = [.ref p, .ref p2] ∧ Pen H p c n ∧ Pen H p2 c2 n2 ∧ p ≠ p2 ∧ c ≠ p2 ∧ p ≠ c2 ∧ n + 400 < 1000000 ∧ n2 + 400 < 1000000 ∧
  ∀ (t : Addr) (v : V) (r : Rl) (x : Str) H', H' t = some (.tup [v, .str x]) → RulesAt H' v r → RlOk r → OfP r → r.letters.length ≤ 3 → 1 ≤ x.length → x.length ≤ 6 → r.letters.length ^ x.length ≤ 100 → x.cps.toList.foldl bst (some 0) = some 0 → Kp2 p p2 H H' → Pen H' p c (n + 301) → Pen H' p2 c2 (n2 + 20) → Q (.ref t) H'
theorem ok_case {f : Addr} {fd : FuncData} (F : Fun K "_law_case" "_law_case" s_law_case f fd) (c_law_draw : CDraw P w K mg base) (c_law_rules : CRules P w K mg base) (c_law_wish : CLWi P w K mg base) (mlen : mg "len" = none) (mint : mg "int" = none) : FnOk P w K mg base CX0 4 f fd ["_law_pen", "_law_odd"] spCase := by
  refine F.ok sc_law_case (fun vs H Q E h => ?_) (fun cdv A outer s H vs Q E hr h => ?_)
  · obtain ⟨p, c, p2, c2, n, n2, rfl, _⟩ := h
    rfl
  · obtain ⟨p, c, p2, c2, n, n2, rfl, hP, hP2, n1, n3, n4, hn, hn2, q⟩ := h
    refine ⟨_, (pss_cons (ps_set (i := 2) sc_law_case.nd rfl (.inl rfl) (pe_callTy call_int1 (by rfl) mint (by decide +kernel) (pa_cons (pe_cmpR op_eq (pe_ca c_law_draw (hr.mono (by decide)) (by rfl) (pa_cons (pv 0) (pa_cons pe_int pa_nil))) pe_int (nomark _)) pa_nil)))
      (pss_cons (ps_set (i := 3) sc_law_case.nd rfl (.inl rfl) (pe_ca c_law_rules (hr.mono (by decide)) (by rfl) (pa_cons (pv 0) (pa_cons (pe_ix (ixL K) (pe_lst (pa_cons pe_int (pa_cons pe_int pa_nil))) (pv 2) (fun _ _ => rfl)) pa_nil))))
      (pss_cons (ps_set (i := 4) sc_law_case.nd rfl (.inl rfl) (pe_ix (ixL K) (pe_lst (pa_cons (pe_op op_add pe_int (pe_ca c_law_draw (hr.mono (by decide)) (by rfl) (pa_cons (pv 1) (pa_cons pe_int pa_nil)))) (pa_cons (pe_op op_add pe_int (pe_op op_mul (pe_ca c_law_draw (hr.mono (by decide)) (by rfl) (pa_cons (pv 1) (pa_cons pe_int pa_nil))) (pe_callTy call_int1 (by rfl) mint (by decide +kernel) (pa_cons (pe_cmpR op_lt (pe_callB call_len_str (by rfl) mlen (by decide +kernel) (pa_cons (pe_ix (ixT K) (pv 3) pe_int (fun _ _ => rfl)) pa_nil)) pe_int (nomark _)) pa_nil)))) pa_nil))) (pv 2) (fun _ _ => rfl)))
      (pss_one (ps_ret (pe_tup (pa_cons (pv 3) (pa_cons (pe_ca c_law_wish (hr.mono (by decide)) (by rfl) (pa_cons (pv 1) (pa_cons (pv 4) pa_nil))) pa_nil)))))))), ?_⟩
    refine ⟨_, rfl, p, c, 4, n, rfl, hP, by omega, by decide, by decide, fun r1 H1 r1a r1b k1 hP1 => ⟨rfl, .inr ⟨_, rfl, ?_⟩⟩⟩
    obtain ⟨g, hg, hg01⟩ : ∃ g : Int, (if decide (V.int r1 = V.int 0) = true then (1 : Int) else 0) = g ∧ (g = 0 ∨ g = 1) := ⟨_, rfl, int_01⟩
    refine gow_as (v' := .int g) (congrArg V.int hg) ?_
    have hQ1 := hP2.kp k1 n1.symm (fun z => n4 z.symm)
    refine ⟨_, rfl, szL (show 2 ≤ 1000000 by decide), fun l2 hl2 => ?_⟩
    obtain ⟨z, hz, hzat⟩ : ∃ z : Int, z = 3 - g ∧ atI [V.int 3, .int 2] g = some (.int z) := by
      rcases hg01 with rfl | rfl
      · exact ⟨3, rfl, rfl⟩
      · exact ⟨2, rfl, rfl⟩
    refine ⟨_, rfl, l2, _, g, _, rfl, rfl, SqL.of upd_same, hzat, ?_⟩
    have x2 := Ext.new (o := .lst [V.int 3, .int 2]) hl2
    refine ⟨p, c, z, n + 1, rfl, hP1.ext x2, by omega, by omega, by omega, fun v r H3 hR3 ok hofp hlet k3 hP3 => ?_⟩
    have hQ3 := (hQ1.ext x2).kp k3 n1.symm (fun z => n4 z.symm)
    have kk3 : Kp2 p p2 H H3 := ((Kp2.left k1).trans (Kp2.left (Kp.ext x2))).trans (Kp2.left k3)
    -- how long
    refine ⟨_, rfl, p2, c2, 4, n2, rfl, hQ3, by omega, by decide, by decide, fun r4 H4 r4a r4b k4 hQ4 => ⟨1, r4, rfl, rfl, ?_⟩⟩
    refine ⟨_, rfl, p2, c2, 2, n2 + 1, rfl, hQ4, by omega, by decide, by decide, fun r5 H5 r5a r5b k5 hQ5 => ?_⟩
    have hR5 : RulesAt H5 v r := RulesAt.mono _ _ _ _ ((TupK.of k4 hQ3).trans (TupK.of k5 hQ4)) hR3
    have k45 : Kp p2 H3 H5 := k4.trans k5
    have hP5 := hP3.kp k45 n1 n3
    obtain ⟨a, vp, vl, vs, rfl, hA, hp, hlo, hs⟩ := id hR5
    refine ⟨_, rfl, a, _, 0, _, rfl, rfl, SqT.of hA, rfl, r.letters, rfl, szL (by have := ok.let6; omega), _, _, rfl, rfl, .inr ⟨_, rfl, _, _, rfl, rfl, .inl ⟨by omega, by omega⟩, 5, _, rfl, rfl, szL (show 2 ≤ 1000000 by decide), fun l6 hl6 => ?_⟩⟩
    obtain ⟨u, hu, hu1⟩ : ∃ u : Int, u = r5 * (if decide ((r.letters.length : Int) < 2) = true then 1 else 0) ∧ 0 ≤ u ∧ (u = 0 ∨ (u ≤ 1 ∧ r.letters.length < 2)) := by
      refine ⟨_, rfl, ?_⟩
      by_cases h : (r.letters.length : Int) < 2
      · rw [decide_eq_true h, if_pos rfl]
        omega
      · rw [decide_eq_false h, if_neg Bool.false_ne_true]
        omega
    obtain ⟨sz, hszat, hs1, hs6, hpw⟩ : ∃ sz : Nat, atI [V.int (1 + r4), V.int (5 + r5 * (if decide ((r.letters.length : Int) < 2) = true then 1 else 0))] g = some (.int (sz : Nat)) ∧ 1 ≤ sz ∧ sz ≤ 6 ∧ r.letters.length ^ sz ≤ 100 := by
      have hl1 := ok.let1
      rcases hg01 with h0 | h0
      · subst h0
        refine ⟨(1 + r4).toNat, ?_, by omega, by omega, ?_⟩
        · show some (V.int (1 + r4)) = _
          rw [show (((1 + r4).toNat : Nat) : Int) = 1 + r4 by omega]
        · have h1 : r.letters.length ^ (1 + r4).toNat ≤ 3 ^ (1 + r4).toNat := Nat.pow_le_pow_left (by omega) _
          have h2 : 3 ^ (1 + r4).toNat ≤ 3 ^ 4 := Nat.pow_le_pow_right (by decide) (by omega)
          exact Nat.le_trans h1 (Nat.le_trans h2 (by decide))
      · subst h0
        rw [← hu]
        refine ⟨(5 + u).toNat, ?_, by omega, by omega, ?_⟩
        · show some (V.int (5 + u)) = _
          rw [show (((5 + u).toNat : Nat) : Int) = 5 + u by omega]
        · rcases hu1.2 with h | ⟨_, h⟩
          · rw [h]
            have h1 : r.letters.length ^ 5 ≤ 2 ^ 5 := Nat.pow_le_pow_left (by omega) _
            exact Nat.le_trans h1 (by decide)
          · rw [show r.letters.length = 1 by omega, Nat.one_pow]
            decide
    refine ⟨_, rfl, l6, _, g, _, rfl, rfl, SqL.of upd_same, hszat, ?_⟩
    have x6 := Ext.new (o := .lst [V.int (1 + r4), V.int (5 + r5 * (if decide ((r.letters.length : Int) < 2) = true then 1 else 0))]) hl6
    refine ⟨_, rfl, _, rfl, _, rfl, p2, c2, n2 + 2, sz, rfl, by omega, hQ5.ext x6, by omega, fun x H7 hxl hxb k7 hQ7 => ⟨szL (show 2 ≤ 1000000 by decide), fun t ht => ?_⟩⟩
    have xt := Ext.new (o := .tup [V.ref a, .str x]) ht
    have k57 : Kp p2 H5 H7 := (Kp.ext x6).trans k7
    exact q t (.ref a) r x _ upd_same (RulesAt.mono _ _ _ _ ((TupK.of k57 hQ5).trans (TupK.ext xt)) hR5) ok hofp (by omega) (by omega) (by omega) (by rw [hxl]; exact hpw) hxb (((kk3.trans (Kp2.right k45)).trans (Kp2.right k57)).trans (Kp2.left (Kp.ext xt))) (((hP5.kp k57 n1 n3).ext xt).mono (by omega)) ((hQ7.ext xt).mono (by omega))
abbrev CCase (P : Program) (w : World) (K : PySem.W.Frag) (mg : Str → Option Value) (base : Heap) : Prop := Ca P w K mg base 4 "_law_case" ["_law_pen", "_law_odd"] spCase
end
end Pf


namespace Pf
open PySem PySem.Spec PyProof.Rows L2
theorem bst_chars : ∀ (l : List Nat) (d : Nat), l.foldl bst (some d) ≠ none → ∀ c ∈ l, c = 40 ∨ c = 41 ∨ c = 46
  | [], _, _, c, h => by cases h
  | x :: l, d, hn, c, h => by
    have hn : l.foldl bst (bst (some d) x) ≠ none := hn
    cases e : bst (some d) x with
    | none =>
      rw [e, bst_none] at hn
      exact absurd rfl hn
    | some d' =>
      rw [e] at hn
      rcases List.mem_cons.mp h with rfl | h
      · by_cases h1 : c = 40
        · exact .inl h1
        · by_cases h2 : c = 41
          · exact .inr (.inl h2)
          · by_cases h3 : c = 46
            · exact .inr (.inr h3)
            · have e2 : bst (some d) c = none := by
                show (if c = 40 then _ else _) = none
                rw [if_neg h1, if_neg h2, if_neg h3]
              rw [e2] at e
              cases e
      · exact bst_chars l d' hn c h
section
variable {P : Program} {w : World} {K : PySem.W.Frag} {mg : Str → Option Value} {base : Heap}
abbrev s_law_folds_so : Stmt := topS 51
theorem sc_law_folds_so : FnScope ["_law_book", "_law_line", "_law_due_here", "_law_only", "_law_mine", "_law_other", "_law_cost_here"] ["_law_book", "_law_line", "_law_due_here", "_law_only"] (defScope s_law_folds_so) :=
  ⟨rfl, rfl, rfl, by decide +kernel, rfl, by decide +kernel, by decide +kernel⟩
def spLFso : Sp := fun vs H Q _ => ∃ (v av : V) (r : Rl) (x : Str) (qa : Fo) (al : Bool), vs = [v, .str x, av, .bl al] ∧ RulesAt H v r ∧ RlOk r ∧ x.length ≤ 12 ∧ Of r.letters x ∧ FoAt H av qa ∧ Mt x.length qa ∧ ∀ H', Ext H H' → Q (.bl (fsB r x qa al)) H'
theorem ok_lfso {f : Addr} {fd : FuncData} (F : Fun K "_law_folds_so" "_law_folds_so" s_law_folds_so f fd) (c_law_stands : CStandW P w K mg base) (c_law_cost : CCost P w K mg base) (c_law_all : CAllW P w K mg base) (mlen : mg "len" = none) : FnOk P w K mg base CX0 16 f fd ["_law_book", "_law_line", "_law_due_here", "_law_only"] spLFso := by
  refine F.ok sc_law_folds_so (fun vs H Q E h => ?_) (fun cdv A outer s H vs Q E hr h => ?_)
  · obtain ⟨v, av, r, x, qa, al, rfl, _⟩ := h
    rfl
  · obtain ⟨v, av, r, x, qa, al, rfl, hR, ok, hx, hO, hFa, hM, q⟩ := h
    refine ⟨_, (pss_cons (ps_if (pt_not (pt_val (pe_ca c_law_stands (hr.mono (by decide)) (by rfl) (pa_cons (pv 0) (pa_cons (pv 1) (pa_cons (pv 2) pa_nil)))))) (pss_one (ps_ret pe_bl)) pss_nil)
      (pss_cons (ps_set (i := 4) sc_law_folds_so.nd rfl (.inl rfl) (pe_ca c_law_cost (hr.mono (by decide)) (by rfl) (pa_cons (pv 0) (pa_cons (pv 1) (pa_cons (pv 2) pa_nil)))))
      (pss_cons (ps_for PassesOwn.never rfl (pi_list (pe_ca c_law_all (hr.mono (by decide)) (by rfl) (pa_cons (pv 0) (pa_cons (pv 1) (pa_cons pe_int (pa_cons (pe_callB call_len_str (by rfl) mlen (by decide +kernel) (pa_cons (pv 1) pa_nil)) pa_nil)))))) (pg_name (i := 5) sc_law_folds_so.nd rfl (.inl rfl)) (pss_cons (ps_set (i := 6) sc_law_folds_so.nd rfl (.inl rfl) (pe_ca c_law_cost (hr.mono (by decide)) (by rfl) (pa_cons (pv 0) (pa_cons (pv 1) (pa_cons (pv 5) pa_nil)))))
      (pss_one (ps_if (PW.pt (pw_or (pt_cmpR op_lt (pv 6) (pv 4) (nomark _)) (pw_or1 (PW.pt (pw_and (pt_val (pv 3)) (pw_and (pt_cmpR op_eq (pv 6) (pv 4) (nomark _)) (pw_and1 (pt_cmpR (neD K hr.units) (pv 5) (pv 2) (nomark _))))))))) (pss_one (ps_ret pe_bl)) pss_nil))))
      (pss_one (ps_ret pe_bl))))), ?_⟩
    have hql := mt_len hM
    have hsx : Small x := hO.small ok.small
    refine ⟨_, rfl, _, rfl, _, rfl, v, av, r, x, qa, rfl, hR, ok, hx, hFa, by omega, fun y hy => by have := hM.inn y hy; omega, fun H1 k1 => ⟨_, rfl, ?_⟩⟩
    unfold fsB at q
    cases hm : (qa.map fun y => mayC r x y.1 y.2).all id with
    | false =>
      have h := q H1 k1
      rw [hm, Bool.false_and] at h
      exact iteT h
    | true =>
      have ha := mt_WA hM hm
      have q1 : ∀ H', Ext H H' → Q (.bl (((WA r x x.length 0).filter (fbB r x qa al)).isEmpty)) H' := fun H' k => by
        have h := q H' k
        rw [hm, Bool.true_and, perm_filter_empty (SF_perm _)] at h
        exact h
      have tx : ∀ {q : Fo}, q ∈ WA r x x.length 0 → ∀ y ∈ q, tx2 x y ∈ r.prs.map (·.1) := fun hq y hy => may_mem ((fo4_of r x x.length 0 _ hq).may y hy)
      refine iteF ⟨_, rfl, _, rfl, _, rfl, v, av, r, r, x, qa, rfl, RulesAt.mono _ _ _ _ (TupK.ext k1) hR, ok, hx, hsx, FoAt.mono _ _ _ _ (TupK.ext k1) hFa, ha, tx ha, fun H2 k2 => ?_⟩
      have k02 := k1.trans k2
      refine ⟨_, rfl, _, rfl, _, rfl, x, rfl, szL (by omega), v, r, x, 0, (x.length : Int), rfl, RulesAt.mono _ _ _ _ (TupK.ext k02) hR, ok, hx, by decide, by omega, Int.le_refl _, by omega, fun l us H3 hl hL hP k3 => ?_⟩
      rw [show ((x.length : Int) - 0).toNat = x.length by omega] at hP
      have hPl := paired_len hP
      have k03 := k02.trans k3
      obtain ⟨WL, hWL⟩ : ∃ WL, WL = WA r x x.length 0 := ⟨_, rfl⟩
      rw [← hWL] at hP q1 hPl
      refine ⟨l, rfl, ⟨_, SqL.of hL⟩, for_list (K := K) (xs := us) (fun i σ H4 => ∃ (y5 y6 : Option V), σ = [some v, some (.str x), some av, some (.bl al), some (.int (woV r x qa)), y5, y6] ∧ (WL.take i).filter (fbB r x qa al) = [] ∧ Ext H3 H4)
        ⟨none, none, rfl, by rw [List.take_zero]; rfl, Ext.refl⟩ (fun i σ H4 _ h => by obtain ⟨_, _, _, _, k⟩ := h; exact SqL.of (k _ _ hL)) (fun i u σ H4 hi hv => ?_) (fun σ H4 hv => ?_)⟩
      · obtain ⟨y5, y6, rfl, hno, k4⟩ := hv
        obtain ⟨qf, hqf, hfo⟩ := paired_get hP hi
        have hf : qf ∈ WA r x x.length 0 := hWL ▸ List.mem_of_getElem? hqf
        have k04 := k03.trans k4
        have hfo4 := FoAt.mono _ _ _ _ (TupK.ext k4) hfo
        refine ⟨_, rfl, _, rfl, _, rfl, v, u, r, r, x, qf, rfl, RulesAt.mono _ _ _ _ (TupK.ext k04) hR, ok, hx, hsx, hfo4, hf, tx hf, fun H5 k5 => ?_⟩
        have k05 := k04.trans k5
        have etk : (WL.take (i + 1)).filter (fbB r x qa al) = if fbB r x qa al qf = true then [qf] else [] := by
          rw [List.take_add_one, hqf, List.filter_append, hno]
          exact filt_one _ _
        have yes : fbB r x qa al qf = true → Q (.bl false) H5 := fun hb => by
          have h := q1 H5 k05
          have e : (WL.filter (fbB r x qa al)).isEmpty = false := by
            cases e2 : WL.filter (fbB r x qa al) with
            | nil => exact absurd hb (List.filter_eq_nil_iff.mp e2 qf (List.mem_of_getElem? hqf))
            | cons _ _ => rfl
          rw [e] at h
          exact h
        have no : fbB r x qa al qf = false → ∃ (y5 y6 : Option V), [some v, some (.str x), some av, some (.bl al), some (.int (woV r x qa)), some u, some (.int (woV r x qf))] = [some v, some (.str x), some av, some (.bl al), some (.int (woV r x qa)), y5, y6] ∧ (WL.take (i + 1)).filter (fbB r x qa al) = [] ∧ Ext H3 H5 := fun hb => by
          refine ⟨_, _, rfl, ?_, k4.trans k5⟩
          rw [etk, hb, if_neg Bool.false_ne_true]
        unfold fbB at yes no
        refine ⟨_, rfl, _, rfl, _, _, rfl, rfl, _, rfl, ite2 (fun e => ?_) (fun e => ?_)⟩
        · have e : decide (woV r x qf < woV r x qa) = true := e
          exact yes (by rw [e, Bool.true_or])
        · have e : decide (woV r x qf < woV r x qa) = false := Bool.eq_false_iff.mpr e
          rw [e, Bool.false_or] at yes no
          refine ⟨_, rfl, al, rfl, ?_⟩
          cases al with
          | false => exact iteF (no rfl)
          | true =>
            rw [Bool.true_and] at yes no
            refine iteT ⟨_, rfl, _, rfl, rfl, _, rfl, ?_⟩
            rw [int_eq_dec]
            by_cases e2 : woV r x qf = woV r x qa
            · rw [decide_eq_true e2, Bool.true_and] at yes no
              rw [decide_eq_true e2]
              refine iteT ⟨_, rfl, _, rfl, dFo qf, dFo qa, dp_fo (FoAt.mono _ _ _ _ (TupK.ext k5) hfo4), dp_fo (FoAt.mono _ _ _ _ (TupK.ext k05) hFa), shaped_fo hx hf, shaped_fo hx ha, _, rfl, ?_⟩
              refine ite2 (fun e3 => ?_) (fun e3 => ?_)
              · exact yes e3
              · exact no (Bool.eq_false_iff.mpr e3)
            · rw [decide_eq_false e2, Bool.false_and] at yes no
              rw [decide_eq_false e2]
              exact iteF (no rfl)
      · obtain ⟨y5, y6, rfl, hno, k4⟩ := hv
        rw [List.take_of_length_le (by omega)] at hno
        have h := q1 H4 (k03.trans k4)
        rw [hno] at h
        exact h
abbrev CLFso (P : Program) (w : World) (K : PySem.W.Frag) (mg : Str → Option Value) (base : Heap) : Prop := Ca P w K mg base 16 "_law_folds_so" ["_law_book", "_law_line", "_law_due_here", "_law_only"] spLFso
abbrev s_law_due : Stmt := topS 52
theorem sc_law_due : FnScope ["_law_book", "_law_wish_so", "_law_only", "_law_due_here", "_law_line"] ["_law_book", "_law_wish_so", "_law_only"] (defScope s_law_due) :=
  ⟨rfl, rfl, rfl, by decide +kernel, rfl, by decide +kernel, by decide +kernel⟩
def spDue : Sp := fun vs H Q _ => ∃ (v : V) (r : Rl) (x : Str) (ps : Fo) (al : Bool), vs = [v, .str x, .bl al] ∧ RulesAt H v r ∧ RlOk r ∧ x.length ≤ 12 ∧ run [] (toks 0 x.cps.toList) = some ps ∧ (∀ c ∈ x.cps.toList, c = 40 ∨ c = 41 ∨ c = 46) ∧ r.letters.length ^ x.length ≤ 10000 ∧ ∀ H', Ext H H' → Q (wsV r (srt ps) al x.length) H'
theorem ok_due {f : Addr} {fd : FuncData} (F : Fun K "_law_due" "_law_due" s_law_due f fd) (c_law_pairs_in : CLPin P w K mg base) (c_law_strings : CLSts P w K mg base) (c_law_folds_so : CLFso P w K mg base) (mlen : mg "len" = none) : FnOk P w K mg base CX0 17 f fd ["_law_book", "_law_wish_so", "_law_only"] spDue := by
  refine F.ok sc_law_due (fun vs H Q E h => ?_) (fun cdv A outer s H vs Q E hr h => ?_)
  · obtain ⟨v, r, x, ps, al, rfl, _⟩ := h
    rfl
  · obtain ⟨v, r, x, ps, al, rfl, hR, ok, hx, hrun, hch, hpw, q⟩ := h
    refine ⟨_, (pss_cons (ps_set (i := 3) sc_law_due.nd rfl (.inl rfl) (pe_ca c_law_pairs_in (hr.mono (by decide)) (by rfl) (pa_cons (pv 1) pa_nil)))
      (pss_cons (ps_for PassesOwn.never rfl (pi_list (pe_ca c_law_strings (hr.mono (by decide)) (by rfl) (pa_cons (pv 0) (pa_cons (pe_callB call_len_str (by rfl) mlen (by decide +kernel) (pa_cons (pv 1) pa_nil)) pa_nil)))) (pg_name (i := 4) sc_law_due.nd rfl (.inl rfl)) (pss_one (ps_if (pt_val (pe_ca c_law_folds_so (hr.mono (by decide)) (by rfl) (pa_cons (pv 0) (pa_cons (pv 4) (pa_cons (pv 3) (pa_cons (pv 2) pa_nil)))))) (pss_one (ps_ret (pv 4))) pss_nil)))
      (pss_one (ps_ret pe_non)))), ?_⟩
    refine ⟨_, rfl, x, ps, rfl, by omega, hrun, hch, fun av H1 k1 hFa => ?_⟩
    have hM := mt_of hrun
    refine ⟨_, rfl, _, rfl, x, rfl, szL (by omega), v, r, x.length, rfl, (RulesAt.mono _ _ _ _ (TupK.ext k1) hR).w, ok.let1, hx, hpw, fun l H2 hl hL k2 => ?_⟩
    have k02 := k1.trans k2
    obtain ⟨SL, hSL⟩ : ∃ SL, SL = stS r.letters.cps.toList x.length := ⟨_, rfl⟩
    have hSo : ∀ s ∈ SL, s.length = x.length ∧ Of r.letters s := fun s hs => stS_of _ s (hSL ▸ hs)
    unfold wsV at q
    rw [← hSL] at hL q
    refine ⟨l, rfl, ⟨_, SqL.of hL⟩, for_list (K := K) (xs := SL.map V.str) (fun i σ H3 => ∃ (y4 : Option V), σ = [some v, some (.str x), some (.bl al), some av, y4] ∧ ((SL.drop i).find? fun s => fsB r s (srt ps) al) = (SL.find? fun s => fsB r s (srt ps) al) ∧ Ext H2 H3)
      ⟨none, rfl, by rw [List.drop_zero], Ext.refl⟩ (fun i σ H3 _ ⟨_, _, _, k⟩ => SqL.of (k _ _ hL)) (fun i u σ H3 hi hv => ?_) (fun σ H3 hv => ?_)⟩
    · obtain ⟨y4, rfl, hfd, k3⟩ := hv
      have hil : i < SL.length := by
        have := (List.getElem?_eq_some_iff.mp hi).1
        rw [List.length_map] at this
        exact this
      have hs : SL[i]? = some SL[i] := List.getElem?_eq_getElem hil
      obtain rfl : u = .str SL[i] := by
        rw [List.getElem?_map, hs] at hi
        exact (Option.some.inj hi).symm
      have hso := hSo SL[i] (List.getElem_mem hil)
      rw [List.drop_eq_getElem_cons hil, List.find?_cons] at hfd
      have k03 := k02.trans k3
      refine ⟨_, rfl, _, rfl, _, rfl, _, rfl, v, av, r, SL[i], srt ps, al, rfl, RulesAt.mono _ _ _ _ (TupK.ext k03) hR, ok, by omega, hso.2, FoAt.mono _ _ _ _ (TupK.ext (k2.trans k3)) hFa, by rw [hso.1]; exact hM, fun H4 k4 => ⟨_, rfl, ?_⟩⟩
      cases hb : fsB r SL[i] (srt ps) al with
      | true =>
        rw [hb] at hfd
        have h := q H4 (k03.trans k4)
        rw [← hfd] at h
        exact iteT ⟨_, rfl, h⟩
      | false =>
        rw [hb] at hfd
        exact iteF ⟨_, rfl, hfd, k3.trans k4⟩
    · obtain ⟨y4, rfl, hfd, k3⟩ := hv
      have h := q H3 (k02.trans k3)
      rw [← hfd, List.drop_eq_nil_of_le (by rw [List.length_map]; exact Nat.le_refl _)] at h
      exact h
abbrev CDue (P : Program) (w : World) (K : PySem.W.Frag) (mg : Str → Option Value) (base : Heap) : Prop := Ca P w K mg base 17 "_law_due" ["_law_book", "_law_wish_so", "_law_only"] spDue
end
end Pf


namespace Pf
open PySem PySem.Spec PyProof.Rows L2
/-! ### rules as data -/
theorem dpIntsAt {K : PySem.W.Frag} {H : Hp} : ∀ {vs : List V} {ns : List Int}, Paired (IntAt H) vs ns → DpAll K H vs (ns.map PyData.int)
  | _, _, .nil => .nil
  | _, _, .cons e t => .cons ((show _ = V.int _ from e) ▸ .int _) (dpIntsAt t)
def dPr (x : Str × Int) : PyData := .tuple [.str x.1, .int x.2]
theorem dpPairs {K : PySem.W.Frag} {H : Hp} : ∀ {vs : List V} {prs : List (Str × Int)}, Paired (PairAt H) vs prs → DpAll K H vs (prs.map dPr)
  | _, _, .nil => .nil
  | _, _, .cons ⟨_, e, h⟩ t => .cons (e ▸ .tup (SqT.of h) (.cons (.str _) (.cons (.int _) .nil))) (dpPairs t)
theorem sm_prs {prs : List (Str × Int)} (hn : prs.length ≤ 12) (h : ∀ x ∈ prs, Two x.1 ∧ -99 ≤ x.2 ∧ x.2 ≤ 99) : Sm 2000 2 (.tuple (prs.map dPr)) := by
  refine Sm.tup (n := 12) (m := 130) (k := 1) (by rw [List.length_map]; exact hn) (fun d hd => ?_) (by decide)
  obtain ⟨x, hx, rfl⟩ := List.mem_map.mp hd
  have h1 := h x hx
  refine Sm.tup (n := 2) (m := 64) (k := 0) (Nat.le_refl _) (fun d hd => ?_) (by decide)
  simp only [List.mem_cons, List.not_mem_nil, or_false] at hd
  rcases hd with rfl | rfl
  · exact (Sm.str h1.1.2.ok (Nat.le_refl _)).le (by rw [h1.1.1]; decide) (Nat.le_refl _)
  · exact Sm.int (by omega) (by omega)
def dSt (x : Str × Str × Int) : PyData := .tuple [.str x.1, .str x.2.1, .int x.2.2]
theorem dpStacks {K : PySem.W.Frag} {H : Hp} : ∀ {vs : List V} {ps : List (Str × Str × Int)}, Paired (StackAt H) vs ps → DpAll K H vs (ps.map dSt)
  | _, _, .nil => .nil
  | _, _, .cons ⟨_, e, h⟩ t => .cons (e ▸ .tup (SqT.of h) (.cons (.str _) (.cons (.str _) (.cons (.int _) .nil)))) (dpStacks t)
def dRl (r : Rl) : PyData := .tuple [.str r.letters, .tuple (r.prs.map dPr), .int r.span, .tuple (r.loops.map PyData.int), .tuple (r.stk.map dSt)]
theorem dp_rules {K : PySem.W.Frag} {H : Hp} {v : V} {r : Rl} (h : RulesAt H v r) : Dp K H v (dRl r) := by
  obtain ⟨a, vp, vl, vs, rfl, hA, ⟨ap, oz, us, rfl, hp, _, hP⟩, ⟨al, ls, rfl, hl, hL⟩, ⟨as, ss, rfl, hs, hS⟩⟩ := h
  exact .tup (SqT.of hA) (.cons (.str _) (.cons (.tup (SqT.fz hp) (dpPairs hP)) (.cons (.int _) (.cons (.tup (SqT.of hl) (dpIntsAt hL)) (.cons (.tup (SqT.of hs) (dpStacks hS)) .nil)))))
theorem sm_rules {r : Rl} (ok : RlOk r) : Sm 50000 3 (dRl r) := by
  refine Sm.tup (n := 5) (m := 5000) (k := 2) (Nat.le_refl _) (fun d hd => ?_) (by decide)
  simp only [List.mem_cons, List.not_mem_nil, or_false] at hd
  have h3 := ok.sp0
  have h4 := ok.sp3
  rcases hd with rfl | rfl | rfl | rfl | rfl
  · exact (Sm.str ok.small.ok ok.let6).le (by decide) (by decide)
  · exact (sm_prs ok.prs ok.pr).le (by decide) (by decide)
  · exact (Sm.int (by omega) (by omega)).le (by decide) (by decide)
  · refine (Sm.tup (n := 9) (m := 64) (k := 0) (by rw [List.length_map, ok.lo9]; exact Nat.le_refl _) (fun d hd => ?_) (Nat.le_refl _)).le (by decide) (by decide)
    obtain ⟨z, hz, rfl⟩ := List.mem_map.mp hd
    have := ok.lo z hz
    exact Sm.int (by omega) (by omega)
  · refine (Sm.tup (n := 12) (m := 200) (k := 1) (by rw [List.length_map]; exact ok.stk) (fun d hd => ?_) (Nat.le_refl _)).le (by decide) (by decide)
    obtain ⟨z, hz, rfl⟩ := List.mem_map.mp hd
    have hk := ok.st z hz
    refine Sm.tup (n := 3) (m := 64) (k := 0) (Nat.le_refl _) (fun d hd => ?_) (by decide)
    simp only [List.mem_cons, List.not_mem_nil, or_false] at hd
    rcases hd with rfl | rfl | rfl
    · exact (Sm.str hk.1.2.ok (Nat.le_of_eq hk.1.1)).le (by decide) (by decide)
    · exact (Sm.str hk.2.1.2.ok (Nat.le_of_eq hk.2.1.1)).le (by decide) (by decide)
    · exact Sm.int (by omega) (by omega)
/-! ### what is found, as data -/
theorem ws_data {r : Rl} (ok : RlOk r) (qa : Fo) (al : Bool) {n : Nat} (hn : n ≤ 12) : ∃ d, (∀ (K : PySem.W.Frag) (H : Hp), Dp K H (wsV r qa al n) d) ∧ Sm 100 0 d := by
  unfold wsV
  cases e : (stS r.letters.cps.toList n).find? fun s => fsB r s qa al with
  | none => exact ⟨.none, fun _ _ => .non, Sm.non.le (by decide) (by decide)⟩
  | some s =>
    have h := stS_of n s (List.mem_of_find?_eq_some e)
    exact ⟨.str s, fun _ _ => .str s, (Sm.str (h.2.small ok.small).ok (Nat.le_of_eq h.1)).le (by omega) (by decide)⟩
end Pf


namespace Pf
open PySem PySem.Spec PyProof.Rows L2
/-! ### defs with arguments by name alone, and what stands in their place -/
structure CaN (P : Program) (w : World) (K : PySem.W.Frag) (mg : Str → Option Value) (base : Heap) (k : Nat) (x : Str) (ps : List Str) (n : Nat) (ks : List Str) (gV : List V → List V → List V) (sp : Sp) : Prop where
  ex : ∃ f fd g, FnOk P w K mg base CX0 k f fd ps sp ∧ mg x = some (.ref f) ∧ PySem.W.keepIn K (.ref f) = true ∧ KBn K fd ps n ks g gV
structure CaE (P : Program) (w : World) (K : PySem.W.Frag) (mg : Str → Option Value) (base : Heap) (k : Nat) (x : Str) (ps : List Str) (dvs : List V) (sp : Sp) : Prop where
  ex : ∃ f fd ds, FnOk P w K mg base CX0 k f fd ps sp ∧ mg x = some (.ref f) ∧ PySem.W.keepIn K (.ref f) = true ∧ Vals dvs ds ∧ Binds K fd ps ds
section
variable {X : Cx} {k n : Nat} {x : Str} {ps ks : List Str} {sp : Sp} {p pos : Pos} {e : Expr} {es : List Expr} {kws : List Keyword} {t tk : TA} {gV : List V → List V → List V} {dvs : List V}
theorem pe_caN (c : CaN X.prog X.w X.K X.mg X.base k x ps n ks gV sp) (hr : Room k X.A) (hg : Gl X x) (ha : PA X (e :: es) t) (hkw : PK X kws tk)
    (hall : (backToKw pos (keywordEach kws X.env)).all (·.1.isSome) = true := by rfl) (hks : (backToKw pos (keywordEach kws X.env)).filterMap (·.1) = ks := by rfl)
    (hdb : (x == ("__debug__" : Str)) = false := by decide) (he : starEach (e :: es) X.env = (false, eval e X.env) :: starEach es X.env := by rfl)
    (hpl : ((backTo pos (starEach (e :: es) X.env)).any (·.1) || (backToKw pos (keywordEach kws X.env)).any (·.1.isNone)) = false := by rfl) :
    PE X (.Call (.Name x p) (e :: es) kws pos) (tCallN n ks.length sp gV E0 t tk) := by
  obtain ⟨f, fd, g, F, hm, hk, hb⟩ := c.ex
  exact pe_callN F hr hg hm hk hb pass0 ha hkw hall hks hdb he hpl
theorem pe_caE (c : CaE X.prog X.w X.K X.mg X.base k x ps dvs sp) (hr : Room k X.A) (hg : Gl X x) (ha : PA X (e :: es) t) (hdb : (x == ("__debug__" : Str)) = false := by decide)
    (he : starEach (e :: es) X.env = (false, eval e X.env) :: starEach es X.env := by rfl) (hpl : (backTo pos (starEach es X.env)).any (·.1) = false := by rfl) :
    PE X (.Call (.Name x p) (e :: es) [] pos) (tCall sp dvs E0 t) := by
  obtain ⟨f, fd, ds, F, hm, hk, hv, hb⟩ := c.ex
  exact pe_call F hr hg hm hk hb hv pass0 ha hdb he hpl
end
def permA {α : Type} (js : List Nat) (l : List α) : List α := js.filterMap fun j => l[j]?
def permW (js : List Nat) (ms : List V) : List V → List V → List V := fun vs zs => permA js (vs ++ zs ++ ms)
theorem vals_at : ∀ {zs : List V} {ws : List Value} (j : Nat), Vals zs ws → (∃ z u, zs[j]? = some z ∧ ws[j]? = some u ∧ RelV z u) ∨ (zs[j]? = none ∧ ws[j]? = none)
  | _, _, _, .nil => .inr ⟨rfl, rfl⟩
  | _, _, 0, .cons r _ => .inl ⟨_, _, rfl, rfl, r⟩
  | _, _, j + 1, .cons _ t => by
    rw [List.getElem?_cons_succ, List.getElem?_cons_succ]
    exact vals_at j t
theorem permA_rel {zs : List V} {ws : List Value} (r : Vals zs ws) : ∀ js : List Nat, Vals (permA js zs) (permA js ws)
  | [] => .nil
  | j :: js => by
    unfold permA
    rcases vals_at j r with ⟨z, u, e1, e2, e3⟩ | ⟨e1, e2⟩
    · rw [List.filterMap_cons_some e1, List.filterMap_cons_some e2]
      exact .cons e3 (permA_rel r js)
    · rw [List.filterMap_cons_none e1, List.filterMap_cons_none e2]
      exact permA_rel r js
theorem kbn_kw {K : PySem.W.Frag} {x qual : Str} {params : Arguments} {body : List Stmt} {scope : Scope} {kws : List (Str × V)} {f : Addr} {fd : FuncData} {ps : List Str} (F : FunD K x qual params body scope [] kws f fd) (n : Nat) (ks : List Str) (ms : List (Str × V)) (js : List Nat) (hk : kws ≠ []) (hms : ∀ q ∈ ms, q ∈ kws)
    (h : ∀ (D : Addr) (doc pm : Value) (an : Option Addr) (cdv ct : Value) (us mv ws : List Value), us.length = n → mv.length = ms.length → ws.length = ks.length →
      KwChain D ((ms.map (·.1)).zip mv) (bindArgs (PySem.W.fnOf x qual params body scope .none (.ref D) doc pm an cdv ct) ⟨us, ks.zip ws⟩) (ps.zip (permA js (us ++ ws ++ mv)))) : ∃ g, KBn K fd ps n ks g (permW js (ms.map (·.2))) := by
  obtain ⟨mv, hb⟩ := F.kbinds0 (ps := ps) n ks ms (fun {α} vs mz zs => permA js (vs ++ zs ++ mz)) hk hms (fun r1 r2 r3 => permA_rel ((r1.append r3).append r2) js) h
  exact ⟨_, hb⟩
end Pf


namespace Pf
open PySem PySem.Spec PyProof.Rows L2
/-! ### a paper: for each string what stands against it -/
def rowW (r : Rl) (qa : Fo) (al : Bool) (s : Str) : Str × Option Fo := (s, if (qa.map fun y => mayC r s y.1 y.2).all id = true then ((SF (WA r s s.length 0)).filter (fbB r s qa al)).head? else none)
def OptFo (H : Hp) (u : V) : Option Fo → Prop
  | none => u = .non
  | some q => FoAt H u q
def RowP (H : Hp) (v : V) (p : Str × Option Fo) : Prop := ∃ a u, v = .ref a ∧ H a = some (.tup [.str p.1, u]) ∧ OptFo H u p.2
theorem OptFo.mono {H H' : Hp} {u : V} {o : Option Fo} (k : TupK H H') (h : OptFo H u o) : OptFo H' u o := by
  cases o with
  | none => exact h
  | some q => exact FoAt.mono _ _ _ _ k h
theorem RowP.mono : Mono RowP := fun H H' v p k ⟨a, u, e, h, h2⟩ => ⟨a, u, e, k _ _ h, h2.mono k⟩
theorem TupK.kp {p : Addr} {H H' : Hp} {vs : List V} (k : Kp p H H') (h : H p = some (.lst vs)) : TupK H H' :=
  ⟨fun b _ e => k b _ (ne_of e h (by intro z; cases z)) e, fun b _ _ e => k b _ (ne_of e h (by intro z; cases z)) e⟩
theorem kp_ext {p : Addr} {H H1 H2 : Hp} (e : Ext H H1) (hp : H p = none) (k : Kp p H1 H2) : Ext H H2 := fun b o h => k b o (ne_of_none h hp) (e b o h)
def anyW (r : Rl) (qa : Fo) (al : Bool) (n : Nat) : Bool := (stS r.letters.cps.toList n).any fun s => fsB r s qa al
section
variable {P : Program} {w : World} {K : PySem.W.Frag} {mg : Str → Option Value} {base : Heap}
abbrev s_against : Stmt := topS 35
theorem sc_against : FnScope ["rules", "wish", "alone", "asked", "paper", "string", "found"] ["rules", "wish", "alone"] (defScope s_against) :=
  ⟨rfl, rfl, rfl, by decide +kernel, rfl, by decide +kernel, by decide +kernel⟩
def spAg : Sp := fun vs H Q _ => ∃ (v : V) (r : Rl) (x : Str) (ps : Fo) (al : Bool), vs = [v, .str x, .bl al] ∧ RulesW H v r ∧ RlOk r ∧ x.length ≤ 12 ∧ run [] (toks 0 x.cps.toList) = some ps ∧ r.letters.length ^ x.length ≤ 10000 ∧
  (anyW r (srt ps) al x.length = true → ∀ H', Ext H H' → Q .non H') ∧
  (anyW r (srt ps) al x.length = false → ∀ (l : Addr) (us : List V) (H' : Hp), H l = none → H' l = some (.lst us) → Paired (RowP H') us ((stS r.letters.cps.toList x.length).map (rowW r (srt ps) al)) → Ext H H' → Q (.ref l) H')
theorem ok_ag {f : Addr} {fd : FuncData} (F : FunD K "against" "against" (defArgs s_against) (defBody s_against) (defScope s_against) [] [("alone", .bl false)] f fd) (cpairs_in : Ca P w K mg base 1 "pairs_in" ["text"] spPin) (cstrings_of : CSts P w K mg base) (cis_folding : CIF P w K mg base) (call_forbidding : CAFb P w K mg base) (mlen : mg "len" = none) : FnOk P w K mg base CX0 7 f fd ["rules", "wish", "alone"] spAg := by
  refine FunD.okW F sc_against (fun vs H Q E h => ?_) (fun cdv A outer s H vs Q E hr h => ?_)
  · obtain ⟨v, r, x, ps, al, rfl, _⟩ := h
    rfl
  · obtain ⟨v, r, x, ps, al, rfl, hR, ok, hx, hrun, hpw, q1, q2⟩ := h
    refine ⟨_, (pss_cons (ps_set (i := 3) sc_against.nd rfl (.inl rfl) (pe_ca cpairs_in (hr.mono (by decide)) (by rfl) (pa_cons (pv 1) pa_nil)))
      (pss_cons (ps_set (i := 4) sc_against.nd rfl (.inl rfl) (pe_lst pa_nil))
      (pss_cons (ps_for PassesOwn.never rfl (pi_list (pe_ca cstrings_of (hr.mono (by decide)) (by rfl) (pa_cons (pv 0) (pa_cons (pe_callB call_len_str (by rfl) mlen (by decide +kernel) (pa_cons (pv 1) pa_nil)) pa_nil)))) (pg_name (i := 5) sc_against.nd rfl (.inl rfl)) (pss_one (ps_if (pt_not (pt_val (pe_ca cis_folding (hr.mono (by decide)) (by rfl) (pa_cons (pv 0) (pa_cons (pv 5) (pa_cons (pv 3) pa_nil)))))) (pss_one (ps_expr (pe_bm PySem.F.plainAttrs_list PySem.F.slot_list_append PySem.F.type_list_append mt_append (pv 4) (pa_cons (pe_tup (pa_cons (pv 5) (pa_cons pe_non pa_nil))) pa_nil)))) (pss_cons (ps_set (i := 6) sc_against.nd rfl (.inl rfl) (pe_ca call_forbidding (hr.mono (by decide)) (by rfl) (pa_cons (pv 0) (pa_cons (pv 5) (pa_cons (pv 3) (pa_cons (pv 2) pa_nil))))))
      (pss_cons (ps_if (pt_not (pt_truth (pv 6) (by intro _; rfl))) (pss_one (ps_ret pe_non)) pss_nil)
      (pss_one (ps_expr (pe_bm PySem.F.plainAttrs_list PySem.F.slot_list_append PySem.F.type_list_append mt_append (pv 4) (pa_cons (pe_tup (pa_cons (pv 5) (pa_cons (pe_ix (ixL K) (pv 6) pe_int (fun _ _ => rfl)) pa_nil))) pa_nil)))))))))
      (pss_one (ps_ret (pv 4)))))), ?_⟩
    refine ⟨_, rfl, x, rfl, by omega, fun av H1 k1 hres => ?_⟩
    have hask : ask x = some (srt ps) := by
      unfold ask
      rw [hrun]
      rfl
    rw [hask] at hres
    have hFa : FoAt H1 av (srt ps) := hres
    have hM := mt_of hrun
    refine ⟨Nat.zero_le _, fun lp hlp => ?_⟩
    have xp := Ext.new (o := .lst []) hlp
    refine ⟨_, rfl, _, rfl, x, rfl, szL (by omega), v, r, x.length, rfl, RulesW.mono _ _ _ _ (TupK.ext (k1.trans xp)) hR, ok.let1, hx, hpw, fun l H2 hl hL k2 => ?_⟩
    have hlp2 := k2 _ _ upd_same
    have nlp : l ≠ lp := fun e => by
      rw [e, upd_same] at hl
      cases hl
    have k12 := xp.trans k2
    obtain ⟨SL, hSL⟩ : ∃ SL, SL = stS r.letters.cps.toList x.length := ⟨_, rfl⟩
    have hSo : ∀ s ∈ SL, s.length = x.length ∧ Of r.letters s := fun s hs => stS_of _ s (hSL ▸ hs)
    have hSn : SL.length ≤ 10000 := by
      rw [hSL, stS_len, Array.length_toList]
      exact hpw
    unfold anyW at q1 q2
    rw [← hSL] at hL q1 q2
    have hF2 := FoAt.mono _ _ _ _ (TupK.ext k12) hFa
    have hR2 : RulesW H2 v r := RulesW.mono _ _ _ _ (TupK.ext (k1.trans k12)) hR
    refine ⟨l, rfl, ⟨_, SqL.of hL⟩, for_list (K := K) (xs := SL.map V.str) (fun i σ H3 => ∃ (y5 y6 : Option V) (us : List V), σ = [some v, some (.str x), some (.bl al), some av, some (.ref lp), y5, y6] ∧ H3 lp = some (.lst us) ∧ Paired (RowP H3) us ((SL.take i).map (rowW r (srt ps) al)) ∧ us.length = i ∧ ((SL.take i).any fun s => fsB r s (srt ps) al) = false ∧ Kp lp H2 H3)
      ⟨none, none, [], rfl, hlp2, .nil, rfl, rfl, Kp.refl⟩ (fun i σ H3 _ h => by obtain ⟨_, _, _, _, _, _, _, _, k⟩ := h; exact SqL.of (k _ _ nlp hL)) (fun i u σ H3 hi hv => ?_) (fun σ H3 hv => ?_)⟩
    · obtain ⟨y5, y6, us, rfl, hU, hP, hul, hno, k3⟩ := hv
      have hil : i < SL.length := by
        have := (List.getElem?_eq_some_iff.mp hi).1
        rw [List.length_map] at this
        exact this
      obtain ⟨s, hs, rfl⟩ : ∃ s, SL[i]? = some s ∧ u = .str s := by
        rw [List.getElem?_map, List.getElem?_eq_getElem hil] at hi
        exact ⟨_, List.getElem?_eq_getElem hil, (Option.some.inj hi).symm⟩
      have hso := hSo s (List.mem_of_getElem? hs)
      have etk : (SL.take (i + 1)).map (rowW r (srt ps) al) = (SL.take i).map (rowW r (srt ps) al) ++ [rowW r (srt ps) al s] := by
        rw [List.take_add_one, hs, List.map_append]
        rfl
      have ean : ((SL.take (i + 1)).any fun s => fsB r s (srt ps) al) = fsB r s (srt ps) al := by
        rw [List.take_add_one, hs, List.any_append, hno]
        simp
      have tk3 := TupK.kp k3 hlp2
      have hR3 := RulesW.mono _ _ _ _ tk3 hR2
      have hF3 := FoAt.mono _ _ _ _ tk3 hF2
      have hMs : Mt s.length (srt ps) := by
        rw [hso.1]
        exact hM
      refine ⟨_, rfl, _, rfl, _, rfl, v, av, r, s, srt ps, rfl, hR3, by omega, hF3, by have := mt_len hMs; omega, hMs.inn, fun H4 k4 => ?_⟩
      rw [mt_isF hMs]
      have hU4 := k4 _ _ hU
      have hP4 := paired_imp (fun _ _ => RowP.mono _ _ _ _ (TupK.ext k4)) hP
      have hn4 : H1 lp = none := hlp
      have k34 : Kp lp H2 H4 := k3.trans (Kp.ext k4)
      have fin : ∀ (H5 : Hp) (y6 : Option V) (u : V) (t : Addr), Ext H4 H5 → H5 t = none → OptFo H5 u (rowW r (srt ps) al s).2 → fsB r s (srt ps) al = false →
          ∃ (y5' y6' : Option V) (us' : List V), [some v, some (.str x), some (.bl al), some av, some (.ref lp), some (.str s), y6] = [some v, some (.str x), some (.bl al), some av, some (.ref lp), y5', y6'] ∧ (upd (upd H5 t (.tup [.str s, u])) lp (.lst (us ++ [.ref t]))) lp = some (.lst us') ∧ Paired (RowP (upd (upd H5 t (.tup [.str s, u])) lp (.lst (us ++ [.ref t])))) us' ((SL.take (i + 1)).map (rowW r (srt ps) al)) ∧ us'.length = i + 1 ∧ ((SL.take (i + 1)).any fun s => fsB r s (srt ps) al) = false ∧ Kp lp H2 (upd (upd H5 t (.tup [.str s, u])) lp (.lst (us ++ [.ref t]))) := fun H5 y6 u t k5 ht ho hf => by
        have x6 := Ext.new (o := .tup [.str s, u]) ht
        have hU6 := x6 _ _ (k5 _ _ hU4)
        have tk7 : TupK (upd H5 t (.tup [.str s, u])) (upd (upd H5 t (.tup [.str s, u])) lp (.lst (us ++ [.ref t]))) := TupK.lst hU6
        refine ⟨_, _, us ++ [.ref t], rfl, upd_same, ?_, by rw [List.length_append, List.length_singleton, hul], by rw [ean, hf], (k34.trans (Kp.ext (k5.trans x6))).trans Kp.at⟩
        rw [etk]
        exact (paired_imp (fun _ _ => RowP.mono _ _ _ _ ((TupK.ext (k5.trans x6)).trans tk7)) hP4).snoc ⟨t, u, rfl, tk7 _ _ upd_same, (ho.mono (TupK.ext x6)).mono tk7⟩
      cases hm : ((srt ps).map fun y => mayC r s y.1 y.2).all id with
      | false =>
        have hf : fsB r s (srt ps) al = false := by
          unfold fsB
          rw [hm, Bool.false_and]
        have hrow : rowW r (srt ps) al s = (s, none) := by
          unfold rowW
          rw [hm, if_neg Bool.false_ne_true]
        refine ⟨_, rfl, iteT ⟨_, rfl, .inl ⟨rfl, _, SqL.of hU4⟩, _, rfl, szL (show 2 ≤ 1000000 by decide), fun t ht => ⟨lp, us, .ref t, rfl, rfl, Ext.new ht _ _ hU4, szLt (by omega), ?_⟩⟩⟩
        exact fin H4 y6 .non t Ext.refl ht (by rw [hrow]; rfl) hf
      | true =>
        refine ⟨_, rfl, iteF ⟨_, rfl, _, rfl, _, rfl, _, rfl, v, av, r, s, srt ps, al, rfl, RulesW.mono _ _ _ _ (TupK.ext k4) hR3, ok, by omega, hso.2, FoAt.mono _ _ _ _ (TupK.ext k4) hF3, mt_WA hMs hm, fun lf fs H5 hlf hLf hPf k5 => ?_⟩⟩
        have hfe : fsB r s (srt ps) al = fs.isEmpty := by
          unfold fsB
          rw [hm, Bool.true_and, paired_empty hPf]
        have hU5 := k5 _ _ hU4
        cases hfs : fs with
        | nil =>
          refine ⟨_, rfl, _, .inl ⟨fs, SqL.of hLf, rfl⟩, ?_⟩
          rw [hfs]
          refine iteT ?_
          have hany : (SL.any fun s => fsB r s (srt ps) al) = true := List.any_eq_true.mpr ⟨s, List.mem_of_getElem? hs, by rw [hfe, hfs]; rfl⟩
          exact q1 hany H5 (kp_ext k1 (k1.none hlp) ((Kp.ext k12).trans (k34.trans (Kp.ext k5))))
        | cons f0 fr =>
          obtain ⟨FL, hq0⟩ : ∃ FL, FL = (SF (WA r s s.length 0)).filter (fbB r s (srt ps) al) := ⟨_, rfl⟩
          rw [← hq0] at hPf
          refine ⟨_, rfl, _, .inl ⟨fs, SqL.of hLf, rfl⟩, ?_⟩
          subst hfs
          refine iteF ?_
          cases hPf with
          | @cons _ q0 _ qr h0 hr0 =>
            have hrow : (rowW r (srt ps) al s).2 = some q0 := by
              unfold rowW
              dsimp only
              rw [hm, if_pos rfl, ← hq0]
              rfl
            refine ⟨_, rfl, .inl ⟨rfl, _, SqL.of hU5⟩, _, rfl, _, rfl, lf, _, 0, f0, rfl, rfl, SqL.of hLf, atI_get (by decide) (by rw [List.length_cons]; omega), szL (show 2 ≤ 1000000 by decide), fun t ht => ⟨lp, us, .ref t, rfl, rfl, Ext.new ht _ _ hU5, szLt (by omega), ?_⟩⟩
            exact fin H5 _ f0 t k5 ht (by rw [hrow]; exact h0) hfe
    · obtain ⟨y5, y6, us, rfl, hU, hP, hul, hno, k3⟩ := hv
      rw [List.take_of_length_le (by rw [List.length_map]; exact Nat.le_refl _)] at hP hno
      exact ⟨_, rfl, q2 hno lp us H3 (k1.none hlp) hU hP (kp_ext k1 (k1.none hlp) ((Kp.ext k12).trans k3))⟩
end
end Pf


namespace Pf
open PySem PySem.Spec PyProof.Rows L2
/-! ### a list is made longer by a tuple -/
theorem list_extend_tuple (l : Addr) (items : Array Value) (n : Nat) (b : Addr) (items2 : Array Value) (n2 : Nat) (dd : Option Addr) (sls : Array (Option Value)) (hs0 : ¬(!items.isEmpty && Builtin.List.listTooLong (items.size + items2.size)) = true) (hs1 : items.size ≤ sizeLine) (hs2 : items.size + items2.size ≤ sizeLine + 1) :
    Meets (Builtin.«list.extend» ⟨[.ref l, .ref b], []⟩) (fun _ R s => s.heap.get? l = some { cls := .type "list", dict := none, data := .seq items n, slots := #[] } ∧ s.heap.get? b = some { cls := .type "tuple", dict := dd, data := .seq items2 n2, slots := sls } ∧ R (.ok (.ret Value.none)) { s with heap := s.heap.update l (Obj.mapSeq fun x => x ++ items2), toks := s.toks }) :=
  .of_wp fun prog w A R s h => by
    obtain ⟨hp, g, d, tk, os⟩ := s; obtain ⟨hl, hb, h⟩ := h; have f1 := AutoSeq1.idx_int; have f2 := AutoSeq1.sub_tuple_tuple; have f3 := AutoSeq1.sub_list_list; have f4 := AutoSeq1.sub_tuple_list; have f5 := AutoSeq1.sub_list_tuple
    have hz' : (items ++ items2).size ≤ sizeLine + 1 := by rw [Array.size_append]; exact hs2
    wp_walk using (wpAny_updateSeq hl rfl (hz := hs1) (_hz' := hz')), AutoSeq1.wpAny_loadPart' hl, AutoSeq1.wpAny_loadPart' hb
    exact ⟨_, rfl, h⟩
def rExtT (K : PySem.W.Frag) : V → List V → Hp → VK → Prop := fun x vs H Q => ∃ l b xs zs, x = .ref l ∧ vs = [.ref b] ∧ H l = some (.lst xs) ∧ SqT K H b zs ∧ xs.length + zs.length ≤ sizeLine ∧ Q .non (upd H l (.lst (xs ++ zs)))
theorem mt_extT (K : PySem.W.Frag) {X : Cx} (hK : X.K = K := by rfl) : MtM X "list.extend" (rExtT K) := by
  subst hK
  intro pins s σ H x vs v us Q I rx rv h
  obtain ⟨l, b, xs, zs, rfl, rfl, hH, hB, hz, q⟩ := h
  cases rx
  obtain ⟨u, rfl, ru⟩ := rv.one
  cases ru
  obtain ⟨z, its, n, r, hl, e⟩ := I.lstM hH
  obtain ⟨its2, r2, ⟨⟨cls, dd, data, sls⟩, e2, hc, n2, hd⟩, hl2⟩ := I.tuple hB
  simp only at hc hd
  subst hc hd
  have hrl := r2.length
  have hrl1 := r.length
  have hsz : its.toArray.size + its2.toArray.size ≤ sizeLine := by rw [List.size_toArray, List.size_toArray]; omega
  have hlong : ¬ (!its.toArray.isEmpty && Builtin.List.listTooLong (its.toArray.size + its2.toArray.size)) = true := by
    rw [notLongL hsz, Bool.and_false]
    exact Bool.false_ne_true
  refine call_meets F.slot_list_extend ⟨_, e, rfl⟩ F.entry_list_extend (F.args_list_extend_2 _ _)
    (list_extend_tuple l its.toArray n b its2.toArray n2 dd sls hlong (by rw [List.size_toArray]; omega) (by omega)) ⟨e, e2, ?_⟩
  refine ⟨.non, _, I.lset (its' := its ++ its2) hH e (by simp) (r.append r2) ?_, rfl, q⟩
  rw [List.length_append]
  omega
/-! ### a thing in a list of data -/
theorem notInD (K : PySem.W.Frag) {X : Cx} (hu : X.A.units + 65 < cLine) (h : X.K = K := by rfl) : OpR X (compareOp .NotIn) (rNotInD K) := h ▸ op_notInD hu
end Pf


namespace Pf
open PySem PySem.Spec PyProof.Rows L2
theorem sm_wf {r : Rl} {x : Str} {q : Fo} (hx : x.length ≤ 12) (hq : q ∈ WA r x x.length 0) : Sm 78 2 (dFo q) := by
  obtain ⟨h1, h2⟩ := WA_in r x x.length 0 q hq
  exact sm_fo (by omega) fun y hy => by have := h1 y hy; omega
theorem room65 {k : Nat} {A : Around} (r : Room k A) : A.units + 65 < cLine := by have := r.un; omega
section
variable {P : Program} {w : World} {K : PySem.W.Frag} {mg : Str → Option Value} {base : Heap}
abbrev s_law_is_pairs : Stmt := topS 55
theorem sc_law_is_pairs : FnScope ["_law_some", "_law_pair", "_law_one"] ["_law_some"] (defScope s_law_is_pairs) :=
  ⟨rfl, rfl, rfl, by decide +kernel, rfl, by decide +kernel, by decide +kernel⟩
def spIPs : Sp := fun vs H Q _ => ∃ (v : V) (q : Fo), vs = [v] ∧ FoAt H v q ∧ ∀ H', Ext H H' → Q (.bl true) H'
theorem ok_ips {f : Addr} {fd : FuncData} {k : Nat} (F : Fun K "_law_is_pairs" "_law_is_pairs" s_law_is_pairs f fd) (misinstance : mg "isinstance" = none) (mint : mg "int" = none) (mbool : mg "bool" = none) (mtuple : mg "tuple" = none) (mlen : mg "len" = none) : FnOk P w K mg base CX0 (k + 1) f fd ["_law_some"] spIPs := by
  refine F.ok sc_law_is_pairs (fun vs H Q E h => ?_) (fun cdv A outer s H vs Q E hr h => ?_)
  · obtain ⟨v, q, rfl, _⟩ := h
    rfl
  · obtain ⟨v, fo, rfl, hF, q⟩ := h
    obtain ⟨a, us, rfl, hA, hP⟩ := hF
    refine ⟨_, (pss_cons (ps_if (pt_not (pt_val (pe_callB (isi1 K) (by rfl) misinstance (by decide +kernel) (pa_cons (pv 0) (pa_cons (pe_bltn (v := .ty "tuple") (by rfl) mtuple (by decide +kernel) rfl) pa_nil))))) (pss_one (ps_ret pe_bl)) pss_nil)
      (pss_cons (ps_for PassesOwn.never rfl (pi_tup (pv 0)) (pg_name (i := 1) sc_law_is_pairs.nd rfl (.inl rfl)) (pss_cons (ps_if (PW.pt (pw_or (pt_not (pt_val (pe_callB (isi1 K) (by rfl) misinstance (by decide +kernel) (pa_cons (pv 1) (pa_cons (pe_bltn (v := .ty "tuple") (by rfl) mtuple (by decide +kernel) rfl) pa_nil))))) (pw_or1 (pt_cmpR op_ne (pe_callB (lenQ K) (by rfl) mlen (by decide +kernel) (pa_cons (pv 1) pa_nil)) pe_int (nomark _))))) (pss_one (ps_ret pe_bl)) pss_nil)
      (pss_one (ps_if (pt_cmpR (neD K hr.units) (pe_lc (own := [("_law_one", 2)]) (g := gName 2) (by rfl) sc_law_is_pairs.nd (pi_tup (pv 1)) (blkOk_by (own := [("_law_one", 2)]) (N := ["_law_some", "_law_pair", "_law_one"]) (sc := defScope s_law_is_pairs) (by decide +kernel)) (fun _ _ _ _ _ => (pg_name (i := 2) sc_law_is_pairs.nd rfl (.inl rfl))) (fun _ _ _ _ _ => (pts_one (PW.pt (pw_or (pt_not (pt_val (pe_callB (isi1 K) (by rfl) misinstance (by decide +kernel) (pa_cons (pv 2) (pa_cons (pe_bltn (v := .ty "int") (by rfl) mint (by decide +kernel) rfl) pa_nil))))) (pw_or1 (pt_val (pe_callB (isi1 K) (by rfl) misinstance (by decide +kernel) (pa_cons (pv 2) (pa_cons (pe_bltn (v := .ty "bool") (by rfl) mbool (by decide +kernel) rfl) pa_nil))))))))) (fun _ _ _ _ _ => (pv 2))) (pe_lst pa_nil) (nomark _)) (pss_one (ps_ret pe_bl)) pss_nil))))
      (pss_one (ps_ret pe_bl)))), ?_⟩
    refine ⟨_, rfl, .ref a, .ty "tuple", _, _, true, rfl, .ty _, .base (.tup hA), kit_ty (by decide +kernel), true, rfl, iteF ?_⟩
    refine ⟨_, rfl, a, rfl, ⟨_, SqT.of hA⟩, for_tup (K := K) (xs := us) (fun i σ H2 => ∃ (y1 : Option V), σ = [some (.ref a), y1, none] ∧ Ext H H2)
      ⟨none, rfl, Ext.refl⟩ (fun i σ H2 _ ⟨_, _, k⟩ => SqT.of (k _ _ hA)) (fun i u σ H2 hi hv => ?_) (fun σ H2 hv => ?_)⟩
    · obtain ⟨y1, rfl, k2⟩ := hv
      obtain ⟨y, hy, t, rfl, hT⟩ := paired_get2 hP hi
      have hT2 := k2 _ _ hT
      refine ⟨_, rfl, .ref t, .ty "tuple", _, _, true, rfl, .ty _, .base (.tup hT2), kit_ty (by decide +kernel), true, rfl, iteF ?_⟩
      refine ⟨_, rfl, t, _, rfl, .inr (SqT.of hT2), rfl, _, rfl, iteNS rfl ?_⟩
      refine ⟨_, rfl, t, rfl, ⟨_, SqT.of hT2⟩, fun D hD => lc_tup (K := K) (xs := [V.int y.1, .int y.2]) (fun c H3 => H3 D = some (.lst []) ∧ Ext H2 H3)
        ⟨upd_same, Ext.new hD⟩ (fun c H3 _ h => SqT.of (h.2 _ _ hT2)) (fun c u H3 hc hv => ?_) (fun H3 hv => ?_)⟩
      · obtain ⟨z, rfl⟩ : ∃ z, u = V.int z := by
          match c, hc with
          | 0, hc => exact ⟨_, (Option.some.inj hc).symm⟩
          | 1, hc => exact ⟨_, (Option.some.inj hc).symm⟩
          | c + 2, hc => cases hc
        exact ⟨rfl, _, rfl, .int z, .ty "int", _, _, true, rfl, .ty _, .base (.int z), kit_ty (by decide +kernel), true, rfl, iteF ⟨_, rfl, .int z, .ty "bool", _, _, false, rfl, .ty _, .base (.int z), kit_ty (by decide +kernel), false, rfl, iteF hv⟩⟩
      · obtain ⟨hD3, k3⟩ := hv
        refine ⟨Nat.zero_le _, fun l hl => ⟨.list [], .list [], .lst (SqL.of (Ext.new hl _ _ hD3)) .nil, .lst (SqL.of upd_same) .nil, by decide, by decide, _, rfl, ?_⟩⟩
        rw [show (!(PyData.list []).eqv (PyData.list [])) = false from by simp [PyData.eqv, PyData.eqvAll]]
        exact iteF ⟨_, rfl, (k2.trans k3).trans (Ext.new hl)⟩
    · obtain ⟨y1, rfl, k2⟩ := hv
      exact q H2 k2
abbrev CIPs (P : Program) (w : World) (K : PySem.W.Frag) (mg : Str → Option Value) (base : Heap) : Prop := Ca P w K mg base 1 "_law_is_pairs" ["_law_some"] spIPs
abbrev s_law_forbids : Stmt := topS 53
theorem sc_law_forbids : FnScope ["_law_book", "_law_line", "_law_due_here", "_law_other", "_law_only", "_law_mine", "_law_cost_here"] ["_law_book", "_law_line", "_law_due_here", "_law_other", "_law_only"] (defScope s_law_forbids) :=
  ⟨rfl, rfl, rfl, by decide +kernel, rfl, by decide +kernel, by decide +kernel⟩
def spLFb : Sp := fun vs H Q _ => ∃ (v av u : V) (r : Rl) (s : Str) (qa : Fo) (al : Bool), vs = [v, .str s, av, u, .bl al] ∧ RulesAt H v r ∧ RlOk r ∧ s.length ≤ 10 ∧ Of r.letters s ∧ FoAt H av qa ∧ Mt s.length qa ∧
  (((qa.map fun y => mayC r s y.1 y.2).all id = false ∧ u = .non) ∨ ((qa.map fun y => mayC r s y.1 y.2).all id = true ∧ ∃ qf, FoAt H u qf ∧ qf ∈ WA r s s.length 0 ∧ fbB r s qa al qf = true)) ∧ ∀ H', Ext H H' → Q (.bl true) H'
theorem ok_lfb {f : Addr} {fd : FuncData} (F : Fun K "_law_forbids" "_law_forbids" s_law_forbids f fd) (c_law_stands : CStandW P w K mg base) (c_law_cost : CCost P w K mg base) (c_law_all : CAllW P w K mg base) (mlen : mg "len" = none) : FnOk P w K mg base CX0 16 f fd ["_law_book", "_law_line", "_law_due_here", "_law_other", "_law_only"] spLFb := by
  refine F.ok sc_law_forbids (fun vs H Q E h => ?_) (fun cdv A outer s H vs Q E hr h => ?_)
  · obtain ⟨v, av, u, r, x, qa, al, rfl, _⟩ := h
    rfl
  · obtain ⟨v, av, u, r, x, qa, al, rfl, hR, ok, hx, hO, hFa, hM, hcs, q⟩ := h
    refine ⟨_, (pss_cons (ps_if (pt_not (pt_val (pe_ca c_law_stands (hr.mono (by decide)) (by rfl) (pa_cons (pv 0) (pa_cons (pv 1) (pa_cons (pv 2) pa_nil)))))) (pss_one (ps_ret (pe_cmpR op_isN (pv 3) pe_non (nomark _)))) pss_nil)
      (pss_cons (ps_if (pt_cmpR (notInD K (room65 hr)) (pv 3) (pe_ca c_law_all (hr.mono (by decide)) (by rfl) (pa_cons (pv 0) (pa_cons (pv 1) (pa_cons pe_int (pa_cons (pe_callB call_len_str (by rfl) mlen (by decide +kernel) (pa_cons (pv 1) pa_nil)) pa_nil))))) (by rfl)) (pss_one (ps_ret pe_bl)) pss_nil)
      (pss_cons (ps_par (i := 5) (j := 6) rfl sc_law_forbids.nd rfl rfl (by decide) rfl rfl (pa_cons (pe_ca c_law_cost (hr.mono (by decide)) (by rfl) (pa_cons (pv 0) (pa_cons (pv 1) (pa_cons (pv 2) pa_nil)))) (pa_cons (pe_ca c_law_cost (hr.mono (by decide)) (by rfl) (pa_cons (pv 0) (pa_cons (pv 1) (pa_cons (pv 3) pa_nil)))) pa_nil)) (by rfl))
      (pss_one (ps_ret (pe_or (pe_cmpR op_lt (pv 6) (pv 5) (nomark _)) (pe_one (pe_and (pv 4) (pe_and (pe_cmpR op_eq (pv 6) (pv 5) (nomark _)) (pe_one (pe_cmpR (neD K hr.units) (pv 3) (pv 2) (nomark _)))))))))))), ?_⟩
    have hql := mt_len hM
    have hsx : Small x := hO.small ok.small
    refine ⟨_, rfl, _, rfl, _, rfl, v, av, r, x, qa, rfl, hR, ok, by omega, hFa, by omega, fun y hy => by have := hM.inn y hy; omega, fun H1 k1 => ⟨_, rfl, ?_⟩⟩
    rcases hcs with ⟨hm, rfl⟩ | ⟨hm, qf, hFf, hf, hfb⟩
    · rw [hm]
      exact iteT ⟨_, rfl, rfl, q H1 k1⟩
    · rw [hm]
      have ha := mt_WA hM hm
      have tx : ∀ {q : Fo}, q ∈ WA r x x.length 0 → ∀ y ∈ q, tx2 x y ∈ r.prs.map (·.1) := fun hq y hy => may_mem ((fo4_of r x x.length 0 _ hq).may y hy)
      refine iteF ?_
      refine ⟨_, rfl, _, rfl, _, rfl, _, rfl, x, rfl, szL (by omega), v, r, x, 0, (x.length : Int), rfl, RulesAt.mono _ _ _ _ (TupK.ext k1) hR, ok, by omega, by decide, by omega, Int.le_refl _, by omega, fun l us H3 hl hL hP k3 => ?_⟩
      rw [show ((x.length : Int) - 0).toNat = x.length by omega] at hP
      have k13 := k1.trans k3
      have hFf3 := FoAt.mono _ _ _ _ (TupK.ext k13) hFf
      have smf : Sm 1000000 3 (.list ((WA r x x.length 0).map dFo)) := sm_fos hx (List.Perm.refl _)
      refine ⟨dFo qf, (WA r x x.length 0).map dFo, dp_fo hFf3, .lst (SqL.of hL) (dpFos hP), shaped_fo (by omega) hf, smf.shaped (by decide), _, rfl, ?_⟩
      rw [show (List.any ((WA r x x.length 0).map dFo) fun z => PyData.eqv z (dFo qf)) = true from List.any_eq_true.mpr ⟨dFo qf, List.mem_map.mpr ⟨qf, hf, rfl⟩, SeqAt.eqv_refl _ (sm_wf (by omega) hf).lay⟩]
      refine iteF ?_
      have hR3 := RulesAt.mono _ _ _ _ (TupK.ext k13) hR
      have hFa3 := FoAt.mono _ _ _ _ (TupK.ext k13) hFa
      refine ⟨_, rfl, _, rfl, _, rfl, v, av, r, r, x, qa, rfl, hR3, ok, by omega, hsx, hFa3, ha, tx ha, fun H4 k4 => ?_⟩
      refine ⟨_, rfl, _, rfl, _, rfl, v, u, r, r, x, qf, rfl, RulesAt.mono _ _ _ _ (TupK.ext k4) hR3, ok, by omega, hsx, FoAt.mono _ _ _ _ (TupK.ext k4) hFf3, hf, tx hf, fun H5 k5 => ⟨_, _, rfl, ?_⟩⟩
      have k15 := (k13.trans k4).trans k5
      have h := q H5 k15
      unfold fbB at hfb
      refine ⟨_, rfl, _, rfl, _, _, rfl, rfl, _, rfl, ite2 (fun e => ?_) (fun e => ?_)⟩
      · exact h
      · have e : decide (woV r x qf < woV r x qa) = false := Bool.eq_false_iff.mpr e
        rw [e, Bool.false_or, Bool.and_eq_true, Bool.and_eq_true] at hfb
        obtain ⟨h1, h2, h3⟩ := hfb
        subst h1
        refine ⟨_, rfl, _, rfl, iteT ⟨_, rfl, _, rfl, rfl, _, rfl, ?_⟩⟩
        rw [int_eq_dec, h2]
        refine iteT ⟨_, rfl, _, rfl, dFo qf, dFo qa, dp_fo (FoAt.mono _ _ _ _ (TupK.ext k15) hFf), dp_fo (FoAt.mono _ _ _ _ (TupK.ext k15) hFa), shaped_fo (by omega) hf, shaped_fo (by omega) ha, ?_⟩
        rw [h3]
        exact h
abbrev CLFb (P : Program) (w : World) (K : PySem.W.Frag) (mg : Str → Option Value) (base : Heap) : Prop := Ca P w K mg base 16 "_law_forbids" ["_law_book", "_law_line", "_law_due_here", "_law_other", "_law_only"] spLFb
end
end Pf


namespace Pf
open PySem PySem.Spec PyProof.Rows L2
/-! ### a def that is called while nothing is being shown -/
structure FnOg (P : Program) (w : World) (K : PySem.W.Frag) (mg : Str → Option Value) (base : Heap) (k : Nat) (f : Addr) (fd : FuncData) (ps : List Str) (sp : Sp) : Prop where
  len : ∀ vs H Q E, sp vs H Q E → vs.length = ps.length
  run : ∀ (A : Around) (outer : List Env) (s : Shared) (H : Hp) (args : Args) (us : List Value) (vs : List V) (Q : VK) (E : XK), A.guards = some [] → Room k A → Env0 P w K mg base A outer s H → BindsTo s fd args (ps.zip us) → Vals vs us → sp vs H Q E →
    codeAny (model P w) A (.call (.ref f) args) (CR CX0 outer P w H s Q E) s
theorem FnOg.of {P : Program} {w : World} {K : PySem.W.Frag} {mg : Str → Option Value} {base : Heap} {k : Nat} {f : Addr} {fd : FuncData} {x qual : Str} {st : Stmt} {N ps : List Str} {sp : Sp} (F : Fun K x qual st f fd) (S : FnScope N ps (defScope st))
    (len : ∀ vs H Q E, sp vs H Q E → vs.length = ps.length)
    (body : ∀ (cdv : Value) (A : Around) (outer : List Env) (s : Shared) (H : Hp) (vs : List V) (Q : VK) (E : XK), Room k (A.deeper (envOfC qual (defScope st) s.heap.objs.size f cdv)) → (A.deeper (envOfC qual (defScope st) s.heap.objs.size f cdv)).guards = some [] → sp vs H Q E →
      ∃ t, PSs (cxOf CX0 P w K mg base N qual (defScope st) f cdv A outer s H E).nox (defBody st) t ∧ t { nx := fun _ H' => Q .non H', rt := Q } (start N vs) H) : FnOg P w K mg base (k + 1) f fd ps sp := by
  obtain ⟨oc, od, kV, doc, pm, an, cdv, ct, osl, rfl, lk, hcd⟩ := F.ex
  refine ⟨len, fun A outer s H args us vs Q E hG room env0 bnd rel hsp => ?_⟩
  have inS : K.In s.heap := env0.mod.kin.keeps fun b o e => (env0.bs b o e).1
  have limS : s.heap.NoLimit := env0.mod.nolimit.keeps fun b o e => (env0.bs b o e).1
  have kinds : ∀ y ∈ ps.zip us, (defScope st).names.lookup y.1 = some .local ∨ ((defScope st).names.lookup y.1 = some .cell ∧ ((cellsFrom (s.heap.objs.size + 1) (defScope st).names []).lookup y.1).isSome = true) := by
    rintro ⟨n, v⟩ hy
    cases S.par n (List.of_mem_zip hy).1 with
    | inl q => exact .inl q
    | inr q => exact .inr ⟨q, PySem.W.cellsFrom_some _ _ _ (.inl q)⟩
  refine codeAny_call_function room.depth (inS _ _ lk) rfl S.co S.gen rfl (PySem.W.codeRec_of inS hcd) (bnd _ _ _ _ ?_)
  refine wpAny_newFunctionEnv_cells S.kind kinds fun env0' he s1 inC => ?_
  subst he
  refine ⟨limS.keeps inC.toInCall.keep, codeAny_func ?_⟩
  obtain ⟨t, ht, hq⟩ := body cdv A outer s H vs Q E (room.deeper _) hG hsp
  have I0 : Inv (cxOf CX0 P w K mg base N qual (defScope st) f cdv A outer s H E) [] (start N vs) H s1 := inv_start S room.hd env0 (len _ _ _ _ hsp) rel inC
  refine wpAny_mono (ht.nox.run [] s1 (start N vs) H _ I0 hq) (fun fl s' hs => ?_) fun _ _ z => z
  cases fl with
  | ret u =>
    obtain ⟨v, σ', H', J, rv, q⟩ := hs
    exact ⟨v, H', J.os, J.bare, J.base, J.hok, rv, q⟩
  | next =>
    obtain ⟨σ', H', J, q⟩ := hs
    exact ⟨.non, H', J.os, J.bare, J.base, J.hok, rfl, q⟩
  | brk => exact False.elim (by obtain ⟨_, _, _, q⟩ := hs; exact q)
  | cont => exact False.elim (by obtain ⟨_, _, _, q⟩ := hs; exact q)
structure CaG (P : Program) (w : World) (K : PySem.W.Frag) (mg : Str → Option Value) (base : Heap) (k : Nat) (x : Str) (ps : List Str) (sp : Sp) : Prop where
  ex : ∃ f fd, FnOg P w K mg base k f fd ps sp ∧ mg x = some (.ref f) ∧ PySem.W.keepIn K (.ref f) = true ∧ Binds K fd ps []
/-- a def whose last arguments are left out -/
structure CaD (P : Program) (w : World) (K : PySem.W.Frag) (mg : Str → Option Value) (base : Heap) (k : Nat) (x : Str) (ps : List Str) (dvs : List V) (sp : Sp) : Prop where
  ex : ∃ f fd ds, FnOk P w K mg base CX0 k f fd ps sp ∧ mg x = some (.ref f) ∧ PySem.W.keepIn K (.ref f) = true ∧ Vals dvs ds ∧ Binds K fd ps ds
section
variable {X : Cx} {k : Nat} {x : Str} {ps ks : List Str} {sp : Sp} {p pos : Pos} {e : Expr} {es : List Expr} {kws : List Keyword} {t tk : TA} {gV : List V → List V → List V} {dvs : List V}
theorem run_fnG {f : Addr} {fd : FuncData} {pins : List (Addr × Obj)} {σ : L2.St} {H : Hp} {s : Shared} {Q : VK} {us : List Value} {vs : List V} (F : FnOg X.prog X.w X.K X.mg X.base k f fd ps sp) (hG : X.A.guards = some []) (hr : Room k X.A) (hb : Binds X.K fd ps [])
    (I : Inv X pins σ H s) (r : Vals vs us) (h : sp (vs ++ []) H Q E0) : wpAny (model X.prog X.w) X.A (call (.ref f) us) (EP X pins σ Q) X.xe s := by
  have r2 : Vals (vs ++ []) (us ++ []) := r.append .nil
  have hl : (us ++ []).length = ps.length := by rw [← r2.length]; exact F.len _ _ _ _ h
  refine wpAny_call (codeAny_mono (F.run X.A X.stack s H ⟨us, []⟩ (us ++ []) (vs ++ []) Q E0 hG hr I.env0 (hb s us I.kIn hl) r2 h) fun r s' hq => ?_)
  cases r with
  | error e => exact False.elim hq
  | ok fl =>
    cases fl with
    | ret u => exact I.after hq
    | next => exact False.elim hq
    | brk => exact False.elim hq
    | cont => exact False.elim hq
theorem pe_caG (c : CaG X.prog X.w X.K X.mg X.base k x ps sp) (hG : X.A.guards = some []) (hr : Room k X.A) (hg : Gl X x) (ha : PA X (e :: es) t) (hdb : (x == ("__debug__" : Str)) = false := by decide)
    (he : starEach (e :: es) X.env = (false, eval e X.env) :: starEach es X.env := by rfl) (hpl : (backTo pos (starEach es X.env)).any (·.1) = false := by rfl) :
    PE X (.Call (.Name x p) (e :: es) [] pos) (tCall sp [] E0 t) := by
  obtain ⟨f, fd, F, hm, hk, hb⟩ := c.ex
  refine ⟨fun pins s σ H Q I h => ?_⟩
  refine wpAny_Call_Name_kw (ld_glob I hg hm ?_ hdb)
  refine PySem.W.callWith_K (h₀ := X.base) I.ok.mod.kin hk (thn (ha.run pos pins s σ H _ I h) fun us s1 ⟨vs, H1, I1, r, q⟩ => ⟨I1.kIn, ?_⟩) he hpl
  exact run_fnG F hG hr hb I1 r q
theorem pe_caD (c : CaD X.prog X.w X.K X.mg X.base k x ps dvs sp) (hr : Room k X.A) (hg : Gl X x) (ha : PA X (e :: es) t) (hdb : (x == ("__debug__" : Str)) = false := by decide)
    (he : starEach (e :: es) X.env = (false, eval e X.env) :: starEach es X.env := by rfl) (hpl : (backTo pos (starEach es X.env)).any (·.1) = false := by rfl) :
    PE X (.Call (.Name x p) (e :: es) [] pos) (tCall sp dvs E0 t) := by
  obtain ⟨f, fd, ds, F, hm, hk, hv, hb⟩ := c.ex
  exact pe_call F hr hg hm hk hb hv pass0 ha hdb he hpl
end
/-- nobody calls it -/
theorem fn_false {P : Program} {w : World} {K : PySem.W.Frag} {mg : Str → Option Value} {base : Heap} {f : Addr} {fd : FuncData} {ps : List Str} : FnOk P w K mg base CX0 0 f fd ps (fun _ _ _ _ => False) :=
  ⟨fun _ _ _ _ h => h.elim, fun _ _ _ _ _ _ _ _ _ _ _ _ _ h => h.elim⟩
/-- by names alone, of a def with defaults -/
theorem kb_D {K : PySem.W.Frag} {x qual : Str} {params : Arguments} {body : List Stmt} {scope : Scope} {dvs : List V} {f : Addr} {fd : FuncData} {ps ks : List Str} (F : FunD K x qual params body scope dvs [] f fd) (js : List Nat) (hd : dvs ≠ [])
    (h : ∀ (T : Addr) (kV doc pm : Value) (an : Option Addr) (cdv ct : Value) (ws its : List Value), ws.length = ks.length → its.length = dvs.length →
      ∃ k, bindArgs (PySem.W.fnOf x qual params body scope (.ref T) kV doc pm an cdv ct) ⟨[], ks.zip ws⟩ = seqItems? (.ref T) >>= k ∧ k (some its.toArray) = pure (ps.zip (js.map fun j => ws.getD j .none))) : KBn K fd ps 0 ks (permU js) (permV js) := by
  obtain ⟨oc, od, dV, kV, doc, pm, an, cdv, ct, osl, rfl, lk, hcd, hD, hK⟩ := F.ex
  rcases hD with ⟨e, _⟩ | ⟨_, T, o, its, m, rfl, lT, oT, rT⟩
  · exact absurd e hd
  · refine ⟨fun s us ws X hu hw => ?_, fun _ r => perm_rel r js⟩
    obtain rfl := List.length_eq_zero_iff.mp hu
    obtain ⟨k, e1, e2⟩ := h T kV doc pm an cdv ct ws its hw rT.length.symm
    refine BindsTo.of_looks fun M => ?_
    rw [e1]
    exact looks_items X lT oT (.of_pure e2)
/-! ### // by a great divisor of either sign -/
def CDivNW (_ j : Int) : Prop := j ≠ 0 ∧ j.natAbs.log2 < 9000
theorem op_fdivNW {X : Cx} : OpR X (binaryOp .FloorDiv) (rI CDivNW fun i j => .int (i.fdiv j)) := opI fun i j _ _ _ _ _ hc q => floordiv_int hc.1 q (.inl (PyProof.noPylong_of_log2 hc.2))
/-! ### repr of data with great numbers -/
structure Bg (B m k : Nat) (d : PyData) : Prop where
  lay : d.canLay0 = true
  sho : d.showable = true
  ish : d.leavesShort B = true
  wt : d.weight ≤ m
  dep : d.depth ≤ k
theorem Bg.int {i : Int} {B : Nat} (hB : 1 < B) (h9 : B ≤ 1900) (h : i.natAbs < 2 ^ B) : Bg (B + 1) B 0 (.int i) := by
  have hl : i.natAbs.log2 < B := PySem.Flt.log2_lt_of (by omega) h
  have h10 : (2 : Nat) ^ B ≤ 10 ^ B := Nat.pow_le_pow_left (by decide) B
  refine ⟨by simp [PyData.canLay0], ?_, ?_, ?_, by simp [PyData.depth]⟩
  · simp only [PyData.showable]
    exact decide_eq_true (by omega)
  · simp only [PyData.leavesShort, PyData.shown]
    refine decide_eq_true ?_
    have hc : ((10 ^ B : Nat) : Int) = (10 : Int) ^ B := by simp
    have hh : (i.natAbs : Int) < (10 : Int) ^ B := by
      rw [← hc]
      exact Int.ofNat_lt.mpr (Nat.lt_of_lt_of_le h h10)
    by_cases hn : i < 0
    · rw [len_text_neg hn]
      have := toString_length_le (v := 0 - i) (k := B) (by omega) (by omega) (by omega)
      omega
    · have := toString_length_le (v := i) (k := B) (by omega) (by omega) (by omega)
      omega
  · simp only [PyData.weight]
    split <;> omega
theorem Bg.le {B m k m' k' : Nat} {d : PyData} (h : Bg B m k d) (hm : m ≤ m') (hk : k ≤ k') : Bg B m' k' d := ⟨h.lay, h.sho, h.ish, Nat.le_trans h.wt hm, Nat.le_trans h.dep hk⟩
structure BgA (B m k : Nat) (ds : List PyData) : Prop where
  lay : PyData.canLayAll0 ds = true
  sho : PyData.showableAll ds = true
  ish : PyData.leavesShortAll B ds = true
  wt : PyData.weightAll ds ≤ ds.length * (m + 1)
  dep : PyData.depthAll ds ≤ k
theorem BgA.of {B m k : Nat} : ∀ {ds : List PyData}, (∀ d ∈ ds, Bg B m k d) → BgA B m k ds
  | [], _ => ⟨by simp [PyData.canLayAll0], by simp [PyData.showableAll], by simp [PyData.leavesShortAll], by simp [PyData.weightAll], by simp [PyData.depthAll]⟩
  | d :: ds, h => by
    have h1 := h d (List.mem_cons_self ..)
    have h2 := BgA.of (ds := ds) fun x hx => h x (List.mem_cons_of_mem _ hx)
    refine ⟨by simp [PyData.canLayAll0, h1.lay, h2.lay], by simp [PyData.showableAll, h1.sho, h2.sho], by simp [PyData.leavesShortAll, h1.ish, h2.ish], ?_, ?_⟩
    · have e1 := h1.wt
      have e2 := h2.wt
      simp only [PyData.weightAll, List.length_cons, Nat.succ_mul]
      omega
    · simp only [PyData.depthAll]
      exact Nat.max_le.mpr ⟨h1.dep, h2.dep⟩
theorem Bg.lst {B n m k M : Nat} {ds : List PyData} (hn : ds.length ≤ n) (h : ∀ d ∈ ds, Bg B m k d) (hM : n * (m + 1) ≤ M) : Bg B M (k + 1) (.list ds) := by
  have a := BgA.of h
  have hw : ds.length * (m + 1) ≤ n * (m + 1) := Nat.mul_le_mul_right _ hn
  exact ⟨by simpa only [PyData.canLay0] using a.lay, by simpa only [PyData.showable] using a.sho, by simpa only [PyData.leavesShort] using a.ish, by simp only [PyData.weight]; exact Nat.le_trans a.wt (Nat.le_trans hw hM), by simp only [PyData.depth]; exact Nat.succ_le_succ a.dep⟩
theorem Bg.tup {B n m k M : Nat} {ds : List PyData} (hn : ds.length ≤ n) (h : ∀ d ∈ ds, Bg B m k d) (hM : n * (m + 1) ≤ M) : Bg B M (k + 1) (.tuple ds) := by
  have a := BgA.of h
  have hw : ds.length * (m + 1) ≤ n * (m + 1) := Nat.mul_le_mul_right _ hn
  exact ⟨by simpa only [PyData.canLay0] using a.lay, by simpa only [PyData.showable] using a.sho, by simpa only [PyData.leavesShort] using a.ish, by simp only [PyData.weight]; exact Nat.le_trans a.wt (Nat.le_trans hw hM), by simp only [PyData.depth]; exact Nat.succ_le_succ a.dep⟩
theorem Bg.short {B m k : Nat} {d : PyData} (h : Bg B m k d) (hB : 8 ≤ B) (hm : (B + 2) * m + B ≤ 15000000) : d.shown.length ≤ sizeLine := by
  have h1 := PyData.shown_le B hB d h.ish
  have h2 : (B + 2) * d.weight ≤ (B + 2) * m := Nat.mul_le_mul_left _ h.wt
  rw [sizeLine_eq]
  omega
def rShowB (K : PySem.W.Frag) : List V → Hp → VK → Prop := fun xs H Q => ∃ v d B m k, xs = [v] ∧ Dp K H v d ∧ Bg B m k d ∧ 8 ≤ B ∧ (B + 2) * m + B ≤ 15000000 ∧ k ≤ 50 ∧ Q (.str d.shown) H
theorem call_showB (K : PySem.W.Frag) {X : Cx} (hg : X.A.guards = some []) (hu : X.A.units + 64 < cLine) (hK : X.K = K := by rfl) : CallR X (.builtin "repr") (rShowB K) := by
  subst hK
  intro pins s σ H xs us Q I r h
  obtain ⟨v, d, B, m, k, rfl, hd, sh, hB, hm, hk, q⟩ := h
  have hdep := sh.dep
  have hz := sh.short hB hm
  cases hd with
  | non =>
    obtain ⟨u, rfl, rfl⟩ := vals1 r
    exact PySem.P.repr_of_none ⟨.str _, H, I.tok _, ⟨_, rfl⟩, by simpa only [PyData.shown] using q⟩
  | bl b =>
    obtain ⟨u, rfl, rfl⟩ := vals1 r
    refine PySem.P.repr_of_bool ⟨.str _, H, I.tok _, ⟨_, rfl⟩, ?_⟩
    simp only [PyData.shown] at q
    cases b <;> exact q
  | int i =>
    obtain ⟨u, rfl, t, rfl⟩ := vals1 r
    have hi : i.natAbs.log2 < 1920 := by simpa [PyData.showable] using sh.sho
    exact PySem.P.repr_of_int hi ⟨.str _, H, I.tok _, ⟨_, rfl⟩, by simpa only [PyData.shown] using q⟩
  | str x =>
    obtain ⟨u, rfl, t, rfl⟩ := vals1 r
    simp only [PyData.shown] at q hz
    exact PySem.P.repr_of_str ⟨.str _, H, I.tok _, ⟨_, rfl⟩, q⟩ hz
  | @lst a ys ds hs hds =>
    obtain ⟨u, rfl, rfl⟩ := vals1 r
    obtain ⟨as, rd⟩ := Dp.reads I _ _ _ (Dp.lst hs hds) (show RelV (.ref a) (.ref a) from rfl)
    exact PySem.repr_of_reads' rd sh.sho (PyData.noDict_hsm (PyData.hasDict_of_canLay _ sh.lay)) hg (by omega) (fun _ _ e => e) (fun h' u tk keep => ⟨.str _, H, I.kept keep, ⟨_, rfl⟩, q⟩) hz
  | @tup a ys ds hs hds =>
    obtain ⟨u, rfl, rfl⟩ := vals1 r
    obtain ⟨as, rd⟩ := Dp.reads I _ _ _ (Dp.tup hs hds) (show RelV (.ref a) (.ref a) from rfl)
    exact PySem.repr_of_reads' rd sh.sho (PyData.noDict_hsm (PyData.hasDict_of_canLay _ sh.lay)) hg (by omega) (fun _ _ e => e) (fun h' u tk keep => ⟨.str _, H, I.kept keep, ⟨_, rfl⟩, q⟩) hz
end Pf


namespace Pf
open PySem PySem.Spec PyProof.Rows L2
/-! ### a paper as data -/
def dOpt : Option Fo → PyData
  | none => .none
  | some q => dFo q
def dRowP (p : Str × Option Fo) : PyData := .tuple [.str p.1, dOpt p.2]
theorem dp_opt {K : PySem.W.Frag} {H : Hp} {u : V} {o : Option Fo} (h : OptFo H u o) : Dp K H u (dOpt o) := by
  cases o with
  | none => exact (show u = .non from h) ▸ .non
  | some q => exact dp_fo h
theorem dpRows {K : PySem.W.Frag} {H : Hp} : ∀ {vs : List V} {ps : List (Str × Option Fo)}, Paired (RowP H) vs ps → DpAll K H vs (ps.map dRowP)
  | _, _, .nil => .nil
  | _, _, .cons ⟨_, _, e, h, h2⟩ t => .cons (e ▸ .tup (SqT.of h) (.cons (.str _) (.cons (dp_opt h2) .nil))) (dpRows t)
theorem row_in {r : Rl} {qa : Fo} {al : Bool} {s : Str} {q : Fo} (h : (rowW r qa al s).2 = some q) : (qa.map fun y => mayC r s y.1 y.2).all id = true ∧ q ∈ WA r s s.length 0 ∧ fbB r s qa al q = true := by
  unfold rowW at h
  dsimp only at h
  by_cases c : (qa.map fun y => mayC r s y.1 y.2).all id = true
  · rw [if_pos c] at h
    have h2 := List.mem_filter.mp (List.mem_of_head? h)
    exact ⟨c, (SF_perm _).mem_iff.mp h2.1, h2.2⟩
  · rw [if_neg c] at h
    cases h
theorem row_out {r : Rl} {qa : Fo} {al : Bool} {s : Str} (hf : fsB r s qa al = false) (h : (rowW r qa al s).2 = none) : (qa.map fun y => mayC r s y.1 y.2).all id = false := by
  unfold rowW at h
  dsimp only at h
  cases c : (qa.map fun y => mayC r s y.1 y.2).all id with
  | false => rfl
  | true =>
    rw [c, if_pos rfl] at h
    unfold fsB at hf
    rw [c, Bool.true_and] at hf
    rw [List.head?_eq_none_iff.mp h] at hf
    cases hf
theorem sm_paper {r : Rl} {qa : Fo} {al : Bool} (ok : RlOk r) {n : Nat} (hn : n ≤ 12) (hpw : r.letters.length ^ n ≤ 100) : Sm 1000000 4 (.list (((stS r.letters.cps.toList n).map (rowW r qa al)).map dRowP)) := by
  refine Sm.lst (n := 100) (m := 1000) (k := 3) (by rw [List.length_map, List.length_map, stS_len, Array.length_toList]; exact hpw) (fun d hd => ?_) (by decide)
  obtain ⟨p, hp, rfl⟩ := List.mem_map.mp hd
  obtain ⟨s, hs, rfl⟩ := List.mem_map.mp hp
  have hso := stS_of n s hs
  refine Sm.tup (n := 2) (m := 200) (k := 2) (Nat.le_refl _) (fun d hd => ?_) (by decide)
  simp only [List.mem_cons, List.not_mem_nil, or_false] at hd
  rcases hd with rfl | rfl
  · exact (Sm.str (hso.2.small ok.small).ok (Nat.le_of_eq hso.1)).le (by omega) (by decide)
  · cases e : (rowW r qa al s).2 with
    | none => exact Sm.non.le (by decide) (by decide)
    | some q => exact (sm_wf (by omega) (row_in e).2.1).le (by decide) (by decide)
section
variable {P : Program} {w : World} {K : PySem.W.Frag} {mg : Str → Option Value} {base : Heap}
abbrev s_law_is_paper : Stmt := topS 54
theorem sc_law_is_paper : FnScope ["_law_book", "_law_wish_so", "_law_given", "_law_only", "_law_lines", "_law_due_here", "_law_row", "_law_line"] ["_law_book", "_law_wish_so", "_law_given", "_law_only"] (defScope s_law_is_paper) :=
  ⟨rfl, rfl, rfl, by decide +kernel, rfl, by decide +kernel, by decide +kernel⟩
def spPap : Sp := fun vs H Q _ => ∃ (v : V) (l : Addr) (us : List V) (r : Rl) (x : Str) (ps : Fo) (al : Bool), vs = [v, .str x, .ref l, .bl al] ∧ RulesAt H v r ∧ RlOk r ∧ x.length ≤ 10 ∧ run [] (toks 0 x.cps.toList) = some ps ∧ (∀ c ∈ x.cps.toList, c = 40 ∨ c = 41 ∨ c = 46) ∧ r.letters.length ^ x.length ≤ 10000 ∧ H l = some (.lst us) ∧ Paired (RowP H) us ((stS r.letters.cps.toList x.length).map (rowW r (srt ps) al)) ∧ anyW r (srt ps) al x.length = false ∧ ∀ H', Ext H H' → Q (.bl true) H'
theorem ok_pap {f : Addr} {fd : FuncData} (F : Fun K "_law_is_paper" "_law_is_paper" s_law_is_paper f fd) (c_law_pairs_in : CLPin P w K mg base) (c_law_strings : CLSts P w K mg base) (c_law_is_pairs : CIPs P w K mg base) (c_law_forbids : CLFb P w K mg base) (misinstance : mg "isinstance" = none) (mlist : mg "list" = none) (mtuple : mg "tuple" = none) (mlen : mg "len" = none) (mrepr : mg "repr" = none) (mzip : mg "zip" = none) : FnOg P w K mg base 17 f fd ["_law_book", "_law_wish_so", "_law_given", "_law_only"] spPap := by
  refine FnOg.of F sc_law_is_paper (fun vs H Q E h => ?_) (fun cdv A outer s H vs Q E hr hG h => ?_)
  · obtain ⟨v, l, us, r, x, ps, al, rfl, _⟩ := h
    rfl
  · obtain ⟨v, l, us, r, x, ps, al, rfl, hR, ok, hx, hrun, hch, hpw, hL, hP, hno, q⟩ := h
    refine ⟨_, (pss_cons (ps_set (i := 4) sc_law_is_paper.nd rfl (.inl rfl) (pe_ca c_law_strings (hr.mono (by decide)) (by rfl) (pa_cons (pv 0) (pa_cons (pe_callB call_len_str (by rfl) mlen (by decide +kernel) (pa_cons (pv 1) pa_nil)) pa_nil))))
      (pss_cons (ps_if (PW.pt (pw_or (pt_not (pt_val (pe_callB (isi1 K) (by rfl) misinstance (by decide +kernel) (pa_cons (pv 2) (pa_cons (pe_bltn (v := .ty "list") (by rfl) mlist (by decide +kernel) rfl) pa_nil))))) (pw_or1 (pt_cmpR op_ne (pe_callB (lenQ K) (by rfl) mlen (by decide +kernel) (pa_cons (pv 2) pa_nil)) (pe_callB (lenQ K) (by rfl) mlen (by decide +kernel) (pa_cons (pv 4) pa_nil)) (nomark _))))) (pss_one (ps_ret pe_bl)) pss_nil)
      (pss_cons (ps_set (i := 5) sc_law_is_paper.nd rfl (.inl rfl) (pe_ca c_law_pairs_in (hr.mono (by decide)) (by rfl) (pa_cons (pv 1) pa_nil)))
      (pss_cons (ps_for PassesOwn.never rfl (RZ.pi_zipA (by rfl) mzip (pa_cons (pv 2) (pa_cons (pv 4) pa_nil))) (pg_tup rfl (pgs_cons (pg_name (i := 6) sc_law_is_paper.nd rfl (.inl rfl)) (pgs_cons (pg_name (i := 7) sc_law_is_paper.nd rfl (.inl rfl)) pgs_nil))) (pss_cons (ps_if (PW.pt (pw_or (pt_not (pt_val (pe_callB (isi1 K) (by rfl) misinstance (by decide +kernel) (pa_cons (pv 6) (pa_cons (pe_bltn (v := .ty "tuple") (by rfl) mtuple (by decide +kernel) rfl) pa_nil))))) (pw_or (pt_cmpR op_ne (pe_callB (lenQ K) (by rfl) mlen (by decide +kernel) (pa_cons (pv 6) pa_nil)) pe_int (nomark _)) (pw_or1 (pt_cmpR op_ne (pe_callB (call_show K hG hr.units) (by rfl) mrepr (by decide +kernel) (pa_cons (pe_ix (ixT K) (pv 6) pe_int (fun _ _ => rfl)) pa_nil)) (pe_callB (call_show K hG hr.units) (by rfl) mrepr (by decide +kernel) (pa_cons (pv 7) pa_nil)) (nomark _)))))) (pss_one (ps_ret pe_bl)) pss_nil)
      (pss_cons (ps_if (PW.pt (pw_and (pt_cmpR op_notN (pe_ix (ixT K) (pv 6) pe_int (fun _ _ => rfl)) pe_non (nomark _)) (pw_and1 (pt_not (pt_val (pe_ca c_law_is_pairs (hr.mono (by decide)) (by rfl) (pa_cons (pe_ix (ixT K) (pv 6) pe_int (fun _ _ => rfl)) pa_nil))))))) (pss_one (ps_ret pe_bl)) pss_nil)
      (pss_one (ps_if (pt_not (pt_val (pe_ca c_law_forbids (hr.mono (by decide)) (by rfl) (pa_cons (pv 0) (pa_cons (pv 7) (pa_cons (pv 5) (pa_cons (pe_ix (ixT K) (pv 6) pe_int (fun _ _ => rfl)) (pa_cons (pv 3) pa_nil)))))))) (pss_one (ps_ret pe_bl)) pss_nil)))))
      (pss_one (ps_ret pe_bl)))))), ?_⟩
    have hM := mt_of hrun
    refine ⟨_, rfl, _, rfl, x, rfl, szL (by omega), v, r, x.length, rfl, hR.w, ok.let1, by omega, hpw, fun l2 H1 hl2 hL2 k1 => ?_⟩
    obtain ⟨SL, hSL⟩ : ∃ SL, SL = stS r.letters.cps.toList x.length := ⟨_, rfl⟩
    have hSo : ∀ s ∈ SL, s.length = x.length ∧ Of r.letters s := fun s hs => stS_of _ s (hSL ▸ hs)
    unfold anyW at hno
    rw [← hSL] at hL2 hP hno
    have hul := paired_len hP
    rw [List.length_map] at hul
    refine ⟨_, rfl, .ref l, .ty "list", _, _, true, rfl, .ty _, .base (.lst (k1 _ _ hL)), kit_ty (by decide +kernel), true, rfl, iteF ?_⟩
    refine ⟨_, rfl, l, us, rfl, .inl (SqL.of (k1 _ _ hL)), _, rfl, l2, _, rfl, .inl (SqL.of hL2), rfl, _, rfl, ?_⟩
    rw [hul, List.length_map]
    refine iteNS rfl ?_
    refine ⟨_, rfl, x, ps, rfl, by omega, hrun, hch, fun av H2 k2 hFa => ?_⟩
    have k12 := k1.trans k2
    have hL2' := k2 _ _ hL2
    have hLg := k12 _ _ hL
    have hzl : us.length = (SL.map V.str).length := by rw [hul, List.length_map]
    have hP2 := paired_imp (fun _ _ => RowP.mono _ _ _ _ (TupK.ext k12)) hP
    have hR2 := RulesAt.mono _ _ _ _ (TupK.ext k12) hR
    refine ⟨_, rfl, _, rfl, l, l2, us, SL.map V.str, rfl, .inl ⟨SqL.of hLg, SqL.of hL2', RZ.for_zipL hzl (fun i σ H3 => ∃ (y6 y7 : Option V), σ = [some v, some (.str x), some (.ref l), some (.bl al), some (.ref l2), some av, y6, y7] ∧ Ext H2 H3)
      ⟨_, _, rfl, Ext.refl⟩ (fun i σ H3 ⟨_, _, _, k⟩ => ⟨SqL.of (k _ _ hLg), SqL.of (k _ _ hL2')⟩) (fun i u1 u2 T σ H3 hu1 hu2 hv hT => ?_) (fun σ H3 hv => ?_)⟩⟩
    · obtain ⟨y6, y7, rfl, k3⟩ := hv
      obtain ⟨s, hs, rfl⟩ : ∃ s, SL[i]? = some s ∧ u2 = .str s := by
        rw [List.getElem?_map] at hu2
        obtain ⟨s, h1, h2⟩ := Option.map_eq_some_iff.mp hu2
        exact ⟨s, h1, h2.symm⟩
      have hso := hSo s (List.mem_of_getElem? hs)
      have hsf : fsB r s (srt ps) al = false := by
        have := List.any_eq_false.mp hno s (List.mem_of_getElem? hs)
        exact Bool.eq_false_iff.mpr this
      obtain ⟨p, hp, a, u, rfl, hA, hO⟩ := paired_get hP2 hu1
      have hpe : p = rowW r (srt ps) al s := by
        rw [List.getElem?_map, hs] at hp
        exact (Option.some.inj hp).symm
      subst hpe
      have xT := Ext.new (o := .tup [.ref a, .str s]) hT
      have k4 := k3.trans xT
      have hA4 : upd H3 T (.tup [.ref a, .str s]) a = some (.tup [.str s, u]) := k4 _ _ hA
      have hO4 := hO.mono (TupK.ext k4)
      refine ⟨T, _, rfl, SqT.of upd_same, rfl, _, _, rfl, _, _, rfl, rfl, ?_⟩
      generalize upd H3 T (.tup [.ref a, .str s]) = H4 at k4 hA4 hO4 ⊢
      refine ⟨_, rfl, .ref a, .ty "tuple", _, _, true, rfl, .ty _, .base (.tup hA4), kit_ty (by decide +kernel), true, rfl, iteF ?_⟩
      refine ⟨_, rfl, a, _, rfl, .inr (SqT.of hA4), rfl, _, rfl, iteNS rfl ?_⟩
      have hsm : Sm 100 0 (.str s) := (Sm.str (hso.2.small ok.small).ok (Nat.le_of_eq hso.1)).le (by omega) (by decide)
      refine ⟨_, rfl, a, _, 0, _, rfl, rfl, SqT.of hA4, rfl, _, _, _, _, rfl, .str s, hsm, by decide, by decide, ?_⟩
      refine ⟨_, rfl, _, _, _, _, rfl, .str s, hsm, by decide, by decide, ?_⟩
      refine ⟨rfl, _, rfl, iteNS rfl ?_⟩
      have hR4 := RulesAt.mono _ _ _ _ (TupK.ext k4) hR2
      have hF4 := FoAt.mono _ _ _ _ (TupK.ext k4) hFa
      have hMs : Mt s.length (srt ps) := by
        rw [hso.1]
        exact hM
      cases e : (rowW r (srt ps) al s).2 with
      | none =>
        rw [e] at hO4
        obtain rfl : u = .non := hO4
        have hno2 := row_out hsf e
        refine ⟨_, rfl, a, _, 1, _, rfl, rfl, SqT.of hA4, rfl, rfl, _, rfl, iteNS rfl (iteF ?_)⟩
        refine ⟨_, rfl, _, rfl, _, rfl, _, rfl, a, _, 1, _, rfl, rfl, SqT.of hA4, rfl, _, rfl, v, av, .non, r, s, srt ps, al, rfl, hR4, ok, by omega, hso.2, hF4, hMs, .inl ⟨hno2, rfl⟩, fun H5 k5 => ⟨_, rfl, iteF ⟨_, _, rfl, k4.trans k5⟩⟩⟩
      | some qf =>
        rw [e] at hO4
        have hFf : FoAt H4 u qf := hO4
        have hin := row_in e
        refine ⟨_, rfl, a, _, 1, _, rfl, rfl, SqT.of hA4, rfl, rfl, _, rfl, ?_⟩
        rw [show (!decide (u = V.non)) = true from by obtain ⟨z, _, rfl, _⟩ := hFf; rfl]
        refine iteT ⟨_, rfl, a, _, 1, _, rfl, rfl, SqT.of hA4, rfl, u, qf, rfl, hFf, fun H5 k5 => ⟨_, rfl, iteF ?_⟩⟩
        have k45 := k4.trans k5
        refine ⟨_, rfl, _, rfl, _, rfl, _, rfl, a, _, 1, _, rfl, rfl, SqT.of (k5 _ _ hA4), rfl, _, rfl, v, av, u, r, s, srt ps, al, rfl, RulesAt.mono _ _ _ _ (TupK.ext k5) hR4, ok, by omega, hso.2, FoAt.mono _ _ _ _ (TupK.ext k5) hF4, hMs, .inr ⟨hin.1, qf, FoAt.mono _ _ _ _ (TupK.ext k5) hFf, hin.2.1, hin.2.2⟩, fun H6 k6 => ⟨_, rfl, iteF ⟨_, _, rfl, k45.trans k6⟩⟩⟩
    · obtain ⟨y6, y7, rfl, k3⟩ := hv
      exact q H3 (k12.trans k3)
abbrev CPap (P : Program) (w : World) (K : PySem.W.Frag) (mg : Str → Option Value) (base : Heap) : Prop := CaG P w K mg base 17 "_law_is_paper" ["_law_book", "_law_wish_so", "_law_given", "_law_only"] spPap
end
end Pf


namespace Pf
open PySem PySem.Spec PyProof.Rows L2
/-! ### things of any kind -/
inductive Dq (K : PySem.W.Frag) (H : Hp) : V → PyData → Prop
  | dp {v : V} {d : PyData} : Dp K H v d → Dq K H v d
  | emp {a : Addr} : H a = some (.dK []) → Dq K H (.ref a) (.dict [])
def tyD : PyData → String
  | .none => "NoneType"
  | .bool _ => "bool"
  | .int _ => "int"
  | .str _ => "str"
  | .list _ => "list"
  | .tuple _ => "tuple"
  | .dict _ => "dict"
theorem sqT_ty {K : PySem.W.Frag} {H : Hp} {a : Addr} {xs : List V} (h : SqT K H a xs) : TyX K H (.ref a) (.type "tuple") := by
  rcases h with (h | ⟨o, h⟩) | ⟨o, _, _, h, c, _⟩
  · exact .base (.tup h)
  · exact .fTuple h
  · exact .kTuple h c
theorem sqL_ty {K : PySem.W.Frag} {H : Hp} {a : Addr} {xs : List V} (h : SqL K H a xs) : TyX K H (.ref a) (.type "list") := by
  rcases h with (h | ⟨o, h⟩) | ⟨o, _, _, h, c, _⟩
  · exact .base (.lst h)
  · exact .base (.frz h)
  · exact .kList h c
theorem Dq.ty {K : PySem.W.Frag} {H : Hp} {v : V} {d : PyData} (h : Dq K H v d) : TyX K H v (.type (tyD d)) := by
  cases h with
  | emp h => exact .base (.dK h)
  | dp h =>
    cases h with
    | non => exact .base .non
    | bl b => exact .base (.bl b)
    | int i => exact .base (.int i)
    | str x => exact .base (.str x)
    | lst h _ => exact sqL_ty h
    | tup h _ => exact sqT_ty h
def isTup : PyData → Bool
  | .tuple _ => true
  | _ => false
def isIntB : PyData → Bool
  | .int _ => true
  | .bool _ => true
  | _ => false
def isBl : PyData → Bool
  | .bool _ => true
  | _ => false
def isLst : PyData → Bool
  | .list _ => true
  | _ => false
def isStr : PyData → Bool
  | .str _ => true
  | _ => false
theorem kit_tup {K : PySem.W.Frag} (d : PyData) : PySem.W.kitOne K (.type (tyD d)) (.type "tuple") = some (isTup d) := by
  cases d <;> (simp only [tyD, isTup]; exact kit_ty (by decide +kernel))
theorem kit_lst {K : PySem.W.Frag} (d : PyData) : PySem.W.kitOne K (.type (tyD d)) (.type "list") = some (isLst d) := by
  cases d <;> (simp only [tyD, isLst]; exact kit_ty (by decide +kernel))
theorem kit_int {K : PySem.W.Frag} (d : PyData) : PySem.W.kitOne K (.type (tyD d)) (.type "int") = some (isIntB d) := by
  cases d <;> (simp only [tyD, isIntB]; exact kit_ty (by decide +kernel))
theorem kit_bool {K : PySem.W.Frag} (d : PyData) : PySem.W.kitOne K (.type (tyD d)) (.type "bool") = some (isBl d) := by
  cases d <;> (simp only [tyD, isBl]; exact kit_ty (by decide +kernel))
theorem kit_str {K : PySem.W.Frag} (d : PyData) : PySem.W.kitOne K (.type (tyD d)) (.type "str") = some (isStr d) := by
  cases d <;> (simp only [tyD, isStr]; exact kit_ty (by decide +kernel))
theorem dpAll_len {K : PySem.W.Frag} {H : Hp} : ∀ {vs : List V} {ds : List PyData}, DpAll K H vs ds → vs.length = ds.length
  | _, _, .nil => rfl
  | _, _, .cons _ t => by rw [List.length_cons, List.length_cons, dpAll_len t]
theorem dpAll_get {K : PySem.W.Frag} {H : Hp} : ∀ {vs : List V} {ds : List PyData} {i : Nat} {v : V}, DpAll K H vs ds → vs[i]? = some v → ∃ d, ds[i]? = some d ∧ Dp K H v d
  | _, _, _, _, .nil, e => by simp at e
  | _, _, 0, _, .cons r _, e => by
    simp at e
    subst e
    exact ⟨_, rfl, r⟩
  | _, _, i + 1, v, .cons _ t, e => by
    obtain ⟨d, h1, h2⟩ := dpAll_get (i := i) (v := v) t (by simpa using e)
    exact ⟨d, by simpa using h1, h2⟩
theorem sqT_ext {K : PySem.W.Frag} {H H' : Hp} {a : Addr} {xs : List V} (k : Ext H H') (h : SqT K H a xs) : SqT K H' a xs := by
  rcases h with (h | ⟨o, h⟩) | h
  · exact .inl (.inl (k _ _ h))
  · exact .inl (.inr ⟨o, k _ _ h⟩)
  · exact .inr h
theorem sqL_ext {K : PySem.W.Frag} {H H' : Hp} {a : Addr} {xs : List V} (k : Ext H H') (h : SqL K H a xs) : SqL K H' a xs := by
  rcases h with (h | ⟨o, h⟩) | h
  · exact .inl (.inl (k _ _ h))
  · exact .inl (.inr ⟨o, k _ _ h⟩)
  · exact .inr h
mutual
theorem dp_ext {K : PySem.W.Frag} {H H' : Hp} (k : Ext H H') : ∀ {v : V} {d : PyData}, Dp K H v d → Dp K H' v d
  | _, _, .non => .non
  | _, _, .bl b => .bl b
  | _, _, .int i => .int i
  | _, _, .str x => .str x
  | _, _, .lst h r => .lst (sqL_ext k h) (dpAll_ext k r)
  | _, _, .tup h r => .tup (sqT_ext k h) (dpAll_ext k r)
theorem dpAll_ext {K : PySem.W.Frag} {H H' : Hp} (k : Ext H H') : ∀ {vs : List V} {ds : List PyData}, DpAll K H vs ds → DpAll K H' vs ds
  | _, _, .nil => .nil
  | _, _, .cons r t => .cons (dp_ext k r) (dpAll_ext k t)
end
theorem Dq.ext {K : PySem.W.Frag} {H H' : Hp} {v : V} {d : PyData} (h : Dq K H v d) (k : Ext H H') : Dq K H' v d := by
  cases h with
  | dp h => exact .dp (dp_ext k h)
  | emp h => exact .emp (k _ _ h)
/-! ### two numbers in a tuple of any make -/
def TwoS (K : PySem.W.Frag) (H : Hp) (v : V) (y : Int × Int) : Prop := ∃ a, v = .ref a ∧ SqT K H a [.int y.1, .int y.2]
theorem TwoS.ext {K : PySem.W.Frag} {H H' : Hp} (k : Ext H H') {v : V} {y : Int × Int} (h : TwoS K H v y) : TwoS K H' v y := by
  obtain ⟨a, e, h⟩ := h
  exact ⟨a, e, sqT_ext k h⟩
theorem TwoS.of {K : PySem.W.Frag} {H : Hp} {v : V} {y : Int × Int} (h : TwoAt H v y) : TwoS K H v y := by
  obtain ⟨a, e, h⟩ := h
  exact ⟨a, e, SqT.of h⟩
/-- the two numbers of a thing, if it is such a tuple -/
def twoD : PyData → Option (Int × Int)
  | .tuple [.int i, .int j] => some (i, j)
  | _ => none
theorem twoD_some {d : PyData} {y : Int × Int} (h : twoD d = some y) : d = .tuple [.int y.1, .int y.2] := by
  unfold twoD at h
  split at h
  · cases h
    rfl
  · cases h
theorem two_dp {K : PySem.W.Frag} {H : Hp} {v : V} {d : PyData} {y : Int × Int} (h : Dp K H v d) (e : twoD d = some y) : TwoS K H v y := by
  have e := twoD_some e
  subst e
  cases h with
  | tup h r =>
    cases r with
    | cons r1 r =>
      cases r with
      | cons r2 r =>
        cases r
        cases r1
        cases r2
        exact ⟨_, rfl, h⟩
theorem paired_two {K : PySem.W.Frag} {H : Hp} : ∀ {vs : List V} {ds : List PyData} {qs : List (Int × Int)}, DpAll K H vs ds → ds.mapM twoD = some qs → Paired (TwoS K H) vs qs
  | _, [], qs, .nil, e => by
    rw [List.mapM_nil] at e
    cases e
    exact .nil
  | _, d :: ds, qs, .cons h t, e => by
    rw [List.mapM_cons] at e
    cases h1 : twoD d with
    | none =>
      rw [h1] at e
      cases e
    | some y =>
      rw [h1] at e
      cases h2 : ds.mapM twoD with
      | none =>
        rw [h2] at e
        cases e
      | some ys =>
        rw [h2] at e
        cases e
        exact .cons (two_dp h h1) (paired_two t h2)
def dTw (y : Int × Int) : PyData := .tuple [.int y.1, .int y.2]
theorem dp_twos {K : PySem.W.Frag} {H : Hp} : ∀ {vs : List V} {qs : List (Int × Int)}, Paired (TwoS K H) vs qs → DpAll K H vs (qs.map dTw)
  | _, _, .nil => .nil
  | _, _, .cons ⟨_, e, h⟩ t => .cons (e ▸ .tup h (.cons (.int _) (.cons (.int _) .nil))) (dp_twos t)
theorem mapM_len {α β : Type} {f : α → Option β} : ∀ {xs : List α} {ys : List β}, xs.mapM f = some ys → ys.length = xs.length
  | [], ys, e => by
    rw [List.mapM_nil] at e
    cases e
    rfl
  | x :: xs, ys, e => by
    rw [List.mapM_cons] at e
    cases h1 : f x with
    | none =>
      rw [h1] at e
      cases e
    | some y =>
      rw [h1] at e
      cases h2 : xs.mapM f with
      | none =>
        rw [h2] at e
        cases e
      | some zs =>
        rw [h2] at e
        cases e
        rw [List.length_cons, List.length_cons, mapM_len h2]
theorem mapM_snoc {α β : Type} {f : α → Option β} : ∀ {xs : List α} {ys : List β} {x : α} {y : β}, xs.mapM f = some ys → f x = some y → (xs ++ [x]).mapM f = some (ys ++ [y])
  | xs, ys, x, y, e, e2 => by
    rw [List.mapM_append, e]
    show (do let z ← [x].mapM f; pure (ys ++ z)) = _
    rw [List.mapM_cons, e2, List.mapM_nil]
    rfl
theorem mapM_get {α β : Type} {f : α → Option β} : ∀ {xs : List α} {ys : List β} {i : Nat} {x : α}, xs.mapM f = some ys → xs[i]? = some x → ∃ y, f x = some y ∧ ys[i]? = some y
  | [], _, _, _, _, e2 => by simp at e2
  | x :: xs, ys, i, z, e, e2 => by
    rw [List.mapM_cons] at e
    cases h1 : f x with
    | none =>
      rw [h1] at e
      cases e
    | some y =>
      rw [h1] at e
      cases h2 : xs.mapM f with
      | none =>
        rw [h2] at e
        cases e
      | some zs =>
        rw [h2] at e
        cases e
        cases i with
        | zero =>
          simp at e2
          subst e2
          exact ⟨y, h1, rfl⟩
        | succ i =>
          obtain ⟨y2, q1, q2⟩ := mapM_get (i := i) h2 (by simpa using e2)
          exact ⟨y2, q1, by simpa using q2⟩
theorem mapM_none {α β : Type} {f : α → Option β} : ∀ {xs : List α} {x : α}, x ∈ xs → f x = none → xs.mapM f = none
  | y :: xs, x, h, e => by
    rw [List.mapM_cons]
    rcases List.mem_cons.mp h with rfl | h
    · rw [e]
      rfl
    · cases h1 : f y with
      | none => rfl
      | some z =>
        show (do let zs ← xs.mapM f; pure (z :: zs)) = none
        rw [mapM_none h e]
        rfl
/-! ### repr of a tuple of two, the second anything -/
mutual
def plainD : PyData → Bool
  | .none => true
  | .bool _ => true
  | .int _ => true
  | .str _ => true
  | .list _ => false
  | .tuple ds => plainDs ds
  | .dict _ => false
def plainDs : List PyData → Bool
  | [] => true
  | d :: r => plainD d && plainDs r
end
theorem plainDs_all {ds : List PyData} (h : ∀ d ∈ ds, plainD d = true) : plainDs ds = true := by
  induction ds with
  | nil => rfl
  | cons d r ih =>
    rw [plainDs, h d (List.mem_cons_self ..), ih fun x hx => h x (List.mem_cons_of_mem _ hx)]
    rfl
mutual
theorem reads_plain {h : Heap} : ∀ (d : PyData) (u : Value) (as : List Addr), plainD d = true → Reads h u d as → as = []
  | .none, _, _, _, r => by cases r; rfl
  | .bool _, _, _, _, r => by cases r; rfl
  | .int _, _, _, _, r => by cases r; rfl
  | .str _, _, _, _, r => by cases r; rfl
  | .list _, _, _, e, _ => by simp [plainD] at e
  | .tuple ds, _, _, e, r => by
    cases r with
    | tuple _ _ _ r => exact reads_plains ds _ _ (by simpa [plainD] using e) r
  | .dict _, _, _, e, _ => by simp [plainD] at e
theorem reads_plains {h : Heap} : ∀ (ds : List PyData) (us : List Value) (as : List Addr), plainDs ds = true → ReadsAll h us ds as → as = []
  | [], _, _, _, r => by cases r; rfl
  | d :: ds, _, _, e, r => by
    rw [plainDs, Bool.and_eq_true] at e
    cases r with
    | cons r1 r2 => rw [reads_plain d _ _ e.1 r1, reads_plains ds _ _ e.2 r2]; rfl
end
end Pf


namespace Pf
open PySem PySem.Spec PyProof.Rows L2
section
variable {P : Program} {w : World} {K : PySem.W.Frag} {mg : Str → Option Value} {base : Heap}
abbrev s_law : Stmt := topS 56
theorem sc_law : FnScope ["_law_script", "_law_pen", "_law_odd", "_law_book", "_law_wish_so", "_law_kept", "_law_only", "_law_is_there", "_law_found", "_law_again"] ["_law_script"] (defScope s_law) :=
  ⟨rfl, rfl, rfl, by decide +kernel, rfl, by decide +kernel, by decide +kernel⟩
def spLaw (K : PySem.W.Frag) : Sp := fun vs H Q _ => ∃ (a : Addr) (ns : List Int), vs = [.ref a] ∧ SqL K H a (ns.map V.int) ∧ ns.length ≤ 63 ∧ ∀ H', Q (.bl true) H'
theorem ok_law {f : Addr} {fd : FuncData} (F : Fun K "law" "law" s_law f fd) (room : Room 18 callerA) (c_law_case : CCase P w K mg base) (c_law_due : CDue P w K mg base) (c_law_is_paper : CPap P w K mg base) (cagainstN : CaN P w K mg base 7 "against" ["rules", "wish", "alone"] 2 ["alone"] (permW [0, 1, 2] []) spAg) (cagainstE : CaE P w K mg base 7 "against" ["rules", "wish", "alone"] [.bl false] spAg) (cagainstK : CaK P w K mg base 7 "against" ["rules", "wish", "alone"] ["wish", "rules", "alone"] (permW [1, 0, 2] []) spAg)
    (mlist : mg "list" = none) (mrepr : mg "repr" = none) : FnG P w K mg base f fd ["_law_script"] (spLaw K) := by
  refine FnG.of (k := 17) F sc_law room (fun vs H Q E h => ?_) (fun cdv s H vs Q E hr hG h => ?_)
  · obtain ⟨a, ns, rfl, _⟩ := h
    rfl
  · obtain ⟨a0, ns, rfl, hS, hns, q⟩ := h
    refine ⟨_, (pss_cons (ps_set (i := 1) sc_law.nd rfl (.inl rfl) (pe_lst (pa_cons (pe_callTy (listOf K) (by rfl) mlist (by decide +kernel) (pa_cons (pe_slice (slL K) (pv 0) po_none (po_some pe_int)) pa_nil)) (pa_cons pe_int (pa_cons pe_int pa_nil)))))
      (pss_cons (ps_set (i := 2) sc_law.nd rfl (.inl rfl) (pe_lst (pa_cons (pe_revL (pe_callTy (listOf K) (by rfl) mlist (by decide +kernel) (pa_cons (pe_slice (slL K) (pv 0) po_none (po_some pe_int)) pa_nil))) (pa_cons pe_int (pa_cons pe_int pa_nil)))))
      (pss_cons (ps_asg (pe_ca c_law_case (hr.mono (by decide)) (by rfl) (pa_cons (pv 1) (pa_cons (pv 2) pa_nil))) (pg_tup rfl (pgs_cons (pg_name (i := 3) sc_law.nd rfl (.inl rfl)) (pgs_cons (pg_name (i := 4) sc_law.nd rfl (.inl rfl)) pgs_nil))))
      (pss_cons (ps_set (i := 5) sc_law.nd rfl (.inl rfl) (pe_callB (call_show K hG hr.units) (by rfl) mrepr (by decide +kernel) (pa_cons (pv 3) pa_nil)))
      (pss_cons (ps_for PassesOwn.never rfl (pi_tup (pe_tup (pa_cons pe_bl (pa_cons pe_bl pa_nil)))) (pg_name (i := 6) sc_law.nd rfl (.inl rfl)) (pss_cons (ps_set (i := 7) sc_law.nd rfl (.inl rfl) (pe_cmpR op_notN (pe_ca c_law_due (hr.mono (by decide)) (by rfl) (pa_cons (pv 3) (pa_cons (pv 4) (pa_cons (pv 6) pa_nil)))) pe_non (nomark _)))
      (pss_cons (ps_set (i := 8) sc_law.nd rfl (.inl rfl) (pe_caN cagainstN (hr.mono (by decide)) (by rfl) (pa_cons (pv 3) (pa_cons (pv 4) pa_nil)) (pk_cons (pv 6) pk_nil)))
      (pss_cons (ps_if (PW.pt (pw_or (pt_cmpR op_ne (pv 7) (pe_cmpR op_isN (pv 8) pe_non (nomark _)) (nomark _)) (pw_or1 (PW.pt (pw_and (pt_not (pt_val (pv 7))) (pw_and1 (pt_not (pt_val (pe_caG c_law_is_paper hG (hr.mono (by decide)) (by rfl) (pa_cons (pv 3) (pa_cons (pv 4) (pa_cons (pv 8) (pa_cons (pv 6) pa_nil))))))))))))) (pss_one (ps_ret pe_bl)) pss_nil)
      (pss_cons (ps_if (pt_cmpR op_notN (pv 8) pe_non (nomark _)) (pss_cons (ps_expr (pe_bm0 PySem.F.plainAttrs_list PySem.F.slot_list_reverse PySem.F.type_list_reverse mt_reverse (pv 8)))
      (pss_one (ps_expr (pe_bm PySem.F.plainAttrs_list PySem.F.slot_list_append PySem.F.type_list_append mt_append (pv 8) (pa_cons pe_non pa_nil))))) pss_nil)
      (pss_cons (ps_set (i := 9) sc_law.nd rfl (.inl rfl) (pe_caK cagainstK (hr.mono (by decide)) (by rfl) (pk_cons (pv 4) (pk_cons (pv 3) (pk_cons (pv 6) pk_nil)))))
      (pss_cons (ps_if (PW.pt (pw_or (pt_cmpR op_ne (pv 7) (pe_cmpR op_isN (pv 9) pe_non (nomark _)) (nomark _)) (pw_or1 (PW.pt (pw_and (pt_not (pt_val (pv 7))) (pw_and1 (pt_not (pt_val (pe_caG c_law_is_paper hG (hr.mono (by decide)) (by rfl) (pa_cons (pv 3) (pa_cons (pv 4) (pa_cons (pv 9) (pa_cons (pv 6) pa_nil))))))))))))) (pss_one (ps_ret pe_bl)) pss_nil)
      (pss_one (ps_if (PW.pt (pw_and (pt_not (pt_val (pv 6))) (pw_and1 (pt_cmpR op_ne (pe_callB (call_show K hG hr.units) (by rfl) mrepr (by decide +kernel) (pa_cons (pe_caE cagainstE (hr.mono (by decide)) (by rfl) (pa_cons (pv 3) (pa_cons (pv 4) pa_nil))) pa_nil)) (pe_callB (call_show K hG hr.units) (by rfl) mrepr (by decide +kernel) (pa_cons (pv 9) pa_nil)) (nomark _))))) (pss_one (ps_ret pe_bl)) pss_nil)))))))))
      (pss_one (ps_ret (pe_cmpR op_eq (pe_callB (call_show K hG hr.units) (by rfl) mrepr (by decide +kernel) (pa_cons (pv 3) pa_nil)) (pv 5) (nomark _))))))))), ?_⟩
    obtain ⟨cs, hcs, hcl⟩ := cut_ints ns none (some 63)
    refine ⟨.ref a0, rfl, 63, rfl, a0, _, rfl, hS, fun s1 hs1 => ⟨s1, _, rfl, .inl (SqL.of upd_same), fun c hc => ⟨szL (show 3 ≤ 1000000 by decide), fun p hp => ?_⟩⟩⟩
    have x1 := ((Ext.new (o := .lst (cutV (ns.map V.int) none (some 63))) hs1).trans (Ext.new (o := .lst (cutV (ns.map V.int) none (some 63))) hc)).trans (Ext.new (o := .lst [.ref c, .int 0, .int 0]) hp)
    have ncp : c ≠ p := fun e => by
      rw [e] at hp
      rw [← e, upd_same] at hp
      cases hp
    have hP1 : Pen (upd (upd (upd H s1 (.lst (cutV (ns.map V.int) none (some 63)))) c (.lst (cutV (ns.map V.int) none (some 63)))) p (.lst [.ref c, .int 0, .int 0])) p c 0 :=
      ⟨cs, 0, 0, upd_same, by rw [upd_ne ncp, upd_same, hcs], by decide, by decide, by decide, by omega⟩
    have hS1 := sqL_ext x1 hS
    generalize upd (upd (upd H s1 (.lst (cutV (ns.map V.int) none (some 63)))) c (.lst (cutV (ns.map V.int) none (some 63)))) p (.lst [.ref c, .int 0, .int 0]) = H1 at hP1 hS1 ⊢
    clear hs1 hc hp x1 ncp
    -- the second pen
    refine ⟨.ref a0, rfl, 63, rfl, a0, _, rfl, hS1, fun s2 hs2 => ⟨s2, _, rfl, .inl (SqL.of upd_same), fun c3 hc3 => ⟨c3, _, rfl, SqL.of upd_same, fun c2 hc2 => ⟨szL (show 3 ≤ 1000000 by decide), fun p2 hp2 => ?_⟩⟩⟩⟩
    have x2 := (((Ext.new (o := .lst (cutV (ns.map V.int) none (some 63))) hs2).trans (Ext.new (o := .lst (cutV (ns.map V.int) none (some 63))) hc3)).trans (Ext.new (o := .lst (cutV (ns.map V.int) none (some 63)).reverse) hc2)).trans (Ext.new (o := .lst [.ref c2, .int 7, .int 0]) hp2)
    have nc2 : c2 ≠ p2 := fun e => by
      rw [e] at hp2
      rw [← e, upd_same] at hp2
      cases hp2
    have hP1' := hP1
    obtain ⟨cells, ca, cr, hp1, hc1, _⟩ := hP1'
    have b1 := ((Ext.new (o := .lst (cutV (ns.map V.int) none (some 63))) hs2).trans (Ext.new (o := .lst (cutV (ns.map V.int) none (some 63))) hc3))
    have b2 := b1.trans (Ext.new (o := .lst (cutV (ns.map V.int) none (some 63)).reverse) hc2)
    have n1 : p ≠ p2 := ne_of_none (b2 _ _ hp1) hp2
    have n3 : c ≠ p2 := ne_of_none (b2 _ _ hc1) hp2
    have n4 : p ≠ c2 := ne_of_none (b1 _ _ hp1) hc2
    have hQ : Pen (upd (upd (upd (upd H1 s2 (.lst (cutV (ns.map V.int) none (some 63)))) c3 (.lst (cutV (ns.map V.int) none (some 63)))) c2 (.lst (cutV (ns.map V.int) none (some 63)).reverse)) p2 (.lst [.ref c2, .int 7, .int 0])) p2 c2 7 :=
      ⟨cs.reverse, 7, 0, upd_same, by rw [upd_ne nc2, upd_same, hcs, List.map_reverse], by decide, by decide, by decide, by rw [List.length_reverse]; omega⟩
    have hP2 := hP1.ext x2
    generalize upd (upd (upd (upd H1 s2 (.lst (cutV (ns.map V.int) none (some 63)))) c3 (.lst (cutV (ns.map V.int) none (some 63)))) c2 (.lst (cutV (ns.map V.int) none (some 63)).reverse)) p2 (.lst [.ref c2, .int 7, .int 0]) = H2 at hP2 hQ ⊢
    clear hs2 hc3 hc2 hp2 x2 nc2 hp1 hc1 b1 b2 hS1 hP1 hS
    refine ⟨_, rfl, _, rfl, p, c, p2, c2, 0, 7, rfl, hP2, hQ, n1, n3, n4, by decide, by decide, fun t v r x H3 ht hR ok hofp hlet hx1 hx6 hpwS hxb k3 hP3 hQ3 => ?_⟩
    clear hP2 hQ hP3 hQ3 k3
    have hpw : r.letters.length ^ x.length ≤ 10000 := by omega
    refine ⟨t, _, rfl, SqT.of ht, rfl, _, _, rfl, _, _, rfl, rfl, ?_⟩
    refine ⟨_, rfl, _, _, _, _, rfl, dp_rules hR, sm_rules ok, by decide, by decide, ?_⟩
    obtain ⟨ps, hrun⟩ := run_bst x.cps.toList 0 [] hxb
    have hch := bst_chars x.cps.toList 0 (by rw [hxb]; exact fun z => by cases z)
    generalize hT : (dRl r).shown = T
    refine ⟨szL (show 2 ≤ 1000000 by decide), fun tt htt => ⟨tt, rfl, ⟨_, SqT.of upd_same⟩, for_tup (xs := [V.bl true, .bl false]) (fun i σ H5 => ∃ (y6 y7 y8 y9 : Option V), σ = [some (.ref a0), some (.ref p), some (.ref p2), some v, some (.str x), some (.str T), y6, y7, y8, y9] ∧ Ext (upd H3 tt (.tup [V.bl true, .bl false])) H5)
      ⟨none, none, none, none, rfl, Ext.refl⟩ (fun i σ H5 _ ⟨_, _, _, _, _, k⟩ => SqT.of (k _ _ upd_same)) (fun i u σ H5 hi hv => ?_) (fun σ H5 hv => ?_)⟩⟩
    · obtain ⟨y6, y7, y8, y9, rfl, k5⟩ := hv
      obtain ⟨b, rfl⟩ : ∃ b, u = V.bl b := by
        match i, hi with
        | 0, hi => exact ⟨_, (Option.some.inj hi).symm⟩
        | 1, hi => exact ⟨_, (Option.some.inj hi).symm⟩
        | i + 2, hi => cases hi
      have k35 := (Ext.new (o := .tup [V.bl true, .bl false]) htt).trans k5
      have hR5 := RulesAt.mono _ _ _ _ (TupK.ext k35) hR
      -- whether one is due
      refine ⟨_, rfl, _, rfl, _, rfl, v, r, x, ps, b, rfl, hR5, ok, by omega, hrun, hch, hpw, fun H6 k6 => ⟨rfl, ?_⟩⟩
      have hR6 := RulesAt.mono _ _ _ _ (TupK.ext k6) hR5
      have k56 := k5.trans k6
      have hthere : (!decide (wsV r (srt ps) b x.length = V.non)) = anyW r (srt ps) b x.length := by
        unfold wsV anyW
        cases e : (stS r.letters.cps.toList x.length).find? fun s => fsB r s (srt ps) b with
        | none =>
          have h := List.find?_eq_none.mp e
          rw [List.any_eq_false.mpr h]
          rfl
        | some s =>
          rw [List.any_eq_true.mpr ⟨s, List.mem_of_find?_eq_some e, List.find?_some e⟩]
          rfl
      rw [hthere]
      cases hany : anyW r (srt ps) b x.length with
      | true =>
        have nof : anyW r (srt ps) b x.length ≠ false := by rw [hany]; exact fun z => by cases z
        refine ⟨_, rfl, _, rfl, _, rfl, rfl, rfl, v, r, x, ps, b, rfl, hR6.w, ok, by omega, hrun, hpw, fun _ H7 k7 => ?_, fun h => absurd h nof⟩
        have hR7 := RulesAt.mono _ _ _ _ (TupK.ext k7) hR6
        refine ⟨_, rfl, _, rfl, rfl, rfl, _, rfl, iteNS rfl ⟨_, rfl, _, rfl, iteF (iteF ?_)⟩⟩
        refine ⟨_, rfl, rfl, _, rfl, iteNS rfl ?_⟩
        refine ⟨_, rfl, _, rfl, _, rfl, rfl, rfl, v, r, x, ps, b, rfl, hR7.w, ok, by omega, hrun, hpw, fun _ H8 k8 => ?_, fun h => absurd h nof⟩
        have hR8 := RulesAt.mono _ _ _ _ (TupK.ext k8) hR7
        have k58 := (k56.trans k7).trans k8
        refine ⟨_, rfl, _, rfl, rfl, rfl, _, rfl, iteNS rfl ⟨_, rfl, _, rfl, iteF (iteF ?_)⟩⟩
        cases b with
        | true => exact ⟨_, rfl, _, rfl, iteF (iteF ⟨_, _, _, _, rfl, k58⟩)⟩
        | false =>
          refine ⟨_, rfl, _, rfl, iteT ?_⟩
          refine ⟨_, rfl, _, rfl, v, r, x, ps, false, rfl, hR8.w, ok, by omega, hrun, hpw, fun _ H9 k9 => ?_, fun h => absurd h nof⟩
          refine ⟨_, _, _, _, rfl, .non, Sm.non, by decide, by decide, ?_⟩
          refine ⟨_, rfl, _, _, _, _, rfl, .non, Sm.non, by decide, by decide, ?_⟩
          exact ⟨rfl, _, rfl, iteNS rfl ⟨_, _, _, _, rfl, k58.trans k9⟩⟩
      | false =>
        have not' : anyW r (srt ps) b x.length ≠ true := by rw [hany]; exact fun z => by cases z
        have sml : Sm 1000000 4 (.list (((stS r.letters.cps.toList x.length).map (rowW r (srt ps) b)).map dRowP)) := sm_paper ok (by omega) hpwS
        refine ⟨_, rfl, _, rfl, _, rfl, rfl, rfl, v, r, x, ps, b, rfl, hR6.w, ok, by omega, hrun, hpw, fun h => absurd h not', fun _ l us H7 hl hL hP k7 => ?_⟩
        have hR7 := RulesAt.mono _ _ _ _ (TupK.ext k7) hR6
        refine ⟨_, rfl, _, rfl, rfl, rfl, _, rfl, iteNS rfl ⟨_, rfl, _, rfl, iteT ?_⟩⟩
        refine ⟨_, rfl, _, rfl, _, rfl, _, rfl, v, l, us, r, x, ps, b, rfl, hR7, ok, by omega, hrun, hch, hpw, hL, hP, hany, fun H8 k8 => ⟨_, rfl, iteF ?_⟩⟩
        have hsl : (stS r.letters.cps.toList x.length).length ≤ 100 := by
          rw [stS_len, Array.length_toList]
          exact hpwS
        have hul : us.length ≤ 100 := by
          have := paired_len hP
          rw [List.length_map] at this
          omega
        have hL8 := k8 _ _ hL
        refine ⟨_, rfl, rfl, _, rfl, iteT ?_⟩
        refine ⟨_, rfl, .inl ⟨rfl, _, SqL.of hL8⟩, l, us, rfl, rfl, hL8, ?_⟩
        refine ⟨_, rfl, .inl ⟨rfl, _, SqL.of upd_same⟩, l, us.reverse, .non, rfl, rfl, upd_same, szLt (by rw [List.length_reverse]; omega), ?_⟩
        have k69 := ((k7.trans k8).put (o := .lst us.reverse) hl).put (o := .lst (us.reverse ++ [V.non])) hl
        generalize upd (upd H8 l (.lst us.reverse)) l (.lst (us.reverse ++ [V.non])) = H9 at k69 ⊢
        have hR9 := RulesAt.mono _ _ _ _ (TupK.ext k69) hR6
        -- by names
        refine ⟨_, rfl, _, rfl, _, rfl, rfl, rfl, v, r, x, ps, b, rfl, hR9.w, ok, by omega, hrun, hpw, fun h => absurd h not', fun _ l2 us2 H10 hl2 hL2 hP2 k10 => ?_⟩
        have hR10 := RulesAt.mono _ _ _ _ (TupK.ext k10) hR9
        refine ⟨_, rfl, _, rfl, rfl, rfl, _, rfl, iteNS rfl ⟨_, rfl, _, rfl, iteT ?_⟩⟩
        refine ⟨_, rfl, _, rfl, _, rfl, _, rfl, v, l2, us2, r, x, ps, b, rfl, hR10, ok, by omega, hrun, hch, hpw, hL2, hP2, hany, fun H11 k11 => ⟨_, rfl, iteF ?_⟩⟩
        have hR11 := RulesAt.mono _ _ _ _ (TupK.ext k11) hR10
        have k511 := ((k56.trans k69).trans k10).trans k11
        cases b with
        | true => exact ⟨_, rfl, _, rfl, iteF (iteF ⟨_, _, _, _, rfl, k511⟩)⟩
        | false =>
          refine ⟨_, rfl, _, rfl, iteT ?_⟩
          refine ⟨_, rfl, _, rfl, v, r, x, ps, false, rfl, hR11.w, ok, by omega, hrun, hpw, fun h => absurd h not', fun _ l3 us3 H12 hl3 hL3 hP3 k12 => ?_⟩
          refine ⟨_, _, _, _, rfl, .lst (SqL.of hL3) (dpRows hP3), sml, by decide, by decide, ?_⟩
          have k1012 := k11.trans k12
          refine ⟨_, rfl, _, _, _, _, rfl, .lst (SqL.of (k1012 _ _ hL2)) (dpRows (paired_imp (fun _ _ => RowP.mono _ _ _ _ (TupK.ext k1012)) hP2)), sml, by decide, by decide, ?_⟩
          exact ⟨rfl, _, rfl, iteNS rfl ⟨_, _, _, _, rfl, k511.trans k12⟩⟩
    · obtain ⟨y6, y7, y8, y9, rfl, k5⟩ := hv
      have k35 := (Ext.new (o := .tup [V.bl true, .bl false]) htt).trans k5
      refine ⟨_, rfl, _, _, _, _, rfl, dp_rules (RulesAt.mono _ _ _ _ (TupK.ext k35) hR), sm_rules ok, by decide, by decide, ?_⟩
      rw [hT]
      refine ⟨_, rfl, rfl, ?_⟩
      rw [decide_eq_true rfl]
      exact q _
end
end Pf


namespace Pf
open PySem PySem.Spec PyProof.Rows L2
/-! ### what the top has written; the law's own head -/
theorem all_mk {l : PySem.W.OpenLaw} {w : World} {K : PySem.W.Frag} {h : Heap} {mg : Str → Option Value} {fa f0 f1 f2 f3 f4 f5 f6 f7 f8 f9 f10 f11 f12 f13 f14 f15 f16 f17 f18 f19 f20 f21 f22 f23 f24 f25 f26 f27 f28 f29 f30 f31 f32 f33 f34 f35 f36 f37 f38 f39 f40 f41 f42 f43 f44 : Addr} (X : K.In h) (G : h.Ns mainGlobals mg) (hfa : mg "law" = some (.ref fa))
    {od0 an0 od1 an1 od2 an2 od3 an3 od4 an4 od5 an5 od6 an6 od7 an7 od8 an8 od9 an9 od10 an10 od11 an11 od12 an12 od13 an13 od14 an14 od15 an15 od16 an16 od17 an17 od18 an18 od19 an19 od20 an20 od21 an21 od22 an22 od23 an23 od24 an24 od25 an25 od26 an26 od27 an27 od28 an28 od29 an29 od30 an30 od31 an31 od32 an32 od33 an33 od34 an34 od35 an35 od36 an36 od37 an37 od38 an38 od39 an39 od40 an40 od41 an41 od42 an42 od43 an43 od44 an44 : Option Addr} {sl0 sl1 sl2 sl3 sl4 sl5 sl6 sl7 sl8 sl9 sl10 sl11 sl12 sl13 sl14 sl15 sl16 sl17 sl18 sl19 sl20 sl21 sl22 sl23 sl24 sl25 sl26 sl27 sl28 sl29 sl30 sl31 sl32 sl33 sl34 sl35 sl36 sl37 sl38 sl39 sl40 sl41 sl42 sl43 sl44 : Array (Option Value)} {oc0 kV0 dc0 pm0 cd0 ct0 oc1 kV1 dc1 pm1 cd1 ct1 oc2 kV2 dc2 pm2 cd2 ct2 oc3 kV3 dc3 pm3 cd3 ct3 oc4 kV4 dc4 pm4 cd4 ct4 oc5 kV5 dc5 pm5 cd5 ct5 oc6 kV6 dc6 pm6 cd6 ct6 oc7 kV7 dc7 pm7 cd7 ct7 oc8 kV8 dc8 pm8 cd8 ct8 oc9 kV9 dc9 pm9 cd9 ct9 oc10 kV10 dc10 pm10 cd10 ct10 oc11 kV11 dc11 pm11 cd11 ct11 oc12 kV12 dc12 pm12 cd12 ct12 oc13 kV13 dc13 pm13 cd13 ct13 oc14 kV14 dc14 pm14 cd14 ct14 oc15 kV15 dc15 pm15 cd15 ct15 oc16 kV16 dc16 pm16 cd16 ct16 oc17 kV17 dc17 pm17 cd17 ct17 oc18 kV18 dc18 pm18 cd18 ct18 oc19 kV19 dc19 pm19 cd19 ct19 oc20 kV20 dc20 pm20 cd20 ct20 oc21 kV21 dc21 pm21 cd21 ct21 oc22 kV22 dc22 pm22 cd22 ct22 oc23 kV23 dc23 pm23 cd23 ct23 oc24 kV24 dc24 pm24 cd24 ct24 oc25 kV25 dc25 pm25 cd25 ct25 oc26 kV26 dc26 pm26 cd26 ct26 oc27 kV27 dc27 pm27 cd27 ct27 oc28 kV28 dc28 pm28 cd28 ct28 oc29 kV29 dc29 pm29 cd29 ct29 oc30 kV30 dc30 pm30 cd30 ct30 oc31 kV31 dc31 pm31 cd31 ct31 oc32 kV32 dc32 pm32 cd32 ct32 oc33 kV33 dc33 pm33 cd33 ct33 oc34 dc34 pm34 cd34 ct34 oc35 kV35 dc35 pm35 cd35 ct35 oc36 kV36 dc36 pm36 cd36 ct36 oc37 kV37 dc37 pm37 cd37 ct37 oc38 kV38 dc38 pm38 cd38 ct38 oc39 kV39 dc39 pm39 cd39 ct39 oc40 kV40 dc40 pm40 cd40 ct40 oc41 kV41 dc41 pm41 cd41 ct41 oc42 kV42 dc42 pm42 cd42 ct42 oc43 kV43 dc43 pm43 cd43 ct43 oc44 kV44 dc44 pm44 cd44 ct44 : Value} {D34 : Addr} {aL : Addr} {odG : Option Addr} {slG : Array (Option Value)} {nG : Nat} {tG0 tG1 tG2 tG3 tG4 tG5 tG6 tG7 tG8 : Tok} {tI0 : Tok} 
    (a0 : PySem.W.nsIn K mainGlobals "_law_draw" = some (some (.ref f0))) (l0 : K.lookup f0 = some ⟨oc0, od0, .func (PySem.W.fnOf "_law_draw" "_law_draw" (defArgs s_law_draw) (defBody s_law_draw) (defScope s_law_draw) .none kV0 dc0 pm0 an0 cd0 ct0), sl0⟩) (c0 : PySem.W.codeIn K cd0 "_law_draw" = true) (k0 : PySem.W.keepIn K (.ref f0) = true)
    (a1 : PySem.W.nsIn K mainGlobals "_law_worth" = some (some (.ref f1))) (l1 : K.lookup f1 = some ⟨oc1, od1, .func (PySem.W.fnOf "_law_worth" "_law_worth" (defArgs s_law_worth) (defBody s_law_worth) (defScope s_law_worth) .none kV1 dc1 pm1 an1 cd1 ct1), sl1⟩) (c1 : PySem.W.codeIn K cd1 "_law_worth" = true) (k1 : PySem.W.keepIn K (.ref f1) = true)
    (a2 : PySem.W.nsIn K mainGlobals "_law_letters" = some (some (.ref f2))) (l2 : K.lookup f2 = some ⟨oc2, od2, .func (PySem.W.fnOf "_law_letters" "_law_letters" (defArgs s_law_letters) (defBody s_law_letters) (defScope s_law_letters) .none kV2 dc2 pm2 an2 cd2 ct2), sl2⟩) (c2 : PySem.W.codeIn K cd2 "_law_letters" = true) (k2 : PySem.W.keepIn K (.ref f2) = true)
    (a3 : PySem.W.nsIn K mainGlobals "_law_rules" = some (some (.ref f3))) (l3 : K.lookup f3 = some ⟨oc3, od3, .func (PySem.W.fnOf "_law_rules" "_law_rules" (defArgs s_law_rules) (defBody s_law_rules) (defScope s_law_rules) .none kV3 dc3 pm3 an3 cd3 ct3), sl3⟩) (c3 : PySem.W.codeIn K cd3 "_law_rules" = true) (k3 : PySem.W.keepIn K (.ref f3) = true)
    (a4 : PySem.W.nsIn K mainGlobals "_law_may" = some (some (.ref f4))) (l4 : K.lookup f4 = some ⟨oc4, od4, .func (PySem.W.fnOf "_law_may" "_law_may" (defArgs s_law_may) (defBody s_law_may) (defScope s_law_may) .none kV4 dc4 pm4 an4 cd4 ct4), sl4⟩) (c4 : PySem.W.codeIn K cd4 "_law_may" = true) (k4 : PySem.W.keepIn K (.ref f4) = true)
    (a5 : PySem.W.nsIn K mainGlobals "_law_all" = some (some (.ref f5))) (l5 : K.lookup f5 = some ⟨oc5, od5, .func (PySem.W.fnOf "_law_all" "_law_all" (defArgs s_law_all) (defBody s_law_all) (defScope s_law_all) .none kV5 dc5 pm5 an5 cd5 ct5), sl5⟩) (c5 : PySem.W.codeIn K cd5 "_law_all" = true) (k5 : PySem.W.keepIn K (.ref f5) = true)
    (a6 : PySem.W.nsIn K mainGlobals "_law_within" = some (some (.ref f6))) (l6 : K.lookup f6 = some ⟨oc6, od6, .func (PySem.W.fnOf "_law_within" "_law_within" (defArgs s_law_within) (defBody s_law_within) (defScope s_law_within) .none kV6 dc6 pm6 an6 cd6 ct6), sl6⟩) (c6 : PySem.W.codeIn K cd6 "_law_within" = true) (k6 : PySem.W.keepIn K (.ref f6) = true)
    (a7 : PySem.W.nsIn K mainGlobals "_law_loop" = some (some (.ref f7))) (l7 : K.lookup f7 = some ⟨oc7, od7, .func (PySem.W.fnOf "_law_loop" "_law_loop" (defArgs s_law_loop) (defBody s_law_loop) (defScope s_law_loop) .none kV7 dc7 pm7 an7 cd7 ct7), sl7⟩) (c7 : PySem.W.codeIn K cd7 "_law_loop" = true) (k7 : PySem.W.keepIn K (.ref f7) = true)
    (a8 : PySem.W.nsIn K mainGlobals "_law_cost" = some (some (.ref f8))) (l8 : K.lookup f8 = some ⟨oc8, od8, .func (PySem.W.fnOf "_law_cost" "_law_cost" (defArgs s_law_cost) (defBody s_law_cost) (defScope s_law_cost) .none kV8 dc8 pm8 an8 cd8 ct8), sl8⟩) (c8 : PySem.W.codeIn K cd8 "_law_cost" = true) (k8 : PySem.W.keepIn K (.ref f8) = true)
    (a9 : PySem.W.nsIn K mainGlobals "_law_stands" = some (some (.ref f9))) (l9 : K.lookup f9 = some ⟨oc9, od9, .func (PySem.W.fnOf "_law_stands" "_law_stands" (defArgs s_law_stands) (defBody s_law_stands) (defScope s_law_stands) .none kV9 dc9 pm9 an9 cd9 ct9), sl9⟩) (c9 : PySem.W.codeIn K cd9 "_law_stands" = true) (k9 : PySem.W.keepIn K (.ref f9) = true)
    (a10 : PySem.W.nsIn K mainGlobals "pair_worth" = some (some (.ref f10))) (l10 : K.lookup f10 = some ⟨oc10, od10, .func (PySem.W.fnOf "pair_worth" "pair_worth" (defArgs s_pair_worth) (defBody s_pair_worth) (defScope s_pair_worth) .none kV10 dc10 pm10 an10 cd10 ct10), sl10⟩) (c10 : PySem.W.codeIn K cd10 "pair_worth" = true) (k10 : PySem.W.keepIn K (.ref f10) = true)
    (a11 : PySem.W.nsIn K mainGlobals "text_of" = some (some (.ref f11))) (l11 : K.lookup f11 = some ⟨oc11, od11, .func (PySem.W.fnOf "text_of" "text_of" (defArgs s_text_of) (defBody s_text_of) (defScope s_text_of) .none kV11 dc11 pm11 an11 cd11 ct11), sl11⟩) (c11 : PySem.W.codeIn K cd11 "text_of" = true) (k11 : PySem.W.keepIn K (.ref f11) = true)
    (a12 : PySem.W.nsIn K mainGlobals "may_pair" = some (some (.ref f12))) (l12 : K.lookup f12 = some ⟨oc12, od12, .func (PySem.W.fnOf "may_pair" "may_pair" (defArgs s_may_pair) (defBody s_may_pair) (defScope s_may_pair) .none kV12 dc12 pm12 an12 cd12 ct12), sl12⟩) (c12 : PySem.W.codeIn K cd12 "may_pair" = true) (k12 : PySem.W.keepIn K (.ref f12) = true)
    (a13 : PySem.W.nsIn K mainGlobals "is_string" = some (some (.ref f13))) (l13 : K.lookup f13 = some ⟨oc13, od13, .func (PySem.W.fnOf "is_string" "is_string" (defArgs s_is_string) (defBody s_is_string) (defScope s_is_string) .none kV13 dc13 pm13 an13 cd13 ct13), sl13⟩) (c13 : PySem.W.codeIn K cd13 "is_string" = true) (k13 : PySem.W.keepIn K (.ref f13) = true)
    (a14 : PySem.W.nsIn K mainGlobals "need_string" = some (some (.ref f14))) (l14 : K.lookup f14 = some ⟨oc14, od14, .func (PySem.W.fnOf "need_string" "need_string" (defArgs s_need_string) (defBody s_need_string) (defScope s_need_string) .none kV14 dc14 pm14 an14 cd14 ct14), sl14⟩) (c14 : PySem.W.codeIn K cd14 "need_string" = true) (k14 : PySem.W.keepIn K (.ref f14) = true)
    (a15 : PySem.W.nsIn K mainGlobals "stretch_foldings" = some (some (.ref f15))) (l15 : K.lookup f15 = some ⟨oc15, od15, .func (PySem.W.fnOf "stretch_foldings" "stretch_foldings" (defArgs s_stretch_foldings) (defBody s_stretch_foldings) (defScope s_stretch_foldings) .none kV15 dc15 pm15 an15 cd15 ct15), sl15⟩) (c15 : PySem.W.codeIn K cd15 "stretch_foldings" = true) (k15 : PySem.W.keepIn K (.ref f15) = true)
    (a16 : PySem.W.nsIn K mainGlobals "all_foldings" = some (some (.ref f16))) (l16 : K.lookup f16 = some ⟨oc16, od16, .func (PySem.W.fnOf "all_foldings" "all_foldings" (defArgs s_all_foldings) (defBody s_all_foldings) (defScope s_all_foldings) .none kV16 dc16 pm16 an16 cd16 ct16), sl16⟩) (c16 : PySem.W.codeIn K cd16 "all_foldings" = true) (k16 : PySem.W.keepIn K (.ref f16) = true)
    (a17 : PySem.W.nsIn K mainGlobals "stack_worth" = some (some (.ref f17))) (l17 : K.lookup f17 = some ⟨oc17, od17, .func (PySem.W.fnOf "stack_worth" "stack_worth" (defArgs s_stack_worth) (defBody s_stack_worth) (defScope s_stack_worth) .none kV17 dc17 pm17 an17 cd17 ct17), sl17⟩) (c17 : PySem.W.codeIn K cd17 "stack_worth" = true) (k17 : PySem.W.keepIn K (.ref f17) = true)
    (a18 : PySem.W.nsIn K mainGlobals "loop_worths" = some (some (.ref f18))) (l18 : K.lookup f18 = some ⟨oc18, od18, .func (PySem.W.fnOf "loop_worths" "loop_worths" (defArgs s_loop_worths) (defBody s_loop_worths) (defScope s_loop_worths) .none kV18 dc18 pm18 an18 cd18 ct18), sl18⟩) (c18 : PySem.W.codeIn K cd18 "loop_worths" = true) (k18 : PySem.W.keepIn K (.ref f18) = true)
    (a19 : PySem.W.nsIn K mainGlobals "kind_of" = some (some (.ref f19))) (l19 : K.lookup f19 = some ⟨oc19, od19, .func (PySem.W.fnOf "kind_of" "kind_of" (defArgs s_kind_of) (defBody s_kind_of) (defScope s_kind_of) .none kV19 dc19 pm19 an19 cd19 ct19), sl19⟩) (c19 : PySem.W.codeIn K cd19 "kind_of" = true) (k19 : PySem.W.keepIn K (.ref f19) = true)
    (a20 : PySem.W.nsIn K mainGlobals "loop_within" = some (some (.ref f20))) (l20 : K.lookup f20 = some ⟨oc20, od20, .func (PySem.W.fnOf "loop_within" "loop_within" (defArgs s_loop_within) (defBody s_loop_within) (defScope s_loop_within) .none kV20 dc20 pm20 an20 cd20 ct20), sl20⟩) (c20 : PySem.W.codeIn K cd20 "loop_within" = true) (k20 : PySem.W.keepIn K (.ref f20) = true)
    (a21 : PySem.W.nsIn K mainGlobals "straight_within" = some (some (.ref f21))) (l21 : K.lookup f21 = some ⟨oc21, od21, .func (PySem.W.fnOf "straight_within" "straight_within" (defArgs s_straight_within) (defBody s_straight_within) (defScope s_straight_within) .none kV21 dc21 pm21 an21 cd21 ct21), sl21⟩) (c21 : PySem.W.codeIn K cd21 "straight_within" = true) (k21 : PySem.W.keepIn K (.ref f21) = true)
    (a22 : PySem.W.nsIn K mainGlobals "loops_of" = some (some (.ref f22))) (l22 : K.lookup f22 = some ⟨oc22, od22, .func (PySem.W.fnOf "loops_of" "loops_of" (defArgs s_loops_of) (defBody s_loops_of) (defScope s_loops_of) .none kV22 dc22 pm22 an22 cd22 ct22), sl22⟩) (c22 : PySem.W.codeIn K cd22 "loops_of" = true) (k22 : PySem.W.keepIn K (.ref f22) = true)
    (a23 : PySem.W.nsIn K mainGlobals "worth_of" = some (some (.ref f23))) (l23 : K.lookup f23 = some ⟨oc23, od23, .func (PySem.W.fnOf "worth_of" "worth_of" (defArgs s_worth_of) (defBody s_worth_of) (defScope s_worth_of) .none kV23 dc23 pm23 an23 cd23 ct23), sl23⟩) (c23 : PySem.W.codeIn K cd23 "worth_of" = true) (k23 : PySem.W.keepIn K (.ref f23) = true)
    (a24 : PySem.W.nsIn K mainGlobals "is_whole" = some (some (.ref f24))) (l24 : K.lookup f24 = some ⟨oc24, od24, .func (PySem.W.fnOf "is_whole" "is_whole" (defArgs s_is_whole) (defBody s_is_whole) (defScope s_is_whole) .none kV24 dc24 pm24 an24 cd24 ct24), sl24⟩) (c24 : PySem.W.codeIn K cd24 "is_whole" = true) (k24 : PySem.W.keepIn K (.ref f24) = true)
    (a25 : PySem.W.nsIn K mainGlobals "is_row" = some (some (.ref f25))) (l25 : K.lookup f25 = some ⟨oc25, od25, .func (PySem.W.fnOf "is_row" "is_row" (defArgs s_is_row) (defBody s_is_row) (defScope s_is_row) .none kV25 dc25 pm25 an25 cd25 ct25), sl25⟩) (c25 : PySem.W.codeIn K cd25 "is_row" = true) (k25 : PySem.W.keepIn K (.ref f25) = true)
    (a26 : PySem.W.nsIn K mainGlobals "rises" = some (some (.ref f26))) (l26 : K.lookup f26 = some ⟨oc26, od26, .func (PySem.W.fnOf "rises" "rises" (defArgs s_rises) (defBody s_rises) (defScope s_rises) .none kV26 dc26 pm26 an26 cd26 ct26), sl26⟩) (c26 : PySem.W.codeIn K cd26 "rises" = true) (k26 : PySem.W.keepIn K (.ref f26) = true)
    (a27 : PySem.W.nsIn K mainGlobals "is_pair" = some (some (.ref f27))) (l27 : K.lookup f27 = some ⟨oc27, od27, .func (PySem.W.fnOf "is_pair" "is_pair" (defArgs s_is_pair) (defBody s_is_pair) (defScope s_is_pair) .none kV27 dc27 pm27 an27 cd27 ct27), sl27⟩) (c27 : PySem.W.codeIn K cd27 "is_pair" = true) (k27 : PySem.W.keepIn K (.ref f27) = true)
    (a28 : PySem.W.nsIn K mainGlobals "go_together" = some (some (.ref f28))) (l28 : K.lookup f28 = some ⟨oc28, od28, .func (PySem.W.fnOf "go_together" "go_together" (defArgs s_go_together) (defBody s_go_together) (defScope s_go_together) .none kV28 dc28 pm28 an28 cd28 ct28), sl28⟩) (c28 : PySem.W.codeIn K cd28 "go_together" = true) (k28 : PySem.W.keepIn K (.ref f28) = true)
    (a29 : PySem.W.nsIn K mainGlobals "is_folding" = some (some (.ref f29))) (l29 : K.lookup f29 = some ⟨oc29, od29, .func (PySem.W.fnOf "is_folding" "is_folding" (defArgs s_is_folding) (defBody s_is_folding) (defScope s_is_folding) .none kV29 dc29 pm29 an29 cd29 ct29), sl29⟩) (c29 : PySem.W.codeIn K cd29 "is_folding" = true) (k29 : PySem.W.keepIn K (.ref f29) = true)
    (a30 : PySem.W.nsIn K mainGlobals "pairs_in" = some (some (.ref f30))) (l30 : K.lookup f30 = some ⟨oc30, od30, .func (PySem.W.fnOf "pairs_in" "pairs_in" (defArgs s_pairs_in) (defBody s_pairs_in) (defScope s_pairs_in) .none kV30 dc30 pm30 an30 cd30 ct30), sl30⟩) (c30 : PySem.W.codeIn K cd30 "pairs_in" = true) (k30 : PySem.W.keepIn K (.ref f30) = true)
    (a31 : PySem.W.nsIn K mainGlobals "strings_of" = some (some (.ref f31))) (l31 : K.lookup f31 = some ⟨oc31, od31, .func (PySem.W.fnOf "strings_of" "strings_of" (defArgs s_strings_of) (defBody s_strings_of) (defScope s_strings_of) .none kV31 dc31 pm31 an31 cd31 ct31), sl31⟩) (c31 : PySem.W.codeIn K cd31 "strings_of" = true) (k31 : PySem.W.keepIn K (.ref f31) = true)
    (a32 : PySem.W.nsIn K mainGlobals "forbids" = some (some (.ref f32))) (l32 : K.lookup f32 = some ⟨oc32, od32, .func (PySem.W.fnOf "forbids" "forbids" (defArgs s_forbids) (defBody s_forbids) (defScope s_forbids) .none kV32 dc32 pm32 an32 cd32 ct32), sl32⟩) (c32 : PySem.W.codeIn K cd32 "forbids" = true) (k32 : PySem.W.keepIn K (.ref f32) = true)
    (a33 : PySem.W.nsIn K mainGlobals "all_forbidding" = some (some (.ref f33))) (l33 : K.lookup f33 = some ⟨oc33, od33, .func (PySem.W.fnOf "all_forbidding" "all_forbidding" (defArgs s_all_forbidding) (defBody s_all_forbidding) (defScope s_all_forbidding) .none kV33 dc33 pm33 an33 cd33 ct33), sl33⟩) (c33 : PySem.W.codeIn K cd33 "all_forbidding" = true) (k33 : PySem.W.keepIn K (.ref f33) = true)
    (a34 : PySem.W.nsIn K mainGlobals "against" = some (some (.ref f34))) (l34 : K.lookup f34 = some ⟨oc34, od34, .func (PySem.W.fnOf "against" "against" (defArgs s_against) (defBody s_against) (defScope s_against) .none (.ref D34) dc34 pm34 an34 cd34 ct34), sl34⟩) (c34 : PySem.W.codeIn K cd34 "against" = true) (k34 : PySem.W.keepIn K (.ref f34) = true) (q34_0 : PySem.W.nsIn K D34 "alone" = some (some (.bool false)))
    (a35 : PySem.W.nsIn K mainGlobals "_law_wish" = some (some (.ref f35))) (l35 : K.lookup f35 = some ⟨oc35, od35, .func (PySem.W.fnOf "_law_wish" "_law_wish" (defArgs s_law_wish) (defBody s_law_wish) (defScope s_law_wish) .none kV35 dc35 pm35 an35 cd35 ct35), sl35⟩) (c35 : PySem.W.codeIn K cd35 "_law_wish" = true) (k35 : PySem.W.keepIn K (.ref f35) = true)
    (a36 : PySem.W.nsIn K mainGlobals "_law_pairs_in" = some (some (.ref f36))) (l36 : K.lookup f36 = some ⟨oc36, od36, .func (PySem.W.fnOf "_law_pairs_in" "_law_pairs_in" (defArgs s_law_pairs_in) (defBody s_law_pairs_in) (defScope s_law_pairs_in) .none kV36 dc36 pm36 an36 cd36 ct36), sl36⟩) (c36 : PySem.W.codeIn K cd36 "_law_pairs_in" = true) (k36 : PySem.W.keepIn K (.ref f36) = true)
    (a37 : PySem.W.nsIn K mainGlobals "_law_strings" = some (some (.ref f37))) (l37 : K.lookup f37 = some ⟨oc37, od37, .func (PySem.W.fnOf "_law_strings" "_law_strings" (defArgs s_law_strings) (defBody s_law_strings) (defScope s_law_strings) .none kV37 dc37 pm37 an37 cd37 ct37), sl37⟩) (c37 : PySem.W.codeIn K cd37 "_law_strings" = true) (k37 : PySem.W.keepIn K (.ref f37) = true)
    (a38 : PySem.W.nsIn K mainGlobals "_law_case" = some (some (.ref f38))) (l38 : K.lookup f38 = some ⟨oc38, od38, .func (PySem.W.fnOf "_law_case" "_law_case" (defArgs s_law_case) (defBody s_law_case) (defScope s_law_case) .none kV38 dc38 pm38 an38 cd38 ct38), sl38⟩) (c38 : PySem.W.codeIn K cd38 "_law_case" = true) (k38 : PySem.W.keepIn K (.ref f38) = true)
    (a39 : PySem.W.nsIn K mainGlobals "_law_folds_so" = some (some (.ref f39))) (l39 : K.lookup f39 = some ⟨oc39, od39, .func (PySem.W.fnOf "_law_folds_so" "_law_folds_so" (defArgs s_law_folds_so) (defBody s_law_folds_so) (defScope s_law_folds_so) .none kV39 dc39 pm39 an39 cd39 ct39), sl39⟩) (c39 : PySem.W.codeIn K cd39 "_law_folds_so" = true) (k39 : PySem.W.keepIn K (.ref f39) = true)
    (a40 : PySem.W.nsIn K mainGlobals "_law_due" = some (some (.ref f40))) (l40 : K.lookup f40 = some ⟨oc40, od40, .func (PySem.W.fnOf "_law_due" "_law_due" (defArgs s_law_due) (defBody s_law_due) (defScope s_law_due) .none kV40 dc40 pm40 an40 cd40 ct40), sl40⟩) (c40 : PySem.W.codeIn K cd40 "_law_due" = true) (k40 : PySem.W.keepIn K (.ref f40) = true)
    (a41 : PySem.W.nsIn K mainGlobals "_law_is_pairs" = some (some (.ref f41))) (l41 : K.lookup f41 = some ⟨oc41, od41, .func (PySem.W.fnOf "_law_is_pairs" "_law_is_pairs" (defArgs s_law_is_pairs) (defBody s_law_is_pairs) (defScope s_law_is_pairs) .none kV41 dc41 pm41 an41 cd41 ct41), sl41⟩) (c41 : PySem.W.codeIn K cd41 "_law_is_pairs" = true) (k41 : PySem.W.keepIn K (.ref f41) = true)
    (a42 : PySem.W.nsIn K mainGlobals "_law_forbids" = some (some (.ref f42))) (l42 : K.lookup f42 = some ⟨oc42, od42, .func (PySem.W.fnOf "_law_forbids" "_law_forbids" (defArgs s_law_forbids) (defBody s_law_forbids) (defScope s_law_forbids) .none kV42 dc42 pm42 an42 cd42 ct42), sl42⟩) (c42 : PySem.W.codeIn K cd42 "_law_forbids" = true) (k42 : PySem.W.keepIn K (.ref f42) = true)
    (a43 : PySem.W.nsIn K mainGlobals "_law_is_paper" = some (some (.ref f43))) (l43 : K.lookup f43 = some ⟨oc43, od43, .func (PySem.W.fnOf "_law_is_paper" "_law_is_paper" (defArgs s_law_is_paper) (defBody s_law_is_paper) (defScope s_law_is_paper) .none kV43 dc43 pm43 an43 cd43 ct43), sl43⟩) (c43 : PySem.W.codeIn K cd43 "_law_is_paper" = true) (k43 : PySem.W.keepIn K (.ref f43) = true)
    (a44 : PySem.W.nsIn K mainGlobals "law" = some (some (.ref f44))) (l44 : K.lookup f44 = some ⟨oc44, od44, .func (PySem.W.fnOf "law" "law" (defArgs s_law) (defBody s_law) (defScope s_law) .none kV44 dc44 pm44 an44 cd44 ct44), sl44⟩) (c44 : PySem.W.codeIn K cd44 "law" = true) (k44 : PySem.W.keepIn K (.ref f44) = true)
    (z0 : PySem.W.nsIn K mainGlobals "list" = some none)
    (z1 : PySem.W.nsIn K mainGlobals "len" = some none)
    (z2 : PySem.W.nsIn K mainGlobals "abs" = some none)
    (z3 : PySem.W.nsIn K mainGlobals "int" = some none)
    (z4 : PySem.W.nsIn K mainGlobals "sum" = some none)
    (z5 : PySem.W.nsIn K mainGlobals "min" = some none)
    (z6 : PySem.W.nsIn K mainGlobals "range" = some none)
    (z7 : PySem.W.nsIn K mainGlobals "sorted" = some none)
    (z8 : PySem.W.nsIn K mainGlobals "tuple" = some none)
    (z9 : PySem.W.nsIn K mainGlobals "dict" = some none)
    (z10 : PySem.W.nsIn K mainGlobals "isinstance" = some none)
    (z11 : PySem.W.nsIn K mainGlobals "str" = some none)
    (z12 : PySem.W.nsIn K mainGlobals "all" = some none)
    (z13 : PySem.W.nsIn K mainGlobals "zip" = some none)
    (z14 : PySem.W.nsIn K mainGlobals "enumerate" = some none)
    (z15 : PySem.W.nsIn K mainGlobals "bool" = some none)
    (z16 : PySem.W.nsIn K mainGlobals "repr" = some none)
    (aG : PySem.W.nsIn K mainGlobals "LOOPS" = some (some (.ref aL))) (lG : K.lookup aL = some ⟨.type "tuple", odG, .seq #[.str "stacked" tG0, .str "inner" tG1, .str "inner free" tG2, .str "forked" tG3, .str "branch" tG4, .str "fork free" tG5, .str "lone" tG6, .str "lone free" tG7, .str "open" tG8] nG, slG⟩)
    (aI0 : PySem.W.nsIn K mainGlobals "MOST_PLACES" = some (some (.int 12 tI0))) :
    ∃ fd : FuncData, (∀ (s : Shared) (v : Value), BindsTo s fd ⟨[v], []⟩ [("_law_script", v)]) ∧ ∀ base : Heap, K.In base → base.Ns mainGlobals mg → FnG l.prog w K mg base fa fd ["_law_script"] (spLaw K) := by
  have e := hfa.symm.trans (PySem.W.mg_of X G a44)
  cases e
  have F0 := fun_mk (st := s_law_draw) l0 c0 k0
  have F1 := fun_mk (st := s_law_worth) l1 c1 k1
  have F2 := fun_mk (st := s_law_letters) l2 c2 k2
  have F3 := fun_mk (st := s_law_rules) l3 c3 k3
  have F4 := fun_mk (st := s_law_may) l4 c4 k4
  have F5 := fun_mk (st := s_law_all) l5 c5 k5
  have F6 := fun_mk (st := s_law_within) l6 c6 k6
  have F7 := fun_mk (st := s_law_loop) l7 c7 k7
  have F8 := fun_mk (st := s_law_cost) l8 c8 k8
  have F9 := fun_mk (st := s_law_stands) l9 c9 k9
  have F10 := fun_mk (st := s_pair_worth) l10 c10 k10
  have F11 := fun_mk (st := s_text_of) l11 c11 k11
  have F12 := fun_mk (st := s_may_pair) l12 c12 k12
  have F13 := fun_mk (st := s_is_string) l13 c13 k13
  have F14 := fun_mk (st := s_need_string) l14 c14 k14
  have F15 := fun_mk (st := s_stretch_foldings) l15 c15 k15
  have F16 := fun_mk (st := s_all_foldings) l16 c16 k16
  have F17 := fun_mk (st := s_stack_worth) l17 c17 k17
  have F18 := fun_mk (st := s_loop_worths) l18 c18 k18
  have F19 := fun_mk (st := s_kind_of) l19 c19 k19
  have F20 := fun_mk (st := s_loop_within) l20 c20 k20
  have F21 := fun_mk (st := s_straight_within) l21 c21 k21
  have F22 := fun_mk (st := s_loops_of) l22 c22 k22
  have F23 := fun_mk (st := s_worth_of) l23 c23 k23
  have F24 := fun_mk (st := s_is_whole) l24 c24 k24
  have F25 := fun_mk (st := s_is_row) l25 c25 k25
  have F26 := fun_mk (st := s_rises) l26 c26 k26
  have F27 := fun_mk (st := s_is_pair) l27 c27 k27
  have F28 := fun_mk (st := s_go_together) l28 c28 k28
  have F29 := fun_mk (st := s_is_folding) l29 c29 k29
  have F30 := fun_mk (st := s_pairs_in) l30 c30 k30
  have F31 := fun_mk (st := s_strings_of) l31 c31 k31
  have F32 := fun_mk (st := s_forbids) l32 c32 k32
  have F33 := fun_mk (st := s_all_forbidding) l33 c33 k33
  have F34 : FunD K "against" "against" (defArgs s_against) (defBody s_against) (defScope s_against) [] [("alone", .bl false)] f34 (PySem.W.fnOf "against" "against" (defArgs s_against) (defBody s_against) (defScope s_against) .none (.ref D34) dc34 pm34 an34 cd34 ct34) := ⟨⟨oc34, od34, .none, .ref D34, dc34, pm34, an34, cd34, ct34, sl34, rfl, l34, c34, .inl ⟨rfl, rfl⟩, .inr ⟨D34, rfl, fun q hq => by rcases List.mem_cons.mp hq with rfl | hq; exact ⟨_, q34_0, rfl⟩; cases hq⟩⟩, k34⟩
  have F35 := fun_mk (st := s_law_wish) l35 c35 k35
  have F36 := fun_mk (st := s_law_pairs_in) l36 c36 k36
  have F37 := fun_mk (st := s_law_strings) l37 c37 k37
  have F38 := fun_mk (st := s_law_case) l38 c38 k38
  have F39 := fun_mk (st := s_law_folds_so) l39 c39 k39
  have F40 := fun_mk (st := s_law_due) l40 c40 k40
  have F41 := fun_mk (st := s_law_is_pairs) l41 c41 k41
  have F42 := fun_mk (st := s_law_forbids) l42 c42 k42
  have F43 := fun_mk (st := s_law_is_paper) l43 c43 k43
  have F44 := fun_mk (st := s_law) l44 c44 k44
  have mlist := PySem.W.mg_none_of X G z0
  have mlen := PySem.W.mg_none_of X G z1
  have mabs := PySem.W.mg_none_of X G z2
  have mint := PySem.W.mg_none_of X G z3
  have msum := PySem.W.mg_none_of X G z4
  have mmin := PySem.W.mg_none_of X G z5
  have mrange := PySem.W.mg_none_of X G z6
  have msorted := PySem.W.mg_none_of X G z7
  have mtuple := PySem.W.mg_none_of X G z8
  have mdict := PySem.W.mg_none_of X G z9
  have misinstance := PySem.W.mg_none_of X G z10
  have mstr := PySem.W.mg_none_of X G z11
  have mall := PySem.W.mg_none_of X G z12
  have mzip := PySem.W.mg_none_of X G z13
  have menumerate := PySem.W.mg_none_of X G z14
  have mbool := PySem.W.mg_none_of X G z15
  have mrepr := PySem.W.mg_none_of X G z16
  have gLOOPS := PySem.W.mg_of X G aG
  have hLO : ∀ H : Hp, SqT K H aL (LN.map V.str) := fun H => .inr ⟨_, _, _, lG, rfl, rfl, szL (show 9 ≤ 1000000 by decide), (.cons ⟨_, rfl⟩ (.cons ⟨_, rfl⟩ (.cons ⟨_, rfl⟩ (.cons ⟨_, rfl⟩ (.cons ⟨_, rfl⟩ (.cons ⟨_, rfl⟩ (.cons ⟨_, rfl⟩ (.cons ⟨_, rfl⟩ (.cons ⟨_, rfl⟩ .nil)))))))))⟩
  have gMOST_PLACES := PySem.W.mg_of X G aI0
  refine ⟨PySem.W.fnOf "law" "law" (defArgs s_law) (defBody s_law) (defScope s_law) .none kV44 dc44 pm44 an44 cd44 ct44, fun s v => .of_eq rfl, fun base _ _ => ?_⟩
  have c_law_draw : Ca l.prog w K mg base 1 "_law_draw" ["_law_pen", "_law_upto"] spDraw := ⟨f0, _, ok_draw F0 mlen mabs, PySem.W.mg_of X G a0, F0.kp, F0.binds fun _ _ _ _ _ _ us hl => match us, hl with | [_, _], _ => rfl⟩
  have c_law_worth : Ca l.prog w K mg base 2 "_law_worth" ["_law_pen"] spWorth := ⟨f1, _, ok_worth F1 c_law_draw, PySem.W.mg_of X G a1, F1.kp, F1.binds fun _ _ _ _ _ _ us hl => match us, hl with | [_], _ => rfl⟩
  have c_law_letters : Ca l.prog w K mg base 2 "_law_letters" ["_law_pen", "_law_most"] spLetters := ⟨f2, _, ok_letters F2 c_law_draw mlen mrange msorted, PySem.W.mg_of X G a2, F2.kp, F2.binds fun _ _ _ _ _ _ us hl => match us, hl with | [_, _], _ => rfl⟩
  have c_law_rules : Ca l.prog w K mg base 3 "_law_rules" ["_law_pen", "_law_most"] spRules := ⟨f3, _, ok_rules F3 c_law_draw c_law_letters c_law_worth mlen mint mtuple mrange msorted, PySem.W.mg_of X G a3, F3.kp, F3.binds fun _ _ _ _ _ _ us hl => match us, hl with | [_, _], _ => rfl⟩
  have c_law_may : Ca l.prog w K mg base 1 "_law_may" ["_law_book", "_law_line", "_law_i", "_law_j"] spMayW := ⟨f4, _, ok_mayW F4, PySem.W.mg_of X G a4, F4.kp, F4.binds fun _ _ _ _ _ _ us hl => match us, hl with | [_, _, _, _], _ => rfl⟩
  have c_law_all : Ca l.prog w K mg base 15 "_law_all" ["_law_book", "_law_line", "_law_first", "_law_last"] (spAll 13) := ⟨f5, _, ok_all F5 (F5.binds fun _ _ _ _ _ _ us hl => match us, hl with | [_, _, _, _], _ => rfl) (PySem.W.mg_of X G a5) c_law_may mrange 13, PySem.W.mg_of X G a5, F5.kp, F5.binds fun _ _ _ _ _ _ us hl => match us, hl with | [_, _, _, _], _ => rfl⟩
  have c_law_within : Ca l.prog w K mg base 1 "_law_within" ["_law_pairs_here", "_law_i", "_law_j"] spWithW := ⟨f6, _, ok_withW F6, PySem.W.mg_of X G a6, F6.kp, F6.binds fun _ _ _ _ _ _ us hl => match us, hl with | [_, _, _], _ => rfl⟩
  have c_law_loop : Ca l.prog w K mg base 1 "_law_loop" ["_law_book", "_law_line", "_law_i", "_law_j", "_law_inner"] spLpW := ⟨f7, _, ok_lpW F7 mlen msum, PySem.W.mg_of X G a7, F7.kp, F7.binds fun _ _ _ _ _ _ us hl => match us, hl with | [_, _, _, _, _], _ => rfl⟩
  have c_law_cost : Ca l.prog w K mg base 2 "_law_cost" ["_law_book", "_law_line", "_law_pairs_here"] spCost := ⟨f8, _, ok_cost F8 c_law_within c_law_loop mlen mdict, PySem.W.mg_of X G a8, F8.kp, F8.binds fun _ _ _ _ _ _ us hl => match us, hl with | [_, _, _], _ => rfl⟩
  have c_law_stands : Ca l.prog w K mg base 2 "_law_stands" ["_law_book", "_law_line", "_law_pairs_here"] spStandW := ⟨f9, _, ok_standW F9 c_law_may, PySem.W.mg_of X G a9, F9.kp, F9.binds fun _ _ _ _ _ _ us hl => match us, hl with | [_, _, _], _ => rfl⟩
  have cpair_worth : Ca l.prog w K mg base 1 "pair_worth" ["rules", "both"] spPW := ⟨f10, _, ok_pw F10, PySem.W.mg_of X G a10, F10.kp, F10.binds fun _ _ _ _ _ _ us hl => match us, hl with | [_, _], _ => rfl⟩
  have ctext_of : Ca l.prog w K mg base 1 "text_of" ["string", "pair"] spTextOf := ⟨f11, _, ok_text_of F11, PySem.W.mg_of X G a11, F11.kp, F11.binds fun _ _ _ _ _ _ us hl => match us, hl with | [_, _], _ => rfl⟩
  have cmay_pair : Ca l.prog w K mg base 2 "may_pair" ["rules", "string", "i", "j"] spMP := ⟨f12, _, ok_mp F12 ctext_of cpair_worth mlen, PySem.W.mg_of X G a12, F12.kp, F12.binds fun _ _ _ _ _ _ us hl => match us, hl with | [_, _, _, _], _ => rfl⟩
  have cis_string : Ca l.prog w K mg base 1 "is_string" ["rules", "thing"] spIS := ⟨f13, _, ok_is F13 gMOST_PLACES misinstance mstr mlen mall, PySem.W.mg_of X G a13, F13.kp, F13.binds fun _ _ _ _ _ _ us hl => match us, hl with | [_, _], _ => rfl⟩
  have cneed_string : Ca l.prog w K mg base 2 "need_string" ["rules", "thing"] spNS := ⟨f14, _, ok_ns F14 cis_string, PySem.W.mg_of X G a14, F14.kp, F14.binds fun _ _ _ _ _ _ us hl => match us, hl with | [_, _], _ => rfl⟩
  have cstretch_foldings : Ca l.prog w K mg base 3 "stretch_foldings" ["rules", "string", "i", "j", "told"] spStr := ⟨f15, _, ok_str F15 cmay_pair mrange mlist, PySem.W.mg_of X G a15, F15.kp, F15.binds fun _ _ _ _ _ _ us hl => match us, hl with | [_, _, _, _, _], _ => rfl⟩
  have call_foldings : Ca l.prog w K mg base 4 "all_foldings" ["rules", "string"] spAF := ⟨f16, _, ok_af F16 cneed_string cstretch_foldings mlen mrange msorted, PySem.W.mg_of X G a16, F16.kp, F16.binds fun _ _ _ _ _ _ us hl => match us, hl with | [_, _], _ => rfl⟩
  have cstack_worth : Ca l.prog w K mg base 1 "stack_worth" ["rules", "outer", "within"] spSW := ⟨f17, _, ok_sw F17, PySem.W.mg_of X G a17, F17.kp, F17.binds fun _ _ _ _ _ _ us hl => match us, hl with | [_, _, _], _ => rfl⟩
  have cloop_worths : Ca l.prog w K mg base 1 "loop_worths" ["rules"] spLW := ⟨f18, _, ok_lw F18 gLOOPS hLO mdict mzip, PySem.W.mg_of X G a18, F18.kp, F18.binds fun _ _ _ _ _ _ us hl => match us, hl with | [_], _ => rfl⟩
  have ckind_of : Ca l.prog w K mg base 1 "kind_of" ["free", "branches"] spKO := ⟨f19, _, ok_ko F19, PySem.W.mg_of X G a19, F19.kp, F19.binds fun _ _ _ _ _ _ us hl => match us, hl with | [_, _], _ => rfl⟩
  have cloop_within : Ca l.prog w K mg base 2 "loop_within" ["rules", "string", "pair", "within"] spLoopW := ⟨f20, _, ok_loopw F20 cstack_worth ctext_of cloop_worths ckind_of msum mlen, PySem.W.mg_of X G a20, F20.kp, F20.binds fun _ _ _ _ _ _ us hl => match us, hl with | [_, _, _, _], _ => rfl⟩
  have cstraight_within : Ca l.prog w K mg base 1 "straight_within" ["folding", "pair"] spWithin := ⟨f21, _, ok_within F21, PySem.W.mg_of X G a21, F21.kp, F21.binds fun _ _ _ _ _ _ us hl => match us, hl with | [_, _], _ => rfl⟩
  have cloops_of : Ca l.prog w K mg base 3 "loops_of" ["rules", "string", "folding"] spLoops := ⟨f22, _, ok_loops F22 cloop_within cstraight_within, PySem.W.mg_of X G a22, F22.kp, F22.binds fun _ _ _ _ _ _ us hl => match us, hl with | [_, _, _], _ => rfl⟩
  have cworth_of : Ca l.prog w K mg base 4 "worth_of" ["rules", "string", "folding"] spWO := ⟨f23, _, ok_wo F23 cpair_worth ctext_of cloops_of cstraight_within cloop_worths msum mlen, PySem.W.mg_of X G a23, F23.kp, F23.binds fun _ _ _ _ _ _ us hl => match us, hl with | [_, _, _], _ => rfl⟩
  have cis_whole : Ca l.prog w K mg base 1 "is_whole" ["thing"] spWhI := ⟨f24, _, ok_whI F24 misinstance mint mbool, PySem.W.mg_of X G a24, F24.kp, F24.binds fun _ _ _ _ _ _ us hl => match us, hl with | [_], _ => rfl⟩
  have cis_row : Ca l.prog w K mg base 1 "is_row" ["thing", "size"] spRow2 := ⟨f25, _, ok_row2 F25 misinstance mtuple mlen, PySem.W.mg_of X G a25, F25.kp, F25.binds fun _ _ _ _ _ _ us hl => match us, hl with | [_, _], _ => rfl⟩
  have crises : Ca l.prog w K mg base 1 "rises" ["things"] spRi := ⟨f26, _, ok_ri F26 mall mzip, PySem.W.mg_of X G a26, F26.kp, F26.binds fun _ _ _ _ _ _ us hl => match us, hl with | [_], _ => rfl⟩
  have cis_pair : Ca l.prog w K mg base 3 "is_pair" ["rules", "string", "thing"] spIP := ⟨f27, _, ok_ip F27 cis_row cis_whole cmay_pair, PySem.W.mg_of X G a27, F27.kp, F27.binds fun _ _ _ _ _ _ us hl => match us, hl with | [_, _, _], _ => rfl⟩
  have cgo_together : Ca l.prog w K mg base 1 "go_together" ["pair", "later"] spGT := ⟨f28, _, ok_gt F28, PySem.W.mg_of X G a28, F28.kp, F28.binds fun _ _ _ _ _ _ us hl => match us, hl with | [_, _], _ => rfl⟩
  have cis_folding : Ca l.prog w K mg base 4 "is_folding" ["rules", "string", "thing"] spIF := ⟨f29, _, ok_if F29 cis_pair cgo_together crises misinstance mtuple mall menumerate, PySem.W.mg_of X G a29, F29.kp, F29.binds fun _ _ _ _ _ _ us hl => match us, hl with | [_, _, _], _ => rfl⟩
  have cpairs_in : Ca l.prog w K mg base 1 "pairs_in" ["text"] spPin := ⟨f30, _, ok_pin F30 menumerate mtuple msorted, PySem.W.mg_of X G a30, F30.kp, F30.binds fun _ _ _ _ _ _ us hl => match us, hl with | [_], _ => rfl⟩
  have cstrings_of : Ca l.prog w K mg base 1 "strings_of" ["rules", "length"] spSts := ⟨f31, _, ok_sts F31 mrange, PySem.W.mg_of X G a31, F31.kp, F31.binds fun _ _ _ _ _ _ us hl => match us, hl with | [_, _], _ => rfl⟩
  have cforbids : Ca l.prog w K mg base 5 "forbids" ["rules", "string", "asked", "folding", "alone"] spForb := ⟨f32, _, ok_forb F32 cworth_of, PySem.W.mg_of X G a32, F32.kp, F32.binds fun _ _ _ _ _ _ us hl => match us, hl with | [_, _, _, _, _], _ => rfl⟩
  have call_forbidding : Ca l.prog w K mg base 6 "all_forbidding" ["rules", "string", "asked", "alone"] spAFb := ⟨f33, _, ok_afb F33 call_foldings cforbids, PySem.W.mg_of X G a33, F33.kp, F33.binds fun _ _ _ _ _ _ us hl => match us, hl with | [_, _, _, _], _ => rfl⟩
  have okk34 := ok_ag F34 cpairs_in cstrings_of cis_folding call_forbidding mlen
  obtain ⟨ds34, hv34, hb34⟩ := F34.binds0 (ps := ["rules", "wish", "alone"]) 2 (by simp) rfl (fun D doc pm an cdv ct us ks h1 h2 => match us, ks, h1, h2 with | [_, _], [_], _, _ => ⟨_, _, _, _, _, _, rfl, rfl, rfl⟩)
  have cagainstE : CaE l.prog w K mg base 7 "against" ["rules", "wish", "alone"] [.bl false] spAg := ⟨f34, _, ds34, okk34, PySem.W.mg_of X G a34, F34.kp, hv34, hb34⟩
  obtain ⟨gK34, hK34⟩ := kbn_kw (ps := ["rules", "wish", "alone"]) F34 0 ["wish", "rules", "alone"] [] [1, 0, 2] (by simp) (fun q hq => by cases hq) (fun D doc pm an cdv ct us mv ws h1 h2 h3 => match us, mv, ws, h1, h2, h3 with | [], [], [_, _, _], _, _, _ => rfl)
  have cagainstK : CaK l.prog w K mg base 7 "against" ["rules", "wish", "alone"] ["wish", "rules", "alone"] (permW [1, 0, 2] []) spAg := ⟨f34, _, gK34, okk34, PySem.W.mg_of X G a34, F34.kp, hK34⟩
  obtain ⟨gN34, hN34⟩ := kbn_kw (ps := ["rules", "wish", "alone"]) F34 2 ["alone"] [] [0, 1, 2] (by simp) (fun q hq => by cases hq) (fun D doc pm an cdv ct us mv ws h1 h2 h3 => match us, mv, ws, h1, h2, h3 with | [_, _], [], [_], _, _, _ => rfl)
  have cagainstN : CaN l.prog w K mg base 7 "against" ["rules", "wish", "alone"] 2 ["alone"] (permW [0, 1, 2] []) spAg := ⟨f34, _, gN34, okk34, PySem.W.mg_of X G a34, F34.kp, hN34⟩
  have c_law_wish : Ca l.prog w K mg base 2 "_law_wish" ["_law_pen", "_law_size"] spLWi := ⟨f35, _, ok_lwi F35 c_law_draw mlen mint mrange, PySem.W.mg_of X G a35, F35.kp, F35.binds fun _ _ _ _ _ _ us hl => match us, hl with | [_, _], _ => rfl⟩
  have c_law_pairs_in : Ca l.prog w K mg base 1 "_law_pairs_in" ["_law_text"] spLPin := ⟨f36, _, ok_lpin F36 menumerate mtuple msorted, PySem.W.mg_of X G a36, F36.kp, F36.binds fun _ _ _ _ _ _ us hl => match us, hl with | [_], _ => rfl⟩
  have c_law_strings : Ca l.prog w K mg base 1 "_law_strings" ["_law_book", "_law_size"] spSts := ⟨f37, _, ok_lsts F37 mrange, PySem.W.mg_of X G a37, F37.kp, F37.binds fun _ _ _ _ _ _ us hl => match us, hl with | [_, _], _ => rfl⟩
  have c_law_case : Ca l.prog w K mg base 4 "_law_case" ["_law_pen", "_law_odd"] spCase := ⟨f38, _, ok_case F38 c_law_draw c_law_rules c_law_wish mlen mint, PySem.W.mg_of X G a38, F38.kp, F38.binds fun _ _ _ _ _ _ us hl => match us, hl with | [_, _], _ => rfl⟩
  have c_law_folds_so : Ca l.prog w K mg base 16 "_law_folds_so" ["_law_book", "_law_line", "_law_due_here", "_law_only"] spLFso := ⟨f39, _, ok_lfso F39 c_law_stands c_law_cost c_law_all mlen, PySem.W.mg_of X G a39, F39.kp, F39.binds fun _ _ _ _ _ _ us hl => match us, hl with | [_, _, _, _], _ => rfl⟩
  have c_law_due : Ca l.prog w K mg base 17 "_law_due" ["_law_book", "_law_wish_so", "_law_only"] spDue := ⟨f40, _, ok_due F40 c_law_pairs_in c_law_strings c_law_folds_so mlen, PySem.W.mg_of X G a40, F40.kp, F40.binds fun _ _ _ _ _ _ us hl => match us, hl with | [_, _, _], _ => rfl⟩
  have c_law_is_pairs : Ca l.prog w K mg base 1 "_law_is_pairs" ["_law_some"] spIPs := ⟨f41, _, ok_ips F41 misinstance mint mbool mtuple mlen, PySem.W.mg_of X G a41, F41.kp, F41.binds fun _ _ _ _ _ _ us hl => match us, hl with | [_], _ => rfl⟩
  have c_law_forbids : Ca l.prog w K mg base 16 "_law_forbids" ["_law_book", "_law_line", "_law_due_here", "_law_other", "_law_only"] spLFb := ⟨f42, _, ok_lfb F42 c_law_stands c_law_cost c_law_all mlen, PySem.W.mg_of X G a42, F42.kp, F42.binds fun _ _ _ _ _ _ us hl => match us, hl with | [_, _, _, _, _], _ => rfl⟩
  have c_law_is_paper : CaG l.prog w K mg base 17 "_law_is_paper" ["_law_book", "_law_wish_so", "_law_given", "_law_only"] spPap := ⟨f43, _, ok_pap F43 c_law_pairs_in c_law_strings c_law_is_pairs c_law_forbids misinstance mlist mtuple mlen mrepr mzip, PySem.W.mg_of X G a43, F43.kp, F43.binds fun _ _ _ _ _ _ us hl => match us, hl with | [_, _, _, _], _ => rfl⟩
  exact ok_law F44 ⟨rfl, by decide, by decide⟩ c_law_case c_law_due c_law_is_paper cagainstN cagainstE cagainstK mlist mrepr
end Pf
open PySem PySem.W PyProof.Rows
set_option maxHeartbeats 0 in
theorem PySem.Challenge.cw_pairfolds_k43_papers_against_told_holds : PySem.Challenge.rw_pairfolds_k43_papers_against_told.Holds := by
  w_on; o_law; k_head; (case hw => w_witness2)
  k_fill
  refine Pf.walk_g (l := PySem.Challenge.rw_pairfolds_k43_papers_against_told) (n := 63) (x := "_law_script") (sp := fun w => Pf.spLaw _) rfl (by decide) rfl (fun w h Y => PySem.W.kIn_of Y) ?F (fun _ _ a ns hl hS => ⟨a, ns, rfl, hS, hl, fun _ => rfl⟩)
  case F =>
    intro w mg fa h KX G hmg
    refine' Pf.all_mk KX G hmg ?a0 ?l0 ?c0 ?k0 ?a1 ?l1 ?c1 ?k1 ?a2 ?l2 ?c2 ?k2 ?a3 ?l3 ?c3 ?k3 ?a4 ?l4 ?c4 ?k4 ?a5 ?l5 ?c5 ?k5 ?a6 ?l6 ?c6 ?k6 ?a7 ?l7 ?c7 ?k7 ?a8 ?l8 ?c8 ?k8 ?a9 ?l9 ?c9 ?k9 ?a10 ?l10 ?c10 ?k10 ?a11 ?l11 ?c11 ?k11 ?a12 ?l12 ?c12 ?k12 ?a13 ?l13 ?c13 ?k13 ?a14 ?l14 ?c14 ?k14 ?a15 ?l15 ?c15 ?k15 ?a16 ?l16 ?c16 ?k16 ?a17 ?l17 ?c17 ?k17 ?a18 ?l18 ?c18 ?k18 ?a19 ?l19 ?c19 ?k19 ?a20 ?l20 ?c20 ?k20 ?a21 ?l21 ?c21 ?k21 ?a22 ?l22 ?c22 ?k22 ?a23 ?l23 ?c23 ?k23 ?a24 ?l24 ?c24 ?k24 ?a25 ?l25 ?c25 ?k25 ?a26 ?l26 ?c26 ?k26 ?a27 ?l27 ?c27 ?k27 ?a28 ?l28 ?c28 ?k28 ?a29 ?l29 ?c29 ?k29 ?a30 ?l30 ?c30 ?k30 ?a31 ?l31 ?c31 ?k31 ?a32 ?l32 ?c32 ?k32 ?a33 ?l33 ?c33 ?k33 ?a34 ?l34 ?c34 ?k34 ?q34_0 ?a35 ?l35 ?c35 ?k35 ?a36 ?l36 ?c36 ?k36 ?a37 ?l37 ?c37 ?k37 ?a38 ?l38 ?c38 ?k38 ?a39 ?l39 ?c39 ?k39 ?a40 ?l40 ?c40 ?k40 ?a41 ?l41 ?c41 ?k41 ?a42 ?l42 ?c42 ?k42 ?a43 ?l43 ?c43 ?k43 ?a44 ?l44 ?c44 ?k44 ?z0 ?z1 ?z2 ?z3 ?z4 ?z5 ?z6 ?z7 ?z8 ?z9 ?z10 ?z11 ?z12 ?z13 ?z14 ?z15 ?z16 ?aG ?lG ?aI0
    (case a0 => k_is); (case l0 => k_is); (case c0 => k_is); (case k0 => k_is); (case a1 => k_is); (case l1 => k_is); (case c1 => k_is); (case k1 => k_is); (case a2 => k_is); (case l2 => k_is); (case c2 => k_is); (case k2 => k_is); (case a3 => k_is); (case l3 => k_is); (case c3 => k_is); (case k3 => k_is); (case a4 => k_is); (case l4 => k_is); (case c4 => k_is); (case k4 => k_is); (case a5 => k_is); (case l5 => k_is); (case c5 => k_is); (case k5 => k_is); (case a6 => k_is); (case l6 => k_is); (case c6 => k_is); (case k6 => k_is); (case a7 => k_is); (case l7 => k_is); (case c7 => k_is); (case k7 => k_is); (case a8 => k_is); (case l8 => k_is); (case c8 => k_is); (case k8 => k_is); (case a9 => k_is); (case l9 => k_is); (case c9 => k_is); (case k9 => k_is); (case a10 => k_is); (case l10 => k_is); (case c10 => k_is); (case k10 => k_is); (case a11 => k_is); (case l11 => k_is); (case c11 => k_is); (case k11 => k_is); (case a12 => k_is); (case l12 => k_is); (case c12 => k_is); (case k12 => k_is); (case a13 => k_is); (case l13 => k_is); (case c13 => k_is); (case k13 => k_is); (case a14 => k_is); (case l14 => k_is); (case c14 => k_is); (case k14 => k_is); (case a15 => k_is); (case l15 => k_is); (case c15 => k_is); (case k15 => k_is); (case a16 => k_is); (case l16 => k_is); (case c16 => k_is); (case k16 => k_is); (case a17 => k_is); (case l17 => k_is); (case c17 => k_is); (case k17 => k_is); (case a18 => k_is); (case l18 => k_is); (case c18 => k_is); (case k18 => k_is); (case a19 => k_is); (case l19 => k_is); (case c19 => k_is); (case k19 => k_is); (case a20 => k_is); (case l20 => k_is); (case c20 => k_is); (case k20 => k_is); (case a21 => k_is); (case l21 => k_is); (case c21 => k_is); (case k21 => k_is); (case a22 => k_is); (case l22 => k_is); (case c22 => k_is); (case k22 => k_is); (case a23 => k_is); (case l23 => k_is); (case c23 => k_is); (case k23 => k_is); (case a24 => k_is); (case l24 => k_is); (case c24 => k_is); (case k24 => k_is); (case a25 => k_is); (case l25 => k_is); (case c25 => k_is); (case k25 => k_is); (case a26 => k_is); (case l26 => k_is); (case c26 => k_is); (case k26 => k_is); (case a27 => k_is); (case l27 => k_is); (case c27 => k_is); (case k27 => k_is); (case a28 => k_is); (case l28 => k_is); (case c28 => k_is); (case k28 => k_is); (case a29 => k_is); (case l29 => k_is); (case c29 => k_is); (case k29 => k_is); (case a30 => k_is); (case l30 => k_is); (case c30 => k_is); (case k30 => k_is); (case a31 => k_is); (case l31 => k_is); (case c31 => k_is); (case k31 => k_is); (case a32 => k_is); (case l32 => k_is); (case c32 => k_is); (case k32 => k_is); (case a33 => k_is); (case l33 => k_is); (case c33 => k_is); (case k33 => k_is); (case a34 => k_is); (case l34 => k_is); (case c34 => k_is); (case k34 => k_is); (case q34_0 => k_is); (case a35 => k_is); (case l35 => k_is); (case c35 => k_is); (case k35 => k_is); (case a36 => k_is); (case l36 => k_is); (case c36 => k_is); (case k36 => k_is); (case a37 => k_is); (case l37 => k_is); (case c37 => k_is); (case k37 => k_is); (case a38 => k_is); (case l38 => k_is); (case c38 => k_is); (case k38 => k_is); (case a39 => k_is); (case l39 => k_is); (case c39 => k_is); (case k39 => k_is); (case a40 => k_is); (case l40 => k_is); (case c40 => k_is); (case k40 => k_is); (case a41 => k_is); (case l41 => k_is); (case c41 => k_is); (case k41 => k_is); (case a42 => k_is); (case l42 => k_is); (case c42 => k_is); (case k42 => k_is); (case a43 => k_is); (case l43 => k_is); (case c43 => k_is); (case k43 => k_is); (case a44 => k_is); (case l44 => k_is); (case c44 => k_is); (case k44 => k_is); (case z0 => k_is); (case z1 => k_is); (case z2 => k_is); (case z3 => k_is); (case z4 => k_is); (case z5 => k_is); (case z6 => k_is); (case z7 => k_is); (case z8 => k_is); (case z9 => k_is); (case z10 => k_is); (case z11 => k_is); (case z12 => k_is); (case z13 => k_is); (case z14 => k_is); (case z15 => k_is); (case z16 => k_is); (case aG => k_is); (case lG => k_is); (case aI0 => k_is)
