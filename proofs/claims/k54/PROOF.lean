import PyProof.Rows.All
import Wide.All
import OpenK.AllK
import Wide.FinOn
import HandS.ForMost
import HandS.Defaults
import HandS.TupMul
import HandS.TupAny
import HandS.IsInst
import HandS.Conv
import KE.SortData
import PySem.Challenge.RW_pairfolds_k54_holds_known
import KE.KDictZip
import HandS.Zip
import HandS.TupSets
import PyProof.FactsAll.subtypes_4
import PyProof.Transfer
import KE.GoesMore
import HandS.Style
import HandS.Walk
import HandS.TupLe
import HandS.SetFor
import HandS.Strs
set_option Elab.async false
set_option linter.all false
set_option maxRecDepth 100000
set_option maxHeartbeats 4000000
namespace Pf
open PySem PySem.Spec PyProof.Rows L2

/-! ### a def that may be called: its promise, its name, its binding -/
structure Ca (P : Program) (w : World) (K : PySem.W.Frag) (mg : Str → Option Value) (base : Heap) (k : Nat) (x : Str) (ps : List Str) (sp : Sp) : Prop where
  ex : ∃ f fd, FnOk P w K mg base CX0 k f fd ps sp ∧ mg x = some (.ref f) ∧ PySem.W.keepIn K (.ref f) = true ∧ Binds K fd ps []
structure CaK (P : Program) (w : World) (K : PySem.W.Frag) (mg : Str → Option Value) (base : Heap) (k : Nat) (x : Str) (ps ks : List Str) (gV : List V → List V → List V) (sp : Sp) : Prop where
  ex : ∃ f fd g, FnOk P w K mg base CX0 k f fd ps sp ∧ mg x = some (.ref f) ∧ PySem.W.keepIn K (.ref f) = true ∧ KBn K fd ps 0 ks g gV
section
variable {X : Cx} {k : Nat} {x : Str} {ps ks : List Str} {sp : Sp} {p pos : Pos} {e : Expr} {es : List Expr} {kws : List Keyword} {t tk : TA} {gV : List V → List V → List V}
theorem pe_ca (c : Ca X.prog X.w X.K X.mg X.base k x ps sp) (hr : Room k X.A) (hg : Gl X x) (ha : PA X (e :: es) t) (hdb : (x == ("__debug__" : Str)) = false := by decide)
    (he : starEach (e :: es) X.env = (false, eval e X.env) :: starEach es X.env := by rfl) (hpl : (backTo pos (starEach es X.env)).any (·.1) = false := by rfl) :
    PE X (.Call (.Name x p) (e :: es) [] pos) (tCall sp [] E0 t) := by
  obtain ⟨f, fd, F, hm, hk, hb⟩ := c.ex
  exact pe_call F hr hg hm hk hb .nil pass0 ha hdb he hpl
theorem pe_ca0 (c : Ca X.prog X.w X.K X.mg X.base k x ps sp) (hr : Room k X.A) (hg : Gl X x) (hdb : (x == ("__debug__" : Str)) = false := by decide) :
    PE X (.Call (.Name x p) [] [] pos) (tCall sp [] E0 tNil) := by
  obtain ⟨f, fd, F, hm, hk, hb⟩ := c.ex
  exact pe_call0 F hr hg hm hk hb .nil pass0 hdb
/-- f(k = v, ..), by names alone -/
theorem pe_caK (c : CaK X.prog X.w X.K X.mg X.base k x ps ks gV sp) (hr : Room k X.A) (hg : Gl X x) (hkw : PK X kws tk)
    (hall : (backToKw pos (keywordEach kws X.env)).all (·.1.isSome) = true := by rfl) (hks : (backToKw pos (keywordEach kws X.env)).filterMap (·.1) = ks := by rfl) (hdb : (x == ("__debug__" : Str)) = false := by decide)
    (hpl : ((backTo pos (starEach [] X.env)).any (·.1) || (backToKw pos (keywordEach kws X.env)).any (·.1.isNone)) = false := by rfl) :
    PE X (.Call (.Name x p) [] kws pos) (tCallN 0 ks.length sp gV E0 tNil tk) := by
  obtain ⟨f, fd, g, F, hm, hk, hb⟩ := c.ex
  refine ⟨fun pins s σ H Q I h => ?_⟩
  refine wpAny_Call_Name_kw (ld_glob I hg hm ?_ hdb)
  refine PySem.W.callWith_KW0 (h₀ := X.base) I.ok.mod.kin hk hall ?_ hpl
  refine thn (hkw.run pos pins s σ H _ I h) fun ws s2 ⟨zs, H2, I2, rz, l1, l2, q2⟩ => ⟨I2.kIn, ?_⟩
  rw [hks]
  exact run_fnN (us := []) (vs := []) F hr hb pass0 I2 .nil rz rfl l2 q2
end

/-! ### rules that read a list or a tuple, the written part by its letter -/
theorem ixL (K : PySem.W.Frag) {X : Cx} (h : X.K = K := by rfl) : IxR X (rIxL K) := h ▸ ix_list
theorem ixT (K : PySem.W.Frag) {X : Cx} (h : X.K = K := by rfl) : IxR X (rIxT K) := h ▸ ix_tup
theorem ixA (K : PySem.W.Frag) {X : Cx} (h : X.K = K := by rfl) : IxR X (rIx K) := h ▸ ix_seq
def rLenA (K : PySem.W.Frag) : List V → Hp → VK → Prop := fun xs H Q => ∃ x n, xs = [x] ∧ LenV K x H n ∧ Q (.int n) H
theorem lenA (K : PySem.W.Frag) {X : Cx} (h : X.K = K := by rfl) : CallR X (.builtin "len") (rLenA K) := by
  subst h
  exact call_len
theorem repT (K : PySem.W.Frag) {X : Cx} (h : X.K = K := by rfl) : OpR X (binaryOp .Mult) (rRepT K) := h ▸ op_repT
theorem slL (K : PySem.W.Frag) {X : Cx} (h : X.K = K := by rfl) : SlR X (rSlL K) := h ▸ sl_list
theorem slT (K : PySem.W.Frag) {X : Cx} (h : X.K = K := by rfl) : SlR X (rSlT K) := h ▸ sl_tup
theorem eqD (K : PySem.W.Frag) {X : Cx} (hu : X.A.units + 64 < cLine) (h : X.K = K := by rfl) : OpR X (compareOp .Eq) (rEqD K) := h ▸ op_eqD hu
theorem neD (K : PySem.W.Frag) {X : Cx} (hu : X.A.units + 64 < cLine) (h : X.K = K := by rfl) : OpR X (compareOp .NotEq) (rNeD K) := h ▸ op_neD hu
theorem catT (K : PySem.W.Frag) {X : Cx} (h : X.K = K := by rfl) : OpR X (binaryOp .Add) (rCatT K) := h ▸ op_catT
theorem catA (K : PySem.W.Frag) {X : Cx} (h : X.K = K := by rfl) : OpR X (binaryOp .Add) (rCatA K) := h ▸ op_catA
theorem slA (K : PySem.W.Frag) {X : Cx} (h : X.K = K := by rfl) : SlR X (rSlA K) := h ▸ sl_tupA
theorem isi1 (K : PySem.W.Frag) {X : Cx} (h : X.K = K := by rfl) : CallR X (.builtin "isinstance") (rIsi K) := h ▸ call_isi
theorem pgT (K : PySem.W.Frag) {X : Cx} {es : List Expr} {k n : Nat} {t : TGs} {pos : Pos} (hc : X.calm = true) (h : PGs X es t) (hK : X.K = K := by rfl) (hn : (assignEach es X.env).length = n := by rfl) (hst : (assignEach es X.env).findIdx? (·.1) = none := by rfl) :
    PG X (.Tuple es k pos) (gTup K n t) := by
  subst hK
  exact pg_tup hc h hn hst
def rLen (K : PySem.W.Frag) : List V → Hp → VK → Prop := fun xs H Q => ∃ p ys, xs = [.ref p] ∧ (SqL K H p ys ∨ SqT K H p ys) ∧ Q (.int ys.length) H
theorem lenQ (K : PySem.W.Frag) {X : Cx} (h : X.K = K := by rfl) : CallR X (.builtin "len") (rLen K) := by
  subst h
  exact call_len_seq
def rListOf (K : PySem.W.Frag) : List V → Hp → VK → Prop := fun xs H Q => ∃ p ys, xs = [.ref p] ∧ (SqL K H p ys ∨ SqT K H p ys) ∧ ∀ l, H l = none → Q (.ref l) (upd H l (.lst ys))
theorem listOf (K : PySem.W.Frag) {X : Cx} (h : X.K = K := by rfl) : CallR X (.type "list") (rListOf K) := by
  subst h
  exact call_list_of
def rTupleOf (K : PySem.W.Frag) : List V → Hp → VK → Prop := fun xs H Q => ∃ p ys, xs = [.ref p] ∧ ((SqL K H p ys ∧ ∀ l, H l = none → Q (.ref l) (upd H l (.tup ys))) ∨ (SqT K H p ys ∧ Q (.ref p) H))
theorem tupleOf (K : PySem.W.Frag) {X : Cx} (h : X.K = K := by rfl) : CallR X (.type "tuple") (rTupleOf K) := by
  subst h
  exact call_tuple_of

/-! ### repr of a plain thing -/
def repV : V → Str
  | .non => "None"
  | .bl b => if b then "True" else "False"
  | .int i => toString i
  | _ => ""
def RepOk : V → Prop
  | .non => True
  | .bl _ => True
  | .int i => i.natAbs.log2 < 1920
  | _ => False
theorem call_repr {X : Cx} : CallR X (.builtin "repr") (fun xs H Q => ∃ v, xs = [v] ∧ RepOk v ∧ Q (.str (repV v)) H) := by
  intro pins s σ H xs us Q I r h
  obtain ⟨v, rfl, hz, q⟩ := h
  cases v with
  | non =>
    obtain ⟨u, rfl, rfl⟩ := vals1 r
    exact PySem.P.repr_of_none ⟨.str _, H, I.tok _, ⟨_, rfl⟩, q⟩
  | bl b =>
    obtain ⟨u, rfl, rfl⟩ := vals1 r
    exact PySem.P.repr_of_bool ⟨.str _, H, I.tok _, ⟨_, rfl⟩, by cases b <;> exact q⟩
  | int i =>
    obtain ⟨u, rfl, t, rfl⟩ := vals1 r
    exact PySem.P.repr_of_int hz ⟨.str _, H, I.tok _, ⟨_, rfl⟩, q⟩
  | str _ => exact hz.elim
  | byt _ => exact hz.elim
  | flt _ => exact hz.elim
  | ref _ => exact hz.elim
  | ty _ => exact hz.elim

/-! ### texts of small letters -/
def Small (x : Str) : Prop := ∀ c ∈ x.cps.toList, 97 ≤ c ∧ c ≤ 122
theorem Small.app {a b : Str} (ha : Small a) (hb : Small b) : Small (a ++ b) := fun c h => by
  rw [Str.cps_append, Array.toList_append, List.mem_append] at h
  rcases h with h | h
  · exact ha c h
  · exact hb c h
theorem Small.one {c : Nat} (h : 97 ≤ c ∧ c ≤ 122) : Small ⟨#[c]⟩ := fun d hd => by
  have e : d = c := by simpa using hd
  subst e
  exact h
theorem Small.at {x : Str} (h : Small x) {i c : Nat} (hi : x.cps[i]? = some c) : 97 ≤ c ∧ c ≤ 122 := by
  refine h c ?_
  have := Array.mem_of_getElem? hi
  exact Array.mem_toList_iff.mpr this
theorem Small.ok {x : Str} (h : Small x) : PyData.strOk x = true := by
  show x.cps.all (· < 0x110000) = true
  rw [Array.all_eq_true_iff_forall_mem]
  intro c hc
  have := h c (Array.mem_toList_iff.mpr hc)
  exact decide_eq_true (by omega)
/-! ### a chain of three comparisons -/
def tChain3 (r1 r2 r3 : R2) (ta tb tc td : TE) : TE := fun σ H Q => ta σ H fun x H1 => tb σ H1 fun y H2 => r1 x y H2 fun z H3 => ∃ k, z = .bl k ∧
  (if k = true then tc σ H3 fun u H4 => r2 y u H4 fun z2 H5 => ∃ k2, z2 = .bl k2 ∧ (if k2 = true then td σ H5 fun v H6 => r3 u v H6 Q else Q (.bl false) H5) else Q (.bl false) H3)
theorem pt_chain3 {X : Cx} {o1 o2 o3 : CmpOp} {r1 r2 r3 : R2} {a b c d : Expr} {ta tb tc td : TE} {pos : Pos} (h1 : OpR X (compareOp o1) r1) (h2 : OpR X (compareOp o2) r2) (h3 : OpR X (compareOp o3) r3)
    (ha : PE X a ta) (hb : PE X b tb) (hc : PE X c tc) (hd : PE X d td) (hm : lastMarks [o1, o2, o3] [b, c, d] = false := by with_unfolding_all rfl) :
    PT X (.Compare a [o1, o2, o3] [b, c, d] pos) (tTest (tChain3 r1 r2 r3 ta tb tc td)) := by
  refine ⟨fun pins s σ H Q I h => isTrue_chain (thn (ha.run pins s σ H _ I h) fun v s1 ⟨x, H1, I1, e1, q1⟩ => test_link ?_) hm⟩
  refine thn (hb.run pins s1 σ H1 _ I1 q1) fun u s2 ⟨y, H2, I2, e2, q2⟩ => ?_
  refine thn (h1 pins s2 σ H2 x y v u _ I2 e1 e2 q2) fun dv s3 ⟨z, H3, I3, e3, k, ek, q3⟩ => ?_
  subst ek
  cases e3
  refine wpAny_truthy_bool ?_
  cases k with
  | false =>
    obtain ⟨k', e', q'⟩ := q3
    cases e'
    exact ite_ff ⟨H3, I3, q'⟩
  | true =>
    refine ite_tt (test_link ?_)
    refine thn (hc.run pins s3 σ H3 _ I3 q3) fun u4 s4 ⟨y4, H4, I4, e4, q4⟩ => ?_
    refine thn (h2 pins s4 σ H4 y y4 u u4 _ I4 e2 e4 q4) fun dv5 s5 ⟨z5, H5, I5, e5, k5, ek5, q5⟩ => ?_
    subst ek5
    cases e5
    refine wpAny_truthy_bool ?_
    cases k5 with
    | false =>
      obtain ⟨k', e', q'⟩ := q5
      cases e'
      exact ite_ff ⟨H5, I5, q'⟩
    | true =>
      refine ite_tt (test_last ?_)
      refine thn (hd.run pins s5 σ H5 _ I5 q5) fun u6 s6 ⟨y6, H6, I6, e6, q6⟩ => ?_
      refine thn (h3 pins s6 σ H6 y4 y6 u4 u6 _ I6 e4 e6 q6) fun dv7 s7 ⟨z7, H7, I7, e7, k7, ek7, q7⟩ => ?_
      subst ek7
      cases e7
      exact wpAny_truthy_bool ⟨H7, I7, q7⟩
theorem inSeq (K : PySem.W.Frag) {X : Cx} (h : X.K = K := by rfl) : OpR X (compareOp .In) (rIn K false) := h ▸ op_in_seq
theorem notInSeq (K : PySem.W.Frag) {X : Cx} (h : X.K = K := by rfl) : OpR X (compareOp .NotIn) (rIn K true) := h ▸ op_notIn_seq
/-! ### join with nothing between -/
theorem join_str (ys : List Str) : Txt.join "" ys = Str.join "" ys := eq_of_beq (join_closes (ys := ys) rfl)
theorem sjoin_le {m : Nat} : ∀ {ys : List Str}, (∀ y ∈ ys, y.length ≤ m) → (Str.join "" ys).length ≤ ys.length * m
  | [], _ => Nat.zero_le _
  | [y], h => by
    have := h y (List.mem_cons_self ..)
    show y.length ≤ 1 * m
    omega
  | y :: z :: r, h => by
    have h1 := h y (List.mem_cons_self ..)
    have h2 := sjoin_le (ys := z :: r) fun x hx => h x (List.mem_cons_of_mem _ hx)
    show (y ++ "" ++ Str.join "" (z :: r)).length ≤ _
    rw [Str.length_append, Str.length_append, List.length_cons, Nat.succ_mul]
    show y.length + 0 + _ ≤ _
    omega
theorem small_nil : Small "" := by
  unfold Small
  decide +kernel
theorem sjoin_small : ∀ {ys : List Str}, (∀ y ∈ ys, Small y) → Small (Str.join "" ys)
  | [], _ => small_nil
  | [y], h => h y (List.mem_cons_self ..)
  | y :: z :: r, h => ((h y (List.mem_cons_self ..)).app small_nil).app (sjoin_small (ys := z :: r) fun x hx => h x (List.mem_cons_of_mem _ hx))
theorem join_le {m : Nat} {ys : List Str} (h : ∀ y ∈ ys, y.length ≤ m) : (Txt.join "" ys).length ≤ ys.length * m := by
  rw [join_str]
  exact sjoin_le h
theorem join_small {ys : List Str} (h : ∀ y ∈ ys, Small y) : Small (Txt.join "" ys) := by
  rw [join_str]
  exact sjoin_small h

/-! ### a walk over a text's signs -/
theorem for_str {x : Str} {g : TG} {tb : TS} {D : Ends} {σ : L2.St} {H : Hp} (Pv : Nat → L2.St → Hp → Prop) (h0 : Pv 0 σ H)
    (hs : ∀ i c σ H, x.cps[i]? = some c → Pv i σ H → g (.str ⟨#[c]⟩) σ H fun σ2 H2 => tb { D with nx := Pv (i + 1), ct := Pv (i + 1), bk := D.nx } σ2 H2) (hd : ∀ σ H, Pv x.cps.size σ H → D.nx σ H) :
    ∃ W : Nat → Nat → L2.St → Hp → Prop, (∃ m, W 0 m σ H) ∧ ∀ i m σ H, W i m σ H →
      ((Its x).stop i H ∧ D.nx σ H) ∨ ((Its x).go i H ∧ ∃ N : L2.St → Hp → Prop, (∀ σ' H', N σ' H' → ∃ m', m' < m ∧ W (i + 1) m' σ' H') ∧ ∀ y H', (Its x).yld i H y H' → g y σ H' fun σ2 H2 => tb { D with nx := N, ct := N, bk := D.nx } σ2 H2) := by
  refine ⟨fun i m σ H => m = x.cps.size - i ∧ i ≤ x.cps.size ∧ Pv i σ H, ⟨x.cps.size, by simp, Nat.zero_le _, h0⟩, ?_⟩
  rintro i m σ H ⟨rfl, hi, p⟩
  by_cases hlt : i < x.cps.size
  · refine .inr ⟨hlt, Pv (i + 1), fun σ' H' p' => ⟨x.cps.size - (i + 1), by omega, rfl, hlt, p'⟩, fun y H' z => ?_⟩
    obtain ⟨e, c, hc, ev⟩ := z
    subst e ev
    exact hs i c σ _ hc p
  · have e : i = x.cps.size := by omega
    subst e
    exact .inl ⟨Nat.le_refl _, hd σ H p⟩
theorem lc_str {x : Str} {g : TG} {tt : TT} {te : TE} {vs : List Nat} {σ : L2.St} {H1 : Hp} {D : Addr} {Qd : Hp → Prop} (Pv : Nat → Hp → Prop) (h0 : Pv 0 (upd H1 D (.lst [])))
    (hs : ∀ i c H, x.cps[i]? = some c → Pv i H → g (.str ⟨#[c]⟩) (wipe σ vs) H fun σ2 H2 => wipe σ2 vs = wipe σ vs ∧ tt σ2 H2 fun b H3 =>
      if b = true then te σ2 H3 fun y H4 => ∃ acc, H4 D = some (.lst acc) ∧ acc.length < sizeLine ∧ Pv (i + 1) (upd H4 D (.lst (acc ++ [y]))) else Pv (i + 1) H3) (hd : ∀ H, Pv x.cps.size H → Qd H) :
    ∃ W : Nat → Nat → Hp → Prop, (∃ m, W 0 m (upd H1 D (.lst []))) ∧ ∀ i m H, W i m H →
      ((Its x).stop i H ∧ Qd H) ∨ ((Its x).go i H ∧ ∃ Nx : Hp → Prop, (∀ H', Nx H' → ∃ m', m' < m ∧ W (i + 1) m' H') ∧ ∀ y H', (Its x).yld i H y H' → g y (wipe σ vs) H' fun σ2 H2 => wipe σ2 vs = wipe σ vs ∧ tt σ2 H2 fun b H3 =>
        if b = true then te σ2 H3 fun y H4 => ∃ acc, H4 D = some (.lst acc) ∧ acc.length < sizeLine ∧ Nx (upd H4 D (.lst (acc ++ [y]))) else Nx H3) := by
  refine ⟨fun i m H => m = x.cps.size - i ∧ i ≤ x.cps.size ∧ Pv i H, ⟨x.cps.size, by simp, Nat.zero_le _, h0⟩, ?_⟩
  rintro i m H ⟨rfl, hi, p⟩
  by_cases hlt : i < x.cps.size
  · refine .inr ⟨hlt, Pv (i + 1), fun H' p' => ⟨x.cps.size - (i + 1), by omega, rfl, hlt, p'⟩, fun y H' z => ?_⟩
    obtain ⟨e, c, hc, ev⟩ := z
    subst e ev
    exact hs i c _ hc p
  · have e : i = x.cps.size := by omega
    subst e
    exact .inl ⟨Nat.le_refl _, hd H p⟩

/-! ### what stays in the heap, but the thing at p -/
def Kp (p : Addr) (H H' : Hp) : Prop := ∀ b o, b ≠ p → H b = some o → H' b = some o
theorem Kp.refl {p : Addr} {H : Hp} : Kp p H H := fun _ _ _ e => e
theorem Kp.trans {p : Addr} {H H1 H2 : Hp} (a : Kp p H H1) (b : Kp p H1 H2) : Kp p H H2 := fun c o n e => b c o n (a c o n e)
theorem Kp.new {p q : Addr} {H : Hp} {o : HO} (h : H q = none) : Kp p H (upd H q o) := fun b x _ e => by
  rw [upd_ne (ne_of_none e h)]
  exact e
theorem Kp.at {p : Addr} {H : Hp} {o : HO} : Kp p H (upd H p o) := fun b x n e => by
  rw [upd_ne n]
  exact e
/-- a change of what stood nowhere in H -/
theorem Kp.put {p q : Addr} {H H1 : Hp} {o : HO} (k : Kp p H H1) (h : H q = none) : Kp p H (upd H1 q o) := fun b x n e => by
  rw [upd_ne (ne_of_none e h)]
  exact k b x n e
theorem Kp.tup {p : Addr} {H H' : Hp} {ys : List V} {b : Addr} {xs : List V} (k : Kp p H H') (hp : H p = some (.lst ys)) (h : H b = some (.tup xs)) : H' b = some (.tup xs) :=
  k b _ (ne_of h hp (by intro z; cases z)) h
theorem Kp.some {p : Addr} {H H' : Hp} (k : Kp p H H') (hp : ∃ o, H' p = some o) {b : Addr} (h : H' b = none) : H b = none := by
  cases e : H b with
  | none => rfl
  | some o =>
    by_cases n : b = p
    · subst n
      obtain ⟨o', e'⟩ := hp
      rw [e'] at h
      cases h
    · rw [k b o n e] at h
      cases h

/-! ### arguments by names, in another order -/
def permV (js : List Nat) : List V → List V → List V := fun _ zs => js.map fun j => zs.getD j .non
def permU (js : List Nat) : List Value → List Value → List Value := fun _ ws => js.map fun j => ws.getD j .none
theorem vals_getD : ∀ {zs : List V} {ws : List Value} (j : Nat), Vals zs ws → RelV (zs.getD j .non) (ws.getD j .none)
  | _, _, _, .nil => rfl
  | _, _, 0, .cons r _ => r
  | _, _, j + 1, .cons _ t => vals_getD j t
theorem perm_rel {zs : List V} {ws : List Value} (r : Vals zs ws) : ∀ js : List Nat, Vals (js.map fun j => zs.getD j .non) (js.map fun j => ws.getD j .none)
  | [] => .nil
  | j :: js => .cons (vals_getD j r) (perm_rel r js)
theorem kbn_of {K : PySem.W.Frag} {fd : FuncData} {ps ks : List Str} (js : List Nat) (h : ∀ ws : List Value, ws.length = ks.length → bindArgs fd ⟨[], ks.zip ws⟩ = pure (ps.zip (js.map fun j => ws.getD j .none))) :
    KBn K fd ps 0 ks (permU js) (permV js) where
  to := fun s us ws _ hu hw => by
    obtain rfl := List.length_eq_zero_iff.mp hu
    exact .of_eq (h ws hw)
  rel := fun _ r => perm_rel r js
/-! ### what is added, and nothing changed -/
def Ext (H H' : Hp) : Prop := ∀ b o, H b = some o → H' b = some o
theorem Ext.refl {H : Hp} : Ext H H := fun _ _ e => e
theorem Ext.trans {H H1 H2 : Hp} (a : Ext H H1) (b : Ext H1 H2) : Ext H H2 := fun c o e => b c o (a c o e)
theorem Ext.new {q : Addr} {H : Hp} {o : HO} (h : H q = none) : Ext H (upd H q o) := fun b x e => by
  rw [upd_ne (ne_of_none e h)]
  exact e
theorem Ext.put {q : Addr} {H H1 : Hp} {o : HO} (k : Ext H H1) (h : H q = none) : Ext H (upd H1 q o) := fun b x e => by
  rw [upd_ne (ne_of_none e h)]
  exact k b x e
theorem Ext.none {H H' : Hp} (k : Ext H H') {q : Addr} (h : H' q = none) : H q = none := by
  cases e : H q with
  | none => rfl
  | some o =>
    rw [k q o e] at h
    cases h

theorem atI_get {α : Type} {xs : List α} {i : Int} (h0 : 0 ≤ i) (h1 : i < xs.length) : atI xs i = some (xs[i.toNat]'(by omega)) := by
  unfold atI ixN
  rw [if_pos h0, if_pos h1]
  exact List.getElem?_eq_getElem _
theorem atI_ints {ns : List Int} {i : Int} (h0 : 0 ≤ i) (h1 : i < ns.length) : ∃ z, z ∈ ns ∧ atI (ns.map V.int) i = some (.int z) := by
  have h2 : i < (ns.map V.int).length := by rw [List.length_map]; exact h1
  refine ⟨ns[i.toNat]'(by omega), List.getElem_mem _, ?_⟩
  rw [atI_get h0 h2, List.getElem_map]
theorem atI_mem {α : Type} {xs : List α} {i : Int} (h0 : 0 ≤ i) (h1 : i < xs.length) : ∃ v, v ∈ xs ∧ atI xs i = some v :=
  ⟨xs[i.toNat]'(by omega), List.getElem_mem _, atI_get h0 h1⟩
theorem len_pos {x : Str} (h : ¬ x = "") : 1 ≤ x.length := by
  obtain ⟨⟨l⟩⟩ := x
  cases l with
  | nil => exact absurd (by decide +kernel) h
  | cons a r =>
    show 1 ≤ (a :: r).length
    exact Nat.succ_pos _
theorem natAbs_lt_of {i : Int} {n : Nat} (h0 : -(n : Int) < i) (h1 : i < n) : i.natAbs < n := by omega
theorem log2_small {i : Int} (h : i.natAbs < 2 ^ 64) : i.natAbs.log2 < 1920 := by
  by_cases z : i.natAbs = 0
  · rw [z]
    decide
  · exact (Nat.log2_lt z).mpr (Nat.lt_of_lt_of_le h (Nat.pow_le_pow_right (by decide) (by decide)))
theorem szL {n : Nat} (h : n ≤ 1000000) : n ≤ sizeLine := by
  rw [sizeLine_eq]
  omega
theorem szLt {n : Nat} (h : n < 1000000) : n < sizeLine := by
  rw [sizeLine_eq]
  omega
end Pf


namespace Pf
open PySem PySem.Spec PyProof.Rows L2
/-! ### the law's own call: made by nobody, nothing being shown meanwhile -/
structure FnG (P : Program) (w : World) (K : PySem.W.Frag) (mg : Str → Option Value) (base : Heap) (f : Addr) (fd : FuncData) (ps : List Str) (sp : Sp) : Prop where
  run : ∀ (s : Shared) (H : Hp) (args : Args) (us : List Value) (vs : List V) (Q : VK) (E : XK), Env0 P w K mg base callerA [] s H → BindsTo s fd args (ps.zip us) → Vals vs us → sp vs H Q E →
    codeAny (model P w) callerA (.call (.ref f) args) (CR CX0 [] P w H s Q E) s
theorem FnG.of {P : Program} {w : World} {K : PySem.W.Frag} {mg : Str → Option Value} {base : Heap} {k : Nat} {f : Addr} {fd : FuncData} {x qual : Str} {st : Stmt} {N ps : List Str} {sp : Sp} (F : Fun K x qual st f fd) (S : FnScope N ps (defScope st))
    (room : Room (k + 1) callerA) (len : ∀ vs H Q E, sp vs H Q E → vs.length = ps.length)
    (body : ∀ (cdv : Value) (s : Shared) (H : Hp) (vs : List V) (Q : VK) (E : XK), Room k (callerA.deeper (envOfC qual (defScope st) s.heap.objs.size f cdv)) → (callerA.deeper (envOfC qual (defScope st) s.heap.objs.size f cdv)).guards = some [] → sp vs H Q E →
      ∃ t, PSs (cxOf CX0 P w K mg base N qual (defScope st) f cdv callerA [] s H E).nox (defBody st) t ∧ t { nx := fun _ H' => Q .non H', rt := Q } (start N vs) H) : FnG P w K mg base f fd ps sp := by
  obtain ⟨oc, od, kV, doc, pm, an, cdv, ct, osl, rfl, lk, hcd⟩ := F.ex
  refine ⟨fun s H args us vs Q E env0 bnd rel hsp => ?_⟩
  have inS : K.In s.heap := env0.mod.kin.keeps fun b o e => (env0.bs b o e).1
  have limS : s.heap.NoLimit := env0.mod.nolimit.keeps fun b o e => (env0.bs b o e).1
  have kinds : ∀ y ∈ ps.zip us, (defScope st).names.lookup y.1 = some .local ∨ ((defScope st).names.lookup y.1 = some .cell ∧ ((cellsFrom (s.heap.objs.size + 1) (defScope st).names []).lookup y.1).isSome = true) := by
    rintro ⟨n, v⟩ hy
    cases S.par n (List.of_mem_zip hy).1 with
    | inl q => exact .inl q
    | inr q => exact .inr ⟨q, PySem.W.cellsFrom_some _ _ _ (.inl q)⟩
  refine codeAny_call_function room.depth (inS _ _ lk) rfl S.co S.gen rfl (PySem.W.codeRec_of inS hcd) (bnd _ _ _ _ ?_)
  refine wpAny_newFunctionEnv_cells S.kind kinds fun env0' he s1 inC => ?_
  subst he
  refine ⟨limS.keeps inC.toInCall.keep, codeAny_func ?_⟩
  obtain ⟨t, ht, hq⟩ := body cdv s H vs Q E (room.deeper _) rfl hsp
  have I0 : Inv (cxOf CX0 P w K mg base N qual (defScope st) f cdv callerA [] s H E) [] (start N vs) H s1 := inv_start S room.hd env0 (len _ _ _ _ hsp) rel inC
  refine wpAny_mono (ht.nox.run [] s1 (start N vs) H _ I0 hq) (fun fl s' hs => ?_) fun _ _ z => z
  cases fl with
  | ret u =>
    obtain ⟨v, σ', H', J, rv, q⟩ := hs
    exact ⟨v, H', J.os, J.bare, J.base, J.hok, rv, q⟩
  | next =>
    obtain ⟨σ', H', J, q⟩ := hs
    exact ⟨.non, H', J.os, J.bare, J.base, J.hok, rfl, q⟩
  | brk => exact False.elim (by obtain ⟨_, _, _, q⟩ := hs; exact q)
  | cont => exact False.elim (by obtain ⟨_, _, _, q⟩ := hs; exact q)
/-- its end: from an abstract heap that holds the script or nothing -/
theorem FnG.ends {P : Program} {w : World} {K : PySem.W.Frag} {mg mb : Str → Option Value} {fa a : Addr} {fd : FuncData} {x : Str} {sp : Sp} {s1 : Shared} {vs : List Value} {ns : List Int}
    (inK : K.In s1.heap) (gl : s1.heap.Ns mainGlobals mg) (bl : s1.heap.Ns builtinsNs mb) (bb : ∀ x : Str, x ≠ "__name__" → mb x = bootBuiltins x) (lim : s1.heap.NoLimit) (gens : s1.gens = #[])
    (hscr : s1.heap.get? a = some { cls := .type "list", data := .seq vs.toArray }) (hin : IntsAre vs ns) (F : ∀ base : Heap, K.In base → base.Ns mainGlobals mg → FnG P w K mg base fa fd [x] sp) (bnd : ∀ (s : Shared) (u : Value), BindsTo s fd ⟨[u], []⟩ [(x, u)])
    {H : Hp} (only : Only H) (hsp : sp [.ref a] H (fun v _ => v = .bl true) fun _ _ _ => False) (hok : HOk P w H s1.heap) (hA : ∀ b, H b ≠ none → b = a) (hK : H a ≠ none → K.lookup a = none) :
    codeAny (model P w) callerA (.call (.ref fa) ⟨[.ref a], []⟩) (fun r s' => r = .ok (.ret (.bool true)) ∧ OldK s1.heap s'.heap ∧ s'.os = s1.os ∧ AllBare s'.gens) s1 := by
  have isA : ∀ {b : Addr} {u : HO}, H b = some u → b = a := fun {b u} q => hA b (by rw [q]; exact Option.some_ne_none _)
  have hid : ∀ {b : Addr} {o : Obj}, s1.heap.get? b = some o → H b = none → (hidT s1.heap H).get? b = some o := fun e n => hidT_get e n
  have dictN : ∀ {b : Addr} {o : Obj} {es : Array DictEntry} {ep : Nat}, s1.heap.get? b = some o → o.data = .dict es ep → H b = none := by
    intro b o es ep e d
    cases q : H b with
    | none => rfl
    | some u =>
      obtain rfl := isA q
      rw [hscr] at e
      cases e
      exact nomatch d
  have nsH : ∀ {b : Addr} {m : Str → Option Value}, s1.heap.Ns b m → (hidT s1.heap H).Ns b m := by
    rintro b m ⟨o, es, ep, e, d, r⟩
    exact ⟨o, es, ep, hid e (dictN e d), d, r⟩
  have inB : K.In (hidT s1.heap H) := by
    intro b o e
    refine hid (inK b o e) ?_
    cases q : H b with
    | none => rfl
    | some u =>
      obtain rfl := isA q
      rw [hK (by rw [q]; exact Option.some_ne_none _)] at e
      cases e
  have limB : (hidT s1.heap H).NoLimit := by
    obtain ⟨mc, h1, h2⟩ := lim
    exact ⟨mc, nsH h1, h2⟩
  have env0 : Env0 P w K mg (hidT s1.heap H) callerA [] s1 H :=
    ⟨rfl, ⟨inB, nsH gl, ⟨mb, nsH bl, bb⟩, limB⟩, fun b o e => of_hidT e, Nat.le_of_eq (hidT_size _ _), trivial, fun b hb => (nomatch (show b ∈ ([] : List Addr) from hb)), hok, .of_eq gens⟩
  refine codeAny_mono ((F _ inB (nsH gl)).run s1 H ⟨[.ref a], []⟩ [.ref a] [.ref a] _ _ env0 (bnd s1 (.ref a)) (.cons rfl .nil) hsp) fun r s' h => ?_
  match r, h with
  | .error _, h => exact False.elim h
  | .ok .next, h => exact False.elim h
  | .ok .brk, h => exact False.elim h
  | .ok .cont, h => exact False.elim h
  | .ok (.ret u), h =>
    obtain ⟨v, H', os, bare, un, hok', rel, q⟩ := h
    obtain rfl : v = .bl true := q
    obtain rfl : u = Value.bool true := rel
    refine ⟨rfl, OldK.of_keep fun b o e => ?_, os, bare⟩
    cases q : H b with
    | none => exact un.keep b o e q (fun z => (nomatch (show b ∈ ([] : List Addr) from z))) (by simp)
    | some u =>
      cases only b with
      | inl z => rw [q] at z; cases z
      | inr z =>
        obtain ⟨ob, xs, z⟩ := z
        have kept := (hok' b _ (un.frzs b ob _ z)).1
        have was := (hok b _ z).1
        rw [e] at was
        cases was
        exact kept
theorem walk_g {l : PySem.W.OpenLaw} {n : Nat} {q : Program} {loose : List Str} {XP : (Str → Option Value) → Heap → Prop} {YP : World → Heap → Prop} {d : DefRec} {K : Params → PySem.W.Frag} {sp : World → Sp} {x : Str}
    (hn : l.most = some n) (hn2 : n ≤ sizeLine) (hdf : d.params.defaults = []) (hY : ∀ (w : World) (h : Heap), YP w h → (K w.params).In h)
    (F : ∀ (w : World) (mg : Str → Option Value) (fa : Addr) (h : Heap), (K w.params).In h → h.Ns mainGlobals mg → mg d.name = some (.ref fa) →
      ∃ fd : FuncData, (∀ (s : Shared) (u : Value), BindsTo s fd ⟨[u], []⟩ [(x, u)]) ∧ ∀ base : Heap, (K w.params).In base → base.Ns mainGlobals mg → FnG l.prog w (K w.params) mg base fa fd [x] (sp w))
    (hsp : ∀ (w : World) (H : Hp) (a : Addr) (ns : List Int), ns.length ≤ n → SqL (K w.params) H a (ns.map V.int) → sp w [.ref a] H (fun v _ => v = .bl true) fun _ _ _ => False) :
    PySem.W.WalkO q loose XP YP l.row.toRowW d [] (fun f vs => PySem.call f vs) := by
  refine Att.attach_call hn hdf fun w s0 s1 mg mb fa o pm cd doc a vs ns G Y ho hd hcd hmg hobj hints hlen hg => ?_
  have inK := hY w _ Y
  obtain ⟨fd, bnd, hF⟩ := F w mg fa _ inK G.T.g hmg
  have szs : ns.length ≤ sizeLine := Nat.le_trans hlen hn2
  have vals := vals_ints hints
  cases hk : (K w.params).lookup a with
  | some ob =>
    have e := inK a ob hk
    rw [hobj] at e
    cases e
    have here : SqL (K w.params) (fun _ => none) a (ns.map V.int) := .inr ⟨_, vs.toArray, _, hk, rfl, rfl, rfl, by rw [List.size_toArray, hints.length]; exact szs, by simpa using vals⟩
    exact FnG.ends inK G.T.g G.T.b G.T.builtins G.T.nolimit hg hobj hints hF bnd (fun _ => .inl rfl) (hsp w _ a ns hlen here) (fun _ _ z => (nomatch z)) (fun b z => absurd rfl z) fun z => absurd rfl z
  | none =>
    have here : SqL (K w.params) (fun b => if b = a then some (.frz { cls := .type "list", data := .seq vs.toArray } (.lst (ns.map V.int))) else none) a (ns.map V.int) := .inl (.inr ⟨_, if_pos rfl⟩)
    refine FnG.ends inK G.T.g G.T.b G.T.builtins G.T.nolimit hg hobj hints hF bnd (fun b => ?_) (hsp w _ a ns hlen here) (fun b u z => ?_) (fun b z => ?_) fun _ => hk
    · exact if h : b = a then .inr ⟨_, _, if_pos h⟩ else .inl (if_neg h)
    · by_cases h : b = a
      · rw [if_pos h] at z
        cases z
        subst h
        exact ⟨hobj, by rw [List.length_map]; exact szs, vs, _, vals, hobj⟩
      · rw [if_neg h] at z
        cases z
    · by_cases h : b = a
      · exact h
      · exact absurd (if_neg h) z
/-! ### data that are small: how much they weigh, how deep they are -/
structure Sm (m k : Nat) (d : PyData) : Prop where
  lay : d.canLay0 = true
  sho : d.showable = true
  ish : d.intsShort 13 = true
  wt : d.weight ≤ m
  dep : d.depth ≤ k
theorem Sm.le {m k m' k' : Nat} {d : PyData} (h : Sm m k d) (hm : m ≤ m') (hk : k ≤ k') : Sm m' k' d := ⟨h.lay, h.sho, h.ish, Nat.le_trans h.wt hm, Nat.le_trans h.dep hk⟩
theorem Sm.non : Sm 0 0 .none := ⟨by simp [PyData.canLay0], by simp [PyData.showable], by simp [PyData.intsShort], by simp [PyData.weight], by simp [PyData.depth]⟩
theorem Sm.bl (b : Bool) : Sm 0 0 (.bool b) := ⟨by simp [PyData.canLay0], by simp [PyData.showable], by simp [PyData.intsShort], by simp [PyData.weight], by simp [PyData.depth]⟩
theorem Sm.int {i : Int} (h0 : -1000000000 < i) (h1 : i < 1000000000) : Sm 64 0 (.int i) := by
  have hb : i.natAbs < 2 ^ 64 := by omega
  have hl : i.natAbs.log2 < 64 := by
    by_cases z : i.natAbs = 0
    · rw [z]
      decide
    · exact (Nat.log2_lt z).mpr hb
  refine ⟨by simp [PyData.canLay0], ?_, ?_, ?_, by simp [PyData.depth]⟩
  · simp only [PyData.showable]
    exact decide_eq_true (by omega)
  · simp only [PyData.intsShort, PyData.shown]
    refine decide_eq_true ?_
    by_cases hn : i < 0
    · rw [len_text_neg hn]
      have := toString_length_le (v := 0 - i) (k := 9) (by omega) (by decide) (by omega)
      omega
    · have := toString_length_le (v := i) (k := 9) (by omega) (by decide) (by omega)
      omega
  · simp only [PyData.weight]
    split <;> omega
theorem Sm.str {x : Str} {n : Nat} (h : PyData.strOk x = true) (hn : x.length ≤ n) : Sm n 0 (.str x) :=
  ⟨by simpa only [PyData.canLay0] using h, by simp [PyData.showable], by simp [PyData.intsShort], by simp only [PyData.weight]; exact hn, by simp [PyData.depth]⟩
structure SmA (n m k : Nat) (ds : List PyData) : Prop where
  lay : PyData.canLayAll0 ds = true
  sho : PyData.showableAll ds = true
  ish : PyData.intsShortAll 13 ds = true
  wt : PyData.weightAll ds ≤ ds.length * (m + 1)
  dep : PyData.depthAll ds ≤ k
theorem SmA.of {m k : Nat} : ∀ {ds : List PyData}, (∀ d ∈ ds, Sm m k d) → SmA ds.length m k ds
  | [], _ => ⟨by simp [PyData.canLayAll0], by simp [PyData.showableAll], by simp [PyData.intsShortAll], by simp [PyData.weightAll], by simp [PyData.depthAll]⟩
  | d :: ds, h => by
    have h1 := h d (List.mem_cons_self ..)
    have h2 := SmA.of (ds := ds) fun x hx => h x (List.mem_cons_of_mem _ hx)
    refine ⟨by simp [PyData.canLayAll0, h1.lay, h2.lay], by simp [PyData.showableAll, h1.sho, h2.sho], by simp [PyData.intsShortAll, h1.ish, h2.ish], ?_, ?_⟩
    · have e1 := h1.wt
      have e2 := h2.wt
      simp only [PyData.weightAll, List.length_cons, Nat.succ_mul]
      omega
    · simp only [PyData.depthAll]
      exact Nat.max_le.mpr ⟨h1.dep, h2.dep⟩
theorem Sm.lst {n m k M : Nat} {ds : List PyData} (hn : ds.length ≤ n) (h : ∀ d ∈ ds, Sm m k d) (hM : n * (m + 1) ≤ M) : Sm M (k + 1) (.list ds) := by
  have a := SmA.of h
  have hw : ds.length * (m + 1) ≤ n * (m + 1) := Nat.mul_le_mul_right _ hn
  exact ⟨by simpa only [PyData.canLay0] using a.lay, by simpa only [PyData.showable] using a.sho, by simpa only [PyData.intsShort] using a.ish, by simp only [PyData.weight]; exact Nat.le_trans a.wt (Nat.le_trans hw hM), by simp only [PyData.depth]; exact Nat.succ_le_succ a.dep⟩
theorem Sm.tup {n m k M : Nat} {ds : List PyData} (hn : ds.length ≤ n) (h : ∀ d ∈ ds, Sm m k d) (hM : n * (m + 1) ≤ M) : Sm M (k + 1) (.tuple ds) := by
  have a := SmA.of h
  have hw : ds.length * (m + 1) ≤ n * (m + 1) := Nat.mul_le_mul_right _ hn
  exact ⟨by simpa only [PyData.canLay0] using a.lay, by simpa only [PyData.showable] using a.sho, by simpa only [PyData.intsShort] using a.ish, by simp only [PyData.weight]; exact Nat.le_trans a.wt (Nat.le_trans hw hM), by simp only [PyData.depth]; exact Nat.succ_le_succ a.dep⟩
theorem Sm.shaped {m k : Nat} {d : PyData} (h : Sm m k d) (hk : k ≤ 50) : SeqAt.shaped d = true := by
  show (d.canLay0 && decide (d.depth ≤ 64)) = true
  rw [h.lay, decide_eq_true (show d.depth ≤ 64 from Nat.le_trans h.dep (by omega))]
  rfl
theorem Sm.short {m k : Nat} {d : PyData} (h : Sm m k d) (hm : m ≤ 1000000) (hk : k ≤ 50) : d.shown.length ≤ sizeLine := by
  have e : PyData.layable0 d = true := by
    show (d.canLay0 && decide (d.depth ≤ 64) && decide (d.weight ≤ 2 ^ 20)) = true
    rw [h.lay, decide_eq_true (show d.depth ≤ 64 from Nat.le_trans h.dep (by omega)), decide_eq_true (show d.weight ≤ 2 ^ 20 from Nat.le_trans h.wt (by omega))]
    rfl
  have := shown_le13 e h.ish
  rw [sizeLine_eq]
  omega
/-! ### repr of data at any depth -/
def rShow (K : PySem.W.Frag) : List V → Hp → VK → Prop := fun xs H Q => ∃ v d m k, xs = [v] ∧ Dp K H v d ∧ Sm m k d ∧ m ≤ 1000000 ∧ k ≤ 50 ∧ Q (.str d.shown) H
theorem call_show (K : PySem.W.Frag) {X : Cx} (hg : X.A.guards = some []) (hu : X.A.units + 64 < cLine) (hK : X.K = K := by rfl) : CallR X (.builtin "repr") (rShow K) := by
  subst hK
  intro pins s σ H xs us Q I r h
  obtain ⟨v, d, m, k, rfl, hd, sh, hm, hk, q⟩ := h
  have hdep := sh.dep
  have hz := sh.short hm hk
  cases hd with
  | non =>
    obtain ⟨u, rfl, rfl⟩ := vals1 r
    exact PySem.P.repr_of_none ⟨.str _, H, I.tok _, ⟨_, rfl⟩, by simpa only [PyData.shown] using q⟩
  | bl b =>
    obtain ⟨u, rfl, rfl⟩ := vals1 r
    refine PySem.P.repr_of_bool ⟨.str _, H, I.tok _, ⟨_, rfl⟩, ?_⟩
    simp only [PyData.shown] at q
    cases b <;> exact q
  | int i =>
    obtain ⟨u, rfl, t, rfl⟩ := vals1 r
    have hi : i.natAbs.log2 < 1920 := by simpa [PyData.showable] using sh.sho
    exact PySem.P.repr_of_int hi ⟨.str _, H, I.tok _, ⟨_, rfl⟩, by simpa only [PyData.shown] using q⟩
  | str x =>
    obtain ⟨u, rfl, t, rfl⟩ := vals1 r
    simp only [PyData.shown] at q hz
    exact PySem.P.repr_of_str ⟨.str _, H, I.tok _, ⟨_, rfl⟩, q⟩ hz
  | @lst a ys ds hs hds =>
    obtain ⟨u, rfl, rfl⟩ := vals1 r
    obtain ⟨as, rd⟩ := Dp.reads I _ _ _ (Dp.lst hs hds) (show RelV (.ref a) (.ref a) from rfl)
    exact PySem.repr_of_reads' rd sh.sho (PyData.noDict_hsm (PyData.hasDict_of_canLay _ sh.lay)) hg (by omega) (fun _ _ e => e) (fun h' u tk keep => ⟨.str _, H, I.kept keep, ⟨_, rfl⟩, q⟩) hz
  | @tup a ys ds hs hds =>
    obtain ⟨u, rfl, rfl⟩ := vals1 r
    obtain ⟨as, rd⟩ := Dp.reads I _ _ _ (Dp.tup hs hds) (show RelV (.ref a) (.ref a) from rfl)
    exact PySem.repr_of_reads' rd sh.sho (PyData.noDict_hsm (PyData.hasDict_of_canLay _ sh.lay)) hg (by omega) (fun _ _ e => e) (fun h' u tk keep => ⟨.str _, H, I.kept keep, ⟨_, rfl⟩, q⟩) hz
/-! ### sorted of data -/
def rSortD (K : PySem.W.Frag) : List V → Hp → VK → Prop := fun vs H Q => ∃ (β : Type) (v : β → V) (d : β → PyData) (a : Addr) (bs : List β), vs = [.ref a] ∧ SqL K H a (bs.map v) ∧ (∀ b ∈ bs, Dp K H (v b) (d b) ∧ (d b).depth ≤ 50) ∧
  PySem.W.AllAlike (bs.map d) ∧ PySem.W.Sortable (bs.map d) ∧ ∀ p, H p = none → Q (.ref p) (upd H p (.lst ((bs.mergeSort (PySem.W.dataLe false d)).map v)))
section
variable {β : Type} {v : β → V} {d : β → PyData}
theorem each_vals : ∀ {bs : List β} {its : List Value}, Vals (bs.map v) its → PySem.W.EachIs (fun (u : Value) (b : β) => RelV (v b) u) its bs
  | [], _, .nil => .nil
  | _ :: _, _, .cons r t => .cons r (each_vals t)
theorem vals_each : ∀ {bs : List β} {its : List Value}, PySem.W.EachIs (fun (u : Value) (b : β) => RelV (v b) u) its bs → Vals (bs.map v) its
  | [], _, .nil => .nil
  | _ :: _, _, .cons r t => .cons r (vals_each t)
theorem each_reads {X : Cx} {pins : List (Addr × Obj)} {σ : L2.St} {H : Hp} {s : Shared} (I : Inv X pins σ H s) : ∀ {bs : List β} {its : List Value}, Vals (bs.map v) its → (∀ b ∈ bs, Dp X.K H (v b) (d b)) → PySem.W.EachIs (fun (u : Value) (b : β) => ∃ as, Reads s.heap u (d b) as) its bs
  | [], _, .nil, _ => .nil
  | b :: _, _, .cons r t, h => .cons (Dp.reads I _ _ _ (h b (List.mem_cons_self ..)) r) (each_reads I t fun x hx => h x (List.mem_cons_of_mem _ hx))
end
theorem cr_sortD (K : PySem.W.Frag) {X : Cx} (hu : X.A.units + 64 < cLine) (hK : X.K = K := by rfl) : CallR X (.builtin "sorted") (rSortD K) := by
  subst hK
  intro pins s σ H vs us Q I r h
  obtain ⟨β, v, d, a, bs, rfl, hs, hd, al, so, q⟩ := h
  obtain ⟨u, rfl, rfl⟩ := vals1 r
  obtain ⟨its, rv, hl, hz⟩ := I.list hs
  rw [List.length_map] at hz
  refine PySem.W.sorted_data (enc := d) (R := fun (u : Value) (b : β) => RelV (v b) u) hl.isList (each_vals rv) (each_reads I rv fun b hb => (hd b hb).1) al so hz (fun b hb => ?_) fun out hlen he => ?_
  · have := (hd b hb).2
    omega
  · obtain ⟨ep, he'⟩ := PyProof.Rows.sortedAll_at s.heap its out.toArray
    have hlen2 : ((bs.mergeSort (PySem.W.dataLe false d)).map v).length ≤ sizeLine := by
      rw [List.length_map, List.length_mergeSort]
      exact hz
    exact ⟨.ref _, upd H (s.heap.objs.size + 1) (.lst ((bs.mergeSort (PySem.W.dataLe false d)).map v)), I.laid (t' := s.toks) (fun _ _ => PyProof.Rows.sortedAll_old) (Nat.le_succ _) ⟨hlen2, out, ep, vals_each he, by simpa using he'⟩, rfl, q _ (I.hok.fresh (Nat.le_succ _))⟩
end Pf


namespace Pf
open PySem PySem.Spec PyProof.Rows L2
/-! ### tuples stay -/
structure TupK (H H' : Hp) : Prop where
  tup : ∀ b xs, H b = some (.tup xs) → H' b = some (.tup xs)
  frz : ∀ b o u, H b = some (.frz o u) → H' b = some (.frz o u)
instance {H H' : Hp} : CoeFun (TupK H H') (fun _ => ∀ b xs, H b = some (.tup xs) → H' b = some (.tup xs)) := ⟨TupK.tup⟩
theorem TupK.refl {H : Hp} : TupK H H := ⟨fun _ _ e => e, fun _ _ _ e => e⟩
theorem TupK.trans {H H1 H2 : Hp} (a : TupK H H1) (b : TupK H1 H2) : TupK H H2 := ⟨fun c xs e => b.tup c xs (a.tup c xs e), fun c o u e => b.frz c o u (a.frz c o u e)⟩
theorem TupK.ext {H H' : Hp} (k : Ext H H') : TupK H H' := ⟨fun b _ e => k b _ e, fun b _ _ e => k b _ e⟩
theorem TupK.new {q : Addr} {H : Hp} {o : HO} (h : H q = none) : TupK H (upd H q o) := TupK.ext (Ext.new h)
theorem TupK.lst {q : Addr} {H : Hp} {o : HO} {ys : List V} (h : H q = some (.lst ys)) : TupK H (upd H q o) := by
  refine ⟨fun b xs e => ?_, fun b o u e => ?_⟩
  · rw [upd_ne (ne_of e h (by intro z; cases z))]
    exact e
  · rw [upd_ne (ne_of e h (by intro z; cases z))]
    exact e
theorem paired_imp {α β : Type} {R S : α → β → Prop} (h : ∀ a b, R a b → S a b) : ∀ {xs : List α} {ys : List β}, Paired R xs ys → Paired S xs ys
  | _, _, .nil => .nil
  | _, _, .cons r t => .cons (h _ _ r) (paired_imp h t)
theorem paired_get {α β : Type} {R : α → β → Prop} : ∀ {xs : List α} {ys : List β} {i : Nat} {x : α}, Paired R xs ys → xs[i]? = some x → ∃ y, ys[i]? = some y ∧ R x y
  | _, _, _, _, .nil, e => by simp at e
  | _, _, 0, _, .cons r _, e => by
    simp at e
    subst e
    exact ⟨_, rfl, r⟩
  | _, _, i + 1, x, .cons _ t, e => by
    obtain ⟨y, h1, h2⟩ := paired_get (i := i) (x := x) t (by simpa using e)
    exact ⟨y, by simpa using h1, h2⟩
theorem paired_len {α β : Type} {R : α → β → Prop} : ∀ {xs : List α} {ys : List β}, Paired R xs ys → xs.length = ys.length
  | _, _, .nil => rfl
  | _, _, .cons _ t => by rw [List.length_cons, List.length_cons, paired_len t]
theorem paired_app {α β : Type} {R : α → β → Prop} : ∀ {xs xs' : List α} {ys ys' : List β}, Paired R xs ys → Paired R xs' ys' → Paired R (xs ++ xs') (ys ++ ys')
  | _, _, _, _, .nil, s => s
  | _, _, _, _, .cons r t, s => .cons r (paired_app t s)
/-! ### things as they lie in the heap -/
def PairAt (H : Hp) (v : V) (x : Str × Int) : Prop := ∃ a, v = .ref a ∧ H a = some (.tup [.str x.1, .int x.2])
def StackAt (H : Hp) (v : V) (x : Str × Str × Int) : Prop := ∃ a, v = .ref a ∧ H a = some (.tup [.str x.1, .str x.2.1, .int x.2.2])
def TwoAt (H : Hp) (v : V) (x : Int × Int) : Prop := ∃ a, v = .ref a ∧ H a = some (.tup [.int x.1, .int x.2])
def TupOf {α : Type} (R : Hp → V → α → Prop) (H : Hp) (v : V) (xs : List α) : Prop := ∃ a vs, v = .ref a ∧ H a = some (.tup vs) ∧ Paired (R H) vs xs
def Mono {α : Type} (R : Hp → V → α → Prop) : Prop := ∀ H H' v x, TupK H H' → R H v x → R H' v x
theorem PairAt.mono : Mono PairAt := fun H H' v x k ⟨a, e, h⟩ => ⟨a, e, k _ _ h⟩
theorem StackAt.mono : Mono StackAt := fun H H' v x k ⟨a, e, h⟩ => ⟨a, e, k _ _ h⟩
theorem TwoAt.mono : Mono TwoAt := fun H H' v x k ⟨a, e, h⟩ => ⟨a, e, k _ _ h⟩
theorem TupOf.mono {α : Type} {R : Hp → V → α → Prop} (m : Mono R) : Mono (TupOf R) := fun H H' v x k ⟨a, vs, e, h, r⟩ => ⟨a, vs, e, k _ _ h, paired_imp (fun _ _ => m _ _ _ _ k) r⟩
/-- a tuple whose object is known to have no dict -/
def FrzOf {α : Type} (R : Hp → V → α → Prop) (H : Hp) (v : V) (xs : List α) : Prop := ∃ (a : Addr) (o : Obj) (vs : List V), v = .ref a ∧ H a = some (.frz o (.tup vs)) ∧ o.dict = none ∧ Paired (R H) vs xs
theorem FrzOf.mono {α : Type} {R : Hp → V → α → Prop} (m : Mono R) : Mono (FrzOf R) := fun H H' v x k ⟨a, o, vs, e, h, hd, r⟩ => ⟨a, o, vs, e, k.frz _ _ _ h, hd, paired_imp (fun _ _ => m _ _ _ _ k) r⟩
theorem SqT.fz {K : PySem.W.Frag} {H : Hp} {a : Addr} {o : Obj} {xs : List V} (h : H a = some (.frz o (.tup xs))) : SqT K H a xs := .inl (.inr ⟨o, h⟩)
def IntAt (_ : Hp) (v : V) (x : Int) : Prop := v = .int x
theorem IntAt.mono : Mono IntAt := fun _ _ _ _ _ e => e
theorem paired_ints {H : Hp} : ∀ ns : List Int, Paired (IntAt H) (ns.map V.int) ns
  | [] => .nil
  | _ :: r => .cons rfl (paired_ints r)
structure Rl where
  letters : Str
  prs : List (Str × Int)
  span : Int
  loops : List Int
  stk : List (Str × Str × Int)
def RulesAt (H : Hp) (v : V) (r : Rl) : Prop := ∃ a vp vl vs, v = .ref a ∧ H a = some (.tup [.str r.letters, vp, .int r.span, vl, vs]) ∧ FrzOf PairAt H vp r.prs ∧ TupOf IntAt H vl r.loops ∧ TupOf StackAt H vs r.stk
theorem RulesAt.mono : Mono RulesAt := fun H H' v x k ⟨a, vp, vl, vs, e, h, h1, h2, h3⟩ => ⟨a, vp, vl, vs, e, k _ _ h, FrzOf.mono PairAt.mono _ _ _ _ k h1, TupOf.mono IntAt.mono _ _ _ _ k h2, TupOf.mono StackAt.mono _ _ _ _ k h3⟩
/-- pairs as a tuple of either make -/
def PrsW (H : Hp) (v : V) (xs : List (Str × Int)) : Prop := ∃ (a : Addr) (vs : List V), v = .ref a ∧ ((∃ o, H a = some (.frz o (.tup vs))) ∨ H a = some (.tup vs)) ∧ Paired (PairAt H) vs xs
theorem PrsW.mono : Mono PrsW := fun H H' v x k ⟨a, vs, e, h, r⟩ => ⟨a, vs, e, h.elim (fun ⟨o, h⟩ => .inl ⟨o, k.frz _ _ _ h⟩) (fun h => .inr (k _ _ h)), paired_imp (fun _ _ => PairAt.mono _ _ _ _ k) r⟩
theorem SqT.w {K : PySem.W.Frag} {H : Hp} {a : Addr} {xs : List V} (h : (∃ o, H a = some (.frz o (.tup xs))) ∨ H a = some (.tup xs)) : SqT K H a xs := h.elim (fun ⟨_, h⟩ => SqT.fz h) (fun h => SqT.of h)
def RulesW (H : Hp) (v : V) (r : Rl) : Prop := ∃ a vp vl vs, v = .ref a ∧ H a = some (.tup [.str r.letters, vp, .int r.span, vl, vs]) ∧ PrsW H vp r.prs ∧ TupOf IntAt H vl r.loops ∧ TupOf StackAt H vs r.stk
theorem RulesW.mono : Mono RulesW := fun H H' v x k ⟨a, vp, vl, vs, e, h, h1, h2, h3⟩ => ⟨a, vp, vl, vs, e, k _ _ h, PrsW.mono _ _ _ _ k h1, TupOf.mono IntAt.mono _ _ _ _ k h2, TupOf.mono StackAt.mono _ _ _ _ k h3⟩
theorem RulesAt.w {H : Hp} {v : V} {r : Rl} (h : RulesAt H v r) : RulesW H v r := by
  obtain ⟨a, vp, vl, vs, e, h, ⟨ap, o, us, e1, h1, _, p⟩, h2, h3⟩ := h
  exact ⟨a, vp, vl, vs, e, h, ⟨ap, us, e1, .inl ⟨o, h1⟩, p⟩, h2, h3⟩
def Two (t : Str) : Prop := t.length = 2 ∧ Small t
structure RlOk (r : Rl) : Prop where
  let6 : r.letters.length ≤ 6
  let1 : 1 ≤ r.letters.length
  small : Small r.letters
  prs : r.prs.length ≤ 12
  pr : ∀ x ∈ r.prs, Two x.1 ∧ -99 ≤ x.2 ∧ x.2 ≤ 99
  sp0 : 0 ≤ r.span
  sp3 : r.span ≤ 3
  lo9 : r.loops.length = 9
  lo : ∀ x ∈ r.loops, -99 ≤ x ∧ x ≤ 99
  stk : r.stk.length ≤ 12
  st : ∀ x ∈ r.stk, Two x.1 ∧ Two x.2.1 ∧ -99 ≤ x.2.2 ∧ x.2.2 ≤ 99
  nd : (r.stk.map fun x => (x.1, x.2.1)).Nodup
  pn : (r.prs.map (·.1)).Nodup
/-! ### a dict by two texts -/
def encE (x : Str × Str × Int) : List Key × V := ([.inr x.1, .inr x.2.1], .int x.2.2)
def putE (es : List (Str × Str × Int)) (a b : Str) (i : Int) : List (Str × Str × Int) :=
  if (es.any fun x => decide (x.1 = a ∧ x.2.1 = b)) = true then es.map (fun x => if x.1 = a ∧ x.2.1 = b then (x.1, x.2.1, i) else x) else es ++ [(a, b, i)]
theorem encE_key (x : Str × Str × Int) (a b : Str) : ((encE x).1 = [Sum.inr a, Sum.inr b]) ↔ (x.1 = a ∧ x.2.1 = b) := by
  unfold encE
  constructor
  · intro h
    injection h with h1 h2
    injection h2 with h3 _
    exact ⟨Sum.inr.inj h1, Sum.inr.inj h3⟩
  · rintro ⟨h1, h2⟩
    rw [h1, h2]
theorem put_enc (es : List (Str × Str × Int)) (a b : Str) (i : Int) : putK (es.map encE) [Sum.inr a, Sum.inr b] (.int i) = (putE es a b i).map encE := by
  have hany : ((es.map encE).any fun kv => decide (kv.1 = [Sum.inr a, Sum.inr b])) = es.any fun x => decide (x.1 = a ∧ x.2.1 = b) := by
    rw [List.any_map]
    congr 1
    funext x
    exact decide_eq_decide.mpr (encE_key x a b)
  unfold putK putE
  rw [hany]
  by_cases h : (es.any fun x => decide (x.1 = a ∧ x.2.1 = b)) = true
  · rw [if_pos h, if_pos h, List.map_map, List.map_map]
    refine List.map_congr_left fun x _ => ?_
    show (if (encE x).1 = [Sum.inr a, Sum.inr b] then ((encE x).1, V.int i) else encE x) = encE (if x.1 = a ∧ x.2.1 = b then (x.1, x.2.1, i) else x)
    by_cases e : x.1 = a ∧ x.2.1 = b
    · rw [if_pos ((encE_key x a b).mpr e), if_pos e]
      rfl
    · rw [if_neg (fun z => e ((encE_key x a b).mp z)), if_neg e]
  · rw [if_neg h, if_neg h, List.map_append]
    rfl
theorem putE_keys (es : List (Str × Str × Int)) (a b : Str) (i : Int) (hn : (es.map fun x => (x.1, x.2.1)).Nodup) : ((putE es a b i).map fun x => (x.1, x.2.1)).Nodup := by
  unfold putE
  split
  · rw [List.map_map]
    have e : ((fun x : Str × Str × Int => (x.1, x.2.1)) ∘ fun x => if x.1 = a ∧ x.2.1 = b then (x.1, x.2.1, i) else x) = fun x => (x.1, x.2.1) := by
      funext x
      show (fun x : Str × Str × Int => (x.1, x.2.1)) (if x.1 = a ∧ x.2.1 = b then (x.1, x.2.1, i) else x) = _
      split <;> rfl
    rw [e]
    exact hn
  · rename_i h
    rw [List.map_append]
    refine List.nodup_append.mpr ⟨hn, by simp, fun x hx y hy e => ?_⟩
    obtain ⟨z, hz, rfl⟩ := List.mem_map.mp hx
    have hy' : y = (a, b) := by simpa using hy
    rw [hy'] at e
    injection e with e1 e2
    exact h (List.any_eq_true.mpr ⟨z, hz, decide_eq_true ⟨e1, e2⟩⟩)
theorem putE_len (es : List (Str × Str × Int)) (a b : Str) (i : Int) : (putE es a b i).length ≤ es.length + 1 := by
  unfold putE
  split
  · rw [List.length_map]
    omega
  · rw [List.length_append]
    exact Nat.le_refl _
theorem putE_all {Pd : Str × Str × Int → Prop} {es : List (Str × Str × Int)} {a b : Str} {i : Int} (h : ∀ x ∈ es, Pd x) (hn : Pd (a, b, i)) : ∀ x ∈ putE es a b i, Pd x := by
  intro x hx
  unfold putE at hx
  split at hx
  · obtain ⟨y, hy, rfl⟩ := List.mem_map.mp hx
    split
    · rename_i e
      rw [e.1, e.2]
      exact hn
    · exact h y hy
  · rcases List.mem_append.mp hx with hx | hx
    · exact h x hx
    · rw [List.mem_singleton.mp hx]
      exact hn
theorem val_enc {es : List (Str × Str × Int)} {a b : Str} {i : Int} (hn : (es.map fun x => (x.1, x.2.1)).Nodup) (h : (a, b, i) ∈ es) : valV (es.map encE) [Sum.inr a, Sum.inr b] = some (.int i) := by
  induction es with
  | nil => cases h
  | cons y r ih =>
    rw [List.map_cons]
    rw [List.map_cons, List.nodup_cons] at hn
    by_cases e : y.1 = a ∧ y.2.1 = b
    · rw [valV_pos ((encE_key y a b).mpr e)]
      rcases List.mem_cons.mp h with z | z
      · rw [← z]
        rfl
      · exact absurd (List.mem_map.mpr ⟨_, z, by rw [e.1, e.2]⟩) hn.1
    · rw [valV_neg (fun z => e ((encE_key y a b).mp z))]
      rcases List.mem_cons.mp h with z | z
      · rw [← z] at e
        exact absurd ⟨rfl, rfl⟩ e
      · exact ih hn.2 z
theorem map_erase {α β : Type} (f : α → β) : ∀ (xs : List α) (k : Nat), (xs.map f).eraseIdx k = (xs.eraseIdx k).map f
  | [], _ => rfl
  | _ :: _, 0 => rfl
  | x :: r, k + 1 => by
    show f x :: (r.map f).eraseIdx k = f x :: (r.eraseIdx k).map f
    rw [map_erase f r k]
theorem dpStrs {K : PySem.W.Frag} {H : Hp} : ∀ us : List Str, DpAll K H (us.map V.str) (us.map PyData.str)
  | [] => .nil
  | _ :: r => .cons (.str _) (dpStrs r)
theorem sm_strs {us : List Str} {n m : Nat} (hn : us.length ≤ n) (h : ∀ t ∈ us, Small t ∧ t.length ≤ m) (hM : n * (m + 1) ≤ 1000000) : Sm 1000000 1 (.list (us.map PyData.str)) := by
  refine Sm.lst (n := n) (m := m) (k := 0) (by rw [List.length_map]; exact hn) (fun d hd => ?_) hM
  obtain ⟨t, ht, rfl⟩ := List.mem_map.mp hd
  exact Sm.str (h t ht).1.ok (h t ht).2
theorem keys_zip {H : Hp} : ∀ {es : List (Str × Str × Int)} {bs : List Addr}, IsKeys H (es.map encE) bs → ∃ bes : List (Addr × (Str × Str × Int)), bes.map (·.1) = bs ∧ bes.map (·.2) = es ∧ ∀ x ∈ bes, H x.1 = some (.tup [.str x.2.1, .str x.2.2.1])
  | [], _, .nil => ⟨[], rfl, rfl, fun x h => by cases h⟩
  | e :: es, b :: bs, .cons r t => by
    obtain ⟨bes, h1, h2, h3⟩ := keys_zip (es := es) t
    refine ⟨(b, e) :: bes, by rw [List.map_cons, h1], by rw [List.map_cons, h2], fun x hx => ?_⟩
    rcases List.mem_cons.mp hx with rfl | hx
    · exact r
    · exact h3 x hx
theorem ixN_in {n : Nat} {i : Int} (h0 : 0 ≤ i) (h1 : i < n) : seqIndex? i n = some i.toNat := by
  refine (ixN_seq ?_).1
  unfold ixN
  rw [if_pos h0, if_pos h1]
end Pf


namespace Pf
open PySem PySem.Spec PyProof.Rows L2
def topS (i : Nat) : Stmt := PySem.Challenge.pw_pairfolds_k54_holds_known.main.body.getD i (.Pass ⟨0, 0, 0, 0⟩)
/-! ### the pen: a dict of cells, a place, what is left -/
def penK (c : Addr) (a r : Int) : List (Key × V) := [(.inr "cells", .ref c), (.inr "at", .int a), (.inr "left", .int r)]
theorem pen_cells (c : Addr) (a r : Int) : valV (penK c a r) (.inr "cells") = some (.ref c) := by
  unfold penK
  rw [valV_pos rfl]
theorem pen_at (c : Addr) (a r : Int) : valV (penK c a r) (.inr "at") = some (.int a) := by
  unfold penK
  rw [valV_neg (show ¬ (Sum.inr ("cells" : Str) : Key) = Sum.inr ("at" : Str) by decide +kernel), valV_pos rfl]
theorem pen_left (c : Addr) (a r : Int) : valV (penK c a r) (.inr "left") = some (.int r) := by
  unfold penK
  rw [valV_neg (show ¬ (Sum.inr ("cells" : Str) : Key) = Sum.inr ("left" : Str) by decide +kernel), valV_neg (show ¬ (Sum.inr ("at" : Str) : Key) = Sum.inr ("left" : Str) by decide +kernel), valV_pos rfl]
theorem put_at (c : Addr) (a r b : Int) : putK (penK c a r) (.inr "at") (.int b) = penK c b r := by
  have h1 : ¬ (Sum.inr ("cells" : Str) : Key) = Sum.inr ("at" : Str) := by decide +kernel
  have h2 : ¬ (Sum.inr ("left" : Str) : Key) = Sum.inr ("at" : Str) := by decide +kernel
  simp [penK, putK, h1, h2]
theorem put_left (c : Addr) (a r b : Int) : putK (penK c a r) (.inr "left") (.int b) = penK c a b := by
  have h1 : ¬ (Sum.inr ("cells" : Str) : Key) = Sum.inr ("left" : Str) := by decide +kernel
  have h2 : ¬ (Sum.inr ("at" : Str) : Key) = Sum.inr ("left" : Str) := by decide +kernel
  simp [penK, putK, h1, h2]
section
variable {H : Hp} {p c q : Addr} {a r v : Int} {n m : Nat} {o : HO}
theorem get_cells (h : H p = some (.dK (penK c a r))) : DGet H p (.str "cells") (some (.ref c)) := pen_cells c a r ▸ DGet.k (k := .inr "cells") h
theorem get_at (h : H p = some (.dK (penK c a r))) : DGet H p (.str "at") (some (.int a)) := pen_at c a r ▸ DGet.k (k := .inr "at") h
theorem get_left (h : H p = some (.dK (penK c a r))) : DGet H p (.str "left") (some (.int r)) := pen_left c a r ▸ DGet.k (k := .inr "left") h
theorem dput_at (h : H p = some (.dK (penK c a r))) : DPut H p (.str "at") (.int v) (upd H p (.dK (penK c v r))) := put_at c a r v ▸ DPut.k (k := .inr "at") h (szLt (show 3 < 1000000 by decide))
theorem dput_left (h : H p = some (.dK (penK c a r))) : DPut H p (.str "left") (.int v) (upd H p (.dK (penK c a v))) := put_left c a r v ▸ DPut.k (k := .inr "left") h (szLt (show 3 < 1000000 by decide))
def Pen (H : Hp) (p c : Addr) (n : Nat) : Prop := ∃ (cells : List Int) (a r : Int), H p = some (.dK (penK c a r)) ∧ H c = some (.lst (cells.map V.int)) ∧ 0 ≤ a ∧ a ≤ n ∧ 0 ≤ r ∧ cells.length ≤ 63
theorem Pen.mono (h : Pen H p c n) (l : n ≤ m) : Pen H p c m := by
  obtain ⟨cells, a, r, h1, h2, h3, h4, h5, h6⟩ := h
  exact ⟨cells, a, r, h1, h2, h3, by omega, h5, h6⟩
theorem Pen.put (h : Pen H p c n) (hp : q ≠ p) (hc : q ≠ c) : Pen (upd H q o) p c n := by
  obtain ⟨cells, a, r, h1, h2, h3⟩ := h
  exact ⟨cells, a, r, by rw [upd_ne hp.symm]; exact h1, by rw [upd_ne hc.symm]; exact h2, h3⟩
theorem Pen.ne (h : Pen H p c n) (hq : H q = none) : q ≠ p ∧ q ≠ c := by
  obtain ⟨cells, a, r, h1, h2, h3⟩ := h
  exact ⟨(ne_of_none h1 hq).symm, (ne_of_none h2 hq).symm⟩
theorem Pen.new (h : Pen H p c n) (hq : H q = none) : Pen (upd H q o) p c n := h.put (h.ne hq).1 (h.ne hq).2
theorem Pen.tup (h : Pen H p c n) {b : Addr} {xs : List V} (e : H b = some (.tup xs)) : b ≠ p := by
  obtain ⟨cells, a, r, h1, _⟩ := h
  exact ne_of e h1 (by intro z; cases z)
theorem Pen.frz (h : Pen H p c n) {b : Addr} {ob : Obj} {u : HO} (e : H b = some (.frz ob u)) : b ≠ p := by
  obtain ⟨cells, a, r, h1, _⟩ := h
  exact ne_of e h1 (by intro z; cases z)
theorem Pen.lst (h : Pen H p c n) {b : Addr} {xs : List V} (e : H b = some (.lst xs)) : b ≠ p := by
  obtain ⟨cells, a, r, h1, _⟩ := h
  exact ne_of e h1 (by intro z; cases z)
theorem Pen.ext {H' : Hp} (h : Pen H p c n) (k : Ext H H') : Pen H' p c n := by
  obtain ⟨cells, a, r, h1, h2, h3⟩ := h
  exact ⟨cells, a, r, k _ _ h1, k _ _ h2, h3⟩
end
section
variable {P : Program} {w : World} {K : PySem.W.Frag} {mg : Str → Option Value} {base : Heap}
/-! ### take -/
abbrev s_law_take : Stmt := topS 20
theorem sc_law_take : FnScope ["_law_pen_here", "_law_size", "_law_cells", "_law_found", "_law_at", "_law_raw", "_law_number"] ["_law_pen_here", "_law_size"] (defScope s_law_take) :=
  ⟨rfl, rfl, rfl, by decide +kernel, rfl, by decide +kernel, by decide +kernel⟩
def spTake : Sp := fun vs H Q _ => ∃ (p c : Addr) (m : Int) (n : Nat), vs = [.ref p, .int m] ∧ Pen H p c n ∧ n < 1000000 ∧ 0 < m ∧ m < 1000000 ∧
  ∀ r H', 0 ≤ r → r < m → Kp p H H' → Pen H' p c (n + 1) → Q (.int r) H'
theorem take_b0 (z : Int) : -(2 ^ 64) < z % 2147483563 ∧ z % 2147483563 < 2147483563 := by
  have h3 := Int.emod_nonneg z (show (2147483563 : Int) ≠ 0 by decide)
  have h4 := Int.emod_lt_of_pos z (show (0 : Int) < 2147483563 by decide)
  omega
theorem take_m (z m : Int) (h : 0 < m) (h2 : m < 2 ^ 64) : -(2 ^ 64) < z % m ∧ z % m < 2 ^ 64 := by
  have h3 := Int.emod_nonneg z (show m ≠ 0 by omega)
  have h4 := Int.emod_lt_of_pos z h
  omega
theorem take_q (z : Int) : -(2 ^ 64) < z % 10 ^ (17 : Int).toNat ∧ z % 10 ^ (17 : Int).toNat < 2 ^ 64 := take_m z _ (by decide) (by decide)
theorem ok_take {f : Addr} {fd : FuncData} {k : Nat} (F : Fun K "_law_take" "_law_take" s_law_take f fd) (mlen : mg "len" = none) (mabs : mg "abs" = none) : FnOk P w K mg base CX0 (k + 1) f fd ["_law_pen_here", "_law_size"] spTake := by
  refine F.ok sc_law_take (fun vs H Q E h => ?_) (fun cdv A outer s H vs Q E hr h => ?_)
  · obtain ⟨p, c, m, n, rfl, _⟩ := h
    rfl
  · obtain ⟨p, c, m, n, rfl, hP, hn, m0, m1, q⟩ := h
    obtain ⟨cells, a, r, hp, hc, a0, a1, r0, cl⟩ := hP
    refine ⟨_, (pss_cons (ps_set (i := 2) sc_law_take.nd rfl (.inl rfl) (pe_dget (hu_of hr) (pv 0) pe_str (fun _ _ => rfl)))
      (pss_cons (ps_if (pt_cmpR op_gt (pe_dget (hu_of hr) (pv 0) pe_str (fun _ _ => rfl)) pe_int (nomark _)) (pss_cons (ps_set (i := 3) sc_law_take.nd rfl (.inl rfl) (pe_op op_mod (pe_dget (hu_of hr) (pv 0) pe_str (fun _ _ => rfl)) (pv 1)))
      (pss_cons (ps_dput (hu_of hr) (pv 0) pe_str (pe_op op_fdiv (pe_dget (hu_of hr) (pv 0) pe_str (fun _ _ => rfl)) (pv 1)) rfl)
      (pss_one (ps_ret (pv 3))))) pss_nil)
      (pss_cons (ps_set (i := 4) sc_law_take.nd rfl (.inl rfl) (pe_dget (hu_of hr) (pv 0) pe_str (fun _ _ => rfl)))
      (pss_cons (ps_dput (hu_of hr) (pv 0) pe_str (pe_op op_add (pv 4) pe_int) rfl)
      (pss_cons (ps_set (i := 5) sc_law_take.nd rfl (.inl rfl) (pe_op op_add (pe_op op_add (pe_op op_mul (pe_op op_mul pe_int (pv 4)) (pv 4)) (pe_op op_mul pe_int (pv 4))) pe_int))
      (pss_cons (ps_if (pt_cmpR op_lt (pv 4) (pe_callB (lenQ K) (by rfl) mlen (by decide +kernel) (pa_cons (pv 2) pa_nil)) (nomark _)) (pss_cons (ps_set (i := 5) sc_law_take.nd rfl (.inl rfl) (pe_ix (ixL K) (pv 2) (pv 4) (fun _ _ => rfl)))
      (pss_one (ps_if (pt_cmpR op_ge (pe_callB call_abs (by rfl) mabs (by decide +kernel) (pa_cons (pv 5) pa_nil)) (pe_op op_pow pe_int pe_int) (nomark _)) (pss_cons (ps_dput (hu_of hr) (pv 0) pe_str (pe_op op_fdiv (pe_callB call_abs (by rfl) mabs (by decide +kernel) (pa_cons (pv 5) pa_nil)) (pv 1)) rfl)
      (pss_one (ps_ret (pe_op op_mod (pe_callB call_abs (by rfl) mabs (by decide +kernel) (pa_cons (pv 5) pa_nil)) (pv 1))))) pss_nil))) (pss_one (ps_if (pt_cmpR op_gt (pe_callB (lenQ K) (by rfl) mlen (by decide +kernel) (pa_cons (pv 2) pa_nil)) pe_int (nomark _)) (pss_one (ps_set (i := 5) sc_law_take.nd rfl (.inl rfl) (pe_op op_add (pe_op op_mod (pe_ix (ixL K) (pv 2) (pe_op op_mod (pv 4) (pe_callB (lenQ K) (by rfl) mlen (by decide +kernel) (pa_cons (pv 2) pa_nil))) (fun _ _ => rfl)) (pe_op op_pow pe_int pe_int)) (pe_op op_mul pe_int (pv 4))))) pss_nil)))
      (pss_cons (ps_set (i := 6) sc_law_take.nd rfl (.inl rfl) (pe_op op_mod (pe_op op_mul (pe_op op_add (pe_op op_add (pe_op op_mod (pv 5) pe_int) (pe_op op_mul pe_int (pv 4))) pe_int) pe_int) pe_int))
      (pss_cons (ps_set (i := 6) sc_law_take.nd rfl (.inl rfl) (pe_op op_mod (pe_op op_add (pe_op op_mul (pv 6) (pe_op op_add (pe_op op_mod (pv 6) pe_int) pe_int)) (pe_op op_mul pe_int (pv 4))) pe_int))
      (pss_one (ps_ret (pe_op op_mod (pe_op op_fdiv (pe_op op_mod (pe_op op_mul (pv 6) (pe_op op_add (pe_op op_mod (pv 6) pe_int) pe_int)) pe_int) pe_int) (pv 1)))))))))))), ?_⟩
    have ncp : c ≠ p := ne_of hc hp (by intro z; cases z)
    refine ⟨_, rfl, p, _, rfl, get_cells hp, ?_⟩
    refine ⟨_, rfl, p, _, rfl, get_left hp, r, 0, rfl, rfl, _, rfl, ite2 (fun e => ?_) (fun e => ?_)⟩
    · refine ⟨_, rfl, p, _, rfl, get_left hp, _, rfl, r, m, rfl, rfl, m0, ?_⟩
      refine ⟨_, rfl, p, _, rfl, get_left hp, _, rfl, r, m, rfl, rfl, ⟨m0, by omega⟩, _, rfl, p, _, rfl, dput_left hp, ?_⟩
      refine ⟨_, rfl, q _ _ (Int.emod_nonneg _ (by omega)) (Int.emod_lt_of_pos _ m0) Kp.at ⟨cells, a, r / m, upd_same, ?_, a0, by omega, Int.ediv_nonneg r0 (by omega), cl⟩⟩
      rw [upd_ne ncp]
      exact hc
    · refine ⟨_, rfl, p, _, rfl, get_at hp, ?_⟩
      refine ⟨_, rfl, a, 1, rfl, rfl, _, rfl, p, _, rfl, dput_at hp, ?_⟩
      have hp1 : (upd H p (.dK (penK c (a + 1) r))) p = some (.dK (penK c (a + 1) r)) := upd_same
      have hc1 : (upd H p (.dK (penK c (a + 1) r))) c = some (.lst (cells.map V.int)) := by
        rw [upd_ne ncp]
        exact hc
      have k1 : Kp p H (upd H p (.dK (penK c (a + 1) r))) := Kp.at
      -- raw
      refine ⟨_, rfl, 30059, a, rfl, rfl, .inl ⟨by decide, by decide⟩, _, rfl, _, a, rfl, rfl, .inl ⟨by omega, by omega⟩, _, rfl, 101, a, rfl, rfl, .inl ⟨by decide, by decide⟩, _, _, rfl, rfl, _, 37, rfl, rfl, ?_⟩
      refine ⟨_, rfl, _, rfl, c, _, rfl, .inl (SqL.of hc1), _, _, rfl, rfl, _, rfl, ite2 (fun e1 => ?_) (fun e1 => ?_)⟩
      · have e1 : a < ((cells.map V.int).length : Int) := of_decide_eq_true e1
        rw [List.length_map] at e1
        obtain ⟨z, _, hat⟩ := atI_ints (ns := cells) a0 e1
        refine ⟨_, rfl, _, rfl, c, _, a, _, rfl, rfl, SqL.of hc1, hat, ?_⟩
        refine ⟨_, rfl, z, rfl, 10, 18, rfl, rfl, ⟨by decide, by decide, by decide⟩, _, _, rfl, rfl, _, rfl, ite2 (fun e3 => ?_) (fun e3 => ?_)⟩
        · refine ⟨_, rfl, z, rfl, _, rfl, _, m, rfl, rfl, ⟨m0, by omega⟩, _, rfl, p, _, rfl, dput_left hp1, ?_⟩
          refine ⟨_, rfl, z, rfl, _, rfl, _, m, rfl, rfl, m0, q _ _ (Int.emod_nonneg _ (by omega)) (Int.emod_lt_of_pos _ m0) (k1.trans Kp.at) ⟨cells, a + 1, _, upd_same, ?_, by omega, by omega, Int.ediv_nonneg ?_ (by omega), cl⟩⟩
          · rw [upd_ne ncp]
            exact hc1
          · split <;> omega
        refine ⟨_, rfl, _, 2147483563, rfl, rfl, (show (0 : Int) < 2147483563 by decide), _, rfl, 41039, a, rfl, rfl, .inl ⟨by decide, by decide⟩, _, _, rfl, rfl, _, 29, rfl, rfl, _, 69621, rfl, rfl, .inr ⟨by decide, by decide⟩, _, 2147483629, rfl, rfl, (show (0 : Int) < 2147483629 by decide), ?_⟩
        refine ⟨_, rfl, _, rfl, _, 65419, rfl, rfl, (show (0 : Int) < 65419 by decide), _, 11, rfl, rfl, _, _, rfl, rfl, .inl (take_m _ 2147483629 (by decide) (by decide)), _, rfl, 48271, a, rfl, rfl, .inl ⟨by decide, by decide⟩, _, _, rfl, rfl, _, 2147483587, rfl, rfl, (show (0 : Int) < 2147483587 by decide), ?_⟩
        refine ⟨_, rfl, _, rfl, _, 9883, rfl, rfl, (show (0 : Int) < 9883 by decide), _, 7, rfl, rfl, _, _, rfl, rfl, .inl (take_m _ 2147483587 (by decide) (by decide)), _, 2147483549, rfl, rfl, (show (0 : Int) < 2147483549 by decide), _, 64, rfl, rfl, ⟨by decide, by decide⟩, _, rfl, _, m, rfl, rfl, m0, q _ _ (Int.emod_nonneg _ (by omega)) (Int.emod_lt_of_pos _ m0) k1 ⟨cells, a + 1, r, hp1, hc1, by omega, by omega, r0, cl⟩⟩
      · refine ⟨_, rfl, c, _, rfl, .inl (SqL.of hc1), _, _, rfl, rfl, _, rfl, ite2 (fun e2 => ?_) (fun e2 => ?_)⟩
        · have e2 : (0 : Int) < ((cells.map V.int).length : Int) := of_decide_eq_true e2
          have hl1 : ((cells.map V.int).length : Int) = cells.length := by rw [List.length_map]
          obtain ⟨z, _, hat⟩ := atI_ints (ns := cells) (Int.emod_nonneg a (show ((cells.map V.int).length : Int) ≠ 0 by omega)) (by
            have := Int.emod_lt_of_pos a (show (0 : Int) < ((cells.map V.int).length : Int) by omega)
            omega)
          refine ⟨_, rfl, _, rfl, _, rfl, c, _, rfl, .inl (SqL.of hc1), _, _, rfl, rfl, e2, c, _, _, _, rfl, rfl, SqL.of hc1, hat, 10, 17, rfl, rfl, ⟨by decide, by decide, by decide⟩, _, _, rfl, rfl, (show (0 : Int) < 10 ^ (17 : Int).toNat by decide), _, rfl, 60089, a, rfl, rfl, .inl ⟨by decide, by decide⟩, _, _, rfl, rfl, ?_⟩
          refine ⟨_, rfl, _, 2147483563, rfl, rfl, (show (0 : Int) < 2147483563 by decide), _, rfl, 41039, a, rfl, rfl, .inl ⟨by decide, by decide⟩, _, _, rfl, rfl, _, 29, rfl, rfl, _, 69621, rfl, rfl, .inr ⟨by decide, by decide⟩, _, 2147483629, rfl, rfl, (show (0 : Int) < 2147483629 by decide), ?_⟩
          refine ⟨_, rfl, _, rfl, _, 65419, rfl, rfl, (show (0 : Int) < 65419 by decide), _, 11, rfl, rfl, _, _, rfl, rfl, .inl (take_m _ 2147483629 (by decide) (by decide)), _, rfl, 48271, a, rfl, rfl, .inl ⟨by decide, by decide⟩, _, _, rfl, rfl, _, 2147483587, rfl, rfl, (show (0 : Int) < 2147483587 by decide), ?_⟩
          refine ⟨_, rfl, _, rfl, _, 9883, rfl, rfl, (show (0 : Int) < 9883 by decide), _, 7, rfl, rfl, _, _, rfl, rfl, .inl (take_m _ 2147483587 (by decide) (by decide)), _, 2147483549, rfl, rfl, (show (0 : Int) < 2147483549 by decide), _, 64, rfl, rfl, ⟨by decide, by decide⟩, _, rfl, _, m, rfl, rfl, m0, q _ _ (Int.emod_nonneg _ (by omega)) (Int.emod_lt_of_pos _ m0) k1 ⟨cells, a + 1, r, hp1, hc1, by omega, by omega, r0, cl⟩⟩
        · refine ⟨_, rfl, _, 2147483563, rfl, rfl, (show (0 : Int) < 2147483563 by decide), _, rfl, 41039, a, rfl, rfl, .inl ⟨by decide, by decide⟩, _, _, rfl, rfl, _, 29, rfl, rfl, _, 69621, rfl, rfl, .inr ⟨by decide, by decide⟩, _, 2147483629, rfl, rfl, (show (0 : Int) < 2147483629 by decide), ?_⟩
          refine ⟨_, rfl, _, rfl, _, 65419, rfl, rfl, (show (0 : Int) < 65419 by decide), _, 11, rfl, rfl, _, _, rfl, rfl, .inl (take_m _ 2147483629 (by decide) (by decide)), _, rfl, 48271, a, rfl, rfl, .inl ⟨by decide, by decide⟩, _, _, rfl, rfl, _, 2147483587, rfl, rfl, (show (0 : Int) < 2147483587 by decide), ?_⟩
          refine ⟨_, rfl, _, rfl, _, 9883, rfl, rfl, (show (0 : Int) < 9883 by decide), _, 7, rfl, rfl, _, _, rfl, rfl, .inl (take_m _ 2147483587 (by decide) (by decide)), _, 2147483549, rfl, rfl, (show (0 : Int) < 2147483549 by decide), _, 64, rfl, rfl, ⟨by decide, by decide⟩, _, rfl, _, m, rfl, rfl, m0, q _ _ (Int.emod_nonneg _ (by omega)) (Int.emod_lt_of_pos _ m0) k1 ⟨cells, a + 1, r, hp1, hc1, by omega, by omega, r0, cl⟩⟩
end
end Pf


namespace Pf
open PySem PySem.Spec PyProof.Rows L2
/-- a list, a tuple or a text, by its items -/
def SeqOf (H : Hp) (v : V) (xs : List V) : Prop := (∃ a, v = .ref a ∧ H a = some (.lst xs)) ∨ (∃ a, v = .ref a ∧ Rd H a (.tup xs)) ∨ ∃ z : Str, v = .str z ∧ xs = z.cps.toList.map fun c => V.str ⟨#[c]⟩
section
variable {P : Program} {w : World} {K : PySem.W.Frag} {mg : Str → Option Value} {base : Heap}
abbrev CTake (P : Program) (w : World) (K : PySem.W.Frag) (mg : Str → Option Value) (base : Heap) : Prop := Ca P w K mg base 1 "_law_take" ["_law_pen_here", "_law_size"] spTake
abbrev s_law_pick : Stmt := topS 21
theorem sc_law_pick : FnScope ["_law_pen_here", "_law_some"] ["_law_pen_here", "_law_some"] (defScope s_law_pick) :=
  ⟨rfl, rfl, rfl, by decide +kernel, rfl, by decide +kernel, by decide +kernel⟩
def spPick : Sp := fun vs H Q _ => ∃ (p c : Addr) (v : V) (xs : List V) (n : Nat), vs = [.ref p, v] ∧ SeqOf H v xs ∧ 0 < xs.length ∧ xs.length < 1000000 ∧ Pen H p c n ∧ n < 1000000 ∧
  ∀ x H', x ∈ xs → Kp p H H' → Pen H' p c (n + 1) → Q x H'
theorem ok_pick {f : Addr} {fd : FuncData} (F : Fun K "_law_pick" "_law_pick" s_law_pick f fd) (c_law_take : CTake P w K mg base) (mlen : mg "len" = none) : FnOk P w K mg base CX0 2 f fd ["_law_pen_here", "_law_some"] spPick := by
  refine F.ok sc_law_pick (fun vs H Q E h => ?_) (fun cdv A outer s H vs Q E hr h => ?_)
  · obtain ⟨p, c, v, xs, n, rfl, _⟩ := h
    rfl
  · obtain ⟨p, c, v, xs, n, rfl, hv, x0, x1, hP, hn, q⟩ := h
    refine ⟨_, (pss_one (ps_ret (pe_ix (ixA K) (pv 1) (pe_ca c_law_take (hr.mono (by decide)) (by rfl) (pa_cons (pv 0) (pa_cons (pe_callB (lenA K) (by rfl) mlen (by decide +kernel) (pa_cons (pv 1) pa_nil)) pa_nil))) (fun _ _ => rfl)))), ?_⟩
    rcases hv with ⟨a, rfl, ha⟩ | ⟨a, rfl, ha⟩ | ⟨z, rfl, ez⟩
    · refine ⟨_, rfl, _, rfl, _, rfl, _, xs.length, rfl, .inl ⟨xs, SqL.of ha, rfl⟩, p, c, xs.length, n, rfl, hP, hn, by omega, by omega, fun r H' r0 r1 k hP' => ?_⟩
      obtain ⟨x, hx, hat⟩ := atI_mem r0 r1
      exact .inl ⟨a, xs, r, x, rfl, rfl, SqL.of (k _ _ (hP.lst ha) ha), hat, q x H' hx k hP'⟩
    · refine ⟨_, rfl, _, rfl, _, rfl, _, xs.length, rfl, .inr ⟨xs, .inl ha, rfl⟩, p, c, xs.length, n, rfl, hP, hn, by omega, by omega, fun r H' r0 r1 k hP' => ?_⟩
      obtain ⟨x, hx, hat⟩ := atI_mem r0 r1
      exact .inr (.inl ⟨a, xs, r, x, rfl, rfl, .inl (ha.elim (fun e => .inl (k _ _ (hP.tup e) e)) fun ⟨o, e⟩ => .inr ⟨o, k _ _ (hP.frz e) e⟩), hat, q x H' hx k hP'⟩)
    · have hz : xs.length = z.length := by
        rw [ez, List.length_map, Array.length_toList]
        rfl
      refine ⟨_, rfl, _, rfl, _, rfl, _, z.length, rfl, ⟨szL (by omega), rfl⟩, p, c, z.length, n, rfl, hP, hn, by omega, by omega, fun r H' r0 r1 k hP' => ?_⟩
      obtain ⟨x, hx, hat⟩ := atI_mem (xs := z.cps.toList) r0 (by rw [Array.length_toList]; exact r1)
      exact .inr (.inr ⟨z, r, x, rfl, rfl, szL (by omega), hat, q _ H' (by rw [ez]; exact List.mem_map.mpr ⟨x, hx, rfl⟩) k hP'⟩)
abbrev CPick (P : Program) (w : World) (K : PySem.W.Frag) (mg : Str → Option Value) (base : Heap) : Prop := Ca P w K mg base 2 "_law_pick" ["_law_pen_here", "_law_some"] spPick
abbrev s_law_worth : Stmt := topS 22
theorem sc_law_worth : FnScope ["_law_pen_here", "_law_some"] ["_law_pen_here"] (defScope s_law_worth) :=
  ⟨rfl, rfl, rfl, by decide +kernel, rfl, by decide +kernel, by decide +kernel⟩
def spWorth : Sp := fun vs H Q _ => ∃ (p c : Addr) (n : Nat), vs = [.ref p] ∧ Pen H p c n ∧ n + 3 < 1000000 ∧
  ∀ (i : Int) H', -99 ≤ i → i ≤ 99 → Kp p H H' → Pen H' p c (n + 4) → Q (.int i) H'
theorem ok_worth {f : Addr} {fd : FuncData} (F : Fun K "_law_worth" "_law_worth" s_law_worth f fd) (c_law_take : CTake P w K mg base) (c_law_pick : CPick P w K mg base) : FnOk P w K mg base CX0 3 f fd ["_law_pen_here"] spWorth := by
  refine F.ok sc_law_worth (fun vs H Q E h => ?_) (fun cdv A outer s H vs Q E hr h => ?_)
  · obtain ⟨p, c, n, rfl, _⟩ := h
    rfl
  · obtain ⟨p, c, n, rfl, hP, hn, q⟩ := h
    refine ⟨_, (pss_cons (ps_set (i := 1) sc_law_worth.nd rfl (.inl rfl) (pe_lst (pa_cons pe_int (pa_cons (pe_un un_neg pe_int) (pa_cons (pe_un un_neg pe_int) (pa_cons pe_int (pa_cons (pe_op op_sub (pe_ca c_law_take (hr.mono (by decide)) (by rfl) (pa_cons (pv 0) (pa_cons pe_int pa_nil))) pe_int) (pa_cons (pe_op op_sub (pe_ca c_law_take (hr.mono (by decide)) (by rfl) (pa_cons (pv 0) (pa_cons pe_int pa_nil))) pe_int) (pa_cons pe_int (pa_cons (pe_un un_neg pe_int) (pa_cons (pe_op op_sub (pe_ca c_law_take (hr.mono (by decide)) (by rfl) (pa_cons (pv 0) (pa_cons pe_int pa_nil))) pe_int) pa_nil)))))))))))
      (pss_one (ps_ret (pe_ca c_law_pick (hr.mono (by decide)) (by rfl) (pa_cons (pv 0) (pa_cons (pv 1) pa_nil)))))), ?_⟩
    refine ⟨1, rfl, 2, rfl, _, rfl, p, c, 9, n, rfl, hP, by omega, by decide, by decide, fun r1 H1 r1a r1b k1 hP1 => ⟨r1, 6, rfl, rfl, ?_⟩⟩
    refine ⟨_, rfl, p, c, 7, n + 1, rfl, hP1, by omega, by decide, by decide, fun r2 H2 r2a r2b k2 hP2 => ⟨r2, 3, rfl, rfl, 99, rfl, ?_⟩⟩
    refine ⟨_, rfl, p, c, 199, n + 2, rfl, hP2, by omega, by decide, by decide, fun r3 H3 r3a r3b k3 hP3 => ⟨r3, 99, rfl, rfl, ?_⟩⟩
    refine ⟨szL (show 9 ≤ 1000000 by decide), fun l hl => ?_⟩
    refine ⟨_, rfl, _, rfl, p, c, .ref l, [0, -1, -2, 1, r1 - 6, r2 - 3, 99, -99, r3 - 99].map V.int, n + 3, rfl, .inl ⟨l, rfl, upd_same⟩, (show 0 < 9 by decide), (show 9 < 1000000 by decide), hP3.new hl, by omega, fun x H4 hx k4 hP4 => ?_⟩
    obtain ⟨z, hz, rfl⟩ := List.mem_map.mp hx
    have hz2 : -99 ≤ z ∧ z ≤ 99 := by
      simp only [List.mem_cons, List.not_mem_nil, or_false] at hz
      omega
    exact q _ _ hz2.1 hz2.2 (((k1.trans k2).trans k3).trans ((Kp.new hl).trans k4)) hP4
abbrev CWorth (P : Program) (w : World) (K : PySem.W.Frag) (mg : Str → Option Value) (base : Heap) : Prop := Ca P w K mg base 3 "_law_worth" ["_law_pen_here"] spWorth
end
end Pf


namespace Pf
open PySem PySem.Spec PyProof.Rows L2
/-! ### dict(zip(a, b)) of two tuples -/
section
variable {P : Program} {w : World} {A : Around} {E : Value → Shared → Prop} {s : Shared} {q U O G j1 j2 m1 m2 : Addr} {f : Bool} {og : Obj} {k1 k2 : Nat} {us vs : Array Value}
theorem zn_item {u v : Value} {R : Value → Shared → Prop} (D : ZipApart q U O j1 j2 m1 m2) (hq : IsZipHeld s.heap q U O G f) (hG : s.heap.get? G = some og) (hU : IsPair s.heap U (.ref j1) (.ref j2)) (t1 : s.heap.IsTupleIter j1 m1 k1) (t2 : s.heap.IsTupleIter j2 m2 k2) (b1 : s.heap.IsTuple m1 us) (b2 : s.heap.IsTuple m2 vs) (eu : us[k1]? = some u) (ev : vs[k2]? = some v)
    (next : ∀ h', IsZipHeld h' q U O G true → h'.IsTupleIter j1 m1 (k1 + 1) → h'.IsTupleIter j2 m2 (k2 + 1) → IsPair h' s.heap.objs.size u v → (∀ c o, c ≠ q → c ≠ j1 → c ≠ j2 → s.heap.get? c = some o → h'.get? c = some o) → R (.ref s.heap.objs.size) { s with heap := h' }) :
    wpAny (model P w) A (Builtin.«zip.__next__» ⟨[.ref q], []⟩) (fun fin s' => ∃ v, fin = .done (.ret v) ∧ R v s') E s := by
  show wpAny _ _ (field (.ref q) 2 >>= _) _ _ _
  refine wpAny_bind (wpAny_field hq rfl (x := .bool false) rfl ?_)
  show wpAny _ _ (field (.ref q) 3 >>= _) _ _ _
  refine wpAny_bind (wpAny_field hq rfl (x := .ref U) rfl (wpAny_bind (wpAny_seqItems hU rfl ?_)))
  show wpAny _ _ (Builtin.SmallTypes.ownedTupleIsFree (.ref q) >>= _) _ _ _
  refine wpAny_bind (wpAny_tupleHeld_zip hq hG fun g1 q1 e1 => ?_)
  simp only [Bool.false_eq_true, if_false]; refine wpAny_bind ?_; rw [← Array.forIn_toList]; simp only [List.forIn_cons, List.forIn_nil]
  refine wpAny_bind (wpAny_bind (wpAny_holding ?_))
  show wpAny _ _ (Builtin.SmallTypes.nextOf (.ref j1) >>= _) _ _ _
  refine wpAny_bind (RZ.nextOf_tuple_item (s := { s with heap := g1 }) (t1.extBut e1.extBut D.i1z) (b1.extBut e1.extBut D.l1z) eu fun g2 t1b e2 => wpAny_pure (wpAny_pure ?_))
  refine wpAny_bind (wpAny_bind (wpAny_holding ?_))
  show wpAny _ _ (Builtin.SmallTypes.nextOf (.ref j2) >>= _) _ _ _
  refine wpAny_bind (RZ.nextOf_tuple_item (s := { s with heap := g2 }) ((t2.extBut e1.extBut D.i2z).extBut e2.extBut D.i12.symm) ((b2.extBut e1.extBut D.l2z).extBut e2.extBut D.l2i1) ev fun g3 t2b e3 => wpAny_pure (wpAny_pure (wpAny_pure ?_)))
  show wpAny _ _ (newTuple [u, v] >>= _) _ _ _
  refine wpAny_bind (wpAny_newTuple (wpAny_pure ⟨_, rfl, ?_⟩))
  have sz : g3.objs.size = s.heap.objs.size := by rw [e3.1, e2.1, e1.1]
  have q3 : IsZipHeld g3 q U O G true := e3.extBut _ _ D.i2z.symm (e2.extBut _ _ D.i1z.symm q1)
  have pr : IsPair (g3.push { cls := .type "tuple", data := .seq #[u, v] }) g3.objs.size u v := Heap.get?_push_size _ rfl
  show R (.ref g3.objs.size) _
  rw [sz] at pr ⊢
  exact next _ (Heap.get?_push_of_some _ q3) ((t1b.extBut e3.extBut D.i12).at fun o e => Heap.get?_push_of_some _ e) (t2b.at fun o e => Heap.get?_push_of_some _ e) pr fun c o c1 c2 c3 e => Heap.get?_push_of_some _ (e3.extBut _ _ c3 (e2.extBut _ _ c2 (e1.extBut _ _ c1 e)))
theorem zn_end {R : Fin → Shared → Prop} (hh : A.handled = none) (D : ZipApart q U O j1 j2 m1 m2) (hq : IsZipHeld s.heap q U O G f) (hG : s.heap.get? G = some og) (hU : IsPair s.heap U (.ref j1) (.ref j2)) (t1 : s.heap.IsTupleIter j1 m1 k1) (b1 : s.heap.IsTuple m1 us) (eu : us[k1]? = none)
    (next : ∀ h' e, (∀ c o, c ≠ q → c ≠ j1 → s.heap.get? c = some o → h'.get? c = some o) → (∃ o, h'.get? e = some o ∧ o.cls = .type "StopIteration") → E (.ref e) { s with heap := h' }) :
    wpAny (model P w) A (Builtin.«zip.__next__» ⟨[.ref q], []⟩) R E s := by
  show wpAny _ _ (field (.ref q) 2 >>= _) _ _ _
  refine wpAny_bind (wpAny_field hq rfl (x := .bool false) rfl ?_)
  show wpAny _ _ (field (.ref q) 3 >>= _) _ _ _
  refine wpAny_bind (wpAny_field hq rfl (x := .ref U) rfl (wpAny_bind (wpAny_seqItems hU rfl ?_)))
  show wpAny _ _ (Builtin.SmallTypes.ownedTupleIsFree (.ref q) >>= _) _ _ _
  refine wpAny_bind (wpAny_tupleHeld_zip hq hG fun g1 q1 e1 => ?_)
  simp only [Bool.false_eq_true, if_false]; refine wpAny_bind ?_; rw [← Array.forIn_toList]; simp only [List.forIn_cons, List.forIn_nil]
  refine wpAny_bind (wpAny_bind (wpAny_holding ?_))
  show wpAny _ _ (Builtin.SmallTypes.nextOf (.ref j1) >>= _) _ _ _
  exact wpAny_bind (RZ.nextOf_tuple_end (s := { s with heap := g1 }) hh (t1.extBut e1.extBut D.i1z) (b1.extBut e1.extBut D.l1z) eu fun g2 e e2 he => next g2 e (fun c o c1 c2 x => e2 _ _ c2 (e1.extBut _ _ c1 x)) he)
theorem zp_item {u v : Value} {R : Option Value → Shared → Prop} (D : ZipApart q U O j1 j2 m1 m2) (hq : IsZipHeld s.heap q U O G f) (hG : s.heap.get? G = some og) (hU : IsPair s.heap U (.ref j1) (.ref j2)) (t1 : s.heap.IsTupleIter j1 m1 k1) (t2 : s.heap.IsTupleIter j2 m2 k2) (b1 : s.heap.IsTuple m1 us) (b2 : s.heap.IsTuple m2 vs) (eu : us[k1]? = some u) (ev : vs[k2]? = some v)
    (next : ∀ h', IsZipHeld h' q U O G true → h'.IsTupleIter j1 m1 (k1 + 1) → h'.IsTupleIter j2 m2 (k2 + 1) → IsPair h' s.heap.objs.size u v → (∀ c o, c ≠ q → c ≠ j1 → c ≠ j2 → s.heap.get? c = some o → h'.get? c = some o) → R (some (.ref s.heap.objs.size)) { s with heap := h' }) :
    wpAny (model P w) A (pyNext (.ref q)) R E s := by
  have ty : s.TypeIs (.ref q) "zip" := ⟨_, hq, rfl⟩
  unfold pyNext
  exact wpAny_bind (wpAny_attempt (wpAny_callSpecial?_slot (name := Str.ofString "__next__") ty F.slot_zip_next (wpAny_call_entry F.slot_zip_next ty F.entry_zip_next (zn_item D hq hG hU t1 t2 b1 b2 eu ev fun h' a1 a3 a4 a5 a7 => wpAny_pure (next h' a1 a3 a4 a5 a7)) (F.args_zip_next_1 _))))
theorem zp_end {R : Option Value → Shared → Prop} (hh : A.handled = none) (D : ZipApart q U O j1 j2 m1 m2) (hq : IsZipHeld s.heap q U O G f) (hG : s.heap.get? G = some og) (hU : IsPair s.heap U (.ref j1) (.ref j2)) (t1 : s.heap.IsTupleIter j1 m1 k1) (b1 : s.heap.IsTuple m1 us) (eu : us[k1]? = none)
    (next : ∀ h', (∀ c o, c ≠ q → c ≠ j1 → s.heap.get? c = some o → h'.get? c = some o) → R none { s with heap := h' }) : wpAny (model P w) A (pyNext (.ref q)) R E s := by
  have ty : s.TypeIs (.ref q) "zip" := ⟨_, hq, rfl⟩
  unfold pyNext
  refine wpAny_bind (wpAny_attempt (wpAny_callSpecial?_slot (name := Str.ofString "__next__") ty F.slot_zip_next (wpAny_call_entry F.slot_zip_next ty F.entry_zip_next (zn_end hh D hq hG hU t1 b1 eu fun h' e kp ⟨o, ho, hc⟩ => ?_) (F.args_zip_next_1 _))))
  exact wpAny_bind (wpAny_isInstance (T := "StopIteration") (b := true) ⟨o, ho, hc⟩ isSubtype_stop (wpAny_pure (next _ kp)))
end
theorem zipT_arg {P : Program} {w : World} (q U O j1 j2 m1 m2 : Addr) (D : ZipApart q U O j1 j2 m1 m2) (us vs : Array Value) (hl : us.size = vs.size) :
    PairArg P w "zip" q [q, U, O, j1, j2, m1, m2] [q, O, j1, j2] us.size (fun i k v => us[i]? = some k ∧ vs[i]? = some v)
      (fun h => IsZip h q U O .none ∧ IsPair h U (.ref j1) (.ref j2) ∧ (∃ a b, IsPair h O a b) ∧ h.IsTupleIter j1 m1 0 ∧ h.IsTupleIter j2 m2 0 ∧ h.IsTuple m1 us ∧ h.IsTuple m2 vs) where
  type := fun s ok => ⟨_, ok.1, rfl⟩
  notDict := by decide
  keep := fun h h' ⟨z0, z1, ⟨a, b, z2⟩, z3, z4, z5, z6⟩ k => ⟨k _ _ z0, k _ _ z1, ⟨a, b, k _ _ z2⟩, z3.at fun o e => k _ o e, z4.at fun o e => k _ o e, z5.at fun o e => k _ o e, z6.at fun o e => k _ o e⟩
  there := fun h ⟨z0, z1, ⟨a, b, z2⟩, ⟨_, z3, _⟩, ⟨_, z4, _⟩, ⟨_, z5, _⟩, ⟨_, z6, _⟩⟩ c hc => by
    simp only [List.mem_cons, List.not_mem_nil, or_false] at hc
    rcases hc with rfl | rfl | rfl | rfl | rfl | rfl | rfl
    · exact ⟨_, z0⟩
    · exact ⟨_, z1⟩
    · exact ⟨_, z2⟩
    · exact ⟨_, z3⟩
    · exact ⟨_, z4⟩
    · exact ⟨_, z5⟩
    · exact ⟨_, z6⟩
  sub := fun b hb => by simp only [List.mem_cons, List.not_mem_nil, or_false] at hb ⊢; rcases hb with rfl | rfl | rfl | rfl <;> simp
  noKeys := fun A s Q E hA ok h => getAttrOr_miss_zip ok.1 rfl rfl rfl zip_no_keys (by decide +kernel) hA h
  iter := fun A s d Q E hA ⟨z0, z1, ⟨a, b, z2⟩, z3, z4, z5, z6⟩ hd hdf h => by
    simp only [List.mem_cons, List.not_mem_nil, or_false, not_or] at hdf
    obtain ⟨d0, d1, d2, d3, d4, d5, d6⟩ := hdf
    refine wpAny_pyIter_zip z0 (h q [q, O, j1, j2] (fun i h => IsPair h U (.ref j1) (.ref j2) ∧ h.IsTupleIter j1 m1 i ∧ h.IsTupleIter j2 m2 i ∧ h.IsTuple m1 us ∧ h.IsTuple m2 vs ∧ ((IsZip h q U O .none ∧ ∃ a b, IsPair h O a b) ∨ ∃ G f og, IsZipHeld h q U O G f ∧ h.get? G = some og ∧ G ≠ q ∧ G ≠ j1 ∧ G ≠ j2 ∧ G ≠ d)) s.heap s.toks ?_ ⟨z1, z3, z4, z5, z6, .inl ⟨z0, a, b, z2⟩⟩ (fun _ _ e => e) fun b hb => .inl hb)
    refine { off := fun hm => ?_, frame := fun i g1 g2 st k => ?_, item := fun i s1 Q1 E1 hi st hds next => ?_, done := fun s1 Q1 E1 st next => ?_ }
    · simp only [List.mem_cons, List.not_mem_nil, or_false] at hm
      rcases hm with e | e | e | e
      · exact d0 e
      · exact d2 e
      · exact d3 e
      · exact d4 e
    · obtain ⟨y1, y3, y4, y5, y6, y⟩ := st
      refine ⟨k _ _ (Ne.symm d1) y1, y3.at fun o e => k _ o (Ne.symm d3) e, y4.at fun o e => k _ o (Ne.symm d4) e, y5.at fun o e => k _ o (Ne.symm d5) e, y6.at fun o e => k _ o (Ne.symm d6) e, ?_⟩
      rcases y with ⟨y0, a, b, y2⟩ | ⟨G, f, og, y0, yG, r1, r2, r3, r4⟩
      · exact .inl ⟨k _ _ (Ne.symm d0) y0, a, b, k _ _ (Ne.symm d2) y2⟩
      · exact .inr ⟨G, f, og, k _ _ (Ne.symm d0) y0, k _ _ r4 yG, r1, r2, r3, r4⟩
    · obtain ⟨y1, y3, y4, y5, y6, y⟩ := st
      have eu := Array.getElem?_eq_getElem hi
      have ev := Array.getElem?_eq_getElem (hl ▸ hi : i < vs.size)
      have lt : ∀ {c o}, s1.heap.get? c = some o → s1.heap.objs.size ≠ c := fun e => Nat.ne_of_gt (Heap.lt_size e)
      have n1 : s1.heap.objs.size ≠ j1 := let ⟨_, e, _⟩ := y3; lt e
      have n2 : s1.heap.objs.size ≠ j2 := let ⟨_, e, _⟩ := y4; lt e
      rcases y with ⟨y0, a, b, y2⟩ | ⟨G, f, og, y0, yG, r1, r2, r3, r4⟩
      · refine RZ.pyNext_zipT_item D y0 y1 y2 y3 y4 y5 y6 eu ev fun h' a1 a2 a3 a4 a5 a6 k => ?_
        refine next s1.heap.objs.size _ _ h' s1.toks ⟨eu, ev⟩ (.inl ⟨_, a5, rfl, _, rfl⟩) ⟨k _ _ D.TIz D.TITO D.TIi1 D.TIi2 y1, a3, a4, y5.at fun o e => k _ o D.l1z D.l1TO D.l1i1 D.l1i2 e, y6.at fun o e => k _ o D.l2z D.l2TO D.l2i1 D.l2i2 e, .inr ⟨s1.heap.objs.size, false, _, a1, a5, lt y0, n1, n2, Nat.ne_of_gt hds⟩⟩ fun c o hc e => ?_
        simp only [List.mem_cons, List.not_mem_nil, or_false, not_or] at hc
        exact k c o hc.1 hc.2.1 hc.2.2.1 hc.2.2.2 e
      · refine zp_item D y0 yG y1 y3 y4 y5 y6 eu ev fun h' a1 a3 a4 a5 k => ?_
        refine next s1.heap.objs.size _ _ h' s1.toks ⟨eu, ev⟩ (.inl ⟨_, a5, rfl, _, rfl⟩) ⟨k _ _ D.TIz D.TIi1 D.TIi2 y1, a3, a4, y5.at fun o e => k _ o D.l1z D.l1i1 D.l1i2 e, y6.at fun o e => k _ o D.l2z D.l2i1 D.l2i2 e, .inr ⟨G, true, og, a1, k _ _ r1 r2 r3 yG, r1, r2, r3, r4⟩⟩ fun c o hc e => ?_
        simp only [List.mem_cons, List.not_mem_nil, or_false, not_or] at hc
        exact k c o hc.1 hc.2.2.1 hc.2.2.2 e
    · obtain ⟨y1, y3, y4, y5, y6, y⟩ := st
      have eu : us[us.size]? = none := Array.getElem?_eq_none (Nat.le_refl _)
      rcases y with ⟨y0, a, b, y2⟩ | ⟨G, f, og, y0, yG, r1, r2, r3, r4⟩
      · refine RZ.pyNext_zipT_end hA D y0 y1 y2 y3 y4 y5 y6 (.inl eu) fun h' k => next h' s1.toks fun c o hc e => ?_
        simp only [List.mem_cons, List.not_mem_nil, or_false, not_or] at hc
        exact k c o hc.1 hc.2.1 hc.2.2.1 hc.2.2.2 e
      · refine zp_end hA D y0 yG y1 y3 y5 eu fun h' k => next h' s1.toks fun c o hc e => ?_
        simp only [List.mem_cons, List.not_mem_nil, or_false, not_or] at hc
        exact k c o hc.1 hc.2.2.1 e
theorem kv_zip {P : Program} {w : World} : ∀ {kvs : List (Key × V)} {its its2 : List Value}, Vals (kvs.map fun x => kV x.1) its → Vals (kvs.map (·.2)) its2 → ∃ prs : List (Key × Value), KV kvs prs ∧ prs.length = kvs.length ∧ ∀ (i : Nat) (key v : Value), its[i]? = some key → its2[i]? = some v → ∃ k, prs[i]? = some (k, v) ∧ (mixKind P w).is k key = true
  | [], _, _, r1, r2 => ⟨[], .nil, rfl, fun i key v e _ => by
      cases r1
      cases e⟩
  | (k, y) :: rest, _, _, r1, r2 => by
    rw [List.map_cons] at r1 r2
    cases r1 with
    | cons a1 t1 =>
      cases r2 with
      | cons a2 t2 =>
        obtain ⟨prs, r, hl, hp⟩ := kv_zip (P := P) (w := w) t1 t2
        refine ⟨(k, _) :: prs, .cons ⟨rfl, a2⟩ r, by rw [List.length_cons, List.length_cons, hl], fun i key v e e2 => ?_⟩
        cases i with
        | zero =>
          rw [List.getElem?_cons_zero] at e e2
          cases e
          cases e2
          exact ⟨k, rfl, kV_is a1⟩
        | succ i =>
          rw [List.getElem?_cons_succ] at e e2
          exact hp i key v e e2
def tDz (K : PySem.W.Frag) (ta : TA) : TE := fun σ H Q => ta σ H fun vs H1 => ∃ (a b : Addr) (kvs : List (Key × V)), vs = [.ref a, .ref b] ∧ SqT K H1 a (kvs.map fun x => kV x.1) ∧ SqT K H1 b (kvs.map (·.2)) ∧ ∀ p, H1 p = none → Q (.ref p) (upd H1 p (.dK (mergeK [] kvs)))
theorem pe_dictZip {X : Cx} {e e2 : Expr} {ta : TA} {p p2 pos pos2 : Pos} (hgd : Gl X "dict") (hmd : X.mg "dict" = none) (hg : Gl X "zip") (hm : X.mg "zip" = none) (hcalm : X.calm = true) (ha : PA X [e, e2] ta)
    (na : starEach [.Call (.Name "zip" p2) [e, e2] [] pos2] X.env = (false, eval (.Call (.Name "zip" p2) [e, e2] [] pos2) X.env) :: starEach [] X.env := by rfl)
    (hs : starEach [e, e2] X.env = (false, eval e X.env) :: starEach [e2] X.env := by rfl) (hpl : (backTo pos2 (starEach [e2] X.env)).any (·.1) = false := by rfl) :
    PE X (.Call (.Name "dict" p) [.Call (.Name "zip" p2) [e, e2] [] pos2] [] pos) (tDz X.K ta) := by
  refine ⟨fun pins s σ H Q I h => ?_⟩
  refine Call_ (ld_blt I hgd hmd PyProof.Rows.boot_dict (PyProof.Rows.callWith_type1 (args_cons (Call_ (ld_blt I hg hm PyProof.Rows.boot_zip (PyProof.Rows.callWith_type1 (thn (ha.run pos2 pins s σ H _ I h) fun us s1 ⟨vs, H1, I1, r1, q1⟩ => ?_) hs hpl))) na) na))
  obtain ⟨a, b, kvs, rfl, ha1, hb1, q⟩ := q1
  cases r1 with
  | cons ra rr =>
    cases rr with
    | cons rb rr =>
      cases rr
      cases ra
      cases rb
      obtain ⟨its, v1, p1, hz1⟩ := I1.tuple ha1
      obtain ⟨its2, v2, p2', hz2⟩ := I1.tuple hb1
      obtain ⟨o1, ho1, y1⟩ := id p1
      obtain ⟨o2, ho2, y2⟩ := id p2'
      obtain ⟨prs, rel, hl, hp⟩ := kv_zip (P := X.prog) (w := X.w) v1 v2
      have l1 : its.length = kvs.length := by
        have := v1.length
        rw [List.length_map] at this
        exact this.symm
      have l2 : its2.length = kvs.length := by
        have := v2.length
        rw [List.length_map] at this
        exact this.symm
      rw [List.length_map] at hz1
      refine RZ.call_zipT (show s1.heap.IsTuple a its.toArray from p1) (show s1.heap.IsTuple b its2.toArray from p2') fun h' hz hTI hTO t1 t2 hsz hk => args_nil ?_
      have D := PySem.W.ktu_apart s1.heap.objs.size a b (Heap.lt_size ho1) (Heap.lt_size ho2)
      refine PySem.call_dict_pairs (knd := mixKind X.prog X.w) (kvs := prs) (zipT_arg _ _ _ _ _ a b D its.toArray its2.toArray (by rw [List.size_toArray, List.size_toArray, l1, l2])) (I1.ok.hd hcalm) ⟨hz, hTI, ⟨_, _, hTO⟩, t1, t2, ⟨o1, hk _ _ ho1, y1⟩, ⟨o2, hk _ _ ho2, y2⟩⟩ ⟨?_, fun i key v e => ?_⟩ ?_ fun h2 tk hd hk2 => ?_
      · rw [hl, List.size_toArray, l1]
      · exact hp i key v (by simpa using e.1) (by simpa using e.2)
      · rw [List.size_toArray, l1]
        exact hz1
      · have keep : ∀ c o, s1.heap.get? c = some o → h2.get? c = some o := fun c o e => by
          have hlt := Heap.lt_size e
          refine hk2 c o (fun hm => ?_) (hk c o e)
          simp only [List.mem_cons, List.not_mem_nil, or_false] at hm
          rcases hm with z | z | z | z
          · exact Nat.not_lt.mpr (Nat.le_add_right _ _) (z ▸ hlt)
          · exact Nat.not_lt.mpr (Nat.le_add_right _ _) (z ▸ hlt)
          · exact Nat.not_lt.mpr (Nat.le_refl _) (z ▸ hlt)
          · exact Nat.not_lt.mpr (Nat.le_add_right _ _) (z ▸ hlt)
        have hle : s1.heap.objs.size ≤ h'.objs.size := by
          rw [hsz]
          exact Nat.le_add_right _ _
        have hm : (h'.objs.size == sysModules) = false := beq_eq_false_iff_ne.mpr (Nat.ne_of_gt (Nat.lt_of_lt_of_le I1.big hle))
        have hlen : (mergeK [] kvs).length ≤ sizeLine := by
          refine Nat.le_trans (length_mergeK kvs []) ?_
          rw [List.length_nil, Nat.zero_add]
          exact hz1
        exact ⟨.ref h'.objs.size, upd H1 h'.objs.size (.dK (mergeK [] kvs)), I1.laid (t' := tk) keep hle (show ObjOk X.prog X.w _ _ _ (.dK (mergeK [] kvs)) from ⟨hlen, hm, merged [] prs, KV.merge rel .nil, hd⟩), rfl, q _ (I1.hok.fresh hle)⟩
end Pf


namespace Pf
open PySem PySem.Spec PyProof.Rows L2
/-! ### sum(lists, start) -/
abbrev LiO (its : List Value) (n : Nat) : Obj := { cls := .type "list", dict := none, data := .seq its.toArray n, slots := #[] }
section
variable {P : Program} {w : World} {A : Around} {R : Result → Shared → Prop} {I l S : Addr} {items : Array Value}
theorem suml_loop (hh : A.in1.handled = none) (nIS : I ≠ S) (nIl : l ≠ I) (nSl : l ≠ S) : ∀ (rest : List (Addr × List Value)) (i : Nat) (s : Shared) (t : Addr) (acc : List Value) (c1 ct : Nat), items.size = i + rest.length → s.heap.IsListIter I l i → s.heap.IsList l items →
    (∀ (j : Nat) (x : Addr × List Value), rest[j]? = some x → items[i + j]? = some (.ref x.1) ∧ x.1 ≠ I ∧ x.1 ≠ S ∧ ∃ c, s.heap.get? x.1 = some (LiO x.2 c)) → s.heap.get? S = some (LiO [.ref t] c1) → s.heap.get? t = some (LiO acc ct) → t ≠ I → t ≠ S →
    acc.length + (rest.map (·.2)).flatten.length ≤ sizeLine →
    (∀ h' tk t' c', h'.get? t' = some (LiO (acc ++ (rest.map (·.2)).flatten) c') → (rest = [] → t' = t) → (rest ≠ [] → s.heap.objs.size ≤ t') → (∀ b o, b ≠ I → b ≠ S → s.heap.get? b = some o → h'.get? b = some o) → R (.ok (.ret (.ref t'))) { s with heap := h', toks := tk }) →
    codeAny (model P w) A (.builtin "sum.loop" ⟨[.ref I, .ref S, rawInt 2, rawInt 0], []⟩) R s
  | [], i, s, t, acc, c1, ct, hn, it, hl, _, hS, ht, _, _, _, hR => by
    refine codeAny_builtin F.entry_sum_loop ?_; rw [Around.under_plainId F.plain_sum_loop _]
    show wpAny _ A.in1 (seqItems? (.ref S) >>= _) _ _ _
    refine wpAny_bind (wpAny_seqItems hS rfl ?_)
    show wpAny _ A.in1 (tryCatch (pyNext (.ref I)) _ >>= _) _ _ _
    refine wpAny_bind (wpAny_tryCatch (wpAny_pyNext_list_end hh it hl (Array.getElem?_eq_none (by rw [hn]; exact Nat.le_refl _)) fun h' he => ?_))
    exact wpAny_pure (hR h' s.toks t ct (by rw [List.map_nil, List.flatten_nil, List.append_nil]; exact he t _ (by assumption) ht) (fun _ => rfl) (fun z => absurd rfl z) fun b o n1 _ e => he b o n1 e)
  | (b, ys) :: rest, i, s, t, acc, c1, ct, hn, it, hl, hx, hS, ht, ntI, ntS, hz, hR => by
    obtain ⟨e0, nbI, nbS, cb, hb⟩ := hx 0 (b, ys) rfl
    rw [List.map_cons, List.flatten_cons] at hR
    rw [List.map_cons, List.flatten_cons, List.length_append] at hz
    have hz : acc.length + (ys.length + (rest.map (·.2)).flatten.length) ≤ sizeLine := hz
    refine codeAny_builtin F.entry_sum_loop ?_; rw [Around.under_plainId F.plain_sum_loop _]
    show wpAny _ A.in1 (seqItems? (.ref S) >>= _) _ _ _
    refine wpAny_bind (wpAny_seqItems hS rfl ?_)
    show wpAny _ A.in1 (tryCatch (pyNext (.ref I)) _ >>= _) _ _ _
    refine wpAny_bind (wpAny_tryCatch (wpAny_pyNext_list_item it hl e0 fun h1 it1 s1 => ?_))
    have hS1 := s1.extBut _ _ nIS.symm hS
    have ht1 := s1.extBut _ _ ntI ht
    have hb1 := s1.extBut _ _ nbI hb
    show wpAny _ A.in1 ((holding [Value.ref b] (binaryOp .Add (.ref t) (.ref b))).attempt >>= _) _ _ _
    refine wpAny_bind (wpAny_attempt (wpAny_holding (PySem.P.add_list (n := ct) (n2 := cb) ht1 hb1 ?_ (by rw [List.size_toArray, List.size_toArray]; show acc.length + ys.length ≤ _; omega))))
    have ea : acc.toArray ++ ys.toArray = (acc ++ ys).toArray := by simp
    rw [ea]
    have sz1 : h1.objs.size = s.heap.objs.size := s1.1
    generalize hh2 : h1.push { cls := Value.type "list", data := Data.seq (acc ++ ys).toArray } = h2
    have up2 : ∀ c o, h1.get? c = some o → h2.get? c = some o := fun c o e => hh2 ▸ Heap.get?_push_of_some _ e
    have new2 : h2.get? h1.objs.size = some (LiO (acc ++ ys) 0) := hh2 ▸ Heap.get?_push_size _ rfl
    have sz2 : h2.objs.size = h1.objs.size + 1 := hh2 ▸ Heap.size_push ..
    have ltS : S < h1.objs.size := Heap.lt_size hS1
    have ltI : I < h1.objs.size := by
      obtain ⟨_, e, _⟩ := it1
      exact Heap.lt_size e
    show wpAny _ A.in1 (updateSeq S (fun _ => #[.ref h1.objs.size]) >>= _) _ _ _
    refine wpAny_bind (wpAny_updateSeq (up2 _ _ hS1) rfl ?_)
    have hS3 := Heap.get?_update_self (Obj.mapSeq fun _ => #[Value.ref h1.objs.size]) (up2 _ _ hS1) rfl
    refine wpAny_bind (wpAny_letGo ?_)
    refine wpAny_bind (wpAny_updateSeq hS3 rfl (wpAny_pure ⟨plainId_quiet F.plain_sum_loop _, ?_⟩))
    have hS4 := Heap.get?_update_self (Obj.mapSeq fun _ => #[Value.ref h1.objs.size]) hS3 rfl
    have up4 : ∀ c o, c ≠ S → h2.get? c = some o → ((h2.update S (Obj.mapSeq fun _ => #[Value.ref h1.objs.size])).update S (Obj.mapSeq fun _ => #[Value.ref h1.objs.size])).get? c = some o := fun c o n e => (Heap.get?_update_other _ _ n.symm).trans ((Heap.get?_update_other _ _ n.symm).trans e)
    have all : ∀ c o, c ≠ I → c ≠ S → s.heap.get? c = some o → ((h2.update S (Obj.mapSeq fun _ => #[Value.ref h1.objs.size])).update S (Obj.mapSeq fun _ => #[Value.ref h1.objs.size])).get? c = some o := fun c o n1 n2 e => up4 c o n2 (up2 _ _ (s1.extBut _ _ n1 e))
    refine suml_loop hh nIS nIl nSl rest (i + 1) { s with heap := (h2.update S (Obj.mapSeq fun _ => #[Value.ref h1.objs.size])).update S (Obj.mapSeq fun _ => #[Value.ref h1.objs.size]) } h1.objs.size (acc ++ ys) _ 0 ?_ ?_ ?_ (fun j x hj => ?_) hS4 (up4 _ _ (Nat.ne_of_gt ltS) new2) (Nat.ne_of_gt ltI) (Nat.ne_of_gt ltS) ?_ fun h' tk t' c' g1 g2 g3 g4 => ?_
    · rw [hn, List.length_cons]
      omega
    · exact it1.at fun o e => up4 _ _ nIS (up2 _ _ e)
    · exact hl.at fun o e => all _ _ nIl nSl e
    · obtain ⟨y1, y2, y3, c, y4⟩ := hx (j + 1) x hj
      exact ⟨by rw [show i + 1 + j = i + (j + 1) by omega]; exact y1, y2, y3, c, all _ _ y2 y3 y4⟩
    · rw [List.length_append]
      omega
    · refine hR h' tk t' c' (by rw [← List.append_assoc]; exact g1) (fun z => nomatch z) (fun _ => ?_) fun b o n1 n2 e => g4 b o n1 n2 (all _ _ n1 n2 e)
      cases hr : rest with
      | nil =>
        rw [g2 hr, sz1]
        exact Nat.le_refl _
      | cons y r =>
        have := g3 (by rw [hr]; intro z; cases z)
        have e4 : ((h2.update S (Obj.mapSeq fun _ => #[Value.ref h1.objs.size])).update S (Obj.mapSeq fun _ => #[Value.ref h1.objs.size])).objs.size = h2.objs.size := by
          rw [Heap.size_update, Heap.size_update]
        exact Nat.le_trans (by rw [← sz1, ← Nat.lt_succ_iff]; show h1.objs.size < _; rw [e4, sz2]; exact Nat.lt_succ_of_le (Nat.le_succ _)) this
end
theorem sub_ls : isSubtype (.type "list") (.type "str") = pure false := by rw [isSubtype_type]; kernel_rfl
theorem sub_lb : isSubtype (.type "list") (.type "bytes") = pure false := by rw [isSubtype_type]; kernel_rfl
theorem sub_la : isSubtype (.type "list") (.type "bytearray") = pure false := by rw [isSubtype_type]; kernel_rfl
theorem args_sum2 (a b : Value) : argsOk "sum" ⟨[a, b], []⟩ := by unfold argsOk; kernel_rfl
theorem lists_of {X : Cx} {pins : List (Addr × Obj)} {σ : L2.St} {H : Hp} {s : Shared} (I : Inv X pins σ H s) : ∀ {ls : List (Addr × List V)}, (∀ x ∈ ls, H x.1 = some (.lst x.2)) → ∃ rest : List (Addr × List Value), rest.map (·.1) = ls.map (·.1) ∧ Vals (ls.map (·.2)).flatten (rest.map (·.2)).flatten ∧ ∀ x ∈ rest, ∃ c, s.heap.get? x.1 = some (LiO x.2 c)
  | [], _ => ⟨[], rfl, .nil, fun x h => by cases h⟩
  | (a, ys) :: ls, h => by
    obtain ⟨rest, r1, r2, r3⟩ := lists_of I (ls := ls) fun x hx => h x (List.mem_cons_of_mem _ hx)
    obtain ⟨_, its, n, r, _, e⟩ := I.lstM (h (a, ys) (List.mem_cons_self ..))
    refine ⟨(a, its) :: rest, by rw [List.map_cons, List.map_cons, r1], ?_, fun x hx => ?_⟩
    · rw [List.map_cons, List.map_cons, List.flatten_cons, List.flatten_cons]
      exact r.append r2
    · rcases List.mem_cons.mp hx with rfl | hx
      · exact ⟨n, e⟩
      · exact r3 x hx
def rSumL (K : PySem.W.Frag) : List V → Hp → VK → Prop := fun vs H Q => ∃ (a b : Addr) (ls : List (Addr × List V)) (xs : List V), vs = [.ref a, .ref b] ∧ SqL K H a (ls.map fun x => .ref x.1) ∧ (∀ x ∈ ls, H x.1 = some (.lst x.2)) ∧ H b = some (.lst xs) ∧ xs.length + (ls.map (·.2)).flatten.length ≤ sizeLine ∧
  (ls = [] → Q (.ref b) H) ∧ (ls ≠ [] → ∀ p, H p = none → Q (.ref p) (upd H p (.lst (xs ++ (ls.map (·.2)).flatten))))
theorem cr_sumL (K : PySem.W.Frag) {X : Cx} (hcalm : X.calm = true) (hK : X.K = K := by rfl) : CallR X (.builtin "sum") (rSumL K) := by
  subst hK
  intro pins s σ H vs us Q I r h
  obtain ⟨a, b, ls, xs, rfl, ha, hls, hb, hz, q0, q1⟩ := h
  cases r with
  | cons ra rr =>
    cases rr with
    | cons rb rr =>
      cases rr
      cases ra
      cases rb
      obtain ⟨its, v1, pl, _⟩ := I.list ha
      obtain ⟨rest, r1, r2, r3⟩ := lists_of I hls
      obtain ⟨_, bs, nb, vb, _, eb⟩ := I.lstM hb
      have hl : s.heap.IsList a its.toArray := pl.isList
      have ei : its = rest.map fun x => Value.ref x.1 := by
        have e1 : (ls.map fun x => V.ref x.1) = (ls.map (·.1)).map V.ref := by rw [List.map_map]; rfl
        rw [e1] at v1
        rw [refs_at v1, ← r1, List.map_map]
        rfl
      refine call_function_tree F.kind_sum F.plain_sum F.entry_sum (args_sum2 _ _) ?_
      unfold Builtin.«sum»; simp only [List.length_cons, List.length_nil]; rw [if_neg (by decide)]
      refine wpAny_bind (wpAny_of_eq (show Builtin.Builtins.bindParams "sum" ["start"] 0 ⟨[.ref b], []⟩ = pure [some (.ref b)] from rfl) ?_)
      refine wpAny_bind (wpAny_pyIter_list hl ?_)
      have tb : ∀ tk, Shared.TypeIs { s with heap := s.heap.push { cls := .type "list_iterator", data := .fields #[.ref a, .int 0 0] }, toks := tk } (.ref b) "list" := fun _ => ⟨_, Heap.get?_push_of_some _ eb, rfl⟩
      refine wpAny_bind (wpAny_pure ?_)
      simp only [List.forIn_cons, List.forIn_nil]
      refine wpAny_bind (wpAny_bind (wpAny_bind (wpAny_isInstance (T := "list") (b := false) (tb _) sub_ls ?_))); simp only [Bool.false_eq_true, if_false]
      refine wpAny_pure (wpAny_bind (wpAny_bind (wpAny_isInstance (T := "list") (b := false) (tb _) sub_lb ?_))); simp only [Bool.false_eq_true, if_false]
      refine wpAny_pure (wpAny_bind (wpAny_bind (wpAny_isInstance (T := "list") (b := false) (tb _) sub_la ?_))); simp only [Bool.false_eq_true, if_false]
      refine wpAny_pure (wpAny_pure (wpAny_bind (wpAny_newObj_type (wpAny_pure ⟨plainId_quiet F.plain_sum_loop _, ?_⟩))))
      have lt : ∀ {c o}, s.heap.get? c = some o → c < s.heap.objs.size := fun e => Heap.lt_size e
      have la : a < s.heap.objs.size := pl.lt
      have lb : b < s.heap.objs.size := lt eb
      have sz : (s.heap.push { cls := .type "list_iterator", data := .fields #[.ref a, .int 0 0] }).objs.size = s.heap.objs.size + 1 := Heap.size_push ..
      have up : ∀ c o, s.heap.get? c = some o → ((s.heap.push { cls := .type "list_iterator", data := .fields #[.ref a, .int 0 0] }).push (LiO [.ref b] 0)).get? c = some o := fun c o e => Heap.get?_push_of_some _ (Heap.get?_push_of_some _ e)
      have off : ∀ {c}, c < s.heap.objs.size + 1 → c ≠ (s.heap.push { cls := .type "list_iterator", data := .fields #[.ref a, .int 0 0] }).objs.size := fun h => by
        rw [sz]
        exact Nat.ne_of_lt h
      refine suml_loop (P := X.prog) (w := X.w) (A := X.A) (I := s.heap.objs.size) (l := a) (S := (s.heap.push { cls := .type "list_iterator", data := .fields #[.ref a, .int 0 0] }).objs.size) (items := its.toArray) (I.ok.hd hcalm) (off (Nat.lt_succ_self _)) (Nat.ne_of_lt la) (off (Nat.lt_succ_of_lt la)) rest 0 { s with heap := (s.heap.push { cls := .type "list_iterator", data := .fields #[.ref a, .int 0 0] }).push (LiO [.ref b] 0) } b bs 0 nb ?_ ⟨_, Heap.get?_push_of_some _ (Heap.get?_push_size _ rfl), rfl, rfl⟩ (hl.at fun o e => up _ _ e) (fun j x hj => ?_) ?_ (up _ _ eb) (Nat.ne_of_lt lb) (off (Nat.lt_succ_of_lt lb)) ?_ fun h' tk t' c' g1 g2 g3 g4 => ?_
      · rw [List.size_toArray, ei, List.length_map, Nat.zero_add]
      · obtain ⟨c, hc⟩ := r3 x (List.mem_of_getElem? hj)
        have lx := lt hc
        refine ⟨?_, Nat.ne_of_lt lx, off (Nat.lt_succ_of_lt lx), c, up _ _ hc⟩
        rw [Nat.zero_add, List.getElem?_toArray, ei, List.getElem?_map, hj]
        rfl
      · exact Heap.get?_push_size _ rfl
      · have := r2.length
        have := vb.length
        omega
      · have keep : ∀ c o, s.heap.get? c = some o → h'.get? c = some o := fun c o e => g4 c o (Nat.ne_of_lt (lt e)) (off (Nat.lt_succ_of_lt (lt e))) (up c o e)
        cases hr : ls with
        | nil =>
          have hrest : rest = [] := by
            rw [hr] at r1
            cases rest with
            | nil => rfl
            | cons y z => cases r1
          rw [g2 hrest]
          exact ⟨.ref b, H, I.kept keep, rfl, q0 hr⟩
        | cons y z =>
          have hrest : rest ≠ [] := fun e => by
            rw [e, hr] at r1
            cases r1
          have hle : s.heap.objs.size ≤ t' := Nat.le_trans (by rw [Heap.size_push, Heap.size_push]; omega) (g3 hrest)
          refine ⟨.ref t', upd H t' (.lst (xs ++ (ls.map (·.2)).flatten)), I.laid keep hle (show ObjOk X.prog X.w _ _ _ (.lst (xs ++ (ls.map (·.2)).flatten)) from ⟨?_, bs ++ (rest.map (·.2)).flatten, c', vb.append r2, g1⟩), rfl, q1 (by rw [hr]; intro e; cases e) _ (I.hok.fresh hle)⟩
          rw [List.length_append]
          exact hz
/-! ### tuple(xs) of a list, its object known; dict(ps) of such a tuple of pairs -/
def rTupleFz (K : PySem.W.Frag) : List V → Hp → VK → Prop := fun xs H Q => ∃ p ys, xs = [.ref p] ∧ SqL K H p ys ∧ ∀ (l : Addr) (o : Obj), H l = none → o.dict = none → Q (.ref l) (upd H l (.frz o (.tup ys)))
theorem tupleFz (K : PySem.W.Frag) {X : Cx} (hK : X.K = K := by rfl) : CallR X (.type "tuple") (rTupleFz K) := by
  subst hK
  intro pins s σ H vs us Q I r h
  obtain ⟨p, ys, rfl, hs, q⟩ := h
  obtain ⟨u, rfl, rfl⟩ := vals1 r
  obtain ⟨its, rv, pl, hz⟩ := I.list hs
  refine call_tuple_list pl.isList (fun h' hk => ?_) (by rw [List.size_toArray, ← rv.length]; exact hz)
  have I1 : Inv X pins σ H { s with heap := h' } := I.kept (t' := s.toks) hk
  refine ⟨.ref h'.objs.size, _, I1.laid (t' := s.toks) (o := .frz { cls := .type "tuple", data := .seq its.toArray } (.tup ys)) (fun b o e => Heap.get?_push_of_some _ e) (Nat.le_refl _) ?_, rfl, q _ _ (I1.hok.fresh (Nat.le_refl _)) rfl⟩
  exact ⟨Heap.get?_push_size _ rfl, hz, its, rv, IsTup.new _ _⟩
theorem trips {X : Cx} {pins : List (Addr × Obj)} {σ : L2.St} {H : Hp} {s : Shared} (I : Inv X pins σ H s) : ∀ {ps : List Addr} {kvs : List (Key × V)}, Paired (fun p kv => SqT X.K H p [kV kv.1, kv.2]) ps kvs →
    ∃ tr : List (Key × Value × Value), tr.length = ps.length ∧ KV kvs (tr.map fun t => (t.1, t.2.2)) ∧ ∀ (j : Nat) (t : Key × Value × Value), tr[j]? = some t → ∃ b : Addr, ps[j]? = some b ∧ IsTup s.heap b #[t.2.1, t.2.2] ∧ (mixKind X.prog X.w).is t.1 t.2.1 = true
  | _, _, .nil => ⟨[], rfl, .nil, fun j t e => by simp at e⟩
  | _, _, .cons (a := p) (b := kv) h t => by
    obtain ⟨tr, hl, r, hp⟩ := trips I t
    obtain ⟨its, rv, ht, _⟩ := I.tuple h
    obtain ⟨u, y, ei, ru, ry⟩ := vals2 rv
    subst ei
    refine ⟨(kv.1, u, y) :: tr, by rw [List.length_cons, List.length_cons, hl], .cons ⟨rfl, ry⟩ r, fun j t e => ?_⟩
    cases j with
    | zero =>
      rw [List.getElem?_cons_zero] at e
      cases e
      exact ⟨p, rfl, ht, kV_is ru⟩
    | succ j =>
      rw [List.getElem?_cons_succ] at e
      obtain ⟨b, e1, e2⟩ := hp j t e
      exact ⟨b, by rw [List.getElem?_cons_succ]; exact e1, e2⟩
def rDictT (K : PySem.W.Frag) : List V → Hp → VK → Prop := fun xs H Q => ∃ (a : Addr) (o : Obj) (ps : List Addr) (kvs : List (Key × V)), xs = [.ref a] ∧ H a = some (.frz o (.tup (ps.map V.ref))) ∧ o.dict = none ∧ Paired (fun p kv => SqT K H p [kV kv.1, kv.2]) ps kvs ∧ ∀ p, H p = none → Q (.ref p) (upd H p (.dK (mergeK [] kvs)))
theorem dictT (K : PySem.W.Frag) {X : Cx} (hcalm : X.calm = true := by rfl) (hK : X.K = K := by rfl) : CallR X (.type "dict") (rDictT K) := by
  subst hK
  intro pins s σ H xs us Q I r h
  obtain ⟨a, o, ps, kvs, rfl, ha, hd, hp, q⟩ := h
  obtain ⟨u, rfl, rfl⟩ := vals1 r
  obtain ⟨e, hz, its, rv, o', e', hc, n, hdat⟩ := I.hok a _ ha
  have eo : o' = o := by
    rw [e] at e'
    exact (Option.some.inj e').symm
  subst eo
  obtain ⟨tr, hl, rel, htr⟩ := trips I hp
  have ei : its = ps.map Value.ref := refs_at rv
  rw [List.length_map] at hz
  refine PySem.call_dict_pairs (knd := mixKind X.prog X.w) (kvs := tr.map fun t => (t.1, t.2.2)) (PairArg.tuple a its.toArray (fun j => ps.getD j 0) (tr.map fun t => (t.2.1, t.2.2))) (I.ok.hd hcalm) ⟨⟨o', n, e, hc, hd, hdat⟩, ?_, fun j k v hj => ?_⟩ ⟨?_, fun i key v hi => ?_⟩ ?_ fun h' tk hd' k => ?_
  · rw [List.size_toArray, ei, List.length_map, List.length_map, hl]
  · rw [List.getElem?_map] at hj
    cases ht : tr[j]? with
    | none =>
      rw [ht] at hj
      cases hj
    | some t =>
      rw [ht] at hj
      cases hj
      obtain ⟨b, e1, e2, _⟩ := htr j t ht
      have eb : ps.getD j 0 = b := by
        rw [List.getD_eq_getElem?_getD, e1]
        rfl
      refine ⟨?_, .inl ?_⟩
      · rw [List.getElem?_toArray, ei, List.getElem?_map, e1]
        show some (Value.ref b) = some (Value.ref (ps.getD j 0))
        rw [eb]
      · show s.heap.IsTuple (ps.getD j 0) _
        rw [eb]
        exact e2
  · rw [List.length_map, List.length_map]
  · have hi : (tr.map fun t => (t.2.1, t.2.2))[i]? = some (key, v) := hi
    rw [List.getElem?_map] at hi
    cases ht : tr[i]? with
    | none =>
      rw [ht] at hi
      cases hi
    | some t =>
      rw [ht] at hi
      cases hi
      obtain ⟨b, _, _, e3⟩ := htr i t ht
      exact ⟨t.1, by rw [List.getElem?_map, ht]; rfl, e3⟩
  · rw [List.length_map, hl]
    exact hz
  · have hm : (s.heap.objs.size == sysModules) = false := beq_eq_false_iff_ne.mpr (Nat.ne_of_gt I.big)
    have hkl : kvs.length = ps.length := by
      have := rel.length
      rw [List.length_map, hl] at this
      exact this
    have hlen : (mergeK [] kvs).length ≤ sizeLine := by
      refine Nat.le_trans (length_mergeK kvs []) ?_
      rw [List.length_nil, Nat.zero_add, hkl]
      exact hz
    exact ⟨.ref s.heap.objs.size, upd H s.heap.objs.size (.dK (mergeK [] kvs)), I.laid (t' := tk) (fun b o e => k b o (fun z => nomatch z) e) (Nat.le_refl _) (show ObjOk X.prog X.w _ _ _ (.dK (mergeK [] kvs)) from ⟨hlen, hm, merged [] _, KV.merge rel .nil, hd'⟩), rfl, q _ (I.hok.fresh (Nat.le_refl _))⟩
end Pf


namespace Pf
open PySem PySem.Spec PyProof.Rows L2
theorem TupK.of {p c : Addr} {n : Nat} {H H' : Hp} (k : Kp p H H') (hP : Pen H p c n) : TupK H H' := ⟨fun b _ e => k b _ (hP.tup e) e, fun b _ _ e => k b _ (hP.frz e) e⟩
theorem Kp.ext {p : Addr} {H H' : Hp} (k : Ext H H') : Kp p H H' := fun b o _ e => k b o e
def lstLen (H : Hp) (a : Addr) : Nat := match H a with
  | some (.lst xs) => xs.length
  | _ => 0
section
variable {P : Program} {w : World} {K : PySem.W.Frag} {mg : Str → Option Value} {base : Heap}
abbrev s_law_code : Stmt := topS 23
theorem sc_law_code : FnScope ["_law_pen_here", "_law_signs", "_law_every", "_law_one", "_law_few", "_law_some", "_law_alike", "_law_pairs", "_law_k", "_law_loops", "_law_stacks", "_law_rows", "_law_both", "_law_texts", "_law_other"] ["_law_pen_here"] (defScope s_law_code) :=
  ⟨rfl, rfl, rfl, by decide +kernel, rfl, by decide +kernel, by decide +kernel⟩
def evL (x : Str) (i : Nat) : List Str := (x.cps.toList.take i).flatMap fun a => x.cps.toList.map fun b => (⟨#[a]⟩ ++ ⟨#[b]⟩ : Str)
def spCode : Sp := fun vs H Q _ => ∃ (p c : Addr) (n : Nat), vs = [.ref p] ∧ Pen H p c n ∧ n + 300 < 1000000 ∧
  ∀ v r H', RulesAt H' v r → RlOk r → Kp p H H' → Pen H' p c (n + 300) → Q v H'
theorem ok_code {f : Addr} {fd : FuncData} (F : Fun K "_law_code" "_law_code" s_law_code f fd) (c_law_take : CTake P w K mg base) (c_law_pick : CPick P w K mg base) (c_law_worth : CWorth P w K mg base)
    (mlen : mg "len" = none) (mint : mg "int" = none) (mtuple : mg "tuple" = none) (mrange : mg "range" = none) (mlist : mg "list" = none) (msorted : mg "sorted" = none) : FnOk P w K mg base CX0 4 f fd ["_law_pen_here"] spCode := by
  refine F.ok sc_law_code (fun vs H Q E h => ?_) (fun cdv A outer s H vs Q E hr h => ?_)
  · obtain ⟨p, c, n, rfl, _⟩ := h
    rfl
  · obtain ⟨p, c, n, rfl, hP, hn, q⟩ := h
    refine ⟨_, (pss_cons (ps_set (i := 1) sc_law_code.nd rfl (.inl rfl) (pe_ix (ixL K) (pe_lst (pa_cons pe_str (pa_cons pe_str (pa_cons pe_str (pa_cons pe_str (pa_cons pe_str (pa_cons pe_str pa_nil))))))) (pe_ca c_law_take (hr.mono (by decide)) (by rfl) (pa_cons (pv 0) (pa_cons pe_int pa_nil))) (fun _ _ => rfl)))
      (pss_cons (ps_set (i := 2) sc_law_code.nd rfl (.inl rfl) (pe_lst pa_nil))
      (pss_cons (ps_for PassesOwn.never rfl (pi_str (pv 1)) (pg_name (i := 3) sc_law_code.nd rfl (.inr rfl)) (pss_one (ps_set (i := 2) sc_law_code.nd rfl (.inl rfl) (pe_op op_cat (pv 2) (pe_lc (own := [("_law_other", 14)]) (g := gName 14) (by rfl) sc_law_code.nd (pi_str (pv 1)) (blkOk_by (own := [("_law_other", 14)]) (N := ["_law_pen_here", "_law_signs", "_law_every", "_law_one", "_law_few", "_law_some", "_law_alike", "_law_pairs", "_law_k", "_law_loops", "_law_stacks", "_law_rows", "_law_both", "_law_texts", "_law_other"]) (sc := defScope s_law_code) (by decide +kernel)) (fun _ _ _ _ _ => (pg_name (i := 14) sc_law_code.nd rfl (.inl rfl))) (fun _ _ _ _ _ => pts_nil) (fun _ _ _ _ _ => (pe_op op_add_str (pv 3) (pv 14))))))))
      (pss_cons (ps_set (i := 4) sc_law_code.nd rfl (.inr rfl) (pe_ix (ixL K) (pe_lst (pa_cons pe_int (pa_cons pe_int (pa_cons pe_int (pa_cons pe_int pa_nil))))) (pe_ca c_law_take (hr.mono (by decide)) (by rfl) (pa_cons (pv 0) (pa_cons pe_int pa_nil))) (fun _ _ => rfl)))
      (pss_cons (ps_set (i := 5) sc_law_code.nd rfl (.inl rfl) (pe_callB cr_sortedS (by rfl) msorted (by decide +kernel) (pa_cons (pe_lc (own := [("_law_both", 12)]) (g := gName 12) (by rfl) sc_law_code.nd (pi_list (pv 2)) (blkOk_by (own := [("_law_both", 12)]) (N := ["_law_pen_here", "_law_signs", "_law_every", "_law_one", "_law_few", "_law_some", "_law_alike", "_law_pairs", "_law_k", "_law_loops", "_law_stacks", "_law_rows", "_law_both", "_law_texts", "_law_other"]) (sc := defScope s_law_code) (by decide +kernel)) (fun _ _ _ _ _ => (pg_name (i := 12) sc_law_code.nd rfl (.inl rfl))) (fun _ _ _ _ _ => (pts_one (pt_cmpR op_ge (pe_ca c_law_take (hr.mono (by decide)) (by rfl) (pa_cons (pv 0) (pa_cons pe_int pa_nil))) (pv 4) (nomark _)))) (fun _ _ _ _ _ => (pv 12))) pa_nil)))
      (pss_cons (ps_while PassesOwn.never (pt_cmpR op_gt (pe_callB (lenQ K) (by rfl) mlen (by decide +kernel) (pa_cons (pv 5) pa_nil)) pe_int (nomark _)) (pss_one (ps_expr (pe_bm PySem.F.plainAttrs_list PySem.F.slot_list_pop PySem.F.type_list_pop mt_popAt (pv 5) (pa_cons (pe_ca c_law_take (hr.mono (by decide)) (by rfl) (pa_cons (pv 0) (pa_cons (pe_callB (lenQ K) (by rfl) mlen (by decide +kernel) (pa_cons (pv 5) pa_nil)) pa_nil))) pa_nil)))))
      (pss_cons (ps_set (i := 6) sc_law_code.nd rfl (.inr rfl) (pe_cmpR op_eq (pe_ca c_law_take (hr.mono (by decide)) (by rfl) (pa_cons (pv 0) (pa_cons pe_int pa_nil))) pe_int (nomark _)))
      (pss_cons (ps_set (i := 7) sc_law_code.nd rfl (.inl rfl) (pe_callTy (tupleFz K) (by rfl) mtuple (by decide +kernel) (pa_cons (pe_lc (own := [("_law_both", 12)]) (g := gName 12) (by rfl) sc_law_code.nd (pi_list (pv 5)) (blkOk_by (own := [("_law_both", 12)]) (N := ["_law_pen_here", "_law_signs", "_law_every", "_law_one", "_law_few", "_law_some", "_law_alike", "_law_pairs", "_law_k", "_law_loops", "_law_stacks", "_law_rows", "_law_both", "_law_texts", "_law_other"]) (sc := defScope s_law_code) (by decide +kernel)) (fun _ _ _ _ _ => (pg_name (i := 12) sc_law_code.nd rfl (.inl rfl))) (fun _ _ _ _ _ => pts_nil) (fun _ _ _ _ _ => (pe_tup (pa_cons (pv 12) (pa_cons (pe_ix (ixL K) (pe_lst (pa_cons (pe_ca c_law_worth (hr.mono (by decide)) (by rfl) (pa_cons (pv 0) pa_nil)) (pa_cons (pe_un un_neg pe_int) pa_nil))) (pe_callTy call_int1 (by rfl) mint (by decide +kernel) (pa_cons (pv 6) pa_nil)) (fun _ _ => rfl)) pa_nil))))) pa_nil)))
      (pss_cons (ps_set (i := 9) sc_law_code.nd rfl (.inl rfl) (pe_callTy (tupleOf K) (by rfl) mtuple (by decide +kernel) (pa_cons (pe_lc (own := [("_law_k", 8)]) (g := gName 8) (by rfl) sc_law_code.nd (pi_range1 (by rfl) mrange (pa_cons pe_int pa_nil)) (blkOk_by (own := [("_law_k", 8)]) (N := ["_law_pen_here", "_law_signs", "_law_every", "_law_one", "_law_few", "_law_some", "_law_alike", "_law_pairs", "_law_k", "_law_loops", "_law_stacks", "_law_rows", "_law_both", "_law_texts", "_law_other"]) (sc := defScope s_law_code) (by decide +kernel)) (fun _ _ _ _ _ => (pg_name (i := 8) sc_law_code.nd rfl (.inl rfl))) (fun _ _ _ _ _ => pts_nil) (fun _ _ _ _ _ => (pe_ca c_law_worth (hr.mono (by decide)) (by rfl) (pa_cons (pv 0) pa_nil)))) pa_nil)))
      (pss_cons (ps_if (pt_cmpR op_eq (pe_ca c_law_take (hr.mono (by decide)) (by rfl) (pa_cons (pv 0) (pa_cons pe_int pa_nil))) pe_int (nomark _)) (pss_one (ps_set (i := 9) sc_law_code.nd rfl (.inl rfl) (pe_op (repT K) (pe_tup (pa_cons pe_int pa_nil)) pe_int))) pss_nil)
      (pss_cons (ps_set (i := 10) sc_law_code.nd rfl (.inr rfl) pe_dnewT)
      (pss_cons (ps_for PassesOwn.never rfl (pi_range1 (by rfl) mrange (pa_cons (pe_op op_mul (pe_ca c_law_take (hr.mono (by decide)) (by rfl) (pa_cons (pv 0) (pa_cons pe_int pa_nil))) (pe_callTy call_int1 (by rfl) mint (by decide +kernel) (pa_cons (pe_cmpR (neD K hr.units) (pv 5) (pe_lst pa_nil) (nomark _)) pa_nil))) pa_nil)) (pg_name (i := 8) sc_law_code.nd rfl (.inl rfl)) (pss_one (ps_dput (hu_of hr) (pv 10) (pe_tup (pa_cons (pe_ca c_law_pick (hr.mono (by decide)) (by rfl) (pa_cons (pv 0) (pa_cons (pv 5) pa_nil))) (pa_cons (pe_ca c_law_pick (hr.mono (by decide)) (by rfl) (pa_cons (pv 0) (pa_cons (pv 5) pa_nil))) pa_nil))) (pe_ca c_law_worth (hr.mono (by decide)) (by rfl) (pa_cons (pv 0) pa_nil)) rfl)))
      (pss_cons (ps_set (i := 11) sc_law_code.nd rfl (.inl rfl) (pe_callTy (tupleOf K) (by rfl) mtuple (by decide +kernel) (pa_cons (pe_lc (own := [("_law_texts", 13)]) (g := gName 13) (by rfl) sc_law_code.nd (pi_list (pe_callB (cr_sortD K hr.units) (by rfl) msorted (by decide +kernel) (pa_cons (pe_callTy (call_list_dT rfl) (by rfl) mlist (by decide +kernel) (pa_cons (pv 10) pa_nil)) pa_nil))) (blkOk_by (own := [("_law_texts", 13)]) (N := ["_law_pen_here", "_law_signs", "_law_every", "_law_one", "_law_few", "_law_some", "_law_alike", "_law_pairs", "_law_k", "_law_loops", "_law_stacks", "_law_rows", "_law_both", "_law_texts", "_law_other"]) (sc := defScope s_law_code) (by decide +kernel)) (fun _ _ _ _ _ => (pg_name (i := 13) sc_law_code.nd rfl (.inl rfl))) (fun _ _ _ _ _ => pts_nil) (fun _ _ _ _ _ => (pe_op (catT K) (pv 13) (pe_tup (pa_cons (pe_dget (hu_of hr) (pv 10) (pv 13) (fun _ _ => rfl)) pa_nil))))) pa_nil)))
      (pss_one (ps_ret (pe_tup (pa_cons (pv 1) (pa_cons (pv 7) (pa_cons (pe_ix (ixL K) (pe_lst (pa_cons pe_int (pa_cons pe_int (pa_cons pe_int (pa_cons pe_int (pa_cons pe_int pa_nil)))))) (pe_ca c_law_take (hr.mono (by decide)) (by rfl) (pa_cons (pv 0) (pa_cons pe_int pa_nil))) (fun _ _ => rfl)) (pa_cons (pv 9) (pa_cons (pv 11) pa_nil))))))))))))))))))))), ?_⟩
    -- signs
    refine ⟨szL (show 6 ≤ 1000000 by decide), fun l hl => ⟨_, rfl, p, c, 6, n, rfl, hP.new hl, by omega, by decide, by decide, fun r1 H1 r1a r1b k1 hP1 => ?_⟩⟩
    have hL := k1 _ _ (hP.ne hl).1 upd_same
    obtain ⟨v, hmem, hz⟩ := atI_mem (xs := [V.str "a", .str "ab", .str "acgu", .str "abcdef", .str "xyz", .str "bdnqtz"]) r1a r1b
    have hv : ∀ v ∈ [V.str "a", .str "ab", .str "acgu", .str "abcdef", .str "xyz", .str "bdnqtz"], ∃ x : Str, v = .str x ∧ x.length ≤ 6 ∧ 1 ≤ x.length ∧ Small x ∧ (evL x x.cps.size).Nodup := by
      intro v hv
      simp only [List.mem_cons, List.not_mem_nil, or_false] at hv
      rcases hv with rfl | rfl | rfl | rfl | rfl | rfl <;> exact ⟨_, rfl, by decide, by decide, by unfold Small; decide +kernel, by decide +kernel⟩
    obtain ⟨sg, rfl, hs6, hs1, hsm, hev⟩ := hv _ hmem
    refine ⟨l, _, r1, _, rfl, rfl, SqL.of hL, hz, ?_⟩
    have kp1 : Kp p H H1 := (Kp.new hl).trans k1
    clear hL hz hmem hv k1
    -- every
    refine ⟨Nat.zero_le _, fun e0 he0 => ?_⟩
    refine ⟨_, rfl, _, rfl, for_str (fun i σ H2 => ∃ (l : Addr) (y3 : Option V) (ts : List Str), σ = [some (.ref p), some (.str sg), some (.ref l), y3, none, none, none, none, none, none, none, none, none, none, none] ∧ Ext H1 H2 ∧ H2 l = some (.lst (ts.map V.str)) ∧ ts.length ≤ 6 * i ∧ (∀ t ∈ ts, Two t) ∧ ts = evL sg i)
      ⟨e0, none, [], rfl, Ext.new he0, upd_same, by decide, (fun t h => by cases h), by unfold evL; rw [List.take_zero]; rfl⟩ (fun i ch σ H2 hi hv => ?_) (fun σ H2 hv => ?_)⟩
    · obtain ⟨l, y3, ts, rfl, k2, hL, hts, ht2, hte⟩ := hv
      have hi6 : i < sg.length := (Array.getElem?_eq_some_iff.mp hi).1
      refine ⟨_, rfl, _, rfl, _, rfl, fun D hD => lc_str (fun j H3 => ∃ zs : List Str, zs.length = j ∧ (∀ t ∈ zs, Two t) ∧ Ext H2 H3 ∧ H3 D = some (.lst (zs.map V.str)) ∧ zs = (sg.cps.toList.take j).map fun b => (⟨#[ch]⟩ ++ ⟨#[b]⟩ : Str)) ⟨[], rfl, (fun t h => by cases h), Ext.new hD, upd_same, by rw [List.take_zero]; rfl⟩ (fun j cj H3 hj hv => ?_) (fun H3 hv => ?_)⟩
      · obtain ⟨zs, hzs, hz2, k3, hL3, hze⟩ := hv
        have hj6 : j < sg.length := (Array.getElem?_eq_some_iff.mp hj).1
        refine ⟨rfl, _, rfl, _, rfl, _, _, rfl, rfl, szL (show 1 + 1 ≤ 1000000 by decide), _, hL3, szLt ?_, zs ++ [⟨#[ch]⟩ ++ ⟨#[cj]⟩], ?_, fun t ht => ?_, k3.put hD, ?_, ?_⟩
        · rw [List.length_map]
          omega
        · rw [List.length_append, List.length_singleton]
          omega
        · rcases List.mem_append.mp ht with ht | ht
          · exact hz2 t ht
          · rw [List.mem_singleton.mp ht]
            exact ⟨rfl, (Small.one (hsm.at hi)).app (Small.one (hsm.at hj))⟩
        · rw [upd_same, List.map_append]
          rfl
        · have hj' : sg.cps.toList[j]? = some cj := by
            rw [Array.getElem?_toList]
            exact hj
          rw [List.take_add_one, hj', List.map_append, hze]
          rfl
      · obtain ⟨zs, hzs, hz2, k3, hL3, hze⟩ := hv
        have hzs : zs.length ≤ 6 := by
          have : sg.cps.size ≤ 6 := hs6
          omega
        refine ⟨l, D, _, _, rfl, rfl, k3 _ _ hL, hL3, szL ?_, fun l2 hl2 => ⟨l2, _, ts ++ zs, rfl, (k2.trans k3).trans (Ext.new hl2), ?_, ?_, fun t ht => ?_, ?_⟩⟩
        · rw [List.length_map, List.length_map]
          omega
        · rw [upd_same, List.map_append]
        · rw [List.length_append]
          omega
        · rcases List.mem_append.mp ht with ht | ht
          · exact ht2 t ht
          · exact hz2 t ht
        · have hi' : sg.cps.toList[i]? = some ch := by
            rw [Array.getElem?_toList]
            exact hi
          rw [List.take_of_length_le (by rw [Array.length_toList]; exact Nat.le_refl _)] at hze
          rw [hte, hze]
          unfold evL
          rw [List.take_add_one, hi', List.flatMap_append]
          simp
    obtain ⟨le, y3, ts, rfl, k2, hLe, hts, ht2, hte⟩ := hv
    have htn : ts.Nodup := by
      rw [hte]
      exact hev
    have hts36 : ts.length ≤ 36 := by
      have : sg.cps.size ≤ 6 := hs6
      omega
    have hP2 := hP1.ext k2
    have kp2 : Kp p H H2 := kp1.trans (Kp.ext k2)
    clear hts k2 kp1 hP1
    -- few
    refine ⟨szL (show 4 ≤ 1000000 by decide), fun l4 hl4 => ⟨_, rfl, p, c, 4, _, rfl, hP2.new hl4, by omega, by decide, by decide, fun r4 H4 r4a r4b k4 hP4 => ?_⟩⟩
    obtain ⟨few, hfew, hat4⟩ := atI_ints (ns := [0, 1, 2, 3]) r4a r4b
    refine ⟨l4, _, r4, _, rfl, rfl, SqL.of (k4 _ _ (hP2.ne hl4).1 upd_same), hat4, ?_⟩
    have kp4 : Kp p H2 H4 := (Kp.new hl4).trans k4
    have hLe4 : H4 le = some (.lst (ts.map V.str)) := kp4 _ _ (hP2.lst hLe) hLe
    -- some
    refine ⟨_, rfl, le, rfl, ⟨_, SqL.of hLe4⟩, fun D hD => lc_list (K := K) (xs := ts.map V.str) (fun i H5 => ∃ us : List Str, us.length ≤ i ∧ (∀ t ∈ us, Two t) ∧ H5 D = some (.lst (us.map V.str)) ∧ Kp p H4 H5 ∧ Pen H5 p c (n + 2 + i) ∧ us.Sublist (ts.take i))
      ⟨[], Nat.zero_le _, (fun t h => by cases h), upd_same, Kp.new hD, (hP4.new hD).mono (by omega), List.nil_sublist _⟩ (fun i H5 _ ⟨us, _, _, _, k, _⟩ => SqL.of (k _ _ (hP4.lst hLe4) hLe4)) (fun i u H5 hi hv => ?_) (fun H5 hv => ?_)⟩
    · obtain ⟨us, hul, hu2, hL5, k5, hP5, hsub⟩ := hv
      have hil : i < ts.length := by
        have := (List.getElem?_eq_some_iff.mp hi).1
        rw [List.length_map] at this
        exact this
      obtain ⟨t, hti, rfl⟩ : ∃ t, ts[i]? = some t ∧ u = .str t := by
        rw [List.getElem?_map, List.getElem?_eq_getElem hil] at hi
        exact ⟨ts[i], List.getElem?_eq_getElem hil, (Option.some.inj hi).symm⟩
      have ht := List.mem_of_getElem? hti
      refine ⟨rfl, _, rfl, p, c, 4, _, rfl, hP5, by omega, by decide, by decide, fun r6 H6 r6a r6b k6 hP6 => ⟨_, rfl, r6, few, rfl, rfl, _, rfl, ite2 (fun e => ?_) (fun e => ?_)⟩⟩
      · have nD := hP4.ne hD
        refine ⟨_, rfl, _, k6 _ _ nD.1 hL5, szLt ?_, us ++ [t], ?_, fun x hx => ?_, ?_, (k5.trans k6).put hD, (hP6.put nD.1 nD.2).mono (by omega), ?_⟩
        · rw [List.length_map]
          omega
        · rw [List.length_append, List.length_singleton]
          omega
        · rcases List.mem_append.mp hx with hx | hx
          · exact hu2 x hx
          · rw [List.mem_singleton.mp hx]
            exact ht2 t ht
        · rw [upd_same, List.map_append]
          rfl
        · rw [List.take_add_one, hti]
          exact hsub.append (List.Sublist.refl _)
      · refine ⟨us, by omega, hu2, k6 _ _ (hP4.ne hD).1 hL5, k5.trans k6, hP6.mono (by omega), ?_⟩
        rw [List.take_add_one]
        exact hsub.trans (List.sublist_append_left _ _)
    obtain ⟨us0, hul, hu2, hL5, k5, hP5, hsub⟩ := hv
    rw [List.length_map] at hul hP5
    refine ⟨D, us0, rfl, SqL.of hL5, by omega, fun us so perm _ hso => ?_⟩
    have hus : us.length ≤ 36 := by
      rw [perm.length_eq]
      omega
    have hut : ∀ t ∈ us, Two t := fun t ht => hu2 t (perm.mem_iff.mp ht)
    have hun : us.Nodup := perm.nodup_iff.mpr (List.Sublist.nodup (hsub.trans (List.take_sublist _ _)) htn)
    have kp5 : Kp p H (upd H5 so (.lst (us.map V.str))) := ((kp2.trans kp4).trans k5).trans (Kp.new hso)
    have hP5' := (hP5.new (o := .lst (us.map V.str)) hso).mono (show n + 2 + ts.length ≤ n + 38 by omega)
    have nso := hP5.ne hso
    have hso0 : H so = none := by
      cases e : H so with
      | none => rfl
      | some o => rw [((kp2.trans kp4).trans k5) _ _ nso.1 e] at hso; cases hso
    -- while len(some) > 12
    refine ⟨fun m σ H6 => ∃ us : List Str, m = us.length ∧ σ = [some (.ref p), some (.str sg), some (.ref le), y3, some (.int few), some (.ref so), none, none, none, none, none, none, none, none, none] ∧ us.length ≤ 36 ∧ (∀ t ∈ us, Two t) ∧ H6 so = some (.lst (us.map V.str)) ∧ Kp p H H6 ∧ Pen H6 p c (n + 38 + (36 - us.length)) ∧ us.Nodup, ⟨_, us, rfl, rfl, hus, hut, upd_same, kp5, hP5'.mono (by omega), hun⟩, fun m σ H6 hW => ?_⟩
    obtain ⟨us, rfl, rfl, hus, hut, hS6, kp6, hP6, hun⟩ := hW
    refine ⟨_, rfl, so, _, rfl, .inl (SqL.of hS6), _, 12, rfl, rfl, _, rfl, ite2 (fun e => ?_) (fun e => ?_)⟩
    · have e : (12 : Int) < ((us.map V.str).length : Int) := of_decide_eq_true e
      have hl : (us.map V.str).length = us.length := List.length_map ..
      refine ⟨fun σ' H' => ∃ us' : List Str, us'.length < us.length ∧ σ' = [some (.ref p), some (.str sg), some (.ref le), y3, some (.int few), some (.ref so), none, none, none, none, none, none, none, none, none] ∧ us'.length ≤ 36 ∧ (∀ t ∈ us', Two t) ∧ H' so = some (.lst (us'.map V.str)) ∧ Kp p H H' ∧ Pen H' p c (n + 38 + (36 - us'.length)) ∧ us'.Nodup, fun σ' H' ⟨us', h1, h2⟩ => ⟨us'.length, h1, us', rfl, h2⟩, ?_⟩
      refine ⟨_, rfl, .inl ⟨rfl, _, SqL.of hS6⟩, _, rfl, _, rfl, so, _, rfl, .inl (SqL.of hS6), p, c, _, _, rfl, hP6, by omega, by omega, by omega, fun r7 H7 r7a r7b k7 hP7 => ?_⟩
      have hr7 : r7.toNat < us.length := by omega
      have hS7 : H7 so = some (.lst (us.map V.str)) := k7 _ _ (hP6.lst hS6) hS6
      refine ⟨so, _, r7, r7.toNat, .str us[r7.toNat], rfl, rfl, hS7, by omega, by omega, ixN_in r7a r7b, ?_, ?_⟩
      · rw [List.getElem?_map, List.getElem?_eq_getElem hr7]
        rfl
      · refine ⟨us.eraseIdx r7.toNat, ?_, rfl, ?_, fun t ht => hut t (List.mem_of_mem_eraseIdx ht), ?_, (kp6.trans k7).put hso0, ?_, List.Sublist.nodup (List.eraseIdx_sublist _ _) hun⟩
        · rw [List.length_eraseIdx_of_lt hr7]
          omega
        · rw [List.length_eraseIdx_of_lt hr7]
          omega
        · rw [upd_same, map_erase]
        · refine ((hP7.put (hP.ne hso0).1 (hP.ne hso0).2)).mono ?_
          rw [List.length_eraseIdx_of_lt hr7]
          omega
    have hu12 : us.length ≤ 12 := by
      have e : ¬ (12 : Int) < ((us.map V.str).length : Int) := fun z => e (decide_eq_true z)
      have hl : (us.map V.str).length = us.length := List.length_map ..
      omega
    have hP6' : Pen H6 p c (n + 74) := hP6.mono (by omega)
    -- alike
    refine ⟨_, rfl, p, c, 4, _, rfl, hP6', by omega, by decide, by decide, fun r8 H8 r8a r8b k8 hP8 => ⟨rfl, ?_⟩⟩
    obtain ⟨b, eb⟩ : ∃ b, b = decide (V.int r8 = V.int 0) := ⟨_, rfl⟩
    rw [← eb]
    have hS8 : H8 so = some (.lst (us.map V.str)) := k8 _ _ (hP6.lst hS6) hS6
    -- pairs
    refine ⟨_, rfl, so, rfl, ⟨_, SqL.of hS8⟩, fun D8 hD8 => lc_list (K := K) (xs := us.map V.str) (fun i H9 => ∃ (vs : List V) (prs : List (Str × Int)), vs.length = i ∧ H9 D8 = some (.lst vs) ∧ Paired (PairAt H9) vs prs ∧ (∀ x ∈ prs, Two x.1 ∧ -99 ≤ x.2 ∧ x.2 ≤ 99) ∧ Kp p H8 H9 ∧ Pen H9 p c (n + 75 + 4 * i) ∧ prs.map (·.1) = us.take i)
      ⟨[], [], rfl, upd_same, .nil, (fun t h => by cases h), Kp.new hD8, (hP8.new hD8), by rw [List.take_zero]; rfl⟩ (fun i H9 _ ⟨_, _, _, _, _, _, k, _⟩ => SqL.of (k _ _ (hP8.lst hS8) hS8)) (fun i u H9 hi hv => ?_) (fun H9 hv => ?_)⟩
    · obtain ⟨vs, prs, hvl, hL9, hPr, hOk, k9, hP9, hpu⟩ := hv
      have hil : i < us.length := by
        have := (List.getElem?_eq_some_iff.mp hi).1
        rw [List.length_map] at this
        exact this
      obtain ⟨t, hti, rfl⟩ : ∃ t, us[i]? = some t ∧ u = .str t := by
        rw [List.getElem?_map, List.getElem?_eq_getElem hil] at hi
        exact ⟨us[i], List.getElem?_eq_getElem hil, (Option.some.inj hi).symm⟩
      have ht := List.mem_of_getElem? hti
      refine ⟨rfl, _, rfl, _, rfl, p, c, _, rfl, hP9, by omega, fun i5 H10 i5a i5b k10 hP10 => ⟨1, rfl, szL (show 2 ≤ 1000000 by decide), fun d hd => ?_⟩⟩
      obtain ⟨i7, i7a, i7b, hat⟩ : ∃ i7 : Int, -99 ≤ i7 ∧ i7 ≤ 99 ∧ atI [V.int i5, .int (-1)] (if b = true then 1 else 0) = some (.int i7) := by
        cases b
        · exact ⟨i5, i5a, i5b, rfl⟩
        · exact ⟨-1, by decide, by decide, rfl⟩
      have nD := hP8.ne hD8
      have hL10 : H10 D8 = some (.lst vs) := k10 _ _ nD.1 hL9
      refine ⟨_, rfl, .inr ⟨_, rfl, d, _, _, _, rfl, rfl, SqL.of upd_same, hat, szL (show 2 ≤ 1000000 by decide), fun t1 ht1 => ?_⟩⟩
      have e1 : Ext H10 (upd (upd H10 d (.lst [V.int i5, .int (-1)])) t1 (.tup [.str t, .int i7])) := (Ext.new hd).trans (Ext.new ht1)
      have hL11 := e1 _ _ hL10
      have nDt : D8 ≠ t1 := by
        intro z
        rw [z, upd_same] at hL11
        cases hL11
      refine ⟨vs, hL11, szLt (by omega), vs ++ [.ref t1], prs ++ [(t, i7)], ?_, upd_same, ?_, fun x hx => ?_, ?_, ?_, ?_⟩
      · rw [List.length_append, List.length_singleton]
        omega
      · refine (paired_imp (fun _ _ => PairAt.mono _ _ _ _ (((TupK.of k10 hP9).trans (TupK.ext e1)).trans (TupK.lst hL11))) hPr).snoc ⟨t1, rfl, ?_⟩
        rw [upd_ne nDt.symm, upd_same]
      · rcases List.mem_append.mp hx with hx | hx
        · exact hOk x hx
        · rw [List.mem_singleton.mp hx]
          exact ⟨hut t ht, i7a, i7b⟩
      · exact ((k9.trans k10).trans (Kp.ext e1)).put hD8
      · exact ((hP10.ext e1).put nD.1 nD.2).mono (by omega)
      · rw [List.take_add_one, hti, List.map_append, hpu]
        rfl
    obtain ⟨vs, prs, hvl, hL9, hPr, hOk, k9, hP9, hpu⟩ := hv
    have hpn : (prs.map (·.1)).Nodup := by
      rw [hpu, List.take_of_length_le (by rw [List.length_map]; exact Nat.le_refl _)]
      exact hun
    rw [List.length_map] at hvl hP9
    refine ⟨D8, _, rfl, SqL.of hL9, fun tp oz htp hoz => ?_⟩
    have hTp : FrzOf PairAt (upd H9 tp (.frz oz (.tup vs))) (.ref tp) prs := ⟨tp, oz, vs, rfl, upd_same, hoz, paired_imp (fun _ _ => PairAt.mono _ _ _ _ (TupK.new htp)) hPr⟩
    have hprl : prs.length ≤ 12 := by
      rw [← paired_len hPr]
      omega
    have hP9' := (hP9.new (o := .frz oz (.tup vs)) htp).mono (show n + 75 + 4 * us.length ≤ n + 123 by omega)
    have kp9 : Kp p H (upd H9 tp (.frz oz (.tup vs))) := ((kp6.trans k8).trans k9).trans (Kp.new htp)
    have k89 : Kp p H8 (upd H9 tp (.frz oz (.tup vs))) := k9.trans (Kp.new htp)
    have hS9 := k89 _ _ (hP8.lst hS8) hS8
    -- loops
    refine ⟨9, rfl, by decide, by decide, fun D9 hD9 => lc_range (lo := 0) (n := 9) (fun i H10 => ∃ ns : List Int, ns.length = i ∧ (∀ x ∈ ns, -99 ≤ x ∧ x ≤ 99) ∧ H10 D9 = some (.lst (ns.map V.int)) ∧ Kp p (upd H9 tp (.frz oz (.tup vs))) H10 ∧ Pen H10 p c (n + 123 + 4 * i)) ⟨[], rfl, (fun x h => by cases h), upd_same, Kp.new hD9, hP9'.new hD9⟩ (fun i H10 hi hv => ?_) (fun H10 hv => ?_)⟩
    · obtain ⟨ns, hns, hnb, hL10, k10, hP10⟩ := hv
      have nD := hP9'.ne hD9
      refine ⟨rfl, _, rfl, p, c, _, rfl, hP10, by omega, fun i5 H11 i5a i5b k11 hP11 => ?_⟩
      refine ⟨_, k11 _ _ nD.1 hL10, szLt ?_, ns ++ [i5], ?_, fun x hx => ?_, ?_, (k10.trans k11).put hD9, (hP11.put nD.1 nD.2).mono (by omega)⟩
      · rw [List.length_map]
        omega
      · rw [List.length_append, List.length_singleton]
        omega
      · rcases List.mem_append.mp hx with hx | hx
        · exact hnb x hx
        · rw [List.mem_singleton.mp hx]
          exact ⟨i5a, i5b⟩
      · rw [upd_same, List.map_append]
        rfl
    obtain ⟨ns, hns, hnb, hL10, k10, hP10⟩ := hv
    refine ⟨D9, _, rfl, .inl ⟨SqL.of hL10, fun tl htl => ?_⟩⟩
    have hP10' := hP10.new (o := .tup (ns.map V.int)) htl
    have k910 := k10.trans (Kp.new (p := p) (o := .tup (ns.map V.int)) htl)
    refine ⟨_, rfl, p, c, 5, _, rfl, hP10', by omega, by decide, by decide, fun r11 H11 r11a r11b k11 hP11 => ⟨rfl, _, rfl, ite2 (fun e => ?_) (fun e => ?_)⟩⟩
    · refine ⟨szL (show 1 ≤ 1000000 by decide), fun t0 ht0 => ⟨t0, 9, _, rfl, rfl, SqT.of upd_same, (fun z => by cases z), by decide, by decide, (show 1 ≤ 1000 by decide), fun tl' htl' => ?_⟩⟩
      have ex : Ext H11 (upd (upd H11 t0 (.tup [.int 0])) tl' (.tup [.int 0, .int 0, .int 0, .int 0, .int 0, .int 0, .int 0, .int 0, .int 0])) := (Ext.new ht0).trans (Ext.new htl')
      have hV : TupOf IntAt (upd (upd H11 t0 (.tup [.int 0])) tl' (.tup [.int 0, .int 0, .int 0, .int 0, .int 0, .int 0, .int 0, .int 0, .int 0])) (.ref tl') [0, 0, 0, 0, 0, 0, 0, 0, 0] :=
        ⟨tl', _, rfl, upd_same, paired_ints [0, 0, 0, 0, 0, 0, 0, 0, 0]⟩
      have hls : [(0 : Int), 0, 0, 0, 0, 0, 0, 0, 0].length = 9 := rfl
      have hlb : ∀ x ∈ [(0 : Int), 0, 0, 0, 0, 0, 0, 0, 0], -99 ≤ x ∧ x ≤ 99 := by decide
      have kx := (k910.trans k11).trans (Kp.ext ex)
      have hPx := hP11.ext ex
      have hSx := kx _ _ (hP9'.lst hS9) hS9
      have hTx := FrzOf.mono PairAt.mono _ _ _ _ (TupK.of kx hP9') hTp
      refine fun st hst => ?_
      have hP12 := hPx.new (o := .dT []) hst
      have nst := hPx.ne hst
      have hS12 := Ext.new (o := .dT []) hst _ _ hSx
      refine ⟨_, rfl, p, c, 13, _, rfl, hP12, by omega, by decide, by decide, fun r13 H13 r13a r13b k13 hP13 => ?_⟩
      have hS13 := k13 _ _ (hP12.lst hS12) hS12
      have hD13 : H13 st = some (.dT []) := k13 _ _ nst.1 upd_same
      refine ⟨_, rfl, Nat.zero_le _, fun d13 hd13 => ?_⟩
      have hS13' := Ext.new (o := .lst []) hd13 _ _ hS13
      have hD13' := Ext.new (o := .lst []) hd13 _ _ hD13
      refine ⟨.list (us.map PyData.str), .list [], .lst (SqL.of hS13') (dpStrs us), .lst (SqL.of upd_same) .nil, (sm_strs (n := 36) (m := 2) hus (fun t ht => ⟨(hut t ht).2, Nat.le_of_eq (hut t ht).1⟩) (by decide)).shaped (by decide), by decide, .inr ⟨_, rfl, r13, _, rfl, rfl, .inl ⟨by omega, by omega⟩, ?_⟩⟩
      obtain ⟨cnt, hcnt, cnt0, cnt12, cntU⟩ : ∃ cnt : Int, cnt = r13 * (if (!PyData.eqv (.list (us.map PyData.str)) (.list [])) = true then 1 else 0) ∧ 0 ≤ cnt ∧ cnt ≤ 12 ∧ (0 < cnt → 0 < us.length) := by
        refine ⟨_, rfl, ?_⟩
        cases us with
        | nil =>
          have : (!PyData.eqv (.list (([] : List Str).map PyData.str)) (.list [])) = false := by simp [PyData.eqv, PyData.eqvAll]
          rw [this]
          simp
        | cons y z =>
          have : (!PyData.eqv (.list ((y :: z).map PyData.str)) (.list [])) = true := by simp [PyData.eqv, PyData.eqvAll]
          rw [this, if_pos rfl, Int.mul_one, List.length_cons]
          omega
      have k13' := ((Kp.new (p := p) hst).trans k13).trans (Kp.new (o := .lst []) hd13)
      refine ⟨cnt, congrArg (fun z => [V.int z]) hcnt.symm, by omega, by omega, for_range (lo := 0) (n := cnt.toNat) (fun i σ H14 => ∃ (y8 : Option V) (es : List (Str × Str × Int)), σ = [some (.ref p), some (.str sg), some (.ref le), y3, some (.int few), some (.ref so), some (.bl b), some (.ref tp), y8, some (.ref tl'), some (.ref st), none, none, none, none] ∧ H14 st = some (.dT (es.map encE)) ∧ es.length ≤ i ∧ (es.map fun x => (x.1, x.2.1)).Nodup ∧ (∀ x ∈ es, Two x.1 ∧ Two x.2.1 ∧ -99 ≤ x.2.2 ∧ x.2.2 ≤ 99) ∧ H14 so = some (.lst (us.map V.str)) ∧ Kp p (upd (upd H11 t0 (.tup [.int 0])) tl' (.tup [.int 0, .int 0, .int 0, .int 0, .int 0, .int 0, .int 0, .int 0, .int 0])) H14 ∧ Pen H14 p c (n + 161 + 6 * i))
        ⟨_, [], rfl, hD13', Nat.zero_le _, List.nodup_nil, (fun x h => by cases h), hS13', k13', (hP13.new hd13).mono (by omega)⟩ (fun i σ H14 hi hv => ?_) (fun σ H14 hv => ?_)⟩
      · obtain ⟨y8, es, rfl, hD14, hel, hnd, hok, hS14, k14, hP14⟩ := hv
        have hu0 : 0 < us.length := cntU (by omega)
        have hul : (us.map V.str).length = us.length := List.length_map ..
        refine ⟨_, rfl, p, c, _, rfl, hP14, by omega, fun w H15 wa wb k15 hP15 => ?_⟩
        have hS15 := k15 _ _ (hP14.lst hS14) hS14
        have hD15 := k15 _ _ nst.1 hD14
        refine ⟨_, rfl, _, rfl, _, rfl, p, c, .ref so, us.map V.str, _, rfl, .inl ⟨so, rfl, hS15⟩, by omega, by omega, hP15, by omega, fun x1 H16 hx1 k16 hP16 => ?_⟩
        have hS16 := k16 _ _ (hP15.lst hS15) hS15
        have hD16 := k16 _ _ nst.1 hD15
        refine ⟨_, rfl, _, rfl, p, c, .ref so, us.map V.str, _, rfl, .inl ⟨so, rfl, hS16⟩, by omega, by omega, hP16, by omega, fun x2 H17 hx2 k17 hP17 => ⟨szL (show 2 ≤ 1000000 by decide), fun t ht => ?_⟩⟩
        have hS17 := k17 _ _ (hP16.lst hS16) hS16
        have hD17 := k17 _ _ nst.1 hD16
        obtain ⟨t1, ht1, rfl⟩ := List.mem_map.mp hx1
        obtain ⟨t2, ht2, rfl⟩ := List.mem_map.mp hx2
        have hD18 := Ext.new (o := .tup [.str t1, .str t2]) ht _ _ hD17
        have hS18 := Ext.new (o := .tup [.str t1, .str t2]) ht _ _ hS17
        refine ⟨st, _, rfl, DPut.t (k := [.inr t1, .inr t2]) hD18 upd_same (szLt ?_), ?_⟩
        · rw [List.length_map]
          omega
        · rw [put_enc]
          refine ⟨_, putE es t1 t2 w, rfl, upd_same, ?_, putE_keys _ _ _ _ hnd, putE_all hok ⟨hut t1 ht1, hut t2 ht2, wa, wb⟩, ?_, ?_, ?_⟩
          · have := putE_len es t1 t2 w
            omega
          · rw [upd_ne (ne_of hS18 hD18 (by intro z; cases z))]
            exact hS18
          · exact ((((k14.trans k15).trans k16).trans k17).trans (Kp.new ht)).put hst
          · exact ((hP17.new ht).put nst.1 nst.2).mono (by omega)
      · obtain ⟨y8, es, rfl, hD14, hel, hnd, hok, hS14, k14, hP14⟩ := hv
        have hes12 : es.length ≤ 12 := by omega
        refine ⟨_, rfl, st, _, rfl, .inl hD14, fun lk bs hlk hkeys => ?_⟩
        obtain ⟨bes, hb1, hb2, hb3⟩ := keys_zip hkeys
        have ek := Ext.new (o := .lst (bs.map V.ref)) hlk
        refine ⟨_, fun x => V.ref x.1, fun x => .tuple [.str x.2.1, .str x.2.2.1], lk, bes, rfl, SqL.of (by rw [upd_same, ← hb1, List.map_map]; rfl), fun x hx => ⟨.tup (SqT.of (ek _ _ (hb3 x hx))) (.cons (.str _) (.cons (.str _) .nil)), by simp [PyData.depth, PyData.depthAll]⟩, ?_, .inl ?_, fun ls hls2 => ?_⟩
        · intro d1 h1 d2 h2
          obtain ⟨x1, _, rfl⟩ := List.mem_map.mp h1
          obtain ⟨x2, _, rfl⟩ := List.mem_map.mp h2
          simp [PySem.W.alike, PySem.W.alikeAll]
        · intro d1 h1
          obtain ⟨x1, _, rfl⟩ := List.mem_map.mp h1
          exact ⟨_, _, rfl⟩
        · obtain ⟨S, hS⟩ : ∃ S, S = bes.mergeSort (PySem.W.dataLe false fun x => PyData.tuple [.str x.2.1, .str x.2.2.1]) := ⟨_, rfl⟩
          rw [← hS]
          have hperm : S.Perm bes := hS ▸ List.mergeSort_perm _ _
          have hSl : S.length ≤ 12 := by
            rw [hperm.length_eq]
            have := congrArg List.length hb2
            rw [List.length_map] at this
            omega
          have e17 := ek.trans (Ext.new (o := .lst (S.map fun x => V.ref x.1)) hls2)
          refine ⟨ls, rfl, ⟨_, SqL.of upd_same⟩, fun D hD => lc_list (K := K) (xs := S.map fun x => V.ref x.1) (fun i H18 => ∃ (vs : List V) (stk : List (Str × Str × Int)), H18 D = some (.lst vs) ∧ Paired (StackAt H18) vs stk ∧ stk = (S.take i).map (·.2) ∧ Ext (upd (upd H14 lk (.lst (bs.map V.ref))) ls (.lst (S.map fun x => V.ref x.1))) H18)
            ⟨[], [], upd_same, .nil, rfl, Ext.new hD⟩ (fun i H18 _ ⟨_, _, _, _, _, k⟩ => SqL.of (k _ _ upd_same)) (fun i u H18 hi hv => ?_) (fun H18 hv => ?_)⟩
          · obtain ⟨vs, stk, hL18, hPr18, hstk, k18⟩ := hv
            rw [List.getElem?_map] at hi
            obtain ⟨x, hx, rfl⟩ : ∃ x, S[i]? = some x ∧ u = V.ref x.1 := by
              cases e : S[i]? with
              | none => rw [e] at hi; cases hi
              | some x => rw [e] at hi; exact ⟨x, rfl, (Option.some.inj hi).symm⟩
            have hxm : x ∈ bes := hperm.mem_iff.mp (List.mem_of_getElem? hx)
            have hxe : x.2 ∈ es := hb2 ▸ List.mem_map.mpr ⟨x, hxm, rfl⟩
            have hb18 := k18 _ _ (e17 _ _ (hb3 x hxm))
            have hD18 := k18 _ _ (e17 _ _ hD14)
            have hdg : DGet H18 st (.ref x.1) (some (.int x.2.2.2)) := val_enc hnd hxe ▸ DGet.t (k := [.inr x.2.1, .inr x.2.2.1]) hD18 hb18
            refine ⟨rfl, _, rfl, _, rfl, _, rfl, st, _, rfl, hdg, szL (show 1 ≤ 1000000 by decide), fun t1 ht1 => ?_⟩
            have e19 := Ext.new (o := .tup [.int x.2.2.2]) ht1
            refine ⟨x.1, t1, _, _, rfl, rfl, SqT.of (e19 _ _ hb18), SqT.of upd_same, (fun z => by cases z), szL (show 2 + 1 ≤ 1000000 by decide), (fun z => by cases z), fun _ t2 ht2 => ?_⟩
            have e20 := e19.trans (Ext.new (o := .tup [.str x.2.1, .str x.2.2.1, .int x.2.2.2]) ht2)
            have hL20 := e20 _ _ hL18
            have nDt : t2 ≠ D := by
              intro z
              rw [← z] at hL20
              rw [upd_same] at hL20
              cases hL20
            have hvl : vs.length ≤ 12 := by
              rw [paired_len hPr18, hstk, List.length_map, List.length_take]
              omega
            refine ⟨vs, hL20, szLt (by omega), vs ++ [.ref t2], stk ++ [x.2], upd_same, ?_, ?_, (k18.trans e20).put hD⟩
            · refine (paired_imp (fun _ _ => StackAt.mono _ _ _ _ ((TupK.ext e20).trans (TupK.lst hL20))) hPr18).snoc ⟨t2, rfl, ?_⟩
              rw [upd_ne nDt, upd_same]
            · rw [List.take_add_one, hx, List.map_append, hstk]
              rfl
          · obtain ⟨vs, stk, hL18, hPr18, hstk, k18⟩ := hv
            rw [List.length_map, List.take_of_length_le (Nat.le_refl _)] at hstk
            have hkeys2 : (stk.map fun x => (x.1, x.2.1)).Nodup := by
              rw [hstk, List.map_map]
              have : (S.map ((fun x : Str × Str × Int => (x.1, x.2.1)) ∘ fun x : Addr × Str × Str × Int => x.2)).Perm (es.map fun x => (x.1, x.2.1)) := by
                rw [← hb2, List.map_map]
                exact hperm.map _
              exact this.nodup_iff.mpr hnd
            have hstE : ∀ x ∈ stk, x ∈ es := fun x hx => by
              rw [hstk] at hx
              obtain ⟨y, hy, rfl⟩ := List.mem_map.mp hx
              exact hb2 ▸ List.mem_map.mpr ⟨y, hperm.mem_iff.mp hy, rfl⟩
            have hst12 : stk.length ≤ 12 := by
              rw [hstk, List.length_map]
              exact hSl
            refine ⟨D, _, rfl, .inl ⟨SqL.of hL18, fun tr htr => ?_⟩⟩
            have e21 := (e17.trans k18).trans (Ext.new (o := .tup vs) htr)
            have hTr : TupOf StackAt (upd H18 tr (.tup vs)) (.ref tr) stk := ⟨tr, vs, rfl, upd_same, paired_imp (fun _ _ => StackAt.mono _ _ _ _ (TupK.new htr)) hPr18⟩
            have hP21 := hP14.ext e21
            refine ⟨_, rfl, _, rfl, szL (show 5 ≤ 1000000 by decide), fun d22 hd22 => ⟨_, rfl, p, c, 5, _, rfl, hP21.new hd22, by omega, by decide, by decide, fun r23 H23 r23a r23b k23 hP23 => ?_⟩⟩
            obtain ⟨z, hz, hat⟩ := atI_ints (ns := [0, 0, 1, 2, 3]) r23a r23b
            have hz2 : 0 ≤ z ∧ z ≤ 3 := by
              simp only [List.mem_cons, List.not_mem_nil, or_false] at hz
              omega
            have k22 := (Kp.new (p := p) (o := .lst [.int 0, .int 0, .int 1, .int 2, .int 3]) hd22).trans k23
            refine ⟨d22, _, r23, _, rfl, rfl, SqL.of (k23 _ _ (hP21.ne hd22).1 upd_same), hat, _, rfl, _, rfl, szL (show 5 ≤ 1000000 by decide), fun tR htR => ?_⟩
            have kR := k22.trans (Kp.new (p := p) (o := .tup [.str sg, .ref tp, .int z, .ref tl', .ref tr]) htR)
            have kxR := (k14.trans (Kp.ext e21)).trans kR
            exact q _ ⟨sg, prs, z, _, stk⟩ _ ⟨tR, .ref tp, .ref tl', .ref tr, rfl, upd_same, FrzOf.mono PairAt.mono _ _ _ _ (TupK.of kxR hPx) hTx, TupOf.mono IntAt.mono _ _ _ _ (TupK.of kxR hPx) hV, TupOf.mono StackAt.mono _ _ _ _ (TupK.of kR hP21) hTr⟩
              ⟨hs6, hs1, hsm, hprl, hOk, hz2.1, hz2.2, hls, hlb, hst12, fun x hx => hok x (hstE x hx), hkeys2, hpn⟩ ((kp9.trans kx).trans kxR) ((hP23.new htR).mono (by omega))
    · have hV : TupOf IntAt H11 (.ref tl) ns := ⟨tl, ns.map V.int, rfl, k11 _ _ (hP10.ne htl).1 upd_same, paired_ints ns⟩
      have hls : ns.length = 9 := hns
      have hlb := hnb
      have kx := k910.trans k11
      have hPx := hP11
      have hSx := kx _ _ (hP9'.lst hS9) hS9
      have hTx := FrzOf.mono PairAt.mono _ _ _ _ (TupK.of kx hP9') hTp
      refine fun st hst => ?_
      have hP12 := hPx.new (o := .dT []) hst
      have nst := hPx.ne hst
      have hS12 := Ext.new (o := .dT []) hst _ _ hSx
      refine ⟨_, rfl, p, c, 13, _, rfl, hP12, by omega, by decide, by decide, fun r13 H13 r13a r13b k13 hP13 => ?_⟩
      have hS13 := k13 _ _ (hP12.lst hS12) hS12
      have hD13 : H13 st = some (.dT []) := k13 _ _ nst.1 upd_same
      refine ⟨_, rfl, Nat.zero_le _, fun d13 hd13 => ?_⟩
      have hS13' := Ext.new (o := .lst []) hd13 _ _ hS13
      have hD13' := Ext.new (o := .lst []) hd13 _ _ hD13
      refine ⟨.list (us.map PyData.str), .list [], .lst (SqL.of hS13') (dpStrs us), .lst (SqL.of upd_same) .nil, (sm_strs (n := 36) (m := 2) hus (fun t ht => ⟨(hut t ht).2, Nat.le_of_eq (hut t ht).1⟩) (by decide)).shaped (by decide), by decide, .inr ⟨_, rfl, r13, _, rfl, rfl, .inl ⟨by omega, by omega⟩, ?_⟩⟩
      obtain ⟨cnt, hcnt, cnt0, cnt12, cntU⟩ : ∃ cnt : Int, cnt = r13 * (if (!PyData.eqv (.list (us.map PyData.str)) (.list [])) = true then 1 else 0) ∧ 0 ≤ cnt ∧ cnt ≤ 12 ∧ (0 < cnt → 0 < us.length) := by
        refine ⟨_, rfl, ?_⟩
        cases us with
        | nil =>
          have : (!PyData.eqv (.list (([] : List Str).map PyData.str)) (.list [])) = false := by simp [PyData.eqv, PyData.eqvAll]
          rw [this]
          simp
        | cons y z =>
          have : (!PyData.eqv (.list ((y :: z).map PyData.str)) (.list [])) = true := by simp [PyData.eqv, PyData.eqvAll]
          rw [this, if_pos rfl, Int.mul_one, List.length_cons]
          omega
      have k13' := ((Kp.new (p := p) hst).trans k13).trans (Kp.new (o := .lst []) hd13)
      refine ⟨cnt, congrArg (fun z => [V.int z]) hcnt.symm, by omega, by omega, for_range (lo := 0) (n := cnt.toNat) (fun i σ H14 => ∃ (y8 : Option V) (es : List (Str × Str × Int)), σ = [some (.ref p), some (.str sg), some (.ref le), y3, some (.int few), some (.ref so), some (.bl b), some (.ref tp), y8, some (.ref tl), some (.ref st), none, none, none, none] ∧ H14 st = some (.dT (es.map encE)) ∧ es.length ≤ i ∧ (es.map fun x => (x.1, x.2.1)).Nodup ∧ (∀ x ∈ es, Two x.1 ∧ Two x.2.1 ∧ -99 ≤ x.2.2 ∧ x.2.2 ≤ 99) ∧ H14 so = some (.lst (us.map V.str)) ∧ Kp p H11 H14 ∧ Pen H14 p c (n + 161 + 6 * i))
        ⟨_, [], rfl, hD13', Nat.zero_le _, List.nodup_nil, (fun x h => by cases h), hS13', k13', (hP13.new hd13).mono (by omega)⟩ (fun i σ H14 hi hv => ?_) (fun σ H14 hv => ?_)⟩
      · obtain ⟨y8, es, rfl, hD14, hel, hnd, hok, hS14, k14, hP14⟩ := hv
        have hu0 : 0 < us.length := cntU (by omega)
        have hul : (us.map V.str).length = us.length := List.length_map ..
        refine ⟨_, rfl, p, c, _, rfl, hP14, by omega, fun w H15 wa wb k15 hP15 => ?_⟩
        have hS15 := k15 _ _ (hP14.lst hS14) hS14
        have hD15 := k15 _ _ nst.1 hD14
        refine ⟨_, rfl, _, rfl, _, rfl, p, c, .ref so, us.map V.str, _, rfl, .inl ⟨so, rfl, hS15⟩, by omega, by omega, hP15, by omega, fun x1 H16 hx1 k16 hP16 => ?_⟩
        have hS16 := k16 _ _ (hP15.lst hS15) hS15
        have hD16 := k16 _ _ nst.1 hD15
        refine ⟨_, rfl, _, rfl, p, c, .ref so, us.map V.str, _, rfl, .inl ⟨so, rfl, hS16⟩, by omega, by omega, hP16, by omega, fun x2 H17 hx2 k17 hP17 => ⟨szL (show 2 ≤ 1000000 by decide), fun t ht => ?_⟩⟩
        have hS17 := k17 _ _ (hP16.lst hS16) hS16
        have hD17 := k17 _ _ nst.1 hD16
        obtain ⟨t1, ht1, rfl⟩ := List.mem_map.mp hx1
        obtain ⟨t2, ht2, rfl⟩ := List.mem_map.mp hx2
        have hD18 := Ext.new (o := .tup [.str t1, .str t2]) ht _ _ hD17
        have hS18 := Ext.new (o := .tup [.str t1, .str t2]) ht _ _ hS17
        refine ⟨st, _, rfl, DPut.t (k := [.inr t1, .inr t2]) hD18 upd_same (szLt ?_), ?_⟩
        · rw [List.length_map]
          omega
        · rw [put_enc]
          refine ⟨_, putE es t1 t2 w, rfl, upd_same, ?_, putE_keys _ _ _ _ hnd, putE_all hok ⟨hut t1 ht1, hut t2 ht2, wa, wb⟩, ?_, ?_, ?_⟩
          · have := putE_len es t1 t2 w
            omega
          · rw [upd_ne (ne_of hS18 hD18 (by intro z; cases z))]
            exact hS18
          · exact ((((k14.trans k15).trans k16).trans k17).trans (Kp.new ht)).put hst
          · exact ((hP17.new ht).put nst.1 nst.2).mono (by omega)
      · obtain ⟨y8, es, rfl, hD14, hel, hnd, hok, hS14, k14, hP14⟩ := hv
        have hes12 : es.length ≤ 12 := by omega
        refine ⟨_, rfl, st, _, rfl, .inl hD14, fun lk bs hlk hkeys => ?_⟩
        obtain ⟨bes, hb1, hb2, hb3⟩ := keys_zip hkeys
        have ek := Ext.new (o := .lst (bs.map V.ref)) hlk
        refine ⟨_, fun x => V.ref x.1, fun x => .tuple [.str x.2.1, .str x.2.2.1], lk, bes, rfl, SqL.of (by rw [upd_same, ← hb1, List.map_map]; rfl), fun x hx => ⟨.tup (SqT.of (ek _ _ (hb3 x hx))) (.cons (.str _) (.cons (.str _) .nil)), by simp [PyData.depth, PyData.depthAll]⟩, ?_, .inl ?_, fun ls hls2 => ?_⟩
        · intro d1 h1 d2 h2
          obtain ⟨x1, _, rfl⟩ := List.mem_map.mp h1
          obtain ⟨x2, _, rfl⟩ := List.mem_map.mp h2
          simp [PySem.W.alike, PySem.W.alikeAll]
        · intro d1 h1
          obtain ⟨x1, _, rfl⟩ := List.mem_map.mp h1
          exact ⟨_, _, rfl⟩
        · obtain ⟨S, hS⟩ : ∃ S, S = bes.mergeSort (PySem.W.dataLe false fun x => PyData.tuple [.str x.2.1, .str x.2.2.1]) := ⟨_, rfl⟩
          rw [← hS]
          have hperm : S.Perm bes := hS ▸ List.mergeSort_perm _ _
          have hSl : S.length ≤ 12 := by
            rw [hperm.length_eq]
            have := congrArg List.length hb2
            rw [List.length_map] at this
            omega
          have e17 := ek.trans (Ext.new (o := .lst (S.map fun x => V.ref x.1)) hls2)
          refine ⟨ls, rfl, ⟨_, SqL.of upd_same⟩, fun D hD => lc_list (K := K) (xs := S.map fun x => V.ref x.1) (fun i H18 => ∃ (vs : List V) (stk : List (Str × Str × Int)), H18 D = some (.lst vs) ∧ Paired (StackAt H18) vs stk ∧ stk = (S.take i).map (·.2) ∧ Ext (upd (upd H14 lk (.lst (bs.map V.ref))) ls (.lst (S.map fun x => V.ref x.1))) H18)
            ⟨[], [], upd_same, .nil, rfl, Ext.new hD⟩ (fun i H18 _ ⟨_, _, _, _, _, k⟩ => SqL.of (k _ _ upd_same)) (fun i u H18 hi hv => ?_) (fun H18 hv => ?_)⟩
          · obtain ⟨vs, stk, hL18, hPr18, hstk, k18⟩ := hv
            rw [List.getElem?_map] at hi
            obtain ⟨x, hx, rfl⟩ : ∃ x, S[i]? = some x ∧ u = V.ref x.1 := by
              cases e : S[i]? with
              | none => rw [e] at hi; cases hi
              | some x => rw [e] at hi; exact ⟨x, rfl, (Option.some.inj hi).symm⟩
            have hxm : x ∈ bes := hperm.mem_iff.mp (List.mem_of_getElem? hx)
            have hxe : x.2 ∈ es := hb2 ▸ List.mem_map.mpr ⟨x, hxm, rfl⟩
            have hb18 := k18 _ _ (e17 _ _ (hb3 x hxm))
            have hD18 := k18 _ _ (e17 _ _ hD14)
            have hdg : DGet H18 st (.ref x.1) (some (.int x.2.2.2)) := val_enc hnd hxe ▸ DGet.t (k := [.inr x.2.1, .inr x.2.2.1]) hD18 hb18
            refine ⟨rfl, _, rfl, _, rfl, _, rfl, st, _, rfl, hdg, szL (show 1 ≤ 1000000 by decide), fun t1 ht1 => ?_⟩
            have e19 := Ext.new (o := .tup [.int x.2.2.2]) ht1
            refine ⟨x.1, t1, _, _, rfl, rfl, SqT.of (e19 _ _ hb18), SqT.of upd_same, (fun z => by cases z), szL (show 2 + 1 ≤ 1000000 by decide), (fun z => by cases z), fun _ t2 ht2 => ?_⟩
            have e20 := e19.trans (Ext.new (o := .tup [.str x.2.1, .str x.2.2.1, .int x.2.2.2]) ht2)
            have hL20 := e20 _ _ hL18
            have nDt : t2 ≠ D := by
              intro z
              rw [← z] at hL20
              rw [upd_same] at hL20
              cases hL20
            have hvl : vs.length ≤ 12 := by
              rw [paired_len hPr18, hstk, List.length_map, List.length_take]
              omega
            refine ⟨vs, hL20, szLt (by omega), vs ++ [.ref t2], stk ++ [x.2], upd_same, ?_, ?_, (k18.trans e20).put hD⟩
            · refine (paired_imp (fun _ _ => StackAt.mono _ _ _ _ ((TupK.ext e20).trans (TupK.lst hL20))) hPr18).snoc ⟨t2, rfl, ?_⟩
              rw [upd_ne nDt, upd_same]
            · rw [List.take_add_one, hx, List.map_append, hstk]
              rfl
          · obtain ⟨vs, stk, hL18, hPr18, hstk, k18⟩ := hv
            rw [List.length_map, List.take_of_length_le (Nat.le_refl _)] at hstk
            have hkeys2 : (stk.map fun x => (x.1, x.2.1)).Nodup := by
              rw [hstk, List.map_map]
              have : (S.map ((fun x : Str × Str × Int => (x.1, x.2.1)) ∘ fun x : Addr × Str × Str × Int => x.2)).Perm (es.map fun x => (x.1, x.2.1)) := by
                rw [← hb2, List.map_map]
                exact hperm.map _
              exact this.nodup_iff.mpr hnd
            have hstE : ∀ x ∈ stk, x ∈ es := fun x hx => by
              rw [hstk] at hx
              obtain ⟨y, hy, rfl⟩ := List.mem_map.mp hx
              exact hb2 ▸ List.mem_map.mpr ⟨y, hperm.mem_iff.mp hy, rfl⟩
            have hst12 : stk.length ≤ 12 := by
              rw [hstk, List.length_map]
              exact hSl
            refine ⟨D, _, rfl, .inl ⟨SqL.of hL18, fun tr htr => ?_⟩⟩
            have e21 := (e17.trans k18).trans (Ext.new (o := .tup vs) htr)
            have hTr : TupOf StackAt (upd H18 tr (.tup vs)) (.ref tr) stk := ⟨tr, vs, rfl, upd_same, paired_imp (fun _ _ => StackAt.mono _ _ _ _ (TupK.new htr)) hPr18⟩
            have hP21 := hP14.ext e21
            refine ⟨_, rfl, _, rfl, szL (show 5 ≤ 1000000 by decide), fun d22 hd22 => ⟨_, rfl, p, c, 5, _, rfl, hP21.new hd22, by omega, by decide, by decide, fun r23 H23 r23a r23b k23 hP23 => ?_⟩⟩
            obtain ⟨z, hz, hat⟩ := atI_ints (ns := [0, 0, 1, 2, 3]) r23a r23b
            have hz2 : 0 ≤ z ∧ z ≤ 3 := by
              simp only [List.mem_cons, List.not_mem_nil, or_false] at hz
              omega
            have k22 := (Kp.new (p := p) (o := .lst [.int 0, .int 0, .int 1, .int 2, .int 3]) hd22).trans k23
            refine ⟨d22, _, r23, _, rfl, rfl, SqL.of (k23 _ _ (hP21.ne hd22).1 upd_same), hat, _, rfl, _, rfl, szL (show 5 ≤ 1000000 by decide), fun tR htR => ?_⟩
            have kR := k22.trans (Kp.new (p := p) (o := .tup [.str sg, .ref tp, .int z, .ref tl, .ref tr]) htR)
            have kxR := (k14.trans (Kp.ext e21)).trans kR
            exact q _ ⟨sg, prs, z, _, stk⟩ _ ⟨tR, .ref tp, .ref tl, .ref tr, rfl, upd_same, FrzOf.mono PairAt.mono _ _ _ _ (TupK.of kxR hPx) hTx, TupOf.mono IntAt.mono _ _ _ _ (TupK.of kxR hPx) hV, TupOf.mono StackAt.mono _ _ _ _ (TupK.of kR hP21) hTr⟩
              ⟨hs6, hs1, hsm, hprl, hOk, hz2.1, hz2.2, hls, hlb, hst12, fun x hx => hok x (hstE x hx), hkeys2, hpn⟩ ((kp9.trans kx).trans kxR) ((hP23.new htR).mono (by omega))
end
end Pf


namespace Pf
open PySem PySem.Spec PyProof.Rows L2
theorem sum_len_le {m : Nat} : ∀ {ys : List Str}, (∀ y ∈ ys, y.length ≤ m) → (ys.map (·.length)).sum ≤ ys.length * m
  | [], _ => Nat.zero_le _
  | y :: r, h => by
    have h1 := h y (List.mem_cons_self ..)
    have h2 := sum_len_le (ys := r) fun x hx => h x (List.mem_cons_of_mem _ hx)
    rw [List.map_cons, List.sum_cons, List.length_cons, Nat.succ_mul]
    omega
theorem fits_join {ys : List Str} {k m : Nat} (hk : ys.length ≤ k) (h : ∀ y ∈ ys, y.length ≤ m) (hm : k * m ≤ 1000000) : (ys.map (·.length)).sum + ys.length * ("" : Str).length ≤ 16777216 := by
  have h1 := sum_len_le h
  have h2 : ys.length * m ≤ k * m := Nat.mul_le_mul_right m hk
  have h3 : ("" : Str).length = 0 := by decide +kernel
  rw [h3, Nat.mul_zero]
  omega
theorem paired_mem {α β : Type} {R : α → β → Prop} : ∀ {xs : List α} {ys : List β} {x : α}, Paired R xs ys → x ∈ xs → ∃ y, y ∈ ys ∧ R x y
  | _, _, _, .nil, h => by cases h
  | _, _, _, .cons r t, h => by
    rcases List.mem_cons.mp h with rfl | h
    · exact ⟨_, List.mem_cons_self .., r⟩
    · obtain ⟨y, hy, q⟩ := paired_mem t h
      exact ⟨y, List.mem_cons_of_mem _ hy, q⟩
def dPr (x : Str × Int) : PyData := .tuple [.str x.1, .int x.2]
theorem dpPairs {K : PySem.W.Frag} {H : Hp} : ∀ {vs : List V} {prs : List (Str × Int)}, Paired (PairAt H) vs prs → DpAll K H vs (prs.map dPr)
  | _, _, .nil => .nil
  | _, _, .cons ⟨_, e, h⟩ t => .cons (e ▸ .tup (SqT.of h) (.cons (.str _) (.cons (.int _) .nil))) (dpPairs t)
theorem sm_prs {prs : List (Str × Int)} (hn : prs.length ≤ 12) (h : ∀ x ∈ prs, Two x.1 ∧ -99 ≤ x.2 ∧ x.2 ≤ 99) : Sm 2000 2 (.tuple (prs.map dPr)) := by
  refine Sm.tup (n := 12) (m := 130) (k := 1) (by rw [List.length_map]; exact hn) (fun d hd => ?_) (by decide)
  obtain ⟨x, hx, rfl⟩ := List.mem_map.mp hd
  have h1 := h x hx
  refine Sm.tup (n := 2) (m := 64) (k := 0) (Nat.le_refl _) (fun d hd => ?_) (by decide)
  simp only [List.mem_cons, List.not_mem_nil, or_false] at hd
  rcases hd with rfl | rfl
  · exact (Sm.str h1.1.2.ok (Nat.le_refl _)).le (by rw [h1.1.1]; decide) (Nat.le_refl _)
  · exact Sm.int (by omega) (by omega)
def sgn (x : Str) (i : Int) : Str := ⟨#[x.cps.toList.getD i.toNat 0]⟩
theorem sgn_at {x : Str} {i : Int} (h0 : 0 ≤ i) (h1 : i < x.length) : atI x.cps.toList i = some (x.cps.toList.getD i.toNat 0) := by
  have h2 : i < x.cps.toList.length := by
    rw [Array.length_toList]
    exact h1
  rw [atI_get h0 h2, List.getD_eq_getElem?_getD, List.getElem?_eq_getElem (by omega)]
  rfl
theorem ixN_at {n : Nat} {i : Int} (h0 : 0 ≤ i) (h1 : i < n) : ixN n i = some i.toNat := by
  unfold ixN
  rw [if_pos h0, if_pos h1]
theorem flat_strs : ∀ ts : List Str, (ts.map V.str).all flatV = true
  | [] => rfl
  | _ :: r => by
    rw [List.map_cons, List.all_cons, flat_strs r]
    rfl
def One (t : Str) : Prop := t.length = 1 ∧ Small t
theorem set_one {ys : List Str} {j : Nat} {t : Str} (h : ∀ y ∈ ys, One y) (ht : One t) : ∀ y ∈ ys.set j t, One y := fun y hy => by
  rcases List.mem_or_eq_of_mem_set hy with h1 | rfl
  · exact h y h1
  · exact ht
section
variable {P : Program} {w : World} {K : PySem.W.Frag} {mg : Str → Option Value} {base : Heap}
abbrev s_law_word : Stmt := topS 24
theorem sc_law_word : FnScope ["_law_pen_here", "_law_code_here", "_law_most", "_law_size", "_law_k", "_law_found", "_law_both"] ["_law_pen_here", "_law_code_here", "_law_most"] (defScope s_law_word) :=
  ⟨rfl, rfl, rfl, by decide +kernel, rfl, by decide +kernel, by decide +kernel⟩
def spWord : Sp := fun vs H Q _ => ∃ (p c : Addr) (v : V) (r : Rl) (m : Int) (n : Nat), vs = [.ref p, v, .int m] ∧ RulesAt H v r ∧ RlOk r ∧ 0 ≤ m ∧ m ≤ 20 ∧ Pen H p c n ∧ n + 60 < 1000000 ∧
  ∀ (x : Str) H', (x.length : Int) ≤ m → Small x → Kp p H H' → Pen H' p c (n + 60) → Q (.str x) H'
theorem ok_word {f : Addr} {fd : FuncData} (F : Fun K "_law_word" "_law_word" s_law_word f fd) (c_law_take : CTake P w K mg base) (c_law_pick : CPick P w K mg base) (mrange : mg "range" = none) : FnOk P w K mg base CX0 3 f fd ["_law_pen_here", "_law_code_here", "_law_most"] spWord := by
  refine F.ok sc_law_word (fun vs H Q E h => ?_) (fun cdv A outer s H vs Q E hr h => ?_)
  · obtain ⟨p, c, v, r, m, n, rfl, _⟩ := h
    rfl
  · obtain ⟨p, c, v, r, m, n, rfl, ⟨a, vp, vl, vs, rfl, hA, ⟨ap, oz, us, rfl, hp, hoz, hR⟩, hl, hs⟩, ok, m0, m1, hP, hn, q⟩ := h
    refine ⟨_, (pss_cons (ps_set (i := 3) sc_law_word.nd rfl (.inl rfl) (pe_ix (ixL K) (pe_lst (pa_cons (pv 2) (pa_cons (pv 2) (pa_cons (pe_ca c_law_take (hr.mono (by decide)) (by rfl) (pa_cons (pv 0) (pa_cons (pe_op op_add (pv 2) pe_int) pa_nil))) pa_nil)))) (pe_ca c_law_take (hr.mono (by decide)) (by rfl) (pa_cons (pv 0) (pa_cons pe_int pa_nil))) (fun _ _ => rfl)))
      (pss_cons (ps_setLc (i := 5) (own := [("_law_k", 4)]) (g := gName 4) (by rfl) sc_law_word.nd rfl rfl (sw_true rfl rfl rfl (by decide +kernel)) (pi_range1 (by rfl) mrange (pa_cons (pv 3) pa_nil)) (blkOk_by (own := [("_law_k", 4)]) (N := ["_law_pen_here", "_law_code_here", "_law_most", "_law_size", "_law_k", "_law_found", "_law_both"]) (sc := defScope s_law_word) (by decide +kernel)) (fun _ _ _ _ _ => (pg_name (i := 4) sc_law_word.nd rfl (.inl rfl))) (fun _ _ _ _ _ => pts_nil) (fun _ _ _ _ _ => (pe_ca c_law_pick (hr.mono (by decide)) (by rfl) (pa_cons (pv 0) (pa_cons (pe_ix (ixT K) (pv 1) pe_int (fun _ _ => rfl)) pa_nil)))))
      (pss_cons (ps_if (PW.pt (pw_and (pt_cmpR (neD K hr.units) (pe_ix (ixT K) (pv 1) pe_int (fun _ _ => rfl)) (pe_tup pa_nil) (nomark _)) (pw_and1 (pt_cmpR op_eq (pe_ca c_law_take (hr.mono (by decide)) (by rfl) (pa_cons (pv 0) (pa_cons pe_int pa_nil))) pe_int (nomark _))))) (pss_one (ps_for PassesOwn.never rfl (pi_range1 (by rfl) mrange (pa_cons (pe_op op_fdiv (pv 3) pe_int) pa_nil)) (pg_name (i := 4) sc_law_word.nd rfl (.inl rfl)) (pss_cons (ps_set (i := 6) sc_law_word.nd rfl (.inl rfl) (pe_ix (ixT K) (pe_ca c_law_pick (hr.mono (by decide)) (by rfl) (pa_cons (pv 0) (pa_cons (pe_ix (ixT K) (pv 1) pe_int (fun _ _ => rfl)) pa_nil))) pe_int (fun _ _ => rfl)))
      (pss_cons (ps_asg (pe_ix ix_str (pv 6) pe_int (fun _ _ => rfl)) (pg_sub (pv 5) (pv 4) set_list))
      (pss_one (ps_asg (pe_ix ix_str (pv 6) pe_int (fun _ _ => rfl)) (pg_sub (pv 5) (pe_op op_sub (pe_op op_sub (pv 3) pe_int) (pv 4)) set_list))))))) pss_nil)
      (pss_one (ps_ret (pe_join pe_str (pv 5))))))), ?_⟩
    have hlen := paired_len hR
    have hpl := ok.prs
    have hl6 := ok.let6
    have hl1 := ok.let1
    refine ⟨_, rfl, _, rfl, _, rfl, _, rfl, m, 1, rfl, rfl, p, c, m + 1, n, rfl, hP, by omega, by omega, by omega, fun r1 H1 r1a r1b k1 hP1 => ⟨szL (show 3 ≤ 1000000 by decide), fun d hd => ?_⟩⟩
    refine ⟨_, rfl, p, c, 3, _, rfl, hP1.new hd, by omega, by decide, by decide, fun r3 H3 r3a r3b k3 hP3 => ?_⟩
    have hLd : H3 d = some (.lst ([m, m, r1].map V.int)) := k3 _ _ (hP1.ne hd).1 upd_same
    obtain ⟨sz, hsz, hat⟩ := atI_ints (ns := [m, m, r1]) r3a r3b
    have hsz2 : 0 ≤ sz ∧ sz ≤ m := by
      simp only [List.mem_cons, List.not_mem_nil, or_false] at hsz
      omega
    refine ⟨d, _, r3, _, rfl, rfl, SqL.of hLd, hat, ?_⟩
    have kp3 : Kp p H H3 := (k1.trans (Kp.new hd)).trans k3
    have hA3 := kp3 _ _ (hP.tup hA) hA
    have hp3 := kp3 _ _ (hP.frz hp) hp
    have hR3 := paired_imp (fun _ _ => PairAt.mono _ _ _ _ (TupK.of kp3 hP)) hR
    -- found
    refine ⟨_, rfl, sz, rfl, by omega, by omega, fun D hD => lc_range (lo := 0) (n := sz.toNat) (fun i H4 => ∃ ys : List Str, ys.length = i ∧ (∀ y ∈ ys, One y) ∧ H4 D = some (.lst (ys.map V.str)) ∧ Kp p H3 H4 ∧ Pen H4 p c (n + 2 + i)) ⟨[], rfl, (fun y h => by cases h), upd_same, Kp.new hD, hP3.new hD⟩ (fun i H4 hi hv => ?_) (fun H4 hv => ?_)⟩
    · obtain ⟨ys, hyl, hyo, hL4, k4, hP4⟩ := hv
      have hxl : (r.letters.cps.toList.map fun c => V.str ⟨#[c]⟩).length = r.letters.length := by
        rw [List.length_map, Array.length_toList]
        rfl
      refine ⟨rfl, _, rfl, _, rfl, a, _, 0, _, rfl, rfl, SqT.of (k4 _ _ (hP3.tup hA3) hA3), rfl, p, c, .str r.letters, _, _, rfl, .inr (.inr ⟨r.letters, rfl, rfl⟩), by omega, by omega, hP4, by omega, fun x H5 hx k5 hP5 => ?_⟩
      obtain ⟨ch, hch, rfl⟩ := List.mem_map.mp hx
      have nD := hP3.ne hD
      refine ⟨_, k5 _ _ nD.1 hL4, szLt ?_, ys ++ [⟨#[ch]⟩], ?_, fun y hy => ?_, ?_, (k4.trans k5).put hD, (hP5.put nD.1 nD.2)⟩
      · rw [List.length_map]
        omega
      · rw [List.length_append, List.length_singleton]
        omega
      · rcases List.mem_append.mp hy with hy | hy
        · exact hyo y hy
        · rw [List.mem_singleton.mp hy]
          exact ⟨rfl, Small.one (ok.small ch hch)⟩
      · rw [upd_same, List.map_append]
        rfl
    obtain ⟨ys, hyl, hyo, hL4, k4, hP4⟩ := hv
    have nD := hP3.ne hD
    have hA4 := k4 _ _ (hP3.tup hA3) hA3
    have hp4 := k4 _ _ (hP3.frz hp3) hp3
    have hR4 := paired_imp (fun _ _ => PairAt.mono _ _ _ _ (TupK.of k4 hP3)) hR3
    have hDn : H3 D = none := hD
    have fin : ∀ (zs : List Str) (H9 : Hp), zs.length = sz.toNat → (∀ y ∈ zs, One y) → Kp p H3 H9 → Pen H9 p c (n + 60) → Q (.str (Txt.join "" zs)) H9 := fun zs H9 hzl hzo k9 hP9 => by
      have hj2 := join_le (m := 1) fun y hy => Nat.le_of_eq (hzo y hy).1
      exact q _ _ (by omega) (join_small fun y hy => (hzo y hy).2) (kp3.trans k9) hP9
    -- if code[1] != () and take(2) == 0
    refine ⟨_, rfl, a, _, 1, _, rfl, rfl, SqT.of hA4, rfl, Nat.zero_le _, fun t0 ht0 => ?_⟩
    have e5 := Ext.new (o := .tup []) ht0
    refine ⟨.tuple (r.prs.map dPr), .tuple [], .tup (SqT.fz (e5 _ _ hp4)) (dpPairs (paired_imp (fun _ _ => PairAt.mono _ _ _ _ (TupK.ext e5)) hR4)), .tup (SqT.of upd_same) .nil, (sm_prs ok.prs ok.pr).shaped (by decide), by decide, _, rfl, ite2 (fun e => ?_) (fun e => ?_)⟩
    · have hp0 : 0 < us.length := by
        rw [hlen]
        cases hh : r.prs with
        | nil =>
          rw [hh] at e
          simp [PyData.eqv, PyData.eqvAll] at e
        | cons y z =>
          rw [List.length_cons]
          omega
      have hP5 := hP4.ext e5
      refine ⟨_, rfl, p, c, 2, _, rfl, hP5, by omega, by decide, by decide, fun r6 H6 r6a r6b k6 hP6 => ⟨rfl, _, rfl, ite2 (fun e2 => ?_) (fun e2 => ?_)⟩⟩
      · have k46 := (Kp.ext (p := p) e5).trans k6
        have hL6 := k46 _ _ nD.1 hL4
        have hA6 := k46 _ _ (hP4.tup hA4) hA4
        have hp6 := k46 _ _ (hP4.frz hp4) hp4
        have hR6 := paired_imp (fun _ _ => PairAt.mono _ _ _ _ (TupK.of k46 hP4)) hR4
        refine ⟨_, rfl, sz, 2, rfl, rfl, ⟨by decide, by decide⟩, sz / 2, rfl, by omega, by omega, for_range (lo := 0) (n := (sz / 2).toNat) (fun i σ H7 => ∃ (y4 y6 : Option V) (zs : List Str), σ = [some (.ref p), some (.ref a), some (.int m), some (.int sz), y4, some (.ref D), y6] ∧ zs.length = sz.toNat ∧ (∀ y ∈ zs, One y) ∧ H7 D = some (.lst (zs.map V.str)) ∧ TupK H6 H7 ∧ Kp p H3 H7 ∧ Pen H7 p c (n + 24 + i))
          ⟨_, _, ys, rfl, hyl, hyo, hL6, TupK.refl, k4.trans k46, hP6.mono (by omega)⟩ (fun i σ H7 hi hv => ?_) (fun σ H7 hv => ?_)⟩
        · obtain ⟨y4, y6, zs, rfl, hzl, hzo, hL7, k7, k37, hP7⟩ := hv
          have hA7 := k7 _ _ hA6
          have hp7 := k7.frz _ _ _ hp6
          refine ⟨_, rfl, _, rfl, a, _, 1, _, rfl, rfl, SqT.of hA7, rfl, p, c, .ref ap, us, _, rfl, .inr (.inl ⟨ap, rfl, .inr ⟨oz, hp7⟩⟩), hp0, by omega, hP7, by omega, fun x H8 hx k8 hP8 => ?_⟩
          obtain ⟨⟨t, w1⟩, hy, a1, rfl, ha1⟩ := paired_mem hR6 hx
          have ha8 := k8 _ _ (hP7.tup (k7 _ _ ha1)) (k7 _ _ ha1)
          have ht := (ok.pr _ hy).1
          have htl : t.length = 2 := ht.1
          have hL8 := k8 _ _ (hP7.lst hL7) hL7
          obtain ⟨c0, hc0, hat0⟩ := atI_mem (xs := t.cps.toList) (i := 0) (by decide) (by rw [Array.length_toList]; show (0 : Int) < (t.length : Int); omega)
          obtain ⟨c1, hc1, hat1⟩ := atI_mem (xs := t.cps.toList) (i := 1) (by decide) (by rw [Array.length_toList]; show (1 : Int) < (t.length : Int); omega)
          have o0 : One ⟨#[c0]⟩ := ⟨rfl, Small.one (ht.2 c0 hc0)⟩
          have o1 : One ⟨#[c1]⟩ := ⟨rfl, Small.one (ht.2 c1 hc1)⟩
          have hzl2 : (zs.map V.str).length = zs.length := List.length_map ..
          refine ⟨a1, _, 0, _, rfl, rfl, SqT.of ha8, rfl, ?_⟩
          refine ⟨_, rfl, t, 0, c0, rfl, rfl, szL (by omega), hat0, _, rfl, _, rfl, D, _, _, _, rfl, rfl, hL8, ixN_at (by omega) (by omega), ?_⟩
          refine ⟨_, rfl, t, 1, c1, rfl, rfl, szL (by omega), hat1, _, rfl, _, rfl, _, 1, rfl, rfl, _, rfl, _, _, rfl, rfl, D, _, _, _, rfl, rfl, upd_same, ixN_at (by omega) (by rw [List.length_set]; omega), ?_⟩
          refine ⟨_, _, (zs.set ((0 : Int) + i).toNat ⟨#[c0]⟩).set (sz - 1 - (0 + (i : Int))).toNat ⟨#[c1]⟩, rfl, ?_, set_one (set_one hzo o0) o1, ?_, ?_, ?_, ?_⟩
          · rw [List.length_set, List.length_set]
            exact hzl
          · rw [upd_same, List.map_set, List.map_set]
          · exact ((k7.trans (TupK.of k8 hP7)).trans (TupK.lst hL8)).trans (TupK.lst upd_same)
          · exact ((k37.trans k8).put hDn).put hDn
          · exact ((hP8.put nD.1 nD.2).put nD.1 nD.2).mono (by omega)
        · obtain ⟨y4, y6, zs, rfl, hzl, hzo, hL7, k7, k37, hP7⟩ := hv
          exact ⟨⟨_, rfl⟩, _, rfl, "", D, zs, rfl, rfl, .inl (SqL.of hL7), fits_join (k := 20) (m := 1) (by omega) (fun y hy => Nat.le_of_eq (hzo y hy).1) (by decide), fin zs _ hzl hzo k37 (hP7.mono (by omega))⟩
      · have k46 := (Kp.ext (p := p) e5).trans k6
        exact ⟨⟨_, rfl⟩, _, rfl, "", D, ys, rfl, rfl, .inl (SqL.of (k46 _ _ nD.1 hL4)), fits_join (k := 20) (m := 1) (by omega) (fun y hy => Nat.le_of_eq (hyo y hy).1) (by decide), fin ys _ hyl hyo (k4.trans k46) (hP6.mono (by omega))⟩
    · exact ⟨⟨_, rfl⟩, _, rfl, "", D, ys, rfl, rfl, .inl (SqL.of (e5 _ _ hL4)), fits_join (k := 20) (m := 1) (by omega) (fun y hy => Nat.le_of_eq (hyo y hy).1) (by decide), fin ys _ hyl hyo (k4.trans (Kp.ext e5)) ((hP4.ext e5).mono (by omega))⟩
/-! ### may -/
def mayB (r : Rl) (x : Str) (i j : Int) : Bool := decide (r.span ≤ j - i - 1) && inV (.str (sgn x i ++ sgn x j)) ((r.prs.map (·.1)).map V.str)
abbrev s_law_may : Stmt := topS 25
theorem sc_law_may : FnScope ["_law_code_here", "_law_word_here", "_law_i", "_law_j", "_law_texts", "_law_both", "_law_much"] ["_law_code_here", "_law_word_here", "_law_i", "_law_j"] (defScope s_law_may) :=
  ⟨rfl, rfl, rfl, by decide +kernel, rfl, by decide +kernel, by decide +kernel⟩
def spMay : Sp := fun vs H Q _ => ∃ (v : V) (r : Rl) (x : Str) (i j : Int), vs = [v, .str x, .int i, .int j] ∧ RulesAt H v r ∧ r.prs.length ≤ 12 ∧ x.length ≤ 1000 ∧ 0 ≤ i ∧ i < x.length ∧ 0 ≤ j ∧ j < x.length ∧ ∀ H', Ext H H' → Q (.bl (mayB r x i j)) H'
theorem ok_may {f : Addr} {fd : FuncData} {k : Nat} (F : Fun K "_law_may" "_law_may" s_law_may f fd) : FnOk P w K mg base CX0 (k + 1) f fd ["_law_code_here", "_law_word_here", "_law_i", "_law_j"] spMay := by
  refine F.ok sc_law_may (fun vs H Q E h => ?_) (fun cdv A outer s H vs Q E hr h => ?_)
  · obtain ⟨v, r, x, i, j, rfl, _⟩ := h
    rfl
  · obtain ⟨v, r, x, i, j, rfl, ⟨a, vp, vl, vs, rfl, hA, ⟨ap, oz, us, rfl, hp, hoz, hR⟩, hl, hs⟩, hpl, hx, i0, i1, j0, j1, q⟩ := h
    refine ⟨_, (pss_cons (ps_setLc (i := 4) (own := [("_law_both", 5), ("_law_much", 6)]) (g := gTup K 2 (gCons (gName 5) (gCons (gName 6) gNil))) (by rfl) sc_law_may.nd rfl rfl (sw_true rfl rfl rfl (by decide +kernel)) (pi_tup (pe_ix (ixT K) (pv 0) pe_int (fun _ _ => rfl))) (blkOk_by (own := [("_law_both", 5), ("_law_much", 6)]) (N := ["_law_code_here", "_law_word_here", "_law_i", "_law_j", "_law_texts", "_law_both", "_law_much"]) (sc := defScope s_law_may) (by decide +kernel)) (fun _ _ _ _ _ => (pgT K rfl (pgs_cons (pg_name (i := 5) sc_law_may.nd rfl (.inl rfl)) (pgs_cons (pg_name (i := 6) sc_law_may.nd rfl (.inl rfl)) pgs_nil)))) (fun _ _ _ _ _ => pts_nil) (fun _ _ _ _ _ => (pv 5)))
      (pss_one (ps_ret (pe_and (pe_cmpR op_ge (pe_op op_sub (pe_op op_sub (pv 3) (pv 2)) pe_int) (pe_ix (ixT K) (pv 0) pe_int (fun _ _ => rfl)) (nomark _)) (pe_one (pe_cmpR (inSeq K) (pe_op op_add_str (pe_ix ix_str (pv 1) (pv 2) (fun _ _ => rfl)) (pe_ix ix_str (pv 1) (pv 3) (fun _ _ => rfl))) (pv 4) (by rfl))))))), ?_⟩
    have hlen := paired_len hR
    refine ⟨_, rfl, a, _, 1, _, rfl, rfl, SqT.of hA, rfl, ap, rfl, ⟨_, SqT.fz hp⟩, fun D hD => lc_tup (K := K) (xs := us) (fun i H6 => Ext H H6 ∧ H6 D = some (.lst (((r.prs.take i).map (·.1)).map V.str)))
      ⟨Ext.new hD, upd_same⟩ (fun i H6 _ ⟨k, _⟩ => SqT.fz (k _ _ hp)) (fun i u H6 hi hv => ?_) (fun H6 hv => ?_)⟩
    · obtain ⟨k6, hL6⟩ := hv
      obtain ⟨⟨x1, w1⟩, hx1, a1, rfl, ha1⟩ := paired_get hR hi
      have ha1' := k6 _ _ ha1
      refine ⟨a1, _, rfl, SqT.of ha1', rfl, _, _, rfl, _, _, rfl, rfl, rfl, _, rfl, _, hL6, szLt ?_, k6.put hD, ?_⟩
      · rw [List.length_map, List.length_map, List.length_take]
        omega
      · rw [upd_same, List.take_add_one, hx1, List.map_append, List.map_append]
        rfl
    · obtain ⟨k6, hL6⟩ := hv
      rw [List.take_of_length_le (by omega)] at hL6
      refine ⟨_, rfl, _, rfl, _, _, rfl, rfl, _, 1, rfl, rfl, _, rfl, a, _, 2, _, rfl, rfl, SqT.of (k6 _ _ hA), rfl, _, _, rfl, rfl, _, rfl, ite2 (fun e => ?_) (fun e => ?_)⟩
      · refine ⟨_, rfl, _, rfl, x, _, _, rfl, rfl, szL (by omega), sgn_at i0 i1, _, rfl, _, rfl, x, _, _, rfl, rfl, szL (by omega), sgn_at j0 j1, _, _, rfl, rfl, szL (show 1 + 1 ≤ 1000000 by decide), _, rfl, D, _, rfl, .inl (SqL.of hL6), rfl, flat_strs _, ?_⟩
        have := q H6 k6
        unfold mayB at this
        have e : decide (r.span ≤ j - i - 1) = true := e
        rw [e, Bool.true_and] at this
        exact this
      · have := q H6 k6
        unfold mayB at this
        have e : decide (r.span ≤ j - i - 1) = false := Bool.eq_false_iff.mpr e
        rw [e, Bool.false_and] at this
        exact this
end
end Pf


namespace Pf
open PySem PySem.Spec PyProof.Rows L2
/-! ### pairs within one another and behind one another, between two places -/
inductive Fl : Int → Int → List (Int × Int) → Prop
  | nil {lo hi : Int} : Fl lo hi []
  | cons {lo hi i j : Int} {A B : List (Int × Int)} : lo ≤ i → i < j → j ≤ hi → Fl (i + 1) (j - 1) A → Fl (j + 1) hi B → Fl lo hi ((i, j) :: (A ++ B))
theorem Fl.mono {lo hi : Int} {ps : List (Int × Int)} (h : Fl lo hi ps) : ∀ {lo' hi' : Int}, lo' ≤ lo → hi ≤ hi' → Fl lo' hi' ps := by
  induction h with
  | nil => intro _ _ _ _; exact .nil
  | cons h1 h2 h3 hA hB _ ihB =>
    intro lo' hi' a b
    exact .cons (by omega) h2 (by omega) hA (ihB (Int.le_refl _) b)
theorem Fl.app {lo h0 : Int} {ps : List (Int × Int)} (h : Fl lo h0 ps) : ∀ {i j hi : Int} {A : List (Int × Int)}, h0 = i - 1 → lo ≤ i → i < j → j ≤ hi → Fl (i + 1) (j - 1) A → Fl lo hi (ps ++ (i, j) :: A) := by
  induction h with
  | nil =>
    intro i j hi A _ a b c hA
    have := Fl.cons a b c hA (Fl.nil (lo := j + 1) (hi := hi))
    rw [List.append_nil] at this
    exact this
  | @cons lo hi0 i0 j0 A0 B0 h1 h2 h3 hA0 hB0 _ ihB =>
    intro i j hi A e a b c hA
    have hB := ihB e (by omega) b c hA
    have := Fl.cons h1 h2 (by omega) hA0 hB
    rw [List.cons_append, List.append_assoc]
    exact this
theorem Fl.bound {lo hi : Int} {ps : List (Int × Int)} (h : Fl lo hi ps) : ∀ x ∈ ps, lo ≤ x.1 ∧ x.1 < x.2 ∧ x.2 ≤ hi := by
  induction h with
  | nil => intro x hx; cases hx
  | cons h1 h2 h3 hA hB ihA ihB =>
    intro x hx
    rcases List.mem_cons.mp hx with rfl | hx
    · exact ⟨h1, h2, h3⟩
    · rcases List.mem_append.mp hx with hx | hx
      · have := ihA x hx
        omega
      · have := ihB x hx
        omega
theorem Fl.len {lo hi : Int} {ps : List (Int × Int)} (h : Fl lo hi ps) : lo ≤ hi + 1 → 2 * (ps.length : Int) ≤ hi - lo + 1 := by
  induction h with
  | nil => intro h; show 2 * ((0 : Nat) : Int) ≤ _; omega
  | cons h1 h2 h3 hA hB ihA ihB =>
    intro _
    have a := ihA (by omega)
    have b := ihB (by omega)
    rw [List.length_cons, List.length_append]
    omega
theorem neg_at {xs : List V} (h : 0 < xs.length) : ∃ v, v ∈ xs ∧ atI xs (-1) = some v := by
  refine ⟨xs[xs.length - 1]'(by omega), List.getElem_mem _, ?_⟩
  unfold atI ixN
  rw [if_neg (by decide), if_pos (by omega)]
  show xs[(-1 + (xs.length : Int)).toNat]? = _
  rw [show (-1 + (xs.length : Int)).toNat = xs.length - 1 by omega, List.getElem?_eq_getElem]
theorem dpInts {K : PySem.W.Frag} {H : Hp} : ∀ cells : List Int, DpAll K H (cells.map V.int) (cells.map PyData.int)
  | [] => .nil
  | _ :: r => .cons (.int _) (dpInts r)
section
variable {P : Program} {w : World} {K : PySem.W.Frag} {mg : Str → Option Value} {base : Heap}
abbrev CMay (P : Program) (w : World) (K : PySem.W.Frag) (mg : Str → Option Value) (base : Heap) : Prop := Ca P w K mg base 1 "_law_may" ["_law_code_here", "_law_word_here", "_law_i", "_law_j"] spMay
abbrev s_law_folded : Stmt := topS 26
theorem sc_law_folded : FnScope ["_law_pen_here", "_law_code_here", "_law_word_here", "_law_first", "_law_last", "_law_found", "_law_place", "_law_j", "_law_some"] ["_law_pen_here", "_law_code_here", "_law_word_here", "_law_first", "_law_last"] (defScope s_law_folded) :=
  ⟨rfl, rfl, rfl, by decide +kernel, rfl, by decide +kernel, by decide +kernel⟩
def spFold (d : Nat) : Sp := fun vs H Q _ => ∃ (p c : Addr) (v : V) (r : Rl) (x : Str) (lo hi : Int) (n : Nat), vs = [.ref p, v, .str x, .int lo, .int hi] ∧ RulesAt H v r ∧ RlOk r ∧ (x.length : Int) ≤ 20 ∧ 0 ≤ lo ∧ lo ≤ hi + 1 ∧ hi < x.length ∧ hi - lo + 1 < d ∧ Pen H p c n ∧ (n : Int) + 3 * (hi - lo + 1) < 1000000 ∧
  ∀ (l : Addr) (vs : List V) (ps : List (Int × Int)) (H' : Hp) (n' : Nat), H l = none → H' l = some (.lst vs) → Paired (TwoAt H') vs ps → Fl lo hi ps → (∀ y ∈ ps, mayB r x y.1 y.2 = true) → Kp p H H' → Pen H' p c n' → (n' : Int) ≤ n + 3 * (hi - lo + 1) → Q (.ref l) H'
theorem ok_folded {f : Addr} {fd : FuncData} (F : Fun K "_law_folded" "_law_folded" s_law_folded f fd) (bF : Binds K fd ["_law_pen_here", "_law_code_here", "_law_word_here", "_law_first", "_law_last"] []) (gF : mg "_law_folded" = some (.ref f)) (c_law_take : CTake P w K mg base) (c_law_pick : CPick P w K mg base) (c_law_may : CMay P w K mg base) (mrange : mg "range" = none) :
    ∀ d : Nat, FnOk P w K mg base CX0 (3 + d) f fd ["_law_pen_here", "_law_code_here", "_law_word_here", "_law_first", "_law_last"] (spFold d)
  | 0 => ⟨fun vs H Q E h => by
      obtain ⟨p, c, v, r, x, lo, hi, n, rfl, _⟩ := h
      rfl, fun A outer s H args us vs Q E _ _ _ _ h => by
      obtain ⟨p, c, v, r, x, lo, hi, n, _, _, _, _, _, h1, _, h2, _⟩ := h
      omega⟩
  | d + 1 => by
    have c_law_folded : Ca P w K mg base (3 + d) "_law_folded" ["_law_pen_here", "_law_code_here", "_law_word_here", "_law_first", "_law_last"] (spFold d) := ⟨f, fd, ok_folded F bF gF c_law_take c_law_pick c_law_may mrange d, gF, F.kp, bF⟩
    refine F.ok (k := 3 + d) sc_law_folded (fun vs H Q E h => ?_) (fun cdv A outer s H vs Q E hr h => ?_)
    · obtain ⟨p, c, v, r, x, lo, hi, n, rfl, _⟩ := h
      rfl
    · obtain ⟨p, c, v, r, x, lo, hi, n, rfl, hRu, ok, hx, lo0, lohi, hix, hd, hP, hn, q⟩ := h
      refine ⟨_, (pss_cons (ps_set (i := 5) sc_law_folded.nd rfl (.inl rfl) (pe_lst pa_nil))
      (pss_cons (ps_set (i := 6) sc_law_folded.nd rfl (.inr rfl) (pv 3))
      (pss_cons (ps_while PassesOwn.never (pt_cmpR op_le (pv 6) (pv 4) (nomark _)) (pss_cons (ps_setLc (i := 8) (own := [("_law_j", 7)]) (g := gName 7) (by rfl) sc_law_folded.nd rfl rfl (sw_true rfl rfl rfl (by decide +kernel)) (pi_range2 (by rfl) mrange (pa_cons (pe_op op_add (pv 6) pe_int) (pa_cons (pe_op op_add (pv 4) pe_int) pa_nil))) (blkOk_by (own := [("_law_j", 7)]) (N := ["_law_pen_here", "_law_code_here", "_law_word_here", "_law_first", "_law_last", "_law_found", "_law_place", "_law_j", "_law_some"]) (sc := defScope s_law_folded) (by decide +kernel)) (fun _ _ _ _ _ => (pg_name (i := 7) sc_law_folded.nd rfl (.inl rfl))) (fun _ _ _ _ _ => (pts_one (pt_val (pe_ca c_law_may (hr.mono (by omega)) (by rfl) (pa_cons (pv 1) (pa_cons (pv 2) (pa_cons (pv 6) (pa_cons (pv 7) pa_nil)))))))) (fun _ _ _ _ _ => (pv 7)))
      (pss_cons (ps_if (PW.pt (pw_and (pt_cmpR (neD K hr.units) (pv 8) (pe_lst pa_nil) (nomark _)) (pw_and1 (pt_cmpR op_gt (pe_ca c_law_take (hr.mono (by omega)) (by rfl) (pa_cons (pv 0) (pa_cons pe_int pa_nil))) pe_int (nomark _))))) (pss_cons (ps_set (i := 7) sc_law_folded.nd rfl (.inl rfl) (pe_ix (ixL K) (pe_lst (pa_cons (pe_ix (ixL K) (pv 8) (pe_un un_neg pe_int) (fun _ _ => rfl)) (pa_cons (pe_ca c_law_pick (hr.mono (by omega)) (by rfl) (pa_cons (pv 0) (pa_cons (pv 8) pa_nil))) pa_nil))) (pe_ca c_law_take (hr.mono (by omega)) (by rfl) (pa_cons (pv 0) (pa_cons pe_int pa_nil))) (fun _ _ => rfl)))
      (pss_cons (ps_expr (pe_bm PySem.F.plainAttrs_list PySem.F.slot_list_append PySem.F.type_list_append mt_append (pv 5) (pa_cons (pe_tup (pa_cons (pv 6) (pa_cons (pv 7) pa_nil))) pa_nil)))
      (pss_cons (ps_expr (pe_bm PySem.F.plainAttrs_list PySem.F.slot_list_extend PySem.F.type_list_extend mt_extend (pv 5) (pa_cons (pe_ca c_law_folded (hr.mono (by omega)) (by rfl) (pa_cons (pv 0) (pa_cons (pv 1) (pa_cons (pv 2) (pa_cons (pe_op op_add (pv 6) pe_int) (pa_cons (pe_op op_sub (pv 7) pe_int) pa_nil)))))) pa_nil)))
      (pss_one (ps_set (i := 6) sc_law_folded.nd rfl (.inr rfl) (pv 7)))))) pss_nil)
      (pss_one (ps_set (i := 6) sc_law_folded.nd rfl (.inr rfl) (pe_op op_add (pv 6) pe_int))))))
      (pss_one (ps_ret (pv 5)))))), ?_⟩
      refine ⟨Nat.zero_le _, fun l hl => ?_⟩
      have nl := hP.ne hl
      refine ⟨_, rfl, ?_⟩
      refine ⟨fun m σ H2 => ∃ (pl : Int) (y7 y8 : Option V) (vs : List V) (ps : List (Int × Int)) (n2 : Nat), m = (hi + 1 - pl).toNat ∧ σ = [some (.ref p), some v, some (.str x), some (.int lo), some (.int hi), some (.ref l), some (.int pl), y7, y8] ∧ lo ≤ pl ∧ pl ≤ hi + 1 ∧ H2 l = some (.lst vs) ∧ Paired (TwoAt H2) vs ps ∧ Fl lo (pl - 1) ps ∧ (∀ y ∈ ps, mayB r x y.1 y.2 = true) ∧ Kp p H H2 ∧ Pen H2 p c n2 ∧ (n2 : Int) ≤ n + 3 * (pl - lo),
        ⟨_, lo, none, none, [], [], n, rfl, rfl, Int.le_refl _, lohi, upd_same, .nil, .nil, (fun y h => by cases h), Kp.new hl, hP.new hl, by omega⟩, fun m σ H2 hW => ?_⟩
      obtain ⟨pl, y7, y8, vs, ps, n2, rfl, rfl, pl0, pl1, hL2, hPr, hFl, hMy, k2, hP2, hn2⟩ := hW
      refine ⟨_, rfl, _, rfl, pl, hi, rfl, rfl, _, rfl, ite2 (fun e => ?_) (fun e => ?_)⟩
      · have e : pl ≤ hi := of_decide_eq_true e
        refine ⟨fun σ' H' => ∃ (pl' : Int) (y7 y8 : Option V) (vs : List V) (ps : List (Int × Int)) (n2 : Nat), pl < pl' ∧ σ' = [some (.ref p), some v, some (.str x), some (.int lo), some (.int hi), some (.ref l), some (.int pl'), y7, y8] ∧ lo ≤ pl' ∧ pl' ≤ hi + 1 ∧ H' l = some (.lst vs) ∧ Paired (TwoAt H') vs ps ∧ Fl lo (pl' - 1) ps ∧ (∀ y ∈ ps, mayB r x y.1 y.2 = true) ∧ Kp p H H' ∧ Pen H' p c n2 ∧ (n2 : Int) ≤ n + 3 * (pl' - lo),
          fun σ' H' ⟨pl', y7, y8, vs, ps, n2, h1, h2, h3, h4, h5⟩ => ⟨(hi + 1 - pl').toNat, by omega, pl', y7, y8, vs, ps, n2, rfl, h2, h3, h4, h5⟩, ?_⟩
        -- some = [j for j in range(place + 1, last + 1) if may(code, word, place, j)]
        refine ⟨_, rfl, pl, 1, rfl, rfl, _, rfl, hi, 1, rfl, rfl, pl + 1, hi + 1, rfl, ⟨by omega, by omega, by omega, by omega⟩, fun D hD => lc_range (lo := pl + 1) (n := ((hi + 1) - (pl + 1)).toNat) (fun i H3 => ∃ js : List Int, js.length ≤ i ∧ (∀ j ∈ js, pl < j ∧ j ≤ hi ∧ mayB r x pl j = true) ∧ H3 D = some (.lst (js.map V.int)) ∧ Ext H2 H3) ⟨[], Nat.zero_le _, (fun j h => by cases h), upd_same, Ext.new hD⟩ (fun i H3 hi' hv => ?_) (fun H3 hv => ?_)⟩
        · obtain ⟨js, hjl, hjo, hL3, k3⟩ := hv
          refine ⟨rfl, _, rfl, _, rfl, _, rfl, _, rfl, v, r, x, pl, pl + 1 + i, rfl, RulesAt.mono _ _ _ _ ((TupK.of k2 hP).trans (TupK.ext k3)) hRu, ok.prs, by omega, by omega, by omega, by omega, by omega, fun H4 k4 => ⟨_, rfl, ite2 (fun e2 => ?_) (fun e2 => ?_)⟩⟩
          · refine ⟨_, rfl, _, k4 _ _ hL3, szLt ?_, js ++ [pl + 1 + i], ?_, fun j hj => ?_, ?_, (k3.trans k4).put hD⟩
            · rw [List.length_map]
              omega
            · rw [List.length_append, List.length_singleton]
              omega
            · rcases List.mem_append.mp hj with hj | hj
              · exact hjo j hj
              · rw [List.mem_singleton.mp hj]
                exact ⟨by omega, by omega, e2⟩
            · rw [upd_same, List.map_append]
              rfl
          · exact ⟨js, by omega, hjo, k4 _ _ hL3, k3.trans k4⟩
        · obtain ⟨js, hjl, hjo, hL3, k3⟩ := hv
          have hP3 := hP2.ext k3
          have hPr3 := paired_imp (fun _ _ => TwoAt.mono _ _ _ _ (TupK.ext k3)) hPr
          have hL23 := k3 _ _ hL2
          have skip : ∀ (H9 : Hp) (n9 : Nat), Kp p H3 H9 → Pen H9 p c n9 → (n9 : Int) ≤ n2 + 1 → ∃ (pl' : Int) (y7' y8' : Option V) (vs : List V) (ps : List (Int × Int)) (n2 : Nat), pl < pl' ∧ [some (.ref p), some v, some (.str x), some (.int lo), some (.int hi), some (.ref l), some (.int (pl + 1)), y7, some (.ref D)] = [some (.ref p), some v, some (.str x), some (.int lo), some (.int hi), some (.ref l), some (.int pl'), y7', y8'] ∧ lo ≤ pl' ∧ pl' ≤ hi + 1 ∧ H9 l = some (.lst vs) ∧ Paired (TwoAt H9) vs ps ∧ Fl lo (pl' - 1) ps ∧ (∀ y ∈ ps, mayB r x y.1 y.2 = true) ∧ Kp p H H9 ∧ Pen H9 p c n2 ∧ (n2 : Int) ≤ n + 3 * (pl' - lo) := fun H9 n9 k9 hP9 hn9 =>
            ⟨pl + 1, _, _, vs, ps, n9, by omega, rfl, by omega, by omega, k9 _ _ nl.1 hL23, paired_imp (fun _ _ => TwoAt.mono _ _ _ _ (TupK.of k9 hP3)) hPr3, hFl.mono (Int.le_refl _) (by omega), hMy, (k2.trans (Kp.ext k3)).trans k9, hP9, by omega⟩
          -- if some != [] and take(4) > 0
          refine ⟨_, rfl, Nat.zero_le _, fun e0 he0 => ?_⟩
          have e4 := Ext.new (o := .lst []) he0
          refine ⟨.list (js.map PyData.int), .list [], .lst (SqL.of (e4 _ _ hL3)) (dpInts js), .lst (SqL.of upd_same) .nil, PySem.W.shaped_ints js, by decide, _, rfl, ite2 (fun e2 => ?_) (fun e2 => ?_)⟩
          · have hj0 : 0 < js.length := by
              cases js with
              | nil => simp [PyData.eqv, PyData.eqvAll] at e2
              | cons y z => exact Nat.succ_pos _
            refine ⟨_, rfl, p, c, 4, _, rfl, hP3.ext e4, by omega, by decide, by decide, fun r5 H5 r5a r5b k5 hP5 => ⟨_, _, rfl, rfl, _, rfl, ite2 (fun e3 => ?_) (fun e3 => ?_)⟩⟩
            · have k35 := (Kp.ext (p := p) e4).trans k5
              have hL5 := k35 _ _ (hP3.lst hL3) hL3
              have hjl2 : (js.map V.int).length = js.length := List.length_map ..
              obtain ⟨v1, hv1, hat1⟩ := neg_at (xs := js.map V.int) (by omega)
              refine ⟨_, rfl, 1, rfl, D, _, -1, _, rfl, rfl, SqL.of hL5, hat1, ?_⟩
              refine ⟨_, rfl, _, rfl, p, c, .ref D, js.map V.int, _, rfl, .inl ⟨D, rfl, hL5⟩, by omega, by omega, hP5, by omega, fun v2 H6 hv2 k6 hP6 => ⟨szL (show 2 ≤ 1000000 by decide), fun d6 hd6 => ?_⟩⟩
              refine ⟨_, rfl, p, c, 2, _, rfl, hP6.new hd6, by omega, by decide, by decide, fun r7 H7 r7a r7b k7 hP7 => ?_⟩
              obtain ⟨v3, hv3, hat3⟩ := atI_mem (xs := [v1, v2]) r7a r7b
              have hv3' : v3 ∈ js.map V.int := by
                simp only [List.mem_cons, List.not_mem_nil, or_false] at hv3
                rcases hv3 with rfl | rfl
                · exact hv1
                · exact hv2
              obtain ⟨j, hj, rfl⟩ := List.mem_map.mp hv3'
              have hjo' := hjo j hj
              refine ⟨d6, _, r7, _, rfl, rfl, SqL.of (k7 _ _ (hP6.ne hd6).1 upd_same), hat3, ?_⟩
              have k37 := ((k35.trans k6).trans (Kp.new hd6)).trans k7
              have hL7 := k37 _ _ nl.1 hL23
              have hPr7 := paired_imp (fun _ _ => TwoAt.mono _ _ _ _ (TupK.of k37 hP3)) hPr3
              have hvl := paired_len hPr7
              have hpl := hFl.len (by omega)
              -- found.append((place, j))
              refine ⟨_, rfl, .inl ⟨rfl, _, SqL.of hL7⟩, _, rfl, _, rfl, szL (show 2 ≤ 1000000 by decide), fun t ht => ?_⟩
              have e8 := Ext.new (o := .tup [.int pl, .int j]) ht
              have hL8 := e8 _ _ hL7
              have nlt : l ≠ t := ne_of_none hL7 ht
              refine ⟨l, _, _, rfl, rfl, hL8, szLt (by omega), ?_⟩
              have hL9 : (upd (upd H7 t (.tup [.int pl, .int j])) l (.lst (vs ++ [.ref t]))) l = some (.lst (vs ++ [.ref t])) := upd_same
              have tk9 : TupK H7 (upd (upd H7 t (.tup [.int pl, .int j])) l (.lst (vs ++ [.ref t]))) := (TupK.ext e8).trans (TupK.lst hL8)
              have hP9 := (hP7.ext e8).put (o := .lst (vs ++ [.ref t])) nl.1 nl.2
              have hkl : Kp p H (upd (upd H7 t (.tup [.int pl, .int j])) l (.lst (vs ++ [.ref t]))) := (((k2.trans (Kp.ext k3)).trans k37).trans (Kp.ext e8)).put hl
              -- found.extend(folded(...))
              refine ⟨_, rfl, .inl ⟨rfl, _, SqL.of hL9⟩, _, rfl, _, rfl, _, rfl, _, rfl, pl, 1, rfl, rfl, _, rfl, j, 1, rfl, rfl, p, c, v, r, x, pl + 1, j - 1, _, rfl, RulesAt.mono _ _ _ _ (TupK.of hkl hP) hRu, ok, hx, by omega, by omega, by omega, by omega, hP9, by omega, fun lr vr pr H10 n10 hlr hLr hPr10 hFl10 hMy10 k10 hP10 hn10 => ?_⟩
              have hL10 := k10 _ _ nl.1 hL9
              have hvr := paired_len hPr10
              have hpr10 := hFl10.len (by omega)
              refine ⟨l, lr, _, _, rfl, rfl, hL10, hLr, szL ?_, ?_⟩
              · rw [List.length_append, List.length_singleton]
                omega
              · refine ⟨_, rfl, _, rfl, j, 1, rfl, rfl, j + 1, _, _, (vs ++ [.ref t]) ++ vr, (ps ++ [(pl, j)]) ++ pr, n10, by omega, rfl, by omega, by omega, upd_same, ?_, ?_, fun y hy => ?_, ?_, hP10.put nl.1 nl.2, by omega⟩
                · have tkl : TupK H10 (upd H10 l (.lst ((vs ++ [.ref t]) ++ vr))) := TupK.lst hL10
                  have tk710 := (tk9.trans (TupK.of k10 hP9)).trans tkl
                  refine paired_app ((paired_imp (fun _ _ => TwoAt.mono _ _ _ _ tk710) hPr7).snoc ⟨t, rfl, ?_⟩) (paired_imp (fun _ _ => TwoAt.mono _ _ _ _ tkl) hPr10)
                  refine tkl _ _ (TupK.of k10 hP9 _ _ ?_)
                  rw [upd_ne nlt.symm, upd_same]
                · rw [List.append_assoc]
                  exact hFl.app (by omega) pl0 hjo'.1 (by omega) hFl10
                · rcases List.mem_append.mp hy with hy | hy
                  · rcases List.mem_append.mp hy with hy | hy
                    · exact hMy y hy
                    · rw [List.mem_singleton.mp hy]
                      exact hjo'.2.2
                  · exact hMy10 y hy
                · exact (hkl.trans k10).put hl
            · exact ⟨_, rfl, pl, 1, rfl, rfl, skip H5 _ ((Kp.ext e4).trans k5) hP5 (by omega)⟩
          · exact ⟨_, rfl, pl, 1, rfl, rfl, skip _ n2 (Kp.ext e4) (hP3.ext e4) (by omega)⟩
      · have e : ¬ pl ≤ hi := fun z => e (decide_eq_true z)
        have epl : pl = hi + 1 := by omega
        subst epl
        refine ⟨_, rfl, q l vs ps H2 n2 hl hL2 hPr (hFl.mono (Int.le_refl _) (by omega)) hMy k2 hP2 (by omega)⟩
end
end Pf


namespace Pf
open PySem PySem.Spec PyProof.Rows L2
/-! ### a tuple's items, gathered -/
section
variable {prog : Program} {w : World} {A : Around} {E : Value → Shared → Prop} {s : Shared}
theorem gather_tup {a : Addr} {us : List Value} {Q : List Value → Shared → Prop} (ht : s.heap.IsTuple a us.toArray) (hz : us.length ≤ sizeLine)
    (q : Q us { s with heap := (s.heap.push (seqObj "list" #[] 0)).update s.heap.objs.size (Obj.mapSeq (· ++ us.toArray)) }) : wpAny (model prog w) A (collect (.ref a)) Q E s := by
  obtain ⟨ob, hob, hcl, n, hda⟩ := id ht
  have hob1 : (s.heap.push (seqObj "list" #[] 0)).get? a = some ob := Heap.get?_push_of_some _ hob
  have hnew : (s.heap.push (seqObj "list" #[] 0)).get? s.heap.objs.size = some (seqObj "list" #[] 0) := Heap.get?_push_size _ rfl
  unfold collect
  refine wpAny_bind (wpAny_runValue ?_)
  refine codeAny_builtin entry_proto_collect' ?_
  show wpAny _ _ (do again (.builtin "list.__iadd__" ⟨[← newList [], .ref a], []⟩)) _ _ s
  refine wpAny_bind (wpAny_newList (wpAny_pure ⟨Code.quiet_builtin _ (by decide +kernel), ?_⟩))
  refine codeAny_builtin entry_list_iadd' ?_
  show wpAny _ _ (Builtin.List.listExtendWith (.ref s.heap.objs.size) (.ref a) _) _ _ { s with heap := s.heap.push (seqObj "list" #[] 0) }
  unfold Builtin.List.listExtendWith
  refine wpAny_bind (wpAny_typeOf (T := "tuple") ⟨ob, hob1, hcl⟩ ?_)
  rw [if_pos (by rw [show (Value.type "tuple" == Value.type "tuple") = true from rfl, Bool.or_true])]
  refine wpAny_bind (listItems_at hob1 hda ?_)
  refine wpAny_bind (listItems_at (xs := #[]) (n := 0) hnew rfl ?_)
  rw [if_neg (by simp)]
  have hsz : ((#[] : Array Value) ++ us.toArray).size ≤ sizeLine + 1 := by
    rw [Array.size_append, List.size_toArray]
    show 0 + us.length ≤ _
    omega
  refine wpAny_bind (listUpdate_at (xs := #[]) (n := 0) hnew rfl ?_ (Nat.zero_le _) hsz)
  refine wpAny_pure ?_
  refine wpAny_bind (wpAny_load (get?_update_seq hnew _) ?_)
  have e : ((#[] : Array Value) ++ us.toArray).toList = us := by simp
  show wpAny _ _ (pure ((#[] : Array Value) ++ us.toArray).toList) Q E _
  rw [e]
  exact wpAny_pure q
theorem sorted_tup {β : Type} {R : Value → β → Prop} {enc : β → PyData} {a : Addr} {us : List Value} {bs : List β} {Q : Value → Shared → Prop} (ht : s.heap.IsTuple a us.toArray) (e : PySem.W.EachIs R us bs) (er : PySem.W.EachIs (fun v b => ∃ as, Reads s.heap v (enc b) as) us bs) (al : PySem.W.AllAlike (bs.map enc)) (so : PySem.W.Sortable (bs.map enc))
    (hz : bs.length ≤ sizeLine) (hu : ∀ b, b ∈ bs → A.units + 2 + (enc b).depth < cLine) (q : ∀ out, out.length = bs.length → PySem.W.EachIs R out (bs.mergeSort (PySem.W.dataLe false enc)) → Q (.ref (s.heap.objs.size + 1)) { s with heap := sortedAll s.heap us out.toArray }) :
    wpAny (model prog w) A (call (.builtin "sorted") [.ref a]) Q E s := by
  have hul : us.length ≤ sizeLine := by
    rw [e.length]
    exact hz
  refine Calls.call_function_entry kind_sorted plain_sorted
    entry_sorted (args_sorted1 _) ?_
  unfold Builtin.«sorted»
  refine wpAny_bind (m := checkCount "sorted" 1 1 _) (wpAny_pure ?_)
  refine wpAny_bind (gather_tup ht hul ?_)
  refine wpAny_bind (wpAny_newList ?_ hul)
  have hsz : ((s.heap.push (seqObj "list" #[] 0)).update s.heap.objs.size (Obj.mapSeq (· ++ us.toArray))).objs.size = s.heap.objs.size + 1 := by
    rw [Heap.size_update, size_push']
  have er2 : PySem.W.EachIs (fun v b => ∃ as, Reads (PySem.W.copyHeap s.heap us) v (enc b) as ∧ s.heap.objs.size + 1 ∉ as) us bs := er.mono fun v b ⟨as, r⟩ => by
    refine ⟨as, PyProof.Rows.Reads.keeps (fun _ _ h => PySem.W.copyHeap_old h) r, fun hm => ?_⟩
    obtain ⟨o, ho⟩ := PyProof.On.reads_mem_get r _ hm
    exact absurd (Nat.lt_of_succ_lt (Heap.lt_size ho)) (Nat.lt_irrefl _)
  show wpAny _ _ _ _ _ { s with heap := PySem.W.copyHeap s.heap us }
  rw [hsz]
  refine wpAny_bind (wpAny_holding (PySem.W.list_sort_data (s := { s with heap := PySem.W.copyHeap s.heap us }) (PySem.W.copyHeap_at s.heap us) e er2 al so hz (fun b hb => ?_) fun out h1 h2 => ?_))
  · have := hu b hb
    have e1 : A.in1.units = A.units + 1 := rfl
    rw [e1]
    exact this
  · exact wpAny_pure ⟨_, rfl, q out h1 h2⟩
end
def rSortTD (K : PySem.W.Frag) : List V → Hp → VK → Prop := fun vs H Q => ∃ (β : Type) (v : β → V) (d : β → PyData) (a : Addr) (bs : List β), vs = [.ref a] ∧ SqT K H a (bs.map v) ∧ (∀ b ∈ bs, Dp K H (v b) (d b) ∧ (d b).depth ≤ 50) ∧
  PySem.W.AllAlike (bs.map d) ∧ PySem.W.Sortable (bs.map d) ∧ ∀ p, H p = none → Q (.ref p) (upd H p (.lst ((bs.mergeSort (PySem.W.dataLe false d)).map v)))
/-- sorted(xs), xs a tuple of data -/
theorem cr_sortTD (K : PySem.W.Frag) {X : Cx} (hu : X.A.units + 64 < cLine) (hK : X.K = K := by rfl) : CallR X (.builtin "sorted") (rSortTD K) := by
  subst hK
  intro pins s σ H vs us Q I r h
  obtain ⟨β, v, d, a, bs, rfl, hs, hd, al, so, q⟩ := h
  obtain ⟨u, rfl, rfl⟩ := vals1 r
  obtain ⟨its, rv, ht, hz⟩ := I.tuple hs
  rw [List.length_map] at hz
  refine sorted_tup (enc := d) (R := fun (u : Value) (b : β) => RelV (v b) u) (show s.heap.IsTuple a its.toArray from ht) (each_vals rv) (each_reads I rv fun b hb => (hd b hb).1) al so hz (fun b hb => by have := (hd b hb).2; omega) fun out hlen he => ?_
  obtain ⟨ep, he'⟩ := PyProof.Rows.sortedAll_at s.heap its out.toArray
  have hlen2 : ((bs.mergeSort (PySem.W.dataLe false d)).map v).length ≤ sizeLine := by
    rw [List.length_map, List.length_mergeSort]
    exact hz
  exact ⟨.ref _, upd H (s.heap.objs.size + 1) (.lst ((bs.mergeSort (PySem.W.dataLe false d)).map v)), I.laid (t' := s.toks) (fun _ _ => PyProof.Rows.sortedAll_old) (Nat.le_succ _) ⟨hlen2, out, ep, vals_each he, by simpa using he'⟩, rfl, q _ (I.hok.fresh (Nat.le_succ _))⟩
def rSortLT (K : PySem.W.Frag) : List V → Hp → VK → Prop := fun vs H Q => rSortD K vs H Q ∨ rSortTD K vs H Q
/-- sorted(xs), xs a list or a tuple of data -/
theorem cr_sortLT (K : PySem.W.Frag) {X : Cx} (hu : X.A.units + 64 < cLine) (hK : X.K = K := by rfl) : CallR X (.builtin "sorted") (rSortLT K) := fun pins s σ H vs us Q I r h => h.elim (cr_sortD K hu hK pins s σ H vs us Q I r) (cr_sortTD K hu hK pins s σ H vs us Q I r)
/-! ### going through a list or a tuple -/
def iSeq (K : PySem.W.Frag) (tl : TE) : TI := fun σ H R => tl σ H fun x H1 => ∃ a, x = .ref a ∧ (((∃ xs, SqL K H1 a xs) ∧ R (Itl K a) H1) ∨ ((∃ xs, SqT K H1 a xs) ∧ R (Itt K a) H1))
theorem pi_seq {X : Cx} {tg l : Expr} {tl : TE} (K : PySem.W.Frag) (hl : PE X l tl) (hK : X.K = K := by rfl) : PI X tg l (iSeq K tl) := by
  subst hK
  refine ⟨fun pins s σ H R I h => ?_⟩
  have h1 := hl.run pins s σ H _ I h
  refine thn h1 fun v s1 ⟨x, H1, I1, r1, q1⟩ => ?_
  obtain ⟨a, rfl, ⟨hq, q⟩ | ⟨hq, q⟩⟩ := q1
  · obtain ⟨xs, hq⟩ := hq
    cases r1
    obtain ⟨its, rv, hp, hz⟩ := I1.list hq
    refine wpAny_pyIter_list hp.isList ?_
    have kk := I1.kept (h' := s1.heap.push { cls := .type "list_iterator", data := .fields #[.ref a, .int 0 0] }) (t' := s1.toks) fun b o e => Heap.get?_push_of_some _ e
    exact ⟨s1.heap.objs.size, [s1.heap.objs.size], _, _, H1, rfl, kk, turn_list a _, ⟨_, Heap.get?_push_size _ rfl, rfl, rfl⟩, fun b hb => by
      rw [show b = s1.heap.objs.size by simpa using hb]
      exact I1.fpOk (Nat.le_refl s1.heap.objs.size) (I1.hok.fresh (Nat.le_refl _)), q⟩
  · obtain ⟨xs, hq⟩ := hq
    cases r1
    obtain ⟨its, rv, hp, hz⟩ := I1.tuple hq
    refine wpAny_pyIter_tuple (show s1.heap.IsTuple a its.toArray from hp) ?_
    exact ⟨s1.heap.objs.size, [s1.heap.objs.size], _, _, H1, rfl, I1.kept (t' := s1.toks) (fun b o e => Heap.get?_push_of_some _ e), turn_tuple a _, ⟨_, Heap.get?_push_size _ rfl, rfl, rfl⟩, fun b hb => by
      rw [show b = s1.heap.objs.size by simpa using hb]
      exact I1.fpOk (Nat.le_refl s1.heap.objs.size) (I1.hok.fresh (Nat.le_refl _)), q⟩
/-- a list (true) or a tuple -/
def bo (b : Bool) (us : List V) : HO := match b with
  | true => .lst us
  | false => .tup us
def Sq2 (K : PySem.W.Frag) (H : Hp) (a : Addr) (xs : List V) (b : Bool) : Prop := match b with
  | true => SqL K H a xs
  | false => SqT K H a xs
theorem Sq2.of {K : PySem.W.Frag} {H : Hp} {a : Addr} {xs : List V} {b : Bool} (h : H a = some (bo b xs)) : Sq2 K H a xs b := by
  cases b with
  | true => exact SqL.of h
  | false => exact SqT.of h
theorem for_seq {K : PySem.W.Frag} {a : Addr} {xs : List V} {b : Bool} {g : TG} {tb : TS} {D : Ends} {σ : L2.St} {H : Hp} (e : Sq2 K H a xs b) (Pv : Nat → L2.St → Hp → Prop) (h0 : Pv 0 σ H) (hl : ∀ i σ H, i ≤ xs.length → Pv i σ H → Sq2 K H a xs b)
    (hs : ∀ i x σ H, xs[i]? = some x → Pv i σ H → g x σ H fun σ2 H2 => tb { D with nx := Pv (i + 1), ct := Pv (i + 1), bk := D.nx } σ2 H2) (hd : ∀ σ H, Pv xs.length σ H → D.nx σ H) :
    ((∃ xs, SqL K H a xs) ∧ ∃ W : Nat → Nat → L2.St → Hp → Prop, (∃ m, W 0 m σ H) ∧ ∀ i m σ H, W i m σ H →
      ((Itl K a).stop i H ∧ D.nx σ H) ∨ ((Itl K a).go i H ∧ ∃ N : L2.St → Hp → Prop, (∀ σ' H', N σ' H' → ∃ m', m' < m ∧ W (i + 1) m' σ' H') ∧ ∀ x H', (Itl K a).yld i H x H' → g x σ H' fun σ2 H2 => tb { D with nx := N, ct := N, bk := D.nx } σ2 H2)) ∨
    ((∃ xs, SqT K H a xs) ∧ ∃ W : Nat → Nat → L2.St → Hp → Prop, (∃ m, W 0 m σ H) ∧ ∀ i m σ H, W i m σ H →
      ((Itt K a).stop i H ∧ D.nx σ H) ∨ ((Itt K a).go i H ∧ ∃ N : L2.St → Hp → Prop, (∀ σ' H', N σ' H' → ∃ m', m' < m ∧ W (i + 1) m' σ' H') ∧ ∀ x H', (Itt K a).yld i H x H' → g x σ H' fun σ2 H2 => tb { D with nx := N, ct := N, bk := D.nx } σ2 H2)) := by
  cases b with
  | true => exact .inl ⟨⟨xs, e⟩, for_list Pv h0 hl hs hd⟩
  | false => exact .inr ⟨⟨xs, e⟩, for_tup Pv h0 hl hs hd⟩
theorem sort_lt {K : PySem.W.Frag} {β : Type} {v : β → V} {d : β → PyData} {a : Addr} {bs : List β} {b : Bool} {H : Hp} {Q : VK} (h : Sq2 K H a (bs.map v) b) (hd : ∀ y ∈ bs, Dp K H (v y) (d y) ∧ (d y).depth ≤ 50) (al : PySem.W.AllAlike (bs.map d)) (so : PySem.W.Sortable (bs.map d)) (q : ∀ p, H p = none → Q (.ref p) (upd H p (.lst ((bs.mergeSort (PySem.W.dataLe false d)).map v)))) : rSortLT K [.ref a] H Q := by
  cases b with
  | true => exact .inl ⟨β, v, d, a, bs, rfl, h, hd, al, so, q⟩
  | false => exact .inr ⟨β, v, d, a, bs, rfl, h, hd, al, so, q⟩
/-! ### set(xs), xs a tuple of tuples of ints -/
section
variable {P : Program} {w : World} {A : Around} {E : Value → Shared → Prop} {s : Shared}
abbrev newS (w : World) : Obj := { cls := .type "set", dict := none, data := .set #[] 0 (.fresh 0 0 (!w.params.followText "set-order")) }
theorem set_of_tup {a : Addr} {items : Array Value} (ks : List (Addr × List Int)) {Q : Value → Shared → Prop} (hh : A.handled = none) (ht : s.heap.IsTuple a items) (hit : items.toList = ks.map fun p => Value.ref p.1)
    (hk : ∀ p ∈ ks, IsT P w s.heap p.2 p.1) (hfew : ks.length < 64) (hu : A.units + 3 < cLine)
    (q : ∀ (h' : Heap) (tk : Nat) L es ep t, SetTR P w h' s.heap.objs.size L es ep t → Got ks ks.length L → (∀ b o, s.heap.get? b = some o → h'.get? b = some o) → Q (.ref s.heap.objs.size) { s with heap := h', toks := tk }) :
    wpAny (model P w) A (call (.type "set") [.ref a]) Q E s := by
  have hsz : items.size = ks.length := by
    have z := congrArg List.length hit
    rwa [Array.length_toList, List.length_map] at z
  obtain ⟨c, tl, hmro⟩ := F.called_set.mro
  have hmade := F.called_set.made
  have hsub := F.called_set.sub
  have h1 := F.called_set.notType
  have h2 := F.called_set.canCreate
  have hct := F.typeCall_set_1 (.ref a)
  refine wpAny_call (codeAny_of_tree ?_)
  show wpAny _ _ (callAny (.type "set") _) _ _ _
  refine wpAny_pure ⟨Code.quiet_builtin _ (by decide +kernel), ?_⟩
  refine codeAny_builtin F.entry_type_call ?_
  rw [Around.under_plain (weight_type_call_type "set" [.ref a] []) rfl]
  repeat (any_goals (first
    | assumption
    | wp_step))
  refine codeAny_mono (code_set_led1 (.ref a) (E := E) (Q₁ := fun obj s₁ => obj = .ref s.heap.objs.size ∧ s₁ = { s with heap := s.heap.push (newS w) }) ⟨rfl, rfl⟩) fun r s₁ hr => ?_
  cases r with
  | error e => exact hr
  | ok fl =>
    cases fl with
    | ret obj =>
      obtain ⟨rfl, rfl⟩ := hr
      have hS : (s.heap.push (newS w)).get? s.heap.objs.size = some (newS w) := Heap.get?_push_size _ rfl
      have hT : Shared.TypeIs { s with heap := s.heap.push (newS w) } (.ref s.heap.objs.size) "set" := ⟨_, hS, rfl⟩
      have hli := F.called_set.init.lookup
      have hbi := F.called_set.init.bind (.ref s.heap.objs.size)
      repeat (any_goals (first
        | assumption
        | wp_step))
      refine codeAny_mono (codeAny_call_builtin (R := wants (fun r s₂ => r = .none ∧ ∃ h' tk L es ep t, s₂ = { s with heap := h', toks := tk } ∧ SetTR P w h' s.heap.objs.size L es ep t ∧ Got ks ks.length L ∧ (∀ b o, s.heap.get? b = some o → h'.get? b = some o)) E)
        F.called_set.init.plain F.entry_set_init (check_set_init_1 hT ?_)) fun r₂ s₂ hr₂ => ?_
      · have ht1 : (s.heap.push (newS w)).IsTuple a items := ht.push _
        obtain ⟨ob, hob, hcl, nl, hda⟩ := id ht1
        obtain ⟨ocls, odict, odata, oslots⟩ := ob
        simp only at hcl hda
        subst hcl; subst hda
        have hsls := PySem.F.sub_tuple_set
        have hslf := PySem.F.sub_tuple_frozenset
        have hne : (Value.type "tuple" == Value.type "dict") = false := by decide
        unfold Builtin.«set.__init__» noKeywords Builtin.Frozenset.updateFrom
        generalize hPI : pyIter = PI
        wp_walk
        subst hPI
        refine wpAny_pyIter_tuple ht1 ?_
        refine wpAny_bind (wpAny_runValue ?_)
        obtain ⟨ob0, hob0, _⟩ := ht
        have hlt : a < s.heap.objs.size := Heap.lt_size hob0
        have hin : A.in1.in1.in1.handled = none := by simp [hh]
        have hz1 : (s.heap.push (newS w)).objs.size = s.heap.objs.size + 1 := Heap.size_push ..
        have hneI : a ≠ (s.heap.push (newS w)).objs.size := by
          rw [hz1]
          exact Nat.ne_of_lt (Nat.lt_succ_of_lt hlt)
        have hSf : s.heap.objs.size ∉ [(s.heap.push (newS w)).objs.size, a] := fun hm => by
          rw [hz1] at hm
          rcases List.mem_cons.mp hm with e | hm
          · exact absurd e (Nat.ne_of_lt (Nat.lt_succ_self _))
          · exact absurd (List.mem_singleton.mp hm) (Nat.ne_of_gt hlt)
        have hval : ∀ (i : Nat) (v : Value), items[i]? = some v → ∃ p, ks[i]? = some p ∧ v = .ref p.1 := fun i v hv => by
          rw [← Array.getElem?_toList, hit, List.getElem?_map] at hv
          obtain ⟨p, hp, e⟩ := Option.map_eq_some_iff.mp hv
          exact ⟨p, hp, e.symm⟩
        have gone : ∀ b, s.heap.objs.size ≤ b → s.heap.get? b = none := fun b hb => by
          cases z : s.heap.get? b with
          | none => rfl
          | some o => exact absurd (Nat.lt_of_lt_of_le (Heap.lt_size z) hb) (Nat.lt_irrefl _)
        have hgone : ∀ b ∈ [(s.heap.push (newS w)).objs.size], s.heap.get? b = none := fun b hb => gone b (by
          rw [List.mem_singleton.mp hb, hz1]
          exact Nat.le_succ _)
        refine set_update_tups ((Walks.tuple hin _ a hneI items).toS) s.heap.objs.size hSf ks hsz hfew hval s.heap hk (gone _ (Nat.le_refl _)) hgone hu (items.size - 0) 0 _ (by omega) (Nat.zero_le _)
          ⟨⟨_, Heap.get?_push_size _ rfl, rfl, rfl⟩, ht1.push _⟩ (fun b o e => Heap.get?_push_of_some _ (Heap.get?_push_of_some _ e)) ⟨[], #[], 0, _, setTR_fresh (Heap.get?_push_of_some _ hS), Got.zero ks⟩ fun s' L es ep t hm hS' g' hkp => ?_
        obtain ⟨h', g2, d', tk', os'⟩ := s'
        have eg : g2 = s.gens := hm.gens
        have ed : d' = s.drawn := hm.drawn
        have eo : os' = s.os := hm.os
        subst eg ed eo
        rw [hsz] at g'
        show wpAny _ _ _ _ _ _
        refine wpAny_pure ?_
        show wpAny _ _ (ret Value.none) _ _ _
        exact wpAny_pure ⟨rfl, h', tk', L, es, ep, t, rfl, hS', g', hkp⟩
      · cases r₂ with
        | error e => exact hr₂
        | ok fl₂ =>
          cases fl₂ with
          | ret r =>
            obtain ⟨rfl, h', tk, L, es, ep, t, rfl, hS', g', hk'⟩ := hr₂
            repeat (any_goals (first
              | assumption
              | wp_step))
            exact q _ _ _ _ _ _ hS' g' hk'
          | _ => exact hr₂.elim
    | _ => exact hr.elim
end
def rSetT (K : PySem.W.Frag) (P : Program) (w : World) : List V → Hp → VK → Prop := fun xs H Q => ∃ (l : Addr) (ks : List (Addr × List Int)), xs = [V.ref l] ∧ SqT K H l (ks.map fun p => V.ref p.1) ∧ (∀ p ∈ ks, SqT K H p.1 (p.2.map V.int)) ∧ ks.length < 64 ∧
  ∀ a L, H a = none → (∀ p ∈ L, p ∈ ks) → (∀ p ∈ ks, p.2 ∈ L.map (·.2)) → Q (.ref a) (upd H a (SetTO P w a L))
/-- set(xs), xs a tuple of fewer than 64 tuples of ints -/
theorem cr_setT {X : Cx} (hc : X.calm = true) (hu : X.A.units + 64 < cLine) : CallR X (.type "set") (rSetT X.K X.prog X.w) := by
  intro pins s σ H xs us Q I r h
  obtain ⟨l, ks, rfl, hl, hk, hf, q⟩ := h
  rw [Vals.ref1 r]
  obtain ⟨its, rv, ht, hz⟩ := I.tuple hl
  refine set_of_tup (P := X.prog) (w := X.w) ks (I.ok.hd hc) (show s.heap.IsTuple l its.toArray from ht) (by simpa using refs_of_vals rv) (fun p hp => I.isT (hk p hp)) hf (by omega) fun h' tk L es ep t R g k => ?_
  have hn : H s.heap.objs.size = none := I.hok.fresh (Nat.le_refl _)
  exact ⟨.ref s.heap.objs.size, upd H s.heap.objs.size (SetTO X.prog X.w s.heap.objs.size L), I.laid (t' := tk) k (Nat.le_refl _) (setTO_new R.t0), rfl, q _ L hn (fun p hp => List.mem_of_mem_take (g.sub p hp)) fun p hp => g.all p (by rw [List.take_length]; exact hp)⟩
theorem setT {X : Cx} {P : Program} {w : World} (K : PySem.W.Frag) (hc : X.calm = true) (hu : X.A.units + 64 < cLine) (h1 : X.K = K := by rfl) (h2 : X.prog = P := by rfl) (h3 : X.w = w := by rfl) : CallR X (.type "set") (rSetT K P w) := by
  subst h1 h2 h3
  exact cr_setT hc hu
theorem sortedT {X : Cx} {P : Program} {w : World} (K : PySem.W.Frag) (hc : X.calm = true) (h1 : X.K = K := by rfl) (h2 : X.prog = P := by rfl) (h3 : X.w = w := by rfl) : CallR X (.builtin "sorted") (rSortedT K P w) := by
  subst h1 h2 h3
  exact cr_sortedT hc
end Pf


namespace Pf
open PySem PySem.Spec PyProof.Rows L2
/-! ### enumerate of a text -/
def ItES (x : Str) : It :=
  ⟨fun i _ => i < x.cps.size, fun i H v H' => ∃ T c, v = .ref T ∧ H T = none ∧ H' = upd H T (.tup [.int (i : Nat), .str ⟨#[c]⟩]) ∧ x.cps[i]? = some c, fun i _ => i = x.cps.size⟩
theorem turn_es {P : Program} {w : World} {K : PySem.W.Frag} {elts : List Expr} {kk : Nat} {tpos : Pos} (x : Str) (t : Tok) (e it : Addr) :
    Turn P w K (.Tuple elts kk tpos) (ItES x) [e, it] e (fun i h => (∃ old, IsEnum h e it ((i : Nat) : Int) old) ∧ h.IsStrIter it (strIterType x) x t i ∧ e ≠ it) where
  mem := by simp
  obj := fun i h st b hb => by
    obtain ⟨⟨old, he⟩, ⟨o, ho, hc, hd⟩, _⟩ := st
    have e' : b = e ∨ b = it := by simpa using hb
    cases e' with
    | inl z =>
      rw [z]
      exact ⟨_, he, fun v q => nomatch q⟩
    | inr z =>
      rw [z]
      exact ⟨o, ho, fun v q => by rw [hd] at q; cases q⟩
  keep := fun i h h' st k => by
    obtain ⟨⟨old, he⟩, ⟨o, ho, r⟩, hne⟩ := st
    exact ⟨⟨old, k e (by simp) _ he⟩, ⟨o, k it (by simp) o ho, r⟩, hne⟩
  item := by
    intro X hP hw hK hc i pins s σ H E I hf st hg
    subst hP hw hK
    obtain ⟨⟨old, he⟩, hit, hne⟩ := st
    have hel : e < s.heap.objs.size := Heap.lt_size he
    have hil : it < s.heap.objs.size := by
      obtain ⟨_, q, _⟩ := hit
      exact Heap.lt_size q
    have D := Draws.text (prog := X.prog) (w := X.w) (A := X.A.in1) (show X.A.in1.handled = none from I.ok.hd hc) it x t
    refine wpAny_pyNext_enum_itemD D he hit hg hne (by simpa using hne) fun u h' tk hu ho hit' hT hsz hk => ?_
    obtain ⟨c, t2, hcx, rfl⟩ := hu
    refine ⟨_, rfl, wpAny_letOwnedTupleGo_enum (s := { s with heap := h', toks := tk + 1 }) ho fun h'' he' sb => ?_⟩
    have hT2 := (sb.2 _ (Nat.ne_of_gt hel)).trans hT
    have new : ObjOk X.prog X.w (upd H s.heap.objs.size (.tup [.int (i : Nat), .str ⟨#[c]⟩])) h'' s.heap.objs.size (.tup [.int (i : Nat), .str ⟨#[c]⟩]) :=
      ⟨by show 2 ≤ sizeLine; decide, [.int i tk, .str ⟨#[c]⟩ t2], .cons ⟨_, rfl⟩ (.cons ⟨_, rfl⟩ .nil), ⟨_, hT2, rfl, _, rfl⟩⟩
    have I1 : Inv X pins σ (upd H s.heap.objs.size (.tup [.int (i : Nat), .str ⟨#[c]⟩])) { s with heap := h'', toks := tk + 1 } :=
      I.turnedNew (ch := [e, it]) (fun b ob hb q => (sb.2 b (fun z => hb (by simp [z]))).trans (hk b ob (fun z => hb (by simp [z])) (fun z => hb (by simp [z])) q)) hf (Nat.le_refl _) new
    obtain ⟨oi, hoi, ri⟩ := hit'
    refine ⟨.ref s.heap.objs.size, _, I1, rfl, ⟨_, c, rfl, I.hok.fresh (Nat.le_refl _), rfl, hcx⟩, ⟨⟨.str ⟨#[c]⟩ t2, ?_⟩, ⟨oi, (sb.2 it (Ne.symm hne)).trans hoi, ri⟩, hne⟩, fun b hb => ?_⟩
    · have e1 : ((i + 1 : Nat) : Int) = (i : Int) + 1 := by omega
      rw [e1]
      exact he'
    · have hb' : b < s.heap.objs.size := by
        have e' : b = e ∨ b = it := by simpa using hb
        cases e' with
        | inl z => rw [z]; exact hel
        | inr z => rw [z]; exact hil
      rw [upd_ne (Nat.ne_of_lt hb')]
      exact (hf b hb).1
  done := by
    intro X hP hw hK hc i pins s σ H E I hf st hg
    subst hP hw hK
    obtain ⟨⟨old, he⟩, hit, hne⟩ := st
    have hi : i = x.cps.size := hg
    subst hi
    obtain ⟨f0, f1, f2, f3, f4, f5⟩ := hf it (by simp)
    have D := Draws.text (prog := X.prog) (w := X.w) (A := X.A.in1) (show X.A.in1.handled = none from I.ok.hd hc) it x t
    exact wpAny_pyNext_enum_endD D he hit fun h' eb => ⟨rfl, I.turned (t' := s.toks) (fun b o hb q => eb b o hb q) f0 f1 f3 f4 f5⟩
  self := fun A i s Q E st h => by
    obtain ⟨⟨_, he⟩, _⟩ := st
    exact wpAny_pyIter_enum he h
def iEnumS (ta : TA) : TI := fun σ H R => ta σ H fun vs H1 => ∃ x, vs = [.str x] ∧ R (ItES x) H1
theorem pi_enumS {X : Cx} {e : Expr} {ta : TA} {p pos tpos : Pos} {elts : List Expr} {kk : Nat} (hg : Gl X "enumerate") (hm : X.mg "enumerate" = none) (ha : PA X [e] ta) (hs : starEach [e] X.env = [(false, eval e X.env)] := by rfl) :
    PI X (.Tuple elts kk tpos) (.Call (.Name "enumerate" p) [e] [] pos) (iEnumS ta) := by
  refine ⟨fun pins s σ H R I h => ?_⟩
  refine Call_ (ld_blt I hg hm boot_enumerate (PyProof.Rows.callWith_type1 (thn (ha.run pos pins s σ H _ I h) fun us s1 ⟨vs, H1, I1, r1, q1⟩ => ?_) hs rfl))
  obtain ⟨x, rfl, q⟩ := q1
  obtain ⟨u, rfl, t, rfl⟩ := vals1 r1
  refine call_enumerate_str fun h' he hit hsz hk => wpAny_pyIter_enum he ?_
  refine ⟨s1.heap.objs.size + 1, [s1.heap.objs.size + 1, s1.heap.objs.size], _, _, H1, rfl, I1.kept (t' := s1.toks) hk, turn_es x t (s1.heap.objs.size + 1) s1.heap.objs.size, ⟨⟨.none, he⟩, hit, Nat.succ_ne_self _⟩, fun b hb => ?_, q⟩
  have e' : b = s1.heap.objs.size + 1 ∨ b = s1.heap.objs.size := by simpa using hb
  have hle : s1.heap.objs.size ≤ b := by
    cases e' with
    | inl z => rw [z]; exact Nat.le_add_right _ _
    | inr z => rw [z]; exact Nat.le_refl _
  exact I1.fpOk hle (I1.hok.fresh hle)
theorem for_es {x : Str} {g : TG} {tb : TS} {D : Ends} {σ : L2.St} {H : Hp} (Pv : Nat → L2.St → Hp → Prop) (h0 : Pv 0 σ H)
    (hs : ∀ i c T σ H, x.cps[i]? = some c → Pv i σ H → H T = none → g (.ref T) σ (upd H T (.tup [.int (i : Nat), .str ⟨#[c]⟩])) fun σ2 H2 => tb { D with nx := Pv (i + 1), ct := Pv (i + 1), bk := D.nx } σ2 H2) (hd : ∀ σ H, Pv x.cps.size σ H → D.nx σ H) :
    ∃ W : Nat → Nat → L2.St → Hp → Prop, (∃ m, W 0 m σ H) ∧ ∀ i m σ H, W i m σ H →
      ((ItES x).stop i H ∧ D.nx σ H) ∨ ((ItES x).go i H ∧ ∃ N : L2.St → Hp → Prop, (∀ σ' H', N σ' H' → ∃ m', m' < m ∧ W (i + 1) m' σ' H') ∧ ∀ y H', (ItES x).yld i H y H' → g y σ H' fun σ2 H2 => tb { D with nx := N, ct := N, bk := D.nx } σ2 H2) := by
  refine ⟨fun i m σ H => m = x.cps.size - i ∧ i ≤ x.cps.size ∧ Pv i σ H, ⟨x.cps.size, by simp, Nat.zero_le _, h0⟩, ?_⟩
  rintro i m σ H ⟨rfl, hi, p⟩
  by_cases hlt : i < x.cps.size
  · refine .inr ⟨hlt, Pv (i + 1), fun σ' H' p' => ⟨x.cps.size - (i + 1), by omega, rfl, hlt, p'⟩, fun y H' z => ?_⟩
    obtain ⟨T, c, rfl, hT, rfl, hc⟩ := z
    exact hs i c T σ _ hc p hT
  · have e : i = x.cps.size := by omega
    subst e
    exact .inl ⟨rfl, hd σ H p⟩
theorem lc_es {x : Str} {g : TG} {tt : TT} {te : TE} {vs : List Nat} {σ : L2.St} {H1 : Hp} {D : Addr} {Qd : Hp → Prop} (Pv : Nat → Hp → Prop) (h0 : Pv 0 (upd H1 D (.lst [])))
    (hs : ∀ i c T H, x.cps[i]? = some c → Pv i H → H T = none → g (.ref T) (wipe σ vs) (upd H T (.tup [.int (i : Nat), .str ⟨#[c]⟩])) fun σ2 H2 => wipe σ2 vs = wipe σ vs ∧ tt σ2 H2 fun b H3 =>
      if b = true then te σ2 H3 fun y H4 => ∃ acc, H4 D = some (.lst acc) ∧ acc.length < sizeLine ∧ Pv (i + 1) (upd H4 D (.lst (acc ++ [y]))) else Pv (i + 1) H3) (hd : ∀ H, Pv x.cps.size H → Qd H) :
    ∃ W : Nat → Nat → Hp → Prop, (∃ m, W 0 m (upd H1 D (.lst []))) ∧ ∀ i m H, W i m H →
      ((ItES x).stop i H ∧ Qd H) ∨ ((ItES x).go i H ∧ ∃ Nx : Hp → Prop, (∀ H', Nx H' → ∃ m', m' < m ∧ W (i + 1) m' H') ∧ ∀ y H', (ItES x).yld i H y H' → g y (wipe σ vs) H' fun σ2 H2 => wipe σ2 vs = wipe σ vs ∧ tt σ2 H2 fun b H3 =>
        if b = true then te σ2 H3 fun y H4 => ∃ acc, H4 D = some (.lst acc) ∧ acc.length < sizeLine ∧ Nx (upd H4 D (.lst (acc ++ [y]))) else Nx H3) := by
  refine ⟨fun i m H => m = x.cps.size - i ∧ i ≤ x.cps.size ∧ Pv i H, ⟨x.cps.size, by simp, Nat.zero_le _, h0⟩, ?_⟩
  rintro i m H ⟨rfl, hi, p⟩
  by_cases hlt : i < x.cps.size
  · refine .inr ⟨hlt, Pv (i + 1), fun H' p' => ⟨x.cps.size - (i + 1), by omega, rfl, hlt, p'⟩, fun y H' z => ?_⟩
    obtain ⟨T, c, rfl, hT, rfl, hc⟩ := z
    exact hs i c T _ hc p hT
  · have e : i = x.cps.size := by omega
    subst e
    exact .inl ⟨rfl, hd H p⟩
/-! ### a text backwards: some text, no longer -/
def tRevS (te : TE) : TE := fun σ H Q => te σ H fun x H1 => ∃ z : Str, x = .str z ∧ z.length ≤ sizeLine ∧ ∀ y : Str, y.length ≤ z.length → (∀ c ∈ y.cps.toList, c ∈ z.cps.toList) → Q (.str y) H1
theorem sliceBy_mem (x : Str) (l u : Option (Int × Tok)) (st : Int × Tok) : ∀ c ∈ (Txt.sliceBy x l u st).cps.toList, c ∈ x.cps.toList := by
  intro c hc
  unfold Txt.sliceBy at hc
  split at hc
  · exact hc
  · have hc : c ∈ List.filterMap (x.cps[·]?) _ := hc
    obtain ⟨i, _, hi⟩ := List.mem_filterMap.mp hc
    exact Array.mem_toList_iff.mpr (Array.mem_of_getElem? hi)
theorem pe_revS {X : Cx} {e : Expr} {te : TE} {k : Nat} {p1 p2 p3 pos : Pos} (he : PE X e te) : PE X (.Subscript e (.Slice none none (some (.UnaryOp .USub (.Constant (.int 1) k p1) p2)) p3) pos) (tRevS te) := by
  refine ⟨fun pins s σ H Q I h => ?_⟩
  refine Subscript_ (thn (he.run pins s σ H _ I h) fun v s1 ⟨x, H1, I1, r1, q1⟩ => ?_)
  obtain ⟨z, rfl, hz, q⟩ := q1
  obtain ⟨t, rfl⟩ := r1
  have hst : PO X (some (.UnaryOp .USub (.Constant (.int 1) k p1) p2)) (tPart (tUn (rU fun i => .int (-i)) (tC (.int 1)))) := po_some (pe_un un_neg pe_int)
  refine wpAny_Slice (thn (po_none.run pins s1 σ H1 (fun o H2 => o = none ∧ H2 = H1) I1 ⟨rfl, rfl⟩) fun vl s2 ⟨l, H2, I2, pl, el, e2⟩ => ?_)
  subst el e2
  refine thn (po_none.run pins s2 σ H2 (fun o H3 => o = none ∧ H3 = H2) I2 ⟨rfl, rfl⟩) fun vu s3 ⟨u, H3, I3, pu, eu, e3⟩ => ?_
  subst eu e3
  refine thn (hst.run pins s3 σ H3 (fun o H4 => o = some (-1) ∧ H4 = H3) I3 ⟨1, rfl, -1, rfl, rfl, rfl⟩) fun vs s4 ⟨o, H4, I4, ps, eo, e4⟩ => ?_
  subst eo e4
  cases pl
  cases pu
  cases ps with
  | int i t5 =>
    refine tail_any (ops := [.str z t, .ref s4.heap.objs.size]) (typeIs_str _ _ _) (PySem.F.slot_str_getitem.lookup) ?_ (by with_unfolding_all rfl)
    refine wpAny_getItem_str_slice (l := none) (u := none) (st := some (-1, t5)) ⟨_, Heap.get?_push_size _ rfl, rfl, rfl⟩ rfl ?_
    refine post_val_or_str ⟨Nat.le_trans (Txt.sliceBy_le z none none (-1, t5) (show (-1 : Int) ≠ 0 by decide)) hz, fun t6 tk => ?_⟩
    exact ⟨.str _, H4, (I4.kept (t' := tk) fun b ob q => Heap.get?_push_of_some _ q), ⟨_, rfl⟩, q _ (Txt.sliceBy_le z none none (-1, t5) (show (-1 : Int) ≠ 0 by decide)) (sliceBy_mem z none none (-1, t5))⟩
end Pf


namespace Pf
open PySem PySem.Spec PyProof.Rows L2
/-! ### enumerate of a tuple -/
abbrev EnO (a : Addr) : Obj := { cls := .type "enumerate", data := .fields #[.none, .bool false, .ref a, rawInt 0, .none, .none] }
theorem meets_en1 {u : Value} {ob : Obj} {G : Heap → Prop} (B : Begins u ob G) : Meets (Builtin.«enumerate.__new__» ⟨[.type "enumerate", u], []⟩) (fun _ R s => G s.heap ∧ R (.ok (.ret (.ref (s.heap.push ob).objs.size))) { s with heap := (s.heap.push ob).push (EnO s.heap.objs.size) }) :=
  .of_wp fun prog w A R s z => by
    obtain ⟨hp, g, d, tk, os⟩ := s
    obtain ⟨z1, z⟩ := z
    have hse := sub_enumerate
    have q : ∀ {A' : Around} {E : Value → Shared → Prop} {Q : Value → Shared → Prop}, Q (.ref hp.objs.size) ⟨hp.push ob, g, d, tk, os⟩ → wpAny (model prog w) A' (pyIter u) Q E ⟨hp, g, d, tk, os⟩ := fun r => B.iter prog w _ _ ⟨hp, g, d, tk, os⟩ _ z1 r
    wp_walk using q
    refine wpAny_stack_any fun sk => wpAny_pure ?_
    split
    · rename_i c _ _ _ _ _
      cases ec : (c == Value.type "enumerate")
      · wp_walk using q
        exact ⟨_, rfl, z⟩
      · wp_walk using q
        exact ⟨_, rfl, z⟩
    · wp_walk using q
      exact ⟨_, rfl, z⟩
theorem en1_begins {P : Program} {w : World} {A : Around} {E : Value → Shared → Prop} {s : Shared} {u : Value} {ob : Obj} {G : Heap → Prop} {Q : Value → Shared → Prop} (B : Begins u ob G) (z1 : G s.heap)
    (z : ∀ h', IsEnum h' (s.heap.objs.size + 1) s.heap.objs.size 0 .none → h'.get? s.heap.objs.size = some ob → h'.objs.size = s.heap.objs.size + 2 → (∀ b o, s.heap.get? b = some o → h'.get? b = some o) → Q (.ref (s.heap.objs.size + 1)) { s with heap := h' }) :
    wpAny (model P w) A (call (.type "enumerate") [u]) Q E s := by
  refine callType_new F.called_enumerate (by decide) (F.typeCall_enumerate_1 _) (F.newCall_enumerate_1 _) (fun obj => F.args_object_init_2 obj _) F.entry_enumerate_new (meets_en1 B) ⟨z1, ?_⟩
  have e1 : (s.heap.push ob).objs.size = s.heap.objs.size + 1 := Heap.size_push ..
  show _ ∧ _
  rw [e1]
  have hen : IsEnum ((s.heap.push ob).push (EnO s.heap.objs.size)) (s.heap.objs.size + 1) s.heap.objs.size 0 .none := by
    have := Heap.get?_push_size (s.heap.push ob) (o := EnO s.heap.objs.size) rfl
    rw [e1] at this
    exact this
  exact ⟨⟨_, hen, rfl⟩, z _ hen (Heap.get?_push_of_some _ (Heap.get?_push_size _ B.free)) (by rw [Heap.size_push, e1]) fun b o y => Heap.get?_push_of_some _ (Heap.get?_push_of_some _ y)⟩
def ItET (K : PySem.W.Frag) (a : Addr) : It :=
  ⟨fun i H => ∃ (xs : List V) (x : V), SqT K H a xs ∧ xs[i]? = some x, fun i H v H' => ∃ T x, v = .ref T ∧ H T = none ∧ H' = upd H T (.tup [.int (i : Nat), x]) ∧ ∀ xs, SqT K H a xs → xs[i]? = some x, fun i H => ∃ xs : List V, SqT K H a xs ∧ xs.length = i⟩
theorem turn_et {P : Program} {w : World} {K : PySem.W.Frag} {elts : List Expr} {kk : Nat} {tpos : Pos} (a e it : Addr) :
    Turn P w K (.Tuple elts kk tpos) (ItET K a) [e, it] e (fun i h => (∃ old, IsEnum h e it ((i : Nat) : Int) old) ∧ h.IsTupleIter it a i ∧ e ≠ it ∧ e ≠ a ∧ a ≠ it) where
  mem := by simp
  obj := fun i h st b hb => by
    obtain ⟨⟨old, he⟩, ⟨o, ho, hc, hd⟩, _⟩ := st
    have e' : b = e ∨ b = it := by simpa using hb
    cases e' with
    | inl z =>
      rw [z]
      exact ⟨_, he, fun v q => nomatch q⟩
    | inr z =>
      rw [z]
      exact ⟨o, ho, fun v q => by rw [hd] at q; cases q⟩
  keep := fun i h h' st k => by
    obtain ⟨⟨old, he⟩, ⟨o, ho, r⟩, hne⟩ := st
    exact ⟨⟨old, k e (by simp) _ he⟩, ⟨o, k it (by simp) o ho, r⟩, hne⟩
  item := by
    intro X hP hw hK hc i pins s σ H E I hf st hg
    subst hP hw hK
    obtain ⟨⟨old, he⟩, hit, hne, hea, hai⟩ := st
    obtain ⟨xs, x, hq, hx⟩ := hg
    obtain ⟨its, rv, pt, hz⟩ := I.tuple hq
    obtain ⟨u, hu, ru⟩ := rv.get hx
    have hel : e < s.heap.objs.size := Heap.lt_size he
    have hil : it < s.heap.objs.size := by
      obtain ⟨_, q, _⟩ := hit
      exact Heap.lt_size q
    have hti : s.heap.IsTuple a its.toArray := pt
    have D := Draws.tuple (prog := X.prog) (w := X.w) (A := X.A.in1) (show X.A.in1.handled = none from I.ok.hd hc) it a hai its.toArray
    refine wpAny_pyNext_enum_itemD D he ⟨hit, hti⟩ (by have := (List.getElem?_eq_some_iff.mp hu).1; simpa using this) hne (by simp [hne, hea]) fun y h' tk hy ho hit' hT hsz hk => ?_
    have ey : y = u := by
      have h2 : its[i]? = some y := by simpa using hy
      rw [hu] at h2
      exact (Option.some.inj h2).symm
    subst ey
    refine ⟨_, rfl, wpAny_letOwnedTupleGo_enum (s := { s with heap := h', toks := tk + 1 }) ho fun h'' he' sb => ?_⟩
    have hT2 := (sb.2 _ (Nat.ne_of_gt hel)).trans hT
    have new : ObjOk X.prog X.w (upd H s.heap.objs.size (.tup [.int (i : Nat), x])) h'' s.heap.objs.size (.tup [.int (i : Nat), x]) :=
      ⟨by show 2 ≤ sizeLine; decide, [.int i tk, y], .cons ⟨_, rfl⟩ (.cons ru .nil), ⟨_, hT2, rfl, _, rfl⟩⟩
    have I1 : Inv X pins σ (upd H s.heap.objs.size (.tup [.int (i : Nat), x])) { s with heap := h'', toks := tk + 1 } :=
      I.turnedNew (ch := [e, it]) (fun b ob hb q => (sb.2 b (fun z => hb (by simp [z]))).trans (hk b ob (fun z => hb (by simp [z])) (fun z => hb (by simp [z])) q)) hf (Nat.le_refl _) new
    obtain ⟨oi, hoi, ri⟩ := hit'.1
    refine ⟨.ref s.heap.objs.size, _, I1, rfl, ⟨_, x, rfl, I.hok.fresh (Nat.le_refl _), rfl, fun ys hy => by rw [I.tuple_inj hy hq]; exact hx⟩, ⟨⟨y, ?_⟩, ⟨oi, (sb.2 it (Ne.symm hne)).trans hoi, ri⟩, hne, hea, hai⟩, fun b hb => ?_⟩
    · have e1 : ((i + 1 : Nat) : Int) = (i : Int) + 1 := by omega
      rw [e1]
      exact he'
    · have hb' : b < s.heap.objs.size := by
        have e' : b = e ∨ b = it := by simpa using hb
        cases e' with
        | inl z => rw [z]; exact hel
        | inr z => rw [z]; exact hil
      rw [upd_ne (Nat.ne_of_lt hb')]
      exact (hf b hb).1
  done := by
    intro X hP hw hK hc i pins s σ H E I hf st hg
    subst hP hw hK
    obtain ⟨⟨old, he⟩, hit, hne, hea, hai⟩ := st
    obtain ⟨xs, hq, hx⟩ := hg
    obtain ⟨its, rv, pt, hz⟩ := I.tuple hq
    have hln := rv.length
    obtain ⟨f0, f1, f2, f3, f4, f5⟩ := hf it (by simp)
    have hti : s.heap.IsTuple a its.toArray := pt
    have D := Draws.tuple (prog := X.prog) (w := X.w) (A := X.A.in1) (show X.A.in1.handled = none from I.ok.hd hc) it a hai its.toArray
    have ei : its.toArray.size = i := by
      rw [List.size_toArray]
      omega
    exact wpAny_pyNext_enum_endD D he ⟨by rw [ei]; exact hit, hti⟩ fun h' eb => ⟨rfl, I.turned (t' := s.toks) (fun b o hb q => eb b o hb q) f0 f1 f3 f4 f5⟩
  self := fun A i s Q E st h => by
    obtain ⟨⟨_, he⟩, _⟩ := st
    exact wpAny_pyIter_enum he h
def iEnumT (K : PySem.W.Frag) (ta : TA) : TI := fun σ H R => ta σ H fun vs H1 => ∃ a xs, vs = [.ref a] ∧ SqT K H1 a xs ∧ R (ItET K a) H1
theorem pi_enumT {X : Cx} {e : Expr} {ta : TA} {p pos tpos : Pos} {elts : List Expr} {kk : Nat} (hg : Gl X "enumerate") (hm : X.mg "enumerate" = none) (ha : PA X [e] ta) (hs : starEach [e] X.env = [(false, eval e X.env)] := by rfl) :
    PI X (.Tuple elts kk tpos) (.Call (.Name "enumerate" p) [e] [] pos) (iEnumT X.K ta) := by
  refine ⟨fun pins s σ H R I h => ?_⟩
  refine Call_ (ld_blt I hg hm boot_enumerate (PyProof.Rows.callWith_type1 (thn (ha.run pos pins s σ H _ I h) fun us s1 ⟨vs, H1, I1, r1, q1⟩ => ?_) hs rfl))
  obtain ⟨a, xs, rfl, hq, q⟩ := q1
  obtain ⟨u, rfl, er⟩ := vals1 r1
  cases er
  obtain ⟨its, rv, pt, hz⟩ := I1.tuple hq
  have hti : s1.heap.IsTuple a its.toArray := pt
  have hal : a < s1.heap.objs.size := by
    obtain ⟨_, q, _⟩ := hti
    exact Heap.lt_size q
  refine en1_begins (begins_tuple a its.toArray) hti fun h' he hit hsz hk => wpAny_pyIter_enum he ?_
  refine ⟨s1.heap.objs.size + 1, [s1.heap.objs.size + 1, s1.heap.objs.size], _, _, H1, rfl, I1.kept (t' := s1.toks) hk, turn_et a (s1.heap.objs.size + 1) s1.heap.objs.size, ⟨⟨.none, he⟩, ⟨_, hit, rfl, rfl⟩, Nat.succ_ne_self _, Nat.ne_of_gt (Nat.lt_succ_of_lt hal), Nat.ne_of_lt hal⟩, fun b hb => ?_, q⟩
  have e' : b = s1.heap.objs.size + 1 ∨ b = s1.heap.objs.size := by simpa using hb
  have hle : s1.heap.objs.size ≤ b := by
    cases e' with
    | inl z => rw [z]; exact Nat.le_add_right _ _
    | inr z => rw [z]; exact Nat.le_refl _
  exact I1.fpOk hle (I1.hok.fresh hle)
theorem walk_et {K : PySem.W.Frag} {a : Addr} {xs : List V} : Walk (ItET K a) xs.length (fun H => SqT K H a xs) (YPair (fun i => some (.int (i : Nat))) (fun i => xs[i]?)) :=
  ⟨fun i H hi q => ⟨xs, _, q, List.getElem?_eq_getElem hi⟩, fun H q => ⟨xs, q, rfl⟩, fun i H x H' hi q ⟨T, y, e1, e2, e3, e4⟩ => ⟨T, _, y, e1, e2, e3, rfl, e4 xs q⟩⟩
theorem walk_zt {K : PySem.W.Frag} {a b : Addr} {xs ys : List V} {n : Nat} (hn : n = min xs.length ys.length) : Walk (RZ.ItzT K a b) n (fun H => SqT K H a xs ∧ SqT K H b ys) (YPair (fun i => xs[i]?) (fun i => ys[i]?)) := by
  subst hn
  refine ⟨fun i H hi q => ⟨xs, ys, _, _, q.1, q.2, List.getElem?_eq_getElem (by omega), List.getElem?_eq_getElem (by omega)⟩, fun H q => ⟨xs, ys, q.1, q.2, by omega⟩, fun i H x H' hi q ⟨T, y, z, e1, e2, e3, e4, e5⟩ => ⟨T, y, z, e1, e2, e3, e4 xs q.1, e5 ys q.2⟩⟩
/-! ### two fors in a comprehension -/
def LcIn (J1 : It) (g1 : TG) (tt1 : TT) (te : TE) (vs1 : List Nat) (σ2 : L2.St) (D : Addr) (H4 : Hp) (Nx : Hp → Prop) : Prop := ∃ W1 : Nat → Nat → Hp → Prop, (∃ m, W1 0 m H4) ∧ ∀ j k H, W1 j k H →
  (J1.stop j H ∧ Nx H) ∨ (J1.go j H ∧ ∃ Nx1 : Hp → Prop, (∀ H', Nx1 H' → ∃ k', k' < k ∧ W1 (j + 1) k' H') ∧ ∀ x H', J1.yld j H x H' → g1 x (wipe σ2 vs1) H' fun σ3 H5 => wipe σ3 vs1 = wipe σ2 vs1 ∧ tt1 σ3 H5 fun b H6 => if b = true then te σ3 H6 fun y H7 => ∃ acc, H7 D = some (.lst acc) ∧ acc.length < sizeLine ∧ Nx1 (upd H7 D (.lst (acc ++ [y]))) else Nx1 H6)
theorem lc_in {J1 : It} {n : Nat} {G : Hp → Prop} {Y : Nat → Hp → V → Hp → Prop} (w : Walk J1 n G Y) {g1 : TG} {tt1 : TT} {te : TE} {vs1 : List Nat} {σ2 : L2.St} {D : Addr} {H4 : Hp} {Nx : Hp → Prop} (Pv : Nat → Hp → Prop) (h0 : Pv 0 H4) (hG : ∀ i H, i ≤ n → Pv i H → G H)
    (hs : ∀ i x H H', i < n → Pv i H → Y i H x H' → g1 x (wipe σ2 vs1) H' fun σ3 H5 => wipe σ3 vs1 = wipe σ2 vs1 ∧ tt1 σ3 H5 fun b H6 => if b = true then te σ3 H6 fun y H7 => ∃ acc, H7 D = some (.lst acc) ∧ acc.length < sizeLine ∧ Pv (i + 1) (upd H7 D (.lst (acc ++ [y]))) else Pv (i + 1) H6)
    (hd : ∀ H, Pv n H → Nx H) : LcIn J1 g1 tt1 te vs1 σ2 D H4 Nx := by
  refine ⟨fun i m H => m = n - i ∧ i ≤ n ∧ Pv i H, ⟨n, rfl, Nat.zero_le _, h0⟩, ?_⟩
  rintro i m H ⟨rfl, hi, pv⟩
  have hq := hG i H hi pv
  by_cases hlt : i < n
  · exact .inr ⟨w.goes i H hlt hq, Pv (i + 1), fun H' p' => ⟨n - (i + 1), by omega, rfl, hlt, p'⟩, fun x H' y => hs i x H H' hlt pv (w.yields i H x H' hlt hq y)⟩
  · obtain rfl : i = n := by omega
    exact .inl ⟨w.stops H hq, hd H pv⟩
theorem lc_two {J : It} {n : Nat} {G : Hp → Prop} {Y : Nat → Hp → V → Hp → Prop} (w : Walk J n G Y) {g : TG} {tt : TT} {wi1 : TI} {g1 : TG} {tt1 : TT} {te : TE} {vs vs1 : List Nat} {σ : L2.St} {H1 : Hp} {D : Addr} {Qd : Hp → Prop} (Pv : Nat → Hp → Prop) (h0 : Pv 0 (upd H1 D (.lst []))) (hG : ∀ i H, i ≤ n → Pv i H → G H)
    (hs : ∀ i x H H', i < n → Pv i H → Y i H x H' → g x (wipe σ vs) H' fun σ2 H2 => wipe σ2 vs = wipe σ vs ∧ tt σ2 H2 fun b H3 => if b = true then wi1 σ2 H3 fun J1 H4 => LcIn J1 g1 tt1 te vs1 σ2 D H4 (Pv (i + 1)) else Pv (i + 1) H3)
    (hd : ∀ H, Pv n H → Qd H) :
    ∃ W : Nat → Nat → Hp → Prop, (∃ m, W 0 m (upd H1 D (.lst []))) ∧ ∀ i m H, W i m H → (J.stop i H ∧ Qd H) ∨ (J.go i H ∧ ∃ Nx : Hp → Prop, (∀ H', Nx H' → ∃ m', m' < m ∧ W (i + 1) m' H') ∧ ∀ x H', J.yld i H x H' → g x (wipe σ vs) H' fun σ2 H2 => wipe σ2 vs = wipe σ vs ∧ tt σ2 H2 fun b H3 =>
      if b = true then wi1 σ2 H3 fun J1 H4 => LcIn J1 g1 tt1 te vs1 σ2 D H4 Nx else Nx H3) := by
  refine ⟨fun i m H => m = n - i ∧ i ≤ n ∧ Pv i H, ⟨n, rfl, Nat.zero_le _, h0⟩, ?_⟩
  rintro i m H ⟨rfl, hi, pv⟩
  have hq := hG i H hi pv
  by_cases hlt : i < n
  · exact .inr ⟨w.goes i H hlt hq, Pv (i + 1), fun H' p' => ⟨n - (i + 1), by omega, rfl, hlt, p'⟩, fun x H' y => hs i x H H' hlt pv (w.yields i H x H' hlt hq y)⟩
  · obtain rfl : i = n := by omega
    exact .inl ⟨w.stops H hq, hd H pv⟩
/-! ### tuples of numbers compared; truths by identity -/
theorem ltT (K : PySem.W.Frag) {X : Cx} (hu : X.A.units < cLine) (h : X.K = K := by rfl) : OpR X (compareOp .Lt) (rLtT K) := h ▸ op_ltT hu
theorem lex2 (a b c d : Int) : HT.lexLt [a, b] [c, d] = decide (a < c ∨ (a = c ∧ b < d)) := by
  rw [HT.lexLt_cons, HT.lexLt_cons, HT.lexLt_nil_nil]
  by_cases e : a = c
  · rw [if_pos e]
    by_cases e2 : b = d
    · rw [if_pos e2]
      exact (decide_eq_false (by omega)).symm
    · rw [if_neg e2]
      exact decide_eq_decide.mpr (by omega)
  · rw [if_neg e]
    exact decide_eq_decide.mpr (by omega)
/-! ### parts of tuples -/
theorem piT (K : PySem.W.Frag) {X : Cx} {tg l : Expr} {tl : TE} (hl : PE X l tl) (h : X.K = K := by rfl) : PI X tg l (iTup K tl) := by
  subst h
  exact pi_tup hl
theorem piL (K : PySem.W.Frag) {X : Cx} {tg l : Expr} {tl : TE} (hl : PE X l tl) (h : X.K = K := by rfl) : PI X tg l (iList K tl) := by
  subst h
  exact pi_list hl
/-- a part of a tuple: the same one, or another -/
def rSlE (K : PySem.W.Frag) : V → Option Int → Option Int → Hp → VK → Prop := fun x lo hi H Q => ∃ a xs, x = .ref a ∧ H a = some (.tup xs) ∧ ∀ p H', Ext H H' → H' p = some (.tup (cutV xs lo hi)) → Q (.ref p) H'
theorem slE (K : PySem.W.Frag) {X : Cx} (h : X.K = K := by rfl) : SlR X (rSlE K) := fun pins s σ H x v vl vu lo hi sl Q I rx hs pl pu ⟨a, xs, ex, ha, q⟩ => by
  refine slA K h pins s σ H x v vl vu lo hi sl Q I rx hs pl pu ⟨a, xs, ex, SqT.of ha, fun z => ?_, fun _ p hp => q p _ (Ext.new hp) upd_same⟩
  refine q a H Ext.refl ?_
  have e : cutV xs lo hi = xs := by
    unfold cutV
    rw [z.1, z.2, List.drop_zero, Nat.sub_zero, List.take_length]
  rw [e]
  exact ha
theorem cut_from {xs : List V} {k : Nat} : cutV xs (some (k : Int)) none = xs.drop k := by
  unfold cutV
  have e1 : HT.sIx xs.length 0 (some (k : Int)) = min k xs.length := HT.sIx_nat _ _ _
  have e2 : HT.sIx xs.length xs.length none = xs.length := rfl
  rw [e1, e2, List.take_of_length_le (by rw [List.length_drop]; omega)]
  by_cases h : k ≤ xs.length
  · rw [Nat.min_eq_left h]
  · rw [Nat.min_eq_right (by omega), List.drop_length, List.drop_eq_nil_of_le (by omega)]
theorem cut_to {xs : List V} {k : Nat} : cutV xs none (some (k : Int)) = xs.take k := by
  unfold cutV
  have e1 : HT.sIx xs.length 0 none = 0 := rfl
  have e2 : HT.sIx xs.length xs.length (some (k : Int)) = min k xs.length := HT.sIx_nat _ _ _
  rw [e1, e2, List.drop_zero, Nat.sub_zero]
  by_cases h : k ≤ xs.length
  · rw [Nat.min_eq_left h]
  · rw [Nat.min_eq_right (by omega), List.take_length, List.take_of_length_le (by omega)]
theorem paired_take {α β : Type} {R : α → β → Prop} : ∀ {xs : List α} {ys : List β} (k : Nat), Paired R xs ys → Paired R (xs.take k) (ys.take k)
  | _, _, 0, _ => by rw [List.take_zero, List.take_zero]; exact .nil
  | _, _, k + 1, .nil => by rw [List.take_nil, List.take_nil]; exact .nil
  | _, _, k + 1, .cons r t => by rw [List.take_succ_cons, List.take_succ_cons]; exact .cons r (paired_take k t)
theorem paired_drop {α β : Type} {R : α → β → Prop} : ∀ {xs : List α} {ys : List β} (k : Nat), Paired R xs ys → Paired R (xs.drop k) (ys.drop k)
  | _, _, 0, h => by rw [List.drop_zero, List.drop_zero]; exact h
  | _, _, k + 1, .nil => by rw [List.drop_nil, List.drop_nil]; exact .nil
  | _, _, k + 1, .cons r t => by rw [List.drop_succ_cons, List.drop_succ_cons]; exact paired_drop k t
/-- two tuples put together: one of them, or another -/
def rCatE (K : PySem.W.Frag) : R2 := fun x y H Q => ∃ a b xs ys, x = .ref a ∧ y = .ref b ∧ H a = some (.tup xs) ∧ H b = some (.tup ys) ∧ xs.length + ys.length ≤ sizeLine ∧ ∀ p H', Ext H H' → H' p = some (.tup (xs ++ ys)) → Q (.ref p) H'
theorem catE (K : PySem.W.Frag) {X : Cx} (h : X.K = K := by rfl) : OpR X (binaryOp .Add) (rCatE K) := fun pins s σ H x y v u Q I rx ry ⟨a, b, xs, ys, ex, ey, ha, hb, hz, q⟩ => by
  refine catA K h pins s σ H x y v u Q I rx ry ⟨a, b, xs, ys, ex, ey, SqT.of ha, SqT.of hb, hz, fun z => ?_, fun _ z => ?_, fun _ _ p hp => q p _ (Ext.new hp) upd_same⟩
  · exact q b H Ext.refl (by rw [z]; exact hb)
  · exact q a H Ext.refl (by rw [z, List.append_nil]; exact ha)
end Pf


namespace Pf
open PySem PySem.Spec PyProof.Rows L2
/-! ### things of any kind -/
inductive Dq (K : PySem.W.Frag) (H : Hp) : V → PyData → Prop
  | dp {v : V} {d : PyData} : Dp K H v d → Dq K H v d
  | emp {a : Addr} : H a = some (.dK []) → Dq K H (.ref a) (.dict [])
def tyD : PyData → String
  | .none => "NoneType"
  | .bool _ => "bool"
  | .int _ => "int"
  | .str _ => "str"
  | .list _ => "list"
  | .tuple _ => "tuple"
  | .dict _ => "dict"
theorem sqT_ty {K : PySem.W.Frag} {H : Hp} {a : Addr} {xs : List V} (h : SqT K H a xs) : TyX K H (.ref a) (.type "tuple") := by
  rcases h with (h | ⟨o, h⟩) | ⟨o, _, _, h, c, _⟩
  · exact .base (.tup h)
  · exact .fTuple h
  · exact .kTuple h c
theorem sqL_ty {K : PySem.W.Frag} {H : Hp} {a : Addr} {xs : List V} (h : SqL K H a xs) : TyX K H (.ref a) (.type "list") := by
  rcases h with (h | ⟨o, h⟩) | ⟨o, _, _, h, c, _⟩
  · exact .base (.lst h)
  · exact .base (.frz h)
  · exact .kList h c
theorem Dq.ty {K : PySem.W.Frag} {H : Hp} {v : V} {d : PyData} (h : Dq K H v d) : TyX K H v (.type (tyD d)) := by
  cases h with
  | emp h => exact .base (.dK h)
  | dp h =>
    cases h with
    | non => exact .base .non
    | bl b => exact .base (.bl b)
    | int i => exact .base (.int i)
    | str x => exact .base (.str x)
    | lst h _ => exact sqL_ty h
    | tup h _ => exact sqT_ty h
def isTup : PyData → Bool
  | .tuple _ => true
  | _ => false
def isIntB : PyData → Bool
  | .int _ => true
  | .bool _ => true
  | _ => false
def isBl : PyData → Bool
  | .bool _ => true
  | _ => false
def isLst : PyData → Bool
  | .list _ => true
  | _ => false
def isStr : PyData → Bool
  | .str _ => true
  | _ => false
theorem kit_tup {K : PySem.W.Frag} (d : PyData) : PySem.W.kitOne K (.type (tyD d)) (.type "tuple") = some (isTup d) := by
  cases d <;> (simp only [tyD, isTup]; exact kit_ty (by decide +kernel))
theorem kit_lst {K : PySem.W.Frag} (d : PyData) : PySem.W.kitOne K (.type (tyD d)) (.type "list") = some (isLst d) := by
  cases d <;> (simp only [tyD, isLst]; exact kit_ty (by decide +kernel))
theorem kit_int {K : PySem.W.Frag} (d : PyData) : PySem.W.kitOne K (.type (tyD d)) (.type "int") = some (isIntB d) := by
  cases d <;> (simp only [tyD, isIntB]; exact kit_ty (by decide +kernel))
theorem kit_bool {K : PySem.W.Frag} (d : PyData) : PySem.W.kitOne K (.type (tyD d)) (.type "bool") = some (isBl d) := by
  cases d <;> (simp only [tyD, isBl]; exact kit_ty (by decide +kernel))
theorem kit_str {K : PySem.W.Frag} (d : PyData) : PySem.W.kitOne K (.type (tyD d)) (.type "str") = some (isStr d) := by
  cases d <;> (simp only [tyD, isStr]; exact kit_ty (by decide +kernel))
theorem dpAll_len {K : PySem.W.Frag} {H : Hp} : ∀ {vs : List V} {ds : List PyData}, DpAll K H vs ds → vs.length = ds.length
  | _, _, .nil => rfl
  | _, _, .cons _ t => by rw [List.length_cons, List.length_cons, dpAll_len t]
theorem dpAll_get {K : PySem.W.Frag} {H : Hp} : ∀ {vs : List V} {ds : List PyData} {i : Nat} {v : V}, DpAll K H vs ds → vs[i]? = some v → ∃ d, ds[i]? = some d ∧ Dp K H v d
  | _, _, _, _, .nil, e => by simp at e
  | _, _, 0, _, .cons r _, e => by
    simp at e
    subst e
    exact ⟨_, rfl, r⟩
  | _, _, i + 1, v, .cons _ t, e => by
    obtain ⟨d, h1, h2⟩ := dpAll_get (i := i) (v := v) t (by simpa using e)
    exact ⟨d, by simpa using h1, h2⟩
theorem sqT_ext {K : PySem.W.Frag} {H H' : Hp} {a : Addr} {xs : List V} (k : Ext H H') (h : SqT K H a xs) : SqT K H' a xs := by
  rcases h with (h | ⟨o, h⟩) | h
  · exact .inl (.inl (k _ _ h))
  · exact .inl (.inr ⟨o, k _ _ h⟩)
  · exact .inr h
theorem sqL_ext {K : PySem.W.Frag} {H H' : Hp} {a : Addr} {xs : List V} (k : Ext H H') (h : SqL K H a xs) : SqL K H' a xs := by
  rcases h with (h | ⟨o, h⟩) | h
  · exact .inl (.inl (k _ _ h))
  · exact .inl (.inr ⟨o, k _ _ h⟩)
  · exact .inr h
mutual
theorem dp_ext {K : PySem.W.Frag} {H H' : Hp} (k : Ext H H') : ∀ {v : V} {d : PyData}, Dp K H v d → Dp K H' v d
  | _, _, .non => .non
  | _, _, .bl b => .bl b
  | _, _, .int i => .int i
  | _, _, .str x => .str x
  | _, _, .lst h r => .lst (sqL_ext k h) (dpAll_ext k r)
  | _, _, .tup h r => .tup (sqT_ext k h) (dpAll_ext k r)
theorem dpAll_ext {K : PySem.W.Frag} {H H' : Hp} (k : Ext H H') : ∀ {vs : List V} {ds : List PyData}, DpAll K H vs ds → DpAll K H' vs ds
  | _, _, .nil => .nil
  | _, _, .cons r t => .cons (dp_ext k r) (dpAll_ext k t)
end
theorem Dq.ext {K : PySem.W.Frag} {H H' : Hp} {v : V} {d : PyData} (h : Dq K H v d) (k : Ext H H') : Dq K H' v d := by
  cases h with
  | dp h => exact .dp (dp_ext k h)
  | emp h => exact .emp (k _ _ h)
/-! ### two numbers in a tuple of any make -/
def TwoS (K : PySem.W.Frag) (H : Hp) (v : V) (y : Int × Int) : Prop := ∃ a, v = .ref a ∧ SqT K H a [.int y.1, .int y.2]
theorem TwoS.ext {K : PySem.W.Frag} {H H' : Hp} (k : Ext H H') {v : V} {y : Int × Int} (h : TwoS K H v y) : TwoS K H' v y := by
  obtain ⟨a, e, h⟩ := h
  exact ⟨a, e, sqT_ext k h⟩
theorem TwoS.of {K : PySem.W.Frag} {H : Hp} {v : V} {y : Int × Int} (h : TwoAt H v y) : TwoS K H v y := by
  obtain ⟨a, e, h⟩ := h
  exact ⟨a, e, SqT.of h⟩
/-- the two numbers of a thing, if it is such a tuple -/
def twoD : PyData → Option (Int × Int)
  | .tuple [.int i, .int j] => some (i, j)
  | _ => none
theorem twoD_some {d : PyData} {y : Int × Int} (h : twoD d = some y) : d = .tuple [.int y.1, .int y.2] := by
  unfold twoD at h
  split at h
  · cases h
    rfl
  · cases h
theorem two_dp {K : PySem.W.Frag} {H : Hp} {v : V} {d : PyData} {y : Int × Int} (h : Dp K H v d) (e : twoD d = some y) : TwoS K H v y := by
  have e := twoD_some e
  subst e
  cases h with
  | tup h r =>
    cases r with
    | cons r1 r =>
      cases r with
      | cons r2 r =>
        cases r
        cases r1
        cases r2
        exact ⟨_, rfl, h⟩
theorem paired_two {K : PySem.W.Frag} {H : Hp} : ∀ {vs : List V} {ds : List PyData} {qs : List (Int × Int)}, DpAll K H vs ds → ds.mapM twoD = some qs → Paired (TwoS K H) vs qs
  | _, [], qs, .nil, e => by
    rw [List.mapM_nil] at e
    cases e
    exact .nil
  | _, d :: ds, qs, .cons h t, e => by
    rw [List.mapM_cons] at e
    cases h1 : twoD d with
    | none =>
      rw [h1] at e
      cases e
    | some y =>
      rw [h1] at e
      cases h2 : ds.mapM twoD with
      | none =>
        rw [h2] at e
        cases e
      | some ys =>
        rw [h2] at e
        cases e
        exact .cons (two_dp h h1) (paired_two t h2)
def dTw (y : Int × Int) : PyData := .tuple [.int y.1, .int y.2]
theorem dp_twos {K : PySem.W.Frag} {H : Hp} : ∀ {vs : List V} {qs : List (Int × Int)}, Paired (TwoS K H) vs qs → DpAll K H vs (qs.map dTw)
  | _, _, .nil => .nil
  | _, _, .cons ⟨_, e, h⟩ t => .cons (e ▸ .tup h (.cons (.int _) (.cons (.int _) .nil))) (dp_twos t)
theorem mapM_len {α β : Type} {f : α → Option β} : ∀ {xs : List α} {ys : List β}, xs.mapM f = some ys → ys.length = xs.length
  | [], ys, e => by
    rw [List.mapM_nil] at e
    cases e
    rfl
  | x :: xs, ys, e => by
    rw [List.mapM_cons] at e
    cases h1 : f x with
    | none =>
      rw [h1] at e
      cases e
    | some y =>
      rw [h1] at e
      cases h2 : xs.mapM f with
      | none =>
        rw [h2] at e
        cases e
      | some zs =>
        rw [h2] at e
        cases e
        rw [List.length_cons, List.length_cons, mapM_len h2]
theorem mapM_snoc {α β : Type} {f : α → Option β} : ∀ {xs : List α} {ys : List β} {x : α} {y : β}, xs.mapM f = some ys → f x = some y → (xs ++ [x]).mapM f = some (ys ++ [y])
  | xs, ys, x, y, e, e2 => by
    rw [List.mapM_append, e]
    show (do let z ← [x].mapM f; pure (ys ++ z)) = _
    rw [List.mapM_cons, e2, List.mapM_nil]
    rfl
theorem mapM_get {α β : Type} {f : α → Option β} : ∀ {xs : List α} {ys : List β} {i : Nat} {x : α}, xs.mapM f = some ys → xs[i]? = some x → ∃ y, f x = some y ∧ ys[i]? = some y
  | [], _, _, _, _, e2 => by simp at e2
  | x :: xs, ys, i, z, e, e2 => by
    rw [List.mapM_cons] at e
    cases h1 : f x with
    | none =>
      rw [h1] at e
      cases e
    | some y =>
      rw [h1] at e
      cases h2 : xs.mapM f with
      | none =>
        rw [h2] at e
        cases e
      | some zs =>
        rw [h2] at e
        cases e
        cases i with
        | zero =>
          simp at e2
          subst e2
          exact ⟨y, h1, rfl⟩
        | succ i =>
          obtain ⟨y2, q1, q2⟩ := mapM_get (i := i) h2 (by simpa using e2)
          exact ⟨y2, q1, by simpa using q2⟩
theorem mapM_none {α β : Type} {f : α → Option β} : ∀ {xs : List α} {x : α}, x ∈ xs → f x = none → xs.mapM f = none
  | y :: xs, x, h, e => by
    rw [List.mapM_cons]
    rcases List.mem_cons.mp h with rfl | h
    · rw [e]
      rfl
    · cases h1 : f y with
      | none => rfl
      | some z =>
        show (do let zs ← xs.mapM f; pure (z :: zs)) = none
        rw [mapM_none h e]
        rfl
/-! ### repr of a tuple of two, the second anything -/
mutual
def plainD : PyData → Bool
  | .none => true
  | .bool _ => true
  | .int _ => true
  | .str _ => true
  | .list _ => false
  | .tuple ds => plainDs ds
  | .dict _ => false
def plainDs : List PyData → Bool
  | [] => true
  | d :: r => plainD d && plainDs r
end
theorem plainDs_all {ds : List PyData} (h : ∀ d ∈ ds, plainD d = true) : plainDs ds = true := by
  induction ds with
  | nil => rfl
  | cons d r ih =>
    rw [plainDs, h d (List.mem_cons_self ..), ih fun x hx => h x (List.mem_cons_of_mem _ hx)]
    rfl
mutual
theorem reads_plain {h : Heap} : ∀ (d : PyData) (u : Value) (as : List Addr), plainD d = true → Reads h u d as → as = []
  | .none, _, _, _, r => by cases r; rfl
  | .bool _, _, _, _, r => by cases r; rfl
  | .int _, _, _, _, r => by cases r; rfl
  | .str _, _, _, _, r => by cases r; rfl
  | .list _, _, _, e, _ => by simp [plainD] at e
  | .tuple ds, _, _, e, r => by
    cases r with
    | tuple _ _ _ r => exact reads_plains ds _ _ (by simpa [plainD] using e) r
  | .dict _, _, _, e, _ => by simp [plainD] at e
theorem reads_plains {h : Heap} : ∀ (ds : List PyData) (us : List Value) (as : List Addr), plainDs ds = true → ReadsAll h us ds as → as = []
  | [], _, _, _, r => by cases r; rfl
  | d :: ds, _, _, e, r => by
    rw [plainDs, Bool.and_eq_true] at e
    cases r with
    | cons r1 r2 => rw [reads_plain d _ _ e.1 r1, reads_plains ds _ _ e.2 r2]; rfl
end
end Pf


namespace Pf
open PySem PySem.Spec PyProof.Rows L2
theorem tt_len (r x : Str) : (tupleText [r, x]).length = r.length + x.length + 4 := by
  have e1 : ("(" : Str).length = 1 := by decide +kernel
  have e2 : (", " : Str).length = 2 := by decide +kernel
  have e3 : ((")" : String) : Str).length = 1 := by decide +kernel
  show (("(" : Str) ++ (r ++ ", " ++ x) ++ ((")" : String) : Str)).length = _
  rw [Str.length_append, Str.length_append, Str.length_append, Str.length_append, e1, e2, e3]
  omega
theorem len_emp (d : PyData) : (PyData.tuple [d, .dict []]).shown.length = (PyData.tuple [d, .tuple []]).shown.length := by
  have e1 : (dictText []).length = 2 := by decide +kernel
  have e2 : (tupleText []).length = 2 := by decide +kernel
  simp only [PyData.shown, PyData.shownAll, PyData.shownKv]
  rw [tt_len, tt_len, e1, e2]
def rShow2 (K : PySem.W.Frag) : List V → Hp → VK → Prop := fun xs H Q => ∃ (t : Addr) (x y : V) (dx dy : PyData) (m k : Nat), xs = [.ref t] ∧ SqT K H t [x, y] ∧ Dp K H x dx ∧ plainD dx = true ∧ Dq K H y dy ∧ Sm m k dx ∧ (Sm m k dy ∨ dy = .dict []) ∧ m ≤ 200000 ∧ k ≤ 40 ∧ Q (.str (PyData.tuple [dx, dy]).shown) H
theorem sm_two' {m k : Nat} {a b : PyData} (ha : Sm m k a) (hb : Sm m k b) (hm : m ≤ 200000) : Sm 1000000 (k + 1) (.tuple [a, b]) :=
  Sm.tup (n := 2) (m := m) (k := k) (Nat.le_refl _) (fun d hd => by
    simp only [List.mem_cons, List.not_mem_nil, or_false] at hd
    rcases hd with rfl | rfl
    · exact ha
    · exact hb) (by omega)
theorem call_show2 (K : PySem.W.Frag) {X : Cx} (hg : X.A.guards = some []) (hu : X.A.units + 64 < cLine) (hK : X.K = K := by rfl) : CallR X (.builtin "repr") (rShow2 K) := by
  subst hK
  intro pins s σ H xs us Q I r h
  obtain ⟨t, x, y, dx, dy, m, k, rfl, hT, hx, px, hy, sx, sy, hm, hk, q⟩ := h
  cases hy with
  | dp hy =>
    have sy : Sm m k dy := sy.elim id fun e => by
      subst e
      cases hy
    exact call_show X.K hg hu rfl pins s σ H _ us Q I r ⟨.ref t, _, _, _, rfl, .tup hT (.cons hx (.cons hy .nil)), sm_two' sx sy hm, Nat.le_refl _, by omega, q⟩
  | @emp a hA =>
    obtain ⟨u, rfl, rfl⟩ := vals1 r
    obtain ⟨its, rv, ⟨o, ho, hc, n, hd⟩, hz⟩ := I.tuple hT
    obtain ⟨_, hsys, vs, rel, od, es, ep, h1, h2, h3, _, h5, _⟩ := dk_of I.hok hA
    cases rel
    have hes : es.toList = [] := List.length_eq_zero_iff.mp h5.length
    cases rv with
    | cons r1 r2 =>
      cases r2 with
      | cons r3 r4 =>
        cases r4
        cases r3
        obtain ⟨as, ra⟩ := Dp.reads I _ _ _ hx r1
        have ea := reads_plain _ _ _ px ra
        subst ea
        have rb : Reads s.heap (.ref a) (.dict []) (a :: [] ++ []) := Reads.dict h1 h2.1 h3 (by rw [hes]; exact .nil) (by rw [hes]; exact .nil)
        have rt : Reads s.heap (.ref t) (.tuple [dx, .dict []]) ([] ++ ((a :: [] ++ []) ++ [])) := Reads.tuple ho hc hd (.cons ra (.cons rb .nil))
        have s0 : Sm m (k + 1) (.tuple []) := (Sm.tup (n := 0) (m := 0) (k := k) (M := 0) (ds := []) (Nat.le_refl _) (fun d hd => by cases hd) (Nat.le_refl _)).le (Nat.zero_le _) (Nat.le_refl _)
        have s2 := sm_two' (sx.le (Nat.le_refl _) (Nat.le_succ k)) s0 hm
        refine PySem.repr_of_reads' rt ?_ (fun _ z => ?_) hg ?_ (fun _ _ e => e) (fun h' u tk keep => ⟨.str _, H, I.kept keep, ⟨_, rfl⟩, q⟩) ?_
        · have := sx.sho
          simp [PyData.showable, PyData.showableAll, PyData.showableKv, this]
        · have e : sysModules = a := by simpa using z
          rw [← e] at hsys
          cases hsys
        · have := sx.dep
          simp only [PyData.depth, PyData.depthAll, PyData.depthKv]
          omega
        · rw [len_emp]
          exact s2.short (Nat.le_refl _) (by omega)
/-! ### how many unlike ones -/
theorem dd_len : ∀ (ns acc : List Int), acc.Nodup → ((ns.foldl step_dedup acc).length = acc.length + ns.length ↔ (acc ++ ns).Nodup)
  | [], acc, h => by simp [h]
  | x :: r, acc, h => by
    rw [List.foldl_cons]
    unfold step_dedup
    by_cases c : acc.any (· == x) = true
    · rw [if_pos c]
      have hx : x ∈ acc := by
        obtain ⟨y, hy, e⟩ := List.any_eq_true.mp c
        rw [← eq_of_beq e]
        exact hy
      have hle := foldl_step_dedup_length_le acc r
      constructor
      · intro e
        rw [List.length_cons] at e
        unfold step_dedup at hle
        omega
      · intro e
        have := (List.nodup_append.mp e).2.2 x hx x (List.mem_cons_self ..)
        exact absurd rfl this
    · rw [if_neg c]
      have hx : x ∉ acc := fun z => c (List.any_eq_true.mpr ⟨x, z, beq_self_eq_true x⟩)
      have hn : (acc ++ [x]).Nodup := List.nodup_append.mpr ⟨h, by simp, fun a ha b hb e => by
        rw [List.mem_singleton] at hb
        subst hb
        subst e
        exact hx ha⟩
      have ih := dd_len r (acc ++ [x]) hn
      rw [List.length_append, List.length_singleton, List.append_assoc, List.singleton_append] at ih
      rw [List.length_cons]
      unfold step_dedup at ih
      constructor
      · intro e
        exact ih.mp (by omega)
      · intro e
        have := ih.mpr e
        omega
theorem range_getD (ns : List Int) : (List.range ns.length).map (fun i => ns.getD i 0) = ns := by
  refine List.ext_getElem? fun i => ?_
  rw [List.getElem?_map]
  by_cases h : i < ns.length
  · rw [List.getElem?_range h, List.getElem?_eq_getElem h]
    simp [h]
  · rw [List.getElem?_eq_none (by rw [List.length_range]; omega), List.getElem?_eq_none (by omega)]
    rfl
theorem met_lt (ns : List Int) : (firstMet (fun i => ns.getD i 0) ns.length).length < ns.length ↔ ¬ ns.Nodup := by
  unfold firstMet
  rw [range_getD]
  have h1 := dd_len ns [] List.nodup_nil
  have h2 := foldl_step_dedup_nil_length_le ns
  rw [List.nil_append, List.length_nil, Nat.zero_add] at h1
  constructor
  · intro e h
    have := h1.mpr h
    omega
  · intro e
    by_cases c : (ns.foldl step_dedup []).length = ns.length
    · exact absurd (h1.mp c) e
    · omega
section
variable {X : Cx}
def tLenSetM (K : PySem.W.Frag) (ta : TE) : TE := fun σ H Q => ta σ H fun x H1 => ∃ (l : Addr) (ns : List Int), x = V.ref l ∧ SqL K H1 l (ns.map V.int) ∧ ns.length < 1000 ∧ ∀ n : Nat, (n < ns.length ↔ ¬ ns.Nodup) → n ≤ ns.length → Q (.int n) H1
theorem pe_lenSetM {a : Expr} {ta : TE} {p p2 q pos : Pos} (hc : X.calm = true) (hg : Gl X "len") (hm : X.mg "len" = none) (hg2 : Gl X "set") (hm2 : X.mg "set" = none) (ha : PE X a ta)
    (na : starEach [a] X.env = (false, eval a X.env) :: starEach [] X.env := by rfl) : PE X (.Call (.Name "len" p) [.Call (.Name "set" p2) [a] [] q] [] pos) (tLenSetM X.K ta) := by
  refine ⟨fun pins s σ H Q I h => ?_⟩
  refine Call_ (ld_blt I hg hm PySem.boot_len (PyProof.Rows.callWith_builtin1 (PyProof.Rows.args_cons ?_ rfl) rfl rfl))
  refine Call_ (ld_blt I hg2 hm2 PyProof.Rows.boot_set ?_)
  refine PyProof.Rows.callWith_type1 (PyProof.Rows.args_cons (thn (ha.run pins s σ H _ I h) fun v s1 ⟨x, H1, I1, r1, q1⟩ => PyProof.Rows.args_nil ?_) na) na rfl
  obtain ⟨l, ns, ex, hL, hn, q2⟩ := q1
  subst ex
  cases r1
  obtain ⟨its, r, pl, hz⟩ := I1.list hL
  have el : its.length = ns.length := by
    have := r.length
    rw [List.length_map] at this
    exact this.symm
  have hmet : (firstMet (fun i => ns.getD i 0) ns.length).length ≤ ns.length := firstMet_length_le _ _
  refine call_set_list (I1.ok.hd hc) pl.isList (ns := ns) (intsAre_of r) (by rw [List.size_toArray, el]; unfold scanBound; omega) fun h' tk hS hk => ?_
  have el2 : its.toArray.size = ns.length := by rw [List.size_toArray, el]
  rw [el2] at hS
  obtain ⟨o, es, ep, t, ho, hex, hd, _, _, _, hf, hsz⟩ := hS
  have I2 : Inv X pins σ H1 { s1 with heap := h', toks := tk } := I1.kept fun b u e => hk b u (Heap.lt_size e) e
  refine PyProof.Rows.args_nil ?_
  exact call_len_set ho hex hd hf (by omega) ⟨.int (firstMet (fun i => ns.getD i 0) ns.length).length, H1, I2.tok _, ⟨_, by rw [hsz]⟩, q2 _ (met_lt ns) hmet⟩
end
/-! ### a tuple backwards -/
theorem sl_back {pg : Program} {ww : World} {AA : Around} {EE : Value → Shared → Prop} {st : Shared} {sa : Addr} {vl vu vs : Value} {n : Nat} {Q : Int × Int × Nat → Shared → Prop} (hS : st.heap.IsSliceOf sa vl vu vs) (pl : IsPart vl none) (pu : IsPart vu none) (ps : IsPart vs (some (-1)))
    (q : Q ((n : Int) - 1, -1, n) st) : wpAny (model pg ww) AA (Builtin.Slice.sliceApplied (.ref sa) (pure (n : Int))) Q EE st := by
  obtain ⟨o1, ho1, _, hd1⟩ := id hS
  unfold Builtin.Slice.sliceApplied Builtin.Slice.sliceFields
  refine wpAny_bind (wpAny_bind (wpAny_field ho1 hd1 (x := vl) rfl (wpAny_bind (wpAny_field ho1 hd1 (x := vu) rfl (wpAny_bind (wpAny_field ho1 hd1 (x := vs) rfl (wpAny_pure (wpAny_bind (HT.slicePart_ ps ?_)))))))))
  show wpAny _ _ (if ((-1 : Int) == 0) = true then _ else _) _ _ st
  rw [if_neg (by decide)]
  refine wpAny_bind (HT.slicePart_ pl (wpAny_bind (HT.slicePart_ pu (wpAny_bind (wpAny_pure ?_)))))
  have e1 : Builtin.Slice.sliceAdjust none none (-1) (n : Int) = ((n : Int) - 1, -1) := rfl
  have e2 : Builtin.Slice.slicePlaces ((n : Int) - 1) (-1) (-1) = n := by
    unfold Builtin.Slice.slicePlaces
    rw [if_neg (by decide)]
    simp only [Int.reduceNeg, Int.neg_neg, Int.ediv_one]
    split <;> omega
  show wpAny _ _ (match Builtin.Slice.sliceAdjust none none (-1) (n : Int) with | (a, b) => pure (a, (-1 : Int), Builtin.Slice.slicePlaces a b (-1))) _ _ st
  rw [e1]
  show wpAny _ _ (pure ((n : Int) - 1, (-1 : Int), Builtin.Slice.slicePlaces ((n : Int) - 1) (-1) (-1))) _ _ st
  rw [e2]
  exact wpAny_pure q
theorem pick_back (xs : Array Value) : ((List.range xs.size).filterMap fun (m : Nat) => xs[(((xs.size : Int) - 1) + (m : Int) * -1).toNat]?).toArray = xs.toList.reverse.toArray := by
  congr 1
  have e : ∀ m ∈ List.range xs.size, xs[(((xs.size : Int) - 1) + (m : Int) * -1).toNat]? = some (xs.toList.reverse.getD m .none) := fun m hm => by
    have hm := List.mem_range.mp hm
    rw [show (((xs.size : Int) - 1) + (m : Int) * -1).toNat = xs.size - 1 - m by omega, List.getD_eq_getElem?_getD, List.getElem?_reverse (by rw [Array.length_toList]; exact hm), Array.length_toList, Array.getElem?_toList, Array.getElem?_eq_getElem (by omega)]
    rfl
  have e2 : ∀ l : List Nat, (∀ m ∈ l, xs[(((xs.size : Int) - 1) + (m : Int) * -1).toNat]? = some (xs.toList.reverse.getD m .none)) → (l.filterMap fun (m : Nat) => xs[(((xs.size : Int) - 1) + (m : Int) * -1).toNat]?) = l.map fun m => xs.toList.reverse.getD m .none := by
    intro l
    induction l with
    | nil => intro _; rfl
    | cons m r ih =>
      intro h
      rw [List.filterMap_cons, h m (List.mem_cons_self ..), List.map_cons, ih fun z hz => h z (List.mem_cons_of_mem _ hz)]
  rw [e2 _ e]
  refine List.ext_getElem? fun i => ?_
  rw [List.getElem?_map]
  by_cases h : i < xs.size
  · rw [List.getElem?_range h]
    show some (xs.toList.reverse.getD i .none) = _
    rw [List.getD_eq_getElem?_getD, List.getElem?_eq_getElem (by rw [List.length_reverse, Array.length_toList]; exact h)]
    rfl
  · rw [List.getElem?_eq_none (by rw [List.length_range]; omega), List.getElem?_eq_none (by rw [List.length_reverse, Array.length_toList]; omega)]
    rfl
theorem getItem_tuple_back {pg : Program} {ww : World} {AA : Around} {EE : Value → Shared → Prop} {st : Shared} {tp sa : Addr} {items : Array Value} {vl vu vs : Value} {Q : Value → Shared → Prop} (hT : IsTup st.heap tp items) (hS : st.heap.IsSliceOf sa vl vu vs) (pl : IsPart vl none) (pu : IsPart vu none) (ps : IsPart vs (some (-1)))
    (q : Q (.ref st.heap.objs.size) { st with heap := st.heap.push { cls := .type "tuple", data := .seq items.toList.reverse.toArray } }) (hz : items.size ≤ sizeLine) : wpAny (model pg ww) AA (getItem (.ref tp) (.ref sa)) Q EE st := by
  have hfit : sizeOk (.seq items.toList.reverse.toArray) := by
    show items.toList.reverse.toArray.size ≤ sizeLine
    rw [List.size_toArray, List.length_reverse, Array.length_toList]
    exact hz
  have hSl : st.TypeIs (.ref sa) "slice" := let ⟨o, h1, h2, _⟩ := hS; ⟨o, h1, h2⟩
  unfold getItem; try with_reducible refine wpAny_holding ?_
  first | refine wpAny_bind (wpAny_pure ?_) | skip
  refine wpAny_bind (wpAny_sequenceKey hT.typeIs (by decide) (wpAny_bind (wpAny_callSpecial?_slot (name := Str.ofString "__getitem__") hT.typeIs slot_tuple_getitem (wpAny_call_entry slot_tuple_getitem hT.typeIs entry_tuple_getitem ?_ (args_tuple_getitem _ _)))))
  show wpAny _ _ (Builtin.Tuple.tupleItemsOf (.ref tp) >>= _) _ _ st
  refine wpAny_bind (tupleItemsOf_ hT (wpAny_bind (wpAny_typeOf hSl ?_)))
  rw [if_pos (by decide)]
  refine wpAny_bind (sl_back hS pl pu ps ?_)
  have no : ¬ (((((items.size : Int) - 1) == 0 && (-1 : Int) == 1 && items.size == items.size)) = true) := fun z => by
    rw [Bool.and_eq_true, Bool.and_eq_true] at z
    exact absurd z.1.2 (by decide)
  show wpAny _ _ (if ((((items.size : Int) - 1) == 0 && (-1 : Int) == 1 && items.size == items.size)) = true then _ else _) _ _ st
  rw [if_neg no, pick_back]
  first
    | exact wpAny_bind (m := Builtin.Tuple.tupleExact _) (wpAny_newObj_type (wpAny_pure ⟨_, rfl, wpAny_pure q⟩) hfit)
    | exact wpAny_bind (m := Builtin.Tuple.tupleExact _) (wpAny_newObj_type (wpAny_bind (wpAny_pure (wpAny_pure ⟨_, rfl, wpAny_pure q⟩))) hfit)
    | exact wpAny_bind (wpAny_bind (m := Builtin.Tuple.tupleExact _) (wpAny_newObj_type (wpAny_pure (wpAny_pure ⟨_, rfl, wpAny_pure q⟩)) hfit))
    | exact wpAny_bind (wpAny_bind (m := Builtin.Tuple.tupleExact _) (wpAny_newObj_type (wpAny_pure ⟨_, rfl, wpAny_pure q⟩) hfit))
def tRevT (K : PySem.W.Frag) (te : TE) : TE := fun σ H Q => te σ H fun x H1 => ∃ a xs, x = .ref a ∧ SqT K H1 a xs ∧ ∀ p, H1 p = none → Q (.ref p) (upd H1 p (.tup xs.reverse))
theorem pe_revT {X : Cx} {e : Expr} {te : TE} {k : Nat} {p1 p2 p3 pos : Pos} (he : PE X e te) : PE X (.Subscript e (.Slice none none (some (.UnaryOp .USub (.Constant (.int 1) k p1) p2)) p3) pos) (tRevT X.K te) := by
  refine ⟨fun pins s σ H Q I h => ?_⟩
  refine Subscript_ (thn (he.run pins s σ H _ I h) fun v s1 ⟨x, H1, I1, r1, a, xs, ex, hx, q⟩ => ?_)
  subst ex
  cases r1
  have hst : PO X (some (.UnaryOp .USub (.Constant (.int 1) k p1) p2)) (tPart (tUn (rU fun i => .int (-i)) (tC (.int 1)))) := po_some (pe_un un_neg pe_int)
  refine wpAny_Slice (thn (po_none.run pins s1 σ H1 (fun o H2 => o = none ∧ H2 = H1) I1 ⟨rfl, rfl⟩) fun vl s2 ⟨l, H2, I2, pl, el, e2⟩ => ?_)
  subst el e2
  refine thn (po_none.run pins s2 σ H2 (fun o H3 => o = none ∧ H3 = H2) I2 ⟨rfl, rfl⟩) fun vu s3 ⟨u, H3, I3, pu, eu, e3⟩ => ?_
  subst eu e3
  refine thn (hst.run pins s3 σ H3 (fun o H4 => o = some (-1) ∧ H4 = H3) I3 ⟨1, rfl, -1, rfl, rfl, rfl⟩) fun vs s4 ⟨o, H4, I4, ps, eo, e4⟩ => ?_
  subst eo e4
  have I5 : Inv X pins σ H4 { s4 with heap := s4.heap.push { cls := .type "slice", data := .fields #[vl, vu, vs] } } := I4.kept (t' := s4.toks) fun b ob z => Heap.get?_push_of_some _ z
  obtain ⟨its, r, ht, hz⟩ := I5.tuple hx
  have hlen : its.toArray.size = xs.length := by rw [List.size_toArray]; exact r.length.symm
  refine tail_any (ops := [.ref a, .ref s4.heap.objs.size]) ht.typeIs PyProof.Rows.slot_tuple_getitem.lookup ?_ (by with_unfolding_all rfl)
  refine getItem_tuple_back ht (Heap.IsSliceOf.new _ vl vu vs) pl pu ps ?_ (by rw [hlen]; exact hz)
  refine ⟨.ref _, _, I5.laid (t' := s4.toks) (o := .tup xs.reverse) (fun b ob z => Heap.get?_push_of_some _ z) (Nat.le_refl _) ?_, rfl, q _ (I5.hok.fresh (Nat.le_refl _))⟩
  exact ⟨by rw [List.length_reverse]; exact hz, _, r.reverse, IsTup.new _ _⟩
/-- a part of a tuple of any make; two put together -/
def rSlS (K : PySem.W.Frag) : V → Option Int → Option Int → Hp → VK → Prop := fun x lo hi H Q => ∃ a xs, x = .ref a ∧ SqT K H a xs ∧ ∀ p H', Ext H H' → SqT K H' p (cutV xs lo hi) → Q (.ref p) H'
theorem slS (K : PySem.W.Frag) {X : Cx} (h : X.K = K := by rfl) : SlR X (rSlS K) := fun pins s σ H x v vl vu lo hi sl Q I rx hs pl pu ⟨a, xs, ex, ha, q⟩ => by
  refine slA K h pins s σ H x v vl vu lo hi sl Q I rx hs pl pu ⟨a, xs, ex, ha, fun z => q a H Ext.refl ?_, fun _ p hp => q p _ (Ext.new hp) (SqT.of upd_same)⟩
  have e : cutV xs lo hi = xs := by
    unfold cutV
    rw [z.1, z.2, List.drop_zero, Nat.sub_zero, List.take_length]
  rw [e]
  exact ha
def rCatS (K : PySem.W.Frag) : R2 := fun x y H Q => ∃ a b xs ys, x = .ref a ∧ y = .ref b ∧ SqT K H a xs ∧ SqT K H b ys ∧ xs.length + ys.length ≤ sizeLine ∧ ∀ p H', Ext H H' → SqT K H' p (xs ++ ys) → Q (.ref p) H'
theorem catS (K : PySem.W.Frag) {X : Cx} (h : X.K = K := by rfl) : OpR X (binaryOp .Add) (rCatS K) := fun pins s σ H x y v u Q I rx ry ⟨a, b, xs, ys, ex, ey, ha, hb, hz, q⟩ => by
  refine catA K h pins s σ H x y v u Q I rx ry ⟨a, b, xs, ys, ex, ey, ha, hb, hz, fun z => q b H Ext.refl (by rw [z]; exact hb), fun _ z => q a H Ext.refl (by rw [z, List.append_nil]; exact ha), fun _ _ p hp => q p _ (Ext.new hp) (SqT.of upd_same)⟩
/-- sum of a list of lists and a list -/
def rSumS (K : PySem.W.Frag) : List V → Hp → VK → Prop := fun vs H Q => ∃ (a b : Addr) (ls : List (Addr × List V)) (xs : List V), vs = [.ref a, .ref b] ∧ SqL K H a (ls.map fun x => .ref x.1) ∧ (∀ x ∈ ls, H x.1 = some (.lst x.2)) ∧ H b = some (.lst xs) ∧ xs.length + (ls.map (·.2)).flatten.length ≤ sizeLine ∧
  ∀ p H', Ext H H' → SqL K H' p (xs ++ (ls.map (·.2)).flatten) → Q (.ref p) H'
theorem sumS (K : PySem.W.Frag) {X : Cx} (hcalm : X.calm = true) (hK : X.K = K := by rfl) : CallR X (.builtin "sum") (rSumS K) := fun pins s σ H vs us Q I r ⟨a, b, ls, xs, e, h1, h2, h3, h4, q⟩ =>
  cr_sumL K hcalm hK pins s σ H vs us Q I r ⟨a, b, ls, xs, e, h1, h2, h3, h4, fun z => q b H Ext.refl (by rw [z]; show SqL K H b (xs ++ []); rw [List.append_nil]; exact SqL.of h3), fun _ p hp => q p _ (Ext.new hp) (SqL.of upd_same)⟩
end Pf


namespace Pf
open PySem PySem.Spec PyProof.Rows L2
/-! ### who may pair; what is a folding, of things of any kind -/
def tx2 (x : Str) (p : Int × Int) : Str := sgn x p.1 ++ sgn x p.2
def pwV : List (Str × Int) → Str → V
  | [], _ => .non
  | (t, x) :: r, b => if t = b then .int x else pwV r b
theorem pwV_at {prs : List (Str × Int)} {i : Nat} {t : Str} {x : Int} (h : prs[i]? = some (t, x)) (b : Str) : pwV (prs.drop i) b = if t = b then .int x else pwV (prs.drop (i + 1)) b := by
  obtain ⟨hi, e⟩ := List.getElem?_eq_some_iff.mp h
  rw [List.drop_eq_getElem_cons hi, e, pwV]
theorem pwV_end {prs : List (Str × Int)} {i : Nat} (h : prs.length ≤ i) (b : Str) : pwV (prs.drop i) b = .non := by
  rw [List.drop_eq_nil_of_le h, pwV]
def pwZ : List (Str × Int) → Str → Int
  | [], _ => 0
  | (t, x) :: r, b => if t = b then x else pwZ r b
theorem in_str {b : Str} {ts : List Str} : inV (.str b) (ts.map V.str) = true ↔ b ∈ ts := by
  unfold inV
  rw [List.any_map, List.any_eq_true]
  constructor
  · rintro ⟨t, ht, e⟩
    have e : (t == b) = true := e
    rw [beq_iff_eq] at e
    exact e ▸ ht
  · intro h
    refine ⟨b, h, ?_⟩
    show (b == b) = true
    rw [beq_iff_eq]
def mayP (r : Rl) (x : Str) (i j : Int) : Bool := decide (0 ≤ i ∧ i < j ∧ j < x.length) && mayB r x i j
theorem pwV_no : ∀ {prs : List (Str × Int)} {b : Str}, b ∉ prs.map (·.1) → pwV prs b = .non
  | [], _, _ => rfl
  | (t, x) :: r, b, h => by
    rw [List.map_cons, List.mem_cons] at h
    rw [pwV, if_neg (fun z => h (.inl z.symm))]
    exact pwV_no fun z => h (.inr z)
theorem pwV_is (prs : List (Str × Int)) (b : Str) : (!decide (pwV prs b = .non)) = inV (.str b) ((prs.map (·.1)).map V.str) := by
  by_cases h : b ∈ prs.map (·.1)
  · have e : ∃ z, pwV prs b = .int z := by
      induction prs with
      | nil => cases h
      | cons y r ih =>
        obtain ⟨t, z⟩ := y
        rw [pwV]
        by_cases c : t = b
        · exact ⟨z, if_pos c⟩
        · rw [if_neg c]
          rw [List.map_cons, List.mem_cons] at h
          exact ih (h.resolve_left fun e => c e.symm)
    obtain ⟨z, e⟩ := e
    rw [e, in_str.mpr h, decide_eq_false (fun z => by cases z)]
    rfl
  · rw [pwV_no h, Bool.eq_false_iff.mpr (fun z => h (in_str.mp z)), decide_eq_true rfl]
    rfl
def lt2 (a b : Int × Int) : Bool := decide (a.1 < b.1 ∨ (a.1 = b.1 ∧ a.2 < b.2))
def go2 (p q : Int × Int) : Bool := decide (p.2 < q.1) || decide (q.2 < p.2)
def risL (qs : List (Int × Int)) : List Bool := (qs.zip (qs.drop 1)).map fun z => lt2 z.1 z.2
def goL : List (Int × Int) → List Bool
  | [] => []
  | p :: r => r.map (go2 p) ++ goL r
def isF (r : Rl) (x : Str) (qs : List (Int × Int)) : Bool := (qs.map fun y => mayP r x y.1 y.2).all id && ((risL qs).all id && (goL qs).all id)
theorem goL_len : ∀ qs : List (Int × Int), (goL qs).length ≤ qs.length * qs.length
  | [] => Nat.le_refl _
  | p :: r => by
    have h := goL_len r
    rw [goL, List.length_append, List.length_map, List.length_cons, Nat.succ_mul, Nat.mul_succ]
    omega
theorem goL_at {qs : List (Int × Int)} {i : Nat} {p : Int × Int} (h : qs[i]? = some p) : goL (qs.drop i) = (qs.drop (i + 1)).map (go2 p) ++ goL (qs.drop (i + 1)) := by
  obtain ⟨hi, e⟩ := List.getElem?_eq_some_iff.mp h
  rw [List.drop_eq_getElem_cons hi, e, goL]
/-- what stays, but the list at D -/
def Ext' (H H' : Hp) (D : Addr) : Prop := ∀ b o, b ≠ D → H b = some o → H' b = some o
theorem Ext'.refl {H : Hp} {D : Addr} : Ext' H H D := fun _ _ _ e => e
theorem Ext'.put {H H' : Hp} {D : Addr} {o : HO} (k : Ext' H H' D) : Ext' H (upd H' D o) D := fun b u n e => by
  rw [upd_ne n]
  exact k b u n e
theorem Ext'.sqT {K : PySem.W.Frag} {H H' : Hp} {D a : Addr} {xs ys : List V} (k : Ext' H H' D) (h : SqT K H a xs) (hD : H D = some (.lst ys)) : SqT K H' a xs := by
  rcases h with (h | ⟨o, h⟩) | h
  · exact .inl (.inl (k _ _ (ne_of h hD (by intro z; cases z)) h))
  · exact .inl (.inr ⟨o, k _ _ (ne_of h hD (by intro z; cases z)) h⟩)
  · exact .inr h
section
variable {P : Program} {w : World} {K : PySem.W.Frag} {mg : Str → Option Value} {base : Heap}
abbrev s_text_of : Stmt := topS 6
theorem sc_text_of : FnScope ["string", "pair"] ["string", "pair"] (defScope s_text_of) :=
  ⟨rfl, rfl, rfl, by decide +kernel, rfl, by decide +kernel, by decide +kernel⟩
def spTextOf : Sp := fun vs H Q _ => ∃ (x : Str) (t : Addr) (y : Int × Int), vs = [.str x, .ref t] ∧ H t = some (.tup [.int y.1, .int y.2]) ∧ x.length ≤ 1000 ∧ 0 ≤ y.1 ∧ y.1 < x.length ∧ 0 ≤ y.2 ∧ y.2 < x.length ∧ Q (.str (tx2 x y)) H
theorem ok_text_of {f : Addr} {fd : FuncData} {k : Nat} (F : Fun K "text_of" "text_of" s_text_of f fd) : FnOk P w K mg base CX0 (k + 1) f fd ["string", "pair"] spTextOf := by
  refine F.ok sc_text_of (fun vs H Q E h => ?_) (fun cdv A outer s H vs Q E hr h => ?_)
  · obtain ⟨x, t, y, rfl, _⟩ := h
    rfl
  · obtain ⟨x, t, y, rfl, hT, hx, i0, i1, j0, j1, q⟩ := h
    refine ⟨_, (pss_one (ps_ret (pe_op op_add_str (pe_ix ix_str (pv 0) (pe_ix (ixT K) (pv 1) pe_int (fun _ _ => rfl)) (fun _ _ => rfl)) (pe_ix ix_str (pv 0) (pe_ix (ixT K) (pv 1) pe_int (fun _ _ => rfl)) (fun _ _ => rfl))))), ?_⟩
    refine ⟨_, rfl, _, rfl, t, _, 0, _, rfl, rfl, SqT.of hT, rfl, x, y.1, _, rfl, rfl, szL (by omega), sgn_at i0 i1, ?_⟩
    refine ⟨_, rfl, _, rfl, t, _, 1, _, rfl, rfl, SqT.of hT, rfl, x, y.2, _, rfl, rfl, szL (by omega), sgn_at j0 j1, ?_⟩
    exact ⟨_, _, rfl, rfl, szL (show 1 + 1 ≤ 1000000 by decide), q⟩
abbrev s_pair_worth : Stmt := topS 4
theorem sc_pair_worth : FnScope ["rules", "both", "text", "worth"] ["rules", "both"] (defScope s_pair_worth) :=
  ⟨rfl, rfl, rfl, by decide +kernel, rfl, by decide +kernel, by decide +kernel⟩
def spPW : Sp := fun vs H Q _ => ∃ (v : V) (r : Rl) (b : Str), vs = [v, .str b] ∧ RulesAt H v r ∧ Q (pwV r.prs b) H
theorem ok_pw {f : Addr} {fd : FuncData} {k : Nat} (F : Fun K "pair_worth" "pair_worth" s_pair_worth f fd) : FnOk P w K mg base CX0 (k + 1) f fd ["rules", "both"] spPW := by
  refine F.ok sc_pair_worth (fun vs H Q E h => ?_) (fun cdv A outer s H vs Q E hr h => ?_)
  · obtain ⟨v, r, b, rfl, _⟩ := h
    rfl
  · obtain ⟨v, r, b, rfl, ⟨a, vp, vl, vs, rfl, hA, ⟨ap, oz, us, rfl, hp, _, hR⟩, _, _⟩, q⟩ := h
    refine ⟨_, (pss_cons (ps_for PassesOwn.never rfl (pi_tup (pe_ix (ixT K) (pv 0) pe_int (fun _ _ => rfl))) (pg_tup rfl (pgs_cons (pg_name (i := 2) sc_pair_worth.nd rfl (.inl rfl)) (pgs_cons (pg_name (i := 3) sc_pair_worth.nd rfl (.inl rfl)) pgs_nil))) (pss_one (ps_if (pt_cmpR op_eq (pv 2) (pv 1) (nomark _)) (pss_one (ps_ret (pv 3))) pss_nil)))
      (pss_one (ps_ret pe_non))), ?_⟩
    have hlen := paired_len hR
    refine ⟨_, rfl, a, _, 1, _, rfl, rfl, SqT.of hA, rfl, ap, rfl, ⟨_, SqT.fz hp⟩, for_tup (xs := us) (fun i σ H2 => ∃ (y2 y3 : Option V), σ = [some (.ref a), some (.str b), y2, y3] ∧ H2 = H ∧ pwV (r.prs.drop i) b = pwV r.prs b)
      ⟨none, none, rfl, rfl, rfl⟩ (fun i σ H2 _ ⟨y2, y3, _, e, _⟩ => SqT.fz (o := oz) (by rw [e]; exact hp)) (fun i u σ H2 hi hv => ?_) (fun σ H2 hv => ?_)⟩
    · obtain ⟨y2, y3, rfl, rfl, hd⟩ := hv
      obtain ⟨⟨t, x⟩, hx, a1, rfl, ha1⟩ := paired_get hR hi
      rw [pwV_at hx] at hd
      refine ⟨a1, _, rfl, SqT.of ha1, rfl, _, _, rfl, _, _, rfl, rfl, ?_⟩
      refine ⟨_, rfl, _, rfl, rfl, _, rfl, ite2 (fun e => ?_) (fun e => ?_)⟩
      · have e2 : t = b := V.str.inj (of_decide_eq_true e)
        rw [if_pos e2] at hd
        refine ⟨_, rfl, ?_⟩
        show Q (.int x) _
        rw [hd]
        exact q
      · have e2 : ¬ t = b := fun z => e (decide_eq_true (congrArg V.str z))
        rw [if_neg e2] at hd
        exact ⟨_, _, rfl, rfl, hd⟩
    · obtain ⟨y2, y3, rfl, rfl, hd⟩ := hv
      rw [pwV_end (by omega)] at hd
      show Q .non _
      rw [hd]
      exact q
abbrev CTx (P : Program) (w : World) (K : PySem.W.Frag) (mg : Str → Option Value) (base : Heap) : Prop := Ca P w K mg base 1 "text_of" ["string", "pair"] spTextOf
abbrev CPW (P : Program) (w : World) (K : PySem.W.Frag) (mg : Str → Option Value) (base : Heap) : Prop := Ca P w K mg base 1 "pair_worth" ["rules", "both"] spPW
abbrev s_may_pair : Stmt := topS 7
theorem sc_may_pair : FnScope ["rules", "string", "i", "j"] ["rules", "string", "i", "j"] (defScope s_may_pair) :=
  ⟨rfl, rfl, rfl, by decide +kernel, rfl, by decide +kernel, by decide +kernel⟩
def spMP : Sp := fun vs H Q _ => ∃ (v : V) (r : Rl) (x : Str) (i j : Int), vs = [v, .str x, .int i, .int j] ∧ RulesAt H v r ∧ x.length ≤ 1000 ∧ ∀ H', Ext H H' → Q (.bl (mayP r x i j)) H'
theorem ok_mp {f : Addr} {fd : FuncData} (F : Fun K "may_pair" "may_pair" s_may_pair f fd) (ctext_of : CTx P w K mg base) (cpair_worth : CPW P w K mg base) (mlen : mg "len" = none) : FnOk P w K mg base CX0 2 f fd ["rules", "string", "i", "j"] spMP := by
  refine F.ok sc_may_pair (fun vs H Q E h => ?_) (fun cdv A outer s H vs Q E hr h => ?_)
  · obtain ⟨v, r, x, i, j, rfl, _⟩ := h
    rfl
  · obtain ⟨v, r, x, i, j, rfl, hR, hx, q⟩ := h
    obtain ⟨a, vp, vl, vs, rfl, hA, hp, hl, hs⟩ := id hR
    refine ⟨_, (pss_cons (ps_if (pt_not (pt_chain3 op_le op_lt op_lt pe_int (pv 2) (pv 3) (pe_callB call_len_str (by rfl) mlen (by decide +kernel) (pa_cons (pv 1) pa_nil)))) (pss_one (ps_ret pe_bl)) pss_nil)
      (pss_cons (ps_if (pt_cmpR op_lt (pe_op op_sub (pe_op op_sub (pv 3) (pv 2)) pe_int) (pe_ix (ixT K) (pv 0) pe_int (fun _ _ => rfl)) (nomark _)) (pss_one (ps_ret pe_bl)) pss_nil)
      (pss_one (ps_ret (pe_cmpR op_notN (pe_ca cpair_worth (hr.mono (by decide)) (by rfl) (pa_cons (pv 0) (pa_cons (pe_ca ctext_of (hr.mono (by decide)) (by rfl) (pa_cons (pv 1) (pa_cons (pe_tup (pa_cons (pv 2) (pa_cons (pv 3) pa_nil))) pa_nil))) pa_nil))) pe_non (nomark _)))))), ?_⟩
    have qF : ¬ (0 ≤ i ∧ i < j ∧ j < x.length) → Q (.bl false) H := fun h => by
      have e : mayP r x i j = false := by
        unfold mayP
        rw [decide_eq_false h]
        rfl
      rw [← e]
      exact q H Ext.refl
    refine ⟨_, rfl, 0, i, rfl, rfl, _, rfl, ite2 (fun e1 => ?_) (fun e1 => ?_)⟩
    · have e1 : 0 ≤ i := of_decide_eq_true e1
      refine ⟨_, rfl, i, j, rfl, rfl, _, rfl, ite2 (fun e2 => ?_) (fun e2 => ?_)⟩
      · have e2 : i < j := of_decide_eq_true e2
        refine ⟨_, rfl, x, rfl, szL (by omega), _, _, rfl, rfl, _, rfl, ?_⟩
        by_cases e3 : j < x.length
        · rw [decide_eq_true e3]
          refine iteF ⟨_, rfl, _, rfl, _, _, rfl, rfl, _, 1, rfl, rfl, _, rfl, a, _, 2, _, rfl, rfl, SqT.of hA, rfl, _, _, rfl, rfl, _, rfl, ite2 (fun e4 => ?_) (fun e4 => ?_)⟩
          · have e4 : j - i - 1 < r.span := of_decide_eq_true e4
            have e : mayP r x i j = false := by
              unfold mayP mayB
              rw [decide_eq_false (show ¬ r.span ≤ j - i - 1 by omega), Bool.false_and, Bool.and_false]
            have := q H Ext.refl
            rw [e] at this
            exact this
          · have e4 : ¬ j - i - 1 < r.span := fun z => e4 (decide_eq_true z)
            refine ⟨_, rfl, _, rfl, _, rfl, _, rfl, szL (show 2 ≤ 1000000 by decide), fun t ht => ?_⟩
            refine ⟨x, t, (i, j), rfl, upd_same, hx, e1, (show i < x.length by omega), (show 0 ≤ j by omega), e3, ?_⟩
            refine ⟨_, r, _, rfl, RulesAt.mono _ _ _ _ (TupK.new ht) hR, rfl, ?_⟩
            have e : mayP r x i j = !decide (pwV r.prs (tx2 x (i, j)) = .non) := by
              unfold mayP mayB
              rw [decide_eq_true (show 0 ≤ i ∧ i < j ∧ j < x.length from ⟨e1, e2, e3⟩), decide_eq_true (show r.span ≤ j - i - 1 by omega), Bool.true_and, Bool.true_and, pwV_is]
              rfl
            have := q _ (Ext.new (o := .tup [.int i, .int j]) ht)
            rw [e] at this
            exact this
        · rw [decide_eq_false e3]
          exact iteT (qF fun h => e3 h.2.2)
      · refine ⟨_, rfl, ?_⟩
        exact iteT (qF fun h => e2 (decide_eq_true h.2.1))
    · refine ⟨_, rfl, ?_⟩
      exact iteT (qF fun h => e1 (decide_eq_true h.1))
abbrev CMP (P : Program) (w : World) (K : PySem.W.Frag) (mg : Str → Option Value) (base : Heap) : Prop := Ca P w K mg base 2 "may_pair" ["rules", "string", "i", "j"] spMP
def whD : PyData → Bool
  | .int _ => true
  | _ => false
theorem whD_is (d : PyData) : whD d = (isIntB d && !isBl d) := by cases d <;> rfl
abbrev s_is_whole : Stmt := topS 1
theorem sc_is_whole : FnScope ["thing"] ["thing"] (defScope s_is_whole) :=
  ⟨rfl, rfl, rfl, by decide +kernel, rfl, by decide +kernel, by decide +kernel⟩
def spWh {K : PySem.W.Frag} : Sp := fun vs H Q _ => ∃ (v : V) (d : PyData), vs = [v] ∧ Dq K H v d ∧ Q (.bl (whD d)) H
theorem ok_wh {f : Addr} {fd : FuncData} {k : Nat} (F : Fun K "is_whole" "is_whole" s_is_whole f fd) (misinstance : mg "isinstance" = none) (mint : mg "int" = none) (mbool : mg "bool" = none) : FnOk P w K mg base CX0 (k + 1) f fd ["thing"] (spWh (K := K)) := by
  refine F.ok sc_is_whole (fun vs H Q E h => ?_) (fun cdv A outer s H vs Q E hr h => ?_)
  · obtain ⟨v, d, rfl, _⟩ := h
    rfl
  · obtain ⟨v, d, rfl, hd, q⟩ := h
    refine ⟨_, (pss_one (ps_ret (pe_and (pe_callB (isi1 K) (by rfl) misinstance (by decide +kernel) (pa_cons (pv 0) (pa_cons (pe_bltn (v := .ty "int") (by rfl) mint (by decide +kernel) rfl) pa_nil))) (pe_one (pe_not (pe_callB (isi1 K) (by rfl) misinstance (by decide +kernel) (pa_cons (pv 0) (pa_cons (pe_bltn (v := .ty "bool") (by rfl) mbool (by decide +kernel) rfl) pa_nil)))))))), ?_⟩
    rw [whD_is] at q
    refine ⟨_, rfl, v, .ty "int", _, _, isIntB d, rfl, .ty _, hd.ty, kit_int d, isIntB d, rfl, ite2 (fun e => ?_) (fun e => ?_)⟩
    · rw [e, Bool.true_and] at q
      exact ⟨_, rfl, v, .ty "bool", _, _, isBl d, rfl, .ty _, hd.ty, kit_bool d, isBl d, rfl, q⟩
    · have e : isIntB d = false := by simpa using e
      rw [e, Bool.false_and] at q
      exact q
def rowD (n : Int) : PyData → Bool
  | .tuple ds => decide ((ds.length : Int) = n)
  | _ => false
abbrev s_is_row : Stmt := topS 2
theorem sc_is_row : FnScope ["thing", "size"] ["thing", "size"] (defScope s_is_row) :=
  ⟨rfl, rfl, rfl, by decide +kernel, rfl, by decide +kernel, by decide +kernel⟩
def spRow {K : PySem.W.Frag} : Sp := fun vs H Q _ => ∃ (v : V) (d : PyData) (n : Int), vs = [v, .int n] ∧ Dq K H v d ∧ Q (.bl (rowD n d)) H
theorem ok_row {f : Addr} {fd : FuncData} {k : Nat} (F : Fun K "is_row" "is_row" s_is_row f fd) (misinstance : mg "isinstance" = none) (mtuple : mg "tuple" = none) (mlen : mg "len" = none) : FnOk P w K mg base CX0 (k + 1) f fd ["thing", "size"] (spRow (K := K)) := by
  refine F.ok sc_is_row (fun vs H Q E h => ?_) (fun cdv A outer s H vs Q E hr h => ?_)
  · obtain ⟨v, d, n, rfl, _⟩ := h
    rfl
  · obtain ⟨v, d, n, rfl, hd, q⟩ := h
    refine ⟨_, (pss_one (ps_ret (pe_and (pe_callB (isi1 K) (by rfl) misinstance (by decide +kernel) (pa_cons (pv 0) (pa_cons (pe_bltn (v := .ty "tuple") (by rfl) mtuple (by decide +kernel) rfl) pa_nil))) (pe_one (pe_cmpR op_eq (pe_callB (lenQ K) (by rfl) mlen (by decide +kernel) (pa_cons (pv 0) pa_nil)) (pv 1) (nomark _)))))), ?_⟩
    refine ⟨_, rfl, v, .ty "tuple", _, _, isTup d, rfl, .ty _, hd.ty, kit_tup d, isTup d, rfl, ite2 (fun e => ?_) (fun e => ?_)⟩
    · cases hd with
      | emp _ => cases e
      | dp hd =>
        cases hd with
        | tup hs hds =>
          refine ⟨_, rfl, _, _, rfl, .inr hs, _, rfl, rfl, ?_⟩
          rename_i a xs ds
          have e2 : decide ((V.int (xs.length : Nat)) = V.int n) = decide ((ds.length : Int) = n) := by
            rw [dpAll_len hds]
            exact decide_eq_decide.mpr ⟨V.int.inj, congrArg V.int⟩
          rw [e2]
          exact q
        | _ => cases e
    · have e : isTup d = false := by simpa using e
      cases d with
      | tuple ds => cases e
      | _ => exact q
abbrev CWh (P : Program) (w : World) (K : PySem.W.Frag) (mg : Str → Option Value) (base : Heap) : Prop := Ca P w K mg base 1 "is_whole" ["thing"] (spWh (K := K))
abbrev CRow (P : Program) (w : World) (K : PySem.W.Frag) (mg : Str → Option Value) (base : Heap) : Prop := Ca P w K mg base 1 "is_row" ["thing", "size"] (spRow (K := K))
def prD (r : Rl) (x : Str) (d : PyData) : Bool := match twoD d with
  | some y => mayP r x y.1 y.2
  | none => false
theorem dp_pair {K : PySem.W.Frag} {H : Hp} {xs : List V} {ds : List PyData} (h : DpAll K H xs ds) (hl : ds.length = 2) : ∃ u0 u1 d0 d1, xs = [u0, u1] ∧ ds = [d0, d1] ∧ Dp K H u0 d0 ∧ Dp K H u1 d1 := by
  cases h with
  | nil => cases hl
  | cons h0 h =>
    cases h with
    | nil => cases hl
    | cons h1 h =>
      cases h with
      | nil => exact ⟨_, _, _, _, rfl, rfl, h0, h1⟩
      | cons _ _ => simp at hl
theorem two_no {d e : PyData} (h : whD d = false ∨ whD e = false) : twoD (.tuple [d, e]) = none := by
  unfold twoD
  split
  · rename_i h2
    cases h2
    rcases h with h | h <;> cases h
  · rfl
abbrev s_is_pair : Stmt := topS 9
theorem sc_is_pair : FnScope ["rules", "string", "thing"] ["rules", "string", "thing"] (defScope s_is_pair) :=
  ⟨rfl, rfl, rfl, by decide +kernel, rfl, by decide +kernel, by decide +kernel⟩
def spIP {K : PySem.W.Frag} : Sp := fun vs H Q _ => ∃ (v t : V) (r : Rl) (x : Str) (d : PyData), vs = [v, .str x, t] ∧ RulesAt H v r ∧ x.length ≤ 1000 ∧ Dp K H t d ∧ ∀ H', Ext H H' → Q (.bl (prD r x d)) H'
theorem ok_ip {f : Addr} {fd : FuncData} (F : Fun K "is_pair" "is_pair" s_is_pair f fd) (cis_row : CRow P w K mg base) (cis_whole : CWh P w K mg base) (cmay_pair : CMP P w K mg base) : FnOk P w K mg base CX0 3 f fd ["rules", "string", "thing"] (spIP (K := K)) := by
  refine F.ok sc_is_pair (fun vs H Q E h => ?_) (fun cdv A outer s H vs Q E hr h => ?_)
  · obtain ⟨v, t, r, x, d, rfl, _⟩ := h
    rfl
  · obtain ⟨v, t, r, x, d, rfl, hR, hx, hd, q⟩ := h
    refine ⟨_, (pss_cons (ps_if (PW.pt (pw_or (pt_not (pt_val (pe_ca cis_row (hr.mono (by decide)) (by rfl) (pa_cons (pv 2) (pa_cons pe_int pa_nil))))) (pw_or (pt_not (pt_val (pe_ca cis_whole (hr.mono (by decide)) (by rfl) (pa_cons (pe_ix (ixT K) (pv 2) pe_int (fun _ _ => rfl)) pa_nil)))) (pw_or1 (pt_not (pt_val (pe_ca cis_whole (hr.mono (by decide)) (by rfl) (pa_cons (pe_ix (ixT K) (pv 2) pe_int (fun _ _ => rfl)) pa_nil)))))))) (pss_one (ps_ret pe_bl)) pss_nil)
      (pss_one (ps_ret (pe_ca cmay_pair (hr.mono (by decide)) (by rfl) (pa_cons (pv 0) (pa_cons (pv 1) (pa_cons (pe_ix (ixT K) (pv 2) pe_int (fun _ _ => rfl)) (pa_cons (pe_ix (ixT K) (pv 2) pe_int (fun _ _ => rfl)) pa_nil)))))))), ?_⟩
    have qF : twoD d = none → Q (.bl false) H := fun e => by
      have := q H Ext.refl
      unfold prD at this
      rw [e] at this
      exact this
    refine ⟨_, rfl, t, d, 2, rfl, .dp hd, rowD 2 d, rfl, ?_⟩
    cases hrow : rowD 2 d with
    | false =>
      refine iteT (qF ?_)
      unfold twoD
      split
      · cases hrow
      · rfl
    | true =>
      refine iteF ?_
      cases hd with
      | @tup a xs ds hs hds =>
        have hl : ds.length = 2 := by
          have : decide ((ds.length : Int) = 2) = true := hrow
          have := of_decide_eq_true this
          omega
        obtain ⟨u0, u1, d0, d1, rfl, rfl, h0, h1⟩ := dp_pair hds hl
        · refine ⟨_, rfl, a, _, 0, u0, rfl, rfl, hs, rfl, u0, d0, rfl, .dp h0, whD d0, rfl, ?_⟩
          cases e0 : whD d0 with
          | false => exact iteT (qF (two_no (.inl e0)))
          | true =>
            refine iteF ⟨_, rfl, a, _, 1, u1, rfl, rfl, hs, rfl, u1, d1, rfl, .dp h1, whD d1, rfl, ?_⟩
            cases e1 : whD d1 with
            | false => exact iteT (qF (two_no (.inr e1)))
            | true =>
              cases h0 with
              | int i =>
                cases h1 with
                | int j => exact iteF ⟨_, rfl, _, rfl, _, rfl, a, _, 0, _, rfl, rfl, hs, rfl, _, rfl, a, _, 1, _, rfl, rfl, hs, rfl, v, r, x, i, j, rfl, hR, hx, q⟩
                | _ => cases e1
              | _ => cases e0
      | _ => cases hrow
abbrev s_go_together : Stmt := topS 10
theorem sc_go_together : FnScope ["pair", "later"] ["pair", "later"] (defScope s_go_together) :=
  ⟨rfl, rfl, rfl, by decide +kernel, rfl, by decide +kernel, by decide +kernel⟩
def spGT {K : PySem.W.Frag} : Sp := fun vs H Q _ => ∃ (t u : V) (p y : Int × Int), vs = [t, u] ∧ TwoS K H t p ∧ TwoS K H u y ∧ Q (.bl (go2 p y)) H
theorem ok_gt {f : Addr} {fd : FuncData} {k : Nat} (F : Fun K "go_together" "go_together" s_go_together f fd) : FnOk P w K mg base CX0 (k + 1) f fd ["pair", "later"] (spGT (K := K)) := by
  refine F.ok sc_go_together (fun vs H Q E h => ?_) (fun cdv A outer s H vs Q E hr h => ?_)
  · obtain ⟨t, u, p, y, rfl, _⟩ := h
    rfl
  · obtain ⟨_, _, p, y, rfl, ⟨t, rfl, hT⟩, ⟨u, rfl, hU⟩, q⟩ := h
    refine ⟨_, (pss_one (ps_ret (pe_or (pe_cmpR op_lt (pe_ix (ixT K) (pv 0) pe_int (fun _ _ => rfl)) (pe_ix (ixT K) (pv 1) pe_int (fun _ _ => rfl)) (nomark _)) (pe_one (pe_cmpR op_lt (pe_ix (ixT K) (pv 1) pe_int (fun _ _ => rfl)) (pe_ix (ixT K) (pv 0) pe_int (fun _ _ => rfl)) (nomark _)))))), ?_⟩
    unfold go2 at q
    refine ⟨_, rfl, t, _, 1, _, rfl, rfl, hT, rfl, _, rfl, u, _, 0, _, rfl, rfl, hU, rfl, _, _, rfl, rfl, _, rfl, ite2 (fun e => ?_) (fun e => ?_)⟩
    · have e : decide (p.2 < y.1) = true := e
      rw [e, Bool.true_or] at q
      exact q
    · have e : decide (p.2 < y.1) = false := Bool.eq_false_iff.mpr e
      rw [e, Bool.false_or] at q
      exact ⟨_, rfl, u, _, 1, _, rfl, rfl, hU, rfl, _, rfl, t, _, 1, _, rfl, rfl, hT, rfl, _, _, rfl, rfl, q⟩
abbrev s_rises : Stmt := topS 3
theorem sc_rises : FnScope ["things", "thing", "after"] ["things"] (defScope s_rises) :=
  ⟨rfl, rfl, rfl, by decide +kernel, rfl, by decide +kernel, by decide +kernel⟩
def spRi {K : PySem.W.Frag} : Sp := fun vs H Q _ => ∃ (af : Addr) (fs : List V) (qs : List (Int × Int)), vs = [.ref af] ∧ SqT K H af fs ∧ Paired (TwoS K H) fs qs ∧ qs.length ≤ 1000 ∧ ∀ H', Ext H H' → Q (.bl ((risL qs).all id)) H'
theorem ok_ri {f : Addr} {fd : FuncData} {k : Nat} (F : Fun K "rises" "rises" s_rises f fd) (mall : mg "all" = none) (mzip : mg "zip" = none) : FnOk P w K mg base CX0 (k + 1) f fd ["things"] (spRi (K := K)) := by
  refine F.ok sc_rises (fun vs H Q E h => ?_) (fun cdv A outer s H vs Q E hr h => ?_)
  · obtain ⟨af, fs, qs, rfl, _⟩ := h
    rfl
  · obtain ⟨af, fs, qs, rfl, hF, hPs, hql, q⟩ := h
    refine ⟨_, (pss_one (ps_ret (pe_callB (cr_all rfl) (by rfl) mall (by decide +kernel) (pa_cons (pe_lc (own := [("thing", 1), ("after", 2)]) (g := gTup K 2 (gCons (gName 1) (gCons (gName 2) gNil))) (by rfl) sc_rises.nd (RZ.pi_zipA (by rfl) mzip (pa_cons (pv 0) (pa_cons (pe_slice (slS K) (pv 0) (po_some pe_int) po_none) pa_nil))) (blkOk_by (own := [("thing", 1), ("after", 2)]) (N := ["things", "thing", "after"]) (sc := defScope s_rises) (by decide +kernel)) (fun _ _ _ _ _ => (pgT K rfl (pgs_cons (pg_name (i := 1) sc_rises.nd rfl (.inl rfl)) (pgs_cons (pg_name (i := 2) sc_rises.nd rfl (.inl rfl)) pgs_nil)))) (fun _ _ _ _ _ => pts_nil) (fun _ _ _ _ _ => (pe_cmpR (OpR.or op_lt (ltT K hr.units0)) (pv 1) (pv 2) (nomark _)))) pa_nil)))), ?_⟩
    have hfl := paired_len hPs
    refine ⟨_, rfl, _, rfl, 1, rfl, af, fs, rfl, hF, fun t H1 k1 hT => ?_⟩
    have ec : cutV fs (some 1) none = fs.drop 1 := cut_from (k := 1)
    rw [ec] at hT
    have hrl : (risL qs).length = fs.length - 1 := by
      unfold risL
      rw [List.length_map, List.length_zip, List.length_drop]
      omega
    refine ⟨af, t, fs, fs.drop 1, rfl, .inr ⟨sqT_ext k1 hF, hT, fun D hD => lc_it (walk_zt (n := fs.length - 1) (by rw [List.length_drop]; omega)) (fun i H2 => H2 D = some (.lst (((risL qs).take i).map V.bl)) ∧ Ext H1 H2)
      ⟨upd_same, Ext.new hD⟩ (fun i H2 _ ⟨_, k⟩ => ⟨sqT_ext (k1.trans k) hF, sqT_ext k hT⟩) (fun i u H2 H3 hi hv hy => ?_) (fun H2 hv => ?_)⟩⟩
    · obtain ⟨hL, k2⟩ := hv
      obtain ⟨T, a, b, rfl, hTn, rfl, ha, hb⟩ := hy
      obtain ⟨y1, hy1, a1, rfl, ha1⟩ := paired_get hPs ha
      have hb : (fs.drop 1)[i]? = some b := hb
      rw [List.getElem?_drop] at hb
      obtain ⟨y2, hy2, a2, rfl, ha2⟩ := paired_get hPs hb
      have e3 := Ext.new (o := .tup [.ref a1, .ref a2]) hTn
      have k03 := (k1.trans k2).trans e3
      refine ⟨T, _, rfl, SqT.of upd_same, rfl, _, _, rfl, _, _, rfl, rfl, rfl, _, rfl, _, rfl, .inr ⟨a1, a2, [y1.1, y1.2], [y2.1, y2.2], rfl, rfl, sqT_ext k03 ha1, sqT_ext k03 ha2, _, e3 _ _ hL, szLt ?_, ?_, (k2.trans e3).put hD⟩⟩
      · rw [List.length_map, List.length_take]
        omega
      · have er : (risL qs)[i]? = some (lt2 y1 y2) := by
          unfold risL
          rw [List.getElem?_map, (List.getElem?_zip_eq_some (z := (y1, y2))).mpr ⟨hy1, by rw [List.getElem?_drop]; exact hy2⟩]
          rfl
        rw [upd_same, List.take_add_one, er, List.map_append, lex2]
        rfl
    · obtain ⟨hL, k2⟩ := hv
      rw [List.take_of_length_le (by omega)] at hL
      exact ⟨D, risL qs, rfl, SqL.of hL, q _ (k1.trans k2)⟩
abbrev CIP (P : Program) (w : World) (K : PySem.W.Frag) (mg : Str → Option Value) (base : Heap) : Prop := Ca P w K mg base 3 "is_pair" ["rules", "string", "thing"] (spIP (K := K))
abbrev CGT (P : Program) (w : World) (K : PySem.W.Frag) (mg : Str → Option Value) (base : Heap) : Prop := Ca P w K mg base 1 "go_together" ["pair", "later"] (spGT (K := K))
abbrev CRi (P : Program) (w : World) (K : PySem.W.Frag) (mg : Str → Option Value) (base : Heap) : Prop := Ca P w K mg base 1 "rises" ["things"] (spRi (K := K))
def foD (r : Rl) (x : Str) (d : PyData) : Bool := match d with
  | .tuple ds => match ds.mapM twoD with
    | some qs => isF r x qs
    | none => false
  | _ => false
theorem all_prD {r : Rl} {x : Str} : ∀ {ds : List PyData}, (ds.map (prD r x)).all id = true → ∃ qs, ds.mapM twoD = some qs ∧ (qs.map fun y => mayP r x y.1 y.2).all id = true
  | [], _ => ⟨[], List.mapM_nil, rfl⟩
  | d :: ds, h => by
    rw [List.map_cons, List.all_cons, Bool.and_eq_true] at h
    obtain ⟨qs, h1, h2⟩ := all_prD h.2
    cases e : twoD d with
    | none =>
      have := h.1
      unfold prD at this
      rw [e] at this
      cases this
    | some y =>
      refine ⟨y :: qs, ?_, ?_⟩
      · rw [List.mapM_cons, e, h1]
        rfl
      · rw [List.map_cons, List.all_cons, h2, Bool.and_true]
        have := h.1
        unfold prD at this
        rw [e] at this
        exact this
theorem fo_no {r : Rl} {x : Str} {ds : List PyData} (h : (ds.map (prD r x)).all id = false) : foD r x (.tuple ds) = false := by
  show (match ds.mapM twoD with | some qs => isF r x qs | none => false) = false
  cases e : ds.mapM twoD with
  | none => rfl
  | some qs =>
    show isF r x qs = false
    unfold isF
    have e2 : (qs.map fun y => mayP r x y.1 y.2).all id = (ds.map (prD r x)).all id := by
      clear h
      induction ds generalizing qs with
      | nil =>
        rw [List.mapM_nil] at e
        cases e
        rfl
      | cons d ds ih =>
        rw [List.mapM_cons] at e
        cases h1 : twoD d with
        | none =>
          rw [h1] at e
          cases e
        | some y =>
          rw [h1] at e
          cases h2 : ds.mapM twoD with
          | none =>
            rw [h2] at e
            cases e
          | some ys =>
            rw [h2] at e
            cases e
            rw [List.map_cons, List.map_cons, List.all_cons, List.all_cons, ih _ h2]
            unfold prD
            rw [h1]
    rw [e2, h, Bool.false_and]
abbrev s_is_folding : Stmt := topS 11
theorem sc_is_folding : FnScope ["rules", "string", "thing", "at", "pair", "later"] ["rules", "string", "thing"] (defScope s_is_folding) :=
  ⟨rfl, rfl, rfl, by decide +kernel, rfl, by decide +kernel, by decide +kernel⟩
def spIF {K : PySem.W.Frag} : Sp := fun vs H Q _ => ∃ (v t : V) (r : Rl) (x : Str) (d : PyData), vs = [v, .str x, t] ∧ RulesAt H v r ∧ x.length ≤ 1000 ∧ Dq K H t d ∧ (∀ ds, d = .tuple ds → ds.length ≤ 100) ∧ ∀ H', Ext H H' → Q (.bl (foD r x d)) H'
theorem ok_if {f : Addr} {fd : FuncData} (F : Fun K "is_folding" "is_folding" s_is_folding f fd) (cis_pair : CIP P w K mg base) (cgo_together : CGT P w K mg base) (crises : CRi P w K mg base) (misinstance : mg "isinstance" = none) (mtuple : mg "tuple" = none) (mall : mg "all" = none) (menumerate : mg "enumerate" = none) : FnOk P w K mg base CX0 4 f fd ["rules", "string", "thing"] (spIF (K := K)) := by
  refine F.ok sc_is_folding (fun vs H Q E h => ?_) (fun cdv A outer s H vs Q E hr h => ?_)
  · obtain ⟨v, t, r, x, d, rfl, _⟩ := h
    rfl
  · obtain ⟨v, t, r, x, d, rfl, hR, hx, hd, hdl, q⟩ := h
    refine ⟨_, (pss_cons (ps_if (PW.pt (pw_or (pt_not (pt_val (pe_callB (isi1 K) (by rfl) misinstance (by decide +kernel) (pa_cons (pv 2) (pa_cons (pe_bltn (v := .ty "tuple") (by rfl) mtuple (by decide +kernel) rfl) pa_nil))))) (pw_or1 (pt_not (pt_val (pe_callB (cr_all rfl) (by rfl) mall (by decide +kernel) (pa_cons (pe_lc (own := [("pair", 4)]) (g := gName 4) (by rfl) sc_is_folding.nd (pi_tup (pv 2)) (blkOk_by (own := [("pair", 4)]) (N := ["rules", "string", "thing", "at", "pair", "later"]) (sc := defScope s_is_folding) (by decide +kernel)) (fun _ _ _ _ _ => (pg_name (i := 4) sc_is_folding.nd rfl (.inl rfl))) (fun _ _ _ _ _ => pts_nil) (fun _ _ _ _ _ => (pe_ca cis_pair (hr.mono (by decide)) (by rfl) (pa_cons (pv 0) (pa_cons (pv 1) (pa_cons (pv 4) pa_nil)))))) pa_nil))))))) (pss_one (ps_ret pe_bl)) pss_nil)
      (pss_cons (ps_if (pt_not (pt_val (pe_ca crises (hr.mono (by decide)) (by rfl) (pa_cons (pv 2) pa_nil)))) (pss_one (ps_ret pe_bl)) pss_nil)
      (pss_one (ps_ret (pe_callB (cr_all rfl) (by rfl) mall (by decide +kernel) (pa_cons (pe_lc2 (own := [("at", 3), ("pair", 4), ("later", 5)]) (vs1 := [5]) (g := gTup K 2 (gCons (gName 3) (gCons (gName 4) gNil))) (g1 := gName 5) (by rfl) sc_is_folding.nd (pi_enumT (by rfl) menumerate (pa_cons (pv 2) pa_nil)) (blkOk_by (own := [("at", 3), ("pair", 4), ("later", 5)]) (N := ["rules", "string", "thing", "at", "pair", "later"]) (sc := defScope s_is_folding) (by decide +kernel)) (by decide) (fun _ _ _ _ _ => (pgT K rfl (pgs_cons (pg_name (i := 3) sc_is_folding.nd rfl (.inl rfl)) (pgs_cons (pg_name (i := 4) sc_is_folding.nd rfl (.inl rfl)) pgs_nil)))) (fun _ _ _ _ _ => pts_nil) (fun _ _ _ _ _ => (piT K (pe_slice (slS K) (pv 2) (po_some (pe_op op_add (pv 3) pe_int)) po_none))) (fun _ _ _ _ _ => (pg_name (i := 5) sc_is_folding.nd rfl (.inl rfl))) (fun _ _ _ _ _ => pts_nil) (fun _ _ _ _ _ => (pe_ca cgo_together (hr.mono (by decide)) (by rfl) (pa_cons (pv 4) (pa_cons (pv 5) pa_nil))))) pa_nil)))))), ?_⟩
    refine ⟨_, rfl, t, .ty "tuple", _, _, isTup d, rfl, .ty _, hd.ty, kit_tup d, isTup d, rfl, ?_⟩
    cases hd with
    | emp _ => exact iteT (q H Ext.refl)
    | dp hd =>
      cases hd with
      | @tup af fs ds hF hds =>
        refine iteF ?_
        have hfl := dpAll_len hds
        have hql := hdl ds rfl
        -- all([is_pair(..)])
        refine ⟨_, rfl, af, rfl, ⟨_, hF⟩, fun D hD => lc_tup (K := K) (xs := fs) (fun i H2 => H2 D = some (.lst (((ds.take i).map (prD r x)).map V.bl)) ∧ Ext H H2)
          ⟨upd_same, Ext.new hD⟩ (fun i H2 _ ⟨_, k⟩ => sqT_ext k hF) (fun i u H2 hi hv => ?_) (fun H2 hv => ?_)⟩
        · obtain ⟨hL, k2⟩ := hv
          obtain ⟨d1, hd1, hdp⟩ := dpAll_get hds hi
          refine ⟨rfl, _, rfl, _, rfl, _, rfl, v, u, r, x, d1, rfl, RulesAt.mono _ _ _ _ (TupK.ext k2) hR, hx, dp_ext k2 hdp, fun H3 k3 => ⟨_, k3 _ _ hL, szLt ?_, ?_, (k2.trans k3).put hD⟩⟩
          · rw [List.length_map, List.length_map, List.length_take]
            omega
          · rw [upd_same, List.take_add_one, hd1, List.map_append, List.map_append]
            rfl
        · obtain ⟨hL, k2⟩ := hv
          rw [List.take_of_length_le (by omega)] at hL
          refine ⟨D, _, rfl, SqL.of hL, _, rfl, ite2 (fun e => ?_) (fun e => ?_)⟩
          · have e : (ds.map (prD r x)).all id = false := by simpa using e
            have := q H2 k2
            rw [fo_no e] at this
            exact this
          · have e : (ds.map (prD r x)).all id = true := by simpa using e
            obtain ⟨qs, hqs, hall⟩ := all_prD e
            have hPs := paired_two hds hqs
            have hqn := mapM_len hqs
            have q1 : ∀ H', Ext H H' → Q (.bl ((risL qs).all id && (goL qs).all id)) H' := fun H' k => by
              have := q H' k
              have e3 : foD r x (.tuple ds) = ((risL qs).all id && (goL qs).all id) := by
                show (match ds.mapM twoD with | some qs => isF r x qs | none => false) = _
                rw [hqs]
                show isF r x qs = _
                unfold isF
                rw [hall, Bool.true_and]
              rw [e3] at this
              exact this
            refine ⟨_, rfl, af, fs, qs, rfl, sqT_ext k2 hF, paired_imp (fun _ _ => TwoS.ext k2) hPs, by omega, fun H3 k3 => ⟨_, rfl, ite2 (fun e2 => ?_) (fun e2 => ?_)⟩⟩
            · have e2 : (risL qs).all id = false := by simpa using e2
              have := q1 H3 (k2.trans k3)
              rw [e2, Bool.false_and] at this
              exact this
            · have e2 : (risL qs).all id = true := by simpa using e2
              have q2 : ∀ H', Ext H H' → Q (.bl ((goL qs).all id)) H' := fun H' k => by
                have := q1 H' k
                rw [e2, Bool.true_and] at this
                exact this
              have k03 := k2.trans k3
              have hgl := goL_len qs
              have hgm : qs.length * qs.length ≤ 100 * 100 := Nat.mul_le_mul (by omega) (by omega)
              refine ⟨_, rfl, af, fs, rfl, sqT_ext k03 hF, fun D2 hD2 => lc_two walk_et (fun i H4 => ∃ bs : List Bool, goL qs = bs ++ goL (qs.drop i) ∧ H4 D2 = some (.lst (bs.map V.bl)) ∧ Ext H3 H4)
                ⟨[], rfl, upd_same, Ext.new hD2⟩ (fun i H4 _ ⟨_, _, _, k⟩ => sqT_ext (k03.trans k) hF) (fun i u H4 H5 hi hv hy => ?_) (fun H4 hv => ?_)⟩
              · obtain ⟨bs, hbs, hL4, k4⟩ := hv
                obtain ⟨T, a, b, rfl, hTn, rfl, ha, hb⟩ := hy
                cases ha
                obtain ⟨p, hp, a1, rfl, ha1⟩ := paired_get hPs hb
                have e5 := Ext.new (o := .tup [.int (i : Nat), .ref a1]) hTn
                have k05 := (k03.trans k4).trans e5
                refine ⟨T, _, rfl, SqT.of upd_same, rfl, _, _, rfl, _, _, rfl, rfl, rfl, ?_⟩
                refine ⟨_, rfl, _, rfl, _, 1, rfl, rfl, _, rfl, af, fs, rfl, sqT_ext k05 hF, fun t H6 k6 hT => ?_⟩
                have ec : cutV fs (some ((i : Int) + 1)) none = fs.drop (i + 1) := cut_from (k := i + 1)
                rw [ec] at hT
                have k06 := k05.trans k6
                rw [goL_at hp, ← List.append_assoc] at hbs
                refine ⟨t, rfl, ⟨_, hT⟩, lc_in (walk_tup (xs := fs.drop (i + 1))) (fun j H7 => H7 D2 = some (.lst ((bs ++ ((qs.drop (i + 1)).take j).map (go2 p)).map V.bl)) ∧ Ext' H6 H7 D2 ∧ Ext H3 H7)
                  ⟨?_, Ext'.refl, (k4.trans e5).trans k6⟩ (fun j H7 _ ⟨_, h, _⟩ => h.sqT hT (k6 _ _ (e5 _ _ hL4))) (fun j u H7 H8 hj hv hy => ?_) (fun H7 hv => ?_)⟩
                · rw [List.take_zero, List.map_nil, List.append_nil]
                  exact k6 _ _ (e5 _ _ hL4)
                · obtain ⟨hL7, hT7, k7⟩ := hv
                  obtain ⟨rfl, hu⟩ := hy
                  obtain ⟨y, hy, a2, rfl, ha2⟩ := paired_get (paired_drop (i + 1) hPs) hu
                  have k07 := k03.trans k7
                  refine ⟨rfl, _, rfl, _, rfl, _, _, p, y, rfl, ⟨a1, rfl, sqT_ext k07 ha1⟩, ⟨a2, rfl, sqT_ext k07 ha2⟩, _, hL7, szLt ?_, ?_, hT7.put, k7.put hD2⟩
                  · have hz := congrArg List.length hbs
                    rw [List.length_append, List.length_append, List.length_map] at hz
                    rw [List.length_map, List.length_append, List.length_map, List.length_take]
                    omega
                  · rw [upd_same, List.take_add_one, hy]
                    simp only [List.map_append, List.append_assoc]
                    rfl
                · obtain ⟨hL7, _, k7⟩ := hv
                  rw [List.take_of_length_le (by rw [List.length_drop, List.length_drop]; omega)] at hL7
                  exact ⟨_, hbs, hL7, k7⟩
              · obtain ⟨bs, hbs, hL4, k4⟩ := hv
                rw [List.drop_eq_nil_of_le (by omega)] at hbs
                rw [show goL [] = [] from rfl, List.append_nil] at hbs
                subst hbs
                exact ⟨D2, goL qs, rfl, SqL.of hL4, q2 _ (k03.trans k4)⟩
      | _ => exact iteT (q H Ext.refl)
abbrev CIF (P : Program) (w : World) (K : PySem.W.Frag) (mg : Str → Option Value) (base : Heap) : Prop := Ca P w K mg base 4 "is_folding" ["rules", "string", "thing"] (spIF (K := K))
end
end Pf


namespace Pf
open PySem PySem.Spec PyProof.Rows L2
def le2 (p q : Int × Int) : Bool := decide (p.1 < q.1 ∨ (p.1 = q.1 ∧ p.2 ≤ q.2))
def srt (ps : List (Int × Int)) : List (Int × Int) := ps.mergeSort le2
theorem le2_trans (a b c : Int × Int) (h1 : le2 a b = true) (h2 : le2 b c = true) : le2 a c = true := by
  have h1 := of_decide_eq_true h1
  have h2 := of_decide_eq_true h2
  exact decide_eq_true (by omega)
theorem le2_total (a b : Int × Int) : (le2 a b || le2 b a) = true := by
  rw [Bool.or_eq_true]
  by_cases h : a.1 < b.1 ∨ (a.1 = b.1 ∧ a.2 ≤ b.2)
  · exact .inl (decide_eq_true h)
  · exact .inr (decide_eq_true (by omega))
theorem srt_unique {L M : List (Int × Int)} (h1 : L.Pairwise (fun a b => le2 a b = true)) (h2 : M.Pairwise (fun a b => le2 a b = true)) (h : L.Perm M) : L = M :=
  List.Perm.eq_of_pairwise (fun a b _ _ x y => by
    have x := of_decide_eq_true x
    have y := of_decide_eq_true y
    exact Prod.ext (by omega) (by omega)) h1 h2 h
theorem srt_pw (ps : List (Int × Int)) : (srt ps).Pairwise (fun a b => le2 a b = true) := List.pairwise_mergeSort le2_trans le2_total ps
theorem srt_perm {F ps : List (Int × Int)} (h : F.Perm ps) : srt F = srt ps :=
  srt_unique (srt_pw F) (srt_pw ps) (((List.mergeSort_perm F le2).trans h).trans (List.mergeSort_perm ps le2).symm)
theorem twos_zip {K : PySem.W.Frag} {H : Hp} : ∀ {vs : List V} {ps : List (Int × Int)}, Paired (TwoS K H) vs ps → ∃ bes : List (Addr × (Int × Int)), bes.map (fun x => V.ref x.1) = vs ∧ bes.map (·.2) = ps ∧ ∀ x ∈ bes, SqT K H x.1 [.int x.2.1, .int x.2.2]
  | _, _, .nil => ⟨[], rfl, rfl, fun x h => by cases h⟩
  | _, _, .cons (b := y) ⟨a, e, ha⟩ t => by
    obtain ⟨bes, h1, h2, h3⟩ := twos_zip t
    refine ⟨(a, y) :: bes, by rw [List.map_cons, h1, e], by rw [List.map_cons, h2], fun x hx => ?_⟩
    rcases List.mem_cons.mp hx with rfl | hx
    · exact ha
    · exact h3 x hx
theorem paired_of {K : PySem.W.Frag} {H : Hp} : ∀ {bes : List (Addr × (Int × Int))}, (∀ x ∈ bes, SqT K H x.1 [.int x.2.1, .int x.2.2]) → Paired (TwoS K H) (bes.map fun x => V.ref x.1) (bes.map (·.2))
  | [], _ => .nil
  | x :: r, h => .cons ⟨x.1, rfl, h x (List.mem_cons_self ..)⟩ (paired_of fun y hy => h y (List.mem_cons_of_mem _ hy))
/-- sorted of a tuple of pairs -/
theorem sort_twoT {K : PySem.W.Frag} {H : Hp} {l : Addr} {vs : List V} {ps : List (Int × Int)} {Q : VK} (hL : SqT K H l vs) (hPr : Paired (TwoS K H) vs ps) (q : ∀ (p : Addr) (us : List V), H p = none → Paired (TwoS K (upd H p (.lst us))) us (srt ps) → us.length = vs.length → Q (.ref p) (upd H p (.lst us))) : rSortTD K [.ref l] H Q := by
  obtain ⟨bes, h1, h2, h3⟩ := twos_zip hPr
  refine ⟨_, fun x => V.ref x.1, fun x => .tuple [.int x.2.1, .int x.2.2], l, bes, rfl, (by rw [h1]; exact hL), fun x hx => ⟨.tup (h3 x hx) (.cons (.int _) (.cons (.int _) .nil)), by simp [PyData.depth, PyData.depthAll]⟩, ?_, .inl ?_, fun p hp => ?_⟩
  · intro d1 e1 d2 e2
    obtain ⟨x1, _, rfl⟩ := List.mem_map.mp e1
    obtain ⟨x2, _, rfl⟩ := List.mem_map.mp e2
    simp [PySem.W.alike, PySem.W.alikeAll]
  · intro d1 e1
    obtain ⟨x1, _, rfl⟩ := List.mem_map.mp e1
    exact ⟨_, _, rfl⟩
  · have ele : PySem.W.dataLe false (fun x : Addr × (Int × Int) => PyData.tuple [.int x.2.1, .int x.2.2]) = fun p q => le2 p.2 q.2 := PySem.W.dataLe_ii (fun x : Addr × (Int × Int) => x.2.1) (fun x : Addr × (Int × Int) => x.2.2)
    rw [ele]
    have hp0 : (bes.mergeSort fun p q => le2 p.2 q.2).Perm bes := List.mergeSort_perm _ _
    have hp1 : ((bes.mergeSort fun p q => le2 p.2 q.2).map (·.2)).Perm ps := by
      have z := hp0.map (fun x : Addr × (Int × Int) => x.2)
      rw [h2] at z
      exact z
    have hpw : ((bes.mergeSort fun p q => le2 p.2 q.2).map (·.2)).Pairwise (fun a b => le2 a b = true) := by
      rw [List.pairwise_map]
      exact List.pairwise_mergeSort (fun a b c => le2_trans a.2 b.2 c.2) (fun a b => le2_total a.2 b.2) bes
    have hs : (bes.mergeSort fun p q => le2 p.2 q.2).map (·.2) = srt ps := srt_unique hpw (srt_pw ps) (hp1.trans (List.mergeSort_perm ps le2).symm)
    refine q p _ hp ?_ ?_
    · rw [← hs]
      exact paired_of fun x hx => sqT_ext (Ext.new hp) (h3 x (hp0.mem_iff.mp hx))
    · rw [List.length_map, List.length_mergeSort, ← h1, List.length_map]
theorem srt_len (ps : List (Int × Int)) : (srt ps).length = ps.length := List.length_mergeSort ..
/-! ### a folding by the law's look is one by the program's -/
def Apart (a b : Int × Int) : Prop := a.1 < b.1 ∧ (a.2 < b.1 ∨ b.2 < a.2)
theorem ris_pw : ∀ {qs : List (Int × Int)}, qs.Pairwise Apart → (risL qs).all id = true
  | [], _ => rfl
  | [_], _ => rfl
  | a :: b :: r, h => by
    have h1 := (List.pairwise_cons.mp h).1 b (List.mem_cons_self ..)
    have h2 := ris_pw (List.pairwise_cons.mp h).2
    show (lt2 a b && (risL (b :: r)).all id) = true
    rw [h2, Bool.and_true]
    exact decide_eq_true (.inl h1.1)
theorem go_pw : ∀ {qs : List (Int × Int)}, qs.Pairwise Apart → (goL qs).all id = true
  | [], _ => rfl
  | a :: r, h => by
    have h1 := (List.pairwise_cons.mp h).1
    rw [goL, List.all_append, go_pw (List.pairwise_cons.mp h).2, Bool.and_true, List.all_map, List.all_eq_true]
    intro y hy
    have := (h1 y hy).2
    show (decide (a.2 < y.1) || decide (y.2 < a.2)) = true
    rw [Bool.or_eq_true]
    rcases this with z | z
    · exact .inl (decide_eq_true z)
    · exact .inr (decide_eq_true z)
theorem pw_ris : ∀ {qs : List (Int × Int)}, (risL qs).all id = true → qs.Pairwise fun a b => lt2 a b = true
  | [], _ => .nil
  | [_], _ => List.pairwise_singleton _ _
  | a :: b :: r, h => by
    have h : (lt2 a b && (risL (b :: r)).all id) = true := h
    rw [Bool.and_eq_true] at h
    have ih := pw_ris h.2
    refine List.pairwise_cons.mpr ⟨fun y hy => ?_, ih⟩
    rcases List.mem_cons.mp hy with rfl | hy
    · exact h.1
    · have h2 := of_decide_eq_true ((List.pairwise_cons.mp ih).1 y hy)
      have h1 := of_decide_eq_true h.1
      exact decide_eq_true (by omega)
theorem pw_go : ∀ {qs : List (Int × Int)}, (goL qs).all id = true → qs.Pairwise fun a b => go2 a b = true
  | [], _ => .nil
  | a :: r, h => by
    rw [goL, List.all_append, Bool.and_eq_true, List.all_map, List.all_eq_true] at h
    exact List.pairwise_cons.mpr ⟨fun y hy => h.1 y hy, pw_go h.2⟩
theorem isF_ap {r : Rl} {x : Str} {qs : List (Int × Int)} (hm : ∀ y ∈ qs, mayP r x y.1 y.2 = true) : isF r x qs = true ↔ qs.Pairwise Apart := by
  have hlt : ∀ y ∈ qs, y.1 < y.2 := fun y hy => by
    have := hm y hy
    unfold mayP at this
    rw [Bool.and_eq_true] at this
    exact (of_decide_eq_true this.1).2.1
  have e : (qs.map fun y => mayP r x y.1 y.2).all id = true := by
    rw [List.all_map, List.all_eq_true]
    exact fun y hy => hm y hy
  unfold isF
  rw [e, Bool.true_and, Bool.and_eq_true]
  constructor
  · rintro ⟨h1, h2⟩
    have h3 := (pw_ris h1).and (pw_go h2)
    refine h3.imp_of_mem fun {a b} ha hb h => ?_
    have ha := hlt a ha
    have hb := hlt b hb
    have h1 := of_decide_eq_true h.1
    have h2 : (decide (a.2 < b.1) || decide (b.2 < a.2)) = true := h.2
    rw [Bool.or_eq_true, decide_eq_true_iff, decide_eq_true_iff] at h2
    exact ⟨by omega, h2⟩
  · exact fun h => ⟨ris_pw h, go_pw h⟩
def plc (qs : List (Int × Int)) : List Int := (qs.map fun y => [y.1, y.2]).flatten
theorem pw_mem {α : Type} {R : α → α → Prop} {S : α → α → Prop} (hs : ∀ a b, R a b → S a b ∧ S b a) (h0 : ∀ a, S a a) : ∀ {l : List α}, l.Pairwise R → ∀ a ∈ l, ∀ b ∈ l, S a b
  | [], _, a, ha, _, _ => by cases ha
  | x :: r, h, a, ha, b, hb => by
    have h1 := List.pairwise_cons.mp h
    rcases List.mem_cons.mp ha with e | ha'
    · rcases List.mem_cons.mp hb with e2 | hb'
      · rw [e, e2]
        exact h0 _
      · rw [e]
        exact (hs _ _ (h1.1 b hb')).1
    · rcases List.mem_cons.mp hb with e2 | hb'
      · rw [e2]
        exact (hs _ _ (h1.1 a ha')).2
      · exact pw_mem hs h0 h1.2 a ha' b hb'
theorem law_ap {qs : List (Int × Int)} (hlt : ∀ y ∈ qs, y.1 < y.2) : ((plc qs).Nodup ∧ qs = srt qs ∧ ∀ a ∈ qs, ∀ b ∈ qs, ¬ (a.1 < b.1 ∧ b.1 < a.2 ∧ a.2 < b.2)) ↔ qs.Pairwise Apart := by
  constructor
  · rintro ⟨h1, h2, h3⟩
    have h4 : qs.Pairwise fun a b => le2 a b = true := by
      rw [h2]
      exact srt_pw qs
    unfold plc at h1
    have h5 : (qs.map fun y => [y.1, y.2]).Pairwise (fun l₁ l₂ => ∀ a ∈ l₁, ∀ b ∈ l₂, a ≠ b) := (List.pairwise_flatten.mp h1).2
    rw [List.pairwise_map] at h5
    refine (h4.and h5).imp_of_mem fun {a b} ha hb h => ?_
    have la := hlt a ha
    have lb := hlt b hb
    have c1 := h3 a ha b hb
    have h6 := of_decide_eq_true h.1
    have d1 := h.2 a.1 (by simp) b.1 (by simp)
    have d2 := h.2 a.2 (by simp) b.1 (by simp)
    have d3 := h.2 a.2 (by simp) b.2 (by simp)
    exact ⟨by omega, by omega⟩
  · intro h
    refine ⟨?_, ?_, ?_⟩
    · unfold plc
      refine List.pairwise_flatten.mpr ⟨fun l hl => ?_, ?_⟩
      · obtain ⟨y, hy, rfl⟩ := List.mem_map.mp hl
        have := hlt y hy
        simp
        omega
      · rw [List.pairwise_map]
        refine h.imp_of_mem fun {a b} ha hb h => ?_
        have la := hlt a ha
        have lb := hlt b hb
        obtain ⟨h1, h2⟩ := h
        intro u hu v hv
        simp only [List.mem_cons, List.not_mem_nil, or_false] at hu hv
        omega
    · exact srt_unique (h.imp fun {a b} z => decide_eq_true (.inl z.1)) (srt_pw qs) (List.mergeSort_perm qs le2).symm
    · refine pw_mem (S := fun a b => ¬ (a.1 < b.1 ∧ b.1 < a.2 ∧ a.2 < b.2)) (fun a b h => ?_) (fun a => by omega) h
      obtain ⟨h1, h2⟩ := h
      exact ⟨by omega, by omega⟩
theorem plc_map : ∀ qs : List (Int × Int), (qs.map fun y => [V.int y.1, V.int y.2]).flatten = (plc qs).map V.int
  | [] => rfl
  | y :: r => by
    rw [List.map_cons, List.flatten_cons, plc_map r]
    rfl
theorem plc_len : ∀ qs : List (Int × Int), (plc qs).length = 2 * qs.length
  | [] => rfl
  | y :: r => by
    have ih := plc_len r
    unfold plc at ih ⊢
    rw [List.map_cons, List.flatten_cons, List.length_append, ih, List.length_cons]
    rw [List.length_cons (a := y) (as := r)]
    show 2 + _ = _
    omega
theorem eqv_tw (q r : Int × Int) : PyData.eqv (dTw q) (dTw r) = decide (q = r) := by
  have e : PyData.eqv (dTw q) (dTw r) = (decide (q.1 = r.1) && decide (q.2 = r.2)) := by
    simp only [dTw, PyData.eqv, PyData.eqvAll, Bool.and_true]
    rfl
  rw [e]
  by_cases h1 : q.1 = r.1
  · by_cases h2 : q.2 = r.2
    · rw [decide_eq_true h1, decide_eq_true h2, decide_eq_true (Prod.ext h1 h2)]
      rfl
    · rw [decide_eq_false h2, decide_eq_false (show ¬ q = r from fun z => h2 (by rw [z])), Bool.and_false]
  · rw [decide_eq_false h1, decide_eq_false (show ¬ q = r from fun z => h1 (by rw [z])), Bool.false_and]
theorem eqvA_tw : ∀ (qs rs : List (Int × Int)), PyData.eqvAll (qs.map dTw) (rs.map dTw) = decide (qs = rs)
  | [], [] => by simp [PyData.eqvAll]
  | [], _ :: _ => by simp [PyData.eqvAll]
  | _ :: _, [] => by simp [PyData.eqvAll]
  | q :: qs, r :: rs => by
    rw [List.map_cons, List.map_cons, PyData.eqvAll, eqv_tw, eqvA_tw qs rs]
    by_cases h1 : q = r
    · by_cases h2 : qs = rs
      · rw [decide_eq_true h1, decide_eq_true h2, decide_eq_true (by rw [h1, h2])]
        rfl
      · rw [decide_eq_false h2, decide_eq_false (show ¬ q :: qs = r :: rs from fun z => h2 (List.cons.inj z).2), Bool.and_false]
    · rw [decide_eq_false h1, decide_eq_false (show ¬ q :: qs = r :: rs from fun z => h1 (List.cons.inj z).1), Bool.false_and]
theorem eqv_twos (qs rs : List (Int × Int)) : PyData.eqv (.list (qs.map dTw)) (.list (rs.map dTw)) = decide (qs = rs) := by
  rw [PyData.eqv, eqvA_tw]
theorem eqv_none (ds : List PyData) : PyData.eqv (.list ds) (.list []) = ds.isEmpty := by
  cases ds <;> simp [PyData.eqv, PyData.eqvAll]
theorem sm_twoL {qs : List (Int × Int)} (hn : qs.length ≤ 100) (h : ∀ y ∈ qs, -1000 ≤ y.1 ∧ y.1 ≤ 1000 ∧ -1000 ≤ y.2 ∧ y.2 ≤ 1000) : Sm 20000 2 (.list (qs.map dTw)) := by
  refine Sm.lst (n := 100) (m := 130) (k := 1) (by rw [List.length_map]; exact hn) (fun d hd => ?_) (by decide)
  obtain ⟨y, hy, rfl⟩ := List.mem_map.mp hd
  have h1 := h y hy
  refine Sm.tup (n := 2) (m := 64) (k := 0) (Nat.le_refl _) (fun d hd => ?_) (by decide)
  simp only [List.mem_cons, List.not_mem_nil, or_false] at hd
  rcases hd with rfl | rfl
  · exact Sm.int (by omega) (by omega)
  · exact Sm.int (by omega) (by omega)
def badD (x : Str) : PyData → Bool
  | .int i => !decide (0 ≤ i ∧ i < x.length)
  | _ => true
theorem fo_bad {r : Rl} {x : Str} {ds : List PyData} {d : PyData} (h : d ∈ ds) (e : prD r x d = false) : foD r x (.tuple ds) = false := by
  refine fo_no ?_
  cases z : (ds.map (prD r x)).all id with
  | false => rfl
  | true =>
    rw [List.all_map, List.all_eq_true] at z
    have := z d h
    show true = false
    rw [← this]
    exact e
theorem pr_row {r : Rl} {x : Str} {d : PyData} (h : rowD 2 d = false) : prD r x d = false := by
  unfold prD twoD
  split
  · rename_i h2
    split at h2
    · cases h
    · cases h2
  · rfl
theorem pr_bad {r : Rl} {x : Str} {ds : List PyData} {d : PyData} (h : d ∈ ds) (e : badD x d = true) : prD r x (.tuple ds) = false := by
  unfold prD
  cases z : twoD (.tuple ds) with
  | none => rfl
  | some y =>
    have e2 := twoD_some z
    injection e2 with e2
    rw [e2] at h
    simp only [List.mem_cons, List.not_mem_nil, or_false] at h
    show mayP r x y.1 y.2 = false
    unfold mayP
    have : ¬ (0 ≤ y.1 ∧ y.1 < y.2 ∧ y.2 < x.length) := fun q => by
      rcases h with rfl | rfl
      · have e : (!decide (0 ≤ y.1 ∧ y.1 < (x.length : Int))) = true := e
        rw [decide_eq_true (show 0 ≤ y.1 ∧ y.1 < x.length by omega)] at e
        cases e
      · have e : (!decide (0 ≤ y.2 ∧ y.2 < (x.length : Int))) = true := e
        rw [decide_eq_true (show 0 ≤ y.2 ∧ y.2 < x.length by omega)] at e
        cases e
    rw [decide_eq_false this, Bool.false_and]
def crB (y b : Int × Int) : Bool := decide (y.1 < b.1 ∧ b.1 < y.2 ∧ y.2 < b.2)
section
variable {P : Program} {w : World} {K : PySem.W.Frag} {mg : Str → Option Value} {base : Heap}
abbrev s_law_is_folding : Stmt := topS 27
theorem sc_law_is_folding : FnScope ["_law_code_here", "_law_word_here", "_law_some", "_law_one", "_law_places", "_law_at", "_law_other"] ["_law_code_here", "_law_word_here", "_law_some"] (defScope s_law_is_folding) :=
  ⟨rfl, rfl, rfl, by decide +kernel, rfl, by decide +kernel, by decide +kernel⟩
def spLIF {K : PySem.W.Frag} : Sp := fun vs H Q _ => ∃ (v t : V) (r : Rl) (x : Str) (d : PyData), vs = [v, .str x, t] ∧ RulesAt H v r ∧ r.prs.length ≤ 12 ∧ x.length ≤ 1000 ∧ Dq K H t d ∧ (∀ ds, d = .tuple ds → ds.length ≤ 100) ∧ ∀ H', Ext H H' → Q (.bl (foD r x d)) H'
theorem ok_lif {f : Addr} {fd : FuncData} (F : Fun K "_law_is_folding" "_law_is_folding" s_law_is_folding f fd) (c_law_may : CMay P w K mg base) (misinstance : mg "isinstance" = none) (mtuple : mg "tuple" = none) (mint : mg "int" = none) (mbool : mg "bool" = none) (mlen : mg "len" = none) (msum : mg "sum" = none) (mlist : mg "list" = none) (mset : mg "set" = none) (msorted : mg "sorted" = none) : FnOk P w K mg base CX0 2 f fd ["_law_code_here", "_law_word_here", "_law_some"] (spLIF (K := K)) := by
  refine F.ok sc_law_is_folding (fun vs H Q E h => ?_) (fun cdv A outer s H vs Q E hr h => ?_)
  · obtain ⟨v, t, r, x, d, rfl, _⟩ := h
    rfl
  · obtain ⟨v, t, r, x, d, rfl, hR, hpl, hx, hd, hdl, q⟩ := h
    refine ⟨_, (pss_cons (ps_if (pt_not (pt_val (pe_callB (isi1 K) (by rfl) misinstance (by decide +kernel) (pa_cons (pv 2) (pa_cons (pe_bltn (v := .ty "tuple") (by rfl) mtuple (by decide +kernel) rfl) pa_nil))))) (pss_one (ps_ret pe_bl)) pss_nil)
      (pss_cons (ps_for PassesOwn.never rfl (pi_tup (pv 2)) (pg_name (i := 3) sc_law_is_folding.nd rfl (.inr rfl)) (pss_cons (ps_if (PW.pt (pw_or (pt_not (pt_val (pe_callB (isi1 K) (by rfl) misinstance (by decide +kernel) (pa_cons (pv 3) (pa_cons (pe_bltn (v := .ty "tuple") (by rfl) mtuple (by decide +kernel) rfl) pa_nil))))) (pw_or1 (pt_cmpR op_ne (pe_callB (lenQ K) (by rfl) mlen (by decide +kernel) (pa_cons (pv 3) pa_nil)) pe_int (nomark _))))) (pss_one (ps_ret pe_bl)) pss_nil)
      (pss_cons (ps_if (pt_cmpR (neD K hr.units) (pe_lc (own := [("_law_at", 5)]) (g := gName 5) (by rfl) sc_law_is_folding.nd (pi_tup (pv 3)) (blkOk_by (own := [("_law_at", 5)]) (N := ["_law_code_here", "_law_word_here", "_law_some", "_law_one", "_law_places", "_law_at", "_law_other"]) (sc := defScope s_law_is_folding) (by decide +kernel)) (fun _ _ _ _ _ => (pg_name (i := 5) sc_law_is_folding.nd rfl (.inl rfl))) (fun _ _ _ _ _ => (pts_one (PW.pt (pw_or (pt_not (pt_val (pe_callB (isi1 K) (by rfl) misinstance (by decide +kernel) (pa_cons (pv 5) (pa_cons (pe_bltn (v := .ty "int") (by rfl) mint (by decide +kernel) rfl) pa_nil))))) (pw_or (pt_val (pe_callB (isi1 K) (by rfl) misinstance (by decide +kernel) (pa_cons (pv 5) (pa_cons (pe_bltn (v := .ty "bool") (by rfl) mbool (by decide +kernel) rfl) pa_nil)))) (pw_or1 (pt_not (pt_chain op_le op_lt pe_int (pv 5) (pe_callB call_len_str (by rfl) mlen (by decide +kernel) (pa_cons (pv 1) pa_nil)))))))))) (fun _ _ _ _ _ => pe_int)) (pe_lst pa_nil) (nomark _)) (pss_one (ps_ret pe_bl)) pss_nil)
      (pss_one (ps_if (PW.pt (pw_or (pt_cmpR op_ge (pe_ix (ixT K) (pv 3) pe_int (fun _ _ => rfl)) (pe_ix (ixT K) (pv 3) pe_int (fun _ _ => rfl)) (nomark _)) (pw_or1 (pt_not (pt_val (pe_ca c_law_may (hr.mono (by decide)) (by rfl) (pa_cons (pv 0) (pa_cons (pv 1) (pa_cons (pe_ix (ixT K) (pv 3) pe_int (fun _ _ => rfl)) (pa_cons (pe_ix (ixT K) (pv 3) pe_int (fun _ _ => rfl)) pa_nil)))))))))) (pss_one (ps_ret pe_bl)) pss_nil)))))
      (pss_cons (ps_set (i := 4) sc_law_is_folding.nd rfl (.inl rfl) (pe_callB (sumS K rfl) (by rfl) msum (by decide +kernel) (pa_cons (pe_lc (own := [("_law_one", 3)]) (g := gName 3) (by rfl) sc_law_is_folding.nd (pi_tup (pv 2)) (blkOk_by (own := [("_law_one", 3)]) (N := ["_law_code_here", "_law_word_here", "_law_some", "_law_one", "_law_places", "_law_at", "_law_other"]) (sc := defScope s_law_is_folding) (by decide +kernel)) (fun _ _ _ _ _ => (pg_name (i := 3) sc_law_is_folding.nd rfl (.inl rfl))) (fun _ _ _ _ _ => pts_nil) (fun _ _ _ _ _ => (pe_callTy (listOf K) (by rfl) mlist (by decide +kernel) (pa_cons (pv 3) pa_nil)))) (pa_cons (pe_lst pa_nil) pa_nil))))
      (pss_cons (ps_if (PW.pt (pw_or (pt_cmpR op_lt (pe_lenSetM rfl (by rfl) mlen (by rfl) mset (pv 4)) (pe_callB (lenQ K) (by rfl) mlen (by decide +kernel) (pa_cons (pv 4) pa_nil)) (nomark _)) (pw_or1 (pt_cmpR (neD K hr.units) (pe_callTy (listOf K) (by rfl) mlist (by decide +kernel) (pa_cons (pv 2) pa_nil)) (pe_callB (cr_sortTD K hr.units) (by rfl) msorted (by decide +kernel) (pa_cons (pv 2) pa_nil)) (nomark _))))) (pss_one (ps_ret pe_bl)) pss_nil)
      (pss_cons (ps_for PassesOwn.never rfl (pi_tup (pv 2)) (pg_name (i := 3) sc_law_is_folding.nd rfl (.inr rfl)) (pss_one (ps_if (pt_cmpR (neD K hr.units) (pe_lc (own := [("_law_other", 6)]) (g := gName 6) (by rfl) sc_law_is_folding.nd (pi_tup (pv 2)) (blkOk_by (own := [("_law_other", 6)]) (N := ["_law_code_here", "_law_word_here", "_law_some", "_law_one", "_law_places", "_law_at", "_law_other"]) (sc := defScope s_law_is_folding) (by decide +kernel)) (fun _ _ _ _ _ => (pg_name (i := 6) sc_law_is_folding.nd rfl (.inl rfl))) (fun _ _ _ _ _ => (pts_one (pt_chain3 op_lt op_lt op_lt (pe_ix (ixT K) (pv 3) pe_int (fun _ _ => rfl)) (pe_ix (ixT K) (pv 6) pe_int (fun _ _ => rfl)) (pe_ix (ixT K) (pv 3) pe_int (fun _ _ => rfl)) (pe_ix (ixT K) (pv 6) pe_int (fun _ _ => rfl))))) (fun _ _ _ _ _ => pe_int)) (pe_lst pa_nil) (nomark _)) (pss_one (ps_ret pe_bl)) pss_nil)))
      (pss_one (ps_ret pe_bl))))))), ?_⟩
    refine ⟨_, rfl, t, .ty "tuple", _, _, isTup d, rfl, .ty _, hd.ty, kit_tup d, isTup d, rfl, ?_⟩
    cases hd with
    | emp _ => exact iteT (q H Ext.refl)
    | dp hd =>
      cases hd with
      | @tup af fs ds hF hds =>
        refine iteF ?_
        have hfl := dpAll_len hds
        have hql := hdl ds rfl
        refine ⟨_, rfl, af, rfl, ⟨_, hF⟩, for_tup (K := K) (xs := fs) (fun i σ H2 => ∃ (y3 : Option V) (qs : List (Int × Int)), σ = [some v, some (.str x), some (.ref af), y3, none, none, none] ∧ (ds.take i).mapM twoD = some qs ∧ (∀ y ∈ qs, mayP r x y.1 y.2 = true) ∧ Ext H H2)
          ⟨none, [], rfl, by rw [List.take_zero, List.mapM_nil]; rfl, (fun y h => by cases h), Ext.refl⟩ (fun i σ H2 _ ⟨_, _, _, _, _, k⟩ => sqT_ext k hF) (fun i u σ H2 hi hv => ?_) (fun σ H2 hv => ?_)⟩
        · obtain ⟨y3, qs, rfl, hqs, hmy, k2⟩ := hv
          obtain ⟨d1, hd1, hdp⟩ := dpAll_get hds hi
          have hd1m : d1 ∈ ds := List.mem_of_getElem? hd1
          have hdp2 := dp_ext k2 hdp
          have qF : prD r x d1 = false → ∀ H', Ext H2 H' → Q (.bl false) H' := fun e H' k => by
            have := q H' (k2.trans k)
            rw [fo_bad hd1m e] at this
            exact this
          refine ⟨_, rfl, u, .ty "tuple", _, _, isTup d1, rfl, .ty _, (Dq.dp hdp2).ty, kit_tup d1, isTup d1, rfl, ?_⟩
          cases hdp2 with
          | @tup a1 ys es hs hes =>
            have hel := dpAll_len hes
            refine iteF ⟨_, rfl, a1, ys, rfl, .inr hs, rfl, _, rfl, ?_⟩
            by_cases hl : es.length = 2
            · have e2 : (!decide (V.int (ys.length : Nat) = V.int 2)) = false := by
                rw [hel, hl]
                simp
              rw [e2]
              refine iteF ?_
              refine ⟨_, rfl, a1, rfl, ⟨_, hs⟩, fun D hD => lc_tup (K := K) (xs := ys) (fun j H3 => H3 D = some (.lst ((((es.take j).filter (badD x)).map fun _ => (1 : Int)).map V.int)) ∧ Ext H2 H3)
                ⟨upd_same, Ext.new hD⟩ (fun j H3 _ ⟨_, k⟩ => sqT_ext k hs) (fun j u2 H3 hj hv => ?_) (fun H3 hv => ?_)⟩
              · obtain ⟨hL, k3⟩ := hv
                obtain ⟨d2, hd2, hdp3⟩ := dpAll_get hes hj
                have hdp4 := dp_ext k3 hdp3
                have hj2 : j < ys.length := (List.getElem?_eq_some_iff.mp hj).1
                have hsz : ((((es.take j).filter (badD x)).map fun _ => (1 : Int)).map V.int).length ≤ 2 := by
                  rw [List.length_map, List.length_map]
                  have := List.length_filter_le (badD x) (es.take j)
                  rw [List.length_take] at this
                  omega
                have yes : badD x d2 = true → ∃ acc, H3 D = some (.lst acc) ∧ acc.length < sizeLine ∧ upd H3 D (.lst (acc ++ [V.int 1])) D = some (.lst ((((es.take (j + 1)).filter (badD x)).map fun _ => (1 : Int)).map V.int)) ∧ Ext H2 (upd H3 D (.lst (acc ++ [V.int 1]))) := fun e => by
                  refine ⟨_, hL, szLt (by omega), ?_, k3.put hD⟩
                  rw [upd_same, List.take_add_one, hd2, List.filter_append]
                  show some (HO.lst (_ ++ [V.int 1])) = some (HO.lst (List.map _ (List.map _ (_ ++ [d2].filter (badD x)))))
                  rw [List.filter_cons_of_pos e, List.map_append, List.map_append]
                  rfl
                have no : badD x d2 = false → H3 D = some (.lst ((((es.take (j + 1)).filter (badD x)).map fun _ => (1 : Int)).map V.int)) ∧ Ext H2 H3 := fun e => by
                  refine ⟨?_, k3⟩
                  rw [List.take_add_one, hd2, List.filter_append]
                  show _ = some (HO.lst (List.map _ (List.map _ (_ ++ [d2].filter (badD x)))))
                  rw [List.filter_cons_of_neg (by rw [e]; exact Bool.false_ne_true), List.filter_nil, List.append_nil]
                  exact hL
                refine ⟨rfl, _, rfl, u2, .ty "int", _, _, isIntB d2, rfl, .ty _, (Dq.dp hdp4).ty, kit_int d2, isIntB d2, rfl, ?_⟩
                cases hdp4 with
                | int i =>
                  refine iteF ⟨_, rfl, .int i, .ty "bool", _, _, false, rfl, .ty _, .base (.int i), kit_ty (by decide +kernel), false, rfl, iteF ?_⟩
                  refine ⟨_, rfl, 0, i, rfl, rfl, _, rfl, ?_⟩
                  by_cases h0 : 0 ≤ i
                  · rw [decide_eq_true h0]
                    refine iteT ⟨_, rfl, x, rfl, szL (by omega), _, _, rfl, rfl, _, rfl, ?_⟩
                    by_cases h1 : i < x.length
                    · rw [decide_eq_true h1]
                      exact iteF (no (by show (!decide (0 ≤ i ∧ i < (x.length : Int))) = false; rw [decide_eq_true ⟨h0, h1⟩]; rfl))
                    · rw [decide_eq_false h1]
                      exact iteT (yes (by show (!decide (0 ≤ i ∧ i < (x.length : Int))) = true; rw [decide_eq_false (fun z => h1 z.2)]; rfl))
                  · rw [decide_eq_false h0]
                    exact iteF ⟨_, rfl, iteT (yes (by show (!decide (0 ≤ i ∧ i < (x.length : Int))) = true; rw [decide_eq_false (fun z => h0 z.1)]; rfl))⟩
                | bl b => exact iteF ⟨_, rfl, .bl b, .ty "bool", _, _, true, rfl, .ty _, .base (.bl b), kit_ty (by decide +kernel), true, rfl, iteT (iteT (yes rfl))⟩
                | _ => exact iteT (iteT (yes rfl))
              · obtain ⟨hL, k3⟩ := hv
                rw [List.take_of_length_le (by omega)] at hL
                refine ⟨Nat.zero_le _, fun e0 he0 => ?_⟩
                have e4 := Ext.new (o := .lst []) he0
                refine ⟨.list (((es.filter (badD x)).map fun _ => (1 : Int)).map PyData.int), .list [], .lst (SqL.of (e4 _ _ hL)) (dpInts _), .lst (SqL.of upd_same) .nil, PySem.W.shaped_ints _, by decide, _, rfl, ?_⟩
                rw [eqv_none]
                have k4 := k3.trans e4
                cases hfil : es.filter (badD x) with
                | cons z zs =>
                  have hz : z ∈ es.filter (badD x) := by rw [hfil]; exact List.mem_cons_self ..
                  have hz2 := List.mem_filter.mp hz
                  exact iteT (qF (pr_bad hz2.1 hz2.2) _ k4)
                | nil =>
                  refine iteF ?_
                  have nb : ∀ d ∈ es, badD x d = false := fun d hd => by
                    cases hb : badD x d with
                    | false => rfl
                    | true =>
                      have : d ∈ es.filter (badD x) := List.mem_filter.mpr ⟨hd, hb⟩
                      rw [hfil] at this
                      cases this
                  obtain ⟨u0, u1, d0, d1', rfl, rfl, h0, h1⟩ := dp_pair hes hl
                  have b0 := nb d0 (by simp)
                  have b1 := nb d1' (by simp)
                  cases h0 with
                  | int a0 =>
                    cases h1 with
                    | int a2 =>
                      have c0 : 0 ≤ a0 ∧ a0 < (x.length : Int) := by
                        have b0 : (!decide (0 ≤ a0 ∧ a0 < (x.length : Int))) = false := b0
                        rw [Bool.not_eq_false'] at b0
                        exact of_decide_eq_true b0
                      have c1 : 0 ≤ a2 ∧ a2 < (x.length : Int) := by
                        have b1 : (!decide (0 ≤ a2 ∧ a2 < (x.length : Int))) = false := b1
                        rw [Bool.not_eq_false'] at b1
                        exact of_decide_eq_true b1
                      have hs4 := sqT_ext k4 hs
                      have epr : prD r x (.tuple [.int a0, .int a2]) = mayP r x a0 a2 := rfl
                      refine ⟨_, rfl, a1, _, 0, _, rfl, rfl, hs4, rfl, _, rfl, a1, _, 1, _, rfl, rfl, hs4, rfl, _, _, rfl, rfl, _, rfl, ite2 (fun e => ?_) (fun e => ?_)⟩
                      · have e : a2 ≤ a0 := of_decide_eq_true e
                        refine qF ?_ _ k4
                        rw [epr]
                        unfold mayP
                        rw [decide_eq_false (show ¬ (0 ≤ a0 ∧ a0 < a2 ∧ a2 < (x.length : Int)) by omega), Bool.false_and]
                      · have e : ¬ a2 ≤ a0 := fun z => e (decide_eq_true z)
                        have emp : mayP r x a0 a2 = mayB r x a0 a2 := by
                          unfold mayP
                          rw [decide_eq_true (show (0 ≤ a0 ∧ a0 < a2 ∧ a2 < (x.length : Int)) by omega), Bool.true_and]
                        refine ⟨_, rfl, _, rfl, _, rfl, a1, _, 0, _, rfl, rfl, hs4, rfl, _, rfl, a1, _, 1, _, rfl, rfl, hs4, rfl, v, r, x, a0, a2, rfl, RulesAt.mono _ _ _ _ (TupK.ext (k2.trans k4)) hR, hpl, hx, c0.1, c0.2, c1.1, c1.2, fun H5 k5 => ⟨_, rfl, ?_⟩⟩
                        cases hm : mayB r x a0 a2 with
                        | false => exact iteT (qF (by rw [epr, emp, hm]) _ (k4.trans k5))
                        | true =>
                          refine iteF ⟨_, qs ++ [(a0, a2)], rfl, ?_, fun y hy => ?_, (k2.trans k4).trans k5⟩
                          · rw [List.take_add_one, hd1]
                            exact mapM_snoc hqs rfl
                          · rcases List.mem_append.mp hy with hy | hy
                            · exact hmy y hy
                            · rw [List.mem_singleton.mp hy]
                              show mayP r x a0 a2 = true
                              rw [emp, hm]
                    | _ => cases b1
                  | _ => cases b0
            · have e2 : (!decide (V.int (ys.length : Nat) = V.int 2)) = true := by
                rw [decide_eq_false]
                · rfl
                · intro z
                  injection z with z
                  omega
              rw [e2]
              refine iteT (qF (pr_row (decide_eq_false fun z => hl (by omega))) _ Ext.refl)
          | _ => exact iteT (qF (pr_row rfl) _ Ext.refl)
        · obtain ⟨y3, qs, rfl, hqs, hmy, k2⟩ := hv
          rw [List.take_of_length_le (by omega)] at hqs
          have hPs := paired_two hds hqs
          have hqn := mapM_len hqs
          have hlt : ∀ y ∈ qs, 0 ≤ y.1 ∧ y.1 < y.2 ∧ y.2 < (x.length : Int) := fun y hy => by
            have := hmy y hy
            unfold mayP at this
            rw [Bool.and_eq_true] at this
            exact of_decide_eq_true this.1
          have efo : foD r x (.tuple ds) = isF r x qs := by
            show (match ds.mapM twoD with | some qs => isF r x qs | none => false) = _
            rw [hqs]
          have eap := (isF_ap hmy).trans (law_ap fun y hy => (hlt y hy).2.1).symm
          have qF : ¬ ((plc qs).Nodup ∧ qs = srt qs ∧ ∀ a ∈ qs, ∀ b ∈ qs, ¬ (a.1 < b.1 ∧ b.1 < a.2 ∧ a.2 < b.2)) → ∀ H', Ext H H' → Q (.bl false) H' := fun h H' k => by
            have := q H' k
            rw [efo, Bool.eq_false_iff.mpr fun z => h (eap.mp z)] at this
            exact this
          refine ⟨_, rfl, af, rfl, ⟨_, sqT_ext k2 hF⟩, fun D hD => lc_tup (K := K) (xs := fs) (fun i H3 => ∃ ls : List (Addr × List V), ls.map (·.2) = (qs.take i).map (fun y => [V.int y.1, V.int y.2]) ∧ (∀ z ∈ ls, z.1 ≠ D ∧ H3 z.1 = some (.lst z.2)) ∧ H3 D = some (.lst (ls.map fun z => .ref z.1)) ∧ Ext H2 H3)
            ⟨[], rfl, (fun z h => by cases h), upd_same, Ext.new hD⟩ (fun i H3 _ ⟨_, _, _, _, k⟩ => sqT_ext (k2.trans k) hF) (fun i u H3 hi hv => ?_) (fun H3 hv => ?_)⟩
          · obtain ⟨ls, hls, hat, hL, k3⟩ := hv
            obtain ⟨y, hy, a1, rfl, ha1⟩ := paired_get hPs hi
            have hi2 : i < fs.length := (List.getElem?_eq_some_iff.mp hi).1
            have hll : ls.length ≤ i := by
              have := congrArg List.length hls
              rw [List.length_map, List.length_map, List.length_take] at this
              omega
            refine ⟨rfl, _, rfl, a1, _, rfl, .inr (sqT_ext (k2.trans k3) ha1), fun l hl => ?_⟩
            have e4 := Ext.new (o := .lst [V.int y.1, V.int y.2]) hl
            have nl : l ≠ D := fun z => by
              rw [z, hL] at hl
              cases hl
            refine ⟨_, e4 _ _ hL, szLt (by rw [List.length_map]; omega), ls ++ [(l, [V.int y.1, V.int y.2])], ?_, fun z hz => ?_, ?_, (k3.trans e4).put hD⟩
            · rw [List.map_append, hls, List.take_add_one, hy, List.map_append]
              rfl
            · rcases List.mem_append.mp hz with hz | hz
              · refine ⟨(hat z hz).1, ?_⟩
                rw [upd_ne (hat z hz).1]
                exact e4 _ _ (hat z hz).2
              · rw [List.mem_singleton.mp hz]
                refine ⟨nl, ?_⟩
                rw [upd_ne nl, upd_same]
            · rw [upd_same, List.map_append]
              rfl
          · obtain ⟨ls, hls, hat, hL, k3⟩ := hv
            rw [List.take_of_length_le (by omega)] at hls
            refine ⟨Nat.zero_le _, fun b hb => ?_⟩
            have e4 := Ext.new (o := .lst []) hb
            have epl : (ls.map (·.2)).flatten = (plc qs).map V.int := by
              rw [hls]
              exact plc_map qs
            have hpln := plc_len qs
            refine ⟨D, b, ls, [], rfl, SqL.of (e4 _ _ hL), fun z hz => e4 _ _ (hat z hz).2, upd_same, szL ?_, fun pl H5 k5 hpl5 => ?_⟩
            · rw [epl, List.length_map]
              show 0 + _ ≤ _
              omega
            rw [List.nil_append, epl] at hpl5
            have k05 := ((k2.trans k3).trans e4).trans k5
            refine ⟨_, rfl, pl, plc qs, rfl, hpl5, by omega, fun n hn hn2 => ?_⟩
            refine ⟨_, rfl, pl, _, rfl, .inl hpl5, _, _, rfl, rfl, _, rfl, ?_⟩
            rw [List.length_map]
            by_cases hnd : (plc qs).Nodup
            · rw [decide_eq_false (show ¬ ((n : Int) < ((plc qs).length : Nat)) by have := mt hn.mp (not_not_intro hnd); omega)]
              refine iteF ⟨_, rfl, af, fs, rfl, .inr (sqT_ext k05 hF), fun l hl => ?_⟩
              have e6 := Ext.new (o := .lst fs) hl
              have k06 := k05.trans e6
              refine ⟨_, rfl, ?_⟩
              delta tNil
              refine sort_twoT (sqT_ext k06 hF) (paired_imp (fun _ _ => TwoS.ext k06) hPs) fun p us hp hus hul => ?_
              have e7 := Ext.new (o := .lst us) hp
              have k07 := k06.trans e7
              have hb7 : ∀ y ∈ qs, -1000 ≤ y.1 ∧ y.1 ≤ 1000 ∧ -1000 ≤ y.2 ∧ y.2 ≤ 1000 := fun y hy => by
                have := hlt y hy
                omega
              refine ⟨.list (qs.map dTw), .list ((srt qs).map dTw), .lst (SqL.of (e7 _ _ upd_same)) (dp_twos (paired_imp (fun _ _ => TwoS.ext k07) hPs)), .lst (SqL.of upd_same) (dp_twos hus), (sm_twoL (by omega) hb7).shaped (by decide), (sm_twoL (by have := srt_len qs; unfold srt at this; omega) fun y hy => hb7 y ((List.mergeSort_perm qs le2).mem_iff.mp hy)).shaped (by decide), _, rfl, ?_⟩
              rw [eqv_twos]
              by_cases hsr : qs = srt qs
              · rw [decide_eq_true hsr]
                refine iteF ?_
                refine ⟨_, rfl, af, rfl, ⟨_, sqT_ext k07 hF⟩, for_tup (K := K) (xs := fs) (fun i σ H8 => ∃ y3 : Option V, σ = [some v, some (.str x), some (.ref af), y3, some (.ref pl), none, none] ∧ (∀ a ∈ qs.take i, ∀ b ∈ qs, ¬ (a.1 < b.1 ∧ b.1 < a.2 ∧ a.2 < b.2)) ∧ Ext H H8)
                  ⟨_, rfl, (fun a h => by cases h), k07⟩ (fun i σ H8 _ ⟨_, _, _, k⟩ => sqT_ext k hF) (fun i u σ H8 hi hv => ?_) (fun σ H8 hv => ?_)⟩
                · obtain ⟨y3, rfl, hno, k8⟩ := hv
                  obtain ⟨y, hy, a1, rfl, ha1⟩ := paired_get hPs hi
                  have hym : y ∈ qs := List.mem_of_getElem? hy
                  have hs8 := sqT_ext k8 ha1
                  refine ⟨_, rfl, af, rfl, ⟨_, sqT_ext k8 hF⟩, fun D hD => lc_tup (K := K) (xs := fs) (fun j H9 => H9 D = some (.lst ((((qs.take j).filter (crB y)).map fun _ => (1 : Int)).map V.int)) ∧ Ext H8 H9)
                    ⟨upd_same, Ext.new hD⟩ (fun j H9 _ ⟨_, k⟩ => sqT_ext (k8.trans k) hF) (fun j u2 H9 hj hv => ?_) (fun H9 hv => ?_)⟩
                  · obtain ⟨hL, k9⟩ := hv
                    obtain ⟨z, hz, a2, rfl, ha2⟩ := paired_get hPs hj
                    have hj2 : j < fs.length := (List.getElem?_eq_some_iff.mp hj).1
                    have hsz : ((((qs.take j).filter (crB y)).map fun _ => (1 : Int)).map V.int).length ≤ 100 := by
                      rw [List.length_map, List.length_map]
                      have := List.length_filter_le (crB y) (qs.take j)
                      rw [List.length_take] at this
                      omega
                    have hs9 := sqT_ext k9 hs8
                    have hz9 := sqT_ext (k8.trans k9) ha2
                    have yes : (y.1 < z.1 ∧ z.1 < y.2 ∧ y.2 < z.2) → ∃ acc, H9 D = some (.lst acc) ∧ acc.length < sizeLine ∧ upd H9 D (.lst (acc ++ [V.int 1])) D = some (.lst ((((qs.take (j + 1)).filter (crB y)).map fun _ => (1 : Int)).map V.int)) ∧ Ext H8 (upd H9 D (.lst (acc ++ [V.int 1]))) := fun e => by
                      refine ⟨_, hL, szLt (by omega), ?_, k9.put hD⟩
                      rw [upd_same, List.take_add_one, hz, List.filter_append]
                      show some (HO.lst (_ ++ [V.int 1])) = some (HO.lst (List.map _ (List.map _ (_ ++ [z].filter (crB y)))))
                      rw [List.filter_cons_of_pos (show crB y z = true from decide_eq_true e), List.map_append, List.map_append]
                      rfl
                    have no : ¬ (y.1 < z.1 ∧ z.1 < y.2 ∧ y.2 < z.2) → H9 D = some (.lst ((((qs.take (j + 1)).filter (crB y)).map fun _ => (1 : Int)).map V.int)) ∧ Ext H8 H9 := fun e => by
                      refine ⟨?_, k9⟩
                      rw [List.take_add_one, hz, List.filter_append]
                      show _ = some (HO.lst (List.map _ (List.map _ (_ ++ [z].filter (crB y)))))
                      rw [List.filter_cons_of_neg (show ¬ crB y z = true from fun w => e (of_decide_eq_true w)), List.filter_nil, List.append_nil]
                      exact hL
                    refine ⟨rfl, _, rfl, a1, _, 0, _, rfl, rfl, hs9, rfl, _, rfl, a2, _, 0, _, rfl, rfl, hz9, rfl, _, _, rfl, rfl, _, rfl, ?_⟩
                    by_cases e1 : y.1 < z.1
                    · rw [decide_eq_true e1]
                      refine iteT ⟨_, rfl, a1, _, 1, _, rfl, rfl, hs9, rfl, _, _, rfl, rfl, _, rfl, ?_⟩
                      by_cases e2 : z.1 < y.2
                      · rw [decide_eq_true e2]
                        refine iteT ⟨_, rfl, a2, _, 1, _, rfl, rfl, hz9, rfl, _, _, rfl, rfl, _, rfl, ?_⟩
                        by_cases e3 : y.2 < z.2
                        · rw [decide_eq_true e3]
                          exact yes ⟨e1, e2, e3⟩
                        · rw [decide_eq_false e3]
                          exact no fun w => e3 w.2.2
                      · rw [decide_eq_false e2]
                        exact iteF ⟨_, rfl, no fun w => e2 w.2.1⟩
                    · rw [decide_eq_false e1]
                      exact iteF ⟨_, rfl, no fun w => e1 w.1⟩
                  · obtain ⟨hL, k9⟩ := hv
                    rw [List.take_of_length_le (by omega)] at hL
                    refine ⟨Nat.zero_le _, fun e0 he0 => ?_⟩
                    have e10 := Ext.new (o := .lst []) he0
                    have k10 := (k8.trans k9).trans e10
                    refine ⟨.list (((qs.filter (crB y)).map fun _ => (1 : Int)).map PyData.int), .list [], .lst (SqL.of (e10 _ _ hL)) (dpInts _), .lst (SqL.of upd_same) .nil, PySem.W.shaped_ints _, by decide, _, rfl, ?_⟩
                    rw [eqv_none]
                    cases hfil : qs.filter (crB y) with
                    | cons z zs =>
                      have hz : z ∈ qs.filter (crB y) := by rw [hfil]; exact List.mem_cons_self ..
                      have hz2 := List.mem_filter.mp hz
                      exact iteT (qF (fun w => w.2.2 y hym z hz2.1 (of_decide_eq_true hz2.2)) _ k10)
                    | nil =>
                      refine iteF ⟨_, rfl, fun a ha b hb => ?_, k10⟩
                      rw [List.take_add_one, hy] at ha
                      rcases List.mem_append.mp ha with ha | ha
                      · exact hno a ha b hb
                      · have ea : a = y := by simpa using ha
                        subst ea
                        intro w
                        have : b ∈ qs.filter (crB a) := List.mem_filter.mpr ⟨hb, decide_eq_true w⟩
                        rw [hfil] at this
                        cases this
                · obtain ⟨y3, rfl, hno, k8⟩ := hv
                  rw [List.take_of_length_le (by omega)] at hno
                  have := q _ k8
                  rw [efo, eap.mpr ⟨hnd, hsr, hno⟩] at this
                  exact this
              · rw [decide_eq_false hsr]
                exact iteT (qF (fun z => hsr z.2.1) _ k07)
            · rw [decide_eq_true (show ((n : Int) < ((plc qs).length : Nat)) by have := hn.mpr hnd; omega)]
              exact iteT (qF (fun z => hnd z.1) _ k05)
      | _ => exact iteT (q H Ext.refl)
end
end Pf


namespace Pf
open PySem PySem.Spec PyProof.Rows L2
/-! ### rules as data -/
theorem ints_of7 {H : Hp} : ∀ {vs : List V} {ns : List Int}, Paired (IntAt H) vs ns → vs = ns.map V.int
  | _, _, .nil => rfl
  | _, _, .cons r t => by
    rw [List.map_cons, ← ints_of7 t]
    have r : _ = _ := r
    rw [r]
def dSt (x : Str × Str × Int) : PyData := .tuple [.str x.1, .str x.2.1, .int x.2.2]
theorem dpStacks {K : PySem.W.Frag} {H : Hp} : ∀ {vs : List V} {ps : List (Str × Str × Int)}, Paired (StackAt H) vs ps → DpAll K H vs (ps.map dSt)
  | _, _, .nil => .nil
  | _, _, .cons ⟨_, e, h⟩ t => .cons (e ▸ .tup (SqT.of h) (.cons (.str _) (.cons (.str _) (.cons (.int _) .nil)))) (dpStacks t)
def dRl (r : Rl) : PyData := .tuple [.str r.letters, .tuple (r.prs.map dPr), .int r.span, .tuple (r.loops.map PyData.int), .tuple (r.stk.map dSt)]
theorem dp_rules {K : PySem.W.Frag} {H : Hp} {v : V} {r : Rl} (h : RulesAt H v r) : Dp K H v (dRl r) := by
  obtain ⟨a, vp, vl, vs, rfl, hA, ⟨ap, oz, us, rfl, hp, _, hP⟩, ⟨al, ls, rfl, hl, hL⟩, ⟨as, ss, rfl, hs, hS⟩⟩ := h
  refine .tup (SqT.of hA) (.cons (.str _) (.cons (.tup (SqT.fz hp) (dpPairs hP)) (.cons (.int _) (.cons (.tup (SqT.of hl) ?_) (.cons (.tup (SqT.of hs) (dpStacks hS)) .nil)))))
  rw [ints_of7 hL]
  exact dpInts r.loops
theorem sm_rules {r : Rl} (ok : RlOk r) : Sm 50000 3 (dRl r) := by
  refine Sm.tup (n := 5) (m := 5000) (k := 2) (Nat.le_refl _) (fun d hd => ?_) (by decide)
  simp only [List.mem_cons, List.not_mem_nil, or_false] at hd
  have h3 := ok.sp0
  have h4 := ok.sp3
  rcases hd with rfl | rfl | rfl | rfl | rfl
  · exact (Sm.str ok.small.ok ok.let6).le (by decide) (by decide)
  · exact (sm_prs ok.prs ok.pr).le (by decide) (by decide)
  · exact (Sm.int (by omega) (by omega)).le (by decide) (by decide)
  · refine (Sm.tup (n := 9) (m := 64) (k := 0) (by rw [List.length_map, ok.lo9]; exact Nat.le_refl _) (fun d hd => ?_) (Nat.le_refl _)).le (by decide) (by decide)
    obtain ⟨z, hz, rfl⟩ := List.mem_map.mp hd
    have := ok.lo z hz
    exact Sm.int (by omega) (by omega)
  · refine (Sm.tup (n := 12) (m := 200) (k := 1) (by rw [List.length_map]; exact ok.stk) (fun d hd => ?_) (Nat.le_refl _)).le (by decide) (by decide)
    obtain ⟨z, hz, rfl⟩ := List.mem_map.mp hd
    have hk := ok.st z hz
    refine Sm.tup (n := 3) (m := 64) (k := 0) (Nat.le_refl _) (fun d hd => ?_) (by decide)
    simp only [List.mem_cons, List.not_mem_nil, or_false] at hd
    rcases hd with rfl | rfl | rfl
    · exact (Sm.str hk.1.2.ok (Nat.le_of_eq hk.1.1)).le (by decide) (by decide)
    · exact (Sm.str hk.2.1.2.ok (Nat.le_of_eq hk.2.1.1)).le (by decide) (by decide)
    · exact Sm.int (by omega) (by omega)
theorem plain_rules (r : Rl) : plainD (dRl r) = true := by
  have h1 : plainDs (r.prs.map dPr) = true := plainDs_all fun d hd => by
    obtain ⟨z, _, rfl⟩ := List.mem_map.mp hd
    rfl
  have h2 : plainDs (r.loops.map PyData.int) = true := plainDs_all fun d hd => by
    obtain ⟨z, _, rfl⟩ := List.mem_map.mp hd
    rfl
  have h3 : plainDs (r.stk.map dSt) = true := plainDs_all fun d hd => by
    obtain ⟨z, _, rfl⟩ := List.mem_map.mp hd
    rfl
  simp only [dRl, plainD, plainDs, h1, h2, h3, Bool.and_true]
/-! ### things that are small -/
def S0 (v : V) : Prop := ∃ d, (∀ (K : PySem.W.Frag) (H : Hp), Dp K H v d) ∧ Sm 100 0 d
theorem S0.non : S0 .non := ⟨_, fun _ _ => .non, Sm.non.le (by decide) (Nat.le_refl _)⟩
theorem S0.bl (b : Bool) : S0 (.bl b) := ⟨_, fun _ _ => .bl b, (Sm.bl b).le (by decide) (Nat.le_refl _)⟩
theorem S0.int {i : Int} (h0 : -1000000 < i) (h1 : i < 1000000) : S0 (.int i) := ⟨_, fun _ _ => .int i, (Sm.int (by omega) (by omega)).le (by decide) (Nat.le_refl _)⟩
theorem S0.str {x : Str} (h0 : PyData.strOk x = true) (h1 : x.length ≤ 100) : S0 (.str x) := ⟨_, fun _ _ => .str x, Sm.str h0 h1⟩
theorem text_small : ∀ n : Nat, n ≤ 20 → PyData.strOk (Str.ofString (toString (n : Int))) = true ∧ (Str.ofString (toString (n : Int))).length ≤ 100 := by
  have key : ((List.range 21).all fun n => PyData.strOk (Str.ofString (toString (n : Int))) && decide ((Str.ofString (toString (n : Int))).length ≤ 100)) = true := by decide +kernel
  intro n hn
  have := List.all_eq_true.mp key n (List.mem_range.mpr (by omega))
  rw [Bool.and_eq_true] at this
  exact ⟨this.1, of_decide_eq_true this.2⟩
def Few (d : PyData) : Prop := ∀ es, d = .tuple es → es.length < 60
def El (K : PySem.W.Frag) (H : Hp) (v : V) : Prop := ∃ d, Dp K H v d ∧ Sm 3000 3 d ∧ Few d
theorem El.ext {K : PySem.W.Frag} {H H' : Hp} {v : V} (h : El K H v) (k : Ext H H') : El K H' v := by
  obtain ⟨d, h1, h2⟩ := h
  exact ⟨d, dp_ext k h1, h2⟩
theorem S0.el {K : PySem.W.Frag} {H : Hp} {v : V} (h : S0 v) : El K H v := by
  obtain ⟨d, h1, h2⟩ := h
  exact ⟨d, h1 K H, h2.le (by decide) (by decide), fun es e => by
    subst e
    have := h2.dep
    simp [PyData.depth] at this⟩
theorem s0_all {K : PySem.W.Frag} {H : Hp} : ∀ {us : List V}, (∀ u ∈ us, S0 u) → ∃ ds, DpAll K H us ds ∧ ∀ d ∈ ds, Sm 100 0 d
  | [], _ => ⟨[], .nil, fun d h => by cases h⟩
  | u :: us, h => by
    obtain ⟨d, h1, h2⟩ := h u (List.mem_cons_self ..)
    obtain ⟨ds, h3, h4⟩ := s0_all (K := K) (H := H) fun x hx => h x (List.mem_cons_of_mem _ hx)
    refine ⟨d :: ds, .cons (h1 K H) h3, fun z hz => ?_⟩
    rcases List.mem_cons.mp hz with rfl | hz
    · exact h2
    · exact h4 z hz
theorem el_tup {K : PySem.W.Frag} {H : Hp} {a : Addr} {us : List V} (h : SqT K H a us) (hn : us.length ≤ 20) (hu : ∀ u ∈ us, S0 u) : El K H (.ref a) := by
  obtain ⟨ds, h1, h2⟩ := s0_all (K := K) (H := H) hu
  have := dpAll_len h1
  exact ⟨_, .tup h h1, (Sm.tup (n := 20) (m := 100) (k := 0) (by omega) h2 (by decide)).le (Nat.le_refl 3000) (by decide), fun es e => by injection e with e; rw [← e]; omega⟩
theorem el_lst {K : PySem.W.Frag} {H : Hp} {a : Addr} {us : List V} (h : SqL K H a us) (hn : us.length ≤ 20) (hu : ∀ u ∈ us, S0 u) : El K H (.ref a) := by
  obtain ⟨ds, h1, h2⟩ := s0_all (K := K) (H := H) hu
  have := dpAll_len h1
  exact ⟨_, .lst h h1, (Sm.lst (n := 20) (m := 100) (k := 0) (by omega) h2 (by decide)).le (Nat.le_refl 3000) (by decide), fun es e => by cases e⟩
theorem el_two {K : PySem.W.Frag} {H : Hp} {v : V} {y : Int × Int} (h : TwoS K H v y) (b : -1000 ≤ y.1 ∧ y.1 ≤ 1000 ∧ -1000 ≤ y.2 ∧ y.2 ≤ 1000) : El K H v := by
  obtain ⟨a, rfl, h⟩ := h
  refine el_tup h (show 2 ≤ 20 by decide) fun u hu => ?_
  simp only [List.mem_cons, List.not_mem_nil, or_false] at hu
  rcases hu with rfl | rfl
  · exact S0.int (by omega) (by omega)
  · exact S0.int (by omega) (by omega)
theorem el_twos {K : PySem.W.Frag} {H : Hp} {a : Addr} {us : List V} {qs : List (Int × Int)} (h : SqT K H a us) (hp : Paired (TwoS K H) us qs) (hn : qs.length ≤ 15) (b : ∀ y ∈ qs, -1000 ≤ y.1 ∧ y.1 ≤ 1000 ∧ -1000 ≤ y.2 ∧ y.2 ≤ 1000) : El K H (.ref a) := by
  refine ⟨_, .tup h (dp_twos hp), (Sm.tup (n := 15) (m := 130) (k := 1) (by rw [List.length_map]; exact hn) (fun d hd => ?_) (Nat.le_refl _)).le (by decide) (by decide), fun es e => by injection e with e; rw [← e, List.length_map]; omega⟩
  obtain ⟨y, hy, rfl⟩ := List.mem_map.mp hd
  have h1 := b y hy
  refine Sm.tup (n := 2) (m := 64) (k := 0) (Nat.le_refl _) (fun d hd => ?_) (by decide)
  simp only [List.mem_cons, List.not_mem_nil, or_false] at hd
  rcases hd with rfl | rfl
  · exact Sm.int (by omega) (by omega)
  · exact Sm.int (by omega) (by omega)
theorem sm_twoT {qs : List (Int × Int)} (hn : qs.length ≤ 100) (h : ∀ y ∈ qs, -1000 ≤ y.1 ∧ y.1 ≤ 1000 ∧ -1000 ≤ y.2 ∧ y.2 ≤ 1000) : Sm 20000 2 (.tuple (qs.map dTw)) := by
  refine Sm.tup (n := 100) (m := 130) (k := 1) (by rw [List.length_map]; exact hn) (fun d hd => ?_) (by decide)
  obtain ⟨y, hy, rfl⟩ := List.mem_map.mp hd
  have h1 := h y hy
  refine Sm.tup (n := 2) (m := 64) (k := 0) (Nat.le_refl _) (fun d hd => ?_) (by decide)
  simp only [List.mem_cons, List.not_mem_nil, or_false] at hd
  rcases hd with rfl | rfl
  · exact Sm.int (by omega) (by omega)
  · exact Sm.int (by omega) (by omega)
/-- a thing that may be shown -/
def Gd (K : PySem.W.Frag) (H : Hp) (v : V) : Prop := ∃ d, Dq K H v d ∧ (Sm 100000 5 d ∨ d = .dict []) ∧ (∀ ds, d = .tuple ds → ds.length ≤ 100) ∧ ∀ ds, d = .tuple ds → ∀ e ∈ ds, SeqAt.shaped e = true ∧ Few e
theorem Gd.ext {K : PySem.W.Frag} {H H' : Hp} {v : V} (h : Gd K H v) (k : Ext H H') : Gd K H' v := by
  obtain ⟨d, h1, h2⟩ := h
  exact ⟨d, h1.ext k, h2⟩
mutual
theorem dp_by {K : PySem.W.Frag} {H H' : Hp} (hT : ∀ {b : Addr} {xs : List V}, SqT K H b xs → SqT K H' b xs) (hL : ∀ {b : Addr} {xs : List V}, SqL K H b xs → SqL K H' b xs) : ∀ {v : V} {d : PyData}, Dp K H v d → Dp K H' v d
  | _, _, .non => .non
  | _, _, .bl b => .bl b
  | _, _, .int i => .int i
  | _, _, .str x => .str x
  | _, _, .lst h r => .lst (hL h) (dpAll_by hT hL r)
  | _, _, .tup h r => .tup (hT h) (dpAll_by hT hL r)
theorem dpAll_by {K : PySem.W.Frag} {H H' : Hp} (hT : ∀ {b : Addr} {xs : List V}, SqT K H b xs → SqT K H' b xs) (hL : ∀ {b : Addr} {xs : List V}, SqL K H b xs → SqL K H' b xs) : ∀ {vs : List V} {ds : List PyData}, DpAll K H vs ds → DpAll K H' vs ds
  | _, _, .nil => .nil
  | _, _, .cons r t => .cons (dp_by hT hL r) (dpAll_by hT hL t)
end
theorem sqT_pen {K : PySem.W.Frag} {H H' : Hp} {p c b : Addr} {n : Nat} {xs : List V} (hP : Pen H p c n) (k : Kp p H H') (h : SqT K H b xs) : SqT K H' b xs := by
  obtain ⟨cells, a, r, hp, _⟩ := hP
  rcases h with (h | ⟨o, h⟩) | h
  · exact .inl (.inl (k _ _ (ne_of h hp (by intro z; cases z)) h))
  · exact .inl (.inr ⟨o, k _ _ (ne_of h hp (by intro z; cases z)) h⟩)
  · exact .inr h
theorem sqL_pen {K : PySem.W.Frag} {H H' : Hp} {p c b : Addr} {n : Nat} {xs : List V} (hP : Pen H p c n) (k : Kp p H H') (h : SqL K H b xs) : SqL K H' b xs := by
  obtain ⟨cells, a, r, hp, _⟩ := hP
  rcases h with (h | ⟨o, h⟩) | h
  · exact .inl (.inl (k _ _ (ne_of h hp (by intro z; cases z)) h))
  · exact .inl (.inr ⟨o, k _ _ (ne_of h hp (by intro z; cases z)) h⟩)
  · exact .inr h
theorem El.kp {K : PySem.W.Frag} {H H' : Hp} {v : V} {p c : Addr} {n : Nat} (hP : Pen H p c n) (h : El K H v) (k : Kp p H H') : El K H' v := by
  obtain ⟨d, h1, h2⟩ := h
  exact ⟨d, dp_by (sqT_pen hP k) (sqL_pen hP k) h1, h2⟩
theorem Gd.kp {K : PySem.W.Frag} {H H' : Hp} {v : V} {p c : Addr} {n : Nat} (hP : Pen H p c n) (h : Gd K H v) (k : Kp p H H') : Gd K H' v := by
  obtain ⟨cells, a, r, hp, _⟩ := hP
  have hT : ∀ {b : Addr} {xs : List V}, SqT K H b xs → SqT K H' b xs := fun {b xs} h => by
    rcases h with (h | ⟨o, h⟩) | h
    · exact .inl (.inl (k _ _ (ne_of h hp (by intro z; cases z)) h))
    · exact .inl (.inr ⟨o, k _ _ (ne_of h hp (by intro z; cases z)) h⟩)
    · exact .inr h
  have hL : ∀ {b : Addr} {xs : List V}, SqL K H b xs → SqL K H' b xs := fun {b xs} h => by
    rcases h with (h | ⟨o, h⟩) | h
    · exact .inl (.inl (k _ _ (ne_of h hp (by intro z; cases z)) h))
    · exact .inl (.inr ⟨o, k _ _ (ne_of h hp (by intro z; cases z)) h⟩)
    · exact .inr h
  obtain ⟨d, h1, h2⟩ := h
  refine ⟨d, ?_, h2⟩
  cases h1 with
  | emp h => exact .emp (k _ _ (ne_of h hp (by intro z; cases z)) h)
  | dp h => exact .dp (dp_by hT hL h)
theorem el_all {K : PySem.W.Frag} {H : Hp} : ∀ {us : List V}, (∀ u ∈ us, El K H u) → ∃ ds, DpAll K H us ds ∧ (∀ d ∈ ds, Sm 3000 3 d) ∧ ∀ d ∈ ds, Few d
  | [], _ => ⟨[], .nil, (fun d h => by cases h), fun d h => by cases h⟩
  | u :: us, h => by
    obtain ⟨d, h1, h2, h5⟩ := h u (List.mem_cons_self ..)
    obtain ⟨ds, h3, h4, h6⟩ := el_all fun x hx => h x (List.mem_cons_of_mem _ hx)
    refine ⟨d :: ds, .cons h1 h3, fun z hz => ?_, fun z hz => ?_⟩
    · rcases List.mem_cons.mp hz with rfl | hz
      · exact h2
      · exact h4 z hz
    · rcases List.mem_cons.mp hz with rfl | hz
      · exact h5
      · exact h6 z hz
theorem gd_tup {K : PySem.W.Frag} {H : Hp} {a : Addr} {us : List V} (h : SqT K H a us) (hn : us.length ≤ 30) (hu : ∀ u ∈ us, El K H u) : Gd K H (.ref a) := by
  obtain ⟨ds, h1, h2, h3⟩ := el_all hu
  have := dpAll_len h1
  exact ⟨_, .dp (.tup h h1), .inl ((Sm.tup (n := 30) (m := 3000) (k := 3) (by omega) h2 (by decide)).le (Nat.le_refl 100000) (by decide)), (fun es e => by injection e with e; rw [← e]; omega), fun es e => by injection e with e; subst e; exact fun z hz => ⟨(h2 z hz).shaped (by decide), h3 z hz⟩⟩
theorem gd_lst {K : PySem.W.Frag} {H : Hp} {a : Addr} {us : List V} (h : SqL K H a us) (hn : us.length ≤ 30) (hu : ∀ u ∈ us, El K H u) : Gd K H (.ref a) := by
  obtain ⟨ds, h1, h2, h3⟩ := el_all hu
  have := dpAll_len h1
  exact ⟨_, .dp (.lst h h1), .inl ((Sm.lst (n := 30) (m := 3000) (k := 3) (by omega) h2 (by decide)).le (Nat.le_refl 100000) (by decide)), (fun es e => by cases e), fun es e => by cases e⟩
theorem S0.gd {K : PySem.W.Frag} {H : Hp} {v : V} (h : S0 v) : Gd K H v := by
  obtain ⟨d, h1, h2⟩ := h
  have no : ∀ es, d ≠ .tuple es := fun es e => by
    subst e
    have := h2.dep
    simp [PyData.depth] at this
  exact ⟨d, .dp (h1 K H), .inl (h2.le (by decide) (by decide)), (fun es e => absurd e (no es)), fun es e => absurd e (no es)⟩
theorem gd_emp {K : PySem.W.Frag} {H : Hp} {a : Addr} (h : H a = some (.dK [])) : Gd K H (.ref a) := ⟨_, .emp h, .inr rfl, (fun es e => by cases e), fun es e => by cases e⟩
theorem two_els {K : PySem.W.Frag} {H : Hp} {us : List V} {qs : List (Int × Int)} (hp : Paired (TwoS K H) us qs) (b : ∀ y ∈ qs, -1000 ≤ y.1 ∧ y.1 ≤ 1000 ∧ -1000 ≤ y.2 ∧ y.2 ≤ 1000) : ∀ u ∈ us, El K H u := fun u hu => by
  obtain ⟨y, hy, h⟩ := paired_mem hp hu
  exact el_two h (b y hy)
end Pf


namespace Pf
open PySem PySem.Spec PyProof.Rows L2
/-! ### set of a tuple of numbers, sorted -/
def rSetTI (K : PySem.W.Frag) (w : World) : List V → Hp → VK → Prop := fun xs H Q => ∃ (l : Addr) (ns : List Int), xs = [V.ref l] ∧ SqT K H l (ns.map V.int) ∧ ns.length < 60 ∧ ∀ (p : Addr) (c : Nat), H p = none → c ≤ ns.length → Q (.ref p) (upd H p (SetO w p (fun j => decide (j ∈ ns)) c))
theorem setTI {X : Cx} {w : World} (K : PySem.W.Frag) (hc : X.calm = true) (h1 : X.K = K := by rfl) (h2 : X.w = w := by rfl) : CallR X (.type "set") (rSetTI K w) := by
  subst h1 h2
  intro pins s σ H xs us Q I r h
  obtain ⟨l, ns, rfl, hT, hn, q⟩ := h
  obtain ⟨u, rfl, rfl⟩ := vals1 r
  obtain ⟨its, rv, ⟨o, ho, hcl, n, hd⟩, hz⟩ := I.tuple hT
  refine call_set_tupI (items := its.toArray) ns (I.ok.hd hc) ⟨o, ho, hcl, n, hd⟩ (intsAre_of rv) (by unfold scanBound; omega) fun h' tk c hS hle hk => ?_
  have hnone : H s.heap.objs.size = none := I.hok.fresh (Nat.le_refl _)
  exact ⟨.ref _, upd H s.heap.objs.size (SetO X.w s.heap.objs.size (fun j => decide (j ∈ ns)) c), I.laid (t' := tk) hk (Nat.le_refl _) (setO_new hS), rfl, q _ c hnone hle⟩
theorem sortedSI {X : Cx} {w : World} (hc : X.calm = true) (h2 : X.w = w := by rfl) : CallR X (.builtin "sorted") (rSortedSet w) := by
  subst h2
  exact cr_sortedSet hc
end Pf


namespace Pf
open PySem PySem.Spec PyProof.Rows L2
/-! ### holds, of things of any kind -/
def risI (ns : List Int) : List Bool := (ns.zip (ns.drop 1)).map fun z => decide (z.1 < z.2)
def intD : PyData → Option Int
  | .int i => some i
  | _ => none
theorem intD_some {d : PyData} {i : Int} (h : intD d = some i) : d = .int i := by
  unfold intD at h
  split at h
  · cases h
    rfl
  · cases h
theorem int_dps {K : PySem.W.Frag} {H : Hp} : ∀ {vs : List V} {ds : List PyData} {ns : List Int}, DpAll K H vs ds → ds.mapM intD = some ns → vs = ns.map V.int
  | _, [], ns, .nil, e => by
    rw [List.mapM_nil] at e
    cases e
    rfl
  | _, d :: ds, ns, .cons h t, e => by
    rw [List.mapM_cons] at e
    cases h1 : intD d with
    | none =>
      rw [h1] at e
      cases e
    | some y =>
      rw [h1] at e
      cases h2 : ds.mapM intD with
      | none =>
        rw [h2] at e
        cases e
      | some ys =>
        rw [h2] at e
        cases e
        have := intD_some h1
        subst this
        cases h
        rw [int_dps t h2]
        rfl
theorem wh_intD (d : PyData) : whD d = (intD d).isSome := by cases d <;> rfl
theorem all_intD : ∀ {ds : List PyData}, (ds.map whD).all id = true → ∃ ns, ds.mapM intD = some ns
  | [], _ => ⟨[], List.mapM_nil⟩
  | d :: ds, h => by
    rw [List.map_cons, List.all_cons, Bool.and_eq_true] at h
    obtain ⟨ns, h1⟩ := all_intD h.2
    have h2 : whD d = true := h.1
    rw [wh_intD] at h2
    obtain ⟨i, hi⟩ := Option.isSome_iff_exists.mp h2
    refine ⟨i :: ns, ?_⟩
    rw [List.mapM_cons, hi, h1]
    rfl
theorem no_intD {ds : List PyData} (h : (ds.map whD).all id = false) : ds.mapM intD = none := by
  cases e : ds.mapM intD with
  | none => rfl
  | some ns =>
    have : (ds.map whD).all id = true := by
      clear h
      induction ds generalizing ns with
      | nil => rfl
      | cons d ds ih =>
        rw [List.mapM_cons] at e
        cases h1 : intD d with
        | none =>
          rw [h1] at e
          cases e
        | some y =>
          rw [h1] at e
          cases h2 : ds.mapM intD with
          | none =>
            rw [h2] at e
            cases e
          | some ys =>
            rw [List.map_cons, List.all_cons, ih _ h2, Bool.and_true]
            show whD d = true
            rw [wh_intD, h1]
            rfl
    rw [this] at h
    cases h
def inW (x : Str) (i : Int) : Bool := decide (0 ≤ i ∧ i < (x.length : Int))
def plI (x : Str) (ns : List Int) : Bool := (ns.map (inW x)).all id && (risI ns).all id
def plD (x : Str) (d : PyData) : Bool := match d with
  | .tuple ds => match ds.mapM intD with
    | some ns => plI x ns
    | none => false
  | _ => false
theorem in_int {i : Int} {ns : List Int} : inV (.int i) (ns.map V.int) = decide (i ∈ ns) := by
  unfold inV
  rw [List.any_map]
  by_cases h : i ∈ ns
  · rw [decide_eq_true h, List.any_eq_true]
    refine ⟨i, h, ?_⟩
    show (i == i) = true
    rw [beq_iff_eq]
  · rw [decide_eq_false h, List.any_eq_false]
    intro j hj e
    have e : (j == i) = true := e
    rw [beq_iff_eq] at e
    exact h (e ▸ hj)
theorem flat_ints : ∀ ns : List Int, (ns.map V.int).all flatV = true
  | [] => rfl
  | _ :: r => by
    rw [List.map_cons, List.all_cons, flat_ints r]
    rfl
theorem plc_snoc (qs : List (Int × Int)) (y : Int × Int) : plc (qs ++ [y]) = plc qs ++ [y.1, y.2] := by
  unfold plc
  rw [List.map_append, List.flatten_append]
  rfl
def kfI (ns : List Int) (qs : List (Int × Int)) : Bool := ((plc qs).map fun i => !decide (i ∈ ns)).all id
def kfD (ns : List Int) (d : PyData) : Bool := match d with
  | .tuple ds => match ds.mapM twoD with
    | some qs => kfI ns qs
    | none => false
  | _ => false
def cbD (r : Rl) (x : Str) (ns : List Int) (d : PyData) : Bool := foD r x d && kfD ns d
theorem fo_some {r : Rl} {x : Str} {d : PyData} (h : foD r x d = true) : ∃ ds qs, d = .tuple ds ∧ ds.mapM twoD = some qs := by
  unfold foD at h
  split at h
  · rename_i ds
    cases em : ds.mapM twoD with
    | none =>
      rw [em] at h
      cases h
    | some qs => exact ⟨ds, qs, rfl, em⟩
  · cases h
def nsD (d : PyData) : List Int := match d with
  | .tuple ds => (ds.mapM intD).getD []
  | _ => []
def hoD (r : Rl) (x : Str) (d : PyData) : Bool := match d with
  | .tuple [d0, d1] => plD x d0 && cbD r x (nsD d0) d1
  | _ => false
theorem ho_row {r : Rl} {x : Str} {d : PyData} (h : rowD 2 d = false) : hoD r x d = false := by
  unfold hoD
  split
  · cases h
  · rfl
theorem eqv_nilT {d : PyData} (h : PyData.eqv d (.tuple []) = true) : d = .tuple [] := by
  cases d with
  | tuple ds =>
    cases ds with
    | nil => rfl
    | cons y z => simp [PyData.eqv, PyData.eqvAll] at h
  | _ => simp [PyData.eqv] at h
theorem pl_some {x : Str} {d : PyData} (h : plD x d = true) : ∃ ds ns, d = .tuple ds ∧ ds.mapM intD = some ns ∧ nsD d = ns ∧ plI x ns = true := by
  unfold plD at h
  split at h
  · rename_i ds
    cases e : ds.mapM intD with
    | none =>
      rw [e] at h
      cases h
    | some ns =>
      rw [e] at h
      refine ⟨ds, ns, rfl, e, ?_, h⟩
      show (ds.mapM intD).getD [] = ns
      rw [e]
      rfl
  · cases h
def HoB (d : PyData) : Prop := ∀ ds, d = .tuple ds → ∀ d' ∈ ds, SeqAt.shaped d' = true ∧ ∀ es, d' = .tuple es → es.length ≤ 100
section
variable {P : Program} {w : World} {K : PySem.W.Frag} {mg : Str → Option Value} {base : Heap}
def spRiI {K : PySem.W.Frag} : Sp := fun vs H Q _ => ∃ (af : Addr) (ns : List Int), vs = [.ref af] ∧ SqT K H af (ns.map V.int) ∧ ns.length ≤ 1000 ∧ ∀ H', Ext H H' → Q (.bl ((risI ns).all id)) H'
theorem ok_riI {f : Addr} {fd : FuncData} {k : Nat} (F : Fun K "rises" "rises" s_rises f fd) (mall : mg "all" = none) (mzip : mg "zip" = none) : FnOk P w K mg base CX0 (k + 1) f fd ["things"] (spRiI (K := K)) := by
  refine F.ok sc_rises (fun vs H Q E h => ?_) (fun cdv A outer s H vs Q E hr h => ?_)
  · obtain ⟨af, ns, rfl, _⟩ := h
    rfl
  · obtain ⟨af, ns, rfl, hF, hql, q⟩ := h
    refine ⟨_, (pss_one (ps_ret (pe_callB (cr_all rfl) (by rfl) mall (by decide +kernel) (pa_cons (pe_lc (own := [("thing", 1), ("after", 2)]) (g := gTup K 2 (gCons (gName 1) (gCons (gName 2) gNil))) (by rfl) sc_rises.nd (RZ.pi_zipA (by rfl) mzip (pa_cons (pv 0) (pa_cons (pe_slice (slS K) (pv 0) (po_some pe_int) po_none) pa_nil))) (blkOk_by (own := [("thing", 1), ("after", 2)]) (N := ["things", "thing", "after"]) (sc := defScope s_rises) (by decide +kernel)) (fun _ _ _ _ _ => (pgT K rfl (pgs_cons (pg_name (i := 1) sc_rises.nd rfl (.inl rfl)) (pgs_cons (pg_name (i := 2) sc_rises.nd rfl (.inl rfl)) pgs_nil)))) (fun _ _ _ _ _ => pts_nil) (fun _ _ _ _ _ => (pe_cmpR (OpR.or op_lt (ltT K hr.units0)) (pv 1) (pv 2) (nomark _)))) pa_nil)))), ?_⟩
    have hml : (ns.map V.int).length = ns.length := List.length_map ..
    refine ⟨_, rfl, _, rfl, 1, rfl, af, _, rfl, hF, fun t H1 k1 hT => ?_⟩
    have ec : cutV (ns.map V.int) (some 1) none = (ns.map V.int).drop 1 := cut_from (k := 1)
    rw [ec] at hT
    have hrl : (risI ns).length = ns.length - 1 := by
      unfold risI
      rw [List.length_map, List.length_zip, List.length_drop]
      omega
    refine ⟨af, t, _, _, rfl, .inr ⟨sqT_ext k1 hF, hT, fun D hD => lc_it (walk_zt (n := ns.length - 1) (by rw [List.length_drop]; omega)) (fun i H2 => H2 D = some (.lst (((risI ns).take i).map V.bl)) ∧ Ext H1 H2)
      ⟨upd_same, Ext.new hD⟩ (fun i H2 _ ⟨_, k⟩ => ⟨sqT_ext (k1.trans k) hF, sqT_ext k hT⟩) (fun i u H2 H3 hi hv hy => ?_) (fun H2 hv => ?_)⟩⟩
    · obtain ⟨hL, k2⟩ := hv
      obtain ⟨T, a, b, rfl, hTn, rfl, ha, hb⟩ := hy
      have ha : (ns.map V.int)[i]? = some a := ha
      have hb : ((ns.map V.int).drop 1)[i]? = some b := hb
      rw [List.getElem?_drop] at hb
      rw [List.getElem?_map] at ha hb
      obtain ⟨n1, hn1, rfl⟩ := Option.map_eq_some_iff.mp ha
      obtain ⟨n2, hn2, rfl⟩ := Option.map_eq_some_iff.mp hb
      have e3 := Ext.new (o := .tup [.int n1, .int n2]) hTn
      refine ⟨T, _, rfl, SqT.of upd_same, rfl, _, _, rfl, _, _, rfl, rfl, rfl, _, rfl, _, rfl, .inl ⟨n1, n2, rfl, rfl, _, e3 _ _ hL, szLt ?_, ?_, (k2.trans e3).put hD⟩⟩
      · rw [List.length_map, List.length_take]
        omega
      · have er : (risI ns)[i]? = some (decide (n1 < n2)) := by
          unfold risI
          rw [List.getElem?_map, (List.getElem?_zip_eq_some (z := (n1, n2))).mpr ⟨hn1, by rw [List.getElem?_drop]; exact hn2⟩]
          rfl
        rw [upd_same, List.take_add_one, er, List.map_append]
        rfl
    · obtain ⟨hL, k2⟩ := hv
      rw [List.take_of_length_le (by omega)] at hL
      exact ⟨D, risI ns, rfl, SqL.of hL, q _ (k1.trans k2)⟩
abbrev CRiI (P : Program) (w : World) (K : PySem.W.Frag) (mg : Str → Option Value) (base : Heap) : Prop := Ca P w K mg base 1 "rises" ["things"] (spRiI (K := K))
abbrev s_are_places : Stmt := topS 13
theorem sc_are_places : FnScope ["string", "thing", "place"] ["string", "thing"] (defScope s_are_places) :=
  ⟨rfl, rfl, rfl, by decide +kernel, rfl, by decide +kernel, by decide +kernel⟩
def spAP {K : PySem.W.Frag} : Sp := fun vs H Q _ => ∃ (v : V) (x : Str) (d : PyData), vs = [.str x, v] ∧ x.length ≤ 1000 ∧ Dq K H v d ∧ (∀ ds, d = .tuple ds → ds.length ≤ 100) ∧ ∀ H', Ext H H' → Q (.bl (plD x d)) H'
theorem ok_apl {f : Addr} {fd : FuncData} (F : Fun K "are_places" "are_places" s_are_places f fd) (cis_whole : CWh P w K mg base) (crises : CRiI P w K mg base) (misinstance : mg "isinstance" = none) (mtuple : mg "tuple" = none) (mall : mg "all" = none) (mlen : mg "len" = none) : FnOk P w K mg base CX0 2 f fd ["string", "thing"] (spAP (K := K)) := by
  refine F.ok sc_are_places (fun vs H Q E h => ?_) (fun cdv A outer s H vs Q E hr h => ?_)
  · obtain ⟨v, x, d, rfl, _⟩ := h
    rfl
  · obtain ⟨v, x, d, rfl, hx, hd, hdl, q⟩ := h
    refine ⟨_, (pss_cons (ps_if (PW.pt (pw_or (pt_not (pt_val (pe_callB (isi1 K) (by rfl) misinstance (by decide +kernel) (pa_cons (pv 1) (pa_cons (pe_bltn (v := .ty "tuple") (by rfl) mtuple (by decide +kernel) rfl) pa_nil))))) (pw_or1 (pt_not (pt_val (pe_callB (cr_all rfl) (by rfl) mall (by decide +kernel) (pa_cons (pe_lc (own := [("place", 2)]) (g := gName 2) (by rfl) sc_are_places.nd (pi_tup (pv 1)) (blkOk_by (own := [("place", 2)]) (N := ["string", "thing", "place"]) (sc := defScope s_are_places) (by decide +kernel)) (fun _ _ _ _ _ => (pg_name (i := 2) sc_are_places.nd rfl (.inl rfl))) (fun _ _ _ _ _ => pts_nil) (fun _ _ _ _ _ => (pe_ca cis_whole (hr.mono (by decide)) (by rfl) (pa_cons (pv 2) pa_nil)))) pa_nil))))))) (pss_one (ps_ret pe_bl)) pss_nil)
      (pss_one (ps_ret (pe_and (pe_callB (cr_all rfl) (by rfl) mall (by decide +kernel) (pa_cons (pe_lc (own := [("place", 2)]) (g := gName 2) (by rfl) sc_are_places.nd (pi_tup (pv 1)) (blkOk_by (own := [("place", 2)]) (N := ["string", "thing", "place"]) (sc := defScope s_are_places) (by decide +kernel)) (fun _ _ _ _ _ => (pg_name (i := 2) sc_are_places.nd rfl (.inl rfl))) (fun _ _ _ _ _ => pts_nil) (fun _ _ _ _ _ => (pe_chain op_le op_lt pe_int (pv 2) (pe_callB call_len_str (by rfl) mlen (by decide +kernel) (pa_cons (pv 0) pa_nil))))) pa_nil)) (pe_one (pe_ca crises (hr.mono (by decide)) (by rfl) (pa_cons (pv 1) pa_nil))))))), ?_⟩
    refine ⟨_, rfl, v, .ty "tuple", _, _, isTup d, rfl, .ty _, hd.ty, kit_tup d, isTup d, rfl, ?_⟩
    cases hd with
    | emp _ => exact iteT (q H Ext.refl)
    | dp hd =>
      cases hd with
      | @tup af fs ds hF hds =>
        refine iteF ?_
        have hfl := dpAll_len hds
        have hql := hdl ds rfl
        refine ⟨_, rfl, af, rfl, ⟨_, hF⟩, fun D hD => lc_tup (K := K) (xs := fs) (fun i H2 => H2 D = some (.lst (((ds.take i).map whD).map V.bl)) ∧ Ext H H2)
          ⟨upd_same, Ext.new hD⟩ (fun i H2 _ ⟨_, k⟩ => sqT_ext k hF) (fun i u H2 hi hv => ?_) (fun H2 hv => ?_)⟩
        · obtain ⟨hL, k2⟩ := hv
          obtain ⟨d1, hd1, hdp⟩ := dpAll_get hds hi
          refine ⟨rfl, _, rfl, u, d1, rfl, .dp (dp_ext k2 hdp), _, hL, szLt ?_, ?_, k2.put hD⟩
          · rw [List.length_map, List.length_map, List.length_take]
            omega
          · rw [upd_same, List.take_add_one, hd1, List.map_append, List.map_append]
            rfl
        · obtain ⟨hL, k2⟩ := hv
          rw [List.take_of_length_le (by omega)] at hL
          refine ⟨D, _, rfl, SqL.of hL, _, rfl, ite2 (fun e => ?_) (fun e => ?_)⟩
          · have e : (ds.map whD).all id = false := by simpa using e
            have := q H2 k2
            have e2 : plD x (.tuple ds) = false := by
              show (match ds.mapM intD with | some ns => plI x ns | none => false) = false
              rw [no_intD e]
            rw [e2] at this
            exact this
          · have e : (ds.map whD).all id = true := by simpa using e
            obtain ⟨ns, hns⟩ := all_intD e
            have hfs := int_dps hds hns
            have hnl := mapM_len hns
            have e2 : plD x (.tuple ds) = plI x ns := by
              show (match ds.mapM intD with | some ns => plI x ns | none => false) = _
              rw [hns]
            subst hfs
            refine ⟨_, rfl, af, rfl, ⟨_, sqT_ext k2 hF⟩, fun D2 hD2 => lc_tup (K := K) (xs := ns.map V.int) (fun i H3 => H3 D2 = some (.lst (((ns.take i).map (inW x)).map V.bl)) ∧ Ext H2 H3)
              ⟨upd_same, Ext.new hD2⟩ (fun i H3 _ ⟨_, k⟩ => sqT_ext (k2.trans k) hF) (fun i u H3 hi hv => ?_) (fun H3 hv => ?_)⟩
            · obtain ⟨hL3, k3⟩ := hv
              rw [List.getElem?_map] at hi
              obtain ⟨n, hn, rfl⟩ := Option.map_eq_some_iff.mp hi
              have fin : ∀ b : Bool, inW x n = b → ∃ acc, H3 D2 = some (.lst acc) ∧ acc.length < sizeLine ∧ upd H3 D2 (.lst (acc ++ [V.bl b])) D2 = some (.lst (((ns.take (i + 1)).map (inW x)).map V.bl)) ∧ Ext H2 (upd H3 D2 (.lst (acc ++ [V.bl b]))) := fun b eb => by
                refine ⟨_, hL3, szLt (by rw [List.length_map, List.length_map, List.length_take]; omega), ?_, k3.put hD2⟩
                rw [upd_same, List.take_add_one, hn, List.map_append, List.map_append, ← eb]
                rfl
              refine ⟨rfl, _, rfl, 0, n, rfl, rfl, _, rfl, ?_⟩
              by_cases h0 : 0 ≤ n
              · rw [decide_eq_true h0]
                refine iteT ⟨_, rfl, x, rfl, szL (by omega), _, _, rfl, rfl, ?_⟩
                exact fin _ (decide_eq_decide.mpr ⟨fun z => z.2, fun z => ⟨h0, z⟩⟩)
              · rw [decide_eq_false h0]
                exact iteF (fin false (decide_eq_false fun z => h0 z.1))
            · obtain ⟨hL3, k3⟩ := hv
              rw [List.take_of_length_le (by omega)] at hL3
              refine ⟨D2, _, rfl, SqL.of hL3, _, rfl, ?_⟩
              have k23 := k2.trans k3
              cases ea : (ns.map (inW x)).all id with
              | false =>
                refine iteF ?_
                have := q H3 k23
                rw [e2] at this
                unfold plI at this
                rw [ea, Bool.false_and] at this
                exact this
              | true =>
                refine iteT ⟨_, rfl, af, ns, rfl, sqT_ext k23 hF, by omega, fun H4 k4 => ?_⟩
                have := q H4 (k23.trans k4)
                rw [e2] at this
                unfold plI at this
                rw [ea, Bool.true_and] at this
                exact this
      | _ => exact iteT (q H Ext.refl)
abbrev CAP (P : Program) (w : World) (K : PySem.W.Frag) (mg : Str → Option Value) (base : Heap) : Prop := Ca P w K mg base 2 "are_places" ["string", "thing"] (spAP (K := K))
abbrev s_places_in : Stmt := topS 14
theorem sc_places_in : FnScope ["pairs", "pair", "place"] ["pairs"] (defScope s_places_in) :=
  ⟨rfl, rfl, rfl, by decide +kernel, rfl, by decide +kernel, by decide +kernel⟩
def spPlIn {K : PySem.W.Frag} : Sp := fun vs H Q _ => ∃ (af : Addr) (fs : List V) (qs : List (Int × Int)), vs = [.ref af] ∧ SqT K H af fs ∧ Paired (TwoS K H) fs qs ∧ qs.length ≤ 1000 ∧ ∀ l H', Ext H H' → H' l = some (.lst ((plc qs).map V.int)) → Q (.ref l) H'
theorem ok_plin {f : Addr} {fd : FuncData} {k : Nat} (F : Fun K "places_in" "places_in" s_places_in f fd) : FnOk P w K mg base CX0 (k + 1) f fd ["pairs"] (spPlIn (K := K)) := by
  refine F.ok sc_places_in (fun vs H Q E h => ?_) (fun cdv A outer s H vs Q E hr h => ?_)
  · obtain ⟨af, fs, qs, rfl, _⟩ := h
    rfl
  · obtain ⟨af, fs, qs, rfl, hF, hPs, hql, q⟩ := h
    refine ⟨_, (pss_one (ps_ret (pe_lc2 (own := [("pair", 1), ("place", 2)]) (vs1 := [2]) (g := gName 1) (g1 := gName 2) (by rfl) sc_places_in.nd (pi_tup (pv 0)) (blkOk_by (own := [("pair", 1), ("place", 2)]) (N := ["pairs", "pair", "place"]) (sc := defScope s_places_in) (by decide +kernel)) (by decide) (fun _ _ _ _ _ => (pg_name (i := 1) sc_places_in.nd rfl (.inl rfl))) (fun _ _ _ _ _ => pts_nil) (fun _ _ _ _ _ => (piT K (pv 1))) (fun _ _ _ _ _ => (pg_name (i := 2) sc_places_in.nd rfl (.inl rfl))) (fun _ _ _ _ _ => pts_nil) (fun _ _ _ _ _ => (pv 2))))), ?_⟩
    have hfl := paired_len hPs
    refine ⟨_, rfl, af, rfl, ⟨_, hF⟩, fun D hD => lc_two (walk_tup (xs := fs)) (fun i H2 => H2 D = some (.lst ((plc (qs.take i)).map V.int)) ∧ Ext H H2)
      ⟨upd_same, Ext.new hD⟩ (fun i H2 _ ⟨_, k⟩ => sqT_ext k hF) (fun i u H2 H3 hi hv hy => ?_) (fun H2 hv => ?_)⟩
    · obtain ⟨hL, k2⟩ := hv
      obtain ⟨rfl, hu⟩ := hy
      obtain ⟨y, hy, a1, rfl, ha1⟩ := paired_get hPs hu
      refine ⟨rfl, _, rfl, a1, rfl, ⟨_, sqT_ext k2 ha1⟩, lc_in (walk_tup (xs := [V.int y.1, V.int y.2])) (fun j H4 => H4 D = some (.lst ((plc (qs.take i) ++ [y.1, y.2].take j).map V.int)) ∧ Ext H H4)
        ⟨?_, k2⟩ (fun j H4 _ ⟨_, k⟩ => sqT_ext k ha1) (fun j u H4 H5 hj hv hy2 => ?_) (fun H4 hv => ?_)⟩
      · rw [List.take_zero, List.append_nil]
        exact hL
      · obtain ⟨hL4, k4⟩ := hv
        obtain ⟨rfl, hu2⟩ := hy2
        have hu2 : ([y.1, y.2].map V.int)[j]? = some u := hu2
        rw [List.getElem?_map] at hu2
        obtain ⟨n, hn, rfl⟩ := Option.map_eq_some_iff.mp hu2
        refine ⟨rfl, _, rfl, _, hL4, szLt ?_, ?_, k4.put hD⟩
        · rw [List.length_map, List.length_append, plc_len, List.length_take, List.length_take]
          show _ + min j 2 < _
          omega
        · rw [upd_same, List.take_add_one, hn, List.map_append, List.map_append, List.map_append, List.append_assoc]
          rfl
      · obtain ⟨hL4, k4⟩ := hv
        refine ⟨?_, k4⟩
        rw [List.take_add_one, hy]
        show _ = some (HO.lst ((plc (qs.take i ++ [y])).map V.int))
        rw [plc_snoc]
        exact hL4
    · obtain ⟨hL, k2⟩ := hv
      rw [List.take_of_length_le (by omega)] at hL
      exact q _ _ k2 hL
abbrev CPlIn (P : Program) (w : World) (K : PySem.W.Frag) (mg : Str → Option Value) (base : Heap) : Prop := Ca P w K mg base 1 "places_in" ["pairs"] (spPlIn (K := K))
abbrev s_keeps_free : Stmt := topS 15
theorem sc_keeps_free : FnScope ["folding", "places", "place"] ["folding", "places"] (defScope s_keeps_free) :=
  ⟨rfl, rfl, rfl, by decide +kernel, rfl, by decide +kernel, by decide +kernel⟩
def spKf {K : PySem.W.Frag} : Sp := fun vs H Q _ => ∃ (af ap : Addr) (fs : List V) (qs : List (Int × Int)) (ns : List Int), vs = [.ref af, .ref ap] ∧ SqT K H af fs ∧ Paired (TwoS K H) fs qs ∧ qs.length ≤ 1000 ∧ SqT K H ap (ns.map V.int) ∧ ∀ H', Ext H H' → Q (.bl (kfI ns qs)) H'
theorem ok_kf {f : Addr} {fd : FuncData} (F : Fun K "keeps_free" "keeps_free" s_keeps_free f fd) (cplaces_in : CPlIn P w K mg base) (mall : mg "all" = none) : FnOk P w K mg base CX0 2 f fd ["folding", "places"] (spKf (K := K)) := by
  refine F.ok sc_keeps_free (fun vs H Q E h => ?_) (fun cdv A outer s H vs Q E hr h => ?_)
  · obtain ⟨af, ap, fs, qs, ns, rfl, _⟩ := h
    rfl
  · obtain ⟨af, ap, fs, qs, ns, rfl, hF, hPs, hql, hA, q⟩ := h
    refine ⟨_, (pss_one (ps_ret (pe_callB (cr_all rfl) (by rfl) mall (by decide +kernel) (pa_cons (pe_lc (own := [("place", 2)]) (g := gName 2) (by rfl) sc_keeps_free.nd (pi_list (pe_ca cplaces_in (hr.mono (by decide)) (by rfl) (pa_cons (pv 0) pa_nil))) (blkOk_by (own := [("place", 2)]) (N := ["folding", "places", "place"]) (sc := defScope s_keeps_free) (by decide +kernel)) (fun _ _ _ _ _ => (pg_name (i := 2) sc_keeps_free.nd rfl (.inl rfl))) (fun _ _ _ _ _ => pts_nil) (fun _ _ _ _ _ => (pe_cmpR (notInSeq K) (pv 2) (pv 1) (by rfl)))) pa_nil)))), ?_⟩
    have hpl := plc_len qs
    refine ⟨_, rfl, af, fs, qs, rfl, hF, hPs, hql, fun l H1 k1 hl => ⟨l, rfl, ⟨_, SqL.of hl⟩, fun D hD => lc_list (K := K) (xs := (plc qs).map V.int) (fun i H2 => H2 D = some (.lst ((((plc qs).take i).map fun i => !decide (i ∈ ns)).map V.bl)) ∧ Ext H1 H2)
      ⟨upd_same, Ext.new hD⟩ (fun i H2 _ ⟨_, k⟩ => SqL.of (k _ _ hl)) (fun i u H2 hi hv => ?_) (fun H2 hv => ?_)⟩⟩
    · obtain ⟨hL, k2⟩ := hv
      rw [List.getElem?_map] at hi
      obtain ⟨n, hn, rfl⟩ := Option.map_eq_some_iff.mp hi
      refine ⟨rfl, _, rfl, _, rfl, ap, _, rfl, .inr (sqT_ext (k1.trans k2) hA), rfl, flat_ints _, _, hL, szLt ?_, ?_, k2.put hD⟩
      · rw [List.length_map, List.length_map, List.length_take]
        omega
      · rw [upd_same, List.take_add_one, hn, List.map_append, List.map_append, in_int]
        rfl
    · obtain ⟨hL, k2⟩ := hv
      rw [List.take_of_length_le (by rw [List.length_map]; exact Nat.le_refl _)] at hL
      exact ⟨D, _, rfl, SqL.of hL, q _ (k1.trans k2)⟩
abbrev CKf (P : Program) (w : World) (K : PySem.W.Frag) (mg : Str → Option Value) (base : Heap) : Prop := Ca P w K mg base 2 "keeps_free" ["folding", "places"] (spKf (K := K))
abbrev s_can_be_kept : Stmt := topS 16
theorem sc_can_be_kept : FnScope ["rules", "string", "holds", "free", "pairs"] ["rules", "string", "holds"] (defScope s_can_be_kept) :=
  ⟨rfl, rfl, rfl, by decide +kernel, rfl, by decide +kernel, by decide +kernel⟩
def spCb {K : PySem.W.Frag} : Sp := fun vs H Q _ => ∃ (v u0 u1 : V) (r : Rl) (x : Str) (t ap : Addr) (ns : List Int) (d : PyData), vs = [v, .str x, .ref t] ∧ RulesAt H v r ∧ x.length ≤ 1000 ∧ SqT K H t [u0, u1] ∧ u0 = .ref ap ∧ SqT K H ap (ns.map V.int) ∧ Dp K H u1 d ∧ SeqAt.shaped d = true ∧ (∀ ds, d = .tuple ds → ds.length ≤ 100) ∧ ∀ H', Ext H H' → Q (.bl (cbD r x ns d)) H'
theorem ok_cb {f : Addr} {fd : FuncData} (F : Fun K "can_be_kept" "can_be_kept" s_can_be_kept f fd) (cis_folding : CIF P w K mg base) (ckeeps_free : CKf P w K mg base) : FnOk P w K mg base CX0 5 f fd ["rules", "string", "holds"] (spCb (K := K)) := by
  refine F.ok sc_can_be_kept (fun vs H Q E h => ?_) (fun cdv A outer s H vs Q E hr h => ?_)
  · obtain ⟨v, u0, u1, r, x, t, ap, ns, d, rfl, _⟩ := h
    rfl
  · obtain ⟨v, _, u1, r, x, t, ap, ns, d, rfl, hR, hx, hT, rfl, hA, hd, hsh, hdl, q⟩ := h
    refine ⟨_, (pss_cons (ps_asg (pv 2) (pg_tup rfl (pgs_cons (pg_name (i := 3) sc_can_be_kept.nd rfl (.inl rfl)) (pgs_cons (pg_name (i := 4) sc_can_be_kept.nd rfl (.inl rfl)) pgs_nil))))
      (pss_one (ps_ret (pe_or (pe_cmpR (eqD K hr.units) (pv 4) (pe_tup pa_nil) (nomark _)) (pe_one (pe_and (pe_ca cis_folding (hr.mono (by decide)) (by rfl) (pa_cons (pv 0) (pa_cons (pv 1) (pa_cons (pv 4) pa_nil)))) (pe_one (pe_ca ckeeps_free (hr.mono (by decide)) (by rfl) (pa_cons (pv 4) (pa_cons (pv 3) pa_nil)))))))))), ?_⟩
    refine ⟨_, rfl, t, _, rfl, hT, rfl, _, _, rfl, _, _, rfl, rfl, ?_⟩
    refine ⟨_, rfl, Nat.zero_le _, fun t0 ht0 => ?_⟩
    have e1 := Ext.new (o := .tup []) ht0
    refine ⟨d, .tuple [], dp_ext e1 hd, .tup (SqT.of upd_same) .nil, hsh, by decide, _, rfl, ite2 (fun e => ?_) (fun e => ?_)⟩
    · have := eqv_nilT e
      subst this
      exact q _ e1
    · refine ⟨_, rfl, _, rfl, _, rfl, v, u1, r, x, d, rfl, RulesAt.mono _ _ _ _ (TupK.ext e1) hR, hx, .dp (dp_ext e1 hd), hdl, fun H2 k2 => ⟨_, rfl, ?_⟩⟩
      have k02 := e1.trans k2
      cases ef : foD r x d with
      | false =>
        refine iteF ?_
        have := q H2 k02
        unfold cbD at this
        rw [ef, Bool.false_and] at this
        exact this
      | true =>
        refine iteT ?_
        obtain ⟨ds, qs, rfl, hqs⟩ := fo_some ef
        cases hd with
        | @tup af fs ds hF hdp =>
          have hqn := mapM_len hqs
          have hl := hdl ds rfl
          refine ⟨_, rfl, _, rfl, af, ap, fs, qs, ns, rfl, sqT_ext k02 hF, paired_imp (fun _ _ => TwoS.ext k02) (paired_two hdp hqs), by omega, sqT_ext k02 hA, fun H3 k3 => ?_⟩
          have := q H3 (k02.trans k3)
          unfold cbD at this
          rw [ef, Bool.true_and] at this
          have ek : kfD ns (.tuple ds) = kfI ns qs := by
            show (match ds.mapM twoD with | some qs => kfI ns qs | none => false) = _
            rw [hqs]
          rw [ek] at this
          exact this
abbrev CCb (P : Program) (w : World) (K : PySem.W.Frag) (mg : Str → Option Value) (base : Heap) : Prop := Ca P w K mg base 5 "can_be_kept" ["rules", "string", "holds"] (spCb (K := K))
abbrev s_are_holds : Stmt := topS 17
theorem sc_are_holds : FnScope ["rules", "string", "thing"] ["rules", "string", "thing"] (defScope s_are_holds) :=
  ⟨rfl, rfl, rfl, by decide +kernel, rfl, by decide +kernel, by decide +kernel⟩
def spAH {K : PySem.W.Frag} : Sp := fun vs H Q _ => ∃ (v t : V) (r : Rl) (x : Str) (d : PyData), vs = [v, .str x, t] ∧ RulesAt H v r ∧ x.length ≤ 1000 ∧ Dq K H t d ∧ HoB d ∧ ∀ H', Ext H H' → Q (.bl (hoD r x d)) H'
theorem ok_ah {f : Addr} {fd : FuncData} (F : Fun K "are_holds" "are_holds" s_are_holds f fd) (cis_row : CRow P w K mg base) (care_places : CAP P w K mg base) (ccan_be_kept : CCb P w K mg base) : FnOk P w K mg base CX0 6 f fd ["rules", "string", "thing"] (spAH (K := K)) := by
  refine F.ok sc_are_holds (fun vs H Q E h => ?_) (fun cdv A outer s H vs Q E hr h => ?_)
  · obtain ⟨v, t, r, x, d, rfl, _⟩ := h
    rfl
  · obtain ⟨v, t, r, x, d, rfl, hR, hx, hd, hb, q⟩ := h
    refine ⟨_, (pss_one (ps_ret (pe_and (pe_ca cis_row (hr.mono (by decide)) (by rfl) (pa_cons (pv 2) (pa_cons pe_int pa_nil))) (pe_and (pe_ca care_places (hr.mono (by decide)) (by rfl) (pa_cons (pv 1) (pa_cons (pe_ix (ixT K) (pv 2) pe_int (fun _ _ => rfl)) pa_nil))) (pe_one (pe_ca ccan_be_kept (hr.mono (by decide)) (by rfl) (pa_cons (pv 0) (pa_cons (pv 1) (pa_cons (pv 2) pa_nil))))))))), ?_⟩
    refine ⟨_, rfl, t, d, 2, rfl, hd, _, rfl, ?_⟩
    cases hrow : rowD 2 d with
    | false =>
      refine iteF ?_
      have := q H Ext.refl
      rw [ho_row hrow] at this
      exact this
    | true =>
      refine iteT ?_
      cases hd with
      | emp _ => cases hrow
      | dp hd =>
        cases hd with
        | @tup a xs ds hs hds =>
          have hl : ds.length = 2 := by
            have : decide ((ds.length : Int) = 2) = true := hrow
            have := of_decide_eq_true this
            omega
          obtain ⟨u0, u1, d0, d1, rfl, rfl, h0, h1⟩ := dp_pair hds hl
          have b0 := hb _ rfl d0 (by simp)
          have b1 := hb _ rfl d1 (by simp)
          have eho : hoD r x (.tuple [d0, d1]) = (plD x d0 && cbD r x (nsD d0) d1) := rfl
          refine ⟨_, rfl, _, rfl, a, _, 0, u0, rfl, rfl, hs, rfl, u0, x, d0, rfl, hx, .dp h0, b0.2, fun H2 k2 => ⟨_, rfl, ?_⟩⟩
          cases ep : plD x d0 with
          | false =>
            refine iteF ?_
            have := q H2 k2
            rw [eho, ep, Bool.false_and] at this
            exact this
          | true =>
            obtain ⟨es, ns, rfl, hns, en, hpl⟩ := pl_some ep
            cases h0 with
            | @tup ap ys _ hA hes =>
              have hys := int_dps hes hns
              subst hys
              refine iteT ⟨_, rfl, _, rfl, _, rfl, v, .ref ap, u1, r, x, a, ap, ns, d1, rfl, RulesAt.mono _ _ _ _ (TupK.ext k2) hR, hx, sqT_ext k2 hs, rfl, sqT_ext k2 hA, dp_ext k2 h1, b1.1, b1.2, fun H3 k3 => ?_⟩
              have := q H3 (k2.trans k3)
              rw [eho, ep, Bool.true_and, en] at this
              exact this
        | _ => cases hrow
abbrev CAH (P : Program) (w : World) (K : PySem.W.Frag) (mg : Str → Option Value) (base : Heap) : Prop := Ca P w K mg base 6 "are_holds" ["rules", "string", "thing"] (spAH (K := K))
end
end Pf


namespace Pf
open PySem PySem.Spec PyProof.Rows L2
theorem risI_pw : ∀ {ns : List Int}, (risI ns).all id = true ↔ ns.Pairwise (· < ·)
  | [] => by simp [risI]
  | [_] => by simp [risI]
  | a :: b :: r => by
    have ih := risI_pw (ns := b :: r)
    have e : (risI (a :: b :: r)).all id = (decide (a < b) && (risI (b :: r)).all id) := rfl
    rw [e, Bool.and_eq_true, ih, decide_eq_true_iff]
    constructor
    · rintro ⟨h1, h2⟩
      refine List.pairwise_cons.mpr ⟨fun y hy => ?_, h2⟩
      rcases List.mem_cons.mp hy with rfl | hy
      · exact h1
      · have := (List.pairwise_cons.mp h2).1 y hy
        omega
    · intro h
      have h1 := List.pairwise_cons.mp h
      exact ⟨h1.1 b (List.mem_cons_self ..), h1.2⟩
theorem lt_unique : ∀ {a b : List Int}, a.Pairwise (· < ·) → b.Pairwise (· < ·) → (∀ k, k ∈ a ↔ k ∈ b) → a = b
  | [], [], _, _, _ => rfl
  | [], y :: r, _, _, h => by
    have := (h y).mpr (List.mem_cons_self ..)
    cases this
  | x :: r, [], _, _, h => by
    have := (h x).mp (List.mem_cons_self ..)
    cases this
  | x :: r, y :: t, ha, hb, h => by
    have ha1 := List.pairwise_cons.mp ha
    have hb1 := List.pairwise_cons.mp hb
    have e : x = y := by
      have h1 := (h x).mp (List.mem_cons_self ..)
      have h2 := (h y).mpr (List.mem_cons_self ..)
      rcases List.mem_cons.mp h1 with e | h1
      · exact e
      · rcases List.mem_cons.mp h2 with e | h2
        · exact e.symm
        · have z1 := hb1.1 x h1
          have z2 := ha1.1 y h2
          omega
    subst e
    rw [lt_unique ha1.2 hb1.2 fun k => ?_]
    constructor
    · intro hk
      rcases List.mem_cons.mp ((h k).mp (List.mem_cons_of_mem _ hk)) with e | hk2
      · have := ha1.1 k hk
        omega
      · exact hk2
    · intro hk
      rcases List.mem_cons.mp ((h k).mpr (List.mem_cons_of_mem _ hk)) with e | hk2
      · have := hb1.1 k hk
        omega
      · exact hk2
theorem eqv_ints : ∀ (a b : List Int), PyData.eqvAll (a.map PyData.int) (b.map PyData.int) = decide (a = b)
  | [], [] => by simp [PyData.eqvAll]
  | [], _ :: _ => by simp [PyData.eqvAll]
  | _ :: _, [] => by simp [PyData.eqvAll]
  | x :: r, y :: t => by
    rw [List.map_cons, List.map_cons, PyData.eqvAll, eqv_ints r t]
    have e : PyData.eqv (.int x) (.int y) = decide (x = y) := by
      simp only [PyData.eqv]
      rfl
    rw [e]
    by_cases h1 : x = y
    · by_cases h2 : r = t
      · rw [decide_eq_true h1, decide_eq_true h2, decide_eq_true (by rw [h1, h2])]
        rfl
      · rw [decide_eq_false h2, decide_eq_false (show ¬ x :: r = y :: t from fun z => h2 (List.cons.inj z).2), Bool.and_false]
    · rw [decide_eq_false h1, decide_eq_false (show ¬ x :: r = y :: t from fun z => h1 (List.cons.inj z).1), Bool.false_and]
theorem ho_no {r : Rl} {x : Str} {d0 d1 : PyData} (h : plD x d0 = false) : hoD r x (.tuple [d0, d1]) = false := by
  show (plD x d0 && cbD r x (nsD d0) d1) = false
  rw [h, Bool.false_and]
theorem pl_bad {x : Str} {ds : List PyData} {d : PyData} (h : d ∈ ds) (e : badD x d = true) : plD x (.tuple ds) = false := by
  show (match ds.mapM intD with | some ns => plI x ns | none => false) = false
  cases em : ds.mapM intD with
  | none => rfl
  | some ns =>
    show plI x ns = false
    obtain ⟨i, hi⟩ := List.mem_iff_getElem?.mp h
    obtain ⟨n, hn1, hn2⟩ := mapM_get em hi
    have := intD_some hn1
    subst this
    have hno : inW x n = false := by
      have e : (!decide (0 ≤ n ∧ n < (x.length : Int))) = true := e
      rw [Bool.not_eq_true'] at e
      exact e
    have hf : (ns.map (inW x)).all id = false := by
      rw [Bool.eq_false_iff]
      intro z
      rw [List.all_map, List.all_eq_true] at z
      have := z n (List.mem_of_getElem? hn2)
      rw [show (id ∘ inW x) n = inW x n from rfl, hno] at this
      cases this
    unfold plI
    rw [hf, Bool.false_and]
def hitB (ns : List Int) (y : Int × Int) : Bool := decide (y.1 ∈ ns) || decide (y.2 ∈ ns)
theorem kf_filter (ns : List Int) : ∀ qs : List (Int × Int), kfI ns qs = (qs.filter (hitB ns)).isEmpty
  | [] => rfl
  | y :: r => by
    have ih := kf_filter ns r
    have e : kfI ns (y :: r) = (!decide (y.1 ∈ ns) && (!decide (y.2 ∈ ns) && kfI ns r)) := by
      unfold kfI plc
      rw [List.map_cons, List.flatten_cons]
      rfl
    rw [e, ih]
    by_cases h : hitB ns y = true
    · rw [List.filter_cons_of_pos h]
      have h : (decide (y.1 ∈ ns) || decide (y.2 ∈ ns)) = true := h
      rw [Bool.or_eq_true] at h
      show _ = false
      rcases h with h | h
      · rw [h]
        rfl
      · rw [h, Bool.not_true, Bool.false_and, Bool.and_false]
    · rw [List.filter_cons_of_neg h]
      have h : ¬ (decide (y.1 ∈ ns) || decide (y.2 ∈ ns)) = true := h
      rw [Bool.or_eq_true, not_or] at h
      rw [Bool.eq_false_iff.mpr h.1, Bool.eq_false_iff.mpr h.2]
      rfl
theorem eqv_intL (a b : List Int) : PyData.eqv (.list (a.map PyData.int)) (.list (b.map PyData.int)) = decide (a = b) := by
  rw [PyData.eqv, eqv_ints]
section
variable {P : Program} {w : World} {K : PySem.W.Frag} {mg : Str → Option Value} {base : Heap}
abbrev CLIF (P : Program) (w : World) (K : PySem.W.Frag) (mg : Str → Option Value) (base : Heap) : Prop := Ca P w K mg base 2 "_law_is_folding" ["_law_code_here", "_law_word_here", "_law_some"] (spLIF (K := K))
abbrev s_law_are_holds : Stmt := topS 29
theorem sc_law_are_holds : FnScope ["_law_code_here", "_law_word_here", "_law_some", "_law_place", "_law_one"] ["_law_code_here", "_law_word_here", "_law_some"] (defScope s_law_are_holds) :=
  ⟨rfl, rfl, rfl, by decide +kernel, rfl, by decide +kernel, by decide +kernel⟩
def spLAH {K : PySem.W.Frag} : Sp := fun vs H Q _ => ∃ (v t : V) (r : Rl) (x : Str) (d : PyData), vs = [v, .str x, t] ∧ RulesAt H v r ∧ r.prs.length ≤ 12 ∧ x.length ≤ 1000 ∧ Dq K H t d ∧ HoB d ∧ (∀ ds, d = .tuple ds → ∀ es, PyData.tuple es ∈ ds → es.length < 60) ∧ ∀ H', Ext H H' → Q (.bl (hoD r x d)) H'
theorem ok_lah {f : Addr} {fd : FuncData} (F : Fun K "_law_are_holds" "_law_are_holds" s_law_are_holds f fd) (c_law_is_folding : CLIF P w K mg base) (misinstance : mg "isinstance" = none) (mtuple : mg "tuple" = none) (mint : mg "int" = none) (mbool : mg "bool" = none) (mlen : mg "len" = none) (mlist : mg "list" = none) (mset : mg "set" = none) (msorted : mg "sorted" = none) : FnOk P w K mg base CX0 3 f fd ["_law_code_here", "_law_word_here", "_law_some"] (spLAH (K := K)) := by
  refine F.ok sc_law_are_holds (fun vs H Q E h => ?_) (fun cdv A outer s H vs Q E hr h => ?_)
  · obtain ⟨v, t, r, x, d, rfl, _⟩ := h
    rfl
  · obtain ⟨v, t, r, x, d, rfl, hR, hpl, hx, hd, hb, hb60, q⟩ := h
    refine ⟨_, (pss_cons (ps_if (PW.pt (pw_or (pt_not (pt_val (pe_callB (isi1 K) (by rfl) misinstance (by decide +kernel) (pa_cons (pv 2) (pa_cons (pe_bltn (v := .ty "tuple") (by rfl) mtuple (by decide +kernel) rfl) pa_nil))))) (pw_or (pt_cmpR op_ne (pe_callB (lenQ K) (by rfl) mlen (by decide +kernel) (pa_cons (pv 2) pa_nil)) pe_int (nomark _)) (pw_or1 (pt_not (pt_val (pe_callB (isi1 K) (by rfl) misinstance (by decide +kernel) (pa_cons (pe_ix (ixT K) (pv 2) pe_int (fun _ _ => rfl)) (pa_cons (pe_bltn (v := .ty "tuple") (by rfl) mtuple (by decide +kernel) rfl) pa_nil))))))))) (pss_one (ps_ret pe_bl)) pss_nil)
      (pss_cons (ps_for PassesOwn.never rfl (pi_tup (pe_ix (ixT K) (pv 2) pe_int (fun _ _ => rfl))) (pg_name (i := 3) sc_law_are_holds.nd rfl (.inl rfl)) (pss_one (ps_if (PW.pt (pw_or (pt_not (pt_val (pe_callB (isi1 K) (by rfl) misinstance (by decide +kernel) (pa_cons (pv 3) (pa_cons (pe_bltn (v := .ty "int") (by rfl) mint (by decide +kernel) rfl) pa_nil))))) (pw_or (pt_val (pe_callB (isi1 K) (by rfl) misinstance (by decide +kernel) (pa_cons (pv 3) (pa_cons (pe_bltn (v := .ty "bool") (by rfl) mbool (by decide +kernel) rfl) pa_nil)))) (pw_or1 (pt_not (pt_chain op_le op_lt pe_int (pv 3) (pe_callB call_len_str (by rfl) mlen (by decide +kernel) (pa_cons (pv 1) pa_nil)))))))) (pss_one (ps_ret pe_bl)) pss_nil)))
      (pss_cons (ps_if (PW.pt (pw_or (pt_cmpR (neD K hr.units) (pe_callTy (listOf K) (by rfl) mlist (by decide +kernel) (pa_cons (pe_ix (ixT K) (pv 2) pe_int (fun _ _ => rfl)) pa_nil)) (pe_callB (sortedSI (w := w) rfl) (by rfl) msorted (by decide +kernel) (pa_cons (pe_callTy (setTI (w := w) K rfl) (by rfl) mset (by decide +kernel) (pa_cons (pe_ix (ixT K) (pv 2) pe_int (fun _ _ => rfl)) pa_nil)) pa_nil)) (nomark _)) (pw_or1 (pt_not (pt_val (pe_ca c_law_is_folding (hr.mono (by decide)) (by rfl) (pa_cons (pv 0) (pa_cons (pv 1) (pa_cons (pe_ix (ixT K) (pv 2) pe_int (fun _ _ => rfl)) pa_nil))))))))) (pss_one (ps_ret pe_bl)) pss_nil)
      (pss_one (ps_ret (pe_cmpR (eqD K hr.units) (pe_lc (own := [("_law_one", 4)]) (g := gName 4) (by rfl) sc_law_are_holds.nd (pi_tup (pe_ix (ixT K) (pv 2) pe_int (fun _ _ => rfl))) (blkOk_by (own := [("_law_one", 4)]) (N := ["_law_code_here", "_law_word_here", "_law_some", "_law_place", "_law_one"]) (sc := defScope s_law_are_holds) (by decide +kernel)) (fun _ _ _ _ _ => (pg_name (i := 4) sc_law_are_holds.nd rfl (.inl rfl))) (fun _ _ _ _ _ => (pts_one (PW.pt (pw_or (pt_cmpR (inSeq K) (pe_ix (ixT K) (pv 4) pe_int (fun _ _ => rfl)) (pe_ix (ixT K) (pv 2) pe_int (fun _ _ => rfl)) (by rfl)) (pw_or1 (pt_cmpR (inSeq K) (pe_ix (ixT K) (pv 4) pe_int (fun _ _ => rfl)) (pe_ix (ixT K) (pv 2) pe_int (fun _ _ => rfl)) (by rfl))))))) (fun _ _ _ _ _ => pe_int)) (pe_lst pa_nil) (nomark _))))))), ?_⟩
    have qF : hoD r x d = false → ∀ H', Ext H H' → Q (.bl false) H' := fun e H' k => by
      have := q H' k
      rw [e] at this
      exact this
    refine ⟨_, rfl, t, .ty "tuple", _, _, isTup d, rfl, .ty _, hd.ty, kit_tup d, isTup d, rfl, ?_⟩
    cases hd with
    | emp _ => exact iteT (q H Ext.refl)
    | dp hd =>
      cases hd with
      | @tup a xs ds hs hds =>
        refine iteF ⟨_, rfl, a, xs, rfl, .inr hs, rfl, _, rfl, ?_⟩
        have hxl := dpAll_len hds
        by_cases hl : ds.length = 2
        · have e2 : (!decide (V.int (xs.length : Nat) = V.int 2)) = false := by
            rw [hxl, hl]
            simp
          rw [e2]
          obtain ⟨u0, u1, d0, d1, rfl, rfl, h0, h1⟩ := dp_pair hds hl
          have eho : hoD r x (.tuple [d0, d1]) = (plD x d0 && cbD r x (nsD d0) d1) := rfl
          refine iteF ⟨_, rfl, a, _, 0, u0, rfl, rfl, hs, rfl, u0, .ty "tuple", _, _, isTup d0, rfl, .ty _, (Dq.dp h0).ty, kit_tup d0, isTup d0, rfl, ?_⟩
          cases h0 with
          | @tup ap fs es hA hes =>
            refine iteF ?_
            have hel := dpAll_len hes
            have he60 := hb60 _ rfl es (by simp)
            refine ⟨_, rfl, a, _, 0, _, rfl, rfl, hs, rfl, ap, rfl, ⟨_, hA⟩, for_tup (K := K) (xs := fs) (fun i σ H2 => ∃ (y3 : Option V) (ns : List Int), σ = [some v, some (.str x), some (.ref a), y3, none] ∧ (es.take i).mapM intD = some ns ∧ (∀ n ∈ ns, inW x n = true) ∧ H2 = H)
              ⟨none, [], rfl, by rw [List.take_zero, List.mapM_nil]; rfl, (fun y h => by cases h), rfl⟩ (fun i σ H2 _ ⟨_, _, _, _, _, k⟩ => k ▸ hA) (fun i u σ H2 hi hv => ?_) (fun σ H2 hv => ?_)⟩
            · obtain ⟨y3, ns, rfl, hns, hin, rfl⟩ := hv
              obtain ⟨d2, hd2, hdp⟩ := dpAll_get hes hi
              have hm2 : d2 ∈ es := List.mem_of_getElem? hd2
              have bad : badD x d2 = true → Q (.bl false) H2 := fun e => qF (ho_no (pl_bad hm2 e)) _ Ext.refl
              refine ⟨_, rfl, u, .ty "int", _, _, isIntB d2, rfl, .ty _, (Dq.dp hdp).ty, kit_int d2, isIntB d2, rfl, ?_⟩
              cases hdp with
              | int n =>
                refine iteF ⟨_, rfl, .int n, .ty "bool", _, _, false, rfl, .ty _, .base (.int n), kit_ty (by decide +kernel), false, rfl, iteF ?_⟩
                refine ⟨_, rfl, 0, n, rfl, rfl, _, rfl, ?_⟩
                by_cases h0 : 0 ≤ n
                · rw [decide_eq_true h0]
                  refine iteT ⟨_, rfl, x, rfl, szL (by omega), _, _, rfl, rfl, _, rfl, ?_⟩
                  by_cases h1 : n < x.length
                  · rw [decide_eq_true h1]
                    refine iteF ⟨_, ns ++ [n], rfl, ?_, fun z hz => ?_, rfl⟩
                    · rw [List.take_add_one, hd2]
                      exact mapM_snoc hns rfl
                    · rcases List.mem_append.mp hz with hz | hz
                      · exact hin z hz
                      · rw [List.mem_singleton.mp hz]
                        exact decide_eq_true ⟨h0, h1⟩
                  · rw [decide_eq_false h1]
                    exact iteT (bad (by show (!decide (0 ≤ n ∧ n < (x.length : Int))) = true; rw [decide_eq_false (fun z => h1 z.2)]; rfl))
                · rw [decide_eq_false h0]
                  exact iteF ⟨_, rfl, iteT (bad (by show (!decide (0 ≤ n ∧ n < (x.length : Int))) = true; rw [decide_eq_false (fun z => h0 z.1)]; rfl))⟩
              | bl b => exact iteF ⟨_, rfl, .bl b, .ty "bool", _, _, true, rfl, .ty _, .base (.bl b), kit_ty (by decide +kernel), true, rfl, iteT (iteT (bad rfl))⟩
              | _ => exact iteT (iteT (bad rfl))
            · obtain ⟨y3, ns, rfl, hns, hin, rfl⟩ := hv
              rw [List.take_of_length_le (by omega)] at hns
              have hfs := int_dps hes hns
              subst hfs
              have hnl := mapM_len hns
              have hall : (ns.map (inW x)).all id = true := by
                rw [List.all_map, List.all_eq_true]
                exact fun n hn => hin n hn
              have epl : plD x (.tuple es) = (risI ns).all id := by
                show (match es.mapM intD with | some ns => plI x ns | none => false) = _
                rw [hns]
                show plI x ns = _
                unfold plI
                rw [hall, Bool.true_and]
              have ens : nsD (.tuple es) = ns := by
                show (es.mapM intD).getD [] = ns
                rw [hns]
                rfl
              refine ⟨_, rfl, a, _, 0, _, rfl, rfl, hs, rfl, ap, _, rfl, .inr hA, fun l hl => ?_⟩
              have e1 := Ext.new (o := .lst (ns.map V.int)) hl
              refine ⟨_, rfl, a, _, 0, _, rfl, rfl, sqT_ext e1 hs, rfl, ap, ns, rfl, sqT_ext e1 hA, by omega, fun p c hp hc => ?_⟩
              have e2 := Ext.new (o := SetO w p (fun j => decide (j ∈ ns)) c) hp
              delta tNil
              refine ⟨p, _, c, rfl, upd_same, by omega, fun ms p2 hpw hmem hml hp2 => ?_⟩
              have e3 := Ext.new (o := .lst (ms.map V.int)) hp2
              refine ⟨.list (ns.map PyData.int), .list (ms.map PyData.int), .lst (SqL.of ((e2.trans e3) _ _ upd_same)) (dpInts ns), .lst (SqL.of upd_same) (dpInts ms), PySem.W.shaped_ints _, PySem.W.shaped_ints _, _, rfl, ?_⟩
              rw [eqv_intL]
              have k3 := (e1.trans e2).trans e3
              have hiff : ns = ms ↔ ns.Pairwise (· < ·) := ⟨fun e => e ▸ hpw, fun e => lt_unique e hpw fun k => by rw [hmem k, decide_eq_true_iff]⟩
              by_cases hr : ns.Pairwise (· < ·)
              · rw [decide_eq_true (hiff.mpr hr)]
                have epl2 : plD x (.tuple es) = true := by rw [epl, risI_pw.mpr hr]
                refine iteF ⟨_, rfl, _, rfl, _, rfl, a, _, 1, u1, rfl, rfl, sqT_ext k3 hs, rfl, v, u1, r, x, d1, rfl, RulesAt.mono _ _ _ _ (TupK.ext k3) hR, hpl, hx, .dp (dp_ext k3 h1), (hb _ rfl d1 (by simp)).2, fun H5 k5 => ?_⟩
                have k35 := k3.trans k5
                cases ef : foD r x d1 with
                | false =>
                  refine ⟨_, rfl, iteT (qF ?_ _ k35)⟩
                  rw [eho]
                  unfold cbD
                  rw [ef, Bool.false_and, Bool.and_false]
                | true =>
                  refine ⟨_, rfl, iteF ?_⟩
                  obtain ⟨gs, qs, rfl, hqs⟩ := fo_some ef
                  cases h1 with
                  | @tup ag vs _ hG hgs =>
                    have hPs := paired_two hgs hqs
                    have hqn := mapM_len hqs
                    have hgl := dpAll_len hgs
                    have ecb : cbD r x ns (.tuple gs) = (qs.filter (hitB ns)).isEmpty := by
                      unfold cbD
                      rw [ef, Bool.true_and, ← kf_filter]
                      show (match gs.mapM twoD with | some qs => kfI ns qs | none => false) = _
                      rw [hqs]
                    have q60 := hb60 _ rfl gs (by simp)
                    refine ⟨_, rfl, a, _, 1, _, rfl, rfl, sqT_ext k35 hs, rfl, ag, rfl, ⟨_, sqT_ext k35 hG⟩, fun D hD => lc_tup (K := K) (xs := vs) (fun j H6 => H6 D = some (.lst ((((qs.take j).filter (hitB ns)).map fun _ => (1 : Int)).map V.int)) ∧ Ext H5 H6)
                      ⟨upd_same, Ext.new hD⟩ (fun j H6 _ ⟨_, k⟩ => sqT_ext (k35.trans k) hG) (fun j u2 H6 hj hv => ?_) (fun H6 hv => ?_)⟩
                    · obtain ⟨hL, k6⟩ := hv
                      obtain ⟨y, hy, a2, rfl, ha2⟩ := paired_get hPs hj
                      have hj2 : j < vs.length := (List.getElem?_eq_some_iff.mp hj).1
                      have k06 := k35.trans k6
                      have hsz : ((((qs.take j).filter (hitB ns)).map fun _ => (1 : Int)).map V.int).length ≤ 100 := by
                        rw [List.length_map, List.length_map]
                        have := List.length_filter_le (hitB ns) (qs.take j)
                        rw [List.length_take] at this
                        omega
                      have yes : hitB ns y = true → ∃ acc, H6 D = some (.lst acc) ∧ acc.length < sizeLine ∧ upd H6 D (.lst (acc ++ [V.int 1])) D = some (.lst ((((qs.take (j + 1)).filter (hitB ns)).map fun _ => (1 : Int)).map V.int)) ∧ Ext H5 (upd H6 D (.lst (acc ++ [V.int 1]))) := fun e => by
                        refine ⟨_, hL, szLt (by omega), ?_, k6.put hD⟩
                        rw [upd_same, List.take_add_one, hy, List.filter_append]
                        show some (HO.lst (_ ++ [V.int 1])) = some (HO.lst (List.map _ (List.map _ (_ ++ [y].filter (hitB ns)))))
                        rw [List.filter_cons_of_pos e, List.map_append, List.map_append]
                        rfl
                      have no : hitB ns y = false → H6 D = some (.lst ((((qs.take (j + 1)).filter (hitB ns)).map fun _ => (1 : Int)).map V.int)) ∧ Ext H5 H6 := fun e => by
                        refine ⟨?_, k6⟩
                        rw [List.take_add_one, hy, List.filter_append]
                        show _ = some (HO.lst (List.map _ (List.map _ (_ ++ [y].filter (hitB ns)))))
                        rw [List.filter_cons_of_neg (by rw [e]; exact Bool.false_ne_true), List.filter_nil, List.append_nil]
                        exact hL
                      have hs6 := sqT_ext k06 hs
                      have hA6 := sqT_ext k06 hA
                      have hy6 := sqT_ext k06 ha2
                      refine ⟨rfl, _, rfl, a2, _, 0, _, rfl, rfl, hy6, rfl, _, rfl, a, _, 0, _, rfl, rfl, hs6, rfl, ap, _, rfl, .inr hA6, rfl, flat_ints _, _, rfl, ?_⟩
                      rw [in_int]
                      by_cases c1 : y.1 ∈ ns
                      · rw [decide_eq_true c1]
                        exact iteT (yes (by unfold hitB; rw [decide_eq_true c1]; rfl))
                      · rw [decide_eq_false c1]
                        refine iteF ⟨_, rfl, a2, _, 1, _, rfl, rfl, hy6, rfl, _, rfl, a, _, 0, _, rfl, rfl, hs6, rfl, ap, _, rfl, .inr hA6, rfl, flat_ints _, _, rfl, ?_⟩
                        rw [in_int]
                        by_cases c2 : y.2 ∈ ns
                        · rw [decide_eq_true c2]
                          exact iteT (yes (by unfold hitB; rw [decide_eq_true c2, Bool.or_true]))
                        · rw [decide_eq_false c2]
                          exact iteF (no (by unfold hitB; rw [decide_eq_false c1, decide_eq_false c2]; rfl))
                    · obtain ⟨hL, k6⟩ := hv
                      rw [List.take_of_length_le (by omega)] at hL
                      refine ⟨Nat.zero_le _, fun e0 he0 => ?_⟩
                      have e7 := Ext.new (o := .lst []) he0
                      refine ⟨.list (((qs.filter (hitB ns)).map fun _ => (1 : Int)).map PyData.int), .list [], .lst (SqL.of (e7 _ _ hL)) (dpInts _), .lst (SqL.of upd_same) .nil, PySem.W.shaped_ints _, by decide, ?_⟩
                      rw [eqv_none]
                      have := q _ ((k35.trans k6).trans e7)
                      rw [eho, epl2, Bool.true_and, ens, ecb] at this
                      have e8 : (((qs.filter (hitB ns)).map fun _ => (1 : Int)).map PyData.int).isEmpty = (qs.filter (hitB ns)).isEmpty := by
                        cases qs.filter (hitB ns) <;> rfl
                      rw [e8]
                      exact this
              · rw [decide_eq_false fun z => hr (hiff.mp z)]
                refine iteT (qF (ho_no ?_) _ k3)
                rw [epl, Bool.eq_false_iff]
                exact fun z => hr (risI_pw.mp z)
          | _ => exact iteT (qF (ho_no rfl) _ Ext.refl)
        · have e2 : (!decide (V.int (xs.length : Nat) = V.int 2)) = true := by
            rw [decide_eq_false]
            · rfl
            · intro z
              injection z with z
              omega
          rw [e2]
          exact iteT (qF (ho_row (decide_eq_false fun z => hl (by omega))) _ Ext.refl)
      | _ => exact iteT (q H Ext.refl)
end
end Pf


namespace Pf
open PySem PySem.Spec PyProof.Rows L2
theorem Fl.pw {lo hi : Int} {ps : List (Int × Int)} (h : Fl lo hi ps) : ps.Pairwise Apart := by
  induction h with
  | nil => exact .nil
  | @cons lo hi i j A B h1 h2 h3 hA hB ihA ihB =>
    have bA := hA.bound
    have bB := hB.bound
    refine List.pairwise_cons.mpr ⟨fun y hy => ?_, List.pairwise_append.mpr ⟨ihA, ihB, fun a ha b hb => ?_⟩⟩
    · rcases List.mem_append.mp hy with hy | hy
      · have := bA y hy
        exact ⟨show i < y.1 by omega, .inr (show y.2 < j by omega)⟩
      · have := bB y hy
        exact ⟨show i < y.1 by omega, .inl (show j < y.1 by omega)⟩
    · have := bA a ha
      have := bB b hb
      exact ⟨by omega, .inl (by omega)⟩
theorem mapM_tw : ∀ qs : List (Int × Int), (qs.map dTw).mapM twoD = some qs
  | [] => List.mapM_nil
  | y :: r => by
    rw [List.map_cons, List.mapM_cons, mapM_tw r]
    rfl
theorem fo_apart {r : Rl} {x : Str} {qs : List (Int × Int)} (h : qs.Pairwise Apart) (hm : ∀ y ∈ qs, mayP r x y.1 y.2 = true) : foD r x (.tuple (qs.map dTw)) = true := by
  show (match (qs.map dTw).mapM twoD with | some qs => isF r x qs | none => false) = true
  rw [mapM_tw]
  exact (isF_ap hm).mpr h
theorem mapM_int : ∀ ns : List Int, (ns.map PyData.int).mapM intD = some ns
  | [] => List.mapM_nil
  | y :: r => by
    rw [List.map_cons, List.mapM_cons, mapM_int r]
    rfl
theorem kf_true {ns : List Int} {qs : List (Int × Int)} (h : ∀ n ∈ ns, n ∉ plc qs) : kfI ns qs = true := by
  unfold kfI
  rw [List.all_map, List.all_eq_true]
  intro i hi
  show (!decide (i ∈ ns)) = true
  rw [decide_eq_false fun z => h i z hi]
  rfl
theorem ho_true {r : Rl} {x : Str} {ns : List Int} {qs : List (Int × Int)} (h1 : ns.Pairwise (· < ·)) (h2 : ∀ n ∈ ns, inW x n = true) (h3 : qs.Pairwise Apart) (h4 : ∀ y ∈ qs, mayP r x y.1 y.2 = true) (h5 : ∀ n ∈ ns, n ∉ plc qs) : hoD r x (.tuple [.tuple (ns.map PyData.int), .tuple (qs.map dTw)]) = true := by
  show (plD x (.tuple (ns.map PyData.int)) && cbD r x (nsD (.tuple (ns.map PyData.int))) (.tuple (qs.map dTw))) = true
  have e1 : plD x (.tuple (ns.map PyData.int)) = true := by
    show (match (ns.map PyData.int).mapM intD with | some ns => plI x ns | none => false) = true
    rw [mapM_int]
    show plI x ns = true
    unfold plI
    rw [risI_pw.mpr h1, Bool.and_true, List.all_map, List.all_eq_true]
    exact fun n hn => h2 n hn
  have e2 : nsD (.tuple (ns.map PyData.int)) = ns := by
    show ((ns.map PyData.int).mapM intD).getD [] = ns
    rw [mapM_int]
    rfl
  rw [e1, e2, Bool.true_and]
  unfold cbD
  rw [fo_apart h3 h4, Bool.true_and]
  show (match (qs.map dTw).mapM twoD with | some qs => kfI ns qs | none => false) = true
  rw [mapM_tw]
  exact kf_true h5
/-- sorted of a tuple of numbers -/
theorem sort_intT {K : PySem.W.Frag} {H : Hp} {l : Addr} {ns : List Int} {Q : VK} (hL : SqT K H l (ns.map V.int)) (q : ∀ (p : Addr) (ms : List Int), H p = none → ms.Perm ns → Q (.ref p) (upd H p (.lst (ms.map V.int)))) : rSortTD K [.ref l] H Q := by
  refine ⟨Int, V.int, PyData.int, l, ns, rfl, hL, fun x hx => ⟨.int x, by simp [PyData.depth]⟩, ?_, .inr ?_, fun p hp => q p _ hp (List.mergeSort_perm _ _)⟩
  · intro d1 e1 d2 e2
    obtain ⟨x1, _, rfl⟩ := List.mem_map.mp e1
    obtain ⟨x2, _, rfl⟩ := List.mem_map.mp e2
    simp [PySem.W.alike]
  · intro d1 e1
    obtain ⟨x1, _, rfl⟩ := List.mem_map.mp e1
    exact ⟨(fun z => by cases z), fun xs z => by cases z⟩
theorem plc_mem {qs : List (Int × Int)} {n : Int} (h : n ∈ plc qs) : ∃ y ∈ qs, n = y.1 ∨ n = y.2 := by
  unfold plc at h
  obtain ⟨l, hl, hn⟩ := List.mem_flatten.mp h
  obtain ⟨y, hy, rfl⟩ := List.mem_map.mp hl
  exact ⟨y, hy, by simpa using hn⟩
section
variable {P : Program} {w : World} {K : PySem.W.Frag} {mg : Str → Option Value} {base : Heap}
abbrev CFold (P : Program) (w : World) (K : PySem.W.Frag) (mg : Str → Option Value) (base : Heap) : Prop := Ca P w K mg base 16 "_law_folded" ["_law_pen_here", "_law_code_here", "_law_word_here", "_law_first", "_law_last"] (spFold 13)
/-- holds that hold -/
structure Hold (r : Rl) (x : Str) (ns : List Int) (qs : List (Int × Int)) : Prop where
  pw : ns.Pairwise (· < ·)
  inw : ∀ n ∈ ns, inW x n = true
  ap : qs.Pairwise Apart
  may : ∀ y ∈ qs, mayP r x y.1 y.2 = true
  no : ∀ n ∈ ns, n ∉ plc qs
  nl : ns.length ≤ 12
  ql : qs.length ≤ 6
def HoldAt (H : Hp) (v : V) (ns : List Int) (qs : List (Int × Int)) : Prop := ∃ t ta tb us, v = .ref t ∧ H t = some (.tup [.ref ta, .ref tb]) ∧ H ta = some (.tup (ns.map V.int)) ∧ H tb = some (.tup us) ∧ Paired (TwoAt H) us qs
abbrev s_law_holds : Stmt := topS 28
theorem sc_law_holds : FnScope ["_law_pen_here", "_law_code_here", "_law_word_here", "_law_folds", "_law_few", "_law_stand", "_law_taken", "_law_share", "_law_free", "_law_one", "_law_place"] ["_law_pen_here", "_law_code_here", "_law_word_here"] (defScope s_law_holds) :=
  ⟨rfl, rfl, rfl, by decide +kernel, rfl, by decide +kernel, by decide +kernel⟩
def spHolds : Sp := fun vs H Q _ => ∃ (p c : Addr) (v : V) (r : Rl) (x : Str) (n : Nat), vs = [.ref p, v, .str x] ∧ RulesAt H v r ∧ RlOk r ∧ x.length ≤ 12 ∧ Pen H p c n ∧ n + 100 < 1000000 ∧
  ∀ v' ns qs H', HoldAt H' v' ns qs → Hold r x ns qs → Kp p H H' → Pen H' p c (n + 100) → Q v' H'
theorem ok_holds {f : Addr} {fd : FuncData} (F : Fun K "_law_holds" "_law_holds" s_law_holds f fd) (c_law_folded : CFold P w K mg base) (c_law_take : CTake P w K mg base) (mlen : mg "len" = none) (msum : mg "sum" = none) (mlist : mg "list" = none) (mtuple : mg "tuple" = none) (mrange : mg "range" = none) : FnOk P w K mg base CX0 17 f fd ["_law_pen_here", "_law_code_here", "_law_word_here"] spHolds := by
  refine F.ok sc_law_holds (fun vs H Q E h => ?_) (fun cdv A outer s H vs Q E hr h => ?_)
  · obtain ⟨p, c, v, r, x, n, rfl, _⟩ := h
    rfl
  · obtain ⟨p, c, v, r, x, n, rfl, hR, ok, hx, hP, hn, q⟩ := h
    refine ⟨_, (pss_cons (ps_set (i := 3) sc_law_holds.nd rfl (.inl rfl) (pe_ca c_law_folded (hr.mono (by decide)) (by rfl) (pa_cons (pv 0) (pa_cons (pv 1) (pa_cons (pv 2) (pa_cons pe_int (pa_cons (pe_op op_sub (pe_callB call_len_str (by rfl) mlen (by decide +kernel) (pa_cons (pv 2) pa_nil)) pe_int) pa_nil)))))))
      (pss_cons (ps_set (i := 4) sc_law_holds.nd rfl (.inr rfl) (pe_ca c_law_take (hr.mono (by decide)) (by rfl) (pa_cons (pv 0) (pa_cons pe_int pa_nil))))
      (pss_cons (ps_setLc (i := 5) (own := [("_law_one", 9)]) (g := gName 9) (by rfl) sc_law_holds.nd rfl rfl (sw_true rfl rfl rfl (by decide +kernel)) (pi_list (pv 3)) (blkOk_by (own := [("_law_one", 9)]) (N := ["_law_pen_here", "_law_code_here", "_law_word_here", "_law_folds", "_law_few", "_law_stand", "_law_taken", "_law_share", "_law_free", "_law_one", "_law_place"]) (sc := defScope s_law_holds) (by decide +kernel)) (fun _ _ _ _ _ => (pg_name (i := 9) sc_law_holds.nd rfl (.inl rfl))) (fun _ _ _ _ _ => (pts_one (pt_cmpR op_lt (pe_ca c_law_take (hr.mono (by decide)) (by rfl) (pa_cons (pv 0) (pa_cons pe_int pa_nil))) (pv 4) (nomark _)))) (fun _ _ _ _ _ => (pv 9)))
      (pss_cons (ps_set (i := 6) sc_law_holds.nd rfl (.inr rfl) (pe_callB (sumS K rfl) (by rfl) msum (by decide +kernel) (pa_cons (pe_lc (own := [("_law_one", 9)]) (g := gName 9) (by rfl) sc_law_holds.nd (pi_list (pv 5)) (blkOk_by (own := [("_law_one", 9)]) (N := ["_law_pen_here", "_law_code_here", "_law_word_here", "_law_folds", "_law_few", "_law_stand", "_law_taken", "_law_share", "_law_free", "_law_one", "_law_place"]) (sc := defScope s_law_holds) (by decide +kernel)) (fun _ _ _ _ _ => (pg_name (i := 9) sc_law_holds.nd rfl (.inl rfl))) (fun _ _ _ _ _ => pts_nil) (fun _ _ _ _ _ => (pe_callTy (listOf K) (by rfl) mlist (by decide +kernel) (pa_cons (pv 9) pa_nil)))) (pa_cons (pe_lst pa_nil) pa_nil))))
      (pss_cons (ps_set (i := 7) sc_law_holds.nd rfl (.inr rfl) (pe_ca c_law_take (hr.mono (by decide)) (by rfl) (pa_cons (pv 0) (pa_cons pe_int pa_nil))))
      (pss_cons (ps_setLc (i := 8) (own := [("_law_place", 10)]) (g := gName 10) (by rfl) sc_law_holds.nd rfl rfl (sw_true rfl rfl rfl (by decide +kernel)) (pi_range1 (by rfl) mrange (pa_cons (pe_callB call_len_str (by rfl) mlen (by decide +kernel) (pa_cons (pv 2) pa_nil)) pa_nil)) (blkOk_by (own := [("_law_place", 10)]) (N := ["_law_pen_here", "_law_code_here", "_law_word_here", "_law_folds", "_law_few", "_law_stand", "_law_taken", "_law_share", "_law_free", "_law_one", "_law_place"]) (sc := defScope s_law_holds) (by decide +kernel)) (fun _ _ _ _ _ => (pg_name (i := 10) sc_law_holds.nd rfl (.inl rfl))) (fun _ _ _ _ _ => (pts_one (PW.pt (pw_and (pt_cmpR (notInSeq K) (pv 10) (pv 6) (by rfl)) (pw_and1 (pt_cmpR op_lt (pe_ca c_law_take (hr.mono (by decide)) (by rfl) (pa_cons (pv 0) (pa_cons pe_int pa_nil))) (pv 7) (nomark _))))))) (fun _ _ _ _ _ => (pv 10)))
      (pss_one (ps_ret (pe_tup (pa_cons (pe_callTy (tupleOf K) (by rfl) mtuple (by decide +kernel) (pa_cons (pv 8) pa_nil)) (pa_cons (pe_callTy (tupleOf K) (by rfl) mtuple (by decide +kernel) (pa_cons (pv 5) pa_nil)) pa_nil))))))))))), ?_⟩
    refine ⟨_, rfl, _, rfl, _, rfl, _, rfl, x, rfl, szL (by omega), _, 1, rfl, rfl, p, c, v, r, x, 0, (x.length : Int) - 1, _, rfl, hR, ok, by omega, by decide, by omega, by omega, by omega, hP, by omega, fun l vs ps H1 n1 hl hL1 hPr1 hFl hMy k1 hP1 hn1 => ?_⟩
    have hpl : ps.length ≤ 6 := by
      have := hFl.len (by omega)
      omega
    have hvl := paired_len hPr1
    refine ⟨_, rfl, p, c, 4, _, rfl, hP1, by omega, by decide, by decide, fun few H2 f0 f1 k2 hP2 => ?_⟩
    have hL2 := k2 _ _ (hP1.lst hL1) hL1
    have tk2 := TupK.of k2 hP1
    have hPr2 := paired_imp (fun _ _ => TwoAt.mono _ _ _ _ tk2) hPr1
    -- stand
    refine ⟨_, rfl, l, rfl, ⟨_, SqL.of hL2⟩, fun D hD => lc_list (K := K) (xs := vs) (fun i H3 => ∃ us qs, H3 D = some (.lst us) ∧ Paired (TwoAt H3) us qs ∧ qs.Sublist (ps.take i) ∧ us.length ≤ i ∧ Kp p H2 H3 ∧ Pen H3 p c (n + 37 + i))
      ⟨[], [], upd_same, .nil, List.nil_sublist _, Nat.le_refl _, Kp.new hD, (hP2.new hD).mono (by omega)⟩ (fun i H3 _ ⟨_, _, _, _, _, _, k, _⟩ => SqL.of (k _ _ (hP2.lst hL2) hL2)) (fun i u H3 hi hv => ?_) (fun H3 hv => ?_)⟩
    · obtain ⟨us, qs, hL3, hPr3, hsub, hul, k3, hP3⟩ := hv
      obtain ⟨y, hy, a1, rfl, ha1⟩ := paired_get hPr2 hi
      have hi2 := (List.getElem?_eq_some_iff.mp hi).1
      refine ⟨rfl, _, rfl, p, c, 4, _, rfl, hP3, by omega, by decide, by decide, fun r4 H4 r4a r4b k4 hP4 => ?_⟩
      have nD := hP3.lst hL3
      have hL4 := k4 _ _ nD hL3
      have tk4 := TupK.of k4 hP3
      refine ⟨_, rfl, _, _, rfl, rfl, _, rfl, ite2 (fun e => ?_) (fun e => ?_)⟩
      · refine ⟨_, rfl, us, hL4, szLt (by have := (List.getElem?_eq_some_iff.mp hi).1; omega), us ++ [.ref a1], qs ++ [y], upd_same, ?_, ?_, ?_, (k3.trans k4).put hD, hP4.put nD (hP2.ne hD).2 |>.mono (by omega)⟩
        · refine (paired_imp (fun _ _ => TwoAt.mono _ _ _ _ (tk4.trans (TupK.lst hL4))) hPr3).snoc ⟨a1, rfl, TupK.lst hL4 _ _ (tk4 _ _ (TupK.of k3 hP2 _ _ ha1))⟩
        · rw [List.take_add_one, hy]
          exact hsub.append (List.Sublist.refl _)
        · rw [List.length_append, List.length_singleton]
          omega
      · refine ⟨us, qs, hL4, paired_imp (fun _ _ => TwoAt.mono _ _ _ _ tk4) hPr3, ?_, by omega, k3.trans k4, hP4.mono (by omega)⟩
        rw [List.take_add_one]
        exact hsub.trans (List.sublist_append_left _ _)
    · obtain ⟨us, qs, hL3, hPr3, hsub, hul, k3, hP3⟩ := hv
      rw [List.take_of_length_le (by omega)] at hsub
      have hqm : ∀ y ∈ qs, y ∈ ps := fun y hy => hsub.subset hy
      have hql : qs.length ≤ 6 := Nat.le_trans hsub.length_le hpl
      have hap : qs.Pairwise Apart := hFl.pw.sublist hsub
      have hmy : ∀ y ∈ qs, mayP r x y.1 y.2 = true := fun y hy => by
        have hb := hFl.bound y (hqm y hy)
        unfold mayP
        rw [hMy y (hqm y hy), Bool.and_true]
        exact decide_eq_true ⟨hb.1, hb.2.1, by omega⟩
      have hus := paired_len hPr3
      -- taken
      refine ⟨_, rfl, D, rfl, ⟨_, SqL.of hL3⟩, fun D2 hD2 => lc_list (K := K) (xs := us) (fun i H4 => ∃ ls : List (Addr × List V), ls.map (·.2) = (qs.take i).map (fun y => [V.int y.1, V.int y.2]) ∧ (∀ z ∈ ls, z.1 ≠ D2 ∧ H4 z.1 = some (.lst z.2)) ∧ H4 D2 = some (.lst (ls.map fun z => .ref z.1)) ∧ Ext H3 H4)
        ⟨[], rfl, (fun z h => by cases h), upd_same, Ext.new hD2⟩ (fun i H4 _ ⟨_, _, _, _, k⟩ => SqL.of (k _ _ hL3)) (fun i u H4 hi hv => ?_) (fun H4 hv => ?_)⟩
      · obtain ⟨ls, hls, hat, hL4, k4⟩ := hv
        obtain ⟨y, hy, a1, rfl, ha1⟩ := paired_get hPr3 hi
        have hi2 : i < us.length := (List.getElem?_eq_some_iff.mp hi).1
        have hll : ls.length ≤ i := by
          have := congrArg List.length hls
          rw [List.length_map, List.length_map, List.length_take] at this
          omega
        refine ⟨rfl, _, rfl, a1, _, rfl, .inr (SqT.of (k4 _ _ ha1)), fun lz hlz => ?_⟩
        have e4 := Ext.new (o := .lst [V.int y.1, V.int y.2]) hlz
        have nl : lz ≠ D2 := fun z => by
          rw [z, hL4] at hlz
          cases hlz
        refine ⟨_, e4 _ _ hL4, szLt (by rw [List.length_map]; omega), ls ++ [(lz, [V.int y.1, V.int y.2])], ?_, fun z hz => ?_, ?_, (k4.trans e4).put hD2⟩
        · rw [List.map_append, hls, List.take_add_one, hy, List.map_append]
          rfl
        · rcases List.mem_append.mp hz with hz | hz
          · refine ⟨(hat z hz).1, ?_⟩
            rw [upd_ne (hat z hz).1]
            exact e4 _ _ (hat z hz).2
          · rw [List.mem_singleton.mp hz]
            refine ⟨nl, ?_⟩
            rw [upd_ne nl, upd_same]
        · rw [upd_same, List.map_append]
          rfl
      · obtain ⟨ls, hls, hat, hL4, k4⟩ := hv
        rw [List.take_of_length_le (by omega)] at hls
        refine ⟨Nat.zero_le _, fun b hb => ?_⟩
        have e4 := Ext.new (o := .lst []) hb
        have epl : (ls.map (·.2)).flatten = (plc qs).map V.int := by
          rw [hls]
          exact plc_map qs
        have hpln := plc_len qs
        refine ⟨D2, b, ls, [], rfl, SqL.of (e4 _ _ hL4), fun z hz => e4 _ _ (hat z hz).2, upd_same, szL ?_, fun pl H5 k5 hpl5 => ?_⟩
        · rw [epl, List.length_map]
          show 0 + _ ≤ _
          omega
        rw [List.nil_append, epl] at hpl5
        have k35 := (k4.trans e4).trans k5
        have hP5 := hP3.ext k35
        refine ⟨_, rfl, p, c, 4, _, rfl, hP5, by omega, by decide, by decide, fun sh H6 s0 s1 k6 hP6 => ?_⟩
        have hpl6 := sqL_pen hP5 k6 hpl5
        -- free
        refine ⟨_, rfl, x, rfl, szL (by omega), _, rfl, by omega, by omega, fun D3 hD3 => lc_range (lo := 0) (n := ((x.length : Nat) : Int).toNat) (fun i H7 => ∃ ns : List Int, H7 D3 = some (.lst (ns.map V.int)) ∧ ns.Pairwise (· < ·) ∧ (∀ n ∈ ns, 0 ≤ n ∧ n < i ∧ n ∉ plc qs) ∧ ns.length ≤ i ∧ Kp p H6 H7 ∧ Pen H7 p c (n + 50 + i))
          ⟨[], upd_same, .nil, (fun n h => by cases h), Nat.le_refl _, Kp.new hD3, (hP6.new hD3).mono (by omega)⟩ (fun i H7 hi hv => ?_) (fun H7 hv => ?_)⟩
        · obtain ⟨ns, hL7, hpw, hbd, hnl, k7, hP7⟩ := hv
          have hpl7 := sqL_pen hP6 k7 hpl6
          refine ⟨rfl, _, rfl, _, rfl, pl, _, rfl, .inl hpl7, rfl, flat_ints _, _, rfl, ?_⟩
          rw [in_int]
          by_cases hm : (0 : Int) + (i : Int) ∈ plc qs
          · rw [decide_eq_true hm]
            exact iteF ⟨ns, hL7, hpw, fun z hz => by have := hbd z hz; exact ⟨this.1, by omega, this.2.2⟩, by omega, k7, hP7.mono (by omega)⟩
          · rw [decide_eq_false hm]
            refine iteT ⟨_, rfl, p, c, 6, _, rfl, hP7, by omega, by decide, by decide, fun r8 H8 r8a r8b k8 hP8 => ⟨_, rfl, _, _, rfl, rfl, _, rfl, ite2 (fun e => ?_) (fun e => ?_)⟩⟩
            · have nD := hP7.lst hL7
              have hL8 := k8 _ _ nD hL7
              refine ⟨_, rfl, _, hL8, szLt (by rw [List.length_map]; omega), ns ++ [0 + (i : Int)], ?_, ?_, fun z hz => ?_, ?_, (k7.trans k8).put hD3, (hP8.put nD (hP6.ne hD3).2).mono (by omega)⟩
              · rw [upd_same, List.map_append]
                rfl
              · refine List.pairwise_append.mpr ⟨hpw, List.pairwise_singleton _ _, fun a ha b hb => ?_⟩
                rw [List.mem_singleton] at hb
                have := hbd a ha
                omega
              · rcases List.mem_append.mp hz with hz | hz
                · have := hbd z hz
                  exact ⟨this.1, by omega, this.2.2⟩
                · rw [List.mem_singleton.mp hz]
                  exact ⟨by omega, by omega, hm⟩
              · rw [List.length_append, List.length_singleton]
                omega
            · have nD := hP7.lst hL7
              exact ⟨ns, k8 _ _ nD hL7, hpw, fun z hz => by have := hbd z hz; exact ⟨this.1, by omega, this.2.2⟩, by omega, k7.trans k8, hP8.mono (by omega)⟩
        · obtain ⟨ns, hL7, hpw, hbd, hnl, k7, hP7⟩ := hv
          have kD : Kp p H3 H7 := ((Kp.ext k35).trans k6).trans k7
          have hL37 := kD _ _ (hP3.lst hL3) hL3
          have hPr7 := paired_imp (fun _ _ => TwoAt.mono _ _ _ _ (TupK.of kD hP3)) hPr3
          refine ⟨_, rfl, D3, _, rfl, .inl ⟨SqL.of hL7, fun ta hta => ?_⟩⟩
          have e8 := Ext.new (o := .tup (ns.map V.int)) hta
          refine ⟨_, rfl, D, us, rfl, .inl ⟨SqL.of (e8 _ _ hL37), fun tb htb => ?_⟩⟩
          have e9 := Ext.new (o := .tup us) htb
          refine ⟨szL (show 2 ≤ 1000000 by decide), fun tt htt => ?_⟩
          have e10 := Ext.new (o := .tup [.ref ta, .ref tb]) htt
          have k810 := (e8.trans e9).trans e10
          refine q (.ref tt) ns qs _ ⟨tt, ta, tb, us, rfl, upd_same, e10 _ _ (e9 _ _ upd_same), e10 _ _ upd_same, paired_imp (fun _ _ => TwoAt.mono _ _ _ _ (TupK.ext k810)) hPr7⟩ ⟨hpw, fun n hn => ?_, hap, hmy, fun n hn => (hbd n hn).2.2, by omega, hql⟩ (((k1.trans k2).trans (k3.trans kD)).trans (Kp.ext k810)) ((hP7.ext k810).mono (by omega))
          have := hbd n hn
          exact decide_eq_true ⟨this.1, by omega⟩
end
end Pf


namespace Pf
open PySem PySem.Spec PyProof.Rows L2
theorem el_twosL {K : PySem.W.Frag} {H : Hp} {a : Addr} {us : List V} {qs : List (Int × Int)} (h : SqL K H a us) (hp : Paired (TwoS K H) us qs) (hn : qs.length ≤ 15) (b : ∀ y ∈ qs, -1000 ≤ y.1 ∧ y.1 ≤ 1000 ∧ -1000 ≤ y.2 ∧ y.2 ≤ 1000) : El K H (.ref a) := by
  refine ⟨_, .lst h (dp_twos hp), (Sm.lst (n := 15) (m := 130) (k := 1) (by rw [List.length_map]; exact hn) (fun d hd => ?_) (Nat.le_refl _)).le (by decide) (by decide), fun es e => by cases e⟩
  obtain ⟨y, hy, rfl⟩ := List.mem_map.mp hd
  have h1 := b y hy
  refine Sm.tup (n := 2) (m := 64) (k := 0) (Nat.le_refl _) (fun d hd => ?_) (by decide)
  simp only [List.mem_cons, List.not_mem_nil, or_false] at hd
  rcases hd with rfl | rfl
  · exact Sm.int (by omega) (by omega)
  · exact Sm.int (by omega) (by omega)
theorem el_ints {K : PySem.W.Frag} {H : Hp} {a : Addr} {ns : List Int} (h : SqT K H a (ns.map V.int)) (hn : ns.length ≤ 20) (b : ∀ n ∈ ns, -1000 ≤ n ∧ n ≤ 1000) : El K H (.ref a) :=
  el_tup h (by rw [List.length_map]; exact hn) fun u hu => by
    obtain ⟨n, hn, rfl⟩ := List.mem_map.mp hu
    have := b n hn
    exact S0.int (by omega) (by omega)
def E1 (K : PySem.W.Frag) (H : Hp) (v : V) : Prop := ∃ d, Dp K H v d ∧ Sm 110 1 d
theorem E1.ext {K : PySem.W.Frag} {H H' : Hp} {v : V} (h : E1 K H v) (k : Ext H H') : E1 K H' v := by
  obtain ⟨d, h1, h2⟩ := h
  exact ⟨d, dp_ext k h1, h2⟩
theorem E1.kp {K : PySem.W.Frag} {H H' : Hp} {v : V} {p c : Addr} {n : Nat} (hP : Pen H p c n) (h : E1 K H v) (k : Kp p H H') : E1 K H' v := by
  obtain ⟨d, h1, h2⟩ := h
  exact ⟨d, dp_by (sqT_pen hP k) (sqL_pen hP k) h1, h2⟩
theorem S0.e1 {K : PySem.W.Frag} {H : Hp} {v : V} (h : S0 v) : E1 K H v := by
  obtain ⟨d, h1, h2⟩ := h
  exact ⟨d, h1 K H, h2.le (by decide) (by decide)⟩
theorem e1_all {K : PySem.W.Frag} {H : Hp} : ∀ {us : List V}, (∀ u ∈ us, E1 K H u) → ∃ ds, DpAll K H us ds ∧ ∀ d ∈ ds, Sm 110 1 d
  | [], _ => ⟨[], .nil, fun d h => by cases h⟩
  | u :: us, h => by
    obtain ⟨d, h1, h2⟩ := h u (List.mem_cons_self ..)
    obtain ⟨ds, h3, h4⟩ := e1_all fun x hx => h x (List.mem_cons_of_mem _ hx)
    refine ⟨d :: ds, .cons h1 h3, fun z hz => ?_⟩
    rcases List.mem_cons.mp hz with rfl | hz
    · exact h2
    · exact h4 z hz
theorem el_tup1 {K : PySem.W.Frag} {H : Hp} {a : Addr} {us : List V} (h : SqT K H a us) (hn : us.length ≤ 26) (hu : ∀ u ∈ us, E1 K H u) : El K H (.ref a) := by
  obtain ⟨ds, h1, h2⟩ := e1_all hu
  have := dpAll_len h1
  exact ⟨_, .tup h h1, (Sm.tup (n := 26) (m := 110) (k := 1) (by omega) h2 (by decide)).le (Nat.le_refl 3000) (by decide), fun es e => by injection e with e; rw [← e]; omega⟩
theorem e1_one {K : PySem.W.Frag} {H : Hp} {a : Addr} {i : Int} (h : H a = some (.tup [.int i])) (h0 : -1000000 < i) (h1 : i < 1000000) : E1 K H (.ref a) :=
  ⟨_, .tup (SqT.of h) (.cons (.int _) .nil), (Sm.tup (n := 1) (m := 64) (k := 0) (Nat.le_refl _) (fun d hd => by rw [List.mem_singleton.mp hd]; exact Sm.int (by omega) (by omega)) (Nat.le_refl _)).le (by decide) (Nat.le_refl _)⟩
theorem paired_rev {α β : Type} {R : α → β → Prop} {xs : List α} {ys : List β} (h : Paired R xs ys) : Paired R xs.reverse ys.reverse := by
  induction h with
  | nil => exact .nil
  | cons r t ih =>
    rw [List.reverse_cons, List.reverse_cons]
    exact ih.snoc r
theorem mem_cut {xs : List V} {lo hi : Option Int} {u : V} (h : u ∈ cutV xs lo hi) : u ∈ xs := List.mem_of_mem_drop (List.mem_of_mem_take h)
section
variable {P : Program} {w : World} {K : PySem.W.Frag} {mg : Str → Option Value} {base : Heap}
abbrev s_law_bent : Stmt := topS 30
theorem sc_law_bent : FnScope ["_law_pen_here", "_law_word_here", "_law_some", "_law_free", "_law_stand", "_law_way", "_law_place", "_law_at", "_law_odd"] ["_law_pen_here", "_law_word_here", "_law_some"] (defScope s_law_bent) :=
  ⟨rfl, rfl, rfl, by decide +kernel, rfl, by decide +kernel, by decide +kernel⟩
def spBent {K : PySem.W.Frag} : Sp := fun vs H Q _ => ∃ (p c : Addr) (r : Rl) (x : Str) (v : V) (ns : List Int) (qs : List (Int × Int)) (n : Nat), vs = [.ref p, .str x, v] ∧ x.length ≤ 12 ∧ HoldAt H v ns qs ∧ Hold r x ns qs ∧ Pen H p c n ∧ n + 20 < 1000000 ∧
  ∀ v H', Gd K H' v → Kp p H H' → Pen H' p c (n + 20) → Q v H'
theorem ok_bent {f : Addr} {fd : FuncData} (F : Fun K "_law_bent" "_law_bent" s_law_bent f fd) (c_law_take : CTake P w K mg base) (c_law_pick : CPick P w K mg base) (mlen : mg "len" = none) (mtuple : mg "tuple" = none) (mlist : mg "list" = none) (msorted : mg "sorted" = none) : FnOk P w K mg base CX0 3 f fd ["_law_pen_here", "_law_word_here", "_law_some"] (spBent (K := K)) := by
  refine F.ok sc_law_bent (fun vs H Q E h => ?_) (fun cdv A outer s H vs Q E hr h => ?_)
  · obtain ⟨p, c, r, x, v, ns, qs, n, rfl, _⟩ := h
    rfl
  · obtain ⟨p, c, r, x, v, ns, qs, n, rfl, hx, ⟨t, ta, tb, us, rfl, hT, hA, hB, hPr⟩, ho, hP, hn, q⟩ := h
    refine ⟨_, (pss_cons (ps_asg (pv 2) (pg_tup rfl (pgs_cons (pg_name (i := 3) sc_law_bent.nd rfl (.inl rfl)) (pgs_cons (pg_name (i := 4) sc_law_bent.nd rfl (.inl rfl)) pgs_nil))))
      (pss_cons (ps_set (i := 5) sc_law_bent.nd rfl (.inl rfl) (pe_ca c_law_take (hr.mono (by decide)) (by rfl) (pa_cons (pv 0) (pa_cons pe_int pa_nil))))
      (pss_cons (ps_set (i := 6) sc_law_bent.nd rfl (.inl rfl) (pe_op op_sub (pe_ca c_law_take (hr.mono (by decide)) (by rfl) (pa_cons (pv 0) (pa_cons (pe_op op_add (pe_callB call_len_str (by rfl) mlen (by decide +kernel) (pa_cons (pv 1) pa_nil)) pe_int) pa_nil))) pe_int))
      (pss_cons (ps_set (i := 7) sc_law_bent.nd rfl (.inl rfl) (pe_ca c_law_take (hr.mono (by decide)) (by rfl) (pa_cons (pv 0) (pa_cons (pe_op op_add (pe_callB (lenQ K) (by rfl) mlen (by decide +kernel) (pa_cons (pv 3) pa_nil)) pe_int) pa_nil))))
      (pss_cons (ps_if (pt_cmpR op_eq (pv 5) pe_int (nomark _)) (pss_cons (ps_set (i := 8) sc_law_bent.nd rfl (.inl rfl) (pe_lst (pa_cons pe_non (pa_cons (pe_tup pa_nil) (pa_cons (pe_lst pa_nil) (pa_cons pe_dnewK (pa_cons pe_str (pa_cons pe_int (pa_cons (pe_tup (pa_cons (pv 3) pa_nil)) (pa_cons (pe_lst (pa_cons (pv 3) (pa_cons (pv 4) pa_nil))) (pa_cons (pe_tup (pa_cons (pv 3) (pa_cons (pv 4) (pa_cons (pe_tup pa_nil) pa_nil)))) (pa_cons (pe_tup (pa_cons (pe_callTy (listOf K) (by rfl) mlist (by decide +kernel) (pa_cons (pv 3) pa_nil)) (pa_cons (pv 4) pa_nil))) pa_nil))))))))))))
      (pss_one (ps_ret (pe_ca c_law_pick (hr.mono (by decide)) (by rfl) (pa_cons (pv 0) (pa_cons (pv 8) pa_nil)))))) pss_nil)
      (pss_cons (ps_if (pt_cmpR op_eq (pv 5) pe_int (nomark _)) (pss_cons (ps_set (i := 8) sc_law_bent.nd rfl (.inl rfl) (pe_lst (pa_cons (pe_callTy (listOf K) (by rfl) mlist (by decide +kernel) (pa_cons (pv 4) pa_nil)) (pa_cons pe_non (pa_cons (pe_op (catS K) (pv 4) (pe_tup (pa_cons (pe_tup (pa_cons (pv 6) (pa_cons (pe_op op_add (pv 6) pe_int) pa_nil))) pa_nil))) (pa_cons (pe_revT (pv 4)) (pa_cons (pe_tup (pa_cons (pe_tup (pa_cons pe_int (pa_cons pe_int pa_nil))) pa_nil)) (pa_cons (pe_tup (pa_cons pe_int (pa_cons pe_int pa_nil))) pa_nil))))))))
      (pss_one (ps_ret (pe_tup (pa_cons (pv 3) (pa_cons (pe_ca c_law_pick (hr.mono (by decide)) (by rfl) (pa_cons (pv 0) (pa_cons (pv 8) pa_nil))) pa_nil)))))) pss_nil)
      (pss_cons (ps_if (pt_cmpR op_eq (pv 5) pe_int (nomark _)) (pss_one (ps_ret (pe_tup (pa_cons (pe_callTy (tupleOf K) (by rfl) mtuple (by decide +kernel) (pa_cons (pe_callB (cr_sortTD K hr.units) (by rfl) msorted (by decide +kernel) (pa_cons (pe_op (catS K) (pv 3) (pe_tup (pa_cons (pv 6) pa_nil))) pa_nil)) pa_nil)) (pa_cons (pv 4) pa_nil))))) pss_nil)
      (pss_cons (ps_if (pt_cmpR op_eq (pv 5) pe_int (nomark _)) (pss_one (ps_ret (pe_tup (pa_cons (pe_op (catS K) (pe_op (catS K) (pe_slice (slS K) (pv 3) po_none (po_some (pv 7))) (pe_tup (pa_cons (pe_ca c_law_pick (hr.mono (by decide)) (by rfl) (pa_cons (pv 0) (pa_cons (pe_lst (pa_cons (pv 6) (pa_cons pe_bl (pa_cons pe_non (pa_cons pe_str (pa_cons (pe_tup (pa_cons (pv 6) pa_nil)) (pa_cons (pe_callB call_len_str (by rfl) mlen (by decide +kernel) (pa_cons (pv 1) pa_nil)) (pa_cons (pe_un un_neg pe_int) pa_nil)))))))) pa_nil))) pa_nil))) (pe_slice (slS K) (pv 3) (po_some (pv 7)) po_none)) (pa_cons (pv 4) pa_nil))))) pss_nil)
      (pss_cons (ps_if (pt_cmpR op_eq (pv 5) pe_int (nomark _)) (pss_one (ps_ret (pe_tup (pa_cons (pe_revT (pv 3)) (pa_cons (pv 4) pa_nil))))) pss_nil)
      (pss_cons (ps_if (pt_cmpR op_eq (pv 5) pe_int (nomark _)) (pss_one (ps_ret (pe_tup (pa_cons (pe_op (catS K) (pv 3) (pe_slice (slS K) (pv 3) (po_some (pe_un un_neg pe_int)) po_none)) (pa_cons (pv 4) pa_nil))))) pss_nil)
      (pss_cons (ps_if (PW.pt (pw_and (pt_cmpR op_eq (pv 5) pe_int (nomark _)) (pw_and1 (pt_cmpR (neD K hr.units) (pv 4) (pe_tup pa_nil) (nomark _))))) (pss_one (ps_ret (pe_tup (pa_cons (pe_callTy (tupleOf K) (by rfl) mtuple (by decide +kernel) (pa_cons (pe_callB (cr_sortTD K hr.units) (by rfl) msorted (by decide +kernel) (pa_cons (pe_op (catS K) (pv 3) (pe_tup (pa_cons (pe_ca c_law_pick (hr.mono (by decide)) (by rfl) (pa_cons (pv 0) (pa_cons (pe_ca c_law_pick (hr.mono (by decide)) (by rfl) (pa_cons (pv 0) (pa_cons (pv 4) pa_nil))) pa_nil))) pa_nil))) pa_nil)) pa_nil)) (pa_cons (pv 4) pa_nil))))) pss_nil)
      (pss_one (ps_ret (pe_tup (pa_cons (pv 3) (pa_cons (pe_callTy (tupleOf K) (by rfl) mtuple (by decide +kernel) (pa_cons (pe_callB (cr_sortTD K hr.units) (by rfl) msorted (by decide +kernel) (pa_cons (pe_op (catS K) (pv 4) (pe_tup (pa_cons (pe_tup (pa_cons (pv 6) (pa_cons (pe_op op_add (pv 6) pe_int) pa_nil))) pa_nil))) pa_nil)) pa_nil)) pa_nil)))))))))))))))), ?_⟩
    have hul := paired_len hPr
    have hnl := ho.nl
    have hql := ho.ql
    have hnb : ∀ n ∈ ns, -1000 ≤ n ∧ n ≤ 1000 := fun n hn => by
      have := of_decide_eq_true (ho.inw n hn)
      omega
    have hb : ∀ y ∈ qs, -1000 ≤ y.1 ∧ y.1 ≤ 1000 ∧ -1000 ≤ y.2 ∧ y.2 ≤ 1000 := fun y hy => by
      have := ho.may y hy
      unfold mayP at this
      rw [Bool.and_eq_true] at this
      have := of_decide_eq_true this.1
      omega
    have qq : ∀ (v : V) (H' H'' : Hp) (m : Nat), Pen H' p c m → m ≤ n + 20 → Kp p H H' → Ext H' H'' → Gd K H'' v → Q v H'' := fun v H' H'' m hP' hm hk he hg => q v H'' hg (hk.trans (Kp.ext he)) ((hP'.ext he).mono hm)
    refine ⟨_, rfl, t, _, rfl, SqT.of hT, rfl, _, _, rfl, _, _, rfl, rfl, ?_⟩
    refine ⟨_, rfl, p, c, 8, n, rfl, hP, by omega, by decide, by decide, fun way H1 w0 w1 k1 hP1 => ?_⟩
    refine ⟨_, rfl, _, rfl, x, rfl, szL (by omega), _, 2, rfl, rfl, p, c, _, _, rfl, hP1, by omega, by omega, by omega, fun r2 H2 r2a r2b k2 hP2 => ⟨_, 1, rfl, rfl, ?_⟩⟩
    have k02 := k1.trans k2
    have hA2 := k02 _ _ (hP.tup hA) hA
    refine ⟨_, rfl, _, rfl, ta, _, rfl, .inr (SqT.of hA2), _, 1, rfl, rfl, p, c, _, _, rfl, hP2, by omega, by omega, by rw [List.length_map]; omega, fun at_ H3 a0 a1 k3 hP3 => ?_⟩
    obtain ⟨ka, rfl⟩ : ∃ ka : Nat, at_ = (ka : Int) := ⟨at_.toNat, by omega⟩
    have k03 := k02.trans k3
    have hA3 := k03 _ _ (hP.tup hA) hA
    have hB3 := k03 _ _ (hP.tup hB) hB
    have hPr3 := paired_imp (fun _ _ => TwoAt.mono _ _ _ _ (TupK.of k03 hP)) hPr
    have hS3 : Paired (TwoS K H3) us qs := paired_imp (fun _ _ => TwoS.of) hPr3
    have eA : ∀ {H' : Hp}, Ext H3 H' → El K H' (.ref ta) := fun {H'} k => el_ints (SqT.of (k _ _ hA3)) (by omega) hnb
    have eB : ∀ {H' : Hp}, Ext H3 H' → El K H' (.ref tb) := fun {H'} k => el_twos (SqT.of (k _ _ hB3)) (paired_imp (fun _ _ => TwoS.ext k) hS3) (by omega) hb
    have hpl : -1000 ≤ r2 - 1 ∧ r2 - 1 ≤ 900 := by omega
    have ret : ∀ (v : V) (H'' : Hp), Ext H3 H'' → Gd K H'' v → Q v H'' := fun v H'' k hg => qq v H3 H'' _ hP3 (by omega) k03 k hg
    have ret2 : ∀ (tt : Addr) (u0 u1 : V) (H'' : Hp), Ext H3 H'' → H'' tt = some (.tup [u0, u1]) → El K H'' u0 → El K H'' u1 → Q (.ref tt) H'' := fun tt u0 u1 H'' k ht h0 h1 => ret _ _ k (gd_tup (SqT.of ht) (show 2 ≤ 30 by decide) fun u hu => by
      simp only [List.mem_cons, List.not_mem_nil, or_false] at hu
      rcases hu with rfl | rfl
      · exact h0
      · exact h1)
    have pick : ∀ (H9 : Hp) (l : Addr) (xs : List V) (G : VK), Ext H3 H9 → H9 l = some (.lst xs) → 0 < xs.length → xs.length ≤ 20 → (∀ v H', v ∈ xs → Kp p H9 H' → Pen H' p c (n + 5) → G v H') → ∃ (p' c' : Addr) (v : V) (ys : List V) (m : Nat), [V.ref p, V.ref l] = [.ref p', v] ∧ SeqOf H9 v ys ∧ 0 < ys.length ∧ ys.length < 1000000 ∧ Pen H9 p' c' m ∧ m < 1000000 ∧ ∀ z H', z ∈ ys → Kp p' H9 H' → Pen H' p' c' (m + 1) → G z H' := fun H9 l xs G k hl h0 h1 hg =>
      ⟨p, c, .ref l, xs, n + 3, rfl, .inl ⟨l, rfl, hl⟩, h0, by omega, (hP3.ext k).mono (by omega), by omega, fun z H' hz hk hp => hg z H' hz hk (hp.mono (by omega))⟩
    have i01 : ∀ u ∈ [V.int 0, V.int 1], S0 u := fun u hu => by
      simp only [List.mem_cons, List.not_mem_nil, or_false] at hu
      rcases hu with rfl | rfl
      · exact S0.int (by decide) (by decide)
      · exact S0.int (by decide) (by decide)
    have one : ∀ {G : V → Prop} {a : V}, G a → ∀ u ∈ [a], G u := fun {G a} h u hu => by
      rw [List.mem_singleton.mp hu]
      exact h
    have snocS : ∀ {H' : Hp} {b : Addr} {y : Int × Int}, Ext H3 H' → H' b = some (.tup [.int y.1, .int y.2]) → Paired (TwoS K H') (us ++ [.ref b]) (qs ++ [y]) := fun {H' b y} k h => (paired_imp (fun _ _ => TwoS.ext k) hS3).snoc ⟨b, rfl, SqT.of h⟩
    have snocB : ∀ {y : Int × Int}, (-1000 ≤ y.1 ∧ y.1 ≤ 1000 ∧ -1000 ≤ y.2 ∧ y.2 ≤ 1000) → ∀ z ∈ qs ++ [y], -1000 ≤ z.1 ∧ z.1 ≤ 1000 ∧ -1000 ≤ z.2 ∧ z.2 ≤ 1000 := fun {y} h z hz => by
      rcases List.mem_append.mp hz with hz | hz
      · exact hb z hz
      · rw [List.mem_singleton.mp hz]
        exact h
    -- 0
    refine ⟨_, rfl, rfl, _, rfl, ite2 (fun e => ?_) (fun e => ?_)⟩
    · refine ⟨Nat.zero_le _, fun a1 h1 => ⟨Nat.zero_le _, fun a2 h2 => ?_⟩⟩
      intro a3 h3
      refine ⟨_, rfl, szL (show 1 ≤ 1000000 by decide), fun a4 h4 => ⟨_, rfl, _, rfl, szL (show 2 ≤ 1000000 by decide), fun a5 h5 => ⟨_, rfl, _, rfl, Nat.zero_le _, fun a6 h6 => ⟨szL (show 3 ≤ 1000000 by decide), fun a7 h7 => ?_⟩⟩⟩⟩
      have g1 := (((Ext.new (o := .tup []) h1).trans (Ext.new (o := .lst []) h2)).trans (Ext.new (o := .dK []) h3)).trans (Ext.new (o := .tup [.ref ta]) h4)
      have g2 := ((g1.trans (Ext.new (o := .lst [.ref ta, .ref tb]) h5)).trans (Ext.new (o := .tup []) h6)).trans (Ext.new (o := .tup [.ref ta, .ref tb, .ref a6]) h7)
      refine ⟨_, rfl, ta, _, rfl, .inr (SqT.of (g2 _ _ hA3)), fun a8 h8 => ⟨_, rfl, szL (show 2 ≤ 1000000 by decide), fun a9 h9 => ⟨szL (show 10 ≤ 1000000 by decide), fun l hl => ?_⟩⟩⟩
      have f9 := Ext.new (o := .lst [.non, .ref a1, .ref a2, .ref a3, .str "", .int 0, .ref a4, .ref a5, .ref a7, .ref a9]) hl
      have f8 := (Ext.new (o := .tup [.ref a8, .ref tb]) h9).trans f9
      have f7 := (Ext.new (o := .lst (ns.map V.int)) h8).trans f8
      have f6 := (Ext.new (o := .tup [.ref ta, .ref tb, .ref a6]) h7).trans f7
      have f5 := (Ext.new (o := .tup []) h6).trans f6
      have f4 := (Ext.new (o := .lst [.ref ta, .ref tb]) h5).trans f5
      have f3 := (Ext.new (o := .tup [.ref ta]) h4).trans f4
      have f2 := (Ext.new (o := .dK []) h3).trans f3
      have f1 := (Ext.new (o := .lst []) h2).trans f2
      have f0 := (Ext.new (o := .tup []) h1).trans f1
      refine ⟨_, rfl, _, rfl, pick _ l _ _ f0 upd_same (show 0 < 10 by decide) (show 10 ≤ 20 by decide) fun v H' hv hk hp => ?_⟩
      refine q v H' (Gd.kp (hP3.ext f0) ?_ hk) ((k03.trans (Kp.ext f0)).trans hk) (hp.mono (by omega))
      simp only [List.mem_cons, List.not_mem_nil, or_false] at hv
      have e6 : El K _ (.ref a6) := el_tup (SqT.of (f6 _ _ upd_same)) (Nat.zero_le _) fun u hu => by cases hu
      rcases hv with rfl | rfl | rfl | rfl | rfl | rfl | rfl | rfl | rfl | rfl
      · exact S0.non.gd
      · exact gd_tup (SqT.of (f1 _ _ upd_same)) (Nat.zero_le _) fun u hu => by cases hu
      · exact gd_lst (SqL.of (f2 _ _ upd_same)) (Nat.zero_le _) fun u hu => by cases hu
      · exact gd_emp (f3 _ _ upd_same)
      · exact (S0.str (by decide +kernel) (by decide +kernel)).gd
      · exact (S0.int (by decide) (by decide)).gd
      · exact gd_tup (SqT.of (f4 _ _ upd_same)) (show 1 ≤ 30 by decide) (one (eA f0))
      · refine gd_lst (SqL.of (f5 _ _ upd_same)) (show 2 ≤ 30 by decide) fun u hu => ?_
        simp only [List.mem_cons, List.not_mem_nil, or_false] at hu
        rcases hu with rfl | rfl
        · exact eA f0
        · exact eB f0
      · refine gd_tup (SqT.of (f7 _ _ upd_same)) (show 3 ≤ 30 by decide) fun u hu => ?_
        simp only [List.mem_cons, List.not_mem_nil, or_false] at hu
        rcases hu with rfl | rfl | rfl
        · exact eA f0
        · exact eB f0
        · exact e6
      · refine gd_tup (SqT.of (f9 _ _ upd_same)) (show 2 ≤ 30 by decide) fun u hu => ?_
        simp only [List.mem_cons, List.not_mem_nil, or_false] at hu
        rcases hu with rfl | rfl
        · exact el_lst (SqL.of (f8 _ _ upd_same)) (by rw [List.length_map]; omega) fun u hu => by
            obtain ⟨z, hz, rfl⟩ := List.mem_map.mp hu
            have := hnb z hz
            exact S0.int (by omega) (by omega)
        · exact eB f0
    -- 1
    refine ⟨_, rfl, rfl, _, rfl, ite2 (fun e => ?_) (fun e => ?_)⟩
    · refine ⟨_, rfl, tb, us, rfl, .inr (SqT.of hB3), fun b1 q1 => ?_⟩
      have g1 := Ext.new (o := .lst us) q1
      refine ⟨_, rfl, _, rfl, _, rfl, _, 1, rfl, rfl, szL (show 2 ≤ 1000000 by decide), fun b2 q2 => ⟨szL (show 1 ≤ 1000000 by decide), fun b3 q3 => ?_⟩⟩
      have g2 := Ext.new (o := .tup [.int (r2 - 1), .int (r2 - 1 + 1)]) q2
      have g3 := Ext.new (o := .tup [.ref b2]) q3
      have g03 := (g1.trans g2).trans g3
      refine ⟨tb, b3, us, [.ref b2], rfl, rfl, SqT.of (g03 _ _ hB3), SqT.of upd_same, szL (by show us.length + 1 ≤ _; omega), fun p1 H4 k4 hS4 => ?_⟩
      have g04 := g03.trans k4
      refine ⟨_, rfl, tb, us, rfl, SqT.of (g04 _ _ hB3), fun b4 q4 => ⟨szL (show 2 ≤ 1000000 by decide), fun b5 q5 => ⟨szL (show 1 ≤ 1000000 by decide), fun b6 q6 => ⟨szL (show 2 ≤ 1000000 by decide), fun b7 q7 => ⟨szL (show 6 ≤ 1000000 by decide), fun l hl => ?_⟩⟩⟩⟩⟩
      have f7 := Ext.new (o := .lst [.ref b1, .non, .ref p1, .ref b4, .ref b6, .ref b7]) hl
      have f6 := (Ext.new (o := .tup [.int 0, .int 1]) q7).trans f7
      have f5 := (Ext.new (o := .tup [.ref b5]) q6).trans f6
      have f4 := (Ext.new (o := .tup [.int 0, .int 1]) q5).trans f5
      have f3 := (Ext.new (o := .tup us.reverse) q4).trans f4
      have j4 := k4.trans f3
      have j3 := g3.trans j4
      have j2 := g2.trans j3
      have j0 := g1.trans j2
      refine ⟨_, rfl, _, rfl, _, rfl, pick _ l _ _ j0 upd_same (show 0 < 6 by decide) (show 6 ≤ 20 by decide) fun v H' hv hk hp => ⟨szL (show 2 ≤ 1000000 by decide), fun tt htt => ?_⟩⟩
      have gt := Ext.new (o := .tup [.ref ta, v]) htt
      have hP9 := hP3.ext j0
      refine q _ _ (gd_tup (SqT.of upd_same) (show 2 ≤ 30 by decide) fun u hu => ?_) (((k03.trans (Kp.ext j0)).trans hk).trans (Kp.ext gt)) ((hp.ext gt).mono (by omega))
      simp only [List.mem_cons, List.not_mem_nil, or_false] at hu
      rcases hu with rfl | rfl
      · exact (El.kp hP9 (eA j0) hk).ext gt
      · refine (El.kp hP9 ?_ hk).ext gt
        simp only [List.mem_cons, List.not_mem_nil, or_false] at hv
        have hrS := paired_imp (fun _ _ z => TwoS.ext j0 z) hS3
        rcases hv with rfl | rfl | rfl | rfl | rfl | rfl
        · exact el_twosL (SqL.of (j2 _ _ upd_same)) hrS (by omega) hb
        · exact S0.non.el
        · exact el_twos (sqT_ext f3 hS4) (snocS j0 (y := (r2 - 1, r2 - 1 + 1)) (j3 _ _ upd_same)) (by rw [List.length_append, List.length_singleton]; omega) (snocB (by show -1000 ≤ r2 - 1 ∧ _; omega))
        · exact el_twos (SqT.of (f4 _ _ upd_same)) (paired_rev hrS) (by rw [List.length_reverse]; omega) fun y hy => hb y (List.mem_reverse.mp hy)
        · exact el_twos (qs := [(0, 1)]) (SqT.of (f6 _ _ upd_same)) (.cons ⟨b5, rfl, SqT.of (f5 _ _ upd_same)⟩ .nil) (show 1 ≤ 15 by decide) fun y hy => by rw [List.mem_singleton.mp hy]; decide
        · exact el_tup (SqT.of (f7 _ _ upd_same)) (show 2 ≤ 20 by decide) i01
    -- 2
    refine ⟨_, rfl, rfl, _, rfl, ite2 (fun e => ?_) (fun e => ?_)⟩
    · refine ⟨_, rfl, _, rfl, szL (show 1 ≤ 1000000 by decide), fun b1 q1 => ?_⟩
      have g1 := Ext.new (o := .tup [.int (r2 - 1)]) q1
      refine ⟨ta, b1, ns.map V.int, [.int (r2 - 1)], rfl, rfl, SqT.of (g1 _ _ hA3), SqT.of upd_same, szL (by rw [List.length_map]; show _ + 1 ≤ _; omega), fun p1 H4 k4 hS4 => ?_⟩
      delta tNil
      refine sort_intT (ns := ns ++ [r2 - 1]) (by rw [List.map_append]; exact hS4) fun pl ms hpl2 hpm => ?_
      have g2 := Ext.new (o := .lst (ms.map V.int)) hpl2
      refine ⟨pl, _, rfl, .inl ⟨SqL.of upd_same, fun b2 q2 => ⟨_, rfl, szL (show 2 ≤ 1000000 by decide), fun tt htt => ?_⟩⟩⟩
      have g3 := Ext.new (o := .tup (ms.map V.int)) q2
      have gt := Ext.new (o := .tup [.ref b2, .ref tb]) htt
      have kk := (((g1.trans k4).trans g2).trans g3).trans gt
      refine ret2 tt (.ref b2) (.ref tb) _ kk upd_same (el_ints (SqT.of (gt _ _ upd_same)) (by rw [hpm.length_eq, List.length_append, List.length_singleton]; omega) fun z hz => ?_) (eB kk)
      rcases List.mem_append.mp (hpm.mem_iff.mp hz) with hz | hz
      · exact hnb z hz
      · rw [List.mem_singleton.mp hz]
        omega
    -- 3
    refine ⟨_, rfl, rfl, _, rfl, ite2 (fun e => ?_) (fun e => ?_)⟩
    · refine ⟨_, rfl, _, rfl, _, rfl, ta, _, rfl, SqT.of hA3, fun p1 H4 k4 hS4 => ?_⟩
      refine ⟨_, rfl, _, rfl, _, rfl, szL (show 1 ≤ 1000000 by decide), fun b1 q1 => ⟨_, rfl, x, rfl, szL (by omega), 1, rfl, szL (show 7 ≤ 1000000 by decide), fun l hl => ?_⟩⟩
      have f1 := Ext.new (o := .lst [.int (r2 - 1), .bl true, .non, .str "0", .ref b1, .int (x.length : Nat), .int (-1)]) hl
      have f0 := (Ext.new (o := .tup [.int (r2 - 1)]) q1).trans f1
      have k49 := k4.trans f0
      refine pick _ l _ _ k49 upd_same (show 0 < 7 by decide) (show 7 ≤ 20 by decide) fun z H5 hz hk hp => ⟨szL (show 1 ≤ 1000000 by decide), fun b2 q2 => ?_⟩
      have hz2 : ∀ {G : Hp}, G b1 = some (.tup [.int (r2 - 1)]) → E1 K G z := fun {G} hG => by
        simp only [List.mem_cons, List.not_mem_nil, or_false] at hz
        rcases hz with rfl | rfl | rfl | rfl | rfl | rfl | rfl
        · exact (S0.int (by omega) (by omega)).e1
        · exact (S0.bl true).e1
        · exact S0.non.e1
        · exact (S0.str (by decide +kernel) (by decide +kernel)).e1
        · exact e1_one hG (by omega) (by omega)
        · exact (S0.int (by omega) (by omega)).e1
        · exact (S0.int (by decide) (by decide)).e1
      have hP9 := hP3.ext k49
      have g2 := Ext.new (o := .tup [z]) q2
      have hzz := (E1.kp hP9 (hz2 (f1 _ _ upd_same)) hk).ext g2
      have hS5 := sqT_ext g2 (sqT_pen hP9 hk (sqT_ext f0 hS4))
      refine ⟨p1, b2, _, [z], rfl, rfl, hS5, SqT.of upd_same, szL ?_, fun p2 H6 k6 hS6 => ?_⟩
      · have := cutV_length (ns.map V.int) none (some (ka : Int))
        rw [List.length_map] at this
        show _ + 1 ≤ _
        omega
      have kB : Kp p H3 H6 := (((Kp.ext k49).trans hk).trans (Kp.ext g2)).trans (Kp.ext k6)
      have hA6 := kB _ _ (hP3.tup hA3) hA3
      refine ⟨_, rfl, _, rfl, _, rfl, ta, _, rfl, SqT.of hA6, fun p3 H7 k7 hS7 => ?_⟩
      refine ⟨p2, p3, _, _, rfl, rfl, sqT_ext k7 hS6, hS7, szL ?_, fun p4 H8 k8 hS8 => ⟨_, rfl, szL (show 2 ≤ 1000000 by decide), fun tt htt => ?_⟩⟩
      · have h1 := cutV_length (ns.map V.int) none (some (ka : Int))
        have h2 := cutV_length (ns.map V.int) (some (ka : Int)) none
        rw [List.length_map] at h1 h2
        rw [List.length_append]
        show _ + 1 + _ ≤ _
        omega
      have gt := Ext.new (o := .tup [.ref p4, .ref tb]) htt
      have kq := ((k6.trans k7).trans k8).trans gt
      have hint : ∀ u ∈ ns.map V.int, S0 u := fun u hu => by
        obtain ⟨z, hz, rfl⟩ := List.mem_map.mp hu
        have := hnb z hz
        exact S0.int (by omega) (by omega)
      have hl1 := cutV_length (ns.map V.int) none (some (ka : Int))
      have hl2 := cutV_length (ns.map V.int) (some (ka : Int)) none
      rw [List.length_map] at hl1 hl2
      have kA : Kp p H3 _ := kB.trans (Kp.ext ((k7.trans k8).trans gt))
      refine q _ _ (gd_tup (SqT.of upd_same) (show 2 ≤ 30 by decide) fun u hu => ?_) (k03.trans kA) ((hp.ext (g2.trans kq)).mono (by omega))
      simp only [List.mem_cons, List.not_mem_nil, or_false] at hu
      rcases hu with rfl | rfl
      · refine el_tup1 (sqT_ext gt hS8) ?_ fun u hu => ?_
        · rw [List.length_append, List.length_append]
          show _ + 1 + _ ≤ _
          omega
        · rcases List.mem_append.mp hu with hu | hu
          · rcases List.mem_append.mp hu with hu | hu
            · exact (hint u (mem_cut hu)).e1
            · rw [List.mem_singleton.mp hu]
              exact hzz.ext kq
          · exact (hint u (mem_cut hu)).e1
      · exact El.kp hP3 (eB Ext.refl) kA
    -- 4
    have hint : ∀ u ∈ ns.map V.int, S0 u := fun u hu => by
      obtain ⟨z, hz, rfl⟩ := List.mem_map.mp hu
      have := hnb z hz
      exact S0.int (by omega) (by omega)
    refine ⟨_, rfl, rfl, _, rfl, ite2 (fun e => ?_) (fun e => ?_)⟩
    · refine ⟨_, rfl, ta, _, rfl, SqT.of hA3, fun b1 q1 => ⟨_, rfl, szL (show 2 ≤ 1000000 by decide), fun tt htt => ?_⟩⟩
      have g1 := Ext.new (o := .tup (ns.map V.int).reverse) q1
      have gt := Ext.new (o := .tup [.ref b1, .ref tb]) htt
      exact ret2 tt _ _ _ (g1.trans gt) upd_same (el_tup (SqT.of (gt _ _ upd_same)) (by rw [List.length_reverse, List.length_map]; omega) fun u hu => hint u (List.mem_reverse.mp hu)) (eB (g1.trans gt))
    -- 5
    refine ⟨_, rfl, rfl, _, rfl, ite2 (fun e => ?_) (fun e => ?_)⟩
    · refine ⟨_, rfl, _, rfl, 1, rfl, _, rfl, ta, _, rfl, SqT.of hA3, fun p1 H4 k4 hS4 => ?_⟩
      have hl1 := cutV_length (ns.map V.int) (some (-1)) none
      rw [List.length_map] at hl1
      refine ⟨ta, p1, _, _, rfl, rfl, SqT.of (k4 _ _ hA3), hS4, szL ?_, fun p2 H5 k5 hS5 => ⟨_, rfl, szL (show 2 ≤ 1000000 by decide), fun tt htt => ?_⟩⟩
      · rw [List.length_map]
        show _ + (cutV (ns.map V.int) (some (-1)) none).length ≤ _
        omega
      have gt := Ext.new (o := .tup [.ref p2, .ref tb]) htt
      have kk := (k4.trans k5).trans gt
      refine ret2 tt _ _ _ kk upd_same (el_tup1 (sqT_ext gt hS5) ?_ fun u hu => ?_) (eB kk)
      · rw [List.length_append, List.length_map]
        show _ + (cutV (ns.map V.int) (some (-1)) none).length ≤ _
        omega
      · rcases List.mem_append.mp hu with hu | hu
        · exact (hint u hu).e1
        · exact (hint u (mem_cut hu)).e1
    -- 6
    refine ⟨_, rfl, rfl, _, rfl, ite2 (fun e => ?_) (fun e => ?_)⟩
    · refine ⟨_, rfl, Nat.zero_le _, fun t5 ht5 => ?_⟩
      have k5 := Ext.new (o := .tup []) ht5
      refine ⟨.tuple (qs.map dTw), .tuple [], .tup (SqT.of (k5 _ _ hB3)) (dp_twos (paired_imp (fun _ _ => TwoS.ext k5) hS3)), .tup (SqT.of upd_same) .nil, (sm_twoT (by omega) hb).shaped (by decide), by decide, _, rfl, ite2 (fun e5 => ?_) (fun e5 => ?_)⟩
      · have hne : 0 < us.length := by
          rw [hul]
          cases hq : qs with
          | nil =>
            rw [hq] at e5
            simp [PyData.eqv, PyData.eqvAll] at e5
          | cons y z => exact Nat.succ_pos _
        have hP5 := hP3.ext k5
        refine ⟨_, rfl, _, rfl, _, rfl, _, rfl, p, c, .ref tb, us, _, rfl, .inr (.inl ⟨tb, rfl, .inl (k5 _ _ hB3)⟩), hne, by omega, hP5, by omega, fun z H6 hz k6 hP6 => ?_⟩
        obtain ⟨y, hy, az, rfl, haz⟩ := paired_mem hPr3 hz
        have haz6 := k6 _ _ (hP5.tup (k5 _ _ haz)) (k5 _ _ haz)
        refine ⟨p, c, .ref az, _, _, rfl, .inr (.inl ⟨az, rfl, .inl haz6⟩), show 0 < 2 by decide, show 2 < 1000000 by decide, hP6, by omega, fun z2 H7 hz2 k7 hP7 => ⟨szL (show 1 ≤ 1000000 by decide), fun b1 q1 => ?_⟩⟩
        have hyb := hb y hy
        obtain ⟨i, rfl, hi⟩ : ∃ i : Int, z2 = .int i ∧ -1000 ≤ i ∧ i ≤ 1000 := by
          simp only [List.mem_cons, List.not_mem_nil, or_false] at hz2
          rcases hz2 with rfl | rfl
          · exact ⟨_, rfl, hyb.1, hyb.2.1⟩
          · exact ⟨_, rfl, hyb.2.2.1, hyb.2.2.2⟩
        have k37 := ((Kp.ext k5).trans k6).trans k7
        have hA7 := k37 _ _ (hP3.tup hA3) hA3
        have g1 := Ext.new (o := .tup [.int i]) q1
        refine ⟨ta, b1, ns.map V.int, [.int i], rfl, rfl, SqT.of (g1 _ _ hA7), SqT.of upd_same, szL (by rw [List.length_map]; show _ + 1 ≤ _; omega), fun p1 H8 k8 hS8 => ?_⟩
        delta tNil
        refine sort_intT (ns := ns ++ [i]) (by rw [List.map_append]; exact hS8) fun pl ms hpl2 hpm => ?_
        have g2 := Ext.new (o := .lst (ms.map V.int)) hpl2
        refine ⟨pl, _, rfl, .inl ⟨SqL.of upd_same, fun b2 q2 => ⟨_, rfl, szL (show 2 ≤ 1000000 by decide), fun tt htt => ?_⟩⟩⟩
        have g3 := Ext.new (o := .tup (ms.map V.int)) q2
        have gt := Ext.new (o := .tup [.ref b2, .ref tb]) htt
        have kk := (((g1.trans k8).trans g2).trans g3).trans gt
        have kA := k37.trans (Kp.ext kk)
        refine q _ _ (gd_tup (SqT.of upd_same) (show 2 ≤ 30 by decide) fun u hu => ?_) (k03.trans kA) ((hP7.ext kk).mono (by omega))
        simp only [List.mem_cons, List.not_mem_nil, or_false] at hu
        rcases hu with rfl | rfl
        · refine el_ints (SqT.of (gt _ _ upd_same)) (by rw [hpm.length_eq, List.length_append, List.length_singleton]; omega) fun z hz => ?_
          rcases List.mem_append.mp (hpm.mem_iff.mp hz) with hz | hz
          · exact hnb z hz
          · rw [List.mem_singleton.mp hz]
            exact hi
        · exact El.kp hP3 (eB Ext.refl) kA
      · generalize upd H3 t5 (.tup []) = H5 at k5 ⊢
        refine ⟨_, rfl, _, rfl, _, rfl, _, rfl, _, 2, rfl, rfl, szL (show 2 ≤ 1000000 by decide), fun b1 q1 => ⟨szL (show 1 ≤ 1000000 by decide), fun b2 q2 => ?_⟩⟩
        have g1 := Ext.new (o := .tup [.int (r2 - 1), .int (r2 - 1 + 2)]) q1
        have g2 := Ext.new (o := .tup [.ref b1]) q2
        refine ⟨tb, b2, us, [.ref b1], rfl, rfl, SqT.of (g2 _ _ (g1 _ _ (k5 _ _ hB3))), SqT.of upd_same, szL (by show us.length + 1 ≤ _; omega), fun p1 H6 k6 hS6 => ?_⟩
        have kk := ((k5.trans g1).trans g2).trans k6
        delta tNil
        refine sort_twoT hS6 (snocS (y := (r2 - 1, r2 - 1 + 2)) kk (k6 _ _ (g2 _ _ upd_same))) fun pl vs hpl2 hvs hvl => ?_
        have g3 := Ext.new (o := .lst vs) hpl2
        refine ⟨pl, vs, rfl, .inl ⟨SqL.of upd_same, fun b3 q3 => ⟨szL (show 2 ≤ 1000000 by decide), fun tt htt => ?_⟩⟩⟩
        have g4 := Ext.new (o := .tup vs) q3
        have gt := Ext.new (o := .tup [.ref ta, .ref b3]) htt
        have ka2 := ((kk.trans g3).trans g4).trans gt
        refine ret2 tt _ _ _ ka2 upd_same (eA ka2) (el_twos (SqT.of (gt _ _ upd_same)) (paired_imp (fun _ _ => TwoS.ext (g4.trans gt)) hvs) (by rw [srt_len, List.length_append, List.length_singleton]; omega) fun y hy => snocB (y := (r2 - 1, r2 - 1 + 2)) (by show -1000 ≤ r2 - 1 ∧ _; omega) y ((List.mergeSort_perm _ le2).mem_iff.mp hy))
    · have k5 : Ext H3 H3 := Ext.refl
      refine ⟨_, rfl, _, rfl, _, rfl, _, rfl, _, 2, rfl, rfl, szL (show 2 ≤ 1000000 by decide), fun b1 q1 => ⟨szL (show 1 ≤ 1000000 by decide), fun b2 q2 => ?_⟩⟩
      have g1 := Ext.new (o := .tup [.int (r2 - 1), .int (r2 - 1 + 2)]) q1
      have g2 := Ext.new (o := .tup [.ref b1]) q2
      refine ⟨tb, b2, us, [.ref b1], rfl, rfl, SqT.of (g2 _ _ (g1 _ _ (k5 _ _ hB3))), SqT.of upd_same, szL (by show us.length + 1 ≤ _; omega), fun p1 H6 k6 hS6 => ?_⟩
      have kk := ((k5.trans g1).trans g2).trans k6
      delta tNil
      refine sort_twoT hS6 (snocS (y := (r2 - 1, r2 - 1 + 2)) kk (k6 _ _ (g2 _ _ upd_same))) fun pl vs hpl2 hvs hvl => ?_
      have g3 := Ext.new (o := .lst vs) hpl2
      refine ⟨pl, vs, rfl, .inl ⟨SqL.of upd_same, fun b3 q3 => ⟨szL (show 2 ≤ 1000000 by decide), fun tt htt => ?_⟩⟩⟩
      have g4 := Ext.new (o := .tup vs) q3
      have gt := Ext.new (o := .tup [.ref ta, .ref b3]) htt
      have ka2 := ((kk.trans g3).trans g4).trans gt
      refine ret2 tt _ _ _ ka2 upd_same (eA ka2) (el_twos (SqT.of (gt _ _ upd_same)) (paired_imp (fun _ _ => TwoS.ext (g4.trans gt)) hvs) (by rw [srt_len, List.length_append, List.length_singleton]; omega) fun y hy => snocB (y := (r2 - 1, r2 - 1 + 2)) (by show -1000 ≤ r2 - 1 ∧ _; omega) y ((List.mergeSort_perm _ le2).mem_iff.mp hy))
end
end Pf


namespace Pf
open PySem PySem.Spec PyProof.Rows L2
theorem sm_bl2 (b c : Bool) : Sm 1000 1 (.list [.bool b, .bool c]) := Sm.lst (n := 2) (m := 0) (k := 0) (Nat.le_refl _) (fun d hd => by
  simp only [List.mem_cons, List.not_mem_nil, or_false] at hd
  rcases hd with rfl | rfl <;> exact Sm.bl _) (by decide)
theorem HoldAt.mono {H H' : Hp} {v : V} {ns : List Int} {qs : List (Int × Int)} (h : HoldAt H v ns qs) (k : TupK H H') : HoldAt H' v ns qs := by
  obtain ⟨t, ta, tb, us, e, h1, h2, h3, h4⟩ := h
  exact ⟨t, ta, tb, us, e, k _ _ h1, k _ _ h2, k _ _ h3, paired_imp (fun _ _ => TwoAt.mono _ _ _ _ k) h4⟩
theorem HoldAt.dq {K : PySem.W.Frag} {H : Hp} {v : V} {ns : List Int} {qs : List (Int × Int)} (h : HoldAt H v ns qs) : Dq K H v (.tuple [.tuple (ns.map PyData.int), .tuple (qs.map dTw)]) := by
  obtain ⟨t, ta, tb, us, rfl, h1, h2, h3, h4⟩ := h
  exact .dp (.tup (SqT.of h1) (.cons (.tup (SqT.of h2) (dpInts ns)) (.cons (.tup (SqT.of h3) (dp_twos (paired_imp (fun _ _ => TwoS.of) h4))) .nil)))
theorem Hold.ob {r : Rl} {x : Str} {ns : List Int} {qs : List (Int × Int)} (h : Hold r x ns qs) (hx : x.length ≤ 12) : HoB (.tuple [.tuple (ns.map PyData.int), .tuple (qs.map dTw)]) := fun ds e => by
  injection e with e
  subst e
  have h1 := h.nl
  have h2 := h.ql
  intro d hd
  simp only [List.mem_cons, List.not_mem_nil, or_false] at hd
  rcases hd with rfl | rfl
  · refine ⟨(Sm.tup (n := 12) (m := 64) (k := 0) (M := 2000) (by rw [List.length_map]; exact h1) (fun d hd => ?_) (by decide)).shaped (by decide), fun es e => by injection e with e; rw [← e, List.length_map]; omega⟩
    obtain ⟨z, hz, rfl⟩ := List.mem_map.mp hd
    have := of_decide_eq_true (h.inw z hz)
    exact Sm.int (by omega) (by omega)
  · refine ⟨(sm_twoT (by omega) fun y hy => ?_).shaped (by decide), fun es e => by injection e with e; rw [← e, List.length_map]; omega⟩
    have := h.may y hy
    unfold mayP at this
    rw [Bool.and_eq_true] at this
    have := of_decide_eq_true this.1
    omega
theorem hold_nil (r : Rl) (x : Str) : Hold r x [] [] := ⟨.nil, (fun n h => by cases h), .nil, (fun n h => by cases h), (fun n h => by cases h), Nat.zero_le _, Nat.zero_le _⟩
theorem Hold.true {r : Rl} {x : Str} {ns : List Int} {qs : List (Int × Int)} (h : Hold r x ns qs) : hoD r x (.tuple [.tuple (ns.map PyData.int), .tuple (qs.map dTw)]) = true := ho_true h.pw h.inw h.ap h.may h.no
section
variable {P : Program} {w : World} {K : PySem.W.Frag} {mg : Str → Option Value} {base : Heap}
abbrev s_law_pen : Stmt := topS 19
theorem sc_law_pen : FnScope ["_law_script"] ["_law_script"] (defScope s_law_pen) :=
  ⟨rfl, rfl, rfl, by decide +kernel, rfl, by decide +kernel, by decide +kernel⟩
theorem merge_pen (c : Addr) (a r : Int) : mergeK [] (penK c a r) = penK c a r := by
  have h1 : ¬ (Sum.inr ("cells" : Str) : Key) = Sum.inr ("at" : Str) := by decide +kernel
  have h2 : ¬ (Sum.inr ("cells" : Str) : Key) = Sum.inr ("left" : Str) := by decide +kernel
  have h3 : ¬ (Sum.inr ("at" : Str) : Key) = Sum.inr ("left" : Str) := by decide +kernel
  simp [penK, mergeK, putK, h1, h2, h3]
theorem cut_ints (ns : List Int) (lo hi : Option Int) : ∃ cs : List Int, cutV (ns.map V.int) lo hi = cs.map V.int ∧ cs.length ≤ ns.length := by
  unfold cutV
  refine ⟨(ns.drop _).take _, by rw [List.map_take, List.map_drop], ?_⟩
  rw [List.length_take, List.length_drop]
  omega
def spPen (K : PySem.W.Frag) : Sp := fun vs H Q _ => ∃ (a : Addr) (ns : List Int), vs = [.ref a] ∧ SqL K H a (ns.map V.int) ∧ ns.length ≤ 63 ∧ ∀ p c H', Pen H' p c 0 → Q (.ref p) H'
theorem ok_pen {f : Addr} {fd : FuncData} {k : Nat} (F : Fun K "_law_pen" "_law_pen" s_law_pen f fd) : FnOk P w K mg base CX0 (k + 1) f fd ["_law_script"] (spPen K) := by
  refine F.ok sc_law_pen (fun vs H Q E h => ?_) (fun cdv A outer s H vs Q E hr h => ?_)
  · obtain ⟨a, ns, rfl, _⟩ := h
    rfl
  · obtain ⟨a, ns, rfl, hS, hns, q⟩ := h
    refine ⟨_, (pss_one (ps_ret (pe_disp (pps_cons pe_str (pe_slice (slL K) (pv 0) po_none (po_some pe_int)) (pps_cons pe_str pe_int (pps_cons pe_str pe_int pps_nil))) (by rfl) (by rfl) (fun z => by cases z) (by decide)))), ?_⟩
    obtain ⟨cs, hcs, hcl⟩ := cut_ints ns none (some 63)
    refine fun p hp => ?_
    have hS1 : SqL K (upd H p (.dK [])) a (ns.map V.int) := by
      rcases hS with (h | ⟨o, h⟩) | h
      · exact .inl (.inl (Ext.new hp _ _ h))
      · exact .inl (.inr ⟨o, Ext.new hp _ _ h⟩)
      · exact .inr h
    refine ⟨_, rfl, 63, rfl, a, _, rfl, hS1, fun c hc => ?_⟩
    have hpc : p ≠ c := fun z => by
      rw [← z, upd_same] at hc
      cases hc
    refine ⟨by rw [upd_ne hpc, upd_same], penK c 0 0, rfl, (show 3 ≤ 15 by decide), ?_⟩
    refine q p c _ ⟨cs, 0, 0, ?_, ?_, by decide, by decide, by decide, by omega⟩
    · rw [upd_same, merge_pen]
    · rw [upd_ne hpc.symm, upd_same, hcs]
abbrev s_law : Stmt := topS 31
theorem sc_law : FnScope ["_law_script", "_law_pen_here", "_law_turn", "_law_code_here", "_law_word_here", "_law_good", "_law_k", "_law_some", "_law_kept", "_law_found"] ["_law_script"] (defScope s_law) :=
  ⟨rfl, rfl, rfl, by decide +kernel, rfl, by decide +kernel, by decide +kernel⟩
abbrev CPen (P : Program) (w : World) (K : PySem.W.Frag) (mg : Str → Option Value) (base : Heap) : Prop := Ca P w K mg base 1 "_law_pen" ["_law_script"] (spPen K)
abbrev CCode (P : Program) (w : World) (K : PySem.W.Frag) (mg : Str → Option Value) (base : Heap) : Prop := Ca P w K mg base 4 "_law_code" ["_law_pen_here"] spCode
abbrev CWord (P : Program) (w : World) (K : PySem.W.Frag) (mg : Str → Option Value) (base : Heap) : Prop := Ca P w K mg base 3 "_law_word" ["_law_pen_here", "_law_code_here", "_law_most"] spWord
abbrev CHolds (P : Program) (w : World) (K : PySem.W.Frag) (mg : Str → Option Value) (base : Heap) : Prop := Ca P w K mg base 17 "_law_holds" ["_law_pen_here", "_law_code_here", "_law_word_here"] spHolds
abbrev CAHK (P : Program) (w : World) (K : PySem.W.Frag) (mg : Str → Option Value) (base : Heap) : Prop := CaK P w K mg base 6 "are_holds" ["rules", "string", "thing"] ["thing", "string", "rules"] (permV [2, 1, 0]) (spAH (K := K))
abbrev CLAH (P : Program) (w : World) (K : PySem.W.Frag) (mg : Str → Option Value) (base : Heap) : Prop := Ca P w K mg base 3 "_law_are_holds" ["_law_code_here", "_law_word_here", "_law_some"] (spLAH (K := K))
abbrev CBent (P : Program) (w : World) (K : PySem.W.Frag) (mg : Str → Option Value) (base : Heap) : Prop := Ca P w K mg base 3 "_law_bent" ["_law_pen_here", "_law_word_here", "_law_some"] (spBent (K := K))
def spLaw (K : PySem.W.Frag) : Sp := fun vs H Q _ => ∃ (a : Addr) (ns : List Int), vs = [.ref a] ∧ SqL K H a (ns.map V.int) ∧ ns.length ≤ 63 ∧ ∀ H', Q (.bl true) H'
theorem ok_law {f : Addr} {fd : FuncData} (F : Fun K "law" "law" s_law f fd) (room : Room 18 callerA) (c_law_pen : CPen P w K mg base) (c_law_code : CCode P w K mg base) (c_law_word : CWord P w K mg base) (c_law_holds : CHolds P w K mg base) (care_holds : CAH P w K mg base) (care_holdsK : CAHK P w K mg base) (c_law_are_holds : CLAH P w K mg base) (c_law_bent : CBent P w K mg base)
    (mrange : mg "range" = none) (mrepr : mg "repr" = none) : FnG P w K mg base f fd ["_law_script"] (spLaw K) := by
  refine FnG.of (k := 17) F sc_law room (fun vs H Q E h => ?_) (fun cdv s H vs Q E hr hG h => ?_)
  · obtain ⟨a, ns, rfl, _⟩ := h
    rfl
  · obtain ⟨a, ns, rfl, hS, hns, q⟩ := h
    refine ⟨_, (pss_cons (ps_set (i := 1) sc_law.nd rfl (.inl rfl) (pe_ca c_law_pen (hr.mono (by decide)) (by rfl) (pa_cons (pv 0) pa_nil)))
      (pss_cons (ps_for PassesOwn.never rfl (pi_range1 (by rfl) mrange (pa_cons pe_int pa_nil)) (pg_name (i := 2) sc_law.nd rfl (.inl rfl)) (pss_cons (ps_set (i := 3) sc_law.nd rfl (.inl rfl) (pe_ca c_law_code (hr.mono (by decide)) (by rfl) (pa_cons (pv 1) pa_nil)))
      (pss_cons (ps_set (i := 4) sc_law.nd rfl (.inl rfl) (pe_ca c_law_word (hr.mono (by decide)) (by rfl) (pa_cons (pv 1) (pa_cons (pv 3) (pa_cons pe_int pa_nil)))))
      (pss_cons (ps_set (i := 5) sc_law.nd rfl (.inl rfl) (pe_ca c_law_holds (hr.mono (by decide)) (by rfl) (pa_cons (pv 1) (pa_cons (pv 3) (pa_cons (pv 4) pa_nil)))))
      (pss_cons (ps_if (PW.pt (pw_or (pt_cmpR op_isnot_bl (pe_ca care_holds (hr.mono (by decide)) (by rfl) (pa_cons (pv 3) (pa_cons (pv 4) (pa_cons (pv 5) pa_nil)))) pe_bl (nomark _)) (pw_or1 (pt_cmpR op_isnot_bl (pe_ca care_holds (hr.mono (by decide)) (by rfl) (pa_cons (pv 3) (pa_cons (pv 4) (pa_cons (pe_tup (pa_cons (pe_tup pa_nil) (pa_cons (pe_tup pa_nil) pa_nil))) pa_nil)))) pe_bl (nomark _))))) (pss_one (ps_ret pe_bl)) pss_nil)
      (pss_one (ps_for PassesOwn.never rfl (pi_range1 (by rfl) mrange (pa_cons pe_int pa_nil)) (pg_name (i := 6) sc_law.nd rfl (.inl rfl)) (pss_cons (ps_set (i := 7) sc_law.nd rfl (.inl rfl) (pe_ca c_law_bent (hr.mono (by decide)) (by rfl) (pa_cons (pv 1) (pa_cons (pv 4) (pa_cons (pv 5) pa_nil)))))
      (pss_cons (ps_set (i := 8) sc_law.nd rfl (.inl rfl) (pe_callB (call_show2 K hG hr.units) (by rfl) mrepr (by decide +kernel) (pa_cons (pe_tup (pa_cons (pv 3) (pa_cons (pv 7) pa_nil))) pa_nil)))
      (pss_cons (ps_set (i := 9) sc_law.nd rfl (.inl rfl) (pe_lst (pa_cons (pe_ca care_holds (hr.mono (by decide)) (by rfl) (pa_cons (pv 3) (pa_cons (pv 4) (pa_cons (pv 7) pa_nil)))) (pa_cons (pe_caK care_holdsK (hr.mono (by decide)) (by rfl) (pk_cons (pv 7) (pk_cons (pv 4) (pk_cons (pv 3) pk_nil)))) pa_nil))))
      (pss_one (ps_if (PW.pt (pw_or (pt_cmpR op_ne (pe_callB (call_show K hG hr.units) (by rfl) mrepr (by decide +kernel) (pa_cons (pv 9) pa_nil)) (pe_callB (call_show K hG hr.units) (by rfl) mrepr (by decide +kernel) (pa_cons (pe_op op_rep (pe_lst (pa_cons (pe_ca c_law_are_holds (hr.mono (by decide)) (by rfl) (pa_cons (pv 3) (pa_cons (pv 4) (pa_cons (pv 7) pa_nil)))) pa_nil)) pe_int) pa_nil)) (nomark _)) (pw_or1 (pt_cmpR op_ne (pe_callB (call_show2 K hG hr.units) (by rfl) mrepr (by decide +kernel) (pa_cons (pe_tup (pa_cons (pv 3) (pa_cons (pv 7) pa_nil))) pa_nil)) (pv 8) (nomark _))))) (pss_one (ps_ret pe_bl)) pss_nil))))))))))))
      (pss_one (ps_ret pe_bl)))), ?_⟩
    refine ⟨_, rfl, a, ns, rfl, hS, hns, fun p c H1 hP1 => ?_⟩
    refine ⟨4, rfl, by decide, by decide, for_range (n := 4) (fun i σ H2 => ∃ (y2 y3 y4 y5 y6 y7 y8 y9 : Option V), σ = [some (.ref a), some (.ref p), y2, y3, y4, y5, y6, y7, y8, y9] ∧ Pen H2 p c (900 * i))
      ⟨none, none, none, none, none, none, none, none, rfl, hP1⟩ (fun i σ H2 hi hv => ?_) (fun σ H2 hv => ?_)⟩
    · obtain ⟨y2, y3, y4, y5, y6, y7, y8, y9, rfl, hP2⟩ := hv
      refine ⟨_, rfl, p, c, _, rfl, hP2, by omega, fun v r H3 hr3 ok3 k3 hP3 => ?_⟩
      refine ⟨_, rfl, _, rfl, p, c, v, r, 12, _, rfl, hr3, ok3, by decide, by decide, hP3, by omega, fun x H4 hx12 hxs k4 hP4 => ?_⟩
      have hr4 := RulesAt.mono _ _ _ _ (TupK.of k4 hP3) hr3
      refine ⟨_, rfl, _, rfl, _, rfl, p, c, v, r, x, _, rfl, hr4, ok3, by omega, hP4, by omega, fun vg gs qs H5 hg5 ho k5 hP5 => ?_⟩
      have hr5 := RulesAt.mono _ _ _ _ (TupK.of k5 hP4) hr4
      refine ⟨_, rfl, _, rfl, _, rfl, v, vg, r, x, _, rfl, hr5, by omega, hg5.dq, ho.ob (by omega), fun H6 k6 => ⟨_, _, rfl, rfl, _, rfl, ?_⟩⟩
      rw [ho.true]
      refine iteF ⟨_, rfl, _, rfl, Nat.zero_le _, fun t1 ht1 => ⟨Nat.zero_le _, fun t2 ht2 => ⟨szL (show 2 ≤ 1000000 by decide), fun t3 ht3 => ?_⟩⟩⟩
      have g1 := Ext.new (o := .tup []) ht1
      have g2 := Ext.new (o := .tup []) ht2
      have g3 := Ext.new (o := .tup [.ref t1, .ref t2]) ht3
      have k03 := (k6.trans g1).trans (g2.trans g3)
      refine ⟨v, .ref t3, r, x, .tuple [.tuple (([] : List Int).map PyData.int), .tuple (([] : List (Int × Int)).map dTw)], rfl, RulesAt.mono _ _ _ _ (TupK.ext k03) hr5, by omega, (HoldAt.dq ⟨t3, t1, t2, [], rfl, upd_same, g3 _ _ (g2 _ _ upd_same), g3 _ _ upd_same, .nil⟩), (hold_nil r x).ob (by omega), fun H8 k8 => ⟨_, _, rfl, rfl, _, rfl, ?_⟩⟩
      rw [(hold_nil r x).true]
      refine iteF ?_
      have k58 := k03.trans k8
      have hP8 := hP5.ext k58
      have hr8 := RulesAt.mono _ _ _ _ (TupK.ext k58) hr5
      have hg8 := hg5.mono (TupK.ext k58)
      refine ⟨10, rfl, by decide, by decide, for_range (n := 10) (fun j σ H9 => ∃ (y6 y7 y8 y9 : Option V), σ = [some (.ref a), some (.ref p), some (.int (0 + i)), some v, some (.str x), some vg, y6, y7, y8, y9] ∧ Kp p H8 H9 ∧ Pen H9 p c (900 * i + 500 + 20 * j))
        ⟨_, _, _, _, rfl, Kp.refl, hP8.mono (by omega)⟩ (fun j σ H9 hj hv => ?_) (fun σ H9 hv => ?_)⟩
      · obtain ⟨y6, y7, y8, y9, rfl, k9, hP9⟩ := hv
        have tk9 := TupK.of k9 hP8
        have hr9 := RulesAt.mono _ _ _ _ tk9 hr8
        refine ⟨_, rfl, _, rfl, _, rfl, p, c, r, x, vg, gs, qs, _, rfl, by omega, hg8.mono tk9, ho, hP9, by omega, fun vb H10 hg k10 hP10 => ?_⟩
        obtain ⟨d, hd, hs, _, hl⟩ := hg
        have hob : HoB d := fun ds e z hz => ⟨(hl ds e z hz).1, fun es e2 => Nat.le_of_lt (Nat.lt_of_lt_of_le ((hl ds e z hz).2 es e2) (by decide))⟩
        have hr10 := RulesAt.mono _ _ _ _ (TupK.of k10 hP9) hr9
        have hs5 : Sm 100000 5 (dRl r) := (sm_rules ok3).le (by decide) (by decide)
        refine ⟨_, rfl, _, rfl, szL (show 2 ≤ 1000000 by decide), fun t ht => ?_⟩
        have e11 := Ext.new (o := .tup [v, vb]) ht
        refine ⟨t, v, vb, dRl r, d, 100000, 5, rfl, SqT.of upd_same, dp_ext e11 (dp_rules hr10), plain_rules r, hd.ext e11, hs5, hs, by decide, by decide, ?_⟩
        refine ⟨_, rfl, _, rfl, _, rfl, v, vb, r, x, d, rfl, RulesAt.mono _ _ _ _ (TupK.ext e11) hr10, by omega, hd.ext e11, hob, fun H11 k11 => ?_⟩
        have k01 := e11.trans k11
        refine ⟨_, rfl, _, rfl, _, rfl, rfl, rfl, v, vb, r, x, d, rfl, RulesAt.mono _ _ _ _ (TupK.ext k01) hr10, by omega, hd.ext k01, hob, fun H12 k12 => ⟨szL (show 2 ≤ 1000000 by decide), fun lf hlf => ?_⟩⟩
        have e13 := Ext.new (o := .lst [.bl (hoD r x d), .bl (hoD r x d)]) hlf
        have k03 := (k01.trans k12).trans e13
        refine ⟨_, rfl, .ref lf, .list [.bool (hoD r x d), .bool (hoD r x d)], 1000, 1, rfl, .lst (SqL.of upd_same) (.cons (.bl _) (.cons (.bl _) .nil)), sm_bl2 _ _, by decide, by decide, ?_⟩
        refine ⟨_, rfl, _, rfl, _, rfl, v, vb, r, x, d, rfl, RulesAt.mono _ _ _ _ (TupK.ext k03) hr10, ok3.prs, by omega, hd.ext k03, hob, (fun ds e es he => (hl ds e _ he).2 es rfl), fun H14 k14 => ⟨szL (show 1 ≤ 1000000 by decide), fun l1 hl1 => ?_⟩⟩
        have e15 := Ext.new (o := .lst [.bl (hoD r x d)]) hl1
        refine ⟨l1, 2, [.bl (hoD r x d)], rfl, rfl, upd_same, by decide, by decide, szL (show 1 * 2 ≤ 1000000 by decide), fun l2 hl2 => ?_⟩
        have e16 := Ext.new (o := .lst [.bl (hoD r x d), .bl (hoD r x d)]) hl2
        refine ⟨.ref l2, .list [.bool (hoD r x d), .bool (hoD r x d)], 1000, 1, rfl, .lst (xs := [.bl (hoD r x d), .bl (hoD r x d)]) (SqL.of upd_same) (.cons (.bl _) (.cons (.bl _) .nil)), sm_bl2 _ _, by decide, by decide, ?_⟩
        have k06 := ((k03.trans k14).trans e15).trans e16
        generalize (PyData.list [.bool (hoD r x d), .bool (hoD r x d)]).shown = T
        refine ⟨rfl, _, rfl, ?_⟩
        rw [decide_eq_true (rfl : V.str T = V.str T)]
        refine iteF ⟨_, rfl, _, rfl, szL (show 2 ≤ 1000000 by decide), fun t2 ht2 => ?_⟩
        have e17 := Ext.new (o := .tup [v, vb]) ht2
        have k07 := Ext.trans k06 e17
        refine ⟨t2, v, vb, dRl r, d, 100000, 5, rfl, SqT.of upd_same, dp_ext k07 (dp_rules hr10), plain_rules r, hd.ext k07, hs5, hs, by decide, by decide, ?_⟩
        generalize (PyData.tuple [dRl r, d]).shown = T2
        refine ⟨_, rfl, rfl, _, rfl, ?_⟩
        rw [decide_eq_true (rfl : V.str T2 = V.str T2)]
        exact iteF ⟨_, _, _, _, rfl, (k9.trans k10).trans (Kp.ext k07), (hP10.ext k07).mono (by omega)⟩
      · obtain ⟨y6, y7, y8, y9, rfl, k9, hP9⟩ := hv
        exact ⟨_, _, _, _, _, _, _, _, rfl, hP9.mono (by omega)⟩
    · exact q _
end
end Pf


namespace Pf
open PySem PySem.Spec PyProof.Rows L2
/-! ### what the top has written; the law's own head -/
theorem all_mk {l : PySem.W.OpenLaw} {w : World} {K : PySem.W.Frag} {h : Heap} {mg : Str → Option Value} {fa f0 f1 f2 f3 f4 f5 f6 f7 f8 f9 f10 f11 f12 f13 f14 f15 f16 f17 f18 f19 f20 f21 f22 f23 f24 f25 f26 : Addr} (X : K.In h) (G : h.Ns mainGlobals mg) (hfa : mg "law" = some (.ref fa))
    {od0 an0 od1 an1 od2 an2 od3 an3 od4 an4 od5 an5 od6 an6 od7 an7 od8 an8 od9 an9 od10 an10 od11 an11 od12 an12 od13 an13 od14 an14 od15 an15 od16 an16 od17 an17 od18 an18 od19 an19 od20 an20 od21 an21 od22 an22 od23 an23 od24 an24 od25 an25 od26 an26 : Option Addr} {sl0 sl1 sl2 sl3 sl4 sl5 sl6 sl7 sl8 sl9 sl10 sl11 sl12 sl13 sl14 sl15 sl16 sl17 sl18 sl19 sl20 sl21 sl22 sl23 sl24 sl25 sl26 : Array (Option Value)} {oc0 kV0 dc0 pm0 cd0 ct0 oc1 kV1 dc1 pm1 cd1 ct1 oc2 kV2 dc2 pm2 cd2 ct2 oc3 kV3 dc3 pm3 cd3 ct3 oc4 kV4 dc4 pm4 cd4 ct4 oc5 kV5 dc5 pm5 cd5 ct5 oc6 kV6 dc6 pm6 cd6 ct6 oc7 kV7 dc7 pm7 cd7 ct7 oc8 kV8 dc8 pm8 cd8 ct8 oc9 kV9 dc9 pm9 cd9 ct9 oc10 kV10 dc10 pm10 cd10 ct10 oc11 kV11 dc11 pm11 cd11 ct11 oc12 kV12 dc12 pm12 cd12 ct12 oc13 kV13 dc13 pm13 cd13 ct13 oc14 kV14 dc14 pm14 cd14 ct14 oc15 kV15 dc15 pm15 cd15 ct15 oc16 kV16 dc16 pm16 cd16 ct16 oc17 kV17 dc17 pm17 cd17 ct17 oc18 kV18 dc18 pm18 cd18 ct18 oc19 kV19 dc19 pm19 cd19 ct19 oc20 kV20 dc20 pm20 cd20 ct20 oc21 kV21 dc21 pm21 cd21 ct21 oc22 kV22 dc22 pm22 cd22 ct22 oc23 kV23 dc23 pm23 cd23 ct23 oc24 kV24 dc24 pm24 cd24 ct24 oc25 kV25 dc25 pm25 cd25 ct25 oc26 kV26 dc26 pm26 cd26 ct26 : Value} 
    (a0 : PySem.W.nsIn K mainGlobals "_law_pen" = some (some (.ref f0))) (l0 : K.lookup f0 = some ⟨oc0, od0, .func (PySem.W.fnOf "_law_pen" "_law_pen" (defArgs s_law_pen) (defBody s_law_pen) (defScope s_law_pen) .none kV0 dc0 pm0 an0 cd0 ct0), sl0⟩) (c0 : PySem.W.codeIn K cd0 "_law_pen" = true) (k0 : PySem.W.keepIn K (.ref f0) = true)
    (a1 : PySem.W.nsIn K mainGlobals "_law_take" = some (some (.ref f1))) (l1 : K.lookup f1 = some ⟨oc1, od1, .func (PySem.W.fnOf "_law_take" "_law_take" (defArgs s_law_take) (defBody s_law_take) (defScope s_law_take) .none kV1 dc1 pm1 an1 cd1 ct1), sl1⟩) (c1 : PySem.W.codeIn K cd1 "_law_take" = true) (k1 : PySem.W.keepIn K (.ref f1) = true)
    (a2 : PySem.W.nsIn K mainGlobals "_law_pick" = some (some (.ref f2))) (l2 : K.lookup f2 = some ⟨oc2, od2, .func (PySem.W.fnOf "_law_pick" "_law_pick" (defArgs s_law_pick) (defBody s_law_pick) (defScope s_law_pick) .none kV2 dc2 pm2 an2 cd2 ct2), sl2⟩) (c2 : PySem.W.codeIn K cd2 "_law_pick" = true) (k2 : PySem.W.keepIn K (.ref f2) = true)
    (a3 : PySem.W.nsIn K mainGlobals "_law_worth" = some (some (.ref f3))) (l3 : K.lookup f3 = some ⟨oc3, od3, .func (PySem.W.fnOf "_law_worth" "_law_worth" (defArgs s_law_worth) (defBody s_law_worth) (defScope s_law_worth) .none kV3 dc3 pm3 an3 cd3 ct3), sl3⟩) (c3 : PySem.W.codeIn K cd3 "_law_worth" = true) (k3 : PySem.W.keepIn K (.ref f3) = true)
    (a4 : PySem.W.nsIn K mainGlobals "_law_code" = some (some (.ref f4))) (l4 : K.lookup f4 = some ⟨oc4, od4, .func (PySem.W.fnOf "_law_code" "_law_code" (defArgs s_law_code) (defBody s_law_code) (defScope s_law_code) .none kV4 dc4 pm4 an4 cd4 ct4), sl4⟩) (c4 : PySem.W.codeIn K cd4 "_law_code" = true) (k4 : PySem.W.keepIn K (.ref f4) = true)
    (a5 : PySem.W.nsIn K mainGlobals "_law_word" = some (some (.ref f5))) (l5 : K.lookup f5 = some ⟨oc5, od5, .func (PySem.W.fnOf "_law_word" "_law_word" (defArgs s_law_word) (defBody s_law_word) (defScope s_law_word) .none kV5 dc5 pm5 an5 cd5 ct5), sl5⟩) (c5 : PySem.W.codeIn K cd5 "_law_word" = true) (k5 : PySem.W.keepIn K (.ref f5) = true)
    (a6 : PySem.W.nsIn K mainGlobals "_law_may" = some (some (.ref f6))) (l6 : K.lookup f6 = some ⟨oc6, od6, .func (PySem.W.fnOf "_law_may" "_law_may" (defArgs s_law_may) (defBody s_law_may) (defScope s_law_may) .none kV6 dc6 pm6 an6 cd6 ct6), sl6⟩) (c6 : PySem.W.codeIn K cd6 "_law_may" = true) (k6 : PySem.W.keepIn K (.ref f6) = true)
    (a7 : PySem.W.nsIn K mainGlobals "_law_folded" = some (some (.ref f7))) (l7 : K.lookup f7 = some ⟨oc7, od7, .func (PySem.W.fnOf "_law_folded" "_law_folded" (defArgs s_law_folded) (defBody s_law_folded) (defScope s_law_folded) .none kV7 dc7 pm7 an7 cd7 ct7), sl7⟩) (c7 : PySem.W.codeIn K cd7 "_law_folded" = true) (k7 : PySem.W.keepIn K (.ref f7) = true)
    (a8 : PySem.W.nsIn K mainGlobals "text_of" = some (some (.ref f8))) (l8 : K.lookup f8 = some ⟨oc8, od8, .func (PySem.W.fnOf "text_of" "text_of" (defArgs s_text_of) (defBody s_text_of) (defScope s_text_of) .none kV8 dc8 pm8 an8 cd8 ct8), sl8⟩) (c8 : PySem.W.codeIn K cd8 "text_of" = true) (k8 : PySem.W.keepIn K (.ref f8) = true)
    (a9 : PySem.W.nsIn K mainGlobals "pair_worth" = some (some (.ref f9))) (l9 : K.lookup f9 = some ⟨oc9, od9, .func (PySem.W.fnOf "pair_worth" "pair_worth" (defArgs s_pair_worth) (defBody s_pair_worth) (defScope s_pair_worth) .none kV9 dc9 pm9 an9 cd9 ct9), sl9⟩) (c9 : PySem.W.codeIn K cd9 "pair_worth" = true) (k9 : PySem.W.keepIn K (.ref f9) = true)
    (a10 : PySem.W.nsIn K mainGlobals "may_pair" = some (some (.ref f10))) (l10 : K.lookup f10 = some ⟨oc10, od10, .func (PySem.W.fnOf "may_pair" "may_pair" (defArgs s_may_pair) (defBody s_may_pair) (defScope s_may_pair) .none kV10 dc10 pm10 an10 cd10 ct10), sl10⟩) (c10 : PySem.W.codeIn K cd10 "may_pair" = true) (k10 : PySem.W.keepIn K (.ref f10) = true)
    (a11 : PySem.W.nsIn K mainGlobals "is_whole" = some (some (.ref f11))) (l11 : K.lookup f11 = some ⟨oc11, od11, .func (PySem.W.fnOf "is_whole" "is_whole" (defArgs s_is_whole) (defBody s_is_whole) (defScope s_is_whole) .none kV11 dc11 pm11 an11 cd11 ct11), sl11⟩) (c11 : PySem.W.codeIn K cd11 "is_whole" = true) (k11 : PySem.W.keepIn K (.ref f11) = true)
    (a12 : PySem.W.nsIn K mainGlobals "is_row" = some (some (.ref f12))) (l12 : K.lookup f12 = some ⟨oc12, od12, .func (PySem.W.fnOf "is_row" "is_row" (defArgs s_is_row) (defBody s_is_row) (defScope s_is_row) .none kV12 dc12 pm12 an12 cd12 ct12), sl12⟩) (c12 : PySem.W.codeIn K cd12 "is_row" = true) (k12 : PySem.W.keepIn K (.ref f12) = true)
    (a13 : PySem.W.nsIn K mainGlobals "is_pair" = some (some (.ref f13))) (l13 : K.lookup f13 = some ⟨oc13, od13, .func (PySem.W.fnOf "is_pair" "is_pair" (defArgs s_is_pair) (defBody s_is_pair) (defScope s_is_pair) .none kV13 dc13 pm13 an13 cd13 ct13), sl13⟩) (c13 : PySem.W.codeIn K cd13 "is_pair" = true) (k13 : PySem.W.keepIn K (.ref f13) = true)
    (a14 : PySem.W.nsIn K mainGlobals "go_together" = some (some (.ref f14))) (l14 : K.lookup f14 = some ⟨oc14, od14, .func (PySem.W.fnOf "go_together" "go_together" (defArgs s_go_together) (defBody s_go_together) (defScope s_go_together) .none kV14 dc14 pm14 an14 cd14 ct14), sl14⟩) (c14 : PySem.W.codeIn K cd14 "go_together" = true) (k14 : PySem.W.keepIn K (.ref f14) = true)
    (a15 : PySem.W.nsIn K mainGlobals "rises" = some (some (.ref f15))) (l15 : K.lookup f15 = some ⟨oc15, od15, .func (PySem.W.fnOf "rises" "rises" (defArgs s_rises) (defBody s_rises) (defScope s_rises) .none kV15 dc15 pm15 an15 cd15 ct15), sl15⟩) (c15 : PySem.W.codeIn K cd15 "rises" = true) (k15 : PySem.W.keepIn K (.ref f15) = true)
    (a16 : PySem.W.nsIn K mainGlobals "is_folding" = some (some (.ref f16))) (l16 : K.lookup f16 = some ⟨oc16, od16, .func (PySem.W.fnOf "is_folding" "is_folding" (defArgs s_is_folding) (defBody s_is_folding) (defScope s_is_folding) .none kV16 dc16 pm16 an16 cd16 ct16), sl16⟩) (c16 : PySem.W.codeIn K cd16 "is_folding" = true) (k16 : PySem.W.keepIn K (.ref f16) = true)
    (a17 : PySem.W.nsIn K mainGlobals "_law_is_folding" = some (some (.ref f17))) (l17 : K.lookup f17 = some ⟨oc17, od17, .func (PySem.W.fnOf "_law_is_folding" "_law_is_folding" (defArgs s_law_is_folding) (defBody s_law_is_folding) (defScope s_law_is_folding) .none kV17 dc17 pm17 an17 cd17 ct17), sl17⟩) (c17 : PySem.W.codeIn K cd17 "_law_is_folding" = true) (k17 : PySem.W.keepIn K (.ref f17) = true)
    (a18 : PySem.W.nsIn K mainGlobals "are_places" = some (some (.ref f18))) (l18 : K.lookup f18 = some ⟨oc18, od18, .func (PySem.W.fnOf "are_places" "are_places" (defArgs s_are_places) (defBody s_are_places) (defScope s_are_places) .none kV18 dc18 pm18 an18 cd18 ct18), sl18⟩) (c18 : PySem.W.codeIn K cd18 "are_places" = true) (k18 : PySem.W.keepIn K (.ref f18) = true)
    (a19 : PySem.W.nsIn K mainGlobals "places_in" = some (some (.ref f19))) (l19 : K.lookup f19 = some ⟨oc19, od19, .func (PySem.W.fnOf "places_in" "places_in" (defArgs s_places_in) (defBody s_places_in) (defScope s_places_in) .none kV19 dc19 pm19 an19 cd19 ct19), sl19⟩) (c19 : PySem.W.codeIn K cd19 "places_in" = true) (k19 : PySem.W.keepIn K (.ref f19) = true)
    (a20 : PySem.W.nsIn K mainGlobals "keeps_free" = some (some (.ref f20))) (l20 : K.lookup f20 = some ⟨oc20, od20, .func (PySem.W.fnOf "keeps_free" "keeps_free" (defArgs s_keeps_free) (defBody s_keeps_free) (defScope s_keeps_free) .none kV20 dc20 pm20 an20 cd20 ct20), sl20⟩) (c20 : PySem.W.codeIn K cd20 "keeps_free" = true) (k20 : PySem.W.keepIn K (.ref f20) = true)
    (a21 : PySem.W.nsIn K mainGlobals "can_be_kept" = some (some (.ref f21))) (l21 : K.lookup f21 = some ⟨oc21, od21, .func (PySem.W.fnOf "can_be_kept" "can_be_kept" (defArgs s_can_be_kept) (defBody s_can_be_kept) (defScope s_can_be_kept) .none kV21 dc21 pm21 an21 cd21 ct21), sl21⟩) (c21 : PySem.W.codeIn K cd21 "can_be_kept" = true) (k21 : PySem.W.keepIn K (.ref f21) = true)
    (a22 : PySem.W.nsIn K mainGlobals "are_holds" = some (some (.ref f22))) (l22 : K.lookup f22 = some ⟨oc22, od22, .func (PySem.W.fnOf "are_holds" "are_holds" (defArgs s_are_holds) (defBody s_are_holds) (defScope s_are_holds) .none kV22 dc22 pm22 an22 cd22 ct22), sl22⟩) (c22 : PySem.W.codeIn K cd22 "are_holds" = true) (k22 : PySem.W.keepIn K (.ref f22) = true)
    (a23 : PySem.W.nsIn K mainGlobals "_law_holds" = some (some (.ref f23))) (l23 : K.lookup f23 = some ⟨oc23, od23, .func (PySem.W.fnOf "_law_holds" "_law_holds" (defArgs s_law_holds) (defBody s_law_holds) (defScope s_law_holds) .none kV23 dc23 pm23 an23 cd23 ct23), sl23⟩) (c23 : PySem.W.codeIn K cd23 "_law_holds" = true) (k23 : PySem.W.keepIn K (.ref f23) = true)
    (a24 : PySem.W.nsIn K mainGlobals "_law_are_holds" = some (some (.ref f24))) (l24 : K.lookup f24 = some ⟨oc24, od24, .func (PySem.W.fnOf "_law_are_holds" "_law_are_holds" (defArgs s_law_are_holds) (defBody s_law_are_holds) (defScope s_law_are_holds) .none kV24 dc24 pm24 an24 cd24 ct24), sl24⟩) (c24 : PySem.W.codeIn K cd24 "_law_are_holds" = true) (k24 : PySem.W.keepIn K (.ref f24) = true)
    (a25 : PySem.W.nsIn K mainGlobals "_law_bent" = some (some (.ref f25))) (l25 : K.lookup f25 = some ⟨oc25, od25, .func (PySem.W.fnOf "_law_bent" "_law_bent" (defArgs s_law_bent) (defBody s_law_bent) (defScope s_law_bent) .none kV25 dc25 pm25 an25 cd25 ct25), sl25⟩) (c25 : PySem.W.codeIn K cd25 "_law_bent" = true) (k25 : PySem.W.keepIn K (.ref f25) = true)
    (a26 : PySem.W.nsIn K mainGlobals "law" = some (some (.ref f26))) (l26 : K.lookup f26 = some ⟨oc26, od26, .func (PySem.W.fnOf "law" "law" (defArgs s_law) (defBody s_law) (defScope s_law) .none kV26 dc26 pm26 an26 cd26 ct26), sl26⟩) (c26 : PySem.W.codeIn K cd26 "law" = true) (k26 : PySem.W.keepIn K (.ref f26) = true)
    (z0 : PySem.W.nsIn K mainGlobals "len" = some none)
    (z1 : PySem.W.nsIn K mainGlobals "abs" = some none)
    (z2 : PySem.W.nsIn K mainGlobals "int" = some none)
    (z3 : PySem.W.nsIn K mainGlobals "tuple" = some none)
    (z4 : PySem.W.nsIn K mainGlobals "range" = some none)
    (z5 : PySem.W.nsIn K mainGlobals "list" = some none)
    (z6 : PySem.W.nsIn K mainGlobals "sorted" = some none)
    (z7 : PySem.W.nsIn K mainGlobals "sum" = some none)
    (z8 : PySem.W.nsIn K mainGlobals "zip" = some none)
    (z9 : PySem.W.nsIn K mainGlobals "isinstance" = some none)
    (z10 : PySem.W.nsIn K mainGlobals "bool" = some none)
    (z11 : PySem.W.nsIn K mainGlobals "all" = some none)
    (z12 : PySem.W.nsIn K mainGlobals "enumerate" = some none)
    (z13 : PySem.W.nsIn K mainGlobals "set" = some none)
    (z14 : PySem.W.nsIn K mainGlobals "repr" = some none) :
    ∃ fd : FuncData, (∀ (s : Shared) (v : Value), BindsTo s fd ⟨[v], []⟩ [("_law_script", v)]) ∧ ∀ base : Heap, K.In base → base.Ns mainGlobals mg → FnG l.prog w K mg base fa fd ["_law_script"] (spLaw K) := by
  have e := hfa.symm.trans (PySem.W.mg_of X G a26)
  cases e
  have F0 := fun_mk (st := s_law_pen) l0 c0 k0
  have F1 := fun_mk (st := s_law_take) l1 c1 k1
  have F2 := fun_mk (st := s_law_pick) l2 c2 k2
  have F3 := fun_mk (st := s_law_worth) l3 c3 k3
  have F4 := fun_mk (st := s_law_code) l4 c4 k4
  have F5 := fun_mk (st := s_law_word) l5 c5 k5
  have F6 := fun_mk (st := s_law_may) l6 c6 k6
  have F7 := fun_mk (st := s_law_folded) l7 c7 k7
  have F8 := fun_mk (st := s_text_of) l8 c8 k8
  have F9 := fun_mk (st := s_pair_worth) l9 c9 k9
  have F10 := fun_mk (st := s_may_pair) l10 c10 k10
  have F11 := fun_mk (st := s_is_whole) l11 c11 k11
  have F12 := fun_mk (st := s_is_row) l12 c12 k12
  have F13 := fun_mk (st := s_is_pair) l13 c13 k13
  have F14 := fun_mk (st := s_go_together) l14 c14 k14
  have F15 := fun_mk (st := s_rises) l15 c15 k15
  have F16 := fun_mk (st := s_is_folding) l16 c16 k16
  have F17 := fun_mk (st := s_law_is_folding) l17 c17 k17
  have F18 := fun_mk (st := s_are_places) l18 c18 k18
  have F19 := fun_mk (st := s_places_in) l19 c19 k19
  have F20 := fun_mk (st := s_keeps_free) l20 c20 k20
  have F21 := fun_mk (st := s_can_be_kept) l21 c21 k21
  have F22 := fun_mk (st := s_are_holds) l22 c22 k22
  have F23 := fun_mk (st := s_law_holds) l23 c23 k23
  have F24 := fun_mk (st := s_law_are_holds) l24 c24 k24
  have F25 := fun_mk (st := s_law_bent) l25 c25 k25
  have F26 := fun_mk (st := s_law) l26 c26 k26
  have mlen := PySem.W.mg_none_of X G z0
  have mabs := PySem.W.mg_none_of X G z1
  have mint := PySem.W.mg_none_of X G z2
  have mtuple := PySem.W.mg_none_of X G z3
  have mrange := PySem.W.mg_none_of X G z4
  have mlist := PySem.W.mg_none_of X G z5
  have msorted := PySem.W.mg_none_of X G z6
  have msum := PySem.W.mg_none_of X G z7
  have mzip := PySem.W.mg_none_of X G z8
  have misinstance := PySem.W.mg_none_of X G z9
  have mbool := PySem.W.mg_none_of X G z10
  have mall := PySem.W.mg_none_of X G z11
  have menumerate := PySem.W.mg_none_of X G z12
  have mset := PySem.W.mg_none_of X G z13
  have mrepr := PySem.W.mg_none_of X G z14
  refine ⟨PySem.W.fnOf "law" "law" (defArgs s_law) (defBody s_law) (defScope s_law) .none kV26 dc26 pm26 an26 cd26 ct26, fun s v => .of_eq rfl, fun base _ _ => ?_⟩
  have c_law_pen : Ca l.prog w K mg base 1 "_law_pen" ["_law_script"] (spPen K) := ⟨f0, _, ok_pen F0, PySem.W.mg_of X G a0, F0.kp, F0.binds fun _ _ _ _ _ _ us hl => match us, hl with | [_], _ => rfl⟩
  have c_law_take : Ca l.prog w K mg base 1 "_law_take" ["_law_pen_here", "_law_size"] spTake := ⟨f1, _, ok_take F1 mlen mabs, PySem.W.mg_of X G a1, F1.kp, F1.binds fun _ _ _ _ _ _ us hl => match us, hl with | [_, _], _ => rfl⟩
  have c_law_pick : Ca l.prog w K mg base 2 "_law_pick" ["_law_pen_here", "_law_some"] spPick := ⟨f2, _, ok_pick F2 c_law_take mlen, PySem.W.mg_of X G a2, F2.kp, F2.binds fun _ _ _ _ _ _ us hl => match us, hl with | [_, _], _ => rfl⟩
  have c_law_worth : Ca l.prog w K mg base 3 "_law_worth" ["_law_pen_here"] spWorth := ⟨f3, _, ok_worth F3 c_law_take c_law_pick, PySem.W.mg_of X G a3, F3.kp, F3.binds fun _ _ _ _ _ _ us hl => match us, hl with | [_], _ => rfl⟩
  have c_law_code : Ca l.prog w K mg base 4 "_law_code" ["_law_pen_here"] spCode := ⟨f4, _, ok_code F4 c_law_take c_law_pick c_law_worth mlen mint mtuple mrange mlist msorted, PySem.W.mg_of X G a4, F4.kp, F4.binds fun _ _ _ _ _ _ us hl => match us, hl with | [_], _ => rfl⟩
  have c_law_word : Ca l.prog w K mg base 3 "_law_word" ["_law_pen_here", "_law_code_here", "_law_most"] spWord := ⟨f5, _, ok_word F5 c_law_take c_law_pick mrange, PySem.W.mg_of X G a5, F5.kp, F5.binds fun _ _ _ _ _ _ us hl => match us, hl with | [_, _, _], _ => rfl⟩
  have c_law_may : Ca l.prog w K mg base 1 "_law_may" ["_law_code_here", "_law_word_here", "_law_i", "_law_j"] spMay := ⟨f6, _, ok_may F6, PySem.W.mg_of X G a6, F6.kp, F6.binds fun _ _ _ _ _ _ us hl => match us, hl with | [_, _, _, _], _ => rfl⟩
  have c_law_folded : Ca l.prog w K mg base 16 "_law_folded" ["_law_pen_here", "_law_code_here", "_law_word_here", "_law_first", "_law_last"] (spFold 13) := ⟨f7, _, ok_folded F7 (F7.binds fun _ _ _ _ _ _ us hl => match us, hl with | [_, _, _, _, _], _ => rfl) (PySem.W.mg_of X G a7) c_law_take c_law_pick c_law_may mrange 13, PySem.W.mg_of X G a7, F7.kp, F7.binds fun _ _ _ _ _ _ us hl => match us, hl with | [_, _, _, _, _], _ => rfl⟩
  have ctext_of : Ca l.prog w K mg base 1 "text_of" ["string", "pair"] spTextOf := ⟨f8, _, ok_text_of F8, PySem.W.mg_of X G a8, F8.kp, F8.binds fun _ _ _ _ _ _ us hl => match us, hl with | [_, _], _ => rfl⟩
  have cpair_worth : Ca l.prog w K mg base 1 "pair_worth" ["rules", "both"] spPW := ⟨f9, _, ok_pw F9, PySem.W.mg_of X G a9, F9.kp, F9.binds fun _ _ _ _ _ _ us hl => match us, hl with | [_, _], _ => rfl⟩
  have cmay_pair : Ca l.prog w K mg base 2 "may_pair" ["rules", "string", "i", "j"] spMP := ⟨f10, _, ok_mp F10 ctext_of cpair_worth mlen, PySem.W.mg_of X G a10, F10.kp, F10.binds fun _ _ _ _ _ _ us hl => match us, hl with | [_, _, _, _], _ => rfl⟩
  have cis_whole : Ca l.prog w K mg base 1 "is_whole" ["thing"] (spWh (K := K)) := ⟨f11, _, ok_wh F11 misinstance mint mbool, PySem.W.mg_of X G a11, F11.kp, F11.binds fun _ _ _ _ _ _ us hl => match us, hl with | [_], _ => rfl⟩
  have cis_row : Ca l.prog w K mg base 1 "is_row" ["thing", "size"] (spRow (K := K)) := ⟨f12, _, ok_row F12 misinstance mtuple mlen, PySem.W.mg_of X G a12, F12.kp, F12.binds fun _ _ _ _ _ _ us hl => match us, hl with | [_, _], _ => rfl⟩
  have cis_pair : Ca l.prog w K mg base 3 "is_pair" ["rules", "string", "thing"] (spIP (K := K)) := ⟨f13, _, ok_ip F13 cis_row cis_whole cmay_pair, PySem.W.mg_of X G a13, F13.kp, F13.binds fun _ _ _ _ _ _ us hl => match us, hl with | [_, _, _], _ => rfl⟩
  have cgo_together : Ca l.prog w K mg base 1 "go_together" ["pair", "later"] (spGT (K := K)) := ⟨f14, _, ok_gt F14, PySem.W.mg_of X G a14, F14.kp, F14.binds fun _ _ _ _ _ _ us hl => match us, hl with | [_, _], _ => rfl⟩
  have crises : Ca l.prog w K mg base 1 "rises" ["things"] (spRi (K := K)) := ⟨f15, _, ok_ri F15 mall mzip, PySem.W.mg_of X G a15, F15.kp, F15.binds fun _ _ _ _ _ _ us hl => match us, hl with | [_], _ => rfl⟩
  have crisesI : Ca l.prog w K mg base 1 "rises" ["things"] (spRiI (K := K)) := ⟨f15, _, ok_riI F15 mall mzip, PySem.W.mg_of X G a15, F15.kp, F15.binds fun _ _ _ _ _ _ us hl => match us, hl with | [_], _ => rfl⟩
  have cis_folding : Ca l.prog w K mg base 4 "is_folding" ["rules", "string", "thing"] (spIF (K := K)) := ⟨f16, _, ok_if F16 cis_pair cgo_together crises misinstance mtuple mall menumerate, PySem.W.mg_of X G a16, F16.kp, F16.binds fun _ _ _ _ _ _ us hl => match us, hl with | [_, _, _], _ => rfl⟩
  have c_law_is_folding : Ca l.prog w K mg base 2 "_law_is_folding" ["_law_code_here", "_law_word_here", "_law_some"] (spLIF (K := K)) := ⟨f17, _, ok_lif F17 c_law_may misinstance mtuple mint mbool mlen msum mlist mset msorted, PySem.W.mg_of X G a17, F17.kp, F17.binds fun _ _ _ _ _ _ us hl => match us, hl with | [_, _, _], _ => rfl⟩
  have care_places : Ca l.prog w K mg base 2 "are_places" ["string", "thing"] (spAP (K := K)) := ⟨f18, _, ok_apl F18 cis_whole crisesI misinstance mtuple mall mlen, PySem.W.mg_of X G a18, F18.kp, F18.binds fun _ _ _ _ _ _ us hl => match us, hl with | [_, _], _ => rfl⟩
  have cplaces_in : Ca l.prog w K mg base 1 "places_in" ["pairs"] (spPlIn (K := K)) := ⟨f19, _, ok_plin F19, PySem.W.mg_of X G a19, F19.kp, F19.binds fun _ _ _ _ _ _ us hl => match us, hl with | [_], _ => rfl⟩
  have ckeeps_free : Ca l.prog w K mg base 2 "keeps_free" ["folding", "places"] (spKf (K := K)) := ⟨f20, _, ok_kf F20 cplaces_in mall, PySem.W.mg_of X G a20, F20.kp, F20.binds fun _ _ _ _ _ _ us hl => match us, hl with | [_, _], _ => rfl⟩
  have ccan_be_kept : Ca l.prog w K mg base 5 "can_be_kept" ["rules", "string", "holds"] (spCb (K := K)) := ⟨f21, _, ok_cb F21 cis_folding ckeeps_free, PySem.W.mg_of X G a21, F21.kp, F21.binds fun _ _ _ _ _ _ us hl => match us, hl with | [_, _, _], _ => rfl⟩
  have care_holds : Ca l.prog w K mg base 6 "are_holds" ["rules", "string", "thing"] (spAH (K := K)) := ⟨f22, _, ok_ah F22 cis_row care_places ccan_be_kept, PySem.W.mg_of X G a22, F22.kp, F22.binds fun _ _ _ _ _ _ us hl => match us, hl with | [_, _, _], _ => rfl⟩
  have care_holdsK : CaK l.prog w K mg base 6 "are_holds" ["rules", "string", "thing"] ["thing", "string", "rules"] (permV [2, 1, 0]) (spAH (K := K)) := ⟨f22, _, permU [2, 1, 0], ok_ah F22 cis_row care_places ccan_be_kept, PySem.W.mg_of X G a22, F22.kp, kbn_of [2, 1, 0] fun ws hw => match ws, hw with | [_, _, _], _ => rfl⟩
  have c_law_holds : Ca l.prog w K mg base 17 "_law_holds" ["_law_pen_here", "_law_code_here", "_law_word_here"] spHolds := ⟨f23, _, ok_holds F23 c_law_folded c_law_take mlen msum mlist mtuple mrange, PySem.W.mg_of X G a23, F23.kp, F23.binds fun _ _ _ _ _ _ us hl => match us, hl with | [_, _, _], _ => rfl⟩
  have c_law_are_holds : Ca l.prog w K mg base 3 "_law_are_holds" ["_law_code_here", "_law_word_here", "_law_some"] (spLAH (K := K)) := ⟨f24, _, ok_lah F24 c_law_is_folding misinstance mtuple mint mbool mlen mlist mset msorted, PySem.W.mg_of X G a24, F24.kp, F24.binds fun _ _ _ _ _ _ us hl => match us, hl with | [_, _, _], _ => rfl⟩
  have c_law_bent : Ca l.prog w K mg base 3 "_law_bent" ["_law_pen_here", "_law_word_here", "_law_some"] (spBent (K := K)) := ⟨f25, _, ok_bent F25 c_law_take c_law_pick mlen mtuple mlist msorted, PySem.W.mg_of X G a25, F25.kp, F25.binds fun _ _ _ _ _ _ us hl => match us, hl with | [_, _, _], _ => rfl⟩
  exact ok_law F26 ⟨rfl, by decide, by decide⟩ c_law_pen c_law_code c_law_word c_law_holds care_holds care_holdsK c_law_are_holds c_law_bent mrange mrepr
end Pf
open PySem PySem.W PyProof.Rows
set_option maxHeartbeats 0 in
theorem PySem.Challenge.cw_pairfolds_k54_holds_known_holds : PySem.Challenge.rw_pairfolds_k54_holds_known.Holds := by
  w_on; o_law; k_head; (case hw => w_witness2)
  k_fill
  refine Pf.walk_g (l := PySem.Challenge.rw_pairfolds_k54_holds_known) (n := 63) (x := "_law_script") (sp := fun w => Pf.spLaw _) rfl (by decide) rfl (fun w h Y => PySem.W.kIn_of Y) ?F (fun _ _ a ns hl hS => ⟨a, ns, rfl, hS, hl, fun _ => rfl⟩)
  case F =>
    intro w mg fa h KX G hmg
    refine' Pf.all_mk KX G hmg ?a0 ?l0 ?c0 ?k0 ?a1 ?l1 ?c1 ?k1 ?a2 ?l2 ?c2 ?k2 ?a3 ?l3 ?c3 ?k3 ?a4 ?l4 ?c4 ?k4 ?a5 ?l5 ?c5 ?k5 ?a6 ?l6 ?c6 ?k6 ?a7 ?l7 ?c7 ?k7 ?a8 ?l8 ?c8 ?k8 ?a9 ?l9 ?c9 ?k9 ?a10 ?l10 ?c10 ?k10 ?a11 ?l11 ?c11 ?k11 ?a12 ?l12 ?c12 ?k12 ?a13 ?l13 ?c13 ?k13 ?a14 ?l14 ?c14 ?k14 ?a15 ?l15 ?c15 ?k15 ?a16 ?l16 ?c16 ?k16 ?a17 ?l17 ?c17 ?k17 ?a18 ?l18 ?c18 ?k18 ?a19 ?l19 ?c19 ?k19 ?a20 ?l20 ?c20 ?k20 ?a21 ?l21 ?c21 ?k21 ?a22 ?l22 ?c22 ?k22 ?a23 ?l23 ?c23 ?k23 ?a24 ?l24 ?c24 ?k24 ?a25 ?l25 ?c25 ?k25 ?a26 ?l26 ?c26 ?k26 ?z0 ?z1 ?z2 ?z3 ?z4 ?z5 ?z6 ?z7 ?z8 ?z9 ?z10 ?z11 ?z12 ?z13 ?z14
    (case a0 => k_is); (case l0 => k_is); (case c0 => k_is); (case k0 => k_is); (case a1 => k_is); (case l1 => k_is); (case c1 => k_is); (case k1 => k_is); (case a2 => k_is); (case l2 => k_is); (case c2 => k_is); (case k2 => k_is); (case a3 => k_is); (case l3 => k_is); (case c3 => k_is); (case k3 => k_is); (case a4 => k_is); (case l4 => k_is); (case c4 => k_is); (case k4 => k_is); (case a5 => k_is); (case l5 => k_is); (case c5 => k_is); (case k5 => k_is); (case a6 => k_is); (case l6 => k_is); (case c6 => k_is); (case k6 => k_is); (case a7 => k_is); (case l7 => k_is); (case c7 => k_is); (case k7 => k_is); (case a8 => k_is); (case l8 => k_is); (case c8 => k_is); (case k8 => k_is); (case a9 => k_is); (case l9 => k_is); (case c9 => k_is); (case k9 => k_is); (case a10 => k_is); (case l10 => k_is); (case c10 => k_is); (case k10 => k_is); (case a11 => k_is); (case l11 => k_is); (case c11 => k_is); (case k11 => k_is); (case a12 => k_is); (case l12 => k_is); (case c12 => k_is); (case k12 => k_is); (case a13 => k_is); (case l13 => k_is); (case c13 => k_is); (case k13 => k_is); (case a14 => k_is); (case l14 => k_is); (case c14 => k_is); (case k14 => k_is); (case a15 => k_is); (case l15 => k_is); (case c15 => k_is); (case k15 => k_is); (case a16 => k_is); (case l16 => k_is); (case c16 => k_is); (case k16 => k_is); (case a17 => k_is); (case l17 => k_is); (case c17 => k_is); (case k17 => k_is); (case a18 => k_is); (case l18 => k_is); (case c18 => k_is); (case k18 => k_is); (case a19 => k_is); (case l19 => k_is); (case c19 => k_is); (case k19 => k_is); (case a20 => k_is); (case l20 => k_is); (case c20 => k_is); (case k20 => k_is); (case a21 => k_is); (case l21 => k_is); (case c21 => k_is); (case k21 => k_is); (case a22 => k_is); (case l22 => k_is); (case c22 => k_is); (case k22 => k_is); (case a23 => k_is); (case l23 => k_is); (case c23 => k_is); (case k23 => k_is); (case a24 => k_is); (case l24 => k_is); (case c24 => k_is); (case k24 => k_is); (case a25 => k_is); (case l25 => k_is); (case c25 => k_is); (case k25 => k_is); (case a26 => k_is); (case l26 => k_is); (case c26 => k_is); (case k26 => k_is); (case z0 => k_is); (case z1 => k_is); (case z2 => k_is); (case z3 => k_is); (case z4 => k_is); (case z5 => k_is); (case z6 => k_is); (case z7 => k_is); (case z8 => k_is); (case z9 => k_is); (case z10 => k_is); (case z11 => k_is); (case z12 => k_is); (case z13 => k_is); (case z14 => k_is)
