import PyProof.Rows.All
import Wide.All
import OpenK.AllK
import Wide.FinOn
import HandS.ForMost
import HandS.Defaults
import HandS.TupMul
import HandS.TupAny
import HandS.IsInst
import HandS.Conv
import KE.SortData
import KE.GoesMore
import HandS.Style
import HandS.Walk
import HandS.Zip
import HandS.TupLe
import HandS.DictComp
import KE.KDictSum
import HandS.ExcValue
import PyProof.CollectStr
import PyProof.Rows.StrRev
import KE.DataCmp
import PySem.Challenge.RW_pairfolds_k06_whole_rules_told_otherwise
import KE.KDictZip
import HandS.Text
import HandS.Replace
import PyProof.Rows.StrLawsPart
set_option Elab.async false
set_option linter.all false
set_option maxRecDepth 100000
set_option maxHeartbeats 4000000
namespace Pf
open PySem PySem.Spec PyProof.Rows L2

/-! ### a def that may be called: its promise, its name, its binding -/
structure Ca (P : Program) (w : World) (K : PySem.W.Frag) (mg : Str → Option Value) (base : Heap) (k : Nat) (x : Str) (ps : List Str) (sp : Sp) : Prop where
  ex : ∃ f fd, FnOk P w K mg base CX0 k f fd ps sp ∧ mg x = some (.ref f) ∧ PySem.W.keepIn K (.ref f) = true ∧ Binds K fd ps []
structure CaK (P : Program) (w : World) (K : PySem.W.Frag) (mg : Str → Option Value) (base : Heap) (k : Nat) (x : Str) (ps ks : List Str) (gV : List V → List V → List V) (sp : Sp) : Prop where
  ex : ∃ f fd g, FnOk P w K mg base CX0 k f fd ps sp ∧ mg x = some (.ref f) ∧ PySem.W.keepIn K (.ref f) = true ∧ KBn K fd ps 0 ks g gV
section
variable {X : Cx} {k : Nat} {x : Str} {ps ks : List Str} {sp : Sp} {p pos : Pos} {e : Expr} {es : List Expr} {kws : List Keyword} {t tk : TA} {gV : List V → List V → List V}
theorem pe_ca (c : Ca X.prog X.w X.K X.mg X.base k x ps sp) (hr : Room k X.A) (hg : Gl X x) (ha : PA X (e :: es) t) (hdb : (x == ("__debug__" : Str)) = false := by decide)
    (he : starEach (e :: es) X.env = (false, eval e X.env) :: starEach es X.env := by rfl) (hpl : (backTo pos (starEach es X.env)).any (·.1) = false := by rfl) :
    PE X (.Call (.Name x p) (e :: es) [] pos) (tCall sp [] E0 t) := by
  obtain ⟨f, fd, F, hm, hk, hb⟩ := c.ex
  exact pe_call F hr hg hm hk hb .nil pass0 ha hdb he hpl
theorem pe_ca0 (c : Ca X.prog X.w X.K X.mg X.base k x ps sp) (hr : Room k X.A) (hg : Gl X x) (hdb : (x == ("__debug__" : Str)) = false := by decide) :
    PE X (.Call (.Name x p) [] [] pos) (tCall sp [] E0 tNil) := by
  obtain ⟨f, fd, F, hm, hk, hb⟩ := c.ex
  exact pe_call0 F hr hg hm hk hb .nil pass0 hdb
/-- f(k = v, ..), by names alone -/
theorem pe_caK (c : CaK X.prog X.w X.K X.mg X.base k x ps ks gV sp) (hr : Room k X.A) (hg : Gl X x) (hkw : PK X kws tk)
    (hall : (backToKw pos (keywordEach kws X.env)).all (·.1.isSome) = true := by rfl) (hks : (backToKw pos (keywordEach kws X.env)).filterMap (·.1) = ks := by rfl) (hdb : (x == ("__debug__" : Str)) = false := by decide)
    (hpl : ((backTo pos (starEach [] X.env)).any (·.1) || (backToKw pos (keywordEach kws X.env)).any (·.1.isNone)) = false := by rfl) :
    PE X (.Call (.Name x p) [] kws pos) (tCallN 0 ks.length sp gV E0 tNil tk) := by
  obtain ⟨f, fd, g, F, hm, hk, hb⟩ := c.ex
  refine ⟨fun pins s σ H Q I h => ?_⟩
  refine wpAny_Call_Name_kw (ld_glob I hg hm ?_ hdb)
  refine PySem.W.callWith_KW0 (h₀ := X.base) I.ok.mod.kin hk hall ?_ hpl
  refine thn (hkw.run pos pins s σ H _ I h) fun ws s2 ⟨zs, H2, I2, rz, l1, l2, q2⟩ => ⟨I2.kIn, ?_⟩
  rw [hks]
  exact run_fnN (us := []) (vs := []) F hr hb pass0 I2 .nil rz rfl l2 q2
end

/-! ### rules that read a list or a tuple, the written part by its letter -/
theorem ixL (K : PySem.W.Frag) {X : Cx} (h : X.K = K := by rfl) : IxR X (rIxL K) := h ▸ ix_list
theorem ixT (K : PySem.W.Frag) {X : Cx} (h : X.K = K := by rfl) : IxR X (rIxT K) := h ▸ ix_tup
theorem ixA (K : PySem.W.Frag) {X : Cx} (h : X.K = K := by rfl) : IxR X (rIx K) := h ▸ ix_seq
def rLenA (K : PySem.W.Frag) : List V → Hp → VK → Prop := fun xs H Q => ∃ x n, xs = [x] ∧ LenV K x H n ∧ Q (.int n) H
theorem lenA (K : PySem.W.Frag) {X : Cx} (h : X.K = K := by rfl) : CallR X (.builtin "len") (rLenA K) := by
  subst h
  exact call_len
theorem repT (K : PySem.W.Frag) {X : Cx} (h : X.K = K := by rfl) : OpR X (binaryOp .Mult) (rRepT K) := h ▸ op_repT
theorem slL (K : PySem.W.Frag) {X : Cx} (h : X.K = K := by rfl) : SlR X (rSlL K) := h ▸ sl_list
theorem slT (K : PySem.W.Frag) {X : Cx} (h : X.K = K := by rfl) : SlR X (rSlT K) := h ▸ sl_tup
theorem eqD (K : PySem.W.Frag) {X : Cx} (hu : X.A.units + 64 < cLine) (h : X.K = K := by rfl) : OpR X (compareOp .Eq) (rEqD K) := h ▸ op_eqD hu
theorem neD (K : PySem.W.Frag) {X : Cx} (hu : X.A.units + 64 < cLine) (h : X.K = K := by rfl) : OpR X (compareOp .NotEq) (rNeD K) := h ▸ op_neD hu
theorem catT (K : PySem.W.Frag) {X : Cx} (h : X.K = K := by rfl) : OpR X (binaryOp .Add) (rCatT K) := h ▸ op_catT
theorem catA (K : PySem.W.Frag) {X : Cx} (h : X.K = K := by rfl) : OpR X (binaryOp .Add) (rCatA K) := h ▸ op_catA
theorem slA (K : PySem.W.Frag) {X : Cx} (h : X.K = K := by rfl) : SlR X (rSlA K) := h ▸ sl_tupA
theorem isi1 (K : PySem.W.Frag) {X : Cx} (h : X.K = K := by rfl) : CallR X (.builtin "isinstance") (rIsi K) := h ▸ call_isi
theorem pgT (K : PySem.W.Frag) {X : Cx} {es : List Expr} {k n : Nat} {t : TGs} {pos : Pos} (hc : X.calm = true) (h : PGs X es t) (hK : X.K = K := by rfl) (hn : (assignEach es X.env).length = n := by rfl) (hst : (assignEach es X.env).findIdx? (·.1) = none := by rfl) :
    PG X (.Tuple es k pos) (gTup K n t) := by
  subst hK
  exact pg_tup hc h hn hst
def rLen (K : PySem.W.Frag) : List V → Hp → VK → Prop := fun xs H Q => ∃ p ys, xs = [.ref p] ∧ (SqL K H p ys ∨ SqT K H p ys) ∧ Q (.int ys.length) H
theorem lenQ (K : PySem.W.Frag) {X : Cx} (h : X.K = K := by rfl) : CallR X (.builtin "len") (rLen K) := by
  subst h
  exact call_len_seq
def rListOf (K : PySem.W.Frag) : List V → Hp → VK → Prop := fun xs H Q => ∃ p ys, xs = [.ref p] ∧ (SqL K H p ys ∨ SqT K H p ys) ∧ ∀ l, H l = none → Q (.ref l) (upd H l (.lst ys))
theorem listOf (K : PySem.W.Frag) {X : Cx} (h : X.K = K := by rfl) : CallR X (.type "list") (rListOf K) := by
  subst h
  exact call_list_of
def rTupleOf (K : PySem.W.Frag) : List V → Hp → VK → Prop := fun xs H Q => ∃ p ys, xs = [.ref p] ∧ ((SqL K H p ys ∧ ∀ l, H l = none → Q (.ref l) (upd H l (.tup ys))) ∨ (SqT K H p ys ∧ Q (.ref p) H))
theorem tupleOf (K : PySem.W.Frag) {X : Cx} (h : X.K = K := by rfl) : CallR X (.type "tuple") (rTupleOf K) := by
  subst h
  exact call_tuple_of

/-! ### repr of a plain thing -/
def repV : V → Str
  | .non => "None"
  | .bl b => if b then "True" else "False"
  | .int i => toString i
  | _ => ""
def RepOk : V → Prop
  | .non => True
  | .bl _ => True
  | .int i => i.natAbs.log2 < 1920
  | _ => False
theorem call_repr {X : Cx} : CallR X (.builtin "repr") (fun xs H Q => ∃ v, xs = [v] ∧ RepOk v ∧ Q (.str (repV v)) H) := by
  intro pins s σ H xs us Q I r h
  obtain ⟨v, rfl, hz, q⟩ := h
  cases v with
  | non =>
    obtain ⟨u, rfl, rfl⟩ := vals1 r
    exact PySem.P.repr_of_none ⟨.str _, H, I.tok _, ⟨_, rfl⟩, q⟩
  | bl b =>
    obtain ⟨u, rfl, rfl⟩ := vals1 r
    exact PySem.P.repr_of_bool ⟨.str _, H, I.tok _, ⟨_, rfl⟩, by cases b <;> exact q⟩
  | int i =>
    obtain ⟨u, rfl, t, rfl⟩ := vals1 r
    exact PySem.P.repr_of_int hz ⟨.str _, H, I.tok _, ⟨_, rfl⟩, q⟩
  | str _ => exact hz.elim
  | byt _ => exact hz.elim
  | flt _ => exact hz.elim
  | ref _ => exact hz.elim
  | ty _ => exact hz.elim

/-! ### texts of small letters -/
def Small (x : Str) : Prop := ∀ c ∈ x.cps.toList, 97 ≤ c ∧ c ≤ 122
theorem Small.app {a b : Str} (ha : Small a) (hb : Small b) : Small (a ++ b) := fun c h => by
  rw [Str.cps_append, Array.toList_append, List.mem_append] at h
  rcases h with h | h
  · exact ha c h
  · exact hb c h
theorem Small.one {c : Nat} (h : 97 ≤ c ∧ c ≤ 122) : Small ⟨#[c]⟩ := fun d hd => by
  have e : d = c := by simpa using hd
  subst e
  exact h
theorem Small.at {x : Str} (h : Small x) {i c : Nat} (hi : x.cps[i]? = some c) : 97 ≤ c ∧ c ≤ 122 := by
  refine h c ?_
  have := Array.mem_of_getElem? hi
  exact Array.mem_toList_iff.mpr this
theorem Small.ok {x : Str} (h : Small x) : PyData.strOk x = true := by
  show x.cps.all (· < 0x110000) = true
  rw [Array.all_eq_true_iff_forall_mem]
  intro c hc
  have := h c (Array.mem_toList_iff.mpr hc)
  exact decide_eq_true (by omega)
/-! ### a chain of three comparisons -/
def tChain3 (r1 r2 r3 : R2) (ta tb tc td : TE) : TE := fun σ H Q => ta σ H fun x H1 => tb σ H1 fun y H2 => r1 x y H2 fun z H3 => ∃ k, z = .bl k ∧
  (if k = true then tc σ H3 fun u H4 => r2 y u H4 fun z2 H5 => ∃ k2, z2 = .bl k2 ∧ (if k2 = true then td σ H5 fun v H6 => r3 u v H6 Q else Q (.bl false) H5) else Q (.bl false) H3)
theorem pt_chain3 {X : Cx} {o1 o2 o3 : CmpOp} {r1 r2 r3 : R2} {a b c d : Expr} {ta tb tc td : TE} {pos : Pos} (h1 : OpR X (compareOp o1) r1) (h2 : OpR X (compareOp o2) r2) (h3 : OpR X (compareOp o3) r3)
    (ha : PE X a ta) (hb : PE X b tb) (hc : PE X c tc) (hd : PE X d td) (hm : lastMarks [o1, o2, o3] [b, c, d] = false := by with_unfolding_all rfl) :
    PT X (.Compare a [o1, o2, o3] [b, c, d] pos) (tTest (tChain3 r1 r2 r3 ta tb tc td)) := by
  refine ⟨fun pins s σ H Q I h => isTrue_chain (thn (ha.run pins s σ H _ I h) fun v s1 ⟨x, H1, I1, e1, q1⟩ => test_link ?_) hm⟩
  refine thn (hb.run pins s1 σ H1 _ I1 q1) fun u s2 ⟨y, H2, I2, e2, q2⟩ => ?_
  refine thn (h1 pins s2 σ H2 x y v u _ I2 e1 e2 q2) fun dv s3 ⟨z, H3, I3, e3, k, ek, q3⟩ => ?_
  subst ek
  cases e3
  refine wpAny_truthy_bool ?_
  cases k with
  | false =>
    obtain ⟨k', e', q'⟩ := q3
    cases e'
    exact ite_ff ⟨H3, I3, q'⟩
  | true =>
    refine ite_tt (test_link ?_)
    refine thn (hc.run pins s3 σ H3 _ I3 q3) fun u4 s4 ⟨y4, H4, I4, e4, q4⟩ => ?_
    refine thn (h2 pins s4 σ H4 y y4 u u4 _ I4 e2 e4 q4) fun dv5 s5 ⟨z5, H5, I5, e5, k5, ek5, q5⟩ => ?_
    subst ek5
    cases e5
    refine wpAny_truthy_bool ?_
    cases k5 with
    | false =>
      obtain ⟨k', e', q'⟩ := q5
      cases e'
      exact ite_ff ⟨H5, I5, q'⟩
    | true =>
      refine ite_tt (test_last ?_)
      refine thn (hd.run pins s5 σ H5 _ I5 q5) fun u6 s6 ⟨y6, H6, I6, e6, q6⟩ => ?_
      refine thn (h3 pins s6 σ H6 y4 y6 u4 u6 _ I6 e4 e6 q6) fun dv7 s7 ⟨z7, H7, I7, e7, k7, ek7, q7⟩ => ?_
      subst ek7
      cases e7
      exact wpAny_truthy_bool ⟨H7, I7, q7⟩
theorem inSeq (K : PySem.W.Frag) {X : Cx} (h : X.K = K := by rfl) : OpR X (compareOp .In) (rIn K false) := h ▸ op_in_seq
theorem notInSeq (K : PySem.W.Frag) {X : Cx} (h : X.K = K := by rfl) : OpR X (compareOp .NotIn) (rIn K true) := h ▸ op_notIn_seq
/-! ### join with nothing between -/
theorem join_str (ys : List Str) : Txt.join "" ys = Str.join "" ys := eq_of_beq (join_closes (ys := ys) rfl)
theorem sjoin_le {m : Nat} : ∀ {ys : List Str}, (∀ y ∈ ys, y.length ≤ m) → (Str.join "" ys).length ≤ ys.length * m
  | [], _ => Nat.zero_le _
  | [y], h => by
    have := h y (List.mem_cons_self ..)
    show y.length ≤ 1 * m
    omega
  | y :: z :: r, h => by
    have h1 := h y (List.mem_cons_self ..)
    have h2 := sjoin_le (ys := z :: r) fun x hx => h x (List.mem_cons_of_mem _ hx)
    show (y ++ "" ++ Str.join "" (z :: r)).length ≤ _
    rw [Str.length_append, Str.length_append, List.length_cons, Nat.succ_mul]
    show y.length + 0 + _ ≤ _
    omega
theorem small_nil : Small "" := by
  unfold Small
  decide +kernel
theorem sjoin_small : ∀ {ys : List Str}, (∀ y ∈ ys, Small y) → Small (Str.join "" ys)
  | [], _ => small_nil
  | [y], h => h y (List.mem_cons_self ..)
  | y :: z :: r, h => ((h y (List.mem_cons_self ..)).app small_nil).app (sjoin_small (ys := z :: r) fun x hx => h x (List.mem_cons_of_mem _ hx))
theorem join_le {m : Nat} {ys : List Str} (h : ∀ y ∈ ys, y.length ≤ m) : (Txt.join "" ys).length ≤ ys.length * m := by
  rw [join_str]
  exact sjoin_le h
theorem join_small {ys : List Str} (h : ∀ y ∈ ys, Small y) : Small (Txt.join "" ys) := by
  rw [join_str]
  exact sjoin_small h

/-! ### a walk over a text's signs -/
theorem for_str {x : Str} {g : TG} {tb : TS} {D : Ends} {σ : L2.St} {H : Hp} (Pv : Nat → L2.St → Hp → Prop) (h0 : Pv 0 σ H)
    (hs : ∀ i c σ H, x.cps[i]? = some c → Pv i σ H → g (.str ⟨#[c]⟩) σ H fun σ2 H2 => tb { D with nx := Pv (i + 1), ct := Pv (i + 1), bk := D.nx } σ2 H2) (hd : ∀ σ H, Pv x.cps.size σ H → D.nx σ H) :
    ∃ W : Nat → Nat → L2.St → Hp → Prop, (∃ m, W 0 m σ H) ∧ ∀ i m σ H, W i m σ H →
      ((Its x).stop i H ∧ D.nx σ H) ∨ ((Its x).go i H ∧ ∃ N : L2.St → Hp → Prop, (∀ σ' H', N σ' H' → ∃ m', m' < m ∧ W (i + 1) m' σ' H') ∧ ∀ y H', (Its x).yld i H y H' → g y σ H' fun σ2 H2 => tb { D with nx := N, ct := N, bk := D.nx } σ2 H2) := by
  refine ⟨fun i m σ H => m = x.cps.size - i ∧ i ≤ x.cps.size ∧ Pv i σ H, ⟨x.cps.size, by simp, Nat.zero_le _, h0⟩, ?_⟩
  rintro i m σ H ⟨rfl, hi, p⟩
  by_cases hlt : i < x.cps.size
  · refine .inr ⟨hlt, Pv (i + 1), fun σ' H' p' => ⟨x.cps.size - (i + 1), by omega, rfl, hlt, p'⟩, fun y H' z => ?_⟩
    obtain ⟨e, c, hc, ev⟩ := z
    subst e ev
    exact hs i c σ _ hc p
  · have e : i = x.cps.size := by omega
    subst e
    exact .inl ⟨Nat.le_refl _, hd σ H p⟩
theorem lc_str {x : Str} {g : TG} {tt : TT} {te : TE} {vs : List Nat} {σ : L2.St} {H1 : Hp} {D : Addr} {Qd : Hp → Prop} (Pv : Nat → Hp → Prop) (h0 : Pv 0 (upd H1 D (.lst [])))
    (hs : ∀ i c H, x.cps[i]? = some c → Pv i H → g (.str ⟨#[c]⟩) (wipe σ vs) H fun σ2 H2 => wipe σ2 vs = wipe σ vs ∧ tt σ2 H2 fun b H3 =>
      if b = true then te σ2 H3 fun y H4 => ∃ acc, H4 D = some (.lst acc) ∧ acc.length < sizeLine ∧ Pv (i + 1) (upd H4 D (.lst (acc ++ [y]))) else Pv (i + 1) H3) (hd : ∀ H, Pv x.cps.size H → Qd H) :
    ∃ W : Nat → Nat → Hp → Prop, (∃ m, W 0 m (upd H1 D (.lst []))) ∧ ∀ i m H, W i m H →
      ((Its x).stop i H ∧ Qd H) ∨ ((Its x).go i H ∧ ∃ Nx : Hp → Prop, (∀ H', Nx H' → ∃ m', m' < m ∧ W (i + 1) m' H') ∧ ∀ y H', (Its x).yld i H y H' → g y (wipe σ vs) H' fun σ2 H2 => wipe σ2 vs = wipe σ vs ∧ tt σ2 H2 fun b H3 =>
        if b = true then te σ2 H3 fun y H4 => ∃ acc, H4 D = some (.lst acc) ∧ acc.length < sizeLine ∧ Nx (upd H4 D (.lst (acc ++ [y]))) else Nx H3) := by
  refine ⟨fun i m H => m = x.cps.size - i ∧ i ≤ x.cps.size ∧ Pv i H, ⟨x.cps.size, by simp, Nat.zero_le _, h0⟩, ?_⟩
  rintro i m H ⟨rfl, hi, p⟩
  by_cases hlt : i < x.cps.size
  · refine .inr ⟨hlt, Pv (i + 1), fun H' p' => ⟨x.cps.size - (i + 1), by omega, rfl, hlt, p'⟩, fun y H' z => ?_⟩
    obtain ⟨e, c, hc, ev⟩ := z
    subst e ev
    exact hs i c _ hc p
  · have e : i = x.cps.size := by omega
    subst e
    exact .inl ⟨Nat.le_refl _, hd H p⟩

/-! ### what stays in the heap, but the thing at p -/
def Kp (p : Addr) (H H' : Hp) : Prop := ∀ b o, b ≠ p → H b = some o → H' b = some o
theorem Kp.refl {p : Addr} {H : Hp} : Kp p H H := fun _ _ _ e => e
theorem Kp.trans {p : Addr} {H H1 H2 : Hp} (a : Kp p H H1) (b : Kp p H1 H2) : Kp p H H2 := fun c o n e => b c o n (a c o n e)
theorem Kp.new {p q : Addr} {H : Hp} {o : HO} (h : H q = none) : Kp p H (upd H q o) := fun b x _ e => by
  rw [upd_ne (ne_of_none e h)]
  exact e
theorem Kp.at {p : Addr} {H : Hp} {o : HO} : Kp p H (upd H p o) := fun b x n e => by
  rw [upd_ne n]
  exact e
/-- a change of what stood nowhere in H -/
theorem Kp.put {p q : Addr} {H H1 : Hp} {o : HO} (k : Kp p H H1) (h : H q = none) : Kp p H (upd H1 q o) := fun b x n e => by
  rw [upd_ne (ne_of_none e h)]
  exact k b x n e
theorem Kp.tup {p : Addr} {H H' : Hp} {ys : List V} {b : Addr} {xs : List V} (k : Kp p H H') (hp : H p = some (.lst ys)) (h : H b = some (.tup xs)) : H' b = some (.tup xs) :=
  k b _ (ne_of h hp (by intro z; cases z)) h
theorem Kp.some {p : Addr} {H H' : Hp} (k : Kp p H H') (hp : ∃ o, H' p = some o) {b : Addr} (h : H' b = none) : H b = none := by
  cases e : H b with
  | none => rfl
  | some o =>
    by_cases n : b = p
    · subst n
      obtain ⟨o', e'⟩ := hp
      rw [e'] at h
      cases h
    · rw [k b o n e] at h
      cases h

/-! ### arguments by names, in another order -/
def permV (js : List Nat) : List V → List V → List V := fun _ zs => js.map fun j => zs.getD j .non
def permU (js : List Nat) : List Value → List Value → List Value := fun _ ws => js.map fun j => ws.getD j .none
theorem vals_getD : ∀ {zs : List V} {ws : List Value} (j : Nat), Vals zs ws → RelV (zs.getD j .non) (ws.getD j .none)
  | _, _, _, .nil => rfl
  | _, _, 0, .cons r _ => r
  | _, _, j + 1, .cons _ t => vals_getD j t
theorem perm_rel {zs : List V} {ws : List Value} (r : Vals zs ws) : ∀ js : List Nat, Vals (js.map fun j => zs.getD j .non) (js.map fun j => ws.getD j .none)
  | [] => .nil
  | j :: js => .cons (vals_getD j r) (perm_rel r js)
theorem kbn_of {K : PySem.W.Frag} {fd : FuncData} {ps ks : List Str} (js : List Nat) (h : ∀ ws : List Value, ws.length = ks.length → bindArgs fd ⟨[], ks.zip ws⟩ = pure (ps.zip (js.map fun j => ws.getD j .none))) :
    KBn K fd ps 0 ks (permU js) (permV js) where
  to := fun s us ws _ hu hw => by
    obtain rfl := List.length_eq_zero_iff.mp hu
    exact .of_eq (h ws hw)
  rel := fun _ r => perm_rel r js
/-! ### what is added, and nothing changed -/
def Ext (H H' : Hp) : Prop := ∀ b o, H b = some o → H' b = some o
theorem Ext.refl {H : Hp} : Ext H H := fun _ _ e => e
theorem Ext.trans {H H1 H2 : Hp} (a : Ext H H1) (b : Ext H1 H2) : Ext H H2 := fun c o e => b c o (a c o e)
theorem Ext.new {q : Addr} {H : Hp} {o : HO} (h : H q = none) : Ext H (upd H q o) := fun b x e => by
  rw [upd_ne (ne_of_none e h)]
  exact e
theorem Ext.put {q : Addr} {H H1 : Hp} {o : HO} (k : Ext H H1) (h : H q = none) : Ext H (upd H1 q o) := fun b x e => by
  rw [upd_ne (ne_of_none e h)]
  exact k b x e
theorem Ext.none {H H' : Hp} (k : Ext H H') {q : Addr} (h : H' q = none) : H q = none := by
  cases e : H q with
  | none => rfl
  | some o =>
    rw [k q o e] at h
    cases h

theorem atI_get {α : Type} {xs : List α} {i : Int} (h0 : 0 ≤ i) (h1 : i < xs.length) : atI xs i = some (xs[i.toNat]'(by omega)) := by
  unfold atI ixN
  rw [if_pos h0, if_pos h1]
  exact List.getElem?_eq_getElem _
theorem atI_ints {ns : List Int} {i : Int} (h0 : 0 ≤ i) (h1 : i < ns.length) : ∃ z, z ∈ ns ∧ atI (ns.map V.int) i = some (.int z) := by
  have h2 : i < (ns.map V.int).length := by rw [List.length_map]; exact h1
  refine ⟨ns[i.toNat]'(by omega), List.getElem_mem _, ?_⟩
  rw [atI_get h0 h2, List.getElem_map]
theorem atI_mem {α : Type} {xs : List α} {i : Int} (h0 : 0 ≤ i) (h1 : i < xs.length) : ∃ v, v ∈ xs ∧ atI xs i = some v :=
  ⟨xs[i.toNat]'(by omega), List.getElem_mem _, atI_get h0 h1⟩
theorem len_pos {x : Str} (h : ¬ x = "") : 1 ≤ x.length := by
  obtain ⟨⟨l⟩⟩ := x
  cases l with
  | nil => exact absurd (by decide +kernel) h
  | cons a r =>
    show 1 ≤ (a :: r).length
    exact Nat.succ_pos _
theorem natAbs_lt_of {i : Int} {n : Nat} (h0 : -(n : Int) < i) (h1 : i < n) : i.natAbs < n := by omega
theorem log2_small {i : Int} (h : i.natAbs < 2 ^ 64) : i.natAbs.log2 < 1920 := by
  by_cases z : i.natAbs = 0
  · rw [z]
    decide
  · exact (Nat.log2_lt z).mpr (Nat.lt_of_lt_of_le h (Nat.pow_le_pow_right (by decide) (by decide)))
theorem szL {n : Nat} (h : n ≤ 1000000) : n ≤ sizeLine := by
  rw [sizeLine_eq]
  omega
theorem szLt {n : Nat} (h : n < 1000000) : n < sizeLine := by
  rw [sizeLine_eq]
  omega
end Pf


namespace Pf
open PySem PySem.Spec PyProof.Rows L2
/-! ### the law's own call: made by nobody, nothing being shown meanwhile -/
structure FnG (P : Program) (w : World) (K : PySem.W.Frag) (mg : Str → Option Value) (base : Heap) (f : Addr) (fd : FuncData) (ps : List Str) (sp : Sp) : Prop where
  run : ∀ (s : Shared) (H : Hp) (args : Args) (us : List Value) (vs : List V) (Q : VK) (E : XK), Env0 P w K mg base callerA [] s H → BindsTo s fd args (ps.zip us) → Vals vs us → sp vs H Q E →
    codeAny (model P w) callerA (.call (.ref f) args) (CR CX0 [] P w H s Q E) s
theorem FnG.of {P : Program} {w : World} {K : PySem.W.Frag} {mg : Str → Option Value} {base : Heap} {k : Nat} {f : Addr} {fd : FuncData} {x qual : Str} {st : Stmt} {N ps : List Str} {sp : Sp} (F : Fun K x qual st f fd) (S : FnScope N ps (defScope st))
    (room : Room (k + 1) callerA) (len : ∀ vs H Q E, sp vs H Q E → vs.length = ps.length)
    (body : ∀ (cdv : Value) (s : Shared) (H : Hp) (vs : List V) (Q : VK) (E : XK), Room k (callerA.deeper (envOfC qual (defScope st) s.heap.objs.size f cdv)) → (callerA.deeper (envOfC qual (defScope st) s.heap.objs.size f cdv)).guards = some [] → sp vs H Q E →
      ∃ t, PSs (cxOf CX0 P w K mg base N qual (defScope st) f cdv callerA [] s H E).nox (defBody st) t ∧ t { nx := fun _ H' => Q .non H', rt := Q } (start N vs) H) : FnG P w K mg base f fd ps sp := by
  obtain ⟨oc, od, kV, doc, pm, an, cdv, ct, osl, rfl, lk, hcd⟩ := F.ex
  refine ⟨fun s H args us vs Q E env0 bnd rel hsp => ?_⟩
  have inS : K.In s.heap := env0.mod.kin.keeps fun b o e => (env0.bs b o e).1
  have limS : s.heap.NoLimit := env0.mod.nolimit.keeps fun b o e => (env0.bs b o e).1
  have kinds : ∀ y ∈ ps.zip us, (defScope st).names.lookup y.1 = some .local ∨ ((defScope st).names.lookup y.1 = some .cell ∧ ((cellsFrom (s.heap.objs.size + 1) (defScope st).names []).lookup y.1).isSome = true) := by
    rintro ⟨n, v⟩ hy
    cases S.par n (List.of_mem_zip hy).1 with
    | inl q => exact .inl q
    | inr q => exact .inr ⟨q, PySem.W.cellsFrom_some _ _ _ (.inl q)⟩
  refine codeAny_call_function room.depth (inS _ _ lk) rfl S.co S.gen rfl (PySem.W.codeRec_of inS hcd) (bnd _ _ _ _ ?_)
  refine wpAny_newFunctionEnv_cells S.kind kinds fun env0' he s1 inC => ?_
  subst he
  refine ⟨limS.keeps inC.toInCall.keep, codeAny_func ?_⟩
  obtain ⟨t, ht, hq⟩ := body cdv s H vs Q E (room.deeper _) rfl hsp
  have I0 : Inv (cxOf CX0 P w K mg base N qual (defScope st) f cdv callerA [] s H E) [] (start N vs) H s1 := inv_start S room.hd env0 (len _ _ _ _ hsp) rel inC
  refine wpAny_mono (ht.nox.run [] s1 (start N vs) H _ I0 hq) (fun fl s' hs => ?_) fun _ _ z => z
  cases fl with
  | ret u =>
    obtain ⟨v, σ', H', J, rv, q⟩ := hs
    exact ⟨v, H', J.os, J.bare, J.base, J.hok, rv, q⟩
  | next =>
    obtain ⟨σ', H', J, q⟩ := hs
    exact ⟨.non, H', J.os, J.bare, J.base, J.hok, rfl, q⟩
  | brk => exact False.elim (by obtain ⟨_, _, _, q⟩ := hs; exact q)
  | cont => exact False.elim (by obtain ⟨_, _, _, q⟩ := hs; exact q)
/-- its end: from an abstract heap that holds the script or nothing -/
theorem FnG.ends {P : Program} {w : World} {K : PySem.W.Frag} {mg mb : Str → Option Value} {fa a : Addr} {fd : FuncData} {x : Str} {sp : Sp} {s1 : Shared} {vs : List Value} {ns : List Int}
    (inK : K.In s1.heap) (gl : s1.heap.Ns mainGlobals mg) (bl : s1.heap.Ns builtinsNs mb) (bb : ∀ x : Str, x ≠ "__name__" → mb x = bootBuiltins x) (lim : s1.heap.NoLimit) (gens : s1.gens = #[])
    (hscr : s1.heap.get? a = some { cls := .type "list", data := .seq vs.toArray }) (hin : IntsAre vs ns) (F : ∀ base : Heap, K.In base → base.Ns mainGlobals mg → FnG P w K mg base fa fd [x] sp) (bnd : ∀ (s : Shared) (u : Value), BindsTo s fd ⟨[u], []⟩ [(x, u)])
    {H : Hp} (only : Only H) (hsp : sp [.ref a] H (fun v _ => v = .bl true) fun _ _ _ => False) (hok : HOk P w H s1.heap) (hA : ∀ b, H b ≠ none → b = a) (hK : H a ≠ none → K.lookup a = none) :
    codeAny (model P w) callerA (.call (.ref fa) ⟨[.ref a], []⟩) (fun r s' => r = .ok (.ret (.bool true)) ∧ OldK s1.heap s'.heap ∧ s'.os = s1.os ∧ AllBare s'.gens) s1 := by
  have isA : ∀ {b : Addr} {u : HO}, H b = some u → b = a := fun {b u} q => hA b (by rw [q]; exact Option.some_ne_none _)
  have hid : ∀ {b : Addr} {o : Obj}, s1.heap.get? b = some o → H b = none → (hidT s1.heap H).get? b = some o := fun e n => hidT_get e n
  have dictN : ∀ {b : Addr} {o : Obj} {es : Array DictEntry} {ep : Nat}, s1.heap.get? b = some o → o.data = .dict es ep → H b = none := by
    intro b o es ep e d
    cases q : H b with
    | none => rfl
    | some u =>
      obtain rfl := isA q
      rw [hscr] at e
      cases e
      exact nomatch d
  have nsH : ∀ {b : Addr} {m : Str → Option Value}, s1.heap.Ns b m → (hidT s1.heap H).Ns b m := by
    rintro b m ⟨o, es, ep, e, d, r⟩
    exact ⟨o, es, ep, hid e (dictN e d), d, r⟩
  have inB : K.In (hidT s1.heap H) := by
    intro b o e
    refine hid (inK b o e) ?_
    cases q : H b with
    | none => rfl
    | some u =>
      obtain rfl := isA q
      rw [hK (by rw [q]; exact Option.some_ne_none _)] at e
      cases e
  have limB : (hidT s1.heap H).NoLimit := by
    obtain ⟨mc, h1, h2⟩ := lim
    exact ⟨mc, nsH h1, h2⟩
  have env0 : Env0 P w K mg (hidT s1.heap H) callerA [] s1 H :=
    ⟨rfl, ⟨inB, nsH gl, ⟨mb, nsH bl, bb⟩, limB⟩, fun b o e => of_hidT e, Nat.le_of_eq (hidT_size _ _), trivial, fun b hb => (nomatch (show b ∈ ([] : List Addr) from hb)), hok, .of_eq gens⟩
  refine codeAny_mono ((F _ inB (nsH gl)).run s1 H ⟨[.ref a], []⟩ [.ref a] [.ref a] _ _ env0 (bnd s1 (.ref a)) (.cons rfl .nil) hsp) fun r s' h => ?_
  match r, h with
  | .error _, h => exact False.elim h
  | .ok .next, h => exact False.elim h
  | .ok .brk, h => exact False.elim h
  | .ok .cont, h => exact False.elim h
  | .ok (.ret u), h =>
    obtain ⟨v, H', os, bare, un, hok', rel, q⟩ := h
    obtain rfl : v = .bl true := q
    obtain rfl : u = Value.bool true := rel
    refine ⟨rfl, OldK.of_keep fun b o e => ?_, os, bare⟩
    cases q : H b with
    | none => exact un.keep b o e q (fun z => (nomatch (show b ∈ ([] : List Addr) from z))) (by simp)
    | some u =>
      cases only b with
      | inl z => rw [q] at z; cases z
      | inr z =>
        obtain ⟨ob, xs, z⟩ := z
        have kept := (hok' b _ (un.frzs b ob _ z)).1
        have was := (hok b _ z).1
        rw [e] at was
        cases was
        exact kept
theorem walk_g {l : PySem.W.OpenLaw} {n : Nat} {q : Program} {loose : List Str} {XP : (Str → Option Value) → Heap → Prop} {YP : World → Heap → Prop} {d : DefRec} {K : Params → PySem.W.Frag} {sp : World → Sp} {x : Str}
    (hn : l.most = some n) (hn2 : n ≤ sizeLine) (hdf : d.params.defaults = []) (hY : ∀ (w : World) (h : Heap), YP w h → (K w.params).In h)
    (F : ∀ (w : World) (mg : Str → Option Value) (fa : Addr) (h : Heap), (K w.params).In h → h.Ns mainGlobals mg → mg d.name = some (.ref fa) →
      ∃ fd : FuncData, (∀ (s : Shared) (u : Value), BindsTo s fd ⟨[u], []⟩ [(x, u)]) ∧ ∀ base : Heap, (K w.params).In base → base.Ns mainGlobals mg → FnG l.prog w (K w.params) mg base fa fd [x] (sp w))
    (hsp : ∀ (w : World) (H : Hp) (a : Addr) (ns : List Int), ns.length ≤ n → SqL (K w.params) H a (ns.map V.int) → sp w [.ref a] H (fun v _ => v = .bl true) fun _ _ _ => False) :
    PySem.W.WalkO q loose XP YP l.row.toRowW d [] (fun f vs => PySem.call f vs) := by
  refine Att.attach_call hn hdf fun w s0 s1 mg mb fa o pm cd doc a vs ns G Y ho hd hcd hmg hobj hints hlen hg => ?_
  have inK := hY w _ Y
  obtain ⟨fd, bnd, hF⟩ := F w mg fa _ inK G.T.g hmg
  have szs : ns.length ≤ sizeLine := Nat.le_trans hlen hn2
  have vals := vals_ints hints
  cases hk : (K w.params).lookup a with
  | some ob =>
    have e := inK a ob hk
    rw [hobj] at e
    cases e
    have here : SqL (K w.params) (fun _ => none) a (ns.map V.int) := .inr ⟨_, vs.toArray, _, hk, rfl, rfl, rfl, by rw [List.size_toArray, hints.length]; exact szs, by simpa using vals⟩
    exact FnG.ends inK G.T.g G.T.b G.T.builtins G.T.nolimit hg hobj hints hF bnd (fun _ => .inl rfl) (hsp w _ a ns hlen here) (fun _ _ z => (nomatch z)) (fun b z => absurd rfl z) fun z => absurd rfl z
  | none =>
    have here : SqL (K w.params) (fun b => if b = a then some (.frz { cls := .type "list", data := .seq vs.toArray } (.lst (ns.map V.int))) else none) a (ns.map V.int) := .inl (.inr ⟨_, if_pos rfl⟩)
    refine FnG.ends inK G.T.g G.T.b G.T.builtins G.T.nolimit hg hobj hints hF bnd (fun b => ?_) (hsp w _ a ns hlen here) (fun b u z => ?_) (fun b z => ?_) fun _ => hk
    · exact if h : b = a then .inr ⟨_, _, if_pos h⟩ else .inl (if_neg h)
    · by_cases h : b = a
      · rw [if_pos h] at z
        cases z
        subst h
        exact ⟨hobj, by rw [List.length_map]; exact szs, vs, _, vals, hobj⟩
      · rw [if_neg h] at z
        cases z
    · by_cases h : b = a
      · exact h
      · exact absurd (if_neg h) z
/-! ### data that are small: how much they weigh, how deep they are -/
structure Sm (m k : Nat) (d : PyData) : Prop where
  lay : d.canLay0 = true
  sho : d.showable = true
  ish : d.intsShort 13 = true
  wt : d.weight ≤ m
  dep : d.depth ≤ k
theorem Sm.le {m k m' k' : Nat} {d : PyData} (h : Sm m k d) (hm : m ≤ m') (hk : k ≤ k') : Sm m' k' d := ⟨h.lay, h.sho, h.ish, Nat.le_trans h.wt hm, Nat.le_trans h.dep hk⟩
theorem Sm.non : Sm 0 0 .none := ⟨by simp [PyData.canLay0], by simp [PyData.showable], by simp [PyData.intsShort], by simp [PyData.weight], by simp [PyData.depth]⟩
theorem Sm.bl (b : Bool) : Sm 0 0 (.bool b) := ⟨by simp [PyData.canLay0], by simp [PyData.showable], by simp [PyData.intsShort], by simp [PyData.weight], by simp [PyData.depth]⟩
theorem Sm.int {i : Int} (h0 : -1000000000 < i) (h1 : i < 1000000000) : Sm 64 0 (.int i) := by
  have hb : i.natAbs < 2 ^ 64 := by omega
  have hl : i.natAbs.log2 < 64 := by
    by_cases z : i.natAbs = 0
    · rw [z]
      decide
    · exact (Nat.log2_lt z).mpr hb
  refine ⟨by simp [PyData.canLay0], ?_, ?_, ?_, by simp [PyData.depth]⟩
  · simp only [PyData.showable]
    exact decide_eq_true (by omega)
  · simp only [PyData.intsShort, PyData.shown]
    refine decide_eq_true ?_
    by_cases hn : i < 0
    · rw [len_text_neg hn]
      have := toString_length_le (v := 0 - i) (k := 9) (by omega) (by decide) (by omega)
      omega
    · have := toString_length_le (v := i) (k := 9) (by omega) (by decide) (by omega)
      omega
  · simp only [PyData.weight]
    split <;> omega
theorem Sm.str {x : Str} {n : Nat} (h : PyData.strOk x = true) (hn : x.length ≤ n) : Sm n 0 (.str x) :=
  ⟨by simpa only [PyData.canLay0] using h, by simp [PyData.showable], by simp [PyData.intsShort], by simp only [PyData.weight]; exact hn, by simp [PyData.depth]⟩
structure SmA (n m k : Nat) (ds : List PyData) : Prop where
  lay : PyData.canLayAll0 ds = true
  sho : PyData.showableAll ds = true
  ish : PyData.intsShortAll 13 ds = true
  wt : PyData.weightAll ds ≤ ds.length * (m + 1)
  dep : PyData.depthAll ds ≤ k
theorem SmA.of {m k : Nat} : ∀ {ds : List PyData}, (∀ d ∈ ds, Sm m k d) → SmA ds.length m k ds
  | [], _ => ⟨by simp [PyData.canLayAll0], by simp [PyData.showableAll], by simp [PyData.intsShortAll], by simp [PyData.weightAll], by simp [PyData.depthAll]⟩
  | d :: ds, h => by
    have h1 := h d (List.mem_cons_self ..)
    have h2 := SmA.of (ds := ds) fun x hx => h x (List.mem_cons_of_mem _ hx)
    refine ⟨by simp [PyData.canLayAll0, h1.lay, h2.lay], by simp [PyData.showableAll, h1.sho, h2.sho], by simp [PyData.intsShortAll, h1.ish, h2.ish], ?_, ?_⟩
    · have e1 := h1.wt
      have e2 := h2.wt
      simp only [PyData.weightAll, List.length_cons, Nat.succ_mul]
      omega
    · simp only [PyData.depthAll]
      exact Nat.max_le.mpr ⟨h1.dep, h2.dep⟩
theorem Sm.lst {n m k M : Nat} {ds : List PyData} (hn : ds.length ≤ n) (h : ∀ d ∈ ds, Sm m k d) (hM : n * (m + 1) ≤ M) : Sm M (k + 1) (.list ds) := by
  have a := SmA.of h
  have hw : ds.length * (m + 1) ≤ n * (m + 1) := Nat.mul_le_mul_right _ hn
  exact ⟨by simpa only [PyData.canLay0] using a.lay, by simpa only [PyData.showable] using a.sho, by simpa only [PyData.intsShort] using a.ish, by simp only [PyData.weight]; exact Nat.le_trans a.wt (Nat.le_trans hw hM), by simp only [PyData.depth]; exact Nat.succ_le_succ a.dep⟩
theorem Sm.tup {n m k M : Nat} {ds : List PyData} (hn : ds.length ≤ n) (h : ∀ d ∈ ds, Sm m k d) (hM : n * (m + 1) ≤ M) : Sm M (k + 1) (.tuple ds) := by
  have a := SmA.of h
  have hw : ds.length * (m + 1) ≤ n * (m + 1) := Nat.mul_le_mul_right _ hn
  exact ⟨by simpa only [PyData.canLay0] using a.lay, by simpa only [PyData.showable] using a.sho, by simpa only [PyData.intsShort] using a.ish, by simp only [PyData.weight]; exact Nat.le_trans a.wt (Nat.le_trans hw hM), by simp only [PyData.depth]; exact Nat.succ_le_succ a.dep⟩
theorem Sm.shaped {m k : Nat} {d : PyData} (h : Sm m k d) (hk : k ≤ 50) : SeqAt.shaped d = true := by
  show (d.canLay0 && decide (d.depth ≤ 64)) = true
  rw [h.lay, decide_eq_true (show d.depth ≤ 64 from Nat.le_trans h.dep (by omega))]
  rfl
theorem Sm.short {m k : Nat} {d : PyData} (h : Sm m k d) (hm : m ≤ 1000000) (hk : k ≤ 50) : d.shown.length ≤ sizeLine := by
  have e : PyData.layable0 d = true := by
    show (d.canLay0 && decide (d.depth ≤ 64) && decide (d.weight ≤ 2 ^ 20)) = true
    rw [h.lay, decide_eq_true (show d.depth ≤ 64 from Nat.le_trans h.dep (by omega)), decide_eq_true (show d.weight ≤ 2 ^ 20 from Nat.le_trans h.wt (by omega))]
    rfl
  have := shown_le13 e h.ish
  rw [sizeLine_eq]
  omega
/-! ### repr of data at any depth -/
def rShow (K : PySem.W.Frag) : List V → Hp → VK → Prop := fun xs H Q => ∃ v d m k, xs = [v] ∧ Dp K H v d ∧ Sm m k d ∧ m ≤ 1000000 ∧ k ≤ 50 ∧ Q (.str d.shown) H
theorem call_show (K : PySem.W.Frag) {X : Cx} (hg : X.A.guards = some []) (hu : X.A.units + 64 < cLine) (hK : X.K = K := by rfl) : CallR X (.builtin "repr") (rShow K) := by
  subst hK
  intro pins s σ H xs us Q I r h
  obtain ⟨v, d, m, k, rfl, hd, sh, hm, hk, q⟩ := h
  have hdep := sh.dep
  have hz := sh.short hm hk
  cases hd with
  | non =>
    obtain ⟨u, rfl, rfl⟩ := vals1 r
    exact PySem.P.repr_of_none ⟨.str _, H, I.tok _, ⟨_, rfl⟩, by simpa only [PyData.shown] using q⟩
  | bl b =>
    obtain ⟨u, rfl, rfl⟩ := vals1 r
    refine PySem.P.repr_of_bool ⟨.str _, H, I.tok _, ⟨_, rfl⟩, ?_⟩
    simp only [PyData.shown] at q
    cases b <;> exact q
  | int i =>
    obtain ⟨u, rfl, t, rfl⟩ := vals1 r
    have hi : i.natAbs.log2 < 1920 := by simpa [PyData.showable] using sh.sho
    exact PySem.P.repr_of_int hi ⟨.str _, H, I.tok _, ⟨_, rfl⟩, by simpa only [PyData.shown] using q⟩
  | str x =>
    obtain ⟨u, rfl, t, rfl⟩ := vals1 r
    simp only [PyData.shown] at q hz
    exact PySem.P.repr_of_str ⟨.str _, H, I.tok _, ⟨_, rfl⟩, q⟩ hz
  | @lst a ys ds hs hds =>
    obtain ⟨u, rfl, rfl⟩ := vals1 r
    obtain ⟨as, rd⟩ := Dp.reads I _ _ _ (Dp.lst hs hds) (show RelV (.ref a) (.ref a) from rfl)
    exact PySem.repr_of_reads' rd sh.sho (PyData.noDict_hsm (PyData.hasDict_of_canLay _ sh.lay)) hg (by omega) (fun _ _ e => e) (fun h' u tk keep => ⟨.str _, H, I.kept keep, ⟨_, rfl⟩, q⟩) hz
  | @tup a ys ds hs hds =>
    obtain ⟨u, rfl, rfl⟩ := vals1 r
    obtain ⟨as, rd⟩ := Dp.reads I _ _ _ (Dp.tup hs hds) (show RelV (.ref a) (.ref a) from rfl)
    exact PySem.repr_of_reads' rd sh.sho (PyData.noDict_hsm (PyData.hasDict_of_canLay _ sh.lay)) hg (by omega) (fun _ _ e => e) (fun h' u tk keep => ⟨.str _, H, I.kept keep, ⟨_, rfl⟩, q⟩) hz
/-! ### sorted of data -/
def rSortD (K : PySem.W.Frag) : List V → Hp → VK → Prop := fun vs H Q => ∃ (β : Type) (v : β → V) (d : β → PyData) (a : Addr) (bs : List β), vs = [.ref a] ∧ SqL K H a (bs.map v) ∧ (∀ b ∈ bs, Dp K H (v b) (d b) ∧ (d b).depth ≤ 50) ∧
  PySem.W.AllAlike (bs.map d) ∧ PySem.W.Sortable (bs.map d) ∧ ∀ p, H p = none → Q (.ref p) (upd H p (.lst ((bs.mergeSort (PySem.W.dataLe false d)).map v)))
section
variable {β : Type} {v : β → V} {d : β → PyData}
theorem each_vals : ∀ {bs : List β} {its : List Value}, Vals (bs.map v) its → PySem.W.EachIs (fun (u : Value) (b : β) => RelV (v b) u) its bs
  | [], _, .nil => .nil
  | _ :: _, _, .cons r t => .cons r (each_vals t)
theorem vals_each : ∀ {bs : List β} {its : List Value}, PySem.W.EachIs (fun (u : Value) (b : β) => RelV (v b) u) its bs → Vals (bs.map v) its
  | [], _, .nil => .nil
  | _ :: _, _, .cons r t => .cons r (vals_each t)
theorem each_reads {X : Cx} {pins : List (Addr × Obj)} {σ : L2.St} {H : Hp} {s : Shared} (I : Inv X pins σ H s) : ∀ {bs : List β} {its : List Value}, Vals (bs.map v) its → (∀ b ∈ bs, Dp X.K H (v b) (d b)) → PySem.W.EachIs (fun (u : Value) (b : β) => ∃ as, Reads s.heap u (d b) as) its bs
  | [], _, .nil, _ => .nil
  | b :: _, _, .cons r t, h => .cons (Dp.reads I _ _ _ (h b (List.mem_cons_self ..)) r) (each_reads I t fun x hx => h x (List.mem_cons_of_mem _ hx))
end
theorem cr_sortD (K : PySem.W.Frag) {X : Cx} (hu : X.A.units + 64 < cLine) (hK : X.K = K := by rfl) : CallR X (.builtin "sorted") (rSortD K) := by
  subst hK
  intro pins s σ H vs us Q I r h
  obtain ⟨β, v, d, a, bs, rfl, hs, hd, al, so, q⟩ := h
  obtain ⟨u, rfl, rfl⟩ := vals1 r
  obtain ⟨its, rv, hl, hz⟩ := I.list hs
  rw [List.length_map] at hz
  refine PySem.W.sorted_data (enc := d) (R := fun (u : Value) (b : β) => RelV (v b) u) hl.isList (each_vals rv) (each_reads I rv fun b hb => (hd b hb).1) al so hz (fun b hb => ?_) fun out hlen he => ?_
  · have := (hd b hb).2
    omega
  · obtain ⟨ep, he'⟩ := PyProof.Rows.sortedAll_at s.heap its out.toArray
    have hlen2 : ((bs.mergeSort (PySem.W.dataLe false d)).map v).length ≤ sizeLine := by
      rw [List.length_map, List.length_mergeSort]
      exact hz
    exact ⟨.ref _, upd H (s.heap.objs.size + 1) (.lst ((bs.mergeSort (PySem.W.dataLe false d)).map v)), I.laid (t' := s.toks) (fun _ _ => PyProof.Rows.sortedAll_old) (Nat.le_succ _) ⟨hlen2, out, ep, vals_each he, by simpa using he'⟩, rfl, q _ (I.hok.fresh (Nat.le_succ _))⟩
end Pf


namespace Pf
open PySem PySem.Spec PyProof.Rows L2
/-! ### tuples stay -/
structure TupK (H H' : Hp) : Prop where
  tup : ∀ b xs, H b = some (.tup xs) → H' b = some (.tup xs)
  frz : ∀ b o u, H b = some (.frz o u) → H' b = some (.frz o u)
instance {H H' : Hp} : CoeFun (TupK H H') (fun _ => ∀ b xs, H b = some (.tup xs) → H' b = some (.tup xs)) := ⟨TupK.tup⟩
theorem TupK.refl {H : Hp} : TupK H H := ⟨fun _ _ e => e, fun _ _ _ e => e⟩
theorem TupK.trans {H H1 H2 : Hp} (a : TupK H H1) (b : TupK H1 H2) : TupK H H2 := ⟨fun c xs e => b.tup c xs (a.tup c xs e), fun c o u e => b.frz c o u (a.frz c o u e)⟩
theorem TupK.ext {H H' : Hp} (k : Ext H H') : TupK H H' := ⟨fun b _ e => k b _ e, fun b _ _ e => k b _ e⟩
theorem TupK.new {q : Addr} {H : Hp} {o : HO} (h : H q = none) : TupK H (upd H q o) := TupK.ext (Ext.new h)
theorem TupK.lst {q : Addr} {H : Hp} {o : HO} {ys : List V} (h : H q = some (.lst ys)) : TupK H (upd H q o) := by
  refine ⟨fun b xs e => ?_, fun b o u e => ?_⟩
  · rw [upd_ne (ne_of e h (by intro z; cases z))]
    exact e
  · rw [upd_ne (ne_of e h (by intro z; cases z))]
    exact e
theorem paired_imp {α β : Type} {R S : α → β → Prop} (h : ∀ a b, R a b → S a b) : ∀ {xs : List α} {ys : List β}, Paired R xs ys → Paired S xs ys
  | _, _, .nil => .nil
  | _, _, .cons r t => .cons (h _ _ r) (paired_imp h t)
theorem paired_get {α β : Type} {R : α → β → Prop} : ∀ {xs : List α} {ys : List β} {i : Nat} {x : α}, Paired R xs ys → xs[i]? = some x → ∃ y, ys[i]? = some y ∧ R x y
  | _, _, _, _, .nil, e => by simp at e
  | _, _, 0, _, .cons r _, e => by
    simp at e
    subst e
    exact ⟨_, rfl, r⟩
  | _, _, i + 1, x, .cons _ t, e => by
    obtain ⟨y, h1, h2⟩ := paired_get (i := i) (x := x) t (by simpa using e)
    exact ⟨y, by simpa using h1, h2⟩
theorem paired_len {α β : Type} {R : α → β → Prop} : ∀ {xs : List α} {ys : List β}, Paired R xs ys → xs.length = ys.length
  | _, _, .nil => rfl
  | _, _, .cons _ t => by rw [List.length_cons, List.length_cons, paired_len t]
theorem paired_app {α β : Type} {R : α → β → Prop} : ∀ {xs xs' : List α} {ys ys' : List β}, Paired R xs ys → Paired R xs' ys' → Paired R (xs ++ xs') (ys ++ ys')
  | _, _, _, _, .nil, s => s
  | _, _, _, _, .cons r t, s => .cons r (paired_app t s)
/-! ### things as they lie in the heap -/
def PairAt (H : Hp) (v : V) (x : Str × Int) : Prop := ∃ a, v = .ref a ∧ H a = some (.tup [.str x.1, .int x.2])
def StackAt (H : Hp) (v : V) (x : Str × Str × Int) : Prop := ∃ a, v = .ref a ∧ H a = some (.tup [.str x.1, .str x.2.1, .int x.2.2])
def TwoAt (H : Hp) (v : V) (x : Int × Int) : Prop := ∃ a, v = .ref a ∧ H a = some (.tup [.int x.1, .int x.2])
def TupOf {α : Type} (R : Hp → V → α → Prop) (H : Hp) (v : V) (xs : List α) : Prop := ∃ a vs, v = .ref a ∧ H a = some (.tup vs) ∧ Paired (R H) vs xs
def Mono {α : Type} (R : Hp → V → α → Prop) : Prop := ∀ H H' v x, TupK H H' → R H v x → R H' v x
theorem PairAt.mono : Mono PairAt := fun H H' v x k ⟨a, e, h⟩ => ⟨a, e, k _ _ h⟩
theorem StackAt.mono : Mono StackAt := fun H H' v x k ⟨a, e, h⟩ => ⟨a, e, k _ _ h⟩
theorem TwoAt.mono : Mono TwoAt := fun H H' v x k ⟨a, e, h⟩ => ⟨a, e, k _ _ h⟩
theorem TupOf.mono {α : Type} {R : Hp → V → α → Prop} (m : Mono R) : Mono (TupOf R) := fun H H' v x k ⟨a, vs, e, h, r⟩ => ⟨a, vs, e, k _ _ h, paired_imp (fun _ _ => m _ _ _ _ k) r⟩
/-- a tuple whose object is known to have no dict -/
def FrzOf {α : Type} (R : Hp → V → α → Prop) (H : Hp) (v : V) (xs : List α) : Prop := ∃ (a : Addr) (o : Obj) (vs : List V), v = .ref a ∧ H a = some (.frz o (.tup vs)) ∧ o.dict = none ∧ Paired (R H) vs xs
theorem FrzOf.mono {α : Type} {R : Hp → V → α → Prop} (m : Mono R) : Mono (FrzOf R) := fun H H' v x k ⟨a, o, vs, e, h, hd, r⟩ => ⟨a, o, vs, e, k.frz _ _ _ h, hd, paired_imp (fun _ _ => m _ _ _ _ k) r⟩
theorem SqT.fz {K : PySem.W.Frag} {H : Hp} {a : Addr} {o : Obj} {xs : List V} (h : H a = some (.frz o (.tup xs))) : SqT K H a xs := .inl (.inr ⟨o, h⟩)
def IntAt (_ : Hp) (v : V) (x : Int) : Prop := v = .int x
theorem IntAt.mono : Mono IntAt := fun _ _ _ _ _ e => e
theorem paired_ints {H : Hp} : ∀ ns : List Int, Paired (IntAt H) (ns.map V.int) ns
  | [] => .nil
  | _ :: r => .cons rfl (paired_ints r)
structure Rl where
  letters : Str
  prs : List (Str × Int)
  span : Int
  loops : List Int
  stk : List (Str × Str × Int)
def RulesAt (H : Hp) (v : V) (r : Rl) : Prop := ∃ a vp vl vs, v = .ref a ∧ H a = some (.tup [.str r.letters, vp, .int r.span, vl, vs]) ∧ FrzOf PairAt H vp r.prs ∧ TupOf IntAt H vl r.loops ∧ TupOf StackAt H vs r.stk
theorem RulesAt.mono : Mono RulesAt := fun H H' v x k ⟨a, vp, vl, vs, e, h, h1, h2, h3⟩ => ⟨a, vp, vl, vs, e, k _ _ h, FrzOf.mono PairAt.mono _ _ _ _ k h1, TupOf.mono IntAt.mono _ _ _ _ k h2, TupOf.mono StackAt.mono _ _ _ _ k h3⟩
/-- pairs as a tuple of either make -/
def PrsW (H : Hp) (v : V) (xs : List (Str × Int)) : Prop := ∃ (a : Addr) (vs : List V), v = .ref a ∧ ((∃ o, H a = some (.frz o (.tup vs))) ∨ H a = some (.tup vs)) ∧ Paired (PairAt H) vs xs
theorem PrsW.mono : Mono PrsW := fun H H' v x k ⟨a, vs, e, h, r⟩ => ⟨a, vs, e, h.elim (fun ⟨o, h⟩ => .inl ⟨o, k.frz _ _ _ h⟩) (fun h => .inr (k _ _ h)), paired_imp (fun _ _ => PairAt.mono _ _ _ _ k) r⟩
theorem SqT.w {K : PySem.W.Frag} {H : Hp} {a : Addr} {xs : List V} (h : (∃ o, H a = some (.frz o (.tup xs))) ∨ H a = some (.tup xs)) : SqT K H a xs := h.elim (fun ⟨_, h⟩ => SqT.fz h) (fun h => SqT.of h)
def RulesW (H : Hp) (v : V) (r : Rl) : Prop := ∃ a vp vl vs, v = .ref a ∧ H a = some (.tup [.str r.letters, vp, .int r.span, vl, vs]) ∧ PrsW H vp r.prs ∧ TupOf IntAt H vl r.loops ∧ TupOf StackAt H vs r.stk
theorem RulesW.mono : Mono RulesW := fun H H' v x k ⟨a, vp, vl, vs, e, h, h1, h2, h3⟩ => ⟨a, vp, vl, vs, e, k _ _ h, PrsW.mono _ _ _ _ k h1, TupOf.mono IntAt.mono _ _ _ _ k h2, TupOf.mono StackAt.mono _ _ _ _ k h3⟩
theorem RulesAt.w {H : Hp} {v : V} {r : Rl} (h : RulesAt H v r) : RulesW H v r := by
  obtain ⟨a, vp, vl, vs, e, h, ⟨ap, o, us, e1, h1, _, p⟩, h2, h3⟩ := h
  exact ⟨a, vp, vl, vs, e, h, ⟨ap, us, e1, .inl ⟨o, h1⟩, p⟩, h2, h3⟩
def Two (t : Str) : Prop := t.length = 2 ∧ Small t
structure RlOk (r : Rl) : Prop where
  let6 : r.letters.length ≤ 6
  let1 : 1 ≤ r.letters.length
  small : Small r.letters
  prs : r.prs.length ≤ 12
  pr : ∀ x ∈ r.prs, Two x.1 ∧ -99 ≤ x.2 ∧ x.2 ≤ 99
  sp0 : 0 ≤ r.span
  sp3 : r.span ≤ 3
  lo9 : r.loops.length = 9
  lo : ∀ x ∈ r.loops, -99 ≤ x ∧ x ≤ 99
  stk : r.stk.length ≤ 12
  st : ∀ x ∈ r.stk, Two x.1 ∧ Two x.2.1 ∧ -99 ≤ x.2.2 ∧ x.2.2 ≤ 99
  nd : (r.stk.map fun x => (x.1, x.2.1)).Nodup
  pn : (r.prs.map (·.1)).Nodup
/-! ### a dict by two texts -/
def encE (x : Str × Str × Int) : List Key × V := ([.inr x.1, .inr x.2.1], .int x.2.2)
def putE (es : List (Str × Str × Int)) (a b : Str) (i : Int) : List (Str × Str × Int) :=
  if (es.any fun x => decide (x.1 = a ∧ x.2.1 = b)) = true then es.map (fun x => if x.1 = a ∧ x.2.1 = b then (x.1, x.2.1, i) else x) else es ++ [(a, b, i)]
theorem encE_key (x : Str × Str × Int) (a b : Str) : ((encE x).1 = [Sum.inr a, Sum.inr b]) ↔ (x.1 = a ∧ x.2.1 = b) := by
  unfold encE
  constructor
  · intro h
    injection h with h1 h2
    injection h2 with h3 _
    exact ⟨Sum.inr.inj h1, Sum.inr.inj h3⟩
  · rintro ⟨h1, h2⟩
    rw [h1, h2]
theorem put_enc (es : List (Str × Str × Int)) (a b : Str) (i : Int) : putK (es.map encE) [Sum.inr a, Sum.inr b] (.int i) = (putE es a b i).map encE := by
  have hany : ((es.map encE).any fun kv => decide (kv.1 = [Sum.inr a, Sum.inr b])) = es.any fun x => decide (x.1 = a ∧ x.2.1 = b) := by
    rw [List.any_map]
    congr 1
    funext x
    exact decide_eq_decide.mpr (encE_key x a b)
  unfold putK putE
  rw [hany]
  by_cases h : (es.any fun x => decide (x.1 = a ∧ x.2.1 = b)) = true
  · rw [if_pos h, if_pos h, List.map_map, List.map_map]
    refine List.map_congr_left fun x _ => ?_
    show (if (encE x).1 = [Sum.inr a, Sum.inr b] then ((encE x).1, V.int i) else encE x) = encE (if x.1 = a ∧ x.2.1 = b then (x.1, x.2.1, i) else x)
    by_cases e : x.1 = a ∧ x.2.1 = b
    · rw [if_pos ((encE_key x a b).mpr e), if_pos e]
      rfl
    · rw [if_neg (fun z => e ((encE_key x a b).mp z)), if_neg e]
  · rw [if_neg h, if_neg h, List.map_append]
    rfl
theorem putE_keys (es : List (Str × Str × Int)) (a b : Str) (i : Int) (hn : (es.map fun x => (x.1, x.2.1)).Nodup) : ((putE es a b i).map fun x => (x.1, x.2.1)).Nodup := by
  unfold putE
  split
  · rw [List.map_map]
    have e : ((fun x : Str × Str × Int => (x.1, x.2.1)) ∘ fun x => if x.1 = a ∧ x.2.1 = b then (x.1, x.2.1, i) else x) = fun x => (x.1, x.2.1) := by
      funext x
      show (fun x : Str × Str × Int => (x.1, x.2.1)) (if x.1 = a ∧ x.2.1 = b then (x.1, x.2.1, i) else x) = _
      split <;> rfl
    rw [e]
    exact hn
  · rename_i h
    rw [List.map_append]
    refine List.nodup_append.mpr ⟨hn, by simp, fun x hx y hy e => ?_⟩
    obtain ⟨z, hz, rfl⟩ := List.mem_map.mp hx
    have hy' : y = (a, b) := by simpa using hy
    rw [hy'] at e
    injection e with e1 e2
    exact h (List.any_eq_true.mpr ⟨z, hz, decide_eq_true ⟨e1, e2⟩⟩)
theorem putE_len (es : List (Str × Str × Int)) (a b : Str) (i : Int) : (putE es a b i).length ≤ es.length + 1 := by
  unfold putE
  split
  · rw [List.length_map]
    omega
  · rw [List.length_append]
    exact Nat.le_refl _
theorem putE_all {Pd : Str × Str × Int → Prop} {es : List (Str × Str × Int)} {a b : Str} {i : Int} (h : ∀ x ∈ es, Pd x) (hn : Pd (a, b, i)) : ∀ x ∈ putE es a b i, Pd x := by
  intro x hx
  unfold putE at hx
  split at hx
  · obtain ⟨y, hy, rfl⟩ := List.mem_map.mp hx
    split
    · rename_i e
      rw [e.1, e.2]
      exact hn
    · exact h y hy
  · rcases List.mem_append.mp hx with hx | hx
    · exact h x hx
    · rw [List.mem_singleton.mp hx]
      exact hn
theorem val_enc {es : List (Str × Str × Int)} {a b : Str} {i : Int} (hn : (es.map fun x => (x.1, x.2.1)).Nodup) (h : (a, b, i) ∈ es) : valV (es.map encE) [Sum.inr a, Sum.inr b] = some (.int i) := by
  induction es with
  | nil => cases h
  | cons y r ih =>
    rw [List.map_cons]
    rw [List.map_cons, List.nodup_cons] at hn
    by_cases e : y.1 = a ∧ y.2.1 = b
    · rw [valV_pos ((encE_key y a b).mpr e)]
      rcases List.mem_cons.mp h with z | z
      · rw [← z]
        rfl
      · exact absurd (List.mem_map.mpr ⟨_, z, by rw [e.1, e.2]⟩) hn.1
    · rw [valV_neg (fun z => e ((encE_key y a b).mp z))]
      rcases List.mem_cons.mp h with z | z
      · rw [← z] at e
        exact absurd ⟨rfl, rfl⟩ e
      · exact ih hn.2 z
theorem map_erase {α β : Type} (f : α → β) : ∀ (xs : List α) (k : Nat), (xs.map f).eraseIdx k = (xs.eraseIdx k).map f
  | [], _ => rfl
  | _ :: _, 0 => rfl
  | x :: r, k + 1 => by
    show f x :: (r.map f).eraseIdx k = f x :: (r.eraseIdx k).map f
    rw [map_erase f r k]
theorem dpStrs {K : PySem.W.Frag} {H : Hp} : ∀ us : List Str, DpAll K H (us.map V.str) (us.map PyData.str)
  | [] => .nil
  | _ :: r => .cons (.str _) (dpStrs r)
theorem sm_strs {us : List Str} {n m : Nat} (hn : us.length ≤ n) (h : ∀ t ∈ us, Small t ∧ t.length ≤ m) (hM : n * (m + 1) ≤ 1000000) : Sm 1000000 1 (.list (us.map PyData.str)) := by
  refine Sm.lst (n := n) (m := m) (k := 0) (by rw [List.length_map]; exact hn) (fun d hd => ?_) hM
  obtain ⟨t, ht, rfl⟩ := List.mem_map.mp hd
  exact Sm.str (h t ht).1.ok (h t ht).2
theorem keys_zip {H : Hp} : ∀ {es : List (Str × Str × Int)} {bs : List Addr}, IsKeys H (es.map encE) bs → ∃ bes : List (Addr × (Str × Str × Int)), bes.map (·.1) = bs ∧ bes.map (·.2) = es ∧ ∀ x ∈ bes, H x.1 = some (.tup [.str x.2.1, .str x.2.2.1])
  | [], _, .nil => ⟨[], rfl, rfl, fun x h => by cases h⟩
  | e :: es, b :: bs, .cons r t => by
    obtain ⟨bes, h1, h2, h3⟩ := keys_zip (es := es) t
    refine ⟨(b, e) :: bes, by rw [List.map_cons, h1], by rw [List.map_cons, h2], fun x hx => ?_⟩
    rcases List.mem_cons.mp hx with rfl | hx
    · exact r
    · exact h3 x hx
theorem ixN_in {n : Nat} {i : Int} (h0 : 0 ≤ i) (h1 : i < n) : seqIndex? i n = some i.toNat := by
  refine (ixN_seq ?_).1
  unfold ixN
  rw [if_pos h0, if_pos h1]
end Pf


namespace Pf
open PySem PySem.Spec PyProof.Rows L2
/-! ### enumerate of a text -/
def ItES (x : Str) : It :=
  ⟨fun i _ => i < x.cps.size, fun i H v H' => ∃ T c, v = .ref T ∧ H T = none ∧ H' = upd H T (.tup [.int (i : Nat), .str ⟨#[c]⟩]) ∧ x.cps[i]? = some c, fun i _ => i = x.cps.size⟩
theorem turn_es {P : Program} {w : World} {K : PySem.W.Frag} {elts : List Expr} {kk : Nat} {tpos : Pos} (x : Str) (t : Tok) (e it : Addr) :
    Turn P w K (.Tuple elts kk tpos) (ItES x) [e, it] e (fun i h => (∃ old, IsEnum h e it ((i : Nat) : Int) old) ∧ h.IsStrIter it (strIterType x) x t i ∧ e ≠ it) where
  mem := by simp
  obj := fun i h st b hb => by
    obtain ⟨⟨old, he⟩, ⟨o, ho, hc, hd⟩, _⟩ := st
    have e' : b = e ∨ b = it := by simpa using hb
    cases e' with
    | inl z =>
      rw [z]
      exact ⟨_, he, fun v q => nomatch q⟩
    | inr z =>
      rw [z]
      exact ⟨o, ho, fun v q => by rw [hd] at q; cases q⟩
  keep := fun i h h' st k => by
    obtain ⟨⟨old, he⟩, ⟨o, ho, r⟩, hne⟩ := st
    exact ⟨⟨old, k e (by simp) _ he⟩, ⟨o, k it (by simp) o ho, r⟩, hne⟩
  item := by
    intro X hP hw hK hc i pins s σ H E I hf st hg
    subst hP hw hK
    obtain ⟨⟨old, he⟩, hit, hne⟩ := st
    have hel : e < s.heap.objs.size := Heap.lt_size he
    have hil : it < s.heap.objs.size := by
      obtain ⟨_, q, _⟩ := hit
      exact Heap.lt_size q
    have D := Draws.text (prog := X.prog) (w := X.w) (A := X.A.in1) (show X.A.in1.handled = none from I.ok.hd hc) it x t
    refine wpAny_pyNext_enum_itemD D he hit hg hne (by simpa using hne) fun u h' tk hu ho hit' hT hsz hk => ?_
    obtain ⟨c, t2, hcx, rfl⟩ := hu
    refine ⟨_, rfl, wpAny_letOwnedTupleGo_enum (s := { s with heap := h', toks := tk + 1 }) ho fun h'' he' sb => ?_⟩
    have hT2 := (sb.2 _ (Nat.ne_of_gt hel)).trans hT
    have new : ObjOk X.prog X.w (upd H s.heap.objs.size (.tup [.int (i : Nat), .str ⟨#[c]⟩])) h'' s.heap.objs.size (.tup [.int (i : Nat), .str ⟨#[c]⟩]) :=
      ⟨by show 2 ≤ sizeLine; decide, [.int i tk, .str ⟨#[c]⟩ t2], .cons ⟨_, rfl⟩ (.cons ⟨_, rfl⟩ .nil), ⟨_, hT2, rfl, _, rfl⟩⟩
    have I1 : Inv X pins σ (upd H s.heap.objs.size (.tup [.int (i : Nat), .str ⟨#[c]⟩])) { s with heap := h'', toks := tk + 1 } :=
      I.turnedNew (ch := [e, it]) (fun b ob hb q => (sb.2 b (fun z => hb (by simp [z]))).trans (hk b ob (fun z => hb (by simp [z])) (fun z => hb (by simp [z])) q)) hf (Nat.le_refl _) new
    obtain ⟨oi, hoi, ri⟩ := hit'
    refine ⟨.ref s.heap.objs.size, _, I1, rfl, ⟨_, c, rfl, I.hok.fresh (Nat.le_refl _), rfl, hcx⟩, ⟨⟨.str ⟨#[c]⟩ t2, ?_⟩, ⟨oi, (sb.2 it (Ne.symm hne)).trans hoi, ri⟩, hne⟩, fun b hb => ?_⟩
    · have e1 : ((i + 1 : Nat) : Int) = (i : Int) + 1 := by omega
      rw [e1]
      exact he'
    · have hb' : b < s.heap.objs.size := by
        have e' : b = e ∨ b = it := by simpa using hb
        cases e' with
        | inl z => rw [z]; exact hel
        | inr z => rw [z]; exact hil
      rw [upd_ne (Nat.ne_of_lt hb')]
      exact (hf b hb).1
  done := by
    intro X hP hw hK hc i pins s σ H E I hf st hg
    subst hP hw hK
    obtain ⟨⟨old, he⟩, hit, hne⟩ := st
    have hi : i = x.cps.size := hg
    subst hi
    obtain ⟨f0, f1, f2, f3, f4, f5⟩ := hf it (by simp)
    have D := Draws.text (prog := X.prog) (w := X.w) (A := X.A.in1) (show X.A.in1.handled = none from I.ok.hd hc) it x t
    exact wpAny_pyNext_enum_endD D he hit fun h' eb => ⟨rfl, I.turned (t' := s.toks) (fun b o hb q => eb b o hb q) f0 f1 f3 f4 f5⟩
  self := fun A i s Q E st h => by
    obtain ⟨⟨_, he⟩, _⟩ := st
    exact wpAny_pyIter_enum he h
def iEnumS (ta : TA) : TI := fun σ H R => ta σ H fun vs H1 => ∃ x, vs = [.str x] ∧ R (ItES x) H1
theorem pi_enumS {X : Cx} {e : Expr} {ta : TA} {p pos tpos : Pos} {elts : List Expr} {kk : Nat} (hg : Gl X "enumerate") (hm : X.mg "enumerate" = none) (ha : PA X [e] ta) (hs : starEach [e] X.env = [(false, eval e X.env)] := by rfl) :
    PI X (.Tuple elts kk tpos) (.Call (.Name "enumerate" p) [e] [] pos) (iEnumS ta) := by
  refine ⟨fun pins s σ H R I h => ?_⟩
  refine Call_ (ld_blt I hg hm boot_enumerate (PyProof.Rows.callWith_type1 (thn (ha.run pos pins s σ H _ I h) fun us s1 ⟨vs, H1, I1, r1, q1⟩ => ?_) hs rfl))
  obtain ⟨x, rfl, q⟩ := q1
  obtain ⟨u, rfl, t, rfl⟩ := vals1 r1
  refine call_enumerate_str fun h' he hit hsz hk => wpAny_pyIter_enum he ?_
  refine ⟨s1.heap.objs.size + 1, [s1.heap.objs.size + 1, s1.heap.objs.size], _, _, H1, rfl, I1.kept (t' := s1.toks) hk, turn_es x t (s1.heap.objs.size + 1) s1.heap.objs.size, ⟨⟨.none, he⟩, hit, Nat.succ_ne_self _⟩, fun b hb => ?_, q⟩
  have e' : b = s1.heap.objs.size + 1 ∨ b = s1.heap.objs.size := by simpa using hb
  have hle : s1.heap.objs.size ≤ b := by
    cases e' with
    | inl z => rw [z]; exact Nat.le_add_right _ _
    | inr z => rw [z]; exact Nat.le_refl _
  exact I1.fpOk hle (I1.hok.fresh hle)
theorem for_es {x : Str} {g : TG} {tb : TS} {D : Ends} {σ : L2.St} {H : Hp} (Pv : Nat → L2.St → Hp → Prop) (h0 : Pv 0 σ H)
    (hs : ∀ i c T σ H, x.cps[i]? = some c → Pv i σ H → H T = none → g (.ref T) σ (upd H T (.tup [.int (i : Nat), .str ⟨#[c]⟩])) fun σ2 H2 => tb { D with nx := Pv (i + 1), ct := Pv (i + 1), bk := D.nx } σ2 H2) (hd : ∀ σ H, Pv x.cps.size σ H → D.nx σ H) :
    ∃ W : Nat → Nat → L2.St → Hp → Prop, (∃ m, W 0 m σ H) ∧ ∀ i m σ H, W i m σ H →
      ((ItES x).stop i H ∧ D.nx σ H) ∨ ((ItES x).go i H ∧ ∃ N : L2.St → Hp → Prop, (∀ σ' H', N σ' H' → ∃ m', m' < m ∧ W (i + 1) m' σ' H') ∧ ∀ y H', (ItES x).yld i H y H' → g y σ H' fun σ2 H2 => tb { D with nx := N, ct := N, bk := D.nx } σ2 H2) := by
  refine ⟨fun i m σ H => m = x.cps.size - i ∧ i ≤ x.cps.size ∧ Pv i σ H, ⟨x.cps.size, by simp, Nat.zero_le _, h0⟩, ?_⟩
  rintro i m σ H ⟨rfl, hi, p⟩
  by_cases hlt : i < x.cps.size
  · refine .inr ⟨hlt, Pv (i + 1), fun σ' H' p' => ⟨x.cps.size - (i + 1), by omega, rfl, hlt, p'⟩, fun y H' z => ?_⟩
    obtain ⟨T, c, rfl, hT, rfl, hc⟩ := z
    exact hs i c T σ _ hc p hT
  · have e : i = x.cps.size := by omega
    subst e
    exact .inl ⟨rfl, hd σ H p⟩
theorem lc_es {x : Str} {g : TG} {tt : TT} {te : TE} {vs : List Nat} {σ : L2.St} {H1 : Hp} {D : Addr} {Qd : Hp → Prop} (Pv : Nat → Hp → Prop) (h0 : Pv 0 (upd H1 D (.lst [])))
    (hs : ∀ i c T H, x.cps[i]? = some c → Pv i H → H T = none → g (.ref T) (wipe σ vs) (upd H T (.tup [.int (i : Nat), .str ⟨#[c]⟩])) fun σ2 H2 => wipe σ2 vs = wipe σ vs ∧ tt σ2 H2 fun b H3 =>
      if b = true then te σ2 H3 fun y H4 => ∃ acc, H4 D = some (.lst acc) ∧ acc.length < sizeLine ∧ Pv (i + 1) (upd H4 D (.lst (acc ++ [y]))) else Pv (i + 1) H3) (hd : ∀ H, Pv x.cps.size H → Qd H) :
    ∃ W : Nat → Nat → Hp → Prop, (∃ m, W 0 m (upd H1 D (.lst []))) ∧ ∀ i m H, W i m H →
      ((ItES x).stop i H ∧ Qd H) ∨ ((ItES x).go i H ∧ ∃ Nx : Hp → Prop, (∀ H', Nx H' → ∃ m', m' < m ∧ W (i + 1) m' H') ∧ ∀ y H', (ItES x).yld i H y H' → g y (wipe σ vs) H' fun σ2 H2 => wipe σ2 vs = wipe σ vs ∧ tt σ2 H2 fun b H3 =>
        if b = true then te σ2 H3 fun y H4 => ∃ acc, H4 D = some (.lst acc) ∧ acc.length < sizeLine ∧ Nx (upd H4 D (.lst (acc ++ [y]))) else Nx H3) := by
  refine ⟨fun i m H => m = x.cps.size - i ∧ i ≤ x.cps.size ∧ Pv i H, ⟨x.cps.size, by simp, Nat.zero_le _, h0⟩, ?_⟩
  rintro i m H ⟨rfl, hi, p⟩
  by_cases hlt : i < x.cps.size
  · refine .inr ⟨hlt, Pv (i + 1), fun H' p' => ⟨x.cps.size - (i + 1), by omega, rfl, hlt, p'⟩, fun y H' z => ?_⟩
    obtain ⟨T, c, rfl, hT, rfl, hc⟩ := z
    exact hs i c T _ hc p hT
  · have e : i = x.cps.size := by omega
    subst e
    exact .inl ⟨rfl, hd H p⟩
/-! ### a text backwards: some text, no longer -/
def tRevS (te : TE) : TE := fun σ H Q => te σ H fun x H1 => ∃ z : Str, x = .str z ∧ z.length ≤ sizeLine ∧ ∀ y : Str, y.length ≤ z.length → (∀ c ∈ y.cps.toList, c ∈ z.cps.toList) → Q (.str y) H1
theorem sliceBy_mem (x : Str) (l u : Option (Int × Tok)) (st : Int × Tok) : ∀ c ∈ (Txt.sliceBy x l u st).cps.toList, c ∈ x.cps.toList := by
  intro c hc
  unfold Txt.sliceBy at hc
  split at hc
  · exact hc
  · have hc : c ∈ List.filterMap (x.cps[·]?) _ := hc
    obtain ⟨i, _, hi⟩ := List.mem_filterMap.mp hc
    exact Array.mem_toList_iff.mpr (Array.mem_of_getElem? hi)
theorem pe_revS {X : Cx} {e : Expr} {te : TE} {k : Nat} {p1 p2 p3 pos : Pos} (he : PE X e te) : PE X (.Subscript e (.Slice none none (some (.UnaryOp .USub (.Constant (.int 1) k p1) p2)) p3) pos) (tRevS te) := by
  refine ⟨fun pins s σ H Q I h => ?_⟩
  refine Subscript_ (thn (he.run pins s σ H _ I h) fun v s1 ⟨x, H1, I1, r1, q1⟩ => ?_)
  obtain ⟨z, rfl, hz, q⟩ := q1
  obtain ⟨t, rfl⟩ := r1
  have hst : PO X (some (.UnaryOp .USub (.Constant (.int 1) k p1) p2)) (tPart (tUn (rU fun i => .int (-i)) (tC (.int 1)))) := po_some (pe_un un_neg pe_int)
  refine wpAny_Slice (thn (po_none.run pins s1 σ H1 (fun o H2 => o = none ∧ H2 = H1) I1 ⟨rfl, rfl⟩) fun vl s2 ⟨l, H2, I2, pl, el, e2⟩ => ?_)
  subst el e2
  refine thn (po_none.run pins s2 σ H2 (fun o H3 => o = none ∧ H3 = H2) I2 ⟨rfl, rfl⟩) fun vu s3 ⟨u, H3, I3, pu, eu, e3⟩ => ?_
  subst eu e3
  refine thn (hst.run pins s3 σ H3 (fun o H4 => o = some (-1) ∧ H4 = H3) I3 ⟨1, rfl, -1, rfl, rfl, rfl⟩) fun vs s4 ⟨o, H4, I4, ps, eo, e4⟩ => ?_
  subst eo e4
  cases pl
  cases pu
  cases ps with
  | int i t5 =>
    refine tail_any (ops := [.str z t, .ref s4.heap.objs.size]) (typeIs_str _ _ _) (PySem.F.slot_str_getitem.lookup) ?_ (by with_unfolding_all rfl)
    refine wpAny_getItem_str_slice (l := none) (u := none) (st := some (-1, t5)) ⟨_, Heap.get?_push_size _ rfl, rfl, rfl⟩ rfl ?_
    refine post_val_or_str ⟨Nat.le_trans (Txt.sliceBy_le z none none (-1, t5) (show (-1 : Int) ≠ 0 by decide)) hz, fun t6 tk => ?_⟩
    exact ⟨.str _, H4, (I4.kept (t' := tk) fun b ob q => Heap.get?_push_of_some _ q), ⟨_, rfl⟩, q _ (Txt.sliceBy_le z none none (-1, t5) (show (-1 : Int) ≠ 0 by decide)) (sliceBy_mem z none none (-1, t5))⟩
end Pf


namespace Pf
open PySem PySem.Spec PyProof.Rows L2
/-! ### enumerate of a tuple -/
abbrev EnO (a : Addr) : Obj := { cls := .type "enumerate", data := .fields #[.none, .bool false, .ref a, rawInt 0, .none, .none] }
theorem meets_en1 {u : Value} {ob : Obj} {G : Heap → Prop} (B : Begins u ob G) : Meets (Builtin.«enumerate.__new__» ⟨[.type "enumerate", u], []⟩) (fun _ R s => G s.heap ∧ R (.ok (.ret (.ref (s.heap.push ob).objs.size))) { s with heap := (s.heap.push ob).push (EnO s.heap.objs.size) }) :=
  .of_wp fun prog w A R s z => by
    obtain ⟨hp, g, d, tk, os⟩ := s
    obtain ⟨z1, z⟩ := z
    have hse := sub_enumerate
    have q : ∀ {A' : Around} {E : Value → Shared → Prop} {Q : Value → Shared → Prop}, Q (.ref hp.objs.size) ⟨hp.push ob, g, d, tk, os⟩ → wpAny (model prog w) A' (pyIter u) Q E ⟨hp, g, d, tk, os⟩ := fun r => B.iter prog w _ _ ⟨hp, g, d, tk, os⟩ _ z1 r
    wp_walk using q
    refine wpAny_stack_any fun sk => wpAny_pure ?_
    split
    · rename_i c _ _ _ _ _
      cases ec : (c == Value.type "enumerate")
      · wp_walk using q
        exact ⟨_, rfl, z⟩
      · wp_walk using q
        exact ⟨_, rfl, z⟩
    · wp_walk using q
      exact ⟨_, rfl, z⟩
theorem en1_begins {P : Program} {w : World} {A : Around} {E : Value → Shared → Prop} {s : Shared} {u : Value} {ob : Obj} {G : Heap → Prop} {Q : Value → Shared → Prop} (B : Begins u ob G) (z1 : G s.heap)
    (z : ∀ h', IsEnum h' (s.heap.objs.size + 1) s.heap.objs.size 0 .none → h'.get? s.heap.objs.size = some ob → h'.objs.size = s.heap.objs.size + 2 → (∀ b o, s.heap.get? b = some o → h'.get? b = some o) → Q (.ref (s.heap.objs.size + 1)) { s with heap := h' }) :
    wpAny (model P w) A (call (.type "enumerate") [u]) Q E s := by
  refine callType_new F.called_enumerate (by decide) (F.typeCall_enumerate_1 _) (F.newCall_enumerate_1 _) (fun obj => F.args_object_init_2 obj _) F.entry_enumerate_new (meets_en1 B) ⟨z1, ?_⟩
  have e1 : (s.heap.push ob).objs.size = s.heap.objs.size + 1 := Heap.size_push ..
  show _ ∧ _
  rw [e1]
  have hen : IsEnum ((s.heap.push ob).push (EnO s.heap.objs.size)) (s.heap.objs.size + 1) s.heap.objs.size 0 .none := by
    have := Heap.get?_push_size (s.heap.push ob) (o := EnO s.heap.objs.size) rfl
    rw [e1] at this
    exact this
  exact ⟨⟨_, hen, rfl⟩, z _ hen (Heap.get?_push_of_some _ (Heap.get?_push_size _ B.free)) (by rw [Heap.size_push, e1]) fun b o y => Heap.get?_push_of_some _ (Heap.get?_push_of_some _ y)⟩
def ItET (K : PySem.W.Frag) (a : Addr) : It :=
  ⟨fun i H => ∃ (xs : List V) (x : V), SqT K H a xs ∧ xs[i]? = some x, fun i H v H' => ∃ T x, v = .ref T ∧ H T = none ∧ H' = upd H T (.tup [.int (i : Nat), x]) ∧ ∀ xs, SqT K H a xs → xs[i]? = some x, fun i H => ∃ xs : List V, SqT K H a xs ∧ xs.length = i⟩
theorem turn_et {P : Program} {w : World} {K : PySem.W.Frag} {elts : List Expr} {kk : Nat} {tpos : Pos} (a e it : Addr) :
    Turn P w K (.Tuple elts kk tpos) (ItET K a) [e, it] e (fun i h => (∃ old, IsEnum h e it ((i : Nat) : Int) old) ∧ h.IsTupleIter it a i ∧ e ≠ it ∧ e ≠ a ∧ a ≠ it) where
  mem := by simp
  obj := fun i h st b hb => by
    obtain ⟨⟨old, he⟩, ⟨o, ho, hc, hd⟩, _⟩ := st
    have e' : b = e ∨ b = it := by simpa using hb
    cases e' with
    | inl z =>
      rw [z]
      exact ⟨_, he, fun v q => nomatch q⟩
    | inr z =>
      rw [z]
      exact ⟨o, ho, fun v q => by rw [hd] at q; cases q⟩
  keep := fun i h h' st k => by
    obtain ⟨⟨old, he⟩, ⟨o, ho, r⟩, hne⟩ := st
    exact ⟨⟨old, k e (by simp) _ he⟩, ⟨o, k it (by simp) o ho, r⟩, hne⟩
  item := by
    intro X hP hw hK hc i pins s σ H E I hf st hg
    subst hP hw hK
    obtain ⟨⟨old, he⟩, hit, hne, hea, hai⟩ := st
    obtain ⟨xs, x, hq, hx⟩ := hg
    obtain ⟨its, rv, pt, hz⟩ := I.tuple hq
    obtain ⟨u, hu, ru⟩ := rv.get hx
    have hel : e < s.heap.objs.size := Heap.lt_size he
    have hil : it < s.heap.objs.size := by
      obtain ⟨_, q, _⟩ := hit
      exact Heap.lt_size q
    have hti : s.heap.IsTuple a its.toArray := pt
    have D := Draws.tuple (prog := X.prog) (w := X.w) (A := X.A.in1) (show X.A.in1.handled = none from I.ok.hd hc) it a hai its.toArray
    refine wpAny_pyNext_enum_itemD D he ⟨hit, hti⟩ (by have := (List.getElem?_eq_some_iff.mp hu).1; simpa using this) hne (by simp [hne, hea]) fun y h' tk hy ho hit' hT hsz hk => ?_
    have ey : y = u := by
      have h2 : its[i]? = some y := by simpa using hy
      rw [hu] at h2
      exact (Option.some.inj h2).symm
    subst ey
    refine ⟨_, rfl, wpAny_letOwnedTupleGo_enum (s := { s with heap := h', toks := tk + 1 }) ho fun h'' he' sb => ?_⟩
    have hT2 := (sb.2 _ (Nat.ne_of_gt hel)).trans hT
    have new : ObjOk X.prog X.w (upd H s.heap.objs.size (.tup [.int (i : Nat), x])) h'' s.heap.objs.size (.tup [.int (i : Nat), x]) :=
      ⟨by show 2 ≤ sizeLine; decide, [.int i tk, y], .cons ⟨_, rfl⟩ (.cons ru .nil), ⟨_, hT2, rfl, _, rfl⟩⟩
    have I1 : Inv X pins σ (upd H s.heap.objs.size (.tup [.int (i : Nat), x])) { s with heap := h'', toks := tk + 1 } :=
      I.turnedNew (ch := [e, it]) (fun b ob hb q => (sb.2 b (fun z => hb (by simp [z]))).trans (hk b ob (fun z => hb (by simp [z])) (fun z => hb (by simp [z])) q)) hf (Nat.le_refl _) new
    obtain ⟨oi, hoi, ri⟩ := hit'.1
    refine ⟨.ref s.heap.objs.size, _, I1, rfl, ⟨_, x, rfl, I.hok.fresh (Nat.le_refl _), rfl, fun ys hy => by rw [I.tuple_inj hy hq]; exact hx⟩, ⟨⟨y, ?_⟩, ⟨oi, (sb.2 it (Ne.symm hne)).trans hoi, ri⟩, hne, hea, hai⟩, fun b hb => ?_⟩
    · have e1 : ((i + 1 : Nat) : Int) = (i : Int) + 1 := by omega
      rw [e1]
      exact he'
    · have hb' : b < s.heap.objs.size := by
        have e' : b = e ∨ b = it := by simpa using hb
        cases e' with
        | inl z => rw [z]; exact hel
        | inr z => rw [z]; exact hil
      rw [upd_ne (Nat.ne_of_lt hb')]
      exact (hf b hb).1
  done := by
    intro X hP hw hK hc i pins s σ H E I hf st hg
    subst hP hw hK
    obtain ⟨⟨old, he⟩, hit, hne, hea, hai⟩ := st
    obtain ⟨xs, hq, hx⟩ := hg
    obtain ⟨its, rv, pt, hz⟩ := I.tuple hq
    have hln := rv.length
    obtain ⟨f0, f1, f2, f3, f4, f5⟩ := hf it (by simp)
    have hti : s.heap.IsTuple a its.toArray := pt
    have D := Draws.tuple (prog := X.prog) (w := X.w) (A := X.A.in1) (show X.A.in1.handled = none from I.ok.hd hc) it a hai its.toArray
    have ei : its.toArray.size = i := by
      rw [List.size_toArray]
      omega
    exact wpAny_pyNext_enum_endD D he ⟨by rw [ei]; exact hit, hti⟩ fun h' eb => ⟨rfl, I.turned (t' := s.toks) (fun b o hb q => eb b o hb q) f0 f1 f3 f4 f5⟩
  self := fun A i s Q E st h => by
    obtain ⟨⟨_, he⟩, _⟩ := st
    exact wpAny_pyIter_enum he h
def iEnumT (K : PySem.W.Frag) (ta : TA) : TI := fun σ H R => ta σ H fun vs H1 => ∃ a xs, vs = [.ref a] ∧ SqT K H1 a xs ∧ R (ItET K a) H1
theorem pi_enumT {X : Cx} {e : Expr} {ta : TA} {p pos tpos : Pos} {elts : List Expr} {kk : Nat} (hg : Gl X "enumerate") (hm : X.mg "enumerate" = none) (ha : PA X [e] ta) (hs : starEach [e] X.env = [(false, eval e X.env)] := by rfl) :
    PI X (.Tuple elts kk tpos) (.Call (.Name "enumerate" p) [e] [] pos) (iEnumT X.K ta) := by
  refine ⟨fun pins s σ H R I h => ?_⟩
  refine Call_ (ld_blt I hg hm boot_enumerate (PyProof.Rows.callWith_type1 (thn (ha.run pos pins s σ H _ I h) fun us s1 ⟨vs, H1, I1, r1, q1⟩ => ?_) hs rfl))
  obtain ⟨a, xs, rfl, hq, q⟩ := q1
  obtain ⟨u, rfl, er⟩ := vals1 r1
  cases er
  obtain ⟨its, rv, pt, hz⟩ := I1.tuple hq
  have hti : s1.heap.IsTuple a its.toArray := pt
  have hal : a < s1.heap.objs.size := by
    obtain ⟨_, q, _⟩ := hti
    exact Heap.lt_size q
  refine en1_begins (begins_tuple a its.toArray) hti fun h' he hit hsz hk => wpAny_pyIter_enum he ?_
  refine ⟨s1.heap.objs.size + 1, [s1.heap.objs.size + 1, s1.heap.objs.size], _, _, H1, rfl, I1.kept (t' := s1.toks) hk, turn_et a (s1.heap.objs.size + 1) s1.heap.objs.size, ⟨⟨.none, he⟩, ⟨_, hit, rfl, rfl⟩, Nat.succ_ne_self _, Nat.ne_of_gt (Nat.lt_succ_of_lt hal), Nat.ne_of_lt hal⟩, fun b hb => ?_, q⟩
  have e' : b = s1.heap.objs.size + 1 ∨ b = s1.heap.objs.size := by simpa using hb
  have hle : s1.heap.objs.size ≤ b := by
    cases e' with
    | inl z => rw [z]; exact Nat.le_add_right _ _
    | inr z => rw [z]; exact Nat.le_refl _
  exact I1.fpOk hle (I1.hok.fresh hle)
theorem walk_et {K : PySem.W.Frag} {a : Addr} {xs : List V} : Walk (ItET K a) xs.length (fun H => SqT K H a xs) (YPair (fun i => some (.int (i : Nat))) (fun i => xs[i]?)) :=
  ⟨fun i H hi q => ⟨xs, _, q, List.getElem?_eq_getElem hi⟩, fun H q => ⟨xs, q, rfl⟩, fun i H x H' hi q ⟨T, y, e1, e2, e3, e4⟩ => ⟨T, _, y, e1, e2, e3, rfl, e4 xs q⟩⟩
theorem walk_zt {K : PySem.W.Frag} {a b : Addr} {xs ys : List V} {n : Nat} (hn : n = min xs.length ys.length) : Walk (RZ.ItzT K a b) n (fun H => SqT K H a xs ∧ SqT K H b ys) (YPair (fun i => xs[i]?) (fun i => ys[i]?)) := by
  subst hn
  refine ⟨fun i H hi q => ⟨xs, ys, _, _, q.1, q.2, List.getElem?_eq_getElem (by omega), List.getElem?_eq_getElem (by omega)⟩, fun H q => ⟨xs, ys, q.1, q.2, by omega⟩, fun i H x H' hi q ⟨T, y, z, e1, e2, e3, e4, e5⟩ => ⟨T, y, z, e1, e2, e3, e4 xs q.1, e5 ys q.2⟩⟩
/-! ### two fors in a comprehension -/
def LcIn (J1 : It) (g1 : TG) (tt1 : TT) (te : TE) (vs1 : List Nat) (σ2 : L2.St) (D : Addr) (H4 : Hp) (Nx : Hp → Prop) : Prop := ∃ W1 : Nat → Nat → Hp → Prop, (∃ m, W1 0 m H4) ∧ ∀ j k H, W1 j k H →
  (J1.stop j H ∧ Nx H) ∨ (J1.go j H ∧ ∃ Nx1 : Hp → Prop, (∀ H', Nx1 H' → ∃ k', k' < k ∧ W1 (j + 1) k' H') ∧ ∀ x H', J1.yld j H x H' → g1 x (wipe σ2 vs1) H' fun σ3 H5 => wipe σ3 vs1 = wipe σ2 vs1 ∧ tt1 σ3 H5 fun b H6 => if b = true then te σ3 H6 fun y H7 => ∃ acc, H7 D = some (.lst acc) ∧ acc.length < sizeLine ∧ Nx1 (upd H7 D (.lst (acc ++ [y]))) else Nx1 H6)
theorem lc_in {J1 : It} {n : Nat} {G : Hp → Prop} {Y : Nat → Hp → V → Hp → Prop} (w : Walk J1 n G Y) {g1 : TG} {tt1 : TT} {te : TE} {vs1 : List Nat} {σ2 : L2.St} {D : Addr} {H4 : Hp} {Nx : Hp → Prop} (Pv : Nat → Hp → Prop) (h0 : Pv 0 H4) (hG : ∀ i H, i ≤ n → Pv i H → G H)
    (hs : ∀ i x H H', i < n → Pv i H → Y i H x H' → g1 x (wipe σ2 vs1) H' fun σ3 H5 => wipe σ3 vs1 = wipe σ2 vs1 ∧ tt1 σ3 H5 fun b H6 => if b = true then te σ3 H6 fun y H7 => ∃ acc, H7 D = some (.lst acc) ∧ acc.length < sizeLine ∧ Pv (i + 1) (upd H7 D (.lst (acc ++ [y]))) else Pv (i + 1) H6)
    (hd : ∀ H, Pv n H → Nx H) : LcIn J1 g1 tt1 te vs1 σ2 D H4 Nx := by
  refine ⟨fun i m H => m = n - i ∧ i ≤ n ∧ Pv i H, ⟨n, rfl, Nat.zero_le _, h0⟩, ?_⟩
  rintro i m H ⟨rfl, hi, pv⟩
  have hq := hG i H hi pv
  by_cases hlt : i < n
  · exact .inr ⟨w.goes i H hlt hq, Pv (i + 1), fun H' p' => ⟨n - (i + 1), by omega, rfl, hlt, p'⟩, fun x H' y => hs i x H H' hlt pv (w.yields i H x H' hlt hq y)⟩
  · obtain rfl : i = n := by omega
    exact .inl ⟨w.stops H hq, hd H pv⟩
theorem lc_two {J : It} {n : Nat} {G : Hp → Prop} {Y : Nat → Hp → V → Hp → Prop} (w : Walk J n G Y) {g : TG} {tt : TT} {wi1 : TI} {g1 : TG} {tt1 : TT} {te : TE} {vs vs1 : List Nat} {σ : L2.St} {H1 : Hp} {D : Addr} {Qd : Hp → Prop} (Pv : Nat → Hp → Prop) (h0 : Pv 0 (upd H1 D (.lst []))) (hG : ∀ i H, i ≤ n → Pv i H → G H)
    (hs : ∀ i x H H', i < n → Pv i H → Y i H x H' → g x (wipe σ vs) H' fun σ2 H2 => wipe σ2 vs = wipe σ vs ∧ tt σ2 H2 fun b H3 => if b = true then wi1 σ2 H3 fun J1 H4 => LcIn J1 g1 tt1 te vs1 σ2 D H4 (Pv (i + 1)) else Pv (i + 1) H3)
    (hd : ∀ H, Pv n H → Qd H) :
    ∃ W : Nat → Nat → Hp → Prop, (∃ m, W 0 m (upd H1 D (.lst []))) ∧ ∀ i m H, W i m H → (J.stop i H ∧ Qd H) ∨ (J.go i H ∧ ∃ Nx : Hp → Prop, (∀ H', Nx H' → ∃ m', m' < m ∧ W (i + 1) m' H') ∧ ∀ x H', J.yld i H x H' → g x (wipe σ vs) H' fun σ2 H2 => wipe σ2 vs = wipe σ vs ∧ tt σ2 H2 fun b H3 =>
      if b = true then wi1 σ2 H3 fun J1 H4 => LcIn J1 g1 tt1 te vs1 σ2 D H4 Nx else Nx H3) := by
  refine ⟨fun i m H => m = n - i ∧ i ≤ n ∧ Pv i H, ⟨n, rfl, Nat.zero_le _, h0⟩, ?_⟩
  rintro i m H ⟨rfl, hi, pv⟩
  have hq := hG i H hi pv
  by_cases hlt : i < n
  · exact .inr ⟨w.goes i H hlt hq, Pv (i + 1), fun H' p' => ⟨n - (i + 1), by omega, rfl, hlt, p'⟩, fun x H' y => hs i x H H' hlt pv (w.yields i H x H' hlt hq y)⟩
  · obtain rfl : i = n := by omega
    exact .inl ⟨w.stops H hq, hd H pv⟩
/-! ### tuples of numbers compared; truths by identity -/
theorem ltT (K : PySem.W.Frag) {X : Cx} (hu : X.A.units < cLine) (h : X.K = K := by rfl) : OpR X (compareOp .Lt) (rLtT K) := h ▸ op_ltT hu
theorem lex2 (a b c d : Int) : HT.lexLt [a, b] [c, d] = decide (a < c ∨ (a = c ∧ b < d)) := by
  rw [HT.lexLt_cons, HT.lexLt_cons, HT.lexLt_nil_nil]
  by_cases e : a = c
  · rw [if_pos e]
    by_cases e2 : b = d
    · rw [if_pos e2]
      exact (decide_eq_false (by omega)).symm
    · rw [if_neg e2]
      exact decide_eq_decide.mpr (by omega)
  · rw [if_neg e]
    exact decide_eq_decide.mpr (by omega)
/-! ### parts of tuples -/
theorem piT (K : PySem.W.Frag) {X : Cx} {tg l : Expr} {tl : TE} (hl : PE X l tl) (h : X.K = K := by rfl) : PI X tg l (iTup K tl) := by
  subst h
  exact pi_tup hl
theorem piL (K : PySem.W.Frag) {X : Cx} {tg l : Expr} {tl : TE} (hl : PE X l tl) (h : X.K = K := by rfl) : PI X tg l (iList K tl) := by
  subst h
  exact pi_list hl
/-- a part of a tuple: the same one, or another -/
def rSlE (K : PySem.W.Frag) : V → Option Int → Option Int → Hp → VK → Prop := fun x lo hi H Q => ∃ a xs, x = .ref a ∧ H a = some (.tup xs) ∧ ∀ p H', Ext H H' → H' p = some (.tup (cutV xs lo hi)) → Q (.ref p) H'
theorem slE (K : PySem.W.Frag) {X : Cx} (h : X.K = K := by rfl) : SlR X (rSlE K) := fun pins s σ H x v vl vu lo hi sl Q I rx hs pl pu ⟨a, xs, ex, ha, q⟩ => by
  refine slA K h pins s σ H x v vl vu lo hi sl Q I rx hs pl pu ⟨a, xs, ex, SqT.of ha, fun z => ?_, fun _ p hp => q p _ (Ext.new hp) upd_same⟩
  refine q a H Ext.refl ?_
  have e : cutV xs lo hi = xs := by
    unfold cutV
    rw [z.1, z.2, List.drop_zero, Nat.sub_zero, List.take_length]
  rw [e]
  exact ha
theorem cut_from {xs : List V} {k : Nat} : cutV xs (some (k : Int)) none = xs.drop k := by
  unfold cutV
  have e1 : HT.sIx xs.length 0 (some (k : Int)) = min k xs.length := HT.sIx_nat _ _ _
  have e2 : HT.sIx xs.length xs.length none = xs.length := rfl
  rw [e1, e2, List.take_of_length_le (by rw [List.length_drop]; omega)]
  by_cases h : k ≤ xs.length
  · rw [Nat.min_eq_left h]
  · rw [Nat.min_eq_right (by omega), List.drop_length, List.drop_eq_nil_of_le (by omega)]
theorem cut_to {xs : List V} {k : Nat} : cutV xs none (some (k : Int)) = xs.take k := by
  unfold cutV
  have e1 : HT.sIx xs.length 0 none = 0 := rfl
  have e2 : HT.sIx xs.length xs.length (some (k : Int)) = min k xs.length := HT.sIx_nat _ _ _
  rw [e1, e2, List.drop_zero, Nat.sub_zero]
  by_cases h : k ≤ xs.length
  · rw [Nat.min_eq_left h]
  · rw [Nat.min_eq_right (by omega), List.take_length, List.take_of_length_le (by omega)]
theorem paired_take {α β : Type} {R : α → β → Prop} : ∀ {xs : List α} {ys : List β} (k : Nat), Paired R xs ys → Paired R (xs.take k) (ys.take k)
  | _, _, 0, _ => by rw [List.take_zero, List.take_zero]; exact .nil
  | _, _, k + 1, .nil => by rw [List.take_nil, List.take_nil]; exact .nil
  | _, _, k + 1, .cons r t => by rw [List.take_succ_cons, List.take_succ_cons]; exact .cons r (paired_take k t)
theorem paired_drop {α β : Type} {R : α → β → Prop} : ∀ {xs : List α} {ys : List β} (k : Nat), Paired R xs ys → Paired R (xs.drop k) (ys.drop k)
  | _, _, 0, h => by rw [List.drop_zero, List.drop_zero]; exact h
  | _, _, k + 1, .nil => by rw [List.drop_nil, List.drop_nil]; exact .nil
  | _, _, k + 1, .cons r t => by rw [List.drop_succ_cons, List.drop_succ_cons]; exact paired_drop k t
/-- two tuples put together: one of them, or another -/
def rCatE (K : PySem.W.Frag) : R2 := fun x y H Q => ∃ a b xs ys, x = .ref a ∧ y = .ref b ∧ H a = some (.tup xs) ∧ H b = some (.tup ys) ∧ xs.length + ys.length ≤ sizeLine ∧ ∀ p H', Ext H H' → H' p = some (.tup (xs ++ ys)) → Q (.ref p) H'
theorem catE (K : PySem.W.Frag) {X : Cx} (h : X.K = K := by rfl) : OpR X (binaryOp .Add) (rCatE K) := fun pins s σ H x y v u Q I rx ry ⟨a, b, xs, ys, ex, ey, ha, hb, hz, q⟩ => by
  refine catA K h pins s σ H x y v u Q I rx ry ⟨a, b, xs, ys, ex, ey, SqT.of ha, SqT.of hb, hz, fun z => ?_, fun _ z => ?_, fun _ _ p hp => q p _ (Ext.new hp) upd_same⟩
  · exact q b H Ext.refl (by rw [z]; exact hb)
  · exact q a H Ext.refl (by rw [z, List.append_nil]; exact ha)
end Pf


namespace Pf
open PySem PySem.Spec PyProof.Rows L2
/-! ### zip of two texts -/
def ItZS (x y : Str) : It :=
  ⟨fun i _ => i < x.cps.size ∧ i < y.cps.size, fun i H v H' => ∃ T c d, v = .ref T ∧ H T = none ∧ H' = upd H T (.tup [.str ⟨#[c]⟩, .str ⟨#[d]⟩]) ∧ x.cps[i]? = some c ∧ y.cps[i]? = some d, fun i _ => i ≤ x.cps.size ∧ i ≤ y.cps.size ∧ (i = x.cps.size ∨ i = y.cps.size)⟩
theorem turn_zs {P : Program} {w : World} {K : PySem.W.Frag} {elts : List Expr} {kk : Nat} {tpos : Pos} (x y : Str) (t1 t2 : Tok) {z TI TO j1 j2 : Addr} (S : ZipSep2 z TI TO j1 j2 [j1] [j2]) :
    Turn P w K (.Tuple elts kk tpos) (ItZS x y) [z, TI, TO, j1, j2] z (fun i h => IsZip h z TI TO .none ∧ IsTupOf2 h TI (.ref j1) (.ref j2) ∧ (∃ a b, IsTupOf2 h TO a b) ∧ h.IsStrIter j1 (strIterType x) x t1 i ∧ h.IsStrIter j2 (strIterType y) y t2 i) where
  mem := by simp
  obj := fun i h st b hb => by
    obtain ⟨hz, hTI, ⟨_, _, hTO⟩, ⟨o1, e1, _, d1⟩, ⟨o2, e2, _, d2⟩⟩ := st
    have hb : b = z ∨ b = TI ∨ b = TO ∨ b = j1 ∨ b = j2 := by simpa using hb
    rcases hb with rfl | rfl | rfl | rfl | rfl
    · exact ⟨_, hz, fun v q => nomatch q⟩
    · exact ⟨_, hTI, fun v q => nomatch q⟩
    · exact ⟨_, hTO, fun v q => nomatch q⟩
    · exact ⟨o1, e1, fun v q => by rw [d1] at q; cases q⟩
    · exact ⟨o2, e2, fun v q => by rw [d2] at q; cases q⟩
  keep := fun i h h' st k => by
    obtain ⟨hz, hTI, ⟨a, b, hTO⟩, ⟨o1, e1, r1⟩, ⟨o2, e2, r2⟩⟩ := st
    exact ⟨k z (by simp) _ hz, k TI (by simp) _ hTI, ⟨a, b, k TO (by simp) _ hTO⟩, ⟨o1, k j1 (by simp) _ e1, r1⟩, ⟨o2, k j2 (by simp) _ e2, r2⟩⟩
  item := by
    intro X hP hw hK hc i pins s σ H E I hf st hg
    subst hP hw hK
    obtain ⟨hz, hTI, ⟨_, _, hTO⟩, h1, h2⟩ := st
    have lz := Heap.lt_size hz
    have lTI := Heap.lt_size hTI
    have lTO := Heap.lt_size hTO
    have l1 : j1 < s.heap.objs.size := by
      obtain ⟨_, e, _⟩ := h1
      exact Heap.lt_size e
    have l2 : j2 < s.heap.objs.size := by
      obtain ⟨_, e, _⟩ := h2
      exact Heap.lt_size e
    have hd : X.A.in1.handled = none := I.ok.hd hc
    have D1 := Draws.text (prog := X.prog) (w := X.w) (A := X.A.in1) hd j1 x t1
    have D2 := Draws.text (prog := X.prog) (w := X.w) (A := X.A.in1) hd j2 y t2
    refine wpAny_pyNext_zipD2_item S D1 D2 hz hTI hTO h1 h2 hg.1 hg.2 fun u v h' tk hu hv z' TO' h1' h2' hT hsz hk => ?_
    obtain ⟨c, tc, hcx, rfl⟩ := hu
    obtain ⟨d, td, hdy, rfl⟩ := hv
    refine ⟨_, rfl, wpAny_letOwnedTupleGo_zip (s := { s with heap := h', toks := tk }) z' fun h'' z'' sb => ?_⟩
    have hT2 := (sb.2 _ (Nat.ne_of_gt lz)).trans hT
    have new : ObjOk X.prog X.w (upd H s.heap.objs.size (.tup [.str ⟨#[c]⟩, .str ⟨#[d]⟩])) h'' s.heap.objs.size (.tup [.str ⟨#[c]⟩, .str ⟨#[d]⟩]) :=
      ⟨by show 2 ≤ sizeLine; decide, [.str ⟨#[c]⟩ tc, .str ⟨#[d]⟩ td], .cons ⟨_, rfl⟩ (.cons ⟨_, rfl⟩ .nil), ⟨_, hT2, rfl, _, rfl⟩⟩
    have I1 : Inv X pins σ (upd H s.heap.objs.size (.tup [.str ⟨#[c]⟩, .str ⟨#[d]⟩])) { s with heap := h'', toks := tk } :=
      I.turnedNew (ch := [z, TI, TO, j1, j2]) (fun b ob hb q => (sb.2 b (fun e => hb (by simp [e]))).trans (hk b ob (fun e => hb (by simp [e])) (fun e => hb (by simp [e])) (fun e => hb (by simp [e])) (fun e => hb (by simp [e])) q)) hf (Nat.le_refl _) new
    obtain ⟨o1, e1, r1⟩ := h1'
    obtain ⟨o2, e2, r2⟩ := h2'
    refine ⟨.ref s.heap.objs.size, _, I1, rfl, ⟨_, c, d, rfl, I.hok.fresh (Nat.le_refl _), rfl, hcx, hdy⟩, ⟨z'', ?_, ⟨_, _, (sb.2 _ S.TOz).trans TO'⟩, ⟨o1, (sb.2 _ (fun e => S.zf1 (by simp [e]))).trans e1, r1⟩, ⟨o2, (sb.2 _ (fun e => S.zf2 (by simp [e]))).trans e2, r2⟩⟩, fun b hb => ?_⟩
    · exact (sb.2 _ S.TIz).trans (hk _ _ S.TIz S.TITO S.TIi1 S.TIi2 hTI)
    · have hlt : b < s.heap.objs.size := by
        have hb' : b = z ∨ b = TI ∨ b = TO ∨ b = j1 ∨ b = j2 := by simpa using hb
        rcases hb' with rfl | rfl | rfl | rfl | rfl <;> assumption
      rw [upd_ne (Nat.ne_of_lt hlt)]
      exact (hf b hb).1
  done := by
    intro X hP hw hK hc i pins s σ H E I hf st hg
    subst hP hw hK
    obtain ⟨hz, hTI, ⟨_, _, hTO⟩, h1, h2⟩ := st
    have hd : X.A.in1.handled = none := I.ok.hd hc
    have D1 := Draws.text (prog := X.prog) (w := X.w) (A := X.A.in1) hd j1 x t1
    have D2 := Draws.text (prog := X.prog) (w := X.w) (A := X.A.in1) hd j2 y t2
    exact wpAny_pyNext_zipD2_end S D1 D2 hz hTI hTO h1 h2 hg.1 hg.2.1 hg.2.2 fun h' tk hk => ⟨rfl, I.turnedL (t' := tk) (ch := [z, TI, TO, j1, j2]) (fun b o hb q => hk b o (fun e => hb (by simp [e])) (fun e => hb (by simp [e])) (fun e => hb (by simp [e])) (fun e => hb (by simp [e])) q) hf⟩
  self := fun A i s Q E st h => wpAny_pyIter_zip st.1 h
/-- zip of two texts, or of two lists -/
def iZipB (K : PySem.W.Frag) (ta : TA) : TI := fun σ H R => ta σ H fun vs H1 => (∃ x y, vs = [.str x, .str y] ∧ R (ItZS x y) H1) ∨ (∃ a b xs ys, vs = [.ref a, .ref b] ∧ SqL K H1 a xs ∧ SqL K H1 b ys ∧ R (Itz K a b) H1)
theorem pi_zipB (K : PySem.W.Frag) {X : Cx} {e e2 : Expr} {ta : TA} {p pos tpos : Pos} {elts : List Expr} {kk : Nat} (hg : Gl X "zip") (hm : X.mg "zip" = none) (ha : PA X [e, e2] ta)
    (hK : X.K = K := by rfl) (hs : starEach [e, e2] X.env = (false, eval e X.env) :: starEach [e2] X.env := by rfl) (hpl : (backTo pos (starEach [e2] X.env)).any (·.1) = false := by rfl) :
    PI X (.Tuple elts kk tpos) (.Call (.Name "zip" p) [e, e2] [] pos) (iZipB K ta) := by
  subst hK
  refine ⟨fun pins s σ H R I h => ?_⟩
  refine Call_ (ld_blt I hg hm PyProof.Rows.boot_zip (PyProof.Rows.callWith_type1 (thn (ha.run pos pins s σ H _ I h) fun us s1 ⟨vs, H1, I1, r1, q1⟩ => ?_) hs hpl))
  have new5 : ∀ c, c ∈ [s1.heap.objs.size + 4, s1.heap.objs.size + 2, s1.heap.objs.size + 3, s1.heap.objs.size, s1.heap.objs.size + 1] → FpOk X pins H1 c := fun c hcm => by
    have hcm : c = s1.heap.objs.size + 4 ∨ c = s1.heap.objs.size + 2 ∨ c = s1.heap.objs.size + 3 ∨ c = s1.heap.objs.size ∨ c = s1.heap.objs.size + 1 := by simpa using hcm
    have hle : s1.heap.objs.size ≤ c := by
      rcases hcm with rfl | rfl | rfl | rfl | rfl
      · exact Nat.le_add_right _ _
      · exact Nat.le_add_right _ _
      · exact Nat.le_add_right _ _
      · exact Nat.le_refl _
      · exact Nat.le_add_right _ _
    exact I1.fpOk hle (I1.hok.fresh hle)
  rcases q1 with ⟨x, y, rfl, q⟩ | ⟨a, b, xs, ys, rfl, hqx, hqy, q⟩
  · obtain ⟨u, us2, rfl, ⟨t1, rfl⟩, r2⟩ : ∃ u us2, us = u :: us2 ∧ RelV (.str x) u ∧ Vals [.str y] us2 := by
      cases r1 with
      | cons r rr => exact ⟨_, _, rfl, r, rr⟩
    obtain ⟨u2, rfl, t2, rfl⟩ := vals1 r2
    refine zip_begins2 (begins_text x t1) (begins_text y t2) trivial trivial fun h' hz hTI hTO h1 h2 hsz hk => wpAny_pyIter_zip hz ?_
    have S : ZipSep2 (s1.heap.objs.size + 4) (s1.heap.objs.size + 2) (s1.heap.objs.size + 3) s1.heap.objs.size (s1.heap.objs.size + 1) [s1.heap.objs.size] [s1.heap.objs.size + 1] := by
      constructor <;> simp
    exact ⟨s1.heap.objs.size + 4, [s1.heap.objs.size + 4, s1.heap.objs.size + 2, s1.heap.objs.size + 3, s1.heap.objs.size, s1.heap.objs.size + 1], _, _, H1, rfl, I1.kept (t' := s1.toks) hk, turn_zs x y t1 t2 S, ⟨hz, hTI, ⟨_, _, hTO⟩, ⟨_, h1, rfl, rfl⟩, ⟨_, h2, rfl, rfl⟩⟩, new5, q⟩
  · have R : Vals [V.ref a, .ref b] us := r1
    cases r1 with
    | cons r rr =>
      cases rr with
      | cons r' rr =>
        cases rr
        cases r
        cases r'
        obtain ⟨its, rv, p1, _⟩ := I1.list hqx
        obtain ⟨its2, rv2, p2, _⟩ := I1.list hqy
        refine call_zip_2 p1.isList p2.isList fun h' hz hTI hTO h1 h2 hsz hk => wpAny_pyIter_zip hz ?_
        exact ⟨s1.heap.objs.size + 4, [s1.heap.objs.size + 4, s1.heap.objs.size + 2, s1.heap.objs.size + 3, s1.heap.objs.size, s1.heap.objs.size + 1], _, _, H1, rfl, I1.kept (t' := s1.toks) hk, turn_zip (PySem.W.ktu_apart s1.heap.objs.size a b p1.lt p2.lt), ⟨hz, hTI, ⟨_, _, hTO⟩, h1, h2⟩, new5, q⟩
end Pf


namespace Pf
open PySem PySem.Spec PyProof.Rows L2
/-! ### sorting tuples, the first of them empty -/
section
open PySem.W PySem.SeqAt PySem.Calls
variable {prog : Program} {w : World} {A : Around} {E : Value → Shared → Prop} {s : Shared}
theorem tup_lt1 {Q : Bool → Shared → Prop} {a b : Value} {xs ys : List PyData} {as bs : List Addr} (ra : Reads s.heap a (.tuple xs) as) (rb : Reads s.heap b (.tuple ys) bs) (hal : alikeAll xs ys = true)
    (hu : A.units + min (PyData.tuple xs).depth (PyData.tuple ys).depth < cLine) (hq : Q (dataLt (.tuple xs) (.tuple ys)) s) : wpAny (model prog w) A (oneLt' true a b) Q E s := by
  cases ra with
  | @tuple l o vs n _ as₁ h1 h2 h3 h4 =>
    cases rb with
    | @tuple m p ws k _ bs₁ g1 g2 g3 g4 =>
      have z1 : vs.size = xs.length := by simpa using ReadsAll.length _ _ _ h4
      have z2 : ws.size = ys.length := by simpa using ReadsAll.length _ _ _ g4
      rw [dataLt_tuple, ← firstLt_toks xs ys hal, ← z1, ← z2] at hq
      obtain ⟨ocls, odd, odata, osl⟩ := o
      obtain ⟨pcls, pdd, pdata, psl⟩ := p
      simp only at h2 h3 g2 g3
      subst h2 h3 g2 g3
      rw [oneLt'_eq]
      simp only [if_true]
      refine wpAny_bind (wpAny_cRoomFor (room_here hu) (wpAny_bind (wpAny_callSpecialIfBound?_slot (T := "tuple") ⟨_, h1, rfl⟩ F.slot_tuple_lt ?_)))
      refine call_meets F.slot_tuple_lt ⟨_, h1, rfl⟩ F.entry_tuple_lt (F.args_tuple_lt_2 _ _) (tuple_ltAt l m vs ws n k odd pdd osl psl (pairEq xs ys) (fun j => dataLt (xs.getD j .none) (ys.getD j .none))) ⟨h1, g1, fun j j1 j2 => ?_, fun j j1 j2 hj => ?_, wpAny_truthy_bool hq⟩
      · have y := eqAt_alikeAll xs ys A.in1 s vs.toList ws.toList _ _ h4 g4 hal (room_in hu) j (by simpa using j1) (by simpa using j2)
        simpa using y
      · have y := rcLt_alikeAll xs ys A.in1 s vs.toList ws.toList _ _ h4 g4 hal (room_in hu) j (by simpa using j1) (by simpa using j2) hj
        simpa using y
theorem ft_at {M : Model} {v : Value} {ds : List PyData} {as : List Addr} (r : Reads s.heap v (.tuple ds) as) : ∃ f : Option Value, (ds = [] → f = none) ∧ ∀ Q : Option Value → Shared → Prop, Q f s → wpAny M A (firstOfTuple' v) Q E s := by
  cases r with
  | @tuple a o xs n _ _ ho hc hd hr =>
    refine ⟨xs[0]?, fun e => ?_, fun Q q => ?_⟩
    · subst e
      cases q : xs.toList with
      | nil =>
        rw [← Array.getElem?_toList, q]
        rfl
      | cons f fr =>
        rw [q] at hr
        cases hr
    · rw [kas_first_eq]
      refine wpAny_bind (Looks.here (show Looks M s.heap (typeOf (.ref a)) o.cls from (Looks.ld ho).andThen .now) ?_)
      rw [hc, if_neg (by simp)]
      exact wpAny_bind (listItems_at ho hd (wpAny_pure q))
theorem fts_at {M : Model} : ∀ {vs : List Value} {ds : List PyData}, EachIs (fun v d => ∃ as, Reads s.heap v d as) vs ds → (∀ d ∈ ds, ∃ xs, d = .tuple xs) → ∃ fs : List (Option Value), (∀ r, ds = .tuple [] :: r → ∃ t, fs = none :: t) ∧ ∀ Q : List (Option Value) → Shared → Prop, Q fs s → wpAny M A (vs.mapM firstOfTuple') Q E s
  | _, _, .nil, _ => ⟨[], (fun r z => by cases z), fun Q q => by rw [List.mapM_nil]; exact wpAny_pure q⟩
  | _, _, .cons (b := d) ⟨as, r⟩ t, ht => by
    obtain ⟨fs, _, h2⟩ := fts_at (M := M) t fun d hd => ht d (List.mem_cons_of_mem _ hd)
    obtain ⟨xs, rfl⟩ := ht d (List.mem_cons_self ..)
    obtain ⟨f, e1, e2⟩ := ft_at (M := M) (A := A) (E := E) r
    refine ⟨f :: fs, fun r z => ⟨fs, ?_⟩, fun Q q => ?_⟩
    · injection z with z _
      injection z with z
      rw [e1 z]
    · rw [List.mapM_cons]
      exact wpAny_bind (e2 _ (wpAny_bind (h2 _ (wpAny_pure q))))
theorem kind_empt {M : Model} {vs : List Value} {ds : List PyData} {Q : SortKind → Shared → Prop} (e : EachIs (fun v d => ∃ as, Reads s.heap v d as) vs (.tuple [] :: ds)) (ht : ∀ d ∈ PyData.tuple [] :: ds, ∃ xs, d = .tuple xs) (q : Q oneType' s) : wpAny M A (keyKind' vs.toArray) Q E s := by
  obtain ⟨fs, h1, h2⟩ := fts_at (M := M) (A := A) (E := E) e ht
  obtain ⟨t, rfl⟩ := h1 ds rfl
  obtain ⟨v0, vr, rfl⟩ : ∃ v0 vr, vs = v0 :: vr := by
    cases e with
    | cons z zs => exact ⟨_, _, rfl⟩
  rw [keyKind'_eq, List.mapM_toArray, map_eq_pure_bind]
  refine wpAny_bind (wpAny_bind (h2 _ (wpAny_pure ?_)))
  rw [if_neg (by simp), if_neg (by simp), oneTypeOnly'_eq, List.mapM_toArray, map_eq_pure_bind]
  refine wpAny_bind (wpAny_bind (wpAny_bind (kas_mapM (r := Value.type "tuple") _ (fun v hv Q' hq => ?_) (wpAny_pure ?_))))
  · obtain ⟨d, hd, as, r⟩ := e.left v hv
    obtain ⟨xs, rfl⟩ := ht d hd
    exact (looks_reads r).here hq
  · have h0 : (List.map (fun _ => Value.type "tuple") (v0 :: vr)).toArray[0]? = some (Value.type "tuple") := by simp
    rw [h0]
    have ha : ((List.map (fun _ : Value => Value.type "tuple") (v0 :: vr)).toArray.all fun x => x == Value.type "tuple") = true := by
      simp only [List.all_toArray, List.all_map, List.all_eq_true]
      intro _ _
      rfl
    simp only [ha, if_true]
    exact wpAny_pure (wpAny_pure q)
theorem sorts_empt {vs : List Value} {ds : List PyData} (e : EachIs (fun v d => ∃ as, Reads s.heap v d as) vs (.tuple [] :: ds)) (hal : AllAlike (.tuple [] :: ds)) (ht : ∀ d ∈ PyData.tuple [] :: ds, ∃ xs, d = .tuple xs) (hu : ∀ d ∈ PyData.tuple [] :: ds, A.units + d.depth < cLine) : SortsAt prog w A s (dataKind s.heap (.tuple [] :: ds)) vs := by
  refine ⟨fun v hv => ?_, oneType', ?_, fun h2 E Q hq => kind_empt e ht hq⟩
  · obtain ⟨d, hd, as, r⟩ := e.left v hv
    exact ⟨_, dataKind_some hal hd r⟩
  · intro E x y a b Q ha hb hq
    obtain ⟨d, as, hd, ra, rfl⟩ := dataKind_inv ha
    obtain ⟨d', as', hd', rb, rfl⟩ := dataKind_inv hb
    have hdd := hal d hd d' hd'
    have hroom : A.units + min d.depth d'.depth < cLine := Nat.lt_of_le_of_lt (Nat.add_le_add_left (Nat.min_le_left _ _) _) (hu d hd)
    obtain ⟨xs, rfl⟩ := ht d hd
    obtain ⟨ys, rfl⟩ := ht d' hd'
    rw [keyLt'_oneType]
    exact tup_lt1 ra rb (by simpa [alike] using hdd) hroom hq
theorem sorted_empt {β : Type} {vs : List Value} {bs : List β} {enc : β → PyData} {R : Value → β → Prop} {l : Addr} {r : List PyData} {Q : Value → Shared → Prop} (hl : s.heap.IsList l vs.toArray) (e : EachIs R vs bs) (er : EachIs (fun v b => ∃ as, Reads s.heap v (enc b) as) vs bs) (hal : AllAlike (bs.map enc)) (h0 : bs.map enc = .tuple [] :: r) (ht : ∀ d ∈ bs.map enc, ∃ xs, d = .tuple xs) (hL : bs.length ≤ sizeLine)
    (hu : ∀ b, b ∈ bs → A.units + 2 + (enc b).depth < cLine) (h : ∀ out, out.length = bs.length → EachIs R out (bs.mergeSort (dataLe false enc)) → Q (.ref (s.heap.objs.size + 1)) { s with heap := sortedAll s.heap vs (List.toArray out) }) :
    wpAny (model prog w) A (call (.builtin "sorted") [.ref l]) Q E s := by
  have er2 : EachIs (fun v b => ∃ as, Reads (sortingHeap (copyHeap s.heap vs) (s.heap.objs.size + 1) vs) v (enc b) as) vs bs := er.mono fun _ _ ⟨as, z⟩ => ⟨as, PyProof.Rows.Reads.keeps (fun _ _ => sorting_copy_old) z⟩
  have em := each_map (R := fun v d => ∃ as, Reads (sortingHeap (copyHeap s.heap vs) (s.heap.objs.size + 1) vs) v d as) enc er2
  have bm := bound_map (A := A.in1.in1) (bs := bs) (enc := enc) hu
  have S : SortsAt prog w A.in1.in1 { s with heap := sortingHeap (copyHeap s.heap vs) (s.heap.objs.size + 1) vs } (dataKind (sortingHeap (copyHeap s.heap vs) (s.heap.objs.size + 1) vs) (bs.map enc)) vs := by
    rw [h0] at em bm ht hal ⊢
    exact sorts_empt (s := { s with heap := sortingHeap (copyHeap s.heap vs) (s.heap.objs.size + 1) vs }) em hal ht bm
  exact sorted_vals hl S (by rw [e.length]; exact hL) (h _ (by rw [sortVals_length false rfl]; exact e.length) (sortVals_data false e er2 hal))
end
/-- sorted of tuples, the first of them empty -/
def rSortE (K : PySem.W.Frag) : List V → Hp → VK → Prop := fun vs H Q => ∃ (β : Type) (v : β → V) (d : β → PyData) (a : Addr) (bs : List β) (r : List PyData), vs = [.ref a] ∧ SqL K H a (bs.map v) ∧ (∀ b ∈ bs, Dp K H (v b) (d b) ∧ (d b).depth ≤ 50) ∧
  PySem.W.AllAlike (bs.map d) ∧ bs.map d = .tuple [] :: r ∧ (∀ e ∈ bs.map d, ∃ xs, e = .tuple xs) ∧ ∀ p, H p = none → Q (.ref p) (upd H p (.lst ((bs.mergeSort (PySem.W.dataLe false d)).map v)))
theorem cr_sortE (K : PySem.W.Frag) {X : Cx} (hu : X.A.units + 64 < cLine) (hK : X.K = K := by rfl) : CallR X (.builtin "sorted") (rSortE K) := by
  subst hK
  intro pins s σ H vs us Q I r h
  obtain ⟨β, v, d, a, bs, rd, rfl, hs, hd, al, h0, ht, q⟩ := h
  obtain ⟨u, rfl, rfl⟩ := vals1 r
  obtain ⟨its, rv, hl, hz⟩ := I.list hs
  rw [List.length_map] at hz
  refine sorted_empt (enc := d) (R := fun (u : Value) (b : β) => RelV (v b) u) hl.isList (each_vals rv) (each_reads I rv fun b hb => (hd b hb).1) al h0 ht hz (fun b hb => ?_) fun out hlen he => ?_
  · have := (hd b hb).2
    omega
  · obtain ⟨ep, he'⟩ := PyProof.Rows.sortedAll_at s.heap its out.toArray
    have hlen2 : ((bs.mergeSort (PySem.W.dataLe false d)).map v).length ≤ sizeLine := by
      rw [List.length_map, List.length_mergeSort]
      exact hz
    exact ⟨.ref _, upd H (s.heap.objs.size + 1) (.lst ((bs.mergeSort (PySem.W.dataLe false d)).map v)), I.laid (t' := s.toks) (fun _ _ => PyProof.Rows.sortedAll_old) (Nat.le_succ _) ⟨hlen2, out, ep, vals_each he, by simpa using he'⟩, rfl, q _ (I.hok.fresh (Nat.le_succ _))⟩
end Pf


namespace Pf
open PySem PySem.Spec PyProof.Rows L2
/-! ### a dict by tuples, made in a comprehension -/
theorem dset_t {X : Cx} {pins : List (Addr × Obj)} {σ : L2.St} {H : Hp} {s : Shared} {E : Value → Shared → Prop} {D b : Addr} {kvs : List (List Key × V)} {ks : List Key} {z : V} {u : Value} {Q : Unit → Shared → Prop} (hu : X.A.units < cLine) (I : Inv X pins σ H s) (hD : H D = some (.dT kvs)) (hb : H b = some (.tup (ks.map kV))) (hz : kvs.length < sizeLine)
    (rz : RelV z u) (go : ∀ s', Inv X pins σ (upd H D (.dT (putK kvs ks z))) s' → Q () s') : wpAny (model X.prog X.w) X.A (dictSet D (.ref b) u) Q E s := by
  obtain ⟨len, nsys, xs, rel, dd⟩ := dt_of I.hok hD
  have lx : xs.length ≤ sizeLine := Paired.length rel ▸ len
  have lp := length_putK kvs ks z
  refine wpAny_dictSet_heap (hsz := lx) (show (tupleKind (mixKind X.prog X.w)).room X.A from hu) (key_of I.hok hb) dd fun h' dd' same => go _ ?_
  obtain ⟨ob, es, ep, e1, e2, e3, e4, _, e5⟩ := dd'
  have stays : ∀ c ys, H c = some (.tup ys) → (upd H D (.dT (putK kvs ks z))) c = some (.tup ys) := fun c ys ec => by
    rw [upd_ne (ne_of ec hD (by intro y; cases y))]
    exact ec
  exact d_write I (by rw [hD]; exact True.intro) same ⟨ob, e1⟩ ⟨by omega, nsys, _, (rel.put ks hb rz).keeps stays, ob, es, ep, e1, e2, e3, e4, e5⟩
/-- what is asked of a turn's key and value -/
def PutT (D : Addr) (y z : V) (H : Hp) (N : Hp → Prop) : Prop := ∃ kvs ks b, y = .ref b ∧ H b = some (.tup (ks.map kV)) ∧ H D = some (.dT kvs) ∧ kvs.length < sizeLine ∧ N (upd H D (.dT (putK kvs ks z)))
def tDcT (wi : TI) (g : TG) (tk tv : TE) (vs : List Nat) : TE := fun σ H Q => wi σ H fun J H1 => ∀ D, H1 D = none → ∃ W : Nat → Nat → Hp → Prop, (∃ m, W 0 m (upd H1 D (.dT []))) ∧ ∀ i m H, W i m H →
  (J.stop i H ∧ Q (.ref D) H) ∨ (J.go i H ∧ ∃ Nx : Hp → Prop, (∀ H', Nx H' → ∃ m', m' < m ∧ W (i + 1) m' H') ∧ ∀ x H', J.yld i H x H' → g x (wipe σ vs) H' fun σ2 H2 => wipe σ2 vs = wipe σ vs ∧ tk σ2 H2 fun y H3 => tv σ2 H3 fun z H4 => PutT D y z H4 Nx)
/-- the block's context is free of what the walk itself holds -/
theorem blk_free {X : Cx} {s : Shared} {H : Hp} {scope : Scope} {ce : Env} {fp : List Addr} {σ' : L2.St} {H' : Hp} {s' : Shared} (J : Inv (X.blk s H scope ce fp) [] σ' H' s') (nn : ∀ b ∈ fp, H' b = none) : ∀ b ∈ fp, FpOk (X.blk s H scope ce fp) [] H' b := fun b hb =>
  ⟨nn b hb, (J.ok.exf b hb).1, J.ok.exfs b hb, .inl hb, fun x c e => (J.ok.exf b hb).2 x c e, fun p hp => by
    have hp : p ∈ ([] : List (Addr × Obj)) ++ [] := hp
    cases hp⟩
/-- a turn is over: the block again as it began, but for the heap -/
theorem blk_turn {X Y : Cx} {fp : List Addr} {it : Addr} {tg : Expr} {J : It} {tn : Nat → Heap → Prop} {P : Program} {w : World} {K : PySem.W.Frag} (T : Turn P w K tg J fp it tn) {i : Nat} {h7 : Heap} (st : tn (i + 1) h7) {σ0 σ8 : L2.St} {vs : List Nat} {H' : Hp} {s' : Shared} (hw : wipe σ8 vs = wipe σ0 vs)
    (JJ : Inv Y ([] ++ pinsAt fp h7) σ8 H' s') : Inv Y [] (wipe σ0 vs) H' s' ∧ tn (i + 1) s'.heap ∧ ∀ b ∈ fp, H' b = none := by
  have held : ∀ b ∈ fp, ∀ o, h7.get? b = some o → s'.heap.get? b = some o ∧ H' b = none := fun b hb o e => by
    have z := JJ.pin (b, o) (List.mem_append_right _ (List.mem_append_right _ (mem_pinsAt hb e)))
    exact ⟨z.1, z.2.1⟩
  refine ⟨(JJ.unpinned (pins := [])).weak (by rw [← hw, wipe_length]) (fun j v e => ?_), T.keep _ _ _ st fun b hb o e => (held b hb o e).1, fun b hb => ?_⟩
  · rw [← hw] at e
    exact (wipe_some e).1
  · obtain ⟨o, e, _⟩ := T.obj _ _ st b hb
    exact (held b hb o e).2
theorem dcT_core {X : Cx} {pins : List (Addr × Obj)} {s : Shared} {σ : L2.St} {H : Hp} {Q : VK} {kx vx tg iter : Expr} {scope : Scope} {own : List (Str × Nat)} {pos pos' : Pos} {wi : TI} {g : TG} {tk tv : TE} {use : Option (Value → Sem Unit)} {Qf : Value → Shared → Prop} (hu : X.A.units < cLine) (calm : X.calm = true) (nd : X.N.Nodup) (I : Inv X pins σ H s) (hi : PI X tg iter wi) (ok : BlkOk X.N X.env.scope scope own)
    (hg : ∀ (s : Shared) (H : Hp) (C : Addr) (cl : List (Str × Addr)) (fp : List Addr), PG (X.blk s H scope (compEnvC scope cl C X.env) fp) tg g)
    (hk : ∀ (s : Shared) (H : Hp) (C : Addr) (cl : List (Str × Addr)) (fp : List Addr), PE (X.blk s H scope (compEnvC scope cl C X.env) fp) kx tk)
    (hv : ∀ (s : Shared) (H : Hp) (C : Addr) (cl : List (Str × Addr)) (fp : List Addr), PE (X.blk s H scope (compEnvC scope cl C X.env) fp) vx tv) (hfs : ∀ x, foldedSetIterable iter X.env x = pure x) (h : tDcT wi g tk tv (own.map (·.2)) σ H Q)
    (fin : ∀ D C s' m H', Inv X pins σ H' s' → Q (.ref D) H' → s'.heap.Ns C m → FpOk X pins H' C → compPost (model X.prog X.w) X.A X.xe use Qf (.ref D) C (.ok .next) s') :
    wpAny (model X.prog X.w) X.A (comprehension (.DictComp kx vx [⟨tg, iter, [], 0⟩] scope pos) scope X.env pos' newDict false (eval iter X.env) use) Qf X.xe s := by
  have cells : ∀ y ∈ scope.names, y.2 = .free → ∃ c, X.env.cells.lookup y.1 = some c := fun y hy e => (ok.free y hy e).elim (fun k => I.ok.has _ (.inl k)) fun k => I.ok.has _ (.inr k)
  refine wpAny_comprehension_free (use := use) rfl hfs (closure_ok cells) ok.kind (fun y hy e => by rw [ok.uniq y hy, e]) (thn (hi.run pins s σ H _ I h) fun xv sa ha => thn ha fun itv sb hb => ?_)
  obtain ⟨it, fp, tn, J, Hb, rfl, Ib, T, stb, fb, rest⟩ := hb
  refine wpAny_newObj_type (newEnv_comp ?_)
  obtain ⟨W, ⟨m0, w0⟩, turn⟩ := rest sb.heap.objs.size (Ib.hok.fresh (Nat.le_refl _))
  have Ic : Inv X pins σ (upd Hb sb.heap.objs.size (.dT [])) { sb with heap := sb.heap.push { cls := .type "dict", data := .dict #[] } } := Ib.laid (t' := sb.toks) (fun b o e => Heap.get?_push_of_some _ e) (Nat.le_refl _) (dt_empty sb.heap Ib.big)
  have stc : tn 0 (sb.heap.push { cls := .type "dict", data := .dict #[] }) := T.keep _ _ _ stb fun b _ o e => Heap.get?_push_of_some _ e
  have below : ∀ b ∈ fp, b < sb.heap.objs.size := fun b hb => by
    obtain ⟨o, e, _⟩ := T.obj _ _ stb b hb
    exact Heap.lt_size e
  have fc : ∀ b ∈ fp, FpOk X pins (upd Hb sb.heap.objs.size (.dT [])) b ∧ b < (sb.heap.push { cls := .type "dict", data := .dict #[] }).objs.size := fun b hb => by
    refine ⟨⟨?_, (fb b hb).2⟩, ?_⟩
    · rw [upd_ne (Nat.ne_of_lt (below b hb))]
      exact (fb b hb).1
    · rw [Heap.size_push]
      exact Nat.lt_succ_of_lt (below b hb)
  generalize sb.heap.objs.size = D at turn w0 Ic fc ⊢
  generalize hsc : ({ sb with heap := sb.heap.push { cls := .type "dict", data := .dict #[] } } : Shared) = sc at Ic ⊢
  have stc : tn 0 sc.heap := by rw [← hsc]; exact stc
  generalize upd Hb D (.dT []) = Hc at w0 Ic fc
  have fc : ∀ b ∈ fp, FpOk X pins Hc b ∧ b < sc.heap.objs.size := by rw [← hsc]; exact fc
  have Id := block_start Ic ok nd fc
  have pg := hg sc Hc sc.heap.objs.size (cellsFrom (sc.heap.objs.size + 1) scope.names (cloFrom X.env.cells scope.names [])) fp
  have pk := hk sc Hc sc.heap.objs.size (cellsFrom (sc.heap.objs.size + 1) scope.names (cloFrom X.env.cells scope.names [])) fp
  have pv := hv sc Hc sc.heap.objs.size (cellsFrom (sc.heap.objs.size + 1) scope.names (cloFrom X.env.cells scope.names [])) fp
  show codeAny _ _ (.compStart _ 0 (.ref it) (.ref D) (compEnvC scope (cellsFrom (sc.heap.objs.size + 1) scope.names (cloFrom X.env.cells scope.names [])) sc.heap.objs.size X.env)) (compPost _ _ _ _ _ (.ref D) sc.heap.objs.size) { sc with heap := pushCells (sc.heap.push { cls := .type "dict", data := .dict #[] }) scope.names }
  have std : tn 0 (pushCells (sc.heap.push { cls := .type "dict", data := .dict #[] }) scope.names) := T.keep _ _ _ stc fun b _ o e => pushCells_keeps _ _ _ _ (Heap.get?_push_of_some _ e)
  generalize ec : compEnvC scope (cellsFrom (sc.heap.objs.size + 1) scope.names (cloFrom X.env.cells scope.names [])) sc.heap.objs.size X.env = ce at Id pg pk pv ⊢
  have cl : ce.locals = sc.heap.objs.size := by rw [← ec]; rfl
  generalize ed : ({ sc with heap := pushCells (sc.heap.push { cls := .type "dict", data := .dict #[] }) scope.names } : Shared) = sd at Id ⊢
  have std : tn 0 sd.heap := by rw [← ed]; exact std
  have loop : codeAny (model X.prog X.w) X.A (.compLoop (.DictComp kx vx [⟨tg, iter, [], 0⟩] scope pos) 0 (.ref it) (.ref D) ce) (compPost (model X.prog X.w) X.A X.xe use Qf (.ref D) sc.heap.objs.size) sd := by
    refine compLoop_anyD (fun n s' => ∃ i H', Inv (X.blk sc Hc scope ce fp) [] (wipe σ (own.map (·.2))) H' s' ∧ tn i s'.heap ∧ (∀ b ∈ fp, H' b = none) ∧ W i n H') ?_ m0 ⟨0, Hc, Id, std, fun b hb => (fc b hb).1.1, w0⟩
    rintro n s5 ⟨i, H5, I5, st5, n5, w5⟩
    rcases turn i n H5 w5 with ⟨ends, qq⟩ | ⟨goes, Nx, hNx, step⟩
    · refine thnF (T.done (X.blk sc Hc scope ce fp) rfl rfl rfl calm i [] s5 _ H5 (fun _ _ => False) I5 (blk_free I5 n5) st5 ends) fun r s6 ⟨er, I6⟩ => ?_
      subst er
      have I7 : Inv X pins σ H5 s6 := Ic.call' (ch := fp) I6.os I6.base I6.hok I6.bare fun b hb => ⟨(fc b hb).1.2.2.2.1, (fc b hb).1.2.1, (fc b hb).1.2.2.2.2.1, (fc b hb).1.2.2.2.2.2⟩
      have nl : H5 sc.heap.objs.size = none := by
        rw [← cl]
        exact I6.free
      obtain ⟨m, hn, _⟩ := I6.loc
      have hn : s6.heap.Ns ce.locals m := hn
      rw [cl] at hn
      exact fin D sc.heap.objs.size s6 m H5 I7 qq hn (Ic.fpOk (Nat.le_refl _) nl)
    · refine thnF (T.item (X.blk sc Hc scope ce fp) rfl rfl rfl calm i [] s5 _ H5 (fun _ _ => False) I5 (blk_free I5 n5) st5 goes) fun r s6 ⟨u, er, h6⟩ => ?_
      subst er
      refine thnF h6 fun _ s7 ⟨x, H7, I7, r7, y7, st7, n7⟩ => ?_
      refine thnF (pg.run _ s7 _ H7 x u _ (I7.pinned (blk_free I7 n7) (T.obj _ _ st7)) r7 (step x H7 y7)) fun _ s8 ⟨σ8, H8, I8, hw8, q8⟩ => ?_
      rw [List.forIn_nil]
      refine wpAny_pure ?_
      rw [if_pos rfl]
      refine thnF (pk.run _ s8 σ8 H8 _ I8 q8) fun v9 s9 ⟨y9, H9, I9, r9, q9⟩ => ?_
      refine thnF (pv.run _ s9 σ8 H9 _ I9 q9) fun v10 s10 ⟨z10, H10, I10, r10, kvs, ks, b, ey, eb, eD, lz, nx⟩ => ?_
      subst ey
      cases (show v9 = Value.ref b from r9)
      refine dset_t (X := X.blk sc Hc scope ce fp) hu I10 eD eb lz r10 fun s11 I11 => ?_
      obtain ⟨m', hm, w'⟩ := hNx _ nx
      obtain ⟨a1, a2, a3⟩ := blk_turn (X := X) T st7 hw8 I11
      exact ⟨m', hm, i + 1, _, a1, a2, a3, w'⟩
  exact codeAny_compStart_dict loop (T.self X.A 0 _ _ _ std loop)
theorem pe_dcT {X : Cx} {kx vx tg iter : Expr} {scope : Scope} {own : List (Str × Nat)} {pos : Pos} {wi : TI} {g : TG} {tk tv : TE} (hu : X.A.units < cLine) (calm : X.calm = true) (nd : X.N.Nodup) (hi : PI X tg iter wi) (ok : BlkOk X.N X.env.scope scope own)
    (hg : ∀ (s : Shared) (H : Hp) (C : Addr) (cl : List (Str × Addr)) (fp : List Addr), PG (X.blk s H scope (compEnvC scope cl C X.env) fp) tg g)
    (hk : ∀ (s : Shared) (H : Hp) (C : Addr) (cl : List (Str × Addr)) (fp : List Addr), PE (X.blk s H scope (compEnvC scope cl C X.env) fp) kx tk)
    (hv : ∀ (s : Shared) (H : Hp) (C : Addr) (cl : List (Str × Addr)) (fp : List Addr), PE (X.blk s H scope (compEnvC scope cl C X.env) fp) vx tv) (hfs : ∀ x, foldedSetIterable iter X.env x = pure x := by intro _; rfl) :
    PE X (.DictComp kx vx [⟨tg, iter, [], 0⟩] scope pos) (tDcT wi g tk tv (own.map (·.2))) := by
  refine ⟨fun pins s σ H Q I h => ?_⟩
  rw [arm_eval_DictComp]
  refine dcT_core hu calm nd I hi ok hg hk hv hfs h fun D C s' m H' I' q hn f => ⟨m, hn, fun h'' sb => ?_⟩
  obtain ⟨f0, f1, f2, f3, f4, f5⟩ := f
  exact ⟨.ref D, H', I'.turned (t' := s'.toks) (fun b o hb e => (sb.2 b hb).trans e) f0 f1 f3 f4 f5, rfl, q⟩
/-- a name on the same line takes it, before the block's own names go -/
theorem ps_setDcT {X : Cx} {i : Nat} {y : Str} {py : Pos} {kx vx tg iter : Expr} {scope : Scope} {own : List (Str × Nat)} {pos spos : Pos} {wi : TI} {g : TG} {tk tv : TE} (hu : X.A.units < cLine) (calm : X.calm = true) (nd : X.N.Nodup) (at_ : X.N[i]? = some y) (loc : X.env.scope.names.lookup y = some .local)
    (sw : swapsWith (.DictComp kx vx [⟨tg, iter, [], 0⟩] scope pos) (some (.Name y py)) spos.line X.env = pure true) (hi : PI X tg iter wi) (ok : BlkOk X.N X.env.scope scope own)
    (hg : ∀ (s : Shared) (H : Hp) (C : Addr) (cl : List (Str × Addr)) (fp : List Addr), PG (X.blk s H scope (compEnvC scope cl C X.env) fp) tg g)
    (hk : ∀ (s : Shared) (H : Hp) (C : Addr) (cl : List (Str × Addr)) (fp : List Addr), PE (X.blk s H scope (compEnvC scope cl C X.env) fp) kx tk)
    (hv : ∀ (s : Shared) (H : Hp) (C : Addr) (cl : List (Str × Addr)) (fp : List Addr), PE (X.blk s H scope (compEnvC scope cl C X.env) fp) vx tv) (hfs : ∀ x, foldedSetIterable iter X.env x = pure x := by intro _; rfl) :
    PS X (.Assign [.Name y py] (.DictComp kx vx [⟨tg, iter, [], 0⟩] scope pos) spos) (tAsg (tDcT wi g tk tv (own.map (·.2))) (gName i)) := by
  refine ⟨fun pins s σ H D I h => ?_⟩
  rw [exec_Assign_Name_used _ _ _ _ sw]
  refine wpAny_bind (wpAny_standAt (wpAny_bind ?_))
  show wpAny _ X.A (do let _ ← comprehension (.DictComp kx vx [⟨tg, iter, [], 0⟩] scope pos) scope X.env (firstIterPos [⟨tg, iter, [], 0⟩] pos) newDict false (eval iter X.env) (some (assign (.Name y py) X.env))) _ _ s
  have h : tDcT wi g tk tv (own.map (·.2)) σ H (fun x H1 => gName i x σ H1 D.nx) := h
  refine wpAny_bind (thn (dcT_core (Qf := fun _ s' => SP X pins D .next s') hu calm nd I hi ok hg hk hv hfs h fun L C s' m H' I' q hn f => ?_) fun _ s' hq => wpAny_pure (wpAny_pure hq))
  show wpAny _ _ (assign (.Name y py) X.env (.ref L)) _ _ _
  refine wpAny_assign_Name (store_ok2 (v := V.ref L) I' nd at_ (.inl loc) rfl (fun s2 I2 ⟨a, sb, ha⟩ => ?_) (.inr loc))
  obtain ⟨f0, f1, f2, f3, f4, f5⟩ := f
  have apart : C ≠ a := by
    rcases ha with z | z
    · rw [z]
      exact f1
    · exact fun e => f4 y a z e.symm
  exact ⟨m, hn.sameBut sb apart, fun h3 sb3 => ⟨_, H', I2.turned (t' := s2.toks) (fun b o hb e => (sb3.2 b hb).trans e) f0 f1 f3 f4 f5, q⟩⟩
theorem swD_true {kx vx : Expr} {gs : List Comprehension} {scope : Scope} {pos py : Pos} {y : Str} {l : Nat} {env : Env} (hk : env.scope.kind = .function) (hy : env.scope.names.lookup y = some .local) (hl : (py.line == pos.line) = true)
    (ha : (scope.names.any fun (n, k) => n == y && (k == .local || k == .cell)) = false) : swapsWith (.DictComp kx vx gs scope pos) (some (.Name y py)) l env = pure true := by
  have ky : env.kindOf y = some .local := hy
  have hb : env.blockKind = .function := by unfold Env.blockKind; rw [hk]; rfl
  unfold swapsWith
  simp only [hb, ky, ha, Expr.pos, hl]
  rfl
theorem dcT_it {J : It} {n : Nat} {G : Hp → Prop} {Y : Nat → Hp → V → Hp → Prop} (w : Walk J n G Y) {g : TG} {tk tv : TE} {vs : List Nat} {σ : L2.St} {H1 : Hp} {D : Addr} {Qd : Hp → Prop} (Pv : Nat → Hp → Prop) (h0 : Pv 0 (upd H1 D (.dT []))) (hG : ∀ i H, i ≤ n → Pv i H → G H)
    (hs : ∀ i x H H', i < n → Pv i H → Y i H x H' → g x (wipe σ vs) H' fun σ2 H2 => wipe σ2 vs = wipe σ vs ∧ tk σ2 H2 fun y H3 => tv σ2 H3 fun z H4 => PutT D y z H4 (Pv (i + 1))) (hd : ∀ H, Pv n H → Qd H) :
    ∃ W : Nat → Nat → Hp → Prop, (∃ m, W 0 m (upd H1 D (.dT []))) ∧ ∀ i m H, W i m H → (J.stop i H ∧ Qd H) ∨ (J.go i H ∧ ∃ Nx : Hp → Prop, (∀ H', Nx H' → ∃ m', m' < m ∧ W (i + 1) m' H') ∧ ∀ x H', J.yld i H x H' → g x (wipe σ vs) H' fun σ2 H2 => wipe σ2 vs = wipe σ vs ∧ tk σ2 H2 fun y H3 => tv σ2 H3 fun z H4 => PutT D y z H4 Nx) := by
  refine ⟨fun i m H => m = n - i ∧ i ≤ n ∧ Pv i H, ⟨n, rfl, Nat.zero_le _, h0⟩, ?_⟩
  rintro i m H ⟨rfl, hi, pv⟩
  have hq := hG i H hi pv
  by_cases hlt : i < n
  · exact .inr ⟨w.goes i H hlt hq, Pv (i + 1), fun H' p' => ⟨n - (i + 1), by omega, rfl, hlt, p'⟩, fun x H' y => hs i x H H' hlt pv (w.yields i H x H' hlt hq y)⟩
  · obtain rfl : i = n := by omega
    exact .inl ⟨w.stops H hq, hd H pv⟩
end Pf


namespace Pf
open PySem PySem.Spec PyProof.Rows L2
/-! ### a list lengthened in its place -/
theorem lk_iadd : typeLookup (.type "list") (dunderI "add") = pure (some (.builtin "list.__iadd__")) := PySem.F.slot_list_iadd.lookup
theorem nf_list : fillsNumberSlot (.type "list") "add" = pure false := by kernel_rfl
theorem iadd_lst {M : Model} {A : Around} {E : Value → Shared → Prop} {s : Shared} {a b : Value} {Q : Value → Shared → Prop} (ha : s.TypeIs a "list") (hb : s.TypeIs b "list") (hc : wpAny M A (call (.builtin "list.__iadd__") [a, b]) Q E s) : wpAny M A (inplaceOp .Add a b) Q E s := by
  unfold inplaceOp
  refine wpAny_holding ?_
  have h1 : fillsInplaceSlot (.type "list") "add" (Operator.Add == .Add) = pure false := by
    unfold fillsInplaceSlot
    show (typeLookup (.type "list") (dunderI "add") >>= fun z => pure (z.isSome && !isSeqSlot z)) = pure false
    rw [lk_iadd]
    kernel_rfl
  have h2 : seqSlot? (.type "list") (dunderI "add") = pure (some (.builtin "list.__iadd__")) := PySem.seqSlot_of lk_iadd (by kernel_rfl)
  refine wpAny_bind (wpAny_typeOf ha (wpAny_bind (wpAny_of_eq h1 ?_)))
  show wpAny M A (if false = true then _ else _) Q E s
  rw [if_neg Bool.false_ne_true]
  exact wpAny_bind (wpAny_binaryOp1_none (nm := "add") ha hb nf_list (wpAny_bind (wpAny_of_eq h2 (wpAny_bind (wpAny_rule hc)))))
def rIext : TIp := fun x y H Q => ∃ l b xs zs, x = .ref l ∧ y = .ref b ∧ H l = some (.lst xs) ∧ H b = some (.lst zs) ∧ xs.length + zs.length ≤ sizeLine ∧ Q (.ref l) (upd H l (.lst (xs ++ zs)))
theorem ip_ext {X : Cx} : PIp X .Add rIext := by
  intro pins s σ H x y v u Q I rx ry h
  obtain ⟨l, b, xs, zs, rfl, rfl, hH, hB, hz, q⟩ := h
  cases rx
  cases ry
  obtain ⟨z, its, n, r, hl, e⟩ := I.lstM hH
  obtain ⟨z2, its2, n2, r2, hl2, e2⟩ := I.lstM hB
  have hs2 : its.toArray.size + its2.toArray.size ≤ sizeLine := by
    rw [List.size_toArray, List.size_toArray]
    omega
  have long : ¬ (!its.toArray.isEmpty && Builtin.List.listTooLong (its.toArray.size + its2.toArray.size)) = true := by
    rw [notLongL hs2, Bool.and_false]
    exact Bool.false_ne_true
  refine iadd_lst ⟨_, e, rfl⟩ ⟨_, e2, rfl⟩ (call_meets PySem.F.slot_list_iadd ⟨_, e, rfl⟩ PySem.F.entry_list_iadd (PySem.F.args_list_iadd_2 _ _) (AutoSeq1.list___iadd___list_list_0 l its.toArray n b its2.toArray n2 long (by rw [List.size_toArray]; omega) (by omega)) ⟨e, e2, ?_⟩)
  refine ⟨.ref l, _, I.lset (its' := its ++ its2) hH e (by simp) (r.append r2) ?_, rfl, q⟩
  rw [List.length_append]
  omega
end Pf


namespace Pf
open PySem PySem.Spec PyProof.Rows L2
/-! ### sorted of a dict by tuples -/
theorem obj_there {P : Program} {w : World} {H : Hp} {h : Heap} {a : Addr} {o : HO} (x : ObjOk P w H h a o) : ∃ u, h.get? a = some u := by
  cases o with
  | lst _ =>
    obtain ⟨_, _, _, _, e⟩ := x
    exact ⟨_, e⟩
  | tup _ =>
    obtain ⟨_, _, _, u, e, _⟩ := x
    exact ⟨u, e⟩
  | dK _ =>
    obtain ⟨_, _, _, _, u, _, _, e, _⟩ := x
    exact ⟨u, e⟩
  | dT _ =>
    obtain ⟨_, _, _, _, u, _, _, e, _⟩ := x
    exact ⟨u, e⟩
  | set _ _ =>
    obtain ⟨u, _, _, _, e, _⟩ := x
    exact ⟨u, e⟩
  | ins _ _ _ =>
    obtain ⟨_, _, _, e, _⟩ := x
    exact ⟨_, e⟩
  | own _ => exact x
  | xd _ =>
    obtain ⟨_, ⟨u, _, _, e, _⟩, _⟩ := x
    exact ⟨u, e⟩
  | rng _ _ =>
    obtain ⟨_, _, _, e⟩ := x
    exact ⟨_, e⟩
  | frz u _ => exact ⟨u, x.1⟩
  | tbl _ => exact ⟨_, x⟩
  | met _ _ => exact ⟨_, x⟩
  | ext _ => exact x.2.1
def rSortKT (K : PySem.W.Frag) : List V → Hp → VK → Prop := fun vs H Q => ∃ (d : Addr) (kvs : List (List Key × V)), vs = [.ref d] ∧ Rd H d (.dT kvs) ∧ ∀ bs : List Addr, IsKeys H kvs bs → ∃ (β : Type) (ad : β → Addr) (dd : β → PyData) (ys : List β), bs = ys.map ad ∧ (∀ y ∈ ys, Dp K H (.ref (ad y)) (dd y) ∧ (dd y).depth ≤ 50) ∧
  PySem.W.AllAlike (ys.map dd) ∧ PySem.W.Sortable (ys.map dd) ∧ ∀ p, H p = none → Q (.ref p) (upd H p (.lst ((ys.mergeSort (PySem.W.dataLe false dd)).map fun y => .ref (ad y))))
theorem cr_sortKT (K : PySem.W.Frag) {X : Cx} (calm : X.calm = true) (hu : X.A.units + 64 < cLine) (hK : X.K = K := by rfl) : CallR X (.builtin "sorted") (rSortKT K) := by
  subst hK
  intro pins s σ H vs us Q I r h
  obtain ⟨d, kvs, rfl, hd, q⟩ := h
  obtain ⟨u, rfl, er⟩ := vals1 r
  cases er
  obtain ⟨z, hs, ks, pr, o, es, ep, ho, hx, hdt, he, hn⟩ := (show ObjOk X.prog X.w H s.heap d (.dT kvs) from hd.ok I.hok)
  have l1 : es.size = ks.length := size_of_entries he
  have l2 : kvs.length = ks.length := Paired.length pr
  obtain ⟨β, ad, dd, ys, eys, hy, al, so, qq⟩ := q _ (isKeys_of pr)
  have hyl : ys.length = ks.length := by
    have := congrArg List.length eys
    rw [List.length_map, List.length_map] at this
    exact this.symm
  refine Calls.call_function_entry kind_sorted plain_sorted entry_sorted (args_sorted1 _) ?_
  unfold Builtin.«sorted»
  refine wpAny_bind (m := checkCount "sorted" 1 1 _) (wpAny_pure ?_)
  refine wpAny_bind (PySem.W.kdu_collect (kdl_raw hs hx hdt) (I.ok.hd calm) ho (by omega) fun h1 tk acc kp items => ?_)
  have ea : acc.toList = ys.map fun y => Value.ref (ad y) := by
    have e0 : (ks.map fun x => x.2.1).map Value.ref = ys.map fun y => Value.ref (ad y) := by
      rw [eys, List.map_map]
      rfl
    rw [← e0]
    refine List.ext_getElem? fun j => ?_
    rw [List.getElem?_map, List.getElem?_map]
    cases hj : acc.toList[j]? with
    | none =>
      have := List.getElem?_eq_none_iff.mp hj
      rw [Array.length_toList, items.1] at this
      rw [List.getElem?_eq_none (by omega)]
      rfl
    | some v =>
      obtain ⟨en, hen, hv⟩ := items.2 j v (by rw [← Array.getElem?_toList]; exact hj)
      have qe := entry_at he j
      rw [hen] at qe
      cases hb : ks[j]? with
      | none =>
        rw [hb] at qe
        exact nomatch (show some en = none from qe)
      | some b =>
        rw [hb] at qe
        rw [hv, Option.some.inj (show some en = some (entryOfKey (tupleKind (mixKind X.prog X.w)) b) from qe)]
        rfl
  have hz2 : acc.toList.length ≤ sizeLine := by
    rw [ea, List.length_map]
    omega
  refine wpAny_bind (wpAny_newList ?_ hz2)
  have hat : (h1.push (seqObj "list" acc.toList.toArray 0)).get? h1.objs.size = some (seqObj "list" acc.toList.toArray 0) := Heap.get?_push_size _ rfl
  have hlt : ∀ b ob, s.heap.get? b = some ob → b ≠ h1.objs.size := fun b ob e => Nat.ne_of_lt (Heap.lt_size (kp b ob e))
  have old : ∀ b ob, s.heap.get? b = some ob → (h1.push (seqObj "list" acc.toList.toArray 0)).get? b = some ob := fun b ob e => Heap.get?_push_of_some _ (kp b ob e)
  have rel : PySem.W.EachIs (fun (v : Value) (y : β) => RelV (V.ref (ad y)) v) acc.toList ys := by
    rw [ea]
    clear q qq eys hy al so hyl ea
    induction ys with
    | nil => exact .nil
    | cons y t ih => exact .cons rfl ih
  have rv : Vals (ys.map fun y => V.ref (ad y)) acc.toList := vals_each (v := fun y => V.ref (ad y)) rel
  have rd : PySem.W.EachIs (fun (v : Value) (y : β) => ∃ as, Reads (PySem.W.sortingHeap (h1.push (seqObj "list" acc.toList.toArray 0)) h1.objs.size acc.toList) v (dd y) as) acc.toList ys := (each_reads (v := fun y => V.ref (ad y)) I rv fun y hy' => (hy y hy').1).mono fun _ _ ⟨as, w⟩ => ⟨as, PyProof.Rows.Reads.keeps (fun b ob e => PySem.W.sortingHeap_old (hlt b ob e) (old b ob e)) w⟩
  have hub : ∀ y ∈ ys, X.A.in1.in1.units + (dd y).depth < cLine := fun y hy' => by
    have := (hy y hy').2
    show X.A.units + 2 + (dd y).depth < cLine
    omega
  have S := PySem.W.SortsAt.data (prog := X.prog) (w := X.w) (A := X.A.in1.in1) (s := { s with heap := PySem.W.sortingHeap (h1.push (seqObj "list" acc.toList.toArray 0)) h1.objs.size acc.toList, toks := tk }) (PySem.W.each_map (R := fun v d => ∃ as, Reads (PySem.W.sortingHeap (h1.push (seqObj "list" acc.toList.toArray 0)) h1.objs.size acc.toList) v d as) dd rd) al so (PySem.W.bound_map hub)
  refine wpAny_bind (wpAny_holding (wpAny_call_entry slot_list_sort ⟨_, hat, rfl⟩ entry_list_sort ?body (args_list_sort _)))
  case body =>
    refine PySem.W.list_sort_vals (s := { s with heap := h1.push (seqObj "list" acc.toList.toArray 0), toks := tk }) hat S hz2 ⟨_, rfl, wpAny_pure ⟨_, rfl, ?_⟩⟩
    have each := PySem.W.sortVals_data false rel rd al
    generalize PySem.W.sortVals (PySem.W.dataKind (PySem.W.sortingHeap (h1.push (seqObj "list" acc.toList.toArray 0)) h1.objs.size acc.toList) (ys.map dd)) false acc.toList acc.toList = out at each ⊢
    obtain ⟨ee, he'⟩ := PyProof.Rows.sortedHeap_at (vs := acc.toList) (out := out.toArray) hat
    have hl2 : ((ys.mergeSort (PySem.W.dataLe false dd)).map fun y => V.ref (ad y)).length ≤ sizeLine := by
      rw [List.length_map, List.length_mergeSort]
      omega
    have gone : s.heap.get? h1.objs.size = none := by
      cases e : s.heap.get? h1.objs.size with
      | none => rfl
      | some ob => exact absurd rfl (hlt _ ob e)
    have free : H h1.objs.size = none := by
      cases e : H h1.objs.size with
      | none => rfl
      | some u =>
        obtain ⟨ob, e2⟩ := obj_there (I.hok _ _ e)
        rw [gone] at e2
        cases e2
    exact ⟨.ref h1.objs.size, upd H h1.objs.size (.lst ((ys.mergeSort (PySem.W.dataLe false dd)).map fun y => V.ref (ad y))), I.laidN (t' := tk) (fun b ob e => by rw [PyProof.Rows.sortedHeap_old (hlt b ob e) (Heap.lt_size (old b ob e))]; exact old b ob e) gone free ⟨hl2, out, ee, vals_each (v := fun y => V.ref (ad y)) each, by simpa using he'⟩, rfl, qq _ free⟩
end Pf


namespace Pf
open PySem PySem.Spec PyProof.Rows L2
/-! ### sorted of a text: its signs in some order -/
def sgs (x : Str) : List Str := x.cps.toList.map fun c => ⟨#[c]⟩
def rSortTx : List V → Hp → VK → Prop := fun vs H Q => ∃ x : Str, vs = [.str x] ∧ x.length ≤ 1000 ∧ ∀ (ys : List Str) p, ys.Perm (sgs x) → H p = none → Q (.ref p) (upd H p (.lst (ys.map V.str)))
theorem cr_sortTx {X : Cx} (calm : X.calm = true) (hu : X.A.units + 64 < cLine) : CallR X (.builtin "sorted") rSortTx := by
  intro pins s σ H vs us Q I r h
  obtain ⟨x, rfl, hx, q⟩ := h
  obtain ⟨u, rfl, t0, rfl⟩ := vals1 r
  refine Calls.call_function_entry kind_sorted plain_sorted entry_sorted (args_sorted1 _) ?_
  unfold Builtin.«sorted»
  refine wpAny_bind (m := checkCount "sorted" 1 1 _) (wpAny_pure ?_)
  refine wpAny_bind (wpAny_collect_str (A := X.A.in1) (show X.A.in1.handled = none from I.ok.hd calm) x t0 (fun s' acc kp hg hd ho items => ?_) (Nat.le_trans hx (by decide)))
  obtain ⟨h1, g1, d1, tk, os1⟩ := s'
  obtain rfl : g1 = s.gens := hg
  obtain rfl : d1 = s.drawn := hd
  obtain rfl : os1 = s.os := ho
  have kp : ∀ b o, s.heap.get? b = some o → h1.get? b = some o := kp
  have hsl : (sgs x).length = x.cps.size := by
    unfold sgs
    rw [List.length_map, Array.length_toList]
  have hal : acc.toList.length = x.cps.size := by
    rw [Array.length_toList]
    exact items.1
  have hz2 : acc.toList.length ≤ sizeLine := by
    have : x.cps.size ≤ 1000 := hx
    rw [hal]
    exact Nat.le_trans this (by decide)
  refine wpAny_bind (wpAny_newList ?_ hz2)
  have hat : (h1.push (seqObj "list" acc.toList.toArray 0)).get? h1.objs.size = some (seqObj "list" acc.toList.toArray 0) := Heap.get?_push_size _ rfl
  have hlt : ∀ b ob, s.heap.get? b = some ob → b ≠ h1.objs.size := fun b ob e => Nat.ne_of_lt (Heap.lt_size (kp b ob e))
  have old : ∀ b ob, s.heap.get? b = some ob → (h1.push (seqObj "list" acc.toList.toArray 0)).get? b = some ob := fun b ob e => Heap.get?_push_of_some _ (kp b ob e)
  have rel : PySem.W.EachIs (fun (v : Value) (y : Str) => RelV (V.str y) v) acc.toList (sgs x) := by
    have aux : ∀ (vs : List Value) (ys : List Str), vs.length = ys.length → (∀ (i : Nat) (v : Value), vs[i]? = some v → ∃ y, ys[i]? = some y ∧ RelV (V.str y) v) → PySem.W.EachIs (fun (v : Value) (y : Str) => RelV (V.str y) v) vs ys := by
      intro vs
      induction vs with
      | nil =>
        intro ys hl _
        cases ys with
        | nil => exact .nil
        | cons _ _ => cases hl
      | cons v vs ih =>
        intro ys hl h
        cases ys with
        | nil => cases hl
        | cons y ys =>
          obtain ⟨y', e, hr⟩ := h 0 v rfl
          cases e
          exact .cons hr (ih ys (Nat.succ.inj hl) fun i w hw => h (i + 1) w hw)
    refine aux _ _ (by rw [hal, hsl]) fun i v hv => ?_
    rw [Array.getElem?_toList] at hv
    obtain ⟨c, t, hc, rfl⟩ := items.2 i v hv
    refine ⟨⟨#[c]⟩, ?_, ⟨t, rfl⟩⟩
    unfold sgs
    rw [List.getElem?_map, Array.getElem?_toList, hc]
    rfl
  have rv : Vals ((sgs x).map V.str) acc.toList := vals_each (v := V.str) rel
  have rd : PySem.W.EachIs (fun (v : Value) (y : Str) => ∃ as, Reads (PySem.W.sortingHeap (h1.push (seqObj "list" acc.toList.toArray 0)) h1.objs.size acc.toList) v (PyData.str y) as) acc.toList (sgs x) := (each_reads (v := V.str) (d := PyData.str) I rv fun y hy' => .str _).mono fun _ _ ⟨as, w⟩ => ⟨as, PyProof.Rows.Reads.keeps (fun b ob e => PySem.W.sortingHeap_old (hlt b ob e) (old b ob e)) w⟩
  have hub : ∀ y ∈ sgs x, X.A.in1.in1.units + (PyData.str y).depth < cLine := fun y hy' => by
    show X.A.units + 2 + (PyData.str y).depth < cLine
    have : (PyData.str y).depth ≤ 1 := by simp [PyData.depth]
    omega
  have al : PySem.W.AllAlike ((sgs x).map PyData.str) := PySem.W.AllAlike.of fun b b' => by simp [PySem.W.alike]
  have so : PySem.W.Sortable ((sgs x).map PyData.str) := PySem.W.Sortable.others fun b => ⟨(fun z => by cases z), (fun xs z => by cases z)⟩
  have S := PySem.W.SortsAt.data (prog := X.prog) (w := X.w) (A := X.A.in1.in1) (s := { s with heap := PySem.W.sortingHeap (h1.push (seqObj "list" acc.toList.toArray 0)) h1.objs.size acc.toList, toks := tk }) (PySem.W.each_map (R := fun v d => ∃ as, Reads (PySem.W.sortingHeap (h1.push (seqObj "list" acc.toList.toArray 0)) h1.objs.size acc.toList) v d as) PyData.str rd) al so (PySem.W.bound_map hub)
  refine wpAny_bind (wpAny_holding (wpAny_call_entry slot_list_sort ⟨_, hat, rfl⟩ entry_list_sort ?body (args_list_sort _)))
  case body =>
    refine PySem.W.list_sort_vals (s := { s with heap := h1.push (seqObj "list" acc.toList.toArray 0), toks := tk }) hat S hz2 ⟨_, rfl, wpAny_pure ⟨_, rfl, ?_⟩⟩
    have each := PySem.W.sortVals_data false rel rd al
    generalize PySem.W.sortVals (PySem.W.dataKind (PySem.W.sortingHeap (h1.push (seqObj "list" acc.toList.toArray 0)) h1.objs.size acc.toList) ((sgs x).map PyData.str)) false acc.toList acc.toList = out at each ⊢
    obtain ⟨ee, he'⟩ := PyProof.Rows.sortedHeap_at (vs := acc.toList) (out := out.toArray) hat
    have hl2 : (((sgs x).mergeSort (PySem.W.dataLe false PyData.str)).map V.str).length ≤ sizeLine := by
      rw [List.length_map, List.length_mergeSort, hsl]
      exact Nat.le_trans hx (by decide)
    have gone : s.heap.get? h1.objs.size = none := by
      cases e : s.heap.get? h1.objs.size with
      | none => rfl
      | some ob => exact absurd rfl (hlt _ ob e)
    have free : H h1.objs.size = none := by
      cases e : H h1.objs.size with
      | none => rfl
      | some u =>
        obtain ⟨ob, e2⟩ := obj_there (I.hok _ _ e)
        rw [gone] at e2
        cases e2
    exact ⟨.ref h1.objs.size, upd H h1.objs.size (.lst (((sgs x).mergeSort (PySem.W.dataLe false PyData.str)).map V.str)), I.laidN (t' := tk) (fun b ob e => by rw [PyProof.Rows.sortedHeap_old (hlt b ob e) (Heap.lt_size (old b ob e))]; exact old b ob e) gone free ⟨hl2, out, ee, vals_each (v := V.str) each, by simpa using he'⟩, rfl, q _ _ (List.mergeSort_perm _ _) free⟩
/-! ### a text backwards -/
def revX (x : Str) : Str := ⟨((List.range x.length).map fun k => x.cps.getD (x.length - 1 - k) 0).toArray⟩
theorem revX_is (x : Str) (u : Tok) : Txt.sliceBy x none none (-1, u) = revX x := by
  refine PySem.W.str_of_cps ?_
  rw [PyProof.Rows.step_rev_list]
  rfl
theorem revX_len (x : Str) : (revX x).length = x.length := by
  show ((List.range x.length).map fun k => x.cps.getD (x.length - 1 - k) 0).toArray.size = _
  rw [List.size_toArray, List.length_map, List.length_range]
def tRevX (te : TE) : TE := fun σ H Q => te σ H fun x H1 => ∃ z : Str, x = .str z ∧ z.length ≤ sizeLine ∧ Q (.str (revX z)) H1
theorem pe_revX {X : Cx} {e : Expr} {te : TE} {k : Nat} {p1 p2 p3 pos : Pos} (he : PE X e te) : PE X (.Subscript e (.Slice none none (some (.UnaryOp .USub (.Constant (.int 1) k p1) p2)) p3) pos) (tRevX te) := by
  refine ⟨fun pins s σ H Q I h => ?_⟩
  refine Subscript_ (thn (he.run pins s σ H _ I h) fun v s1 ⟨x, H1, I1, r1, q1⟩ => ?_)
  obtain ⟨z, rfl, hz, q⟩ := q1
  obtain ⟨t, rfl⟩ := r1
  have hst : PO X (some (.UnaryOp .USub (.Constant (.int 1) k p1) p2)) (tPart (tUn (rU fun i => .int (-i)) (tC (.int 1)))) := po_some (pe_un un_neg pe_int)
  refine wpAny_Slice (thn (po_none.run pins s1 σ H1 (fun o H2 => o = none ∧ H2 = H1) I1 ⟨rfl, rfl⟩) fun vl s2 ⟨l, H2, I2, pl, el, e2⟩ => ?_)
  subst el e2
  refine thn (po_none.run pins s2 σ H2 (fun o H3 => o = none ∧ H3 = H2) I2 ⟨rfl, rfl⟩) fun vu s3 ⟨u, H3, I3, pu, eu, e3⟩ => ?_
  subst eu e3
  refine thn (hst.run pins s3 σ H3 (fun o H4 => o = some (-1) ∧ H4 = H3) I3 ⟨1, rfl, -1, rfl, rfl, rfl⟩) fun vs s4 ⟨o, H4, I4, ps, eo, e4⟩ => ?_
  subst eo e4
  cases pl
  cases pu
  cases ps with
  | int i t5 =>
    refine tail_any (ops := [.str z t, .ref s4.heap.objs.size]) (typeIs_str _ _ _) (PySem.F.slot_str_getitem.lookup) ?_ (by with_unfolding_all rfl)
    refine wpAny_getItem_str_slice (l := none) (u := none) (st := some (-1, t5)) ⟨_, Heap.get?_push_size _ rfl, rfl, rfl⟩ rfl ?_
    refine post_val_or_str ⟨Nat.le_trans (Txt.sliceBy_le z none none (-1, t5) (show (-1 : Int) ≠ 0 by decide)) hz, fun t6 tk => ?_⟩
    refine ⟨.str (revX z), H4, (I4.kept (t' := tk) fun b ob q => Heap.get?_push_of_some _ q), ⟨t6, ?_⟩, q⟩
    rw [← revX_is z t5]
    rfl
end Pf


namespace Pf
open PySem PySem.Spec PyProof.Rows L2
/-! ### a text so many times: some text of its letters, no longer than it may be -/
theorem rep_cps (x : Array Nat) : ∀ (n : Nat) (acc : Array Nat), (((List.replicate n x).foldl (· ++ ·) acc).size = acc.size + x.size * n) ∧ ∀ c ∈ ((List.replicate n x).foldl (· ++ ·) acc).toList, c ∈ acc.toList ∨ c ∈ x.toList
  | 0, acc => ⟨by rw [Nat.mul_zero]; rfl, fun c h => .inl h⟩
  | n + 1, acc => by
    have ih := rep_cps x n (acc ++ x)
    rw [List.replicate_succ, List.foldl_cons]
    refine ⟨?_, fun c h => ?_⟩
    · rw [ih.1, Array.size_append, Nat.mul_succ]
      omega
    · rcases ih.2 c h with z | z
      · rw [Array.toList_append, List.mem_append] at z
        exact z
      · exact .inr z
def rRepS : R2 := fun x y H Q => ∃ (z : Str) (k : Int), x = .str z ∧ y = .int k ∧ 0 ≤ k ∧ k ≤ 1000 ∧ z.length ≤ 1000 ∧ ∀ w : Str, w.length ≤ z.length * k.toNat → (∀ c ∈ w.cps.toList, c ∈ z.cps.toList) → Q (.str w) H
theorem op_repS {X : Cx} : OpR X (binaryOp .Mult) rRepS := by
  intro pins s σ H x y v u Q I rx ry h
  obtain ⟨z, k, rfl, rfl, k0, k1, hz, q⟩ := h
  obtain ⟨t, rfl⟩ := rx
  obtain ⟨t2, rfl⟩ := ry
  have hm : z.length * k.toNat ≤ 1000 * 1000 := Nat.mul_le_mul hz (by omega)
  have hbig : (z.length : Int) * k ≤ 1000 * 1000 := Int.mul_le_mul (by omega) k1 k0 (by decide)
  refine PySem.P.mul_str (by rw [decide_eq_false (by omega), decide_eq_false (by omega)]; rfl) (fun h1 _ z2 => ?_) (fun _ _ => ?_) ?_
  · have h3 : (1000 : Int) ≤ (2 ^ 63 - 1) / k := by
      rw [Int.le_ediv_iff_mul_le (by omega)]
      omega
    omega
  · unfold Builtin.Str.tooLong
    exact decide_eq_false (by rw [sizeLine_eq]; omega)
  · by_cases c1 : k < 1
    · rw [if_pos c1]
      exact ⟨by decide, .str Str.empty, H, I.tok _, ⟨_, rfl⟩, q _ (Nat.zero_le _) (fun c hc => by cases hc)⟩
    · rw [if_neg c1]
      by_cases c2 : (k == 1 || z.length == 0) = true
      · rw [if_pos c2]
        refine ⟨.str z, H, I, ⟨_, rfl⟩, q z ?_ fun _ hc => hc⟩
        exact Nat.le_mul_of_pos_right _ (by omega)
      · rw [if_neg c2]
        have hr := rep_cps z.cps k.toNat #[]
        have hl : (⟨(List.replicate k.toNat z.cps).foldl (· ++ ·) #[]⟩ : Str).length = z.length * k.toNat := by
          show ((List.replicate k.toNat z.cps).foldl (· ++ ·) #[]).size = _
          rw [hr.1]
          show 0 + z.length * k.toNat = _
          omega
        refine ⟨?_, .str _, H, I.tok _, ⟨_, rfl⟩, q _ (Nat.le_of_eq hl) fun c hc => ?_⟩
        · rw [hl, sizeLine_eq]
          omega
        · rcases hr.2 c hc with y | y
          · cases y
          · exact y
/-! ### a list under way -/
section
variable {β : Type} {R : Hp → V → β → Prop} {D : Addr} {H H1 H4 : Hp} {ys : List β} {v : V} {b : β}
def GenL (R : Hp → V → β → Prop) (D : Addr) (H1 : Hp) (ys : List β) (H : Hp) : Prop := ∃ vs, H D = some (.lst vs) ∧ Paired (R H) vs ys ∧ Ext H1 H
theorem genl_new (hD : H1 D = none) : GenL R D H1 [] (upd H1 D (.lst [])) := ⟨[], upd_same, .nil, Ext.new hD⟩
theorem GenL.ext (h : GenL R D H1 ys H) : Ext H1 H := by
  obtain ⟨_, _, _, k⟩ := h
  exact k
theorem GenL.keep (m : Mono R) (h : GenL R D H1 ys H) (k : Ext H H4) : GenL R D H1 ys H4 := by
  obtain ⟨vs, hL, hP, k1⟩ := h
  exact ⟨vs, k _ _ hL, paired_imp (fun _ _ => m _ _ _ _ (TupK.ext k)) hP, k1.trans k⟩
theorem genl_step (m : Mono R) (hD : H1 D = none) (h : GenL R D H1 ys H) (k : Ext H H4) (hv : R H4 v b) (hn : ys.length < 1000000) : ∃ acc, H4 D = some (.lst acc) ∧ acc.length < sizeLine ∧ GenL R D H1 (ys ++ [b]) (upd H4 D (.lst (acc ++ [v]))) := by
  obtain ⟨vs, hL, hP, k1⟩ := h
  have hl := paired_len hP
  have hL4 := k _ _ hL
  exact ⟨vs, hL4, szLt (by omega), vs ++ [v], upd_same, paired_app (paired_imp (fun _ _ => m _ _ _ _ ((TupK.ext k).trans (TupK.lst hL4))) hP) (.cons (m _ _ _ _ (TupK.lst hL4) hv) .nil), (k1.trans k).put hD⟩
/-- one more at its end -/
theorem app_ok {Q : VK} (m : Mono R) (hD : H1 D = none) (h : GenL R D H1 ys H) (k : Ext H H4) (hv : R H4 v b) (hn : ys.length < 1000000) (q : ∀ H', GenL R D H1 (ys ++ [b]) H' → Q .non H') : rAppend (.ref D) [v] H4 Q := by
  obtain ⟨acc, h1, h2, h3⟩ := genl_step m hD h k hv hn
  exact ⟨D, acc, v, rfl, rfl, h1, h2, q _ h3⟩
theorem GenL.sq {K : PySem.W.Frag} (h : GenL R D H1 ys H) : ∃ vs, SqL K H D vs := by
  obtain ⟨vs, h1, _⟩ := h
  exact ⟨vs, SqL.of h1⟩
end
theorem putT_len (c : List (List Key × V)) (k : List Key) (v : V) : (putK c k v).length ≤ c.length + 1 := by
  unfold putK
  split
  · rw [List.length_map]
    omega
  · rw [List.length_append, List.length_singleton]
    exact Nat.le_refl _
end Pf


namespace Pf
open PySem PySem.Spec PyProof.Rows L2 HT
/-! ### a product in its place; a tuple lengthened; data compared -/
def ipM : TIp := fun x y H Q => ∃ i j, x = .int i ∧ y = .int j ∧ CMul i j ∧ Q (.int (i * j)) H
theorem ip_mul {X : Cx} : PIp X .Mult ipM := by
  intro pins s σ H x y v u Q I r1 r2 h
  obtain ⟨i, j, e1, e2, hc, q⟩ := h
  subst e1; subst e2
  obtain ⟨t, rfl⟩ := r1
  obtain ⟨t', rfl⟩ := r2
  exact imul_int ⟨.int _, H, I.tok _, ⟨_, rfl⟩, q⟩ hc.ok
theorem no_tup_iadd : typeLookup (.type "tuple") (dunderI "add") = pure none := by kernel_rfl
def rItup : TIp := fun x y H Q => ∃ a b xs ys, x = .ref a ∧ y = .ref b ∧ H a = some (.tup xs) ∧ H b = some (.tup ys) ∧ xs.length + ys.length ≤ sizeLine ∧ ∀ p H', Ext H H' → H' p = some (.tup (xs ++ ys)) → Q (.ref p) H'
theorem ip_tup {X : Cx} : PIp X .Add rItup := by
  intro pins s σ H x y v u Q I rx ry h
  obtain ⟨a, b, xs, ys, rfl, rfl, ha, hb, hz, q⟩ := h
  cases rx
  cases ry
  obtain ⟨its, r1, p1, _⟩ := I.tuple (SqT.of (K := X.K) ha)
  obtain ⟨its2, r2, p2, _⟩ := I.tuple (SqT.of (K := X.K) hb)
  obtain ⟨⟨cls, dd, data, sl⟩, ho, hc, n, hd⟩ := id p1
  obtain ⟨⟨cls2, dd2, data2, sl2⟩, ho2, hc2, n2, hd2⟩ := id p2
  simp only at hc hd hc2 hd2
  subst hc hd hc2 hd2
  have e : its.toArray ++ its2.toArray = (its ++ its2).toArray := by simp
  have go : ∀ {S : PySem.Spec}, PySem.Meets (Builtin.«tuple.__add__» ⟨[.ref a, .ref b], []⟩) S → S X.A (wants (EP X pins σ Q) X.xe) s → wpAny (model X.prog X.w) X.A (inplaceOp .Add (.ref a) (.ref b)) (EP X pins σ Q) X.xe s := fun g h =>
    inplaceOp_concat ⟨_, ho, rfl⟩ ⟨_, ho2, rfl⟩ no_tup_iadd PySem.noFill_tuple_add PySem.seq_tuple_add (call_meets PySem.F.slot_tuple_add ⟨_, ho, rfl⟩ PySem.F.entry_tuple_add (PySem.F.args_tuple_add_2 _ _) g h)
  by_cases h1 : its = []
  · have hx : xs = [] := by
      have := r1.length
      rw [h1] at this
      exact List.eq_nil_of_length_eq_zero this
    exact go (tuple_addW0 a b its.toArray its2.toArray n n2 dd dd2 sl sl2 (by simp [h1])) ⟨ho, ho2, .ref b, H, I, rfl, q b H Ext.refl (by rw [hx]; exact hb)⟩
  · by_cases h2 : its2 = []
    · have hy : ys = [] := by
        have := r2.length
        rw [h2] at this
        exact List.eq_nil_of_length_eq_zero this
      exact go (tuple_addW1 a b its.toArray its2.toArray n n2 dd dd2 sl sl2 (by simpa using h1) (by simp [h2])) ⟨ho, ho2, .ref a, H, I, rfl, q a H Ext.refl (by rw [hy, List.append_nil]; exact ha)⟩
    · refine go (tuple_addW2 a b its.toArray its2.toArray n n2 dd dd2 sl sl2 (by simpa using h1) (by simpa using h2) (by rw [List.size_toArray, List.size_toArray, ← r1.length, ← r2.length]; exact hz)) ⟨ho, ho2, ?_⟩
      rw [e]
      refine ⟨.ref s.heap.objs.size, _, I.laid (t' := s.toks) (o := .tup (xs ++ ys)) (fun b ob q => Heap.get?_push_of_some _ q) (Nat.le_refl _) ?_, rfl, q _ _ (Ext.new (I.hok.fresh (Nat.le_refl _))) upd_same⟩
      exact ⟨by rw [List.length_append]; exact hz, _, r1.append r2, IsTup.new _ _⟩
def rLtD (K : PySem.W.Frag) : R2 := fun x y H Q => ∃ d e, Dp K H x d ∧ Dp K H y e ∧ PySem.W.alike d e = true ∧ d ≠ .none ∧ d.depth ≤ 64 ∧ Q (.bl (PySem.W.dataLt d e)) H
theorem ltD (K : PySem.W.Frag) {X : Cx} (hu : X.A.units + 64 < cLine) (h : X.K = K := by rfl) : OpR X (compareOp .Lt) (rLtD K) := by
  subst h
  intro pins s σ H x y v u Q I rx ry h
  obtain ⟨d, e, hd, he, ha, hn, hdp, q⟩ := h
  obtain ⟨as, r1⟩ := Dp.reads I d x v hd rx
  obtain ⟨bs, r2⟩ := Dp.reads I e y u he ry
  exact PySem.W.lt_data r1 r2 ha hn (by have := Nat.min_le_left d.depth e.depth; omega) ⟨.bl _, H, I, rfl, q⟩
end Pf


namespace Pf
open PySem PySem.Spec PyProof.Rows L2
def topS (i : Nat) : Stmt := PySem.Challenge.pw_pairfolds_k06_whole_rules_told_otherwise.main.body.getD i (.Pass ⟨0, 0, 0, 0⟩)
/-! ### the pen: a list of cells, a place, a rest -/
def Pen (H : Hp) (p c : Addr) (n : Nat) : Prop := ∃ (cells : List Int) (a r : Int), H p = some (.lst [.ref c, .int a, .int r]) ∧ H c = some (.lst (cells.map V.int)) ∧ 0 ≤ a ∧ a ≤ n ∧ 0 ≤ r ∧ cells.length ≤ 63
section
variable {H H' : Hp} {p c q : Addr} {n m : Nat} {o : HO}
theorem Pen.mono (h : Pen H p c n) (l : n ≤ m) : Pen H p c m := by
  obtain ⟨cells, a, r, h1, h2, h3, h4, h5, h6⟩ := h
  exact ⟨cells, a, r, h1, h2, h3, by omega, h5, h6⟩
theorem Pen.put (h : Pen H p c n) (hp : q ≠ p) (hc : q ≠ c) : Pen (upd H q o) p c n := by
  obtain ⟨cells, a, r, h1, h2, h3⟩ := h
  exact ⟨cells, a, r, by rw [upd_ne hp.symm]; exact h1, by rw [upd_ne hc.symm]; exact h2, h3⟩
theorem Pen.ne (h : Pen H p c n) (hq : H q = none) : q ≠ p ∧ q ≠ c := by
  obtain ⟨cells, a, r, h1, h2, h3⟩ := h
  exact ⟨(ne_of_none h1 hq).symm, (ne_of_none h2 hq).symm⟩
theorem Pen.new (h : Pen H p c n) (hq : H q = none) : Pen (upd H q o) p c n := h.put (h.ne hq).1 (h.ne hq).2
theorem Pen.tup (h : Pen H p c n) {b : Addr} {xs : List V} (e : H b = some (.tup xs)) : b ≠ p := by
  obtain ⟨cells, a, r, h1, _⟩ := h
  exact ne_of e h1 (by intro z; cases z)
theorem Pen.frz (h : Pen H p c n) {b : Addr} {ob : Obj} {u : HO} (e : H b = some (.frz ob u)) : b ≠ p := by
  obtain ⟨cells, a, r, h1, _⟩ := h
  exact ne_of e h1 (by intro z; cases z)
theorem Pen.ext (h : Pen H p c n) (k : Ext H H') : Pen H' p c n := by
  obtain ⟨cells, a, r, h1, h2, h3⟩ := h
  exact ⟨cells, a, r, k _ _ h1, k _ _ h2, h3⟩
end
theorem TupK.of {p c : Addr} {n : Nat} {H H' : Hp} (k : Kp p H H') (hP : Pen H p c n) : TupK H H' := ⟨fun b _ e => k b _ (hP.tup e) e, fun b _ _ e => k b _ (hP.frz e) e⟩
theorem Kp.ext {p : Addr} {H H' : Hp} (k : Ext H H') : Kp p H H' := fun b o _ e => k b o e
theorem dpInts {K : PySem.W.Frag} {H : Hp} : ∀ cells : List Int, DpAll K H (cells.map V.int) (cells.map PyData.int)
  | [] => .nil
  | _ :: r => .cons (.int _) (dpInts r)
section
variable {P : Program} {w : World} {K : PySem.W.Frag} {mg : Str → Option Value} {base : Heap}
/-! ### draw -/
abbrev s_law_draw : Stmt := topS 29
theorem sc_law_draw : FnScope ["_law_pen", "_law_many", "_law_digit", "_law_at", "_law_cell", "_law_stirred"] ["_law_pen", "_law_many"] (defScope s_law_draw) :=
  ⟨rfl, rfl, rfl, by decide +kernel, rfl, by decide +kernel, by decide +kernel⟩
def spDraw : Sp := fun vs H Q _ => ∃ (p c : Addr) (m : Int) (n : Nat), vs = [.ref p, .int m] ∧ Pen H p c n ∧ n < 1000000 ∧ 0 < m ∧ m < 1000000 ∧
  ∀ r H', 0 ≤ r → r < m → Kp p H H' → Pen H' p c (n + 1) → Q (.int r) H'
theorem draw_b1 {z a : Int} (a0 : 0 ≤ a) (a1 : a ≤ 1000000) : (z % 2147483563 + 80021 * a * a + 40009 * a + 47).natAbs < 2 ^ 64 := by
  have h1 : 80021 * a * a ≤ 80021 * 1000000 * 1000000 := Int.mul_le_mul (by omega) a1 a0 (by decide)
  have h2 : 0 ≤ 80021 * a * a := Int.mul_nonneg (by omega) a0
  have h3 := Int.emod_nonneg z (show (2147483563 : Int) ≠ 0 by decide)
  have h4 := Int.emod_lt_of_pos z (show (0 : Int) < 2147483563 by decide)
  omega
theorem draw_b2 (z : Int) : -(2 ^ 64) < z % 2147483647 ∧ z % 2147483647 < 2 ^ 64 := by
  have h3 := Int.emod_nonneg z (show (2147483647 : Int) ≠ 0 by decide)
  have h4 := Int.emod_lt_of_pos z (show (0 : Int) < 2147483647 by decide)
  omega
theorem draw_b3 (z : Int) {a : Int} (a0 : 0 ≤ a) (a1 : a ≤ 1000000) : (z % 2147483647 * (9 * a + 4) + 60013).natAbs < 2 ^ 64 := by
  have h3 := Int.emod_nonneg z (show (2147483647 : Int) ≠ 0 by decide)
  have h4 := Int.emod_lt_of_pos z (show (0 : Int) < 2147483647 by decide)
  have h1 : z % 2147483647 * (9 * a + 4) ≤ 2147483647 * 9000004 := Int.mul_le_mul (by omega) (by omega) (by omega) (by decide)
  have h2 : 0 ≤ z % 2147483647 * (9 * a + 4) := Int.mul_nonneg h3 (by omega)
  omega
theorem ok_draw {f : Addr} {fd : FuncData} {k : Nat} (F : Fun K "_law_draw" "_law_draw" s_law_draw f fd) (mlen : mg "len" = none) (mabs : mg "abs" = none) : FnOk P w K mg base CX0 (k + 1) f fd ["_law_pen", "_law_many"] spDraw := by
  refine F.ok sc_law_draw (fun vs H Q E h => ?_) (fun cdv A outer s H vs Q E hr h => ?_)
  · obtain ⟨p, c, m, n, rfl, _⟩ := h
    rfl
  · obtain ⟨p, c, m, n, rfl, hP, hn, m0, m1, q⟩ := h
    obtain ⟨cells, a, r, hp, hc, a0, a1, r0, cl⟩ := hP
    refine ⟨_, (pss_cons (ps_if (pt_cmpR op_gt (pe_ix (ixL K) (pv 0) pe_int (fun _ _ => rfl)) pe_int (nomark _)) (pss_cons (ps_set (i := 2) sc_law_draw.nd rfl (.inl rfl) (pe_op op_mod (pe_ix (ixL K) (pv 0) pe_int (fun _ _ => rfl)) (pv 1)))
      (pss_cons (ps_asg (pe_op op_fdiv (pe_ix (ixL K) (pv 0) pe_int (fun _ _ => rfl)) (pv 1)) (pg_sub (pv 0) pe_int set_list))
      (pss_one (ps_ret (pv 2))))) pss_nil)
      (pss_cons (ps_set (i := 3) sc_law_draw.nd rfl (.inl rfl) (pe_ix (ixL K) (pv 0) pe_int (fun _ _ => rfl)))
      (pss_cons (ps_asg (pe_op op_add (pv 3) pe_int) (pg_sub (pv 0) pe_int set_list))
      (pss_cons (ps_set (i := 4) sc_law_draw.nd rfl (.inl rfl) (pe_op op_add (pe_op op_mul pe_int (pv 3)) pe_int))
      (pss_cons (ps_if (pt_cmpR (neD K hr.units) (pe_ix (ixL K) (pv 0) pe_int (fun _ _ => rfl)) (pe_lst pa_nil) (nomark _)) (pss_one (ps_set (i := 4) sc_law_draw.nd rfl (.inl rfl) (pe_ix (ixL K) (pe_ix (ixL K) (pv 0) pe_int (fun _ _ => rfl)) (pe_op op_mod (pv 3) (pe_callB (lenQ K) (by rfl) mlen (by decide +kernel) (pa_cons (pe_ix (ixL K) (pv 0) pe_int (fun _ _ => rfl)) pa_nil))) (fun _ _ => rfl)))) pss_nil)
      (pss_cons (ps_if (PW.pt (pw_and (pt_cmpR op_lt (pv 3) (pe_callB (lenQ K) (by rfl) mlen (by decide +kernel) (pa_cons (pe_ix (ixL K) (pv 0) pe_int (fun _ _ => rfl)) pa_nil)) (nomark _)) (pw_and1 (pt_cmpR op_ge (pe_callB call_abs (by rfl) mabs (by decide +kernel) (pa_cons (pv 4) pa_nil)) (pe_op op_pow pe_int pe_int) (nomark _))))) (pss_cons (ps_asg (pe_op op_fdiv (pe_callB call_abs (by rfl) mabs (by decide +kernel) (pa_cons (pv 4) pa_nil)) (pv 1)) (pg_sub (pv 0) pe_int set_list))
      (pss_one (ps_ret (pe_op op_mod (pe_callB call_abs (by rfl) mabs (by decide +kernel) (pa_cons (pv 4) pa_nil)) (pv 1))))) pss_nil)
      (pss_cons (ps_set (i := 5) sc_law_draw.nd rfl (.inl rfl) (pe_op op_mod (pe_op op_pow (pe_op op_add (pe_op op_add (pe_op op_add (pe_op op_mod (pv 4) pe_int) (pe_op op_mul (pe_op op_mul pe_int (pv 3)) (pv 3))) (pe_op op_mul pe_int (pv 3))) pe_int) pe_int) pe_int))
      (pss_cons (ps_set (i := 5) sc_law_draw.nd rfl (.inl rfl) (pe_op op_mod (pe_op op_pow (pe_op op_add (pe_op op_mul (pv 5) (pe_op op_add (pe_op op_mul pe_int (pv 3)) pe_int)) pe_int) pe_int) pe_int))
      (pss_one (ps_ret (pe_op op_mod (pe_op op_fdiv (pv 5) pe_int) (pv 1)))))))))))), ?_⟩
    have ncp : c ≠ p := ne_of hc hp (by
      intro z
      injection z with z
      cases cells with
      | nil => cases z
      | cons x y => injection z with z1 _; cases z1)
    -- if pen[2] > 0
    refine ⟨.ref p, rfl, p, _, 2, .int r, rfl, rfl, SqL.of hp, rfl, _, _, rfl, rfl, _, rfl, ite2 (fun e => ?_) (fun e => ?_)⟩
    · refine ⟨.ref p, rfl, p, _, 2, .int r, rfl, rfl, SqL.of hp, rfl, .int m, rfl, r, m, rfl, rfl, m0, ?_⟩
      refine ⟨.ref p, rfl, p, _, 2, .int r, rfl, rfl, SqL.of hp, rfl, .int m, rfl, r, m, rfl, rfl, ⟨m0, by omega⟩, .ref p, rfl, p, _, 2, 2, rfl, rfl, hp, rfl, ?_⟩
      refine ⟨_, rfl, q _ _ (Int.emod_nonneg _ (by omega)) (Int.emod_lt_of_pos _ m0) Kp.at ⟨cells, a, r / m, upd_same, ?_, a0, by omega, Int.ediv_nonneg r0 (by omega), cl⟩⟩
      rw [upd_ne ncp]
      exact hc
    · -- at = pen[1]; pen[1] = at + 1
      refine ⟨.ref p, rfl, p, _, 1, .int a, rfl, rfl, SqL.of hp, rfl, ?_⟩
      refine ⟨.int a, rfl, a, 1, rfl, rfl, .ref p, rfl, p, _, 1, 1, rfl, rfl, hp, rfl, ?_⟩
      have hp1 : (upd H p (.lst [.ref c, .int (a + 1), .int r])) p = some (.lst [.ref c, .int (a + 1), .int r]) := upd_same
      have hc1 : (upd H p (.lst [.ref c, .int (a + 1), .int r])) c = some (.lst (cells.map V.int)) := by
        rw [upd_ne ncp]
        exact hc
      -- cell = 70003 * at + 83
      refine ⟨.int a, rfl, 70003, a, rfl, rfl, .inl ⟨by decide, by decide⟩, _, 83, rfl, rfl, ?_⟩
      refine ⟨.ref p, rfl, p, _, 0, .ref c, rfl, rfl, SqL.of hp1, rfl, Nat.zero_le _, fun l hl => ?_⟩
      have nlp : l ≠ p := (ne_of_none hp1 hl).symm
      have nlc : l ≠ c := (ne_of_none hc1 hl).symm
      have hl0 : H l = none := by
        have h := hl
        rw [upd_ne nlp] at h
        exact h
      have hp2 : (upd (upd H p (.lst [.ref c, .int (a + 1), .int r])) l (.lst [])) p = some (.lst [.ref c, .int (a + 1), .int r]) := by
        rw [upd_ne nlp.symm]
        exact hp1
      have hc2 : (upd (upd H p (.lst [.ref c, .int (a + 1), .int r])) l (.lst [])) c = some (.lst (cells.map V.int)) := by
        rw [upd_ne nlc.symm]
        exact hc1
      have k2 : Kp p H (upd (upd H p (.lst [.ref c, .int (a + 1), .int r])) l (.lst [])) := Kp.at.put hl0
      refine ⟨.list (cells.map .int), .list [], .lst (SqL.of hc2) (dpInts cells), .lst (SqL.of upd_same) .nil, PySem.W.shaped_ints _, by decide, _, rfl, ite2 (fun e1 => ?_) (fun e1 => ?_)⟩
      have hne : 0 < cells.length := by
        cases cells with
        | nil => cases e1
        | cons x y => exact Nat.succ_pos _
      have hl1 : ((cells.map V.int).length : Int) = cells.length := by rw [List.length_map]
      obtain ⟨z, _, hat⟩ := atI_ints (ns := cells) (Int.emod_nonneg a (show ((cells.map V.int).length : Int) ≠ 0 by omega)) (by
        have := Int.emod_lt_of_pos a (show (0 : Int) < ((cells.map V.int).length : Int) by omega)
        omega)
      have hl2 : (0 : Int) < ((cells.map V.int).length : Int) := by omega
      refine ⟨.ref p, rfl, p, _, 0, .ref c, rfl, rfl, SqL.of hp2, rfl, .int a, rfl, .ref p, rfl, p, _, 0, .ref c, rfl, rfl, SqL.of hp2, rfl, c, _, rfl, .inl (SqL.of hc2), _, _, rfl, rfl, hl2, c, _, _, _, rfl, rfl, SqL.of hc2, hat, ?_⟩
      all_goals
        refine ⟨.int a, rfl, .ref p, rfl, p, _, 0, .ref c, rfl, rfl, SqL.of hp2, rfl, c, _, rfl, .inl (SqL.of hc2), _, _, rfl, rfl, _, rfl, ite2 (fun e2 => ?_) (fun e2 => ?_)⟩
        refine ⟨_, rfl, _, rfl, 10, 18, rfl, rfl, ⟨by decide, by decide, by decide⟩, _, _, rfl, rfl, _, rfl, ite2 (fun e3 => ?_) (fun e3 => ?_)⟩
        · refine ⟨_, rfl, _, rfl, .int m, rfl, _, m, rfl, rfl, ⟨m0, by omega⟩, .ref p, rfl, p, _, 2, 2, rfl, rfl, hp2, rfl, ?_⟩
          refine ⟨_, rfl, _, rfl, .int m, rfl, _, m, rfl, rfl, m0, q _ _ (Int.emod_nonneg _ (by omega)) (Int.emod_lt_of_pos _ m0) (k2.trans Kp.at) ⟨cells, a + 1, _, upd_same, ?_, by omega, by omega, Int.ediv_nonneg ?_ (by omega), cl⟩⟩
          · rw [upd_ne ncp]
            exact hc2
          · split <;> omega
        all_goals
          have ha2 : 80021 * a ≤ 80021 * 1000000 := by omega
          have ha3 : 0 ≤ 80021 * a := by omega
          refine ⟨_, rfl, _, 2147483563, rfl, rfl, (show (0 : Int) < 2147483563 by decide), .int a, rfl, 80021, a, rfl, rfl, .inl ⟨by decide, by decide⟩, .int a, rfl, _, a, rfl, rfl, .inl ⟨by omega, by omega⟩, _, _, rfl, rfl, .int a, rfl, 40009, a, rfl, rfl, .inl ⟨by decide, by decide⟩, _, _, rfl, rfl, _, 47, rfl, rfl, _, 3, rfl, rfl, ⟨by decide, by decide, draw_b1 a0 (by omega)⟩, _, 2147483647, rfl, rfl, (show (0 : Int) < 2147483647 by decide), ?_⟩
          refine ⟨_, rfl, .int a, rfl, 9, a, rfl, rfl, .inl ⟨by decide, by decide⟩, _, 4, rfl, rfl, _, _, rfl, rfl, .inl (draw_b2 _), _, 60013, rfl, rfl, _, 3, rfl, rfl, ⟨by decide, by decide, draw_b3 _ a0 (by omega)⟩, _, 2147483587, rfl, rfl, (show (0 : Int) < 2147483587 by decide), ?_⟩
          refine ⟨_, rfl, _, 32, rfl, rfl, ⟨by decide, by decide⟩, .int m, rfl, _, m, rfl, rfl, m0, q _ _ (Int.emod_nonneg _ (by omega)) (Int.emod_lt_of_pos _ m0) k2 ⟨cells, a + 1, r, hp2, hc2, by omega, by omega, r0, cl⟩⟩
end
end Pf


namespace Pf
open PySem PySem.Spec PyProof.Rows L2
section
variable {P : Program} {w : World} {K : PySem.W.Frag} {mg : Str → Option Value} {base : Heap}
abbrev CDraw (P : Program) (w : World) (K : PySem.W.Frag) (mg : Str → Option Value) (base : Heap) : Prop := Ca P w K mg base 1 "_law_draw" ["_law_pen", "_law_many"] spDraw
/-! ### few -/
abbrev s_law_few : Stmt := topS 32
theorem sc_law_few : FnScope ["_law_pen"] ["_law_pen"] (defScope s_law_few) :=
  ⟨rfl, rfl, rfl, by decide +kernel, rfl, by decide +kernel, by decide +kernel⟩
def spFew : Sp := fun vs H Q _ => ∃ (p c : Addr) (n : Nat), vs = [.ref p] ∧ Pen H p c n ∧ n < 1000000 ∧
  ∀ (i : Int) H', -99 ≤ i → i ≤ 99 → Kp p H H' → Pen H' p c (n + 1) → Q (.int i) H'
theorem ok_few {f : Addr} {fd : FuncData} (F : Fun K "_law_few" "_law_few" s_law_few f fd) (c_law_draw : CDraw P w K mg base) : FnOk P w K mg base CX0 2 f fd ["_law_pen"] spFew := by
  refine F.ok sc_law_few (fun vs H Q E h => ?_) (fun cdv A outer s H vs Q E hr h => ?_)
  · obtain ⟨p, c, n, rfl, _⟩ := h
    rfl
  · obtain ⟨p, c, n, rfl, hP, hn, q⟩ := h
    refine ⟨_, (pss_one (ps_ret (pe_op op_sub (pe_ca c_law_draw (hr.mono (by decide)) (by rfl) (pa_cons (pv 0) (pa_cons pe_int pa_nil))) pe_int))), ?_⟩
    refine ⟨.ref p, rfl, p, c, 9, n, rfl, hP, hn, by decide, by decide, fun r H' r0 r1 k hP' => ?_⟩
    exact ⟨r, 5, rfl, rfl, q _ _ (by omega) (by omega) k hP'⟩
/-! ### worth -/
abbrev s_law_worth : Stmt := topS 31
theorem sc_law_worth : FnScope ["_law_pen", "_law_some"] ["_law_pen"] (defScope s_law_worth) :=
  ⟨rfl, rfl, rfl, by decide +kernel, rfl, by decide +kernel, by decide +kernel⟩
def spWorth : Sp := fun vs H Q _ => ∃ (p c : Addr) (n : Nat), vs = [.ref p] ∧ Pen H p c n ∧ n + 3 < 1000000 ∧
  ∀ (i : Int) H', -99 ≤ i → i ≤ 99 → Kp p H H' → Pen H' p c (n + 4) → Q (.int i) H'
theorem ok_worth {f : Addr} {fd : FuncData} (F : Fun K "_law_worth" "_law_worth" s_law_worth f fd) (c_law_draw : CDraw P w K mg base) : FnOk P w K mg base CX0 2 f fd ["_law_pen"] spWorth := by
  refine F.ok sc_law_worth (fun vs H Q E h => ?_) (fun cdv A outer s H vs Q E hr h => ?_)
  · obtain ⟨p, c, n, rfl, _⟩ := h
    rfl
  · obtain ⟨p, c, n, rfl, hP, hn, q⟩ := h
    refine ⟨_, (pss_cons (ps_set (i := 1) sc_law_worth.nd rfl (.inl rfl) (pe_lst (pa_cons (pe_op op_sub (pe_ca c_law_draw (hr.mono (by decide)) (by rfl) (pa_cons (pv 0) (pa_cons pe_int pa_nil))) pe_int) (pa_cons pe_int (pa_cons (pe_un un_neg pe_int) (pa_cons (pe_op op_sub (pe_ca c_law_draw (hr.mono (by decide)) (by rfl) (pa_cons (pv 0) (pa_cons pe_int pa_nil))) pe_int) (pa_cons pe_int (pa_cons pe_int (pa_cons (pe_un un_neg pe_int) (pa_cons (pe_op op_sub pe_int (pe_ca c_law_draw (hr.mono (by decide)) (by rfl) (pa_cons (pv 0) (pa_cons pe_int pa_nil)))) pa_nil))))))))))
      (pss_one (ps_ret (pe_ix (ixL K) (pv 1) (pe_ca c_law_draw (hr.mono (by decide)) (by rfl) (pa_cons (pv 0) (pa_cons pe_int pa_nil))) (fun _ _ => rfl))))), ?_⟩
    refine ⟨.ref p, rfl, p, c, 9, n, rfl, hP, by omega, by decide, by decide, fun r1 H1 r1a r1b k1 hP1 => ⟨r1, 4, rfl, rfl, 1, rfl, ?_⟩⟩
    refine ⟨.ref p, rfl, p, c, 199, n + 1, rfl, hP1, by omega, by decide, by decide, fun r2 H2 r2a r2b k2 hP2 => ⟨r2, 99, rfl, rfl, 99, rfl, ?_⟩⟩
    refine ⟨.ref p, rfl, p, c, 7, n + 2, rfl, hP2, by omega, by decide, by decide, fun r3 H3 r3a r3b k3 hP3 => ⟨0, r3, rfl, rfl, ?_⟩⟩
    refine ⟨szL (show 8 ≤ 1000000 by decide), fun l hl => ?_⟩
    refine ⟨.ref l, rfl, .ref p, rfl, p, c, 8, n + 3, rfl, hP3.new hl, by omega, by decide, by decide, fun r4 H4 r4a r4b k4 hP4 => ?_⟩
    have hL : H4 l = some (.lst ([r1 - 4, 0, -1, r2 - 99, 1, 99, -99, 0 - r3].map V.int)) := k4 _ _ (hP3.ne hl).1 upd_same
    obtain ⟨z, hz, hat⟩ := atI_ints (ns := [r1 - 4, 0, -1, r2 - 99, 1, 99, -99, 0 - r3]) r4a r4b
    have hz2 : -99 ≤ z ∧ z ≤ 99 := by
      simp only [List.mem_cons, List.not_mem_nil, or_false] at hz
      omega
    exact ⟨l, _, r4, _, rfl, rfl, SqL.of hL, hat, q _ _ hz2.1 hz2.2 (((k1.trans k2).trans k3).trans ((Kp.new hl).trans k4)) hP4⟩
/-! ### letters -/
def RiseS (x : Str) : Prop := x.cps.toList.Pairwise (· < ·)
theorem abc_at {i ch : Nat} (h : (Str.ofString "abcdefghijklmnopqrstuvwxyz").cps[i]? = some ch) : ch = 97 + i := by
  have hi : i < 26 := by
    have h1 := (Array.getElem?_eq_some_iff.mp h).1
    have h2 : (Str.ofString "abcdefghijklmnopqrstuvwxyz").cps.size = 26 := by decide +kernel
    omega
  have key : ∀ i : Nat, i < 26 → (Str.ofString "abcdefghijklmnopqrstuvwxyz").cps[i]? = some (97 + i) := by decide +kernel
  rw [key i hi] at h
  exact (Option.some.inj h).symm
theorem app_list (x y : Str) : (x ++ y).cps.toList = x.cps.toList ++ y.cps.toList := Array.toList_append
abbrev s_law_letters : Stmt := topS 30
theorem sc_law_letters : FnScope ["_law_pen", "_law_every", "_law_way", "_law_found", "_law_letter"] ["_law_pen"] (defScope s_law_letters) :=
  ⟨rfl, rfl, rfl, by decide +kernel, rfl, by decide +kernel, by decide +kernel⟩
def spLetters : Sp := fun vs H Q _ => ∃ (p c : Addr) (n : Nat), vs = [.ref p] ∧ Pen H p c n ∧ n + 26 < 1000000 ∧
  ∀ (x : Str) H', x.length ≤ 6 → 1 ≤ x.length → Small x → RiseS x → Kp p H H' → Pen H' p c (n + 27) → Q (.str x) H'
theorem ok_letters {f : Addr} {fd : FuncData} (F : Fun K "_law_letters" "_law_letters" s_law_letters f fd) (c_law_draw : CDraw P w K mg base) (mlen : mg "len" = none) (mint : mg "int" = none) : FnOk P w K mg base CX0 2 f fd ["_law_pen"] spLetters := by
  refine F.ok sc_law_letters (fun vs H Q E h => ?_) (fun cdv A outer s H vs Q E hr h => ?_)
  · obtain ⟨p, c, n, rfl, _⟩ := h
    rfl
  · obtain ⟨p, c, n, rfl, hP, hn, q⟩ := h
    refine ⟨_, (pss_cons (ps_set (i := 1) sc_law_letters.nd rfl (.inl rfl) pe_str)
      (pss_cons (ps_set (i := 2) sc_law_letters.nd rfl (.inl rfl) (pe_ca c_law_draw (hr.mono (by decide)) (by rfl) (pa_cons (pv 0) (pa_cons pe_int pa_nil))))
      (pss_cons (ps_if (pt_cmpR op_lt (pv 2) pe_int (nomark _)) (pss_one (ps_ret (pe_ix (ixL K) (pe_lst (pa_cons pe_str (pa_cons pe_str (pa_cons pe_str (pa_cons pe_str (pa_cons pe_str (pa_cons pe_str pa_nil))))))) (pe_ca c_law_draw (hr.mono (by decide)) (by rfl) (pa_cons (pv 0) (pa_cons pe_int pa_nil))) (fun _ _ => rfl)))) pss_nil)
      (pss_cons (ps_set (i := 3) sc_law_letters.nd rfl (.inl rfl) pe_str)
      (pss_cons (ps_for PassesOwn.never rfl (pi_str (pv 1)) (pg_name (i := 4) sc_law_letters.nd rfl (.inl rfl)) (pss_one (ps_if (PW.pt (pw_and (pt_cmpR op_lt (pe_callB call_len_str (by rfl) mlen (by decide +kernel) (pa_cons (pv 3) pa_nil)) pe_int (nomark _)) (pw_and1 (pt_cmpR op_eq (pe_ca c_law_draw (hr.mono (by decide)) (by rfl) (pa_cons (pv 0) (pa_cons pe_int pa_nil))) pe_int (nomark _))))) (pss_one (ps_set (i := 3) sc_law_letters.nd rfl (.inl rfl) (pe_op op_add_str (pv 3) (pv 4)))) pss_nil)))
      (pss_one (ps_ret (pe_ix (ixL K) (pe_lst (pa_cons (pv 3) (pa_cons pe_str pa_nil))) (pe_callTy call_int1 (by rfl) mint (by decide +kernel) (pa_cons (pe_cmpR op_eq (pv 3) pe_str (nomark _)) pa_nil)) (fun _ _ => rfl))))))))), ?_⟩
    refine ⟨.ref p, rfl, p, c, 3, n, rfl, hP, by omega, by decide, by decide, fun r1 H1 r1a r1b k1 hP1 => ?_⟩
    refine ⟨_, rfl, r1, 2, rfl, rfl, _, rfl, ite2 (fun e => ?_) (fun e => ?_)⟩
    · refine ⟨szL (by decide), fun l hl => ?_⟩
      refine ⟨.ref p, rfl, p, c, 6, n + 1, rfl, hP1.new hl, by omega, by decide, by decide, fun r4 H4 r4a r4b k4 hP4 => ?_⟩
      have hL := k4 _ _ (hP1.ne hl).1 upd_same
      obtain ⟨v, hmem, hz⟩ := atI_mem (xs := [V.str "ab", .str "a", .str "abc", .str "ad", .str "xyz", .str "abcdef"]) r4a r4b
      have hv : ∀ v ∈ [V.str "ab", .str "a", .str "abc", .str "ad", .str "xyz", .str "abcdef"], ∃ x : Str, v = .str x ∧ x.length ≤ 6 ∧ 1 ≤ x.length ∧ Small x ∧ RiseS x := by
        intro v hv
        simp only [List.mem_cons, List.not_mem_nil, or_false] at hv
        rcases hv with rfl | rfl | rfl | rfl | rfl | rfl <;> exact ⟨_, rfl, by decide, by decide, by unfold Small; decide +kernel, by unfold RiseS; decide +kernel⟩
      obtain ⟨x, rfl, hx, hx1, hxs, hxr⟩ := hv _ hmem
      refine ⟨l, _, r4, _, rfl, rfl, SqL.of hL, hz, ?_⟩
      exact q _ _ hx hx1 hxs hxr (k1.trans ((Kp.new hl).trans k4)) (hP4.mono (by omega))
    · refine ⟨_, rfl, _, rfl, for_str (fun i σ H2 => ∃ (x : Str) (y : Option V), σ = [some (.ref p), some (.str "abcdefghijklmnopqrstuvwxyz"), some (.int r1), some (.str x), y] ∧ x.length ≤ 6 ∧ Small x ∧ (RiseS x ∧ ∀ c ∈ x.cps.toList, c < 97 + i) ∧ Kp p H H2 ∧ Pen H2 p c (n + 1 + i)) ⟨"", none, rfl, by decide, by unfold Small; decide +kernel, ⟨by unfold RiseS; decide +kernel, by decide +kernel⟩, k1, hP1⟩ (fun i ch σ H2 hi hv => ?_) (fun σ H2 hv => ?_)⟩
      · obtain ⟨x, y, rfl, hx, hxs, hxr, k2, hP2⟩ := hv
        have hi26 : i < 26 := by
          have h1 := (Array.getElem?_eq_some_iff.mp hi).1
          have h2 : (Str.ofString "abcdefghijklmnopqrstuvwxyz").cps.size = 26 := by decide +kernel
          omega
        refine ⟨_, rfl, _, rfl, szL (by omega), _, _, rfl, rfl, _, rfl, ite2 (fun e1 => ?_) (fun e1 => ?_)⟩
        · have hx5 : x.length < 6 := by
            have := of_decide_eq_true e1
            omega
          refine ⟨_, rfl, p, c, 5, n + 1 + i, rfl, hP2, by omega, by decide, by decide, fun r3 H3 r3a r3b k3 hP3 => ?_⟩
          refine ⟨rfl, _, rfl, ite2 (fun e2 => ?_) (fun e2 => ?_)⟩
          · refine ⟨_, rfl, _, rfl, x, ⟨#[ch]⟩, rfl, rfl, szL ?_, x ++ ⟨#[ch]⟩, _, rfl, ?_, hxs.app (.one ((show Small "abcdefghijklmnopqrstuvwxyz" by unfold Small; decide +kernel).at hi)), ⟨?_, ?_⟩, k2.trans k3, hP3⟩
            · show x.length + 1 ≤ _
              omega
            · rw [Str.length_append]
              show x.length + 1 ≤ 6
              omega
            · unfold RiseS
              rw [app_list]
              refine List.pairwise_append.mpr ⟨hxr.1, List.pairwise_singleton .., fun u hu v hv => ?_⟩
              rw [show v = ch from List.mem_singleton.mp hv, abc_at hi]
              exact hxr.2 u hu
            · intro u hu
              rw [app_list] at hu
              rcases List.mem_append.mp hu with hu | hu
              · have := hxr.2 u hu
                omega
              · rw [show u = ch from List.mem_singleton.mp hu, abc_at hi]
                omega
          · exact ⟨x, _, rfl, hx, hxs, ⟨hxr.1, fun u hu => by have := hxr.2 u hu; omega⟩, k2.trans k3, hP3⟩
        · exact ⟨x, _, rfl, hx, hxs, ⟨hxr.1, fun u hu => by have := hxr.2 u hu; omega⟩, k2, hP2.mono (by omega)⟩
      · obtain ⟨x, y, rfl, hx, hxs, hxr, k2, hP2⟩ := hv
        have h26 : (Str.ofString "abcdefghijklmnopqrstuvwxyz").cps.size = 26 := by decide +kernel
        refine ⟨_, rfl, szL (show 2 ≤ 1000000 by decide), fun l hl => ?_⟩
        refine ⟨_, rfl, rfl, .inr ⟨_, rfl, ?_⟩⟩
        have hP3 : Pen (upd H2 l (.lst [.str x, .str "z"])) p c (n + 27) := (hP2.new hl).mono (by omega)
        have k3 : Kp p H (upd H2 l (.lst [.str x, .str "z"])) := k2.trans (Kp.new hl)
        by_cases e3 : V.str x = V.str ""
        · rw [decide_eq_true e3]
          exact ⟨l, _, 1, _, rfl, rfl, SqL.of upd_same, rfl, q _ _ (by decide) (by decide) (by unfold Small; decide +kernel) (by unfold RiseS; decide +kernel) k3 hP3⟩
        · rw [decide_eq_false e3]
          exact ⟨l, _, 0, _, rfl, rfl, SqL.of upd_same, rfl, q _ _ hx (len_pos fun z => e3 (congrArg V.str z)) hxs hxr.1 k3 hP3⟩
end
end Pf


namespace Pf
open PySem PySem.Spec PyProof.Rows L2
def PrsOk (prs : List (Str × Int)) : Prop := prs.length ≤ 12 ∧ ∀ x ∈ prs, x.1.length = 2 ∧ Small x.1 ∧ -99 ≤ x.2 ∧ x.2 ≤ 99
def StkOk (stk : List (Str × Str × Int)) : Prop := stk.length ≤ 12 ∧ ∀ x ∈ stk, (x.1.length = 2 ∧ Small x.1) ∧ (x.2.1.length = 2 ∧ Small x.2.1) ∧ -99 ≤ x.2.2 ∧ x.2.2 ≤ 99
def rowP (x : Str) (a : Nat) : List Str := x.cps.toList.map fun b => (⟨#[a]⟩ ++ ⟨#[b]⟩ : Str)
def prodU (x : Str) (i : Nat) : List Str := (x.cps.toList.take i).flatMap (rowP x)
def OkP (x : Str) (i : Nat) (prs : List (Str × Int)) : Prop := PrsOk prs ∧ (prs.map (·.1)).Sublist (prodU x i)
def OkQ (x : Str) (i ch j : Nat) (prs : List (Str × Int)) : Prop := PrsOk prs ∧ (prs.map (·.1)).Sublist (prodU x i ++ (rowP x ch).take j)
theorem OkP.q {x : Str} {i ch : Nat} {prs : List (Str × Int)} (h : OkP x i prs) : OkQ x i ch 0 prs := ⟨h.1, by rw [List.take_zero, List.append_nil]; exact h.2⟩
theorem at_list {x : Str} {i ch : Nat} (h : x.cps[i]? = some ch) : x.cps.toList[i]? = some ch := by rw [Array.getElem?_toList]; exact h
theorem OkQ.p {x : Str} {i ch j : Nat} {prs : List (Str × Int)} (hi : x.cps[i]? = some ch) (hj : x.cps.size ≤ j) (h : OkQ x i ch j prs) : OkP x (i + 1) prs := by
  refine ⟨h.1, ?_⟩
  have h2 := h.2
  rw [List.take_of_length_le (by unfold rowP; rw [List.length_map, Array.length_toList]; exact hj)] at h2
  unfold prodU at h2 ⊢
  rw [List.take_add_one, at_list hi, List.flatMap_append]
  simpa using h2
theorem take_row {x : Str} {ch cj j : Nat} (hj : x.cps[j]? = some cj) : (rowP x ch).take (j + 1) = (rowP x ch).take j ++ [(⟨#[ch]⟩ ++ ⟨#[cj]⟩ : Str)] := by
  rw [List.take_add_one]
  unfold rowP
  rw [List.getElem?_map, at_list hj]
  rfl
theorem OkQ.skip {x : Str} {i ch cj j : Nat} {prs : List (Str × Int)} (hj : x.cps[j]? = some cj) (h : OkQ x i ch j prs) : OkQ x i ch (j + 1) prs := by
  refine ⟨h.1, ?_⟩
  rw [take_row hj, ← List.append_assoc]
  exact h.2.trans (List.sublist_append_left _ _)
theorem OkQ.add {x : Str} {i ch cj j : Nat} {prs : List (Str × Int)} {v : Int} (hj : x.cps[j]? = some cj) (h : OkQ x i ch j prs) (h1 : PrsOk (prs ++ [((⟨#[ch]⟩ ++ ⟨#[cj]⟩ : Str), v)])) : OkQ x i ch (j + 1) (prs ++ [((⟨#[ch]⟩ ++ ⟨#[cj]⟩ : Str), v)]) := by
  refine ⟨h1, ?_⟩
  rw [take_row hj, ← List.append_assoc, List.map_append]
  exact h.2.append (List.Sublist.refl _)
def Grow {α : Type} (R : Hp → V → α → Prop) (Ok : List α → Prop) (H H2 : Hp) (p c l : Addr) (m : Nat) : Prop :=
  ∃ vs xs, H2 l = some (.lst vs) ∧ Paired (R H2) vs xs ∧ Ok xs ∧ Kp p H H2 ∧ Pen H2 p c m
theorem Grow.imp {α : Type} {R : Hp → V → α → Prop} {Ok Ok' : List α → Prop} {H H2 : Hp} {p c l : Addr} {m : Nat} (g : Grow R Ok H H2 p c l m) (h : ∀ xs, Ok xs → Ok' xs) : Grow R Ok' H H2 p c l m := by
  obtain ⟨vs, xs, h1, h2, h3, h4, h5⟩ := g
  exact ⟨vs, xs, h1, h2, h _ h3, h4, h5⟩
theorem Grow.le {α : Type} {R : Hp → V → α → Prop} {Ok : List α → Prop} {H H2 : Hp} {p c l : Addr} {m m' : Nat} (g : Grow R Ok H H2 p c l m) (h : m ≤ m') : Grow R Ok H H2 p c l m' := by
  obtain ⟨vs, xs, h1, h2, h3, h4, h5⟩ := g
  exact ⟨vs, xs, h1, h2, h3, h4, h5.mono h⟩
section
variable {P : Program} {w : World} {K : PySem.W.Frag} {mg : Str → Option Value} {base : Heap}
abbrev CFew (P : Program) (w : World) (K : PySem.W.Frag) (mg : Str → Option Value) (base : Heap) : Prop := Ca P w K mg base 2 "_law_few" ["_law_pen"] spFew
abbrev CWorth (P : Program) (w : World) (K : PySem.W.Frag) (mg : Str → Option Value) (base : Heap) : Prop := Ca P w K mg base 2 "_law_worth" ["_law_pen"] spWorth
/-! ### pairs -/
abbrev s_law_pairs : Stmt := topS 33
theorem sc_law_pairs : FnScope ["_law_pen", "_law_letters_here", "_law_small", "_law_found", "_law_one", "_law_two"] ["_law_pen", "_law_letters_here", "_law_small"] (defScope s_law_pairs) :=
  ⟨rfl, rfl, rfl, by decide +kernel, rfl, by decide +kernel, by decide +kernel⟩
def spPairs : Sp := fun vs H Q _ => ∃ (p c : Addr) (x : Str) (b : Bool) (n : Nat), vs = [.ref p, .str x, .bl b] ∧ x.length ≤ 6 ∧ Small x ∧ Pen H p c n ∧ n + 216 < 1000000 ∧
  ∀ v prs H', TupOf PairAt H' v prs → PrsOk prs → (prs.map (·.1)).Sublist (prodU x x.length) → Kp p H H' → Pen H' p c (n + 216) → Q v H'
theorem ok_pairs {f : Addr} {fd : FuncData} (F : Fun K "_law_pairs" "_law_pairs" s_law_pairs f fd) (c_law_draw : CDraw P w K mg base) (c_law_few : CFew P w K mg base) (c_law_worth : CWorth P w K mg base) (mlen : mg "len" = none) (mint : mg "int" = none) (mtuple : mg "tuple" = none) : FnOk P w K mg base CX0 3 f fd ["_law_pen", "_law_letters_here", "_law_small"] spPairs := by
  refine F.ok sc_law_pairs (fun vs H Q E h => ?_) (fun cdv A outer s H vs Q E hr h => ?_)
  · obtain ⟨p, c, x, b, n, rfl, _⟩ := h
    rfl
  · obtain ⟨p, c, x, b, n, rfl, hx, hxs, hP, hn, q⟩ := h
    refine ⟨_, (pss_cons (ps_set (i := 3) sc_law_pairs.nd rfl (.inl rfl) (pe_lst pa_nil))
      (pss_cons (ps_for PassesOwn.never rfl (pi_str (pv 1)) (pg_name (i := 4) sc_law_pairs.nd rfl (.inl rfl)) (pss_one (ps_for PassesOwn.never rfl (pi_str (pv 1)) (pg_name (i := 5) sc_law_pairs.nd rfl (.inl rfl)) (pss_one (ps_if (PW.pt (pw_and (pt_cmpR op_lt (pe_callB (lenQ K) (by rfl) mlen (by decide +kernel) (pa_cons (pv 3) pa_nil)) pe_int (nomark _)) (pw_and1 (pt_cmpR op_gt (pe_ca c_law_draw (hr.mono (by decide)) (by rfl) (pa_cons (pv 0) (pa_cons pe_int pa_nil))) pe_int (nomark _))))) (pss_one (ps_expr (pe_bm PySem.F.plainAttrs_list PySem.F.slot_list_append PySem.F.type_list_append mt_append (pv 3) (pa_cons (pe_tup (pa_cons (pe_op op_add_str (pv 4) (pv 5)) (pa_cons (pe_ix (ixL K) (pe_lst (pa_cons (pe_ca c_law_few (hr.mono (by decide)) (by rfl) (pa_cons (pv 0) pa_nil)) (pa_cons (pe_ca c_law_worth (hr.mono (by decide)) (by rfl) (pa_cons (pv 0) pa_nil)) pa_nil))) (pe_callTy call_int1 (by rfl) mint (by decide +kernel) (pa_cons (pe_not (pv 2)) pa_nil)) (fun _ _ => rfl)) pa_nil))) pa_nil)))) pss_nil)))))
      (pss_one (ps_ret (pe_callTy (tupleOf K) (by rfl) mtuple (by decide +kernel) (pa_cons (pv 3) pa_nil)))))), ?_⟩
    refine ⟨Nat.zero_le _, fun l hl => ?_⟩
    have nl := hP.ne hl
    refine ⟨_, rfl, _, rfl, for_str (fun i σ H2 => ∃ (y4 y5 : Option V), σ = [some (.ref p), some (.str x), some (.bl b), some (.ref l), y4, y5] ∧ Grow PairAt (OkP x i) H H2 p c l (n + 36 * i))
      ⟨none, none, rfl, [], [], upd_same, .nil, ⟨⟨by decide, fun x h => by cases h⟩, List.nil_sublist _⟩, Kp.new hl, hP.new hl⟩ (fun i ch σ H2 hi hv => ?_) (fun σ H2 hv => ?_)⟩
    · obtain ⟨y4, y5, rfl, hg⟩ := hv
      have hi6 : i < x.length := (Array.getElem?_eq_some_iff.mp hi).1
      refine ⟨_, rfl, _, rfl, for_str (fun j σ H2 => ∃ (y5 : Option V), σ = [some (.ref p), some (.str x), some (.bl b), some (.ref l), some (.str ⟨#[ch]⟩), y5] ∧ Grow PairAt (OkQ x i ch j) H H2 p c l (n + 36 * i + 6 * j))
        ⟨_, rfl, hg.imp fun _ h => h.q⟩ (fun j cj σ H3 hj hv => ?_) (fun σ H3 hv => ?_)⟩
      · obtain ⟨y5, rfl, vs, prs, hL, hPr, hOk, k3, hP3⟩ := hv
        have hj6 : j < x.length := (Array.getElem?_eq_some_iff.mp hj).1
        have hlen := paired_len hPr
        have hok1 := hOk.1.1
        refine ⟨_, rfl, l, _, rfl, .inl (SqL.of hL), _, _, rfl, rfl, _, rfl, ite2 (fun e1 => ?_) (fun e1 => ?_)⟩
        · have hv12 : vs.length < 12 := by
            have := of_decide_eq_true e1
            omega
          refine ⟨_, rfl, p, c, 3, _, rfl, hP3, by omega, by decide, by decide, fun r4 H4 r4a r4b k4 hP4 => ?_⟩
          have hL4 : H4 l = some (.lst vs) := k4 _ _ nl.1 hL
          refine ⟨_, _, rfl, rfl, _, rfl, ite2 (fun e2 => ?_) (fun e2 => ?_)⟩
          · refine ⟨_, rfl, .inl ⟨rfl, _, SqL.of hL4⟩, _, rfl, _, rfl, _, _, rfl, rfl, szL (show 1 + 1 ≤ 1000000 by decide), _, rfl, p, c, _, rfl, hP4, by omega, fun i5 H5 i5a i5b k5 hP5 => ?_⟩
            refine ⟨_, rfl, p, c, _, rfl, hP5, by omega, fun i6 H6 i6a i6b k6 hP6 => ⟨szL (show 2 ≤ 1000000 by decide), fun d hd => ?_⟩⟩
            have hL6 : H6 l = some (.lst vs) := k6 _ _ nl.1 (k5 _ _ nl.1 hL4)
            obtain ⟨i7, i7a, i7b, hat⟩ : ∃ i7 : Int, -99 ≤ i7 ∧ i7 ≤ 99 ∧ atI [V.int i5, .int i6] (if (!b) = true then 1 else 0) = some (.int i7) := by
              cases b
              · exact ⟨i6, i6a, i6b, rfl⟩
              · exact ⟨i5, i5a, i5b, rfl⟩
            refine ⟨_, rfl, b, rfl, .inr ⟨_, rfl, d, _, _, _, rfl, rfl, SqL.of upd_same, hat, szL (show 2 ≤ 1000000 by decide), fun t ht => ?_⟩⟩
            have nld : l ≠ d := ne_of_none hL6 hd
            have hL7 : (upd H6 d (.lst [V.int i5, .int i6])) l = some (.lst vs) := by
              rw [upd_ne nld]
              exact hL6
            have nlt : l ≠ t := ne_of_none hL7 ht
            have hL8 : (upd (upd H6 d (.lst [V.int i5, .int i6])) t (.tup [.str (⟨#[ch]⟩ ++ ⟨#[cj]⟩), .int i7])) l = some (.lst vs) := by
              rw [upd_ne nlt]
              exact hL7
            refine ⟨l, _, _, rfl, rfl, hL8, szLt (by omega), ?_⟩
            have tk : TupK H3 (upd (upd (upd H6 d (.lst [V.int i5, .int i6])) t (.tup [.str (⟨#[ch]⟩ ++ ⟨#[cj]⟩), .int i7])) l (.lst (vs ++ [.ref t]))) :=
              ((((TupK.of k4 hP3).trans (TupK.of k5 hP4)).trans (TupK.of k6 hP5)).trans ((TupK.new hd).trans (TupK.new ht))).trans (TupK.lst hL8)
            refine ⟨_, rfl, vs ++ [.ref t], prs ++ [(⟨#[ch]⟩ ++ ⟨#[cj]⟩, i7)], upd_same, (paired_imp (fun _ _ => PairAt.mono _ _ _ _ tk) hPr).snoc ⟨t, rfl, ?_⟩, hOk.add hj ⟨?_, fun y hy => ?_⟩, ?_, ?_⟩
            · rw [upd_ne nlt.symm, upd_same]
            · rw [List.length_append, List.length_singleton]
              omega
            · rw [List.mem_append, List.mem_singleton] at hy
              rcases hy with hy | rfl
              · exact hOk.1.2 y hy
              · exact ⟨rfl, (Small.one (hxs.at hi)).app (Small.one (hxs.at hj)), i7a, i7b⟩
            · exact (((((k3.trans k4).trans k5).trans k6).trans (Kp.new hd)).trans (Kp.new ht)).put hl
            · exact ((((hP6.new hd).new ht).put nl.1 nl.2).mono (by omega))
          · exact ⟨_, rfl, vs, prs, hL4, paired_imp (fun _ _ => PairAt.mono _ _ _ _ (TupK.of k4 hP3)) hPr, hOk.skip hj, k3.trans k4, hP4.mono (by omega)⟩
        · exact ⟨_, rfl, vs, prs, hL, hPr, hOk.skip hj, k3, hP3.mono (by omega)⟩
      · obtain ⟨y5, rfl, hg⟩ := hv
        have hsz : x.cps.size ≤ 6 := hx
        exact ⟨_, _, rfl, (hg.le (by omega)).imp fun _ h => h.p hi (Nat.le_refl _)⟩
    · obtain ⟨y4, y5, rfl, vs, prs, hL, hPr, hOk, k3, hP3⟩ := hv
      have hsz : x.cps.size ≤ 6 := hx
      refine ⟨_, rfl, l, _, rfl, .inl ⟨SqL.of hL, fun t ht => ?_⟩⟩
      exact q _ prs _ ⟨t, vs, rfl, upd_same, paired_imp (fun _ _ => PairAt.mono _ _ _ _ (TupK.new ht)) hPr⟩ hOk.1 hOk.2 (k3.trans (Kp.new ht)) ((hP3.new ht).mono (by omega))
end
end Pf


namespace Pf
open PySem PySem.Spec PyProof.Rows L2
def keyS (z : Str × Str × Int) : Str × Str := (z.1, z.2.1)
def rowK (ts : List Str) (a : Str) : List (Str × Str) := ts.map fun b => (a, b)
def prodK (ts : List Str) (i : Nat) : List (Str × Str) := (ts.take i).flatMap (rowK ts)
def OkS (ts : List Str) (i : Nat) (stk : List (Str × Str × Int)) : Prop := StkOk stk ∧ (stk.map keyS).Sublist (prodK ts i)
def OkT (ts : List Str) (i : Nat) (a : Str) (j : Nat) (stk : List (Str × Str × Int)) : Prop := StkOk stk ∧ (stk.map keyS).Sublist (prodK ts i ++ (rowK ts a).take j)
theorem OkS.q {ts : List Str} {i : Nat} {a : Str} {stk : List (Str × Str × Int)} (h : OkS ts i stk) : OkT ts i a 0 stk := ⟨h.1, by rw [List.take_zero, List.append_nil]; exact h.2⟩
theorem OkT.p {ts : List Str} {i : Nat} {a : Str} {j : Nat} {stk : List (Str × Str × Int)} (hi : ts[i]? = some a) (hj : ts.length ≤ j) (h : OkT ts i a j stk) : OkS ts (i + 1) stk := by
  refine ⟨h.1, ?_⟩
  have h2 := h.2
  rw [List.take_of_length_le (by unfold rowK; rw [List.length_map]; exact hj)] at h2
  unfold prodK at h2 ⊢
  rw [List.take_add_one, hi, List.flatMap_append]
  simpa using h2
theorem take_rowK {ts : List Str} {a b : Str} {j : Nat} (hj : ts[j]? = some b) : (rowK ts a).take (j + 1) = (rowK ts a).take j ++ [(a, b)] := by
  rw [List.take_add_one]
  unfold rowK
  rw [List.getElem?_map, hj]
  rfl
theorem OkT.skip {ts : List Str} {i : Nat} {a b : Str} {j : Nat} {stk : List (Str × Str × Int)} (hj : ts[j]? = some b) (h : OkT ts i a j stk) : OkT ts i a (j + 1) stk := by
  refine ⟨h.1, ?_⟩
  rw [take_rowK hj, ← List.append_assoc]
  exact h.2.trans (List.sublist_append_left _ _)
theorem OkT.add {ts : List Str} {i : Nat} {a b : Str} {j : Nat} {stk : List (Str × Str × Int)} {v : Int} (hj : ts[j]? = some b) (h : OkT ts i a j stk) (h1 : StkOk (stk ++ [(a, b, v)])) : OkT ts i a (j + 1) (stk ++ [(a, b, v)]) := by
  refine ⟨h1, ?_⟩
  rw [take_rowK hj, ← List.append_assoc, List.map_append]
  exact h.2.append (List.Sublist.refl _)
section
variable {P : Program} {w : World} {K : PySem.W.Frag} {mg : Str → Option Value} {base : Heap}
/-! ### stacks -/
abbrev s_law_stacks : Stmt := topS 34
theorem sc_law_stacks : FnScope ["_law_pen", "_law_pairs_here", "_law_small", "_law_found", "_law_one", "_law_two"] ["_law_pen", "_law_pairs_here", "_law_small"] (defScope s_law_stacks) :=
  ⟨rfl, rfl, rfl, by decide +kernel, rfl, by decide +kernel, by decide +kernel⟩
def spStacks : Sp := fun vs H Q _ => ∃ (p c : Addr) (v : V) (prs : List (Str × Int)) (b : Bool) (n : Nat), vs = [.ref p, v, .bl b] ∧ TupOf PairAt H v prs ∧ PrsOk prs ∧ Pen H p c n ∧ n + 864 < 1000000 ∧
  ∀ v' stk H', TupOf StackAt H' v' stk → StkOk stk → (stk.map keyS).Sublist (prodK (prs.map (·.1)) prs.length) → Kp p H H' → Pen H' p c (n + 864) → Q v' H'
theorem ok_stacks {f : Addr} {fd : FuncData} (F : Fun K "_law_stacks" "_law_stacks" s_law_stacks f fd) (c_law_draw : CDraw P w K mg base) (c_law_few : CFew P w K mg base) (c_law_worth : CWorth P w K mg base) (mlen : mg "len" = none) (mint : mg "int" = none) (mtuple : mg "tuple" = none) : FnOk P w K mg base CX0 3 f fd ["_law_pen", "_law_pairs_here", "_law_small"] spStacks := by
  refine F.ok sc_law_stacks (fun vs H Q E h => ?_) (fun cdv A outer s H vs Q E hr h => ?_)
  · obtain ⟨p, c, v, prs, b, n, rfl, _⟩ := h
    rfl
  · obtain ⟨p, c, v, prs, b, n, rfl, ⟨a, us, rfl, hA, hR⟩, hprs, hP, hn, q⟩ := h
    refine ⟨_, (pss_cons (ps_set (i := 3) sc_law_stacks.nd rfl (.inl rfl) (pe_lst pa_nil))
      (pss_cons (ps_for PassesOwn.never rfl (pi_tup (pv 1)) (pg_name (i := 4) sc_law_stacks.nd rfl (.inl rfl)) (pss_one (ps_for PassesOwn.never rfl (pi_tup (pv 1)) (pg_name (i := 5) sc_law_stacks.nd rfl (.inl rfl)) (pss_one (ps_if (PW.pt (pw_and (pt_cmpR op_lt (pe_callB (lenQ K) (by rfl) mlen (by decide +kernel) (pa_cons (pv 3) pa_nil)) pe_int (nomark _)) (pw_and1 (pt_cmpR op_eq (pe_ca c_law_draw (hr.mono (by decide)) (by rfl) (pa_cons (pv 0) (pa_cons pe_int pa_nil))) pe_int (nomark _))))) (pss_one (ps_expr (pe_bm PySem.F.plainAttrs_list PySem.F.slot_list_append PySem.F.type_list_append mt_append (pv 3) (pa_cons (pe_tup (pa_cons (pe_ix (ixT K) (pv 4) pe_int (fun _ _ => rfl)) (pa_cons (pe_ix (ixT K) (pv 5) pe_int (fun _ _ => rfl)) (pa_cons (pe_ix (ixL K) (pe_lst (pa_cons (pe_ca c_law_few (hr.mono (by decide)) (by rfl) (pa_cons (pv 0) pa_nil)) (pa_cons (pe_ca c_law_worth (hr.mono (by decide)) (by rfl) (pa_cons (pv 0) pa_nil)) pa_nil))) (pe_callTy call_int1 (by rfl) mint (by decide +kernel) (pa_cons (pe_not (pv 2)) pa_nil)) (fun _ _ => rfl)) pa_nil)))) pa_nil)))) pss_nil)))))
      (pss_one (ps_ret (pe_callTy (tupleOf K) (by rfl) mtuple (by decide +kernel) (pa_cons (pv 3) pa_nil)))))), ?_⟩
    refine ⟨Nat.zero_le _, fun l hl => ?_⟩
    have nl := hP.ne hl
    have hus := paired_len hR
    have hpl := hprs.1
    have hAp : a ≠ p := hP.tup hA
    refine ⟨_, rfl, a, rfl, ⟨_, SqT.of (Kp.new (p := p) hl _ _ hAp hA)⟩, for_tup (xs := us) (fun i σ H2 => ∃ (y4 y5 : Option V), σ = [some (.ref p), some (.ref a), some (.bl b), some (.ref l), y4, y5] ∧ Grow StackAt (OkS (prs.map (·.1)) i) H H2 p c l (n + 72 * i))
      ⟨none, none, rfl, [], [], upd_same, .nil, ⟨⟨by decide, fun x h => by cases h⟩, List.nil_sublist _⟩, Kp.new hl, hP.new hl⟩ (fun i σ H2 _ ⟨y4, y5, _, vs, xs, _, _, _, k, _⟩ => SqT.of (k _ _ hAp hA)) (fun i u σ H2 hi hv => ?_) (fun σ H2 hv => ?_)⟩
    · obtain ⟨y4, y5, rfl, hg⟩ := hv
      have hi12 : i < us.length := (List.getElem?_eq_some_iff.mp hi).1
      obtain ⟨⟨x1, w1⟩, hx1, a1, rfl, ha1⟩ := paired_get hR hi
      have ht1 : (prs.map (·.1))[i]? = some x1 := by rw [List.getElem?_map, hx1]; rfl
      have hx1 := hprs.2 _ (List.mem_of_getElem? hx1)
      have k2 : Kp p H H2 := by
        obtain ⟨vs, xs, _, _, _, k, _⟩ := hg
        exact k
      refine ⟨_, rfl, a, rfl, ⟨_, SqT.of (k2 _ _ hAp hA)⟩, for_tup (xs := us) (fun j σ H2 => ∃ (y5 : Option V), σ = [some (.ref p), some (.ref a), some (.bl b), some (.ref l), some (.ref a1), y5] ∧ Grow StackAt (OkT (prs.map (·.1)) i x1 j) H H2 p c l (n + 72 * i + 6 * j))
        ⟨_, rfl, hg.imp fun _ h => h.q⟩ (fun i σ H2 _ ⟨y5, _, vs, xs, _, _, _, k, _⟩ => SqT.of (k _ _ hAp hA)) (fun j u2 σ H3 hj hv => ?_) (fun σ H3 hv => ?_)⟩
      · obtain ⟨y5, rfl, vs, stk, hL, hPr, hOk, k3, hP3⟩ := hv
        have hj12 : j < us.length := (List.getElem?_eq_some_iff.mp hj).1
        obtain ⟨⟨x2, w2⟩, hx2, a2, rfl, ha2⟩ := paired_get hR hj
        have ht2 : (prs.map (·.1))[j]? = some x2 := by rw [List.getElem?_map, hx2]; rfl
        have hx2 := hprs.2 _ (List.mem_of_getElem? hx2)
        have hlen := paired_len hPr
        have hok1 := hOk.1.1
        refine ⟨_, rfl, l, _, rfl, .inl (SqL.of hL), _, _, rfl, rfl, _, rfl, ite2 (fun e1 => ?_) (fun e1 => ?_)⟩
        · have hv12 : vs.length < 12 := by
            have := of_decide_eq_true e1
            omega
          refine ⟨_, rfl, p, c, 6, _, rfl, hP3, by omega, by decide, by decide, fun r4 H4 r4a r4b k4 hP4 => ?_⟩
          have hL4 : H4 l = some (.lst vs) := k4 _ _ nl.1 hL
          have k34 := k3.trans k4
          have ha14 : H4 a1 = some (.tup [.str x1, .int w1]) := k34 _ _ (hP.tup ha1) ha1
          have ha24 : H4 a2 = some (.tup [.str x2, .int w2]) := k34 _ _ (hP.tup ha2) ha2
          refine ⟨rfl, _, rfl, ite2 (fun e2 => ?_) (fun e2 => ?_)⟩
          · refine ⟨_, rfl, .inl ⟨rfl, _, SqL.of hL4⟩, _, rfl, a1, _, 0, _, rfl, rfl, SqT.of ha14, rfl, _, rfl, a2, _, 0, _, rfl, rfl, SqT.of ha24, rfl, _, rfl, p, c, _, rfl, hP4, by omega, fun i5 H5 i5a i5b k5 hP5 => ?_⟩
            refine ⟨_, rfl, p, c, _, rfl, hP5, by omega, fun i6 H6 i6a i6b k6 hP6 => ⟨szL (show 2 ≤ 1000000 by decide), fun d hd => ?_⟩⟩
            have hL6 : H6 l = some (.lst vs) := k6 _ _ nl.1 (k5 _ _ nl.1 hL4)
            obtain ⟨i7, i7a, i7b, hat⟩ : ∃ i7 : Int, -99 ≤ i7 ∧ i7 ≤ 99 ∧ atI [V.int i5, .int i6] (if (!b) = true then 1 else 0) = some (.int i7) := by
              cases b
              · exact ⟨i6, i6a, i6b, rfl⟩
              · exact ⟨i5, i5a, i5b, rfl⟩
            refine ⟨_, rfl, b, rfl, .inr ⟨_, rfl, d, _, _, _, rfl, rfl, SqL.of upd_same, hat, szL (show 3 ≤ 1000000 by decide), fun t ht => ?_⟩⟩
            have nld : l ≠ d := ne_of_none hL6 hd
            have hL7 : (upd H6 d (.lst [V.int i5, .int i6])) l = some (.lst vs) := by
              rw [upd_ne nld]
              exact hL6
            have nlt : l ≠ t := ne_of_none hL7 ht
            have hL8 : (upd (upd H6 d (.lst [V.int i5, .int i6])) t (.tup [.str x1, .str x2, .int i7])) l = some (.lst vs) := by
              rw [upd_ne nlt]
              exact hL7
            refine ⟨l, _, _, rfl, rfl, hL8, szLt (by omega), ?_⟩
            have tk : TupK H3 (upd (upd (upd H6 d (.lst [V.int i5, .int i6])) t (.tup [.str x1, .str x2, .int i7])) l (.lst (vs ++ [.ref t]))) :=
              ((((TupK.of k4 hP3).trans (TupK.of k5 hP4)).trans (TupK.of k6 hP5)).trans ((TupK.new hd).trans (TupK.new ht))).trans (TupK.lst hL8)
            refine ⟨_, rfl, vs ++ [.ref t], stk ++ [(x1, x2, i7)], upd_same, (paired_imp (fun _ _ => StackAt.mono _ _ _ _ tk) hPr).snoc ⟨t, rfl, ?_⟩, hOk.add ht2 ⟨?_, fun y hy => ?_⟩, ?_, ?_⟩
            · rw [upd_ne nlt.symm, upd_same]
            · rw [List.length_append, List.length_singleton]
              omega
            · rw [List.mem_append, List.mem_singleton] at hy
              rcases hy with hy | rfl
              · exact hOk.1.2 y hy
              · exact ⟨⟨hx1.1, hx1.2.1⟩, ⟨hx2.1, hx2.2.1⟩, i7a, i7b⟩
            · exact (((((k3.trans k4).trans k5).trans k6).trans (Kp.new hd)).trans (Kp.new ht)).put hl
            · exact ((((hP6.new hd).new ht).put nl.1 nl.2).mono (by omega))
          · exact ⟨_, rfl, vs, stk, hL4, paired_imp (fun _ _ => StackAt.mono _ _ _ _ (TupK.of k4 hP3)) hPr, hOk.skip ht2, k3.trans k4, hP4.mono (by omega)⟩
        · exact ⟨_, rfl, vs, stk, hL, hPr, hOk.skip ht2, k3, hP3.mono (by omega)⟩
      · obtain ⟨y5, rfl, hg⟩ := hv
        exact ⟨_, _, rfl, (hg.le (by omega)).imp fun _ h => h.p ht1 (by rw [List.length_map]; omega)⟩
    · obtain ⟨y4, y5, rfl, vs, stk, hL, hPr, hOk, k3, hP3⟩ := hv
      refine ⟨_, rfl, l, _, rfl, .inl ⟨SqL.of hL, fun t ht => ?_⟩⟩
      exact q _ stk _ ⟨t, vs, rfl, upd_same, paired_imp (fun _ _ => StackAt.mono _ _ _ _ (TupK.new ht)) hPr⟩ hOk.1 (by have := hOk.2; rwa [hus] at this) (k3.trans (Kp.new ht)) ((hP3.new ht).mono (by omega))
/-! ### rules -/
def GoodR (r : Rl) : Prop := RiseS r.letters ∧ (r.prs.map (·.1)).Sublist (prodU r.letters r.letters.length) ∧ (r.stk.map keyS).Sublist (prodK (r.prs.map (·.1)) r.prs.length)
theorem tup_prs {H : Hp} {v : V} {prs : List (Str × Int)} (h : TupOf PairAt H v prs) : PrsW H v prs := by
  obtain ⟨a, us, e, h, p⟩ := h
  exact ⟨a, us, e, .inr h, p⟩
theorem row_nd {x : Str} (hr : RiseS x) (a : Nat) : (rowP x a).Nodup := by
  unfold rowP
  refine List.pairwise_map.mpr (hr.imp fun {u v} h e => ?_)
  have e2 : [a, u] = [a, v] := congrArg (fun s : Str => s.cps.toList) e
  injection e2 with _ e3
  injection e3 with e4
  omega
theorem prod_nd {x : Str} (hr : RiseS x) : (prodU x x.length).Nodup := by
  unfold prodU
  refine List.pairwise_flatMap.mpr ⟨fun a _ => row_nd hr a, (List.Pairwise.sublist (List.take_sublist ..) hr).imp fun {u v} h a ha b hb e => ?_⟩
  obtain ⟨c, _, rfl⟩ := List.mem_map.mp ha
  obtain ⟨d, _, rfl⟩ := List.mem_map.mp hb
  have e2 : [u, c] = [v, d] := congrArg (fun s : Str => s.cps.toList) e
  injection e2 with e3 _
  omega
theorem prodK_nd {ts : List Str} (h : ts.Nodup) (n : Nat) : (prodK ts n).Nodup := by
  unfold prodK
  refine List.pairwise_flatMap.mpr ⟨fun a _ => List.pairwise_map.mpr (h.imp fun {u v} hn e => hn (congrArg Prod.snd e)), (List.Pairwise.sublist (List.take_sublist ..) h).imp fun {u v} hn a ha b hb e => ?_⟩
  obtain ⟨c, _, rfl⟩ := List.mem_map.mp ha
  obtain ⟨d, _, rfl⟩ := List.mem_map.mp hb
  exact hn (congrArg Prod.fst e)
theorem rl_ok {x : Str} {prs : List (Str × Int)} {z : Int} {ns : List Int} {stk : List (Str × Str × Int)} (hx : x.length ≤ 6) (hx1 : 1 ≤ x.length) (hxs : Small x) (hr : RiseS x) (ok2 : PrsOk prs) (s2 : (prs.map (·.1)).Sublist (prodU x x.length)) (z0 : 0 ≤ z) (z1 : z ≤ 3) (h9 : ns.length = 9) (hn : ∀ y ∈ ns, -99 ≤ y ∧ y ≤ 99) (ok8 : StkOk stk) (s8 : (stk.map keyS).Sublist (prodK (prs.map (·.1)) prs.length)) : RlOk ⟨x, prs, z, ns, stk⟩ where
  let6 := hx
  let1 := hx1
  small := hxs
  prs := ok2.1
  pr := fun y hy => ⟨⟨(ok2.2 y hy).1, (ok2.2 y hy).2.1⟩, (ok2.2 y hy).2.2⟩
  sp0 := z0
  sp3 := z1
  lo9 := h9
  lo := hn
  stk := ok8.1
  st := fun y hy => ⟨(ok8.2 y hy).1, (ok8.2 y hy).2.1, (ok8.2 y hy).2.2⟩
  nd := s8.nodup (prodK_nd (s2.nodup (prod_nd hr)) _)
  pn := s2.nodup (prod_nd hr)
abbrev CLetters (P : Program) (w : World) (K : PySem.W.Frag) (mg : Str → Option Value) (base : Heap) : Prop := Ca P w K mg base 2 "_law_letters" ["_law_pen"] spLetters
abbrev CPairs (P : Program) (w : World) (K : PySem.W.Frag) (mg : Str → Option Value) (base : Heap) : Prop := Ca P w K mg base 3 "_law_pairs" ["_law_pen", "_law_letters_here", "_law_small"] spPairs
abbrev CStacks (P : Program) (w : World) (K : PySem.W.Frag) (mg : Str → Option Value) (base : Heap) : Prop := Ca P w K mg base 3 "_law_stacks" ["_law_pen", "_law_pairs_here", "_law_small"] spStacks
abbrev s_law_rules : Stmt := topS 35
theorem sc_law_rules : FnScope ["_law_pen", "_law_small", "_law_letters_here", "_law_pairs_here", "_law_loops", "_law_apart", "_law_k"] ["_law_pen", "_law_small"] (defScope s_law_rules) :=
  ⟨rfl, rfl, rfl, by decide +kernel, rfl, by decide +kernel, by decide +kernel⟩
def spRules : Sp := fun vs H Q _ => ∃ (p c : Addr) (b : Bool) (n : Nat), vs = [.ref p, .bl b] ∧ Pen H p c n ∧ n + 1200 < 1000000 ∧
  ∀ v r H', RulesW H' v r → RlOk r → GoodR r → Kp p H H' → Pen H' p c (n + 1200) → Q v H'
theorem ok_rules {f : Addr} {fd : FuncData} (F : Fun K "_law_rules" "_law_rules" s_law_rules f fd) (c_law_draw : CDraw P w K mg base) (c_law_few : CFew P w K mg base) (c_law_worth : CWorth P w K mg base) (c_law_letters : CLetters P w K mg base) (c_law_pairs : CPairs P w K mg base) (c_law_stacks : CStacks P w K mg base)
    (mint : mg "int" = none) (mtuple : mg "tuple" = none) (mrange : mg "range" = none) : FnOk P w K mg base CX0 4 f fd ["_law_pen", "_law_small"] spRules := by
  refine F.ok sc_law_rules (fun vs H Q E h => ?_) (fun cdv A outer s H vs Q E hr h => ?_)
  · obtain ⟨p, c, b, n, rfl, _⟩ := h
    rfl
  · obtain ⟨p, c, b, n, rfl, hP, hn, q⟩ := h
    refine ⟨_, (pss_cons (ps_set (i := 2) sc_law_rules.nd rfl (.inl rfl) (pe_ca c_law_letters (hr.mono (by decide)) (by rfl) (pa_cons (pv 0) pa_nil)))
      (pss_cons (ps_set (i := 3) sc_law_rules.nd rfl (.inl rfl) (pe_ca c_law_pairs (hr.mono (by decide)) (by rfl) (pa_cons (pv 0) (pa_cons (pv 2) (pa_cons (pv 1) pa_nil)))))
      (pss_cons (ps_set (i := 4) sc_law_rules.nd rfl (.inl rfl) (pe_callTy (tupleOf K) (by rfl) mtuple (by decide +kernel) (pa_cons (pe_lc (own := [("_law_k", 6)]) (g := gName 6) (by rfl) sc_law_rules.nd (pi_range1 (by rfl) mrange (pa_cons pe_int pa_nil)) (blkOk_by (own := [("_law_k", 6)]) (N := ["_law_pen", "_law_small", "_law_letters_here", "_law_pairs_here", "_law_loops", "_law_apart", "_law_k"]) (sc := defScope s_law_rules) (by decide +kernel)) (fun _ _ _ _ _ => (pg_name (i := 6) sc_law_rules.nd rfl (.inl rfl))) (fun _ _ _ _ _ => pts_nil) (fun _ _ _ _ _ => (pe_ix (ixL K) (pe_lst (pa_cons (pe_ca c_law_few (hr.mono (by decide)) (by rfl) (pa_cons (pv 0) pa_nil)) (pa_cons (pe_ca c_law_worth (hr.mono (by decide)) (by rfl) (pa_cons (pv 0) pa_nil)) pa_nil))) (pe_callTy call_int1 (by rfl) mint (by decide +kernel) (pa_cons (pe_not (pv 1)) pa_nil)) (fun _ _ => rfl)))) pa_nil)))
      (pss_cons (ps_if (pt_cmpR op_eq (pe_ca c_law_draw (hr.mono (by decide)) (by rfl) (pa_cons (pv 0) (pa_cons pe_int pa_nil))) pe_int (nomark _)) (pss_one (ps_set (i := 4) sc_law_rules.nd rfl (.inl rfl) (pe_tup (pa_cons pe_int (pa_cons pe_int (pa_cons pe_int (pa_cons pe_int (pa_cons pe_int (pa_cons pe_int (pa_cons pe_int (pa_cons pe_int (pa_cons pe_int pa_nil)))))))))))) pss_nil)
      (pss_cons (ps_set (i := 5) sc_law_rules.nd rfl (.inl rfl) (pe_ix (ixL K) (pe_lst (pa_cons pe_int (pa_cons pe_int (pa_cons pe_int (pa_cons (pe_ca c_law_draw (hr.mono (by decide)) (by rfl) (pa_cons (pv 0) (pa_cons pe_int pa_nil))) pa_nil))))) (pe_ca c_law_draw (hr.mono (by decide)) (by rfl) (pa_cons (pv 0) (pa_cons pe_int pa_nil))) (fun _ _ => rfl)))
      (pss_one (ps_ret (pe_tup (pa_cons (pv 2) (pa_cons (pv 3) (pa_cons (pv 5) (pa_cons (pv 4) (pa_cons (pe_ca c_law_stacks (hr.mono (by decide)) (by rfl) (pa_cons (pv 0) (pa_cons (pv 3) (pa_cons (pv 1) pa_nil)))) pa_nil))))))))))))), ?_⟩
    refine ⟨_, rfl, p, c, n, rfl, hP, by omega, fun x H1 hx hx1 hxs hxr k1 hP1 => ?_⟩
    refine ⟨_, rfl, _, rfl, _, rfl, p, c, x, b, _, rfl, hx, hxs, hP1, by omega, fun v2 prs H2 h2 ok2 s2 k2 hP2 => ?_⟩
    refine ⟨9, rfl, by decide, by decide, fun D hD => lc_range (lo := 0) (n := 9) (fun i H3 => ∃ ns : List Int, (ns.length = i ∧ ∀ y ∈ ns, -99 ≤ y ∧ y ≤ 99) ∧ H3 D = some (.lst (ns.map V.int)) ∧ Kp p H2 H3 ∧ Pen H3 p c (n + 27 + 216 + 5 * i)) ⟨[], ⟨rfl, fun y hy => by cases hy⟩, upd_same, Kp.new hD, hP2.new hD⟩ (fun i H3 hi hv => ?_) (fun H3 hv => ?_)⟩
    · obtain ⟨ns, ⟨hns, hnb⟩, hL, k3, hP3⟩ := hv
      refine ⟨rfl, _, rfl, p, c, _, rfl, hP3, by omega, fun i5 H5 i5a i5b k5 hP5 => ?_⟩
      refine ⟨_, rfl, p, c, _, rfl, hP5, by omega, fun i6 H6 i6a i6b k6 hP6 => ⟨szL (show 2 ≤ 1000000 by decide), fun d hd => ?_⟩⟩
      have nD := hP2.ne hD
      have hL6 : H6 D = some (.lst (ns.map V.int)) := k6 _ _ nD.1 (k5 _ _ nD.1 hL)
      obtain ⟨i7, i7a, i7b, hat⟩ : ∃ i7 : Int, -99 ≤ i7 ∧ i7 ≤ 99 ∧ atI [V.int i5, .int i6] (if (!b) = true then 1 else 0) = some (.int i7) := by
        cases b
        · exact ⟨i6, i6a, i6b, rfl⟩
        · exact ⟨i5, i5a, i5b, rfl⟩
      have nDd : D ≠ d := ne_of_none hL6 hd
      have hL7 : (upd H6 d (.lst [V.int i5, .int i6])) D = some (.lst (ns.map V.int)) := by
        rw [upd_ne nDd]
        exact hL6
      refine ⟨_, rfl, b, rfl, .inr ⟨_, rfl, d, _, _, _, rfl, rfl, SqL.of upd_same, hat, _, hL7, szLt ?_, ns ++ [i7], ⟨?_, fun y hy => ?_⟩, ?_, ?_, ?_⟩⟩
      · rw [List.length_map]
        omega
      · rw [List.length_append, List.length_singleton]
        omega
      · rcases List.mem_append.mp hy with hy | hy
        · exact hnb y hy
        · rw [List.mem_singleton.mp hy]
          exact ⟨i7a, i7b⟩
      · rw [upd_same, List.map_append]
        rfl
      · exact (((k3.trans k5).trans k6).trans (Kp.new hd)).put hD
      · exact ((hP6.new hd).put nD.1 nD.2).mono (by omega)
    · obtain ⟨ns, ⟨hns, hnb⟩, hL, k3, hP3⟩ := hv
      refine ⟨D, _, rfl, .inl ⟨SqL.of hL, fun t ht => ?_⟩⟩
      have hP3' := hP3.new (o := .tup (ns.map V.int)) ht
      refine ⟨_, rfl, p, c, 3, _, rfl, hP3', by omega, by decide, by decide, fun r4 H4 r4a r4b k4 hP4 => ⟨rfl, _, rfl, ite2 (fun e => ?_) (fun e => ?_)⟩⟩
      · refine ⟨szL (show 9 ≤ 1000000 by decide), fun t2 ht2 => ?_⟩
        have hV5 : TupOf IntAt (upd H4 t2 (.tup [.int 0, .int 0, .int 0, .int 0, .int 0, .int 0, .int 0, .int 0, .int 0])) (.ref t2) [0, 0, 0, 0, 0, 0, 0, 0, 0] :=
          ⟨t2, _, rfl, upd_same, .cons rfl (.cons rfl (.cons rfl (.cons rfl (.cons rfl (.cons rfl (.cons rfl (.cons rfl (.cons rfl .nil))))))))⟩
        have k5 := ((k3.trans (Kp.new (o := .tup (ns.map V.int)) ht)).trans k4).trans (Kp.new (o := .tup [.int 0, .int 0, .int 0, .int 0, .int 0, .int 0, .int 0, .int 0, .int 0]) ht2)
        have hP5 := hP4.new (o := .tup [.int 0, .int 0, .int 0, .int 0, .int 0, .int 0, .int 0, .int 0, .int 0]) ht2
        refine ⟨_, rfl, p, c, 4, _, rfl, hP5, by omega, by decide, by decide, fun r6 H6 r6a r6b k6 hP6 => ⟨szL (show 4 ≤ 1000000 by decide), fun d hd => ?_⟩⟩
        refine ⟨_, rfl, p, c, 4, _, rfl, hP6.new hd, by omega, by decide, by decide, fun r7 H7 r7a r7b k7 hP7 => ?_⟩
        obtain ⟨z, hz, hat⟩ := atI_ints (ns := [0, 0, 1, r6]) r7a r7b
        have hz2 : 0 ≤ z ∧ z ≤ 3 := by
          simp only [List.mem_cons, List.not_mem_nil, or_false] at hz
          omega
        refine ⟨d, _, r7, _, rfl, rfl, SqL.of (k7 _ _ (hP6.ne hd).1 upd_same), hat, ?_⟩
        have k7' := (k5.trans k6).trans ((Kp.new hd).trans k7)
        refine ⟨_, rfl, _, rfl, _, rfl, _, rfl, _, rfl, _, rfl, _, rfl, p, c, v2, prs, b, _, rfl, TupOf.mono PairAt.mono _ _ _ _ (TupK.of k7' hP2) h2, ok2, hP7, by omega, fun v8 stk H8 h8 ok8 s8 k8 hP8 => ⟨szL (show 5 ≤ 1000000 by decide), fun t9 ht9 => ?_⟩⟩
        have k9 := k8.trans (Kp.new (o := .tup [.str x, v2, .int z, .ref t2, v8]) ht9)
        refine q _ ⟨x, prs, z, _, stk⟩ _ ⟨t9, v2, _, v8, rfl, upd_same, tup_prs (TupOf.mono PairAt.mono _ _ _ _ (TupK.of (k7'.trans k9) hP2) h2), TupOf.mono IntAt.mono _ _ _ _ (TupK.of ((k6.trans ((Kp.new hd).trans k7)).trans k9) hP5) hV5, TupOf.mono StackAt.mono _ _ _ _ (TupK.new ht9) h8⟩ (rl_ok hx hx1 hxs hxr ok2 s2 hz2.1 hz2.2 rfl (by decide) ok8 s8) ⟨hxr, s2, s8⟩ (((k1.trans k2).trans k7').trans k9) ((hP8.new ht9).mono (by omega))
      · have hV5 : TupOf IntAt H4 (.ref t) ns := ⟨t, ns.map V.int, rfl, k4 _ _ (hP3.ne ht).1 upd_same, paired_ints ns⟩
        have k5 := (k3.trans (Kp.new (o := .tup (ns.map V.int)) ht)).trans k4
        have hP5 := hP4
        refine ⟨_, rfl, p, c, 4, _, rfl, hP5, by omega, by decide, by decide, fun r6 H6 r6a r6b k6 hP6 => ⟨szL (show 4 ≤ 1000000 by decide), fun d hd => ?_⟩⟩
        refine ⟨_, rfl, p, c, 4, _, rfl, hP6.new hd, by omega, by decide, by decide, fun r7 H7 r7a r7b k7 hP7 => ?_⟩
        obtain ⟨z, hz, hat⟩ := atI_ints (ns := [0, 0, 1, r6]) r7a r7b
        have hz2 : 0 ≤ z ∧ z ≤ 3 := by
          simp only [List.mem_cons, List.not_mem_nil, or_false] at hz
          omega
        refine ⟨d, _, r7, _, rfl, rfl, SqL.of (k7 _ _ (hP6.ne hd).1 upd_same), hat, ?_⟩
        have k7' := (k5.trans k6).trans ((Kp.new hd).trans k7)
        refine ⟨_, rfl, _, rfl, _, rfl, _, rfl, _, rfl, _, rfl, _, rfl, p, c, v2, prs, b, _, rfl, TupOf.mono PairAt.mono _ _ _ _ (TupK.of k7' hP2) h2, ok2, hP7, by omega, fun v8 stk H8 h8 ok8 s8 k8 hP8 => ⟨szL (show 5 ≤ 1000000 by decide), fun t9 ht9 => ?_⟩⟩
        have k9 := k8.trans (Kp.new (o := .tup [.str x, v2, .int z, .ref t, v8]) ht9)
        refine q _ ⟨x, prs, z, _, stk⟩ _ ⟨t9, v2, _, v8, rfl, upd_same, tup_prs (TupOf.mono PairAt.mono _ _ _ _ (TupK.of (k7'.trans k9) hP2) h2), TupOf.mono IntAt.mono _ _ _ _ (TupK.of ((k6.trans ((Kp.new hd).trans k7)).trans k9) hP5) hV5, TupOf.mono StackAt.mono _ _ _ _ (TupK.new ht9) h8⟩ (rl_ok hx hx1 hxs hxr ok2 s2 hz2.1 hz2.2 hns hnb ok8 s8) ⟨hxr, s2, s8⟩ (((k1.trans k2).trans k7').trans k9) ((hP8.new ht9).mono (by omega))
end
end Pf


namespace Pf
open PySem PySem.Spec PyProof.Rows L2
theorem sum_len_le {m : Nat} : ∀ {ys : List Str}, (∀ y ∈ ys, y.length ≤ m) → (ys.map (·.length)).sum ≤ ys.length * m
  | [], _ => Nat.zero_le _
  | y :: r, h => by
    have h1 := h y (List.mem_cons_self ..)
    have h2 := sum_len_le (ys := r) fun x hx => h x (List.mem_cons_of_mem _ hx)
    rw [List.map_cons, List.sum_cons, List.length_cons, Nat.succ_mul]
    omega
theorem fits_join {ys : List Str} {k m : Nat} (hk : ys.length ≤ k) (h : ∀ y ∈ ys, y.length ≤ m) (hm : k * m ≤ 1000000) : (ys.map (·.length)).sum + ys.length * ("" : Str).length ≤ 16777216 := by
  have h1 := sum_len_le h
  have h2 : ys.length * m ≤ k * m := Nat.mul_le_mul_right m hk
  have h3 : ("" : Str).length = 0 := by decide +kernel
  rw [h3, Nat.mul_zero]
  omega
def Of (L x : Str) : Prop := ∀ c ∈ x.cps.toList, c ∈ L.cps.toList
theorem Of.small {L x : Str} (h : Of L x) (s : Small L) : Small x := fun c hc => s c (h c hc)
theorem Of.app {L x y : Str} (h1 : Of L x) (h2 : Of L y) : Of L (x ++ y) := fun c hc => by
  rw [app_list] at hc
  exact (List.mem_append.mp hc).elim (h1 c) (h2 c)
theorem of_nil (L : Str) : Of L "" := by
  have : ("" : Str).cps.toList = [] := by decide +kernel
  intro c hc
  rw [this] at hc
  cases hc
theorem sjoin_of {L : Str} : ∀ {ys : List Str}, (∀ y ∈ ys, Of L y) → Of L (Str.join "" ys)
  | [], _ => of_nil L
  | [y], h => h y (List.mem_cons_self ..)
  | y :: z :: r, h => ((h y (List.mem_cons_self ..)).app (of_nil L)).app (sjoin_of (ys := z :: r) fun x hx => h x (List.mem_cons_of_mem _ hx))
theorem join_of {L : Str} {ys : List Str} (h : ∀ y ∈ ys, Of L y) : Of L (Txt.join "" ys) := by
  rw [join_str]
  exact sjoin_of h
def OfP (r : Rl) : Prop := ∀ z ∈ r.prs, Of r.letters z.1
theorem mem_prod {x t : Str} {i : Nat} (h : t ∈ prodU x i) : ∃ a ∈ x.cps.toList, ∃ b ∈ x.cps.toList, t = ⟨#[a]⟩ ++ ⟨#[b]⟩ := by
  obtain ⟨a, ha, h⟩ := List.mem_flatMap.mp h
  obtain ⟨b, hb, e⟩ := List.mem_map.mp h
  exact ⟨a, List.mem_of_mem_take ha, b, hb, e.symm⟩
theorem GoodR.ofP {r : Rl} (g : GoodR r) : OfP r := fun z hz c hc => by
  obtain ⟨a, ha, b, hb, e⟩ := mem_prod (g.2.1.subset (List.mem_map.mpr ⟨z, hz, rfl⟩))
  have e2 : z.1.cps.toList = [a, b] := congrArg (fun s : Str => s.cps.toList) e
  rw [e2] at hc
  simp only [List.mem_cons, List.not_mem_nil, or_false] at hc
  rcases hc with rfl | rfl <;> assumption
section
variable {P : Program} {w : World} {K : PySem.W.Frag} {mg : Str → Option Value} {base : Heap}
abbrev s_law_string : Stmt := topS 36
theorem sc_law_string : FnScope ["_law_pen", "_law_some_rules", "_law_most", "_law_letters_here", "_law_size", "_law_k", "_law_pair"] ["_law_pen", "_law_some_rules", "_law_most"] (defScope s_law_string) :=
  ⟨rfl, rfl, rfl, by decide +kernel, rfl, by decide +kernel, by decide +kernel⟩
def spString : Sp := fun vs H Q _ => ∃ (p c : Addr) (v : V) (r : Rl) (m : Int) (n : Nat), vs = [.ref p, v, .int m] ∧ RulesW H v r ∧ RlOk r ∧ OfP r ∧ 0 ≤ m ∧ m ≤ 20 ∧ Pen H p c n ∧ n + 30 < 1000000 ∧
  ∀ (x : Str) H', (x.length : Int) ≤ m → Of r.letters x → Kp p H H' → Pen H' p c (n + 30) → Q (.str x) H'
theorem ok_string {f : Addr} {fd : FuncData} (F : Fun K "_law_string" "_law_string" s_law_string f fd) (c_law_draw : CDraw P w K mg base) (mlen : mg "len" = none) (mrange : mg "range" = none) : FnOk P w K mg base CX0 2 f fd ["_law_pen", "_law_some_rules", "_law_most"] spString := by
  refine F.ok sc_law_string (fun vs H Q E h => ?_) (fun cdv A outer s H vs Q E hr h => ?_)
  · obtain ⟨p, c, v, r, m, n, rfl, _⟩ := h
    rfl
  · obtain ⟨p, c, v, r, m, n, rfl, ⟨a, vp, vl, vs, rfl, hA, ⟨ap, us, rfl, hp, hR⟩, hl, hs⟩, ok, ofp, m0, m1, hP, hn, q⟩ := h
    refine ⟨_, (pss_cons (ps_set (i := 3) sc_law_string.nd rfl (.inr rfl) (pe_op op_add_str (pe_ix (ixT K) (pv 1) pe_int (fun _ _ => rfl)) (pe_join pe_str (pe_lc (own := [("_law_pair", 6)]) (g := gName 6) (by rfl) sc_law_string.nd (pi_tup (pe_ix (ixT K) (pv 1) pe_int (fun _ _ => rfl))) (blkOk_by (own := [("_law_pair", 6)]) (N := ["_law_pen", "_law_some_rules", "_law_most", "_law_letters_here", "_law_size", "_law_k", "_law_pair"]) (sc := defScope s_law_string) (by decide +kernel)) (fun _ _ _ _ _ => (pg_name (i := 6) sc_law_string.nd rfl (.inl rfl))) (fun _ _ _ _ _ => pts_nil) (fun _ _ _ _ _ => (pe_ix (ixT K) (pv 6) pe_int (fun _ _ => rfl)))))))
      (pss_cons (ps_set (i := 4) sc_law_string.nd rfl (.inl rfl) (pe_ix (ixL K) (pe_lst (pa_cons (pv 2) (pa_cons (pe_ca c_law_draw (hr.mono (by decide)) (by rfl) (pa_cons (pv 0) (pa_cons (pe_op op_add (pv 2) pe_int) pa_nil))) (pa_cons (pe_ca c_law_draw (hr.mono (by decide)) (by rfl) (pa_cons (pv 0) (pa_cons (pe_op op_add (pv 2) pe_int) pa_nil))) pa_nil)))) (pe_ca c_law_draw (hr.mono (by decide)) (by rfl) (pa_cons (pv 0) (pa_cons pe_int pa_nil))) (fun _ _ => rfl)))
      (pss_one (ps_ret (pe_join pe_str (pe_lc (own := [("_law_k", 5)]) (g := gName 5) (by rfl) sc_law_string.nd (pi_range1 (by rfl) mrange (pa_cons (pv 4) pa_nil)) (blkOk_by (own := [("_law_k", 5)]) (N := ["_law_pen", "_law_some_rules", "_law_most", "_law_letters_here", "_law_size", "_law_k", "_law_pair"]) (sc := defScope s_law_string) (by decide +kernel)) (fun _ _ _ _ _ => (pg_name (i := 5) sc_law_string.nd rfl (.inl rfl))) (fun _ _ _ _ _ => pts_nil) (fun _ _ _ _ _ => (pe_ix ix_str (pv 3) (pe_ca c_law_draw (hr.mono (by decide)) (by rfl) (pa_cons (pv 0) (pa_cons (pe_callB call_len_str (by rfl) mlen (by decide +kernel) (pa_cons (pv 3) pa_nil)) pa_nil))) (fun _ _ => rfl))))))))), ?_⟩
    have hlen := paired_len hR
    have hpl := ok.prs
    have hpe : ∀ {H' : Hp}, Ext H H' → ((∃ o, H' ap = some (.frz o (.tup us))) ∨ H' ap = some (.tup us)) := fun k => hp.elim (fun ⟨o, h⟩ => .inl ⟨o, k _ _ h⟩) (fun h => .inr (k _ _ h))
    have hl6 := ok.let6
    have hl1 := ok.let1
    refine ⟨_, rfl, a, _, 0, _, rfl, rfl, SqT.of hA, rfl, ⟨_, rfl⟩, _, rfl, a, _, 1, _, rfl, rfl, SqT.of hA, rfl, ap, rfl, ⟨_, SqT.w hp⟩, fun D hD => lc_tup (K := K) (xs := us) (fun i H6 => Ext H H6 ∧ H6 D = some (.lst (((r.prs.take i).map (·.1)).map V.str)))
      ⟨Ext.new hD, upd_same⟩ (fun i H6 _ ⟨k, _⟩ => SqT.w (hpe k)) (fun i u H6 hi hv => ?_) (fun H6 hv => ?_)⟩
    · obtain ⟨k6, hL6⟩ := hv
      obtain ⟨⟨x1, w1⟩, hx1, a1, rfl, ha1⟩ := paired_get hR hi
      have ha1' := k6 _ _ ha1
      refine ⟨rfl, _, rfl, a1, _, 0, _, rfl, rfl, SqT.of ha1', rfl, _, hL6, szLt ?_, k6.put hD, ?_⟩
      · rw [List.length_map, List.length_map, List.length_take]
        omega
      · rw [upd_same, List.take_add_one, hx1, List.map_append, List.map_append]
        rfl
    · obtain ⟨k6, hL6⟩ := hv
      rw [List.take_of_length_le (by omega)] at hL6
      have hy2 : ∀ y ∈ r.prs.map (·.1), y.length ≤ 2 := fun y hy => by
        obtain ⟨x, hx, rfl⟩ := List.mem_map.mp hy
        exact Nat.le_of_eq (ok.pr x hx).1.1
      have hys : ∀ y ∈ r.prs.map (·.1), Of r.letters y := fun y hy => by
        obtain ⟨x, hx, rfl⟩ := List.mem_map.mp hy
        exact ofp x hx
      have hyl : (r.prs.map (·.1)).length ≤ 12 := by
        rw [List.length_map]
        exact hpl
      have hj := join_le hy2
      refine ⟨"", D, r.prs.map (·.1), rfl, rfl, .inl (SqL.of hL6), fits_join hyl hy2 (by decide), r.letters, Txt.join "" (r.prs.map (·.1)), rfl, rfl, szL (by omega), ?_⟩
      have hz : ∃ z, z = r.letters ++ Txt.join "" (r.prs.map (·.1)) := ⟨_, rfl⟩
      obtain ⟨z, ez⟩ := hz
      have hz1 : 1 ≤ z.length ∧ z.length ≤ 30 := by
        rw [ez, Str.length_append]
        omega
      have hzs : Of r.letters z := by
        rw [ez]
        exact Of.app (fun c hc => hc) (join_of hys)
      rw [← ez]
      have hP6 : Pen H6 p c n := by
        obtain ⟨cells, a, r, h1, h2, h3⟩ := hP
        exact ⟨cells, a, r, k6 _ _ h1, k6 _ _ h2, h3⟩
      refine ⟨_, rfl, _, rfl, _, rfl, m, 1, rfl, rfl, p, c, m + 1, n, rfl, hP6, by omega, by omega, by omega, fun r1 H7 r1a r1b k7 hP7 => ?_⟩
      refine ⟨_, rfl, _, rfl, m, 1, rfl, rfl, p, c, m + 1, _, rfl, hP7, by omega, by omega, by omega, fun r2 H8 r2a r2b k8 hP8 => ⟨szL (show 3 ≤ 1000000 by decide), fun d hd => ?_⟩⟩
      refine ⟨_, rfl, p, c, 3, _, rfl, hP8.new hd, by omega, by decide, by decide, fun r3 H9 r3a r3b k9 hP9 => ?_⟩
      have hLd : H9 d = some (.lst ([m, r1, r2].map V.int)) := k9 _ _ (hP8.ne hd).1 upd_same
      obtain ⟨sz, hsz, hat⟩ := atI_ints (ns := [m, r1, r2]) r3a r3b
      have hsz2 : 0 ≤ sz ∧ sz ≤ m := by
        simp only [List.mem_cons, List.not_mem_nil, or_false] at hsz
        omega
      refine ⟨d, _, r3, _, rfl, rfl, SqL.of hLd, hat, ?_⟩
      have kp9 : Kp p H H9 := (((((show Kp p H H6 from fun b o _ e => k6 b o e)).trans k7).trans k8).trans (Kp.new hd)).trans k9
      refine ⟨⟨_, rfl⟩, _, rfl, sz, rfl, by omega, by omega, fun D2 hD2 => lc_range (lo := 0) (n := sz.toNat) (fun i H3 => ∃ ys : List Str, ys.length = i ∧ (∀ y ∈ ys, y.length ≤ 1 ∧ Of r.letters y) ∧ H3 D2 = some (.lst (ys.map V.str)) ∧ Kp p H9 H3 ∧ Pen H3 p c (n + 3 + i)) ⟨[], rfl, (fun y h => by cases h), upd_same, Kp.new hD2, hP9.new hD2⟩ (fun i H3 hi hv => ?_) (fun H3 hv => ?_)⟩
      · obtain ⟨ys, hyl2, hyo, hL3, k3, hP3⟩ := hv
        refine ⟨rfl, _, rfl, _, rfl, _, rfl, z, rfl, szL (by omega), p, c, z.length, _, rfl, hP3, by omega, by omega, by omega, fun r4 H4 r4a r4b k4 hP4 => ?_⟩
        obtain ⟨ch, hch, hat⟩ := atI_mem (xs := z.cps.toList) r4a (by rw [Array.length_toList]; exact r4b)
        have nD := hP9.ne hD2
        have hL4 := k4 _ _ nD.1 hL3
        refine ⟨z, r4, ch, rfl, rfl, szL (by omega), hat, _, hL4, szLt ?_, ys ++ [⟨#[ch]⟩], ?_, fun y hy => ?_, ?_, (k3.trans k4).put hD2, (hP4.put nD.1 nD.2)⟩
        · rw [List.length_map]
          omega
        · rw [List.length_append, List.length_singleton]
          omega
        · rw [List.mem_append, List.mem_singleton] at hy
          rcases hy with hy | rfl
          · exact hyo y hy
          · exact ⟨Nat.le_refl _, fun c hc => by rw [show c = ch from List.mem_singleton.mp hc]; exact hzs ch hch⟩
        · rw [upd_same, List.map_append]
          rfl
      · obtain ⟨ys, hyl2, hyo, hL3, k3, hP3⟩ := hv
        have hj2 := join_le fun y hy => (hyo y hy).1
        refine ⟨"", D2, ys, rfl, rfl, .inl (SqL.of hL3), fits_join (k := 20) (m := 1) (by omega) (fun y hy => (hyo y hy).1) (by decide), q _ _ (by omega) (join_of fun y hy => (hyo y hy).2) (kp9.trans k3) (hP3.mono (by omega))⟩
end
end Pf


namespace Pf
open PySem PySem.Spec PyProof.Rows L2
/-! ### dict(zip(a, b)) of two tuples -/
section
variable {P : Program} {w : World} {A : Around} {E : Value → Shared → Prop} {s : Shared} {q U O G j1 j2 m1 m2 : Addr} {f : Bool} {og : Obj} {k1 k2 : Nat} {us vs : Array Value}
theorem zn_item {u v : Value} {R : Value → Shared → Prop} (D : ZipApart q U O j1 j2 m1 m2) (hq : IsZipHeld s.heap q U O G f) (hG : s.heap.get? G = some og) (hU : IsPair s.heap U (.ref j1) (.ref j2)) (t1 : s.heap.IsTupleIter j1 m1 k1) (t2 : s.heap.IsTupleIter j2 m2 k2) (b1 : s.heap.IsTuple m1 us) (b2 : s.heap.IsTuple m2 vs) (eu : us[k1]? = some u) (ev : vs[k2]? = some v)
    (next : ∀ h', IsZipHeld h' q U O G true → h'.IsTupleIter j1 m1 (k1 + 1) → h'.IsTupleIter j2 m2 (k2 + 1) → IsPair h' s.heap.objs.size u v → (∀ c o, c ≠ q → c ≠ j1 → c ≠ j2 → s.heap.get? c = some o → h'.get? c = some o) → R (.ref s.heap.objs.size) { s with heap := h' }) :
    wpAny (model P w) A (Builtin.«zip.__next__» ⟨[.ref q], []⟩) (fun fin s' => ∃ v, fin = .done (.ret v) ∧ R v s') E s := by
  show wpAny _ _ (field (.ref q) 2 >>= _) _ _ _
  refine wpAny_bind (wpAny_field hq rfl (x := .bool false) rfl ?_)
  show wpAny _ _ (field (.ref q) 3 >>= _) _ _ _
  refine wpAny_bind (wpAny_field hq rfl (x := .ref U) rfl (wpAny_bind (wpAny_seqItems hU rfl ?_)))
  show wpAny _ _ (Builtin.SmallTypes.ownedTupleIsFree (.ref q) >>= _) _ _ _
  refine wpAny_bind (wpAny_tupleHeld_zip hq hG fun g1 q1 e1 => ?_)
  simp only [Bool.false_eq_true, if_false]; refine wpAny_bind ?_; rw [← Array.forIn_toList]; simp only [List.forIn_cons, List.forIn_nil]
  refine wpAny_bind (wpAny_bind (wpAny_holding ?_))
  show wpAny _ _ (Builtin.SmallTypes.nextOf (.ref j1) >>= _) _ _ _
  refine wpAny_bind (RZ.nextOf_tuple_item (s := { s with heap := g1 }) (t1.extBut e1.extBut D.i1z) (b1.extBut e1.extBut D.l1z) eu fun g2 t1b e2 => wpAny_pure (wpAny_pure ?_))
  refine wpAny_bind (wpAny_bind (wpAny_holding ?_))
  show wpAny _ _ (Builtin.SmallTypes.nextOf (.ref j2) >>= _) _ _ _
  refine wpAny_bind (RZ.nextOf_tuple_item (s := { s with heap := g2 }) ((t2.extBut e1.extBut D.i2z).extBut e2.extBut D.i12.symm) ((b2.extBut e1.extBut D.l2z).extBut e2.extBut D.l2i1) ev fun g3 t2b e3 => wpAny_pure (wpAny_pure (wpAny_pure ?_)))
  show wpAny _ _ (newTuple [u, v] >>= _) _ _ _
  refine wpAny_bind (wpAny_newTuple (wpAny_pure ⟨_, rfl, ?_⟩))
  have sz : g3.objs.size = s.heap.objs.size := by rw [e3.1, e2.1, e1.1]
  have q3 : IsZipHeld g3 q U O G true := e3.extBut _ _ D.i2z.symm (e2.extBut _ _ D.i1z.symm q1)
  have pr : IsPair (g3.push { cls := .type "tuple", data := .seq #[u, v] }) g3.objs.size u v := Heap.get?_push_size _ rfl
  show R (.ref g3.objs.size) _
  rw [sz] at pr ⊢
  exact next _ (Heap.get?_push_of_some _ q3) ((t1b.extBut e3.extBut D.i12).at fun o e => Heap.get?_push_of_some _ e) (t2b.at fun o e => Heap.get?_push_of_some _ e) pr fun c o c1 c2 c3 e => Heap.get?_push_of_some _ (e3.extBut _ _ c3 (e2.extBut _ _ c2 (e1.extBut _ _ c1 e)))
theorem zn_end {R : Fin → Shared → Prop} (hh : A.handled = none) (D : ZipApart q U O j1 j2 m1 m2) (hq : IsZipHeld s.heap q U O G f) (hG : s.heap.get? G = some og) (hU : IsPair s.heap U (.ref j1) (.ref j2)) (t1 : s.heap.IsTupleIter j1 m1 k1) (b1 : s.heap.IsTuple m1 us) (eu : us[k1]? = none)
    (next : ∀ h' e, (∀ c o, c ≠ q → c ≠ j1 → s.heap.get? c = some o → h'.get? c = some o) → (∃ o, h'.get? e = some o ∧ o.cls = .type "StopIteration") → E (.ref e) { s with heap := h' }) :
    wpAny (model P w) A (Builtin.«zip.__next__» ⟨[.ref q], []⟩) R E s := by
  show wpAny _ _ (field (.ref q) 2 >>= _) _ _ _
  refine wpAny_bind (wpAny_field hq rfl (x := .bool false) rfl ?_)
  show wpAny _ _ (field (.ref q) 3 >>= _) _ _ _
  refine wpAny_bind (wpAny_field hq rfl (x := .ref U) rfl (wpAny_bind (wpAny_seqItems hU rfl ?_)))
  show wpAny _ _ (Builtin.SmallTypes.ownedTupleIsFree (.ref q) >>= _) _ _ _
  refine wpAny_bind (wpAny_tupleHeld_zip hq hG fun g1 q1 e1 => ?_)
  simp only [Bool.false_eq_true, if_false]; refine wpAny_bind ?_; rw [← Array.forIn_toList]; simp only [List.forIn_cons, List.forIn_nil]
  refine wpAny_bind (wpAny_bind (wpAny_holding ?_))
  show wpAny _ _ (Builtin.SmallTypes.nextOf (.ref j1) >>= _) _ _ _
  exact wpAny_bind (RZ.nextOf_tuple_end (s := { s with heap := g1 }) hh (t1.extBut e1.extBut D.i1z) (b1.extBut e1.extBut D.l1z) eu fun g2 e e2 he => next g2 e (fun c o c1 c2 x => e2 _ _ c2 (e1.extBut _ _ c1 x)) he)
theorem zp_item {u v : Value} {R : Option Value → Shared → Prop} (D : ZipApart q U O j1 j2 m1 m2) (hq : IsZipHeld s.heap q U O G f) (hG : s.heap.get? G = some og) (hU : IsPair s.heap U (.ref j1) (.ref j2)) (t1 : s.heap.IsTupleIter j1 m1 k1) (t2 : s.heap.IsTupleIter j2 m2 k2) (b1 : s.heap.IsTuple m1 us) (b2 : s.heap.IsTuple m2 vs) (eu : us[k1]? = some u) (ev : vs[k2]? = some v)
    (next : ∀ h', IsZipHeld h' q U O G true → h'.IsTupleIter j1 m1 (k1 + 1) → h'.IsTupleIter j2 m2 (k2 + 1) → IsPair h' s.heap.objs.size u v → (∀ c o, c ≠ q → c ≠ j1 → c ≠ j2 → s.heap.get? c = some o → h'.get? c = some o) → R (some (.ref s.heap.objs.size)) { s with heap := h' }) :
    wpAny (model P w) A (pyNext (.ref q)) R E s := by
  have ty : s.TypeIs (.ref q) "zip" := ⟨_, hq, rfl⟩
  unfold pyNext
  exact wpAny_bind (wpAny_attempt (wpAny_callSpecial?_slot (name := Str.ofString "__next__") ty F.slot_zip_next (wpAny_call_entry F.slot_zip_next ty F.entry_zip_next (zn_item D hq hG hU t1 t2 b1 b2 eu ev fun h' a1 a3 a4 a5 a7 => wpAny_pure (next h' a1 a3 a4 a5 a7)) (F.args_zip_next_1 _))))
theorem zp_end {R : Option Value → Shared → Prop} (hh : A.handled = none) (D : ZipApart q U O j1 j2 m1 m2) (hq : IsZipHeld s.heap q U O G f) (hG : s.heap.get? G = some og) (hU : IsPair s.heap U (.ref j1) (.ref j2)) (t1 : s.heap.IsTupleIter j1 m1 k1) (b1 : s.heap.IsTuple m1 us) (eu : us[k1]? = none)
    (next : ∀ h', (∀ c o, c ≠ q → c ≠ j1 → s.heap.get? c = some o → h'.get? c = some o) → R none { s with heap := h' }) : wpAny (model P w) A (pyNext (.ref q)) R E s := by
  have ty : s.TypeIs (.ref q) "zip" := ⟨_, hq, rfl⟩
  unfold pyNext
  refine wpAny_bind (wpAny_attempt (wpAny_callSpecial?_slot (name := Str.ofString "__next__") ty F.slot_zip_next (wpAny_call_entry F.slot_zip_next ty F.entry_zip_next (zn_end hh D hq hG hU t1 b1 eu fun h' e kp ⟨o, ho, hc⟩ => ?_) (F.args_zip_next_1 _))))
  exact wpAny_bind (wpAny_isInstance (T := "StopIteration") (b := true) ⟨o, ho, hc⟩ isSubtype_stop (wpAny_pure (next _ kp)))
end
theorem zipT_arg {P : Program} {w : World} (q U O j1 j2 m1 m2 : Addr) (D : ZipApart q U O j1 j2 m1 m2) (us vs : Array Value) (hl : us.size = vs.size) :
    PairArg P w "zip" q [q, U, O, j1, j2, m1, m2] [q, O, j1, j2] us.size (fun i k v => us[i]? = some k ∧ vs[i]? = some v)
      (fun h => IsZip h q U O .none ∧ IsPair h U (.ref j1) (.ref j2) ∧ (∃ a b, IsPair h O a b) ∧ h.IsTupleIter j1 m1 0 ∧ h.IsTupleIter j2 m2 0 ∧ h.IsTuple m1 us ∧ h.IsTuple m2 vs) where
  type := fun s ok => ⟨_, ok.1, rfl⟩
  notDict := by decide
  keep := fun h h' ⟨z0, z1, ⟨a, b, z2⟩, z3, z4, z5, z6⟩ k => ⟨k _ _ z0, k _ _ z1, ⟨a, b, k _ _ z2⟩, z3.at fun o e => k _ o e, z4.at fun o e => k _ o e, z5.at fun o e => k _ o e, z6.at fun o e => k _ o e⟩
  there := fun h ⟨z0, z1, ⟨a, b, z2⟩, ⟨_, z3, _⟩, ⟨_, z4, _⟩, ⟨_, z5, _⟩, ⟨_, z6, _⟩⟩ c hc => by
    simp only [List.mem_cons, List.not_mem_nil, or_false] at hc
    rcases hc with rfl | rfl | rfl | rfl | rfl | rfl | rfl
    · exact ⟨_, z0⟩
    · exact ⟨_, z1⟩
    · exact ⟨_, z2⟩
    · exact ⟨_, z3⟩
    · exact ⟨_, z4⟩
    · exact ⟨_, z5⟩
    · exact ⟨_, z6⟩
  sub := fun b hb => by simp only [List.mem_cons, List.not_mem_nil, or_false] at hb ⊢; rcases hb with rfl | rfl | rfl | rfl <;> simp
  noKeys := fun A s Q E hA ok h => getAttrOr_miss_zip ok.1 rfl rfl rfl zip_no_keys (by decide +kernel) hA h
  iter := fun A s d Q E hA ⟨z0, z1, ⟨a, b, z2⟩, z3, z4, z5, z6⟩ hd hdf h => by
    simp only [List.mem_cons, List.not_mem_nil, or_false, not_or] at hdf
    obtain ⟨d0, d1, d2, d3, d4, d5, d6⟩ := hdf
    refine wpAny_pyIter_zip z0 (h q [q, O, j1, j2] (fun i h => IsPair h U (.ref j1) (.ref j2) ∧ h.IsTupleIter j1 m1 i ∧ h.IsTupleIter j2 m2 i ∧ h.IsTuple m1 us ∧ h.IsTuple m2 vs ∧ ((IsZip h q U O .none ∧ ∃ a b, IsPair h O a b) ∨ ∃ G f og, IsZipHeld h q U O G f ∧ h.get? G = some og ∧ G ≠ q ∧ G ≠ j1 ∧ G ≠ j2 ∧ G ≠ d)) s.heap s.toks ?_ ⟨z1, z3, z4, z5, z6, .inl ⟨z0, a, b, z2⟩⟩ (fun _ _ e => e) fun b hb => .inl hb)
    refine { off := fun hm => ?_, frame := fun i g1 g2 st k => ?_, item := fun i s1 Q1 E1 hi st hds next => ?_, done := fun s1 Q1 E1 st next => ?_ }
    · simp only [List.mem_cons, List.not_mem_nil, or_false] at hm
      rcases hm with e | e | e | e
      · exact d0 e
      · exact d2 e
      · exact d3 e
      · exact d4 e
    · obtain ⟨y1, y3, y4, y5, y6, y⟩ := st
      refine ⟨k _ _ (Ne.symm d1) y1, y3.at fun o e => k _ o (Ne.symm d3) e, y4.at fun o e => k _ o (Ne.symm d4) e, y5.at fun o e => k _ o (Ne.symm d5) e, y6.at fun o e => k _ o (Ne.symm d6) e, ?_⟩
      rcases y with ⟨y0, a, b, y2⟩ | ⟨G, f, og, y0, yG, r1, r2, r3, r4⟩
      · exact .inl ⟨k _ _ (Ne.symm d0) y0, a, b, k _ _ (Ne.symm d2) y2⟩
      · exact .inr ⟨G, f, og, k _ _ (Ne.symm d0) y0, k _ _ r4 yG, r1, r2, r3, r4⟩
    · obtain ⟨y1, y3, y4, y5, y6, y⟩ := st
      have eu := Array.getElem?_eq_getElem hi
      have ev := Array.getElem?_eq_getElem (hl ▸ hi : i < vs.size)
      have lt : ∀ {c o}, s1.heap.get? c = some o → s1.heap.objs.size ≠ c := fun e => Nat.ne_of_gt (Heap.lt_size e)
      have n1 : s1.heap.objs.size ≠ j1 := let ⟨_, e, _⟩ := y3; lt e
      have n2 : s1.heap.objs.size ≠ j2 := let ⟨_, e, _⟩ := y4; lt e
      rcases y with ⟨y0, a, b, y2⟩ | ⟨G, f, og, y0, yG, r1, r2, r3, r4⟩
      · refine RZ.pyNext_zipT_item D y0 y1 y2 y3 y4 y5 y6 eu ev fun h' a1 a2 a3 a4 a5 a6 k => ?_
        refine next s1.heap.objs.size _ _ h' s1.toks ⟨eu, ev⟩ (.inl ⟨_, a5, rfl, _, rfl⟩) ⟨k _ _ D.TIz D.TITO D.TIi1 D.TIi2 y1, a3, a4, y5.at fun o e => k _ o D.l1z D.l1TO D.l1i1 D.l1i2 e, y6.at fun o e => k _ o D.l2z D.l2TO D.l2i1 D.l2i2 e, .inr ⟨s1.heap.objs.size, false, _, a1, a5, lt y0, n1, n2, Nat.ne_of_gt hds⟩⟩ fun c o hc e => ?_
        simp only [List.mem_cons, List.not_mem_nil, or_false, not_or] at hc
        exact k c o hc.1 hc.2.1 hc.2.2.1 hc.2.2.2 e
      · refine zp_item D y0 yG y1 y3 y4 y5 y6 eu ev fun h' a1 a3 a4 a5 k => ?_
        refine next s1.heap.objs.size _ _ h' s1.toks ⟨eu, ev⟩ (.inl ⟨_, a5, rfl, _, rfl⟩) ⟨k _ _ D.TIz D.TIi1 D.TIi2 y1, a3, a4, y5.at fun o e => k _ o D.l1z D.l1i1 D.l1i2 e, y6.at fun o e => k _ o D.l2z D.l2i1 D.l2i2 e, .inr ⟨G, true, og, a1, k _ _ r1 r2 r3 yG, r1, r2, r3, r4⟩⟩ fun c o hc e => ?_
        simp only [List.mem_cons, List.not_mem_nil, or_false, not_or] at hc
        exact k c o hc.1 hc.2.2.1 hc.2.2.2 e
    · obtain ⟨y1, y3, y4, y5, y6, y⟩ := st
      have eu : us[us.size]? = none := Array.getElem?_eq_none (Nat.le_refl _)
      rcases y with ⟨y0, a, b, y2⟩ | ⟨G, f, og, y0, yG, r1, r2, r3, r4⟩
      · refine RZ.pyNext_zipT_end hA D y0 y1 y2 y3 y4 y5 y6 (.inl eu) fun h' k => next h' s1.toks fun c o hc e => ?_
        simp only [List.mem_cons, List.not_mem_nil, or_false, not_or] at hc
        exact k c o hc.1 hc.2.1 hc.2.2.1 hc.2.2.2 e
      · refine zp_end hA D y0 yG y1 y3 y5 eu fun h' k => next h' s1.toks fun c o hc e => ?_
        simp only [List.mem_cons, List.not_mem_nil, or_false, not_or] at hc
        exact k c o hc.1 hc.2.2.1 e
theorem kv_zip {P : Program} {w : World} : ∀ {kvs : List (Key × V)} {its its2 : List Value}, Vals (kvs.map fun x => kV x.1) its → Vals (kvs.map (·.2)) its2 → ∃ prs : List (Key × Value), KV kvs prs ∧ prs.length = kvs.length ∧ ∀ (i : Nat) (key v : Value), its[i]? = some key → its2[i]? = some v → ∃ k, prs[i]? = some (k, v) ∧ (mixKind P w).is k key = true
  | [], _, _, r1, r2 => ⟨[], .nil, rfl, fun i key v e _ => by
      cases r1
      cases e⟩
  | (k, y) :: rest, _, _, r1, r2 => by
    rw [List.map_cons] at r1 r2
    cases r1 with
    | cons a1 t1 =>
      cases r2 with
      | cons a2 t2 =>
        obtain ⟨prs, r, hl, hp⟩ := kv_zip (P := P) (w := w) t1 t2
        refine ⟨(k, _) :: prs, .cons ⟨rfl, a2⟩ r, by rw [List.length_cons, List.length_cons, hl], fun i key v e e2 => ?_⟩
        cases i with
        | zero =>
          rw [List.getElem?_cons_zero] at e e2
          cases e
          cases e2
          exact ⟨k, rfl, kV_is a1⟩
        | succ i =>
          rw [List.getElem?_cons_succ] at e e2
          exact hp i key v e e2
def tDz (K : PySem.W.Frag) (ta : TA) : TE := fun σ H Q => ta σ H fun vs H1 => ∃ (a b : Addr) (kvs : List (Key × V)), vs = [.ref a, .ref b] ∧ SqT K H1 a (kvs.map fun x => kV x.1) ∧ SqT K H1 b (kvs.map (·.2)) ∧ ∀ p, H1 p = none → Q (.ref p) (upd H1 p (.dK (mergeK [] kvs)))
theorem pe_dictZip {X : Cx} {e e2 : Expr} {ta : TA} {p p2 pos pos2 : Pos} (hgd : Gl X "dict") (hmd : X.mg "dict" = none) (hg : Gl X "zip") (hm : X.mg "zip" = none) (hcalm : X.calm = true) (ha : PA X [e, e2] ta)
    (na : starEach [.Call (.Name "zip" p2) [e, e2] [] pos2] X.env = (false, eval (.Call (.Name "zip" p2) [e, e2] [] pos2) X.env) :: starEach [] X.env := by rfl)
    (hs : starEach [e, e2] X.env = (false, eval e X.env) :: starEach [e2] X.env := by rfl) (hpl : (backTo pos2 (starEach [e2] X.env)).any (·.1) = false := by rfl) :
    PE X (.Call (.Name "dict" p) [.Call (.Name "zip" p2) [e, e2] [] pos2] [] pos) (tDz X.K ta) := by
  refine ⟨fun pins s σ H Q I h => ?_⟩
  refine Call_ (ld_blt I hgd hmd PyProof.Rows.boot_dict (PyProof.Rows.callWith_type1 (args_cons (Call_ (ld_blt I hg hm PyProof.Rows.boot_zip (PyProof.Rows.callWith_type1 (thn (ha.run pos2 pins s σ H _ I h) fun us s1 ⟨vs, H1, I1, r1, q1⟩ => ?_) hs hpl))) na) na))
  obtain ⟨a, b, kvs, rfl, ha1, hb1, q⟩ := q1
  cases r1 with
  | cons ra rr =>
    cases rr with
    | cons rb rr =>
      cases rr
      cases ra
      cases rb
      obtain ⟨its, v1, p1, hz1⟩ := I1.tuple ha1
      obtain ⟨its2, v2, p2', hz2⟩ := I1.tuple hb1
      obtain ⟨o1, ho1, y1⟩ := id p1
      obtain ⟨o2, ho2, y2⟩ := id p2'
      obtain ⟨prs, rel, hl, hp⟩ := kv_zip (P := X.prog) (w := X.w) v1 v2
      have l1 : its.length = kvs.length := by
        have := v1.length
        rw [List.length_map] at this
        exact this.symm
      have l2 : its2.length = kvs.length := by
        have := v2.length
        rw [List.length_map] at this
        exact this.symm
      rw [List.length_map] at hz1
      refine RZ.call_zipT (show s1.heap.IsTuple a its.toArray from p1) (show s1.heap.IsTuple b its2.toArray from p2') fun h' hz hTI hTO t1 t2 hsz hk => args_nil ?_
      have D := PySem.W.ktu_apart s1.heap.objs.size a b (Heap.lt_size ho1) (Heap.lt_size ho2)
      refine PySem.call_dict_pairs (knd := mixKind X.prog X.w) (kvs := prs) (zipT_arg _ _ _ _ _ a b D its.toArray its2.toArray (by rw [List.size_toArray, List.size_toArray, l1, l2])) (I1.ok.hd hcalm) ⟨hz, hTI, ⟨_, _, hTO⟩, t1, t2, ⟨o1, hk _ _ ho1, y1⟩, ⟨o2, hk _ _ ho2, y2⟩⟩ ⟨?_, fun i key v e => ?_⟩ ?_ fun h2 tk hd hk2 => ?_
      · rw [hl, List.size_toArray, l1]
      · exact hp i key v (by simpa using e.1) (by simpa using e.2)
      · rw [List.size_toArray, l1]
        exact hz1
      · have keep : ∀ c o, s1.heap.get? c = some o → h2.get? c = some o := fun c o e => by
          have hlt := Heap.lt_size e
          refine hk2 c o (fun hm => ?_) (hk c o e)
          simp only [List.mem_cons, List.not_mem_nil, or_false] at hm
          rcases hm with z | z | z | z
          · exact Nat.not_lt.mpr (Nat.le_add_right _ _) (z ▸ hlt)
          · exact Nat.not_lt.mpr (Nat.le_add_right _ _) (z ▸ hlt)
          · exact Nat.not_lt.mpr (Nat.le_refl _) (z ▸ hlt)
          · exact Nat.not_lt.mpr (Nat.le_add_right _ _) (z ▸ hlt)
        have hle : s1.heap.objs.size ≤ h'.objs.size := by
          rw [hsz]
          exact Nat.le_add_right _ _
        have hm : (h'.objs.size == sysModules) = false := beq_eq_false_iff_ne.mpr (Nat.ne_of_gt (Nat.lt_of_lt_of_le I1.big hle))
        have hlen : (mergeK [] kvs).length ≤ sizeLine := by
          refine Nat.le_trans (length_mergeK kvs []) ?_
          rw [List.length_nil, Nat.zero_add]
          exact hz1
        exact ⟨.ref h'.objs.size, upd H1 h'.objs.size (.dK (mergeK [] kvs)), I1.laid (t' := tk) keep hle (show ObjOk X.prog X.w _ _ _ (.dK (mergeK [] kvs)) from ⟨hlen, hm, merged [] prs, KV.merge rel .nil, hd⟩), rfl, q _ (I1.hok.fresh hle)⟩
end Pf


namespace Pf
open PySem PySem.Spec PyProof.Rows L2
/-! ### sum(lists, start) -/
abbrev LiO (its : List Value) (n : Nat) : Obj := { cls := .type "list", dict := none, data := .seq its.toArray n, slots := #[] }
section
variable {P : Program} {w : World} {A : Around} {R : Result → Shared → Prop} {I l S : Addr} {items : Array Value}
theorem suml_loop (hh : A.in1.handled = none) (nIS : I ≠ S) (nIl : l ≠ I) (nSl : l ≠ S) : ∀ (rest : List (Addr × List Value)) (i : Nat) (s : Shared) (t : Addr) (acc : List Value) (c1 ct : Nat), items.size = i + rest.length → s.heap.IsListIter I l i → s.heap.IsList l items →
    (∀ (j : Nat) (x : Addr × List Value), rest[j]? = some x → items[i + j]? = some (.ref x.1) ∧ x.1 ≠ I ∧ x.1 ≠ S ∧ ∃ c, s.heap.get? x.1 = some (LiO x.2 c)) → s.heap.get? S = some (LiO [.ref t] c1) → s.heap.get? t = some (LiO acc ct) → t ≠ I → t ≠ S →
    acc.length + (rest.map (·.2)).flatten.length ≤ sizeLine →
    (∀ h' tk t' c', h'.get? t' = some (LiO (acc ++ (rest.map (·.2)).flatten) c') → (rest = [] → t' = t) → (rest ≠ [] → s.heap.objs.size ≤ t') → (∀ b o, b ≠ I → b ≠ S → s.heap.get? b = some o → h'.get? b = some o) → R (.ok (.ret (.ref t'))) { s with heap := h', toks := tk }) →
    codeAny (model P w) A (.builtin "sum.loop" ⟨[.ref I, .ref S, rawInt 2, rawInt 0], []⟩) R s
  | [], i, s, t, acc, c1, ct, hn, it, hl, _, hS, ht, _, _, _, hR => by
    refine codeAny_builtin F.entry_sum_loop ?_; rw [Around.under_plainId F.plain_sum_loop _]
    show wpAny _ A.in1 (seqItems? (.ref S) >>= _) _ _ _
    refine wpAny_bind (wpAny_seqItems hS rfl ?_)
    show wpAny _ A.in1 (tryCatch (pyNext (.ref I)) _ >>= _) _ _ _
    refine wpAny_bind (wpAny_tryCatch (wpAny_pyNext_list_end hh it hl (Array.getElem?_eq_none (by rw [hn]; exact Nat.le_refl _)) fun h' he => ?_))
    exact wpAny_pure (hR h' s.toks t ct (by rw [List.map_nil, List.flatten_nil, List.append_nil]; exact he t _ (by assumption) ht) (fun _ => rfl) (fun z => absurd rfl z) fun b o n1 _ e => he b o n1 e)
  | (b, ys) :: rest, i, s, t, acc, c1, ct, hn, it, hl, hx, hS, ht, ntI, ntS, hz, hR => by
    obtain ⟨e0, nbI, nbS, cb, hb⟩ := hx 0 (b, ys) rfl
    rw [List.map_cons, List.flatten_cons] at hR
    rw [List.map_cons, List.flatten_cons, List.length_append] at hz
    have hz : acc.length + (ys.length + (rest.map (·.2)).flatten.length) ≤ sizeLine := hz
    refine codeAny_builtin F.entry_sum_loop ?_; rw [Around.under_plainId F.plain_sum_loop _]
    show wpAny _ A.in1 (seqItems? (.ref S) >>= _) _ _ _
    refine wpAny_bind (wpAny_seqItems hS rfl ?_)
    show wpAny _ A.in1 (tryCatch (pyNext (.ref I)) _ >>= _) _ _ _
    refine wpAny_bind (wpAny_tryCatch (wpAny_pyNext_list_item it hl e0 fun h1 it1 s1 => ?_))
    have hS1 := s1.extBut _ _ nIS.symm hS
    have ht1 := s1.extBut _ _ ntI ht
    have hb1 := s1.extBut _ _ nbI hb
    show wpAny _ A.in1 ((holding [Value.ref b] (binaryOp .Add (.ref t) (.ref b))).attempt >>= _) _ _ _
    refine wpAny_bind (wpAny_attempt (wpAny_holding (PySem.P.add_list (n := ct) (n2 := cb) ht1 hb1 ?_ (by rw [List.size_toArray, List.size_toArray]; show acc.length + ys.length ≤ _; omega))))
    have ea : acc.toArray ++ ys.toArray = (acc ++ ys).toArray := by simp
    rw [ea]
    have sz1 : h1.objs.size = s.heap.objs.size := s1.1
    generalize hh2 : h1.push { cls := Value.type "list", data := Data.seq (acc ++ ys).toArray } = h2
    have up2 : ∀ c o, h1.get? c = some o → h2.get? c = some o := fun c o e => hh2 ▸ Heap.get?_push_of_some _ e
    have new2 : h2.get? h1.objs.size = some (LiO (acc ++ ys) 0) := hh2 ▸ Heap.get?_push_size _ rfl
    have sz2 : h2.objs.size = h1.objs.size + 1 := hh2 ▸ Heap.size_push ..
    have ltS : S < h1.objs.size := Heap.lt_size hS1
    have ltI : I < h1.objs.size := by
      obtain ⟨_, e, _⟩ := it1
      exact Heap.lt_size e
    show wpAny _ A.in1 (updateSeq S (fun _ => #[.ref h1.objs.size]) >>= _) _ _ _
    refine wpAny_bind (wpAny_updateSeq (up2 _ _ hS1) rfl ?_)
    have hS3 := Heap.get?_update_self (Obj.mapSeq fun _ => #[Value.ref h1.objs.size]) (up2 _ _ hS1) rfl
    refine wpAny_bind (wpAny_letGo ?_)
    refine wpAny_bind (wpAny_updateSeq hS3 rfl (wpAny_pure ⟨plainId_quiet F.plain_sum_loop _, ?_⟩))
    have hS4 := Heap.get?_update_self (Obj.mapSeq fun _ => #[Value.ref h1.objs.size]) hS3 rfl
    have up4 : ∀ c o, c ≠ S → h2.get? c = some o → ((h2.update S (Obj.mapSeq fun _ => #[Value.ref h1.objs.size])).update S (Obj.mapSeq fun _ => #[Value.ref h1.objs.size])).get? c = some o := fun c o n e => (Heap.get?_update_other _ _ n.symm).trans ((Heap.get?_update_other _ _ n.symm).trans e)
    have all : ∀ c o, c ≠ I → c ≠ S → s.heap.get? c = some o → ((h2.update S (Obj.mapSeq fun _ => #[Value.ref h1.objs.size])).update S (Obj.mapSeq fun _ => #[Value.ref h1.objs.size])).get? c = some o := fun c o n1 n2 e => up4 c o n2 (up2 _ _ (s1.extBut _ _ n1 e))
    refine suml_loop hh nIS nIl nSl rest (i + 1) { s with heap := (h2.update S (Obj.mapSeq fun _ => #[Value.ref h1.objs.size])).update S (Obj.mapSeq fun _ => #[Value.ref h1.objs.size]) } h1.objs.size (acc ++ ys) _ 0 ?_ ?_ ?_ (fun j x hj => ?_) hS4 (up4 _ _ (Nat.ne_of_gt ltS) new2) (Nat.ne_of_gt ltI) (Nat.ne_of_gt ltS) ?_ fun h' tk t' c' g1 g2 g3 g4 => ?_
    · rw [hn, List.length_cons]
      omega
    · exact it1.at fun o e => up4 _ _ nIS (up2 _ _ e)
    · exact hl.at fun o e => all _ _ nIl nSl e
    · obtain ⟨y1, y2, y3, c, y4⟩ := hx (j + 1) x hj
      exact ⟨by rw [show i + 1 + j = i + (j + 1) by omega]; exact y1, y2, y3, c, all _ _ y2 y3 y4⟩
    · rw [List.length_append]
      omega
    · refine hR h' tk t' c' (by rw [← List.append_assoc]; exact g1) (fun z => nomatch z) (fun _ => ?_) fun b o n1 n2 e => g4 b o n1 n2 (all _ _ n1 n2 e)
      cases hr : rest with
      | nil =>
        rw [g2 hr, sz1]
        exact Nat.le_refl _
      | cons y r =>
        have := g3 (by rw [hr]; intro z; cases z)
        have e4 : ((h2.update S (Obj.mapSeq fun _ => #[Value.ref h1.objs.size])).update S (Obj.mapSeq fun _ => #[Value.ref h1.objs.size])).objs.size = h2.objs.size := by
          rw [Heap.size_update, Heap.size_update]
        exact Nat.le_trans (by rw [← sz1, ← Nat.lt_succ_iff]; show h1.objs.size < _; rw [e4, sz2]; exact Nat.lt_succ_of_le (Nat.le_succ _)) this
end
theorem sub_ls : isSubtype (.type "list") (.type "str") = pure false := by rw [isSubtype_type]; kernel_rfl
theorem sub_lb : isSubtype (.type "list") (.type "bytes") = pure false := by rw [isSubtype_type]; kernel_rfl
theorem sub_la : isSubtype (.type "list") (.type "bytearray") = pure false := by rw [isSubtype_type]; kernel_rfl
theorem args_sum2 (a b : Value) : argsOk "sum" ⟨[a, b], []⟩ := by unfold argsOk; kernel_rfl
theorem lists_of {X : Cx} {pins : List (Addr × Obj)} {σ : L2.St} {H : Hp} {s : Shared} (I : Inv X pins σ H s) : ∀ {ls : List (Addr × List V)}, (∀ x ∈ ls, H x.1 = some (.lst x.2)) → ∃ rest : List (Addr × List Value), rest.map (·.1) = ls.map (·.1) ∧ Vals (ls.map (·.2)).flatten (rest.map (·.2)).flatten ∧ ∀ x ∈ rest, ∃ c, s.heap.get? x.1 = some (LiO x.2 c)
  | [], _ => ⟨[], rfl, .nil, fun x h => by cases h⟩
  | (a, ys) :: ls, h => by
    obtain ⟨rest, r1, r2, r3⟩ := lists_of I (ls := ls) fun x hx => h x (List.mem_cons_of_mem _ hx)
    obtain ⟨_, its, n, r, _, e⟩ := I.lstM (h (a, ys) (List.mem_cons_self ..))
    refine ⟨(a, its) :: rest, by rw [List.map_cons, List.map_cons, r1], ?_, fun x hx => ?_⟩
    · rw [List.map_cons, List.map_cons, List.flatten_cons, List.flatten_cons]
      exact r.append r2
    · rcases List.mem_cons.mp hx with rfl | hx
      · exact ⟨n, e⟩
      · exact r3 x hx
def rSumL (K : PySem.W.Frag) : List V → Hp → VK → Prop := fun vs H Q => ∃ (a b : Addr) (ls : List (Addr × List V)) (xs : List V), vs = [.ref a, .ref b] ∧ SqL K H a (ls.map fun x => .ref x.1) ∧ (∀ x ∈ ls, H x.1 = some (.lst x.2)) ∧ H b = some (.lst xs) ∧ xs.length + (ls.map (·.2)).flatten.length ≤ sizeLine ∧
  (ls = [] → Q (.ref b) H) ∧ (ls ≠ [] → ∀ p, H p = none → Q (.ref p) (upd H p (.lst (xs ++ (ls.map (·.2)).flatten))))
theorem cr_sumL (K : PySem.W.Frag) {X : Cx} (hcalm : X.calm = true) (hK : X.K = K := by rfl) : CallR X (.builtin "sum") (rSumL K) := by
  subst hK
  intro pins s σ H vs us Q I r h
  obtain ⟨a, b, ls, xs, rfl, ha, hls, hb, hz, q0, q1⟩ := h
  cases r with
  | cons ra rr =>
    cases rr with
    | cons rb rr =>
      cases rr
      cases ra
      cases rb
      obtain ⟨its, v1, pl, _⟩ := I.list ha
      obtain ⟨rest, r1, r2, r3⟩ := lists_of I hls
      obtain ⟨_, bs, nb, vb, _, eb⟩ := I.lstM hb
      have hl : s.heap.IsList a its.toArray := pl.isList
      have ei : its = rest.map fun x => Value.ref x.1 := by
        have e1 : (ls.map fun x => V.ref x.1) = (ls.map (·.1)).map V.ref := by rw [List.map_map]; rfl
        rw [e1] at v1
        rw [refs_at v1, ← r1, List.map_map]
        rfl
      refine call_function_tree F.kind_sum F.plain_sum F.entry_sum (args_sum2 _ _) ?_
      unfold Builtin.«sum»; simp only [List.length_cons, List.length_nil]; rw [if_neg (by decide)]
      refine wpAny_bind (wpAny_of_eq (show Builtin.Builtins.bindParams "sum" ["start"] 0 ⟨[.ref b], []⟩ = pure [some (.ref b)] from rfl) ?_)
      refine wpAny_bind (wpAny_pyIter_list hl ?_)
      have tb : ∀ tk, Shared.TypeIs { s with heap := s.heap.push { cls := .type "list_iterator", data := .fields #[.ref a, .int 0 0] }, toks := tk } (.ref b) "list" := fun _ => ⟨_, Heap.get?_push_of_some _ eb, rfl⟩
      refine wpAny_bind (wpAny_pure ?_)
      simp only [List.forIn_cons, List.forIn_nil]
      refine wpAny_bind (wpAny_bind (wpAny_bind (wpAny_isInstance (T := "list") (b := false) (tb _) sub_ls ?_))); simp only [Bool.false_eq_true, if_false]
      refine wpAny_pure (wpAny_bind (wpAny_bind (wpAny_isInstance (T := "list") (b := false) (tb _) sub_lb ?_))); simp only [Bool.false_eq_true, if_false]
      refine wpAny_pure (wpAny_bind (wpAny_bind (wpAny_isInstance (T := "list") (b := false) (tb _) sub_la ?_))); simp only [Bool.false_eq_true, if_false]
      refine wpAny_pure (wpAny_pure (wpAny_bind (wpAny_newObj_type (wpAny_pure ⟨plainId_quiet F.plain_sum_loop _, ?_⟩))))
      have lt : ∀ {c o}, s.heap.get? c = some o → c < s.heap.objs.size := fun e => Heap.lt_size e
      have la : a < s.heap.objs.size := pl.lt
      have lb : b < s.heap.objs.size := lt eb
      have sz : (s.heap.push { cls := .type "list_iterator", data := .fields #[.ref a, .int 0 0] }).objs.size = s.heap.objs.size + 1 := Heap.size_push ..
      have up : ∀ c o, s.heap.get? c = some o → ((s.heap.push { cls := .type "list_iterator", data := .fields #[.ref a, .int 0 0] }).push (LiO [.ref b] 0)).get? c = some o := fun c o e => Heap.get?_push_of_some _ (Heap.get?_push_of_some _ e)
      have off : ∀ {c}, c < s.heap.objs.size + 1 → c ≠ (s.heap.push { cls := .type "list_iterator", data := .fields #[.ref a, .int 0 0] }).objs.size := fun h => by
        rw [sz]
        exact Nat.ne_of_lt h
      refine suml_loop (P := X.prog) (w := X.w) (A := X.A) (I := s.heap.objs.size) (l := a) (S := (s.heap.push { cls := .type "list_iterator", data := .fields #[.ref a, .int 0 0] }).objs.size) (items := its.toArray) (I.ok.hd hcalm) (off (Nat.lt_succ_self _)) (Nat.ne_of_lt la) (off (Nat.lt_succ_of_lt la)) rest 0 { s with heap := (s.heap.push { cls := .type "list_iterator", data := .fields #[.ref a, .int 0 0] }).push (LiO [.ref b] 0) } b bs 0 nb ?_ ⟨_, Heap.get?_push_of_some _ (Heap.get?_push_size _ rfl), rfl, rfl⟩ (hl.at fun o e => up _ _ e) (fun j x hj => ?_) ?_ (up _ _ eb) (Nat.ne_of_lt lb) (off (Nat.lt_succ_of_lt lb)) ?_ fun h' tk t' c' g1 g2 g3 g4 => ?_
      · rw [List.size_toArray, ei, List.length_map, Nat.zero_add]
      · obtain ⟨c, hc⟩ := r3 x (List.mem_of_getElem? hj)
        have lx := lt hc
        refine ⟨?_, Nat.ne_of_lt lx, off (Nat.lt_succ_of_lt lx), c, up _ _ hc⟩
        rw [Nat.zero_add, List.getElem?_toArray, ei, List.getElem?_map, hj]
        rfl
      · exact Heap.get?_push_size _ rfl
      · have := r2.length
        have := vb.length
        omega
      · have keep : ∀ c o, s.heap.get? c = some o → h'.get? c = some o := fun c o e => g4 c o (Nat.ne_of_lt (lt e)) (off (Nat.lt_succ_of_lt (lt e))) (up c o e)
        cases hr : ls with
        | nil =>
          have hrest : rest = [] := by
            rw [hr] at r1
            cases rest with
            | nil => rfl
            | cons y z => cases r1
          rw [g2 hrest]
          exact ⟨.ref b, H, I.kept keep, rfl, q0 hr⟩
        | cons y z =>
          have hrest : rest ≠ [] := fun e => by
            rw [e, hr] at r1
            cases r1
          have hle : s.heap.objs.size ≤ t' := Nat.le_trans (by rw [Heap.size_push, Heap.size_push]; omega) (g3 hrest)
          refine ⟨.ref t', upd H t' (.lst (xs ++ (ls.map (·.2)).flatten)), I.laid keep hle (show ObjOk X.prog X.w _ _ _ (.lst (xs ++ (ls.map (·.2)).flatten)) from ⟨?_, bs ++ (rest.map (·.2)).flatten, c', vb.append r2, g1⟩), rfl, q1 (by rw [hr]; intro e; cases e) _ (I.hok.fresh hle)⟩
          rw [List.length_append]
          exact hz
/-! ### tuple(xs) of a list, its object known; dict(ps) of such a tuple of pairs -/
def rTupleFz (K : PySem.W.Frag) : List V → Hp → VK → Prop := fun xs H Q => ∃ p ys, xs = [.ref p] ∧ SqL K H p ys ∧ ∀ (l : Addr) (o : Obj), H l = none → o.dict = none → Q (.ref l) (upd H l (.frz o (.tup ys)))
theorem tupleFz (K : PySem.W.Frag) {X : Cx} (hK : X.K = K := by rfl) : CallR X (.type "tuple") (rTupleFz K) := by
  subst hK
  intro pins s σ H vs us Q I r h
  obtain ⟨p, ys, rfl, hs, q⟩ := h
  obtain ⟨u, rfl, rfl⟩ := vals1 r
  obtain ⟨its, rv, pl, hz⟩ := I.list hs
  refine call_tuple_list pl.isList (fun h' hk => ?_) (by rw [List.size_toArray, ← rv.length]; exact hz)
  have I1 : Inv X pins σ H { s with heap := h' } := I.kept (t' := s.toks) hk
  refine ⟨.ref h'.objs.size, _, I1.laid (t' := s.toks) (o := .frz { cls := .type "tuple", data := .seq its.toArray } (.tup ys)) (fun b o e => Heap.get?_push_of_some _ e) (Nat.le_refl _) ?_, rfl, q _ _ (I1.hok.fresh (Nat.le_refl _)) rfl⟩
  exact ⟨Heap.get?_push_size _ rfl, hz, its, rv, IsTup.new _ _⟩
theorem trips {X : Cx} {pins : List (Addr × Obj)} {σ : L2.St} {H : Hp} {s : Shared} (I : Inv X pins σ H s) : ∀ {ps : List Addr} {kvs : List (Key × V)}, Paired (fun p kv => SqT X.K H p [kV kv.1, kv.2]) ps kvs →
    ∃ tr : List (Key × Value × Value), tr.length = ps.length ∧ KV kvs (tr.map fun t => (t.1, t.2.2)) ∧ ∀ (j : Nat) (t : Key × Value × Value), tr[j]? = some t → ∃ b : Addr, ps[j]? = some b ∧ IsTup s.heap b #[t.2.1, t.2.2] ∧ (mixKind X.prog X.w).is t.1 t.2.1 = true
  | _, _, .nil => ⟨[], rfl, .nil, fun j t e => by simp at e⟩
  | _, _, .cons (a := p) (b := kv) h t => by
    obtain ⟨tr, hl, r, hp⟩ := trips I t
    obtain ⟨its, rv, ht, _⟩ := I.tuple h
    obtain ⟨u, y, ei, ru, ry⟩ := vals2 rv
    subst ei
    refine ⟨(kv.1, u, y) :: tr, by rw [List.length_cons, List.length_cons, hl], .cons ⟨rfl, ry⟩ r, fun j t e => ?_⟩
    cases j with
    | zero =>
      rw [List.getElem?_cons_zero] at e
      cases e
      exact ⟨p, rfl, ht, kV_is ru⟩
    | succ j =>
      rw [List.getElem?_cons_succ] at e
      obtain ⟨b, e1, e2⟩ := hp j t e
      exact ⟨b, by rw [List.getElem?_cons_succ]; exact e1, e2⟩
def rDictT (K : PySem.W.Frag) : List V → Hp → VK → Prop := fun xs H Q => ∃ (a : Addr) (o : Obj) (ps : List Addr) (kvs : List (Key × V)), xs = [.ref a] ∧ H a = some (.frz o (.tup (ps.map V.ref))) ∧ o.dict = none ∧ Paired (fun p kv => SqT K H p [kV kv.1, kv.2]) ps kvs ∧ ∀ p, H p = none → Q (.ref p) (upd H p (.dK (mergeK [] kvs)))
theorem dictT (K : PySem.W.Frag) {X : Cx} (hcalm : X.calm = true := by rfl) (hK : X.K = K := by rfl) : CallR X (.type "dict") (rDictT K) := by
  subst hK
  intro pins s σ H xs us Q I r h
  obtain ⟨a, o, ps, kvs, rfl, ha, hd, hp, q⟩ := h
  obtain ⟨u, rfl, rfl⟩ := vals1 r
  obtain ⟨e, hz, its, rv, o', e', hc, n, hdat⟩ := I.hok a _ ha
  have eo : o' = o := by
    rw [e] at e'
    exact (Option.some.inj e').symm
  subst eo
  obtain ⟨tr, hl, rel, htr⟩ := trips I hp
  have ei : its = ps.map Value.ref := refs_at rv
  rw [List.length_map] at hz
  refine PySem.call_dict_pairs (knd := mixKind X.prog X.w) (kvs := tr.map fun t => (t.1, t.2.2)) (PairArg.tuple a its.toArray (fun j => ps.getD j 0) (tr.map fun t => (t.2.1, t.2.2))) (I.ok.hd hcalm) ⟨⟨o', n, e, hc, hd, hdat⟩, ?_, fun j k v hj => ?_⟩ ⟨?_, fun i key v hi => ?_⟩ ?_ fun h' tk hd' k => ?_
  · rw [List.size_toArray, ei, List.length_map, List.length_map, hl]
  · rw [List.getElem?_map] at hj
    cases ht : tr[j]? with
    | none =>
      rw [ht] at hj
      cases hj
    | some t =>
      rw [ht] at hj
      cases hj
      obtain ⟨b, e1, e2, _⟩ := htr j t ht
      have eb : ps.getD j 0 = b := by
        rw [List.getD_eq_getElem?_getD, e1]
        rfl
      refine ⟨?_, .inl ?_⟩
      · rw [List.getElem?_toArray, ei, List.getElem?_map, e1]
        show some (Value.ref b) = some (Value.ref (ps.getD j 0))
        rw [eb]
      · show s.heap.IsTuple (ps.getD j 0) _
        rw [eb]
        exact e2
  · rw [List.length_map, List.length_map]
  · have hi : (tr.map fun t => (t.2.1, t.2.2))[i]? = some (key, v) := hi
    rw [List.getElem?_map] at hi
    cases ht : tr[i]? with
    | none =>
      rw [ht] at hi
      cases hi
    | some t =>
      rw [ht] at hi
      cases hi
      obtain ⟨b, _, _, e3⟩ := htr i t ht
      exact ⟨t.1, by rw [List.getElem?_map, ht]; rfl, e3⟩
  · rw [List.length_map, hl]
    exact hz
  · have hm : (s.heap.objs.size == sysModules) = false := beq_eq_false_iff_ne.mpr (Nat.ne_of_gt I.big)
    have hkl : kvs.length = ps.length := by
      have := rel.length
      rw [List.length_map, hl] at this
      exact this
    have hlen : (mergeK [] kvs).length ≤ sizeLine := by
      refine Nat.le_trans (length_mergeK kvs []) ?_
      rw [List.length_nil, Nat.zero_add, hkl]
      exact hz
    exact ⟨.ref s.heap.objs.size, upd H s.heap.objs.size (.dK (mergeK [] kvs)), I.laid (t' := tk) (fun b o e => k b o (fun z => nomatch z) e) (Nat.le_refl _) (show ObjOk X.prog X.w _ _ _ (.dK (mergeK [] kvs)) from ⟨hlen, hm, merged [] _, KV.merge rel .nil, hd'⟩), rfl, q _ (I.hok.fresh (Nat.le_refl _))⟩
end Pf


namespace Pf
open PySem PySem.Spec PyProof.Rows L2
def sgn (x : Str) (i : Int) : Str := ⟨#[x.cps.toList.getD i.toNat 0]⟩
theorem sgn_at {x : Str} {i : Int} (h0 : 0 ≤ i) (h1 : i < x.length) : atI x.cps.toList i = some (x.cps.toList.getD i.toNat 0) := by
  have h2 : i < x.cps.toList.length := by
    rw [Array.length_toList]
    exact h1
  rw [atI_get h0 h2, List.getD_eq_getElem?_getD, List.getElem?_eq_getElem (by omega)]
  rfl
def tx2 (x : Str) (p : Int × Int) : Str := sgn x p.1 ++ sgn x p.2
def pwV : List (Str × Int) → Str → V
  | [], _ => .non
  | (t, x) :: r, b => if t = b then .int x else pwV r b
theorem pwV_at {prs : List (Str × Int)} {i : Nat} {t : Str} {x : Int} (h : prs[i]? = some (t, x)) (b : Str) : pwV (prs.drop i) b = if t = b then .int x else pwV (prs.drop (i + 1)) b := by
  obtain ⟨hi, e⟩ := List.getElem?_eq_some_iff.mp h
  rw [List.drop_eq_getElem_cons hi, e, pwV]
theorem pwV_end {prs : List (Str × Int)} {i : Nat} (h : prs.length ≤ i) (b : Str) : pwV (prs.drop i) b = .non := by
  rw [List.drop_eq_nil_of_le h, pwV]
theorem pwV_is : ∀ (prs : List (Str × Int)) (b : Str), (!decide (pwV prs b = .non)) = decide (b ∈ prs.map (·.1))
  | [], _ => rfl
  | (t, x) :: r, b => by
    rw [pwV, List.map_cons]
    by_cases e : t = b
    · rw [if_pos e, decide_eq_false (fun z => by cases z), decide_eq_true (by rw [e]; exact List.mem_cons_self ..)]
      rfl
    · rw [if_neg e, pwV_is r b]
      refine decide_eq_decide.mpr ⟨fun h => List.mem_cons_of_mem _ h, fun h => ?_⟩
      rcases List.mem_cons.mp h with h | h
      · exact absurd h.symm e
      · exact h
def mayC (r : Rl) (x : Str) (i j : Int) : Bool := decide (r.span < j - i) && decide (tx2 x (i, j) ∈ r.prs.map (·.1))
def encP (x : Str × Int) : Key × V := (.inr x.1, .int x.2)
theorem val_isSome : ∀ (prs : List (Str × Int)) (b : Str), (valV (prs.map encP) (.inr b)).isSome = decide (b ∈ prs.map (·.1))
  | [], _ => rfl
  | (t, x) :: r, b => by
    rw [List.map_cons, List.map_cons]
    by_cases e : t = b
    · rw [valV_pos (show (encP (t, x)).1 = Sum.inr b by rw [e]; rfl), decide_eq_true (by rw [e]; exact List.mem_cons_self ..)]
      rfl
    · rw [valV_neg (show ¬ (encP (t, x)).1 = Sum.inr b from fun z => e (Sum.inr.inj z)), val_isSome r b]
      refine decide_eq_decide.mpr ⟨fun h => List.mem_cons_of_mem _ h, fun h => ?_⟩
      rcases List.mem_cons.mp h with h | h
      · exact absurd h.symm e
      · exact h
theorem merge_nd : ∀ (kvs acc : List (Key × V)), ((acc ++ kvs).map (·.1)).Nodup → mergeK acc kvs = acc ++ kvs
  | [], acc, _ => by rw [List.append_nil]; rfl
  | (k, v) :: r, acc, h => by
    have hno : (acc.any fun kv => decide (kv.1 = k)) = false := by
      rw [List.any_eq_false]
      intro kv hkv e
      have e := of_decide_eq_true e
      rw [List.map_append, List.map_cons] at h
      have := (List.nodup_append.mp h).2.2 kv.1 (List.mem_map.mpr ⟨kv, hkv, rfl⟩) k (List.mem_cons_self ..)
      exact this e
    have e1 : putK acc k v = acc ++ [(k, v)] := by
      unfold putK
      rw [hno, if_neg Bool.false_ne_true]
    show mergeK (putK acc k v) r = _
    rw [e1, merge_nd r (acc ++ [(k, v)]) (by rw [List.append_assoc]; exact h), List.append_assoc]
    rfl
theorem merge_prs {prs : List (Str × Int)} (h : (prs.map (·.1)).Nodup) : mergeK [] (prs.map encP) = prs.map encP := by
  rw [merge_nd, List.nil_append]
  rw [List.nil_append, List.map_map]
  have e : ((fun x : Key × V => x.1) ∘ encP) = (fun x : Str × Int => (Sum.inr x.1 : Key)) := rfl
  rw [e]
  have e2 : (prs.map fun x : Str × Int => (Sum.inr x.1 : Key)) = (prs.map (·.1)).map Sum.inr := by
    rw [List.map_map]
    rfl
  rw [e2]
  exact List.Pairwise.map _ (fun a b z y => z (Sum.inr.inj y)) h
section
variable {P : Program} {w : World} {K : PySem.W.Frag} {mg : Str → Option Value} {base : Heap}
abbrev s_pair_worth : Stmt := topS 21
theorem sc_pair_worth : FnScope ["rules", "both", "text", "worth"] ["rules", "both"] (defScope s_pair_worth) :=
  ⟨rfl, rfl, rfl, by decide +kernel, rfl, by decide +kernel, by decide +kernel⟩
def spPW : Sp := fun vs H Q _ => ∃ (v : V) (r : Rl) (b : Str), vs = [v, .str b] ∧ RulesW H v r ∧ Q (pwV r.prs b) H
theorem ok_pw {f : Addr} {fd : FuncData} {k : Nat} (F : Fun K "pair_worth" "pair_worth" s_pair_worth f fd) : FnOk P w K mg base CX0 (k + 1) f fd ["rules", "both"] spPW := by
  refine F.ok sc_pair_worth (fun vs H Q E h => ?_) (fun cdv A outer s H vs Q E hr h => ?_)
  · obtain ⟨v, r, b, rfl, _⟩ := h
    rfl
  · obtain ⟨v, r, b, rfl, ⟨a, vp, vl, vs, rfl, hA, ⟨ap, us, rfl, hp, hR⟩, _, _⟩, q⟩ := h
    refine ⟨_, (pss_cons (ps_for PassesOwn.never rfl (pi_tup (pe_ix (ixT K) (pv 0) pe_int (fun _ _ => rfl))) (pg_tup rfl (pgs_cons (pg_name (i := 2) sc_pair_worth.nd rfl (.inl rfl)) (pgs_cons (pg_name (i := 3) sc_pair_worth.nd rfl (.inl rfl)) pgs_nil))) (pss_one (ps_if (pt_cmpR op_eq (pv 2) (pv 1) (nomark _)) (pss_one (ps_ret (pv 3))) pss_nil)))
      (pss_one (ps_ret pe_non))), ?_⟩
    have hlen := paired_len hR
    refine ⟨_, rfl, a, _, 1, _, rfl, rfl, SqT.of hA, rfl, ap, rfl, ⟨_, SqT.w hp⟩, for_tup (xs := us) (fun i σ H2 => ∃ (y2 y3 : Option V), σ = [some (.ref a), some (.str b), y2, y3] ∧ H2 = H ∧ pwV (r.prs.drop i) b = pwV r.prs b)
      ⟨none, none, rfl, rfl, rfl⟩ (fun i σ H2 _ ⟨y2, y3, _, e, _⟩ => SqT.w (by rw [e]; exact hp)) (fun i u σ H2 hi hv => ?_) (fun σ H2 hv => ?_)⟩
    · obtain ⟨y2, y3, rfl, rfl, hd⟩ := hv
      obtain ⟨⟨t, x⟩, hx, a1, rfl, ha1⟩ := paired_get hR hi
      rw [pwV_at hx] at hd
      refine ⟨a1, _, rfl, SqT.of ha1, rfl, _, _, rfl, _, _, rfl, rfl, ?_⟩
      refine ⟨_, rfl, _, rfl, rfl, _, rfl, ite2 (fun e => ?_) (fun e => ?_)⟩
      · have e2 : t = b := V.str.inj (of_decide_eq_true e)
        rw [if_pos e2] at hd
        refine ⟨_, rfl, ?_⟩
        show Q (.int x) _
        rw [hd]
        exact q
      · have e2 : ¬ t = b := fun z => e (decide_eq_true (congrArg V.str z))
        rw [if_neg e2] at hd
        exact ⟨_, _, rfl, rfl, hd⟩
    · obtain ⟨y2, y3, rfl, rfl, hd⟩ := hv
      rw [pwV_end (by omega)] at hd
      show Q .non _
      rw [hd]
      exact q
abbrev CPW (P : Program) (w : World) (K : PySem.W.Frag) (mg : Str → Option Value) (base : Heap) : Prop := Ca P w K mg base 1 "pair_worth" ["rules", "both"] spPW
abbrev s_text_of : Stmt := topS 26
theorem sc_text_of : FnScope ["string", "pair"] ["string", "pair"] (defScope s_text_of) :=
  ⟨rfl, rfl, rfl, by decide +kernel, rfl, by decide +kernel, by decide +kernel⟩
def spTextOf : Sp := fun vs H Q _ => ∃ (x : Str) (t : Addr) (y : Int × Int), vs = [.str x, .ref t] ∧ H t = some (.tup [.int y.1, .int y.2]) ∧ x.length ≤ 1000 ∧ 0 ≤ y.1 ∧ y.1 < x.length ∧ 0 ≤ y.2 ∧ y.2 < x.length ∧ Q (.str (tx2 x y)) H
theorem ok_text_of {f : Addr} {fd : FuncData} {k : Nat} (F : Fun K "text_of" "text_of" s_text_of f fd) : FnOk P w K mg base CX0 (k + 1) f fd ["string", "pair"] spTextOf := by
  refine F.ok sc_text_of (fun vs H Q E h => ?_) (fun cdv A outer s H vs Q E hr h => ?_)
  · obtain ⟨x, t, y, rfl, _⟩ := h
    rfl
  · obtain ⟨x, t, y, rfl, hT, hx, i0, i1, j0, j1, q⟩ := h
    refine ⟨_, (pss_one (ps_ret (pe_op op_add_str (pe_ix ix_str (pv 0) (pe_ix (ixT K) (pv 1) pe_int (fun _ _ => rfl)) (fun _ _ => rfl)) (pe_ix ix_str (pv 0) (pe_ix (ixT K) (pv 1) pe_int (fun _ _ => rfl)) (fun _ _ => rfl))))), ?_⟩
    refine ⟨_, rfl, _, rfl, t, _, 0, _, rfl, rfl, SqT.of hT, rfl, x, y.1, _, rfl, rfl, szL (by omega), sgn_at i0 i1, ?_⟩
    refine ⟨_, rfl, _, rfl, t, _, 1, _, rfl, rfl, SqT.of hT, rfl, x, y.2, _, rfl, rfl, szL (by omega), sgn_at j0 j1, ?_⟩
    exact ⟨_, _, rfl, rfl, szL (show 1 + 1 ≤ 1000000 by decide), q⟩
abbrev CTx (P : Program) (w : World) (K : PySem.W.Frag) (mg : Str → Option Value) (base : Heap) : Prop := Ca P w K mg base 1 "text_of" ["string", "pair"] spTextOf
abbrev s_may_pair : Stmt := topS 27
theorem sc_may_pair : FnScope ["rules", "string", "i", "j"] ["rules", "string", "i", "j"] (defScope s_may_pair) :=
  ⟨rfl, rfl, rfl, by decide +kernel, rfl, by decide +kernel, by decide +kernel⟩
def spMP : Sp := fun vs H Q _ => ∃ (v : V) (r : Rl) (x : Str) (i j : Int), vs = [v, .str x, .int i, .int j] ∧ RulesW H v r ∧ x.length ≤ 1000 ∧ 0 ≤ i ∧ i < j ∧ j < x.length ∧ ∀ H', Ext H H' → Q (.bl (mayC r x i j)) H'
theorem ok_mp {f : Addr} {fd : FuncData} (F : Fun K "may_pair" "may_pair" s_may_pair f fd) (ctext_of : CTx P w K mg base) (cpair_worth : CPW P w K mg base) (mlen : mg "len" = none) : FnOk P w K mg base CX0 2 f fd ["rules", "string", "i", "j"] spMP := by
  refine F.ok sc_may_pair (fun vs H Q E h => ?_) (fun cdv A outer s H vs Q E hr h => ?_)
  · obtain ⟨v, r, x, i, j, rfl, _⟩ := h
    rfl
  · obtain ⟨v, r, x, i, j, rfl, hR, hx, e1, e2, e3, q⟩ := h
    obtain ⟨a, vp, vl, vs, rfl, hA, hp, hl, hs⟩ := id hR
    refine ⟨_, (pss_cons (ps_if (pt_not (pt_chain3 op_le op_lt op_lt pe_int (pv 2) (pv 3) (pe_callB call_len_str (by rfl) mlen (by decide +kernel) (pa_cons (pv 1) pa_nil)))) (pss_one (ps_ret pe_bl)) pss_nil)
      (pss_cons (ps_if (pt_cmpR op_lt (pe_op op_sub (pe_op op_sub (pv 3) (pv 2)) pe_int) (pe_ix (ixT K) (pv 0) pe_int (fun _ _ => rfl)) (nomark _)) (pss_one (ps_ret pe_bl)) pss_nil)
      (pss_one (ps_ret (pe_cmpR op_notN (pe_ca cpair_worth (hr.mono (by decide)) (by rfl) (pa_cons (pv 0) (pa_cons (pe_ca ctext_of (hr.mono (by decide)) (by rfl) (pa_cons (pv 1) (pa_cons (pe_tup (pa_cons (pv 2) (pa_cons (pv 3) pa_nil))) pa_nil))) pa_nil))) pe_non (nomark _)))))), ?_⟩
    refine ⟨_, rfl, 0, i, rfl, rfl, _, rfl, ?_⟩
    rw [decide_eq_true e1]
    refine iteT ⟨_, rfl, i, j, rfl, rfl, _, rfl, ?_⟩
    rw [decide_eq_true e2]
    refine iteT ⟨_, rfl, x, rfl, szL (by omega), _, _, rfl, rfl, _, rfl, ?_⟩
    rw [decide_eq_true e3]
    refine iteF ⟨_, rfl, _, rfl, _, _, rfl, rfl, _, 1, rfl, rfl, _, rfl, a, _, 2, _, rfl, rfl, SqT.of hA, rfl, _, _, rfl, rfl, _, rfl, ite2 (fun e4 => ?_) (fun e4 => ?_)⟩
    · have e4 : j - i - 1 < r.span := of_decide_eq_true e4
      have e : mayC r x i j = false := by
        unfold mayC
        rw [decide_eq_false (show ¬ r.span < j - i by omega), Bool.false_and]
      have := q H Ext.refl
      rw [e] at this
      exact this
    · have e4 : ¬ j - i - 1 < r.span := fun z => e4 (decide_eq_true z)
      refine ⟨_, rfl, _, rfl, _, rfl, _, rfl, szL (show 2 ≤ 1000000 by decide), fun t ht => ?_⟩
      refine ⟨x, t, (i, j), rfl, upd_same, hx, e1, (show i < x.length by omega), (show 0 ≤ j by omega), e3, ?_⟩
      refine ⟨_, r, _, rfl, RulesW.mono _ _ _ _ (TupK.new ht) hR, rfl, ?_⟩
      have e : mayC r x i j = !decide (pwV r.prs (tx2 x (i, j)) = .non) := by
        unfold mayC
        rw [decide_eq_true (show r.span < j - i by omega), Bool.true_and, pwV_is]
      have := q _ (Ext.new (o := .tup [.int i, .int j]) ht)
      rw [e] at this
      exact this
abbrev CMP (P : Program) (w : World) (K : PySem.W.Frag) (mg : Str → Option Value) (base : Heap) : Prop := Ca P w K mg base 2 "may_pair" ["rules", "string", "i", "j"] spMP
abbrev s_is_string : Stmt := topS 25
theorem sc_is_string : FnScope ["rules", "thing", "letter"] ["rules", "thing"] (defScope s_is_string) :=
  ⟨rfl, rfl, rfl, by decide +kernel, rfl, by decide +kernel, by decide +kernel⟩
def spIS : Sp := fun vs H Q _ => ∃ (v : V) (r : Rl) (x : Str), vs = [v, .str x] ∧ RulesW H v r ∧ x.length ≤ 12 ∧ Of r.letters x ∧ ∀ H', Ext H H' → Q (.bl true) H'
theorem ok_is {f : Addr} {fd : FuncData} {k : Nat} (F : Fun K "is_string" "is_string" s_is_string f fd) {tM : Tok} (gMOST_PLACES : mg "MOST_PLACES" = some (.int 12 tM)) (misinstance : mg "isinstance" = none) (mstr : mg "str" = none) (mlen : mg "len" = none) (mall : mg "all" = none) : FnOk P w K mg base CX0 (k + 1) f fd ["rules", "thing"] spIS := by
  refine F.ok sc_is_string (fun vs H Q E h => ?_) (fun cdv A outer s H vs Q E hr h => ?_)
  · obtain ⟨v, r, x, rfl, _⟩ := h
    rfl
  · obtain ⟨v, r, x, rfl, hR, hx, hof, q⟩ := h
    obtain ⟨a, vp, vl, vs, rfl, hA, hp, hl, hs⟩ := id hR
    refine ⟨_, (pss_cons (ps_if (PW.pt (pw_or (pt_not (pt_val (pe_callB (isi1 K) (by rfl) misinstance (by decide +kernel) (pa_cons (pv 1) (pa_cons (pe_bltn (v := .ty "str") (by rfl) mstr (by decide +kernel) rfl) pa_nil))))) (pw_or1 (pt_cmpR op_gt (pe_callB call_len_str (by rfl) mlen (by decide +kernel) (pa_cons (pv 1) pa_nil)) (pe_glob (v := .int 12) (by rfl) gMOST_PLACES ⟨_, rfl⟩) (nomark _))))) (pss_one (ps_ret pe_bl)) pss_nil)
      (pss_one (ps_ret (pe_callB (cr_all rfl) (by rfl) mall (by decide +kernel) (pa_cons (pe_lc (own := [("letter", 2)]) (g := gName 2) (by rfl) sc_is_string.nd (pi_str (pv 1)) (blkOk_by (own := [("letter", 2)]) (N := ["rules", "thing", "letter"]) (sc := defScope s_is_string) (by decide +kernel)) (fun _ _ _ _ _ => (pg_name (i := 2) sc_is_string.nd rfl (.inl rfl))) (fun _ _ _ _ _ => pts_nil) (fun _ _ _ _ _ => (pe_cmpR op_in_sign (pv 2) (pe_ix (ixT K) (pv 0) pe_int (fun _ _ => rfl)) (by rfl)))) pa_nil))))), ?_⟩
    refine ⟨_, rfl, .str x, .ty "str", _, _, true, rfl, .ty _, .base (.str x), kit_ty (by decide +kernel), true, rfl, iteF ?_⟩
    refine ⟨_, rfl, x, rfl, szL (by omega), _, _, rfl, rfl, _, rfl, ?_⟩
    rw [decide_eq_false (show ¬ (x.length : Int) > 12 by omega)]
    refine iteF ⟨_, rfl, _, rfl, fun D hD => lc_str (fun i H2 => H2 D = some (.lst ((List.replicate i true).map V.bl)) ∧ Ext H H2) ⟨upd_same, Ext.new hD⟩ (fun i ch H2 hi hv => ?_) (fun H2 hv => ?_)⟩
    · obtain ⟨hL, k2⟩ := hv
      have hi12 : i < x.length := (Array.getElem?_eq_some_iff.mp hi).1
      have hm : ch ∈ r.letters.cps.toList := hof ch (Array.mem_toList_iff.mpr (Array.mem_of_getElem? hi))
      refine ⟨rfl, _, rfl, _, rfl, a, _, 0, _, rfl, rfl, SqT.of (k2 _ _ hA), rfl, ch, r.letters, rfl, rfl, _, hL, szLt ?_, ?_, k2.put hD⟩
      · rw [List.length_map, List.length_replicate]
        omega
      · rw [upd_same, List.replicate_succ', List.map_append, decide_eq_true hm]
        rfl
    · obtain ⟨hL, k2⟩ := hv
      refine ⟨D, _, rfl, SqL.of hL, ?_⟩
      have : (List.replicate x.cps.size true).all id = true := by
        rw [List.all_replicate]
        simp
      rw [this]
      exact q _ k2
abbrev CIS (P : Program) (w : World) (K : PySem.W.Frag) (mg : Str → Option Value) (base : Heap) : Prop := Ca P w K mg base 1 "is_string" ["rules", "thing"] spIS
end
end Pf


namespace Pf
open PySem PySem.Spec PyProof.Rows L2
/-! ### a cut of a text or of a list; zip of either in a written list; the place of a sign -/
def rSlB (K : PySem.W.Frag) : V → Option Int → Option Int → Hp → VK → Prop := fun x lo hi H Q => rSlS x lo hi H Q ∨ rSlL K x lo hi H Q
theorem slB (K : PySem.W.Frag) {X : Cx} (h : X.K = K := by rfl) : SlR X (rSlB K) := fun pins s σ H x v vl vu lo hi sl Q I rx hs pl pu q =>
  q.elim (fun q => sl_str pins s σ H x v vl vu lo hi sl Q I rx hs pl pu q) (fun q => slL K h pins s σ H x v vl vu lo hi sl Q I rx hs pl pu q)
theorem lc_zs {x y : Str} {g : TG} {tt : TT} {te : TE} {vs : List Nat} {σ : L2.St} {H1 : Hp} {D : Addr} {Qd : Hp → Prop} (Pv : Nat → Hp → Prop) (h0 : Pv 0 (upd H1 D (.lst [])))
    (hs : ∀ i c d H T, x.cps[i]? = some c → y.cps[i]? = some d → Pv i H → H T = none → g (.ref T) (wipe σ vs) (upd H T (.tup [.str ⟨#[c]⟩, .str ⟨#[d]⟩])) fun σ2 H2 => wipe σ2 vs = wipe σ vs ∧ tt σ2 H2 fun b H3 =>
      if b = true then te σ2 H3 fun y H4 => ∃ acc, H4 D = some (.lst acc) ∧ acc.length < sizeLine ∧ Pv (i + 1) (upd H4 D (.lst (acc ++ [y]))) else Pv (i + 1) H3) (hd : ∀ H i, Pv i H → Qd H) :
    ∃ W : Nat → Nat → Hp → Prop, (∃ m, W 0 m (upd H1 D (.lst []))) ∧ ∀ i m H, W i m H →
      ((ItZS x y).stop i H ∧ Qd H) ∨ ((ItZS x y).go i H ∧ ∃ Nx : Hp → Prop, (∀ H', Nx H' → ∃ m', m' < m ∧ W (i + 1) m' H') ∧ ∀ v H', (ItZS x y).yld i H v H' → g v (wipe σ vs) H' fun σ2 H2 => wipe σ2 vs = wipe σ vs ∧ tt σ2 H2 fun b H3 =>
        if b = true then te σ2 H3 fun y H4 => ∃ acc, H4 D = some (.lst acc) ∧ acc.length < sizeLine ∧ Nx (upd H4 D (.lst (acc ++ [y]))) else Nx H3) := by
  refine ⟨fun i m H => m = x.cps.size - i ∧ (i ≤ x.cps.size ∧ i ≤ y.cps.size) ∧ Pv i H, ⟨x.cps.size, by simp, ⟨Nat.zero_le _, Nat.zero_le _⟩, h0⟩, ?_⟩
  rintro i m H ⟨rfl, hi, p⟩
  by_cases hlt : i < x.cps.size ∧ i < y.cps.size
  · refine .inr ⟨hlt, Pv (i + 1), fun H' p' => ⟨x.cps.size - (i + 1), by omega, rfl, hlt, p'⟩, fun v H' z => ?_⟩
    obtain ⟨T, c, d, rfl, hT, rfl, hc, hd⟩ := z
    exact hs i c d H T hc hd p hT
  · exact .inl ⟨⟨hi.1, hi.2, by omega⟩, hd H i p⟩
theorem lc_zl {K : PySem.W.Frag} {a b : Addr} {xs ys : List V} {g : TG} {tt : TT} {te : TE} {vs : List Nat} {σ : L2.St} {H1 : Hp} {D : Addr} {Qd : Hp → Prop} (Pv : Nat → Hp → Prop) (h0 : Pv 0 (upd H1 D (.lst [])))
    (hq : ∀ i H, Pv i H → SqL K H a xs ∧ SqL K H b ys)
    (hs : ∀ i c d H T, xs[i]? = some c → ys[i]? = some d → Pv i H → H T = none → g (.ref T) (wipe σ vs) (upd H T (.tup [c, d])) fun σ2 H2 => wipe σ2 vs = wipe σ vs ∧ tt σ2 H2 fun b H3 =>
      if b = true then te σ2 H3 fun y H4 => ∃ acc, H4 D = some (.lst acc) ∧ acc.length < sizeLine ∧ Pv (i + 1) (upd H4 D (.lst (acc ++ [y]))) else Pv (i + 1) H3) (hd : ∀ H i, Pv i H → Qd H) :
    ∃ W : Nat → Nat → Hp → Prop, (∃ m, W 0 m (upd H1 D (.lst []))) ∧ ∀ i m H, W i m H →
      ((Itz K a b).stop i H ∧ Qd H) ∨ ((Itz K a b).go i H ∧ ∃ Nx : Hp → Prop, (∀ H', Nx H' → ∃ m', m' < m ∧ W (i + 1) m' H') ∧ ∀ v H', (Itz K a b).yld i H v H' → g v (wipe σ vs) H' fun σ2 H2 => wipe σ2 vs = wipe σ vs ∧ tt σ2 H2 fun b H3 =>
        if b = true then te σ2 H3 fun y H4 => ∃ acc, H4 D = some (.lst acc) ∧ acc.length < sizeLine ∧ Nx (upd H4 D (.lst (acc ++ [y]))) else Nx H3) := by
  refine ⟨fun i m H => m = xs.length - i ∧ (i ≤ xs.length ∧ i ≤ ys.length) ∧ Pv i H, ⟨xs.length, by simp, ⟨Nat.zero_le _, Nat.zero_le _⟩, h0⟩, ?_⟩
  rintro i m H ⟨rfl, hi, p⟩
  obtain ⟨q1, q2⟩ := hq i H p
  by_cases hlt : i < xs.length ∧ i < ys.length
  · refine .inr ⟨⟨xs, ys, xs[i], ys[i], q1, q2, List.getElem?_eq_getElem hlt.1, List.getElem?_eq_getElem hlt.2⟩, Pv (i + 1), fun H' p' => ⟨xs.length - (i + 1), by omega, rfl, hlt, p'⟩, fun v H' z => ?_⟩
    obtain ⟨T, c, d, rfl, hT, rfl, hc, hd⟩ := z
    exact hs i c d H T (hc xs q1) (hd ys q2) p hT
  · exact .inl ⟨⟨xs, ys, q1, q2, by omega⟩, hd H i p⟩
/-- the place of a sign that stands once in a text -/
theorem occ_at {x : Str} {c : Nat} (h : c ∈ x.cps.toList) : ∃ i rest, Builtin.Str.occurrences x ⟨#[c]⟩ 0 x.length 1 = i :: rest ∧ x.cps.toList[i]? = some c := by
  cases e : Builtin.Str.occurrences x ⟨#[c]⟩ 0 x.length 1 with
  | nil =>
    have h1 := PySem.StrLaws.found_one x c
    rw [e, decide_eq_true h] at h1
    cases h1
  | cons i rest =>
    have h1 := PySem.StrLaws.occ_spec x ⟨#[c]⟩ 0 x.length 1 i (by rw [e]; exact List.mem_cons_self ..)
    exact ⟨i, rest, rfl, (PySem.StrLaws.subAt_one x c i).mp h1⟩
end Pf


namespace Pf
open PySem PySem.Spec PyProof.Rows L2
def swI : List (Str × Str × Int) → Str → Str → Int
  | [], _, _ => 0
  | (t, u, x) :: r, o, n => if t = o ∧ u = n then x else swI r o n
theorem swI_at {stk : List (Str × Str × Int)} {i : Nat} {t u : Str} {x : Int} (h : stk[i]? = some (t, u, x)) (o n : Str) : swI (stk.drop i) o n = if t = o ∧ u = n then x else swI (stk.drop (i + 1)) o n := by
  obtain ⟨hi, e⟩ := List.getElem?_eq_some_iff.mp h
  rw [List.drop_eq_getElem_cons hi, e, swI]
theorem swI_end {stk : List (Str × Str × Int)} {i : Nat} (h : stk.length ≤ i) (o n : Str) : swI (stk.drop i) o n = 0 := by
  rw [List.drop_eq_nil_of_le h, swI]
/-! ### order -/
def SLt (x y : Str) : Prop := x.cps.toList < y.cps.toList
theorem slt_lt {x y : Str} (h : SLt x y) : PySem.W.dataLt (.str x) (.str y) = true := by
  rw [PySem.W.dataLt_str]
  exact decide_eq_true h
theorem slt_one {c d : Nat} (h : c < d) : SLt ⟨#[c]⟩ ⟨#[d]⟩ := List.cons_lt_cons_iff.mpr (.inl h)
theorem slt_l {a b c d : Nat} (h : a < c) : SLt (⟨#[a]⟩ ++ ⟨#[b]⟩) (⟨#[c]⟩ ++ ⟨#[d]⟩) := List.cons_lt_cons_iff.mpr (.inl h)
theorem slt_r {a b d : Nat} (h : b < d) : SLt (⟨#[a]⟩ ++ ⟨#[b]⟩) (⟨#[a]⟩ ++ ⟨#[d]⟩) := List.cons_lt_cons_iff.mpr (.inr ⟨rfl, List.cons_lt_cons_iff.mpr (.inl h)⟩)
def dKey (k : Str × Str) : PyData := .tuple [.str k.1, .str k.2]
def KLt (k l : Str × Str) : Prop := PySem.W.dataLt (dKey k) (dKey l) = true
theorem slt_ne {x y : Str} (h : SLt x y) : (Sum.inr x.cps.toList : Int ⊕ List Nat) ≠ .inr y.cps.toList := fun e => by
  have e2 : x.cps.toList = y.cps.toList := Sum.inr.inj e
  unfold SLt at h
  rw [e2] at h
  exact List.lt_irrefl _ h
theorem lex_slt {x y : Str} (h : SLt x y) (l m : List (Int ⊕ List Nat)) : PyProof.Rows.lexLt itemOrd (.inr x.cps.toList :: l) (.inr y.cps.toList :: m) = true := by
  rw [PySem.W.lex_atom (slt_ne h)]
  exact slt_lt h
theorem klt_l {a b c d : Str} (h : SLt a c) : KLt (a, b) (c, d) := by
  unfold KLt dKey
  rw [PySem.W.dataLt_tuple]
  simp only [PySem.W.keyToksAll, PySem.W.keyToks]
  exact (PySem.W.lex_pre [.inl 1] _ _).trans (lex_slt h _ _)
theorem klt_r {a b d : Str} (h : SLt b d) : KLt (a, b) (a, d) := by
  unfold KLt dKey
  rw [PySem.W.dataLt_tuple]
  simp only [PySem.W.keyToksAll, PySem.W.keyToks]
  exact (PySem.W.lex_pre [.inl 1, .inr a.cps.toList, .inl 1] _ _).trans (lex_slt h _ _)
theorem row_slt {x : Str} (hr : RiseS x) (a : Nat) : (rowP x a).Pairwise SLt := by
  unfold rowP
  exact List.pairwise_map.mpr (hr.imp fun {u v} h => slt_r h)
theorem prod_slt {x : Str} (hr : RiseS x) : (prodU x x.length).Pairwise SLt := by
  unfold prodU
  refine List.pairwise_flatMap.mpr ⟨fun a _ => row_slt hr a, (List.Pairwise.sublist (List.take_sublist ..) hr).imp fun {u v} h a ha b hb => ?_⟩
  obtain ⟨c, _, rfl⟩ := List.mem_map.mp ha
  obtain ⟨d, _, rfl⟩ := List.mem_map.mp hb
  exact slt_l h
theorem prodK_klt {ts : List Str} (h : ts.Pairwise SLt) (n : Nat) : (prodK ts n).Pairwise KLt := by
  unfold prodK
  refine List.pairwise_flatMap.mpr ⟨fun a _ => List.pairwise_map.mpr (h.imp fun {u v} z => klt_r z), (List.Pairwise.sublist (List.take_sublist ..) h).imp fun {u v} z a ha b hb => ?_⟩
  obtain ⟨c, _, rfl⟩ := List.mem_map.mp ha
  obtain ⟨d, _, rfl⟩ := List.mem_map.mp hb
  exact klt_l z
theorem pw_next {α : Type} {R : α → α → Prop} {xs : List α} (h : xs.Pairwise R) {i : Nat} {u v : α} (hu : xs[i]? = some u) (hv : xs[i + 1]? = some v) : R u v := by
  obtain ⟨hi, e⟩ := List.getElem?_eq_some_iff.mp hu
  obtain ⟨hj, e2⟩ := List.getElem?_eq_some_iff.mp hv
  rw [← e, ← e2]
  exact (List.pairwise_iff_getElem.mp h) i (i + 1) hi hj (by omega)
theorem cut1_get {xs : List V} (i : Nat) : (cutV xs (some 1) none)[i]? = xs[i + 1]? := by
  unfold cutV
  rw [show HT.sIx xs.length 0 (some (1 : Int)) = min 1 xs.length from HT.sIx_nat _ _ _, show HT.sIx xs.length xs.length none = xs.length from rfl]
  rw [List.take_of_length_le (by rw [List.length_drop]; exact Nat.le_refl _)]
  cases xs with
  | nil => simp
  | cons a r => simp
theorem cutS1_get {x : Str} (i : Nat) : (cutS x (some 1) none).cps[i]? = x.cps[i + 1]? := by
  unfold cutS
  rw [show HT.sIx x.length 0 (some (1 : Int)) = min 1 x.length from HT.sIx_nat _ _ _, show HT.sIx x.length x.length none = x.length from rfl]
  have hl : x.cps.toList.length = x.length := Array.length_toList
  rw [List.take_of_length_le (by rw [List.length_drop, hl]; exact Nat.le_refl _), List.getElem?_toArray, ← Array.getElem?_toList (xs := x.cps)]
  generalize x.cps.toList = l at hl ⊢
  rw [← hl]
  cases l with
  | nil => simp
  | cons a r => simp
theorem all_true (n : Nat) : (List.replicate n true).all id = true := by
  rw [List.all_replicate]
  simp

section
variable {P : Program} {w : World} {K : PySem.W.Frag} {mg : Str → Option Value} {base : Heap}
abbrev s_stack_worth : Stmt := topS 22
theorem sc_stack_worth : FnScope ["rules", "outer", "within", "text", "inner", "worth"] ["rules", "outer", "within"] (defScope s_stack_worth) :=
  ⟨rfl, rfl, rfl, by decide +kernel, rfl, by decide +kernel, by decide +kernel⟩
def spSW : Sp := fun vs H Q _ => ∃ (v : V) (r : Rl) (o n : Str), vs = [v, .str o, .str n] ∧ RulesW H v r ∧ Q (.int (swI r.stk o n)) H
theorem ok_sw {f : Addr} {fd : FuncData} {k : Nat} (F : Fun K "stack_worth" "stack_worth" s_stack_worth f fd) : FnOk P w K mg base CX0 (k + 1) f fd ["rules", "outer", "within"] spSW := by
  refine F.ok sc_stack_worth (fun vs H Q E h => ?_) (fun cdv A outer s H vs Q E hr h => ?_)
  · obtain ⟨v, r, o, n, rfl, _⟩ := h
    rfl
  · obtain ⟨v, r, o, n, rfl, ⟨a, vp, vl, vs, rfl, hA, _, _, ⟨as, us, rfl, hp, hR⟩⟩, q⟩ := h
    refine ⟨_, (pss_cons (ps_for PassesOwn.never rfl (pi_tup (pe_ix (ixT K) (pv 0) pe_int (fun _ _ => rfl))) (pg_tup rfl (pgs_cons (pg_name (i := 3) sc_stack_worth.nd rfl (.inl rfl)) (pgs_cons (pg_name (i := 4) sc_stack_worth.nd rfl (.inl rfl)) (pgs_cons (pg_name (i := 5) sc_stack_worth.nd rfl (.inl rfl)) pgs_nil)))) (pss_one (ps_if (PW.pt (pw_and (pt_cmpR op_eq (pv 3) (pv 1) (nomark _)) (pw_and1 (pt_cmpR op_eq (pv 4) (pv 2) (nomark _))))) (pss_one (ps_ret (pv 5))) pss_nil)))
      (pss_one (ps_ret pe_int))), ?_⟩
    have hlen := paired_len hR
    refine ⟨_, rfl, a, _, 4, _, rfl, rfl, SqT.of hA, rfl, as, rfl, ⟨_, SqT.of hp⟩, for_tup (xs := us) (fun i σ H2 => ∃ (y2 y3 y4 : Option V), σ = [some (.ref a), some (.str o), some (.str n), y2, y3, y4] ∧ H2 = H ∧ swI (r.stk.drop i) o n = swI r.stk o n)
      ⟨none, none, none, rfl, rfl, rfl⟩ (fun i σ H2 _ ⟨y2, y3, y4, _, e, _⟩ => SqT.of (by rw [e]; exact hp)) (fun i u σ H2 hi hv => ?_) (fun σ H2 hv => ?_)⟩
    · obtain ⟨y2, y3, y4, rfl, rfl, hd⟩ := hv
      obtain ⟨⟨t, t2, x⟩, hx, a1, rfl, ha1⟩ := paired_get hR hi
      rw [swI_at hx] at hd
      refine ⟨a1, _, rfl, SqT.of ha1, rfl, _, _, rfl, _, _, rfl, _, _, rfl, rfl, ?_⟩
      refine ⟨_, rfl, _, rfl, rfl, _, rfl, ite2 (fun e => ?_) (fun e => ?_)⟩
      · have e2 : t = o := V.str.inj (of_decide_eq_true e)
        refine ⟨_, rfl, _, rfl, rfl, _, rfl, ite2 (fun e3 => ?_) (fun e3 => ?_)⟩
        · have e4 : t2 = n := V.str.inj (of_decide_eq_true e3)
          rw [if_pos ⟨e2, e4⟩] at hd
          refine ⟨_, rfl, ?_⟩
          show Q (.int x) _
          rw [hd]
          exact q
        · have e4 : ¬ (t = o ∧ t2 = n) := fun z => e3 (decide_eq_true (congrArg V.str z.2))
          rw [if_neg e4] at hd
          exact ⟨_, _, _, rfl, rfl, hd⟩
      · have e4 : ¬ (t = o ∧ t2 = n) := fun z => e (decide_eq_true (congrArg V.str z.1))
        rw [if_neg e4] at hd
        exact ⟨_, _, _, rfl, rfl, hd⟩
    · obtain ⟨y2, y3, y4, rfl, rfl, hd⟩ := hv
      rw [swI_end (by omega)] at hd
      show Q (.int 0) _
      rw [hd]
      exact q
abbrev CSW (P : Program) (w : World) (K : PySem.W.Frag) (mg : Str → Option Value) (base : Heap) : Prop := Ca P w K mg base 1 "stack_worth" ["rules", "outer", "within"] spSW
/-! ### the small checks -/
abbrev s_is_whole : Stmt := topS 7
theorem sc_is_whole : FnScope ["thing"] ["thing"] (defScope s_is_whole) :=
  ⟨rfl, rfl, rfl, by decide +kernel, rfl, by decide +kernel, by decide +kernel⟩
def spWhole : Sp := fun vs H Q _ => ∃ i : Int, vs = [.int i] ∧ Q (.bl true) H
theorem ok_whole {f : Addr} {fd : FuncData} {k : Nat} (F : Fun K "is_whole" "is_whole" s_is_whole f fd) (misinstance : mg "isinstance" = none) (mint : mg "int" = none) (mbool : mg "bool" = none) : FnOk P w K mg base CX0 (k + 1) f fd ["thing"] spWhole := by
  refine F.ok sc_is_whole (fun vs H Q E h => ?_) (fun cdv A outer s H vs Q E hr h => ?_)
  · obtain ⟨i, rfl, _⟩ := h
    rfl
  · obtain ⟨i, rfl, q⟩ := h
    refine ⟨_, (pss_one (ps_ret (pe_and (pe_callB (isi1 K) (by rfl) misinstance (by decide +kernel) (pa_cons (pv 0) (pa_cons (pe_bltn (v := .ty "int") (by rfl) mint (by decide +kernel) rfl) pa_nil))) (pe_one (pe_not (pe_callB (isi1 K) (by rfl) misinstance (by decide +kernel) (pa_cons (pv 0) (pa_cons (pe_bltn (v := .ty "bool") (by rfl) mbool (by decide +kernel) rfl) pa_nil)))))))), ?_⟩
    refine ⟨_, rfl, .int i, .ty "int", _, _, true, rfl, .ty _, .base (.int i), kit_ty (by decide +kernel), true, rfl, ?_⟩
    exact iteT ⟨_, rfl, .int i, .ty "bool", _, _, false, rfl, .ty _, .base (.int i), kit_ty (by decide +kernel), false, rfl, q⟩
abbrev CWhole (P : Program) (w : World) (K : PySem.W.Frag) (mg : Str → Option Value) (base : Heap) : Prop := Ca P w K mg base 1 "is_whole" ["thing"] spWhole
abbrev s_is_row : Stmt := topS 8
theorem sc_is_row : FnScope ["thing", "size"] ["thing", "size"] (defScope s_is_row) :=
  ⟨rfl, rfl, rfl, by decide +kernel, rfl, by decide +kernel, by decide +kernel⟩
def spRow : Sp := fun vs H Q _ => ∃ (a : Addr) (xs : List V) (n : Int), vs = [.ref a, .int n] ∧ H a = some (.tup xs) ∧ (xs.length : Int) = n ∧ Q (.bl true) H
theorem ok_row {f : Addr} {fd : FuncData} {k : Nat} (F : Fun K "is_row" "is_row" s_is_row f fd) (misinstance : mg "isinstance" = none) (mtuple : mg "tuple" = none) (mlen : mg "len" = none) : FnOk P w K mg base CX0 (k + 1) f fd ["thing", "size"] spRow := by
  refine F.ok sc_is_row (fun vs H Q E h => ?_) (fun cdv A outer s H vs Q E hr h => ?_)
  · obtain ⟨a, xs, n, rfl, _⟩ := h
    rfl
  · obtain ⟨a, xs, n, rfl, hA, hn, q⟩ := h
    refine ⟨_, (pss_one (ps_ret (pe_and (pe_callB (isi1 K) (by rfl) misinstance (by decide +kernel) (pa_cons (pv 0) (pa_cons (pe_bltn (v := .ty "tuple") (by rfl) mtuple (by decide +kernel) rfl) pa_nil))) (pe_one (pe_cmpR op_eq (pe_callB (lenQ K) (by rfl) mlen (by decide +kernel) (pa_cons (pv 0) pa_nil)) (pv 1) (nomark _)))))), ?_⟩
    refine ⟨_, rfl, .ref a, .ty "tuple", _, _, true, rfl, .ty _, .base (.tup hA), kit_ty (by decide +kernel), true, rfl, ?_⟩
    refine iteT ⟨_, rfl, a, xs, rfl, .inr (SqT.of hA), ?_⟩
    refine ⟨_, rfl, rfl, ?_⟩
    show Q (.bl (decide (V.int xs.length = V.int n))) H
    rw [decide_eq_true (congrArg V.int hn)]
    exact q
abbrev CRow (P : Program) (w : World) (K : PySem.W.Frag) (mg : Str → Option Value) (base : Heap) : Prop := Ca P w K mg base 1 "is_row" ["thing", "size"] spRow
abbrev s_is_worth : Stmt := topS 10
theorem sc_is_worth : FnScope ["thing"] ["thing"] (defScope s_is_worth) :=
  ⟨rfl, rfl, rfl, by decide +kernel, rfl, by decide +kernel, by decide +kernel⟩
def spWorthy : Sp := fun vs H Q _ => ∃ i : Int, vs = [.int i] ∧ -99 ≤ i ∧ i ≤ 99 ∧ Q (.bl true) H
theorem ok_worthy {f : Addr} {fd : FuncData} {k : Nat} {tW : Tok} (F : Fun K "is_worth" "is_worth" s_is_worth f fd) (cis_whole : CWhole P w K mg base) (gMOST_WORTH : mg "MOST_WORTH" = some (.int 99 tW)) : FnOk P w K mg base CX0 (k + 2) f fd ["thing"] spWorthy := by
  refine F.ok sc_is_worth (fun vs H Q E h => ?_) (fun cdv A outer s H vs Q E hr h => ?_)
  · obtain ⟨i, rfl, _⟩ := h
    rfl
  · obtain ⟨i, rfl, h1, h2, q⟩ := h
    refine ⟨_, (pss_one (ps_ret (pe_and (pe_ca cis_whole (hr.mono (by omega)) (by rfl) (pa_cons (pv 0) pa_nil)) (pe_one (pe_chain op_le op_le (pe_un un_neg (pe_glob (v := .int 99) (by rfl) gMOST_WORTH ⟨_, rfl⟩)) (pv 0) (pe_glob (v := .int 99) (by rfl) gMOST_WORTH ⟨_, rfl⟩)))))), ?_⟩
    refine ⟨_, rfl, i, rfl, true, rfl, iteT ⟨_, rfl, _, rfl, _, _, rfl, rfl, _, rfl, ?_⟩⟩
    rw [decide_eq_true h1]
    refine iteT ⟨_, _, rfl, rfl, ?_⟩
    show Q (.bl (decide (i ≤ 99))) H
    rw [decide_eq_true h2]
    exact q
abbrev CWorthy (P : Program) (w : World) (K : PySem.W.Frag) (mg : Str → Option Value) (base : Heap) : Prop := Ca P w K mg base 2 "is_worth" ["thing"] spWorthy
abbrev s_is_span : Stmt := topS 15
theorem sc_is_span : FnScope ["thing"] ["thing"] (defScope s_is_span) :=
  ⟨rfl, rfl, rfl, by decide +kernel, rfl, by decide +kernel, by decide +kernel⟩
def spSpan : Sp := fun vs H Q _ => ∃ i : Int, vs = [.int i] ∧ 0 ≤ i ∧ i ≤ 3 ∧ Q (.bl true) H
theorem ok_span {f : Addr} {fd : FuncData} {k : Nat} {tW : Tok} (F : Fun K "is_span" "is_span" s_is_span f fd) (cis_whole : CWhole P w K mg base) (gMOST_SPAN : mg "MOST_SPAN" = some (.int 3 tW)) : FnOk P w K mg base CX0 (k + 2) f fd ["thing"] spSpan := by
  refine F.ok sc_is_span (fun vs H Q E h => ?_) (fun cdv A outer s H vs Q E hr h => ?_)
  · obtain ⟨i, rfl, _⟩ := h
    rfl
  · obtain ⟨i, rfl, h1, h2, q⟩ := h
    refine ⟨_, (pss_one (ps_ret (pe_and (pe_ca cis_whole (hr.mono (by omega)) (by rfl) (pa_cons (pv 0) pa_nil)) (pe_one (pe_chain op_le op_le pe_int (pv 0) (pe_glob (v := .int 3) (by rfl) gMOST_SPAN ⟨_, rfl⟩)))))), ?_⟩
    refine ⟨_, rfl, i, rfl, true, rfl, iteT ⟨_, rfl, _, _, rfl, rfl, _, rfl, ?_⟩⟩
    rw [decide_eq_true h1]
    refine iteT ⟨_, _, rfl, rfl, ?_⟩
    show Q (.bl (decide (i ≤ 3))) H
    rw [decide_eq_true h2]
    exact q
abbrev CSpan (P : Program) (w : World) (K : PySem.W.Frag) (mg : Str → Option Value) (base : Heap) : Prop := Ca P w K mg base 2 "is_span" ["thing"] spSpan
abbrev s_is_both : Stmt := topS 12
theorem sc_is_both : FnScope ["letters", "thing"] ["letters", "thing"] (defScope s_is_both) :=
  ⟨rfl, rfl, rfl, by decide +kernel, rfl, by decide +kernel, by decide +kernel⟩
def spBoth : Sp := fun vs H Q _ => ∃ (L : Str) (a b : Nat), vs = [.str L, .str (⟨#[a]⟩ ++ ⟨#[b]⟩)] ∧ a ∈ L.cps.toList ∧ b ∈ L.cps.toList ∧ Q (.bl true) H
theorem ok_both {f : Addr} {fd : FuncData} {k : Nat} (F : Fun K "is_both" "is_both" s_is_both f fd) (misinstance : mg "isinstance" = none) (mstr : mg "str" = none) (mlen : mg "len" = none) : FnOk P w K mg base CX0 (k + 1) f fd ["letters", "thing"] spBoth := by
  refine F.ok sc_is_both (fun vs H Q E h => ?_) (fun cdv A outer s H vs Q E hr h => ?_)
  · obtain ⟨L, a, b, rfl, _⟩ := h
    rfl
  · obtain ⟨L, a, b, rfl, ha, hb, q⟩ := h
    have hl : (⟨#[a]⟩ ++ ⟨#[b]⟩ : Str).length = 2 := rfl
    refine ⟨_, (pss_one (ps_ret (pe_and (pe_callB (isi1 K) (by rfl) misinstance (by decide +kernel) (pa_cons (pv 1) (pa_cons (pe_bltn (v := .ty "str") (by rfl) mstr (by decide +kernel) rfl) pa_nil))) (pe_and (pe_cmpR op_eq (pe_callB call_len_str (by rfl) mlen (by decide +kernel) (pa_cons (pv 1) pa_nil)) pe_int (nomark _)) (pe_and (pe_cmpR op_in_sign (pe_ix ix_str (pv 1) pe_int (fun _ _ => rfl)) (pv 0) (by rfl)) (pe_one (pe_cmpR op_in_sign (pe_ix ix_str (pv 1) pe_int (fun _ _ => rfl)) (pv 0) (by rfl)))))))), ?_⟩
    refine ⟨_, rfl, _, .ty "str", _, _, true, rfl, .ty _, .base (.str _), kit_ty (by decide +kernel), true, rfl, ?_⟩
    refine iteT ⟨_, rfl, _, rfl, szL (by rw [hl]; decide), rfl, true, congrArg V.bl (decide_eq_true rfl), ?_⟩
    refine iteT ⟨_, rfl, _, 0, a, rfl, rfl, szL (by rw [hl]; decide), rfl, _, rfl, a, L, rfl, rfl, _, rfl, ?_⟩
    rw [decide_eq_true ha]
    refine iteT ⟨_, rfl, _, 1, b, rfl, rfl, szL (by rw [hl]; decide), rfl, _, rfl, b, L, rfl, rfl, ?_⟩
    show Q (.bl (decide (b ∈ L.cps.toList))) H
    rw [decide_eq_true hb]
    exact q
abbrev CBoth (P : Program) (w : World) (K : PySem.W.Frag) (mg : Str → Option Value) (base : Heap) : Prop := Ca P w K mg base 1 "is_both" ["letters", "thing"] spBoth
/-! ### rises -/
abbrev s_rises : Stmt := topS 9
theorem sc_rises : FnScope ["things", "thing", "after"] ["things"] (defScope s_rises) :=
  ⟨rfl, rfl, rfl, by decide +kernel, rfl, by decide +kernel, by decide +kernel⟩
def spRises : Sp := fun vs H Q _ => (∃ x : Str, vs = [.str x] ∧ RiseS x ∧ x.length ≤ 1000 ∧ ∀ H', Ext H H' → Q (.bl true) H') ∨
  (∃ (a : Addr) (xs : List V), vs = [.ref a] ∧ H a = some (.lst xs) ∧ xs.length ≤ 1000 ∧ (∀ H', Ext H H' → ∀ i u v, xs[i]? = some u → xs[i + 1]? = some v → ∃ d e, Dp K H' u d ∧ Dp K H' v e ∧ PySem.W.alike d e = true ∧ d ≠ .none ∧ d.depth ≤ 64 ∧ PySem.W.dataLt d e = true) ∧ ∀ H', Ext H H' → Q (.bl true) H')
theorem ok_rises {f : Addr} {fd : FuncData} {k : Nat} (F : Fun K "rises" "rises" s_rises f fd) (mall : mg "all" = none) (mzip : mg "zip" = none) : FnOk P w K mg base CX0 (k + 1) f fd ["things"] (spRises (K := K)) := by
  refine F.ok sc_rises (fun vs H Q E h => ?_) (fun cdv A outer s H vs Q E hr h => ?_)
  · rcases h with ⟨x, rfl, _⟩ | ⟨a, xs, rfl, _⟩ <;> rfl
  · rcases h with ⟨x, rfl, hx, hlen, q⟩ | ⟨a, xs, rfl, hA, hlen, hd, q⟩
    · refine ⟨_, (pss_one (ps_ret (pe_callB (cr_all rfl) (by rfl) mall (by decide +kernel) (pa_cons (pe_lc (own := [("thing", 1), ("after", 2)]) (g := gTup K 2 (gCons (gName 1) (gCons (gName 2) gNil))) (by rfl) sc_rises.nd (pi_zipB K (by rfl) mzip (pa_cons (pv 0) (pa_cons (pe_slice (slB K) (pv 0) (po_some pe_int) po_none) pa_nil))) (blkOk_by (own := [("thing", 1), ("after", 2)]) (N := ["things", "thing", "after"]) (sc := defScope s_rises) (by decide +kernel)) (fun _ _ _ _ _ => (pgT K rfl (pgs_cons (pg_name (i := 1) sc_rises.nd rfl (.inl rfl)) (pgs_cons (pg_name (i := 2) sc_rises.nd rfl (.inl rfl)) pgs_nil)))) (fun _ _ _ _ _ => pts_nil) (fun _ _ _ _ _ => (pe_cmpR (ltD K hr.units) (pv 1) (pv 2) (nomark _)))) pa_nil)))), ?_⟩
      refine ⟨_, rfl, _, rfl, 1, rfl, .inl ⟨x, rfl, szL (by omega), .inl ⟨x, _, rfl, fun D hD => lc_zs (x := x) (y := cutS x (some 1) none) (fun i H2 => i ≤ x.length ∧ H2 D = some (.lst ((List.replicate i true).map V.bl)) ∧ Ext H H2) ⟨Nat.zero_le _, upd_same, Ext.new hD⟩ (fun i c d H2 T hc hd hv hT => ?_) (fun H2 i hv => ?_)⟩⟩⟩
      · obtain ⟨hi, hL, k2⟩ := hv
        rw [cutS1_get] at hd
        have hlt : c < d := by
          rw [← Array.getElem?_toList] at hc hd
          exact pw_next hx hc hd
        have hi1 : i < x.length := (Array.getElem?_eq_some_iff.mp hc).1
        have nT : D ≠ T := ne_of_none hL hT
        refine ⟨T, _, rfl, SqT.of upd_same, rfl, _, _, rfl, _, _, rfl, rfl, ?_⟩
        refine ⟨rfl, _, rfl, _, rfl, .str ⟨#[c]⟩, .str ⟨#[d]⟩, .str _, .str _, rfl, (fun z => by cases z), by simp [PyData.depth], _, by rw [upd_ne nT]; exact hL, szLt ?_, by omega, ?_, (k2.trans (Ext.new hT)).put hD⟩
        · rw [List.length_map, List.length_replicate]
          omega
        · rw [upd_same, slt_lt (slt_one hlt), List.replicate_succ', List.map_append]
          rfl
      · obtain ⟨hi, hL, k2⟩ := hv
        refine ⟨D, _, rfl, SqL.of hL, ?_⟩
        rw [all_true]
        exact q _ k2
    · refine ⟨_, (pss_one (ps_ret (pe_callB (cr_all rfl) (by rfl) mall (by decide +kernel) (pa_cons (pe_lc (own := [("thing", 1), ("after", 2)]) (g := gTup K 2 (gCons (gName 1) (gCons (gName 2) gNil))) (by rfl) sc_rises.nd (pi_zipB K (by rfl) mzip (pa_cons (pv 0) (pa_cons (pe_slice (slB K) (pv 0) (po_some pe_int) po_none) pa_nil))) (blkOk_by (own := [("thing", 1), ("after", 2)]) (N := ["things", "thing", "after"]) (sc := defScope s_rises) (by decide +kernel)) (fun _ _ _ _ _ => (pgT K rfl (pgs_cons (pg_name (i := 1) sc_rises.nd rfl (.inl rfl)) (pgs_cons (pg_name (i := 2) sc_rises.nd rfl (.inl rfl)) pgs_nil)))) (fun _ _ _ _ _ => pts_nil) (fun _ _ _ _ _ => (pe_cmpR (ltD K hr.units) (pv 1) (pv 2) (nomark _)))) pa_nil)))), ?_⟩
      refine ⟨_, rfl, _, rfl, 1, rfl, .inr ⟨a, xs, rfl, SqL.of hA, fun p hp => ?_⟩⟩
      have kp : Ext H (upd H p (.lst (cutV xs (some 1) none))) := Ext.new hp
      refine .inr ⟨a, p, xs, cutV xs (some 1) none, rfl, SqL.of (kp _ _ hA), SqL.of upd_same, fun D hD => lc_zl (xs := xs) (ys := cutV xs (some 1) none) (fun i H2 => i ≤ xs.length ∧ H2 D = some (.lst ((List.replicate i true).map V.bl)) ∧ Ext (upd H p (.lst (cutV xs (some 1) none))) H2) ⟨Nat.zero_le _, upd_same, Ext.new hD⟩ (fun i H2 hv => ⟨SqL.of (hv.2.2 _ _ (kp _ _ hA)), SqL.of (hv.2.2 _ _ upd_same)⟩) (fun i c d H2 T hc hd2 hv hT => ?_) (fun H2 i hv => ?_)⟩
      · obtain ⟨hi, hL, k2⟩ := hv
        rw [cut1_get] at hd2
        have hi1 : i < xs.length := (List.getElem?_eq_some_iff.mp hc).1
        have nT : D ≠ T := ne_of_none hL hT
        have k3 := (kp.trans k2).trans (Ext.new (o := .tup [c, d]) hT)
        obtain ⟨dc, dd, r1, r2, al, nn, dp, lt⟩ := hd _ k3 i c d hc hd2
        refine ⟨T, _, rfl, SqT.of upd_same, rfl, _, _, rfl, _, _, rfl, rfl, ?_⟩
        refine ⟨rfl, _, rfl, _, rfl, dc, dd, r1, r2, al, nn, dp, _, by rw [upd_ne nT]; exact hL, szLt ?_, by omega, ?_, (k2.trans (Ext.new hT)).put hD⟩
        · rw [List.length_map, List.length_replicate]
          omega
        · rw [upd_same, lt, List.replicate_succ', List.map_append]
          rfl
      · obtain ⟨hi, hL, k2⟩ := hv
        refine ⟨D, _, rfl, SqL.of hL, ?_⟩
        rw [all_true]
        exact q _ (kp.trans k2)
abbrev CRises (P : Program) (w : World) (K : PySem.W.Frag) (mg : Str → Option Value) (base : Heap) : Prop := Ca P w K mg base 1 "rises" ["things"] (spRises (K := K))
end
end Pf


namespace Pf
open PySem PySem.Spec PyProof.Rows L2
theorem mem_abc {c : Nat} (h : 97 ≤ c ∧ c ≤ 122) : c ∈ (Str.ofString "abcdefghijklmnopqrstuvwxyz").cps.toList := by
  have key : ∀ i : Nat, i < 26 → 97 + i ∈ (Str.ofString "abcdefghijklmnopqrstuvwxyz").cps.toList := by decide +kernel
  have := key (c - 97) (by omega)
  rwa [show 97 + (c - 97) = c by omega] at this
theorem mem_prodK {ts : List Str} {n : Nat} {k : Str × Str} (h : k ∈ prodK ts n) : k.1 ∈ ts ∧ k.2 ∈ ts := by
  obtain ⟨a, ha, h⟩ := List.mem_flatMap.mp h
  obtain ⟨b, hb, rfl⟩ := List.mem_map.mp h
  exact ⟨List.mem_of_mem_take ha, hb⟩
theorem flat_strs (ts : List Str) : (ts.map V.str).all flatV = true := by
  rw [List.all_map, List.all_eq_true]
  intro x _
  rfl
theorem inV_strs {x : Str} {ts : List Str} (h : x ∈ ts) : inV (.str x) (ts.map V.str) = true := by
  unfold inV
  rw [List.any_map, List.any_eq_true]
  refine ⟨x, h, ?_⟩
  show (x == x) = true
  exact beq_self_eq_true x
def KeyAt (H : Hp) (v : V) (k : Str × Str) : Prop := ∃ a, v = .ref a ∧ H a = some (.tup [.str k.1, .str k.2])
theorem KeyAt.ext {H H' : Hp} (e : Ext H H') {v : V} {k : Str × Str} (h : KeyAt H v k) : KeyAt H' v k := by
  obtain ⟨a, rfl, h⟩ := h
  exact ⟨a, rfl, e _ _ h⟩
theorem PairAt.ext {H H' : Hp} (e : Ext H H') {v : V} {k : Str × Int} (h : PairAt H v k) : PairAt H' v k := by
  obtain ⟨a, rfl, h⟩ := h
  exact ⟨a, rfl, e _ _ h⟩
theorem StackAt.ext {H H' : Hp} (e : Ext H H') {v : V} {k : Str × Str × Int} (h : StackAt H v k) : StackAt H' v k := by
  obtain ⟨a, rfl, h⟩ := h
  exact ⟨a, rfl, e _ _ h⟩
theorem strs_next {ts : List Str} (h : ts.Pairwise SLt) {K : PySem.W.Frag} {H' : Hp} {i : Nat} {u v : V} (hu : (ts.map V.str)[i]? = some u) (hv : (ts.map V.str)[i + 1]? = some v) : ∃ d e, Dp K H' u d ∧ Dp K H' v e ∧ PySem.W.alike d e = true ∧ d ≠ .none ∧ d.depth ≤ 64 ∧ PySem.W.dataLt d e = true := by
  rw [List.getElem?_map] at hu hv
  obtain ⟨x, hx, rfl⟩ := Option.map_eq_some_iff.mp hu
  obtain ⟨y, hy, rfl⟩ := Option.map_eq_some_iff.mp hv
  exact ⟨.str x, .str y, .str x, .str y, rfl, (fun z => by cases z), by simp [PyData.depth], slt_lt (pw_next h hx hy)⟩
theorem key_dp {K : PySem.W.Frag} {H : Hp} {v : V} {k : Str × Str} (h : KeyAt H v k) : Dp K H v (dKey k) := by
  obtain ⟨a, rfl, h⟩ := h
  exact .tup (SqT.of h) (.cons (.str _) (.cons (.str _) .nil))
theorem keys_next {ks : List (Str × Str)} (h : ks.Pairwise KLt) {K : PySem.W.Frag} {H' : Hp} {vs : List V} (p : Paired (KeyAt H') vs ks) {i : Nat} {u v : V} (hu : vs[i]? = some u) (hv : vs[i + 1]? = some v) : ∃ d e, Dp K H' u d ∧ Dp K H' v e ∧ PySem.W.alike d e = true ∧ d ≠ .none ∧ d.depth ≤ 64 ∧ PySem.W.dataLt d e = true := by
  obtain ⟨x, hx, k1⟩ := paired_get p hu
  obtain ⟨y, hy, k2⟩ := paired_get p hv
  exact ⟨dKey x, dKey y, key_dp k1, key_dp k2, rfl, (fun z => by cases z), by simp [dKey, PyData.depth, PyData.depthAll], pw_next h hx hy⟩
section
variable {P : Program} {w : World} {K : PySem.W.Frag} {mg : Str → Option Value} {base : Heap}
abbrev s_are_letters : Stmt := topS 11
theorem sc_are_letters : FnScope ["thing", "sign"] ["thing"] (defScope s_are_letters) :=
  ⟨rfl, rfl, rfl, by decide +kernel, rfl, by decide +kernel, by decide +kernel⟩
def spAL : Sp := fun vs H Q _ => ∃ x : Str, vs = [.str x] ∧ 1 ≤ x.length ∧ x.length ≤ 6 ∧ RiseS x ∧ Small x ∧ ∀ H', Ext H H' → Q (.bl true) H'
theorem ok_al {f : Addr} {fd : FuncData} {k : Nat} {tM tS : Tok} (F : Fun K "are_letters" "are_letters" s_are_letters f fd) (crises : CRises P w K mg base) (gMOST_LETTERS : mg "MOST_LETTERS" = some (.int 6 tM)) (gSMALL_LETTERS : mg "SMALL_LETTERS" = some (.str "abcdefghijklmnopqrstuvwxyz" tS)) (misinstance : mg "isinstance" = none) (mstr : mg "str" = none) (mlen : mg "len" = none) (mall : mg "all" = none) : FnOk P w K mg base CX0 (k + 2) f fd ["thing"] spAL := by
  refine F.ok sc_are_letters (fun vs H Q E h => ?_) (fun cdv A outer s H vs Q E hr h => ?_)
  · obtain ⟨x, rfl, _⟩ := h
    rfl
  · obtain ⟨x, rfl, h1, h2, hr1, hs, q⟩ := h
    refine ⟨_, (pss_cons (ps_if (PW.pt (pw_or (pt_not (pt_val (pe_callB (isi1 K) (by rfl) misinstance (by decide +kernel) (pa_cons (pv 0) (pa_cons (pe_bltn (v := .ty "str") (by rfl) mstr (by decide +kernel) rfl) pa_nil))))) (pw_or1 (pt_not (pt_chain op_le op_le pe_int (pe_callB call_len_str (by rfl) mlen (by decide +kernel) (pa_cons (pv 0) pa_nil)) (pe_glob (v := .int 6) (by rfl) gMOST_LETTERS ⟨_, rfl⟩)))))) (pss_one (ps_ret pe_bl)) pss_nil)
      (pss_one (ps_ret (pe_and (pe_ca crises (hr.mono (by omega)) (by rfl) (pa_cons (pv 0) pa_nil)) (pe_one (pe_callB (cr_all rfl) (by rfl) mall (by decide +kernel) (pa_cons (pe_lc (own := [("sign", 1)]) (g := gName 1) (by rfl) sc_are_letters.nd (pi_str (pv 0)) (blkOk_by (own := [("sign", 1)]) (N := ["thing", "sign"]) (sc := defScope s_are_letters) (by decide +kernel)) (fun _ _ _ _ _ => (pg_name (i := 1) sc_are_letters.nd rfl (.inl rfl))) (fun _ _ _ _ _ => pts_nil) (fun _ _ _ _ _ => (pe_cmpR op_in_sign (pv 1) (pe_glob (v := .str "abcdefghijklmnopqrstuvwxyz") (by rfl) gSMALL_LETTERS ⟨_, rfl⟩) (by rfl)))) pa_nil))))))), ?_⟩
    refine ⟨_, rfl, .str x, .ty "str", _, _, true, rfl, .ty _, .base (.str x), kit_ty (by decide +kernel), true, rfl, iteF ?_⟩
    refine ⟨_, rfl, x, rfl, szL (by omega), _, _, rfl, rfl, _, rfl, ?_⟩
    rw [decide_eq_true (show (1 : Int) ≤ x.length by omega)]
    refine iteT ⟨_, _, rfl, rfl, _, rfl, ?_⟩
    rw [decide_eq_true (show (x.length : Int) ≤ 6 by omega)]
    refine iteF ⟨_, rfl, .inl ⟨x, rfl, hr1, by omega, fun H1 k1 => ⟨true, rfl, iteT ⟨_, rfl, _, rfl, fun D hD => lc_str (fun i H2 => H2 D = some (.lst ((List.replicate i true).map V.bl)) ∧ Ext H1 H2) ⟨upd_same, Ext.new hD⟩ (fun i ch H2 hi hv => ?_) (fun H2 hv => ?_)⟩⟩⟩⟩
    · obtain ⟨hL, k2⟩ := hv
      have hi12 : i < x.length := (Array.getElem?_eq_some_iff.mp hi).1
      have hm := mem_abc (hs ch (Array.mem_toList_iff.mpr (Array.mem_of_getElem? hi)))
      refine ⟨rfl, _, rfl, ch, _, rfl, rfl, _, hL, szLt ?_, ?_, k2.put hD⟩
      · rw [List.length_map, List.length_replicate]
        omega
      · rw [upd_same, List.replicate_succ', List.map_append, decide_eq_true hm]
        rfl
    · obtain ⟨hL, k2⟩ := hv
      refine ⟨D, _, rfl, SqL.of hL, ?_⟩
      rw [all_true]
      exact q _ (k1.trans k2)
abbrev CAL (P : Program) (w : World) (K : PySem.W.Frag) (mg : Str → Option Value) (base : Heap) : Prop := Ca P w K mg base 2 "are_letters" ["thing"] spAL
abbrev s_is_pair_row : Stmt := topS 13
theorem sc_is_pair_row : FnScope ["letters", "thing"] ["letters", "thing"] (defScope s_is_pair_row) :=
  ⟨rfl, rfl, rfl, by decide +kernel, rfl, by decide +kernel, by decide +kernel⟩
def spPR : Sp := fun vs H Q _ => ∃ (L : Str) (a1 : Addr) (a b : Nat) (v : Int), vs = [.str L, .ref a1] ∧ H a1 = some (.tup [.str (⟨#[a]⟩ ++ ⟨#[b]⟩), .int v]) ∧ a ∈ L.cps.toList ∧ b ∈ L.cps.toList ∧ -99 ≤ v ∧ v ≤ 99 ∧ Q (.bl true) H
theorem ok_pr {f : Addr} {fd : FuncData} {k : Nat} (F : Fun K "is_pair_row" "is_pair_row" s_is_pair_row f fd) (cis_row : CRow P w K mg base) (cis_both : CBoth P w K mg base) (cis_worth : CWorthy P w K mg base) : FnOk P w K mg base CX0 (k + 3) f fd ["letters", "thing"] spPR := by
  refine F.ok sc_is_pair_row (fun vs H Q E h => ?_) (fun cdv A outer s H vs Q E hr h => ?_)
  · obtain ⟨L, a1, a, b, v, rfl, _⟩ := h
    rfl
  · obtain ⟨L, a1, a, b, v, rfl, hA, ha, hb, h1, h2, q⟩ := h
    refine ⟨_, (pss_one (ps_ret (pe_and (pe_ca cis_row (hr.mono (by omega)) (by rfl) (pa_cons (pv 1) (pa_cons pe_int pa_nil))) (pe_and (pe_ca cis_both (hr.mono (by omega)) (by rfl) (pa_cons (pv 0) (pa_cons (pe_ix (ixT K) (pv 1) pe_int (fun _ _ => rfl)) pa_nil))) (pe_one (pe_ca cis_worth (hr.mono (by omega)) (by rfl) (pa_cons (pe_ix (ixT K) (pv 1) pe_int (fun _ _ => rfl)) pa_nil))))))), ?_⟩
    refine ⟨_, rfl, a1, _, 2, rfl, hA, rfl, true, rfl, iteT ⟨_, rfl, _, rfl, a1, _, 0, _, rfl, rfl, SqT.of hA, rfl, L, a, b, rfl, ha, hb, true, rfl, iteT ⟨_, rfl, a1, _, 1, _, rfl, rfl, SqT.of hA, rfl, v, rfl, h1, h2, q⟩⟩⟩
abbrev CPR (P : Program) (w : World) (K : PySem.W.Frag) (mg : Str → Option Value) (base : Heap) : Prop := Ca P w K mg base 3 "is_pair_row" ["letters", "thing"] spPR
abbrev s_are_pairs : Stmt := topS 14
theorem sc_are_pairs : FnScope ["letters", "thing", "row"] ["letters", "thing"] (defScope s_are_pairs) :=
  ⟨rfl, rfl, rfl, by decide +kernel, rfl, by decide +kernel, by decide +kernel⟩
def PrsGood (L : Str) (prs : List (Str × Int)) : Prop := prs.length ≤ 12 ∧ (prs.map (·.1)).Pairwise SLt ∧ ∀ y ∈ prs, (∃ a ∈ L.cps.toList, ∃ b ∈ L.cps.toList, y.1 = ⟨#[a]⟩ ++ ⟨#[b]⟩) ∧ -99 ≤ y.2 ∧ y.2 ≤ 99
def spAP : Sp := fun vs H Q _ => ∃ (L : Str) (v : V) (prs : List (Str × Int)), vs = [.str L, v] ∧ TupOf PairAt H v prs ∧ PrsGood L prs ∧ ∀ H', Ext H H' → Q (.bl true) H'
theorem ok_ap {f : Addr} {fd : FuncData} {k : Nat} {tM : Tok} (F : Fun K "are_pairs" "are_pairs" s_are_pairs f fd) (cis_pair_row : CPR P w K mg base) (crises : CRises P w K mg base) (gMOST_ROWS : mg "MOST_ROWS" = some (.int 12 tM)) (misinstance : mg "isinstance" = none) (mtuple : mg "tuple" = none) (mlen : mg "len" = none) (mall : mg "all" = none) : FnOk P w K mg base CX0 (k + 4) f fd ["letters", "thing"] spAP := by
  refine F.ok sc_are_pairs (fun vs H Q E h => ?_) (fun cdv A outer s H vs Q E hr h => ?_)
  · obtain ⟨L, v, prs, rfl, _⟩ := h
    rfl
  · obtain ⟨L, v, prs, rfl, ⟨a, us, rfl, hA, hR⟩, ⟨h12, hs, hg⟩, q⟩ := h
    have hlen := paired_len hR
    refine ⟨_, (pss_cons (ps_if (PW.pt (pw_or (pt_not (pt_val (pe_callB (isi1 K) (by rfl) misinstance (by decide +kernel) (pa_cons (pv 1) (pa_cons (pe_bltn (v := .ty "tuple") (by rfl) mtuple (by decide +kernel) rfl) pa_nil))))) (pw_or1 (pt_cmpR op_gt (pe_callB (lenQ K) (by rfl) mlen (by decide +kernel) (pa_cons (pv 1) pa_nil)) (pe_glob (v := .int 12) (by rfl) gMOST_ROWS ⟨_, rfl⟩) (nomark _))))) (pss_one (ps_ret pe_bl)) pss_nil)
      (pss_one (ps_ret (pe_and (pe_callB (cr_all rfl) (by rfl) mall (by decide +kernel) (pa_cons (pe_lc (own := [("row", 2)]) (g := gName 2) (by rfl) sc_are_pairs.nd (pi_tup (pv 1)) (blkOk_by (own := [("row", 2)]) (N := ["letters", "thing", "row"]) (sc := defScope s_are_pairs) (by decide +kernel)) (fun _ _ _ _ _ => (pg_name (i := 2) sc_are_pairs.nd rfl (.inl rfl))) (fun _ _ _ _ _ => pts_nil) (fun _ _ _ _ _ => (pe_ca cis_pair_row (hr.mono (by omega)) (by rfl) (pa_cons (pv 0) (pa_cons (pv 2) pa_nil))))) pa_nil)) (pe_one (pe_ca crises (hr.mono (by omega)) (by rfl) (pa_cons (pe_lc (own := [("row", 2)]) (g := gName 2) (by rfl) sc_are_pairs.nd (pi_tup (pv 1)) (blkOk_by (own := [("row", 2)]) (N := ["letters", "thing", "row"]) (sc := defScope s_are_pairs) (by decide +kernel)) (fun _ _ _ _ _ => (pg_name (i := 2) sc_are_pairs.nd rfl (.inl rfl))) (fun _ _ _ _ _ => pts_nil) (fun _ _ _ _ _ => (pe_ix (ixT K) (pv 2) pe_int (fun _ _ => rfl)))) pa_nil))))))), ?_⟩
    refine ⟨_, rfl, .ref a, .ty "tuple", _, _, true, rfl, .ty _, .base (.tup hA), kit_ty (by decide +kernel), true, rfl, iteF ?_⟩
    refine ⟨_, rfl, a, us, rfl, .inr (SqT.of hA), _, _, rfl, rfl, _, rfl, ?_⟩
    rw [decide_eq_false (show ¬ (us.length : Int) > 12 by omega)]
    refine iteF ⟨_, rfl, a, rfl, ⟨_, SqT.of hA⟩, fun D hD => lc_tup (K := K) (xs := us) (fun i H2 => H2 D = some (.lst ((List.replicate i true).map V.bl)) ∧ Ext H H2) ⟨upd_same, Ext.new hD⟩ (fun i H2 _ ⟨_, k2⟩ => SqT.of (k2 _ _ hA)) (fun i u H2 hi hv => ?_) (fun H2 hv => ?_)⟩
    · obtain ⟨hL, k2⟩ := hv
      have hi12 : i < us.length := (List.getElem?_eq_some_iff.mp hi).1
      obtain ⟨⟨x, z⟩, hx, a1, rfl, ha1⟩ := paired_get hR hi
      obtain ⟨⟨c, hc, d, hd, e⟩, b1, b2⟩ := hg _ (List.mem_of_getElem? hx)
      have e : x = ⟨#[c]⟩ ++ ⟨#[d]⟩ := e
      subst e
      refine ⟨rfl, _, rfl, _, rfl, L, a1, c, d, z, rfl, k2 _ _ ha1, hc, hd, b1, b2, _, hL, szLt ?_, ?_, k2.put hD⟩
      · rw [List.length_map, List.length_replicate]
        omega
      · rw [upd_same, List.replicate_succ', List.map_append]
        rfl
    · obtain ⟨hL, k2⟩ := hv
      refine ⟨D, _, rfl, SqL.of hL, true, congrArg V.bl (all_true _), iteT ?_⟩
      refine ⟨_, rfl, a, rfl, ⟨_, SqT.of (k2 _ _ hA)⟩, fun D3 hD3 => lc_tup (K := K) (xs := us) (fun i H3 => H3 D3 = some (.lst (((prs.take i).map (·.1)).map V.str)) ∧ Ext H2 H3) ⟨upd_same, Ext.new hD3⟩ (fun i H3 _ ⟨_, k3⟩ => SqT.of (k3 _ _ (k2 _ _ hA))) (fun i u H3 hi hv => ?_) (fun H3 hv => ?_)⟩
      · obtain ⟨hL3, k3⟩ := hv
        have hi12 : i < us.length := (List.getElem?_eq_some_iff.mp hi).1
        obtain ⟨⟨x, z⟩, hx, a1, rfl, ha1⟩ := paired_get hR hi
        refine ⟨rfl, _, rfl, a1, _, 0, _, rfl, rfl, SqT.of (k3 _ _ (k2 _ _ ha1)), rfl, _, hL3, szLt ?_, ?_, k3.put hD3⟩
        · rw [List.length_map, List.length_map, List.length_take]
          omega
        · rw [upd_same, List.take_add_one, hx, List.map_append, List.map_append]
          rfl
      · obtain ⟨hL3, k3⟩ := hv
        rw [List.take_of_length_le (by omega)] at hL3
        refine .inr ⟨D3, _, rfl, hL3, by rw [List.length_map, List.length_map]; omega, fun H' _ i u v hu hv => strs_next hs hu hv, fun H4 k4 => q _ ((k2.trans k3).trans k4)⟩
abbrev CAP (P : Program) (w : World) (K : PySem.W.Frag) (mg : Str → Option Value) (base : Heap) : Prop := Ca P w K mg base 4 "are_pairs" ["letters", "thing"] spAP
abbrev s_are_loops : Stmt := topS 16
theorem sc_are_loops : FnScope ["thing", "worth"] ["thing"] (defScope s_are_loops) :=
  ⟨rfl, rfl, rfl, by decide +kernel, rfl, by decide +kernel, by decide +kernel⟩
def spALo : Sp := fun vs H Q _ => ∃ (v : V) (ns : List Int), vs = [v] ∧ TupOf IntAt H v ns ∧ ns.length = 9 ∧ (∀ y ∈ ns, -99 ≤ y ∧ y ≤ 99) ∧ ∀ H', Ext H H' → Q (.bl true) H'
theorem ok_alo {f : Addr} {fd : FuncData} {k : Nat} {aLOOPS : Addr} {lv : List V} (F : Fun K "are_loops" "are_loops" s_are_loops f fd) (cis_row : CRow P w K mg base) (cis_worth : CWorthy P w K mg base) (gLOOPS : mg "LOOPS" = some (.ref aLOOPS)) (hL : ∀ H : Hp, SqT K H aLOOPS lv) (hl9 : lv.length = 9) (mlen : mg "len" = none) (mall : mg "all" = none) : FnOk P w K mg base CX0 (k + 3) f fd ["thing"] spALo := by
  refine F.ok sc_are_loops (fun vs H Q E h => ?_) (fun cdv A outer s H vs Q E hr h => ?_)
  · obtain ⟨v, ns, rfl, _⟩ := h
    rfl
  · obtain ⟨v, ns, rfl, ⟨a, us, rfl, hA, hR⟩, h9, hb, q⟩ := h
    have hlen := paired_len hR
    refine ⟨_, (pss_one (ps_ret (pe_and (pe_ca cis_row (hr.mono (by omega)) (by rfl) (pa_cons (pv 0) (pa_cons (pe_callB (lenQ K) (by rfl) mlen (by decide +kernel) (pa_cons (pe_glob (v := .ref aLOOPS) (by rfl) gLOOPS rfl) pa_nil)) pa_nil))) (pe_one (pe_callB (cr_all rfl) (by rfl) mall (by decide +kernel) (pa_cons (pe_lc (own := [("worth", 1)]) (g := gName 1) (by rfl) sc_are_loops.nd (pi_tup (pv 0)) (blkOk_by (own := [("worth", 1)]) (N := ["thing", "worth"]) (sc := defScope s_are_loops) (by decide +kernel)) (fun _ _ _ _ _ => (pg_name (i := 1) sc_are_loops.nd rfl (.inl rfl))) (fun _ _ _ _ _ => pts_nil) (fun _ _ _ _ _ => (pe_ca cis_worth (hr.mono (by omega)) (by rfl) (pa_cons (pv 1) pa_nil)))) pa_nil)))))), ?_⟩
    refine ⟨_, rfl, aLOOPS, lv, rfl, .inr (hL H), a, us, _, rfl, hA, by rw [hl9, hlen, h9], true, rfl, iteT ?_⟩
    refine ⟨_, rfl, a, rfl, ⟨_, SqT.of hA⟩, fun D hD => lc_tup (K := K) (xs := us) (fun i H2 => H2 D = some (.lst ((List.replicate i true).map V.bl)) ∧ Ext H H2) ⟨upd_same, Ext.new hD⟩ (fun i H2 _ ⟨_, k2⟩ => SqT.of (k2 _ _ hA)) (fun i u H2 hi hv => ?_) (fun H2 hv => ?_)⟩
    · obtain ⟨hL2, k2⟩ := hv
      have hi12 : i < us.length := (List.getElem?_eq_some_iff.mp hi).1
      obtain ⟨x, hx, hu⟩ := paired_get hR hi
      cases hu
      obtain ⟨b1, b2⟩ := hb _ (List.mem_of_getElem? hx)
      refine ⟨rfl, _, rfl, x, rfl, b1, b2, _, hL2, szLt ?_, ?_, k2.put hD⟩
      · rw [List.length_map, List.length_replicate]
        omega
      · rw [upd_same, List.replicate_succ', List.map_append]
        rfl
    · obtain ⟨hL2, k2⟩ := hv
      refine ⟨D, _, rfl, SqL.of hL2, ?_⟩
      rw [all_true]
      exact q _ k2
abbrev CALo (P : Program) (w : World) (K : PySem.W.Frag) (mg : Str → Option Value) (base : Heap) : Prop := Ca P w K mg base 3 "are_loops" ["thing"] spALo
abbrev s_is_stack_row : Stmt := topS 17
theorem sc_is_stack_row : FnScope ["texts", "thing"] ["texts", "thing"] (defScope s_is_stack_row) :=
  ⟨rfl, rfl, rfl, by decide +kernel, rfl, by decide +kernel, by decide +kernel⟩
def spSR : Sp := fun vs H Q _ => ∃ (t a1 : Addr) (ts : List Str) (x y : Str) (v : Int), vs = [.ref t, .ref a1] ∧ H t = some (.lst (ts.map V.str)) ∧ H a1 = some (.tup [.str x, .str y, .int v]) ∧ x ∈ ts ∧ y ∈ ts ∧ -99 ≤ v ∧ v ≤ 99 ∧ Q (.bl true) H
theorem ok_sr {f : Addr} {fd : FuncData} {k : Nat} (F : Fun K "is_stack_row" "is_stack_row" s_is_stack_row f fd) (cis_row : CRow P w K mg base) (cis_worth : CWorthy P w K mg base) : FnOk P w K mg base CX0 (k + 3) f fd ["texts", "thing"] spSR := by
  refine F.ok sc_is_stack_row (fun vs H Q E h => ?_) (fun cdv A outer s H vs Q E hr h => ?_)
  · obtain ⟨t, a1, ts, x, y, v, rfl, _⟩ := h
    rfl
  · obtain ⟨t, a1, ts, x, y, v, rfl, hT, hA, hx, hy, h1, h2, q⟩ := h
    refine ⟨_, (pss_one (ps_ret (pe_and (pe_ca cis_row (hr.mono (by omega)) (by rfl) (pa_cons (pv 1) (pa_cons pe_int pa_nil))) (pe_and (pe_cmpR (inSeq K) (pe_ix (ixT K) (pv 1) pe_int (fun _ _ => rfl)) (pv 0) (by rfl)) (pe_and (pe_cmpR (inSeq K) (pe_ix (ixT K) (pv 1) pe_int (fun _ _ => rfl)) (pv 0) (by rfl)) (pe_one (pe_ca cis_worth (hr.mono (by omega)) (by rfl) (pa_cons (pe_ix (ixT K) (pv 1) pe_int (fun _ _ => rfl)) pa_nil)))))))), ?_⟩
    refine ⟨_, rfl, a1, _, 3, rfl, hA, rfl, true, rfl, iteT ⟨_, rfl, a1, _, 0, _, rfl, rfl, SqT.of hA, rfl, _, rfl, t, _, rfl, .inl (SqL.of hT), rfl, flat_strs ts, true, congrArg V.bl (inV_strs hx), iteT ?_⟩⟩
    exact ⟨_, rfl, a1, _, 1, _, rfl, rfl, SqT.of hA, rfl, _, rfl, t, _, rfl, .inl (SqL.of hT), rfl, flat_strs ts, true, congrArg V.bl (inV_strs hy), iteT ⟨_, rfl, a1, _, 2, _, rfl, rfl, SqT.of hA, rfl, v, rfl, h1, h2, q⟩⟩
abbrev CSR (P : Program) (w : World) (K : PySem.W.Frag) (mg : Str → Option Value) (base : Heap) : Prop := Ca P w K mg base 3 "is_stack_row" ["texts", "thing"] spSR
abbrev s_are_stacks : Stmt := topS 18
theorem sc_are_stacks : FnScope ["pairs", "thing", "texts", "row"] ["pairs", "thing"] (defScope s_are_stacks) :=
  ⟨rfl, rfl, rfl, by decide +kernel, rfl, by decide +kernel, by decide +kernel⟩
def StkGood (ts : List Str) (stk : List (Str × Str × Int)) : Prop := stk.length ≤ 12 ∧ (stk.map keyS).Pairwise KLt ∧ ∀ y ∈ stk, y.1 ∈ ts ∧ y.2.1 ∈ ts ∧ -99 ≤ y.2.2 ∧ y.2.2 ≤ 99
def spAS : Sp := fun vs H Q _ => ∃ (vp vs' : V) (prs : List (Str × Int)) (stk : List (Str × Str × Int)), vs = [vp, vs'] ∧ TupOf PairAt H vp prs ∧ prs.length ≤ 12 ∧ TupOf StackAt H vs' stk ∧ StkGood (prs.map (·.1)) stk ∧ ∀ H', Ext H H' → Q (.bl true) H'
theorem ok_as {f : Addr} {fd : FuncData} {k : Nat} {tM : Tok} (F : Fun K "are_stacks" "are_stacks" s_are_stacks f fd) (cis_stack_row : CSR P w K mg base) (crises : CRises P w K mg base) (gMOST_ROWS : mg "MOST_ROWS" = some (.int 12 tM)) (misinstance : mg "isinstance" = none) (mtuple : mg "tuple" = none) (mlen : mg "len" = none) (mall : mg "all" = none) : FnOk P w K mg base CX0 (k + 4) f fd ["pairs", "thing"] spAS := by
  refine F.ok sc_are_stacks (fun vs H Q E h => ?_) (fun cdv A outer s H vs Q E hr h => ?_)
  · obtain ⟨vp, vs', prs, stk, rfl, _⟩ := h
    rfl
  · obtain ⟨vp, vs', prs, stk, rfl, ⟨ap, pus, rfl, hP, hRp⟩, hp12, ⟨a, us, rfl, hA, hR⟩, ⟨h12, hs, hg⟩, q⟩ := h
    have hlen := paired_len hR
    have hplen := paired_len hRp
    refine ⟨_, (pss_cons (ps_if (PW.pt (pw_or (pt_not (pt_val (pe_callB (isi1 K) (by rfl) misinstance (by decide +kernel) (pa_cons (pv 1) (pa_cons (pe_bltn (v := .ty "tuple") (by rfl) mtuple (by decide +kernel) rfl) pa_nil))))) (pw_or1 (pt_cmpR op_gt (pe_callB (lenQ K) (by rfl) mlen (by decide +kernel) (pa_cons (pv 1) pa_nil)) (pe_glob (v := .int 12) (by rfl) gMOST_ROWS ⟨_, rfl⟩) (nomark _))))) (pss_one (ps_ret pe_bl)) pss_nil)
      (pss_cons (ps_set (i := 2) sc_are_stacks.nd rfl (.inr rfl) (pe_lc (own := [("row", 3)]) (g := gName 3) (by rfl) sc_are_stacks.nd (pi_tup (pv 0)) (blkOk_by (own := [("row", 3)]) (N := ["pairs", "thing", "texts", "row"]) (sc := defScope s_are_stacks) (by decide +kernel)) (fun _ _ _ _ _ => (pg_name (i := 3) sc_are_stacks.nd rfl (.inl rfl))) (fun _ _ _ _ _ => pts_nil) (fun _ _ _ _ _ => (pe_ix (ixT K) (pv 3) pe_int (fun _ _ => rfl)))))
      (pss_one (ps_ret (pe_and (pe_callB (cr_all rfl) (by rfl) mall (by decide +kernel) (pa_cons (pe_lc (own := [("row", 3)]) (g := gName 3) (by rfl) sc_are_stacks.nd (pi_tup (pv 1)) (blkOk_by (own := [("row", 3)]) (N := ["pairs", "thing", "texts", "row"]) (sc := defScope s_are_stacks) (by decide +kernel)) (fun _ _ _ _ _ => (pg_name (i := 3) sc_are_stacks.nd rfl (.inl rfl))) (fun _ _ _ _ _ => pts_nil) (fun _ _ _ _ _ => (pe_ca cis_stack_row (hr.mono (by omega)) (by rfl) (pa_cons (pv 2) (pa_cons (pv 3) pa_nil))))) pa_nil)) (pe_one (pe_ca crises (hr.mono (by omega)) (by rfl) (pa_cons (pe_lc (own := [("row", 3)]) (g := gName 3) (by rfl) sc_are_stacks.nd (pi_tup (pv 1)) (blkOk_by (own := [("row", 3)]) (N := ["pairs", "thing", "texts", "row"]) (sc := defScope s_are_stacks) (by decide +kernel)) (fun _ _ _ _ _ => (pg_name (i := 3) sc_are_stacks.nd rfl (.inl rfl))) (fun _ _ _ _ _ => pts_nil) (fun _ _ _ _ _ => (pe_slice (slT K) (pv 3) po_none (po_some pe_int)))) pa_nil)))))))), ?_⟩
    refine ⟨_, rfl, .ref a, .ty "tuple", _, _, true, rfl, .ty _, .base (.tup hA), kit_ty (by decide +kernel), true, rfl, iteF ?_⟩
    refine ⟨_, rfl, a, us, rfl, .inr (SqT.of hA), _, _, rfl, rfl, _, rfl, ?_⟩
    rw [decide_eq_false (show ¬ (us.length : Int) > 12 by omega)]
    refine iteF ⟨_, rfl, ap, rfl, ⟨_, SqT.of hP⟩, fun T hT => lc_tup (K := K) (xs := pus) (fun i H3 => H3 T = some (.lst (((prs.take i).map (·.1)).map V.str)) ∧ Ext H H3) ⟨upd_same, Ext.new hT⟩ (fun i H3 _ ⟨_, k3⟩ => SqT.of (k3 _ _ hP)) (fun i u H3 hi hv => ?_) (fun H3 hv => ?_)⟩
    · obtain ⟨hL3, k3⟩ := hv
      have hi12 : i < pus.length := (List.getElem?_eq_some_iff.mp hi).1
      obtain ⟨⟨x, z⟩, hx, a1, rfl, ha1⟩ := paired_get hRp hi
      refine ⟨rfl, _, rfl, a1, _, 0, _, rfl, rfl, SqT.of (k3 _ _ ha1), rfl, _, hL3, szLt ?_, ?_, k3.put hT⟩
      · rw [List.length_map, List.length_map, List.length_take]
        omega
      · rw [upd_same, List.take_add_one, hx, List.map_append, List.map_append]
        rfl
    · obtain ⟨hT1, k1⟩ := hv
      rw [List.take_of_length_le (by omega)] at hT1
      refine ⟨_, rfl, a, rfl, ⟨_, SqT.of (k1 _ _ hA)⟩, fun D hD => lc_tup (K := K) (xs := us) (fun i H2 => H2 D = some (.lst ((List.replicate i true).map V.bl)) ∧ Ext H3 H2) ⟨upd_same, Ext.new hD⟩ (fun i H2 _ ⟨_, k2⟩ => SqT.of (k2 _ _ (k1 _ _ hA))) (fun i u H2 hi hv => ?_) (fun H2 hv => ?_)⟩
      · obtain ⟨hL, k2⟩ := hv
        have hi12 : i < us.length := (List.getElem?_eq_some_iff.mp hi).1
        obtain ⟨⟨x, y, z⟩, hx, a1, rfl, ha1⟩ := paired_get hR hi
        obtain ⟨b1, b2, b3, b4⟩ := hg _ (List.mem_of_getElem? hx)
        refine ⟨rfl, _, rfl, _, rfl, T, a1, _, x, y, z, rfl, k2 _ _ hT1, k2 _ _ (k1 _ _ ha1), b1, b2, b3, b4, _, hL, szLt ?_, ?_, k2.put hD⟩
        · rw [List.length_map, List.length_replicate]
          omega
        · rw [upd_same, List.replicate_succ', List.map_append]
          rfl
      · obtain ⟨hL, k2⟩ := hv
        have k12 := k1.trans k2
        refine ⟨D, _, rfl, SqL.of hL, true, congrArg V.bl (all_true _), iteT ?_⟩
        refine ⟨_, rfl, a, rfl, ⟨_, SqT.of (k12 _ _ hA)⟩, fun D3 hD3 => lc_tup (K := K) (xs := us) (fun i H4 => ∃ vs, H4 D3 = some (.lst vs) ∧ Paired (KeyAt H4) vs ((stk.take i).map keyS) ∧ Ext H2 H4) ⟨[], upd_same, .nil, Ext.new hD3⟩ (fun i H4 _ ⟨_, _, _, k3⟩ => SqT.of (k3 _ _ (k12 _ _ hA))) (fun i u H4 hi hv => ?_) (fun H4 hv => ?_)⟩
        · obtain ⟨vs, hL4, hK, k4⟩ := hv
          have hi12 : i < us.length := (List.getElem?_eq_some_iff.mp hi).1
          have hvl := paired_len hK
          rw [List.length_map, List.length_take] at hvl
          obtain ⟨⟨x, y, z⟩, hx, a1, rfl, ha1⟩ := paired_get hR hi
          have hnd : ∀ {b o}, H4 b = some o → b ≠ D3 → ∀ {p o'}, H4 p = none → ∀ vs', (upd (upd H4 p o') D3 vs') b = some o := fun hb hne p o' hp vs' => by
            rw [upd_ne hne, upd_ne (ne_of_none hb hp)]
            exact hb
          refine ⟨rfl, _, rfl, 2, rfl, a1, _, rfl, SqT.of (k4 _ _ (k12 _ _ ha1)), (show ¬ (HT.sIx 3 0 none = 0 ∧ HT.sIx 3 3 (some 2) = 3) by decide), fun p hp => ?_⟩
          have nD : D3 ≠ p := ne_of_none hL4 hp
          refine ⟨vs, by rw [upd_ne nD]; exact hL4, szLt (by omega), vs ++ [.ref p], upd_same, ?_, (k4.trans (Ext.new hp)).put hD3⟩
          rw [List.take_add_one, hx, List.map_append]
          refine (paired_imp (fun v k hk => ?_) hK).snoc ⟨p, rfl, ?_⟩
          · obtain ⟨b, e, hb⟩ := hk
            refine ⟨b, e, hnd hb (fun e2 => ?_) hp _⟩
            rw [e2, hL4] at hb
            cases hb
          · rw [upd_ne nD.symm, upd_same]
            rfl
        · obtain ⟨vs, hL4, hK, k4⟩ := hv
          rw [List.take_of_length_le (by omega)] at hK
          have hvl := paired_len hK
          rw [List.length_map] at hvl
          refine .inr ⟨D3, vs, rfl, hL4, by omega, fun H' k' i u v hu hv => keys_next hs (paired_imp (fun _ _ h => h.ext k') hK) hu hv, fun H5 k5 => q _ ((k12.trans k4).trans k5)⟩
abbrev CAS (P : Program) (w : World) (K : PySem.W.Frag) (mg : Str → Option Value) (base : Heap) : Prop := Ca P w K mg base 4 "are_stacks" ["pairs", "thing"] spAS
/-! ### rules as a whole -/
def RulesP (H : Hp) (v : V) (r : Rl) : Prop := ∃ a vp vl vs, v = .ref a ∧ H a = some (.tup [.str r.letters, vp, .int r.span, vl, vs]) ∧ TupOf PairAt H vp r.prs ∧ TupOf IntAt H vl r.loops ∧ TupOf StackAt H vs r.stk
theorem RulesP.wd {H : Hp} {v : V} {r : Rl} (h : RulesP H v r) : RulesW H v r := by
  obtain ⟨a, vp, vl, vs, e, h, h1, h2, h3⟩ := h
  exact ⟨a, vp, vl, vs, e, h, tup_prs h1, h2, h3⟩
theorem good_prs {r : Rl} (ok : RlOk r) (g : GoodR r) : PrsGood r.letters r.prs := by
  refine ⟨ok.prs, List.Pairwise.sublist g.2.1 (prod_slt g.1), fun y hy => ⟨?_, (ok.pr y hy).2⟩⟩
  obtain ⟨a, ha, b, hb, e⟩ := mem_prod (g.2.1.subset (List.mem_map.mpr ⟨y, hy, rfl⟩))
  exact ⟨a, ha, b, hb, e⟩
theorem good_stk {r : Rl} (ok : RlOk r) (g : GoodR r) : StkGood (r.prs.map (·.1)) r.stk := by
  refine ⟨ok.stk, List.Pairwise.sublist g.2.2 (prodK_klt (good_prs ok g).2.1 _), fun y hy => ?_⟩
  have h := mem_prodK (g.2.2.subset (List.mem_map.mpr ⟨y, hy, rfl⟩))
  exact ⟨h.1, h.2, (ok.st y hy).2.2⟩
abbrev s_wrong_part : Stmt := topS 19
theorem sc_wrong_part : FnScope ["letters", "pairs", "span", "loops", "stacks"] ["letters", "pairs", "span", "loops", "stacks"] (defScope s_wrong_part) :=
  ⟨rfl, rfl, rfl, by decide +kernel, rfl, by decide +kernel, by decide +kernel⟩
def spWP : Sp := fun vs H Q _ => ∃ (vp vl vk : V) (r : Rl), vs = [.str r.letters, vp, .int r.span, vl, vk] ∧ TupOf PairAt H vp r.prs ∧ TupOf IntAt H vl r.loops ∧ TupOf StackAt H vk r.stk ∧ RlOk r ∧ GoodR r ∧ ∀ H', Ext H H' → Q .non H'
theorem tupExt {α : Type} {R : Hp → V → α → Prop} (hm : ∀ {H H' : Hp}, Ext H H' → ∀ {v : V} {k : α}, R H v k → R H' v k) {H H' : Hp} (e : Ext H H') {v : V} {xs : List α} (h : TupOf R H v xs) : TupOf R H' v xs := by
  obtain ⟨a, vs, e1, h, p⟩ := h
  exact ⟨a, vs, e1, e _ _ h, paired_imp (fun _ _ z => hm e z) p⟩
theorem ok_wp {f : Addr} {fd : FuncData} {k : Nat} (F : Fun K "wrong_part" "wrong_part" s_wrong_part f fd) (care_letters : CAL P w K mg base) (care_pairs : CAP P w K mg base) (cis_span : CSpan P w K mg base) (care_loops : CALo P w K mg base) (care_stacks : CAS P w K mg base) : FnOk P w K mg base CX0 (k + 5) f fd ["letters", "pairs", "span", "loops", "stacks"] spWP := by
  refine F.ok sc_wrong_part (fun vs H Q E h => ?_) (fun cdv A outer s H vs Q E hr h => ?_)
  · obtain ⟨vp, vl, vk, r, rfl, _⟩ := h
    rfl
  · obtain ⟨vp, vl, vk, r, rfl, hp, hl, hk, ok, g, q⟩ := h
    refine ⟨_, (pss_cons (ps_if (pt_not (pt_val (pe_ca care_letters (hr.mono (by omega)) (by rfl) (pa_cons (pv 0) pa_nil)))) (pss_one (ps_ret pe_str)) pss_nil)
      (pss_cons (ps_if (pt_not (pt_val (pe_ca care_pairs (hr.mono (by omega)) (by rfl) (pa_cons (pv 0) (pa_cons (pv 1) pa_nil))))) (pss_one (ps_ret pe_str)) pss_nil)
      (pss_cons (ps_if (pt_not (pt_val (pe_ca cis_span (hr.mono (by omega)) (by rfl) (pa_cons (pv 2) pa_nil)))) (pss_one (ps_ret pe_str)) pss_nil)
      (pss_cons (ps_if (pt_not (pt_val (pe_ca care_loops (hr.mono (by omega)) (by rfl) (pa_cons (pv 3) pa_nil)))) (pss_one (ps_ret pe_str)) pss_nil)
      (pss_cons (ps_if (pt_not (pt_val (pe_ca care_stacks (hr.mono (by omega)) (by rfl) (pa_cons (pv 1) (pa_cons (pv 4) pa_nil))))) (pss_one (ps_ret pe_str)) pss_nil)
      (pss_one (ps_ret pe_non))))))), ?_⟩
    refine ⟨_, rfl, r.letters, rfl, ok.let1, ok.let6, g.1, ok.small, fun H1 k1 => ⟨true, rfl, iteF ?_⟩⟩
    refine ⟨_, rfl, _, rfl, r.letters, vp, r.prs, rfl, tupExt PairAt.ext k1 hp, good_prs ok g, fun H2 k2 => ⟨true, rfl, iteF ?_⟩⟩
    refine ⟨_, rfl, r.span, rfl, ok.sp0, ok.sp3, true, rfl, iteF ?_⟩
    have k12 := k1.trans k2
    refine ⟨_, rfl, vl, r.loops, rfl, tupExt (R := IntAt) (fun _ _ _ z => z) k12 hl, ok.lo9, ok.lo, fun H3 k3 => ⟨true, rfl, iteF ?_⟩⟩
    exact ⟨_, rfl, _, rfl, vp, vk, r.prs, r.stk, rfl, tupExt PairAt.ext (k12.trans k3) hp, ok.prs, tupExt StackAt.ext (k12.trans k3) hk, good_stk ok g, fun H4 k4 => ⟨true, rfl, iteF (q _ ((k12.trans k3).trans k4))⟩⟩
abbrev CWP (P : Program) (w : World) (K : PySem.W.Frag) (mg : Str → Option Value) (base : Heap) : Prop := Ca P w K mg base 5 "wrong_part" ["letters", "pairs", "span", "loops", "stacks"] spWP
abbrev s_is_rules : Stmt := topS 20
theorem sc_is_rules : FnScope ["thing", "letters", "pairs", "span", "loops", "stacks"] ["thing"] (defScope s_is_rules) :=
  ⟨rfl, rfl, rfl, by decide +kernel, rfl, by decide +kernel, by decide +kernel⟩
def spIR : Sp := fun vs H Q _ => ∃ (v : V) (r : Rl), vs = [v] ∧ RulesP H v r ∧ RlOk r ∧ GoodR r ∧ ∀ H', Ext H H' → Q (.bl true) H'
theorem ok_ir {f : Addr} {fd : FuncData} {k : Nat} (F : Fun K "is_rules" "is_rules" s_is_rules f fd) (cis_row : CRow P w K mg base) (cwrong_part : CWP P w K mg base) : FnOk P w K mg base CX0 (k + 6) f fd ["thing"] spIR := by
  refine F.ok sc_is_rules (fun vs H Q E h => ?_) (fun cdv A outer s H vs Q E hr h => ?_)
  · obtain ⟨v, r, rfl, _⟩ := h
    rfl
  · obtain ⟨v, r, rfl, ⟨a, vp, vl, vk, rfl, hA, hp, hl, hk⟩, ok, g, q⟩ := h
    refine ⟨_, (pss_cons (ps_if (pt_not (pt_val (pe_ca cis_row (hr.mono (by omega)) (by rfl) (pa_cons (pv 0) (pa_cons pe_int pa_nil))))) (pss_one (ps_ret pe_bl)) pss_nil)
      (pss_cons (ps_asg (pv 0) (pg_tup rfl (pgs_cons (pg_name (i := 1) sc_is_rules.nd rfl (.inl rfl)) (pgs_cons (pg_name (i := 2) sc_is_rules.nd rfl (.inl rfl)) (pgs_cons (pg_name (i := 3) sc_is_rules.nd rfl (.inl rfl)) (pgs_cons (pg_name (i := 4) sc_is_rules.nd rfl (.inl rfl)) (pgs_cons (pg_name (i := 5) sc_is_rules.nd rfl (.inl rfl)) pgs_nil)))))))
      (pss_one (ps_ret (pe_cmpR op_isN (pe_ca cwrong_part (hr.mono (by omega)) (by rfl) (pa_cons (pv 1) (pa_cons (pv 2) (pa_cons (pv 3) (pa_cons (pv 4) (pa_cons (pv 5) pa_nil)))))) pe_non (nomark _)))))), ?_⟩
    refine ⟨_, rfl, a, _, 5, rfl, hA, rfl, true, rfl, iteF ?_⟩
    refine ⟨_, rfl, a, _, rfl, SqT.of hA, rfl, _, _, rfl, _, _, rfl, _, _, rfl, _, _, rfl, _, _, rfl, rfl, ?_⟩
    exact ⟨_, rfl, _, rfl, _, rfl, _, rfl, _, rfl, vp, vl, vk, r, rfl, hp, hl, hk, ok, g, fun H' k' => ⟨rfl, q _ k'⟩⟩
abbrev CIR (P : Program) (w : World) (K : PySem.W.Frag) (mg : Str → Option Value) (base : Heap) : Prop := Ca P w K mg base 6 "is_rules" ["thing"] spIR
end
end Pf


namespace Pf
open PySem PySem.Spec PyProof.Rows L2
/-! ### letters told otherwise -/
theorem idx_of : ∀ {l : List Nat} {i c : Nat}, l.Nodup → l[i]? = some c → l.idxOf c = i
  | [], _, _, _, h => by cases h
  | a :: r, 0, c, _, h => by
    have h : a = c := Option.some.inj h
    rw [h, List.idxOf_cons_self]
  | a :: r, i + 1, c, nd, h => by
    have h : r[i]? = some c := h
    have ha : a ≠ c := fun e => (List.nodup_cons.mp nd).1 (e ▸ List.mem_of_getElem? h)
    rw [List.idxOf_cons, beq_eq_false_iff_ne.mpr ha]
    show r.idxOf c + 1 = i + 1
    rw [idx_of (List.nodup_cons.mp nd).2 h]
def rho (L N : Str) (c : Nat) : Nat := N.cps.toList.getD (L.cps.toList.idxOf c) 0
def told (L N x : Str) : Str := ⟨(x.cps.toList.map (rho L N)).toArray⟩
structure Tell (L N : Str) : Prop where
  l : RiseS L
  n : RiseS N
  e : N.cps.toList.length = L.cps.toList.length
theorem rise_nd {x : Str} (h : RiseS x) : x.cps.toList.Nodup := h.imp fun {a b} z => Nat.ne_of_lt z
theorem rho_at {L N : Str} (t : Tell L N) {i c : Nat} (h : L.cps.toList[i]? = some c) : N.cps.toList[i]? = some (rho L N c) := by
  have hi : i < N.cps.toList.length := by
    rw [t.e]
    exact (List.getElem?_eq_some_iff.mp h).1
  unfold rho
  rw [idx_of (rise_nd t.l) h, List.getD_eq_getElem?_getD, List.getElem?_eq_getElem hi]
  rfl
theorem rho_mem {L N : Str} (t : Tell L N) {c : Nat} (h : c ∈ L.cps.toList) : rho L N c ∈ N.cps.toList := by
  obtain ⟨i, hi⟩ := List.mem_iff_getElem?.mp h
  exact List.mem_of_getElem? (rho_at t hi)
theorem rho_inj {L N : Str} (t : Tell L N) {c d : Nat} (hc : c ∈ L.cps.toList) (hd : d ∈ L.cps.toList) (e : rho L N c = rho L N d) : c = d := by
  obtain ⟨i, hi⟩ := List.mem_iff_getElem?.mp hc
  obtain ⟨j, hj⟩ := List.mem_iff_getElem?.mp hd
  have h1 := idx_of (rise_nd t.n) (rho_at t hi)
  have h2 := idx_of (rise_nd t.n) (rho_at t hj)
  rw [e, h2] at h1
  subst h1
  rw [hi] at hj
  exact Option.some.inj hj
theorem rho_list {L N : Str} (t : Tell L N) : N.cps.toList = L.cps.toList.map (rho L N) := by
  refine List.ext_getElem? fun i => ?_
  rw [List.getElem?_map]
  cases h : L.cps.toList[i]? with
  | none =>
    rw [List.getElem?_eq_none_iff] at h
    rw [List.getElem?_eq_none_iff.mpr (by rw [t.e]; exact h)]
    rfl
  | some c => exact rho_at t h
theorem told_list (L N x : Str) : (told L N x).cps.toList = x.cps.toList.map (rho L N) := by
  unfold told
  rw [List.toList_toArray]
theorem told_len (L N x : Str) : (told L N x).length = x.length := by
  show (x.cps.toList.map (rho L N)).toArray.size = x.cps.size
  rw [List.size_toArray, List.length_map, Array.length_toList]
theorem told_two (L N : Str) (a b : Nat) : told L N (⟨#[a]⟩ ++ ⟨#[b]⟩) = ⟨#[rho L N a]⟩ ++ ⟨#[rho L N b]⟩ := rfl
theorem told_of {L N x : Str} (t : Tell L N) (h : Of L x) : Of N (told L N x) := fun c hc => by
  rw [told_list] at hc
  obtain ⟨d, hd, rfl⟩ := List.mem_map.mp hc
  exact rho_mem t (h d hd)
theorem map_inj_on {f : Nat → Nat} {S : Nat → Prop} (hf : ∀ a b, S a → S b → f a = f b → a = b) : ∀ {l m : List Nat}, (∀ a ∈ l, S a) → (∀ a ∈ m, S a) → l.map f = m.map f → l = m
  | [], [], _, _, _ => rfl
  | [], _ :: _, _, _, h => by cases h
  | _ :: _, [], _, _, h => by cases h
  | a :: l, b :: m, hl, hm, h => by
    rw [List.map_cons, List.map_cons] at h
    injection h with h1 h2
    rw [hf a b (hl a (List.mem_cons_self ..)) (hm b (List.mem_cons_self ..)) h1, map_inj_on hf (fun x hx => hl x (List.mem_cons_of_mem _ hx)) (fun x hx => hm x (List.mem_cons_of_mem _ hx)) h2]
theorem told_inj {L N x y : Str} (t : Tell L N) (hx : Of L x) (hy : Of L y) (e : told L N x = told L N y) : x = y := by
  have e2 : (told L N x).cps.toList = (told L N y).cps.toList := by rw [e]
  rw [told_list, told_list] at e2
  exact PySem.W.str_of_cps (map_inj_on (S := fun c => c ∈ L.cps.toList) (fun a b ha hb h => rho_inj t ha hb h) hx hy e2)
theorem told_row {L N : Str} (t : Tell L N) (a : Nat) : rowP N (rho L N a) = (rowP L a).map (told L N) := by
  unfold rowP
  rw [rho_list t, List.map_map, List.map_map]
  rfl
theorem flatMap_cg {α β : Type} {f g : α → List β} : ∀ {l : List α}, (∀ a ∈ l, f a = g a) → l.flatMap f = l.flatMap g
  | [], _ => rfl
  | a :: l, h => by rw [List.flatMap_cons, List.flatMap_cons, h a (List.mem_cons_self ..), flatMap_cg fun b hb => h b (List.mem_cons_of_mem _ hb)]
theorem told_prod {L N : Str} (t : Tell L N) (i : Nat) : prodU N i = (prodU L i).map (told L N) := by
  unfold prodU
  rw [rho_list t, ← List.map_take, List.flatMap_map, List.map_flatMap]
  refine flatMap_cg fun a _ => ?_
  exact told_row t a
theorem map_prodK (f : Str → Str) (ts : List Str) (n : Nat) : prodK (ts.map f) n = (prodK ts n).map fun k => (f k.1, f k.2) := by
  unfold prodK
  rw [← List.map_take, List.flatMap_map, List.map_flatMap]
  refine flatMap_cg fun a _ => ?_
  unfold rowK
  rw [List.map_map, List.map_map]
  rfl
def rnP (L N : Str) (z : Str × Int) : Str × Int := (told L N z.1, z.2)
def rnS (L N : Str) (z : Str × Str × Int) : Str × Str × Int := (told L N z.1, told L N z.2.1, z.2.2)
def rn (N : Str) (r : Rl) : Rl := ⟨N, r.prs.map (rnP r.letters N), r.span, r.loops, r.stk.map (rnS r.letters N)⟩
theorem rn_good {N : Str} {r : Rl} (t : Tell r.letters N) (g : GoodR r) : GoodR (rn N r) := by
  have e1 : (rn N r).prs.map (·.1) = (r.prs.map (·.1)).map (told r.letters N) := by
    show (r.prs.map (rnP r.letters N)).map (·.1) = _
    rw [List.map_map, List.map_map]
    rfl
  have e2 : (rn N r).stk.map keyS = (r.stk.map keyS).map fun k => (told r.letters N k.1, told r.letters N k.2) := by
    show (r.stk.map (rnS r.letters N)).map keyS = _
    rw [List.map_map, List.map_map]
    rfl
  refine ⟨t.n, ?_, ?_⟩
  · rw [e1]
    show List.Sublist _ (prodU N N.length)
    have hl : N.length = r.letters.length := by
      have := t.e
      rwa [Array.length_toList, Array.length_toList] at this
    rw [told_prod t, hl]
    exact g.2.1.map _
  · rw [e1, e2, map_prodK]
    show List.Sublist _ ((prodK _ ((r.prs.map (rnP r.letters N)).length)).map _)
    rw [List.length_map]
    exact g.2.2.map _
theorem rn_ok {N : Str} {r : Rl} (t : Tell r.letters N) (sN : Small N) (ok : RlOk r) (g : GoodR r) : RlOk (rn N r) := by
  have hl : N.length = r.letters.length := by
    have := t.e
    rwa [Array.length_toList, Array.length_toList] at this
  have hof := GoodR.ofP g
  have hk : ∀ x ∈ r.stk, Of r.letters x.1 ∧ Of r.letters x.2.1 := fun x hx => by
    have h := (good_stk ok g).2.2 x hx
    obtain ⟨y, hy, e⟩ := List.mem_map.mp h.1
    obtain ⟨z, hz, e2⟩ := List.mem_map.mp h.2.1
    rw [← e, ← e2]
    exact ⟨hof y hy, hof z hz⟩
  refine rl_ok (by rw [hl]; exact ok.let6) (by rw [hl]; exact ok.let1) sN t.n ⟨by rw [List.length_map]; exact ok.prs, fun x hx => ?_⟩ (rn_good t g).2.1 ok.sp0 ok.sp3 ok.lo9 ok.lo ⟨by rw [List.length_map]; exact ok.stk, fun x hx => ?_⟩ (rn_good t g).2.2
  · obtain ⟨y, hy, rfl⟩ := List.mem_map.mp hx
    exact ⟨by show (told _ _ _).length = 2; rw [told_len]; exact (ok.pr y hy).1.1, (told_of t (hof y hy)).small sN, (ok.pr y hy).2⟩
  · obtain ⟨y, hy, rfl⟩ := List.mem_map.mp hx
    exact ⟨⟨by show (told _ _ _).length = 2; rw [told_len]; exact (ok.st y hy).1.1, (told_of t (hk y hy).1).small sN⟩, ⟨by show (told _ _ _).length = 2; rw [told_len]; exact (ok.st y hy).2.1.1, (told_of t (hk y hy).2).small sN⟩, (ok.st y hy).2.2⟩
theorem told_eq {L N x y : Str} (t : Tell L N) (hx : Of L x) (hy : Of L y) : (told L N x = told L N y) = (x = y) := propext ⟨told_inj t hx hy, fun e => by rw [e]⟩
theorem pw_told {L N b : Str} (t : Tell L N) (hb : Of L b) : ∀ {prs : List (Str × Int)}, (∀ z ∈ prs, Of L z.1) → pwV (prs.map (rnP L N)) (told L N b) = pwV prs b
  | [], _ => rfl
  | (x, v) :: r, h => by
    show (if told L N x = told L N b then V.int v else pwV (r.map (rnP L N)) (told L N b)) = if x = b then V.int v else pwV r b
    rw [pw_told t hb (prs := r) fun z hz => h z (List.mem_cons_of_mem _ hz)]
    simp only [told_eq t (h (x, v) (List.mem_cons_self ..)) hb]
theorem sw_told {L N a b : Str} (t : Tell L N) (ha : Of L a) (hb : Of L b) : ∀ {stk : List (Str × Str × Int)}, (∀ z ∈ stk, Of L z.1 ∧ Of L z.2.1) → swI (stk.map (rnS L N)) (told L N a) (told L N b) = swI stk a b
  | [], _ => rfl
  | (x, y, v) :: r, h => by
    show (if told L N x = told L N a ∧ told L N y = told L N b then v else swI (r.map (rnS L N)) (told L N a) (told L N b)) = if x = a ∧ y = b then v else swI r a b
    rw [sw_told t ha hb (stk := r) fun z hz => h z (List.mem_cons_of_mem _ hz)]
    have hh := h (x, y, v) (List.mem_cons_self ..)
    simp only [told_eq t hh.1 ha, told_eq t hh.2 hb]
theorem getD_map {f : Nat → Nat} : ∀ {l : List Nat} {i : Nat}, i < l.length → (l.map f).getD i 0 = f (l.getD i 0)
  | _ :: _, 0, _ => rfl
  | a :: l, i + 1, h => by
    show (l.map f).getD i 0 = f (l.getD i 0)
    exact getD_map (Nat.lt_of_succ_lt_succ h)
theorem at_in {x : Str} {i : Int} (h0 : 0 ≤ i) (h1 : i < x.length) : i.toNat < x.cps.toList.length := by
  have : x.cps.toList.length = x.length := Array.length_toList
  omega
theorem sgn_mem {x : Str} {i : Int} (h0 : 0 ≤ i) (h1 : i < x.length) : x.cps.toList.getD i.toNat 0 ∈ x.cps.toList := by
  rw [List.getD_eq_getElem?_getD, List.getElem?_eq_getElem (at_in h0 h1)]
  exact List.getElem_mem (at_in h0 h1)
theorem tx2_of {L x : Str} {i j : Int} (h : Of L x) (i0 : 0 ≤ i) (i1 : i < x.length) (j0 : 0 ≤ j) (j1 : j < x.length) : Of L (tx2 x (i, j)) := fun c hc => by
  have hc : c ∈ [x.cps.toList.getD i.toNat 0, x.cps.toList.getD j.toNat 0] := hc
  simp only [List.mem_cons, List.not_mem_nil, or_false] at hc
  rcases hc with rfl | rfl
  · exact h _ (sgn_mem i0 i1)
  · exact h _ (sgn_mem j0 j1)
theorem tx2_told {L N x : Str} {i j : Int} (i0 : 0 ≤ i) (i1 : i < x.length) (j0 : 0 ≤ j) (j1 : j < x.length) : tx2 (told L N x) (i, j) = told L N (tx2 x (i, j)) := by
  unfold tx2 sgn
  rw [told_list, getD_map (at_in i0 i1), getD_map (at_in j0 j1)]
  rfl
theorem may_told {N x : Str} {r : Rl} {i j : Int} (t : Tell r.letters N) (hp : OfP r) (hx : Of r.letters x) (i0 : 0 ≤ i) (i1 : i < x.length) (j0 : 0 ≤ j) (j1 : j < x.length) : mayC (rn N r) (told r.letters N x) i j = mayC r x i j := by
  unfold mayC
  show (decide (r.span < j - i) && _) = _
  rw [tx2_told i0 i1 j0 j1]
  congr 1
  refine decide_eq_decide.mpr ⟨fun h => ?_, fun h => ?_⟩
  · obtain ⟨y, hy, e⟩ := List.mem_map.mp h
    obtain ⟨z, hz, rfl⟩ := List.mem_map.mp hy
    rw [← told_inj t (hp z hz) (tx2_of hx i0 i1 j0 j1) e]
    exact List.mem_map.mpr ⟨z, hz, rfl⟩
  · obtain ⟨z, hz, e⟩ := List.mem_map.mp h
    exact List.mem_map.mpr ⟨_, List.mem_map.mpr ⟨z, hz, rfl⟩, by rw [← e]; rfl⟩
/-! ### places -/
def plcJ (r : Rl) (x : Str) (i : Int) (j : Nat) : List (Int × Int) := ((List.range j).map fun t : Nat => (i, i + 1 + (t : Int))).filter fun p => mayC r x p.1 p.2
def plcI (r : Rl) (x : Str) (i : Int) : List (Int × Int) := plcJ r x i ((x.length : Int) - (i + 1)).toNat
def plcN (r : Rl) (x : Str) (n : Nat) : List (Int × Int) := (List.range n).flatMap fun i : Nat => plcI r x (0 + (i : Int))
def plc (r : Rl) (x : Str) : List (Int × Int) := plcN r x x.length
theorem plcJ_succ (r : Rl) (x : Str) (i : Int) (j : Nat) : plcJ r x i (j + 1) = plcJ r x i j ++ if mayC r x i (i + 1 + (j : Int)) = true then [(i, i + 1 + (j : Int))] else [] := by
  unfold plcJ
  rw [List.range_succ, List.map_append, List.filter_append, List.map_cons, List.map_nil, List.filter_cons, List.filter_nil]
theorem plcN_succ (r : Rl) (x : Str) (n : Nat) : plcN r x (n + 1) = plcN r x n ++ plcI r x (0 + (n : Int)) := by
  unfold plcN
  rw [List.range_succ, List.flatMap_append]
  congr 1
  simp
theorem plcJ_len (r : Rl) (x : Str) (i : Int) (j : Nat) : (plcJ r x i j).length ≤ j := by
  unfold plcJ
  refine Nat.le_trans (List.length_filter_le ..) ?_
  rw [List.length_map, List.length_range]
  exact Nat.le_refl _
theorem plcN_len (r : Rl) (x : Str) : ∀ n, (plcN r x n).length ≤ n * x.length
  | 0 => Nat.zero_le _
  | n + 1 => by
    have h1 := plcN_len r x n
    have h2 : (plcI r x (0 + (n : Int))).length ≤ _ := plcJ_len r x (0 + (n : Int)) _
    rw [plcN_succ, List.length_append, Nat.succ_mul]
    omega
theorem mem_plc {r : Rl} {x : Str} {p : Int × Int} : p ∈ plc r x ↔ (0 ≤ p.1 ∧ p.1 < p.2 ∧ p.2 < x.length) ∧ mayC r x p.1 p.2 = true := by
  unfold plc plcN plcI plcJ
  rw [List.mem_flatMap]
  constructor
  · rintro ⟨i, hi, h⟩
    obtain ⟨h1, h2⟩ := List.mem_filter.mp h
    obtain ⟨t, ht, rfl⟩ := List.mem_map.mp h1
    have hi := List.mem_range.mp hi
    have ht := List.mem_range.mp ht
    exact ⟨⟨by show (0 : Int) ≤ 0 + (i : Int); omega, by show 0 + (i : Int) < 0 + (i : Int) + 1 + (t : Int); omega, by show 0 + (i : Int) + 1 + (t : Int) < _; omega⟩, h2⟩
  · rintro ⟨⟨h0, h1, h2⟩, h⟩
    have e : (0 : Int) + (p.1.toNat : Int) = p.1 := by omega
    refine ⟨p.1.toNat, List.mem_range.mpr (by omega), ?_⟩
    rw [e]
    refine List.mem_filter.mpr ⟨List.mem_map.mpr ⟨(p.2 - (p.1 + 1)).toNat, List.mem_range.mpr (by omega), ?_⟩, h⟩
    exact Prod.ext rfl (by show p.1 + 1 + _ = p.2; omega)
def lt2 (p q : Int × Int) : Prop := p.1 < q.1 ∨ (p.1 = q.1 ∧ p.2 < q.2)
theorem plc_pw (r : Rl) (x : Str) : (plc r x).Pairwise lt2 := by
  unfold plc plcN
  refine List.pairwise_flatMap.mpr ⟨fun i _ => ?_, List.pairwise_lt_range.imp fun {a b} h p hp q hq => ?_⟩
  · unfold plcI plcJ
    refine List.Pairwise.filter _ (List.pairwise_map.mpr (List.pairwise_lt_range.imp fun {a b} h => .inr ⟨rfl, ?_⟩))
    show 0 + (i : Int) + 1 + (a : Int) < 0 + (i : Int) + 1 + (b : Int)
    omega
  · unfold plcI plcJ at hp hq
    obtain ⟨t, _, rfl⟩ := List.mem_map.mp (List.mem_filter.mp hp).1
    obtain ⟨u, _, rfl⟩ := List.mem_map.mp (List.mem_filter.mp hq).1
    refine .inl ?_
    show 0 + (a : Int) < 0 + (b : Int)
    omega
theorem lt2_ext {l m : List (Int × Int)} (hl : l.Pairwise lt2) (hm : m.Pairwise lt2) (h : ∀ p, p ∈ l ↔ p ∈ m) : l = m := by
  have nd : ∀ {l : List (Int × Int)}, l.Pairwise lt2 → l.Nodup := fun h => h.imp fun {a b} z e => by
    subst e
    unfold lt2 at z
    omega
  refine List.Perm.eq_of_pairwise (le := lt2) (fun a b _ _ h1 h2 => ?_) hl hm ((List.perm_ext_iff_of_nodup (nd hl) (nd hm)).mpr h)
  unfold lt2 at h1 h2
  omega
theorem plc_told {N x : Str} {r : Rl} (t : Tell r.letters N) (hp : OfP r) (hx : Of r.letters x) : plc (rn N r) (told r.letters N x) = plc r x := by
  refine lt2_ext (plc_pw _ _) (plc_pw _ _) fun p => ?_
  rw [mem_plc, mem_plc, told_len]
  refine and_congr_right fun h => ?_
  rw [may_told t hp hx h.1 (by omega) (by omega) h.2.2]
theorem sjoin_list : ∀ ys : List Str, (Str.join "" ys).cps.toList = ys.flatMap fun y => y.cps.toList
  | [] => by decide +kernel
  | [y] => by
    show y.cps.toList = y.cps.toList ++ []
    rw [List.append_nil]
  | y :: z :: r => by
    have e : ("" : Str).cps.toList = [] := by decide +kernel
    show (y ++ "" ++ Str.join "" (z :: r)).cps.toList = _
    rw [app_list, app_list, e, List.append_nil, sjoin_list (z :: r)]
    rfl
theorem join_one (f : Nat → Nat) (cs : List Nat) : Txt.join "" (cs.map fun c => (⟨#[f c]⟩ : Str)) = ⟨(cs.map f).toArray⟩ := by
  rw [join_str]
  refine PySem.W.str_of_cps ?_
  rw [sjoin_list, List.flatMap_map]
  show (cs.flatMap fun c => [f c]) = cs.map f
  induction cs with
  | nil => rfl
  | cons a r ih => rw [List.flatMap_cons, ih, List.map_cons]; rfl
end Pf


namespace Pf
open PySem PySem.Spec PyProof.Rows L2
def dTwo (x : Int × Int) : PyData := .tuple [.int x.1, .int x.2]
theorem dpTwos {K : PySem.W.Frag} {H : Hp} : ∀ {vs : List V} {ps : List (Int × Int)}, Paired (TwoAt H) vs ps → DpAll K H vs (ps.map dTwo)
  | _, _, .nil => .nil
  | _, _, .cons ⟨_, e, h⟩ t => .cons (e ▸ .tup (SqT.of h) (.cons (.int _) (.cons (.int _) .nil))) (dpTwos t)
theorem dep_twos : ∀ L : List (Int × Int), PyData.depthAll (L.map dTwo) ≤ 2
  | [] => by simp [PyData.depthAll]
  | y :: L => by
    have := dep_twos L
    rw [List.map_cons]
    simp [PyData.depthAll, PyData.depth, dTwo]
    omega
theorem lay_twos : ∀ L : List (Int × Int), PyData.canLayAll0 (L.map dTwo) = true
  | [] => by simp [PyData.canLayAll0]
  | y :: L => by
    rw [List.map_cons]
    simp [PyData.canLayAll0, PyData.canLay0, dTwo, lay_twos L]
theorem lay_ltwos (L : List (Int × Int)) : PyData.canLay0 (.list (L.map dTwo)) = true := by
  rw [PyData.canLay0]
  exact lay_twos L
theorem shaped_twos (L : List (Int × Int)) : SeqAt.shaped (.list (L.map dTwo)) = true := by
  show (PyData.canLay0 (.list (L.map dTwo)) && decide (PyData.depth (.list (L.map dTwo)) ≤ 64)) = true
  have h2 : PyData.depth (.list (L.map dTwo)) ≤ 64 := by
    rw [PyData.depth]
    have := dep_twos L
    omega
  rw [lay_ltwos, decide_eq_true h2]
  rfl
theorem eq_twos {K : PySem.W.Frag} {H : Hp} {a b : Addr} {vs ws : List V} {ps : List (Int × Int)} {Q : VK} (ha : H a = some (.lst vs)) (hb : H b = some (.lst ws)) (p1 : Paired (TwoAt H) vs ps) (p2 : Paired (TwoAt H) ws ps) (q : Q (.bl true) H) : rEqD K (.ref a) (.ref b) H Q := by
  refine ⟨_, _, .lst (SqL.of ha) (dpTwos p1), .lst (SqL.of hb) (dpTwos p2), shaped_twos _, shaped_twos _, ?_⟩
  rw [SeqAt.eqv_refl _ (lay_ltwos ps)]
  exact q
theorem ne_twos {K : PySem.W.Frag} {H : Hp} {a b : Addr} {vs ws : List V} {ps : List (Int × Int)} {Q : VK} (ha : H a = some (.lst vs)) (hb : H b = some (.lst ws)) (p1 : Paired (TwoAt H) vs ps) (p2 : Paired (TwoAt H) ws ps) (q : Q (.bl false) H) : rNeD K (.ref a) (.ref b) H Q := by
  refine ⟨_, _, .lst (SqL.of ha) (dpTwos p1), .lst (SqL.of hb) (dpTwos p2), shaped_twos _, shaped_twos _, ?_⟩
  rw [SeqAt.eqv_refl _ (lay_ltwos ps)]
  exact q
theorem atI_of {l : List Nat} {i c : Nat} (h : l[i]? = some c) : atI l (i : Int) = some c := by
  have hi := (List.getElem?_eq_some_iff.mp h).1
  rw [atI_get (by omega) (by omega), ← h, List.getElem?_eq_getElem hi]
  rfl
theorem tup_put {H H5 : Hp} {D b : Addr} {vs o : List V} {x : HO} (hD : H D = some (.lst vs)) (k : Ext H H5) (hb : H b = some (.tup o)) : (upd H5 D x) b = some (.tup o) := by
  have : b ≠ D := fun e => by
    rw [e, hD] at hb
    cases hb
  rw [upd_ne this]
  exact k _ _ hb
section
variable {P : Program} {w : World} {K : PySem.W.Frag} {mg : Str → Option Value} {base : Heap}
abbrev s_law_told : Stmt := topS 37
theorem sc_law_told : FnScope ["_law_text", "_law_old", "_law_new", "_law_letter"] ["_law_text", "_law_old", "_law_new"] (defScope s_law_told) :=
  ⟨rfl, rfl, rfl, by decide +kernel, rfl, by decide +kernel, by decide +kernel⟩
def spTold : Sp := fun vs H Q _ => ∃ x L N : Str, vs = [.str x, .str L, .str N] ∧ Tell L N ∧ Of L x ∧ x.length ≤ 20 ∧ L.length ≤ 6 ∧ ∀ H', Ext H H' → Q (.str (told L N x)) H'
theorem ok_told {f : Addr} {fd : FuncData} {k : Nat} (F : Fun K "_law_told" "_law_told" s_law_told f fd) : FnOk P w K mg base CX0 (k + 1) f fd ["_law_text", "_law_old", "_law_new"] spTold := by
  refine F.ok sc_law_told (fun vs H Q E h => ?_) (fun cdv A outer s H vs Q E hr h => ?_)
  · obtain ⟨x, L, N, rfl, _⟩ := h
    rfl
  · obtain ⟨x, L, N, rfl, t, hof, hx, hL6, q⟩ := h
    have hN : N.length = L.length := by
      have := t.e
      rwa [Array.length_toList, Array.length_toList] at this
    refine ⟨_, (pss_one (ps_ret (pe_join pe_str (pe_lc (own := [("_law_letter", 3)]) (g := gName 3) (by rfl) sc_law_told.nd (pi_str (pv 0)) (blkOk_by (own := [("_law_letter", 3)]) (N := ["_law_text", "_law_old", "_law_new", "_law_letter"]) (sc := defScope s_law_told) (by decide +kernel)) (fun _ _ _ _ _ => (pg_name (i := 3) sc_law_told.nd rfl (.inl rfl))) (fun _ _ _ _ _ => pts_nil) (fun _ _ _ _ _ => (pe_ix ix_str (pv 2) (pe_m1 PySem.F.slot_str_index PySem.F.type_str_index mt_sindex (pv 1) (pv 3)) (fun _ _ => rfl))))))), ?_⟩
    refine ⟨⟨_, rfl⟩, _, rfl, _, rfl, fun D hD => lc_str (fun i H2 => H2 D = some (.lst (((x.cps.toList.take i).map fun c => (⟨#[rho L N c]⟩ : Str)).map V.str)) ∧ Ext H H2) ⟨upd_same, Ext.new hD⟩ (fun i ch H2 hi hv => ?_) (fun H2 hv => ?_)⟩
    · obtain ⟨hL, k2⟩ := hv
      have hi12 : i < x.length := (Array.getElem?_eq_some_iff.mp hi).1
      obtain ⟨j, rest, ho, hj⟩ := occ_at (hof ch (Array.mem_toList_iff.mpr (Array.mem_of_getElem? hi)))
      refine ⟨rfl, _, rfl, _, rfl, ⟨_, rfl⟩, _, rfl, L, _, j, rest, rfl, rfl, ho, N, (j : Int), rho L N ch, rfl, rfl, szL (by omega), atI_of (rho_at t hj), _, hL, szLt ?_, ?_, k2.put hD⟩
      · rw [List.length_map, List.length_map, List.length_take]
        omega
      · rw [upd_same, List.take_add_one, at_list hi, List.map_append, List.map_append]
        rfl
    · obtain ⟨hL, k2⟩ := hv
      have hsz : x.cps.toList.length ≤ x.cps.size := Nat.le_of_eq Array.length_toList
      have hx' : x.cps.size ≤ 20 := hx
      rw [List.take_of_length_le hsz] at hL
      refine ⟨"", D, _, rfl, rfl, .inl (SqL.of hL), fits_join (k := 20) (m := 1) (by rw [List.length_map]; omega) (fun y hy => ?_) (by decide), ?_⟩
      · obtain ⟨c, _, rfl⟩ := List.mem_map.mp hy
        exact Nat.le_refl 1
      · rw [join_one]
        exact q _ k2
abbrev CTold (P : Program) (w : World) (K : PySem.W.Frag) (mg : Str → Option Value) (base : Heap) : Prop := Ca P w K mg base 1 "_law_told" ["_law_text", "_law_old", "_law_new"] spTold
abbrev s_law_renamed : Stmt := topS 38
theorem sc_law_renamed : FnScope ["_law_some", "_law_new", "_law_old", "_law_pairs_here", "_law_stacks_here", "_law_both", "_law_worth_here", "_law_one", "_law_two"] ["_law_some", "_law_new"] (defScope s_law_renamed) :=
  ⟨rfl, rfl, rfl, by decide +kernel, rfl, by decide +kernel, by decide +kernel⟩
def spRenamed : Sp := fun vs H Q _ => ∃ (v : V) (r : Rl) (N : Str), vs = [v, .str N] ∧ RulesW H v r ∧ RlOk r ∧ GoodR r ∧ Tell r.letters N ∧ ∀ v' H', RulesP H' v' (rn N r) → Ext H H' → Q v' H'
theorem good_of {r : Rl} (ok : RlOk r) (g : GoodR r) : ∀ z ∈ r.stk, Of r.letters z.1 ∧ Of r.letters z.2.1 := fun x hx => by
  have hof := GoodR.ofP g
  have h := (good_stk ok g).2.2 x hx
  obtain ⟨y, hy, e⟩ := List.mem_map.mp h.1
  obtain ⟨z, hz, e2⟩ := List.mem_map.mp h.2.1
  rw [← e, ← e2]
  exact ⟨hof y hy, hof z hz⟩
theorem ok_renamed {f : Addr} {fd : FuncData} {k : Nat} (F : Fun K "_law_renamed" "_law_renamed" s_law_renamed f fd) (c_law_told : CTold P w K mg base) (mtuple : mg "tuple" = none) : FnOk P w K mg base CX0 (k + 2) f fd ["_law_some", "_law_new"] spRenamed := by
  refine F.ok sc_law_renamed (fun vs H Q E h => ?_) (fun cdv A outer s H vs Q E hr h => ?_)
  · obtain ⟨v, r, N, rfl, _⟩ := h
    rfl
  · obtain ⟨v, r, N, rfl, ⟨a, vp, vl, vk, rfl, hA, ⟨ap, pus, rfl, hP, hRp⟩, hl, ⟨as, sus, rfl, hS, hRs⟩⟩, ok, g, t, q⟩ := h
    have hof := GoodR.ofP g
    have hos := good_of ok g
    have hpl := paired_len hRp
    have hsl := paired_len hRs
    have hok1 := ok.prs
    have hok2 := ok.stk
    have hok3 := ok.let6
    have hpe : ∀ {H' : Hp}, Ext H H' → ((∃ o, H' ap = some (.frz o (.tup pus))) ∨ H' ap = some (.tup pus)) := fun k => hP.elim (fun ⟨o, h⟩ => .inl ⟨o, k _ _ h⟩) (fun h => .inr (k _ _ h))
    refine ⟨_, (pss_cons (ps_set (i := 2) sc_law_renamed.nd rfl (.inr rfl) (pe_ix (ixT K) (pv 0) pe_int (fun _ _ => rfl)))
      (pss_cons (ps_set (i := 3) sc_law_renamed.nd rfl (.inl rfl) (pe_callTy (tupleOf K) (by rfl) mtuple (by decide +kernel) (pa_cons (pe_lc (own := [("_law_both", 5), ("_law_worth_here", 6)]) (g := gTup K 2 (gCons (gName 5) (gCons (gName 6) gNil))) (by rfl) sc_law_renamed.nd (pi_tup (pe_ix (ixT K) (pv 0) pe_int (fun _ _ => rfl))) (blkOk_by (own := [("_law_both", 5), ("_law_worth_here", 6)]) (N := ["_law_some", "_law_new", "_law_old", "_law_pairs_here", "_law_stacks_here", "_law_both", "_law_worth_here", "_law_one", "_law_two"]) (sc := defScope s_law_renamed) (by decide +kernel)) (fun _ _ _ _ _ => (pgT K rfl (pgs_cons (pg_name (i := 5) sc_law_renamed.nd rfl (.inl rfl)) (pgs_cons (pg_name (i := 6) sc_law_renamed.nd rfl (.inl rfl)) pgs_nil)))) (fun _ _ _ _ _ => pts_nil) (fun _ _ _ _ _ => (pe_tup (pa_cons (pe_ca c_law_told (hr.mono (by omega)) (by rfl) (pa_cons (pv 5) (pa_cons (pv 2) (pa_cons (pv 1) pa_nil)))) (pa_cons (pv 6) pa_nil))))) pa_nil)))
      (pss_cons (ps_set (i := 4) sc_law_renamed.nd rfl (.inl rfl) (pe_callTy (tupleOf K) (by rfl) mtuple (by decide +kernel) (pa_cons (pe_lc (own := [("_law_one", 7), ("_law_two", 8), ("_law_worth_here", 6)]) (g := gTup K 3 (gCons (gName 7) (gCons (gName 8) (gCons (gName 6) gNil)))) (by rfl) sc_law_renamed.nd (pi_tup (pe_ix (ixT K) (pv 0) pe_int (fun _ _ => rfl))) (blkOk_by (own := [("_law_one", 7), ("_law_two", 8), ("_law_worth_here", 6)]) (N := ["_law_some", "_law_new", "_law_old", "_law_pairs_here", "_law_stacks_here", "_law_both", "_law_worth_here", "_law_one", "_law_two"]) (sc := defScope s_law_renamed) (by decide +kernel)) (fun _ _ _ _ _ => (pgT K rfl (pgs_cons (pg_name (i := 7) sc_law_renamed.nd rfl (.inl rfl)) (pgs_cons (pg_name (i := 8) sc_law_renamed.nd rfl (.inl rfl)) (pgs_cons (pg_name (i := 6) sc_law_renamed.nd rfl (.inl rfl)) pgs_nil))))) (fun _ _ _ _ _ => pts_nil) (fun _ _ _ _ _ => (pe_tup (pa_cons (pe_ca c_law_told (hr.mono (by omega)) (by rfl) (pa_cons (pv 7) (pa_cons (pv 2) (pa_cons (pv 1) pa_nil)))) (pa_cons (pe_ca c_law_told (hr.mono (by omega)) (by rfl) (pa_cons (pv 8) (pa_cons (pv 2) (pa_cons (pv 1) pa_nil)))) (pa_cons (pv 6) pa_nil)))))) pa_nil)))
      (pss_one (ps_ret (pe_tup (pa_cons (pv 1) (pa_cons (pv 3) (pa_cons (pe_ix (ixT K) (pv 0) pe_int (fun _ _ => rfl)) (pa_cons (pe_ix (ixT K) (pv 0) pe_int (fun _ _ => rfl)) (pa_cons (pv 4) pa_nil))))))))))), ?_⟩
    refine ⟨_, rfl, a, _, 0, _, rfl, rfl, SqT.of hA, rfl, ?_⟩
    refine ⟨_, rfl, a, _, 1, _, rfl, rfl, SqT.of hA, rfl, ap, rfl, ⟨_, SqT.w hP⟩, fun D hD => lc_tup (K := K) (xs := pus) (fun i H2 => ∃ vs, H2 D = some (.lst vs) ∧ Paired (PairAt H2) vs ((r.prs.take i).map (rnP r.letters N)) ∧ Ext H H2) ⟨[], upd_same, .nil, Ext.new hD⟩ (fun i H2 _ ⟨_, _, _, k2⟩ => SqT.w (hpe k2)) (fun i u H2 hi hv => ?_) (fun H2 hv => ?_)⟩
    · obtain ⟨vs, hL, hPr, k2⟩ := hv
      have hi12 : i < pus.length := (List.getElem?_eq_some_iff.mp hi).1
      have hvl := paired_len hPr
      rw [List.length_map, List.length_take] at hvl
      obtain ⟨⟨x, z⟩, hx, a1, rfl, ha1⟩ := paired_get hRp hi
      have hmem := List.mem_of_getElem? hx
      have hx2 : x.length = 2 := (ok.pr _ hmem).1.1
      refine ⟨a1, _, rfl, SqT.of (k2 _ _ ha1), rfl, _, _, rfl, _, _, rfl, rfl, ?_⟩
      refine ⟨rfl, _, rfl, _, rfl, _, rfl, x, r.letters, N, rfl, t, hof _ hmem, by omega, ok.let6, fun H5 k5 => ⟨_, rfl, szL (show 2 ≤ 1000000 by decide), fun p hp => ?_⟩⟩
      have hL5 := k5 _ _ hL
      have nD : D ≠ p := ne_of_none hL5 hp
      have k6 : Ext H2 (upd H5 p (.tup [.str (told r.letters N x), .int z])) := k5.trans (Ext.new hp)
      refine ⟨vs, k6 _ _ hL, szLt (by omega), vs ++ [.ref p], upd_same, ?_, (k2.trans k6).put hD⟩
      rw [List.take_add_one, hx, List.map_append]
      refine (paired_imp (fun v y hy => ?_) hPr).snoc ⟨p, rfl, ?_⟩
      · obtain ⟨b, e, hb⟩ := hy
        exact ⟨b, e, tup_put hL k6 hb⟩
      · rw [upd_ne nD.symm, upd_same]
        rfl
    · obtain ⟨vs, hL, hPr, k2⟩ := hv
      rw [List.take_of_length_le (by omega)] at hPr
      refine ⟨D, vs, rfl, .inl ⟨SqL.of hL, fun tp htp => ?_⟩⟩
      have k3 : Ext H (upd H2 tp (.tup vs)) := k2.trans (Ext.new htp)
      have hT : TupOf PairAt (upd H2 tp (.tup vs)) (.ref tp) (r.prs.map (rnP r.letters N)) := ⟨tp, vs, rfl, upd_same, paired_imp (fun _ _ h => h.ext (Ext.new htp)) hPr⟩
      have hz : ∃ H3, H3 = upd H2 tp (.tup vs) := ⟨_, rfl⟩
      obtain ⟨H3, e3⟩ := hz
      rw [← e3] at k3 hT ⊢
      refine ⟨_, rfl, a, _, 4, _, rfl, rfl, SqT.of (k3 _ _ hA), rfl, as, rfl, ⟨_, SqT.of (k3 _ _ hS)⟩, fun D2 hD2 => lc_tup (K := K) (xs := sus) (fun i H4 => ∃ ws, H4 D2 = some (.lst ws) ∧ Paired (StackAt H4) ws ((r.stk.take i).map (rnS r.letters N)) ∧ Ext H3 H4) ⟨[], upd_same, .nil, Ext.new hD2⟩ (fun i H4 _ ⟨_, _, _, k4⟩ => SqT.of (k4 _ _ (k3 _ _ hS))) (fun i u H4 hi hv => ?_) (fun H4 hv => ?_)⟩
      · obtain ⟨ws, hL4, hPr4, k4⟩ := hv
        have k34 := k3.trans k4
        have hi12 : i < sus.length := (List.getElem?_eq_some_iff.mp hi).1
        have hvl := paired_len hPr4
        rw [List.length_map, List.length_take] at hvl
        obtain ⟨⟨x, y, z⟩, hx, a1, rfl, ha1⟩ := paired_get hRs hi
        have hmem := List.mem_of_getElem? hx
        have hx2 : x.length = 2 := (ok.st _ hmem).1.1
        have hy2 : y.length = 2 := (ok.st _ hmem).2.1.1
        refine ⟨a1, _, rfl, SqT.of (k34 _ _ ha1), rfl, _, _, rfl, _, _, rfl, _, _, rfl, rfl, ?_⟩
        refine ⟨rfl, _, rfl, _, rfl, _, rfl, x, r.letters, N, rfl, t, (hos _ hmem).1, by omega, ok.let6, fun H5 k5 => ⟨_, rfl, _, rfl, _, rfl, y, r.letters, N, rfl, t, (hos _ hmem).2, by omega, ok.let6, fun H6 k6 => ⟨_, rfl, szL (show 3 ≤ 1000000 by decide), fun p hp => ?_⟩⟩⟩
        have k56 := k5.trans k6
        have hL6 := k56 _ _ hL4
        have nD : D2 ≠ p := ne_of_none hL6 hp
        have k7 : Ext H4 (upd H6 p (.tup [.str (told r.letters N x), .str (told r.letters N y), .int z])) := k56.trans (Ext.new hp)
        refine ⟨ws, k7 _ _ hL4, szLt (by omega), ws ++ [.ref p], upd_same, ?_, (k4.trans k7).put hD2⟩
        rw [List.take_add_one, hx, List.map_append]
        refine (paired_imp (fun v y hy => ?_) hPr4).snoc ⟨p, rfl, ?_⟩
        · obtain ⟨b, e, hb⟩ := hy
          exact ⟨b, e, tup_put hL4 k7 hb⟩
        · rw [upd_ne nD.symm, upd_same]
          rfl
      · obtain ⟨ws, hL4, hPr4, k4⟩ := hv
        rw [List.take_of_length_le (by omega)] at hPr4
        refine ⟨D2, ws, rfl, .inl ⟨SqL.of hL4, fun t4 ht4 => ?_⟩⟩
        have k5 : Ext H3 (upd H4 t4 (.tup ws)) := k4.trans (Ext.new ht4)
        have k35 := k3.trans k5
        have hT4 : TupOf StackAt (upd H4 t4 (.tup ws)) (.ref t4) (r.stk.map (rnS r.letters N)) := ⟨t4, ws, rfl, upd_same, paired_imp (fun _ _ h => h.ext (Ext.new ht4)) hPr4⟩
        refine ⟨_, rfl, _, rfl, _, rfl, a, _, 2, _, rfl, rfl, SqT.of (k35 _ _ hA), rfl, _, rfl, a, _, 3, _, rfl, rfl, SqT.of (k35 _ _ hA), rfl, _, rfl, szL (show 5 ≤ 1000000 by decide), fun t5 ht5 => ?_⟩
        have k6 := Ext.new (o := .tup [.str N, .ref tp, .int r.span, vl, .ref t4]) ht5
        exact q _ _ ⟨t5, _, vl, _, rfl, upd_same, tupExt PairAt.ext (k5.trans k6) hT, tupExt (R := IntAt) (fun _ _ _ z => z) (k35.trans k6) hl, tupExt StackAt.ext k6 hT4⟩ (k35.trans k6)
abbrev CRenamed (P : Program) (w : World) (K : PySem.W.Frag) (mg : Str → Option Value) (base : Heap) : Prop := Ca P w K mg base 2 "_law_renamed" ["_law_some", "_law_new"] spRenamed
abbrev s_law_places : Stmt := topS 39
theorem sc_law_places : FnScope ["_law_some", "_law_text", "_law_found", "_law_i", "_law_j"] ["_law_some", "_law_text"] (defScope s_law_places) :=
  ⟨rfl, rfl, rfl, by decide +kernel, rfl, by decide +kernel, by decide +kernel⟩
def spPlaces : Sp := fun vs H Q _ => ∃ (v : V) (r : Rl) (x : Str), vs = [v, .str x] ∧ RulesW H v r ∧ x.length ≤ 20 ∧ ∀ l ws H', H' l = some (.lst ws) → Paired (TwoAt H') ws (plc r x) → Ext H H' → Q (.ref l) H'
theorem TwoAt.ext {H H' : Hp} (e : Ext H H') {v : V} {k : Int × Int} (h : TwoAt H v k) : TwoAt H' v k := by
  obtain ⟨a, rfl, h⟩ := h
  exact ⟨a, rfl, e _ _ h⟩
theorem ok_places {f : Addr} {fd : FuncData} {k : Nat} (F : Fun K "_law_places" "_law_places" s_law_places f fd) (cmay_pair : CMP P w K mg base) (mrange : mg "range" = none) (mlen : mg "len" = none) : FnOk P w K mg base CX0 (k + 3) f fd ["_law_some", "_law_text"] spPlaces := by
  refine F.ok sc_law_places (fun vs H Q E h => ?_) (fun cdv A outer s H vs Q E hr h => ?_)
  · obtain ⟨v, r, x, rfl, _⟩ := h
    rfl
  · obtain ⟨v, r, x, rfl, hR, hx, q⟩ := h
    refine ⟨_, (pss_cons (ps_set (i := 2) sc_law_places.nd rfl (.inl rfl) (pe_lst pa_nil))
      (pss_cons (ps_for PassesOwn.never rfl (pi_range1 (by rfl) mrange (pa_cons (pe_callB call_len_str (by rfl) mlen (by decide +kernel) (pa_cons (pv 1) pa_nil)) pa_nil)) (pg_name (i := 3) sc_law_places.nd rfl (.inr rfl)) (pss_one (ps_set (i := 2) sc_law_places.nd rfl (.inl rfl) (pe_op op_cat (pv 2) (pe_lc (own := [("_law_j", 4)]) (g := gName 4) (by rfl) sc_law_places.nd (pi_range2 (by rfl) mrange (pa_cons (pe_op op_add (pv 3) pe_int) (pa_cons (pe_callB call_len_str (by rfl) mlen (by decide +kernel) (pa_cons (pv 1) pa_nil)) pa_nil))) (blkOk_by (own := [("_law_j", 4)]) (N := ["_law_some", "_law_text", "_law_found", "_law_i", "_law_j"]) (sc := defScope s_law_places) (by decide +kernel)) (fun _ _ _ _ _ => (pg_name (i := 4) sc_law_places.nd rfl (.inl rfl))) (fun _ _ _ _ _ => (pts_one (pt_val (pe_ca cmay_pair (hr.mono (by omega)) (by rfl) (pa_cons (pv 0) (pa_cons (pv 1) (pa_cons (pv 3) (pa_cons (pv 4) pa_nil)))))))) (fun _ _ _ _ _ => (pe_tup (pa_cons (pv 3) (pa_cons (pv 4) pa_nil)))))))))
      (pss_one (ps_ret (pv 2))))), ?_⟩
    refine ⟨Nat.zero_le _, fun l hl => ?_⟩
    refine ⟨_, rfl, x, rfl, szL (by omega), _, rfl, by omega, by omega, for_range (lo := 0) (n := (x.length : Int).toNat) (fun i σ H2 => ∃ (l : Addr) (ws : List V) (y3 y4 : Option V), σ = [some v, some (.str x), some (.ref l), y3, y4] ∧ H2 l = some (.lst ws) ∧ Paired (TwoAt H2) ws (plcN r x i) ∧ Ext H H2)
      ⟨l, [], none, none, rfl, upd_same, .nil, Ext.new hl⟩ (fun i σ H2 hi hv => ?_) (fun σ H2 hv => ?_)⟩
    · obtain ⟨l2, ws, y3, y4, rfl, hL2, hPr, k2⟩ := hv
      have hi12 : i < x.length := by omega
      have hwl := paired_len hPr
      have hpn := plcN_len r x i
      have hm : i * x.length ≤ 20 * 20 := Nat.mul_le_mul (by omega) hx
      refine ⟨_, rfl, _, rfl, _, _, rfl, rfl, _, rfl, x, rfl, szL (by omega), _, _, rfl, ⟨by omega, by omega, by omega, by omega⟩, fun D hD => lc_range (fun j H3 => ∃ zs, H3 D = some (.lst zs) ∧ Paired (TwoAt H3) zs (plcJ r x (0 + (i : Int)) j) ∧ Ext H2 H3) ⟨[], upd_same, .nil, Ext.new hD⟩ (fun j H3 hj hv => ?_) (fun H3 hv => ?_)⟩
      · obtain ⟨zs, hD3, hPz, k3⟩ := hv
        have hzl := paired_len hPz
        have hpj := plcJ_len r x (0 + (i : Int)) j
        refine ⟨rfl, _, rfl, _, rfl, _, rfl, _, rfl, v, r, x, 0 + (i : Int), 0 + (i : Int) + 1 + (j : Int), rfl, RulesW.mono _ _ _ _ (TupK.ext (k2.trans k3)) hR, by omega, by omega, by omega, by omega, fun H4 k4 => ⟨_, rfl, ?_⟩⟩
        rw [plcJ_succ]
        have hD4 := k4 _ _ hD3
        cases e : mayC r x (0 + (i : Int)) (0 + (i : Int) + 1 + (j : Int)) with
        | false =>
          rw [if_neg Bool.false_ne_true, List.append_nil]
          exact iteF ⟨zs, hD4, paired_imp (fun _ _ h => h.ext k4) hPz, k3.trans k4⟩
        | true =>
          rw [if_pos rfl]
          refine iteT ⟨_, rfl, _, rfl, szL (show 2 ≤ 1000000 by decide), fun p hp => ?_⟩
          have nD : D ≠ p := ne_of_none hD4 hp
          have k5 : Ext H3 (upd H4 p (.tup [.int (0 + (i : Int)), .int (0 + (i : Int) + 1 + (j : Int))])) := k4.trans (Ext.new hp)
          refine ⟨zs, k5 _ _ hD3, szLt (by omega), zs ++ [.ref p], upd_same, (paired_imp (fun v y hy => ?_) hPz).snoc ⟨p, rfl, ?_⟩, (k3.trans k5).put hD⟩
          · obtain ⟨b, e, hb⟩ := hy
            exact ⟨b, e, tup_put hD3 k5 hb⟩
          · rw [upd_ne nD.symm, upd_same]
      · obtain ⟨zs, hD3, hPz, k3⟩ := hv
        have hzl := paired_len hPz
        have hpj : (plcI r x (0 + (i : Int))).length ≤ _ := plcJ_len r x (0 + (i : Int)) _
        have hPz : Paired (TwoAt H3) zs (plcI r x (0 + (i : Int))) := hPz
        have hzl := paired_len hPz
        refine ⟨l2, D, ws, zs, rfl, rfl, k3 _ _ hL2, hD3, szL (by omega), fun p hp => ?_⟩
        have k4 := Ext.new (o := .lst (ws ++ zs)) hp
        refine ⟨p, ws ++ zs, _, _, rfl, upd_same, ?_, (k2.trans k3).trans k4⟩
        rw [plcN_succ]
        exact paired_app (paired_imp (fun _ _ h => h.ext (k3.trans k4)) hPr) (paired_imp (fun _ _ h => h.ext k4) hPz)
    · obtain ⟨l2, ws, y3, y4, rfl, hL2, hPr, k2⟩ := hv
      exact ⟨_, rfl, q _ ws _ hL2 hPr k2⟩
abbrev CPlaces (P : Program) (w : World) (K : PySem.W.Frag) (mg : Str → Option Value) (base : Heap) : Prop := Ca P w K mg base 3 "_law_places" ["_law_some", "_law_text"] spPlaces
end
end Pf


namespace Pf
open PySem PySem.Spec PyProof.Rows L2
theorem pwV_mem : ∀ {prs : List (Str × Int)} {x : Str} {v : Int}, (prs.map (·.1)).Nodup → (x, v) ∈ prs → pwV prs x = .int v
  | (t, z) :: r, x, v, nd, h => by
    show (if t = x then V.int z else pwV r x) = .int v
    rcases List.mem_cons.mp h with e | h
    · injection e with e1 e2
      rw [if_pos e1.symm, e2]
    · have hn : t ≠ x := fun e => (List.nodup_cons.mp nd).1 (e ▸ List.mem_map.mpr ⟨(x, v), h, rfl⟩)
      rw [if_neg hn]
      exact pwV_mem (List.nodup_cons.mp nd).2 h
section
variable {P : Program} {w : World} {K : PySem.W.Frag} {mg : Str → Option Value} {base : Heap}
abbrev s_law_renamed_right : Stmt := topS 40
theorem sc_law_renamed_right : FnScope ["_law_some", "_law_text", "_law_new", "_law_other", "_law_one", "_law_worth_here", "_law_two", "_law_beside", "_law_due"] ["_law_some", "_law_text", "_law_new"] (defScope s_law_renamed_right) :=
  ⟨rfl, rfl, rfl, by decide +kernel, rfl, by decide +kernel, by decide +kernel⟩
def spRR : Sp := fun vs H Q _ => ∃ (v : V) (r : Rl) (x N : Str), vs = [v, .str x, .str N] ∧ RulesW H v r ∧ RlOk r ∧ GoodR r ∧ Tell r.letters N ∧ Small N ∧ Of r.letters x ∧ x.length ≤ 12 ∧ ∀ H', Ext H H' → Q (.bl true) H'
theorem ok_rr {f : Addr} {fd : FuncData} (F : Fun K "_law_renamed_right" "_law_renamed_right" s_law_renamed_right f fd) (c_law_renamed : CRenamed P w K mg base) (c_law_told : CTold P w K mg base) (cis_rules : CIR P w K mg base) (cis_string : CIS P w K mg base) (cpair_worth : CPW P w K mg base) (cstack_worth : CSW P w K mg base) (c_law_places : CPlaces P w K mg base) : FnOk P w K mg base CX0 7 f fd ["_law_some", "_law_text", "_law_new"] spRR := by
  refine F.ok sc_law_renamed_right (fun vs H Q E h => ?_) (fun cdv A outer s H vs Q E hr h => ?_)
  · obtain ⟨v, r, x, N, rfl, _⟩ := h
    rfl
  · obtain ⟨v, r, x, N, rfl, hR, ok, g, t, sN, hof, hx, q⟩ := h
    obtain ⟨a, vp, vl, vk, rfl, hA, ⟨ap, pus, rfl, hP, hRp⟩, _, _⟩ := id hR
    have hop := GoodR.ofP g
    have hos := good_of ok g
    have hpl := paired_len hRp
    have hok1 := ok.prs
    have hl6 := ok.let6
    have hpe : ∀ {H' : Hp}, Ext H H' → ((∃ o, H' ap = some (.frz o (.tup pus))) ∨ H' ap = some (.tup pus)) := fun k => hP.elim (fun ⟨o, h⟩ => .inl ⟨o, k _ _ h⟩) (fun h => .inr (k _ _ h))
    have hRe : ∀ {H' : Hp}, Ext H H' → RulesW H' (.ref a) r := fun k => RulesW.mono _ _ _ _ (TupK.ext k) hR
    refine ⟨_, (pss_cons (ps_set (i := 3) sc_law_renamed_right.nd rfl (.inl rfl) (pe_ca c_law_renamed (hr.mono (by decide)) (by rfl) (pa_cons (pv 0) (pa_cons (pv 2) pa_nil))))
      (pss_cons (ps_if (PW.pt (pw_or (pt_cmpR op_isnot_bl (pe_ca cis_rules (hr.mono (by decide)) (by rfl) (pa_cons (pv 3) pa_nil)) pe_bl (nomark _)) (pw_or1 (pt_cmpR op_isnot_bl (pe_ca cis_string (hr.mono (by decide)) (by rfl) (pa_cons (pv 3) (pa_cons (pe_ca c_law_told (hr.mono (by decide)) (by rfl) (pa_cons (pv 1) (pa_cons (pe_ix (ixT K) (pv 0) pe_int (fun _ _ => rfl)) (pa_cons (pv 2) pa_nil)))) pa_nil))) pe_bl (nomark _))))) (pss_one (ps_ret pe_bl)) pss_nil)
      (pss_cons (ps_for PassesOwn.never rfl (pi_tup (pe_ix (ixT K) (pv 0) pe_int (fun _ _ => rfl))) (pg_tup rfl (pgs_cons (pg_name (i := 4) sc_law_renamed_right.nd rfl (.inl rfl)) (pgs_cons (pg_name (i := 5) sc_law_renamed_right.nd rfl (.inl rfl)) pgs_nil))) (pss_cons (ps_if (pt_cmpR op_ne (pe_ca cpair_worth (hr.mono (by decide)) (by rfl) (pa_cons (pv 3) (pa_cons (pe_ca c_law_told (hr.mono (by decide)) (by rfl) (pa_cons (pv 4) (pa_cons (pe_ix (ixT K) (pv 0) pe_int (fun _ _ => rfl)) (pa_cons (pv 2) pa_nil)))) pa_nil))) (pv 5) (nomark _)) (pss_one (ps_ret pe_bl)) pss_nil)
      (pss_one (ps_for PassesOwn.never rfl (pi_tup (pe_ix (ixT K) (pv 0) pe_int (fun _ _ => rfl))) (pg_tup rfl (pgs_cons (pg_name (i := 6) sc_law_renamed_right.nd rfl (.inl rfl)) (pgs_cons (pg_name (i := 7) sc_law_renamed_right.nd rfl (.inl rfl)) pgs_nil))) (pss_cons (ps_set (i := 8) sc_law_renamed_right.nd rfl (.inl rfl) (pe_ca cstack_worth (hr.mono (by decide)) (by rfl) (pa_cons (pv 0) (pa_cons (pv 4) (pa_cons (pv 6) pa_nil)))))
      (pss_one (ps_if (pt_cmpR op_ne (pe_ca cstack_worth (hr.mono (by decide)) (by rfl) (pa_cons (pv 3) (pa_cons (pe_ca c_law_told (hr.mono (by decide)) (by rfl) (pa_cons (pv 4) (pa_cons (pe_ix (ixT K) (pv 0) pe_int (fun _ _ => rfl)) (pa_cons (pv 2) pa_nil)))) (pa_cons (pe_ca c_law_told (hr.mono (by decide)) (by rfl) (pa_cons (pv 6) (pa_cons (pe_ix (ixT K) (pv 0) pe_int (fun _ _ => rfl)) (pa_cons (pv 2) pa_nil)))) pa_nil)))) (pv 8) (nomark _)) (pss_one (ps_ret pe_bl)) pss_nil)))))))
      (pss_one (ps_ret (pe_cmpR (eqD K hr.units) (pe_ca c_law_places (hr.mono (by decide)) (by rfl) (pa_cons (pv 3) (pa_cons (pe_ca c_law_told (hr.mono (by decide)) (by rfl) (pa_cons (pv 1) (pa_cons (pe_ix (ixT K) (pv 0) pe_int (fun _ _ => rfl)) (pa_cons (pv 2) pa_nil)))) pa_nil))) (pe_ca c_law_places (hr.mono (by decide)) (by rfl) (pa_cons (pv 0) (pa_cons (pv 1) pa_nil))) (nomark _))))))), ?_⟩
    refine ⟨_, rfl, _, rfl, .ref a, r, N, rfl, hR, ok, g, t, fun v' H1 hP1 k1 => ?_⟩
    refine ⟨_, rfl, v', rn N r, rfl, hP1, rn_ok t sN ok g, rn_good t g, fun H2 k2 => ⟨true, true, rfl, rfl, false, rfl, iteF ?_⟩⟩
    have k12 := k1.trans k2
    refine ⟨_, rfl, _, rfl, _, rfl, a, _, 0, _, rfl, rfl, SqT.of (k12 _ _ hA), rfl, _, rfl, x, r.letters, N, rfl, t, hof, by omega, hl6, fun H3 k3 => ?_⟩
    have hPe : ∀ {H' : Hp}, Ext H1 H' → RulesW H' v' (rn N r) := fun k => RulesW.mono _ _ _ _ (TupK.ext k) hP1.wd
    refine ⟨v', rn N r, told r.letters N x, rfl, hPe (k2.trans k3), by rw [told_len]; exact hx, told_of t hof, fun H4 k4 => ⟨true, true, rfl, rfl, false, rfl, iteF ?_⟩⟩
    have k04 := (k12.trans k3).trans k4
    have k14 := (k2.trans k3).trans k4
    refine ⟨_, rfl, a, _, 1, _, rfl, rfl, SqT.of (k04 _ _ hA), rfl, ap, rfl, ⟨_, SqT.w (hpe k04)⟩, for_tup (xs := pus) (fun i σ H5 => ∃ (y4 y5 y6 y7 y8 : Option V), σ = [some (.ref a), some (.str x), some (.str N), some v', y4, y5, y6, y7, y8] ∧ Ext H4 H5)
      ⟨none, none, none, none, none, rfl, Ext.refl⟩ (fun i σ H5 _ ⟨_, _, _, _, _, _, k5⟩ => SqT.w (hpe (k04.trans k5))) (fun i u σ H5 hi hv => ?_) (fun σ H5 hv => ?_)⟩
    · obtain ⟨y4, y5, y6, y7, y8, rfl, k5⟩ := hv
      obtain ⟨⟨x1, w1⟩, hx1, a1, rfl, ha1⟩ := paired_get hRp hi
      have m1 := List.mem_of_getElem? hx1
      have hx12 : x1.length = 2 := (ok.pr _ m1).1.1
      have k05 := k04.trans k5
      have k15 := k14.trans k5
      refine ⟨a1, _, rfl, SqT.of (k05 _ _ ha1), rfl, _, _, rfl, _, _, rfl, rfl, ?_⟩
      refine ⟨_, rfl, _, rfl, _, rfl, a, _, 0, _, rfl, rfl, SqT.of (k05 _ _ hA), rfl, _, rfl, x1, r.letters, N, rfl, t, hop _ m1, by omega, hl6, fun H6 k6 => ?_⟩
      refine ⟨v', rn N r, told r.letters N x1, rfl, hPe (k15.trans k6), ?_⟩
      have e1 : pwV (rn N r).prs (told r.letters N x1) = .int w1 := by
        show pwV (r.prs.map (rnP r.letters N)) _ = _
        rw [pw_told t (hop _ m1) hop]
        exact pwV_mem ok.pn m1
      rw [e1]
      refine ⟨_, rfl, rfl, false, congrArg V.bl (by simp), iteF ?_⟩
      have k06 := k05.trans k6
      have k16 := k15.trans k6
      refine ⟨_, rfl, a, _, 1, _, rfl, rfl, SqT.of (k06 _ _ hA), rfl, ap, rfl, ⟨_, SqT.w (hpe k06)⟩, for_tup (xs := pus) (fun i σ H7 => ∃ (y6 y7 y8 : Option V), σ = [some (.ref a), some (.str x), some (.str N), some v', some (.str x1), some (.int w1), y6, y7, y8] ∧ Ext H6 H7)
        ⟨_, _, _, rfl, Ext.refl⟩ (fun i σ H7 _ ⟨_, _, _, _, k7⟩ => SqT.w (hpe (k06.trans k7))) (fun j u σ H7 hj hv => ?_) (fun σ H7 hv => ?_)⟩
      · obtain ⟨y6, y7, y8, rfl, k7⟩ := hv
        obtain ⟨⟨x2, w2⟩, hx2, a2, rfl, ha2⟩ := paired_get hRp hj
        have m2 := List.mem_of_getElem? hx2
        have hx22 : x2.length = 2 := (ok.pr _ m2).1.1
        have k07 := k06.trans k7
        have k17 := k16.trans k7
        refine ⟨a2, _, rfl, SqT.of (k07 _ _ ha2), rfl, _, _, rfl, _, _, rfl, rfl, ?_⟩
        refine ⟨_, rfl, _, rfl, _, rfl, .ref a, r, x1, x2, rfl, hRe k07, ?_⟩
        refine ⟨_, rfl, _, rfl, _, rfl, a, _, 0, _, rfl, rfl, SqT.of (k07 _ _ hA), rfl, _, rfl, x1, r.letters, N, rfl, t, hop _ m1, by omega, hl6, fun H8 k8 => ?_⟩
        refine ⟨_, rfl, _, rfl, a, _, 0, _, rfl, rfl, SqT.of ((k07.trans k8) _ _ hA), rfl, _, rfl, x2, r.letters, N, rfl, t, hop _ m2, by omega, hl6, fun H9 k9 => ?_⟩
        refine ⟨v', rn N r, told r.letters N x1, told r.letters N x2, rfl, hPe ((k17.trans k8).trans k9), ?_⟩
        have e2 : swI (rn N r).stk (told r.letters N x1) (told r.letters N x2) = swI r.stk x1 x2 := sw_told t (hop _ m1) (hop _ m2) hos
        rw [e2]
        refine ⟨_, rfl, rfl, false, congrArg V.bl (by simp), iteF ⟨_, _, _, rfl, (k7.trans k8).trans k9⟩⟩
      · obtain ⟨y6, y7, y8, rfl, k7⟩ := hv
        exact ⟨_, _, _, _, _, rfl, (k5.trans k6).trans k7⟩
    · obtain ⟨y4, y5, y6, y7, y8, rfl, k5⟩ := hv
      have k05 := k04.trans k5
      refine ⟨_, rfl, _, rfl, _, rfl, a, _, 0, _, rfl, rfl, SqT.of (k05 _ _ hA), rfl, _, rfl, x, r.letters, N, rfl, t, hof, by omega, hl6, fun H6 k6 => ?_⟩
      refine ⟨v', rn N r, told r.letters N x, rfl, hPe ((k14.trans k5).trans k6), by rw [told_len]; omega, fun l1 ws1 H7 hL1 hp1 k7 => ?_⟩
      have k07 := (k05.trans k6).trans k7
      refine ⟨_, rfl, _, rfl, .ref a, r, x, rfl, hRe k07, by omega, fun l2 ws2 H8 hL2 hp2 k8 => ?_⟩
      rw [plc_told t hop hof] at hp1
      exact eq_twos (k8 _ _ hL1) hL2 (paired_imp (fun _ _ h => h.ext k8) hp1) hp2 (q _ (k07.trans k8))
abbrev CRR (P : Program) (w : World) (K : PySem.W.Frag) (mg : Str → Option Value) (base : Heap) : Prop := Ca P w K mg base 7 "_law_renamed_right" ["_law_some", "_law_text", "_law_new"] spRR
end
end Pf


namespace Pf
open PySem PySem.Spec PyProof.Rows L2
/-! ### places under other rules -/
theorem plc_filter {r r1 : Rl} {x : Str} (f : Int × Int → Bool) (h : ∀ p : Int × Int, 0 ≤ p.1 → p.1 < p.2 → p.2 < x.length → mayC r1 x p.1 p.2 = (mayC r x p.1 p.2 && f p)) : plc r1 x = (plc r x).filter f := by
  refine lt2_ext (plc_pw _ _) ((plc_pw _ _).filter _) fun p => ?_
  rw [List.mem_filter, mem_plc, mem_plc]
  constructor
  · rintro ⟨z, m⟩
    rw [h p z.1 z.2.1 z.2.2, Bool.and_eq_true] at m
    exact ⟨⟨z, m.1⟩, m.2⟩
  · rintro ⟨⟨z, m⟩, f⟩
    exact ⟨z, by rw [h p z.1 z.2.1 z.2.2, m, f]; rfl⟩
def widR (r : Rl) : Rl := ⟨r.letters, r.prs, r.span + 1, r.loops, []⟩
theorem plc_wid (r : Rl) (x : Str) : plc (widR r) x = (plc r x).filter fun p => decide (p.2 - p.1 > r.span + 1) := by
  refine plc_filter _ fun p _ _ _ => ?_
  unfold mayC widR
  dsimp only
  rw [Bool.eq_iff_iff]
  simp only [Bool.and_eq_true, decide_eq_true_eq]
  exact ⟨fun h => ⟨⟨by omega, h.2⟩, by omega⟩, fun h => ⟨by omega, h.1.2⟩⟩
def fewR (r : Rl) (k : Nat) : Rl := ⟨r.letters, r.prs.take k ++ r.prs.drop (k + 1), r.span, r.loops, []⟩
theorem mem_few {α : Type} {ts : List α} {k : Nat} {t : α} (nd : ts.Nodup) (h : ts[k]? = some t) (x : α) : x ∈ ts.take k ++ ts.drop (k + 1) ↔ x ∈ ts ∧ x ≠ t := by
  obtain ⟨hk, e⟩ := List.getElem?_eq_some_iff.mp h
  have e2 : ts = ts.take k ++ (t :: ts.drop (k + 1)) := by
    rw [← e, ← List.drop_eq_getElem_cons hk, List.take_append_drop]
  have nd2 := nd
  rw [e2] at nd2
  have h3 := List.nodup_append.mp nd2
  have h4 := List.nodup_cons.mp h3.2.1
  rw [List.mem_append]
  constructor
  · rintro (z | z)
    · exact ⟨List.mem_of_mem_take z, fun e3 => h3.2.2 x z t (List.mem_cons_self ..) e3⟩
    · exact ⟨List.mem_of_mem_drop z, fun e3 => h4.1 (e3 ▸ z)⟩
  · rintro ⟨z, hn⟩
    rw [e2] at z
    rcases List.mem_append.mp z with z | z
    · exact .inl z
    · rcases List.mem_cons.mp z with z | z
      · exact absurd z hn
      · exact .inr z
theorem few_texts (r : Rl) (k : Nat) : (fewR r k).prs.map (·.1) = (r.prs.map (·.1)).take k ++ (r.prs.map (·.1)).drop (k + 1) := by
  show (r.prs.take k ++ r.prs.drop (k + 1)).map (·.1) = _
  rw [List.map_append, List.map_take, List.map_drop]
theorem plc_few {r : Rl} {k : Nat} {t : Str} (nd : (r.prs.map (·.1)).Nodup) (h : (r.prs.map (·.1))[k]? = some t) (x : Str) : plc (fewR r k) x = (plc r x).filter fun p => !decide (tx2 x p = t) := by
  refine plc_filter _ fun p _ _ _ => ?_
  unfold mayC
  rw [few_texts]
  show (decide (r.span < p.2 - p.1) && _) = _
  rw [Bool.and_assoc]
  congr 1
  rw [Bool.eq_iff_iff]
  simp only [Bool.and_eq_true, decide_eq_true_eq, Bool.not_eq_true', decide_eq_false_iff_not]
  exact mem_few nd h _
theorem pw_few {r : Rl} {k : Nat} {t : Str} (nd : (r.prs.map (·.1)).Nodup) (h : (r.prs.map (·.1))[k]? = some t) : pwV (fewR r k).prs t = .non := by
  have h1 := pwV_is (fewR r k).prs t
  rw [few_texts, decide_eq_false (fun z => ((mem_few nd h t).mp z).2 rfl)] at h1
  exact of_decide_eq_true (by simpa using h1)
/-! ### turned about -/
theorem two_rev (a b : Nat) : revX (⟨#[a]⟩ ++ ⟨#[b]⟩) = ⟨#[b]⟩ ++ ⟨#[a]⟩ := rfl
theorem revX_list (x : Str) : (revX x).cps.toList = (List.range x.length).map fun k => x.cps.getD (x.length - 1 - k) 0 := by
  unfold revX
  rw [List.toList_toArray]
theorem arr_getD (x : Str) (k : Nat) : x.cps.getD k 0 = x.cps.toList.getD k 0 := by
  rw [List.getD_eq_getElem?_getD, Array.getElem?_toList, Array.getD_eq_getD_getElem?]
theorem sgn_rev {x : Str} {i : Int} (h0 : 0 ≤ i) (h1 : i < x.length) : sgn (revX x) i = sgn x ((x.length : Int) - 1 - i) := by
  unfold sgn
  rw [revX_list, List.getD_eq_getElem?_getD, List.getElem?_map, List.getElem?_range (by omega)]
  show (⟨#[x.cps.getD (x.length - 1 - i.toNat) 0]⟩ : Str) = _
  rw [arr_getD, show ((x.length : Int) - 1 - i).toNat = x.length - 1 - i.toNat by omega]
theorem tx2_rev {x : Str} {i j : Int} (i0 : 0 ≤ i) (i1 : i < x.length) (j0 : 0 ≤ j) (j1 : j < x.length) : tx2 (revX x) (i, j) = revX (tx2 x ((x.length : Int) - 1 - j, (x.length : Int) - 1 - i)) := by
  unfold tx2
  rw [sgn_rev i0 i1, sgn_rev j0 j1]
  rfl
def revP (z : Str × Int) : Str × Int := (revX z.1, z.2)
def turnR (r : Rl) (ps : List (Str × Int)) : Rl := ⟨r.letters, ps, r.span, r.loops, []⟩
def IsTwo (t : Str) : Prop := ∃ a b : Nat, t = ⟨#[a]⟩ ++ ⟨#[b]⟩
theorem rev_rev {t : Str} (h : IsTwo t) : revX (revX t) = t := by
  obtain ⟨a, b, rfl⟩ := h
  rfl
theorem may_turn {r : Rl} {ps : List (Str × Int)} {x : Str} {i j : Int} (h2 : ∀ z ∈ r.prs, IsTwo z.1) (hp : ps.Perm (r.prs.map revP)) (i0 : 0 ≤ i) (i1 : i < x.length) (j0 : 0 ≤ j) (j1 : j < x.length) : mayC (turnR r ps) (revX x) i j = mayC r x ((x.length : Int) - 1 - j) ((x.length : Int) - 1 - i) := by
  unfold mayC turnR
  dsimp only
  rw [tx2_rev i0 i1 j0 j1]
  congr 1
  · exact decide_eq_decide.mpr (by omega)
  · refine decide_eq_decide.mpr ⟨fun h => ?_, fun h => ?_⟩
    · obtain ⟨y, hy, e⟩ := List.mem_map.mp h
      obtain ⟨z, hz, rfl⟩ := List.mem_map.mp (hp.mem_iff.mp hy)
      refine List.mem_map.mpr ⟨z, hz, ?_⟩
      have e2 : revX (revX z.1) = revX (revX (tx2 x ((x.length : Int) - 1 - j, (x.length : Int) - 1 - i))) := congrArg revX e
      rw [rev_rev (h2 z hz), rev_rev (t := tx2 x _) ⟨_, _, rfl⟩] at e2
      exact e2
    · obtain ⟨z, hz, e⟩ := List.mem_map.mp h
      exact List.mem_map.mpr ⟨revP z, hp.mem_iff.mpr (List.mem_map.mpr ⟨z, hz, rfl⟩), by show revX z.1 = _; rw [e]⟩
def flipQ (n : Nat) (p : Int × Int) : Int × Int := ((n : Int) - 1 - p.2, (n : Int) - 1 - p.1)
def le2 (p q : Int × Int) : Bool := decide (p.1 < q.1 ∨ (p.1 = q.1 ∧ p.2 ≤ q.2))
def srt (ps : List (Int × Int)) : List (Int × Int) := ps.mergeSort le2
theorem le2_trans (a b c : Int × Int) (h1 : le2 a b = true) (h2 : le2 b c = true) : le2 a c = true := by
  have h1 := of_decide_eq_true h1
  have h2 := of_decide_eq_true h2
  exact decide_eq_true (by omega)
theorem le2_total (a b : Int × Int) : (le2 a b || le2 b a) = true := by
  rw [Bool.or_eq_true]
  by_cases h : a.1 < b.1 ∨ (a.1 = b.1 ∧ a.2 ≤ b.2)
  · exact .inl (decide_eq_true h)
  · exact .inr (decide_eq_true (by omega))
theorem srt_unique {L M : List (Int × Int)} (h1 : L.Pairwise (fun a b => le2 a b = true)) (h2 : M.Pairwise (fun a b => le2 a b = true)) (h : L.Perm M) : L = M :=
  List.Perm.eq_of_pairwise (fun a b _ _ x y => by
    have x := of_decide_eq_true x
    have y := of_decide_eq_true y
    exact Prod.ext (by omega) (by omega)) h1 h2 h
theorem srt_pw (ps : List (Int × Int)) : (srt ps).Pairwise (fun a b => le2 a b = true) := List.pairwise_mergeSort le2_trans le2_total ps
theorem plc_nd (r : Rl) (x : Str) : (plc r x).Nodup := (plc_pw r x).imp fun {a b} z e => by
  subst e
  unfold lt2 at z
  omega
theorem plc_turn {r : Rl} {ps : List (Str × Int)} {x : Str} (h2 : ∀ z ∈ r.prs, IsTwo z.1) (hp : ps.Perm (r.prs.map revP)) : srt ((plc r x).map (flipQ x.length)) = plc (turnR r ps) (revX x) := by
  have nd : ((plc r x).map (flipQ x.length)).Nodup := List.pairwise_map.mpr ((plc_nd r x).imp fun {a b} z e => z (by
    unfold flipQ at e
    injection e with e1 e2
    exact Prod.ext (by omega) (by omega)))
  have hpm : (srt ((plc r x).map (flipQ x.length))).Perm ((plc r x).map (flipQ x.length)) := List.mergeSort_perm _ _
  refine srt_unique (srt_pw _) ((plc_pw _ _).imp fun {a b} z => decide_eq_true (by unfold lt2 at z; omega)) (hpm.trans ((List.perm_ext_iff_of_nodup nd (plc_nd _ _)).mpr fun p => ?_))
  rw [mem_plc, revX_len, List.mem_map]
  constructor
  · rintro ⟨y, hy, rfl⟩
    obtain ⟨h, hm⟩ := mem_plc.mp hy
    have b1 : 0 ≤ (flipQ x.length y).1 ∧ (flipQ x.length y).1 < (flipQ x.length y).2 ∧ (flipQ x.length y).2 < (x.length : Int) := by
      unfold flipQ
      dsimp only
      omega
    refine ⟨b1, ?_⟩
    rw [may_turn h2 hp b1.1 (by omega) (by omega) b1.2.2]
    unfold flipQ
    dsimp only
    rw [show (x.length : Int) - 1 - ((x.length : Int) - 1 - y.1) = y.1 by omega, show (x.length : Int) - 1 - ((x.length : Int) - 1 - y.2) = y.2 by omega]
    exact hm
  · rintro ⟨h, hm⟩
    rw [may_turn h2 hp h.1 (by omega) (by omega) h.2.2] at hm
    refine ⟨flipQ x.length p, mem_plc.mpr ⟨by unfold flipQ; dsimp only; omega, hm⟩, ?_⟩
    unfold flipQ
    exact Prod.ext (by dsimp only; omega) (by dsimp only; omega)
/-! ### sorted lists -/
theorem twos_zip {H : Hp} : ∀ {vs : List V} {ps : List (Int × Int)}, Paired (TwoAt H) vs ps → ∃ bes : List (Addr × (Int × Int)), bes.map (fun x => V.ref x.1) = vs ∧ bes.map (·.2) = ps ∧ ∀ x ∈ bes, H x.1 = some (.tup [.int x.2.1, .int x.2.2])
  | _, _, .nil => ⟨[], rfl, rfl, fun x h => by cases h⟩
  | _, _, .cons (b := y) ⟨a, e, ha⟩ t => by
    obtain ⟨bes, h1, h2, h3⟩ := twos_zip t
    refine ⟨(a, y) :: bes, by rw [List.map_cons, h1, e], by rw [List.map_cons, h2], fun x hx => ?_⟩
    rcases List.mem_cons.mp hx with rfl | hx
    · exact ha
    · exact h3 x hx
theorem paired_of {H : Hp} : ∀ {bes : List (Addr × (Int × Int))}, (∀ x ∈ bes, H x.1 = some (.tup [.int x.2.1, .int x.2.2])) → Paired (TwoAt H) (bes.map fun x => V.ref x.1) (bes.map (·.2))
  | [], _ => .nil
  | x :: r, h => .cons ⟨x.1, rfl, h x (List.mem_cons_self ..)⟩ (paired_of fun y hy => h y (List.mem_cons_of_mem _ hy))
theorem sort_twos {K : PySem.W.Frag} {H : Hp} {l : Addr} {vs : List V} {ps : List (Int × Int)} {Q : VK} (hL : H l = some (.lst vs)) (hPr : Paired (TwoAt H) vs ps) (q : ∀ (p : Addr) (us : List V), H p = none → Paired (TwoAt (upd H p (.lst us))) us (srt ps) → Q (.ref p) (upd H p (.lst us))) : rSortD K [.ref l] H Q := by
  obtain ⟨bes, h1, h2, h3⟩ := twos_zip hPr
  refine ⟨_, fun x => V.ref x.1, fun x => .tuple [.int x.2.1, .int x.2.2], l, bes, rfl, SqL.of (by rw [h1]; exact hL), fun x hx => ⟨.tup (SqT.of (h3 x hx)) (.cons (.int _) (.cons (.int _) .nil)), by simp [PyData.depth, PyData.depthAll]⟩, ?_, .inl ?_, fun p hp => ?_⟩
  · intro d1 e1 d2 e2
    obtain ⟨x1, _, rfl⟩ := List.mem_map.mp e1
    obtain ⟨x2, _, rfl⟩ := List.mem_map.mp e2
    simp [PySem.W.alike, PySem.W.alikeAll]
  · intro d1 e1
    obtain ⟨x1, _, rfl⟩ := List.mem_map.mp e1
    exact ⟨_, _, rfl⟩
  · have ele : PySem.W.dataLe false (fun x : Addr × (Int × Int) => PyData.tuple [.int x.2.1, .int x.2.2]) = fun p q => le2 p.2 q.2 := PySem.W.dataLe_ii (fun x : Addr × (Int × Int) => x.2.1) (fun x : Addr × (Int × Int) => x.2.2)
    rw [ele]
    have hp0 : (bes.mergeSort fun p q => le2 p.2 q.2).Perm bes := List.mergeSort_perm _ _
    have hp1 : ((bes.mergeSort fun p q => le2 p.2 q.2).map (·.2)).Perm ps := by
      have z := hp0.map (fun x : Addr × (Int × Int) => x.2)
      rw [h2] at z
      exact z
    have hpw : ((bes.mergeSort fun p q => le2 p.2 q.2).map (·.2)).Pairwise (fun a b => le2 a b = true) := by
      rw [List.pairwise_map]
      exact List.pairwise_mergeSort (fun a b c => le2_trans a.2 b.2 c.2) (fun a b => le2_total a.2 b.2) bes
    have hs : (bes.mergeSort fun p q => le2 p.2 q.2).map (·.2) = srt ps := srt_unique hpw (srt_pw ps) (hp1.trans (List.mergeSort_perm ps le2).symm)
    refine q p _ hp ?_
    rw [← hs]
    exact paired_of fun x hx => Ext.new hp _ _ (h3 x (hp0.mem_iff.mp hx))
theorem prs_zip {H : Hp} : ∀ {vs : List V} {ps : List (Str × Int)}, Paired (PairAt H) vs ps → ∃ bes : List (Addr × (Str × Int)), bes.map (fun x => V.ref x.1) = vs ∧ bes.map (·.2) = ps ∧ ∀ x ∈ bes, H x.1 = some (.tup [.str x.2.1, .int x.2.2])
  | _, _, .nil => ⟨[], rfl, rfl, fun x h => by cases h⟩
  | _, _, .cons (b := y) ⟨a, e, ha⟩ t => by
    obtain ⟨bes, h1, h2, h3⟩ := prs_zip t
    refine ⟨(a, y) :: bes, by rw [List.map_cons, h1, e], by rw [List.map_cons, h2], fun x hx => ?_⟩
    rcases List.mem_cons.mp hx with rfl | hx
    · exact ha
    · exact h3 x hx
theorem paired_prs {H : Hp} : ∀ {bes : List (Addr × (Str × Int))}, (∀ x ∈ bes, H x.1 = some (.tup [.str x.2.1, .int x.2.2])) → Paired (PairAt H) (bes.map fun x => V.ref x.1) (bes.map (·.2))
  | [], _ => .nil
  | x :: r, h => .cons ⟨x.1, rfl, h x (List.mem_cons_self ..)⟩ (paired_prs fun y hy => h y (List.mem_cons_of_mem _ hy))
theorem sort_prs {K : PySem.W.Frag} {H : Hp} {l : Addr} {vs : List V} {ps : List (Str × Int)} {Q : VK} (hL : H l = some (.lst vs)) (hPr : Paired (PairAt H) vs ps) (q : ∀ (p : Addr) (us : List V) (ps2 : List (Str × Int)), H p = none → Paired (PairAt (upd H p (.lst us))) us ps2 → ps2.Perm ps → Q (.ref p) (upd H p (.lst us))) : rSortD K [.ref l] H Q := by
  obtain ⟨bes, h1, h2, h3⟩ := prs_zip hPr
  refine ⟨_, fun x => V.ref x.1, fun x => .tuple [.str x.2.1, .int x.2.2], l, bes, rfl, SqL.of (by rw [h1]; exact hL), fun x hx => ⟨.tup (SqT.of (h3 x hx)) (.cons (.str _) (.cons (.int _) .nil)), by simp [PyData.depth, PyData.depthAll]⟩, ?_, .inl ?_, fun p hp => ?_⟩
  · intro d1 e1 d2 e2
    obtain ⟨x1, _, rfl⟩ := List.mem_map.mp e1
    obtain ⟨x2, _, rfl⟩ := List.mem_map.mp e2
    simp [PySem.W.alike, PySem.W.alikeAll]
  · intro d1 e1
    obtain ⟨x1, _, rfl⟩ := List.mem_map.mp e1
    exact ⟨_, _, rfl⟩
  · have hp0 : (bes.mergeSort (PySem.W.dataLe false fun x : Addr × (Str × Int) => PyData.tuple [.str x.2.1, .int x.2.2])).Perm bes := List.mergeSort_perm _ _
    refine q p _ ((bes.mergeSort (PySem.W.dataLe false fun x : Addr × (Str × Int) => PyData.tuple [.str x.2.1, .int x.2.2])).map (·.2)) hp (paired_prs fun x hx => Ext.new hp _ _ (h3 x (hp0.mem_iff.mp hx))) ?_
    have z := hp0.map (fun x : Addr × (Str × Int) => x.2)
    rw [h2] at z
    exact z
end Pf


namespace Pf
open PySem PySem.Spec PyProof.Rows L2
theorem cut_ints (ns : List Int) (lo hi : Option Int) : ∃ cs : List Int, cutV (ns.map V.int) lo hi = cs.map V.int ∧ cs.length ≤ ns.length := by
  unfold cutV
  refine ⟨(ns.drop _).take _, by rw [List.map_take, List.map_drop], ?_⟩
  rw [List.length_take, List.length_drop]
  omega
theorem new_dec : ∀ k : Nat, k < 20 → ∀ n : Nat, n < 7 → ((cutS (Str.ofString "abcdefghijklmnopqrstuvwxyz") (some (k : Int)) (some ((k : Int) + (n : Int)))).cps.toList.Pairwise (· < ·) ∧ (∀ c ∈ (cutS (Str.ofString "abcdefghijklmnopqrstuvwxyz") (some (k : Int)) (some ((k : Int) + (n : Int)))).cps.toList, 97 ≤ c ∧ c ≤ 122) ∧ (cutS (Str.ofString "abcdefghijklmnopqrstuvwxyz") (some (k : Int)) (some ((k : Int) + (n : Int)))).cps.toList.length = n) := by decide +kernel
theorem new_ok {s : Int} {n : Nat} {N : Str} (e : N = cutS (Str.ofString "abcdefghijklmnopqrstuvwxyz") (some s) (some (s + (n : Int)))) (s0 : 0 ≤ s) (s1 : s < 20) (hn : n ≤ 6) : RiseS N ∧ Small N ∧ N.cps.toList.length = n := by
  obtain ⟨k, rfl⟩ := Int.eq_ofNat_of_zero_le s0
  subst e
  exact new_dec k (by omega) n (by omega)
theorem take_filter {α : Type} {xs : List α} {i : Nat} {x : α} (f : α → Bool) (h : xs[i]? = some x) : (xs.take (i + 1)).filter f = (xs.take i).filter f ++ if f x = true then [x] else [] := by
  rw [List.take_add_one, h, List.filter_append]
  congr 1
  cases e : f x <;> simp [List.filter, e]
theorem take_no {α : Type} {xs : List α} {i : Nat} {x : α} (f : α → Bool) (h : xs[i]? = some x) (e : f x = false) : (xs.take (i + 1)).filter f = (xs.take i).filter f := by
  rw [take_filter f h, if_neg (by rw [e]; exact Bool.false_ne_true), List.append_nil]
theorem take_yes {α : Type} {xs : List α} {i : Nat} {x : α} (f : α → Bool) (h : xs[i]? = some x) (e : f x = true) : (xs.take (i + 1)).filter f = (xs.take i).filter f ++ [x] := by
  rw [take_filter f h, if_pos e]
theorem filt_len {α : Type} (xs : List α) (f : α → Bool) (i : Nat) : ((xs.take i).filter f).length ≤ xs.length := by
  refine Nat.le_trans (List.length_filter_le ..) ?_
  rw [List.length_take]
  omega
theorem atI_g {α : Type} {l : List α} {i : Nat} {c : α} (h : l[i]? = some c) : atI l (0 + (i : Int)) = some c := by
  have hi := (List.getElem?_eq_some_iff.mp h).1
  rw [atI_get (by omega) (by omega), ← h, List.getElem?_eq_getElem hi]
  congr 1
  congr 1
  omega
theorem cut_take {xs : List V} {k : Nat} (h : k ≤ xs.length) : cutV xs none (some (0 + (k : Int))) = xs.take k := by
  unfold cutV
  rw [show (0 + (k : Int)) = (k : Int) by omega, HT.sIx_nat, show HT.sIx xs.length 0 none = 0 from rfl, show min k xs.length = k by omega]
  rfl
theorem cut_drop {xs : List V} {k : Nat} (h : k < xs.length) : cutV xs (some (0 + (k : Int) + 1)) none = xs.drop (k + 1) := by
  unfold cutV
  rw [show (0 + (k : Int) + 1) = ((k + 1 : Nat) : Int) by omega, HT.sIx_nat, show HT.sIx xs.length xs.length none = xs.length from rfl, show min (k + 1) xs.length = k + 1 by omega]
  exact List.take_of_length_le (by rw [List.length_drop]; exact Nat.le_refl _)
theorem cat_ok {K : PySem.W.Frag} {H : Hp} {a b : Addr} {xs ys : List V} {Q : VK} (ha : H a = some (.tup xs)) (hb : H b = some (.tup ys)) (hz : xs.length + ys.length ≤ 1000000) (q : ∀ c H', Ext H H' → H' c = some (.tup (xs ++ ys)) → Q (.ref c) H') : rCatA K (.ref a) (.ref b) H Q :=
  ⟨a, b, xs, ys, rfl, rfl, SqT.of ha, SqT.of hb, szL hz, fun e => q b H Ext.refl (by rw [e]; exact hb), fun _ e => q a H Ext.refl (by rw [e, List.append_nil]; exact ha), fun _ _ p hp => q p _ (Ext.new hp) upd_same⟩
theorem sl_take {K : PySem.W.Frag} {H : Hp} {a : Addr} {xs : List V} {k : Nat} {Q : VK} (ha : SqT K H a xs) (h : k < xs.length) (q : ∀ p, H p = none → Q (.ref p) (upd H p (.tup (xs.take k)))) : rSlA K (.ref a) none (some (0 + (k : Int))) H Q := by
  refine ⟨a, xs, rfl, ha, fun z => ?_, fun _ p hp => ?_⟩
  · have := z.2
    rw [show (0 + (k : Int)) = (k : Int) by omega, HT.sIx_nat] at this
    omega
  · rw [cut_take (by omega)]
    exact q p hp
theorem sl_drop {K : PySem.W.Frag} {H : Hp} {a : Addr} {xs : List V} {k : Nat} {Q : VK} (ha : SqT K H a xs) (h : k < xs.length) (q : ∀ p, H p = none → Q (.ref p) (upd H p (.tup (xs.drop (k + 1))))) : rSlA K (.ref a) (some (0 + (k : Int) + 1)) none H Q := by
  refine ⟨a, xs, rfl, ha, fun z => ?_, fun _ p hp => ?_⟩
  · have := z.1
    rw [show (0 + (k : Int) + 1) = ((k + 1 : Nat) : Int) by omega, HT.sIx_nat] at this
    omega
  · rw [cut_drop h]
    exact q p hp
theorem good_two {r : Rl} (g : GoodR r) : ∀ z ∈ r.prs, IsTwo z.1 := fun z hz => by
  obtain ⟨a, _, b, _, e⟩ := mem_prod (g.2.1.subset (List.mem_map.mpr ⟨z, hz, rfl⟩))
  exact ⟨a, b, e⟩
theorem plc_len (r : Rl) {x : Str} (hx : x.length ≤ 12) : (plc r x).length ≤ 144 := by
  have h1 := plcN_len r x x.length
  have h2 : x.length * x.length ≤ 12 * 12 := Nat.mul_le_mul hx hx
  unfold plc
  omega
section
variable {P : Program} {w : World} {K : PySem.W.Frag} {mg : Str → Option Value} {base : Heap}
abbrev CRules (P : Program) (w : World) (K : PySem.W.Frag) (mg : Str → Option Value) (base : Heap) : Prop := Ca P w K mg base 4 "_law_rules" ["_law_pen", "_law_small"] spRules
abbrev CString (P : Program) (w : World) (K : PySem.W.Frag) (mg : Str → Option Value) (base : Heap) : Prop := Ca P w K mg base 2 "_law_string" ["_law_pen", "_law_some_rules", "_law_most"] spString
abbrev s_law : Stmt := topS 41
theorem sc_law : FnScope ["_law_script", "_law_pen", "_law_turn", "_law_some", "_law_text", "_law_start", "_law_new", "_law_about", "_law_size", "_law_due", "_law_at", "_law_fewer", "_law_i", "_law_j", "_law_both", "_law_worth_here"] ["_law_script"] (defScope s_law) :=
  ⟨rfl, rfl, rfl, by decide +kernel, rfl, by decide +kernel, by decide +kernel⟩
def spLaw (K : PySem.W.Frag) : Sp := fun vs H Q _ => ∃ (a : Addr) (ns : List Int), vs = [.ref a] ∧ SqL K H a (ns.map V.int) ∧ ns.length ≤ 63 ∧ ∀ H', Q (.bl true) H'
theorem ok_law {f : Addr} {fd : FuncData} (F : Fun K "law" "law" s_law f fd) (c_law_rules : CRules P w K mg base) (c_law_string : CString P w K mg base) (c_law_draw : CDraw P w K mg base) (c_law_renamed_right : CRR P w K mg base) (c_law_places : CPlaces P w K mg base) (cpair_worth : CPW P w K mg base)
    (mlist : mg "list" = none) (mrange : mg "range" = none) (mlen : mg "len" = none) (mtuple : mg "tuple" = none) (msorted : mg "sorted" = none) : FnOk P w K mg base CX0 8 f fd ["_law_script"] (spLaw K) := by
  refine F.ok sc_law (fun vs H Q E h => ?_) (fun cdv A outer s H vs Q E hr h => ?_)
  · obtain ⟨a, ns, rfl, _⟩ := h
    rfl
  · obtain ⟨a0, ns, rfl, hS, hns, q⟩ := h
    refine ⟨_, (pss_cons (ps_set (i := 1) sc_law.nd rfl (.inl rfl) (pe_lst (pa_cons (pe_callTy (listOf K) (by rfl) mlist (by decide +kernel) (pa_cons (pe_slice (slL K) (pv 0) po_none (po_some pe_int)) pa_nil)) (pa_cons pe_int (pa_cons pe_int pa_nil)))))
      (pss_cons (ps_for PassesOwn.never rfl (pi_range1 (by rfl) mrange (pa_cons pe_int pa_nil)) (pg_name (i := 2) sc_law.nd rfl (.inl rfl)) (pss_cons (ps_set (i := 3) sc_law.nd rfl (.inr rfl) (pe_ca c_law_rules (hr.mono (by decide)) (by rfl) (pa_cons (pv 1) (pa_cons pe_bl pa_nil))))
      (pss_cons (ps_set (i := 4) sc_law.nd rfl (.inr rfl) (pe_ca c_law_string (hr.mono (by decide)) (by rfl) (pa_cons (pv 1) (pa_cons (pv 3) (pa_cons pe_int pa_nil)))))
      (pss_cons (ps_set (i := 5) sc_law.nd rfl (.inl rfl) (pe_ca c_law_draw (hr.mono (by decide)) (by rfl) (pa_cons (pv 1) (pa_cons pe_int pa_nil))))
      (pss_cons (ps_set (i := 6) sc_law.nd rfl (.inl rfl) (pe_slice sl_str pe_str (po_some (pv 5)) (po_some (pe_op op_add (pv 5) (pe_callB call_len_str (by rfl) mlen (by decide +kernel) (pa_cons (pe_ix (ixT K) (pv 3) pe_int (fun _ _ => rfl)) pa_nil))))))
      (pss_cons (ps_if (pt_not (pt_val (pe_ca c_law_renamed_right (hr.mono (by decide)) (by rfl) (pa_cons (pv 3) (pa_cons (pv 4) (pa_cons (pv 6) pa_nil)))))) (pss_one (ps_ret pe_bl)) pss_nil)
      (pss_cons (ps_set (i := 7) sc_law.nd rfl (.inl rfl) (pe_callTy (tupleOf K) (by rfl) mtuple (by decide +kernel) (pa_cons (pe_callB (cr_sortD K hr.units) (by rfl) msorted (by decide +kernel) (pa_cons (pe_lc (own := [("_law_both", 14), ("_law_worth_here", 15)]) (g := gTup K 2 (gCons (gName 14) (gCons (gName 15) gNil))) (by rfl) sc_law.nd (pi_tup (pe_ix (ixT K) (pv 3) pe_int (fun _ _ => rfl))) (blkOk_by (own := [("_law_both", 14), ("_law_worth_here", 15)]) (N := ["_law_script", "_law_pen", "_law_turn", "_law_some", "_law_text", "_law_start", "_law_new", "_law_about", "_law_size", "_law_due", "_law_at", "_law_fewer", "_law_i", "_law_j", "_law_both", "_law_worth_here"]) (sc := defScope s_law) (by decide +kernel)) (fun _ _ _ _ _ => (pgT K rfl (pgs_cons (pg_name (i := 14) sc_law.nd rfl (.inl rfl)) (pgs_cons (pg_name (i := 15) sc_law.nd rfl (.inl rfl)) pgs_nil)))) (fun _ _ _ _ _ => pts_nil) (fun _ _ _ _ _ => (pe_tup (pa_cons (pe_revX (pv 14)) (pa_cons (pv 15) pa_nil))))) pa_nil)) pa_nil)))
      (pss_cons (ps_set (i := 8) sc_law.nd rfl (.inr rfl) (pe_callB call_len_str (by rfl) mlen (by decide +kernel) (pa_cons (pv 4) pa_nil)))
      (pss_cons (ps_set (i := 9) sc_law.nd rfl (.inl rfl) (pe_callB (cr_sortD K hr.units) (by rfl) msorted (by decide +kernel) (pa_cons (pe_lc (own := [("_law_i", 12), ("_law_j", 13)]) (g := gTup K 2 (gCons (gName 12) (gCons (gName 13) gNil))) (by rfl) sc_law.nd (pi_list (pe_ca c_law_places (hr.mono (by decide)) (by rfl) (pa_cons (pv 3) (pa_cons (pv 4) pa_nil)))) (blkOk_by (own := [("_law_i", 12), ("_law_j", 13)]) (N := ["_law_script", "_law_pen", "_law_turn", "_law_some", "_law_text", "_law_start", "_law_new", "_law_about", "_law_size", "_law_due", "_law_at", "_law_fewer", "_law_i", "_law_j", "_law_both", "_law_worth_here"]) (sc := defScope s_law) (by decide +kernel)) (fun _ _ _ _ _ => (pgT K rfl (pgs_cons (pg_name (i := 12) sc_law.nd rfl (.inl rfl)) (pgs_cons (pg_name (i := 13) sc_law.nd rfl (.inl rfl)) pgs_nil)))) (fun _ _ _ _ _ => pts_nil) (fun _ _ _ _ _ => (pe_tup (pa_cons (pe_op op_sub (pe_op op_sub (pv 8) pe_int) (pv 13)) (pa_cons (pe_op op_sub (pe_op op_sub (pv 8) pe_int) (pv 12)) pa_nil))))) pa_nil)))
      (pss_cons (ps_if (pt_cmpR (neD K hr.units) (pe_ca c_law_places (hr.mono (by decide)) (by rfl) (pa_cons (pe_tup (pa_cons (pe_ix (ixT K) (pv 3) pe_int (fun _ _ => rfl)) (pa_cons (pv 7) (pa_cons (pe_ix (ixT K) (pv 3) pe_int (fun _ _ => rfl)) (pa_cons (pe_ix (ixT K) (pv 3) pe_int (fun _ _ => rfl)) (pa_cons (pe_tup pa_nil) pa_nil)))))) (pa_cons (pe_revX (pv 4)) pa_nil))) (pv 9) (nomark _)) (pss_one (ps_ret pe_bl)) pss_nil)
      (pss_cons (ps_if (pt_cmpR op_lt (pe_ix (ixT K) (pv 3) pe_int (fun _ _ => rfl)) pe_int (nomark _)) (pss_cons (ps_setLc (i := 9) (own := [("_law_i", 12), ("_law_j", 13)]) (g := gTup K 2 (gCons (gName 12) (gCons (gName 13) gNil))) (by rfl) sc_law.nd rfl rfl (sw_true rfl rfl rfl (by decide +kernel)) (pi_list (pe_ca c_law_places (hr.mono (by decide)) (by rfl) (pa_cons (pv 3) (pa_cons (pv 4) pa_nil)))) (blkOk_by (own := [("_law_i", 12), ("_law_j", 13)]) (N := ["_law_script", "_law_pen", "_law_turn", "_law_some", "_law_text", "_law_start", "_law_new", "_law_about", "_law_size", "_law_due", "_law_at", "_law_fewer", "_law_i", "_law_j", "_law_both", "_law_worth_here"]) (sc := defScope s_law) (by decide +kernel)) (fun _ _ _ _ _ => (pgT K rfl (pgs_cons (pg_name (i := 12) sc_law.nd rfl (.inl rfl)) (pgs_cons (pg_name (i := 13) sc_law.nd rfl (.inl rfl)) pgs_nil)))) (fun _ _ _ _ _ => (pts_one (pt_cmpR op_gt (pe_op op_sub (pv 13) (pv 12)) (pe_op op_add (pe_ix (ixT K) (pv 3) pe_int (fun _ _ => rfl)) pe_int) (nomark _)))) (fun _ _ _ _ _ => (pe_tup (pa_cons (pv 12) (pa_cons (pv 13) pa_nil)))))
      (pss_one (ps_if (pt_cmpR (neD K hr.units) (pe_ca c_law_places (hr.mono (by decide)) (by rfl) (pa_cons (pe_tup (pa_cons (pe_ix (ixT K) (pv 3) pe_int (fun _ _ => rfl)) (pa_cons (pe_ix (ixT K) (pv 3) pe_int (fun _ _ => rfl)) (pa_cons (pe_op op_add (pe_ix (ixT K) (pv 3) pe_int (fun _ _ => rfl)) pe_int) (pa_cons (pe_ix (ixT K) (pv 3) pe_int (fun _ _ => rfl)) (pa_cons (pe_tup pa_nil) pa_nil)))))) (pa_cons (pv 4) pa_nil))) (pv 9) (nomark _)) (pss_one (ps_ret pe_bl)) pss_nil))) pss_nil)
      (pss_one (ps_for PassesOwn.never rfl (pi_range1 (by rfl) mrange (pa_cons (pe_callB (lenQ K) (by rfl) mlen (by decide +kernel) (pa_cons (pe_ix (ixT K) (pv 3) pe_int (fun _ _ => rfl)) pa_nil)) pa_nil)) (pg_name (i := 10) sc_law.nd rfl (.inr rfl)) (pss_cons (ps_set (i := 11) sc_law.nd rfl (.inl rfl) (pe_tup (pa_cons (pe_ix (ixT K) (pv 3) pe_int (fun _ _ => rfl)) (pa_cons (pe_op (catA K) (pe_slice (slA K) (pe_ix (ixT K) (pv 3) pe_int (fun _ _ => rfl)) po_none (po_some (pv 10))) (pe_slice (slA K) (pe_ix (ixT K) (pv 3) pe_int (fun _ _ => rfl)) (po_some (pe_op op_add (pv 10) pe_int)) po_none)) (pa_cons (pe_ix (ixT K) (pv 3) pe_int (fun _ _ => rfl)) (pa_cons (pe_ix (ixT K) (pv 3) pe_int (fun _ _ => rfl)) (pa_cons (pe_tup pa_nil) pa_nil)))))))
      (pss_cons (ps_setLc (i := 9) (own := [("_law_i", 12), ("_law_j", 13)]) (g := gTup K 2 (gCons (gName 12) (gCons (gName 13) gNil))) (by rfl) sc_law.nd rfl rfl (sw_true rfl rfl rfl (by decide +kernel)) (pi_list (pe_ca c_law_places (hr.mono (by decide)) (by rfl) (pa_cons (pv 3) (pa_cons (pv 4) pa_nil)))) (blkOk_by (own := [("_law_i", 12), ("_law_j", 13)]) (N := ["_law_script", "_law_pen", "_law_turn", "_law_some", "_law_text", "_law_start", "_law_new", "_law_about", "_law_size", "_law_due", "_law_at", "_law_fewer", "_law_i", "_law_j", "_law_both", "_law_worth_here"]) (sc := defScope s_law) (by decide +kernel)) (fun _ _ _ _ _ => (pgT K rfl (pgs_cons (pg_name (i := 12) sc_law.nd rfl (.inl rfl)) (pgs_cons (pg_name (i := 13) sc_law.nd rfl (.inl rfl)) pgs_nil)))) (fun _ _ _ _ _ => (pts_one (pt_cmpR op_ne (pe_op op_add_str (pe_ix ix_str (pv 4) (pv 12) (fun _ _ => rfl)) (pe_ix ix_str (pv 4) (pv 13) (fun _ _ => rfl))) (pe_ix (ixT K) (pe_ix (ixT K) (pe_ix (ixT K) (pv 3) pe_int (fun _ _ => rfl)) (pv 10) (fun _ _ => rfl)) pe_int (fun _ _ => rfl)) (nomark _)))) (fun _ _ _ _ _ => (pe_tup (pa_cons (pv 12) (pa_cons (pv 13) pa_nil)))))
      (pss_one (ps_if (PW.pt (pw_or (pt_cmpR op_notN (pe_ca cpair_worth (hr.mono (by decide)) (by rfl) (pa_cons (pv 11) (pa_cons (pe_ix (ixT K) (pe_ix (ixT K) (pe_ix (ixT K) (pv 3) pe_int (fun _ _ => rfl)) (pv 10) (fun _ _ => rfl)) pe_int (fun _ _ => rfl)) pa_nil))) pe_non (nomark _)) (pw_or1 (pt_cmpR (neD K hr.units) (pe_ca c_law_places (hr.mono (by decide)) (by rfl) (pa_cons (pv 11) (pa_cons (pv 4) pa_nil))) (pv 9) (nomark _))))) (pss_one (ps_ret pe_bl)) pss_nil)))))))))))))))))
      (pss_one (ps_ret pe_bl)))), ?_⟩
    obtain ⟨cs, hcs, hcl⟩ := cut_ints ns none (some 63)
    refine ⟨.ref a0, rfl, 63, rfl, a0, _, rfl, hS, fun s1 hs1 => ⟨s1, _, rfl, .inl (SqL.of upd_same), fun c hc => ⟨szL (show 3 ≤ 1000000 by decide), fun pp hpp => ?_⟩⟩⟩
    have hP0 : Pen (upd (upd (upd H s1 (.lst (cutV (ns.map V.int) none (some 63)))) c (.lst (cutV (ns.map V.int) none (some 63)))) pp (.lst [.ref c, .int 0, .int 0])) pp c 0 :=
      ⟨cs, 0, 0, upd_same, by rw [upd_ne (fun e => by rw [e] at hpp; rw [← e, upd_same] at hpp; cases hpp), upd_same, hcs], by decide, by decide, by decide, by omega⟩
    refine ⟨6, rfl, by decide, by decide, for_range (n := 6) (fun i σ H2 => ∃ (y2 y3 y4 y5 y6 y7 y8 y9 y10 y11 y12 y13 y14 y15 : Option V), σ = [some (.ref a0), some (.ref pp), y2, y3, y4, y5, y6, y7, y8, y9, y10, y11, y12, y13, y14, y15] ∧ Pen H2 pp c (1240 * i))
      ⟨none, none, none, none, none, none, none, none, none, none, none, none, none, none, rfl, hP0⟩ (fun i σ H2 hi hv => ?_) (fun σ H2 hv => ?_)⟩
    · obtain ⟨y2, y3, y4, y5, y6, y7, y8, y9, y10, y11, y12, y13, y14, y15, rfl, hP2⟩ := hv
      refine ⟨_, rfl, pp, c, false, _, rfl, hP2, by omega, fun v r H3 hR3 ok g k3 hP3 => ?_⟩
      refine ⟨_, rfl, _, rfl, pp, c, v, r, 12, _, rfl, hR3, ok, GoodR.ofP g, by decide, by decide, hP3, by omega, fun x H4 hx hO k4 hP4 => ?_⟩
      refine ⟨_, rfl, pp, c, 20, _, rfl, hP4, by omega, by decide, by decide, fun s H5 s0 s1 k5 hP5 => ?_⟩
      have hR5 := RulesW.mono _ _ _ _ ((TupK.of k4 hP3).trans (TupK.of k5 hP4)) hR3
      clear k3 k4 k5 hR3 hP3 hP4 hP2 hP0
      obtain ⟨a, vp, vl, vk, rfl, hA, ⟨ap, pus, rfl, hPp, hRp⟩, hl, hs⟩ := id hR5
      have hx12 : x.length ≤ 12 := by omega
      have hl6 := ok.let6
      have hl1 := ok.let1
      have hpl := paired_len hRp
      have hok1 := ok.prs
      have hpc := plc_len r hx12
      have hpe : ∀ {H' : Hp}, Ext H5 H' → ((∃ o, H' ap = some (.frz o (.tup pus))) ∨ H' ap = some (.tup pus)) := fun k => hPp.elim (fun ⟨o, h⟩ => .inl ⟨o, k _ _ h⟩) (fun h => .inr (k _ _ h))
      have hRe : ∀ {H' : Hp}, Ext H5 H' → RulesW H' (.ref a) r := fun k => RulesW.mono _ _ _ _ (TupK.ext k) hR5
      have hle : ∀ {H' : Hp}, Ext H5 H' → TupOf IntAt H' vl r.loops := fun k => tupExt (R := IntAt) (fun _ _ _ z => z) k hl
      refine ⟨_, rfl, _, rfl, _, rfl, _, rfl, a, _, 0, _, rfl, rfl, SqT.of hA, rfl, r.letters, rfl, szL (by omega), _, _, rfl, rfl, _, rfl, _, rfl, szL (show 26 ≤ 1000000 by decide), ?_⟩
      obtain ⟨N, eN⟩ : ∃ N, N = cutS (Str.ofString "abcdefghijklmnopqrstuvwxyz") (some s) (some (s + (r.letters.length : Int))) := ⟨_, rfl⟩
      obtain ⟨rN, sN, lN⟩ := new_ok eN s0 s1 hl6
      have tell : Tell r.letters N := ⟨g.1, rN, by rw [lN]; exact Array.length_toList.symm⟩
      rw [← eN]
      refine ⟨_, rfl, _, rfl, _, rfl, .ref a, r, x, N, rfl, hR5, ok, g, tell, sN, hO, hx12, fun H6 k6 => ⟨true, rfl, iteF ?_⟩⟩
      -- the pairs turned about
      refine ⟨_, rfl, a, _, 1, _, rfl, rfl, SqT.of (k6 _ _ hA), rfl, ap, rfl, ⟨_, SqT.w (hpe k6)⟩, fun D hD => lc_tup (K := K) (xs := pus) (fun i H7 => ∃ ws, H7 D = some (.lst ws) ∧ Paired (PairAt H7) ws ((r.prs.take i).map revP) ∧ Ext H6 H7) ⟨[], upd_same, .nil, Ext.new hD⟩ (fun i H7 _ ⟨_, _, _, k7⟩ => SqT.w (hpe (k6.trans k7))) (fun i u H7 hi hv => ?_) (fun H7 hv => ?_)⟩
      · obtain ⟨ws, hL7, hPr7, k7⟩ := hv
        have hi12 : i < pus.length := (List.getElem?_eq_some_iff.mp hi).1
        have hwl := paired_len hPr7
        rw [List.length_map, List.length_take] at hwl
        obtain ⟨⟨x1, w1⟩, hx1, a1, rfl, ha1⟩ := paired_get hRp hi
        have hx2 : x1.length = 2 := (ok.pr _ (List.mem_of_getElem? hx1)).1.1
        refine ⟨a1, _, rfl, SqT.of (k7 _ _ (k6 _ _ ha1)), rfl, _, _, rfl, _, _, rfl, rfl, ?_⟩
        refine ⟨rfl, _, rfl, x1, rfl, szL (by omega), _, rfl, szL (show 2 ≤ 1000000 by decide), fun p hp => ?_⟩
        have nD : D ≠ p := ne_of_none hL7 hp
        have k8 : Ext H7 (upd H7 p (.tup [.str (revX x1), .int w1])) := Ext.new hp
        refine ⟨ws, k8 _ _ hL7, szLt (by omega), ws ++ [.ref p], upd_same, ?_, (k7.trans k8).put hD⟩
        rw [List.take_add_one, hx1, List.map_append]
        refine (paired_imp (fun v y hy => ?_) hPr7).snoc ⟨p, rfl, ?_⟩
        · obtain ⟨b, e, hb⟩ := hy
          exact ⟨b, e, tup_put hL7 k8 hb⟩
        · rw [upd_ne nD.symm, upd_same]
          rfl
      obtain ⟨ws7, hL7, hPr7, k7⟩ := hv
      rw [List.take_of_length_le (by omega)] at hPr7
      delta tNil
      refine sort_prs hL7 hPr7 fun p8 us ps2 hp8 hPr8 perm => ?_
      refine ⟨p8, us, rfl, .inl ⟨SqL.of upd_same, fun tab htab => ?_⟩⟩
      have k8 : Ext H7 (upd (upd H7 p8 (.lst us)) tab (.tup us)) := (Ext.new hp8).trans (Ext.new htab)
      have hTb : (upd (upd H7 p8 (.lst us)) tab (.tup us)) tab = some (.tup us) := upd_same
      have hPb : Paired (PairAt (upd (upd H7 p8 (.lst us)) tab (.tup us))) us ps2 := paired_imp (fun _ _ h => h.ext (Ext.new htab)) hPr8
      obtain ⟨H8, e8⟩ : ∃ h, h = upd (upd H7 p8 (.lst us)) tab (.tup us) := ⟨_, rfl⟩
      rw [← e8] at k8 hTb hPb ⊢
      have k58 := (k6.trans k7).trans k8
      clear e8 htab hPr8 hp8 hL7 hPr7 k7 k8 k6 hD
      refine ⟨_, rfl, x, rfl, szL (by omega), ?_⟩
      -- the places turned about
      refine ⟨_, rfl, _, rfl, .ref a, r, x, rfl, hRe k58, by omega, fun l9 ws9 H9 hL9 hP9 k9 => ?_⟩
      have hwl9 := paired_len hP9
      refine ⟨l9, rfl, ⟨_, SqL.of hL9⟩, fun D hD => lc_list (K := K) (xs := ws9) (fun i H10 => ∃ zs, H10 D = some (.lst zs) ∧ Paired (TwoAt H10) zs (((plc r x).take i).map (flipQ x.length)) ∧ Ext H9 H10) ⟨[], upd_same, .nil, Ext.new hD⟩ (fun i H10 _ ⟨_, _, _, k10⟩ => SqL.of (k10 _ _ hL9)) (fun i u H10 hi hv => ?_) (fun H10 hv => ?_)⟩
      · obtain ⟨zs, hL10, hPz, k10⟩ := hv
        have hi12 : i < ws9.length := (List.getElem?_eq_some_iff.mp hi).1
        have hzl := paired_len hPz
        rw [List.length_map, List.length_take] at hzl
        obtain ⟨⟨p1, p2⟩, hp1, a1, rfl, ha1⟩ := paired_get hP9 hi
        refine ⟨a1, _, rfl, SqT.of (k10 _ _ ha1), rfl, _, _, rfl, _, _, rfl, rfl, ?_⟩
        refine ⟨rfl, _, rfl, _, _, rfl, rfl, _, rfl, _, _, rfl, rfl, _, rfl, _, _, rfl, rfl, _, rfl, _, _, rfl, rfl, szL (show 2 ≤ 1000000 by decide), fun p hp => ?_⟩
        have nD : D ≠ p := ne_of_none hL10 hp
        have k11 : Ext H10 (upd H10 p (.tup [.int ((x.length : Int) - 1 - p2), .int ((x.length : Int) - 1 - p1)])) := Ext.new hp
        refine ⟨zs, k11 _ _ hL10, szLt (by omega), zs ++ [.ref p], upd_same, ?_, (k10.trans k11).put hD⟩
        rw [List.take_add_one, hp1, List.map_append]
        refine (paired_imp (fun v y hy => ?_) hPz).snoc ⟨p, rfl, ?_⟩
        · obtain ⟨b, e, hb⟩ := hy
          exact ⟨b, e, tup_put hL10 k11 hb⟩
        · rw [upd_ne nD.symm, upd_same]
          rfl
      obtain ⟨zs, hL10, hPz, k10⟩ := hv
      rw [List.take_of_length_le (by omega)] at hPz
      refine sort_twos hL10 hPz fun pd ud hpd hPd => ?_
      have k11 : Ext H10 (upd H10 pd (.lst ud)) := Ext.new hpd
      have hLd : (upd H10 pd (.lst ud)) pd = some (.lst ud) := upd_same
      obtain ⟨H11, e11⟩ : ∃ h, h = upd H10 pd (.lst ud) := ⟨_, rfl⟩
      rw [← e11] at k11 hLd hPd ⊢
      have k811 := (k9.trans k10).trans k11
      clear e11 hpd hL10 hPz k10 k11 k9 hD hL9 hP9
      have k511 := k58.trans k811
      rw [plc_turn (good_two g) perm] at hPd
      have hTb := k811 _ _ hTb
      have hPb : Paired (PairAt H11) us ps2 := paired_imp (fun _ _ h => h.ext k811) hPb
      refine ⟨_, rfl, a, _, 0, _, rfl, rfl, SqT.of (k511 _ _ hA), rfl, _, rfl, _, rfl, a, _, 2, _, rfl, rfl, SqT.of (k511 _ _ hA), rfl, _, rfl, a, _, 3, _, rfl, rfl, SqT.of (k511 _ _ hA), rfl, Nat.zero_le _, fun te hte => ⟨szL (show 5 ≤ 1000000 by decide), fun tt htt => ?_⟩⟩
      have k12a := Ext.new (o := .tup []) hte
      have k12b := Ext.new (o := .tup [.str r.letters, .ref tab, .int r.span, vl, .ref te]) htt
      have k12 := k12a.trans k12b
      have hRt : RulesW (upd (upd H11 te (.tup [])) tt (.tup [.str r.letters, .ref tab, .int r.span, vl, .ref te])) (.ref tt) (turnR r ps2) :=
        ⟨tt, _, vl, _, rfl, upd_same, ⟨tab, us, rfl, .inr (k12 _ _ hTb), paired_imp (fun _ _ h => h.ext k12) hPb⟩, hle (k511.trans k12), ⟨te, [], rfl, k12b _ _ upd_same, .nil⟩⟩
      refine ⟨_, rfl, x, rfl, szL (by omega), .ref tt, turnR r ps2, revX x, rfl, hRt, by rw [revX_len]; omega, fun l13 ws13 H13 hL13 hP13 k13 => ?_⟩
      have k113 := k12.trans k13
      have k513 := k511.trans k113
      refine ⟨_, rfl, ne_twos hL13 (k113 _ _ hLd) hP13 (paired_imp (fun _ _ h => h.ext k113) hPd) ⟨false, rfl, iteF ?_⟩⟩
      clear hRt k12a k12b k12 k13 k113 hL13 hP13 hPd hLd hTb hPb k811 k511 k58 htt hte perm
      -- a wider span
      refine ⟨_, rfl, a, _, 2, _, rfl, rfl, SqT.of (k513 _ _ hA), rfl, _, _, rfl, rfl, _, rfl, ite2 (fun e3 => ?_) (fun e3 => ?_)⟩
      · refine ⟨_, rfl, _, rfl, .ref a, r, x, rfl, hRe k513, by omega, fun l14 ws14 H14 hL14 hP14 k14 => ?_⟩
        have hwl := paired_len hP14
        refine ⟨l14, rfl, ⟨_, SqL.of hL14⟩, fun D hD => lc_list (K := K) (xs := ws14) (fun i H15 => ∃ zs, H15 D = some (.lst zs) ∧ Paired (TwoAt H15) zs (((plc r x).take i).filter fun p => decide (p.2 - p.1 > r.span + 1)) ∧ Ext H14 H15) ⟨[], upd_same, .nil, Ext.new hD⟩ (fun i H15 _ ⟨_, _, _, k15⟩ => SqL.of (k15 _ _ hL14)) (fun i u H15 hi hv => ?_) (fun H15 hv => ?_)⟩
        · obtain ⟨zs, hL15, hPz, k15⟩ := hv
          have hi12 : i < ws14.length := (List.getElem?_eq_some_iff.mp hi).1
          have hzl := paired_len hPz
          have hfl := filt_len (plc r x) (fun p => decide (p.2 - p.1 > r.span + 1)) i
          obtain ⟨⟨p1, p2⟩, hp1, a1, rfl, ha1⟩ := paired_get hP14 hi
          have k515 := k513.trans (k14.trans k15)
          refine ⟨a1, _, rfl, SqT.of (k15 _ _ ha1), rfl, _, _, rfl, _, _, rfl, rfl, ?_⟩
          refine ⟨rfl, _, rfl, _, rfl, _, _, rfl, rfl, _, rfl, a, _, 2, _, rfl, rfl, SqT.of (k515 _ _ hA), rfl, _, _, rfl, rfl, _, _, rfl, rfl, _, rfl, ?_⟩
          cases e : decide (p2 - p1 > r.span + 1) with
          | false => exact iteF ⟨zs, hL15, by rw [take_no _ hp1 e]; exact hPz, k15⟩
          | true =>
            refine iteT ⟨_, rfl, _, rfl, szL (show 2 ≤ 1000000 by decide), fun p hp => ?_⟩
            have nD : D ≠ p := ne_of_none hL15 hp
            have k16 : Ext H15 (upd H15 p (.tup [.int p1, .int p2])) := Ext.new hp
            refine ⟨zs, k16 _ _ hL15, szLt (by omega), zs ++ [.ref p], upd_same, ?_, (k15.trans k16).put hD⟩
            rw [take_yes _ hp1 e]
            refine (paired_imp (fun v y hy => ?_) hPz).snoc ⟨p, rfl, ?_⟩
            · obtain ⟨b, e, hb⟩ := hy
              exact ⟨b, e, tup_put hL15 k16 hb⟩
            · rw [upd_ne nD.symm, upd_same]
        obtain ⟨zs, hL15, hPz, k15⟩ := hv
        rw [List.take_of_length_le (by omega), ← plc_wid] at hPz
        have k515 := k513.trans (k14.trans k15)
        refine ⟨_, rfl, a, _, 0, _, rfl, rfl, SqT.of (k515 _ _ hA), rfl, _, rfl, a, _, 1, _, rfl, rfl, SqT.of (k515 _ _ hA), rfl, _, rfl, a, _, 2, _, rfl, rfl, SqT.of (k515 _ _ hA), rfl, _, _, rfl, rfl, _, rfl, a, _, 3, _, rfl, rfl, SqT.of (k515 _ _ hA), rfl, Nat.zero_le _, fun te hte => ⟨szL (show 5 ≤ 1000000 by decide), fun tt htt => ?_⟩⟩
        have k16a := Ext.new (o := .tup []) hte
        have k16b := Ext.new (o := .tup [.str r.letters, .ref ap, .int (r.span + 1), vl, .ref te]) htt
        have k16 := k16a.trans k16b
        have hRt : RulesW (upd (upd H15 te (.tup [])) tt (.tup [.str r.letters, .ref ap, .int (r.span + 1), vl, .ref te])) (.ref tt) (widR r) :=
          ⟨tt, _, vl, _, rfl, upd_same, ⟨ap, pus, rfl, hpe (k515.trans k16), paired_imp (fun _ _ h => h.ext (k515.trans k16)) hRp⟩, hle (k515.trans k16), ⟨te, [], rfl, k16b _ _ upd_same, .nil⟩⟩
        refine ⟨_, rfl, .ref tt, widR r, x, rfl, hRt, by omega, fun l17 ws17 H17 hL17 hP17 k17 => ?_⟩
        have k617 := k16.trans k17
        refine ⟨_, rfl, ne_twos hL17 (k617 _ _ hL15) hP17 (paired_imp (fun _ _ h => h.ext k617) hPz) ⟨false, rfl, iteF ?_⟩⟩
        have k518 := k515.trans k617
        obtain ⟨H18, e18⟩ : ∃ h, h = H17 := ⟨_, rfl⟩
        rw [← e18] at k518 ⊢
        clear e18 k617 k16 k16a k16b hRt hte htt hL17 hP17 k17 k515 hL15 hPz k15 k14 hL14 hP14 k513 hD
        -- a pair less
        refine ⟨_, rfl, a, _, 1, _, rfl, rfl, SqT.of (k518 _ _ hA), rfl, ap, pus, rfl, .inr (SqT.w (hpe k518)), _, rfl, by omega, by omega, for_range (lo := 0) (n := (pus.length : Int).toNat) (fun j σ H19 => ∃ (z9 z10 z11 : Option V), σ = [some (.ref a0), some (.ref pp), some (.int (0 + (i : Int))), some (.ref a), some (.str x), some (.int s), some (.str N), some (.ref tab), some (.int x.length), z9, z10, z11, y12, y13, y14, y15] ∧ Ext H5 H19)
          ⟨_, _, _, rfl, k518⟩ (fun j σ H19 hj hv => ?_) (fun σ H19 hv => ?_)⟩
        · obtain ⟨z9, z10, z11, rfl, k19⟩ := hv
          have hj12 : j < pus.length := by omega
          obtain ⟨u, hu⟩ : ∃ u, pus[j]? = some u := ⟨_, List.getElem?_eq_getElem hj12⟩
          obtain ⟨⟨x1, w1⟩, hx1, a1, rfl, ha1⟩ := paired_get hRp hu
          have ht1 : (r.prs.map (·.1))[j]? = some x1 := by rw [List.getElem?_map, hx1]; rfl
          refine ⟨_, rfl, a, _, 0, _, rfl, rfl, SqT.of (k19 _ _ hA), rfl, _, rfl, a, _, 1, _, rfl, rfl, SqT.of (k19 _ _ hA), rfl, _, rfl, _, rfl, sl_take (SqT.w (hpe k19)) hj12 fun t1 ht1' => ?_⟩
          have k20 := k19.trans (Ext.new (o := .tup (pus.take j)) ht1')
          refine ⟨_, rfl, a, _, 1, _, rfl, rfl, SqT.of (k20 _ _ hA), rfl, _, rfl, _, _, rfl, rfl, _, rfl, ?_⟩
          delta tNoPart
          refine sl_drop (SqT.w (hpe k20)) hj12 fun t2 ht2' => ?_
          have k21a := Ext.new (o := .tup (pus.drop (j + 1))) ht2'
          have k21 := k20.trans k21a
          refine cat_ok (k21a _ _ upd_same) upd_same (by rw [List.length_take, List.length_drop]; omega) fun t3 H22 k22a ht3 => ?_
          have k22 := k21.trans k22a
          clear k22a k21 k21a k20 ht1' ht2'
          refine ⟨_, rfl, a, _, 2, _, rfl, rfl, SqT.of (k22 _ _ hA), rfl, _, rfl, a, _, 3, _, rfl, rfl, SqT.of (k22 _ _ hA), rfl, Nat.zero_le _, fun te hte => ⟨szL (show 5 ≤ 1000000 by decide), fun tf htf => ?_⟩⟩
          have k23a := Ext.new (o := .tup []) hte
          have k23b := Ext.new (o := .tup [.str r.letters, .ref t3, .int r.span, vl, .ref te]) htf
          have k23c := k23a.trans k23b
          have k23 := k22.trans k23c
          have hPf : Paired (PairAt H5) (pus.take j ++ pus.drop (j + 1)) (r.prs.take j ++ r.prs.drop (j + 1)) := paired_app (paired_take j hRp) (paired_drop (j + 1) hRp)
          have hRf : RulesW (upd (upd H22 te (.tup [])) tf (.tup [.str r.letters, .ref t3, .int r.span, vl, .ref te])) (.ref tf) (fewR r j) :=
            ⟨tf, _, vl, _, rfl, upd_same, ⟨t3, _, rfl, .inr (k23c _ _ ht3), paired_imp (fun _ _ h => h.ext k23) hPf⟩, hle k23, ⟨te, [], rfl, k23b _ _ upd_same, .nil⟩⟩
          obtain ⟨H23, e23⟩ : ∃ h, h = upd (upd H22 te (.tup [])) tf (.tup [.str r.letters, .ref t3, .int r.span, vl, .ref te]) := ⟨_, rfl⟩
          rw [← e23] at k23 hRf ⊢
          clear e23 k23a k23b k23c hte htf ht3 k22
          refine ⟨_, rfl, _, rfl, .ref a, r, x, rfl, hRe k23, by omega, fun l24 ws24 H24 hL24 hP24 k24 => ?_⟩
          have hwl := paired_len hP24
          refine ⟨l24, rfl, ⟨_, SqL.of hL24⟩, fun D hD => lc_list (K := K) (xs := ws24) (fun i H25 => ∃ zs, H25 D = some (.lst zs) ∧ Paired (TwoAt H25) zs (((plc r x).take i).filter fun p => !decide (tx2 x p = x1)) ∧ Ext H24 H25) ⟨[], upd_same, .nil, Ext.new hD⟩ (fun i H25 _ ⟨_, _, _, k25⟩ => SqL.of (k25 _ _ hL24)) (fun t u H25 hi hv => ?_) (fun H25 hv => ?_)⟩
          · obtain ⟨zs, hL25, hPz, k25⟩ := hv
            have hi12 : t < ws24.length := (List.getElem?_eq_some_iff.mp hi).1
            have hzl := paired_len hPz
            have hfl := filt_len (plc r x) (fun p => !decide (tx2 x p = x1)) t
            obtain ⟨⟨p1, p2⟩, hp1, a2, rfl, ha2⟩ := paired_get hP24 hi
            obtain ⟨⟨b0, b1, b2⟩, _⟩ := mem_plc.mp (List.mem_of_getElem? hp1)
            have b0 : 0 ≤ p1 := b0
            have b1 : p1 < p2 := b1
            have b2 : p2 < x.length := b2
            have k525 := k23.trans (k24.trans k25)
            refine ⟨a2, _, rfl, SqT.of (k25 _ _ ha2), rfl, _, _, rfl, _, _, rfl, rfl, ?_⟩
            refine ⟨rfl, _, rfl, _, rfl, x, p1, _, rfl, rfl, szL (by omega), sgn_at b0 (by omega), _, rfl, _, rfl, x, p2, _, rfl, rfl, szL (by omega), sgn_at (by omega) b2, _, _, rfl, rfl, szL (show 1 + 1 ≤ 1000000 by decide), ?_⟩
            refine ⟨_, rfl, a, _, 1, _, rfl, rfl, SqT.of (k525 _ _ hA), rfl, _, rfl, ap, pus, _, _, rfl, rfl, SqT.w (hpe k525), atI_g hu, a1, _, 0, _, rfl, rfl, SqT.of (k525 _ _ ha1), rfl, rfl, _, rfl, ?_⟩
            have e0 : (!decide ((V.str (⟨#[x.cps.toList.getD p1.toNat 0]⟩ ++ ⟨#[x.cps.toList.getD p2.toNat 0]⟩) : V) = V.str x1)) = !decide (tx2 x (p1, p2) = x1) := by
              congr 1
              exact decide_eq_decide.mpr ⟨fun h => V.str.inj h, fun h => congrArg V.str h⟩
            rw [e0]
            cases e : (!decide (tx2 x (p1, p2) = x1)) with
            | false => exact iteF ⟨zs, hL25, by rw [take_no _ hp1 e]; exact hPz, k25⟩
            | true =>
              refine iteT ⟨_, rfl, _, rfl, szL (show 2 ≤ 1000000 by decide), fun p hp => ?_⟩
              have nD : D ≠ p := ne_of_none hL25 hp
              have k26 : Ext H25 (upd H25 p (.tup [.int p1, .int p2])) := Ext.new hp
              refine ⟨zs, k26 _ _ hL25, szLt (by omega), zs ++ [.ref p], upd_same, ?_, (k25.trans k26).put hD⟩
              rw [take_yes _ hp1 e]
              refine (paired_imp (fun v y hy => ?_) hPz).snoc ⟨p, rfl, ?_⟩
              · obtain ⟨b, e, hb⟩ := hy
                exact ⟨b, e, tup_put hL25 k26 hb⟩
              · rw [upd_ne nD.symm, upd_same]
          · obtain ⟨zs, hL25, hPz, k25⟩ := hv
            rw [List.take_of_length_le (by omega), ← plc_few ok.pn ht1] at hPz
            have k525 := k23.trans (k24.trans k25)
            have hRf2 := RulesW.mono _ _ _ _ (TupK.ext (k24.trans k25)) hRf
            refine ⟨_, rfl, _, rfl, a, _, 1, _, rfl, rfl, SqT.of (k525 _ _ hA), rfl, _, rfl, ap, pus, _, _, rfl, rfl, SqT.w (hpe k525), atI_g hu, a1, _, 0, _, rfl, rfl, SqT.of (k525 _ _ ha1), rfl, .ref tf, fewR r j, x1, rfl, hRf2, ?_⟩
            rw [pw_few ok.pn ht1]
            refine ⟨rfl, false, congrArg V.bl (by simp), iteF ?_⟩
            refine ⟨_, rfl, _, rfl, .ref tf, fewR r j, x, rfl, hRf2, by omega, fun l27 ws27 H27 hL27 hP27 k27 => ?_⟩
            refine ⟨_, rfl, ne_twos hL27 (k27 _ _ hL25) hP27 (paired_imp (fun _ _ h => h.ext k27) hPz) ⟨false, rfl, iteF ⟨_, _, _, rfl, k525.trans k27⟩⟩⟩
        · obtain ⟨z9, z10, z11, rfl, k19⟩ := hv
          exact ⟨_, _, _, _, _, _, _, _, _, _, _, _, _, _, rfl, (hP5.ext k19).mono (by omega)⟩
      · have k518 := k513
        obtain ⟨H18, e18⟩ : ∃ h, h = H13 := ⟨_, rfl⟩
        rw [← e18] at k518 ⊢
        -- a pair less
        refine ⟨_, rfl, a, _, 1, _, rfl, rfl, SqT.of (k518 _ _ hA), rfl, ap, pus, rfl, .inr (SqT.w (hpe k518)), _, rfl, by omega, by omega, for_range (lo := 0) (n := (pus.length : Int).toNat) (fun j σ H19 => ∃ (z9 z10 z11 : Option V), σ = [some (.ref a0), some (.ref pp), some (.int (0 + (i : Int))), some (.ref a), some (.str x), some (.int s), some (.str N), some (.ref tab), some (.int x.length), z9, z10, z11, y12, y13, y14, y15] ∧ Ext H5 H19)
          ⟨_, _, _, rfl, k518⟩ (fun j σ H19 hj hv => ?_) (fun σ H19 hv => ?_)⟩
        · obtain ⟨z9, z10, z11, rfl, k19⟩ := hv
          have hj12 : j < pus.length := by omega
          obtain ⟨u, hu⟩ : ∃ u, pus[j]? = some u := ⟨_, List.getElem?_eq_getElem hj12⟩
          obtain ⟨⟨x1, w1⟩, hx1, a1, rfl, ha1⟩ := paired_get hRp hu
          have ht1 : (r.prs.map (·.1))[j]? = some x1 := by rw [List.getElem?_map, hx1]; rfl
          refine ⟨_, rfl, a, _, 0, _, rfl, rfl, SqT.of (k19 _ _ hA), rfl, _, rfl, a, _, 1, _, rfl, rfl, SqT.of (k19 _ _ hA), rfl, _, rfl, _, rfl, sl_take (SqT.w (hpe k19)) hj12 fun t1 ht1' => ?_⟩
          have k20 := k19.trans (Ext.new (o := .tup (pus.take j)) ht1')
          refine ⟨_, rfl, a, _, 1, _, rfl, rfl, SqT.of (k20 _ _ hA), rfl, _, rfl, _, _, rfl, rfl, _, rfl, ?_⟩
          delta tNoPart
          refine sl_drop (SqT.w (hpe k20)) hj12 fun t2 ht2' => ?_
          have k21a := Ext.new (o := .tup (pus.drop (j + 1))) ht2'
          have k21 := k20.trans k21a
          refine cat_ok (k21a _ _ upd_same) upd_same (by rw [List.length_take, List.length_drop]; omega) fun t3 H22 k22a ht3 => ?_
          have k22 := k21.trans k22a
          clear k22a k21 k21a k20 ht1' ht2'
          refine ⟨_, rfl, a, _, 2, _, rfl, rfl, SqT.of (k22 _ _ hA), rfl, _, rfl, a, _, 3, _, rfl, rfl, SqT.of (k22 _ _ hA), rfl, Nat.zero_le _, fun te hte => ⟨szL (show 5 ≤ 1000000 by decide), fun tf htf => ?_⟩⟩
          have k23a := Ext.new (o := .tup []) hte
          have k23b := Ext.new (o := .tup [.str r.letters, .ref t3, .int r.span, vl, .ref te]) htf
          have k23c := k23a.trans k23b
          have k23 := k22.trans k23c
          have hPf : Paired (PairAt H5) (pus.take j ++ pus.drop (j + 1)) (r.prs.take j ++ r.prs.drop (j + 1)) := paired_app (paired_take j hRp) (paired_drop (j + 1) hRp)
          have hRf : RulesW (upd (upd H22 te (.tup [])) tf (.tup [.str r.letters, .ref t3, .int r.span, vl, .ref te])) (.ref tf) (fewR r j) :=
            ⟨tf, _, vl, _, rfl, upd_same, ⟨t3, _, rfl, .inr (k23c _ _ ht3), paired_imp (fun _ _ h => h.ext k23) hPf⟩, hle k23, ⟨te, [], rfl, k23b _ _ upd_same, .nil⟩⟩
          obtain ⟨H23, e23⟩ : ∃ h, h = upd (upd H22 te (.tup [])) tf (.tup [.str r.letters, .ref t3, .int r.span, vl, .ref te]) := ⟨_, rfl⟩
          rw [← e23] at k23 hRf ⊢
          clear e23 k23a k23b k23c hte htf ht3 k22
          refine ⟨_, rfl, _, rfl, .ref a, r, x, rfl, hRe k23, by omega, fun l24 ws24 H24 hL24 hP24 k24 => ?_⟩
          have hwl := paired_len hP24
          refine ⟨l24, rfl, ⟨_, SqL.of hL24⟩, fun D hD => lc_list (K := K) (xs := ws24) (fun i H25 => ∃ zs, H25 D = some (.lst zs) ∧ Paired (TwoAt H25) zs (((plc r x).take i).filter fun p => !decide (tx2 x p = x1)) ∧ Ext H24 H25) ⟨[], upd_same, .nil, Ext.new hD⟩ (fun i H25 _ ⟨_, _, _, k25⟩ => SqL.of (k25 _ _ hL24)) (fun t u H25 hi hv => ?_) (fun H25 hv => ?_)⟩
          · obtain ⟨zs, hL25, hPz, k25⟩ := hv
            have hi12 : t < ws24.length := (List.getElem?_eq_some_iff.mp hi).1
            have hzl := paired_len hPz
            have hfl := filt_len (plc r x) (fun p => !decide (tx2 x p = x1)) t
            obtain ⟨⟨p1, p2⟩, hp1, a2, rfl, ha2⟩ := paired_get hP24 hi
            obtain ⟨⟨b0, b1, b2⟩, _⟩ := mem_plc.mp (List.mem_of_getElem? hp1)
            have b0 : 0 ≤ p1 := b0
            have b1 : p1 < p2 := b1
            have b2 : p2 < x.length := b2
            have k525 := k23.trans (k24.trans k25)
            refine ⟨a2, _, rfl, SqT.of (k25 _ _ ha2), rfl, _, _, rfl, _, _, rfl, rfl, ?_⟩
            refine ⟨rfl, _, rfl, _, rfl, x, p1, _, rfl, rfl, szL (by omega), sgn_at b0 (by omega), _, rfl, _, rfl, x, p2, _, rfl, rfl, szL (by omega), sgn_at (by omega) b2, _, _, rfl, rfl, szL (show 1 + 1 ≤ 1000000 by decide), ?_⟩
            refine ⟨_, rfl, a, _, 1, _, rfl, rfl, SqT.of (k525 _ _ hA), rfl, _, rfl, ap, pus, _, _, rfl, rfl, SqT.w (hpe k525), atI_g hu, a1, _, 0, _, rfl, rfl, SqT.of (k525 _ _ ha1), rfl, rfl, _, rfl, ?_⟩
            have e0 : (!decide ((V.str (⟨#[x.cps.toList.getD p1.toNat 0]⟩ ++ ⟨#[x.cps.toList.getD p2.toNat 0]⟩) : V) = V.str x1)) = !decide (tx2 x (p1, p2) = x1) := by
              congr 1
              exact decide_eq_decide.mpr ⟨fun h => V.str.inj h, fun h => congrArg V.str h⟩
            rw [e0]
            cases e : (!decide (tx2 x (p1, p2) = x1)) with
            | false => exact iteF ⟨zs, hL25, by rw [take_no _ hp1 e]; exact hPz, k25⟩
            | true =>
              refine iteT ⟨_, rfl, _, rfl, szL (show 2 ≤ 1000000 by decide), fun p hp => ?_⟩
              have nD : D ≠ p := ne_of_none hL25 hp
              have k26 : Ext H25 (upd H25 p (.tup [.int p1, .int p2])) := Ext.new hp
              refine ⟨zs, k26 _ _ hL25, szLt (by omega), zs ++ [.ref p], upd_same, ?_, (k25.trans k26).put hD⟩
              rw [take_yes _ hp1 e]
              refine (paired_imp (fun v y hy => ?_) hPz).snoc ⟨p, rfl, ?_⟩
              · obtain ⟨b, e, hb⟩ := hy
                exact ⟨b, e, tup_put hL25 k26 hb⟩
              · rw [upd_ne nD.symm, upd_same]
          · obtain ⟨zs, hL25, hPz, k25⟩ := hv
            rw [List.take_of_length_le (by omega), ← plc_few ok.pn ht1] at hPz
            have k525 := k23.trans (k24.trans k25)
            have hRf2 := RulesW.mono _ _ _ _ (TupK.ext (k24.trans k25)) hRf
            refine ⟨_, rfl, _, rfl, a, _, 1, _, rfl, rfl, SqT.of (k525 _ _ hA), rfl, _, rfl, ap, pus, _, _, rfl, rfl, SqT.w (hpe k525), atI_g hu, a1, _, 0, _, rfl, rfl, SqT.of (k525 _ _ ha1), rfl, .ref tf, fewR r j, x1, rfl, hRf2, ?_⟩
            rw [pw_few ok.pn ht1]
            refine ⟨rfl, false, congrArg V.bl (by simp), iteF ?_⟩
            refine ⟨_, rfl, _, rfl, .ref tf, fewR r j, x, rfl, hRf2, by omega, fun l27 ws27 H27 hL27 hP27 k27 => ?_⟩
            refine ⟨_, rfl, ne_twos hL27 (k27 _ _ hL25) hP27 (paired_imp (fun _ _ h => h.ext k27) hPz) ⟨false, rfl, iteF ⟨_, _, _, rfl, k525.trans k27⟩⟩⟩
        · obtain ⟨z9, z10, z11, rfl, k19⟩ := hv
          exact ⟨_, _, _, _, _, _, _, _, _, _, _, _, _, _, rfl, (hP5.ext k19).mono (by omega)⟩
    · obtain ⟨y2, y3, y4, y5, y6, y7, y8, y9, y10, y11, y12, y13, y14, y15, rfl, hP2⟩ := hv
      exact q _
end
end Pf


namespace Pf
open PySem PySem.Spec PyProof.Rows L2
def LN : List Str := ["stacked", "inner", "inner free", "forked", "branch", "fork free", "lone", "lone free", "open"]
/-! ### what the top has written; the law's own head -/
theorem all_mk {l : PySem.W.OpenLaw} {w : World} {K : PySem.W.Frag} {h : Heap} {mg : Str → Option Value} {fa f0 f1 f2 f3 f4 f5 f6 f7 f8 f9 f10 f11 f12 f13 f14 f15 f16 f17 f18 f19 f20 f21 f22 f23 f24 f25 f26 f27 f28 f29 f30 f31 : Addr} (X : K.In h) (G : h.Ns mainGlobals mg) (hfa : mg "law" = some (.ref fa))
    {od0 an0 od1 an1 od2 an2 od3 an3 od4 an4 od5 an5 od6 an6 od7 an7 od8 an8 od9 an9 od10 an10 od11 an11 od12 an12 od13 an13 od14 an14 od15 an15 od16 an16 od17 an17 od18 an18 od19 an19 od20 an20 od21 an21 od22 an22 od23 an23 od24 an24 od25 an25 od26 an26 od27 an27 od28 an28 od29 an29 od30 an30 od31 an31 : Option Addr} {sl0 sl1 sl2 sl3 sl4 sl5 sl6 sl7 sl8 sl9 sl10 sl11 sl12 sl13 sl14 sl15 sl16 sl17 sl18 sl19 sl20 sl21 sl22 sl23 sl24 sl25 sl26 sl27 sl28 sl29 sl30 sl31 : Array (Option Value)} {oc0 kV0 dc0 pm0 cd0 ct0 oc1 kV1 dc1 pm1 cd1 ct1 oc2 kV2 dc2 pm2 cd2 ct2 oc3 kV3 dc3 pm3 cd3 ct3 oc4 kV4 dc4 pm4 cd4 ct4 oc5 kV5 dc5 pm5 cd5 ct5 oc6 kV6 dc6 pm6 cd6 ct6 oc7 kV7 dc7 pm7 cd7 ct7 oc8 kV8 dc8 pm8 cd8 ct8 oc9 kV9 dc9 pm9 cd9 ct9 oc10 kV10 dc10 pm10 cd10 ct10 oc11 kV11 dc11 pm11 cd11 ct11 oc12 kV12 dc12 pm12 cd12 ct12 oc13 kV13 dc13 pm13 cd13 ct13 oc14 kV14 dc14 pm14 cd14 ct14 oc15 kV15 dc15 pm15 cd15 ct15 oc16 kV16 dc16 pm16 cd16 ct16 oc17 kV17 dc17 pm17 cd17 ct17 oc18 kV18 dc18 pm18 cd18 ct18 oc19 kV19 dc19 pm19 cd19 ct19 oc20 kV20 dc20 pm20 cd20 ct20 oc21 kV21 dc21 pm21 cd21 ct21 oc22 kV22 dc22 pm22 cd22 ct22 oc23 kV23 dc23 pm23 cd23 ct23 oc24 kV24 dc24 pm24 cd24 ct24 oc25 kV25 dc25 pm25 cd25 ct25 oc26 kV26 dc26 pm26 cd26 ct26 oc27 kV27 dc27 pm27 cd27 ct27 oc28 kV28 dc28 pm28 cd28 ct28 oc29 kV29 dc29 pm29 cd29 ct29 oc30 kV30 dc30 pm30 cd30 ct30 oc31 kV31 dc31 pm31 cd31 ct31 : Value} {aL : Addr} {odG : Option Addr} {slG : Array (Option Value)} {nG : Nat} {tG0 tG1 tG2 tG3 tG4 tG5 tG6 tG7 tG8 : Tok} {tI0 : Tok} {tI1 : Tok} {tI2 : Tok} {tI3 : Tok} {tI4 : Tok} {tI5 : Tok} 
    (a0 : PySem.W.nsIn K mainGlobals "is_whole" = some (some (.ref f0))) (l0 : K.lookup f0 = some ⟨oc0, od0, .func (PySem.W.fnOf "is_whole" "is_whole" (defArgs s_is_whole) (defBody s_is_whole) (defScope s_is_whole) .none kV0 dc0 pm0 an0 cd0 ct0), sl0⟩) (c0 : PySem.W.codeIn K cd0 "is_whole" = true) (k0 : PySem.W.keepIn K (.ref f0) = true)
    (a1 : PySem.W.nsIn K mainGlobals "is_row" = some (some (.ref f1))) (l1 : K.lookup f1 = some ⟨oc1, od1, .func (PySem.W.fnOf "is_row" "is_row" (defArgs s_is_row) (defBody s_is_row) (defScope s_is_row) .none kV1 dc1 pm1 an1 cd1 ct1), sl1⟩) (c1 : PySem.W.codeIn K cd1 "is_row" = true) (k1 : PySem.W.keepIn K (.ref f1) = true)
    (a2 : PySem.W.nsIn K mainGlobals "is_worth" = some (some (.ref f2))) (l2 : K.lookup f2 = some ⟨oc2, od2, .func (PySem.W.fnOf "is_worth" "is_worth" (defArgs s_is_worth) (defBody s_is_worth) (defScope s_is_worth) .none kV2 dc2 pm2 an2 cd2 ct2), sl2⟩) (c2 : PySem.W.codeIn K cd2 "is_worth" = true) (k2 : PySem.W.keepIn K (.ref f2) = true)
    (a3 : PySem.W.nsIn K mainGlobals "is_span" = some (some (.ref f3))) (l3 : K.lookup f3 = some ⟨oc3, od3, .func (PySem.W.fnOf "is_span" "is_span" (defArgs s_is_span) (defBody s_is_span) (defScope s_is_span) .none kV3 dc3 pm3 an3 cd3 ct3), sl3⟩) (c3 : PySem.W.codeIn K cd3 "is_span" = true) (k3 : PySem.W.keepIn K (.ref f3) = true)
    (a4 : PySem.W.nsIn K mainGlobals "is_both" = some (some (.ref f4))) (l4 : K.lookup f4 = some ⟨oc4, od4, .func (PySem.W.fnOf "is_both" "is_both" (defArgs s_is_both) (defBody s_is_both) (defScope s_is_both) .none kV4 dc4 pm4 an4 cd4 ct4), sl4⟩) (c4 : PySem.W.codeIn K cd4 "is_both" = true) (k4 : PySem.W.keepIn K (.ref f4) = true)
    (a5 : PySem.W.nsIn K mainGlobals "rises" = some (some (.ref f5))) (l5 : K.lookup f5 = some ⟨oc5, od5, .func (PySem.W.fnOf "rises" "rises" (defArgs s_rises) (defBody s_rises) (defScope s_rises) .none kV5 dc5 pm5 an5 cd5 ct5), sl5⟩) (c5 : PySem.W.codeIn K cd5 "rises" = true) (k5 : PySem.W.keepIn K (.ref f5) = true)
    (a6 : PySem.W.nsIn K mainGlobals "are_letters" = some (some (.ref f6))) (l6 : K.lookup f6 = some ⟨oc6, od6, .func (PySem.W.fnOf "are_letters" "are_letters" (defArgs s_are_letters) (defBody s_are_letters) (defScope s_are_letters) .none kV6 dc6 pm6 an6 cd6 ct6), sl6⟩) (c6 : PySem.W.codeIn K cd6 "are_letters" = true) (k6 : PySem.W.keepIn K (.ref f6) = true)
    (a7 : PySem.W.nsIn K mainGlobals "is_pair_row" = some (some (.ref f7))) (l7 : K.lookup f7 = some ⟨oc7, od7, .func (PySem.W.fnOf "is_pair_row" "is_pair_row" (defArgs s_is_pair_row) (defBody s_is_pair_row) (defScope s_is_pair_row) .none kV7 dc7 pm7 an7 cd7 ct7), sl7⟩) (c7 : PySem.W.codeIn K cd7 "is_pair_row" = true) (k7 : PySem.W.keepIn K (.ref f7) = true)
    (a8 : PySem.W.nsIn K mainGlobals "are_pairs" = some (some (.ref f8))) (l8 : K.lookup f8 = some ⟨oc8, od8, .func (PySem.W.fnOf "are_pairs" "are_pairs" (defArgs s_are_pairs) (defBody s_are_pairs) (defScope s_are_pairs) .none kV8 dc8 pm8 an8 cd8 ct8), sl8⟩) (c8 : PySem.W.codeIn K cd8 "are_pairs" = true) (k8 : PySem.W.keepIn K (.ref f8) = true)
    (a9 : PySem.W.nsIn K mainGlobals "are_loops" = some (some (.ref f9))) (l9 : K.lookup f9 = some ⟨oc9, od9, .func (PySem.W.fnOf "are_loops" "are_loops" (defArgs s_are_loops) (defBody s_are_loops) (defScope s_are_loops) .none kV9 dc9 pm9 an9 cd9 ct9), sl9⟩) (c9 : PySem.W.codeIn K cd9 "are_loops" = true) (k9 : PySem.W.keepIn K (.ref f9) = true)
    (a10 : PySem.W.nsIn K mainGlobals "is_stack_row" = some (some (.ref f10))) (l10 : K.lookup f10 = some ⟨oc10, od10, .func (PySem.W.fnOf "is_stack_row" "is_stack_row" (defArgs s_is_stack_row) (defBody s_is_stack_row) (defScope s_is_stack_row) .none kV10 dc10 pm10 an10 cd10 ct10), sl10⟩) (c10 : PySem.W.codeIn K cd10 "is_stack_row" = true) (k10 : PySem.W.keepIn K (.ref f10) = true)
    (a11 : PySem.W.nsIn K mainGlobals "are_stacks" = some (some (.ref f11))) (l11 : K.lookup f11 = some ⟨oc11, od11, .func (PySem.W.fnOf "are_stacks" "are_stacks" (defArgs s_are_stacks) (defBody s_are_stacks) (defScope s_are_stacks) .none kV11 dc11 pm11 an11 cd11 ct11), sl11⟩) (c11 : PySem.W.codeIn K cd11 "are_stacks" = true) (k11 : PySem.W.keepIn K (.ref f11) = true)
    (a12 : PySem.W.nsIn K mainGlobals "wrong_part" = some (some (.ref f12))) (l12 : K.lookup f12 = some ⟨oc12, od12, .func (PySem.W.fnOf "wrong_part" "wrong_part" (defArgs s_wrong_part) (defBody s_wrong_part) (defScope s_wrong_part) .none kV12 dc12 pm12 an12 cd12 ct12), sl12⟩) (c12 : PySem.W.codeIn K cd12 "wrong_part" = true) (k12 : PySem.W.keepIn K (.ref f12) = true)
    (a13 : PySem.W.nsIn K mainGlobals "is_rules" = some (some (.ref f13))) (l13 : K.lookup f13 = some ⟨oc13, od13, .func (PySem.W.fnOf "is_rules" "is_rules" (defArgs s_is_rules) (defBody s_is_rules) (defScope s_is_rules) .none kV13 dc13 pm13 an13 cd13 ct13), sl13⟩) (c13 : PySem.W.codeIn K cd13 "is_rules" = true) (k13 : PySem.W.keepIn K (.ref f13) = true)
    (a14 : PySem.W.nsIn K mainGlobals "pair_worth" = some (some (.ref f14))) (l14 : K.lookup f14 = some ⟨oc14, od14, .func (PySem.W.fnOf "pair_worth" "pair_worth" (defArgs s_pair_worth) (defBody s_pair_worth) (defScope s_pair_worth) .none kV14 dc14 pm14 an14 cd14 ct14), sl14⟩) (c14 : PySem.W.codeIn K cd14 "pair_worth" = true) (k14 : PySem.W.keepIn K (.ref f14) = true)
    (a15 : PySem.W.nsIn K mainGlobals "stack_worth" = some (some (.ref f15))) (l15 : K.lookup f15 = some ⟨oc15, od15, .func (PySem.W.fnOf "stack_worth" "stack_worth" (defArgs s_stack_worth) (defBody s_stack_worth) (defScope s_stack_worth) .none kV15 dc15 pm15 an15 cd15 ct15), sl15⟩) (c15 : PySem.W.codeIn K cd15 "stack_worth" = true) (k15 : PySem.W.keepIn K (.ref f15) = true)
    (a16 : PySem.W.nsIn K mainGlobals "is_string" = some (some (.ref f16))) (l16 : K.lookup f16 = some ⟨oc16, od16, .func (PySem.W.fnOf "is_string" "is_string" (defArgs s_is_string) (defBody s_is_string) (defScope s_is_string) .none kV16 dc16 pm16 an16 cd16 ct16), sl16⟩) (c16 : PySem.W.codeIn K cd16 "is_string" = true) (k16 : PySem.W.keepIn K (.ref f16) = true)
    (a17 : PySem.W.nsIn K mainGlobals "text_of" = some (some (.ref f17))) (l17 : K.lookup f17 = some ⟨oc17, od17, .func (PySem.W.fnOf "text_of" "text_of" (defArgs s_text_of) (defBody s_text_of) (defScope s_text_of) .none kV17 dc17 pm17 an17 cd17 ct17), sl17⟩) (c17 : PySem.W.codeIn K cd17 "text_of" = true) (k17 : PySem.W.keepIn K (.ref f17) = true)
    (a18 : PySem.W.nsIn K mainGlobals "may_pair" = some (some (.ref f18))) (l18 : K.lookup f18 = some ⟨oc18, od18, .func (PySem.W.fnOf "may_pair" "may_pair" (defArgs s_may_pair) (defBody s_may_pair) (defScope s_may_pair) .none kV18 dc18 pm18 an18 cd18 ct18), sl18⟩) (c18 : PySem.W.codeIn K cd18 "may_pair" = true) (k18 : PySem.W.keepIn K (.ref f18) = true)
    (a19 : PySem.W.nsIn K mainGlobals "_law_draw" = some (some (.ref f19))) (l19 : K.lookup f19 = some ⟨oc19, od19, .func (PySem.W.fnOf "_law_draw" "_law_draw" (defArgs s_law_draw) (defBody s_law_draw) (defScope s_law_draw) .none kV19 dc19 pm19 an19 cd19 ct19), sl19⟩) (c19 : PySem.W.codeIn K cd19 "_law_draw" = true) (k19 : PySem.W.keepIn K (.ref f19) = true)
    (a20 : PySem.W.nsIn K mainGlobals "_law_letters" = some (some (.ref f20))) (l20 : K.lookup f20 = some ⟨oc20, od20, .func (PySem.W.fnOf "_law_letters" "_law_letters" (defArgs s_law_letters) (defBody s_law_letters) (defScope s_law_letters) .none kV20 dc20 pm20 an20 cd20 ct20), sl20⟩) (c20 : PySem.W.codeIn K cd20 "_law_letters" = true) (k20 : PySem.W.keepIn K (.ref f20) = true)
    (a21 : PySem.W.nsIn K mainGlobals "_law_worth" = some (some (.ref f21))) (l21 : K.lookup f21 = some ⟨oc21, od21, .func (PySem.W.fnOf "_law_worth" "_law_worth" (defArgs s_law_worth) (defBody s_law_worth) (defScope s_law_worth) .none kV21 dc21 pm21 an21 cd21 ct21), sl21⟩) (c21 : PySem.W.codeIn K cd21 "_law_worth" = true) (k21 : PySem.W.keepIn K (.ref f21) = true)
    (a22 : PySem.W.nsIn K mainGlobals "_law_few" = some (some (.ref f22))) (l22 : K.lookup f22 = some ⟨oc22, od22, .func (PySem.W.fnOf "_law_few" "_law_few" (defArgs s_law_few) (defBody s_law_few) (defScope s_law_few) .none kV22 dc22 pm22 an22 cd22 ct22), sl22⟩) (c22 : PySem.W.codeIn K cd22 "_law_few" = true) (k22 : PySem.W.keepIn K (.ref f22) = true)
    (a23 : PySem.W.nsIn K mainGlobals "_law_pairs" = some (some (.ref f23))) (l23 : K.lookup f23 = some ⟨oc23, od23, .func (PySem.W.fnOf "_law_pairs" "_law_pairs" (defArgs s_law_pairs) (defBody s_law_pairs) (defScope s_law_pairs) .none kV23 dc23 pm23 an23 cd23 ct23), sl23⟩) (c23 : PySem.W.codeIn K cd23 "_law_pairs" = true) (k23 : PySem.W.keepIn K (.ref f23) = true)
    (a24 : PySem.W.nsIn K mainGlobals "_law_stacks" = some (some (.ref f24))) (l24 : K.lookup f24 = some ⟨oc24, od24, .func (PySem.W.fnOf "_law_stacks" "_law_stacks" (defArgs s_law_stacks) (defBody s_law_stacks) (defScope s_law_stacks) .none kV24 dc24 pm24 an24 cd24 ct24), sl24⟩) (c24 : PySem.W.codeIn K cd24 "_law_stacks" = true) (k24 : PySem.W.keepIn K (.ref f24) = true)
    (a25 : PySem.W.nsIn K mainGlobals "_law_rules" = some (some (.ref f25))) (l25 : K.lookup f25 = some ⟨oc25, od25, .func (PySem.W.fnOf "_law_rules" "_law_rules" (defArgs s_law_rules) (defBody s_law_rules) (defScope s_law_rules) .none kV25 dc25 pm25 an25 cd25 ct25), sl25⟩) (c25 : PySem.W.codeIn K cd25 "_law_rules" = true) (k25 : PySem.W.keepIn K (.ref f25) = true)
    (a26 : PySem.W.nsIn K mainGlobals "_law_string" = some (some (.ref f26))) (l26 : K.lookup f26 = some ⟨oc26, od26, .func (PySem.W.fnOf "_law_string" "_law_string" (defArgs s_law_string) (defBody s_law_string) (defScope s_law_string) .none kV26 dc26 pm26 an26 cd26 ct26), sl26⟩) (c26 : PySem.W.codeIn K cd26 "_law_string" = true) (k26 : PySem.W.keepIn K (.ref f26) = true)
    (a27 : PySem.W.nsIn K mainGlobals "_law_told" = some (some (.ref f27))) (l27 : K.lookup f27 = some ⟨oc27, od27, .func (PySem.W.fnOf "_law_told" "_law_told" (defArgs s_law_told) (defBody s_law_told) (defScope s_law_told) .none kV27 dc27 pm27 an27 cd27 ct27), sl27⟩) (c27 : PySem.W.codeIn K cd27 "_law_told" = true) (k27 : PySem.W.keepIn K (.ref f27) = true)
    (a28 : PySem.W.nsIn K mainGlobals "_law_renamed" = some (some (.ref f28))) (l28 : K.lookup f28 = some ⟨oc28, od28, .func (PySem.W.fnOf "_law_renamed" "_law_renamed" (defArgs s_law_renamed) (defBody s_law_renamed) (defScope s_law_renamed) .none kV28 dc28 pm28 an28 cd28 ct28), sl28⟩) (c28 : PySem.W.codeIn K cd28 "_law_renamed" = true) (k28 : PySem.W.keepIn K (.ref f28) = true)
    (a29 : PySem.W.nsIn K mainGlobals "_law_places" = some (some (.ref f29))) (l29 : K.lookup f29 = some ⟨oc29, od29, .func (PySem.W.fnOf "_law_places" "_law_places" (defArgs s_law_places) (defBody s_law_places) (defScope s_law_places) .none kV29 dc29 pm29 an29 cd29 ct29), sl29⟩) (c29 : PySem.W.codeIn K cd29 "_law_places" = true) (k29 : PySem.W.keepIn K (.ref f29) = true)
    (a30 : PySem.W.nsIn K mainGlobals "_law_renamed_right" = some (some (.ref f30))) (l30 : K.lookup f30 = some ⟨oc30, od30, .func (PySem.W.fnOf "_law_renamed_right" "_law_renamed_right" (defArgs s_law_renamed_right) (defBody s_law_renamed_right) (defScope s_law_renamed_right) .none kV30 dc30 pm30 an30 cd30 ct30), sl30⟩) (c30 : PySem.W.codeIn K cd30 "_law_renamed_right" = true) (k30 : PySem.W.keepIn K (.ref f30) = true)
    (a31 : PySem.W.nsIn K mainGlobals "law" = some (some (.ref f31))) (l31 : K.lookup f31 = some ⟨oc31, od31, .func (PySem.W.fnOf "law" "law" (defArgs s_law) (defBody s_law) (defScope s_law) .none kV31 dc31 pm31 an31 cd31 ct31), sl31⟩) (c31 : PySem.W.codeIn K cd31 "law" = true) (k31 : PySem.W.keepIn K (.ref f31) = true)
    (z0 : PySem.W.nsIn K mainGlobals "isinstance" = some none)
    (z1 : PySem.W.nsIn K mainGlobals "int" = some none)
    (z2 : PySem.W.nsIn K mainGlobals "bool" = some none)
    (z3 : PySem.W.nsIn K mainGlobals "tuple" = some none)
    (z4 : PySem.W.nsIn K mainGlobals "len" = some none)
    (z5 : PySem.W.nsIn K mainGlobals "str" = some none)
    (z6 : PySem.W.nsIn K mainGlobals "all" = some none)
    (z7 : PySem.W.nsIn K mainGlobals "zip" = some none)
    (z8 : PySem.W.nsIn K mainGlobals "range" = some none)
    (z9 : PySem.W.nsIn K mainGlobals "abs" = some none)
    (z10 : PySem.W.nsIn K mainGlobals "list" = some none)
    (z11 : PySem.W.nsIn K mainGlobals "sorted" = some none)
    (aG : PySem.W.nsIn K mainGlobals "LOOPS" = some (some (.ref aL))) (lG : K.lookup aL = some ⟨.type "tuple", odG, .seq #[.str "stacked" tG0, .str "inner" tG1, .str "inner free" tG2, .str "forked" tG3, .str "branch" tG4, .str "fork free" tG5, .str "lone" tG6, .str "lone free" tG7, .str "open" tG8] nG, slG⟩)
    (aI0 : PySem.W.nsIn K mainGlobals "MOST_LETTERS" = some (some (.int 6 tI0)))
    (aI1 : PySem.W.nsIn K mainGlobals "SMALL_LETTERS" = some (some (.str "abcdefghijklmnopqrstuvwxyz" tI1)))
    (aI2 : PySem.W.nsIn K mainGlobals "MOST_ROWS" = some (some (.int 12 tI2)))
    (aI3 : PySem.W.nsIn K mainGlobals "MOST_SPAN" = some (some (.int 3 tI3)))
    (aI4 : PySem.W.nsIn K mainGlobals "MOST_WORTH" = some (some (.int 99 tI4)))
    (aI5 : PySem.W.nsIn K mainGlobals "MOST_PLACES" = some (some (.int 12 tI5))) :
    ∃ fd : FuncData, (∀ (s : Shared) (v : Value), BindsTo s fd ⟨[v], []⟩ [("_law_script", v)]) ∧ ∀ base : Heap, K.In base → base.Ns mainGlobals mg → FnOk l.prog w K mg base CX0 8 fa fd ["_law_script"] (spLaw K) := by
  have e := hfa.symm.trans (PySem.W.mg_of X G a31)
  cases e
  have F0 := fun_mk (st := s_is_whole) l0 c0 k0
  have F1 := fun_mk (st := s_is_row) l1 c1 k1
  have F2 := fun_mk (st := s_is_worth) l2 c2 k2
  have F3 := fun_mk (st := s_is_span) l3 c3 k3
  have F4 := fun_mk (st := s_is_both) l4 c4 k4
  have F5 := fun_mk (st := s_rises) l5 c5 k5
  have F6 := fun_mk (st := s_are_letters) l6 c6 k6
  have F7 := fun_mk (st := s_is_pair_row) l7 c7 k7
  have F8 := fun_mk (st := s_are_pairs) l8 c8 k8
  have F9 := fun_mk (st := s_are_loops) l9 c9 k9
  have F10 := fun_mk (st := s_is_stack_row) l10 c10 k10
  have F11 := fun_mk (st := s_are_stacks) l11 c11 k11
  have F12 := fun_mk (st := s_wrong_part) l12 c12 k12
  have F13 := fun_mk (st := s_is_rules) l13 c13 k13
  have F14 := fun_mk (st := s_pair_worth) l14 c14 k14
  have F15 := fun_mk (st := s_stack_worth) l15 c15 k15
  have F16 := fun_mk (st := s_is_string) l16 c16 k16
  have F17 := fun_mk (st := s_text_of) l17 c17 k17
  have F18 := fun_mk (st := s_may_pair) l18 c18 k18
  have F19 := fun_mk (st := s_law_draw) l19 c19 k19
  have F20 := fun_mk (st := s_law_letters) l20 c20 k20
  have F21 := fun_mk (st := s_law_worth) l21 c21 k21
  have F22 := fun_mk (st := s_law_few) l22 c22 k22
  have F23 := fun_mk (st := s_law_pairs) l23 c23 k23
  have F24 := fun_mk (st := s_law_stacks) l24 c24 k24
  have F25 := fun_mk (st := s_law_rules) l25 c25 k25
  have F26 := fun_mk (st := s_law_string) l26 c26 k26
  have F27 := fun_mk (st := s_law_told) l27 c27 k27
  have F28 := fun_mk (st := s_law_renamed) l28 c28 k28
  have F29 := fun_mk (st := s_law_places) l29 c29 k29
  have F30 := fun_mk (st := s_law_renamed_right) l30 c30 k30
  have F31 := fun_mk (st := s_law) l31 c31 k31
  have misinstance := PySem.W.mg_none_of X G z0
  have mint := PySem.W.mg_none_of X G z1
  have mbool := PySem.W.mg_none_of X G z2
  have mtuple := PySem.W.mg_none_of X G z3
  have mlen := PySem.W.mg_none_of X G z4
  have mstr := PySem.W.mg_none_of X G z5
  have mall := PySem.W.mg_none_of X G z6
  have mzip := PySem.W.mg_none_of X G z7
  have mrange := PySem.W.mg_none_of X G z8
  have mabs := PySem.W.mg_none_of X G z9
  have mlist := PySem.W.mg_none_of X G z10
  have msorted := PySem.W.mg_none_of X G z11
  have gLOOPS := PySem.W.mg_of X G aG
  have hLO : ∀ H : Hp, SqT K H aL (LN.map V.str) := fun H => .inr ⟨_, _, _, lG, rfl, rfl, szL (show 9 ≤ 1000000 by decide), (.cons ⟨_, rfl⟩ (.cons ⟨_, rfl⟩ (.cons ⟨_, rfl⟩ (.cons ⟨_, rfl⟩ (.cons ⟨_, rfl⟩ (.cons ⟨_, rfl⟩ (.cons ⟨_, rfl⟩ (.cons ⟨_, rfl⟩ (.cons ⟨_, rfl⟩ .nil)))))))))⟩
  have gMOST_LETTERS := PySem.W.mg_of X G aI0
  have gSMALL_LETTERS := PySem.W.mg_of X G aI1
  have gMOST_ROWS := PySem.W.mg_of X G aI2
  have gMOST_SPAN := PySem.W.mg_of X G aI3
  have gMOST_WORTH := PySem.W.mg_of X G aI4
  have gMOST_PLACES := PySem.W.mg_of X G aI5
  refine ⟨PySem.W.fnOf "law" "law" (defArgs s_law) (defBody s_law) (defScope s_law) .none kV31 dc31 pm31 an31 cd31 ct31, fun s v => .of_eq rfl, fun base _ _ => ?_⟩
  have cis_whole : Ca l.prog w K mg base 1 "is_whole" ["thing"] spWhole := ⟨f0, _, ok_whole F0 misinstance mint mbool, PySem.W.mg_of X G a0, F0.kp, F0.binds fun _ _ _ _ _ _ us hl => match us, hl with | [_], _ => rfl⟩
  have cis_row : Ca l.prog w K mg base 1 "is_row" ["thing", "size"] spRow := ⟨f1, _, ok_row F1 misinstance mtuple mlen, PySem.W.mg_of X G a1, F1.kp, F1.binds fun _ _ _ _ _ _ us hl => match us, hl with | [_, _], _ => rfl⟩
  have cis_worth : Ca l.prog w K mg base 2 "is_worth" ["thing"] spWorthy := ⟨f2, _, ok_worthy F2 cis_whole gMOST_WORTH, PySem.W.mg_of X G a2, F2.kp, F2.binds fun _ _ _ _ _ _ us hl => match us, hl with | [_], _ => rfl⟩
  have cis_span : Ca l.prog w K mg base 2 "is_span" ["thing"] spSpan := ⟨f3, _, ok_span F3 cis_whole gMOST_SPAN, PySem.W.mg_of X G a3, F3.kp, F3.binds fun _ _ _ _ _ _ us hl => match us, hl with | [_], _ => rfl⟩
  have cis_both : Ca l.prog w K mg base 1 "is_both" ["letters", "thing"] spBoth := ⟨f4, _, ok_both F4 misinstance mstr mlen, PySem.W.mg_of X G a4, F4.kp, F4.binds fun _ _ _ _ _ _ us hl => match us, hl with | [_, _], _ => rfl⟩
  have crises : Ca l.prog w K mg base 1 "rises" ["things"] (spRises (K := K)) := ⟨f5, _, ok_rises F5 mall mzip, PySem.W.mg_of X G a5, F5.kp, F5.binds fun _ _ _ _ _ _ us hl => match us, hl with | [_], _ => rfl⟩
  have care_letters : Ca l.prog w K mg base 2 "are_letters" ["thing"] spAL := ⟨f6, _, ok_al F6 crises gMOST_LETTERS gSMALL_LETTERS misinstance mstr mlen mall, PySem.W.mg_of X G a6, F6.kp, F6.binds fun _ _ _ _ _ _ us hl => match us, hl with | [_], _ => rfl⟩
  have cis_pair_row : Ca l.prog w K mg base 3 "is_pair_row" ["letters", "thing"] spPR := ⟨f7, _, ok_pr F7 cis_row cis_both cis_worth, PySem.W.mg_of X G a7, F7.kp, F7.binds fun _ _ _ _ _ _ us hl => match us, hl with | [_, _], _ => rfl⟩
  have care_pairs : Ca l.prog w K mg base 4 "are_pairs" ["letters", "thing"] spAP := ⟨f8, _, ok_ap F8 cis_pair_row crises gMOST_ROWS misinstance mtuple mlen mall, PySem.W.mg_of X G a8, F8.kp, F8.binds fun _ _ _ _ _ _ us hl => match us, hl with | [_, _], _ => rfl⟩
  have care_loops : Ca l.prog w K mg base 3 "are_loops" ["thing"] spALo := ⟨f9, _, ok_alo F9 cis_row cis_worth gLOOPS hLO rfl mlen mall, PySem.W.mg_of X G a9, F9.kp, F9.binds fun _ _ _ _ _ _ us hl => match us, hl with | [_], _ => rfl⟩
  have cis_stack_row : Ca l.prog w K mg base 3 "is_stack_row" ["texts", "thing"] spSR := ⟨f10, _, ok_sr F10 cis_row cis_worth, PySem.W.mg_of X G a10, F10.kp, F10.binds fun _ _ _ _ _ _ us hl => match us, hl with | [_, _], _ => rfl⟩
  have care_stacks : Ca l.prog w K mg base 4 "are_stacks" ["pairs", "thing"] spAS := ⟨f11, _, ok_as F11 cis_stack_row crises gMOST_ROWS misinstance mtuple mlen mall, PySem.W.mg_of X G a11, F11.kp, F11.binds fun _ _ _ _ _ _ us hl => match us, hl with | [_, _], _ => rfl⟩
  have cwrong_part : Ca l.prog w K mg base 5 "wrong_part" ["letters", "pairs", "span", "loops", "stacks"] spWP := ⟨f12, _, ok_wp F12 care_letters care_pairs cis_span care_loops care_stacks, PySem.W.mg_of X G a12, F12.kp, F12.binds fun _ _ _ _ _ _ us hl => match us, hl with | [_, _, _, _, _], _ => rfl⟩
  have cis_rules : Ca l.prog w K mg base 6 "is_rules" ["thing"] spIR := ⟨f13, _, ok_ir F13 cis_row cwrong_part, PySem.W.mg_of X G a13, F13.kp, F13.binds fun _ _ _ _ _ _ us hl => match us, hl with | [_], _ => rfl⟩
  have cpair_worth : Ca l.prog w K mg base 1 "pair_worth" ["rules", "both"] spPW := ⟨f14, _, ok_pw F14, PySem.W.mg_of X G a14, F14.kp, F14.binds fun _ _ _ _ _ _ us hl => match us, hl with | [_, _], _ => rfl⟩
  have cstack_worth : Ca l.prog w K mg base 1 "stack_worth" ["rules", "outer", "within"] spSW := ⟨f15, _, ok_sw F15, PySem.W.mg_of X G a15, F15.kp, F15.binds fun _ _ _ _ _ _ us hl => match us, hl with | [_, _, _], _ => rfl⟩
  have cis_string : Ca l.prog w K mg base 1 "is_string" ["rules", "thing"] spIS := ⟨f16, _, ok_is F16 gMOST_PLACES misinstance mstr mlen mall, PySem.W.mg_of X G a16, F16.kp, F16.binds fun _ _ _ _ _ _ us hl => match us, hl with | [_, _], _ => rfl⟩
  have ctext_of : Ca l.prog w K mg base 1 "text_of" ["string", "pair"] spTextOf := ⟨f17, _, ok_text_of F17, PySem.W.mg_of X G a17, F17.kp, F17.binds fun _ _ _ _ _ _ us hl => match us, hl with | [_, _], _ => rfl⟩
  have cmay_pair : Ca l.prog w K mg base 2 "may_pair" ["rules", "string", "i", "j"] spMP := ⟨f18, _, ok_mp F18 ctext_of cpair_worth mlen, PySem.W.mg_of X G a18, F18.kp, F18.binds fun _ _ _ _ _ _ us hl => match us, hl with | [_, _, _, _], _ => rfl⟩
  have c_law_draw : Ca l.prog w K mg base 1 "_law_draw" ["_law_pen", "_law_many"] spDraw := ⟨f19, _, ok_draw F19 mlen mabs, PySem.W.mg_of X G a19, F19.kp, F19.binds fun _ _ _ _ _ _ us hl => match us, hl with | [_, _], _ => rfl⟩
  have c_law_letters : Ca l.prog w K mg base 2 "_law_letters" ["_law_pen"] spLetters := ⟨f20, _, ok_letters F20 c_law_draw mlen mint, PySem.W.mg_of X G a20, F20.kp, F20.binds fun _ _ _ _ _ _ us hl => match us, hl with | [_], _ => rfl⟩
  have c_law_worth : Ca l.prog w K mg base 2 "_law_worth" ["_law_pen"] spWorth := ⟨f21, _, ok_worth F21 c_law_draw, PySem.W.mg_of X G a21, F21.kp, F21.binds fun _ _ _ _ _ _ us hl => match us, hl with | [_], _ => rfl⟩
  have c_law_few : Ca l.prog w K mg base 2 "_law_few" ["_law_pen"] spFew := ⟨f22, _, ok_few F22 c_law_draw, PySem.W.mg_of X G a22, F22.kp, F22.binds fun _ _ _ _ _ _ us hl => match us, hl with | [_], _ => rfl⟩
  have c_law_pairs : Ca l.prog w K mg base 3 "_law_pairs" ["_law_pen", "_law_letters_here", "_law_small"] spPairs := ⟨f23, _, ok_pairs F23 c_law_draw c_law_few c_law_worth mlen mint mtuple, PySem.W.mg_of X G a23, F23.kp, F23.binds fun _ _ _ _ _ _ us hl => match us, hl with | [_, _, _], _ => rfl⟩
  have c_law_stacks : Ca l.prog w K mg base 3 "_law_stacks" ["_law_pen", "_law_pairs_here", "_law_small"] spStacks := ⟨f24, _, ok_stacks F24 c_law_draw c_law_few c_law_worth mlen mint mtuple, PySem.W.mg_of X G a24, F24.kp, F24.binds fun _ _ _ _ _ _ us hl => match us, hl with | [_, _, _], _ => rfl⟩
  have c_law_rules : Ca l.prog w K mg base 4 "_law_rules" ["_law_pen", "_law_small"] spRules := ⟨f25, _, ok_rules F25 c_law_draw c_law_few c_law_worth c_law_letters c_law_pairs c_law_stacks mint mtuple mrange, PySem.W.mg_of X G a25, F25.kp, F25.binds fun _ _ _ _ _ _ us hl => match us, hl with | [_, _], _ => rfl⟩
  have c_law_string : Ca l.prog w K mg base 2 "_law_string" ["_law_pen", "_law_some_rules", "_law_most"] spString := ⟨f26, _, ok_string F26 c_law_draw mlen mrange, PySem.W.mg_of X G a26, F26.kp, F26.binds fun _ _ _ _ _ _ us hl => match us, hl with | [_, _, _], _ => rfl⟩
  have c_law_told : Ca l.prog w K mg base 1 "_law_told" ["_law_text", "_law_old", "_law_new"] spTold := ⟨f27, _, ok_told F27, PySem.W.mg_of X G a27, F27.kp, F27.binds fun _ _ _ _ _ _ us hl => match us, hl with | [_, _, _], _ => rfl⟩
  have c_law_renamed : Ca l.prog w K mg base 2 "_law_renamed" ["_law_some", "_law_new"] spRenamed := ⟨f28, _, ok_renamed F28 c_law_told mtuple, PySem.W.mg_of X G a28, F28.kp, F28.binds fun _ _ _ _ _ _ us hl => match us, hl with | [_, _], _ => rfl⟩
  have c_law_places : Ca l.prog w K mg base 3 "_law_places" ["_law_some", "_law_text"] spPlaces := ⟨f29, _, ok_places F29 cmay_pair mrange mlen, PySem.W.mg_of X G a29, F29.kp, F29.binds fun _ _ _ _ _ _ us hl => match us, hl with | [_, _], _ => rfl⟩
  have c_law_renamed_right : Ca l.prog w K mg base 7 "_law_renamed_right" ["_law_some", "_law_text", "_law_new"] spRR := ⟨f30, _, ok_rr F30 c_law_renamed c_law_told cis_rules cis_string cpair_worth cstack_worth c_law_places, PySem.W.mg_of X G a30, F30.kp, F30.binds fun _ _ _ _ _ _ us hl => match us, hl with | [_, _, _], _ => rfl⟩
  exact ok_law F31 c_law_rules c_law_string c_law_draw c_law_renamed_right c_law_places cpair_worth mlist mrange mlen mtuple msorted
end Pf
open PySem PySem.W PyProof.Rows
set_option maxHeartbeats 0 in
theorem PySem.Challenge.cw_pairfolds_k06_whole_rules_told_otherwise_holds : PySem.Challenge.rw_pairfolds_k06_whole_rules_told_otherwise.Holds := by
  w_on; o_law; k_head; (case hw => w_witness2)
  k_fill
  refine L2.walk_of (l := PySem.Challenge.rw_pairfolds_k06_whole_rules_told_otherwise) (n := 63) (k := 8) (x := "_law_script") (CX := fun _ => L2.CX0) (sp := fun w => Pf.spLaw _) rfl (by decide) rfl ⟨rfl, by decide, by decide⟩ (fun w h Y => PySem.W.kIn_of Y) ?F (fun _ _ a ns hl _ hS => ⟨a, ns, rfl, hS, hl, fun _ => rfl⟩) (fun _ _ _ _ _ h => h)
  case F =>
    intro w mg fa h KX G hmg
    refine' Pf.all_mk KX G hmg ?a0 ?l0 ?c0 ?k0 ?a1 ?l1 ?c1 ?k1 ?a2 ?l2 ?c2 ?k2 ?a3 ?l3 ?c3 ?k3 ?a4 ?l4 ?c4 ?k4 ?a5 ?l5 ?c5 ?k5 ?a6 ?l6 ?c6 ?k6 ?a7 ?l7 ?c7 ?k7 ?a8 ?l8 ?c8 ?k8 ?a9 ?l9 ?c9 ?k9 ?a10 ?l10 ?c10 ?k10 ?a11 ?l11 ?c11 ?k11 ?a12 ?l12 ?c12 ?k12 ?a13 ?l13 ?c13 ?k13 ?a14 ?l14 ?c14 ?k14 ?a15 ?l15 ?c15 ?k15 ?a16 ?l16 ?c16 ?k16 ?a17 ?l17 ?c17 ?k17 ?a18 ?l18 ?c18 ?k18 ?a19 ?l19 ?c19 ?k19 ?a20 ?l20 ?c20 ?k20 ?a21 ?l21 ?c21 ?k21 ?a22 ?l22 ?c22 ?k22 ?a23 ?l23 ?c23 ?k23 ?a24 ?l24 ?c24 ?k24 ?a25 ?l25 ?c25 ?k25 ?a26 ?l26 ?c26 ?k26 ?a27 ?l27 ?c27 ?k27 ?a28 ?l28 ?c28 ?k28 ?a29 ?l29 ?c29 ?k29 ?a30 ?l30 ?c30 ?k30 ?a31 ?l31 ?c31 ?k31 ?z0 ?z1 ?z2 ?z3 ?z4 ?z5 ?z6 ?z7 ?z8 ?z9 ?z10 ?z11 ?aG ?lG ?aI0 ?aI1 ?aI2 ?aI3 ?aI4 ?aI5
    (case a0 => k_is); (case l0 => k_is); (case c0 => k_is); (case k0 => k_is); (case a1 => k_is); (case l1 => k_is); (case c1 => k_is); (case k1 => k_is); (case a2 => k_is); (case l2 => k_is); (case c2 => k_is); (case k2 => k_is); (case a3 => k_is); (case l3 => k_is); (case c3 => k_is); (case k3 => k_is); (case a4 => k_is); (case l4 => k_is); (case c4 => k_is); (case k4 => k_is); (case a5 => k_is); (case l5 => k_is); (case c5 => k_is); (case k5 => k_is); (case a6 => k_is); (case l6 => k_is); (case c6 => k_is); (case k6 => k_is); (case a7 => k_is); (case l7 => k_is); (case c7 => k_is); (case k7 => k_is); (case a8 => k_is); (case l8 => k_is); (case c8 => k_is); (case k8 => k_is); (case a9 => k_is); (case l9 => k_is); (case c9 => k_is); (case k9 => k_is); (case a10 => k_is); (case l10 => k_is); (case c10 => k_is); (case k10 => k_is); (case a11 => k_is); (case l11 => k_is); (case c11 => k_is); (case k11 => k_is); (case a12 => k_is); (case l12 => k_is); (case c12 => k_is); (case k12 => k_is); (case a13 => k_is); (case l13 => k_is); (case c13 => k_is); (case k13 => k_is); (case a14 => k_is); (case l14 => k_is); (case c14 => k_is); (case k14 => k_is); (case a15 => k_is); (case l15 => k_is); (case c15 => k_is); (case k15 => k_is); (case a16 => k_is); (case l16 => k_is); (case c16 => k_is); (case k16 => k_is); (case a17 => k_is); (case l17 => k_is); (case c17 => k_is); (case k17 => k_is); (case a18 => k_is); (case l18 => k_is); (case c18 => k_is); (case k18 => k_is); (case a19 => k_is); (case l19 => k_is); (case c19 => k_is); (case k19 => k_is); (case a20 => k_is); (case l20 => k_is); (case c20 => k_is); (case k20 => k_is); (case a21 => k_is); (case l21 => k_is); (case c21 => k_is); (case k21 => k_is); (case a22 => k_is); (case l22 => k_is); (case c22 => k_is); (case k22 => k_is); (case a23 => k_is); (case l23 => k_is); (case c23 => k_is); (case k23 => k_is); (case a24 => k_is); (case l24 => k_is); (case c24 => k_is); (case k24 => k_is); (case a25 => k_is); (case l25 => k_is); (case c25 => k_is); (case k25 => k_is); (case a26 => k_is); (case l26 => k_is); (case c26 => k_is); (case k26 => k_is); (case a27 => k_is); (case l27 => k_is); (case c27 => k_is); (case k27 => k_is); (case a28 => k_is); (case l28 => k_is); (case c28 => k_is); (case k28 => k_is); (case a29 => k_is); (case l29 => k_is); (case c29 => k_is); (case k29 => k_is); (case a30 => k_is); (case l30 => k_is); (case c30 => k_is); (case k30 => k_is); (case a31 => k_is); (case l31 => k_is); (case c31 => k_is); (case k31 => k_is); (case z0 => k_is); (case z1 => k_is); (case z2 => k_is); (case z3 => k_is); (case z4 => k_is); (case z5 => k_is); (case z6 => k_is); (case z7 => k_is); (case z8 => k_is); (case z9 => k_is); (case z10 => k_is); (case z11 => k_is); (case aG => k_is); (case lG => k_is); (case aI0 => k_is); (case aI1 => k_is); (case aI2 => k_is); (case aI3 => k_is); (case aI4 => k_is); (case aI5 => k_is)
