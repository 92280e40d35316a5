import PyProof.Rows.All
import Wide.All
import OpenK.AllK
import Wide.FinOn
import HandS.ForMost
import HandS.Defaults
import HandS.TupMul
import HandS.TupAny
import HandS.IsInst
import HandS.Conv
import KE.SortData
import KE.KDictZip
import HandS.Zip
import KE.GoesMore
import HandS.Style
import HandS.Walk
import HandS.TupLe
import PySem.Challenge.RW_pairfolds_k13_whole_foldings_put_togethe
set_option Elab.async false
set_option linter.all false
set_option maxRecDepth 100000
set_option maxHeartbeats 4000000
namespace Pf
open PySem PySem.Spec PyProof.Rows L2

/-! ### a def that may be called: its promise, its name, its binding -/
structure Ca (P : Program) (w : World) (K : PySem.W.Frag) (mg : Str → Option Value) (base : Heap) (k : Nat) (x : Str) (ps : List Str) (sp : Sp) : Prop where
  ex : ∃ f fd, FnOk P w K mg base CX0 k f fd ps sp ∧ mg x = some (.ref f) ∧ PySem.W.keepIn K (.ref f) = true ∧ Binds K fd ps []
structure CaK (P : Program) (w : World) (K : PySem.W.Frag) (mg : Str → Option Value) (base : Heap) (k : Nat) (x : Str) (ps ks : List Str) (gV : List V → List V → List V) (sp : Sp) : Prop where
  ex : ∃ f fd g, FnOk P w K mg base CX0 k f fd ps sp ∧ mg x = some (.ref f) ∧ PySem.W.keepIn K (.ref f) = true ∧ KBn K fd ps 0 ks g gV
section
variable {X : Cx} {k : Nat} {x : Str} {ps ks : List Str} {sp : Sp} {p pos : Pos} {e : Expr} {es : List Expr} {kws : List Keyword} {t tk : TA} {gV : List V → List V → List V}
theorem pe_ca (c : Ca X.prog X.w X.K X.mg X.base k x ps sp) (hr : Room k X.A) (hg : Gl X x) (ha : PA X (e :: es) t) (hdb : (x == ("__debug__" : Str)) = false := by decide)
    (he : starEach (e :: es) X.env = (false, eval e X.env) :: starEach es X.env := by rfl) (hpl : (backTo pos (starEach es X.env)).any (·.1) = false := by rfl) :
    PE X (.Call (.Name x p) (e :: es) [] pos) (tCall sp [] E0 t) := by
  obtain ⟨f, fd, F, hm, hk, hb⟩ := c.ex
  exact pe_call F hr hg hm hk hb .nil pass0 ha hdb he hpl
theorem pe_ca0 (c : Ca X.prog X.w X.K X.mg X.base k x ps sp) (hr : Room k X.A) (hg : Gl X x) (hdb : (x == ("__debug__" : Str)) = false := by decide) :
    PE X (.Call (.Name x p) [] [] pos) (tCall sp [] E0 tNil) := by
  obtain ⟨f, fd, F, hm, hk, hb⟩ := c.ex
  exact pe_call0 F hr hg hm hk hb .nil pass0 hdb
/-- f(k = v, ..), by names alone -/
theorem pe_caK (c : CaK X.prog X.w X.K X.mg X.base k x ps ks gV sp) (hr : Room k X.A) (hg : Gl X x) (hkw : PK X kws tk)
    (hall : (backToKw pos (keywordEach kws X.env)).all (·.1.isSome) = true := by rfl) (hks : (backToKw pos (keywordEach kws X.env)).filterMap (·.1) = ks := by rfl) (hdb : (x == ("__debug__" : Str)) = false := by decide)
    (hpl : ((backTo pos (starEach [] X.env)).any (·.1) || (backToKw pos (keywordEach kws X.env)).any (·.1.isNone)) = false := by rfl) :
    PE X (.Call (.Name x p) [] kws pos) (tCallN 0 ks.length sp gV E0 tNil tk) := by
  obtain ⟨f, fd, g, F, hm, hk, hb⟩ := c.ex
  refine ⟨fun pins s σ H Q I h => ?_⟩
  refine wpAny_Call_Name_kw (ld_glob I hg hm ?_ hdb)
  refine PySem.W.callWith_KW0 (h₀ := X.base) I.ok.mod.kin hk hall ?_ hpl
  refine thn (hkw.run pos pins s σ H _ I h) fun ws s2 ⟨zs, H2, I2, rz, l1, l2, q2⟩ => ⟨I2.kIn, ?_⟩
  rw [hks]
  exact run_fnN (us := []) (vs := []) F hr hb pass0 I2 .nil rz rfl l2 q2
end

/-! ### rules that read a list or a tuple, the written part by its letter -/
theorem ixL (K : PySem.W.Frag) {X : Cx} (h : X.K = K := by rfl) : IxR X (rIxL K) := h ▸ ix_list
theorem ixT (K : PySem.W.Frag) {X : Cx} (h : X.K = K := by rfl) : IxR X (rIxT K) := h ▸ ix_tup
theorem ixA (K : PySem.W.Frag) {X : Cx} (h : X.K = K := by rfl) : IxR X (rIx K) := h ▸ ix_seq
def rLenA (K : PySem.W.Frag) : List V → Hp → VK → Prop := fun xs H Q => ∃ x n, xs = [x] ∧ LenV K x H n ∧ Q (.int n) H
theorem lenA (K : PySem.W.Frag) {X : Cx} (h : X.K = K := by rfl) : CallR X (.builtin "len") (rLenA K) := by
  subst h
  exact call_len
theorem repT (K : PySem.W.Frag) {X : Cx} (h : X.K = K := by rfl) : OpR X (binaryOp .Mult) (rRepT K) := h ▸ op_repT
theorem slL (K : PySem.W.Frag) {X : Cx} (h : X.K = K := by rfl) : SlR X (rSlL K) := h ▸ sl_list
theorem slT (K : PySem.W.Frag) {X : Cx} (h : X.K = K := by rfl) : SlR X (rSlT K) := h ▸ sl_tup
theorem eqD (K : PySem.W.Frag) {X : Cx} (hu : X.A.units + 64 < cLine) (h : X.K = K := by rfl) : OpR X (compareOp .Eq) (rEqD K) := h ▸ op_eqD hu
theorem neD (K : PySem.W.Frag) {X : Cx} (hu : X.A.units + 64 < cLine) (h : X.K = K := by rfl) : OpR X (compareOp .NotEq) (rNeD K) := h ▸ op_neD hu
theorem catT (K : PySem.W.Frag) {X : Cx} (h : X.K = K := by rfl) : OpR X (binaryOp .Add) (rCatT K) := h ▸ op_catT
theorem catA (K : PySem.W.Frag) {X : Cx} (h : X.K = K := by rfl) : OpR X (binaryOp .Add) (rCatA K) := h ▸ op_catA
theorem slA (K : PySem.W.Frag) {X : Cx} (h : X.K = K := by rfl) : SlR X (rSlA K) := h ▸ sl_tupA
theorem isi1 (K : PySem.W.Frag) {X : Cx} (h : X.K = K := by rfl) : CallR X (.builtin "isinstance") (rIsi K) := h ▸ call_isi
theorem pgT (K : PySem.W.Frag) {X : Cx} {es : List Expr} {k n : Nat} {t : TGs} {pos : Pos} (hc : X.calm = true) (h : PGs X es t) (hK : X.K = K := by rfl) (hn : (assignEach es X.env).length = n := by rfl) (hst : (assignEach es X.env).findIdx? (·.1) = none := by rfl) :
    PG X (.Tuple es k pos) (gTup K n t) := by
  subst hK
  exact pg_tup hc h hn hst
def rLen (K : PySem.W.Frag) : List V → Hp → VK → Prop := fun xs H Q => ∃ p ys, xs = [.ref p] ∧ (SqL K H p ys ∨ SqT K H p ys) ∧ Q (.int ys.length) H
theorem lenQ (K : PySem.W.Frag) {X : Cx} (h : X.K = K := by rfl) : CallR X (.builtin "len") (rLen K) := by
  subst h
  exact call_len_seq
def rListOf (K : PySem.W.Frag) : List V → Hp → VK → Prop := fun xs H Q => ∃ p ys, xs = [.ref p] ∧ (SqL K H p ys ∨ SqT K H p ys) ∧ ∀ l, H l = none → Q (.ref l) (upd H l (.lst ys))
theorem listOf (K : PySem.W.Frag) {X : Cx} (h : X.K = K := by rfl) : CallR X (.type "list") (rListOf K) := by
  subst h
  exact call_list_of
def rTupleOf (K : PySem.W.Frag) : List V → Hp → VK → Prop := fun xs H Q => ∃ p ys, xs = [.ref p] ∧ ((SqL K H p ys ∧ ∀ l, H l = none → Q (.ref l) (upd H l (.tup ys))) ∨ (SqT K H p ys ∧ Q (.ref p) H))
theorem tupleOf (K : PySem.W.Frag) {X : Cx} (h : X.K = K := by rfl) : CallR X (.type "tuple") (rTupleOf K) := by
  subst h
  exact call_tuple_of

/-! ### repr of a plain thing -/
def repV : V → Str
  | .non => "None"
  | .bl b => if b then "True" else "False"
  | .int i => toString i
  | _ => ""
def RepOk : V → Prop
  | .non => True
  | .bl _ => True
  | .int i => i.natAbs.log2 < 1920
  | _ => False
theorem call_repr {X : Cx} : CallR X (.builtin "repr") (fun xs H Q => ∃ v, xs = [v] ∧ RepOk v ∧ Q (.str (repV v)) H) := by
  intro pins s σ H xs us Q I r h
  obtain ⟨v, rfl, hz, q⟩ := h
  cases v with
  | non =>
    obtain ⟨u, rfl, rfl⟩ := vals1 r
    exact PySem.P.repr_of_none ⟨.str _, H, I.tok _, ⟨_, rfl⟩, q⟩
  | bl b =>
    obtain ⟨u, rfl, rfl⟩ := vals1 r
    exact PySem.P.repr_of_bool ⟨.str _, H, I.tok _, ⟨_, rfl⟩, by cases b <;> exact q⟩
  | int i =>
    obtain ⟨u, rfl, t, rfl⟩ := vals1 r
    exact PySem.P.repr_of_int hz ⟨.str _, H, I.tok _, ⟨_, rfl⟩, q⟩
  | str _ => exact hz.elim
  | byt _ => exact hz.elim
  | flt _ => exact hz.elim
  | ref _ => exact hz.elim
  | ty _ => exact hz.elim

/-! ### texts of small letters -/
def Small (x : Str) : Prop := ∀ c ∈ x.cps.toList, 97 ≤ c ∧ c ≤ 122
theorem Small.app {a b : Str} (ha : Small a) (hb : Small b) : Small (a ++ b) := fun c h => by
  rw [Str.cps_append, Array.toList_append, List.mem_append] at h
  rcases h with h | h
  · exact ha c h
  · exact hb c h
theorem Small.one {c : Nat} (h : 97 ≤ c ∧ c ≤ 122) : Small ⟨#[c]⟩ := fun d hd => by
  have e : d = c := by simpa using hd
  subst e
  exact h
theorem Small.at {x : Str} (h : Small x) {i c : Nat} (hi : x.cps[i]? = some c) : 97 ≤ c ∧ c ≤ 122 := by
  refine h c ?_
  have := Array.mem_of_getElem? hi
  exact Array.mem_toList_iff.mpr this
theorem Small.ok {x : Str} (h : Small x) : PyData.strOk x = true := by
  show x.cps.all (· < 0x110000) = true
  rw [Array.all_eq_true_iff_forall_mem]
  intro c hc
  have := h c (Array.mem_toList_iff.mpr hc)
  exact decide_eq_true (by omega)
/-! ### a chain of three comparisons -/
def tChain3 (r1 r2 r3 : R2) (ta tb tc td : TE) : TE := fun σ H Q => ta σ H fun x H1 => tb σ H1 fun y H2 => r1 x y H2 fun z H3 => ∃ k, z = .bl k ∧
  (if k = true then tc σ H3 fun u H4 => r2 y u H4 fun z2 H5 => ∃ k2, z2 = .bl k2 ∧ (if k2 = true then td σ H5 fun v H6 => r3 u v H6 Q else Q (.bl false) H5) else Q (.bl false) H3)
theorem pt_chain3 {X : Cx} {o1 o2 o3 : CmpOp} {r1 r2 r3 : R2} {a b c d : Expr} {ta tb tc td : TE} {pos : Pos} (h1 : OpR X (compareOp o1) r1) (h2 : OpR X (compareOp o2) r2) (h3 : OpR X (compareOp o3) r3)
    (ha : PE X a ta) (hb : PE X b tb) (hc : PE X c tc) (hd : PE X d td) (hm : lastMarks [o1, o2, o3] [b, c, d] = false := by with_unfolding_all rfl) :
    PT X (.Compare a [o1, o2, o3] [b, c, d] pos) (tTest (tChain3 r1 r2 r3 ta tb tc td)) := by
  refine ⟨fun pins s σ H Q I h => isTrue_chain (thn (ha.run pins s σ H _ I h) fun v s1 ⟨x, H1, I1, e1, q1⟩ => test_link ?_) hm⟩
  refine thn (hb.run pins s1 σ H1 _ I1 q1) fun u s2 ⟨y, H2, I2, e2, q2⟩ => ?_
  refine thn (h1 pins s2 σ H2 x y v u _ I2 e1 e2 q2) fun dv s3 ⟨z, H3, I3, e3, k, ek, q3⟩ => ?_
  subst ek
  cases e3
  refine wpAny_truthy_bool ?_
  cases k with
  | false =>
    obtain ⟨k', e', q'⟩ := q3
    cases e'
    exact ite_ff ⟨H3, I3, q'⟩
  | true =>
    refine ite_tt (test_link ?_)
    refine thn (hc.run pins s3 σ H3 _ I3 q3) fun u4 s4 ⟨y4, H4, I4, e4, q4⟩ => ?_
    refine thn (h2 pins s4 σ H4 y y4 u u4 _ I4 e2 e4 q4) fun dv5 s5 ⟨z5, H5, I5, e5, k5, ek5, q5⟩ => ?_
    subst ek5
    cases e5
    refine wpAny_truthy_bool ?_
    cases k5 with
    | false =>
      obtain ⟨k', e', q'⟩ := q5
      cases e'
      exact ite_ff ⟨H5, I5, q'⟩
    | true =>
      refine ite_tt (test_last ?_)
      refine thn (hd.run pins s5 σ H5 _ I5 q5) fun u6 s6 ⟨y6, H6, I6, e6, q6⟩ => ?_
      refine thn (h3 pins s6 σ H6 y4 y6 u4 u6 _ I6 e4 e6 q6) fun dv7 s7 ⟨z7, H7, I7, e7, k7, ek7, q7⟩ => ?_
      subst ek7
      cases e7
      exact wpAny_truthy_bool ⟨H7, I7, q7⟩
theorem inSeq (K : PySem.W.Frag) {X : Cx} (h : X.K = K := by rfl) : OpR X (compareOp .In) (rIn K false) := h ▸ op_in_seq
theorem notInSeq (K : PySem.W.Frag) {X : Cx} (h : X.K = K := by rfl) : OpR X (compareOp .NotIn) (rIn K true) := h ▸ op_notIn_seq
/-! ### join with nothing between -/
theorem join_str (ys : List Str) : Txt.join "" ys = Str.join "" ys := eq_of_beq (join_closes (ys := ys) rfl)
theorem sjoin_le {m : Nat} : ∀ {ys : List Str}, (∀ y ∈ ys, y.length ≤ m) → (Str.join "" ys).length ≤ ys.length * m
  | [], _ => Nat.zero_le _
  | [y], h => by
    have := h y (List.mem_cons_self ..)
    show y.length ≤ 1 * m
    omega
  | y :: z :: r, h => by
    have h1 := h y (List.mem_cons_self ..)
    have h2 := sjoin_le (ys := z :: r) fun x hx => h x (List.mem_cons_of_mem _ hx)
    show (y ++ "" ++ Str.join "" (z :: r)).length ≤ _
    rw [Str.length_append, Str.length_append, List.length_cons, Nat.succ_mul]
    show y.length + 0 + _ ≤ _
    omega
theorem small_nil : Small "" := by
  unfold Small
  decide +kernel
theorem sjoin_small : ∀ {ys : List Str}, (∀ y ∈ ys, Small y) → Small (Str.join "" ys)
  | [], _ => small_nil
  | [y], h => h y (List.mem_cons_self ..)
  | y :: z :: r, h => ((h y (List.mem_cons_self ..)).app small_nil).app (sjoin_small (ys := z :: r) fun x hx => h x (List.mem_cons_of_mem _ hx))
theorem join_le {m : Nat} {ys : List Str} (h : ∀ y ∈ ys, y.length ≤ m) : (Txt.join "" ys).length ≤ ys.length * m := by
  rw [join_str]
  exact sjoin_le h
theorem join_small {ys : List Str} (h : ∀ y ∈ ys, Small y) : Small (Txt.join "" ys) := by
  rw [join_str]
  exact sjoin_small h

/-! ### a walk over a text's signs -/
theorem for_str {x : Str} {g : TG} {tb : TS} {D : Ends} {σ : L2.St} {H : Hp} (Pv : Nat → L2.St → Hp → Prop) (h0 : Pv 0 σ H)
    (hs : ∀ i c σ H, x.cps[i]? = some c → Pv i σ H → g (.str ⟨#[c]⟩) σ H fun σ2 H2 => tb { D with nx := Pv (i + 1), ct := Pv (i + 1), bk := D.nx } σ2 H2) (hd : ∀ σ H, Pv x.cps.size σ H → D.nx σ H) :
    ∃ W : Nat → Nat → L2.St → Hp → Prop, (∃ m, W 0 m σ H) ∧ ∀ i m σ H, W i m σ H →
      ((Its x).stop i H ∧ D.nx σ H) ∨ ((Its x).go i H ∧ ∃ N : L2.St → Hp → Prop, (∀ σ' H', N σ' H' → ∃ m', m' < m ∧ W (i + 1) m' σ' H') ∧ ∀ y H', (Its x).yld i H y H' → g y σ H' fun σ2 H2 => tb { D with nx := N, ct := N, bk := D.nx } σ2 H2) := by
  refine ⟨fun i m σ H => m = x.cps.size - i ∧ i ≤ x.cps.size ∧ Pv i σ H, ⟨x.cps.size, by simp, Nat.zero_le _, h0⟩, ?_⟩
  rintro i m σ H ⟨rfl, hi, p⟩
  by_cases hlt : i < x.cps.size
  · refine .inr ⟨hlt, Pv (i + 1), fun σ' H' p' => ⟨x.cps.size - (i + 1), by omega, rfl, hlt, p'⟩, fun y H' z => ?_⟩
    obtain ⟨e, c, hc, ev⟩ := z
    subst e ev
    exact hs i c σ _ hc p
  · have e : i = x.cps.size := by omega
    subst e
    exact .inl ⟨Nat.le_refl _, hd σ H p⟩
theorem lc_str {x : Str} {g : TG} {tt : TT} {te : TE} {vs : List Nat} {σ : L2.St} {H1 : Hp} {D : Addr} {Qd : Hp → Prop} (Pv : Nat → Hp → Prop) (h0 : Pv 0 (upd H1 D (.lst [])))
    (hs : ∀ i c H, x.cps[i]? = some c → Pv i H → g (.str ⟨#[c]⟩) (wipe σ vs) H fun σ2 H2 => wipe σ2 vs = wipe σ vs ∧ tt σ2 H2 fun b H3 =>
      if b = true then te σ2 H3 fun y H4 => ∃ acc, H4 D = some (.lst acc) ∧ acc.length < sizeLine ∧ Pv (i + 1) (upd H4 D (.lst (acc ++ [y]))) else Pv (i + 1) H3) (hd : ∀ H, Pv x.cps.size H → Qd H) :
    ∃ W : Nat → Nat → Hp → Prop, (∃ m, W 0 m (upd H1 D (.lst []))) ∧ ∀ i m H, W i m H →
      ((Its x).stop i H ∧ Qd H) ∨ ((Its x).go i H ∧ ∃ Nx : Hp → Prop, (∀ H', Nx H' → ∃ m', m' < m ∧ W (i + 1) m' H') ∧ ∀ y H', (Its x).yld i H y H' → g y (wipe σ vs) H' fun σ2 H2 => wipe σ2 vs = wipe σ vs ∧ tt σ2 H2 fun b H3 =>
        if b = true then te σ2 H3 fun y H4 => ∃ acc, H4 D = some (.lst acc) ∧ acc.length < sizeLine ∧ Nx (upd H4 D (.lst (acc ++ [y]))) else Nx H3) := by
  refine ⟨fun i m H => m = x.cps.size - i ∧ i ≤ x.cps.size ∧ Pv i H, ⟨x.cps.size, by simp, Nat.zero_le _, h0⟩, ?_⟩
  rintro i m H ⟨rfl, hi, p⟩
  by_cases hlt : i < x.cps.size
  · refine .inr ⟨hlt, Pv (i + 1), fun H' p' => ⟨x.cps.size - (i + 1), by omega, rfl, hlt, p'⟩, fun y H' z => ?_⟩
    obtain ⟨e, c, hc, ev⟩ := z
    subst e ev
    exact hs i c _ hc p
  · have e : i = x.cps.size := by omega
    subst e
    exact .inl ⟨Nat.le_refl _, hd H p⟩

/-! ### what stays in the heap, but the thing at p -/
def Kp (p : Addr) (H H' : Hp) : Prop := ∀ b o, b ≠ p → H b = some o → H' b = some o
theorem Kp.refl {p : Addr} {H : Hp} : Kp p H H := fun _ _ _ e => e
theorem Kp.trans {p : Addr} {H H1 H2 : Hp} (a : Kp p H H1) (b : Kp p H1 H2) : Kp p H H2 := fun c o n e => b c o n (a c o n e)
theorem Kp.new {p q : Addr} {H : Hp} {o : HO} (h : H q = none) : Kp p H (upd H q o) := fun b x _ e => by
  rw [upd_ne (ne_of_none e h)]
  exact e
theorem Kp.at {p : Addr} {H : Hp} {o : HO} : Kp p H (upd H p o) := fun b x n e => by
  rw [upd_ne n]
  exact e
/-- a change of what stood nowhere in H -/
theorem Kp.put {p q : Addr} {H H1 : Hp} {o : HO} (k : Kp p H H1) (h : H q = none) : Kp p H (upd H1 q o) := fun b x n e => by
  rw [upd_ne (ne_of_none e h)]
  exact k b x n e
theorem Kp.tup {p : Addr} {H H' : Hp} {ys : List V} {b : Addr} {xs : List V} (k : Kp p H H') (hp : H p = some (.lst ys)) (h : H b = some (.tup xs)) : H' b = some (.tup xs) :=
  k b _ (ne_of h hp (by intro z; cases z)) h
theorem Kp.some {p : Addr} {H H' : Hp} (k : Kp p H H') (hp : ∃ o, H' p = some o) {b : Addr} (h : H' b = none) : H b = none := by
  cases e : H b with
  | none => rfl
  | some o =>
    by_cases n : b = p
    · subst n
      obtain ⟨o', e'⟩ := hp
      rw [e'] at h
      cases h
    · rw [k b o n e] at h
      cases h

/-! ### arguments by names, in another order -/
def permV (js : List Nat) : List V → List V → List V := fun _ zs => js.map fun j => zs.getD j .non
def permU (js : List Nat) : List Value → List Value → List Value := fun _ ws => js.map fun j => ws.getD j .none
theorem vals_getD : ∀ {zs : List V} {ws : List Value} (j : Nat), Vals zs ws → RelV (zs.getD j .non) (ws.getD j .none)
  | _, _, _, .nil => rfl
  | _, _, 0, .cons r _ => r
  | _, _, j + 1, .cons _ t => vals_getD j t
theorem perm_rel {zs : List V} {ws : List Value} (r : Vals zs ws) : ∀ js : List Nat, Vals (js.map fun j => zs.getD j .non) (js.map fun j => ws.getD j .none)
  | [] => .nil
  | j :: js => .cons (vals_getD j r) (perm_rel r js)
theorem kbn_of {K : PySem.W.Frag} {fd : FuncData} {ps ks : List Str} (js : List Nat) (h : ∀ ws : List Value, ws.length = ks.length → bindArgs fd ⟨[], ks.zip ws⟩ = pure (ps.zip (js.map fun j => ws.getD j .none))) :
    KBn K fd ps 0 ks (permU js) (permV js) where
  to := fun s us ws _ hu hw => by
    obtain rfl := List.length_eq_zero_iff.mp hu
    exact .of_eq (h ws hw)
  rel := fun _ r => perm_rel r js
/-! ### what is added, and nothing changed -/
def Ext (H H' : Hp) : Prop := ∀ b o, H b = some o → H' b = some o
theorem Ext.refl {H : Hp} : Ext H H := fun _ _ e => e
theorem Ext.trans {H H1 H2 : Hp} (a : Ext H H1) (b : Ext H1 H2) : Ext H H2 := fun c o e => b c o (a c o e)
theorem Ext.new {q : Addr} {H : Hp} {o : HO} (h : H q = none) : Ext H (upd H q o) := fun b x e => by
  rw [upd_ne (ne_of_none e h)]
  exact e
theorem Ext.put {q : Addr} {H H1 : Hp} {o : HO} (k : Ext H H1) (h : H q = none) : Ext H (upd H1 q o) := fun b x e => by
  rw [upd_ne (ne_of_none e h)]
  exact k b x e
theorem Ext.none {H H' : Hp} (k : Ext H H') {q : Addr} (h : H' q = none) : H q = none := by
  cases e : H q with
  | none => rfl
  | some o =>
    rw [k q o e] at h
    cases h

theorem atI_get {α : Type} {xs : List α} {i : Int} (h0 : 0 ≤ i) (h1 : i < xs.length) : atI xs i = some (xs[i.toNat]'(by omega)) := by
  unfold atI ixN
  rw [if_pos h0, if_pos h1]
  exact List.getElem?_eq_getElem _
theorem atI_ints {ns : List Int} {i : Int} (h0 : 0 ≤ i) (h1 : i < ns.length) : ∃ z, z ∈ ns ∧ atI (ns.map V.int) i = some (.int z) := by
  have h2 : i < (ns.map V.int).length := by rw [List.length_map]; exact h1
  refine ⟨ns[i.toNat]'(by omega), List.getElem_mem _, ?_⟩
  rw [atI_get h0 h2, List.getElem_map]
theorem atI_mem {α : Type} {xs : List α} {i : Int} (h0 : 0 ≤ i) (h1 : i < xs.length) : ∃ v, v ∈ xs ∧ atI xs i = some v :=
  ⟨xs[i.toNat]'(by omega), List.getElem_mem _, atI_get h0 h1⟩
theorem len_pos {x : Str} (h : ¬ x = "") : 1 ≤ x.length := by
  obtain ⟨⟨l⟩⟩ := x
  cases l with
  | nil => exact absurd (by decide +kernel) h
  | cons a r =>
    show 1 ≤ (a :: r).length
    exact Nat.succ_pos _
theorem natAbs_lt_of {i : Int} {n : Nat} (h0 : -(n : Int) < i) (h1 : i < n) : i.natAbs < n := by omega
theorem log2_small {i : Int} (h : i.natAbs < 2 ^ 64) : i.natAbs.log2 < 1920 := by
  by_cases z : i.natAbs = 0
  · rw [z]
    decide
  · exact (Nat.log2_lt z).mpr (Nat.lt_of_lt_of_le h (Nat.pow_le_pow_right (by decide) (by decide)))
theorem szL {n : Nat} (h : n ≤ 1000000) : n ≤ sizeLine := by
  rw [sizeLine_eq]
  omega
theorem szLt {n : Nat} (h : n < 1000000) : n < sizeLine := by
  rw [sizeLine_eq]
  omega
end Pf


namespace Pf
open PySem PySem.Spec PyProof.Rows L2
/-! ### the law's own call: made by nobody, nothing being shown meanwhile -/
structure FnG (P : Program) (w : World) (K : PySem.W.Frag) (mg : Str → Option Value) (base : Heap) (f : Addr) (fd : FuncData) (ps : List Str) (sp : Sp) : Prop where
  run : ∀ (s : Shared) (H : Hp) (args : Args) (us : List Value) (vs : List V) (Q : VK) (E : XK), Env0 P w K mg base callerA [] s H → BindsTo s fd args (ps.zip us) → Vals vs us → sp vs H Q E →
    codeAny (model P w) callerA (.call (.ref f) args) (CR CX0 [] P w H s Q E) s
theorem FnG.of {P : Program} {w : World} {K : PySem.W.Frag} {mg : Str → Option Value} {base : Heap} {k : Nat} {f : Addr} {fd : FuncData} {x qual : Str} {st : Stmt} {N ps : List Str} {sp : Sp} (F : Fun K x qual st f fd) (S : FnScope N ps (defScope st))
    (room : Room (k + 1) callerA) (len : ∀ vs H Q E, sp vs H Q E → vs.length = ps.length)
    (body : ∀ (cdv : Value) (s : Shared) (H : Hp) (vs : List V) (Q : VK) (E : XK), Room k (callerA.deeper (envOfC qual (defScope st) s.heap.objs.size f cdv)) → (callerA.deeper (envOfC qual (defScope st) s.heap.objs.size f cdv)).guards = some [] → sp vs H Q E →
      ∃ t, PSs (cxOf CX0 P w K mg base N qual (defScope st) f cdv callerA [] s H E).nox (defBody st) t ∧ t { nx := fun _ H' => Q .non H', rt := Q } (start N vs) H) : FnG P w K mg base f fd ps sp := by
  obtain ⟨oc, od, kV, doc, pm, an, cdv, ct, osl, rfl, lk, hcd⟩ := F.ex
  refine ⟨fun s H args us vs Q E env0 bnd rel hsp => ?_⟩
  have inS : K.In s.heap := env0.mod.kin.keeps fun b o e => (env0.bs b o e).1
  have limS : s.heap.NoLimit := env0.mod.nolimit.keeps fun b o e => (env0.bs b o e).1
  have kinds : ∀ y ∈ ps.zip us, (defScope st).names.lookup y.1 = some .local ∨ ((defScope st).names.lookup y.1 = some .cell ∧ ((cellsFrom (s.heap.objs.size + 1) (defScope st).names []).lookup y.1).isSome = true) := by
    rintro ⟨n, v⟩ hy
    cases S.par n (List.of_mem_zip hy).1 with
    | inl q => exact .inl q
    | inr q => exact .inr ⟨q, PySem.W.cellsFrom_some _ _ _ (.inl q)⟩
  refine codeAny_call_function room.depth (inS _ _ lk) rfl S.co S.gen rfl (PySem.W.codeRec_of inS hcd) (bnd _ _ _ _ ?_)
  refine wpAny_newFunctionEnv_cells S.kind kinds fun env0' he s1 inC => ?_
  subst he
  refine ⟨limS.keeps inC.toInCall.keep, codeAny_func ?_⟩
  obtain ⟨t, ht, hq⟩ := body cdv s H vs Q E (room.deeper _) rfl hsp
  have I0 : Inv (cxOf CX0 P w K mg base N qual (defScope st) f cdv callerA [] s H E) [] (start N vs) H s1 := inv_start S room.hd env0 (len _ _ _ _ hsp) rel inC
  refine wpAny_mono (ht.nox.run [] s1 (start N vs) H _ I0 hq) (fun fl s' hs => ?_) fun _ _ z => z
  cases fl with
  | ret u =>
    obtain ⟨v, σ', H', J, rv, q⟩ := hs
    exact ⟨v, H', J.os, J.bare, J.base, J.hok, rv, q⟩
  | next =>
    obtain ⟨σ', H', J, q⟩ := hs
    exact ⟨.non, H', J.os, J.bare, J.base, J.hok, rfl, q⟩
  | brk => exact False.elim (by obtain ⟨_, _, _, q⟩ := hs; exact q)
  | cont => exact False.elim (by obtain ⟨_, _, _, q⟩ := hs; exact q)
/-- its end: from an abstract heap that holds the script or nothing -/
theorem FnG.ends {P : Program} {w : World} {K : PySem.W.Frag} {mg mb : Str → Option Value} {fa a : Addr} {fd : FuncData} {x : Str} {sp : Sp} {s1 : Shared} {vs : List Value} {ns : List Int}
    (inK : K.In s1.heap) (gl : s1.heap.Ns mainGlobals mg) (bl : s1.heap.Ns builtinsNs mb) (bb : ∀ x : Str, x ≠ "__name__" → mb x = bootBuiltins x) (lim : s1.heap.NoLimit) (gens : s1.gens = #[])
    (hscr : s1.heap.get? a = some { cls := .type "list", data := .seq vs.toArray }) (hin : IntsAre vs ns) (F : ∀ base : Heap, K.In base → base.Ns mainGlobals mg → FnG P w K mg base fa fd [x] sp) (bnd : ∀ (s : Shared) (u : Value), BindsTo s fd ⟨[u], []⟩ [(x, u)])
    {H : Hp} (only : Only H) (hsp : sp [.ref a] H (fun v _ => v = .bl true) fun _ _ _ => False) (hok : HOk P w H s1.heap) (hA : ∀ b, H b ≠ none → b = a) (hK : H a ≠ none → K.lookup a = none) :
    codeAny (model P w) callerA (.call (.ref fa) ⟨[.ref a], []⟩) (fun r s' => r = .ok (.ret (.bool true)) ∧ OldK s1.heap s'.heap ∧ s'.os = s1.os ∧ AllBare s'.gens) s1 := by
  have isA : ∀ {b : Addr} {u : HO}, H b = some u → b = a := fun {b u} q => hA b (by rw [q]; exact Option.some_ne_none _)
  have hid : ∀ {b : Addr} {o : Obj}, s1.heap.get? b = some o → H b = none → (hidT s1.heap H).get? b = some o := fun e n => hidT_get e n
  have dictN : ∀ {b : Addr} {o : Obj} {es : Array DictEntry} {ep : Nat}, s1.heap.get? b = some o → o.data = .dict es ep → H b = none := by
    intro b o es ep e d
    cases q : H b with
    | none => rfl
    | some u =>
      obtain rfl := isA q
      rw [hscr] at e
      cases e
      exact nomatch d
  have nsH : ∀ {b : Addr} {m : Str → Option Value}, s1.heap.Ns b m → (hidT s1.heap H).Ns b m := by
    rintro b m ⟨o, es, ep, e, d, r⟩
    exact ⟨o, es, ep, hid e (dictN e d), d, r⟩
  have inB : K.In (hidT s1.heap H) := by
    intro b o e
    refine hid (inK b o e) ?_
    cases q : H b with
    | none => rfl
    | some u =>
      obtain rfl := isA q
      rw [hK (by rw [q]; exact Option.some_ne_none _)] at e
      cases e
  have limB : (hidT s1.heap H).NoLimit := by
    obtain ⟨mc, h1, h2⟩ := lim
    exact ⟨mc, nsH h1, h2⟩
  have env0 : Env0 P w K mg (hidT s1.heap H) callerA [] s1 H :=
    ⟨rfl, ⟨inB, nsH gl, ⟨mb, nsH bl, bb⟩, limB⟩, fun b o e => of_hidT e, Nat.le_of_eq (hidT_size _ _), trivial, fun b hb => (nomatch (show b ∈ ([] : List Addr) from hb)), hok, .of_eq gens⟩
  refine codeAny_mono ((F _ inB (nsH gl)).run s1 H ⟨[.ref a], []⟩ [.ref a] [.ref a] _ _ env0 (bnd s1 (.ref a)) (.cons rfl .nil) hsp) fun r s' h => ?_
  match r, h with
  | .error _, h => exact False.elim h
  | .ok .next, h => exact False.elim h
  | .ok .brk, h => exact False.elim h
  | .ok .cont, h => exact False.elim h
  | .ok (.ret u), h =>
    obtain ⟨v, H', os, bare, un, hok', rel, q⟩ := h
    obtain rfl : v = .bl true := q
    obtain rfl : u = Value.bool true := rel
    refine ⟨rfl, OldK.of_keep fun b o e => ?_, os, bare⟩
    cases q : H b with
    | none => exact un.keep b o e q (fun z => (nomatch (show b ∈ ([] : List Addr) from z))) (by simp)
    | some u =>
      cases only b with
      | inl z => rw [q] at z; cases z
      | inr z =>
        obtain ⟨ob, xs, z⟩ := z
        have kept := (hok' b _ (un.frzs b ob _ z)).1
        have was := (hok b _ z).1
        rw [e] at was
        cases was
        exact kept
theorem walk_g {l : PySem.W.OpenLaw} {n : Nat} {q : Program} {loose : List Str} {XP : (Str → Option Value) → Heap → Prop} {YP : World → Heap → Prop} {d : DefRec} {K : Params → PySem.W.Frag} {sp : World → Sp} {x : Str}
    (hn : l.most = some n) (hn2 : n ≤ sizeLine) (hdf : d.params.defaults = []) (hY : ∀ (w : World) (h : Heap), YP w h → (K w.params).In h)
    (F : ∀ (w : World) (mg : Str → Option Value) (fa : Addr) (h : Heap), (K w.params).In h → h.Ns mainGlobals mg → mg d.name = some (.ref fa) →
      ∃ fd : FuncData, (∀ (s : Shared) (u : Value), BindsTo s fd ⟨[u], []⟩ [(x, u)]) ∧ ∀ base : Heap, (K w.params).In base → base.Ns mainGlobals mg → FnG l.prog w (K w.params) mg base fa fd [x] (sp w))
    (hsp : ∀ (w : World) (H : Hp) (a : Addr) (ns : List Int), ns.length ≤ n → SqL (K w.params) H a (ns.map V.int) → sp w [.ref a] H (fun v _ => v = .bl true) fun _ _ _ => False) :
    PySem.W.WalkO q loose XP YP l.row.toRowW d [] (fun f vs => PySem.call f vs) := by
  refine Att.attach_call hn hdf fun w s0 s1 mg mb fa o pm cd doc a vs ns G Y ho hd hcd hmg hobj hints hlen hg => ?_
  have inK := hY w _ Y
  obtain ⟨fd, bnd, hF⟩ := F w mg fa _ inK G.T.g hmg
  have szs : ns.length ≤ sizeLine := Nat.le_trans hlen hn2
  have vals := vals_ints hints
  cases hk : (K w.params).lookup a with
  | some ob =>
    have e := inK a ob hk
    rw [hobj] at e
    cases e
    have here : SqL (K w.params) (fun _ => none) a (ns.map V.int) := .inr ⟨_, vs.toArray, _, hk, rfl, rfl, rfl, by rw [List.size_toArray, hints.length]; exact szs, by simpa using vals⟩
    exact FnG.ends inK G.T.g G.T.b G.T.builtins G.T.nolimit hg hobj hints hF bnd (fun _ => .inl rfl) (hsp w _ a ns hlen here) (fun _ _ z => (nomatch z)) (fun b z => absurd rfl z) fun z => absurd rfl z
  | none =>
    have here : SqL (K w.params) (fun b => if b = a then some (.frz { cls := .type "list", data := .seq vs.toArray } (.lst (ns.map V.int))) else none) a (ns.map V.int) := .inl (.inr ⟨_, if_pos rfl⟩)
    refine FnG.ends inK G.T.g G.T.b G.T.builtins G.T.nolimit hg hobj hints hF bnd (fun b => ?_) (hsp w _ a ns hlen here) (fun b u z => ?_) (fun b z => ?_) fun _ => hk
    · exact if h : b = a then .inr ⟨_, _, if_pos h⟩ else .inl (if_neg h)
    · by_cases h : b = a
      · rw [if_pos h] at z
        cases z
        subst h
        exact ⟨hobj, by rw [List.length_map]; exact szs, vs, _, vals, hobj⟩
      · rw [if_neg h] at z
        cases z
    · by_cases h : b = a
      · exact h
      · exact absurd (if_neg h) z
/-! ### data that are small: how much they weigh, how deep they are -/
structure Sm (m k : Nat) (d : PyData) : Prop where
  lay : d.canLay0 = true
  sho : d.showable = true
  ish : d.intsShort 13 = true
  wt : d.weight ≤ m
  dep : d.depth ≤ k
theorem Sm.le {m k m' k' : Nat} {d : PyData} (h : Sm m k d) (hm : m ≤ m') (hk : k ≤ k') : Sm m' k' d := ⟨h.lay, h.sho, h.ish, Nat.le_trans h.wt hm, Nat.le_trans h.dep hk⟩
theorem Sm.non : Sm 0 0 .none := ⟨by simp [PyData.canLay0], by simp [PyData.showable], by simp [PyData.intsShort], by simp [PyData.weight], by simp [PyData.depth]⟩
theorem Sm.bl (b : Bool) : Sm 0 0 (.bool b) := ⟨by simp [PyData.canLay0], by simp [PyData.showable], by simp [PyData.intsShort], by simp [PyData.weight], by simp [PyData.depth]⟩
theorem Sm.int {i : Int} (h0 : -1000000000 < i) (h1 : i < 1000000000) : Sm 64 0 (.int i) := by
  have hb : i.natAbs < 2 ^ 64 := by omega
  have hl : i.natAbs.log2 < 64 := by
    by_cases z : i.natAbs = 0
    · rw [z]
      decide
    · exact (Nat.log2_lt z).mpr hb
  refine ⟨by simp [PyData.canLay0], ?_, ?_, ?_, by simp [PyData.depth]⟩
  · simp only [PyData.showable]
    exact decide_eq_true (by omega)
  · simp only [PyData.intsShort, PyData.shown]
    refine decide_eq_true ?_
    by_cases hn : i < 0
    · rw [len_text_neg hn]
      have := toString_length_le (v := 0 - i) (k := 9) (by omega) (by decide) (by omega)
      omega
    · have := toString_length_le (v := i) (k := 9) (by omega) (by decide) (by omega)
      omega
  · simp only [PyData.weight]
    split <;> omega
theorem Sm.str {x : Str} {n : Nat} (h : PyData.strOk x = true) (hn : x.length ≤ n) : Sm n 0 (.str x) :=
  ⟨by simpa only [PyData.canLay0] using h, by simp [PyData.showable], by simp [PyData.intsShort], by simp only [PyData.weight]; exact hn, by simp [PyData.depth]⟩
structure SmA (n m k : Nat) (ds : List PyData) : Prop where
  lay : PyData.canLayAll0 ds = true
  sho : PyData.showableAll ds = true
  ish : PyData.intsShortAll 13 ds = true
  wt : PyData.weightAll ds ≤ ds.length * (m + 1)
  dep : PyData.depthAll ds ≤ k
theorem SmA.of {m k : Nat} : ∀ {ds : List PyData}, (∀ d ∈ ds, Sm m k d) → SmA ds.length m k ds
  | [], _ => ⟨by simp [PyData.canLayAll0], by simp [PyData.showableAll], by simp [PyData.intsShortAll], by simp [PyData.weightAll], by simp [PyData.depthAll]⟩
  | d :: ds, h => by
    have h1 := h d (List.mem_cons_self ..)
    have h2 := SmA.of (ds := ds) fun x hx => h x (List.mem_cons_of_mem _ hx)
    refine ⟨by simp [PyData.canLayAll0, h1.lay, h2.lay], by simp [PyData.showableAll, h1.sho, h2.sho], by simp [PyData.intsShortAll, h1.ish, h2.ish], ?_, ?_⟩
    · have e1 := h1.wt
      have e2 := h2.wt
      simp only [PyData.weightAll, List.length_cons, Nat.succ_mul]
      omega
    · simp only [PyData.depthAll]
      exact Nat.max_le.mpr ⟨h1.dep, h2.dep⟩
theorem Sm.lst {n m k M : Nat} {ds : List PyData} (hn : ds.length ≤ n) (h : ∀ d ∈ ds, Sm m k d) (hM : n * (m + 1) ≤ M) : Sm M (k + 1) (.list ds) := by
  have a := SmA.of h
  have hw : ds.length * (m + 1) ≤ n * (m + 1) := Nat.mul_le_mul_right _ hn
  exact ⟨by simpa only [PyData.canLay0] using a.lay, by simpa only [PyData.showable] using a.sho, by simpa only [PyData.intsShort] using a.ish, by simp only [PyData.weight]; exact Nat.le_trans a.wt (Nat.le_trans hw hM), by simp only [PyData.depth]; exact Nat.succ_le_succ a.dep⟩
theorem Sm.tup {n m k M : Nat} {ds : List PyData} (hn : ds.length ≤ n) (h : ∀ d ∈ ds, Sm m k d) (hM : n * (m + 1) ≤ M) : Sm M (k + 1) (.tuple ds) := by
  have a := SmA.of h
  have hw : ds.length * (m + 1) ≤ n * (m + 1) := Nat.mul_le_mul_right _ hn
  exact ⟨by simpa only [PyData.canLay0] using a.lay, by simpa only [PyData.showable] using a.sho, by simpa only [PyData.intsShort] using a.ish, by simp only [PyData.weight]; exact Nat.le_trans a.wt (Nat.le_trans hw hM), by simp only [PyData.depth]; exact Nat.succ_le_succ a.dep⟩
theorem Sm.shaped {m k : Nat} {d : PyData} (h : Sm m k d) (hk : k ≤ 50) : SeqAt.shaped d = true := by
  show (d.canLay0 && decide (d.depth ≤ 64)) = true
  rw [h.lay, decide_eq_true (show d.depth ≤ 64 from Nat.le_trans h.dep (by omega))]
  rfl
theorem Sm.short {m k : Nat} {d : PyData} (h : Sm m k d) (hm : m ≤ 1000000) (hk : k ≤ 50) : d.shown.length ≤ sizeLine := by
  have e : PyData.layable0 d = true := by
    show (d.canLay0 && decide (d.depth ≤ 64) && decide (d.weight ≤ 2 ^ 20)) = true
    rw [h.lay, decide_eq_true (show d.depth ≤ 64 from Nat.le_trans h.dep (by omega)), decide_eq_true (show d.weight ≤ 2 ^ 20 from Nat.le_trans h.wt (by omega))]
    rfl
  have := shown_le13 e h.ish
  rw [sizeLine_eq]
  omega
/-! ### repr of data at any depth -/
def rShow (K : PySem.W.Frag) : List V → Hp → VK → Prop := fun xs H Q => ∃ v d m k, xs = [v] ∧ Dp K H v d ∧ Sm m k d ∧ m ≤ 1000000 ∧ k ≤ 50 ∧ Q (.str d.shown) H
theorem call_show (K : PySem.W.Frag) {X : Cx} (hg : X.A.guards = some []) (hu : X.A.units + 64 < cLine) (hK : X.K = K := by rfl) : CallR X (.builtin "repr") (rShow K) := by
  subst hK
  intro pins s σ H xs us Q I r h
  obtain ⟨v, d, m, k, rfl, hd, sh, hm, hk, q⟩ := h
  have hdep := sh.dep
  have hz := sh.short hm hk
  cases hd with
  | non =>
    obtain ⟨u, rfl, rfl⟩ := vals1 r
    exact PySem.P.repr_of_none ⟨.str _, H, I.tok _, ⟨_, rfl⟩, by simpa only [PyData.shown] using q⟩
  | bl b =>
    obtain ⟨u, rfl, rfl⟩ := vals1 r
    refine PySem.P.repr_of_bool ⟨.str _, H, I.tok _, ⟨_, rfl⟩, ?_⟩
    simp only [PyData.shown] at q
    cases b <;> exact q
  | int i =>
    obtain ⟨u, rfl, t, rfl⟩ := vals1 r
    have hi : i.natAbs.log2 < 1920 := by simpa [PyData.showable] using sh.sho
    exact PySem.P.repr_of_int hi ⟨.str _, H, I.tok _, ⟨_, rfl⟩, by simpa only [PyData.shown] using q⟩
  | str x =>
    obtain ⟨u, rfl, t, rfl⟩ := vals1 r
    simp only [PyData.shown] at q hz
    exact PySem.P.repr_of_str ⟨.str _, H, I.tok _, ⟨_, rfl⟩, q⟩ hz
  | @lst a ys ds hs hds =>
    obtain ⟨u, rfl, rfl⟩ := vals1 r
    obtain ⟨as, rd⟩ := Dp.reads I _ _ _ (Dp.lst hs hds) (show RelV (.ref a) (.ref a) from rfl)
    exact PySem.repr_of_reads' rd sh.sho (PyData.noDict_hsm (PyData.hasDict_of_canLay _ sh.lay)) hg (by omega) (fun _ _ e => e) (fun h' u tk keep => ⟨.str _, H, I.kept keep, ⟨_, rfl⟩, q⟩) hz
  | @tup a ys ds hs hds =>
    obtain ⟨u, rfl, rfl⟩ := vals1 r
    obtain ⟨as, rd⟩ := Dp.reads I _ _ _ (Dp.tup hs hds) (show RelV (.ref a) (.ref a) from rfl)
    exact PySem.repr_of_reads' rd sh.sho (PyData.noDict_hsm (PyData.hasDict_of_canLay _ sh.lay)) hg (by omega) (fun _ _ e => e) (fun h' u tk keep => ⟨.str _, H, I.kept keep, ⟨_, rfl⟩, q⟩) hz
/-! ### sorted of data -/
def rSortD (K : PySem.W.Frag) : List V → Hp → VK → Prop := fun vs H Q => ∃ (β : Type) (v : β → V) (d : β → PyData) (a : Addr) (bs : List β), vs = [.ref a] ∧ SqL K H a (bs.map v) ∧ (∀ b ∈ bs, Dp K H (v b) (d b) ∧ (d b).depth ≤ 50) ∧
  PySem.W.AllAlike (bs.map d) ∧ PySem.W.Sortable (bs.map d) ∧ ∀ p, H p = none → Q (.ref p) (upd H p (.lst ((bs.mergeSort (PySem.W.dataLe false d)).map v)))
section
variable {β : Type} {v : β → V} {d : β → PyData}
theorem each_vals : ∀ {bs : List β} {its : List Value}, Vals (bs.map v) its → PySem.W.EachIs (fun (u : Value) (b : β) => RelV (v b) u) its bs
  | [], _, .nil => .nil
  | _ :: _, _, .cons r t => .cons r (each_vals t)
theorem vals_each : ∀ {bs : List β} {its : List Value}, PySem.W.EachIs (fun (u : Value) (b : β) => RelV (v b) u) its bs → Vals (bs.map v) its
  | [], _, .nil => .nil
  | _ :: _, _, .cons r t => .cons r (vals_each t)
theorem each_reads {X : Cx} {pins : List (Addr × Obj)} {σ : L2.St} {H : Hp} {s : Shared} (I : Inv X pins σ H s) : ∀ {bs : List β} {its : List Value}, Vals (bs.map v) its → (∀ b ∈ bs, Dp X.K H (v b) (d b)) → PySem.W.EachIs (fun (u : Value) (b : β) => ∃ as, Reads s.heap u (d b) as) its bs
  | [], _, .nil, _ => .nil
  | b :: _, _, .cons r t, h => .cons (Dp.reads I _ _ _ (h b (List.mem_cons_self ..)) r) (each_reads I t fun x hx => h x (List.mem_cons_of_mem _ hx))
end
theorem cr_sortD (K : PySem.W.Frag) {X : Cx} (hu : X.A.units + 64 < cLine) (hK : X.K = K := by rfl) : CallR X (.builtin "sorted") (rSortD K) := by
  subst hK
  intro pins s σ H vs us Q I r h
  obtain ⟨β, v, d, a, bs, rfl, hs, hd, al, so, q⟩ := h
  obtain ⟨u, rfl, rfl⟩ := vals1 r
  obtain ⟨its, rv, hl, hz⟩ := I.list hs
  rw [List.length_map] at hz
  refine PySem.W.sorted_data (enc := d) (R := fun (u : Value) (b : β) => RelV (v b) u) hl.isList (each_vals rv) (each_reads I rv fun b hb => (hd b hb).1) al so hz (fun b hb => ?_) fun out hlen he => ?_
  · have := (hd b hb).2
    omega
  · obtain ⟨ep, he'⟩ := PyProof.Rows.sortedAll_at s.heap its out.toArray
    have hlen2 : ((bs.mergeSort (PySem.W.dataLe false d)).map v).length ≤ sizeLine := by
      rw [List.length_map, List.length_mergeSort]
      exact hz
    exact ⟨.ref _, upd H (s.heap.objs.size + 1) (.lst ((bs.mergeSort (PySem.W.dataLe false d)).map v)), I.laid (t' := s.toks) (fun _ _ => PyProof.Rows.sortedAll_old) (Nat.le_succ _) ⟨hlen2, out, ep, vals_each he, by simpa using he'⟩, rfl, q _ (I.hok.fresh (Nat.le_succ _))⟩
end Pf


namespace Pf
open PySem PySem.Spec PyProof.Rows L2
/-! ### tuples stay -/
structure TupK (H H' : Hp) : Prop where
  tup : ∀ b xs, H b = some (.tup xs) → H' b = some (.tup xs)
  frz : ∀ b o u, H b = some (.frz o u) → H' b = some (.frz o u)
instance {H H' : Hp} : CoeFun (TupK H H') (fun _ => ∀ b xs, H b = some (.tup xs) → H' b = some (.tup xs)) := ⟨TupK.tup⟩
theorem TupK.refl {H : Hp} : TupK H H := ⟨fun _ _ e => e, fun _ _ _ e => e⟩
theorem TupK.trans {H H1 H2 : Hp} (a : TupK H H1) (b : TupK H1 H2) : TupK H H2 := ⟨fun c xs e => b.tup c xs (a.tup c xs e), fun c o u e => b.frz c o u (a.frz c o u e)⟩
theorem TupK.ext {H H' : Hp} (k : Ext H H') : TupK H H' := ⟨fun b _ e => k b _ e, fun b _ _ e => k b _ e⟩
theorem TupK.new {q : Addr} {H : Hp} {o : HO} (h : H q = none) : TupK H (upd H q o) := TupK.ext (Ext.new h)
theorem TupK.lst {q : Addr} {H : Hp} {o : HO} {ys : List V} (h : H q = some (.lst ys)) : TupK H (upd H q o) := by
  refine ⟨fun b xs e => ?_, fun b o u e => ?_⟩
  · rw [upd_ne (ne_of e h (by intro z; cases z))]
    exact e
  · rw [upd_ne (ne_of e h (by intro z; cases z))]
    exact e
theorem paired_imp {α β : Type} {R S : α → β → Prop} (h : ∀ a b, R a b → S a b) : ∀ {xs : List α} {ys : List β}, Paired R xs ys → Paired S xs ys
  | _, _, .nil => .nil
  | _, _, .cons r t => .cons (h _ _ r) (paired_imp h t)
theorem paired_get {α β : Type} {R : α → β → Prop} : ∀ {xs : List α} {ys : List β} {i : Nat} {x : α}, Paired R xs ys → xs[i]? = some x → ∃ y, ys[i]? = some y ∧ R x y
  | _, _, _, _, .nil, e => by simp at e
  | _, _, 0, _, .cons r _, e => by
    simp at e
    subst e
    exact ⟨_, rfl, r⟩
  | _, _, i + 1, x, .cons _ t, e => by
    obtain ⟨y, h1, h2⟩ := paired_get (i := i) (x := x) t (by simpa using e)
    exact ⟨y, by simpa using h1, h2⟩
theorem paired_len {α β : Type} {R : α → β → Prop} : ∀ {xs : List α} {ys : List β}, Paired R xs ys → xs.length = ys.length
  | _, _, .nil => rfl
  | _, _, .cons _ t => by rw [List.length_cons, List.length_cons, paired_len t]
theorem paired_app {α β : Type} {R : α → β → Prop} : ∀ {xs xs' : List α} {ys ys' : List β}, Paired R xs ys → Paired R xs' ys' → Paired R (xs ++ xs') (ys ++ ys')
  | _, _, _, _, .nil, s => s
  | _, _, _, _, .cons r t, s => .cons r (paired_app t s)
/-! ### things as they lie in the heap -/
def PairAt (H : Hp) (v : V) (x : Str × Int) : Prop := ∃ a, v = .ref a ∧ H a = some (.tup [.str x.1, .int x.2])
def StackAt (H : Hp) (v : V) (x : Str × Str × Int) : Prop := ∃ a, v = .ref a ∧ H a = some (.tup [.str x.1, .str x.2.1, .int x.2.2])
def TwoAt (H : Hp) (v : V) (x : Int × Int) : Prop := ∃ a, v = .ref a ∧ H a = some (.tup [.int x.1, .int x.2])
def TupOf {α : Type} (R : Hp → V → α → Prop) (H : Hp) (v : V) (xs : List α) : Prop := ∃ a vs, v = .ref a ∧ H a = some (.tup vs) ∧ Paired (R H) vs xs
def Mono {α : Type} (R : Hp → V → α → Prop) : Prop := ∀ H H' v x, TupK H H' → R H v x → R H' v x
theorem PairAt.mono : Mono PairAt := fun H H' v x k ⟨a, e, h⟩ => ⟨a, e, k _ _ h⟩
theorem StackAt.mono : Mono StackAt := fun H H' v x k ⟨a, e, h⟩ => ⟨a, e, k _ _ h⟩
theorem TwoAt.mono : Mono TwoAt := fun H H' v x k ⟨a, e, h⟩ => ⟨a, e, k _ _ h⟩
theorem TupOf.mono {α : Type} {R : Hp → V → α → Prop} (m : Mono R) : Mono (TupOf R) := fun H H' v x k ⟨a, vs, e, h, r⟩ => ⟨a, vs, e, k _ _ h, paired_imp (fun _ _ => m _ _ _ _ k) r⟩
/-- a tuple whose object is known to have no dict -/
def FrzOf {α : Type} (R : Hp → V → α → Prop) (H : Hp) (v : V) (xs : List α) : Prop := ∃ (a : Addr) (o : Obj) (vs : List V), v = .ref a ∧ H a = some (.frz o (.tup vs)) ∧ o.dict = none ∧ Paired (R H) vs xs
theorem FrzOf.mono {α : Type} {R : Hp → V → α → Prop} (m : Mono R) : Mono (FrzOf R) := fun H H' v x k ⟨a, o, vs, e, h, hd, r⟩ => ⟨a, o, vs, e, k.frz _ _ _ h, hd, paired_imp (fun _ _ => m _ _ _ _ k) r⟩
theorem SqT.fz {K : PySem.W.Frag} {H : Hp} {a : Addr} {o : Obj} {xs : List V} (h : H a = some (.frz o (.tup xs))) : SqT K H a xs := .inl (.inr ⟨o, h⟩)
def IntAt (_ : Hp) (v : V) (x : Int) : Prop := v = .int x
theorem IntAt.mono : Mono IntAt := fun _ _ _ _ _ e => e
theorem paired_ints {H : Hp} : ∀ ns : List Int, Paired (IntAt H) (ns.map V.int) ns
  | [] => .nil
  | _ :: r => .cons rfl (paired_ints r)
structure Rl where
  letters : Str
  prs : List (Str × Int)
  span : Int
  loops : List Int
  stk : List (Str × Str × Int)
def RulesAt (H : Hp) (v : V) (r : Rl) : Prop := ∃ a vp vl vs, v = .ref a ∧ H a = some (.tup [.str r.letters, vp, .int r.span, vl, vs]) ∧ FrzOf PairAt H vp r.prs ∧ TupOf IntAt H vl r.loops ∧ TupOf StackAt H vs r.stk
theorem RulesAt.mono : Mono RulesAt := fun H H' v x k ⟨a, vp, vl, vs, e, h, h1, h2, h3⟩ => ⟨a, vp, vl, vs, e, k _ _ h, FrzOf.mono PairAt.mono _ _ _ _ k h1, TupOf.mono IntAt.mono _ _ _ _ k h2, TupOf.mono StackAt.mono _ _ _ _ k h3⟩
def Two (t : Str) : Prop := t.length = 2 ∧ Small t
structure RlOk (r : Rl) : Prop where
  let6 : r.letters.length ≤ 6
  let1 : 1 ≤ r.letters.length
  small : Small r.letters
  prs : r.prs.length ≤ 12
  pr : ∀ x ∈ r.prs, Two x.1 ∧ -99 ≤ x.2 ∧ x.2 ≤ 99
  sp0 : 0 ≤ r.span
  sp3 : r.span ≤ 3
  lo9 : r.loops.length = 9
  lo : ∀ x ∈ r.loops, -99 ≤ x ∧ x ≤ 99
  stk : r.stk.length ≤ 12
  st : ∀ x ∈ r.stk, Two x.1 ∧ Two x.2.1 ∧ -99 ≤ x.2.2 ∧ x.2.2 ≤ 99
  nd : (r.stk.map fun x => (x.1, x.2.1)).Nodup
  pn : (r.prs.map (·.1)).Nodup
/-! ### a dict by two texts -/
def encE (x : Str × Str × Int) : List Key × V := ([.inr x.1, .inr x.2.1], .int x.2.2)
def putE (es : List (Str × Str × Int)) (a b : Str) (i : Int) : List (Str × Str × Int) :=
  if (es.any fun x => decide (x.1 = a ∧ x.2.1 = b)) = true then es.map (fun x => if x.1 = a ∧ x.2.1 = b then (x.1, x.2.1, i) else x) else es ++ [(a, b, i)]
theorem encE_key (x : Str × Str × Int) (a b : Str) : ((encE x).1 = [Sum.inr a, Sum.inr b]) ↔ (x.1 = a ∧ x.2.1 = b) := by
  unfold encE
  constructor
  · intro h
    injection h with h1 h2
    injection h2 with h3 _
    exact ⟨Sum.inr.inj h1, Sum.inr.inj h3⟩
  · rintro ⟨h1, h2⟩
    rw [h1, h2]
theorem put_enc (es : List (Str × Str × Int)) (a b : Str) (i : Int) : putK (es.map encE) [Sum.inr a, Sum.inr b] (.int i) = (putE es a b i).map encE := by
  have hany : ((es.map encE).any fun kv => decide (kv.1 = [Sum.inr a, Sum.inr b])) = es.any fun x => decide (x.1 = a ∧ x.2.1 = b) := by
    rw [List.any_map]
    congr 1
    funext x
    exact decide_eq_decide.mpr (encE_key x a b)
  unfold putK putE
  rw [hany]
  by_cases h : (es.any fun x => decide (x.1 = a ∧ x.2.1 = b)) = true
  · rw [if_pos h, if_pos h, List.map_map, List.map_map]
    refine List.map_congr_left fun x _ => ?_
    show (if (encE x).1 = [Sum.inr a, Sum.inr b] then ((encE x).1, V.int i) else encE x) = encE (if x.1 = a ∧ x.2.1 = b then (x.1, x.2.1, i) else x)
    by_cases e : x.1 = a ∧ x.2.1 = b
    · rw [if_pos ((encE_key x a b).mpr e), if_pos e]
      rfl
    · rw [if_neg (fun z => e ((encE_key x a b).mp z)), if_neg e]
  · rw [if_neg h, if_neg h, List.map_append]
    rfl
theorem putE_keys (es : List (Str × Str × Int)) (a b : Str) (i : Int) (hn : (es.map fun x => (x.1, x.2.1)).Nodup) : ((putE es a b i).map fun x => (x.1, x.2.1)).Nodup := by
  unfold putE
  split
  · rw [List.map_map]
    have e : ((fun x : Str × Str × Int => (x.1, x.2.1)) ∘ fun x => if x.1 = a ∧ x.2.1 = b then (x.1, x.2.1, i) else x) = fun x => (x.1, x.2.1) := by
      funext x
      show (fun x : Str × Str × Int => (x.1, x.2.1)) (if x.1 = a ∧ x.2.1 = b then (x.1, x.2.1, i) else x) = _
      split <;> rfl
    rw [e]
    exact hn
  · rename_i h
    rw [List.map_append]
    refine List.nodup_append.mpr ⟨hn, by simp, fun x hx y hy e => ?_⟩
    obtain ⟨z, hz, rfl⟩ := List.mem_map.mp hx
    have hy' : y = (a, b) := by simpa using hy
    rw [hy'] at e
    injection e with e1 e2
    exact h (List.any_eq_true.mpr ⟨z, hz, decide_eq_true ⟨e1, e2⟩⟩)
theorem putE_len (es : List (Str × Str × Int)) (a b : Str) (i : Int) : (putE es a b i).length ≤ es.length + 1 := by
  unfold putE
  split
  · rw [List.length_map]
    omega
  · rw [List.length_append]
    exact Nat.le_refl _
theorem putE_all {Pd : Str × Str × Int → Prop} {es : List (Str × Str × Int)} {a b : Str} {i : Int} (h : ∀ x ∈ es, Pd x) (hn : Pd (a, b, i)) : ∀ x ∈ putE es a b i, Pd x := by
  intro x hx
  unfold putE at hx
  split at hx
  · obtain ⟨y, hy, rfl⟩ := List.mem_map.mp hx
    split
    · rename_i e
      rw [e.1, e.2]
      exact hn
    · exact h y hy
  · rcases List.mem_append.mp hx with hx | hx
    · exact h x hx
    · rw [List.mem_singleton.mp hx]
      exact hn
theorem val_enc {es : List (Str × Str × Int)} {a b : Str} {i : Int} (hn : (es.map fun x => (x.1, x.2.1)).Nodup) (h : (a, b, i) ∈ es) : valV (es.map encE) [Sum.inr a, Sum.inr b] = some (.int i) := by
  induction es with
  | nil => cases h
  | cons y r ih =>
    rw [List.map_cons]
    rw [List.map_cons, List.nodup_cons] at hn
    by_cases e : y.1 = a ∧ y.2.1 = b
    · rw [valV_pos ((encE_key y a b).mpr e)]
      rcases List.mem_cons.mp h with z | z
      · rw [← z]
        rfl
      · exact absurd (List.mem_map.mpr ⟨_, z, by rw [e.1, e.2]⟩) hn.1
    · rw [valV_neg (fun z => e ((encE_key y a b).mp z))]
      rcases List.mem_cons.mp h with z | z
      · rw [← z] at e
        exact absurd ⟨rfl, rfl⟩ e
      · exact ih hn.2 z
theorem map_erase {α β : Type} (f : α → β) : ∀ (xs : List α) (k : Nat), (xs.map f).eraseIdx k = (xs.eraseIdx k).map f
  | [], _ => rfl
  | _ :: _, 0 => rfl
  | x :: r, k + 1 => by
    show f x :: (r.map f).eraseIdx k = f x :: (r.eraseIdx k).map f
    rw [map_erase f r k]
theorem dpStrs {K : PySem.W.Frag} {H : Hp} : ∀ us : List Str, DpAll K H (us.map V.str) (us.map PyData.str)
  | [] => .nil
  | _ :: r => .cons (.str _) (dpStrs r)
theorem sm_strs {us : List Str} {n m : Nat} (hn : us.length ≤ n) (h : ∀ t ∈ us, Small t ∧ t.length ≤ m) (hM : n * (m + 1) ≤ 1000000) : Sm 1000000 1 (.list (us.map PyData.str)) := by
  refine Sm.lst (n := n) (m := m) (k := 0) (by rw [List.length_map]; exact hn) (fun d hd => ?_) hM
  obtain ⟨t, ht, rfl⟩ := List.mem_map.mp hd
  exact Sm.str (h t ht).1.ok (h t ht).2
theorem keys_zip {H : Hp} : ∀ {es : List (Str × Str × Int)} {bs : List Addr}, IsKeys H (es.map encE) bs → ∃ bes : List (Addr × (Str × Str × Int)), bes.map (·.1) = bs ∧ bes.map (·.2) = es ∧ ∀ x ∈ bes, H x.1 = some (.tup [.str x.2.1, .str x.2.2.1])
  | [], _, .nil => ⟨[], rfl, rfl, fun x h => by cases h⟩
  | e :: es, b :: bs, .cons r t => by
    obtain ⟨bes, h1, h2, h3⟩ := keys_zip (es := es) t
    refine ⟨(b, e) :: bes, by rw [List.map_cons, h1], by rw [List.map_cons, h2], fun x hx => ?_⟩
    rcases List.mem_cons.mp hx with rfl | hx
    · exact r
    · exact h3 x hx
theorem ixN_in {n : Nat} {i : Int} (h0 : 0 ≤ i) (h1 : i < n) : seqIndex? i n = some i.toNat := by
  refine (ixN_seq ?_).1
  unfold ixN
  rw [if_pos h0, if_pos h1]
end Pf


namespace Pf
open PySem PySem.Spec PyProof.Rows L2
/-! ### dict(zip(a, b)) of two tuples -/
section
variable {P : Program} {w : World} {A : Around} {E : Value → Shared → Prop} {s : Shared} {q U O G j1 j2 m1 m2 : Addr} {f : Bool} {og : Obj} {k1 k2 : Nat} {us vs : Array Value}
theorem zn_item {u v : Value} {R : Value → Shared → Prop} (D : ZipApart q U O j1 j2 m1 m2) (hq : IsZipHeld s.heap q U O G f) (hG : s.heap.get? G = some og) (hU : IsPair s.heap U (.ref j1) (.ref j2)) (t1 : s.heap.IsTupleIter j1 m1 k1) (t2 : s.heap.IsTupleIter j2 m2 k2) (b1 : s.heap.IsTuple m1 us) (b2 : s.heap.IsTuple m2 vs) (eu : us[k1]? = some u) (ev : vs[k2]? = some v)
    (next : ∀ h', IsZipHeld h' q U O G true → h'.IsTupleIter j1 m1 (k1 + 1) → h'.IsTupleIter j2 m2 (k2 + 1) → IsPair h' s.heap.objs.size u v → (∀ c o, c ≠ q → c ≠ j1 → c ≠ j2 → s.heap.get? c = some o → h'.get? c = some o) → R (.ref s.heap.objs.size) { s with heap := h' }) :
    wpAny (model P w) A (Builtin.«zip.__next__» ⟨[.ref q], []⟩) (fun fin s' => ∃ v, fin = .done (.ret v) ∧ R v s') E s := by
  show wpAny _ _ (field (.ref q) 2 >>= _) _ _ _
  refine wpAny_bind (wpAny_field hq rfl (x := .bool false) rfl ?_)
  show wpAny _ _ (field (.ref q) 3 >>= _) _ _ _
  refine wpAny_bind (wpAny_field hq rfl (x := .ref U) rfl (wpAny_bind (wpAny_seqItems hU rfl ?_)))
  show wpAny _ _ (Builtin.SmallTypes.ownedTupleIsFree (.ref q) >>= _) _ _ _
  refine wpAny_bind (wpAny_tupleHeld_zip hq hG fun g1 q1 e1 => ?_)
  simp only [Bool.false_eq_true, if_false]; refine wpAny_bind ?_; rw [← Array.forIn_toList]; simp only [List.forIn_cons, List.forIn_nil]
  refine wpAny_bind (wpAny_bind (wpAny_holding ?_))
  show wpAny _ _ (Builtin.SmallTypes.nextOf (.ref j1) >>= _) _ _ _
  refine wpAny_bind (RZ.nextOf_tuple_item (s := { s with heap := g1 }) (t1.extBut e1.extBut D.i1z) (b1.extBut e1.extBut D.l1z) eu fun g2 t1b e2 => wpAny_pure (wpAny_pure ?_))
  refine wpAny_bind (wpAny_bind (wpAny_holding ?_))
  show wpAny _ _ (Builtin.SmallTypes.nextOf (.ref j2) >>= _) _ _ _
  refine wpAny_bind (RZ.nextOf_tuple_item (s := { s with heap := g2 }) ((t2.extBut e1.extBut D.i2z).extBut e2.extBut D.i12.symm) ((b2.extBut e1.extBut D.l2z).extBut e2.extBut D.l2i1) ev fun g3 t2b e3 => wpAny_pure (wpAny_pure (wpAny_pure ?_)))
  show wpAny _ _ (newTuple [u, v] >>= _) _ _ _
  refine wpAny_bind (wpAny_newTuple (wpAny_pure ⟨_, rfl, ?_⟩))
  have sz : g3.objs.size = s.heap.objs.size := by rw [e3.1, e2.1, e1.1]
  have q3 : IsZipHeld g3 q U O G true := e3.extBut _ _ D.i2z.symm (e2.extBut _ _ D.i1z.symm q1)
  have pr : IsPair (g3.push { cls := .type "tuple", data := .seq #[u, v] }) g3.objs.size u v := Heap.get?_push_size _ rfl
  show R (.ref g3.objs.size) _
  rw [sz] at pr ⊢
  exact next _ (Heap.get?_push_of_some _ q3) ((t1b.extBut e3.extBut D.i12).at fun o e => Heap.get?_push_of_some _ e) (t2b.at fun o e => Heap.get?_push_of_some _ e) pr fun c o c1 c2 c3 e => Heap.get?_push_of_some _ (e3.extBut _ _ c3 (e2.extBut _ _ c2 (e1.extBut _ _ c1 e)))
theorem zn_end {R : Fin → Shared → Prop} (hh : A.handled = none) (D : ZipApart q U O j1 j2 m1 m2) (hq : IsZipHeld s.heap q U O G f) (hG : s.heap.get? G = some og) (hU : IsPair s.heap U (.ref j1) (.ref j2)) (t1 : s.heap.IsTupleIter j1 m1 k1) (b1 : s.heap.IsTuple m1 us) (eu : us[k1]? = none)
    (next : ∀ h' e, (∀ c o, c ≠ q → c ≠ j1 → s.heap.get? c = some o → h'.get? c = some o) → (∃ o, h'.get? e = some o ∧ o.cls = .type "StopIteration") → E (.ref e) { s with heap := h' }) :
    wpAny (model P w) A (Builtin.«zip.__next__» ⟨[.ref q], []⟩) R E s := by
  show wpAny _ _ (field (.ref q) 2 >>= _) _ _ _
  refine wpAny_bind (wpAny_field hq rfl (x := .bool false) rfl ?_)
  show wpAny _ _ (field (.ref q) 3 >>= _) _ _ _
  refine wpAny_bind (wpAny_field hq rfl (x := .ref U) rfl (wpAny_bind (wpAny_seqItems hU rfl ?_)))
  show wpAny _ _ (Builtin.SmallTypes.ownedTupleIsFree (.ref q) >>= _) _ _ _
  refine wpAny_bind (wpAny_tupleHeld_zip hq hG fun g1 q1 e1 => ?_)
  simp only [Bool.false_eq_true, if_false]; refine wpAny_bind ?_; rw [← Array.forIn_toList]; simp only [List.forIn_cons, List.forIn_nil]
  refine wpAny_bind (wpAny_bind (wpAny_holding ?_))
  show wpAny _ _ (Builtin.SmallTypes.nextOf (.ref j1) >>= _) _ _ _
  exact wpAny_bind (RZ.nextOf_tuple_end (s := { s with heap := g1 }) hh (t1.extBut e1.extBut D.i1z) (b1.extBut e1.extBut D.l1z) eu fun g2 e e2 he => next g2 e (fun c o c1 c2 x => e2 _ _ c2 (e1.extBut _ _ c1 x)) he)
theorem zp_item {u v : Value} {R : Option Value → Shared → Prop} (D : ZipApart q U O j1 j2 m1 m2) (hq : IsZipHeld s.heap q U O G f) (hG : s.heap.get? G = some og) (hU : IsPair s.heap U (.ref j1) (.ref j2)) (t1 : s.heap.IsTupleIter j1 m1 k1) (t2 : s.heap.IsTupleIter j2 m2 k2) (b1 : s.heap.IsTuple m1 us) (b2 : s.heap.IsTuple m2 vs) (eu : us[k1]? = some u) (ev : vs[k2]? = some v)
    (next : ∀ h', IsZipHeld h' q U O G true → h'.IsTupleIter j1 m1 (k1 + 1) → h'.IsTupleIter j2 m2 (k2 + 1) → IsPair h' s.heap.objs.size u v → (∀ c o, c ≠ q → c ≠ j1 → c ≠ j2 → s.heap.get? c = some o → h'.get? c = some o) → R (some (.ref s.heap.objs.size)) { s with heap := h' }) :
    wpAny (model P w) A (pyNext (.ref q)) R E s := by
  have ty : s.TypeIs (.ref q) "zip" := ⟨_, hq, rfl⟩
  unfold pyNext
  exact wpAny_bind (wpAny_attempt (wpAny_callSpecial?_slot (name := Str.ofString "__next__") ty F.slot_zip_next (wpAny_call_entry F.slot_zip_next ty F.entry_zip_next (zn_item D hq hG hU t1 t2 b1 b2 eu ev fun h' a1 a3 a4 a5 a7 => wpAny_pure (next h' a1 a3 a4 a5 a7)) (F.args_zip_next_1 _))))
theorem zp_end {R : Option Value → Shared → Prop} (hh : A.handled = none) (D : ZipApart q U O j1 j2 m1 m2) (hq : IsZipHeld s.heap q U O G f) (hG : s.heap.get? G = some og) (hU : IsPair s.heap U (.ref j1) (.ref j2)) (t1 : s.heap.IsTupleIter j1 m1 k1) (b1 : s.heap.IsTuple m1 us) (eu : us[k1]? = none)
    (next : ∀ h', (∀ c o, c ≠ q → c ≠ j1 → s.heap.get? c = some o → h'.get? c = some o) → R none { s with heap := h' }) : wpAny (model P w) A (pyNext (.ref q)) R E s := by
  have ty : s.TypeIs (.ref q) "zip" := ⟨_, hq, rfl⟩
  unfold pyNext
  refine wpAny_bind (wpAny_attempt (wpAny_callSpecial?_slot (name := Str.ofString "__next__") ty F.slot_zip_next (wpAny_call_entry F.slot_zip_next ty F.entry_zip_next (zn_end hh D hq hG hU t1 b1 eu fun h' e kp ⟨o, ho, hc⟩ => ?_) (F.args_zip_next_1 _))))
  exact wpAny_bind (wpAny_isInstance (T := "StopIteration") (b := true) ⟨o, ho, hc⟩ isSubtype_stop (wpAny_pure (next _ kp)))
end
theorem zipT_arg {P : Program} {w : World} (q U O j1 j2 m1 m2 : Addr) (D : ZipApart q U O j1 j2 m1 m2) (us vs : Array Value) (hl : us.size = vs.size) :
    PairArg P w "zip" q [q, U, O, j1, j2, m1, m2] [q, O, j1, j2] us.size (fun i k v => us[i]? = some k ∧ vs[i]? = some v)
      (fun h => IsZip h q U O .none ∧ IsPair h U (.ref j1) (.ref j2) ∧ (∃ a b, IsPair h O a b) ∧ h.IsTupleIter j1 m1 0 ∧ h.IsTupleIter j2 m2 0 ∧ h.IsTuple m1 us ∧ h.IsTuple m2 vs) where
  type := fun s ok => ⟨_, ok.1, rfl⟩
  notDict := by decide
  keep := fun h h' ⟨z0, z1, ⟨a, b, z2⟩, z3, z4, z5, z6⟩ k => ⟨k _ _ z0, k _ _ z1, ⟨a, b, k _ _ z2⟩, z3.at fun o e => k _ o e, z4.at fun o e => k _ o e, z5.at fun o e => k _ o e, z6.at fun o e => k _ o e⟩
  there := fun h ⟨z0, z1, ⟨a, b, z2⟩, ⟨_, z3, _⟩, ⟨_, z4, _⟩, ⟨_, z5, _⟩, ⟨_, z6, _⟩⟩ c hc => by
    simp only [List.mem_cons, List.not_mem_nil, or_false] at hc
    rcases hc with rfl | rfl | rfl | rfl | rfl | rfl | rfl
    · exact ⟨_, z0⟩
    · exact ⟨_, z1⟩
    · exact ⟨_, z2⟩
    · exact ⟨_, z3⟩
    · exact ⟨_, z4⟩
    · exact ⟨_, z5⟩
    · exact ⟨_, z6⟩
  sub := fun b hb => by simp only [List.mem_cons, List.not_mem_nil, or_false] at hb ⊢; rcases hb with rfl | rfl | rfl | rfl <;> simp
  noKeys := fun A s Q E hA ok h => getAttrOr_miss_zip ok.1 rfl rfl rfl zip_no_keys (by decide +kernel) hA h
  iter := fun A s d Q E hA ⟨z0, z1, ⟨a, b, z2⟩, z3, z4, z5, z6⟩ hd hdf h => by
    simp only [List.mem_cons, List.not_mem_nil, or_false, not_or] at hdf
    obtain ⟨d0, d1, d2, d3, d4, d5, d6⟩ := hdf
    refine wpAny_pyIter_zip z0 (h q [q, O, j1, j2] (fun i h => IsPair h U (.ref j1) (.ref j2) ∧ h.IsTupleIter j1 m1 i ∧ h.IsTupleIter j2 m2 i ∧ h.IsTuple m1 us ∧ h.IsTuple m2 vs ∧ ((IsZip h q U O .none ∧ ∃ a b, IsPair h O a b) ∨ ∃ G f og, IsZipHeld h q U O G f ∧ h.get? G = some og ∧ G ≠ q ∧ G ≠ j1 ∧ G ≠ j2 ∧ G ≠ d)) s.heap s.toks ?_ ⟨z1, z3, z4, z5, z6, .inl ⟨z0, a, b, z2⟩⟩ (fun _ _ e => e) fun b hb => .inl hb)
    refine { off := fun hm => ?_, frame := fun i g1 g2 st k => ?_, item := fun i s1 Q1 E1 hi st hds next => ?_, done := fun s1 Q1 E1 st next => ?_ }
    · simp only [List.mem_cons, List.not_mem_nil, or_false] at hm
      rcases hm with e | e | e | e
      · exact d0 e
      · exact d2 e
      · exact d3 e
      · exact d4 e
    · obtain ⟨y1, y3, y4, y5, y6, y⟩ := st
      refine ⟨k _ _ (Ne.symm d1) y1, y3.at fun o e => k _ o (Ne.symm d3) e, y4.at fun o e => k _ o (Ne.symm d4) e, y5.at fun o e => k _ o (Ne.symm d5) e, y6.at fun o e => k _ o (Ne.symm d6) e, ?_⟩
      rcases y with ⟨y0, a, b, y2⟩ | ⟨G, f, og, y0, yG, r1, r2, r3, r4⟩
      · exact .inl ⟨k _ _ (Ne.symm d0) y0, a, b, k _ _ (Ne.symm d2) y2⟩
      · exact .inr ⟨G, f, og, k _ _ (Ne.symm d0) y0, k _ _ r4 yG, r1, r2, r3, r4⟩
    · obtain ⟨y1, y3, y4, y5, y6, y⟩ := st
      have eu := Array.getElem?_eq_getElem hi
      have ev := Array.getElem?_eq_getElem (hl ▸ hi : i < vs.size)
      have lt : ∀ {c o}, s1.heap.get? c = some o → s1.heap.objs.size ≠ c := fun e => Nat.ne_of_gt (Heap.lt_size e)
      have n1 : s1.heap.objs.size ≠ j1 := let ⟨_, e, _⟩ := y3; lt e
      have n2 : s1.heap.objs.size ≠ j2 := let ⟨_, e, _⟩ := y4; lt e
      rcases y with ⟨y0, a, b, y2⟩ | ⟨G, f, og, y0, yG, r1, r2, r3, r4⟩
      · refine RZ.pyNext_zipT_item D y0 y1 y2 y3 y4 y5 y6 eu ev fun h' a1 a2 a3 a4 a5 a6 k => ?_
        refine next s1.heap.objs.size _ _ h' s1.toks ⟨eu, ev⟩ (.inl ⟨_, a5, rfl, _, rfl⟩) ⟨k _ _ D.TIz D.TITO D.TIi1 D.TIi2 y1, a3, a4, y5.at fun o e => k _ o D.l1z D.l1TO D.l1i1 D.l1i2 e, y6.at fun o e => k _ o D.l2z D.l2TO D.l2i1 D.l2i2 e, .inr ⟨s1.heap.objs.size, false, _, a1, a5, lt y0, n1, n2, Nat.ne_of_gt hds⟩⟩ fun c o hc e => ?_
        simp only [List.mem_cons, List.not_mem_nil, or_false, not_or] at hc
        exact k c o hc.1 hc.2.1 hc.2.2.1 hc.2.2.2 e
      · refine zp_item D y0 yG y1 y3 y4 y5 y6 eu ev fun h' a1 a3 a4 a5 k => ?_
        refine next s1.heap.objs.size _ _ h' s1.toks ⟨eu, ev⟩ (.inl ⟨_, a5, rfl, _, rfl⟩) ⟨k _ _ D.TIz D.TIi1 D.TIi2 y1, a3, a4, y5.at fun o e => k _ o D.l1z D.l1i1 D.l1i2 e, y6.at fun o e => k _ o D.l2z D.l2i1 D.l2i2 e, .inr ⟨G, true, og, a1, k _ _ r1 r2 r3 yG, r1, r2, r3, r4⟩⟩ fun c o hc e => ?_
        simp only [List.mem_cons, List.not_mem_nil, or_false, not_or] at hc
        exact k c o hc.1 hc.2.2.1 hc.2.2.2 e
    · obtain ⟨y1, y3, y4, y5, y6, y⟩ := st
      have eu : us[us.size]? = none := Array.getElem?_eq_none (Nat.le_refl _)
      rcases y with ⟨y0, a, b, y2⟩ | ⟨G, f, og, y0, yG, r1, r2, r3, r4⟩
      · refine RZ.pyNext_zipT_end hA D y0 y1 y2 y3 y4 y5 y6 (.inl eu) fun h' k => next h' s1.toks fun c o hc e => ?_
        simp only [List.mem_cons, List.not_mem_nil, or_false, not_or] at hc
        exact k c o hc.1 hc.2.1 hc.2.2.1 hc.2.2.2 e
      · refine zp_end hA D y0 yG y1 y3 y5 eu fun h' k => next h' s1.toks fun c o hc e => ?_
        simp only [List.mem_cons, List.not_mem_nil, or_false, not_or] at hc
        exact k c o hc.1 hc.2.2.1 e
theorem kv_zip {P : Program} {w : World} : ∀ {kvs : List (Key × V)} {its its2 : List Value}, Vals (kvs.map fun x => kV x.1) its → Vals (kvs.map (·.2)) its2 → ∃ prs : List (Key × Value), KV kvs prs ∧ prs.length = kvs.length ∧ ∀ (i : Nat) (key v : Value), its[i]? = some key → its2[i]? = some v → ∃ k, prs[i]? = some (k, v) ∧ (mixKind P w).is k key = true
  | [], _, _, r1, r2 => ⟨[], .nil, rfl, fun i key v e _ => by
      cases r1
      cases e⟩
  | (k, y) :: rest, _, _, r1, r2 => by
    rw [List.map_cons] at r1 r2
    cases r1 with
    | cons a1 t1 =>
      cases r2 with
      | cons a2 t2 =>
        obtain ⟨prs, r, hl, hp⟩ := kv_zip (P := P) (w := w) t1 t2
        refine ⟨(k, _) :: prs, .cons ⟨rfl, a2⟩ r, by rw [List.length_cons, List.length_cons, hl], fun i key v e e2 => ?_⟩
        cases i with
        | zero =>
          rw [List.getElem?_cons_zero] at e e2
          cases e
          cases e2
          exact ⟨k, rfl, kV_is a1⟩
        | succ i =>
          rw [List.getElem?_cons_succ] at e e2
          exact hp i key v e e2
def tDz (K : PySem.W.Frag) (ta : TA) : TE := fun σ H Q => ta σ H fun vs H1 => ∃ (a b : Addr) (kvs : List (Key × V)), vs = [.ref a, .ref b] ∧ SqT K H1 a (kvs.map fun x => kV x.1) ∧ SqT K H1 b (kvs.map (·.2)) ∧ ∀ p, H1 p = none → Q (.ref p) (upd H1 p (.dK (mergeK [] kvs)))
theorem pe_dictZip {X : Cx} {e e2 : Expr} {ta : TA} {p p2 pos pos2 : Pos} (hgd : Gl X "dict") (hmd : X.mg "dict" = none) (hg : Gl X "zip") (hm : X.mg "zip" = none) (hcalm : X.calm = true) (ha : PA X [e, e2] ta)
    (na : starEach [.Call (.Name "zip" p2) [e, e2] [] pos2] X.env = (false, eval (.Call (.Name "zip" p2) [e, e2] [] pos2) X.env) :: starEach [] X.env := by rfl)
    (hs : starEach [e, e2] X.env = (false, eval e X.env) :: starEach [e2] X.env := by rfl) (hpl : (backTo pos2 (starEach [e2] X.env)).any (·.1) = false := by rfl) :
    PE X (.Call (.Name "dict" p) [.Call (.Name "zip" p2) [e, e2] [] pos2] [] pos) (tDz X.K ta) := by
  refine ⟨fun pins s σ H Q I h => ?_⟩
  refine Call_ (ld_blt I hgd hmd PyProof.Rows.boot_dict (PyProof.Rows.callWith_type1 (args_cons (Call_ (ld_blt I hg hm PyProof.Rows.boot_zip (PyProof.Rows.callWith_type1 (thn (ha.run pos2 pins s σ H _ I h) fun us s1 ⟨vs, H1, I1, r1, q1⟩ => ?_) hs hpl))) na) na))
  obtain ⟨a, b, kvs, rfl, ha1, hb1, q⟩ := q1
  cases r1 with
  | cons ra rr =>
    cases rr with
    | cons rb rr =>
      cases rr
      cases ra
      cases rb
      obtain ⟨its, v1, p1, hz1⟩ := I1.tuple ha1
      obtain ⟨its2, v2, p2', hz2⟩ := I1.tuple hb1
      obtain ⟨o1, ho1, y1⟩ := id p1
      obtain ⟨o2, ho2, y2⟩ := id p2'
      obtain ⟨prs, rel, hl, hp⟩ := kv_zip (P := X.prog) (w := X.w) v1 v2
      have l1 : its.length = kvs.length := by
        have := v1.length
        rw [List.length_map] at this
        exact this.symm
      have l2 : its2.length = kvs.length := by
        have := v2.length
        rw [List.length_map] at this
        exact this.symm
      rw [List.length_map] at hz1
      refine RZ.call_zipT (show s1.heap.IsTuple a its.toArray from p1) (show s1.heap.IsTuple b its2.toArray from p2') fun h' hz hTI hTO t1 t2 hsz hk => args_nil ?_
      have D := PySem.W.ktu_apart s1.heap.objs.size a b (Heap.lt_size ho1) (Heap.lt_size ho2)
      refine PySem.call_dict_pairs (knd := mixKind X.prog X.w) (kvs := prs) (zipT_arg _ _ _ _ _ a b D its.toArray its2.toArray (by rw [List.size_toArray, List.size_toArray, l1, l2])) (I1.ok.hd hcalm) ⟨hz, hTI, ⟨_, _, hTO⟩, t1, t2, ⟨o1, hk _ _ ho1, y1⟩, ⟨o2, hk _ _ ho2, y2⟩⟩ ⟨?_, fun i key v e => ?_⟩ ?_ fun h2 tk hd hk2 => ?_
      · rw [hl, List.size_toArray, l1]
      · exact hp i key v (by simpa using e.1) (by simpa using e.2)
      · rw [List.size_toArray, l1]
        exact hz1
      · have keep : ∀ c o, s1.heap.get? c = some o → h2.get? c = some o := fun c o e => by
          have hlt := Heap.lt_size e
          refine hk2 c o (fun hm => ?_) (hk c o e)
          simp only [List.mem_cons, List.not_mem_nil, or_false] at hm
          rcases hm with z | z | z | z
          · exact Nat.not_lt.mpr (Nat.le_add_right _ _) (z ▸ hlt)
          · exact Nat.not_lt.mpr (Nat.le_add_right _ _) (z ▸ hlt)
          · exact Nat.not_lt.mpr (Nat.le_refl _) (z ▸ hlt)
          · exact Nat.not_lt.mpr (Nat.le_add_right _ _) (z ▸ hlt)
        have hle : s1.heap.objs.size ≤ h'.objs.size := by
          rw [hsz]
          exact Nat.le_add_right _ _
        have hm : (h'.objs.size == sysModules) = false := beq_eq_false_iff_ne.mpr (Nat.ne_of_gt (Nat.lt_of_lt_of_le I1.big hle))
        have hlen : (mergeK [] kvs).length ≤ sizeLine := by
          refine Nat.le_trans (length_mergeK kvs []) ?_
          rw [List.length_nil, Nat.zero_add]
          exact hz1
        exact ⟨.ref h'.objs.size, upd H1 h'.objs.size (.dK (mergeK [] kvs)), I1.laid (t' := tk) keep hle (show ObjOk X.prog X.w _ _ _ (.dK (mergeK [] kvs)) from ⟨hlen, hm, merged [] prs, KV.merge rel .nil, hd⟩), rfl, q _ (I1.hok.fresh hle)⟩
end Pf


namespace Pf
open PySem PySem.Spec PyProof.Rows L2
/-! ### sum(lists, start) -/
abbrev LiO (its : List Value) (n : Nat) : Obj := { cls := .type "list", dict := none, data := .seq its.toArray n, slots := #[] }
section
variable {P : Program} {w : World} {A : Around} {R : Result → Shared → Prop} {I l S : Addr} {items : Array Value}
theorem suml_loop (hh : A.in1.handled = none) (nIS : I ≠ S) (nIl : l ≠ I) (nSl : l ≠ S) : ∀ (rest : List (Addr × List Value)) (i : Nat) (s : Shared) (t : Addr) (acc : List Value) (c1 ct : Nat), items.size = i + rest.length → s.heap.IsListIter I l i → s.heap.IsList l items →
    (∀ (j : Nat) (x : Addr × List Value), rest[j]? = some x → items[i + j]? = some (.ref x.1) ∧ x.1 ≠ I ∧ x.1 ≠ S ∧ ∃ c, s.heap.get? x.1 = some (LiO x.2 c)) → s.heap.get? S = some (LiO [.ref t] c1) → s.heap.get? t = some (LiO acc ct) → t ≠ I → t ≠ S →
    acc.length + (rest.map (·.2)).flatten.length ≤ sizeLine →
    (∀ h' tk t' c', h'.get? t' = some (LiO (acc ++ (rest.map (·.2)).flatten) c') → (rest = [] → t' = t) → (rest ≠ [] → s.heap.objs.size ≤ t') → (∀ b o, b ≠ I → b ≠ S → s.heap.get? b = some o → h'.get? b = some o) → R (.ok (.ret (.ref t'))) { s with heap := h', toks := tk }) →
    codeAny (model P w) A (.builtin "sum.loop" ⟨[.ref I, .ref S, rawInt 2, rawInt 0], []⟩) R s
  | [], i, s, t, acc, c1, ct, hn, it, hl, _, hS, ht, _, _, _, hR => by
    refine codeAny_builtin F.entry_sum_loop ?_; rw [Around.under_plainId F.plain_sum_loop _]
    show wpAny _ A.in1 (seqItems? (.ref S) >>= _) _ _ _
    refine wpAny_bind (wpAny_seqItems hS rfl ?_)
    show wpAny _ A.in1 (tryCatch (pyNext (.ref I)) _ >>= _) _ _ _
    refine wpAny_bind (wpAny_tryCatch (wpAny_pyNext_list_end hh it hl (Array.getElem?_eq_none (by rw [hn]; exact Nat.le_refl _)) fun h' he => ?_))
    exact wpAny_pure (hR h' s.toks t ct (by rw [List.map_nil, List.flatten_nil, List.append_nil]; exact he t _ (by assumption) ht) (fun _ => rfl) (fun z => absurd rfl z) fun b o n1 _ e => he b o n1 e)
  | (b, ys) :: rest, i, s, t, acc, c1, ct, hn, it, hl, hx, hS, ht, ntI, ntS, hz, hR => by
    obtain ⟨e0, nbI, nbS, cb, hb⟩ := hx 0 (b, ys) rfl
    rw [List.map_cons, List.flatten_cons] at hR
    rw [List.map_cons, List.flatten_cons, List.length_append] at hz
    have hz : acc.length + (ys.length + (rest.map (·.2)).flatten.length) ≤ sizeLine := hz
    refine codeAny_builtin F.entry_sum_loop ?_; rw [Around.under_plainId F.plain_sum_loop _]
    show wpAny _ A.in1 (seqItems? (.ref S) >>= _) _ _ _
    refine wpAny_bind (wpAny_seqItems hS rfl ?_)
    show wpAny _ A.in1 (tryCatch (pyNext (.ref I)) _ >>= _) _ _ _
    refine wpAny_bind (wpAny_tryCatch (wpAny_pyNext_list_item it hl e0 fun h1 it1 s1 => ?_))
    have hS1 := s1.extBut _ _ nIS.symm hS
    have ht1 := s1.extBut _ _ ntI ht
    have hb1 := s1.extBut _ _ nbI hb
    show wpAny _ A.in1 ((holding [Value.ref b] (binaryOp .Add (.ref t) (.ref b))).attempt >>= _) _ _ _
    refine wpAny_bind (wpAny_attempt (wpAny_holding (PySem.P.add_list (n := ct) (n2 := cb) ht1 hb1 ?_ (by rw [List.size_toArray, List.size_toArray]; show acc.length + ys.length ≤ _; omega))))
    have ea : acc.toArray ++ ys.toArray = (acc ++ ys).toArray := by simp
    rw [ea]
    have sz1 : h1.objs.size = s.heap.objs.size := s1.1
    generalize hh2 : h1.push { cls := Value.type "list", data := Data.seq (acc ++ ys).toArray } = h2
    have up2 : ∀ c o, h1.get? c = some o → h2.get? c = some o := fun c o e => hh2 ▸ Heap.get?_push_of_some _ e
    have new2 : h2.get? h1.objs.size = some (LiO (acc ++ ys) 0) := hh2 ▸ Heap.get?_push_size _ rfl
    have sz2 : h2.objs.size = h1.objs.size + 1 := hh2 ▸ Heap.size_push ..
    have ltS : S < h1.objs.size := Heap.lt_size hS1
    have ltI : I < h1.objs.size := by
      obtain ⟨_, e, _⟩ := it1
      exact Heap.lt_size e
    show wpAny _ A.in1 (updateSeq S (fun _ => #[.ref h1.objs.size]) >>= _) _ _ _
    refine wpAny_bind (wpAny_updateSeq (up2 _ _ hS1) rfl ?_)
    have hS3 := Heap.get?_update_self (Obj.mapSeq fun _ => #[Value.ref h1.objs.size]) (up2 _ _ hS1) rfl
    refine wpAny_bind (wpAny_letGo ?_)
    refine wpAny_bind (wpAny_updateSeq hS3 rfl (wpAny_pure ⟨plainId_quiet F.plain_sum_loop _, ?_⟩))
    have hS4 := Heap.get?_update_self (Obj.mapSeq fun _ => #[Value.ref h1.objs.size]) hS3 rfl
    have up4 : ∀ c o, c ≠ S → h2.get? c = some o → ((h2.update S (Obj.mapSeq fun _ => #[Value.ref h1.objs.size])).update S (Obj.mapSeq fun _ => #[Value.ref h1.objs.size])).get? c = some o := fun c o n e => (Heap.get?_update_other _ _ n.symm).trans ((Heap.get?_update_other _ _ n.symm).trans e)
    have all : ∀ c o, c ≠ I → c ≠ S → s.heap.get? c = some o → ((h2.update S (Obj.mapSeq fun _ => #[Value.ref h1.objs.size])).update S (Obj.mapSeq fun _ => #[Value.ref h1.objs.size])).get? c = some o := fun c o n1 n2 e => up4 c o n2 (up2 _ _ (s1.extBut _ _ n1 e))
    refine suml_loop hh nIS nIl nSl rest (i + 1) { s with heap := (h2.update S (Obj.mapSeq fun _ => #[Value.ref h1.objs.size])).update S (Obj.mapSeq fun _ => #[Value.ref h1.objs.size]) } h1.objs.size (acc ++ ys) _ 0 ?_ ?_ ?_ (fun j x hj => ?_) hS4 (up4 _ _ (Nat.ne_of_gt ltS) new2) (Nat.ne_of_gt ltI) (Nat.ne_of_gt ltS) ?_ fun h' tk t' c' g1 g2 g3 g4 => ?_
    · rw [hn, List.length_cons]
      omega
    · exact it1.at fun o e => up4 _ _ nIS (up2 _ _ e)
    · exact hl.at fun o e => all _ _ nIl nSl e
    · obtain ⟨y1, y2, y3, c, y4⟩ := hx (j + 1) x hj
      exact ⟨by rw [show i + 1 + j = i + (j + 1) by omega]; exact y1, y2, y3, c, all _ _ y2 y3 y4⟩
    · rw [List.length_append]
      omega
    · refine hR h' tk t' c' (by rw [← List.append_assoc]; exact g1) (fun z => nomatch z) (fun _ => ?_) fun b o n1 n2 e => g4 b o n1 n2 (all _ _ n1 n2 e)
      cases hr : rest with
      | nil =>
        rw [g2 hr, sz1]
        exact Nat.le_refl _
      | cons y r =>
        have := g3 (by rw [hr]; intro z; cases z)
        have e4 : ((h2.update S (Obj.mapSeq fun _ => #[Value.ref h1.objs.size])).update S (Obj.mapSeq fun _ => #[Value.ref h1.objs.size])).objs.size = h2.objs.size := by
          rw [Heap.size_update, Heap.size_update]
        exact Nat.le_trans (by rw [← sz1, ← Nat.lt_succ_iff]; show h1.objs.size < _; rw [e4, sz2]; exact Nat.lt_succ_of_le (Nat.le_succ _)) this
end
theorem sub_ls : isSubtype (.type "list") (.type "str") = pure false := by rw [isSubtype_type]; kernel_rfl
theorem sub_lb : isSubtype (.type "list") (.type "bytes") = pure false := by rw [isSubtype_type]; kernel_rfl
theorem sub_la : isSubtype (.type "list") (.type "bytearray") = pure false := by rw [isSubtype_type]; kernel_rfl
theorem args_sum2 (a b : Value) : argsOk "sum" ⟨[a, b], []⟩ := by unfold argsOk; kernel_rfl
theorem lists_of {X : Cx} {pins : List (Addr × Obj)} {σ : L2.St} {H : Hp} {s : Shared} (I : Inv X pins σ H s) : ∀ {ls : List (Addr × List V)}, (∀ x ∈ ls, H x.1 = some (.lst x.2)) → ∃ rest : List (Addr × List Value), rest.map (·.1) = ls.map (·.1) ∧ Vals (ls.map (·.2)).flatten (rest.map (·.2)).flatten ∧ ∀ x ∈ rest, ∃ c, s.heap.get? x.1 = some (LiO x.2 c)
  | [], _ => ⟨[], rfl, .nil, fun x h => by cases h⟩
  | (a, ys) :: ls, h => by
    obtain ⟨rest, r1, r2, r3⟩ := lists_of I (ls := ls) fun x hx => h x (List.mem_cons_of_mem _ hx)
    obtain ⟨_, its, n, r, _, e⟩ := I.lstM (h (a, ys) (List.mem_cons_self ..))
    refine ⟨(a, its) :: rest, by rw [List.map_cons, List.map_cons, r1], ?_, fun x hx => ?_⟩
    · rw [List.map_cons, List.map_cons, List.flatten_cons, List.flatten_cons]
      exact r.append r2
    · rcases List.mem_cons.mp hx with rfl | hx
      · exact ⟨n, e⟩
      · exact r3 x hx
def rSumL (K : PySem.W.Frag) : List V → Hp → VK → Prop := fun vs H Q => ∃ (a b : Addr) (ls : List (Addr × List V)) (xs : List V), vs = [.ref a, .ref b] ∧ SqL K H a (ls.map fun x => .ref x.1) ∧ (∀ x ∈ ls, H x.1 = some (.lst x.2)) ∧ H b = some (.lst xs) ∧ xs.length + (ls.map (·.2)).flatten.length ≤ sizeLine ∧
  (ls = [] → Q (.ref b) H) ∧ (ls ≠ [] → ∀ p, H p = none → Q (.ref p) (upd H p (.lst (xs ++ (ls.map (·.2)).flatten))))
theorem cr_sumL (K : PySem.W.Frag) {X : Cx} (hcalm : X.calm = true) (hK : X.K = K := by rfl) : CallR X (.builtin "sum") (rSumL K) := by
  subst hK
  intro pins s σ H vs us Q I r h
  obtain ⟨a, b, ls, xs, rfl, ha, hls, hb, hz, q0, q1⟩ := h
  cases r with
  | cons ra rr =>
    cases rr with
    | cons rb rr =>
      cases rr
      cases ra
      cases rb
      obtain ⟨its, v1, pl, _⟩ := I.list ha
      obtain ⟨rest, r1, r2, r3⟩ := lists_of I hls
      obtain ⟨_, bs, nb, vb, _, eb⟩ := I.lstM hb
      have hl : s.heap.IsList a its.toArray := pl.isList
      have ei : its = rest.map fun x => Value.ref x.1 := by
        have e1 : (ls.map fun x => V.ref x.1) = (ls.map (·.1)).map V.ref := by rw [List.map_map]; rfl
        rw [e1] at v1
        rw [refs_at v1, ← r1, List.map_map]
        rfl
      refine call_function_tree F.kind_sum F.plain_sum F.entry_sum (args_sum2 _ _) ?_
      unfold Builtin.«sum»; simp only [List.length_cons, List.length_nil]; rw [if_neg (by decide)]
      refine wpAny_bind (wpAny_of_eq (show Builtin.Builtins.bindParams "sum" ["start"] 0 ⟨[.ref b], []⟩ = pure [some (.ref b)] from rfl) ?_)
      refine wpAny_bind (wpAny_pyIter_list hl ?_)
      have tb : ∀ tk, Shared.TypeIs { s with heap := s.heap.push { cls := .type "list_iterator", data := .fields #[.ref a, .int 0 0] }, toks := tk } (.ref b) "list" := fun _ => ⟨_, Heap.get?_push_of_some _ eb, rfl⟩
      refine wpAny_bind (wpAny_pure ?_)
      simp only [List.forIn_cons, List.forIn_nil]
      refine wpAny_bind (wpAny_bind (wpAny_bind (wpAny_isInstance (T := "list") (b := false) (tb _) sub_ls ?_))); simp only [Bool.false_eq_true, if_false]
      refine wpAny_pure (wpAny_bind (wpAny_bind (wpAny_isInstance (T := "list") (b := false) (tb _) sub_lb ?_))); simp only [Bool.false_eq_true, if_false]
      refine wpAny_pure (wpAny_bind (wpAny_bind (wpAny_isInstance (T := "list") (b := false) (tb _) sub_la ?_))); simp only [Bool.false_eq_true, if_false]
      refine wpAny_pure (wpAny_pure (wpAny_bind (wpAny_newObj_type (wpAny_pure ⟨plainId_quiet F.plain_sum_loop _, ?_⟩))))
      have lt : ∀ {c o}, s.heap.get? c = some o → c < s.heap.objs.size := fun e => Heap.lt_size e
      have la : a < s.heap.objs.size := pl.lt
      have lb : b < s.heap.objs.size := lt eb
      have sz : (s.heap.push { cls := .type "list_iterator", data := .fields #[.ref a, .int 0 0] }).objs.size = s.heap.objs.size + 1 := Heap.size_push ..
      have up : ∀ c o, s.heap.get? c = some o → ((s.heap.push { cls := .type "list_iterator", data := .fields #[.ref a, .int 0 0] }).push (LiO [.ref b] 0)).get? c = some o := fun c o e => Heap.get?_push_of_some _ (Heap.get?_push_of_some _ e)
      have off : ∀ {c}, c < s.heap.objs.size + 1 → c ≠ (s.heap.push { cls := .type "list_iterator", data := .fields #[.ref a, .int 0 0] }).objs.size := fun h => by
        rw [sz]
        exact Nat.ne_of_lt h
      refine suml_loop (P := X.prog) (w := X.w) (A := X.A) (I := s.heap.objs.size) (l := a) (S := (s.heap.push { cls := .type "list_iterator", data := .fields #[.ref a, .int 0 0] }).objs.size) (items := its.toArray) (I.ok.hd hcalm) (off (Nat.lt_succ_self _)) (Nat.ne_of_lt la) (off (Nat.lt_succ_of_lt la)) rest 0 { s with heap := (s.heap.push { cls := .type "list_iterator", data := .fields #[.ref a, .int 0 0] }).push (LiO [.ref b] 0) } b bs 0 nb ?_ ⟨_, Heap.get?_push_of_some _ (Heap.get?_push_size _ rfl), rfl, rfl⟩ (hl.at fun o e => up _ _ e) (fun j x hj => ?_) ?_ (up _ _ eb) (Nat.ne_of_lt lb) (off (Nat.lt_succ_of_lt lb)) ?_ fun h' tk t' c' g1 g2 g3 g4 => ?_
      · rw [List.size_toArray, ei, List.length_map, Nat.zero_add]
      · obtain ⟨c, hc⟩ := r3 x (List.mem_of_getElem? hj)
        have lx := lt hc
        refine ⟨?_, Nat.ne_of_lt lx, off (Nat.lt_succ_of_lt lx), c, up _ _ hc⟩
        rw [Nat.zero_add, List.getElem?_toArray, ei, List.getElem?_map, hj]
        rfl
      · exact Heap.get?_push_size _ rfl
      · have := r2.length
        have := vb.length
        omega
      · have keep : ∀ c o, s.heap.get? c = some o → h'.get? c = some o := fun c o e => g4 c o (Nat.ne_of_lt (lt e)) (off (Nat.lt_succ_of_lt (lt e))) (up c o e)
        cases hr : ls with
        | nil =>
          have hrest : rest = [] := by
            rw [hr] at r1
            cases rest with
            | nil => rfl
            | cons y z => cases r1
          rw [g2 hrest]
          exact ⟨.ref b, H, I.kept keep, rfl, q0 hr⟩
        | cons y z =>
          have hrest : rest ≠ [] := fun e => by
            rw [e, hr] at r1
            cases r1
          have hle : s.heap.objs.size ≤ t' := Nat.le_trans (by rw [Heap.size_push, Heap.size_push]; omega) (g3 hrest)
          refine ⟨.ref t', upd H t' (.lst (xs ++ (ls.map (·.2)).flatten)), I.laid keep hle (show ObjOk X.prog X.w _ _ _ (.lst (xs ++ (ls.map (·.2)).flatten)) from ⟨?_, bs ++ (rest.map (·.2)).flatten, c', vb.append r2, g1⟩), rfl, q1 (by rw [hr]; intro e; cases e) _ (I.hok.fresh hle)⟩
          rw [List.length_append]
          exact hz
/-! ### tuple(xs) of a list, its object known; dict(ps) of such a tuple of pairs -/
def rTupleFz (K : PySem.W.Frag) : List V → Hp → VK → Prop := fun xs H Q => ∃ p ys, xs = [.ref p] ∧ SqL K H p ys ∧ ∀ (l : Addr) (o : Obj), H l = none → o.dict = none → Q (.ref l) (upd H l (.frz o (.tup ys)))
theorem tupleFz (K : PySem.W.Frag) {X : Cx} (hK : X.K = K := by rfl) : CallR X (.type "tuple") (rTupleFz K) := by
  subst hK
  intro pins s σ H vs us Q I r h
  obtain ⟨p, ys, rfl, hs, q⟩ := h
  obtain ⟨u, rfl, rfl⟩ := vals1 r
  obtain ⟨its, rv, pl, hz⟩ := I.list hs
  refine call_tuple_list pl.isList (fun h' hk => ?_) (by rw [List.size_toArray, ← rv.length]; exact hz)
  have I1 : Inv X pins σ H { s with heap := h' } := I.kept (t' := s.toks) hk
  refine ⟨.ref h'.objs.size, _, I1.laid (t' := s.toks) (o := .frz { cls := .type "tuple", data := .seq its.toArray } (.tup ys)) (fun b o e => Heap.get?_push_of_some _ e) (Nat.le_refl _) ?_, rfl, q _ _ (I1.hok.fresh (Nat.le_refl _)) rfl⟩
  exact ⟨Heap.get?_push_size _ rfl, hz, its, rv, IsTup.new _ _⟩
theorem trips {X : Cx} {pins : List (Addr × Obj)} {σ : L2.St} {H : Hp} {s : Shared} (I : Inv X pins σ H s) : ∀ {ps : List Addr} {kvs : List (Key × V)}, Paired (fun p kv => SqT X.K H p [kV kv.1, kv.2]) ps kvs →
    ∃ tr : List (Key × Value × Value), tr.length = ps.length ∧ KV kvs (tr.map fun t => (t.1, t.2.2)) ∧ ∀ (j : Nat) (t : Key × Value × Value), tr[j]? = some t → ∃ b : Addr, ps[j]? = some b ∧ IsTup s.heap b #[t.2.1, t.2.2] ∧ (mixKind X.prog X.w).is t.1 t.2.1 = true
  | _, _, .nil => ⟨[], rfl, .nil, fun j t e => by simp at e⟩
  | _, _, .cons (a := p) (b := kv) h t => by
    obtain ⟨tr, hl, r, hp⟩ := trips I t
    obtain ⟨its, rv, ht, _⟩ := I.tuple h
    obtain ⟨u, y, ei, ru, ry⟩ := vals2 rv
    subst ei
    refine ⟨(kv.1, u, y) :: tr, by rw [List.length_cons, List.length_cons, hl], .cons ⟨rfl, ry⟩ r, fun j t e => ?_⟩
    cases j with
    | zero =>
      rw [List.getElem?_cons_zero] at e
      cases e
      exact ⟨p, rfl, ht, kV_is ru⟩
    | succ j =>
      rw [List.getElem?_cons_succ] at e
      obtain ⟨b, e1, e2⟩ := hp j t e
      exact ⟨b, by rw [List.getElem?_cons_succ]; exact e1, e2⟩
def rDictT (K : PySem.W.Frag) : List V → Hp → VK → Prop := fun xs H Q => ∃ (a : Addr) (o : Obj) (ps : List Addr) (kvs : List (Key × V)), xs = [.ref a] ∧ H a = some (.frz o (.tup (ps.map V.ref))) ∧ o.dict = none ∧ Paired (fun p kv => SqT K H p [kV kv.1, kv.2]) ps kvs ∧ ∀ p, H p = none → Q (.ref p) (upd H p (.dK (mergeK [] kvs)))
theorem dictT (K : PySem.W.Frag) {X : Cx} (hcalm : X.calm = true := by rfl) (hK : X.K = K := by rfl) : CallR X (.type "dict") (rDictT K) := by
  subst hK
  intro pins s σ H xs us Q I r h
  obtain ⟨a, o, ps, kvs, rfl, ha, hd, hp, q⟩ := h
  obtain ⟨u, rfl, rfl⟩ := vals1 r
  obtain ⟨e, hz, its, rv, o', e', hc, n, hdat⟩ := I.hok a _ ha
  have eo : o' = o := by
    rw [e] at e'
    exact (Option.some.inj e').symm
  subst eo
  obtain ⟨tr, hl, rel, htr⟩ := trips I hp
  have ei : its = ps.map Value.ref := refs_at rv
  rw [List.length_map] at hz
  refine PySem.call_dict_pairs (knd := mixKind X.prog X.w) (kvs := tr.map fun t => (t.1, t.2.2)) (PairArg.tuple a its.toArray (fun j => ps.getD j 0) (tr.map fun t => (t.2.1, t.2.2))) (I.ok.hd hcalm) ⟨⟨o', n, e, hc, hd, hdat⟩, ?_, fun j k v hj => ?_⟩ ⟨?_, fun i key v hi => ?_⟩ ?_ fun h' tk hd' k => ?_
  · rw [List.size_toArray, ei, List.length_map, List.length_map, hl]
  · rw [List.getElem?_map] at hj
    cases ht : tr[j]? with
    | none =>
      rw [ht] at hj
      cases hj
    | some t =>
      rw [ht] at hj
      cases hj
      obtain ⟨b, e1, e2, _⟩ := htr j t ht
      have eb : ps.getD j 0 = b := by
        rw [List.getD_eq_getElem?_getD, e1]
        rfl
      refine ⟨?_, .inl ?_⟩
      · rw [List.getElem?_toArray, ei, List.getElem?_map, e1]
        show some (Value.ref b) = some (Value.ref (ps.getD j 0))
        rw [eb]
      · show s.heap.IsTuple (ps.getD j 0) _
        rw [eb]
        exact e2
  · rw [List.length_map, List.length_map]
  · have hi : (tr.map fun t => (t.2.1, t.2.2))[i]? = some (key, v) := hi
    rw [List.getElem?_map] at hi
    cases ht : tr[i]? with
    | none =>
      rw [ht] at hi
      cases hi
    | some t =>
      rw [ht] at hi
      cases hi
      obtain ⟨b, _, _, e3⟩ := htr i t ht
      exact ⟨t.1, by rw [List.getElem?_map, ht]; rfl, e3⟩
  · rw [List.length_map, hl]
    exact hz
  · have hm : (s.heap.objs.size == sysModules) = false := beq_eq_false_iff_ne.mpr (Nat.ne_of_gt I.big)
    have hkl : kvs.length = ps.length := by
      have := rel.length
      rw [List.length_map, hl] at this
      exact this
    have hlen : (mergeK [] kvs).length ≤ sizeLine := by
      refine Nat.le_trans (length_mergeK kvs []) ?_
      rw [List.length_nil, Nat.zero_add, hkl]
      exact hz
    exact ⟨.ref s.heap.objs.size, upd H s.heap.objs.size (.dK (mergeK [] kvs)), I.laid (t' := tk) (fun b o e => k b o (fun z => nomatch z) e) (Nat.le_refl _) (show ObjOk X.prog X.w _ _ _ (.dK (mergeK [] kvs)) from ⟨hlen, hm, merged [] _, KV.merge rel .nil, hd'⟩), rfl, q _ (I.hok.fresh (Nat.le_refl _))⟩
end Pf


namespace Pf
open PySem PySem.Spec PyProof.Rows L2
/-! ### enumerate of a text -/
def ItES (x : Str) : It :=
  ⟨fun i _ => i < x.cps.size, fun i H v H' => ∃ T c, v = .ref T ∧ H T = none ∧ H' = upd H T (.tup [.int (i : Nat), .str ⟨#[c]⟩]) ∧ x.cps[i]? = some c, fun i _ => i = x.cps.size⟩
theorem turn_es {P : Program} {w : World} {K : PySem.W.Frag} {elts : List Expr} {kk : Nat} {tpos : Pos} (x : Str) (t : Tok) (e it : Addr) :
    Turn P w K (.Tuple elts kk tpos) (ItES x) [e, it] e (fun i h => (∃ old, IsEnum h e it ((i : Nat) : Int) old) ∧ h.IsStrIter it (strIterType x) x t i ∧ e ≠ it) where
  mem := by simp
  obj := fun i h st b hb => by
    obtain ⟨⟨old, he⟩, ⟨o, ho, hc, hd⟩, _⟩ := st
    have e' : b = e ∨ b = it := by simpa using hb
    cases e' with
    | inl z =>
      rw [z]
      exact ⟨_, he, fun v q => nomatch q⟩
    | inr z =>
      rw [z]
      exact ⟨o, ho, fun v q => by rw [hd] at q; cases q⟩
  keep := fun i h h' st k => by
    obtain ⟨⟨old, he⟩, ⟨o, ho, r⟩, hne⟩ := st
    exact ⟨⟨old, k e (by simp) _ he⟩, ⟨o, k it (by simp) o ho, r⟩, hne⟩
  item := by
    intro X hP hw hK hc i pins s σ H E I hf st hg
    subst hP hw hK
    obtain ⟨⟨old, he⟩, hit, hne⟩ := st
    have hel : e < s.heap.objs.size := Heap.lt_size he
    have hil : it < s.heap.objs.size := by
      obtain ⟨_, q, _⟩ := hit
      exact Heap.lt_size q
    have D := Draws.text (prog := X.prog) (w := X.w) (A := X.A.in1) (show X.A.in1.handled = none from I.ok.hd hc) it x t
    refine wpAny_pyNext_enum_itemD D he hit hg hne (by simpa using hne) fun u h' tk hu ho hit' hT hsz hk => ?_
    obtain ⟨c, t2, hcx, rfl⟩ := hu
    refine ⟨_, rfl, wpAny_letOwnedTupleGo_enum (s := { s with heap := h', toks := tk + 1 }) ho fun h'' he' sb => ?_⟩
    have hT2 := (sb.2 _ (Nat.ne_of_gt hel)).trans hT
    have new : ObjOk X.prog X.w (upd H s.heap.objs.size (.tup [.int (i : Nat), .str ⟨#[c]⟩])) h'' s.heap.objs.size (.tup [.int (i : Nat), .str ⟨#[c]⟩]) :=
      ⟨by show 2 ≤ sizeLine; decide, [.int i tk, .str ⟨#[c]⟩ t2], .cons ⟨_, rfl⟩ (.cons ⟨_, rfl⟩ .nil), ⟨_, hT2, rfl, _, rfl⟩⟩
    have I1 : Inv X pins σ (upd H s.heap.objs.size (.tup [.int (i : Nat), .str ⟨#[c]⟩])) { s with heap := h'', toks := tk + 1 } :=
      I.turnedNew (ch := [e, it]) (fun b ob hb q => (sb.2 b (fun z => hb (by simp [z]))).trans (hk b ob (fun z => hb (by simp [z])) (fun z => hb (by simp [z])) q)) hf (Nat.le_refl _) new
    obtain ⟨oi, hoi, ri⟩ := hit'
    refine ⟨.ref s.heap.objs.size, _, I1, rfl, ⟨_, c, rfl, I.hok.fresh (Nat.le_refl _), rfl, hcx⟩, ⟨⟨.str ⟨#[c]⟩ t2, ?_⟩, ⟨oi, (sb.2 it (Ne.symm hne)).trans hoi, ri⟩, hne⟩, fun b hb => ?_⟩
    · have e1 : ((i + 1 : Nat) : Int) = (i : Int) + 1 := by omega
      rw [e1]
      exact he'
    · have hb' : b < s.heap.objs.size := by
        have e' : b = e ∨ b = it := by simpa using hb
        cases e' with
        | inl z => rw [z]; exact hel
        | inr z => rw [z]; exact hil
      rw [upd_ne (Nat.ne_of_lt hb')]
      exact (hf b hb).1
  done := by
    intro X hP hw hK hc i pins s σ H E I hf st hg
    subst hP hw hK
    obtain ⟨⟨old, he⟩, hit, hne⟩ := st
    have hi : i = x.cps.size := hg
    subst hi
    obtain ⟨f0, f1, f2, f3, f4, f5⟩ := hf it (by simp)
    have D := Draws.text (prog := X.prog) (w := X.w) (A := X.A.in1) (show X.A.in1.handled = none from I.ok.hd hc) it x t
    exact wpAny_pyNext_enum_endD D he hit fun h' eb => ⟨rfl, I.turned (t' := s.toks) (fun b o hb q => eb b o hb q) f0 f1 f3 f4 f5⟩
  self := fun A i s Q E st h => by
    obtain ⟨⟨_, he⟩, _⟩ := st
    exact wpAny_pyIter_enum he h
def iEnumS (ta : TA) : TI := fun σ H R => ta σ H fun vs H1 => ∃ x, vs = [.str x] ∧ R (ItES x) H1
theorem pi_enumS {X : Cx} {e : Expr} {ta : TA} {p pos tpos : Pos} {elts : List Expr} {kk : Nat} (hg : Gl X "enumerate") (hm : X.mg "enumerate" = none) (ha : PA X [e] ta) (hs : starEach [e] X.env = [(false, eval e X.env)] := by rfl) :
    PI X (.Tuple elts kk tpos) (.Call (.Name "enumerate" p) [e] [] pos) (iEnumS ta) := by
  refine ⟨fun pins s σ H R I h => ?_⟩
  refine Call_ (ld_blt I hg hm boot_enumerate (PyProof.Rows.callWith_type1 (thn (ha.run pos pins s σ H _ I h) fun us s1 ⟨vs, H1, I1, r1, q1⟩ => ?_) hs rfl))
  obtain ⟨x, rfl, q⟩ := q1
  obtain ⟨u, rfl, t, rfl⟩ := vals1 r1
  refine call_enumerate_str fun h' he hit hsz hk => wpAny_pyIter_enum he ?_
  refine ⟨s1.heap.objs.size + 1, [s1.heap.objs.size + 1, s1.heap.objs.size], _, _, H1, rfl, I1.kept (t' := s1.toks) hk, turn_es x t (s1.heap.objs.size + 1) s1.heap.objs.size, ⟨⟨.none, he⟩, hit, Nat.succ_ne_self _⟩, fun b hb => ?_, q⟩
  have e' : b = s1.heap.objs.size + 1 ∨ b = s1.heap.objs.size := by simpa using hb
  have hle : s1.heap.objs.size ≤ b := by
    cases e' with
    | inl z => rw [z]; exact Nat.le_add_right _ _
    | inr z => rw [z]; exact Nat.le_refl _
  exact I1.fpOk hle (I1.hok.fresh hle)
theorem for_es {x : Str} {g : TG} {tb : TS} {D : Ends} {σ : L2.St} {H : Hp} (Pv : Nat → L2.St → Hp → Prop) (h0 : Pv 0 σ H)
    (hs : ∀ i c T σ H, x.cps[i]? = some c → Pv i σ H → H T = none → g (.ref T) σ (upd H T (.tup [.int (i : Nat), .str ⟨#[c]⟩])) fun σ2 H2 => tb { D with nx := Pv (i + 1), ct := Pv (i + 1), bk := D.nx } σ2 H2) (hd : ∀ σ H, Pv x.cps.size σ H → D.nx σ H) :
    ∃ W : Nat → Nat → L2.St → Hp → Prop, (∃ m, W 0 m σ H) ∧ ∀ i m σ H, W i m σ H →
      ((ItES x).stop i H ∧ D.nx σ H) ∨ ((ItES x).go i H ∧ ∃ N : L2.St → Hp → Prop, (∀ σ' H', N σ' H' → ∃ m', m' < m ∧ W (i + 1) m' σ' H') ∧ ∀ y H', (ItES x).yld i H y H' → g y σ H' fun σ2 H2 => tb { D with nx := N, ct := N, bk := D.nx } σ2 H2) := by
  refine ⟨fun i m σ H => m = x.cps.size - i ∧ i ≤ x.cps.size ∧ Pv i σ H, ⟨x.cps.size, by simp, Nat.zero_le _, h0⟩, ?_⟩
  rintro i m σ H ⟨rfl, hi, p⟩
  by_cases hlt : i < x.cps.size
  · refine .inr ⟨hlt, Pv (i + 1), fun σ' H' p' => ⟨x.cps.size - (i + 1), by omega, rfl, hlt, p'⟩, fun y H' z => ?_⟩
    obtain ⟨T, c, rfl, hT, rfl, hc⟩ := z
    exact hs i c T σ _ hc p hT
  · have e : i = x.cps.size := by omega
    subst e
    exact .inl ⟨rfl, hd σ H p⟩
theorem lc_es {x : Str} {g : TG} {tt : TT} {te : TE} {vs : List Nat} {σ : L2.St} {H1 : Hp} {D : Addr} {Qd : Hp → Prop} (Pv : Nat → Hp → Prop) (h0 : Pv 0 (upd H1 D (.lst [])))
    (hs : ∀ i c T H, x.cps[i]? = some c → Pv i H → H T = none → g (.ref T) (wipe σ vs) (upd H T (.tup [.int (i : Nat), .str ⟨#[c]⟩])) fun σ2 H2 => wipe σ2 vs = wipe σ vs ∧ tt σ2 H2 fun b H3 =>
      if b = true then te σ2 H3 fun y H4 => ∃ acc, H4 D = some (.lst acc) ∧ acc.length < sizeLine ∧ Pv (i + 1) (upd H4 D (.lst (acc ++ [y]))) else Pv (i + 1) H3) (hd : ∀ H, Pv x.cps.size H → Qd H) :
    ∃ W : Nat → Nat → Hp → Prop, (∃ m, W 0 m (upd H1 D (.lst []))) ∧ ∀ i m H, W i m H →
      ((ItES x).stop i H ∧ Qd H) ∨ ((ItES x).go i H ∧ ∃ Nx : Hp → Prop, (∀ H', Nx H' → ∃ m', m' < m ∧ W (i + 1) m' H') ∧ ∀ y H', (ItES x).yld i H y H' → g y (wipe σ vs) H' fun σ2 H2 => wipe σ2 vs = wipe σ vs ∧ tt σ2 H2 fun b H3 =>
        if b = true then te σ2 H3 fun y H4 => ∃ acc, H4 D = some (.lst acc) ∧ acc.length < sizeLine ∧ Nx (upd H4 D (.lst (acc ++ [y]))) else Nx H3) := by
  refine ⟨fun i m H => m = x.cps.size - i ∧ i ≤ x.cps.size ∧ Pv i H, ⟨x.cps.size, by simp, Nat.zero_le _, h0⟩, ?_⟩
  rintro i m H ⟨rfl, hi, p⟩
  by_cases hlt : i < x.cps.size
  · refine .inr ⟨hlt, Pv (i + 1), fun H' p' => ⟨x.cps.size - (i + 1), by omega, rfl, hlt, p'⟩, fun y H' z => ?_⟩
    obtain ⟨T, c, rfl, hT, rfl, hc⟩ := z
    exact hs i c T _ hc p hT
  · have e : i = x.cps.size := by omega
    subst e
    exact .inl ⟨rfl, hd H p⟩
/-! ### a text backwards: some text, no longer -/
def tRevS (te : TE) : TE := fun σ H Q => te σ H fun x H1 => ∃ z : Str, x = .str z ∧ z.length ≤ sizeLine ∧ ∀ y : Str, y.length ≤ z.length → (∀ c ∈ y.cps.toList, c ∈ z.cps.toList) → Q (.str y) H1
theorem sliceBy_mem (x : Str) (l u : Option (Int × Tok)) (st : Int × Tok) : ∀ c ∈ (Txt.sliceBy x l u st).cps.toList, c ∈ x.cps.toList := by
  intro c hc
  unfold Txt.sliceBy at hc
  split at hc
  · exact hc
  · have hc : c ∈ List.filterMap (x.cps[·]?) _ := hc
    obtain ⟨i, _, hi⟩ := List.mem_filterMap.mp hc
    exact Array.mem_toList_iff.mpr (Array.mem_of_getElem? hi)
theorem pe_revS {X : Cx} {e : Expr} {te : TE} {k : Nat} {p1 p2 p3 pos : Pos} (he : PE X e te) : PE X (.Subscript e (.Slice none none (some (.UnaryOp .USub (.Constant (.int 1) k p1) p2)) p3) pos) (tRevS te) := by
  refine ⟨fun pins s σ H Q I h => ?_⟩
  refine Subscript_ (thn (he.run pins s σ H _ I h) fun v s1 ⟨x, H1, I1, r1, q1⟩ => ?_)
  obtain ⟨z, rfl, hz, q⟩ := q1
  obtain ⟨t, rfl⟩ := r1
  have hst : PO X (some (.UnaryOp .USub (.Constant (.int 1) k p1) p2)) (tPart (tUn (rU fun i => .int (-i)) (tC (.int 1)))) := po_some (pe_un un_neg pe_int)
  refine wpAny_Slice (thn (po_none.run pins s1 σ H1 (fun o H2 => o = none ∧ H2 = H1) I1 ⟨rfl, rfl⟩) fun vl s2 ⟨l, H2, I2, pl, el, e2⟩ => ?_)
  subst el e2
  refine thn (po_none.run pins s2 σ H2 (fun o H3 => o = none ∧ H3 = H2) I2 ⟨rfl, rfl⟩) fun vu s3 ⟨u, H3, I3, pu, eu, e3⟩ => ?_
  subst eu e3
  refine thn (hst.run pins s3 σ H3 (fun o H4 => o = some (-1) ∧ H4 = H3) I3 ⟨1, rfl, -1, rfl, rfl, rfl⟩) fun vs s4 ⟨o, H4, I4, ps, eo, e4⟩ => ?_
  subst eo e4
  cases pl
  cases pu
  cases ps with
  | int i t5 =>
    refine tail_any (ops := [.str z t, .ref s4.heap.objs.size]) (typeIs_str _ _ _) (PySem.F.slot_str_getitem.lookup) ?_ (by with_unfolding_all rfl)
    refine wpAny_getItem_str_slice (l := none) (u := none) (st := some (-1, t5)) ⟨_, Heap.get?_push_size _ rfl, rfl, rfl⟩ rfl ?_
    refine post_val_or_str ⟨Nat.le_trans (Txt.sliceBy_le z none none (-1, t5) (show (-1 : Int) ≠ 0 by decide)) hz, fun t6 tk => ?_⟩
    exact ⟨.str _, H4, (I4.kept (t' := tk) fun b ob q => Heap.get?_push_of_some _ q), ⟨_, rfl⟩, q _ (Txt.sliceBy_le z none none (-1, t5) (show (-1 : Int) ≠ 0 by decide)) (sliceBy_mem z none none (-1, t5))⟩
end Pf


namespace Pf
open PySem PySem.Spec PyProof.Rows L2
/-! ### enumerate of a tuple -/
abbrev EnO (a : Addr) : Obj := { cls := .type "enumerate", data := .fields #[.none, .bool false, .ref a, rawInt 0, .none, .none] }
theorem meets_en1 {u : Value} {ob : Obj} {G : Heap → Prop} (B : Begins u ob G) : Meets (Builtin.«enumerate.__new__» ⟨[.type "enumerate", u], []⟩) (fun _ R s => G s.heap ∧ R (.ok (.ret (.ref (s.heap.push ob).objs.size))) { s with heap := (s.heap.push ob).push (EnO s.heap.objs.size) }) :=
  .of_wp fun prog w A R s z => by
    obtain ⟨hp, g, d, tk, os⟩ := s
    obtain ⟨z1, z⟩ := z
    have hse := sub_enumerate
    have q : ∀ {A' : Around} {E : Value → Shared → Prop} {Q : Value → Shared → Prop}, Q (.ref hp.objs.size) ⟨hp.push ob, g, d, tk, os⟩ → wpAny (model prog w) A' (pyIter u) Q E ⟨hp, g, d, tk, os⟩ := fun r => B.iter prog w _ _ ⟨hp, g, d, tk, os⟩ _ z1 r
    wp_walk using q
    refine wpAny_stack_any fun sk => wpAny_pure ?_
    split
    · rename_i c _ _ _ _ _
      cases ec : (c == Value.type "enumerate")
      · wp_walk using q
        exact ⟨_, rfl, z⟩
      · wp_walk using q
        exact ⟨_, rfl, z⟩
    · wp_walk using q
      exact ⟨_, rfl, z⟩
theorem en1_begins {P : Program} {w : World} {A : Around} {E : Value → Shared → Prop} {s : Shared} {u : Value} {ob : Obj} {G : Heap → Prop} {Q : Value → Shared → Prop} (B : Begins u ob G) (z1 : G s.heap)
    (z : ∀ h', IsEnum h' (s.heap.objs.size + 1) s.heap.objs.size 0 .none → h'.get? s.heap.objs.size = some ob → h'.objs.size = s.heap.objs.size + 2 → (∀ b o, s.heap.get? b = some o → h'.get? b = some o) → Q (.ref (s.heap.objs.size + 1)) { s with heap := h' }) :
    wpAny (model P w) A (call (.type "enumerate") [u]) Q E s := by
  refine callType_new F.called_enumerate (by decide) (F.typeCall_enumerate_1 _) (F.newCall_enumerate_1 _) (fun obj => F.args_object_init_2 obj _) F.entry_enumerate_new (meets_en1 B) ⟨z1, ?_⟩
  have e1 : (s.heap.push ob).objs.size = s.heap.objs.size + 1 := Heap.size_push ..
  show _ ∧ _
  rw [e1]
  have hen : IsEnum ((s.heap.push ob).push (EnO s.heap.objs.size)) (s.heap.objs.size + 1) s.heap.objs.size 0 .none := by
    have := Heap.get?_push_size (s.heap.push ob) (o := EnO s.heap.objs.size) rfl
    rw [e1] at this
    exact this
  exact ⟨⟨_, hen, rfl⟩, z _ hen (Heap.get?_push_of_some _ (Heap.get?_push_size _ B.free)) (by rw [Heap.size_push, e1]) fun b o y => Heap.get?_push_of_some _ (Heap.get?_push_of_some _ y)⟩
def ItET (K : PySem.W.Frag) (a : Addr) : It :=
  ⟨fun i H => ∃ (xs : List V) (x : V), SqT K H a xs ∧ xs[i]? = some x, fun i H v H' => ∃ T x, v = .ref T ∧ H T = none ∧ H' = upd H T (.tup [.int (i : Nat), x]) ∧ ∀ xs, SqT K H a xs → xs[i]? = some x, fun i H => ∃ xs : List V, SqT K H a xs ∧ xs.length = i⟩
theorem turn_et {P : Program} {w : World} {K : PySem.W.Frag} {elts : List Expr} {kk : Nat} {tpos : Pos} (a e it : Addr) :
    Turn P w K (.Tuple elts kk tpos) (ItET K a) [e, it] e (fun i h => (∃ old, IsEnum h e it ((i : Nat) : Int) old) ∧ h.IsTupleIter it a i ∧ e ≠ it ∧ e ≠ a ∧ a ≠ it) where
  mem := by simp
  obj := fun i h st b hb => by
    obtain ⟨⟨old, he⟩, ⟨o, ho, hc, hd⟩, _⟩ := st
    have e' : b = e ∨ b = it := by simpa using hb
    cases e' with
    | inl z =>
      rw [z]
      exact ⟨_, he, fun v q => nomatch q⟩
    | inr z =>
      rw [z]
      exact ⟨o, ho, fun v q => by rw [hd] at q; cases q⟩
  keep := fun i h h' st k => by
    obtain ⟨⟨old, he⟩, ⟨o, ho, r⟩, hne⟩ := st
    exact ⟨⟨old, k e (by simp) _ he⟩, ⟨o, k it (by simp) o ho, r⟩, hne⟩
  item := by
    intro X hP hw hK hc i pins s σ H E I hf st hg
    subst hP hw hK
    obtain ⟨⟨old, he⟩, hit, hne, hea, hai⟩ := st
    obtain ⟨xs, x, hq, hx⟩ := hg
    obtain ⟨its, rv, pt, hz⟩ := I.tuple hq
    obtain ⟨u, hu, ru⟩ := rv.get hx
    have hel : e < s.heap.objs.size := Heap.lt_size he
    have hil : it < s.heap.objs.size := by
      obtain ⟨_, q, _⟩ := hit
      exact Heap.lt_size q
    have hti : s.heap.IsTuple a its.toArray := pt
    have D := Draws.tuple (prog := X.prog) (w := X.w) (A := X.A.in1) (show X.A.in1.handled = none from I.ok.hd hc) it a hai its.toArray
    refine wpAny_pyNext_enum_itemD D he ⟨hit, hti⟩ (by have := (List.getElem?_eq_some_iff.mp hu).1; simpa using this) hne (by simp [hne, hea]) fun y h' tk hy ho hit' hT hsz hk => ?_
    have ey : y = u := by
      have h2 : its[i]? = some y := by simpa using hy
      rw [hu] at h2
      exact (Option.some.inj h2).symm
    subst ey
    refine ⟨_, rfl, wpAny_letOwnedTupleGo_enum (s := { s with heap := h', toks := tk + 1 }) ho fun h'' he' sb => ?_⟩
    have hT2 := (sb.2 _ (Nat.ne_of_gt hel)).trans hT
    have new : ObjOk X.prog X.w (upd H s.heap.objs.size (.tup [.int (i : Nat), x])) h'' s.heap.objs.size (.tup [.int (i : Nat), x]) :=
      ⟨by show 2 ≤ sizeLine; decide, [.int i tk, y], .cons ⟨_, rfl⟩ (.cons ru .nil), ⟨_, hT2, rfl, _, rfl⟩⟩
    have I1 : Inv X pins σ (upd H s.heap.objs.size (.tup [.int (i : Nat), x])) { s with heap := h'', toks := tk + 1 } :=
      I.turnedNew (ch := [e, it]) (fun b ob hb q => (sb.2 b (fun z => hb (by simp [z]))).trans (hk b ob (fun z => hb (by simp [z])) (fun z => hb (by simp [z])) q)) hf (Nat.le_refl _) new
    obtain ⟨oi, hoi, ri⟩ := hit'.1
    refine ⟨.ref s.heap.objs.size, _, I1, rfl, ⟨_, x, rfl, I.hok.fresh (Nat.le_refl _), rfl, fun ys hy => by rw [I.tuple_inj hy hq]; exact hx⟩, ⟨⟨y, ?_⟩, ⟨oi, (sb.2 it (Ne.symm hne)).trans hoi, ri⟩, hne, hea, hai⟩, fun b hb => ?_⟩
    · have e1 : ((i + 1 : Nat) : Int) = (i : Int) + 1 := by omega
      rw [e1]
      exact he'
    · have hb' : b < s.heap.objs.size := by
        have e' : b = e ∨ b = it := by simpa using hb
        cases e' with
        | inl z => rw [z]; exact hel
        | inr z => rw [z]; exact hil
      rw [upd_ne (Nat.ne_of_lt hb')]
      exact (hf b hb).1
  done := by
    intro X hP hw hK hc i pins s σ H E I hf st hg
    subst hP hw hK
    obtain ⟨⟨old, he⟩, hit, hne, hea, hai⟩ := st
    obtain ⟨xs, hq, hx⟩ := hg
    obtain ⟨its, rv, pt, hz⟩ := I.tuple hq
    have hln := rv.length
    obtain ⟨f0, f1, f2, f3, f4, f5⟩ := hf it (by simp)
    have hti : s.heap.IsTuple a its.toArray := pt
    have D := Draws.tuple (prog := X.prog) (w := X.w) (A := X.A.in1) (show X.A.in1.handled = none from I.ok.hd hc) it a hai its.toArray
    have ei : its.toArray.size = i := by
      rw [List.size_toArray]
      omega
    exact wpAny_pyNext_enum_endD D he ⟨by rw [ei]; exact hit, hti⟩ fun h' eb => ⟨rfl, I.turned (t' := s.toks) (fun b o hb q => eb b o hb q) f0 f1 f3 f4 f5⟩
  self := fun A i s Q E st h => by
    obtain ⟨⟨_, he⟩, _⟩ := st
    exact wpAny_pyIter_enum he h
def iEnumT (K : PySem.W.Frag) (ta : TA) : TI := fun σ H R => ta σ H fun vs H1 => ∃ a xs, vs = [.ref a] ∧ SqT K H1 a xs ∧ R (ItET K a) H1
theorem pi_enumT {X : Cx} {e : Expr} {ta : TA} {p pos tpos : Pos} {elts : List Expr} {kk : Nat} (hg : Gl X "enumerate") (hm : X.mg "enumerate" = none) (ha : PA X [e] ta) (hs : starEach [e] X.env = [(false, eval e X.env)] := by rfl) :
    PI X (.Tuple elts kk tpos) (.Call (.Name "enumerate" p) [e] [] pos) (iEnumT X.K ta) := by
  refine ⟨fun pins s σ H R I h => ?_⟩
  refine Call_ (ld_blt I hg hm boot_enumerate (PyProof.Rows.callWith_type1 (thn (ha.run pos pins s σ H _ I h) fun us s1 ⟨vs, H1, I1, r1, q1⟩ => ?_) hs rfl))
  obtain ⟨a, xs, rfl, hq, q⟩ := q1
  obtain ⟨u, rfl, er⟩ := vals1 r1
  cases er
  obtain ⟨its, rv, pt, hz⟩ := I1.tuple hq
  have hti : s1.heap.IsTuple a its.toArray := pt
  have hal : a < s1.heap.objs.size := by
    obtain ⟨_, q, _⟩ := hti
    exact Heap.lt_size q
  refine en1_begins (begins_tuple a its.toArray) hti fun h' he hit hsz hk => wpAny_pyIter_enum he ?_
  refine ⟨s1.heap.objs.size + 1, [s1.heap.objs.size + 1, s1.heap.objs.size], _, _, H1, rfl, I1.kept (t' := s1.toks) hk, turn_et a (s1.heap.objs.size + 1) s1.heap.objs.size, ⟨⟨.none, he⟩, ⟨_, hit, rfl, rfl⟩, Nat.succ_ne_self _, Nat.ne_of_gt (Nat.lt_succ_of_lt hal), Nat.ne_of_lt hal⟩, fun b hb => ?_, q⟩
  have e' : b = s1.heap.objs.size + 1 ∨ b = s1.heap.objs.size := by simpa using hb
  have hle : s1.heap.objs.size ≤ b := by
    cases e' with
    | inl z => rw [z]; exact Nat.le_add_right _ _
    | inr z => rw [z]; exact Nat.le_refl _
  exact I1.fpOk hle (I1.hok.fresh hle)
theorem walk_et {K : PySem.W.Frag} {a : Addr} {xs : List V} : Walk (ItET K a) xs.length (fun H => SqT K H a xs) (YPair (fun i => some (.int (i : Nat))) (fun i => xs[i]?)) :=
  ⟨fun i H hi q => ⟨xs, _, q, List.getElem?_eq_getElem hi⟩, fun H q => ⟨xs, q, rfl⟩, fun i H x H' hi q ⟨T, y, e1, e2, e3, e4⟩ => ⟨T, _, y, e1, e2, e3, rfl, e4 xs q⟩⟩
theorem walk_zt {K : PySem.W.Frag} {a b : Addr} {xs ys : List V} {n : Nat} (hn : n = min xs.length ys.length) : Walk (RZ.ItzT K a b) n (fun H => SqT K H a xs ∧ SqT K H b ys) (YPair (fun i => xs[i]?) (fun i => ys[i]?)) := by
  subst hn
  refine ⟨fun i H hi q => ⟨xs, ys, _, _, q.1, q.2, List.getElem?_eq_getElem (by omega), List.getElem?_eq_getElem (by omega)⟩, fun H q => ⟨xs, ys, q.1, q.2, by omega⟩, fun i H x H' hi q ⟨T, y, z, e1, e2, e3, e4, e5⟩ => ⟨T, y, z, e1, e2, e3, e4 xs q.1, e5 ys q.2⟩⟩
/-! ### two fors in a comprehension -/
def LcIn (J1 : It) (g1 : TG) (tt1 : TT) (te : TE) (vs1 : List Nat) (σ2 : L2.St) (D : Addr) (H4 : Hp) (Nx : Hp → Prop) : Prop := ∃ W1 : Nat → Nat → Hp → Prop, (∃ m, W1 0 m H4) ∧ ∀ j k H, W1 j k H →
  (J1.stop j H ∧ Nx H) ∨ (J1.go j H ∧ ∃ Nx1 : Hp → Prop, (∀ H', Nx1 H' → ∃ k', k' < k ∧ W1 (j + 1) k' H') ∧ ∀ x H', J1.yld j H x H' → g1 x (wipe σ2 vs1) H' fun σ3 H5 => wipe σ3 vs1 = wipe σ2 vs1 ∧ tt1 σ3 H5 fun b H6 => if b = true then te σ3 H6 fun y H7 => ∃ acc, H7 D = some (.lst acc) ∧ acc.length < sizeLine ∧ Nx1 (upd H7 D (.lst (acc ++ [y]))) else Nx1 H6)
theorem lc_in {J1 : It} {n : Nat} {G : Hp → Prop} {Y : Nat → Hp → V → Hp → Prop} (w : Walk J1 n G Y) {g1 : TG} {tt1 : TT} {te : TE} {vs1 : List Nat} {σ2 : L2.St} {D : Addr} {H4 : Hp} {Nx : Hp → Prop} (Pv : Nat → Hp → Prop) (h0 : Pv 0 H4) (hG : ∀ i H, i ≤ n → Pv i H → G H)
    (hs : ∀ i x H H', i < n → Pv i H → Y i H x H' → g1 x (wipe σ2 vs1) H' fun σ3 H5 => wipe σ3 vs1 = wipe σ2 vs1 ∧ tt1 σ3 H5 fun b H6 => if b = true then te σ3 H6 fun y H7 => ∃ acc, H7 D = some (.lst acc) ∧ acc.length < sizeLine ∧ Pv (i + 1) (upd H7 D (.lst (acc ++ [y]))) else Pv (i + 1) H6)
    (hd : ∀ H, Pv n H → Nx H) : LcIn J1 g1 tt1 te vs1 σ2 D H4 Nx := by
  refine ⟨fun i m H => m = n - i ∧ i ≤ n ∧ Pv i H, ⟨n, rfl, Nat.zero_le _, h0⟩, ?_⟩
  rintro i m H ⟨rfl, hi, pv⟩
  have hq := hG i H hi pv
  by_cases hlt : i < n
  · exact .inr ⟨w.goes i H hlt hq, Pv (i + 1), fun H' p' => ⟨n - (i + 1), by omega, rfl, hlt, p'⟩, fun x H' y => hs i x H H' hlt pv (w.yields i H x H' hlt hq y)⟩
  · obtain rfl : i = n := by omega
    exact .inl ⟨w.stops H hq, hd H pv⟩
theorem lc_two {J : It} {n : Nat} {G : Hp → Prop} {Y : Nat → Hp → V → Hp → Prop} (w : Walk J n G Y) {g : TG} {tt : TT} {wi1 : TI} {g1 : TG} {tt1 : TT} {te : TE} {vs vs1 : List Nat} {σ : L2.St} {H1 : Hp} {D : Addr} {Qd : Hp → Prop} (Pv : Nat → Hp → Prop) (h0 : Pv 0 (upd H1 D (.lst []))) (hG : ∀ i H, i ≤ n → Pv i H → G H)
    (hs : ∀ i x H H', i < n → Pv i H → Y i H x H' → g x (wipe σ vs) H' fun σ2 H2 => wipe σ2 vs = wipe σ vs ∧ tt σ2 H2 fun b H3 => if b = true then wi1 σ2 H3 fun J1 H4 => LcIn J1 g1 tt1 te vs1 σ2 D H4 (Pv (i + 1)) else Pv (i + 1) H3)
    (hd : ∀ H, Pv n H → Qd H) :
    ∃ W : Nat → Nat → Hp → Prop, (∃ m, W 0 m (upd H1 D (.lst []))) ∧ ∀ i m H, W i m H → (J.stop i H ∧ Qd H) ∨ (J.go i H ∧ ∃ Nx : Hp → Prop, (∀ H', Nx H' → ∃ m', m' < m ∧ W (i + 1) m' H') ∧ ∀ x H', J.yld i H x H' → g x (wipe σ vs) H' fun σ2 H2 => wipe σ2 vs = wipe σ vs ∧ tt σ2 H2 fun b H3 =>
      if b = true then wi1 σ2 H3 fun J1 H4 => LcIn J1 g1 tt1 te vs1 σ2 D H4 Nx else Nx H3) := by
  refine ⟨fun i m H => m = n - i ∧ i ≤ n ∧ Pv i H, ⟨n, rfl, Nat.zero_le _, h0⟩, ?_⟩
  rintro i m H ⟨rfl, hi, pv⟩
  have hq := hG i H hi pv
  by_cases hlt : i < n
  · exact .inr ⟨w.goes i H hlt hq, Pv (i + 1), fun H' p' => ⟨n - (i + 1), by omega, rfl, hlt, p'⟩, fun x H' y => hs i x H H' hlt pv (w.yields i H x H' hlt hq y)⟩
  · obtain rfl : i = n := by omega
    exact .inl ⟨w.stops H hq, hd H pv⟩
/-! ### tuples of numbers compared; truths by identity -/
theorem ltT (K : PySem.W.Frag) {X : Cx} (hu : X.A.units < cLine) (h : X.K = K := by rfl) : OpR X (compareOp .Lt) (rLtT K) := h ▸ op_ltT hu
theorem lex2 (a b c d : Int) : HT.lexLt [a, b] [c, d] = decide (a < c ∨ (a = c ∧ b < d)) := by
  rw [HT.lexLt_cons, HT.lexLt_cons, HT.lexLt_nil_nil]
  by_cases e : a = c
  · rw [if_pos e]
    by_cases e2 : b = d
    · rw [if_pos e2]
      exact (decide_eq_false (by omega)).symm
    · rw [if_neg e2]
      exact decide_eq_decide.mpr (by omega)
  · rw [if_neg e]
    exact decide_eq_decide.mpr (by omega)
/-! ### parts of tuples -/
theorem piT (K : PySem.W.Frag) {X : Cx} {tg l : Expr} {tl : TE} (hl : PE X l tl) (h : X.K = K := by rfl) : PI X tg l (iTup K tl) := by
  subst h
  exact pi_tup hl
theorem piL (K : PySem.W.Frag) {X : Cx} {tg l : Expr} {tl : TE} (hl : PE X l tl) (h : X.K = K := by rfl) : PI X tg l (iList K tl) := by
  subst h
  exact pi_list hl
/-- a part of a tuple: the same one, or another -/
def rSlE (K : PySem.W.Frag) : V → Option Int → Option Int → Hp → VK → Prop := fun x lo hi H Q => ∃ a xs, x = .ref a ∧ H a = some (.tup xs) ∧ ∀ p H', Ext H H' → H' p = some (.tup (cutV xs lo hi)) → Q (.ref p) H'
theorem slE (K : PySem.W.Frag) {X : Cx} (h : X.K = K := by rfl) : SlR X (rSlE K) := fun pins s σ H x v vl vu lo hi sl Q I rx hs pl pu ⟨a, xs, ex, ha, q⟩ => by
  refine slA K h pins s σ H x v vl vu lo hi sl Q I rx hs pl pu ⟨a, xs, ex, SqT.of ha, fun z => ?_, fun _ p hp => q p _ (Ext.new hp) upd_same⟩
  refine q a H Ext.refl ?_
  have e : cutV xs lo hi = xs := by
    unfold cutV
    rw [z.1, z.2, List.drop_zero, Nat.sub_zero, List.take_length]
  rw [e]
  exact ha
theorem cut_from {xs : List V} {k : Nat} : cutV xs (some (k : Int)) none = xs.drop k := by
  unfold cutV
  have e1 : HT.sIx xs.length 0 (some (k : Int)) = min k xs.length := HT.sIx_nat _ _ _
  have e2 : HT.sIx xs.length xs.length none = xs.length := rfl
  rw [e1, e2, List.take_of_length_le (by rw [List.length_drop]; omega)]
  by_cases h : k ≤ xs.length
  · rw [Nat.min_eq_left h]
  · rw [Nat.min_eq_right (by omega), List.drop_length, List.drop_eq_nil_of_le (by omega)]
theorem cut_to {xs : List V} {k : Nat} : cutV xs none (some (k : Int)) = xs.take k := by
  unfold cutV
  have e1 : HT.sIx xs.length 0 none = 0 := rfl
  have e2 : HT.sIx xs.length xs.length (some (k : Int)) = min k xs.length := HT.sIx_nat _ _ _
  rw [e1, e2, List.drop_zero, Nat.sub_zero]
  by_cases h : k ≤ xs.length
  · rw [Nat.min_eq_left h]
  · rw [Nat.min_eq_right (by omega), List.take_length, List.take_of_length_le (by omega)]
theorem paired_take {α β : Type} {R : α → β → Prop} : ∀ {xs : List α} {ys : List β} (k : Nat), Paired R xs ys → Paired R (xs.take k) (ys.take k)
  | _, _, 0, _ => by rw [List.take_zero, List.take_zero]; exact .nil
  | _, _, k + 1, .nil => by rw [List.take_nil, List.take_nil]; exact .nil
  | _, _, k + 1, .cons r t => by rw [List.take_succ_cons, List.take_succ_cons]; exact .cons r (paired_take k t)
theorem paired_drop {α β : Type} {R : α → β → Prop} : ∀ {xs : List α} {ys : List β} (k : Nat), Paired R xs ys → Paired R (xs.drop k) (ys.drop k)
  | _, _, 0, h => by rw [List.drop_zero, List.drop_zero]; exact h
  | _, _, k + 1, .nil => by rw [List.drop_nil, List.drop_nil]; exact .nil
  | _, _, k + 1, .cons r t => by rw [List.drop_succ_cons, List.drop_succ_cons]; exact paired_drop k t
/-- two tuples put together: one of them, or another -/
def rCatE (K : PySem.W.Frag) : R2 := fun x y H Q => ∃ a b xs ys, x = .ref a ∧ y = .ref b ∧ H a = some (.tup xs) ∧ H b = some (.tup ys) ∧ xs.length + ys.length ≤ sizeLine ∧ ∀ p H', Ext H H' → H' p = some (.tup (xs ++ ys)) → Q (.ref p) H'
theorem catE (K : PySem.W.Frag) {X : Cx} (h : X.K = K := by rfl) : OpR X (binaryOp .Add) (rCatE K) := fun pins s σ H x y v u Q I rx ry ⟨a, b, xs, ys, ex, ey, ha, hb, hz, q⟩ => by
  refine catA K h pins s σ H x y v u Q I rx ry ⟨a, b, xs, ys, ex, ey, SqT.of ha, SqT.of hb, hz, fun z => ?_, fun _ z => ?_, fun _ _ p hp => q p _ (Ext.new hp) upd_same⟩
  · exact q b H Ext.refl (by rw [z]; exact hb)
  · exact q a H Ext.refl (by rw [z, List.append_nil]; exact ha)
end Pf


namespace Pf
open PySem PySem.Spec PyProof.Rows L2
def topS (i : Nat) : Stmt := PySem.Challenge.pw_pairfolds_k13_whole_foldings_put_togethe.main.body.getD i (.Pass ⟨0, 0, 0, 0⟩)
/-! ### the pen: a dict of cells, a place, what is left -/
def penK (c : Addr) (a r : Int) : List (Key × V) := [(.inr "cells", .ref c), (.inr "at", .int a), (.inr "left", .int r)]
theorem pen_cells (c : Addr) (a r : Int) : valV (penK c a r) (.inr "cells") = some (.ref c) := by
  unfold penK
  rw [valV_pos rfl]
theorem pen_at (c : Addr) (a r : Int) : valV (penK c a r) (.inr "at") = some (.int a) := by
  unfold penK
  rw [valV_neg (show ¬ (Sum.inr ("cells" : Str) : Key) = Sum.inr ("at" : Str) by decide +kernel), valV_pos rfl]
theorem pen_left (c : Addr) (a r : Int) : valV (penK c a r) (.inr "left") = some (.int r) := by
  unfold penK
  rw [valV_neg (show ¬ (Sum.inr ("cells" : Str) : Key) = Sum.inr ("left" : Str) by decide +kernel), valV_neg (show ¬ (Sum.inr ("at" : Str) : Key) = Sum.inr ("left" : Str) by decide +kernel), valV_pos rfl]
theorem put_at (c : Addr) (a r b : Int) : putK (penK c a r) (.inr "at") (.int b) = penK c b r := by
  have h1 : ¬ (Sum.inr ("cells" : Str) : Key) = Sum.inr ("at" : Str) := by decide +kernel
  have h2 : ¬ (Sum.inr ("left" : Str) : Key) = Sum.inr ("at" : Str) := by decide +kernel
  simp [penK, putK, h1, h2]
theorem put_left (c : Addr) (a r b : Int) : putK (penK c a r) (.inr "left") (.int b) = penK c a b := by
  have h1 : ¬ (Sum.inr ("cells" : Str) : Key) = Sum.inr ("left" : Str) := by decide +kernel
  have h2 : ¬ (Sum.inr ("at" : Str) : Key) = Sum.inr ("left" : Str) := by decide +kernel
  simp [penK, putK, h1, h2]
section
variable {H : Hp} {p c q : Addr} {a r v : Int} {n m : Nat} {o : HO}
theorem get_cells (h : H p = some (.dK (penK c a r))) : DGet H p (.str "cells") (some (.ref c)) := pen_cells c a r ▸ DGet.k (k := .inr "cells") h
theorem get_at (h : H p = some (.dK (penK c a r))) : DGet H p (.str "at") (some (.int a)) := pen_at c a r ▸ DGet.k (k := .inr "at") h
theorem get_left (h : H p = some (.dK (penK c a r))) : DGet H p (.str "left") (some (.int r)) := pen_left c a r ▸ DGet.k (k := .inr "left") h
theorem dput_at (h : H p = some (.dK (penK c a r))) : DPut H p (.str "at") (.int v) (upd H p (.dK (penK c v r))) := put_at c a r v ▸ DPut.k (k := .inr "at") h (szLt (show 3 < 1000000 by decide))
theorem dput_left (h : H p = some (.dK (penK c a r))) : DPut H p (.str "left") (.int v) (upd H p (.dK (penK c a v))) := put_left c a r v ▸ DPut.k (k := .inr "left") h (szLt (show 3 < 1000000 by decide))
def Pen (H : Hp) (p c : Addr) (n : Nat) : Prop := ∃ (cells : List Int) (a r : Int), H p = some (.dK (penK c a r)) ∧ H c = some (.lst (cells.map V.int)) ∧ 0 ≤ a ∧ a ≤ n ∧ 0 ≤ r ∧ cells.length ≤ 63
theorem Pen.mono (h : Pen H p c n) (l : n ≤ m) : Pen H p c m := by
  obtain ⟨cells, a, r, h1, h2, h3, h4, h5, h6⟩ := h
  exact ⟨cells, a, r, h1, h2, h3, by omega, h5, h6⟩
theorem Pen.put (h : Pen H p c n) (hp : q ≠ p) (hc : q ≠ c) : Pen (upd H q o) p c n := by
  obtain ⟨cells, a, r, h1, h2, h3⟩ := h
  exact ⟨cells, a, r, by rw [upd_ne hp.symm]; exact h1, by rw [upd_ne hc.symm]; exact h2, h3⟩
theorem Pen.ne (h : Pen H p c n) (hq : H q = none) : q ≠ p ∧ q ≠ c := by
  obtain ⟨cells, a, r, h1, h2, h3⟩ := h
  exact ⟨(ne_of_none h1 hq).symm, (ne_of_none h2 hq).symm⟩
theorem Pen.new (h : Pen H p c n) (hq : H q = none) : Pen (upd H q o) p c n := h.put (h.ne hq).1 (h.ne hq).2
theorem Pen.tup (h : Pen H p c n) {b : Addr} {xs : List V} (e : H b = some (.tup xs)) : b ≠ p := by
  obtain ⟨cells, a, r, h1, _⟩ := h
  exact ne_of e h1 (by intro z; cases z)
theorem Pen.frz (h : Pen H p c n) {b : Addr} {ob : Obj} {u : HO} (e : H b = some (.frz ob u)) : b ≠ p := by
  obtain ⟨cells, a, r, h1, _⟩ := h
  exact ne_of e h1 (by intro z; cases z)
theorem Pen.lst (h : Pen H p c n) {b : Addr} {xs : List V} (e : H b = some (.lst xs)) : b ≠ p := by
  obtain ⟨cells, a, r, h1, _⟩ := h
  exact ne_of e h1 (by intro z; cases z)
theorem Pen.ext {H' : Hp} (h : Pen H p c n) (k : Ext H H') : Pen H' p c n := by
  obtain ⟨cells, a, r, h1, h2, h3⟩ := h
  exact ⟨cells, a, r, k _ _ h1, k _ _ h2, h3⟩
end
section
variable {P : Program} {w : World} {K : PySem.W.Frag} {mg : Str → Option Value} {base : Heap}
/-! ### take -/
abbrev s_law_take : Stmt := topS 24
theorem sc_law_take : FnScope ["_law_pen_here", "_law_size", "_law_cells", "_law_found", "_law_at", "_law_raw", "_law_number"] ["_law_pen_here", "_law_size"] (defScope s_law_take) :=
  ⟨rfl, rfl, rfl, by decide +kernel, rfl, by decide +kernel, by decide +kernel⟩
def spTake : Sp := fun vs H Q _ => ∃ (p c : Addr) (m : Int) (n : Nat), vs = [.ref p, .int m] ∧ Pen H p c n ∧ n < 1000000 ∧ 0 < m ∧ m < 1000000 ∧
  ∀ r H', 0 ≤ r → r < m → Kp p H H' → Pen H' p c (n + 1) → Q (.int r) H'
theorem take_b0 (z : Int) : -(2 ^ 64) < z % 2147483563 ∧ z % 2147483563 < 2147483563 := by
  have h3 := Int.emod_nonneg z (show (2147483563 : Int) ≠ 0 by decide)
  have h4 := Int.emod_lt_of_pos z (show (0 : Int) < 2147483563 by decide)
  omega
theorem take_m (z m : Int) (h : 0 < m) (h2 : m < 2 ^ 64) : -(2 ^ 64) < z % m ∧ z % m < 2 ^ 64 := by
  have h3 := Int.emod_nonneg z (show m ≠ 0 by omega)
  have h4 := Int.emod_lt_of_pos z h
  omega
theorem take_q (z : Int) : -(2 ^ 64) < z % 10 ^ (17 : Int).toNat ∧ z % 10 ^ (17 : Int).toNat < 2 ^ 64 := take_m z _ (by decide) (by decide)
theorem ok_take {f : Addr} {fd : FuncData} {k : Nat} (F : Fun K "_law_take" "_law_take" s_law_take f fd) (mlen : mg "len" = none) (mabs : mg "abs" = none) : FnOk P w K mg base CX0 (k + 1) f fd ["_law_pen_here", "_law_size"] spTake := by
  refine F.ok sc_law_take (fun vs H Q E h => ?_) (fun cdv A outer s H vs Q E hr h => ?_)
  · obtain ⟨p, c, m, n, rfl, _⟩ := h
    rfl
  · obtain ⟨p, c, m, n, rfl, hP, hn, m0, m1, q⟩ := h
    obtain ⟨cells, a, r, hp, hc, a0, a1, r0, cl⟩ := hP
    refine ⟨_, (pss_cons (ps_set (i := 2) sc_law_take.nd rfl (.inl rfl) (pe_dget (hu_of hr) (pv 0) pe_str (fun _ _ => rfl)))
      (pss_cons (ps_if (pt_cmpR op_gt (pe_dget (hu_of hr) (pv 0) pe_str (fun _ _ => rfl)) pe_int (nomark _)) (pss_cons (ps_set (i := 3) sc_law_take.nd rfl (.inl rfl) (pe_op op_mod (pe_dget (hu_of hr) (pv 0) pe_str (fun _ _ => rfl)) (pv 1)))
      (pss_cons (ps_dput (hu_of hr) (pv 0) pe_str (pe_op op_fdiv (pe_dget (hu_of hr) (pv 0) pe_str (fun _ _ => rfl)) (pv 1)) rfl)
      (pss_one (ps_ret (pv 3))))) pss_nil)
      (pss_cons (ps_set (i := 4) sc_law_take.nd rfl (.inl rfl) (pe_dget (hu_of hr) (pv 0) pe_str (fun _ _ => rfl)))
      (pss_cons (ps_dput (hu_of hr) (pv 0) pe_str (pe_op op_add (pv 4) pe_int) rfl)
      (pss_cons (ps_set (i := 5) sc_law_take.nd rfl (.inl rfl) (pe_op op_add (pe_op op_add (pe_op op_mul (pe_op op_mul pe_int (pv 4)) (pv 4)) (pe_op op_mul pe_int (pv 4))) pe_int))
      (pss_cons (ps_if (pt_cmpR op_lt (pv 4) (pe_callB (lenQ K) (by rfl) mlen (by decide +kernel) (pa_cons (pv 2) pa_nil)) (nomark _)) (pss_cons (ps_set (i := 5) sc_law_take.nd rfl (.inl rfl) (pe_ix (ixL K) (pv 2) (pv 4) (fun _ _ => rfl)))
      (pss_one (ps_if (pt_cmpR op_ge (pe_callB call_abs (by rfl) mabs (by decide +kernel) (pa_cons (pv 5) pa_nil)) (pe_op op_pow pe_int pe_int) (nomark _)) (pss_cons (ps_dput (hu_of hr) (pv 0) pe_str (pe_op op_fdiv (pe_callB call_abs (by rfl) mabs (by decide +kernel) (pa_cons (pv 5) pa_nil)) (pv 1)) rfl)
      (pss_one (ps_ret (pe_op op_mod (pe_callB call_abs (by rfl) mabs (by decide +kernel) (pa_cons (pv 5) pa_nil)) (pv 1))))) pss_nil))) (pss_one (ps_if (pt_cmpR op_gt (pe_callB (lenQ K) (by rfl) mlen (by decide +kernel) (pa_cons (pv 2) pa_nil)) pe_int (nomark _)) (pss_one (ps_set (i := 5) sc_law_take.nd rfl (.inl rfl) (pe_op op_add (pe_op op_mod (pe_ix (ixL K) (pv 2) (pe_op op_mod (pv 4) (pe_callB (lenQ K) (by rfl) mlen (by decide +kernel) (pa_cons (pv 2) pa_nil))) (fun _ _ => rfl)) (pe_op op_pow pe_int pe_int)) (pe_op op_mul pe_int (pv 4))))) pss_nil)))
      (pss_cons (ps_set (i := 6) sc_law_take.nd rfl (.inl rfl) (pe_op op_mod (pe_op op_mul (pe_op op_add (pe_op op_add (pe_op op_mod (pv 5) pe_int) (pe_op op_mul pe_int (pv 4))) pe_int) pe_int) pe_int))
      (pss_cons (ps_set (i := 6) sc_law_take.nd rfl (.inl rfl) (pe_op op_mod (pe_op op_add (pe_op op_mul (pv 6) (pe_op op_add (pe_op op_mod (pv 6) pe_int) pe_int)) (pe_op op_mul pe_int (pv 4))) pe_int))
      (pss_one (ps_ret (pe_op op_mod (pe_op op_fdiv (pe_op op_mod (pe_op op_mul (pv 6) (pe_op op_add (pe_op op_mod (pv 6) pe_int) pe_int)) pe_int) pe_int) (pv 1)))))))))))), ?_⟩
    have ncp : c ≠ p := ne_of hc hp (by intro z; cases z)
    refine ⟨_, rfl, p, _, rfl, get_cells hp, ?_⟩
    refine ⟨_, rfl, p, _, rfl, get_left hp, r, 0, rfl, rfl, _, rfl, ite2 (fun e => ?_) (fun e => ?_)⟩
    · refine ⟨_, rfl, p, _, rfl, get_left hp, _, rfl, r, m, rfl, rfl, m0, ?_⟩
      refine ⟨_, rfl, p, _, rfl, get_left hp, _, rfl, r, m, rfl, rfl, ⟨m0, by omega⟩, _, rfl, p, _, rfl, dput_left hp, ?_⟩
      refine ⟨_, rfl, q _ _ (Int.emod_nonneg _ (by omega)) (Int.emod_lt_of_pos _ m0) Kp.at ⟨cells, a, r / m, upd_same, ?_, a0, by omega, Int.ediv_nonneg r0 (by omega), cl⟩⟩
      rw [upd_ne ncp]
      exact hc
    · refine ⟨_, rfl, p, _, rfl, get_at hp, ?_⟩
      refine ⟨_, rfl, a, 1, rfl, rfl, _, rfl, p, _, rfl, dput_at hp, ?_⟩
      have hp1 : (upd H p (.dK (penK c (a + 1) r))) p = some (.dK (penK c (a + 1) r)) := upd_same
      have hc1 : (upd H p (.dK (penK c (a + 1) r))) c = some (.lst (cells.map V.int)) := by
        rw [upd_ne ncp]
        exact hc
      have k1 : Kp p H (upd H p (.dK (penK c (a + 1) r))) := Kp.at
      -- raw
      refine ⟨_, rfl, 30059, a, rfl, rfl, .inl ⟨by decide, by decide⟩, _, rfl, _, a, rfl, rfl, .inl ⟨by omega, by omega⟩, _, rfl, 101, a, rfl, rfl, .inl ⟨by decide, by decide⟩, _, _, rfl, rfl, _, 37, rfl, rfl, ?_⟩
      refine ⟨_, rfl, _, rfl, c, _, rfl, .inl (SqL.of hc1), _, _, rfl, rfl, _, rfl, ite2 (fun e1 => ?_) (fun e1 => ?_)⟩
      · have e1 : a < ((cells.map V.int).length : Int) := of_decide_eq_true e1
        rw [List.length_map] at e1
        obtain ⟨z, _, hat⟩ := atI_ints (ns := cells) a0 e1
        refine ⟨_, rfl, _, rfl, c, _, a, _, rfl, rfl, SqL.of hc1, hat, ?_⟩
        refine ⟨_, rfl, z, rfl, 10, 18, rfl, rfl, ⟨by decide, by decide, by decide⟩, _, _, rfl, rfl, _, rfl, ite2 (fun e3 => ?_) (fun e3 => ?_)⟩
        · refine ⟨_, rfl, z, rfl, _, rfl, _, m, rfl, rfl, ⟨m0, by omega⟩, _, rfl, p, _, rfl, dput_left hp1, ?_⟩
          refine ⟨_, rfl, z, rfl, _, rfl, _, m, rfl, rfl, m0, q _ _ (Int.emod_nonneg _ (by omega)) (Int.emod_lt_of_pos _ m0) (k1.trans Kp.at) ⟨cells, a + 1, _, upd_same, ?_, by omega, by omega, Int.ediv_nonneg ?_ (by omega), cl⟩⟩
          · rw [upd_ne ncp]
            exact hc1
          · split <;> omega
        refine ⟨_, rfl, _, 2147483563, rfl, rfl, (show (0 : Int) < 2147483563 by decide), _, rfl, 41039, a, rfl, rfl, .inl ⟨by decide, by decide⟩, _, _, rfl, rfl, _, 29, rfl, rfl, _, 69621, rfl, rfl, .inr ⟨by decide, by decide⟩, _, 2147483629, rfl, rfl, (show (0 : Int) < 2147483629 by decide), ?_⟩
        refine ⟨_, rfl, _, rfl, _, 65419, rfl, rfl, (show (0 : Int) < 65419 by decide), _, 11, rfl, rfl, _, _, rfl, rfl, .inl (take_m _ 2147483629 (by decide) (by decide)), _, rfl, 48271, a, rfl, rfl, .inl ⟨by decide, by decide⟩, _, _, rfl, rfl, _, 2147483587, rfl, rfl, (show (0 : Int) < 2147483587 by decide), ?_⟩
        refine ⟨_, rfl, _, rfl, _, 9883, rfl, rfl, (show (0 : Int) < 9883 by decide), _, 7, rfl, rfl, _, _, rfl, rfl, .inl (take_m _ 2147483587 (by decide) (by decide)), _, 2147483549, rfl, rfl, (show (0 : Int) < 2147483549 by decide), _, 64, rfl, rfl, ⟨by decide, by decide⟩, _, rfl, _, m, rfl, rfl, m0, q _ _ (Int.emod_nonneg _ (by omega)) (Int.emod_lt_of_pos _ m0) k1 ⟨cells, a + 1, r, hp1, hc1, by omega, by omega, r0, cl⟩⟩
      · refine ⟨_, rfl, c, _, rfl, .inl (SqL.of hc1), _, _, rfl, rfl, _, rfl, ite2 (fun e2 => ?_) (fun e2 => ?_)⟩
        · have e2 : (0 : Int) < ((cells.map V.int).length : Int) := of_decide_eq_true e2
          have hl1 : ((cells.map V.int).length : Int) = cells.length := by rw [List.length_map]
          obtain ⟨z, _, hat⟩ := atI_ints (ns := cells) (Int.emod_nonneg a (show ((cells.map V.int).length : Int) ≠ 0 by omega)) (by
            have := Int.emod_lt_of_pos a (show (0 : Int) < ((cells.map V.int).length : Int) by omega)
            omega)
          refine ⟨_, rfl, _, rfl, _, rfl, c, _, rfl, .inl (SqL.of hc1), _, _, rfl, rfl, e2, c, _, _, _, rfl, rfl, SqL.of hc1, hat, 10, 17, rfl, rfl, ⟨by decide, by decide, by decide⟩, _, _, rfl, rfl, (show (0 : Int) < 10 ^ (17 : Int).toNat by decide), _, rfl, 60089, a, rfl, rfl, .inl ⟨by decide, by decide⟩, _, _, rfl, rfl, ?_⟩
          refine ⟨_, rfl, _, 2147483563, rfl, rfl, (show (0 : Int) < 2147483563 by decide), _, rfl, 41039, a, rfl, rfl, .inl ⟨by decide, by decide⟩, _, _, rfl, rfl, _, 29, rfl, rfl, _, 69621, rfl, rfl, .inr ⟨by decide, by decide⟩, _, 2147483629, rfl, rfl, (show (0 : Int) < 2147483629 by decide), ?_⟩
          refine ⟨_, rfl, _, rfl, _, 65419, rfl, rfl, (show (0 : Int) < 65419 by decide), _, 11, rfl, rfl, _, _, rfl, rfl, .inl (take_m _ 2147483629 (by decide) (by decide)), _, rfl, 48271, a, rfl, rfl, .inl ⟨by decide, by decide⟩, _, _, rfl, rfl, _, 2147483587, rfl, rfl, (show (0 : Int) < 2147483587 by decide), ?_⟩
          refine ⟨_, rfl, _, rfl, _, 9883, rfl, rfl, (show (0 : Int) < 9883 by decide), _, 7, rfl, rfl, _, _, rfl, rfl, .inl (take_m _ 2147483587 (by decide) (by decide)), _, 2147483549, rfl, rfl, (show (0 : Int) < 2147483549 by decide), _, 64, rfl, rfl, ⟨by decide, by decide⟩, _, rfl, _, m, rfl, rfl, m0, q _ _ (Int.emod_nonneg _ (by omega)) (Int.emod_lt_of_pos _ m0) k1 ⟨cells, a + 1, r, hp1, hc1, by omega, by omega, r0, cl⟩⟩
        · refine ⟨_, rfl, _, 2147483563, rfl, rfl, (show (0 : Int) < 2147483563 by decide), _, rfl, 41039, a, rfl, rfl, .inl ⟨by decide, by decide⟩, _, _, rfl, rfl, _, 29, rfl, rfl, _, 69621, rfl, rfl, .inr ⟨by decide, by decide⟩, _, 2147483629, rfl, rfl, (show (0 : Int) < 2147483629 by decide), ?_⟩
          refine ⟨_, rfl, _, rfl, _, 65419, rfl, rfl, (show (0 : Int) < 65419 by decide), _, 11, rfl, rfl, _, _, rfl, rfl, .inl (take_m _ 2147483629 (by decide) (by decide)), _, rfl, 48271, a, rfl, rfl, .inl ⟨by decide, by decide⟩, _, _, rfl, rfl, _, 2147483587, rfl, rfl, (show (0 : Int) < 2147483587 by decide), ?_⟩
          refine ⟨_, rfl, _, rfl, _, 9883, rfl, rfl, (show (0 : Int) < 9883 by decide), _, 7, rfl, rfl, _, _, rfl, rfl, .inl (take_m _ 2147483587 (by decide) (by decide)), _, 2147483549, rfl, rfl, (show (0 : Int) < 2147483549 by decide), _, 64, rfl, rfl, ⟨by decide, by decide⟩, _, rfl, _, m, rfl, rfl, m0, q _ _ (Int.emod_nonneg _ (by omega)) (Int.emod_lt_of_pos _ m0) k1 ⟨cells, a + 1, r, hp1, hc1, by omega, by omega, r0, cl⟩⟩
end
end Pf


namespace Pf
open PySem PySem.Spec PyProof.Rows L2
/-- a list, a tuple or a text, by its items -/
def SeqOf (H : Hp) (v : V) (xs : List V) : Prop := (∃ a, v = .ref a ∧ H a = some (.lst xs)) ∨ (∃ a, v = .ref a ∧ Rd H a (.tup xs)) ∨ ∃ z : Str, v = .str z ∧ xs = z.cps.toList.map fun c => V.str ⟨#[c]⟩
section
variable {P : Program} {w : World} {K : PySem.W.Frag} {mg : Str → Option Value} {base : Heap}
abbrev CTake (P : Program) (w : World) (K : PySem.W.Frag) (mg : Str → Option Value) (base : Heap) : Prop := Ca P w K mg base 1 "_law_take" ["_law_pen_here", "_law_size"] spTake
abbrev s_law_pick : Stmt := topS 25
theorem sc_law_pick : FnScope ["_law_pen_here", "_law_some"] ["_law_pen_here", "_law_some"] (defScope s_law_pick) :=
  ⟨rfl, rfl, rfl, by decide +kernel, rfl, by decide +kernel, by decide +kernel⟩
def spPick : Sp := fun vs H Q _ => ∃ (p c : Addr) (v : V) (xs : List V) (n : Nat), vs = [.ref p, v] ∧ SeqOf H v xs ∧ 0 < xs.length ∧ xs.length < 1000000 ∧ Pen H p c n ∧ n < 1000000 ∧
  ∀ x H', x ∈ xs → Kp p H H' → Pen H' p c (n + 1) → Q x H'
theorem ok_pick {f : Addr} {fd : FuncData} (F : Fun K "_law_pick" "_law_pick" s_law_pick f fd) (c_law_take : CTake P w K mg base) (mlen : mg "len" = none) : FnOk P w K mg base CX0 2 f fd ["_law_pen_here", "_law_some"] spPick := by
  refine F.ok sc_law_pick (fun vs H Q E h => ?_) (fun cdv A outer s H vs Q E hr h => ?_)
  · obtain ⟨p, c, v, xs, n, rfl, _⟩ := h
    rfl
  · obtain ⟨p, c, v, xs, n, rfl, hv, x0, x1, hP, hn, q⟩ := h
    refine ⟨_, (pss_one (ps_ret (pe_ix (ixA K) (pv 1) (pe_ca c_law_take (hr.mono (by decide)) (by rfl) (pa_cons (pv 0) (pa_cons (pe_callB (lenA K) (by rfl) mlen (by decide +kernel) (pa_cons (pv 1) pa_nil)) pa_nil))) (fun _ _ => rfl)))), ?_⟩
    rcases hv with ⟨a, rfl, ha⟩ | ⟨a, rfl, ha⟩ | ⟨z, rfl, ez⟩
    · refine ⟨_, rfl, _, rfl, _, rfl, _, xs.length, rfl, .inl ⟨xs, SqL.of ha, rfl⟩, p, c, xs.length, n, rfl, hP, hn, by omega, by omega, fun r H' r0 r1 k hP' => ?_⟩
      obtain ⟨x, hx, hat⟩ := atI_mem r0 r1
      exact .inl ⟨a, xs, r, x, rfl, rfl, SqL.of (k _ _ (hP.lst ha) ha), hat, q x H' hx k hP'⟩
    · refine ⟨_, rfl, _, rfl, _, rfl, _, xs.length, rfl, .inr ⟨xs, .inl ha, rfl⟩, p, c, xs.length, n, rfl, hP, hn, by omega, by omega, fun r H' r0 r1 k hP' => ?_⟩
      obtain ⟨x, hx, hat⟩ := atI_mem r0 r1
      exact .inr (.inl ⟨a, xs, r, x, rfl, rfl, .inl (ha.elim (fun e => .inl (k _ _ (hP.tup e) e)) fun ⟨o, e⟩ => .inr ⟨o, k _ _ (hP.frz e) e⟩), hat, q x H' hx k hP'⟩)
    · have hz : xs.length = z.length := by
        rw [ez, List.length_map, Array.length_toList]
        rfl
      refine ⟨_, rfl, _, rfl, _, rfl, _, z.length, rfl, ⟨szL (by omega), rfl⟩, p, c, z.length, n, rfl, hP, hn, by omega, by omega, fun r H' r0 r1 k hP' => ?_⟩
      obtain ⟨x, hx, hat⟩ := atI_mem (xs := z.cps.toList) r0 (by rw [Array.length_toList]; exact r1)
      exact .inr (.inr ⟨z, r, x, rfl, rfl, szL (by omega), hat, q _ H' (by rw [ez]; exact List.mem_map.mpr ⟨x, hx, rfl⟩) k hP'⟩)
abbrev CPick (P : Program) (w : World) (K : PySem.W.Frag) (mg : Str → Option Value) (base : Heap) : Prop := Ca P w K mg base 2 "_law_pick" ["_law_pen_here", "_law_some"] spPick
abbrev s_law_worth : Stmt := topS 26
theorem sc_law_worth : FnScope ["_law_pen_here", "_law_some"] ["_law_pen_here"] (defScope s_law_worth) :=
  ⟨rfl, rfl, rfl, by decide +kernel, rfl, by decide +kernel, by decide +kernel⟩
def spWorth : Sp := fun vs H Q _ => ∃ (p c : Addr) (n : Nat), vs = [.ref p] ∧ Pen H p c n ∧ n + 3 < 1000000 ∧
  ∀ (i : Int) H', -99 ≤ i → i ≤ 99 → Kp p H H' → Pen H' p c (n + 4) → Q (.int i) H'
theorem ok_worth {f : Addr} {fd : FuncData} (F : Fun K "_law_worth" "_law_worth" s_law_worth f fd) (c_law_take : CTake P w K mg base) (c_law_pick : CPick P w K mg base) : FnOk P w K mg base CX0 3 f fd ["_law_pen_here"] spWorth := by
  refine F.ok sc_law_worth (fun vs H Q E h => ?_) (fun cdv A outer s H vs Q E hr h => ?_)
  · obtain ⟨p, c, n, rfl, _⟩ := h
    rfl
  · obtain ⟨p, c, n, rfl, hP, hn, q⟩ := h
    refine ⟨_, (pss_cons (ps_set (i := 1) sc_law_worth.nd rfl (.inl rfl) (pe_lst (pa_cons pe_int (pa_cons (pe_un un_neg pe_int) (pa_cons (pe_un un_neg pe_int) (pa_cons pe_int (pa_cons (pe_op op_sub (pe_ca c_law_take (hr.mono (by decide)) (by rfl) (pa_cons (pv 0) (pa_cons pe_int pa_nil))) pe_int) (pa_cons (pe_op op_sub (pe_ca c_law_take (hr.mono (by decide)) (by rfl) (pa_cons (pv 0) (pa_cons pe_int pa_nil))) pe_int) (pa_cons pe_int (pa_cons (pe_un un_neg pe_int) (pa_cons (pe_op op_sub (pe_ca c_law_take (hr.mono (by decide)) (by rfl) (pa_cons (pv 0) (pa_cons pe_int pa_nil))) pe_int) pa_nil)))))))))))
      (pss_one (ps_ret (pe_ca c_law_pick (hr.mono (by decide)) (by rfl) (pa_cons (pv 0) (pa_cons (pv 1) pa_nil)))))), ?_⟩
    refine ⟨1, rfl, 2, rfl, _, rfl, p, c, 9, n, rfl, hP, by omega, by decide, by decide, fun r1 H1 r1a r1b k1 hP1 => ⟨r1, 6, rfl, rfl, ?_⟩⟩
    refine ⟨_, rfl, p, c, 7, n + 1, rfl, hP1, by omega, by decide, by decide, fun r2 H2 r2a r2b k2 hP2 => ⟨r2, 3, rfl, rfl, 99, rfl, ?_⟩⟩
    refine ⟨_, rfl, p, c, 199, n + 2, rfl, hP2, by omega, by decide, by decide, fun r3 H3 r3a r3b k3 hP3 => ⟨r3, 99, rfl, rfl, ?_⟩⟩
    refine ⟨szL (show 9 ≤ 1000000 by decide), fun l hl => ?_⟩
    refine ⟨_, rfl, _, rfl, p, c, .ref l, [0, -1, -2, 1, r1 - 6, r2 - 3, 99, -99, r3 - 99].map V.int, n + 3, rfl, .inl ⟨l, rfl, upd_same⟩, (show 0 < 9 by decide), (show 9 < 1000000 by decide), hP3.new hl, by omega, fun x H4 hx k4 hP4 => ?_⟩
    obtain ⟨z, hz, rfl⟩ := List.mem_map.mp hx
    have hz2 : -99 ≤ z ∧ z ≤ 99 := by
      simp only [List.mem_cons, List.not_mem_nil, or_false] at hz
      omega
    exact q _ _ hz2.1 hz2.2 (((k1.trans k2).trans k3).trans ((Kp.new hl).trans k4)) hP4
abbrev CWorth (P : Program) (w : World) (K : PySem.W.Frag) (mg : Str → Option Value) (base : Heap) : Prop := Ca P w K mg base 3 "_law_worth" ["_law_pen_here"] spWorth
end
end Pf


namespace Pf
open PySem PySem.Spec PyProof.Rows L2
theorem TupK.of {p c : Addr} {n : Nat} {H H' : Hp} (k : Kp p H H') (hP : Pen H p c n) : TupK H H' := ⟨fun b _ e => k b _ (hP.tup e) e, fun b _ _ e => k b _ (hP.frz e) e⟩
theorem Kp.ext {p : Addr} {H H' : Hp} (k : Ext H H') : Kp p H H' := fun b o _ e => k b o e
def lstLen (H : Hp) (a : Addr) : Nat := match H a with
  | some (.lst xs) => xs.length
  | _ => 0
section
variable {P : Program} {w : World} {K : PySem.W.Frag} {mg : Str → Option Value} {base : Heap}
abbrev s_law_code : Stmt := topS 27
theorem sc_law_code : FnScope ["_law_pen_here", "_law_signs", "_law_every", "_law_one", "_law_few", "_law_some", "_law_alike", "_law_pairs", "_law_k", "_law_loops", "_law_stacks", "_law_rows", "_law_both", "_law_texts", "_law_other"] ["_law_pen_here"] (defScope s_law_code) :=
  ⟨rfl, rfl, rfl, by decide +kernel, rfl, by decide +kernel, by decide +kernel⟩
def evL (x : Str) (i : Nat) : List Str := (x.cps.toList.take i).flatMap fun a => x.cps.toList.map fun b => (⟨#[a]⟩ ++ ⟨#[b]⟩ : Str)
def spCode : Sp := fun vs H Q _ => ∃ (p c : Addr) (n : Nat), vs = [.ref p] ∧ Pen H p c n ∧ n + 300 < 1000000 ∧
  ∀ v r H', RulesAt H' v r → RlOk r → Kp p H H' → Pen H' p c (n + 300) → Q v H'
theorem ok_code {f : Addr} {fd : FuncData} (F : Fun K "_law_code" "_law_code" s_law_code f fd) (c_law_take : CTake P w K mg base) (c_law_pick : CPick P w K mg base) (c_law_worth : CWorth P w K mg base)
    (mlen : mg "len" = none) (mint : mg "int" = none) (mtuple : mg "tuple" = none) (mrange : mg "range" = none) (mlist : mg "list" = none) (msorted : mg "sorted" = none) : FnOk P w K mg base CX0 4 f fd ["_law_pen_here"] spCode := by
  refine F.ok sc_law_code (fun vs H Q E h => ?_) (fun cdv A outer s H vs Q E hr h => ?_)
  · obtain ⟨p, c, n, rfl, _⟩ := h
    rfl
  · obtain ⟨p, c, n, rfl, hP, hn, q⟩ := h
    refine ⟨_, (pss_cons (ps_set (i := 1) sc_law_code.nd rfl (.inl rfl) (pe_ix (ixL K) (pe_lst (pa_cons pe_str (pa_cons pe_str (pa_cons pe_str (pa_cons pe_str (pa_cons pe_str (pa_cons pe_str pa_nil))))))) (pe_ca c_law_take (hr.mono (by decide)) (by rfl) (pa_cons (pv 0) (pa_cons pe_int pa_nil))) (fun _ _ => rfl)))
      (pss_cons (ps_set (i := 2) sc_law_code.nd rfl (.inl rfl) (pe_lst pa_nil))
      (pss_cons (ps_for PassesOwn.never rfl (pi_str (pv 1)) (pg_name (i := 3) sc_law_code.nd rfl (.inr rfl)) (pss_one (ps_set (i := 2) sc_law_code.nd rfl (.inl rfl) (pe_op op_cat (pv 2) (pe_lc (own := [("_law_other", 14)]) (g := gName 14) (by rfl) sc_law_code.nd (pi_str (pv 1)) (blkOk_by (own := [("_law_other", 14)]) (N := ["_law_pen_here", "_law_signs", "_law_every", "_law_one", "_law_few", "_law_some", "_law_alike", "_law_pairs", "_law_k", "_law_loops", "_law_stacks", "_law_rows", "_law_both", "_law_texts", "_law_other"]) (sc := defScope s_law_code) (by decide +kernel)) (fun _ _ _ _ _ => (pg_name (i := 14) sc_law_code.nd rfl (.inl rfl))) (fun _ _ _ _ _ => pts_nil) (fun _ _ _ _ _ => (pe_op op_add_str (pv 3) (pv 14))))))))
      (pss_cons (ps_set (i := 4) sc_law_code.nd rfl (.inr rfl) (pe_ix (ixL K) (pe_lst (pa_cons pe_int (pa_cons pe_int (pa_cons pe_int (pa_cons pe_int pa_nil))))) (pe_ca c_law_take (hr.mono (by decide)) (by rfl) (pa_cons (pv 0) (pa_cons pe_int pa_nil))) (fun _ _ => rfl)))
      (pss_cons (ps_set (i := 5) sc_law_code.nd rfl (.inl rfl) (pe_callB cr_sortedS (by rfl) msorted (by decide +kernel) (pa_cons (pe_lc (own := [("_law_both", 12)]) (g := gName 12) (by rfl) sc_law_code.nd (pi_list (pv 2)) (blkOk_by (own := [("_law_both", 12)]) (N := ["_law_pen_here", "_law_signs", "_law_every", "_law_one", "_law_few", "_law_some", "_law_alike", "_law_pairs", "_law_k", "_law_loops", "_law_stacks", "_law_rows", "_law_both", "_law_texts", "_law_other"]) (sc := defScope s_law_code) (by decide +kernel)) (fun _ _ _ _ _ => (pg_name (i := 12) sc_law_code.nd rfl (.inl rfl))) (fun _ _ _ _ _ => (pts_one (pt_cmpR op_ge (pe_ca c_law_take (hr.mono (by decide)) (by rfl) (pa_cons (pv 0) (pa_cons pe_int pa_nil))) (pv 4) (nomark _)))) (fun _ _ _ _ _ => (pv 12))) pa_nil)))
      (pss_cons (ps_while PassesOwn.never (pt_cmpR op_gt (pe_callB (lenQ K) (by rfl) mlen (by decide +kernel) (pa_cons (pv 5) pa_nil)) pe_int (nomark _)) (pss_one (ps_expr (pe_bm PySem.F.plainAttrs_list PySem.F.slot_list_pop PySem.F.type_list_pop mt_popAt (pv 5) (pa_cons (pe_ca c_law_take (hr.mono (by decide)) (by rfl) (pa_cons (pv 0) (pa_cons (pe_callB (lenQ K) (by rfl) mlen (by decide +kernel) (pa_cons (pv 5) pa_nil)) pa_nil))) pa_nil)))))
      (pss_cons (ps_set (i := 6) sc_law_code.nd rfl (.inr rfl) (pe_cmpR op_eq (pe_ca c_law_take (hr.mono (by decide)) (by rfl) (pa_cons (pv 0) (pa_cons pe_int pa_nil))) pe_int (nomark _)))
      (pss_cons (ps_set (i := 7) sc_law_code.nd rfl (.inl rfl) (pe_callTy (tupleFz K) (by rfl) mtuple (by decide +kernel) (pa_cons (pe_lc (own := [("_law_both", 12)]) (g := gName 12) (by rfl) sc_law_code.nd (pi_list (pv 5)) (blkOk_by (own := [("_law_both", 12)]) (N := ["_law_pen_here", "_law_signs", "_law_every", "_law_one", "_law_few", "_law_some", "_law_alike", "_law_pairs", "_law_k", "_law_loops", "_law_stacks", "_law_rows", "_law_both", "_law_texts", "_law_other"]) (sc := defScope s_law_code) (by decide +kernel)) (fun _ _ _ _ _ => (pg_name (i := 12) sc_law_code.nd rfl (.inl rfl))) (fun _ _ _ _ _ => pts_nil) (fun _ _ _ _ _ => (pe_tup (pa_cons (pv 12) (pa_cons (pe_ix (ixL K) (pe_lst (pa_cons (pe_ca c_law_worth (hr.mono (by decide)) (by rfl) (pa_cons (pv 0) pa_nil)) (pa_cons (pe_un un_neg pe_int) pa_nil))) (pe_callTy call_int1 (by rfl) mint (by decide +kernel) (pa_cons (pv 6) pa_nil)) (fun _ _ => rfl)) pa_nil))))) pa_nil)))
      (pss_cons (ps_set (i := 9) sc_law_code.nd rfl (.inl rfl) (pe_callTy (tupleOf K) (by rfl) mtuple (by decide +kernel) (pa_cons (pe_lc (own := [("_law_k", 8)]) (g := gName 8) (by rfl) sc_law_code.nd (pi_range1 (by rfl) mrange (pa_cons pe_int pa_nil)) (blkOk_by (own := [("_law_k", 8)]) (N := ["_law_pen_here", "_law_signs", "_law_every", "_law_one", "_law_few", "_law_some", "_law_alike", "_law_pairs", "_law_k", "_law_loops", "_law_stacks", "_law_rows", "_law_both", "_law_texts", "_law_other"]) (sc := defScope s_law_code) (by decide +kernel)) (fun _ _ _ _ _ => (pg_name (i := 8) sc_law_code.nd rfl (.inl rfl))) (fun _ _ _ _ _ => pts_nil) (fun _ _ _ _ _ => (pe_ca c_law_worth (hr.mono (by decide)) (by rfl) (pa_cons (pv 0) pa_nil)))) pa_nil)))
      (pss_cons (ps_if (pt_cmpR op_eq (pe_ca c_law_take (hr.mono (by decide)) (by rfl) (pa_cons (pv 0) (pa_cons pe_int pa_nil))) pe_int (nomark _)) (pss_one (ps_set (i := 9) sc_law_code.nd rfl (.inl rfl) (pe_op (repT K) (pe_tup (pa_cons pe_int pa_nil)) pe_int))) pss_nil)
      (pss_cons (ps_set (i := 10) sc_law_code.nd rfl (.inr rfl) pe_dnewT)
      (pss_cons (ps_for PassesOwn.never rfl (pi_range1 (by rfl) mrange (pa_cons (pe_op op_mul (pe_ca c_law_take (hr.mono (by decide)) (by rfl) (pa_cons (pv 0) (pa_cons pe_int pa_nil))) (pe_callTy call_int1 (by rfl) mint (by decide +kernel) (pa_cons (pe_cmpR (neD K hr.units) (pv 5) (pe_lst pa_nil) (nomark _)) pa_nil))) pa_nil)) (pg_name (i := 8) sc_law_code.nd rfl (.inl rfl)) (pss_one (ps_dput (hu_of hr) (pv 10) (pe_tup (pa_cons (pe_ca c_law_pick (hr.mono (by decide)) (by rfl) (pa_cons (pv 0) (pa_cons (pv 5) pa_nil))) (pa_cons (pe_ca c_law_pick (hr.mono (by decide)) (by rfl) (pa_cons (pv 0) (pa_cons (pv 5) pa_nil))) pa_nil))) (pe_ca c_law_worth (hr.mono (by decide)) (by rfl) (pa_cons (pv 0) pa_nil)) rfl)))
      (pss_cons (ps_set (i := 11) sc_law_code.nd rfl (.inl rfl) (pe_callTy (tupleOf K) (by rfl) mtuple (by decide +kernel) (pa_cons (pe_lc (own := [("_law_texts", 13)]) (g := gName 13) (by rfl) sc_law_code.nd (pi_list (pe_callB (cr_sortD K hr.units) (by rfl) msorted (by decide +kernel) (pa_cons (pe_callTy (call_list_dT rfl) (by rfl) mlist (by decide +kernel) (pa_cons (pv 10) pa_nil)) pa_nil))) (blkOk_by (own := [("_law_texts", 13)]) (N := ["_law_pen_here", "_law_signs", "_law_every", "_law_one", "_law_few", "_law_some", "_law_alike", "_law_pairs", "_law_k", "_law_loops", "_law_stacks", "_law_rows", "_law_both", "_law_texts", "_law_other"]) (sc := defScope s_law_code) (by decide +kernel)) (fun _ _ _ _ _ => (pg_name (i := 13) sc_law_code.nd rfl (.inl rfl))) (fun _ _ _ _ _ => pts_nil) (fun _ _ _ _ _ => (pe_op (catT K) (pv 13) (pe_tup (pa_cons (pe_dget (hu_of hr) (pv 10) (pv 13) (fun _ _ => rfl)) pa_nil))))) pa_nil)))
      (pss_one (ps_ret (pe_tup (pa_cons (pv 1) (pa_cons (pv 7) (pa_cons (pe_ix (ixL K) (pe_lst (pa_cons pe_int (pa_cons pe_int (pa_cons pe_int (pa_cons pe_int (pa_cons pe_int pa_nil)))))) (pe_ca c_law_take (hr.mono (by decide)) (by rfl) (pa_cons (pv 0) (pa_cons pe_int pa_nil))) (fun _ _ => rfl)) (pa_cons (pv 9) (pa_cons (pv 11) pa_nil))))))))))))))))))))), ?_⟩
    -- signs
    refine ⟨szL (show 6 ≤ 1000000 by decide), fun l hl => ⟨_, rfl, p, c, 6, n, rfl, hP.new hl, by omega, by decide, by decide, fun r1 H1 r1a r1b k1 hP1 => ?_⟩⟩
    have hL := k1 _ _ (hP.ne hl).1 upd_same
    obtain ⟨v, hmem, hz⟩ := atI_mem (xs := [V.str "a", .str "ab", .str "acgu", .str "abcdef", .str "xyz", .str "bdnqtz"]) r1a r1b
    have hv : ∀ v ∈ [V.str "a", .str "ab", .str "acgu", .str "abcdef", .str "xyz", .str "bdnqtz"], ∃ x : Str, v = .str x ∧ x.length ≤ 6 ∧ 1 ≤ x.length ∧ Small x ∧ (evL x x.cps.size).Nodup := by
      intro v hv
      simp only [List.mem_cons, List.not_mem_nil, or_false] at hv
      rcases hv with rfl | rfl | rfl | rfl | rfl | rfl <;> exact ⟨_, rfl, by decide, by decide, by unfold Small; decide +kernel, by decide +kernel⟩
    obtain ⟨sg, rfl, hs6, hs1, hsm, hev⟩ := hv _ hmem
    refine ⟨l, _, r1, _, rfl, rfl, SqL.of hL, hz, ?_⟩
    have kp1 : Kp p H H1 := (Kp.new hl).trans k1
    clear hL hz hmem hv k1
    -- every
    refine ⟨Nat.zero_le _, fun e0 he0 => ?_⟩
    refine ⟨_, rfl, _, rfl, for_str (fun i σ H2 => ∃ (l : Addr) (y3 : Option V) (ts : List Str), σ = [some (.ref p), some (.str sg), some (.ref l), y3, none, none, none, none, none, none, none, none, none, none, none] ∧ Ext H1 H2 ∧ H2 l = some (.lst (ts.map V.str)) ∧ ts.length ≤ 6 * i ∧ (∀ t ∈ ts, Two t) ∧ ts = evL sg i)
      ⟨e0, none, [], rfl, Ext.new he0, upd_same, by decide, (fun t h => by cases h), by unfold evL; rw [List.take_zero]; rfl⟩ (fun i ch σ H2 hi hv => ?_) (fun σ H2 hv => ?_)⟩
    · obtain ⟨l, y3, ts, rfl, k2, hL, hts, ht2, hte⟩ := hv
      have hi6 : i < sg.length := (Array.getElem?_eq_some_iff.mp hi).1
      refine ⟨_, rfl, _, rfl, _, rfl, fun D hD => lc_str (fun j H3 => ∃ zs : List Str, zs.length = j ∧ (∀ t ∈ zs, Two t) ∧ Ext H2 H3 ∧ H3 D = some (.lst (zs.map V.str)) ∧ zs = (sg.cps.toList.take j).map fun b => (⟨#[ch]⟩ ++ ⟨#[b]⟩ : Str)) ⟨[], rfl, (fun t h => by cases h), Ext.new hD, upd_same, by rw [List.take_zero]; rfl⟩ (fun j cj H3 hj hv => ?_) (fun H3 hv => ?_)⟩
      · obtain ⟨zs, hzs, hz2, k3, hL3, hze⟩ := hv
        have hj6 : j < sg.length := (Array.getElem?_eq_some_iff.mp hj).1
        refine ⟨rfl, _, rfl, _, rfl, _, _, rfl, rfl, szL (show 1 + 1 ≤ 1000000 by decide), _, hL3, szLt ?_, zs ++ [⟨#[ch]⟩ ++ ⟨#[cj]⟩], ?_, fun t ht => ?_, k3.put hD, ?_, ?_⟩
        · rw [List.length_map]
          omega
        · rw [List.length_append, List.length_singleton]
          omega
        · rcases List.mem_append.mp ht with ht | ht
          · exact hz2 t ht
          · rw [List.mem_singleton.mp ht]
            exact ⟨rfl, (Small.one (hsm.at hi)).app (Small.one (hsm.at hj))⟩
        · rw [upd_same, List.map_append]
          rfl
        · have hj' : sg.cps.toList[j]? = some cj := by
            rw [Array.getElem?_toList]
            exact hj
          rw [List.take_add_one, hj', List.map_append, hze]
          rfl
      · obtain ⟨zs, hzs, hz2, k3, hL3, hze⟩ := hv
        have hzs : zs.length ≤ 6 := by
          have : sg.cps.size ≤ 6 := hs6
          omega
        refine ⟨l, D, _, _, rfl, rfl, k3 _ _ hL, hL3, szL ?_, fun l2 hl2 => ⟨l2, _, ts ++ zs, rfl, (k2.trans k3).trans (Ext.new hl2), ?_, ?_, fun t ht => ?_, ?_⟩⟩
        · rw [List.length_map, List.length_map]
          omega
        · rw [upd_same, List.map_append]
        · rw [List.length_append]
          omega
        · rcases List.mem_append.mp ht with ht | ht
          · exact ht2 t ht
          · exact hz2 t ht
        · have hi' : sg.cps.toList[i]? = some ch := by
            rw [Array.getElem?_toList]
            exact hi
          rw [List.take_of_length_le (by rw [Array.length_toList]; exact Nat.le_refl _)] at hze
          rw [hte, hze]
          unfold evL
          rw [List.take_add_one, hi', List.flatMap_append]
          simp
    obtain ⟨le, y3, ts, rfl, k2, hLe, hts, ht2, hte⟩ := hv
    have htn : ts.Nodup := by
      rw [hte]
      exact hev
    have hts36 : ts.length ≤ 36 := by
      have : sg.cps.size ≤ 6 := hs6
      omega
    have hP2 := hP1.ext k2
    have kp2 : Kp p H H2 := kp1.trans (Kp.ext k2)
    clear hts k2 kp1 hP1
    -- few
    refine ⟨szL (show 4 ≤ 1000000 by decide), fun l4 hl4 => ⟨_, rfl, p, c, 4, _, rfl, hP2.new hl4, by omega, by decide, by decide, fun r4 H4 r4a r4b k4 hP4 => ?_⟩⟩
    obtain ⟨few, hfew, hat4⟩ := atI_ints (ns := [0, 1, 2, 3]) r4a r4b
    refine ⟨l4, _, r4, _, rfl, rfl, SqL.of (k4 _ _ (hP2.ne hl4).1 upd_same), hat4, ?_⟩
    have kp4 : Kp p H2 H4 := (Kp.new hl4).trans k4
    have hLe4 : H4 le = some (.lst (ts.map V.str)) := kp4 _ _ (hP2.lst hLe) hLe
    -- some
    refine ⟨_, rfl, le, rfl, ⟨_, SqL.of hLe4⟩, fun D hD => lc_list (K := K) (xs := ts.map V.str) (fun i H5 => ∃ us : List Str, us.length ≤ i ∧ (∀ t ∈ us, Two t) ∧ H5 D = some (.lst (us.map V.str)) ∧ Kp p H4 H5 ∧ Pen H5 p c (n + 2 + i) ∧ us.Sublist (ts.take i))
      ⟨[], Nat.zero_le _, (fun t h => by cases h), upd_same, Kp.new hD, (hP4.new hD).mono (by omega), List.nil_sublist _⟩ (fun i H5 _ ⟨us, _, _, _, k, _⟩ => SqL.of (k _ _ (hP4.lst hLe4) hLe4)) (fun i u H5 hi hv => ?_) (fun H5 hv => ?_)⟩
    · obtain ⟨us, hul, hu2, hL5, k5, hP5, hsub⟩ := hv
      have hil : i < ts.length := by
        have := (List.getElem?_eq_some_iff.mp hi).1
        rw [List.length_map] at this
        exact this
      obtain ⟨t, hti, rfl⟩ : ∃ t, ts[i]? = some t ∧ u = .str t := by
        rw [List.getElem?_map, List.getElem?_eq_getElem hil] at hi
        exact ⟨ts[i], List.getElem?_eq_getElem hil, (Option.some.inj hi).symm⟩
      have ht := List.mem_of_getElem? hti
      refine ⟨rfl, _, rfl, p, c, 4, _, rfl, hP5, by omega, by decide, by decide, fun r6 H6 r6a r6b k6 hP6 => ⟨_, rfl, r6, few, rfl, rfl, _, rfl, ite2 (fun e => ?_) (fun e => ?_)⟩⟩
      · have nD := hP4.ne hD
        refine ⟨_, rfl, _, k6 _ _ nD.1 hL5, szLt ?_, us ++ [t], ?_, fun x hx => ?_, ?_, (k5.trans k6).put hD, (hP6.put nD.1 nD.2).mono (by omega), ?_⟩
        · rw [List.length_map]
          omega
        · rw [List.length_append, List.length_singleton]
          omega
        · rcases List.mem_append.mp hx with hx | hx
          · exact hu2 x hx
          · rw [List.mem_singleton.mp hx]
            exact ht2 t ht
        · rw [upd_same, List.map_append]
          rfl
        · rw [List.take_add_one, hti]
          exact hsub.append (List.Sublist.refl _)
      · refine ⟨us, by omega, hu2, k6 _ _ (hP4.ne hD).1 hL5, k5.trans k6, hP6.mono (by omega), ?_⟩
        rw [List.take_add_one]
        exact hsub.trans (List.sublist_append_left _ _)
    obtain ⟨us0, hul, hu2, hL5, k5, hP5, hsub⟩ := hv
    rw [List.length_map] at hul hP5
    refine ⟨D, us0, rfl, SqL.of hL5, by omega, fun us so perm _ hso => ?_⟩
    have hus : us.length ≤ 36 := by
      rw [perm.length_eq]
      omega
    have hut : ∀ t ∈ us, Two t := fun t ht => hu2 t (perm.mem_iff.mp ht)
    have hun : us.Nodup := perm.nodup_iff.mpr (List.Sublist.nodup (hsub.trans (List.take_sublist _ _)) htn)
    have kp5 : Kp p H (upd H5 so (.lst (us.map V.str))) := ((kp2.trans kp4).trans k5).trans (Kp.new hso)
    have hP5' := (hP5.new (o := .lst (us.map V.str)) hso).mono (show n + 2 + ts.length ≤ n + 38 by omega)
    have nso := hP5.ne hso
    have hso0 : H so = none := by
      cases e : H so with
      | none => rfl
      | some o => rw [((kp2.trans kp4).trans k5) _ _ nso.1 e] at hso; cases hso
    -- while len(some) > 12
    refine ⟨fun m σ H6 => ∃ us : List Str, m = us.length ∧ σ = [some (.ref p), some (.str sg), some (.ref le), y3, some (.int few), some (.ref so), none, none, none, none, none, none, none, none, none] ∧ us.length ≤ 36 ∧ (∀ t ∈ us, Two t) ∧ H6 so = some (.lst (us.map V.str)) ∧ Kp p H H6 ∧ Pen H6 p c (n + 38 + (36 - us.length)) ∧ us.Nodup, ⟨_, us, rfl, rfl, hus, hut, upd_same, kp5, hP5'.mono (by omega), hun⟩, fun m σ H6 hW => ?_⟩
    obtain ⟨us, rfl, rfl, hus, hut, hS6, kp6, hP6, hun⟩ := hW
    refine ⟨_, rfl, so, _, rfl, .inl (SqL.of hS6), _, 12, rfl, rfl, _, rfl, ite2 (fun e => ?_) (fun e => ?_)⟩
    · have e : (12 : Int) < ((us.map V.str).length : Int) := of_decide_eq_true e
      have hl : (us.map V.str).length = us.length := List.length_map ..
      refine ⟨fun σ' H' => ∃ us' : List Str, us'.length < us.length ∧ σ' = [some (.ref p), some (.str sg), some (.ref le), y3, some (.int few), some (.ref so), none, none, none, none, none, none, none, none, none] ∧ us'.length ≤ 36 ∧ (∀ t ∈ us', Two t) ∧ H' so = some (.lst (us'.map V.str)) ∧ Kp p H H' ∧ Pen H' p c (n + 38 + (36 - us'.length)) ∧ us'.Nodup, fun σ' H' ⟨us', h1, h2⟩ => ⟨us'.length, h1, us', rfl, h2⟩, ?_⟩
      refine ⟨_, rfl, .inl ⟨rfl, _, SqL.of hS6⟩, _, rfl, _, rfl, so, _, rfl, .inl (SqL.of hS6), p, c, _, _, rfl, hP6, by omega, by omega, by omega, fun r7 H7 r7a r7b k7 hP7 => ?_⟩
      have hr7 : r7.toNat < us.length := by omega
      have hS7 : H7 so = some (.lst (us.map V.str)) := k7 _ _ (hP6.lst hS6) hS6
      refine ⟨so, _, r7, r7.toNat, .str us[r7.toNat], rfl, rfl, hS7, by omega, by omega, ixN_in r7a r7b, ?_, ?_⟩
      · rw [List.getElem?_map, List.getElem?_eq_getElem hr7]
        rfl
      · refine ⟨us.eraseIdx r7.toNat, ?_, rfl, ?_, fun t ht => hut t (List.mem_of_mem_eraseIdx ht), ?_, (kp6.trans k7).put hso0, ?_, List.Sublist.nodup (List.eraseIdx_sublist _ _) hun⟩
        · rw [List.length_eraseIdx_of_lt hr7]
          omega
        · rw [List.length_eraseIdx_of_lt hr7]
          omega
        · rw [upd_same, map_erase]
        · refine ((hP7.put (hP.ne hso0).1 (hP.ne hso0).2)).mono ?_
          rw [List.length_eraseIdx_of_lt hr7]
          omega
    have hu12 : us.length ≤ 12 := by
      have e : ¬ (12 : Int) < ((us.map V.str).length : Int) := fun z => e (decide_eq_true z)
      have hl : (us.map V.str).length = us.length := List.length_map ..
      omega
    have hP6' : Pen H6 p c (n + 74) := hP6.mono (by omega)
    -- alike
    refine ⟨_, rfl, p, c, 4, _, rfl, hP6', by omega, by decide, by decide, fun r8 H8 r8a r8b k8 hP8 => ⟨rfl, ?_⟩⟩
    obtain ⟨b, eb⟩ : ∃ b, b = decide (V.int r8 = V.int 0) := ⟨_, rfl⟩
    rw [← eb]
    have hS8 : H8 so = some (.lst (us.map V.str)) := k8 _ _ (hP6.lst hS6) hS6
    -- pairs
    refine ⟨_, rfl, so, rfl, ⟨_, SqL.of hS8⟩, fun D8 hD8 => lc_list (K := K) (xs := us.map V.str) (fun i H9 => ∃ (vs : List V) (prs : List (Str × Int)), vs.length = i ∧ H9 D8 = some (.lst vs) ∧ Paired (PairAt H9) vs prs ∧ (∀ x ∈ prs, Two x.1 ∧ -99 ≤ x.2 ∧ x.2 ≤ 99) ∧ Kp p H8 H9 ∧ Pen H9 p c (n + 75 + 4 * i) ∧ prs.map (·.1) = us.take i)
      ⟨[], [], rfl, upd_same, .nil, (fun t h => by cases h), Kp.new hD8, (hP8.new hD8), by rw [List.take_zero]; rfl⟩ (fun i H9 _ ⟨_, _, _, _, _, _, k, _⟩ => SqL.of (k _ _ (hP8.lst hS8) hS8)) (fun i u H9 hi hv => ?_) (fun H9 hv => ?_)⟩
    · obtain ⟨vs, prs, hvl, hL9, hPr, hOk, k9, hP9, hpu⟩ := hv
      have hil : i < us.length := by
        have := (List.getElem?_eq_some_iff.mp hi).1
        rw [List.length_map] at this
        exact this
      obtain ⟨t, hti, rfl⟩ : ∃ t, us[i]? = some t ∧ u = .str t := by
        rw [List.getElem?_map, List.getElem?_eq_getElem hil] at hi
        exact ⟨us[i], List.getElem?_eq_getElem hil, (Option.some.inj hi).symm⟩
      have ht := List.mem_of_getElem? hti
      refine ⟨rfl, _, rfl, _, rfl, p, c, _, rfl, hP9, by omega, fun i5 H10 i5a i5b k10 hP10 => ⟨1, rfl, szL (show 2 ≤ 1000000 by decide), fun d hd => ?_⟩⟩
      obtain ⟨i7, i7a, i7b, hat⟩ : ∃ i7 : Int, -99 ≤ i7 ∧ i7 ≤ 99 ∧ atI [V.int i5, .int (-1)] (if b = true then 1 else 0) = some (.int i7) := by
        cases b
        · exact ⟨i5, i5a, i5b, rfl⟩
        · exact ⟨-1, by decide, by decide, rfl⟩
      have nD := hP8.ne hD8
      have hL10 : H10 D8 = some (.lst vs) := k10 _ _ nD.1 hL9
      refine ⟨_, rfl, .inr ⟨_, rfl, d, _, _, _, rfl, rfl, SqL.of upd_same, hat, szL (show 2 ≤ 1000000 by decide), fun t1 ht1 => ?_⟩⟩
      have e1 : Ext H10 (upd (upd H10 d (.lst [V.int i5, .int (-1)])) t1 (.tup [.str t, .int i7])) := (Ext.new hd).trans (Ext.new ht1)
      have hL11 := e1 _ _ hL10
      have nDt : D8 ≠ t1 := by
        intro z
        rw [z, upd_same] at hL11
        cases hL11
      refine ⟨vs, hL11, szLt (by omega), vs ++ [.ref t1], prs ++ [(t, i7)], ?_, upd_same, ?_, fun x hx => ?_, ?_, ?_, ?_⟩
      · rw [List.length_append, List.length_singleton]
        omega
      · refine (paired_imp (fun _ _ => PairAt.mono _ _ _ _ (((TupK.of k10 hP9).trans (TupK.ext e1)).trans (TupK.lst hL11))) hPr).snoc ⟨t1, rfl, ?_⟩
        rw [upd_ne nDt.symm, upd_same]
      · rcases List.mem_append.mp hx with hx | hx
        · exact hOk x hx
        · rw [List.mem_singleton.mp hx]
          exact ⟨hut t ht, i7a, i7b⟩
      · exact ((k9.trans k10).trans (Kp.ext e1)).put hD8
      · exact ((hP10.ext e1).put nD.1 nD.2).mono (by omega)
      · rw [List.take_add_one, hti, List.map_append, hpu]
        rfl
    obtain ⟨vs, prs, hvl, hL9, hPr, hOk, k9, hP9, hpu⟩ := hv
    have hpn : (prs.map (·.1)).Nodup := by
      rw [hpu, List.take_of_length_le (by rw [List.length_map]; exact Nat.le_refl _)]
      exact hun
    rw [List.length_map] at hvl hP9
    refine ⟨D8, _, rfl, SqL.of hL9, fun tp oz htp hoz => ?_⟩
    have hTp : FrzOf PairAt (upd H9 tp (.frz oz (.tup vs))) (.ref tp) prs := ⟨tp, oz, vs, rfl, upd_same, hoz, paired_imp (fun _ _ => PairAt.mono _ _ _ _ (TupK.new htp)) hPr⟩
    have hprl : prs.length ≤ 12 := by
      rw [← paired_len hPr]
      omega
    have hP9' := (hP9.new (o := .frz oz (.tup vs)) htp).mono (show n + 75 + 4 * us.length ≤ n + 123 by omega)
    have kp9 : Kp p H (upd H9 tp (.frz oz (.tup vs))) := ((kp6.trans k8).trans k9).trans (Kp.new htp)
    have k89 : Kp p H8 (upd H9 tp (.frz oz (.tup vs))) := k9.trans (Kp.new htp)
    have hS9 := k89 _ _ (hP8.lst hS8) hS8
    -- loops
    refine ⟨9, rfl, by decide, by decide, fun D9 hD9 => lc_range (lo := 0) (n := 9) (fun i H10 => ∃ ns : List Int, ns.length = i ∧ (∀ x ∈ ns, -99 ≤ x ∧ x ≤ 99) ∧ H10 D9 = some (.lst (ns.map V.int)) ∧ Kp p (upd H9 tp (.frz oz (.tup vs))) H10 ∧ Pen H10 p c (n + 123 + 4 * i)) ⟨[], rfl, (fun x h => by cases h), upd_same, Kp.new hD9, hP9'.new hD9⟩ (fun i H10 hi hv => ?_) (fun H10 hv => ?_)⟩
    · obtain ⟨ns, hns, hnb, hL10, k10, hP10⟩ := hv
      have nD := hP9'.ne hD9
      refine ⟨rfl, _, rfl, p, c, _, rfl, hP10, by omega, fun i5 H11 i5a i5b k11 hP11 => ?_⟩
      refine ⟨_, k11 _ _ nD.1 hL10, szLt ?_, ns ++ [i5], ?_, fun x hx => ?_, ?_, (k10.trans k11).put hD9, (hP11.put nD.1 nD.2).mono (by omega)⟩
      · rw [List.length_map]
        omega
      · rw [List.length_append, List.length_singleton]
        omega
      · rcases List.mem_append.mp hx with hx | hx
        · exact hnb x hx
        · rw [List.mem_singleton.mp hx]
          exact ⟨i5a, i5b⟩
      · rw [upd_same, List.map_append]
        rfl
    obtain ⟨ns, hns, hnb, hL10, k10, hP10⟩ := hv
    refine ⟨D9, _, rfl, .inl ⟨SqL.of hL10, fun tl htl => ?_⟩⟩
    have hP10' := hP10.new (o := .tup (ns.map V.int)) htl
    have k910 := k10.trans (Kp.new (p := p) (o := .tup (ns.map V.int)) htl)
    refine ⟨_, rfl, p, c, 5, _, rfl, hP10', by omega, by decide, by decide, fun r11 H11 r11a r11b k11 hP11 => ⟨rfl, _, rfl, ite2 (fun e => ?_) (fun e => ?_)⟩⟩
    · refine ⟨szL (show 1 ≤ 1000000 by decide), fun t0 ht0 => ⟨t0, 9, _, rfl, rfl, SqT.of upd_same, (fun z => by cases z), by decide, by decide, (show 1 ≤ 1000 by decide), fun tl' htl' => ?_⟩⟩
      have ex : Ext H11 (upd (upd H11 t0 (.tup [.int 0])) tl' (.tup [.int 0, .int 0, .int 0, .int 0, .int 0, .int 0, .int 0, .int 0, .int 0])) := (Ext.new ht0).trans (Ext.new htl')
      have hV : TupOf IntAt (upd (upd H11 t0 (.tup [.int 0])) tl' (.tup [.int 0, .int 0, .int 0, .int 0, .int 0, .int 0, .int 0, .int 0, .int 0])) (.ref tl') [0, 0, 0, 0, 0, 0, 0, 0, 0] :=
        ⟨tl', _, rfl, upd_same, paired_ints [0, 0, 0, 0, 0, 0, 0, 0, 0]⟩
      have hls : [(0 : Int), 0, 0, 0, 0, 0, 0, 0, 0].length = 9 := rfl
      have hlb : ∀ x ∈ [(0 : Int), 0, 0, 0, 0, 0, 0, 0, 0], -99 ≤ x ∧ x ≤ 99 := by decide
      have kx := (k910.trans k11).trans (Kp.ext ex)
      have hPx := hP11.ext ex
      have hSx := kx _ _ (hP9'.lst hS9) hS9
      have hTx := FrzOf.mono PairAt.mono _ _ _ _ (TupK.of kx hP9') hTp
      refine fun st hst => ?_
      have hP12 := hPx.new (o := .dT []) hst
      have nst := hPx.ne hst
      have hS12 := Ext.new (o := .dT []) hst _ _ hSx
      refine ⟨_, rfl, p, c, 13, _, rfl, hP12, by omega, by decide, by decide, fun r13 H13 r13a r13b k13 hP13 => ?_⟩
      have hS13 := k13 _ _ (hP12.lst hS12) hS12
      have hD13 : H13 st = some (.dT []) := k13 _ _ nst.1 upd_same
      refine ⟨_, rfl, Nat.zero_le _, fun d13 hd13 => ?_⟩
      have hS13' := Ext.new (o := .lst []) hd13 _ _ hS13
      have hD13' := Ext.new (o := .lst []) hd13 _ _ hD13
      refine ⟨.list (us.map PyData.str), .list [], .lst (SqL.of hS13') (dpStrs us), .lst (SqL.of upd_same) .nil, (sm_strs (n := 36) (m := 2) hus (fun t ht => ⟨(hut t ht).2, Nat.le_of_eq (hut t ht).1⟩) (by decide)).shaped (by decide), by decide, .inr ⟨_, rfl, r13, _, rfl, rfl, .inl ⟨by omega, by omega⟩, ?_⟩⟩
      obtain ⟨cnt, hcnt, cnt0, cnt12, cntU⟩ : ∃ cnt : Int, cnt = r13 * (if (!PyData.eqv (.list (us.map PyData.str)) (.list [])) = true then 1 else 0) ∧ 0 ≤ cnt ∧ cnt ≤ 12 ∧ (0 < cnt → 0 < us.length) := by
        refine ⟨_, rfl, ?_⟩
        cases us with
        | nil =>
          have : (!PyData.eqv (.list (([] : List Str).map PyData.str)) (.list [])) = false := by simp [PyData.eqv, PyData.eqvAll]
          rw [this]
          simp
        | cons y z =>
          have : (!PyData.eqv (.list ((y :: z).map PyData.str)) (.list [])) = true := by simp [PyData.eqv, PyData.eqvAll]
          rw [this, if_pos rfl, Int.mul_one, List.length_cons]
          omega
      have k13' := ((Kp.new (p := p) hst).trans k13).trans (Kp.new (o := .lst []) hd13)
      refine ⟨cnt, congrArg (fun z => [V.int z]) hcnt.symm, by omega, by omega, for_range (lo := 0) (n := cnt.toNat) (fun i σ H14 => ∃ (y8 : Option V) (es : List (Str × Str × Int)), σ = [some (.ref p), some (.str sg), some (.ref le), y3, some (.int few), some (.ref so), some (.bl b), some (.ref tp), y8, some (.ref tl'), some (.ref st), none, none, none, none] ∧ H14 st = some (.dT (es.map encE)) ∧ es.length ≤ i ∧ (es.map fun x => (x.1, x.2.1)).Nodup ∧ (∀ x ∈ es, Two x.1 ∧ Two x.2.1 ∧ -99 ≤ x.2.2 ∧ x.2.2 ≤ 99) ∧ H14 so = some (.lst (us.map V.str)) ∧ Kp p (upd (upd H11 t0 (.tup [.int 0])) tl' (.tup [.int 0, .int 0, .int 0, .int 0, .int 0, .int 0, .int 0, .int 0, .int 0])) H14 ∧ Pen H14 p c (n + 161 + 6 * i))
        ⟨_, [], rfl, hD13', Nat.zero_le _, List.nodup_nil, (fun x h => by cases h), hS13', k13', (hP13.new hd13).mono (by omega)⟩ (fun i σ H14 hi hv => ?_) (fun σ H14 hv => ?_)⟩
      · obtain ⟨y8, es, rfl, hD14, hel, hnd, hok, hS14, k14, hP14⟩ := hv
        have hu0 : 0 < us.length := cntU (by omega)
        have hul : (us.map V.str).length = us.length := List.length_map ..
        refine ⟨_, rfl, p, c, _, rfl, hP14, by omega, fun w H15 wa wb k15 hP15 => ?_⟩
        have hS15 := k15 _ _ (hP14.lst hS14) hS14
        have hD15 := k15 _ _ nst.1 hD14
        refine ⟨_, rfl, _, rfl, _, rfl, p, c, .ref so, us.map V.str, _, rfl, .inl ⟨so, rfl, hS15⟩, by omega, by omega, hP15, by omega, fun x1 H16 hx1 k16 hP16 => ?_⟩
        have hS16 := k16 _ _ (hP15.lst hS15) hS15
        have hD16 := k16 _ _ nst.1 hD15
        refine ⟨_, rfl, _, rfl, p, c, .ref so, us.map V.str, _, rfl, .inl ⟨so, rfl, hS16⟩, by omega, by omega, hP16, by omega, fun x2 H17 hx2 k17 hP17 => ⟨szL (show 2 ≤ 1000000 by decide), fun t ht => ?_⟩⟩
        have hS17 := k17 _ _ (hP16.lst hS16) hS16
        have hD17 := k17 _ _ nst.1 hD16
        obtain ⟨t1, ht1, rfl⟩ := List.mem_map.mp hx1
        obtain ⟨t2, ht2, rfl⟩ := List.mem_map.mp hx2
        have hD18 := Ext.new (o := .tup [.str t1, .str t2]) ht _ _ hD17
        have hS18 := Ext.new (o := .tup [.str t1, .str t2]) ht _ _ hS17
        refine ⟨st, _, rfl, DPut.t (k := [.inr t1, .inr t2]) hD18 upd_same (szLt ?_), ?_⟩
        · rw [List.length_map]
          omega
        · rw [put_enc]
          refine ⟨_, putE es t1 t2 w, rfl, upd_same, ?_, putE_keys _ _ _ _ hnd, putE_all hok ⟨hut t1 ht1, hut t2 ht2, wa, wb⟩, ?_, ?_, ?_⟩
          · have := putE_len es t1 t2 w
            omega
          · rw [upd_ne (ne_of hS18 hD18 (by intro z; cases z))]
            exact hS18
          · exact ((((k14.trans k15).trans k16).trans k17).trans (Kp.new ht)).put hst
          · exact ((hP17.new ht).put nst.1 nst.2).mono (by omega)
      · obtain ⟨y8, es, rfl, hD14, hel, hnd, hok, hS14, k14, hP14⟩ := hv
        have hes12 : es.length ≤ 12 := by omega
        refine ⟨_, rfl, st, _, rfl, .inl hD14, fun lk bs hlk hkeys => ?_⟩
        obtain ⟨bes, hb1, hb2, hb3⟩ := keys_zip hkeys
        have ek := Ext.new (o := .lst (bs.map V.ref)) hlk
        refine ⟨_, fun x => V.ref x.1, fun x => .tuple [.str x.2.1, .str x.2.2.1], lk, bes, rfl, SqL.of (by rw [upd_same, ← hb1, List.map_map]; rfl), fun x hx => ⟨.tup (SqT.of (ek _ _ (hb3 x hx))) (.cons (.str _) (.cons (.str _) .nil)), by simp [PyData.depth, PyData.depthAll]⟩, ?_, .inl ?_, fun ls hls2 => ?_⟩
        · intro d1 h1 d2 h2
          obtain ⟨x1, _, rfl⟩ := List.mem_map.mp h1
          obtain ⟨x2, _, rfl⟩ := List.mem_map.mp h2
          simp [PySem.W.alike, PySem.W.alikeAll]
        · intro d1 h1
          obtain ⟨x1, _, rfl⟩ := List.mem_map.mp h1
          exact ⟨_, _, rfl⟩
        · obtain ⟨S, hS⟩ : ∃ S, S = bes.mergeSort (PySem.W.dataLe false fun x => PyData.tuple [.str x.2.1, .str x.2.2.1]) := ⟨_, rfl⟩
          rw [← hS]
          have hperm : S.Perm bes := hS ▸ List.mergeSort_perm _ _
          have hSl : S.length ≤ 12 := by
            rw [hperm.length_eq]
            have := congrArg List.length hb2
            rw [List.length_map] at this
            omega
          have e17 := ek.trans (Ext.new (o := .lst (S.map fun x => V.ref x.1)) hls2)
          refine ⟨ls, rfl, ⟨_, SqL.of upd_same⟩, fun D hD => lc_list (K := K) (xs := S.map fun x => V.ref x.1) (fun i H18 => ∃ (vs : List V) (stk : List (Str × Str × Int)), H18 D = some (.lst vs) ∧ Paired (StackAt H18) vs stk ∧ stk = (S.take i).map (·.2) ∧ Ext (upd (upd H14 lk (.lst (bs.map V.ref))) ls (.lst (S.map fun x => V.ref x.1))) H18)
            ⟨[], [], upd_same, .nil, rfl, Ext.new hD⟩ (fun i H18 _ ⟨_, _, _, _, _, k⟩ => SqL.of (k _ _ upd_same)) (fun i u H18 hi hv => ?_) (fun H18 hv => ?_)⟩
          · obtain ⟨vs, stk, hL18, hPr18, hstk, k18⟩ := hv
            rw [List.getElem?_map] at hi
            obtain ⟨x, hx, rfl⟩ : ∃ x, S[i]? = some x ∧ u = V.ref x.1 := by
              cases e : S[i]? with
              | none => rw [e] at hi; cases hi
              | some x => rw [e] at hi; exact ⟨x, rfl, (Option.some.inj hi).symm⟩
            have hxm : x ∈ bes := hperm.mem_iff.mp (List.mem_of_getElem? hx)
            have hxe : x.2 ∈ es := hb2 ▸ List.mem_map.mpr ⟨x, hxm, rfl⟩
            have hb18 := k18 _ _ (e17 _ _ (hb3 x hxm))
            have hD18 := k18 _ _ (e17 _ _ hD14)
            have hdg : DGet H18 st (.ref x.1) (some (.int x.2.2.2)) := val_enc hnd hxe ▸ DGet.t (k := [.inr x.2.1, .inr x.2.2.1]) hD18 hb18
            refine ⟨rfl, _, rfl, _, rfl, _, rfl, st, _, rfl, hdg, szL (show 1 ≤ 1000000 by decide), fun t1 ht1 => ?_⟩
            have e19 := Ext.new (o := .tup [.int x.2.2.2]) ht1
            refine ⟨x.1, t1, _, _, rfl, rfl, SqT.of (e19 _ _ hb18), SqT.of upd_same, (fun z => by cases z), szL (show 2 + 1 ≤ 1000000 by decide), (fun z => by cases z), fun _ t2 ht2 => ?_⟩
            have e20 := e19.trans (Ext.new (o := .tup [.str x.2.1, .str x.2.2.1, .int x.2.2.2]) ht2)
            have hL20 := e20 _ _ hL18
            have nDt : t2 ≠ D := by
              intro z
              rw [← z] at hL20
              rw [upd_same] at hL20
              cases hL20
            have hvl : vs.length ≤ 12 := by
              rw [paired_len hPr18, hstk, List.length_map, List.length_take]
              omega
            refine ⟨vs, hL20, szLt (by omega), vs ++ [.ref t2], stk ++ [x.2], upd_same, ?_, ?_, (k18.trans e20).put hD⟩
            · refine (paired_imp (fun _ _ => StackAt.mono _ _ _ _ ((TupK.ext e20).trans (TupK.lst hL20))) hPr18).snoc ⟨t2, rfl, ?_⟩
              rw [upd_ne nDt, upd_same]
            · rw [List.take_add_one, hx, List.map_append, hstk]
              rfl
          · obtain ⟨vs, stk, hL18, hPr18, hstk, k18⟩ := hv
            rw [List.length_map, List.take_of_length_le (Nat.le_refl _)] at hstk
            have hkeys2 : (stk.map fun x => (x.1, x.2.1)).Nodup := by
              rw [hstk, List.map_map]
              have : (S.map ((fun x : Str × Str × Int => (x.1, x.2.1)) ∘ fun x : Addr × Str × Str × Int => x.2)).Perm (es.map fun x => (x.1, x.2.1)) := by
                rw [← hb2, List.map_map]
                exact hperm.map _
              exact this.nodup_iff.mpr hnd
            have hstE : ∀ x ∈ stk, x ∈ es := fun x hx => by
              rw [hstk] at hx
              obtain ⟨y, hy, rfl⟩ := List.mem_map.mp hx
              exact hb2 ▸ List.mem_map.mpr ⟨y, hperm.mem_iff.mp hy, rfl⟩
            have hst12 : stk.length ≤ 12 := by
              rw [hstk, List.length_map]
              exact hSl
            refine ⟨D, _, rfl, .inl ⟨SqL.of hL18, fun tr htr => ?_⟩⟩
            have e21 := (e17.trans k18).trans (Ext.new (o := .tup vs) htr)
            have hTr : TupOf StackAt (upd H18 tr (.tup vs)) (.ref tr) stk := ⟨tr, vs, rfl, upd_same, paired_imp (fun _ _ => StackAt.mono _ _ _ _ (TupK.new htr)) hPr18⟩
            have hP21 := hP14.ext e21
            refine ⟨_, rfl, _, rfl, szL (show 5 ≤ 1000000 by decide), fun d22 hd22 => ⟨_, rfl, p, c, 5, _, rfl, hP21.new hd22, by omega, by decide, by decide, fun r23 H23 r23a r23b k23 hP23 => ?_⟩⟩
            obtain ⟨z, hz, hat⟩ := atI_ints (ns := [0, 0, 1, 2, 3]) r23a r23b
            have hz2 : 0 ≤ z ∧ z ≤ 3 := by
              simp only [List.mem_cons, List.not_mem_nil, or_false] at hz
              omega
            have k22 := (Kp.new (p := p) (o := .lst [.int 0, .int 0, .int 1, .int 2, .int 3]) hd22).trans k23
            refine ⟨d22, _, r23, _, rfl, rfl, SqL.of (k23 _ _ (hP21.ne hd22).1 upd_same), hat, _, rfl, _, rfl, szL (show 5 ≤ 1000000 by decide), fun tR htR => ?_⟩
            have kR := k22.trans (Kp.new (p := p) (o := .tup [.str sg, .ref tp, .int z, .ref tl', .ref tr]) htR)
            have kxR := (k14.trans (Kp.ext e21)).trans kR
            exact q _ ⟨sg, prs, z, _, stk⟩ _ ⟨tR, .ref tp, .ref tl', .ref tr, rfl, upd_same, FrzOf.mono PairAt.mono _ _ _ _ (TupK.of kxR hPx) hTx, TupOf.mono IntAt.mono _ _ _ _ (TupK.of kxR hPx) hV, TupOf.mono StackAt.mono _ _ _ _ (TupK.of kR hP21) hTr⟩
              ⟨hs6, hs1, hsm, hprl, hOk, hz2.1, hz2.2, hls, hlb, hst12, fun x hx => hok x (hstE x hx), hkeys2, hpn⟩ ((kp9.trans kx).trans kxR) ((hP23.new htR).mono (by omega))
    · have hV : TupOf IntAt H11 (.ref tl) ns := ⟨tl, ns.map V.int, rfl, k11 _ _ (hP10.ne htl).1 upd_same, paired_ints ns⟩
      have hls : ns.length = 9 := hns
      have hlb := hnb
      have kx := k910.trans k11
      have hPx := hP11
      have hSx := kx _ _ (hP9'.lst hS9) hS9
      have hTx := FrzOf.mono PairAt.mono _ _ _ _ (TupK.of kx hP9') hTp
      refine fun st hst => ?_
      have hP12 := hPx.new (o := .dT []) hst
      have nst := hPx.ne hst
      have hS12 := Ext.new (o := .dT []) hst _ _ hSx
      refine ⟨_, rfl, p, c, 13, _, rfl, hP12, by omega, by decide, by decide, fun r13 H13 r13a r13b k13 hP13 => ?_⟩
      have hS13 := k13 _ _ (hP12.lst hS12) hS12
      have hD13 : H13 st = some (.dT []) := k13 _ _ nst.1 upd_same
      refine ⟨_, rfl, Nat.zero_le _, fun d13 hd13 => ?_⟩
      have hS13' := Ext.new (o := .lst []) hd13 _ _ hS13
      have hD13' := Ext.new (o := .lst []) hd13 _ _ hD13
      refine ⟨.list (us.map PyData.str), .list [], .lst (SqL.of hS13') (dpStrs us), .lst (SqL.of upd_same) .nil, (sm_strs (n := 36) (m := 2) hus (fun t ht => ⟨(hut t ht).2, Nat.le_of_eq (hut t ht).1⟩) (by decide)).shaped (by decide), by decide, .inr ⟨_, rfl, r13, _, rfl, rfl, .inl ⟨by omega, by omega⟩, ?_⟩⟩
      obtain ⟨cnt, hcnt, cnt0, cnt12, cntU⟩ : ∃ cnt : Int, cnt = r13 * (if (!PyData.eqv (.list (us.map PyData.str)) (.list [])) = true then 1 else 0) ∧ 0 ≤ cnt ∧ cnt ≤ 12 ∧ (0 < cnt → 0 < us.length) := by
        refine ⟨_, rfl, ?_⟩
        cases us with
        | nil =>
          have : (!PyData.eqv (.list (([] : List Str).map PyData.str)) (.list [])) = false := by simp [PyData.eqv, PyData.eqvAll]
          rw [this]
          simp
        | cons y z =>
          have : (!PyData.eqv (.list ((y :: z).map PyData.str)) (.list [])) = true := by simp [PyData.eqv, PyData.eqvAll]
          rw [this, if_pos rfl, Int.mul_one, List.length_cons]
          omega
      have k13' := ((Kp.new (p := p) hst).trans k13).trans (Kp.new (o := .lst []) hd13)
      refine ⟨cnt, congrArg (fun z => [V.int z]) hcnt.symm, by omega, by omega, for_range (lo := 0) (n := cnt.toNat) (fun i σ H14 => ∃ (y8 : Option V) (es : List (Str × Str × Int)), σ = [some (.ref p), some (.str sg), some (.ref le), y3, some (.int few), some (.ref so), some (.bl b), some (.ref tp), y8, some (.ref tl), some (.ref st), none, none, none, none] ∧ H14 st = some (.dT (es.map encE)) ∧ es.length ≤ i ∧ (es.map fun x => (x.1, x.2.1)).Nodup ∧ (∀ x ∈ es, Two x.1 ∧ Two x.2.1 ∧ -99 ≤ x.2.2 ∧ x.2.2 ≤ 99) ∧ H14 so = some (.lst (us.map V.str)) ∧ Kp p H11 H14 ∧ Pen H14 p c (n + 161 + 6 * i))
        ⟨_, [], rfl, hD13', Nat.zero_le _, List.nodup_nil, (fun x h => by cases h), hS13', k13', (hP13.new hd13).mono (by omega)⟩ (fun i σ H14 hi hv => ?_) (fun σ H14 hv => ?_)⟩
      · obtain ⟨y8, es, rfl, hD14, hel, hnd, hok, hS14, k14, hP14⟩ := hv
        have hu0 : 0 < us.length := cntU (by omega)
        have hul : (us.map V.str).length = us.length := List.length_map ..
        refine ⟨_, rfl, p, c, _, rfl, hP14, by omega, fun w H15 wa wb k15 hP15 => ?_⟩
        have hS15 := k15 _ _ (hP14.lst hS14) hS14
        have hD15 := k15 _ _ nst.1 hD14
        refine ⟨_, rfl, _, rfl, _, rfl, p, c, .ref so, us.map V.str, _, rfl, .inl ⟨so, rfl, hS15⟩, by omega, by omega, hP15, by omega, fun x1 H16 hx1 k16 hP16 => ?_⟩
        have hS16 := k16 _ _ (hP15.lst hS15) hS15
        have hD16 := k16 _ _ nst.1 hD15
        refine ⟨_, rfl, _, rfl, p, c, .ref so, us.map V.str, _, rfl, .inl ⟨so, rfl, hS16⟩, by omega, by omega, hP16, by omega, fun x2 H17 hx2 k17 hP17 => ⟨szL (show 2 ≤ 1000000 by decide), fun t ht => ?_⟩⟩
        have hS17 := k17 _ _ (hP16.lst hS16) hS16
        have hD17 := k17 _ _ nst.1 hD16
        obtain ⟨t1, ht1, rfl⟩ := List.mem_map.mp hx1
        obtain ⟨t2, ht2, rfl⟩ := List.mem_map.mp hx2
        have hD18 := Ext.new (o := .tup [.str t1, .str t2]) ht _ _ hD17
        have hS18 := Ext.new (o := .tup [.str t1, .str t2]) ht _ _ hS17
        refine ⟨st, _, rfl, DPut.t (k := [.inr t1, .inr t2]) hD18 upd_same (szLt ?_), ?_⟩
        · rw [List.length_map]
          omega
        · rw [put_enc]
          refine ⟨_, putE es t1 t2 w, rfl, upd_same, ?_, putE_keys _ _ _ _ hnd, putE_all hok ⟨hut t1 ht1, hut t2 ht2, wa, wb⟩, ?_, ?_, ?_⟩
          · have := putE_len es t1 t2 w
            omega
          · rw [upd_ne (ne_of hS18 hD18 (by intro z; cases z))]
            exact hS18
          · exact ((((k14.trans k15).trans k16).trans k17).trans (Kp.new ht)).put hst
          · exact ((hP17.new ht).put nst.1 nst.2).mono (by omega)
      · obtain ⟨y8, es, rfl, hD14, hel, hnd, hok, hS14, k14, hP14⟩ := hv
        have hes12 : es.length ≤ 12 := by omega
        refine ⟨_, rfl, st, _, rfl, .inl hD14, fun lk bs hlk hkeys => ?_⟩
        obtain ⟨bes, hb1, hb2, hb3⟩ := keys_zip hkeys
        have ek := Ext.new (o := .lst (bs.map V.ref)) hlk
        refine ⟨_, fun x => V.ref x.1, fun x => .tuple [.str x.2.1, .str x.2.2.1], lk, bes, rfl, SqL.of (by rw [upd_same, ← hb1, List.map_map]; rfl), fun x hx => ⟨.tup (SqT.of (ek _ _ (hb3 x hx))) (.cons (.str _) (.cons (.str _) .nil)), by simp [PyData.depth, PyData.depthAll]⟩, ?_, .inl ?_, fun ls hls2 => ?_⟩
        · intro d1 h1 d2 h2
          obtain ⟨x1, _, rfl⟩ := List.mem_map.mp h1
          obtain ⟨x2, _, rfl⟩ := List.mem_map.mp h2
          simp [PySem.W.alike, PySem.W.alikeAll]
        · intro d1 h1
          obtain ⟨x1, _, rfl⟩ := List.mem_map.mp h1
          exact ⟨_, _, rfl⟩
        · obtain ⟨S, hS⟩ : ∃ S, S = bes.mergeSort (PySem.W.dataLe false fun x => PyData.tuple [.str x.2.1, .str x.2.2.1]) := ⟨_, rfl⟩
          rw [← hS]
          have hperm : S.Perm bes := hS ▸ List.mergeSort_perm _ _
          have hSl : S.length ≤ 12 := by
            rw [hperm.length_eq]
            have := congrArg List.length hb2
            rw [List.length_map] at this
            omega
          have e17 := ek.trans (Ext.new (o := .lst (S.map fun x => V.ref x.1)) hls2)
          refine ⟨ls, rfl, ⟨_, SqL.of upd_same⟩, fun D hD => lc_list (K := K) (xs := S.map fun x => V.ref x.1) (fun i H18 => ∃ (vs : List V) (stk : List (Str × Str × Int)), H18 D = some (.lst vs) ∧ Paired (StackAt H18) vs stk ∧ stk = (S.take i).map (·.2) ∧ Ext (upd (upd H14 lk (.lst (bs.map V.ref))) ls (.lst (S.map fun x => V.ref x.1))) H18)
            ⟨[], [], upd_same, .nil, rfl, Ext.new hD⟩ (fun i H18 _ ⟨_, _, _, _, _, k⟩ => SqL.of (k _ _ upd_same)) (fun i u H18 hi hv => ?_) (fun H18 hv => ?_)⟩
          · obtain ⟨vs, stk, hL18, hPr18, hstk, k18⟩ := hv
            rw [List.getElem?_map] at hi
            obtain ⟨x, hx, rfl⟩ : ∃ x, S[i]? = some x ∧ u = V.ref x.1 := by
              cases e : S[i]? with
              | none => rw [e] at hi; cases hi
              | some x => rw [e] at hi; exact ⟨x, rfl, (Option.some.inj hi).symm⟩
            have hxm : x ∈ bes := hperm.mem_iff.mp (List.mem_of_getElem? hx)
            have hxe : x.2 ∈ es := hb2 ▸ List.mem_map.mpr ⟨x, hxm, rfl⟩
            have hb18 := k18 _ _ (e17 _ _ (hb3 x hxm))
            have hD18 := k18 _ _ (e17 _ _ hD14)
            have hdg : DGet H18 st (.ref x.1) (some (.int x.2.2.2)) := val_enc hnd hxe ▸ DGet.t (k := [.inr x.2.1, .inr x.2.2.1]) hD18 hb18
            refine ⟨rfl, _, rfl, _, rfl, _, rfl, st, _, rfl, hdg, szL (show 1 ≤ 1000000 by decide), fun t1 ht1 => ?_⟩
            have e19 := Ext.new (o := .tup [.int x.2.2.2]) ht1
            refine ⟨x.1, t1, _, _, rfl, rfl, SqT.of (e19 _ _ hb18), SqT.of upd_same, (fun z => by cases z), szL (show 2 + 1 ≤ 1000000 by decide), (fun z => by cases z), fun _ t2 ht2 => ?_⟩
            have e20 := e19.trans (Ext.new (o := .tup [.str x.2.1, .str x.2.2.1, .int x.2.2.2]) ht2)
            have hL20 := e20 _ _ hL18
            have nDt : t2 ≠ D := by
              intro z
              rw [← z] at hL20
              rw [upd_same] at hL20
              cases hL20
            have hvl : vs.length ≤ 12 := by
              rw [paired_len hPr18, hstk, List.length_map, List.length_take]
              omega
            refine ⟨vs, hL20, szLt (by omega), vs ++ [.ref t2], stk ++ [x.2], upd_same, ?_, ?_, (k18.trans e20).put hD⟩
            · refine (paired_imp (fun _ _ => StackAt.mono _ _ _ _ ((TupK.ext e20).trans (TupK.lst hL20))) hPr18).snoc ⟨t2, rfl, ?_⟩
              rw [upd_ne nDt, upd_same]
            · rw [List.take_add_one, hx, List.map_append, hstk]
              rfl
          · obtain ⟨vs, stk, hL18, hPr18, hstk, k18⟩ := hv
            rw [List.length_map, List.take_of_length_le (Nat.le_refl _)] at hstk
            have hkeys2 : (stk.map fun x => (x.1, x.2.1)).Nodup := by
              rw [hstk, List.map_map]
              have : (S.map ((fun x : Str × Str × Int => (x.1, x.2.1)) ∘ fun x : Addr × Str × Str × Int => x.2)).Perm (es.map fun x => (x.1, x.2.1)) := by
                rw [← hb2, List.map_map]
                exact hperm.map _
              exact this.nodup_iff.mpr hnd
            have hstE : ∀ x ∈ stk, x ∈ es := fun x hx => by
              rw [hstk] at hx
              obtain ⟨y, hy, rfl⟩ := List.mem_map.mp hx
              exact hb2 ▸ List.mem_map.mpr ⟨y, hperm.mem_iff.mp hy, rfl⟩
            have hst12 : stk.length ≤ 12 := by
              rw [hstk, List.length_map]
              exact hSl
            refine ⟨D, _, rfl, .inl ⟨SqL.of hL18, fun tr htr => ?_⟩⟩
            have e21 := (e17.trans k18).trans (Ext.new (o := .tup vs) htr)
            have hTr : TupOf StackAt (upd H18 tr (.tup vs)) (.ref tr) stk := ⟨tr, vs, rfl, upd_same, paired_imp (fun _ _ => StackAt.mono _ _ _ _ (TupK.new htr)) hPr18⟩
            have hP21 := hP14.ext e21
            refine ⟨_, rfl, _, rfl, szL (show 5 ≤ 1000000 by decide), fun d22 hd22 => ⟨_, rfl, p, c, 5, _, rfl, hP21.new hd22, by omega, by decide, by decide, fun r23 H23 r23a r23b k23 hP23 => ?_⟩⟩
            obtain ⟨z, hz, hat⟩ := atI_ints (ns := [0, 0, 1, 2, 3]) r23a r23b
            have hz2 : 0 ≤ z ∧ z ≤ 3 := by
              simp only [List.mem_cons, List.not_mem_nil, or_false] at hz
              omega
            have k22 := (Kp.new (p := p) (o := .lst [.int 0, .int 0, .int 1, .int 2, .int 3]) hd22).trans k23
            refine ⟨d22, _, r23, _, rfl, rfl, SqL.of (k23 _ _ (hP21.ne hd22).1 upd_same), hat, _, rfl, _, rfl, szL (show 5 ≤ 1000000 by decide), fun tR htR => ?_⟩
            have kR := k22.trans (Kp.new (p := p) (o := .tup [.str sg, .ref tp, .int z, .ref tl, .ref tr]) htR)
            have kxR := (k14.trans (Kp.ext e21)).trans kR
            exact q _ ⟨sg, prs, z, _, stk⟩ _ ⟨tR, .ref tp, .ref tl, .ref tr, rfl, upd_same, FrzOf.mono PairAt.mono _ _ _ _ (TupK.of kxR hPx) hTx, TupOf.mono IntAt.mono _ _ _ _ (TupK.of kxR hPx) hV, TupOf.mono StackAt.mono _ _ _ _ (TupK.of kR hP21) hTr⟩
              ⟨hs6, hs1, hsm, hprl, hOk, hz2.1, hz2.2, hls, hlb, hst12, fun x hx => hok x (hstE x hx), hkeys2, hpn⟩ ((kp9.trans kx).trans kxR) ((hP23.new htR).mono (by omega))
end
end Pf


namespace Pf
open PySem PySem.Spec PyProof.Rows L2
theorem sum_len_le {m : Nat} : ∀ {ys : List Str}, (∀ y ∈ ys, y.length ≤ m) → (ys.map (·.length)).sum ≤ ys.length * m
  | [], _ => Nat.zero_le _
  | y :: r, h => by
    have h1 := h y (List.mem_cons_self ..)
    have h2 := sum_len_le (ys := r) fun x hx => h x (List.mem_cons_of_mem _ hx)
    rw [List.map_cons, List.sum_cons, List.length_cons, Nat.succ_mul]
    omega
theorem fits_join {ys : List Str} {k m : Nat} (hk : ys.length ≤ k) (h : ∀ y ∈ ys, y.length ≤ m) (hm : k * m ≤ 1000000) : (ys.map (·.length)).sum + ys.length * ("" : Str).length ≤ 16777216 := by
  have h1 := sum_len_le h
  have h2 : ys.length * m ≤ k * m := Nat.mul_le_mul_right m hk
  have h3 : ("" : Str).length = 0 := by decide +kernel
  rw [h3, Nat.mul_zero]
  omega
theorem paired_mem {α β : Type} {R : α → β → Prop} : ∀ {xs : List α} {ys : List β} {x : α}, Paired R xs ys → x ∈ xs → ∃ y, y ∈ ys ∧ R x y
  | _, _, _, .nil, h => by cases h
  | _, _, _, .cons r t, h => by
    rcases List.mem_cons.mp h with rfl | h
    · exact ⟨_, List.mem_cons_self .., r⟩
    · obtain ⟨y, hy, q⟩ := paired_mem t h
      exact ⟨y, List.mem_cons_of_mem _ hy, q⟩
def dPr (x : Str × Int) : PyData := .tuple [.str x.1, .int x.2]
theorem dpPairs {K : PySem.W.Frag} {H : Hp} : ∀ {vs : List V} {prs : List (Str × Int)}, Paired (PairAt H) vs prs → DpAll K H vs (prs.map dPr)
  | _, _, .nil => .nil
  | _, _, .cons ⟨_, e, h⟩ t => .cons (e ▸ .tup (SqT.of h) (.cons (.str _) (.cons (.int _) .nil))) (dpPairs t)
theorem sm_prs {prs : List (Str × Int)} (hn : prs.length ≤ 12) (h : ∀ x ∈ prs, Two x.1 ∧ -99 ≤ x.2 ∧ x.2 ≤ 99) : Sm 2000 2 (.tuple (prs.map dPr)) := by
  refine Sm.tup (n := 12) (m := 130) (k := 1) (by rw [List.length_map]; exact hn) (fun d hd => ?_) (by decide)
  obtain ⟨x, hx, rfl⟩ := List.mem_map.mp hd
  have h1 := h x hx
  refine Sm.tup (n := 2) (m := 64) (k := 0) (Nat.le_refl _) (fun d hd => ?_) (by decide)
  simp only [List.mem_cons, List.not_mem_nil, or_false] at hd
  rcases hd with rfl | rfl
  · exact (Sm.str h1.1.2.ok (Nat.le_refl _)).le (by rw [h1.1.1]; decide) (Nat.le_refl _)
  · exact Sm.int (by omega) (by omega)
def sgn (x : Str) (i : Int) : Str := ⟨#[x.cps.toList.getD i.toNat 0]⟩
theorem sgn_at {x : Str} {i : Int} (h0 : 0 ≤ i) (h1 : i < x.length) : atI x.cps.toList i = some (x.cps.toList.getD i.toNat 0) := by
  have h2 : i < x.cps.toList.length := by
    rw [Array.length_toList]
    exact h1
  rw [atI_get h0 h2, List.getD_eq_getElem?_getD, List.getElem?_eq_getElem (by omega)]
  rfl
theorem ixN_at {n : Nat} {i : Int} (h0 : 0 ≤ i) (h1 : i < n) : ixN n i = some i.toNat := by
  unfold ixN
  rw [if_pos h0, if_pos h1]
theorem flat_strs : ∀ ts : List Str, (ts.map V.str).all flatV = true
  | [] => rfl
  | _ :: r => by
    rw [List.map_cons, List.all_cons, flat_strs r]
    rfl
def One (t : Str) : Prop := t.length = 1 ∧ Small t
theorem set_one {ys : List Str} {j : Nat} {t : Str} (h : ∀ y ∈ ys, One y) (ht : One t) : ∀ y ∈ ys.set j t, One y := fun y hy => by
  rcases List.mem_or_eq_of_mem_set hy with h1 | rfl
  · exact h y h1
  · exact ht
section
variable {P : Program} {w : World} {K : PySem.W.Frag} {mg : Str → Option Value} {base : Heap}
abbrev s_law_word : Stmt := topS 28
theorem sc_law_word : FnScope ["_law_pen_here", "_law_code_here", "_law_most", "_law_size", "_law_k", "_law_found", "_law_both"] ["_law_pen_here", "_law_code_here", "_law_most"] (defScope s_law_word) :=
  ⟨rfl, rfl, rfl, by decide +kernel, rfl, by decide +kernel, by decide +kernel⟩
def spWord : Sp := fun vs H Q _ => ∃ (p c : Addr) (v : V) (r : Rl) (m : Int) (n : Nat), vs = [.ref p, v, .int m] ∧ RulesAt H v r ∧ RlOk r ∧ 0 ≤ m ∧ m ≤ 20 ∧ Pen H p c n ∧ n + 60 < 1000000 ∧
  ∀ (x : Str) H', (x.length : Int) ≤ m → Small x → Kp p H H' → Pen H' p c (n + 60) → Q (.str x) H'
theorem ok_word {f : Addr} {fd : FuncData} (F : Fun K "_law_word" "_law_word" s_law_word f fd) (c_law_take : CTake P w K mg base) (c_law_pick : CPick P w K mg base) (mrange : mg "range" = none) : FnOk P w K mg base CX0 3 f fd ["_law_pen_here", "_law_code_here", "_law_most"] spWord := by
  refine F.ok sc_law_word (fun vs H Q E h => ?_) (fun cdv A outer s H vs Q E hr h => ?_)
  · obtain ⟨p, c, v, r, m, n, rfl, _⟩ := h
    rfl
  · obtain ⟨p, c, v, r, m, n, rfl, ⟨a, vp, vl, vs, rfl, hA, ⟨ap, oz, us, rfl, hp, hoz, hR⟩, hl, hs⟩, ok, m0, m1, hP, hn, q⟩ := h
    refine ⟨_, (pss_cons (ps_set (i := 3) sc_law_word.nd rfl (.inl rfl) (pe_ix (ixL K) (pe_lst (pa_cons (pv 2) (pa_cons (pv 2) (pa_cons (pe_ca c_law_take (hr.mono (by decide)) (by rfl) (pa_cons (pv 0) (pa_cons (pe_op op_add (pv 2) pe_int) pa_nil))) pa_nil)))) (pe_ca c_law_take (hr.mono (by decide)) (by rfl) (pa_cons (pv 0) (pa_cons pe_int pa_nil))) (fun _ _ => rfl)))
      (pss_cons (ps_setLc (i := 5) (own := [("_law_k", 4)]) (g := gName 4) (by rfl) sc_law_word.nd rfl rfl (sw_true rfl rfl rfl (by decide +kernel)) (pi_range1 (by rfl) mrange (pa_cons (pv 3) pa_nil)) (blkOk_by (own := [("_law_k", 4)]) (N := ["_law_pen_here", "_law_code_here", "_law_most", "_law_size", "_law_k", "_law_found", "_law_both"]) (sc := defScope s_law_word) (by decide +kernel)) (fun _ _ _ _ _ => (pg_name (i := 4) sc_law_word.nd rfl (.inl rfl))) (fun _ _ _ _ _ => pts_nil) (fun _ _ _ _ _ => (pe_ca c_law_pick (hr.mono (by decide)) (by rfl) (pa_cons (pv 0) (pa_cons (pe_ix (ixT K) (pv 1) pe_int (fun _ _ => rfl)) pa_nil)))))
      (pss_cons (ps_if (PW.pt (pw_and (pt_cmpR (neD K hr.units) (pe_ix (ixT K) (pv 1) pe_int (fun _ _ => rfl)) (pe_tup pa_nil) (nomark _)) (pw_and1 (pt_cmpR op_eq (pe_ca c_law_take (hr.mono (by decide)) (by rfl) (pa_cons (pv 0) (pa_cons pe_int pa_nil))) pe_int (nomark _))))) (pss_one (ps_for PassesOwn.never rfl (pi_range1 (by rfl) mrange (pa_cons (pe_op op_fdiv (pv 3) pe_int) pa_nil)) (pg_name (i := 4) sc_law_word.nd rfl (.inl rfl)) (pss_cons (ps_set (i := 6) sc_law_word.nd rfl (.inl rfl) (pe_ix (ixT K) (pe_ca c_law_pick (hr.mono (by decide)) (by rfl) (pa_cons (pv 0) (pa_cons (pe_ix (ixT K) (pv 1) pe_int (fun _ _ => rfl)) pa_nil))) pe_int (fun _ _ => rfl)))
      (pss_cons (ps_asg (pe_ix ix_str (pv 6) pe_int (fun _ _ => rfl)) (pg_sub (pv 5) (pv 4) set_list))
      (pss_one (ps_asg (pe_ix ix_str (pv 6) pe_int (fun _ _ => rfl)) (pg_sub (pv 5) (pe_op op_sub (pe_op op_sub (pv 3) pe_int) (pv 4)) set_list))))))) pss_nil)
      (pss_one (ps_ret (pe_join pe_str (pv 5))))))), ?_⟩
    have hlen := paired_len hR
    have hpl := ok.prs
    have hl6 := ok.let6
    have hl1 := ok.let1
    refine ⟨_, rfl, _, rfl, _, rfl, _, rfl, m, 1, rfl, rfl, p, c, m + 1, n, rfl, hP, by omega, by omega, by omega, fun r1 H1 r1a r1b k1 hP1 => ⟨szL (show 3 ≤ 1000000 by decide), fun d hd => ?_⟩⟩
    refine ⟨_, rfl, p, c, 3, _, rfl, hP1.new hd, by omega, by decide, by decide, fun r3 H3 r3a r3b k3 hP3 => ?_⟩
    have hLd : H3 d = some (.lst ([m, m, r1].map V.int)) := k3 _ _ (hP1.ne hd).1 upd_same
    obtain ⟨sz, hsz, hat⟩ := atI_ints (ns := [m, m, r1]) r3a r3b
    have hsz2 : 0 ≤ sz ∧ sz ≤ m := by
      simp only [List.mem_cons, List.not_mem_nil, or_false] at hsz
      omega
    refine ⟨d, _, r3, _, rfl, rfl, SqL.of hLd, hat, ?_⟩
    have kp3 : Kp p H H3 := (k1.trans (Kp.new hd)).trans k3
    have hA3 := kp3 _ _ (hP.tup hA) hA
    have hp3 := kp3 _ _ (hP.frz hp) hp
    have hR3 := paired_imp (fun _ _ => PairAt.mono _ _ _ _ (TupK.of kp3 hP)) hR
    -- found
    refine ⟨_, rfl, sz, rfl, by omega, by omega, fun D hD => lc_range (lo := 0) (n := sz.toNat) (fun i H4 => ∃ ys : List Str, ys.length = i ∧ (∀ y ∈ ys, One y) ∧ H4 D = some (.lst (ys.map V.str)) ∧ Kp p H3 H4 ∧ Pen H4 p c (n + 2 + i)) ⟨[], rfl, (fun y h => by cases h), upd_same, Kp.new hD, hP3.new hD⟩ (fun i H4 hi hv => ?_) (fun H4 hv => ?_)⟩
    · obtain ⟨ys, hyl, hyo, hL4, k4, hP4⟩ := hv
      have hxl : (r.letters.cps.toList.map fun c => V.str ⟨#[c]⟩).length = r.letters.length := by
        rw [List.length_map, Array.length_toList]
        rfl
      refine ⟨rfl, _, rfl, _, rfl, a, _, 0, _, rfl, rfl, SqT.of (k4 _ _ (hP3.tup hA3) hA3), rfl, p, c, .str r.letters, _, _, rfl, .inr (.inr ⟨r.letters, rfl, rfl⟩), by omega, by omega, hP4, by omega, fun x H5 hx k5 hP5 => ?_⟩
      obtain ⟨ch, hch, rfl⟩ := List.mem_map.mp hx
      have nD := hP3.ne hD
      refine ⟨_, k5 _ _ nD.1 hL4, szLt ?_, ys ++ [⟨#[ch]⟩], ?_, fun y hy => ?_, ?_, (k4.trans k5).put hD, (hP5.put nD.1 nD.2)⟩
      · rw [List.length_map]
        omega
      · rw [List.length_append, List.length_singleton]
        omega
      · rcases List.mem_append.mp hy with hy | hy
        · exact hyo y hy
        · rw [List.mem_singleton.mp hy]
          exact ⟨rfl, Small.one (ok.small ch hch)⟩
      · rw [upd_same, List.map_append]
        rfl
    obtain ⟨ys, hyl, hyo, hL4, k4, hP4⟩ := hv
    have nD := hP3.ne hD
    have hA4 := k4 _ _ (hP3.tup hA3) hA3
    have hp4 := k4 _ _ (hP3.frz hp3) hp3
    have hR4 := paired_imp (fun _ _ => PairAt.mono _ _ _ _ (TupK.of k4 hP3)) hR3
    have hDn : H3 D = none := hD
    have fin : ∀ (zs : List Str) (H9 : Hp), zs.length = sz.toNat → (∀ y ∈ zs, One y) → Kp p H3 H9 → Pen H9 p c (n + 60) → Q (.str (Txt.join "" zs)) H9 := fun zs H9 hzl hzo k9 hP9 => by
      have hj2 := join_le (m := 1) fun y hy => Nat.le_of_eq (hzo y hy).1
      exact q _ _ (by omega) (join_small fun y hy => (hzo y hy).2) (kp3.trans k9) hP9
    -- if code[1] != () and take(2) == 0
    refine ⟨_, rfl, a, _, 1, _, rfl, rfl, SqT.of hA4, rfl, Nat.zero_le _, fun t0 ht0 => ?_⟩
    have e5 := Ext.new (o := .tup []) ht0
    refine ⟨.tuple (r.prs.map dPr), .tuple [], .tup (SqT.fz (e5 _ _ hp4)) (dpPairs (paired_imp (fun _ _ => PairAt.mono _ _ _ _ (TupK.ext e5)) hR4)), .tup (SqT.of upd_same) .nil, (sm_prs ok.prs ok.pr).shaped (by decide), by decide, _, rfl, ite2 (fun e => ?_) (fun e => ?_)⟩
    · have hp0 : 0 < us.length := by
        rw [hlen]
        cases hh : r.prs with
        | nil =>
          rw [hh] at e
          simp [PyData.eqv, PyData.eqvAll] at e
        | cons y z =>
          rw [List.length_cons]
          omega
      have hP5 := hP4.ext e5
      refine ⟨_, rfl, p, c, 2, _, rfl, hP5, by omega, by decide, by decide, fun r6 H6 r6a r6b k6 hP6 => ⟨rfl, _, rfl, ite2 (fun e2 => ?_) (fun e2 => ?_)⟩⟩
      · have k46 := (Kp.ext (p := p) e5).trans k6
        have hL6 := k46 _ _ nD.1 hL4
        have hA6 := k46 _ _ (hP4.tup hA4) hA4
        have hp6 := k46 _ _ (hP4.frz hp4) hp4
        have hR6 := paired_imp (fun _ _ => PairAt.mono _ _ _ _ (TupK.of k46 hP4)) hR4
        refine ⟨_, rfl, sz, 2, rfl, rfl, ⟨by decide, by decide⟩, sz / 2, rfl, by omega, by omega, for_range (lo := 0) (n := (sz / 2).toNat) (fun i σ H7 => ∃ (y4 y6 : Option V) (zs : List Str), σ = [some (.ref p), some (.ref a), some (.int m), some (.int sz), y4, some (.ref D), y6] ∧ zs.length = sz.toNat ∧ (∀ y ∈ zs, One y) ∧ H7 D = some (.lst (zs.map V.str)) ∧ TupK H6 H7 ∧ Kp p H3 H7 ∧ Pen H7 p c (n + 24 + i))
          ⟨_, _, ys, rfl, hyl, hyo, hL6, TupK.refl, k4.trans k46, hP6.mono (by omega)⟩ (fun i σ H7 hi hv => ?_) (fun σ H7 hv => ?_)⟩
        · obtain ⟨y4, y6, zs, rfl, hzl, hzo, hL7, k7, k37, hP7⟩ := hv
          have hA7 := k7 _ _ hA6
          have hp7 := k7.frz _ _ _ hp6
          refine ⟨_, rfl, _, rfl, a, _, 1, _, rfl, rfl, SqT.of hA7, rfl, p, c, .ref ap, us, _, rfl, .inr (.inl ⟨ap, rfl, .inr ⟨oz, hp7⟩⟩), hp0, by omega, hP7, by omega, fun x H8 hx k8 hP8 => ?_⟩
          obtain ⟨⟨t, w1⟩, hy, a1, rfl, ha1⟩ := paired_mem hR6 hx
          have ha8 := k8 _ _ (hP7.tup (k7 _ _ ha1)) (k7 _ _ ha1)
          have ht := (ok.pr _ hy).1
          have htl : t.length = 2 := ht.1
          have hL8 := k8 _ _ (hP7.lst hL7) hL7
          obtain ⟨c0, hc0, hat0⟩ := atI_mem (xs := t.cps.toList) (i := 0) (by decide) (by rw [Array.length_toList]; show (0 : Int) < (t.length : Int); omega)
          obtain ⟨c1, hc1, hat1⟩ := atI_mem (xs := t.cps.toList) (i := 1) (by decide) (by rw [Array.length_toList]; show (1 : Int) < (t.length : Int); omega)
          have o0 : One ⟨#[c0]⟩ := ⟨rfl, Small.one (ht.2 c0 hc0)⟩
          have o1 : One ⟨#[c1]⟩ := ⟨rfl, Small.one (ht.2 c1 hc1)⟩
          have hzl2 : (zs.map V.str).length = zs.length := List.length_map ..
          refine ⟨a1, _, 0, _, rfl, rfl, SqT.of ha8, rfl, ?_⟩
          refine ⟨_, rfl, t, 0, c0, rfl, rfl, szL (by omega), hat0, _, rfl, _, rfl, D, _, _, _, rfl, rfl, hL8, ixN_at (by omega) (by omega), ?_⟩
          refine ⟨_, rfl, t, 1, c1, rfl, rfl, szL (by omega), hat1, _, rfl, _, rfl, _, 1, rfl, rfl, _, rfl, _, _, rfl, rfl, D, _, _, _, rfl, rfl, upd_same, ixN_at (by omega) (by rw [List.length_set]; omega), ?_⟩
          refine ⟨_, _, (zs.set ((0 : Int) + i).toNat ⟨#[c0]⟩).set (sz - 1 - (0 + (i : Int))).toNat ⟨#[c1]⟩, rfl, ?_, set_one (set_one hzo o0) o1, ?_, ?_, ?_, ?_⟩
          · rw [List.length_set, List.length_set]
            exact hzl
          · rw [upd_same, List.map_set, List.map_set]
          · exact ((k7.trans (TupK.of k8 hP7)).trans (TupK.lst hL8)).trans (TupK.lst upd_same)
          · exact ((k37.trans k8).put hDn).put hDn
          · exact ((hP8.put nD.1 nD.2).put nD.1 nD.2).mono (by omega)
        · obtain ⟨y4, y6, zs, rfl, hzl, hzo, hL7, k7, k37, hP7⟩ := hv
          exact ⟨⟨_, rfl⟩, _, rfl, "", D, zs, rfl, rfl, .inl (SqL.of hL7), fits_join (k := 20) (m := 1) (by omega) (fun y hy => Nat.le_of_eq (hzo y hy).1) (by decide), fin zs _ hzl hzo k37 (hP7.mono (by omega))⟩
      · have k46 := (Kp.ext (p := p) e5).trans k6
        exact ⟨⟨_, rfl⟩, _, rfl, "", D, ys, rfl, rfl, .inl (SqL.of (k46 _ _ nD.1 hL4)), fits_join (k := 20) (m := 1) (by omega) (fun y hy => Nat.le_of_eq (hyo y hy).1) (by decide), fin ys _ hyl hyo (k4.trans k46) (hP6.mono (by omega))⟩
    · exact ⟨⟨_, rfl⟩, _, rfl, "", D, ys, rfl, rfl, .inl (SqL.of (e5 _ _ hL4)), fits_join (k := 20) (m := 1) (by omega) (fun y hy => Nat.le_of_eq (hyo y hy).1) (by decide), fin ys _ hyl hyo (k4.trans (Kp.ext e5)) ((hP4.ext e5).mono (by omega))⟩
/-! ### may -/
def mayB (r : Rl) (x : Str) (i j : Int) : Bool := decide (r.span ≤ j - i - 1) && inV (.str (sgn x i ++ sgn x j)) ((r.prs.map (·.1)).map V.str)
abbrev s_law_may : Stmt := topS 29
theorem sc_law_may : FnScope ["_law_code_here", "_law_word_here", "_law_i", "_law_j", "_law_texts", "_law_both", "_law_much"] ["_law_code_here", "_law_word_here", "_law_i", "_law_j"] (defScope s_law_may) :=
  ⟨rfl, rfl, rfl, by decide +kernel, rfl, by decide +kernel, by decide +kernel⟩
def spMay : Sp := fun vs H Q _ => ∃ (v : V) (r : Rl) (x : Str) (i j : Int), vs = [v, .str x, .int i, .int j] ∧ RulesAt H v r ∧ r.prs.length ≤ 12 ∧ x.length ≤ 1000 ∧ 0 ≤ i ∧ i < x.length ∧ 0 ≤ j ∧ j < x.length ∧ ∀ H', Ext H H' → Q (.bl (mayB r x i j)) H'
theorem ok_may {f : Addr} {fd : FuncData} {k : Nat} (F : Fun K "_law_may" "_law_may" s_law_may f fd) : FnOk P w K mg base CX0 (k + 1) f fd ["_law_code_here", "_law_word_here", "_law_i", "_law_j"] spMay := by
  refine F.ok sc_law_may (fun vs H Q E h => ?_) (fun cdv A outer s H vs Q E hr h => ?_)
  · obtain ⟨v, r, x, i, j, rfl, _⟩ := h
    rfl
  · obtain ⟨v, r, x, i, j, rfl, ⟨a, vp, vl, vs, rfl, hA, ⟨ap, oz, us, rfl, hp, hoz, hR⟩, hl, hs⟩, hpl, hx, i0, i1, j0, j1, q⟩ := h
    refine ⟨_, (pss_cons (ps_setLc (i := 4) (own := [("_law_both", 5), ("_law_much", 6)]) (g := gTup K 2 (gCons (gName 5) (gCons (gName 6) gNil))) (by rfl) sc_law_may.nd rfl rfl (sw_true rfl rfl rfl (by decide +kernel)) (pi_tup (pe_ix (ixT K) (pv 0) pe_int (fun _ _ => rfl))) (blkOk_by (own := [("_law_both", 5), ("_law_much", 6)]) (N := ["_law_code_here", "_law_word_here", "_law_i", "_law_j", "_law_texts", "_law_both", "_law_much"]) (sc := defScope s_law_may) (by decide +kernel)) (fun _ _ _ _ _ => (pgT K rfl (pgs_cons (pg_name (i := 5) sc_law_may.nd rfl (.inl rfl)) (pgs_cons (pg_name (i := 6) sc_law_may.nd rfl (.inl rfl)) pgs_nil)))) (fun _ _ _ _ _ => pts_nil) (fun _ _ _ _ _ => (pv 5)))
      (pss_one (ps_ret (pe_and (pe_cmpR op_ge (pe_op op_sub (pe_op op_sub (pv 3) (pv 2)) pe_int) (pe_ix (ixT K) (pv 0) pe_int (fun _ _ => rfl)) (nomark _)) (pe_one (pe_cmpR (inSeq K) (pe_op op_add_str (pe_ix ix_str (pv 1) (pv 2) (fun _ _ => rfl)) (pe_ix ix_str (pv 1) (pv 3) (fun _ _ => rfl))) (pv 4) (by rfl))))))), ?_⟩
    have hlen := paired_len hR
    refine ⟨_, rfl, a, _, 1, _, rfl, rfl, SqT.of hA, rfl, ap, rfl, ⟨_, SqT.fz hp⟩, fun D hD => lc_tup (K := K) (xs := us) (fun i H6 => Ext H H6 ∧ H6 D = some (.lst (((r.prs.take i).map (·.1)).map V.str)))
      ⟨Ext.new hD, upd_same⟩ (fun i H6 _ ⟨k, _⟩ => SqT.fz (k _ _ hp)) (fun i u H6 hi hv => ?_) (fun H6 hv => ?_)⟩
    · obtain ⟨k6, hL6⟩ := hv
      obtain ⟨⟨x1, w1⟩, hx1, a1, rfl, ha1⟩ := paired_get hR hi
      have ha1' := k6 _ _ ha1
      refine ⟨a1, _, rfl, SqT.of ha1', rfl, _, _, rfl, _, _, rfl, rfl, rfl, _, rfl, _, hL6, szLt ?_, k6.put hD, ?_⟩
      · rw [List.length_map, List.length_map, List.length_take]
        omega
      · rw [upd_same, List.take_add_one, hx1, List.map_append, List.map_append]
        rfl
    · obtain ⟨k6, hL6⟩ := hv
      rw [List.take_of_length_le (by omega)] at hL6
      refine ⟨_, rfl, _, rfl, _, _, rfl, rfl, _, 1, rfl, rfl, _, rfl, a, _, 2, _, rfl, rfl, SqT.of (k6 _ _ hA), rfl, _, _, rfl, rfl, _, rfl, ite2 (fun e => ?_) (fun e => ?_)⟩
      · refine ⟨_, rfl, _, rfl, x, _, _, rfl, rfl, szL (by omega), sgn_at i0 i1, _, rfl, _, rfl, x, _, _, rfl, rfl, szL (by omega), sgn_at j0 j1, _, _, rfl, rfl, szL (show 1 + 1 ≤ 1000000 by decide), _, rfl, D, _, rfl, .inl (SqL.of hL6), rfl, flat_strs _, ?_⟩
        have := q H6 k6
        unfold mayB at this
        have e : decide (r.span ≤ j - i - 1) = true := e
        rw [e, Bool.true_and] at this
        exact this
      · have := q H6 k6
        unfold mayB at this
        have e : decide (r.span ≤ j - i - 1) = false := Bool.eq_false_iff.mpr e
        rw [e, Bool.false_and] at this
        exact this
end
end Pf


namespace Pf
open PySem PySem.Spec PyProof.Rows L2
/-! ### pairs within one another and behind one another, between two places -/
inductive Fl : Int → Int → List (Int × Int) → Prop
  | nil {lo hi : Int} : Fl lo hi []
  | cons {lo hi i j : Int} {A B : List (Int × Int)} : lo ≤ i → i < j → j ≤ hi → Fl (i + 1) (j - 1) A → Fl (j + 1) hi B → Fl lo hi ((i, j) :: (A ++ B))
theorem Fl.mono {lo hi : Int} {ps : List (Int × Int)} (h : Fl lo hi ps) : ∀ {lo' hi' : Int}, lo' ≤ lo → hi ≤ hi' → Fl lo' hi' ps := by
  induction h with
  | nil => intro _ _ _ _; exact .nil
  | cons h1 h2 h3 hA hB _ ihB =>
    intro lo' hi' a b
    exact .cons (by omega) h2 (by omega) hA (ihB (Int.le_refl _) b)
theorem Fl.app {lo h0 : Int} {ps : List (Int × Int)} (h : Fl lo h0 ps) : ∀ {i j hi : Int} {A : List (Int × Int)}, h0 = i - 1 → lo ≤ i → i < j → j ≤ hi → Fl (i + 1) (j - 1) A → Fl lo hi (ps ++ (i, j) :: A) := by
  induction h with
  | nil =>
    intro i j hi A _ a b c hA
    have := Fl.cons a b c hA (Fl.nil (lo := j + 1) (hi := hi))
    rw [List.append_nil] at this
    exact this
  | @cons lo hi0 i0 j0 A0 B0 h1 h2 h3 hA0 hB0 _ ihB =>
    intro i j hi A e a b c hA
    have hB := ihB e (by omega) b c hA
    have := Fl.cons h1 h2 (by omega) hA0 hB
    rw [List.cons_append, List.append_assoc]
    exact this
theorem Fl.bound {lo hi : Int} {ps : List (Int × Int)} (h : Fl lo hi ps) : ∀ x ∈ ps, lo ≤ x.1 ∧ x.1 < x.2 ∧ x.2 ≤ hi := by
  induction h with
  | nil => intro x hx; cases hx
  | cons h1 h2 h3 hA hB ihA ihB =>
    intro x hx
    rcases List.mem_cons.mp hx with rfl | hx
    · exact ⟨h1, h2, h3⟩
    · rcases List.mem_append.mp hx with hx | hx
      · have := ihA x hx
        omega
      · have := ihB x hx
        omega
theorem Fl.len {lo hi : Int} {ps : List (Int × Int)} (h : Fl lo hi ps) : lo ≤ hi + 1 → 2 * (ps.length : Int) ≤ hi - lo + 1 := by
  induction h with
  | nil => intro h; show 2 * ((0 : Nat) : Int) ≤ _; omega
  | cons h1 h2 h3 hA hB ihA ihB =>
    intro _
    have a := ihA (by omega)
    have b := ihB (by omega)
    rw [List.length_cons, List.length_append]
    omega
theorem neg_at {xs : List V} (h : 0 < xs.length) : ∃ v, v ∈ xs ∧ atI xs (-1) = some v := by
  refine ⟨xs[xs.length - 1]'(by omega), List.getElem_mem _, ?_⟩
  unfold atI ixN
  rw [if_neg (by decide), if_pos (by omega)]
  show xs[(-1 + (xs.length : Int)).toNat]? = _
  rw [show (-1 + (xs.length : Int)).toNat = xs.length - 1 by omega, List.getElem?_eq_getElem]
theorem dpInts {K : PySem.W.Frag} {H : Hp} : ∀ cells : List Int, DpAll K H (cells.map V.int) (cells.map PyData.int)
  | [] => .nil
  | _ :: r => .cons (.int _) (dpInts r)
section
variable {P : Program} {w : World} {K : PySem.W.Frag} {mg : Str → Option Value} {base : Heap}
abbrev CMay (P : Program) (w : World) (K : PySem.W.Frag) (mg : Str → Option Value) (base : Heap) : Prop := Ca P w K mg base 1 "_law_may" ["_law_code_here", "_law_word_here", "_law_i", "_law_j"] spMay
abbrev s_law_folded : Stmt := topS 30
theorem sc_law_folded : FnScope ["_law_pen_here", "_law_code_here", "_law_word_here", "_law_first", "_law_last", "_law_found", "_law_place", "_law_j", "_law_some"] ["_law_pen_here", "_law_code_here", "_law_word_here", "_law_first", "_law_last"] (defScope s_law_folded) :=
  ⟨rfl, rfl, rfl, by decide +kernel, rfl, by decide +kernel, by decide +kernel⟩
def spFold (d : Nat) : Sp := fun vs H Q _ => ∃ (p c : Addr) (v : V) (r : Rl) (x : Str) (lo hi : Int) (n : Nat), vs = [.ref p, v, .str x, .int lo, .int hi] ∧ RulesAt H v r ∧ RlOk r ∧ (x.length : Int) ≤ 20 ∧ 0 ≤ lo ∧ lo ≤ hi + 1 ∧ hi < x.length ∧ hi - lo + 1 < d ∧ Pen H p c n ∧ (n : Int) + 3 * (hi - lo + 1) < 1000000 ∧
  ∀ (l : Addr) (vs : List V) (ps : List (Int × Int)) (H' : Hp) (n' : Nat), H l = none → H' l = some (.lst vs) → Paired (TwoAt H') vs ps → Fl lo hi ps → (∀ y ∈ ps, mayB r x y.1 y.2 = true) → Kp p H H' → Pen H' p c n' → (n' : Int) ≤ n + 3 * (hi - lo + 1) → Q (.ref l) H'
theorem ok_folded {f : Addr} {fd : FuncData} (F : Fun K "_law_folded" "_law_folded" s_law_folded f fd) (bF : Binds K fd ["_law_pen_here", "_law_code_here", "_law_word_here", "_law_first", "_law_last"] []) (gF : mg "_law_folded" = some (.ref f)) (c_law_take : CTake P w K mg base) (c_law_pick : CPick P w K mg base) (c_law_may : CMay P w K mg base) (mrange : mg "range" = none) :
    ∀ d : Nat, FnOk P w K mg base CX0 (3 + d) f fd ["_law_pen_here", "_law_code_here", "_law_word_here", "_law_first", "_law_last"] (spFold d)
  | 0 => ⟨fun vs H Q E h => by
      obtain ⟨p, c, v, r, x, lo, hi, n, rfl, _⟩ := h
      rfl, fun A outer s H args us vs Q E _ _ _ _ h => by
      obtain ⟨p, c, v, r, x, lo, hi, n, _, _, _, _, _, h1, _, h2, _⟩ := h
      omega⟩
  | d + 1 => by
    have c_law_folded : Ca P w K mg base (3 + d) "_law_folded" ["_law_pen_here", "_law_code_here", "_law_word_here", "_law_first", "_law_last"] (spFold d) := ⟨f, fd, ok_folded F bF gF c_law_take c_law_pick c_law_may mrange d, gF, F.kp, bF⟩
    refine F.ok (k := 3 + d) sc_law_folded (fun vs H Q E h => ?_) (fun cdv A outer s H vs Q E hr h => ?_)
    · obtain ⟨p, c, v, r, x, lo, hi, n, rfl, _⟩ := h
      rfl
    · obtain ⟨p, c, v, r, x, lo, hi, n, rfl, hRu, ok, hx, lo0, lohi, hix, hd, hP, hn, q⟩ := h
      refine ⟨_, (pss_cons (ps_set (i := 5) sc_law_folded.nd rfl (.inl rfl) (pe_lst pa_nil))
      (pss_cons (ps_set (i := 6) sc_law_folded.nd rfl (.inr rfl) (pv 3))
      (pss_cons (ps_while PassesOwn.never (pt_cmpR op_le (pv 6) (pv 4) (nomark _)) (pss_cons (ps_setLc (i := 8) (own := [("_law_j", 7)]) (g := gName 7) (by rfl) sc_law_folded.nd rfl rfl (sw_true rfl rfl rfl (by decide +kernel)) (pi_range2 (by rfl) mrange (pa_cons (pe_op op_add (pv 6) pe_int) (pa_cons (pe_op op_add (pv 4) pe_int) pa_nil))) (blkOk_by (own := [("_law_j", 7)]) (N := ["_law_pen_here", "_law_code_here", "_law_word_here", "_law_first", "_law_last", "_law_found", "_law_place", "_law_j", "_law_some"]) (sc := defScope s_law_folded) (by decide +kernel)) (fun _ _ _ _ _ => (pg_name (i := 7) sc_law_folded.nd rfl (.inl rfl))) (fun _ _ _ _ _ => (pts_one (pt_val (pe_ca c_law_may (hr.mono (by omega)) (by rfl) (pa_cons (pv 1) (pa_cons (pv 2) (pa_cons (pv 6) (pa_cons (pv 7) pa_nil)))))))) (fun _ _ _ _ _ => (pv 7)))
      (pss_cons (ps_if (PW.pt (pw_and (pt_cmpR (neD K hr.units) (pv 8) (pe_lst pa_nil) (nomark _)) (pw_and1 (pt_cmpR op_gt (pe_ca c_law_take (hr.mono (by omega)) (by rfl) (pa_cons (pv 0) (pa_cons pe_int pa_nil))) pe_int (nomark _))))) (pss_cons (ps_set (i := 7) sc_law_folded.nd rfl (.inl rfl) (pe_ix (ixL K) (pe_lst (pa_cons (pe_ix (ixL K) (pv 8) (pe_un un_neg pe_int) (fun _ _ => rfl)) (pa_cons (pe_ca c_law_pick (hr.mono (by omega)) (by rfl) (pa_cons (pv 0) (pa_cons (pv 8) pa_nil))) pa_nil))) (pe_ca c_law_take (hr.mono (by omega)) (by rfl) (pa_cons (pv 0) (pa_cons pe_int pa_nil))) (fun _ _ => rfl)))
      (pss_cons (ps_expr (pe_bm PySem.F.plainAttrs_list PySem.F.slot_list_append PySem.F.type_list_append mt_append (pv 5) (pa_cons (pe_tup (pa_cons (pv 6) (pa_cons (pv 7) pa_nil))) pa_nil)))
      (pss_cons (ps_expr (pe_bm PySem.F.plainAttrs_list PySem.F.slot_list_extend PySem.F.type_list_extend mt_extend (pv 5) (pa_cons (pe_ca c_law_folded (hr.mono (by omega)) (by rfl) (pa_cons (pv 0) (pa_cons (pv 1) (pa_cons (pv 2) (pa_cons (pe_op op_add (pv 6) pe_int) (pa_cons (pe_op op_sub (pv 7) pe_int) pa_nil)))))) pa_nil)))
      (pss_one (ps_set (i := 6) sc_law_folded.nd rfl (.inr rfl) (pv 7)))))) pss_nil)
      (pss_one (ps_set (i := 6) sc_law_folded.nd rfl (.inr rfl) (pe_op op_add (pv 6) pe_int))))))
      (pss_one (ps_ret (pv 5)))))), ?_⟩
      refine ⟨Nat.zero_le _, fun l hl => ?_⟩
      have nl := hP.ne hl
      refine ⟨_, rfl, ?_⟩
      refine ⟨fun m σ H2 => ∃ (pl : Int) (y7 y8 : Option V) (vs : List V) (ps : List (Int × Int)) (n2 : Nat), m = (hi + 1 - pl).toNat ∧ σ = [some (.ref p), some v, some (.str x), some (.int lo), some (.int hi), some (.ref l), some (.int pl), y7, y8] ∧ lo ≤ pl ∧ pl ≤ hi + 1 ∧ H2 l = some (.lst vs) ∧ Paired (TwoAt H2) vs ps ∧ Fl lo (pl - 1) ps ∧ (∀ y ∈ ps, mayB r x y.1 y.2 = true) ∧ Kp p H H2 ∧ Pen H2 p c n2 ∧ (n2 : Int) ≤ n + 3 * (pl - lo),
        ⟨_, lo, none, none, [], [], n, rfl, rfl, Int.le_refl _, lohi, upd_same, .nil, .nil, (fun y h => by cases h), Kp.new hl, hP.new hl, by omega⟩, fun m σ H2 hW => ?_⟩
      obtain ⟨pl, y7, y8, vs, ps, n2, rfl, rfl, pl0, pl1, hL2, hPr, hFl, hMy, k2, hP2, hn2⟩ := hW
      refine ⟨_, rfl, _, rfl, pl, hi, rfl, rfl, _, rfl, ite2 (fun e => ?_) (fun e => ?_)⟩
      · have e : pl ≤ hi := of_decide_eq_true e
        refine ⟨fun σ' H' => ∃ (pl' : Int) (y7 y8 : Option V) (vs : List V) (ps : List (Int × Int)) (n2 : Nat), pl < pl' ∧ σ' = [some (.ref p), some v, some (.str x), some (.int lo), some (.int hi), some (.ref l), some (.int pl'), y7, y8] ∧ lo ≤ pl' ∧ pl' ≤ hi + 1 ∧ H' l = some (.lst vs) ∧ Paired (TwoAt H') vs ps ∧ Fl lo (pl' - 1) ps ∧ (∀ y ∈ ps, mayB r x y.1 y.2 = true) ∧ Kp p H H' ∧ Pen H' p c n2 ∧ (n2 : Int) ≤ n + 3 * (pl' - lo),
          fun σ' H' ⟨pl', y7, y8, vs, ps, n2, h1, h2, h3, h4, h5⟩ => ⟨(hi + 1 - pl').toNat, by omega, pl', y7, y8, vs, ps, n2, rfl, h2, h3, h4, h5⟩, ?_⟩
        -- some = [j for j in range(place + 1, last + 1) if may(code, word, place, j)]
        refine ⟨_, rfl, pl, 1, rfl, rfl, _, rfl, hi, 1, rfl, rfl, pl + 1, hi + 1, rfl, ⟨by omega, by omega, by omega, by omega⟩, fun D hD => lc_range (lo := pl + 1) (n := ((hi + 1) - (pl + 1)).toNat) (fun i H3 => ∃ js : List Int, js.length ≤ i ∧ (∀ j ∈ js, pl < j ∧ j ≤ hi ∧ mayB r x pl j = true) ∧ H3 D = some (.lst (js.map V.int)) ∧ Ext H2 H3) ⟨[], Nat.zero_le _, (fun j h => by cases h), upd_same, Ext.new hD⟩ (fun i H3 hi' hv => ?_) (fun H3 hv => ?_)⟩
        · obtain ⟨js, hjl, hjo, hL3, k3⟩ := hv
          refine ⟨rfl, _, rfl, _, rfl, _, rfl, _, rfl, v, r, x, pl, pl + 1 + i, rfl, RulesAt.mono _ _ _ _ ((TupK.of k2 hP).trans (TupK.ext k3)) hRu, ok.prs, by omega, by omega, by omega, by omega, by omega, fun H4 k4 => ⟨_, rfl, ite2 (fun e2 => ?_) (fun e2 => ?_)⟩⟩
          · refine ⟨_, rfl, _, k4 _ _ hL3, szLt ?_, js ++ [pl + 1 + i], ?_, fun j hj => ?_, ?_, (k3.trans k4).put hD⟩
            · rw [List.length_map]
              omega
            · rw [List.length_append, List.length_singleton]
              omega
            · rcases List.mem_append.mp hj with hj | hj
              · exact hjo j hj
              · rw [List.mem_singleton.mp hj]
                exact ⟨by omega, by omega, e2⟩
            · rw [upd_same, List.map_append]
              rfl
          · exact ⟨js, by omega, hjo, k4 _ _ hL3, k3.trans k4⟩
        · obtain ⟨js, hjl, hjo, hL3, k3⟩ := hv
          have hP3 := hP2.ext k3
          have hPr3 := paired_imp (fun _ _ => TwoAt.mono _ _ _ _ (TupK.ext k3)) hPr
          have hL23 := k3 _ _ hL2
          have skip : ∀ (H9 : Hp) (n9 : Nat), Kp p H3 H9 → Pen H9 p c n9 → (n9 : Int) ≤ n2 + 1 → ∃ (pl' : Int) (y7' y8' : Option V) (vs : List V) (ps : List (Int × Int)) (n2 : Nat), pl < pl' ∧ [some (.ref p), some v, some (.str x), some (.int lo), some (.int hi), some (.ref l), some (.int (pl + 1)), y7, some (.ref D)] = [some (.ref p), some v, some (.str x), some (.int lo), some (.int hi), some (.ref l), some (.int pl'), y7', y8'] ∧ lo ≤ pl' ∧ pl' ≤ hi + 1 ∧ H9 l = some (.lst vs) ∧ Paired (TwoAt H9) vs ps ∧ Fl lo (pl' - 1) ps ∧ (∀ y ∈ ps, mayB r x y.1 y.2 = true) ∧ Kp p H H9 ∧ Pen H9 p c n2 ∧ (n2 : Int) ≤ n + 3 * (pl' - lo) := fun H9 n9 k9 hP9 hn9 =>
            ⟨pl + 1, _, _, vs, ps, n9, by omega, rfl, by omega, by omega, k9 _ _ nl.1 hL23, paired_imp (fun _ _ => TwoAt.mono _ _ _ _ (TupK.of k9 hP3)) hPr3, hFl.mono (Int.le_refl _) (by omega), hMy, (k2.trans (Kp.ext k3)).trans k9, hP9, by omega⟩
          -- if some != [] and take(4) > 0
          refine ⟨_, rfl, Nat.zero_le _, fun e0 he0 => ?_⟩
          have e4 := Ext.new (o := .lst []) he0
          refine ⟨.list (js.map PyData.int), .list [], .lst (SqL.of (e4 _ _ hL3)) (dpInts js), .lst (SqL.of upd_same) .nil, PySem.W.shaped_ints js, by decide, _, rfl, ite2 (fun e2 => ?_) (fun e2 => ?_)⟩
          · have hj0 : 0 < js.length := by
              cases js with
              | nil => simp [PyData.eqv, PyData.eqvAll] at e2
              | cons y z => exact Nat.succ_pos _
            refine ⟨_, rfl, p, c, 4, _, rfl, hP3.ext e4, by omega, by decide, by decide, fun r5 H5 r5a r5b k5 hP5 => ⟨_, _, rfl, rfl, _, rfl, ite2 (fun e3 => ?_) (fun e3 => ?_)⟩⟩
            · have k35 := (Kp.ext (p := p) e4).trans k5
              have hL5 := k35 _ _ (hP3.lst hL3) hL3
              have hjl2 : (js.map V.int).length = js.length := List.length_map ..
              obtain ⟨v1, hv1, hat1⟩ := neg_at (xs := js.map V.int) (by omega)
              refine ⟨_, rfl, 1, rfl, D, _, -1, _, rfl, rfl, SqL.of hL5, hat1, ?_⟩
              refine ⟨_, rfl, _, rfl, p, c, .ref D, js.map V.int, _, rfl, .inl ⟨D, rfl, hL5⟩, by omega, by omega, hP5, by omega, fun v2 H6 hv2 k6 hP6 => ⟨szL (show 2 ≤ 1000000 by decide), fun d6 hd6 => ?_⟩⟩
              refine ⟨_, rfl, p, c, 2, _, rfl, hP6.new hd6, by omega, by decide, by decide, fun r7 H7 r7a r7b k7 hP7 => ?_⟩
              obtain ⟨v3, hv3, hat3⟩ := atI_mem (xs := [v1, v2]) r7a r7b
              have hv3' : v3 ∈ js.map V.int := by
                simp only [List.mem_cons, List.not_mem_nil, or_false] at hv3
                rcases hv3 with rfl | rfl
                · exact hv1
                · exact hv2
              obtain ⟨j, hj, rfl⟩ := List.mem_map.mp hv3'
              have hjo' := hjo j hj
              refine ⟨d6, _, r7, _, rfl, rfl, SqL.of (k7 _ _ (hP6.ne hd6).1 upd_same), hat3, ?_⟩
              have k37 := ((k35.trans k6).trans (Kp.new hd6)).trans k7
              have hL7 := k37 _ _ nl.1 hL23
              have hPr7 := paired_imp (fun _ _ => TwoAt.mono _ _ _ _ (TupK.of k37 hP3)) hPr3
              have hvl := paired_len hPr7
              have hpl := hFl.len (by omega)
              -- found.append((place, j))
              refine ⟨_, rfl, .inl ⟨rfl, _, SqL.of hL7⟩, _, rfl, _, rfl, szL (show 2 ≤ 1000000 by decide), fun t ht => ?_⟩
              have e8 := Ext.new (o := .tup [.int pl, .int j]) ht
              have hL8 := e8 _ _ hL7
              have nlt : l ≠ t := ne_of_none hL7 ht
              refine ⟨l, _, _, rfl, rfl, hL8, szLt (by omega), ?_⟩
              have hL9 : (upd (upd H7 t (.tup [.int pl, .int j])) l (.lst (vs ++ [.ref t]))) l = some (.lst (vs ++ [.ref t])) := upd_same
              have tk9 : TupK H7 (upd (upd H7 t (.tup [.int pl, .int j])) l (.lst (vs ++ [.ref t]))) := (TupK.ext e8).trans (TupK.lst hL8)
              have hP9 := (hP7.ext e8).put (o := .lst (vs ++ [.ref t])) nl.1 nl.2
              have hkl : Kp p H (upd (upd H7 t (.tup [.int pl, .int j])) l (.lst (vs ++ [.ref t]))) := (((k2.trans (Kp.ext k3)).trans k37).trans (Kp.ext e8)).put hl
              -- found.extend(folded(...))
              refine ⟨_, rfl, .inl ⟨rfl, _, SqL.of hL9⟩, _, rfl, _, rfl, _, rfl, _, rfl, pl, 1, rfl, rfl, _, rfl, j, 1, rfl, rfl, p, c, v, r, x, pl + 1, j - 1, _, rfl, RulesAt.mono _ _ _ _ (TupK.of hkl hP) hRu, ok, hx, by omega, by omega, by omega, by omega, hP9, by omega, fun lr vr pr H10 n10 hlr hLr hPr10 hFl10 hMy10 k10 hP10 hn10 => ?_⟩
              have hL10 := k10 _ _ nl.1 hL9
              have hvr := paired_len hPr10
              have hpr10 := hFl10.len (by omega)
              refine ⟨l, lr, _, _, rfl, rfl, hL10, hLr, szL ?_, ?_⟩
              · rw [List.length_append, List.length_singleton]
                omega
              · refine ⟨_, rfl, _, rfl, j, 1, rfl, rfl, j + 1, _, _, (vs ++ [.ref t]) ++ vr, (ps ++ [(pl, j)]) ++ pr, n10, by omega, rfl, by omega, by omega, upd_same, ?_, ?_, fun y hy => ?_, ?_, hP10.put nl.1 nl.2, by omega⟩
                · have tkl : TupK H10 (upd H10 l (.lst ((vs ++ [.ref t]) ++ vr))) := TupK.lst hL10
                  have tk710 := (tk9.trans (TupK.of k10 hP9)).trans tkl
                  refine paired_app ((paired_imp (fun _ _ => TwoAt.mono _ _ _ _ tk710) hPr7).snoc ⟨t, rfl, ?_⟩) (paired_imp (fun _ _ => TwoAt.mono _ _ _ _ tkl) hPr10)
                  refine tkl _ _ (TupK.of k10 hP9 _ _ ?_)
                  rw [upd_ne nlt.symm, upd_same]
                · rw [List.append_assoc]
                  exact hFl.app (by omega) pl0 hjo'.1 (by omega) hFl10
                · rcases List.mem_append.mp hy with hy | hy
                  · rcases List.mem_append.mp hy with hy | hy
                    · exact hMy y hy
                    · rw [List.mem_singleton.mp hy]
                      exact hjo'.2.2
                  · exact hMy10 y hy
                · exact (hkl.trans k10).put hl
            · exact ⟨_, rfl, pl, 1, rfl, rfl, skip H5 _ ((Kp.ext e4).trans k5) hP5 (by omega)⟩
          · exact ⟨_, rfl, pl, 1, rfl, rfl, skip _ n2 (Kp.ext e4) (hP3.ext e4) (by omega)⟩
      · have e : ¬ pl ≤ hi := fun z => e (decide_eq_true z)
        have epl : pl = hi + 1 := by omega
        subst epl
        refine ⟨_, rfl, q l vs ps H2 n2 hl hL2 hPr (hFl.mono (Int.le_refl _) (by omega)) hMy k2 hP2 (by omega)⟩
end
end Pf


namespace Pf
open PySem PySem.Spec PyProof.Rows L2
/-! ### the pairs straight within: two ways to find them -/
def ins (pr : Option (Int × Int)) (x : Int × Int) : Bool := match pr with
  | none => true
  | some q => decide (q.1 < x.1) && decide (x.2 < q.2)
def fits (acc : List (Int × Int)) (x : Int × Int) : Bool := acc.isEmpty || decide ((acc.getLast?.map (·.2)).getD 0 < x.1)
def gstep (pr : Option (Int × Int)) (acc : List (Int × Int)) (x : Int × Int) : List (Int × Int) := if (ins pr x && fits acc x) = true then acc ++ [x] else acc
def gr : Option Int → List (Int × Int) → List (Int × Int)
  | _, [] => []
  | e, x :: r => if (e.isNone || decide (e.getD 0 < x.1)) = true then x :: gr (some x.2) r else gr e r
theorem fits_last (acc : List (Int × Int)) (x : Int × Int) : fits acc x = ((acc.getLast?.map (·.2)).isNone || decide ((acc.getLast?.map (·.2)).getD 0 < x.1)) := by
  unfold fits
  cases acc with
  | nil => rfl
  | cons a r =>
    rw [List.getLast?_cons]
    rfl
theorem fold_gr (pr : Option (Int × Int)) : ∀ (ps acc : List (Int × Int)), ps.foldl (gstep pr) acc = acc ++ gr (acc.getLast?.map (·.2)) (ps.filter (ins pr))
  | [], acc => by
    rw [List.foldl_nil, List.filter_nil, gr, List.append_nil]
  | x :: r, acc => by
    rw [List.foldl_cons, fold_gr pr r]
    unfold gstep
    by_cases h : ins pr x = true
    · rw [List.filter_cons_of_pos h, gr, h, Bool.true_and, ← fits_last]
      by_cases h2 : fits acc x = true
      · rw [if_pos h2, if_pos h2, List.append_assoc]
        simp
      · rw [if_neg h2, if_neg h2]
    · rw [List.filter_cons_of_neg h, if_neg (by simp [h])]
theorem gr_skip {e : Int} {B : List (Int × Int)} : ∀ {A : List (Int × Int)}, (∀ x ∈ A, x.1 ≤ e) → gr (some e) (A ++ B) = gr (some e) B
  | [], _ => rfl
  | x :: r, h => by
    have h1 := h x (List.mem_cons_self ..)
    rw [List.cons_append, gr, if_neg (by simp; omega)]
    exact gr_skip fun y hy => h y (List.mem_cons_of_mem _ hy)
def around (qs : List (Int × Int)) (x : Int × Int) : List (Int × Int) := qs.filter fun o => decide (o.1 < x.1) && decide (x.2 < o.2)
def outL (qs : List (Int × Int)) : List (Int × Int) := qs.filter fun x => (around qs x).isEmpty
theorem around_nil {qs : List (Int × Int)} {x : Int × Int} (h : ∀ o ∈ qs, ¬ (o.1 < x.1 ∧ x.2 < o.2)) : around qs x = [] := by
  refine List.filter_eq_nil_iff.mpr fun o ho z => h o ho ?_
  rw [Bool.and_eq_true] at z
  exact ⟨of_decide_eq_true z.1, of_decide_eq_true z.2⟩
theorem gr_out {lo hi : Int} {qs : List (Int × Int)} (h : Fl lo hi qs) : ∀ e : Option Int, (∀ z, e = some z → z < lo) → gr e qs = outL qs := by
  induction h with
  | nil => intro e _; rfl
  | @cons lo hi i j A B h1 h2 h3 hA hB _ ihB =>
    intro e he
    have bA := hA.bound
    have bB := hB.bound
    have c1 : (e.isNone || decide (e.getD 0 < i)) = true := by
      cases e with
      | none => rfl
      | some z =>
        have := he z rfl
        simp
        omega
    have eg : gr e ((i, j) :: (A ++ B)) = (i, j) :: outL B := by
      rw [gr, if_pos c1, gr_skip (fun x hx => by have := bA x hx; show x.1 ≤ j; omega), ihB (some j) (fun z hz => by injection hz with hz; omega)]
    rw [eg]
    unfold outL
    have p0 : (around ((i, j) :: (A ++ B)) (i, j)).isEmpty = true := by
      rw [around_nil]
      · rfl
      · intro o ho
        rcases List.mem_cons.mp ho with rfl | ho
        · omega
        · rcases List.mem_append.mp ho with ho | ho
          · have := bA o ho
            show ¬ (o.1 < i ∧ j < o.2)
            omega
          · have := bB o ho
            show ¬ (o.1 < i ∧ j < o.2)
            omega
    have pA : A.filter (fun x => (around ((i, j) :: (A ++ B)) x).isEmpty) = [] := by
      refine List.filter_eq_nil_iff.mpr fun x hx z => ?_
      have := bA x hx
      have hin : (i, j) ∈ around ((i, j) :: (A ++ B)) x := List.mem_filter.mpr ⟨List.mem_cons_self .., by
        rw [Bool.and_eq_true]
        exact ⟨decide_eq_true (show i < x.1 by omega), decide_eq_true (show x.2 < j by omega)⟩⟩
      rw [List.isEmpty_iff] at z
      rw [z] at hin
      cases hin
    have pB : B.filter (fun x => (around ((i, j) :: (A ++ B)) x).isEmpty) = B.filter fun x => (around B x).isEmpty := by
      refine List.filter_congr fun x hx => ?_
      have hb := bB x hx
      have : around ((i, j) :: (A ++ B)) x = around B x := by
        unfold around
        rw [List.filter_cons_of_neg (by
          rw [Bool.and_eq_true]
          intro z
          have := of_decide_eq_true z.2
          have : x.2 < j := this
          omega), List.filter_append]
        have : A.filter (fun o => decide (o.1 < x.1) && decide (x.2 < o.2)) = [] := by
          refine List.filter_eq_nil_iff.mpr fun o ho z => ?_
          rw [Bool.and_eq_true] at z
          have := of_decide_eq_true z.2
          have := bA o ho
          omega
        rw [this, List.nil_append]
      rw [this]
    rw [List.filter_cons_of_pos (p := fun x => (around ((i, j) :: (A ++ B)) x).isEmpty) p0, List.filter_append, pA, pB, List.nil_append]
theorem Fl.cat {lo m : Int} {A : List (Int × Int)} (h : Fl lo m A) : ∀ {m' hi : Int} {B : List (Int × Int)}, lo ≤ m' → m ≤ m' → Fl m' hi B → (∀ x ∈ A, x.2 < m') → m' ≤ hi + 1 → Fl lo hi (A ++ B) := by
  induction h with
  | nil =>
    intro m' hi B h1 _ hB _ _
    exact hB.mono h1 (Int.le_refl _)
  | @cons lo hi0 i j A0 B0 h1 h2 h3 hA hB0 _ ihB =>
    intro m' hi B a b hB c d
    have cj : j < m' := c (i, j) (List.mem_cons_self ..)
    have := Fl.cons h1 h2 (show j ≤ hi by omega) hA (ihB (by omega) b hB (fun x hx => c x (List.mem_cons_of_mem _ (List.mem_append_right _ hx))) d)
    rw [List.cons_append, List.append_assoc]
    exact this
theorem Fl.filt {lo hi : Int} {ps : List (Int × Int)} (h : Fl lo hi ps) (f : Int × Int → Bool) : Fl lo hi (ps.filter f) := by
  induction h with
  | nil => exact .nil
  | @cons lo hi i j A B h1 h2 h3 hA hB ihA ihB =>
    by_cases e : f (i, j) = true
    · rw [List.filter_cons_of_pos e, List.filter_append]
      exact .cons h1 h2 h3 ihA ihB
    · rw [List.filter_cons_of_neg e, List.filter_append]
      have := Fl.cat ihA (m' := j + 1) (hi := hi) (by omega) (by omega) ihB (fun x hx => by
        have := hA.bound x (List.mem_filter.mp hx).1
        omega) (by omega)
      exact this.mono (by omega) (Int.le_refl _)
def swL (pr : Option (Int × Int)) (ps : List (Int × Int)) : List (Int × Int) := ps.foldl (gstep pr) []
theorem sw_inner {lo hi : Int} {ps : List (Int × Int)} (h : Fl lo hi ps) (pr : Option (Int × Int)) : swL pr ps = outL (ps.filter (ins pr)) := by
  unfold swL
  rw [fold_gr]
  exact gr_out (h.filt (ins pr)) none (fun z hz => by cases hz)
end Pf


namespace Pf
open PySem PySem.Spec PyProof.Rows L2
def OneAt (H : Hp) (v : V) (pr : Option (Int × Int)) : Prop := match pr with
  | none => v = .non
  | some q => TwoAt H v q
theorem OneAt.mono : Mono OneAt := fun H H' v x k h => by
  cases x with
  | none => exact h
  | some q => exact TwoAt.mono _ _ _ _ k h
theorem last_at {H : Hp} {vs : List V} {qs : List (Int × Int)} (hPr : Paired (TwoAt H) vs qs) (h : 0 < vs.length) : ∃ (a : Addr) (q : Int × Int), atI vs (-1) = some (.ref a) ∧ H a = some (.tup [.int q.1, .int q.2]) ∧ qs.getLast? = some q := by
  have hl := paired_len hPr
  have h1 : vs[vs.length - 1]? = some (vs[vs.length - 1]'(by omega)) := List.getElem?_eq_getElem _
  obtain ⟨q, hq, a, ea, ha⟩ := paired_get hPr h1
  refine ⟨a, q, ?_, ha, ?_⟩
  · unfold atI ixN
    rw [if_neg (by decide), if_pos (by omega)]
    show vs[(-1 + (vs.length : Int)).toNat]? = _
    rw [show (-1 + (vs.length : Int)).toNat = vs.length - 1 by omega, h1, ea]
  · rw [List.getLast?_eq_getElem?, ← hl]
    exact hq
theorem fold_take {α β : Type} {f : β → α → β} {b : β} {xs : List α} {i : Nat} {x : α} (h : xs[i]? = some x) : (xs.take (i + 1)).foldl f b = f ((xs.take i).foldl f b) x := by
  rw [List.take_add_one, h, List.foldl_append]
  rfl
theorem gstep_len (pr : Option (Int × Int)) (acc : List (Int × Int)) (x : Int × Int) : (gstep pr acc x).length ≤ acc.length + 1 := by
  unfold gstep
  split
  · rw [List.length_append]
    exact Nat.le_refl _
  · omega
theorem fold_len (pr : Option (Int × Int)) : ∀ (ps acc : List (Int × Int)), (ps.foldl (gstep pr) acc).length ≤ acc.length + ps.length
  | [], acc => by simp
  | x :: r, acc => by
    have h1 := fold_len pr r (gstep pr acc x)
    have h2 := gstep_len pr acc x
    rw [List.foldl_cons, List.length_cons]
    omega
section
variable {P : Program} {w : World} {K : PySem.W.Frag} {mg : Str → Option Value} {base : Heap}
abbrev s_straight_within : Stmt := topS 11
theorem sc_straight_within : FnScope ["folding", "pair", "found", "i", "j", "inside"] ["folding", "pair"] (defScope s_straight_within) :=
  ⟨rfl, rfl, rfl, by decide +kernel, rfl, by decide +kernel, by decide +kernel⟩
def spWithin : Sp := fun vs H Q _ => ∃ (vf vp : V) (ps : List (Int × Int)) (pr : Option (Int × Int)), vs = [vf, vp] ∧ TupOf TwoAt H vf ps ∧ ps.length ≤ 1000 ∧ OneAt H vp pr ∧
  ∀ (l : Addr) (us : List V) (H' : Hp), H l = none → H' l = some (.lst us) → Paired (TwoAt H') us (swL pr ps) → Ext H H' → Q (.ref l) H'
theorem ok_within {f : Addr} {fd : FuncData} {k : Nat} (F : Fun K "straight_within" "straight_within" s_straight_within f fd) : FnOk P w K mg base CX0 (k + 1) f fd ["folding", "pair"] spWithin := by
  refine F.ok sc_straight_within (fun vs H Q E h => ?_) (fun cdv A outer s H vs Q E hr h => ?_)
  · obtain ⟨vf, vp, ps, pr, rfl, _⟩ := h
    rfl
  · obtain ⟨vf, vp, ps, pr, rfl, ⟨af, fs, rfl, hF, hPs⟩, hpl, hpr, q⟩ := h
    refine ⟨_, (pss_cons (ps_set (i := 2) sc_straight_within.nd rfl (.inl rfl) (pe_lst pa_nil))
      (pss_cons (ps_for PassesOwn.never rfl (pi_tup (pv 0)) (pg_tup rfl (pgs_cons (pg_name (i := 3) sc_straight_within.nd rfl (.inl rfl)) (pgs_cons (pg_name (i := 4) sc_straight_within.nd rfl (.inl rfl)) pgs_nil))) (pss_cons (ps_set (i := 5) sc_straight_within.nd rfl (.inl rfl) (pe_or (pe_cmpR op_isN (pv 1) pe_non (nomark _)) (pe_one (pe_and (pe_cmpR op_lt (pe_ix (ixT K) (pv 1) pe_int (fun _ _ => rfl)) (pv 3) (nomark _)) (pe_one (pe_cmpR op_lt (pv 4) (pe_ix (ixT K) (pv 1) pe_int (fun _ _ => rfl)) (nomark _)))))))
      (pss_one (ps_if (PW.pt (pw_and (pt_val (pv 5)) (pw_and1 (PW.pt (pw_or (pt_not (pt_truth (pv 2) (by intro _; rfl))) (pw_or1 (pt_cmpR op_lt (pe_ix (ixT K) (pe_ix (ixL K) (pv 2) (pe_un un_neg pe_int) (fun _ _ => rfl)) pe_int (fun _ _ => rfl)) (pv 3) (nomark _)))))))) (pss_one (ps_expr (pe_bm PySem.F.plainAttrs_list PySem.F.slot_list_append PySem.F.type_list_append mt_append (pv 2) (pa_cons (pe_tup (pa_cons (pv 3) (pa_cons (pv 4) pa_nil))) pa_nil)))) pss_nil))))
      (pss_one (ps_ret (pv 2))))), ?_⟩
    have hfl := paired_len hPs
    refine ⟨Nat.zero_le _, fun l hl => ?_⟩
    refine ⟨_, rfl, af, rfl, ⟨_, SqT.of (Ext.new hl _ _ hF)⟩, for_tup (xs := fs) (fun i σ H2 => ∃ (y3 y4 y5 : Option V) (us : List V), σ = [some (.ref af), some vp, some (.ref l), y3, y4, y5] ∧ H2 l = some (.lst us) ∧ Paired (TwoAt H2) us ((ps.take i).foldl (gstep pr) []) ∧ Ext H H2)
      ⟨none, none, none, [], rfl, upd_same, .nil, Ext.new hl⟩ (fun i σ H2 _ ⟨_, _, _, _, _, _, _, k⟩ => SqT.of (k _ _ hF)) (fun i u σ H2 hi hv => ?_) (fun σ H2 hv => ?_)⟩
    · obtain ⟨y3, y4, y5, us, rfl, hL2, hPr, k2⟩ := hv
      obtain ⟨⟨a, b⟩, hx, a1, rfl, ha1⟩ := paired_get hPs hi
      rw [fold_take hx]
      have hus := paired_len hPr
      have hul : us.length ≤ 1000 := by
        have := fold_len pr (ps.take i) []
        rw [List.length_take, List.length_nil] at this
        omega
      refine ⟨a1, _, rfl, SqT.of (k2 _ _ ha1), rfl, _, _, rfl, _, _, rfl, rfl, ?_⟩
      generalize (ps.take i).foldl (gstep pr) [] = acc at hPr hus
      cases pr with
      | none =>
        obtain rfl : vp = .non := hpr
        have hI : ins none (a, b) = true := rfl
        generalize (none : Option (Int × Int)) = pr at hI ⊢
        refine ⟨_, rfl, rfl, _, rfl, iteT ?_⟩
        refine ⟨_, rfl, _, rfl, ite2 (fun e => ?_) (fun e => ?_)⟩
        · have hI' : ins pr (a, b) = true := hI.trans e
          refine ⟨_, rfl, _, .inl ⟨us, SqL.of hL2, rfl⟩, ?_⟩
          cases us with
          | nil =>
            cases hPr
            refine iteT ?_
            refine iteT ?_
            refine ⟨_, rfl, .inl ⟨rfl, _, SqL.of hL2⟩, _, rfl, _, rfl, szL (show 2 ≤ 1000000 by decide), fun t ht => ?_⟩
            have e8 := Ext.new (o := .tup [.int a, .int b]) ht
            refine ⟨l, _, _, rfl, rfl, e8 _ _ hL2, szLt (show 0 < 1000000 by decide), ?_⟩
            refine ⟨_, _, _, [.ref t], rfl, upd_same, ?_, (k2.trans e8).put hl⟩
            unfold gstep
            rw [if_pos (by rw [hI']; rfl)]
            refine .cons ⟨t, rfl, ?_⟩ .nil
            rw [upd_ne (ne_of_none hL2 ht).symm, upd_same]
          | cons u0 us0 =>
            refine iteF ?_
            obtain ⟨ak, qk, hat, hak, hlast⟩ := last_at hPr (by rw [List.length_cons]; omega)
            have hfit : fits acc (a, b) = decide (qk.2 < a) := by
              rw [fits_last, hlast]
              rfl
            refine ⟨_, rfl, 1, rfl, l, _, -1, _, rfl, rfl, SqL.of hL2, hat, ak, _, 1, _, rfl, rfl, SqT.of hak, rfl, _, rfl, _, _, rfl, rfl, _, rfl, ite2 (fun e2 => ?_) (fun e2 => ?_)⟩
            · refine ⟨_, rfl, .inl ⟨rfl, _, SqL.of hL2⟩, _, rfl, _, rfl, szL (show 2 ≤ 1000000 by decide), fun t ht => ?_⟩
              have e8 := Ext.new (o := .tup [.int a, .int b]) ht
              have hL8 := e8 _ _ hL2
              refine ⟨l, _, _, rfl, rfl, hL8, szLt (by omega), ?_⟩
              refine ⟨_, _, _, (u0 :: us0) ++ [.ref t], rfl, upd_same, ?_, (k2.trans e8).put hl⟩
              unfold gstep
              rw [if_pos (by rw [hI', hfit]; exact e2)]
              refine (paired_imp (fun _ _ => TwoAt.mono _ _ _ _ ((TupK.ext e8).trans (TupK.lst hL8))) hPr).snoc ⟨t, rfl, ?_⟩
              rw [upd_ne (ne_of_none hL2 ht).symm, upd_same]
            · refine ⟨_, _, _, u0 :: us0, rfl, hL2, ?_, k2⟩
              unfold gstep
              rw [if_neg (by rw [hI', hfit]; exact e2)]
              exact hPr
        · have hI' : ins pr (a, b) = false := hI.trans (Bool.eq_false_iff.mpr e)
          refine ⟨_, _, _, us, rfl, hL2, ?_, k2⟩
          unfold gstep
          rw [if_neg (by rw [hI']; exact Bool.false_ne_true)]
          exact hPr
      | some q0 =>
        obtain ⟨ap, rfl, hap⟩ : TwoAt H vp q0 := hpr
        refine ⟨_, rfl, rfl, _, rfl, ?_⟩
        rw [decide_eq_false (show ¬ V.ref ap = V.non from fun z => by cases z)]
        refine iteF ⟨_, rfl, ap, _, 0, _, rfl, rfl, SqT.of (k2 _ _ hap), rfl, _, rfl, _, _, rfl, rfl, _, rfl, ite2 (fun e0 => ?_) (fun e0 => ?_)⟩
        · have hI : ins (some q0) (a, b) = decide (b < q0.2) := by
            show (decide (q0.1 < a) && decide (b < q0.2)) = _
            have e0 : decide (q0.1 < a) = true := e0
            rw [e0, Bool.true_and]
          refine ⟨_, rfl, _, rfl, ap, _, 1, _, rfl, rfl, SqT.of (k2 _ _ hap), rfl, _, _, rfl, rfl, ?_⟩
          generalize (some q0 : Option (Int × Int)) = pr at hI ⊢
          refine ⟨_, rfl, _, rfl, ite2 (fun e => ?_) (fun e => ?_)⟩
          · have hI' : ins pr (a, b) = true := hI.trans e
            refine ⟨_, rfl, _, .inl ⟨us, SqL.of hL2, rfl⟩, ?_⟩
            cases us with
            | nil =>
              cases hPr
              refine iteT ?_
              refine iteT ?_
              refine ⟨_, rfl, .inl ⟨rfl, _, SqL.of hL2⟩, _, rfl, _, rfl, szL (show 2 ≤ 1000000 by decide), fun t ht => ?_⟩
              have e8 := Ext.new (o := .tup [.int a, .int b]) ht
              refine ⟨l, _, _, rfl, rfl, e8 _ _ hL2, szLt (show 0 < 1000000 by decide), ?_⟩
              refine ⟨_, _, _, [.ref t], rfl, upd_same, ?_, (k2.trans e8).put hl⟩
              unfold gstep
              rw [if_pos (by rw [hI']; rfl)]
              refine .cons ⟨t, rfl, ?_⟩ .nil
              rw [upd_ne (ne_of_none hL2 ht).symm, upd_same]
            | cons u0 us0 =>
              refine iteF ?_
              obtain ⟨ak, qk, hat, hak, hlast⟩ := last_at hPr (by rw [List.length_cons]; omega)
              have hfit : fits acc (a, b) = decide (qk.2 < a) := by
                rw [fits_last, hlast]
                rfl
              refine ⟨_, rfl, 1, rfl, l, _, -1, _, rfl, rfl, SqL.of hL2, hat, ak, _, 1, _, rfl, rfl, SqT.of hak, rfl, _, rfl, _, _, rfl, rfl, _, rfl, ite2 (fun e2 => ?_) (fun e2 => ?_)⟩
              · refine ⟨_, rfl, .inl ⟨rfl, _, SqL.of hL2⟩, _, rfl, _, rfl, szL (show 2 ≤ 1000000 by decide), fun t ht => ?_⟩
                have e8 := Ext.new (o := .tup [.int a, .int b]) ht
                have hL8 := e8 _ _ hL2
                refine ⟨l, _, _, rfl, rfl, hL8, szLt (by omega), ?_⟩
                refine ⟨_, _, _, (u0 :: us0) ++ [.ref t], rfl, upd_same, ?_, (k2.trans e8).put hl⟩
                unfold gstep
                rw [if_pos (by rw [hI', hfit]; exact e2)]
                refine (paired_imp (fun _ _ => TwoAt.mono _ _ _ _ ((TupK.ext e8).trans (TupK.lst hL8))) hPr).snoc ⟨t, rfl, ?_⟩
                rw [upd_ne (ne_of_none hL2 ht).symm, upd_same]
              · refine ⟨_, _, _, u0 :: us0, rfl, hL2, ?_, k2⟩
                unfold gstep
                rw [if_neg (by rw [hI', hfit]; exact e2)]
                exact hPr
          · have hI' : ins pr (a, b) = false := hI.trans (Bool.eq_false_iff.mpr e)
            refine ⟨_, _, _, us, rfl, hL2, ?_, k2⟩
            unfold gstep
            rw [if_neg (by rw [hI']; exact Bool.false_ne_true)]
            exact hPr
        · have hI : ins (some q0) (a, b) = false := by
            show (decide (q0.1 < a) && decide (b < q0.2)) = _
            have e0 : decide (q0.1 < a) = false := Bool.eq_false_iff.mpr e0
            rw [e0, Bool.false_and]
          generalize (some q0 : Option (Int × Int)) = pr at hI ⊢
          refine ⟨_, rfl, _, rfl, ite2 (fun e => ?_) (fun e => ?_)⟩
          · have hI' : ins pr (a, b) = true := hI.trans e
            refine ⟨_, rfl, _, .inl ⟨us, SqL.of hL2, rfl⟩, ?_⟩
            cases us with
            | nil =>
              cases hPr
              refine iteT ?_
              refine iteT ?_
              refine ⟨_, rfl, .inl ⟨rfl, _, SqL.of hL2⟩, _, rfl, _, rfl, szL (show 2 ≤ 1000000 by decide), fun t ht => ?_⟩
              have e8 := Ext.new (o := .tup [.int a, .int b]) ht
              refine ⟨l, _, _, rfl, rfl, e8 _ _ hL2, szLt (show 0 < 1000000 by decide), ?_⟩
              refine ⟨_, _, _, [.ref t], rfl, upd_same, ?_, (k2.trans e8).put hl⟩
              unfold gstep
              rw [if_pos (by rw [hI']; rfl)]
              refine .cons ⟨t, rfl, ?_⟩ .nil
              rw [upd_ne (ne_of_none hL2 ht).symm, upd_same]
            | cons u0 us0 =>
              refine iteF ?_
              obtain ⟨ak, qk, hat, hak, hlast⟩ := last_at hPr (by rw [List.length_cons]; omega)
              have hfit : fits acc (a, b) = decide (qk.2 < a) := by
                rw [fits_last, hlast]
                rfl
              refine ⟨_, rfl, 1, rfl, l, _, -1, _, rfl, rfl, SqL.of hL2, hat, ak, _, 1, _, rfl, rfl, SqT.of hak, rfl, _, rfl, _, _, rfl, rfl, _, rfl, ite2 (fun e2 => ?_) (fun e2 => ?_)⟩
              · refine ⟨_, rfl, .inl ⟨rfl, _, SqL.of hL2⟩, _, rfl, _, rfl, szL (show 2 ≤ 1000000 by decide), fun t ht => ?_⟩
                have e8 := Ext.new (o := .tup [.int a, .int b]) ht
                have hL8 := e8 _ _ hL2
                refine ⟨l, _, _, rfl, rfl, hL8, szLt (by omega), ?_⟩
                refine ⟨_, _, _, (u0 :: us0) ++ [.ref t], rfl, upd_same, ?_, (k2.trans e8).put hl⟩
                unfold gstep
                rw [if_pos (by rw [hI', hfit]; exact e2)]
                refine (paired_imp (fun _ _ => TwoAt.mono _ _ _ _ ((TupK.ext e8).trans (TupK.lst hL8))) hPr).snoc ⟨t, rfl, ?_⟩
                rw [upd_ne (ne_of_none hL2 ht).symm, upd_same]
              · refine ⟨_, _, _, u0 :: us0, rfl, hL2, ?_, k2⟩
                unfold gstep
                rw [if_neg (by rw [hI', hfit]; exact e2)]
                exact hPr
          · have hI' : ins pr (a, b) = false := hI.trans (Bool.eq_false_iff.mpr e)
            refine ⟨_, _, _, us, rfl, hL2, ?_, k2⟩
            unfold gstep
            rw [if_neg (by rw [hI']; exact Bool.false_ne_true)]
            exact hPr
    · obtain ⟨y3, y4, y5, us, rfl, hL2, hPr, k2⟩ := hv
      rw [List.take_of_length_le (by omega)] at hPr
      exact ⟨_, rfl, q l us H2 hl hL2 hPr k2⟩
end
end Pf


namespace Pf
open PySem PySem.Spec PyProof.Rows L2
theorem take_filter {α : Type} {xs : List α} {i : Nat} {x : α} (f : α → Bool) (h : xs[i]? = some x) : (xs.take (i + 1)).filter f = (xs.take i).filter f ++ if f x = true then [x] else [] := by
  rw [List.take_add_one, h, List.filter_append]
  congr 1
  cases e : f x <;> simp [List.filter, e]
def dTwo (x : Int × Int) : PyData := .tuple [.int x.1, .int x.2]
theorem dpTwos {K : PySem.W.Frag} {H : Hp} : ∀ {vs : List V} {ps : List (Int × Int)}, Paired (TwoAt H) vs ps → DpAll K H vs (ps.map dTwo)
  | _, _, .nil => .nil
  | _, _, .cons ⟨_, e, h⟩ t => .cons (e ▸ .tup (SqT.of h) (.cons (.int _) (.cons (.int _) .nil))) (dpTwos t)
def Near (ps : List (Int × Int)) : Prop := ∀ x ∈ ps, (-1000000 < x.1 ∧ x.1 < 1000000) ∧ -1000000 < x.2 ∧ x.2 < 1000000
theorem sm_two {x : Int × Int} (h : (-1000000 < x.1 ∧ x.1 < 1000000) ∧ -1000000 < x.2 ∧ x.2 < 1000000) : Sm 130 1 (dTwo x) := by
  refine Sm.tup (n := 2) (m := 64) (k := 0) (Nat.le_refl _) (fun d hd => ?_) (by decide)
  simp only [List.mem_cons, List.not_mem_nil, or_false] at hd
  rcases hd with rfl | rfl <;> exact Sm.int (by omega) (by omega)
theorem sm_twos {ps : List (Int × Int)} (hn : ps.length ≤ 100) (h : Near ps) : Sm 20000 2 (.list (ps.map dTwo)) := by
  refine Sm.lst (n := 100) (m := 130) (k := 1) (by rw [List.length_map]; exact hn) (fun d hd => ?_) (by decide)
  obtain ⟨x, hx, rfl⟩ := List.mem_map.mp hd
  exact sm_two (h x hx)
theorem eqv_nil (ps : List (Int × Int)) : PyData.eqv (.list (ps.map dTwo)) (.list []) = ps.isEmpty := by
  cases ps <;> simp [PyData.eqv, PyData.eqvAll]
section
variable {P : Program} {w : World} {K : PySem.W.Frag} {mg : Str → Option Value} {base : Heap}
abbrev s_law_pen : Stmt := topS 23
theorem sc_law_pen : FnScope ["_law_script"] ["_law_script"] (defScope s_law_pen) :=
  ⟨rfl, rfl, rfl, by decide +kernel, rfl, by decide +kernel, by decide +kernel⟩
theorem merge_pen (c : Addr) (a r : Int) : mergeK [] (penK c a r) = penK c a r := by
  have h1 : ¬ (Sum.inr ("cells" : Str) : Key) = Sum.inr ("at" : Str) := by decide +kernel
  have h2 : ¬ (Sum.inr ("cells" : Str) : Key) = Sum.inr ("left" : Str) := by decide +kernel
  have h3 : ¬ (Sum.inr ("at" : Str) : Key) = Sum.inr ("left" : Str) := by decide +kernel
  simp [penK, mergeK, putK, h1, h2, h3]
theorem cut_ints (ns : List Int) (lo hi : Option Int) : ∃ cs : List Int, cutV (ns.map V.int) lo hi = cs.map V.int ∧ cs.length ≤ ns.length := by
  unfold cutV
  refine ⟨(ns.drop _).take _, by rw [List.map_take, List.map_drop], ?_⟩
  rw [List.length_take, List.length_drop]
  omega
def spPen (K : PySem.W.Frag) : Sp := fun vs H Q _ => ∃ (a : Addr) (ns : List Int), vs = [.ref a] ∧ SqL K H a (ns.map V.int) ∧ ns.length ≤ 63 ∧ ∀ p c H', Pen H' p c 0 → Q (.ref p) H'
theorem ok_pen {f : Addr} {fd : FuncData} {k : Nat} (F : Fun K "_law_pen" "_law_pen" s_law_pen f fd) : FnOk P w K mg base CX0 (k + 1) f fd ["_law_script"] (spPen K) := by
  refine F.ok sc_law_pen (fun vs H Q E h => ?_) (fun cdv A outer s H vs Q E hr h => ?_)
  · obtain ⟨a, ns, rfl, _⟩ := h
    rfl
  · obtain ⟨a, ns, rfl, hS, hns, q⟩ := h
    refine ⟨_, (pss_one (ps_ret (pe_disp (pps_cons pe_str (pe_slice (slL K) (pv 0) po_none (po_some pe_int)) (pps_cons pe_str pe_int (pps_cons pe_str pe_int pps_nil))) (by rfl) (by rfl) (fun z => by cases z) (by decide)))), ?_⟩
    obtain ⟨cs, hcs, hcl⟩ := cut_ints ns none (some 63)
    refine fun p hp => ?_
    have hS1 : SqL K (upd H p (.dK [])) a (ns.map V.int) := by
      rcases hS with (h | ⟨o, h⟩) | h
      · exact .inl (.inl (Ext.new hp _ _ h))
      · exact .inl (.inr ⟨o, Ext.new hp _ _ h⟩)
      · exact .inr h
    refine ⟨_, rfl, 63, rfl, a, _, rfl, hS1, fun c hc => ?_⟩
    have hpc : p ≠ c := fun z => by
      rw [← z, upd_same] at hc
      cases hc
    refine ⟨by rw [upd_ne hpc, upd_same], penK c 0 0, rfl, (show 3 ≤ 15 by decide), ?_⟩
    refine q p c _ ⟨cs, 0, 0, ?_, ?_, by decide, by decide, by decide, by omega⟩
    · rw [upd_same, merge_pen]
    · rw [upd_ne hpc.symm, upd_same, hcs]
end
end Pf


namespace Pf
open PySem PySem.Spec PyProof.Rows L2
/-! ### loops: what is asked -/
def swI : List (Str × Str × Int) → Str → Str → Int
  | [], _, _ => 0
  | (t, u, x) :: r, o, n => if t = o ∧ u = n then x else swI r o n
theorem swI_at {stk : List (Str × Str × Int)} {i : Nat} {t u : Str} {x : Int} (h : stk[i]? = some (t, u, x)) (o n : Str) : swI (stk.drop i) o n = if t = o ∧ u = n then x else swI (stk.drop (i + 1)) o n := by
  obtain ⟨hi, e⟩ := List.getElem?_eq_some_iff.mp h
  rw [List.drop_eq_getElem_cons hi, e, swI]
theorem swI_end {stk : List (Str × Str × Int)} {i : Nat} (h : stk.length ≤ i) (o n : Str) : swI (stk.drop i) o n = 0 := by
  rw [List.drop_eq_nil_of_le h, swI]
theorem swI_bound {stk : List (Str × Str × Int)} (h : ∀ y ∈ stk, -99 ≤ y.2.2 ∧ y.2.2 ≤ 99) (o n : Str) : -99 ≤ swI stk o n ∧ swI stk o n ≤ 99 := by
  induction stk with
  | nil => exact ⟨by show -99 ≤ (0 : Int); decide, by show (0 : Int) ≤ 99; decide⟩
  | cons y r ih =>
    rw [swI]
    by_cases e : y.1 = o ∧ y.2.1 = n
    · rw [if_pos e]
      exact h y (List.mem_cons_self ..)
    · rw [if_neg e]
      exact ih fun z hz => h z (List.mem_cons_of_mem _ hz)
inductive Sep2 : Int → Int → List (Int × Int) → Prop
  | nil {lo hi : Int} : lo ≤ hi → Sep2 lo hi []
  | cons {lo hi p q : Int} {ks : List (Int × Int)} : lo ≤ p → p ≤ q → Sep2 (q + 1) hi ks → Sep2 lo hi ((p, q) :: ks)
def wid (ks : List (Int × Int)) : Int := (ks.map fun y => y.2 - y.1 + 1).sum
theorem Sep2.wid {lo hi : Int} {ks : List (Int × Int)} (h : Sep2 lo hi ks) : 0 ≤ wid ks ∧ wid ks ≤ hi - lo := by
  induction h with
  | nil h => exact ⟨Int.le_refl _, by show (0 : Int) ≤ _; omega⟩
  | @cons lo hi p q ks h1 h2 _ ih =>
    have e : Pf.wid ((p, q) :: ks) = (q - p + 1) + Pf.wid ks := by
      unfold Pf.wid
      rw [List.map_cons, List.sum_cons]
    rw [e]
    omega
theorem gr_sep {b : Int} : ∀ (A : List (Int × Int)) (e : Int), (∀ x ∈ A, x.1 ≤ x.2 ∧ x.2 < b) → e < b → Sep2 (e + 1) b (gr (some e) A)
  | [], e, _, he => .nil (by omega)
  | x :: r, e, h, he => by
    have hx := h x (List.mem_cons_self ..)
    have hr : ∀ y ∈ r, y.1 ≤ y.2 ∧ y.2 < b := fun y hy => h y (List.mem_cons_of_mem _ hy)
    rw [gr]
    by_cases c : e < x.1
    · rw [if_pos (by show (false || decide (e < x.1)) = true; rw [decide_eq_true c]; rfl)]
      exact .cons (by omega) hx.1 (gr_sep r x.2 hr hx.2)
    · rw [if_neg (by show ¬ (false || decide (e < x.1)) = true; rw [decide_eq_false c]; exact Bool.false_ne_true)]
      exact gr_sep r e hr he
theorem gr_sep0 {a b : Int} (A : List (Int × Int)) (h : ∀ x ∈ A, a < x.1 ∧ x.1 ≤ x.2 ∧ x.2 < b) (hab : a < b) : Sep2 (a + 1) b (gr none A) := by
  cases A with
  | nil => exact .nil (by omega)
  | cons x r =>
    have hx := h x (List.mem_cons_self ..)
    rw [gr, if_pos (show ((none : Option Int).isNone || decide ((none : Option Int).getD 0 < x.1)) = true from rfl)]
    exact .cons (by omega) hx.2.1 (gr_sep r x.2 (fun y hy => (h y (List.mem_cons_of_mem _ hy)).2) hx.2.2)
def kidsOf (qs : List (Int × Int)) (one : Int × Int) : List (Int × Int) := outL (qs.filter (ins (some one)))
theorem kids_in {qs : List (Int × Int)} {one : Int × Int} : ∀ y ∈ kidsOf qs one, y ∈ qs ∧ one.1 < y.1 ∧ y.2 < one.2 := fun y hy => by
  have h1 := (List.mem_filter.mp hy).1
  have h2 := List.mem_filter.mp h1
  have h3 := h2.2
  unfold ins at h3
  dsimp only at h3
  rw [Bool.and_eq_true] at h3
  exact ⟨h2.1, of_decide_eq_true h3.1, of_decide_eq_true h3.2⟩
theorem kids_sep {lo hi : Int} {qs : List (Int × Int)} (h : Fl lo hi qs) {one : Int × Int} (h1 : one.1 < one.2) : Sep2 (one.1 + 1) one.2 (kidsOf qs one) := by
  have hf := h.filt (ins (some one))
  unfold kidsOf
  rw [← gr_out hf none (fun z hz => by cases hz)]
  refine gr_sep0 _ (fun x hx => ?_) h1
  have h2 := List.mem_filter.mp hx
  have h3 := h2.2
  unfold ins at h3
  dsimp only at h3
  rw [Bool.and_eq_true] at h3
  have hb := h.bound x h2.1
  exact ⟨of_decide_eq_true h3.1, by omega, of_decide_eq_true h3.2⟩
theorem kids_len {qs : List (Int × Int)} {one : Int × Int} : (kidsOf qs one).length ≤ qs.length :=
  Nat.le_trans (List.length_filter_le _ _) (List.length_filter_le _ _)
def freeI (one : Int × Int) (ks : List (Int × Int)) : Int := one.2 - one.1 - 1 - wid ks
theorem free_sep {one : Int × Int} {ks : List (Int × Int)} (h : Sep2 (one.1 + 1) one.2 ks) : 0 ≤ freeI one ks ∧ freeI one ks ≤ one.2 - one.1 - 1 := by
  have := h.wid
  unfold freeI
  omega
def lo (r : Rl) (i : Nat) : Int := r.loops.getD i 0
def tx2 (x : Str) (p : Int × Int) : Str := sgn x p.1 ++ sgn x p.2
def kindN (free : Int) (n : Nat) : Str := if n = 0 then "lone" else if 1 < n then "forked" else if 0 < free then "inner" else "stacked"
def lpW (r : Rl) (x : Str) (one : Int × Int) (ks : List (Int × Int)) : Int :=
  if ks.length = 0 then lo r 6 + freeI one ks * lo r 7 else if 1 < ks.length then lo r 3 + (ks.length * lo r 4 + freeI one ks * lo r 5) else if 0 < freeI one ks then lo r 1 + freeI one ks * lo r 2 else lo r 0 + swI r.stk (tx2 x one) (tx2 x (ks.headD (0, 0)))
def LN : List Str := ["stacked", "inner", "inner free", "forked", "branch", "fork free", "lone", "lone free", "open"]
theorem LN_nd : LN.Nodup := by decide +kernel
def dLo (cs : List Int) : List (Key × V) := (LN.zip cs).map fun x => (.inr x.1, .int x.2)
theorem val_zip : ∀ {ns : List Str} {cs : List Int} {i : Nat} {n : Str} {c : Int}, ns.Nodup → ns[i]? = some n → cs[i]? = some c → valV ((ns.zip cs).map fun x => ((.inr x.1 : Key), V.int x.2)) (.inr n) = some (.int c)
  | [], _, i, _, _, _, h, _ => by simp at h
  | _ :: _, [], i, _, _, _, _, h => by simp at h
  | a :: ns, b :: cs, 0, n, c, _, h, h2 => by
    rw [List.getElem?_cons_zero] at h h2
    cases h
    cases h2
    rw [List.zip_cons_cons, List.map_cons, valV_pos rfl]
  | a :: ns, b :: cs, i + 1, n, c, hn, h, h2 => by
    rw [List.getElem?_cons_succ] at h h2
    have hne : ¬ (Sum.inr a : Key) = Sum.inr n := fun z => by
      have z := Sum.inr.inj z
      rw [z] at hn
      exact (List.nodup_cons.mp hn).1 (List.mem_of_getElem? h)
    rw [List.zip_cons_cons, List.map_cons, valV_neg hne]
    exact val_zip (List.nodup_cons.mp hn).2 h h2
theorem merge_nd : ∀ (kvs acc : List (Key × V)), ((acc ++ kvs).map (·.1)).Nodup → mergeK acc kvs = acc ++ kvs
  | [], acc, _ => by rw [List.append_nil]; rfl
  | (k, v) :: r, acc, h => by
    have hno : (acc.any fun kv => decide (kv.1 = k)) = false := by
      rw [List.any_eq_false]
      intro kv hkv e
      have e := of_decide_eq_true e
      rw [List.map_append, List.map_cons] at h
      have := (List.nodup_append.mp h).2.2 kv.1 (List.mem_map.mpr ⟨kv, hkv, rfl⟩) k (List.mem_cons_self ..)
      exact this e
    have e1 : putK acc k v = acc ++ [(k, v)] := by
      unfold putK
      rw [hno, if_neg Bool.false_ne_true]
    show mergeK (putK acc k v) r = _
    rw [e1, merge_nd r (acc ++ [(k, v)]) (by rw [List.append_assoc]; exact h), List.append_assoc]
    rfl
theorem dLo_keys : ∀ {ns : List Str} {cs : List Int}, ns.length = cs.length → ((ns.zip cs).map fun x => ((.inr x.1 : Key), V.int x.2)).map (·.1) = ns.map Sum.inr
  | [], _, _ => rfl
  | _ :: _, [], h => by cases h
  | a :: ns, b :: cs, h => by
    rw [List.zip_cons_cons, List.map_cons, List.map_cons, List.map_cons, dLo_keys (Nat.succ.inj h)]
theorem dLo_merge {cs : List Int} (h : cs.length = 9) : mergeK [] (dLo cs) = dLo cs := by
  rw [merge_nd, List.nil_append]
  rw [List.nil_append]
  unfold dLo
  rw [dLo_keys (by rw [h]; rfl)]
  show (LN.map (Sum.inr : Str → Key)).Nodup
  decide +kernel
theorem get_lo {H : Hp} {d : Addr} {cs : List Int} (h : H d = some (.dK (dLo cs))) (hc : cs.length = 9) {i : Nat} {n : Str} (hn : LN[i]? = some n) : DGet H d (.str n) (some (.int (cs.getD i 0))) := by
  have hi : i < 9 := (List.getElem?_eq_some_iff.mp hn).1
  have e : cs[i]? = some (cs.getD i 0) := by
    rw [List.getD_eq_getElem?_getD, List.getElem?_eq_getElem (by omega)]
    rfl
  have := val_zip (cs := cs) LN_nd hn e
  exact this ▸ DGet.k (k := .inr n) h
theorem dLo_vals : ∀ {ns : List Str} {cs : List Int}, ns.length = cs.length → ((ns.zip cs).map fun x => ((.inr x.1 : Key), V.int x.2)).map (·.2) = cs.map V.int
  | [], [], _ => rfl
  | [], _ :: _, h => by cases h
  | _ :: _, [], h => by cases h
  | a :: ns, b :: cs, h => by
    rw [List.zip_cons_cons, List.map_cons, List.map_cons, List.map_cons, dLo_vals (Nat.succ.inj h)]
theorem dLo_kV : ∀ {ns : List Str} {cs : List Int}, ns.length = cs.length → (((ns.zip cs).map fun x => ((.inr x.1 : Key), V.int x.2)).map fun x => kV x.1) = ns.map V.str
  | [], _, _ => rfl
  | _ :: _, [], h => by cases h
  | a :: ns, b :: cs, h => by
    rw [List.zip_cons_cons, List.map_cons, List.map_cons, List.map_cons, dLo_kV (Nat.succ.inj h)]
    rfl
theorem ints_of {H : Hp} : ∀ {vs : List V} {ns : List Int}, Paired (IntAt H) vs ns → vs = ns.map V.int
  | _, _, .nil => rfl
  | _, _, .cons h t => by
    have h : _ = V.int _ := h
    rw [List.map_cons, ← ints_of t, h]
theorem lo_bound {r : Rl} (ok : RlOk r) {i : Nat} (hi : i < 9) : -99 ≤ lo r i ∧ lo r i ≤ 99 := by
  have h : i < r.loops.length := by
    rw [ok.lo9]
    exact hi
  have e : lo r i = r.loops[i] := by
    unfold lo
    rw [List.getD_eq_getElem?_getD, List.getElem?_eq_getElem h]
    rfl
  rw [e]
  exact ok.lo _ (List.getElem_mem h)
section
variable {P : Program} {w : World} {K : PySem.W.Frag} {mg : Str → Option Value} {base : Heap}
theorem sumI (K : PySem.W.Frag) {X : Cx} (hc : X.calm = true := by rfl) (h : X.K = K := by rfl) : CallR X (.builtin "sum") (rSum K) := h ▸ cr_sum hc
abbrev s_stack_worth : Stmt := topS 6
theorem sc_stack_worth : FnScope ["rules", "outer", "within", "text", "inner", "worth"] ["rules", "outer", "within"] (defScope s_stack_worth) :=
  ⟨rfl, rfl, rfl, by decide +kernel, rfl, by decide +kernel, by decide +kernel⟩
def spSW : Sp := fun vs H Q _ => ∃ (v : V) (r : Rl) (o n : Str), vs = [v, .str o, .str n] ∧ RulesAt H v r ∧ Q (.int (swI r.stk o n)) H
theorem ok_sw {f : Addr} {fd : FuncData} {k : Nat} (F : Fun K "stack_worth" "stack_worth" s_stack_worth f fd) : FnOk P w K mg base CX0 (k + 1) f fd ["rules", "outer", "within"] spSW := by
  refine F.ok sc_stack_worth (fun vs H Q E h => ?_) (fun cdv A outer s H vs Q E hr h => ?_)
  · obtain ⟨v, r, o, n, rfl, _⟩ := h
    rfl
  · obtain ⟨v, r, o, n, rfl, ⟨a, vp, vl, vs, rfl, hA, _, _, ⟨as, us, rfl, hp, hR⟩⟩, q⟩ := h
    refine ⟨_, (pss_cons (ps_for PassesOwn.never rfl (pi_tup (pe_ix (ixT K) (pv 0) pe_int (fun _ _ => rfl))) (pg_tup rfl (pgs_cons (pg_name (i := 3) sc_stack_worth.nd rfl (.inl rfl)) (pgs_cons (pg_name (i := 4) sc_stack_worth.nd rfl (.inl rfl)) (pgs_cons (pg_name (i := 5) sc_stack_worth.nd rfl (.inl rfl)) pgs_nil)))) (pss_one (ps_if (PW.pt (pw_and (pt_cmpR op_eq (pv 3) (pv 1) (nomark _)) (pw_and1 (pt_cmpR op_eq (pv 4) (pv 2) (nomark _))))) (pss_one (ps_ret (pv 5))) pss_nil)))
      (pss_one (ps_ret pe_int))), ?_⟩
    have hlen := paired_len hR
    refine ⟨_, rfl, a, _, 4, _, rfl, rfl, SqT.of hA, rfl, as, rfl, ⟨_, SqT.of hp⟩, for_tup (xs := us) (fun i σ H2 => ∃ (y2 y3 y4 : Option V), σ = [some (.ref a), some (.str o), some (.str n), y2, y3, y4] ∧ H2 = H ∧ swI (r.stk.drop i) o n = swI r.stk o n)
      ⟨none, none, none, rfl, rfl, rfl⟩ (fun i σ H2 _ ⟨y2, y3, y4, _, e, _⟩ => SqT.of (by rw [e]; exact hp)) (fun i u σ H2 hi hv => ?_) (fun σ H2 hv => ?_)⟩
    · obtain ⟨y2, y3, y4, rfl, rfl, hd⟩ := hv
      obtain ⟨⟨t, t2, x⟩, hx, a1, rfl, ha1⟩ := paired_get hR hi
      rw [swI_at hx] at hd
      refine ⟨a1, _, rfl, SqT.of ha1, rfl, _, _, rfl, _, _, rfl, _, _, rfl, rfl, ?_⟩
      refine ⟨_, rfl, _, rfl, rfl, _, rfl, ite2 (fun e => ?_) (fun e => ?_)⟩
      · have e2 : t = o := V.str.inj (of_decide_eq_true e)
        refine ⟨_, rfl, _, rfl, rfl, _, rfl, ite2 (fun e3 => ?_) (fun e3 => ?_)⟩
        · have e4 : t2 = n := V.str.inj (of_decide_eq_true e3)
          rw [if_pos ⟨e2, e4⟩] at hd
          refine ⟨_, rfl, ?_⟩
          show Q (.int x) _
          rw [hd]
          exact q
        · have e4 : ¬ (t = o ∧ t2 = n) := fun z => e3 (decide_eq_true (congrArg V.str z.2))
          rw [if_neg e4] at hd
          exact ⟨_, _, _, rfl, rfl, hd⟩
      · have e4 : ¬ (t = o ∧ t2 = n) := fun z => e (decide_eq_true (congrArg V.str z.1))
        rw [if_neg e4] at hd
        exact ⟨_, _, _, rfl, rfl, hd⟩
    · obtain ⟨y2, y3, y4, rfl, rfl, hd⟩ := hv
      rw [swI_end (by omega)] at hd
      show Q (.int 0) _
      rw [hd]
      exact q
abbrev s_text_of : Stmt := topS 8
theorem sc_text_of : FnScope ["string", "pair"] ["string", "pair"] (defScope s_text_of) :=
  ⟨rfl, rfl, rfl, by decide +kernel, rfl, by decide +kernel, by decide +kernel⟩
def spTextOf : Sp := fun vs H Q _ => ∃ (x : Str) (t : Addr) (y : Int × Int), vs = [.str x, .ref t] ∧ H t = some (.tup [.int y.1, .int y.2]) ∧ x.length ≤ 1000 ∧ 0 ≤ y.1 ∧ y.1 < x.length ∧ 0 ≤ y.2 ∧ y.2 < x.length ∧ Q (.str (tx2 x y)) H
theorem ok_text_of {f : Addr} {fd : FuncData} {k : Nat} (F : Fun K "text_of" "text_of" s_text_of f fd) : FnOk P w K mg base CX0 (k + 1) f fd ["string", "pair"] spTextOf := by
  refine F.ok sc_text_of (fun vs H Q E h => ?_) (fun cdv A outer s H vs Q E hr h => ?_)
  · obtain ⟨x, t, y, rfl, _⟩ := h
    rfl
  · obtain ⟨x, t, y, rfl, hT, hx, i0, i1, j0, j1, q⟩ := h
    refine ⟨_, (pss_one (ps_ret (pe_op op_add_str (pe_ix ix_str (pv 0) (pe_ix (ixT K) (pv 1) pe_int (fun _ _ => rfl)) (fun _ _ => rfl)) (pe_ix ix_str (pv 0) (pe_ix (ixT K) (pv 1) pe_int (fun _ _ => rfl)) (fun _ _ => rfl))))), ?_⟩
    refine ⟨_, rfl, _, rfl, t, _, 0, _, rfl, rfl, SqT.of hT, rfl, x, y.1, _, rfl, rfl, szL (by omega), sgn_at i0 i1, ?_⟩
    refine ⟨_, rfl, _, rfl, t, _, 1, _, rfl, rfl, SqT.of hT, rfl, x, y.2, _, rfl, rfl, szL (by omega), sgn_at j0 j1, ?_⟩
    exact ⟨_, _, rfl, rfl, szL (show 1 + 1 ≤ 1000000 by decide), q⟩
abbrev s_loop_worths : Stmt := topS 12
theorem sc_loop_worths : FnScope ["rules"] ["rules"] (defScope s_loop_worths) :=
  ⟨rfl, rfl, rfl, by decide +kernel, rfl, by decide +kernel, by decide +kernel⟩
def spLW : Sp := fun vs H Q _ => ∃ (v : V) (r : Rl), vs = [v] ∧ RulesAt H v r ∧ r.loops.length = 9 ∧ ∀ d, H d = none → Q (.ref d) (upd H d (.dK (dLo r.loops)))
theorem ok_lw {f : Addr} {fd : FuncData} {k : Nat} {aLOOPS : Addr} (F : Fun K "loop_worths" "loop_worths" s_loop_worths f fd) (gLOOPS : mg "LOOPS" = some (.ref aLOOPS)) (hL : ∀ H : Hp, SqT K H aLOOPS (LN.map V.str)) (mdict : mg "dict" = none) (mzip : mg "zip" = none) : FnOk P w K mg base CX0 (k + 1) f fd ["rules"] spLW := by
  refine F.ok sc_loop_worths (fun vs H Q E h => ?_) (fun cdv A outer s H vs Q E hr h => ?_)
  · obtain ⟨v, r, rfl, _⟩ := h
    rfl
  · obtain ⟨v, r, rfl, ⟨a, vp, vl, vs, rfl, hA, _, ⟨al, us, rfl, hl, hR⟩, _⟩, h9, q⟩ := h
    refine ⟨_, (pss_one (ps_ret (pe_dictZip (by rfl) mdict (by rfl) mzip rfl (pa_cons (pe_glob (v := .ref aLOOPS) (by rfl) gLOOPS rfl) (pa_cons (pe_ix (ixT K) (pv 0) pe_int (fun _ _ => rfl)) pa_nil))))), ?_⟩
    have e9 : LN.length = r.loops.length := by
      rw [h9]
      rfl
    refine ⟨_, rfl, a, _, 3, _, rfl, rfl, SqT.of hA, rfl, aLOOPS, al, dLo r.loops, rfl, ?_, ?_, fun d hd => ?_⟩
    · unfold dLo
      rw [dLo_kV e9]
      exact hL H
    · unfold dLo
      rw [dLo_vals e9, ← ints_of hR]
      exact SqT.of hl
    · rw [dLo_merge h9]
      exact q d hd
abbrev s_kind_of : Stmt := topS 13
theorem sc_kind_of : FnScope ["free", "branches"] ["free", "branches"] (defScope s_kind_of) :=
  ⟨rfl, rfl, rfl, by decide +kernel, rfl, by decide +kernel, by decide +kernel⟩
def spKO : Sp := fun vs H Q _ => ∃ (fr : Int) (n : Nat), vs = [.int fr, .int (n : Nat)] ∧ Q (.str (kindN fr n)) H
theorem ok_ko {f : Addr} {fd : FuncData} {k : Nat} (F : Fun K "kind_of" "kind_of" s_kind_of f fd) : FnOk P w K mg base CX0 (k + 1) f fd ["free", "branches"] spKO := by
  refine F.ok sc_kind_of (fun vs H Q E h => ?_) (fun cdv A outer s H vs Q E hr h => ?_)
  · obtain ⟨fr, n, rfl, _⟩ := h
    rfl
  · obtain ⟨fr, n, rfl, q⟩ := h
    refine ⟨_, (pss_cons (ps_if (pt_cmpR op_eq (pv 1) pe_int (nomark _)) (pss_one (ps_ret pe_str)) pss_nil)
      (pss_cons (ps_if (pt_cmpR op_gt (pv 1) pe_int (nomark _)) (pss_one (ps_ret pe_str)) pss_nil)
      (pss_one (ps_ret (pe_ifExp (pt_cmpR op_gt (pv 0) pe_int (nomark _)) pe_str pe_str))))), ?_⟩
    unfold kindN at q
    refine ⟨_, rfl, rfl, _, rfl, ite2 (fun e => ?_) (fun e => ?_)⟩
    · have e : n = 0 := by
        have := V.int.inj (of_decide_eq_true e)
        omega
      rw [if_pos e] at q
      exact q
    · have e : ¬ n = 0 := fun z => e (decide_eq_true (by rw [z]; rfl))
      rw [if_neg e] at q
      refine ⟨_, rfl, _, _, rfl, rfl, _, rfl, ite2 (fun e1 => ?_) (fun e1 => ?_)⟩
      · have e1 : (1 : Int) < n := of_decide_eq_true e1
        rw [if_pos (by omega)] at q
        exact q
      · have e1 : ¬ (1 : Int) < n := fun z => e1 (decide_eq_true z)
        rw [if_neg (by omega)] at q
        refine ⟨_, rfl, _, _, rfl, rfl, _, rfl, ite2 (fun e2 => ?_) (fun e2 => ?_)⟩
        · have e2 : 0 < fr := of_decide_eq_true e2
          rw [if_pos e2] at q
          exact q
        · have e2 : ¬ 0 < fr := fun z => e2 (decide_eq_true z)
          rw [if_neg e2] at q
          exact q
end
end Pf


namespace Pf
open PySem PySem.Spec PyProof.Rows L2
abbrev Row : Type := Int × Int × Str × Int × Int
def RowAt (H : Hp) (v : V) (y : Row) : Prop := ∃ a, v = .ref a ∧ H a = some (.tup [.int y.1, .int y.2.1, .str y.2.2.1, .int y.2.2.2.1, .int y.2.2.2.2])
theorem RowAt.mono : Mono RowAt := fun H H' v x k ⟨a, e, h⟩ => ⟨a, e, k _ _ h⟩
def lpR (r : Rl) (x : Str) (qs : List (Int × Int)) (one : Int × Int) : Row := (one.1, one.2, kindN (freeI one (kidsOf qs one)) (kidsOf qs one).length, freeI one (kidsOf qs one), lpW r x one (kidsOf qs one))
def InX (x : Str) (qs : List (Int × Int)) : Prop := ∀ y ∈ qs, 0 ≤ y.1 ∧ y.1 < x.length ∧ 0 ≤ y.2 ∧ y.2 < x.length
theorem dget_ne {H H' : Hp} {d : Addr} {cs : List Int} (k : Ext H H') (h : H d = some (.dK (dLo cs))) : H' d = some (.dK (dLo cs)) := k _ _ h
theorem k_ne {a b : Str} (h : (a == b) = false) : (decide ((V.str a : V) = V.str b)) = false := decide_eq_false fun z => by
  have z := V.str.inj z
  rw [z] at h
  simp at h
section
variable {P : Program} {w : World} {K : PySem.W.Frag} {mg : Str → Option Value} {base : Heap}
abbrev CSW (P : Program) (w : World) (K : PySem.W.Frag) (mg : Str → Option Value) (base : Heap) : Prop := Ca P w K mg base 1 "stack_worth" ["rules", "outer", "within"] spSW
abbrev CTx (P : Program) (w : World) (K : PySem.W.Frag) (mg : Str → Option Value) (base : Heap) : Prop := Ca P w K mg base 1 "text_of" ["string", "pair"] spTextOf
abbrev CLW (P : Program) (w : World) (K : PySem.W.Frag) (mg : Str → Option Value) (base : Heap) : Prop := Ca P w K mg base 1 "loop_worths" ["rules"] spLW
abbrev CKO (P : Program) (w : World) (K : PySem.W.Frag) (mg : Str → Option Value) (base : Heap) : Prop := Ca P w K mg base 1 "kind_of" ["free", "branches"] spKO
abbrev CWithin (P : Program) (w : World) (K : PySem.W.Frag) (mg : Str → Option Value) (base : Heap) : Prop := Ca P w K mg base 1 "straight_within" ["folding", "pair"] spWithin
abbrev s_loop_within : Stmt := topS 14
theorem sc_loop_within : FnScope ["rules", "string", "pair", "within", "free", "kind", "told", "worth", "p", "q"] ["rules", "string", "pair", "within"] (defScope s_loop_within) :=
  ⟨rfl, rfl, rfl, by decide +kernel, rfl, by decide +kernel, by decide +kernel⟩
def spLoopW : Sp := fun vs H Q _ => ∃ (v : V) (r : Rl) (x : Str) (t l : Addr) (one : Int × Int) (us : List V) (ks : List (Int × Int)), vs = [v, .str x, .ref t, .ref l] ∧ RulesAt H v r ∧ RlOk r ∧ x.length ≤ 1000 ∧ H t = some (.tup [.int one.1, .int one.2]) ∧ H l = some (.lst us) ∧ Paired (TwoAt H) us ks ∧ ks.length ≤ 1000 ∧ InX x [one] ∧ InX x ks ∧ 0 ≤ freeI one ks ∧ freeI one ks ≤ 1000 ∧
  ∀ (a : Addr) (H' : Hp), H' a = some (.tup [.str (kindN (freeI one ks) ks.length), .int (freeI one ks), .int (lpW r x one ks)]) → Ext H H' → Q (.ref a) H'
theorem ok_loopw {f : Addr} {fd : FuncData} (F : Fun K "loop_within" "loop_within" s_loop_within f fd) (cstack_worth : CSW P w K mg base) (ctext_of : CTx P w K mg base) (cloop_worths : CLW P w K mg base) (ckind_of : CKO P w K mg base) (msum : mg "sum" = none) (mlen : mg "len" = none) : FnOk P w K mg base CX0 2 f fd ["rules", "string", "pair", "within"] spLoopW := by
  refine F.ok sc_loop_within (fun vs H Q E h => ?_) (fun cdv A outer s H vs Q E hr h => ?_)
  · obtain ⟨v, r, x, t, l, one, us, ks, rfl, _⟩ := h
    rfl
  · obtain ⟨v, r, x, t, l, one, us, ks, rfl, hRu, ok, hx, hT, hL, hPk, hkl, hin1, hink, hf0, hf1, q⟩ := h
    refine ⟨_, (pss_cons (ps_set (i := 4) sc_loop_within.nd rfl (.inl rfl) (pe_op op_sub (pe_op op_sub (pe_op op_sub (pe_ix (ixT K) (pv 2) pe_int (fun _ _ => rfl)) (pe_ix (ixT K) (pv 2) pe_int (fun _ _ => rfl))) pe_int) (pe_callB (sumI K) (by rfl) msum (by decide +kernel) (pa_cons (pe_lc (own := [("p", 8), ("q", 9)]) (g := gTup K 2 (gCons (gName 8) (gCons (gName 9) gNil))) (by rfl) sc_loop_within.nd (pi_list (pv 3)) (blkOk_by (own := [("p", 8), ("q", 9)]) (N := ["rules", "string", "pair", "within", "free", "kind", "told", "worth", "p", "q"]) (sc := defScope s_loop_within) (by decide +kernel)) (fun _ _ _ _ _ => (pgT K rfl (pgs_cons (pg_name (i := 8) sc_loop_within.nd rfl (.inl rfl)) (pgs_cons (pg_name (i := 9) sc_loop_within.nd rfl (.inl rfl)) pgs_nil)))) (fun _ _ _ _ _ => pts_nil) (fun _ _ _ _ _ => (pe_op op_add (pe_op op_sub (pv 9) (pv 8)) pe_int))) pa_nil))))
      (pss_cons (ps_set (i := 5) sc_loop_within.nd rfl (.inl rfl) (pe_ca ckind_of (hr.mono (by decide)) (by rfl) (pa_cons (pv 4) (pa_cons (pe_callB (lenQ K) (by rfl) mlen (by decide +kernel) (pa_cons (pv 3) pa_nil)) pa_nil))))
      (pss_cons (ps_set (i := 6) sc_loop_within.nd rfl (.inl rfl) (pe_ca cloop_worths (hr.mono (by decide)) (by rfl) (pa_cons (pv 0) pa_nil)))
      (pss_cons (ps_set (i := 7) sc_loop_within.nd rfl (.inl rfl) (pe_dget (hu_of hr) (pv 6) (pv 5) (fun _ _ => rfl)))
      (pss_cons (ps_if (pt_cmpR op_eq (pv 5) pe_str (nomark _)) (pss_one (ps_aug (i := 7) sc_loop_within.nd rfl (.inl rfl) (pe_op op_mul (pv 4) (pe_dget (hu_of hr) (pv 6) pe_str (fun _ _ => rfl))) ip_add)) (pss_one (ps_if (pt_cmpR op_eq (pv 5) pe_str (nomark _)) (pss_one (ps_aug (i := 7) sc_loop_within.nd rfl (.inl rfl) (pe_op op_mul (pv 4) (pe_dget (hu_of hr) (pv 6) pe_str (fun _ _ => rfl))) ip_add)) (pss_one (ps_if (pt_cmpR op_eq (pv 5) pe_str (nomark _)) (pss_one (ps_aug (i := 7) sc_loop_within.nd rfl (.inl rfl) (pe_ca cstack_worth (hr.mono (by decide)) (by rfl) (pa_cons (pv 0) (pa_cons (pe_ca ctext_of (hr.mono (by decide)) (by rfl) (pa_cons (pv 1) (pa_cons (pv 2) pa_nil))) (pa_cons (pe_ca ctext_of (hr.mono (by decide)) (by rfl) (pa_cons (pv 1) (pa_cons (pe_ix (ixL K) (pv 3) pe_int (fun _ _ => rfl)) pa_nil))) pa_nil)))) ip_add)) (pss_one (ps_aug (i := 7) sc_loop_within.nd rfl (.inl rfl) (pe_op op_add (pe_op op_mul (pe_callB (lenQ K) (by rfl) mlen (by decide +kernel) (pa_cons (pv 3) pa_nil)) (pe_dget (hu_of hr) (pv 6) pe_str (fun _ _ => rfl))) (pe_op op_mul (pv 4) (pe_dget (hu_of hr) (pv 6) pe_str (fun _ _ => rfl)))) ip_add)))))))
      (pss_one (ps_ret (pe_tup (pa_cons (pv 5) (pa_cons (pv 4) (pa_cons (pv 7) pa_nil))))))))))), ?_⟩
    have hul := paired_len hPk
    have in1 := hin1 one (List.mem_singleton.mpr rfl)
    -- free
    refine ⟨_, rfl, t, _, 1, _, rfl, rfl, SqT.of hT, rfl, _, rfl, t, _, 0, _, rfl, rfl, SqT.of hT, rfl, _, _, rfl, rfl, _, 1, rfl, rfl, _, rfl, l, rfl, ⟨_, SqL.of hL⟩, fun D hD => lc_list (K := K) (xs := us) (fun i H2 => H2 D = some (.lst (((ks.take i).map fun y => y.2 - y.1 + 1).map V.int)) ∧ Ext H H2)
      ⟨upd_same, Ext.new hD⟩ (fun i H2 _ ⟨_, k⟩ => SqL.of (k _ _ hL)) (fun i u H2 hi hv => ?_) (fun H2 hv => ?_)⟩
    · obtain ⟨hL2, k2⟩ := hv
      obtain ⟨y, hy, a1, rfl, ha1⟩ := paired_get hPk hi
      have hil : i < us.length := (List.getElem?_eq_some_iff.mp hi).1
      refine ⟨a1, _, rfl, SqT.of (k2 _ _ ha1), rfl, _, _, rfl, _, _, rfl, rfl, rfl, _, rfl, _, rfl, _, _, rfl, rfl, _, 1, rfl, rfl, _, hL2, szLt ?_, ?_, k2.put hD⟩
      · rw [List.length_map, List.length_map, List.length_take]
        omega
      · rw [upd_same, List.take_add_one, hy, List.map_append, List.map_append]
        rfl
    · obtain ⟨hL2, k2⟩ := hv
      rw [List.take_of_length_le (by omega)] at hL2
      refine ⟨D, _, rfl, SqL.of hL2, _, _, rfl, rfl, ?_⟩
      have hf0' : 0 ≤ one.2 - one.1 - 1 - (ks.map fun y => y.2 - y.1 + 1).sum := hf0
      have hf1' : one.2 - one.1 - 1 - (ks.map fun y => y.2 - y.1 + 1).sum ≤ 1000 := hf1
      -- kind
      refine ⟨_, rfl, _, rfl, l, us, rfl, .inl (SqL.of (k2 _ _ hL)), freeI one ks, us.length, rfl, ?_⟩
      rw [hul]
      -- told
      refine ⟨_, rfl, v, r, rfl, RulesAt.mono _ _ _ _ (TupK.ext k2) hRu, ok.lo9, fun d hd => ?_⟩
      have e3 := Ext.new (o := .dK (dLo r.loops)) hd
      have hd3 : (upd H2 d (.dK (dLo r.loops))) d = some (.dK (dLo r.loops)) := upd_same
      have k3 := k2.trans e3
      have fin : ∀ (wo : Int) (H9 : Hp), wo = lpW r x one ks → Ext (upd H2 d (.dK (dLo r.loops))) H9 → ∀ p, H9 p = none → Q (.ref p) (upd H9 p (.tup [.str (kindN (freeI one ks) ks.length), .int (freeI one ks), .int wo])) := fun wo H9 e k9 p hp => by
        rw [e]
        exact q p _ upd_same ((k3.trans k9).trans (Ext.new hp))
      have l0 := lo_bound ok (show 0 < 9 by decide)
      have l1 := lo_bound ok (show 1 < 9 by decide)
      have l2 := lo_bound ok (show 2 < 9 by decide)
      have l4 := lo_bound ok (show 4 < 9 by decide)
      have l5 := lo_bound ok (show 5 < 9 by decide)
      have l7 := lo_bound ok (show 7 < 9 by decide)
      by_cases c0 : ks.length = 0
      · have ek : kindN (freeI one ks) ks.length = "lone" := by
          unfold kindN
          rw [if_pos c0]
        rw [ek] at fin ⊢
        refine ⟨_, rfl, _, rfl, d, _, rfl, get_lo hd3 ok.lo9 (i := 6) (by decide +kernel), ?_⟩
        refine ⟨_, rfl, rfl, _, rfl, iteT ?_⟩
        refine ⟨_, rfl, _, rfl, _, rfl, d, _, rfl, get_lo hd3 ok.lo9 (i := 7) (by decide +kernel), _, _, rfl, rfl, .inl ⟨by omega, by omega⟩, _, _, rfl, rfl, ?_⟩
        refine ⟨_, rfl, _, rfl, _, rfl, szL (show 3 ≤ 1000000 by decide), fun p hp => fin _ _ ?_ Ext.refl p hp⟩
        unfold lpW
        rw [if_pos c0]
        rfl
      · by_cases c1 : 1 < ks.length
        · have ek : kindN (freeI one ks) ks.length = "forked" := by
            unfold kindN
            rw [if_neg c0, if_pos c1]
          rw [ek] at fin ⊢
          refine ⟨_, rfl, _, rfl, d, _, rfl, get_lo hd3 ok.lo9 (i := 3) (by decide +kernel), ?_⟩
          refine ⟨_, rfl, rfl, _, rfl, ?_⟩
          rw [k_ne (by decide +kernel)]
          refine iteF ⟨_, rfl, rfl, _, rfl, ?_⟩
          rw [k_ne (by decide +kernel)]
          refine iteF ⟨_, rfl, rfl, _, rfl, ?_⟩
          rw [k_ne (by decide +kernel)]
          refine iteF ⟨_, rfl, _, rfl, l, us, rfl, .inl (SqL.of (k3 _ _ hL)), _, rfl, d, _, rfl, get_lo hd3 ok.lo9 (i := 4) (by decide +kernel), _, _, rfl, rfl, .inl ⟨by omega, by omega⟩, ?_⟩
          refine ⟨_, rfl, _, rfl, d, _, rfl, get_lo hd3 ok.lo9 (i := 5) (by decide +kernel), _, _, rfl, rfl, .inl ⟨by omega, by omega⟩, _, _, rfl, rfl, _, _, rfl, rfl, ?_⟩
          refine ⟨_, rfl, _, rfl, _, rfl, szL (show 3 ≤ 1000000 by decide), fun p hp => fin _ _ ?_ Ext.refl p hp⟩
          unfold lpW
          rw [if_neg c0, if_pos c1, hul]
          rfl
        · by_cases c2 : 0 < freeI one ks
          · have ek : kindN (freeI one ks) ks.length = "inner" := by
              unfold kindN
              rw [if_neg c0, if_neg c1, if_pos c2]
            rw [ek] at fin ⊢
            refine ⟨_, rfl, _, rfl, d, _, rfl, get_lo hd3 ok.lo9 (i := 1) (by decide +kernel), ?_⟩
            refine ⟨_, rfl, rfl, _, rfl, ?_⟩
            rw [k_ne (by decide +kernel)]
            refine iteF ⟨_, rfl, rfl, _, rfl, iteT ?_⟩
            refine ⟨_, rfl, _, rfl, _, rfl, d, _, rfl, get_lo hd3 ok.lo9 (i := 2) (by decide +kernel), _, _, rfl, rfl, .inl ⟨by omega, by omega⟩, _, _, rfl, rfl, ?_⟩
            refine ⟨_, rfl, _, rfl, _, rfl, szL (show 3 ≤ 1000000 by decide), fun p hp => fin _ _ ?_ Ext.refl p hp⟩
            unfold lpW
            rw [if_neg c0, if_neg c1, if_pos c2]
            rfl
          · have ek : kindN (freeI one ks) ks.length = "stacked" := by
              unfold kindN
              rw [if_neg c0, if_neg c1, if_neg c2]
            rw [ek] at fin ⊢
            refine ⟨_, rfl, _, rfl, d, _, rfl, get_lo hd3 ok.lo9 (i := 0) (by decide +kernel), ?_⟩
            refine ⟨_, rfl, rfl, _, rfl, ?_⟩
            rw [k_ne (by decide +kernel)]
            refine iteF ⟨_, rfl, rfl, _, rfl, ?_⟩
            rw [k_ne (by decide +kernel)]
            refine iteF ⟨_, rfl, rfl, _, rfl, iteT ?_⟩
            have c3 : 0 < us.length := by omega
            obtain ⟨y, hy, a1, ev, ha1⟩ := paired_get hPk (List.getElem?_eq_getElem c3)
            have iny := hink y (List.mem_of_getElem? hy)
            have hat : atI us 0 = some (.ref a1) := by
              rw [atI_get (by decide) (by omega), ← ev]
              rfl
            refine ⟨_, rfl, _, rfl, _, rfl, _, rfl, x, t, one, rfl, k3 _ _ hT, hx, in1.1, in1.2.1, in1.2.2.1, in1.2.2.2, ?_⟩
            refine ⟨_, rfl, _, rfl, l, us, _, _, rfl, rfl, SqL.of (k3 _ _ hL), hat, x, a1, y, rfl, k3 _ _ ha1, hx, iny.1, iny.2.1, iny.2.2.1, iny.2.2.2, ?_⟩
            refine ⟨v, r, _, _, rfl, RulesAt.mono _ _ _ _ (TupK.ext k3) hRu, _, _, rfl, rfl, ?_⟩
            refine ⟨_, rfl, _, rfl, _, rfl, szL (show 3 ≤ 1000000 by decide), fun p hp => fin _ _ ?_ Ext.refl p hp⟩
            have eh : ks.headD (0, 0) = y := by
              cases ks with
              | nil => cases hy
              | cons z zs =>
                rw [List.getElem?_cons_zero] at hy
                cases hy
                rfl
            unfold lpW
            rw [if_neg c0, if_neg c1, if_neg c2, eh]
            rfl
abbrev CLoopW (P : Program) (w : World) (K : PySem.W.Frag) (mg : Str → Option Value) (base : Heap) : Prop := Ca P w K mg base 2 "loop_within" ["rules", "string", "pair", "within"] spLoopW
abbrev s_loops_of : Stmt := topS 15
theorem sc_loops_of : FnScope ["rules", "string", "folding", "pair"] ["rules", "string", "folding"] (defScope s_loops_of) :=
  ⟨rfl, rfl, rfl, by decide +kernel, rfl, by decide +kernel, by decide +kernel⟩
def spLoops : Sp := fun vs H Q _ => ∃ (v vf : V) (r : Rl) (x : Str) (qs : List (Int × Int)) (hi : Int), vs = [v, .str x, vf] ∧ RulesAt H v r ∧ RlOk r ∧ x.length ≤ 1000 ∧ TupOf TwoAt H vf qs ∧ qs.length ≤ 1000 ∧ Fl 0 hi qs ∧ hi < x.length ∧
  ∀ (l : Addr) (us : List V) (H' : Hp), H' l = some (.lst us) → Paired (RowAt H') us (qs.map (lpR r x qs)) → H l = none → Ext H H' → Q (.ref l) H'
theorem ok_loops {f : Addr} {fd : FuncData} (F : Fun K "loops_of" "loops_of" s_loops_of f fd) (cloop_within : CLoopW P w K mg base) (cstraight_within : CWithin P w K mg base) : FnOk P w K mg base CX0 3 f fd ["rules", "string", "folding"] spLoops := by
  refine F.ok sc_loops_of (fun vs H Q E h => ?_) (fun cdv A outer s H vs Q E hr h => ?_)
  · obtain ⟨v, vf, r, x, qs, hi, rfl, _⟩ := h
    rfl
  · obtain ⟨v, vf, r, x, qs, hi, rfl, hRu, ok, hx, ⟨af, fs, rfl, hF, hPf⟩, hql, hFl, hhi, q⟩ := h
    refine ⟨_, (pss_one (ps_ret (pe_lc (own := [("pair", 3)]) (g := gName 3) (by rfl) sc_loops_of.nd (pi_tup (pv 2)) (blkOk_by (own := [("pair", 3)]) (N := ["rules", "string", "folding", "pair"]) (sc := defScope s_loops_of) (by decide +kernel)) (fun _ _ _ _ _ => (pg_name (i := 3) sc_loops_of.nd rfl (.inl rfl))) (fun _ _ _ _ _ => pts_nil) (fun _ _ _ _ _ => (pe_op (catT K) (pv 3) (pe_ca cloop_within (hr.mono (by decide)) (by rfl) (pa_cons (pv 0) (pa_cons (pv 1) (pa_cons (pv 3) (pa_cons (pe_ca cstraight_within (hr.mono (by decide)) (by rfl) (pa_cons (pv 2) (pa_cons (pv 3) pa_nil))) pa_nil)))))))))), ?_⟩
    have hfl := paired_len hPf
    have hInX : InX x qs := fun y hy => by
      have := hFl.bound y hy
      omega
    refine ⟨_, rfl, af, rfl, ⟨_, SqT.of hF⟩, fun D hD => lc_tup (K := K) (xs := fs) (fun i H2 => ∃ us : List V, H2 D = some (.lst us) ∧ Paired (RowAt H2) us ((qs.take i).map (lpR r x qs)) ∧ Ext H H2)
      ⟨[], upd_same, .nil, Ext.new hD⟩ (fun i H2 _ ⟨_, _, _, k⟩ => SqT.of (k _ _ hF)) (fun i u H2 hi' hv => ?_) (fun H2 hv => ?_)⟩
    · obtain ⟨us, hL2, hPr2, k2⟩ := hv
      obtain ⟨one, hone, a1, rfl, ha1⟩ := paired_get hPf hi'
      have hm1 := List.mem_of_getElem? hone
      have hb1 := hFl.bound one hm1
      have hsep := kids_sep hFl (one := one) hb1.2.1
      have hfr := free_sep hsep
      have hkl := kids_len (qs := qs) (one := one)
      have hul := paired_len hPr2
      rw [List.length_map, List.length_take] at hul
      have hil : i < fs.length := (List.getElem?_eq_some_iff.mp hi').1
      refine ⟨rfl, _, rfl, _, rfl, _, rfl, _, rfl, _, rfl, _, rfl, .ref af, .ref a1, qs, some one, rfl, ⟨af, fs, rfl, k2 _ _ hF, paired_imp (fun _ _ => TwoAt.mono _ _ _ _ (TupK.ext k2)) hPf⟩, hql, ⟨a1, rfl, k2 _ _ ha1⟩, fun l ws H3 hl hL3 hPr3 k3 => ?_⟩
      have k23 := k2.trans k3
      rw [sw_inner hFl] at hPr3
      refine ⟨v, r, x, a1, l, one, ws, kidsOf qs one, rfl, RulesAt.mono _ _ _ _ (TupK.ext k23) hRu, ok, hx, k23 _ _ ha1, hL3, hPr3, by omega, fun y hy => ?_, fun y hy => hInX y (kids_in y hy).1, hfr.1, by omega, fun a H4 hA4 k4 => ?_⟩
      · rw [List.mem_singleton.mp hy]
        exact hInX one hm1
      · have k14 := k3.trans k4
        refine ⟨a1, a, _, _, rfl, rfl, SqT.of (k4 _ _ (k23 _ _ ha1)), SqT.of hA4, by (intro z; cases z), szL (show 5 ≤ 1000000 by decide), (fun z => by cases z), fun _ p hp => ⟨us, Ext.new hp _ _ (k14 _ _ hL2), szLt (by omega), us ++ [.ref p], upd_same, ?_, ((k2.trans k14).trans (Ext.new hp)).put hD⟩⟩
        have e5 := Ext.new (o := .tup ([.int one.1, .int one.2] ++ [.str (kindN (freeI one (kidsOf qs one)) (kidsOf qs one).length), .int (freeI one (kidsOf qs one)), .int (lpW r x one (kidsOf qs one))])) hp
        have hL5 := e5 _ _ (k14 _ _ hL2)
        have tk := (TupK.ext (k14.trans e5)).trans (TupK.lst (o := .lst (us ++ [.ref p])) hL5)
        rw [List.take_add_one, hone, List.map_append]
        refine (paired_imp (fun _ _ => RowAt.mono _ _ _ _ tk) hPr2).snoc ⟨p, rfl, ?_⟩
        rw [upd_ne (ne_of_none (k14 _ _ hL2) hp).symm, upd_same]
        rfl
    · obtain ⟨us, hL2, hPr2, k2⟩ := hv
      rw [List.take_of_length_le (by omega)] at hPr2
      exact q D us H2 hL2 hPr2 hD k2
end
end Pf


namespace Pf
open PySem PySem.Spec PyProof.Rows L2
/-! ### places counted -/
def cnt (f : Int → Bool) (a : Int) : Nat → Nat
  | 0 => 0
  | n + 1 => cnt f a n + (f (a + n)).toNat
theorem cnt_add (f : Int → Bool) (a : Int) (m : Nat) : ∀ n, cnt f a (m + n) = cnt f a m + cnt f (a + m) n
  | 0 => rfl
  | n + 1 => by
    show cnt f a (m + n) + (f (a + ((m + n : Nat) : Int))).toNat = cnt f a m + (cnt f (a + m) n + (f (a + m + n)).toNat)
    rw [cnt_add f a m n, show a + ((m + n : Nat) : Int) = a + m + n by omega]
    omega
theorem cnt_all {f : Int → Bool} {a : Int} : ∀ {n : Nat}, (∀ z, a ≤ z → z < a + n → f z = true) → cnt f a n = n
  | 0, _ => rfl
  | n + 1, h => by
    show cnt f a n + _ = _
    rw [cnt_all fun z z1 z2 => h z z1 (by omega), h (a + n) (by omega) (by omega)]
    rfl
theorem cnt_no {f : Int → Bool} {a : Int} : ∀ {n : Nat}, (∀ z, a ≤ z → z < a + n → f z = false) → cnt f a n = 0
  | 0, _ => rfl
  | n + 1, h => by
    show cnt f a n + _ = _
    rw [cnt_no fun z z1 z2 => h z z1 (by omega), h (a + n) (by omega) (by omega)]
    rfl
theorem cnt_congr {f g : Int → Bool} {a : Int} : ∀ {n : Nat}, (∀ z, a ≤ z → z < a + n → f z = g z) → cnt f a n = cnt g a n
  | 0, _ => rfl
  | n + 1, h => by
    show cnt f a n + _ = cnt g a n + _
    rw [cnt_congr fun z z1 z2 => h z z1 (by omega), h (a + n) (by omega) (by omega)]
def inR (ks : List (Int × Int)) (z : Int) : Bool := ks.any fun y => decide (y.1 ≤ z ∧ z ≤ y.2)
theorem Sep2.above {lo hi : Int} {ks : List (Int × Int)} (h : Sep2 lo hi ks) : ∀ z, z < lo → inR ks z = false := by
  induction h with
  | nil _ => intro z _; rfl
  | @cons lo hi p q ks h1 h2 _ ih =>
    intro z hz
    show (decide (p ≤ z ∧ z ≤ q) || inR ks z) = false
    rw [decide_eq_false (by omega), ih z (by omega)]
    rfl
theorem Sep2.cnt {lo hi : Int} {ks : List (Int × Int)} (h : Sep2 lo hi ks) : (Pf.cnt (fun z => !inR ks z) lo (hi - lo).toNat : Int) = hi - lo - Pf.wid ks := by
  induction h with
  | @nil lo hi h =>
    rw [cnt_all (f := fun z => !inR [] z) fun _ _ _ => rfl]
    show ((hi - lo).toNat : Int) = hi - lo - 0
    omega
  | @cons lo hi p q ks h1 h2 hs ih =>
    have hw := hs.wid
    have e : (hi - lo).toNat = (p - lo).toNat + ((q + 1 - p).toNat + (hi - (q + 1)).toNat) := by omega
    have ew : Pf.wid ((p, q) :: ks) = (q - p + 1) + Pf.wid ks := by
      unfold Pf.wid
      rw [List.map_cons, List.sum_cons]
    rw [e, cnt_add, cnt_add, ew]
    have a1 : Pf.cnt (fun z => !inR ((p, q) :: ks) z) lo (p - lo).toNat = (p - lo).toNat := cnt_all fun z z1 z2 => by
      show (!(decide (p ≤ z ∧ z ≤ q) || inR ks z)) = true
      rw [decide_eq_false (by omega), hs.above z (by omega)]
      rfl
    have a2 : Pf.cnt (fun z => !inR ((p, q) :: ks) z) (lo + ((p - lo).toNat : Nat)) (q + 1 - p).toNat = 0 := cnt_no fun z z1 z2 => by
      show (!(decide (p ≤ z ∧ z ≤ q) || inR ks z)) = false
      rw [decide_eq_true (by omega)]
      rfl
    have a3 : Pf.cnt (fun z => !inR ((p, q) :: ks) z) (lo + ((p - lo).toNat : Nat) + ((q + 1 - p).toNat : Nat)) (hi - (q + 1)).toNat = Pf.cnt (fun z => !inR ks z) (q + 1) (hi - (q + 1)).toNat := by
      rw [show lo + ((p - lo).toNat : Int) + ((q + 1 - p).toNat : Int) = q + 1 by omega]
      refine cnt_congr fun z z1 z2 => ?_
      show (!(decide (p ≤ z ∧ z ≤ q) || inR ks z)) = _
      rw [decide_eq_false (by omega)]
      rfl
    rw [a1, a2, a3]
    omega
def flat (ks : List (Int × Int)) : List V := (ks.map fun y => rgV y.1 (y.2 + 1)).flatten
theorem inV_app (x : V) (a b : List V) : inV x (a ++ b) = (inV x a || inV x b) := by
  unfold inV
  rw [List.any_append]
theorem inV_rg (z p q : Int) : inV (.int z) (rgV p (q + 1)) = decide (p ≤ z ∧ z ≤ q) := by
  unfold inV rgV
  rw [List.any_map]
  by_cases h : p ≤ z ∧ z ≤ q
  · rw [decide_eq_true h, List.any_eq_true]
    refine ⟨(z - p).toNat, List.mem_range.mpr (by omega), ?_⟩
    show (p + ((z - p).toNat : Int) == z) = true
    rw [beq_iff_eq]
    omega
  · rw [decide_eq_false h, List.any_eq_false]
    intro i hi e
    have hi := List.mem_range.mp hi
    have e : (p + (i : Int) == z) = true := e
    rw [beq_iff_eq] at e
    omega
theorem inV_flat (z : Int) : ∀ ks : List (Int × Int), inV (.int z) (flat ks) = inR ks z
  | [] => rfl
  | y :: r => by
    show inV (.int z) (rgV y.1 (y.2 + 1) ++ flat r) = (decide (y.1 ≤ z ∧ z ≤ y.2) || inR r z)
    rw [inV_app, inV_rg, inV_flat z r]
theorem flat_flat : ∀ ks : List (Int × Int), (flat ks).all flatV = true
  | [] => rfl
  | y :: r => by
    show (rgV y.1 (y.2 + 1) ++ flat r).all flatV = true
    rw [List.all_append, flat_flat r, Bool.and_true]
    unfold rgV
    rw [List.all_map, List.all_eq_true]
    intro i _
    rfl
theorem flat_len {lo hi : Int} {ks : List (Int × Int)} (h : Sep2 lo hi ks) : ((flat ks).length : Int) = wid ks := by
  induction h with
  | nil _ => rfl
  | @cons lo hi p q ks h1 h2 _ ih =>
    show ((rgV p (q + 1) ++ flat ks).length : Int) = _
    have ew : wid ((p, q) :: ks) = (q - p + 1) + wid ks := by
      unfold wid
      rw [List.map_cons, List.sum_cons]
    rw [List.length_append, rgV_length, ew]
    omega
theorem sum_one {stk : List (Str × Str × Int)} {o n : Str} (h : (stk.map fun x => (x.1, x.2.1)).Nodup) : ((stk.filter fun y => decide (y.1 = o ∧ y.2.1 = n)).map (·.2.2)).sum = swI stk o n := by
  induction stk with
  | nil => rfl
  | cons y r ih =>
    rw [List.map_cons, List.nodup_cons] at h
    obtain ⟨t, u, c⟩ := y
    rw [swI]
    by_cases e : t = o ∧ u = n
    · rw [if_pos e, List.filter_cons_of_pos (by exact decide_eq_true e)]
      have hn : r.filter (fun y => decide (y.1 = o ∧ y.2.1 = n)) = [] := by
        rw [List.filter_eq_nil_iff]
        intro z hz ez
        have ez := of_decide_eq_true ez
        refine h.1 (List.mem_map.mpr ⟨z, hz, ?_⟩)
        rw [ez.1, ez.2, e.1, e.2]
      rw [hn]
      show c + 0 = c
      omega
    · rw [if_neg e, List.filter_cons_of_neg (by intro z; exact e (of_decide_eq_true z)), ih h.2]
theorem small_sgn {x : Str} (h : Small x) {i : Int} (h0 : 0 ≤ i) (h1 : i < x.length) : Small (sgn x i) := by
  have h2 : i.toNat < x.cps.toList.length := by
    rw [Array.length_toList]
    show i.toNat < x.length
    omega
  unfold sgn
  rw [List.getD_eq_getElem?_getD, List.getElem?_eq_getElem h2]
  exact Small.one (h _ (List.getElem_mem h2))
theorem small_tx2 {x : Str} (h : Small x) {y : Int × Int} (hy : 0 ≤ y.1 ∧ y.1 < x.length ∧ 0 ≤ y.2 ∧ y.2 < x.length) : Small (tx2 x y) := (small_sgn h hy.1 hy.2.1).app (small_sgn h hy.2.2.1 hy.2.2.2)
theorem eqv_two (a b c d : Str) : PyData.eqv (.tuple [.str a, .str b]) (.tuple [.str c, .str d]) = decide (a = c ∧ b = d) := by
  by_cases h1 : a = c
  · by_cases h2 : b = d
    · simp [PyData.eqv, PyData.eqvAll, h1, h2]
    · simp [PyData.eqv, PyData.eqvAll, h1, h2]
  · simp [PyData.eqv, PyData.eqvAll, h1]
theorem sm_ss {a b : Str} (ha : Small a) (hb : Small b) (la : a.length ≤ 10) (lb : b.length ≤ 10) : Sm 100 1 (.tuple [.str a, .str b]) := by
  refine Sm.tup (n := 2) (m := 10) (k := 0) (Nat.le_refl _) (fun d hd => ?_) (by decide)
  simp only [List.mem_cons, List.not_mem_nil, or_false] at hd
  rcases hd with rfl | rfl
  · exact Sm.str ha.ok la
  · exact Sm.str hb.ok lb
def rSumE (K : PySem.W.Frag) : List V → Hp → VK → Prop := fun vs H Q => ∃ (a b : Addr) (ls : List (Addr × List V)), vs = [.ref a, .ref b] ∧ SqL K H a (ls.map fun x => .ref x.1) ∧ (∀ x ∈ ls, H x.1 = some (.lst x.2)) ∧ H b = some (.lst []) ∧ (ls.map (·.2)).flatten.length ≤ sizeLine ∧
  ∀ p H', Ext H H' → H' p = some (.lst (ls.map (·.2)).flatten) → Q (.ref p) H'
theorem sumE (K : PySem.W.Frag) {X : Cx} (hcalm : X.calm = true) (hK : X.K = K := by rfl) : CallR X (.builtin "sum") (rSumE K) := fun pins s σ H vs us Q I r h => by
  obtain ⟨a, b, ls, rfl, h1, h2, h3, h4, q⟩ := h
  refine cr_sumL K hcalm hK pins s σ H _ us Q I r ⟨a, b, ls, [], rfl, h1, h2, h3, by rw [List.length_nil, Nat.zero_add]; exact h4, fun e => ?_, fun _ p hp => ?_⟩
  · refine q b H Ext.refl ?_
    rw [e]
    exact h3
  · exact q p _ (Ext.new hp) upd_same
section
variable {P : Program} {w : World} {K : PySem.W.Frag} {mg : Str → Option Value} {base : Heap}
end
end Pf


namespace Pf
open PySem PySem.Spec PyProof.Rows L2
/-! ### rules and rows as data -/
def dSt (x : Str × Str × Int) : PyData := .tuple [.str x.1, .str x.2.1, .int x.2.2]
theorem dpStacks {K : PySem.W.Frag} {H : Hp} : ∀ {vs : List V} {ps : List (Str × Str × Int)}, Paired (StackAt H) vs ps → DpAll K H vs (ps.map dSt)
  | _, _, .nil => .nil
  | _, _, .cons ⟨_, e, h⟩ t => .cons (e ▸ .tup (SqT.of h) (.cons (.str _) (.cons (.str _) (.cons (.int _) .nil)))) (dpStacks t)
def dRl (r : Rl) : PyData := .tuple [.str r.letters, .tuple (r.prs.map dPr), .int r.span, .tuple (r.loops.map PyData.int), .tuple (r.stk.map dSt)]
theorem dp_rules {K : PySem.W.Frag} {H : Hp} {v : V} {r : Rl} (h : RulesAt H v r) : Dp K H v (dRl r) := by
  obtain ⟨a, vp, vl, vs, rfl, hA, ⟨ap, oz, us, rfl, hp, _, hP⟩, ⟨al, ls, rfl, hl, hL⟩, ⟨as, ss, rfl, hs, hS⟩⟩ := h
  refine .tup (SqT.of hA) (.cons (.str _) (.cons (.tup (SqT.fz hp) (dpPairs hP)) (.cons (.int _) (.cons (.tup (SqT.of hl) ?_) (.cons (.tup (SqT.of hs) (dpStacks hS)) .nil)))))
  rw [ints_of hL]
  exact dpInts r.loops
theorem sm_rules {r : Rl} (ok : RlOk r) : Sm 50000 3 (dRl r) := by
  refine Sm.tup (n := 5) (m := 5000) (k := 2) (Nat.le_refl _) (fun d hd => ?_) (by decide)
  simp only [List.mem_cons, List.not_mem_nil, or_false] at hd
  have h3 := ok.sp0
  have h4 := ok.sp3
  rcases hd with rfl | rfl | rfl | rfl | rfl
  · exact (Sm.str ok.small.ok ok.let6).le (by decide) (by decide)
  · exact (sm_prs ok.prs ok.pr).le (by decide) (by decide)
  · exact (Sm.int (by omega) (by omega)).le (by decide) (by decide)
  · refine (Sm.tup (n := 9) (m := 64) (k := 0) (by rw [List.length_map, ok.lo9]; exact Nat.le_refl _) (fun d hd => ?_) (Nat.le_refl _)).le (by decide) (by decide)
    obtain ⟨z, hz, rfl⟩ := List.mem_map.mp hd
    have := ok.lo z hz
    exact Sm.int (by omega) (by omega)
  · refine (Sm.tup (n := 12) (m := 200) (k := 1) (by rw [List.length_map]; exact ok.stk) (fun d hd => ?_) (Nat.le_refl _)).le (by decide) (by decide)
    obtain ⟨z, hz, rfl⟩ := List.mem_map.mp hd
    have hk := ok.st z hz
    refine Sm.tup (n := 3) (m := 64) (k := 0) (Nat.le_refl _) (fun d hd => ?_) (by decide)
    simp only [List.mem_cons, List.not_mem_nil, or_false] at hd
    rcases hd with rfl | rfl | rfl
    · exact (Sm.str hk.1.2.ok (Nat.le_of_eq hk.1.1)).le (by decide) (by decide)
    · exact (Sm.str hk.2.1.2.ok (Nat.le_of_eq hk.2.1.1)).le (by decide) (by decide)
    · exact Sm.int (by omega) (by omega)
def dRow (y : Row) : PyData := .tuple [.int y.1, .int y.2.1, .str y.2.2.1, .int y.2.2.2.1, .int y.2.2.2.2]
theorem dpRows {K : PySem.W.Frag} {H : Hp} : ∀ {vs : List V} {ps : List Row}, Paired (RowAt H) vs ps → DpAll K H vs (ps.map dRow)
  | _, _, .nil => .nil
  | _, _, .cons ⟨_, e, h⟩ t => .cons (e ▸ .tup (SqT.of h) (.cons (.int _) (.cons (.int _) (.cons (.str _) (.cons (.int _) (.cons (.int _) .nil)))))) (dpRows t)
theorem mul_bd {a b : Int} (a0 : 0 ≤ a) (a1 : a ≤ 1000) (b0 : -99 ≤ b) (b1 : b ≤ 99) : -99000 ≤ a * b ∧ a * b ≤ 99000 := by
  have h1 := Int.mul_le_mul_of_nonneg_left b1 a0
  have h2 := Int.mul_le_mul_of_nonneg_left b0 a0
  omega
theorem lpW_bound {r : Rl} (ok : RlOk r) {x : Str} {one : Int × Int} {ks : List (Int × Int)} (f0 : 0 ≤ freeI one ks) (f1 : freeI one ks ≤ 1000) (hk : ks.length ≤ 1000) : -1000000 < lpW r x one ks ∧ lpW r x one ks < 1000000 := by
  have l0 := lo_bound ok (show 0 < 9 by decide)
  have l1 := lo_bound ok (show 1 < 9 by decide)
  have l2 := lo_bound ok (show 2 < 9 by decide)
  have l3 := lo_bound ok (show 3 < 9 by decide)
  have l4 := lo_bound ok (show 4 < 9 by decide)
  have l5 := lo_bound ok (show 5 < 9 by decide)
  have l6 := lo_bound ok (show 6 < 9 by decide)
  have l7 := lo_bound ok (show 7 < 9 by decide)
  have m2 := mul_bd f0 f1 l2.1 l2.2
  have m4 := mul_bd (a := (ks.length : Int)) (by omega) (by omega) l4.1 l4.2
  have m5 := mul_bd f0 f1 l5.1 l5.2
  have m7 := mul_bd f0 f1 l7.1 l7.2
  have sw := swI_bound (fun y hy => (ok.st y hy).2.2) (tx2 x one) (tx2 x (ks.headD (0, 0)))
  unfold lpW
  split
  · omega
  · split
    · omega
    · split
      · omega
      · omega
theorem kind_ok (fr : Int) (n : Nat) : PyData.strOk (kindN fr n) = true ∧ (kindN fr n).length ≤ 64 := by
  unfold kindN
  split
  · exact ⟨by decide +kernel, by decide +kernel⟩
  · split
    · exact ⟨by decide +kernel, by decide +kernel⟩
    · split
      · exact ⟨by decide +kernel, by decide +kernel⟩
      · exact ⟨by decide +kernel, by decide +kernel⟩
theorem sm_row {r : Rl} (ok : RlOk r) {x : Str} {qs : List (Int × Int)} {hi : Int} (h : Fl 0 hi qs) (hh : hi < 900) (hq : qs.length ≤ 100) {one : Int × Int} (ho : one ∈ qs) : Sm 400 1 (dRow (lpR r x qs one)) := by
  have hb := h.bound one ho
  have hsep := kids_sep h (one := one) hb.2.1
  have hf := free_sep hsep
  have hkl := kids_len (qs := qs) (one := one)
  have hw := lpW_bound ok (x := x) (one := one) (ks := kidsOf qs one) hf.1 (by omega) (by omega)
  refine Sm.tup (n := 5) (m := 64) (k := 0) (Nat.le_refl _) (fun d hd => ?_) (by decide)
  simp only [List.mem_cons, List.not_mem_nil, or_false] at hd
  rcases hd with rfl | rfl | rfl | rfl | rfl
  · exact Sm.int (show _ < one.1 by omega) (show one.1 < _ by omega)
  · exact Sm.int (show _ < one.2 by omega) (show one.2 < _ by omega)
  · exact Sm.str (kind_ok _ _).1 (kind_ok _ _).2
  · exact Sm.int (show _ < freeI one (kidsOf qs one) by omega) (show freeI one (kidsOf qs one) < _ by omega)
  · exact Sm.int (show _ < lpW r x one (kidsOf qs one) by omega) (show lpW r x one (kidsOf qs one) < _ by omega)
theorem sm_rows {r : Rl} (ok : RlOk r) {x : Str} {qs : List (Int × Int)} {hi : Int} (h : Fl 0 hi qs) (hh : hi < 900) (hq : qs.length ≤ 100) : Sm 50000 2 (.list ((qs.map (lpR r x qs)).map dRow)) := by
  refine Sm.lst (n := 100) (m := 400) (k := 1) (by rw [List.length_map, List.length_map]; exact hq) (fun d hd => ?_) (by decide)
  obtain ⟨y, hy, rfl⟩ := List.mem_map.mp hd
  obtain ⟨one, ho, rfl⟩ := List.mem_map.mp hy
  exact sm_row ok h hh hq ho
theorem sm_twosT {ps : List (Int × Int)} (hn : ps.length ≤ 100) (h : Near ps) : Sm 20000 2 (.tuple (ps.map dTwo)) := by
  refine Sm.tup (n := 100) (m := 130) (k := 1) (by rw [List.length_map]; exact hn) (fun d hd => ?_) (by decide)
  obtain ⟨x, hx, rfl⟩ := List.mem_map.mp hd
  exact sm_two (h x hx)
def dKept (r : Rl) (ps : List (Int × Int)) : PyData := .tuple [dRl r, .tuple (ps.map dTwo)]
theorem sm_kept {r : Rl} (ok : RlOk r) {ps : List (Int × Int)} (hn : ps.length ≤ 100) (h : Near ps) : Sm 200000 4 (dKept r ps) := by
  refine Sm.tup (n := 2) (m := 60000) (k := 3) (Nat.le_refl _) (fun d hd => ?_) (by decide)
  simp only [List.mem_cons, List.not_mem_nil, or_false] at hd
  rcases hd with rfl | rfl
  · exact (sm_rules ok).le (by decide) (by decide)
  · exact (sm_twosT hn h).le (by decide) (by decide)
section
variable {P : Program} {w : World} {K : PySem.W.Frag} {mg : Str → Option Value} {base : Heap}
abbrev CPen (P : Program) (w : World) (K : PySem.W.Frag) (mg : Str → Option Value) (base : Heap) : Prop := Ca P w K mg base 1 "_law_pen" ["_law_script"] (spPen K)
abbrev CCode (P : Program) (w : World) (K : PySem.W.Frag) (mg : Str → Option Value) (base : Heap) : Prop := Ca P w K mg base 4 "_law_code" ["_law_pen_here"] spCode
abbrev CWord (P : Program) (w : World) (K : PySem.W.Frag) (mg : Str → Option Value) (base : Heap) : Prop := Ca P w K mg base 3 "_law_word" ["_law_pen_here", "_law_code_here", "_law_most"] spWord
abbrev CFold (P : Program) (w : World) (K : PySem.W.Frag) (mg : Str → Option Value) (base : Heap) : Prop := Ca P w K mg base 16 "_law_folded" ["_law_pen_here", "_law_code_here", "_law_word_here", "_law_first", "_law_last"] (spFold 13)
end
end Pf


namespace Pf
open PySem PySem.Spec PyProof.Rows L2
/-! ### what a folding is worth -/
def pwV : List (Str × Int) → Str → V
  | [], _ => .non
  | (t, x) :: r, b => if t = b then .int x else pwV r b
theorem pwV_at {prs : List (Str × Int)} {i : Nat} {t : Str} {x : Int} (h : prs[i]? = some (t, x)) (b : Str) : pwV (prs.drop i) b = if t = b then .int x else pwV (prs.drop (i + 1)) b := by
  obtain ⟨hi, e⟩ := List.getElem?_eq_some_iff.mp h
  rw [List.drop_eq_getElem_cons hi, e, pwV]
theorem pwV_end {prs : List (Str × Int)} {i : Nat} (h : prs.length ≤ i) (b : Str) : pwV (prs.drop i) b = .non := by
  rw [List.drop_eq_nil_of_le h, pwV]
def pwZ : List (Str × Int) → Str → Int
  | [], _ => 0
  | (t, x) :: r, b => if t = b then x else pwZ r b
theorem in_str {b : Str} {ts : List Str} : inV (.str b) (ts.map V.str) = true ↔ b ∈ ts := by
  unfold inV
  rw [List.any_map, List.any_eq_true]
  constructor
  · rintro ⟨t, ht, e⟩
    have e : (t == b) = true := e
    rw [beq_iff_eq] at e
    exact e ▸ ht
  · intro h
    refine ⟨b, h, ?_⟩
    show (b == b) = true
    rw [beq_iff_eq]
theorem pwV_in : ∀ {prs : List (Str × Int)} {b : Str}, b ∈ prs.map (·.1) → pwV prs b = .int (pwZ prs b)
  | [], _, h => by cases h
  | (t, x) :: r, b, h => by
    rw [pwV, pwZ]
    by_cases e : t = b
    · rw [if_pos e, if_pos e]
    · rw [if_neg e, if_neg e]
      rw [List.map_cons, List.mem_cons] at h
      rcases h with h | h
      · exact absurd h.symm e
      · exact pwV_in h
def encP (x : Str × Int) : Key × V := (.inr x.1, .int x.2)
theorem val_prs : ∀ {prs : List (Str × Int)} {b : Str}, b ∈ prs.map (·.1) → valV (prs.map encP) (.inr b) = some (.int (pwZ prs b))
  | [], _, h => by cases h
  | (t, x) :: r, b, h => by
    rw [List.map_cons, pwZ]
    by_cases e : t = b
    · rw [if_pos e, valV_pos (show (encP (t, x)).1 = Sum.inr b by rw [e]; rfl)]
      rfl
    · rw [if_neg e, valV_neg (show ¬ (encP (t, x)).1 = Sum.inr b from fun z => e (Sum.inr.inj z))]
      rw [List.map_cons, List.mem_cons] at h
      rcases h with h | h
      · exact absurd h.symm e
      · exact val_prs h
theorem merge_prs {prs : List (Str × Int)} (h : (prs.map (·.1)).Nodup) : mergeK [] (prs.map encP) = prs.map encP := by
  rw [merge_nd, List.nil_append]
  rw [List.nil_append, List.map_map]
  have e : ((fun x : Key × V => x.1) ∘ encP) = (fun x : Str × Int => (Sum.inr x.1 : Key)) := rfl
  rw [e]
  have e2 : (prs.map fun x : Str × Int => (Sum.inr x.1 : Key)) = (prs.map (·.1)).map Sum.inr := by
    rw [List.map_map]
    rfl
  rw [e2]
  exact List.Pairwise.map _ (fun a b z y => z (Sum.inr.inj y)) h
theorem may_in {r : Rl} {x : Str} {i j : Int} (h : mayB r x i j = true) : tx2 x (i, j) ∈ r.prs.map (·.1) := by
  unfold mayB at h
  rw [Bool.and_eq_true] at h
  exact in_str.mp h.2
theorem pwZ_bound {prs : List (Str × Int)} (h : ∀ y ∈ prs, -99 ≤ y.2 ∧ y.2 ≤ 99) (b : Str) : -99 ≤ pwZ prs b ∧ pwZ prs b ≤ 99 := by
  induction prs with
  | nil => exact ⟨by show -99 ≤ (0 : Int); decide, by show (0 : Int) ≤ 99; decide⟩
  | cons y r ih =>
    rw [pwZ]
    by_cases e : y.1 = b
    · rw [if_pos e]
      exact h y (List.mem_cons_self ..)
    · rw [if_neg e]
      exact ih fun z hz => h z (List.mem_cons_of_mem _ hz)
def pwS (r : Rl) (x : Str) (ys : List (Int × Int)) : Int := (ys.map fun y => pwZ r.prs (tx2 x y)).sum
def lpS (r : Rl) (x : Str) (qs ys : List (Int × Int)) : Int := (ys.map fun y => lpW r x y (kidsOf qs y)).sum
def WF (r : Rl) (x : Str) (qs : List (Int × Int)) : Int := pwS r x qs + lpS r x qs qs + ((outL qs).length : Int) * lo r 8
theorem out_none (qs : List (Int × Int)) : qs.filter (ins none) = qs := List.filter_eq_self.mpr fun _ _ => rfl
theorem sum_bd {α : Type} {f : α → Int} {B : Int} : ∀ {l : List α}, (∀ y ∈ l, -B ≤ f y ∧ f y ≤ B) → -(l.length * B) ≤ (l.map f).sum ∧ (l.map f).sum ≤ l.length * B
  | [], _ => by simp
  | y :: r, h => by
    have h1 := h y (List.mem_cons_self ..)
    have h2 := sum_bd (l := r) fun z hz => h z (List.mem_cons_of_mem _ hz)
    rw [List.map_cons, List.sum_cons, List.length_cons, Int.natCast_add, Int.add_mul]
    omega
theorem WF_bound {r : Rl} (ok : RlOk r) {x : Str} {qs : List (Int × Int)} {hi : Int} (h : Fl 0 hi qs) (hh : hi < 900) (hq : qs.length ≤ 100) : -1000000000 < WF r x qs ∧ WF r x qs < 1000000000 := by
  have h1 := sum_bd (f := fun y => pwZ r.prs (tx2 x y)) (B := 99) (l := qs) fun y _ => pwZ_bound (fun z hz => (ok.pr z hz).2) _
  have h2 := sum_bd (f := fun y => lpW r x y (kidsOf qs y)) (B := 1000000) (l := qs) fun y hy => by
    have hb := h.bound y hy
    have hf := free_sep (kids_sep h (one := y) hb.2.1)
    have hkl := kids_len (qs := qs) (one := y)
    have := lpW_bound ok (x := x) (one := y) (ks := kidsOf qs y) hf.1 (by omega) (by omega)
    omega
  have l8 := lo_bound ok (show 8 < 9 by decide)
  have ho : (outL qs).length ≤ qs.length := List.length_filter_le _ _
  have m8 := mul_bd (a := ((outL qs).length : Int)) (by omega) (by omega) l8.1 l8.2
  unfold WF pwS lpS
  omega
section
variable {P : Program} {w : World} {K : PySem.W.Frag} {mg : Str → Option Value} {base : Heap}
abbrev s_pair_worth : Stmt := topS 5
theorem sc_pair_worth : FnScope ["rules", "both", "text", "worth"] ["rules", "both"] (defScope s_pair_worth) :=
  ⟨rfl, rfl, rfl, by decide +kernel, rfl, by decide +kernel, by decide +kernel⟩
def spPW : Sp := fun vs H Q _ => ∃ (v : V) (r : Rl) (b : Str), vs = [v, .str b] ∧ RulesAt H v r ∧ Q (pwV r.prs b) H
theorem ok_pw {f : Addr} {fd : FuncData} {k : Nat} (F : Fun K "pair_worth" "pair_worth" s_pair_worth f fd) : FnOk P w K mg base CX0 (k + 1) f fd ["rules", "both"] spPW := by
  refine F.ok sc_pair_worth (fun vs H Q E h => ?_) (fun cdv A outer s H vs Q E hr h => ?_)
  · obtain ⟨v, r, b, rfl, _⟩ := h
    rfl
  · obtain ⟨v, r, b, rfl, ⟨a, vp, vl, vs, rfl, hA, ⟨ap, oz, us, rfl, hp, _, hR⟩, _, _⟩, q⟩ := h
    refine ⟨_, (pss_cons (ps_for PassesOwn.never rfl (pi_tup (pe_ix (ixT K) (pv 0) pe_int (fun _ _ => rfl))) (pg_tup rfl (pgs_cons (pg_name (i := 2) sc_pair_worth.nd rfl (.inl rfl)) (pgs_cons (pg_name (i := 3) sc_pair_worth.nd rfl (.inl rfl)) pgs_nil))) (pss_one (ps_if (pt_cmpR op_eq (pv 2) (pv 1) (nomark _)) (pss_one (ps_ret (pv 3))) pss_nil)))
      (pss_one (ps_ret pe_non))), ?_⟩
    have hlen := paired_len hR
    refine ⟨_, rfl, a, _, 1, _, rfl, rfl, SqT.of hA, rfl, ap, rfl, ⟨_, SqT.fz hp⟩, for_tup (xs := us) (fun i σ H2 => ∃ (y2 y3 : Option V), σ = [some (.ref a), some (.str b), y2, y3] ∧ H2 = H ∧ pwV (r.prs.drop i) b = pwV r.prs b)
      ⟨none, none, rfl, rfl, rfl⟩ (fun i σ H2 _ ⟨y2, y3, _, e, _⟩ => SqT.fz (o := oz) (by rw [e]; exact hp)) (fun i u σ H2 hi hv => ?_) (fun σ H2 hv => ?_)⟩
    · obtain ⟨y2, y3, rfl, rfl, hd⟩ := hv
      obtain ⟨⟨t, x⟩, hx, a1, rfl, ha1⟩ := paired_get hR hi
      rw [pwV_at hx] at hd
      refine ⟨a1, _, rfl, SqT.of ha1, rfl, _, _, rfl, _, _, rfl, rfl, ?_⟩
      refine ⟨_, rfl, _, rfl, rfl, _, rfl, ite2 (fun e => ?_) (fun e => ?_)⟩
      · have e2 : t = b := V.str.inj (of_decide_eq_true e)
        rw [if_pos e2] at hd
        refine ⟨_, rfl, ?_⟩
        show Q (.int x) _
        rw [hd]
        exact q
      · have e2 : ¬ t = b := fun z => e (decide_eq_true (congrArg V.str z))
        rw [if_neg e2] at hd
        exact ⟨_, _, rfl, rfl, hd⟩
    · obtain ⟨y2, y3, rfl, rfl, hd⟩ := hv
      rw [pwV_end (by omega)] at hd
      show Q .non _
      rw [hd]
      exact q
abbrev CPW (P : Program) (w : World) (K : PySem.W.Frag) (mg : Str → Option Value) (base : Heap) : Prop := Ca P w K mg base 1 "pair_worth" ["rules", "both"] spPW
abbrev CLoops (P : Program) (w : World) (K : PySem.W.Frag) (mg : Str → Option Value) (base : Heap) : Prop := Ca P w K mg base 3 "loops_of" ["rules", "string", "folding"] spLoops
abbrev s_worth_of : Stmt := topS 16
theorem sc_worth_of : FnScope ["rules", "string", "folding", "pairs", "loops", "pair", "loop"] ["rules", "string", "folding"] (defScope s_worth_of) :=
  ⟨rfl, rfl, rfl, by decide +kernel, rfl, by decide +kernel, by decide +kernel⟩
def spWO : Sp := fun vs H Q _ => ∃ (v vf : V) (r : Rl) (x : Str) (qs : List (Int × Int)) (hi : Int), vs = [v, .str x, vf] ∧ RulesAt H v r ∧ RlOk r ∧ x.length ≤ 1000 ∧ TupOf TwoAt H vf qs ∧ qs.length ≤ 1000 ∧ Fl 0 hi qs ∧ hi < x.length ∧ (∀ y ∈ qs, mayB r x y.1 y.2 = true) ∧ ∀ H', Ext H H' → Q (.int (WF r x qs)) H'
theorem ok_wo {f : Addr} {fd : FuncData} (F : Fun K "worth_of" "worth_of" s_worth_of f fd) (cpair_worth : CPW P w K mg base) (ctext_of : CTx P w K mg base) (cloops_of : CLoops P w K mg base) (cstraight_within : CWithin P w K mg base) (cloop_worths : CLW P w K mg base) (msum : mg "sum" = none) (mlen : mg "len" = none) : FnOk P w K mg base CX0 4 f fd ["rules", "string", "folding"] spWO := by
  refine F.ok sc_worth_of (fun vs H Q E h => ?_) (fun cdv A outer s H vs Q E hr h => ?_)
  · obtain ⟨v, vf, r, x, qs, hi, rfl, _⟩ := h
    rfl
  · obtain ⟨v, vf, r, x, qs, hi, rfl, hRu, ok, hx, ⟨af, fs, rfl, hF, hPf⟩, hql, hFl, hhi, hMy, q⟩ := h
    refine ⟨_, (pss_cons (ps_set (i := 3) sc_worth_of.nd rfl (.inl rfl) (pe_callB (sumI K) (by rfl) msum (by decide +kernel) (pa_cons (pe_lc (own := [("pair", 5)]) (g := gName 5) (by rfl) sc_worth_of.nd (pi_tup (pv 2)) (blkOk_by (own := [("pair", 5)]) (N := ["rules", "string", "folding", "pairs", "loops", "pair", "loop"]) (sc := defScope s_worth_of) (by decide +kernel)) (fun _ _ _ _ _ => (pg_name (i := 5) sc_worth_of.nd rfl (.inl rfl))) (fun _ _ _ _ _ => pts_nil) (fun _ _ _ _ _ => (pe_ca cpair_worth (hr.mono (by decide)) (by rfl) (pa_cons (pv 0) (pa_cons (pe_ca ctext_of (hr.mono (by decide)) (by rfl) (pa_cons (pv 1) (pa_cons (pv 5) pa_nil))) pa_nil))))) pa_nil)))
      (pss_cons (ps_set (i := 4) sc_worth_of.nd rfl (.inl rfl) (pe_callB (sumI K) (by rfl) msum (by decide +kernel) (pa_cons (pe_lc (own := [("loop", 6)]) (g := gName 6) (by rfl) sc_worth_of.nd (pi_list (pe_ca cloops_of (hr.mono (by decide)) (by rfl) (pa_cons (pv 0) (pa_cons (pv 1) (pa_cons (pv 2) pa_nil))))) (blkOk_by (own := [("loop", 6)]) (N := ["rules", "string", "folding", "pairs", "loops", "pair", "loop"]) (sc := defScope s_worth_of) (by decide +kernel)) (fun _ _ _ _ _ => (pg_name (i := 6) sc_worth_of.nd rfl (.inl rfl))) (fun _ _ _ _ _ => pts_nil) (fun _ _ _ _ _ => (pe_ix (ixT K) (pv 6) pe_int (fun _ _ => rfl)))) pa_nil)))
      (pss_one (ps_ret (pe_op op_add (pe_op op_add (pv 3) (pv 4)) (pe_op op_mul (pe_callB (lenQ K) (by rfl) mlen (by decide +kernel) (pa_cons (pe_ca cstraight_within (hr.mono (by decide)) (by rfl) (pa_cons (pv 2) (pa_cons pe_non pa_nil))) pa_nil)) (pe_dget (hu_of hr) (pe_ca cloop_worths (hr.mono (by decide)) (by rfl) (pa_cons (pv 0) pa_nil)) pe_str (fun _ _ => rfl)))))))), ?_⟩
    have hfl := paired_len hPf
    have hInX : InX x qs := fun y hy => by
      have := hFl.bound y hy
      omega
    refine ⟨_, rfl, af, rfl, ⟨_, SqT.of hF⟩, fun D hD => lc_tup (K := K) (xs := fs) (fun i H2 => H2 D = some (.lst (((qs.take i).map fun y => pwZ r.prs (tx2 x y)).map V.int)) ∧ Ext H H2)
      ⟨upd_same, Ext.new hD⟩ (fun i H2 _ ⟨_, k⟩ => SqT.of (k _ _ hF)) (fun i u H2 hi' hv => ?_) (fun H2 hv => ?_)⟩
    · obtain ⟨hL2, k2⟩ := hv
      obtain ⟨one, hone, a1, rfl, ha1⟩ := paired_get hPf hi'
      have hm1 := List.mem_of_getElem? hone
      have in1 := hInX one hm1
      have hil : i < fs.length := (List.getElem?_eq_some_iff.mp hi').1
      refine ⟨rfl, _, rfl, _, rfl, _, rfl, x, a1, one, rfl, k2 _ _ ha1, hx, in1.1, in1.2.1, in1.2.2.1, in1.2.2.2, v, r, _, rfl, RulesAt.mono _ _ _ _ (TupK.ext k2) hRu, ?_⟩
      rw [pwV_in (may_in (hMy one hm1))]
      refine ⟨_, hL2, szLt ?_, ?_, k2.put hD⟩
      · rw [List.length_map, List.length_map, List.length_take]
        omega
      · rw [upd_same, List.take_add_one, hone, List.map_append, List.map_append]
        rfl
    · obtain ⟨hL2, k2⟩ := hv
      rw [List.take_of_length_le (by omega)] at hL2
      refine ⟨D, _, rfl, SqL.of hL2, ?_⟩
      refine ⟨_, rfl, _, rfl, _, rfl, v, .ref af, r, x, qs, hi, rfl, RulesAt.mono _ _ _ _ (TupK.ext k2) hRu, ok, hx, ⟨af, fs, rfl, k2 _ _ hF, paired_imp (fun _ _ => TwoAt.mono _ _ _ _ (TupK.ext k2)) hPf⟩, hql, hFl, hhi, fun l us H3 hL3 hPr3 hl k3 => ?_⟩
      have hul := paired_len hPr3
      rw [List.length_map] at hul
      refine ⟨l, rfl, ⟨_, SqL.of hL3⟩, fun D2 hD2 => lc_list (K := K) (xs := us) (fun i H4 => H4 D2 = some (.lst (((qs.take i).map fun y => lpW r x y (kidsOf qs y)).map V.int)) ∧ Ext H3 H4)
        ⟨upd_same, Ext.new hD2⟩ (fun i H4 _ ⟨_, k⟩ => SqL.of (k _ _ hL3)) (fun i u H4 hi' hv => ?_) (fun H4 hv => ?_)⟩
      · obtain ⟨hL4, k4⟩ := hv
        obtain ⟨row, hrow, a1, rfl, ha1⟩ := paired_get hPr3 hi'
        have hil : i < us.length := (List.getElem?_eq_some_iff.mp hi').1
        obtain ⟨one, hone, e1⟩ : ∃ one, qs[i]? = some one ∧ lpR r x qs one = row := by
          rw [List.getElem?_map, List.getElem?_eq_getElem (show i < qs.length by omega)] at hrow
          exact ⟨_, List.getElem?_eq_getElem (show i < qs.length by omega), Option.some.inj hrow⟩
        subst e1
        refine ⟨rfl, _, rfl, a1, _, 4, _, rfl, rfl, SqT.of (k4 _ _ ha1), rfl, _, hL4, szLt ?_, ?_, k4.put hD2⟩
        · rw [List.length_map, List.length_map, List.length_take]
          omega
        · rw [upd_same, List.take_add_one, hone, List.map_append, List.map_append]
          rfl
      · obtain ⟨hL4, k4⟩ := hv
        rw [List.take_of_length_le (by omega)] at hL4
        have k04 := (k2.trans k3).trans k4
        refine ⟨D2, _, rfl, SqL.of hL4, ?_⟩
        refine ⟨_, rfl, _, rfl, _, _, rfl, rfl, _, rfl, .ref af, .non, qs, none, rfl, ⟨af, fs, rfl, k04 _ _ hF, paired_imp (fun _ _ => TwoAt.mono _ _ _ _ (TupK.ext k04)) hPf⟩, hql, rfl, fun l5 us5 H5 hl5 hL5 hPr5 k5 => ?_⟩
        rw [sw_inner hFl, out_none] at hPr5
        have h5l := paired_len hPr5
        have hol : (outL qs).length ≤ qs.length := List.length_filter_le _ _
        have l8 := lo_bound ok (show 8 < 9 by decide)
        refine ⟨l5, us5, rfl, .inl (SqL.of hL5), _, rfl, v, r, rfl, RulesAt.mono _ _ _ _ (TupK.ext (k04.trans k5)) hRu, ok.lo9, fun d hd => ?_⟩
        refine ⟨d, _, rfl, get_lo upd_same ok.lo9 (i := 8) (by decide +kernel), _, _, rfl, rfl, .inl ⟨by omega, by omega⟩, _, _, rfl, rfl, ?_⟩
        rw [h5l]
        exact q _ ((k04.trans k5).trans (Ext.new hd))
end
end Pf


namespace Pf
open PySem PySem.Spec PyProof.Rows L2
/-! ### brackets: what is asked -/
abbrev J (xs : List Str) : Str := Str.join "" xs
theorem join_cons (x : Str) (r : List Str) : J (x :: r) = x ++ J r := by
  cases r with
  | nil =>
    show x = x ++ Str.empty
    rw [Str.append_empty]
  | cons y z =>
    show x ++ "" ++ Str.join "" (y :: z) = x ++ Str.join "" (y :: z)
    have : ("" : Str) = Str.empty := by decide +kernel
    rw [this, Str.append_empty]
theorem join_snoc (y : Str) : ∀ xs : List Str, J (xs ++ [y]) = J xs ++ y
  | [] => by
    show y = Str.empty ++ y
    rw [Str.empty_append]
  | x :: r => by
    rw [List.cons_append, join_cons, join_cons, join_snoc y r, Str.append_assoc]
def Low (x : Str) : Prop := ∀ c ∈ x.cps.toList, c < 1000
theorem Low.app {a b : Str} (ha : Low a) (hb : Low b) : Low (a ++ b) := fun c h => by
  rw [Str.cps_append, Array.toList_append, List.mem_append] at h
  rcases h with h | h
  · exact ha c h
  · exact hb c h
theorem low_nil : Low Str.empty := fun c h => by cases h
theorem low_join : ∀ {xs : List Str}, (∀ x ∈ xs, Low x) → Low (J xs)
  | [], _ => low_nil
  | x :: r, h => by
    rw [join_cons]
    exact (h x (List.mem_cons_self ..)).app (low_join fun y hy => h y (List.mem_cons_of_mem _ hy))
theorem Low.ok {x : Str} (h : Low x) : PyData.strOk x = true := by
  show x.cps.all (· < 0x110000) = true
  rw [Array.all_eq_true_iff_forall_mem]
  intro c hc
  have := h c (Array.mem_toList_iff.mpr hc)
  exact decide_eq_true (by omega)
def sg (qs : List (Int × Int)) (k : Nat) : Str := if (qs.any fun x => decide (x.1 = (k : Int))) = true then "(" else if (qs.any fun x => decide (x.2 = (k : Int))) = true then ")" else "."
theorem sg_cases (qs : List (Int × Int)) (k : Nat) : sg qs k = "(" ∨ sg qs k = ")" ∨ sg qs k = "." := by
  unfold sg
  split
  · exact .inl rfl
  · split
    · exact .inr (.inl rfl)
    · exact .inr (.inr rfl)
theorem sg_low (qs : List (Int × Int)) (k : Nat) : Low (sg qs k) ∧ (sg qs k).length = 1 := by
  rcases sg_cases qs k with h | h | h <;> rw [h] <;> exact ⟨by unfold Low; decide +kernel, by decide +kernel⟩
def txt (qs : List (Int × Int)) (n : Nat) : Str := J ((List.range n).map (sg qs))
theorem txt_succ (qs : List (Int × Int)) (n : Nat) : txt qs (n + 1) = txt qs n ++ sg qs n := by
  unfold txt
  rw [List.range_succ, List.map_append, List.map_singleton, join_snoc]
theorem txt_low (qs : List (Int × Int)) (n : Nat) : Low (txt qs n) := low_join fun x hx => by
  obtain ⟨k, _, rfl⟩ := List.mem_map.mp hx
  exact (sg_low qs k).1
theorem txt_len (qs : List (Int × Int)) (n : Nat) : (txt qs n).length ≤ n := by
  induction n with
  | zero => exact Nat.le_refl 0
  | succ n ih =>
    rw [txt_succ, Str.length_append, (sg_low qs n).2]
    omega
/-- each place in one pair at most -/
structure Sep (qs : List (Int × Int)) : Prop where
  ne : ∀ x ∈ qs, ∀ y ∈ qs, x.1 ≠ y.2
  n1 : (qs.map (·.1)).Nodup
  n2 : (qs.map (·.2)).Nodup
theorem Sep.sub {qs rs : List (Int × Int)} (h : Sep qs) (s : rs.Sublist qs) : Sep rs := ⟨fun x hx y hy => h.ne x (s.subset hx) y (s.subset hy), (s.map _).nodup h.n1, (s.map _).nodup h.n2⟩
theorem Fl.sep {lo hi : Int} {ps : List (Int × Int)} (h : Fl lo hi ps) : Sep ps := by
  induction h with
  | nil => exact ⟨(fun x hx => by cases hx), List.nodup_nil, List.nodup_nil⟩
  | @cons lo hi i j A B h1 h2 h3 hA hB iA iB =>
    have bA := hA.bound
    have bB := hB.bound
    refine ⟨fun x hx y hy => ?_, ?_, ?_⟩
    · rcases List.mem_cons.mp hx with rfl | hx
      · rcases List.mem_cons.mp hy with rfl | hy
        · show i ≠ j
          omega
        · rcases List.mem_append.mp hy with hy | hy
          · have := bA y hy
            show i ≠ y.2
            omega
          · have := bB y hy
            show i ≠ y.2
            omega
      · rcases List.mem_cons.mp hy with rfl | hy
        · rcases List.mem_append.mp hx with hx | hx
          · have := bA x hx
            show x.1 ≠ j
            omega
          · have := bB x hx
            show x.1 ≠ j
            omega
        · rcases List.mem_append.mp hx with hx | hx <;> rcases List.mem_append.mp hy with hy | hy
          · exact iA.ne x hx y hy
          · have := bA x hx
            have := bB y hy
            omega
          · have := bB x hx
            have := bA y hy
            omega
          · exact iB.ne x hx y hy
    · rw [List.map_cons, List.map_append, List.nodup_cons, List.nodup_append]
      refine ⟨fun z => ?_, iA.n1, iB.n1, fun a ha b hb e => ?_⟩
      · rcases List.mem_append.mp z with z | z
        · obtain ⟨x, hx, e⟩ := List.mem_map.mp z
          have := bA x hx
          omega
        · obtain ⟨x, hx, e⟩ := List.mem_map.mp z
          have := bB x hx
          omega
      · obtain ⟨x, hx, rfl⟩ := List.mem_map.mp ha
        obtain ⟨y, hy, rfl⟩ := List.mem_map.mp hb
        have := bA x hx
        have := bB y hy
        omega
    · rw [List.map_cons, List.map_append, List.nodup_cons, List.nodup_append]
      refine ⟨fun z => ?_, iA.n2, iB.n2, fun a ha b hb e => ?_⟩
      · rcases List.mem_append.mp z with z | z
        · obtain ⟨x, hx, e⟩ := List.mem_map.mp z
          have := bA x hx
          omega
        · obtain ⟨x, hx, e⟩ := List.mem_map.mp z
          have := bB x hx
          omega
      · obtain ⟨x, hx, rfl⟩ := List.mem_map.mp ha
        obtain ⟨y, hy, rfl⟩ := List.mem_map.mp hb
        have := bA x hx
        have := bB y hy
        omega
/-- how many: none or one -/
theorem count_le {f : Int × Int → Int} {k : Int} : ∀ {qs : List (Int × Int)}, (qs.map f).Nodup → (qs.filter fun x => decide (f x = k)).length = if (qs.any fun x => decide (f x = k)) = true then 1 else 0
  | [], _ => rfl
  | x :: r, h => by
    rw [List.map_cons, List.nodup_cons] at h
    have ih := count_le (k := k) h.2
    rw [List.any_cons]
    by_cases e : f x = k
    · rw [List.filter_cons_of_pos (by simp [e]), decide_eq_true e, Bool.true_or, if_pos rfl, List.length_cons]
      have : r.filter (fun x => decide (f x = k)) = [] := List.filter_eq_nil_iff.mpr fun y hy z => h.1 (by
        rw [e, ← of_decide_eq_true z]
        exact List.mem_map.mpr ⟨y, hy, rfl⟩)
      rw [this]
      rfl
    · rw [List.filter_cons_of_neg (by simp [e]), decide_eq_false e, Bool.false_or]
      exact ih
theorem set_sg {qs : List (Int × Int)} {i j : Int} {n : Nat} (i0 : 0 ≤ i) (i1 : i < n) (j0 : 0 ≤ j) (j1 : j < n) (hij : i ≠ j) (hne : ∀ x ∈ qs, x.1 ≠ j) :
    ((((List.range n).map (sg qs)).set i.toNat "(").set j.toNat ")") = (List.range n).map (sg (qs ++ [(i, j)])) := by
  refine List.ext_getElem? fun k => ?_
  rw [List.getElem?_set, List.getElem?_set, List.getElem?_map, List.getElem?_map, List.length_set, List.length_map, List.length_range]
  by_cases hk : k < n
  · rw [List.getElem?_range hk]
    have eany : ∀ f : Int × Int → Int, ((qs ++ [(i, j)]).any fun x => decide (f x = (k : Int))) = ((qs.any fun x => decide (f x = (k : Int))) || decide (f (i, j) = (k : Int))) := fun f => by
      rw [List.any_append, List.any_cons, List.any_nil, Bool.or_false]
    by_cases ej : j.toNat = k
    · have ek : (k : Int) = j := by omega
      rw [if_pos ej, if_pos (by omega)]
      have h1 : (qs.any fun x => decide (x.1 = (k : Int))) = false := by
        rw [List.any_eq_false]
        intro x hx
        rw [ek]
        simp [hne x hx]
      show some (")" : Str) = some (sg _ k)
      unfold sg
      rw [eany (·.1), eany (·.2), h1, decide_eq_false (show ¬ i = (k : Int) by omega), decide_eq_true (show j = (k : Int) by omega)]
      simp
    · rw [if_neg ej]
      by_cases ei : i.toNat = k
      · rw [if_pos ei, if_pos (by omega)]
        show some ("(" : Str) = some (sg _ k)
        unfold sg
        rw [eany (·.1), decide_eq_true (show i = (k : Int) by omega)]
        simp
      · rw [if_neg ei]
        show some (sg qs k) = some (sg _ k)
        unfold sg
        rw [eany (·.1), eany (·.2), decide_eq_false (show ¬ i = (k : Int) by omega), decide_eq_false (show ¬ j = (k : Int) by omega), Bool.or_false, Bool.or_false]
  · rw [List.getElem?_eq_none (by rw [List.length_range]; omega)]
    have : ¬ j.toNat = k := by omega
    rw [if_neg this, if_neg (show ¬ i.toNat = k by omega)]
    rfl
theorem sg_nil (n : Nat) : (List.range n).map (sg []) = List.replicate n ("." : Str) := by
  refine List.ext_getElem? fun k => ?_
  by_cases hk : k < n
  · rw [List.getElem?_map, List.getElem?_range hk, List.getElem?_replicate, if_pos hk]
    rfl
  · rw [List.getElem?_eq_none (by rw [List.length_map, List.length_range]; omega), List.getElem?_eq_none (by rw [List.length_replicate]; omega)]
theorem flat_one (v : V) : ∀ n : Nat, (List.replicate n [v]).flatten = List.replicate n v
  | 0 => rfl
  | n + 1 => by
    rw [List.replicate_succ, List.flatten_cons, flat_one v n, List.replicate_succ]
    rfl
section
variable {P : Program} {w : World} {K : PySem.W.Frag} {mg : Str → Option Value} {base : Heap}
abbrev s_brackets : Stmt := topS 21
theorem sc_brackets : FnScope ["string", "folding", "signs", "i", "j"] ["string", "folding"] (defScope s_brackets) :=
  ⟨rfl, rfl, rfl, by decide +kernel, rfl, by decide +kernel, by decide +kernel⟩
def InW (x : Str) (qs : List (Int × Int)) : Prop := ∀ y ∈ qs, 0 ≤ y.1 ∧ y.1 < y.2 ∧ y.2 < x.length
def spBr : Sp := fun vs H Q _ => ∃ (x : Str) (v : V) (qs : List (Int × Int)), vs = [.str x, v] ∧ TupOf TwoAt H v qs ∧ Sep qs ∧ InW x qs ∧ x.length ≤ 1000 ∧ ∀ H', Ext H H' → Q (.str (txt qs x.length)) H'
theorem ok_br {f : Addr} {fd : FuncData} {k : Nat} (F : Fun K "brackets" "brackets" s_brackets f fd) (mlen : mg "len" = none) : FnOk P w K mg base CX0 (k + 1) f fd ["string", "folding"] spBr := by
  refine F.ok sc_brackets (fun vs H Q E h => ?_) (fun cdv A outer s H vs Q E hr h => ?_)
  · obtain ⟨x, v, qs, rfl, _⟩ := h
    rfl
  · obtain ⟨x, v, qs, rfl, ⟨af, fs, rfl, hF, hPs⟩, hsep, hin, hx, q⟩ := h
    refine ⟨_, (pss_cons (ps_set (i := 2) sc_brackets.nd rfl (.inl rfl) (pe_op op_rep (pe_lst (pa_cons pe_str pa_nil)) (pe_callB call_len_str (by rfl) mlen (by decide +kernel) (pa_cons (pv 0) pa_nil))))
      (pss_cons (ps_for PassesOwn.never rfl (pi_tup (pv 1)) (pg_tup rfl (pgs_cons (pg_name (i := 3) sc_brackets.nd rfl (.inl rfl)) (pgs_cons (pg_name (i := 4) sc_brackets.nd rfl (.inl rfl)) pgs_nil))) (pss_cons (ps_asg pe_str (pg_sub (pv 2) (pv 3) set_list))
      (pss_one (ps_asg pe_str (pg_sub (pv 2) (pv 4) set_list)))))
      (pss_one (ps_ret (pe_join pe_str (pv 2)))))), ?_⟩
    have hfl := paired_len hPs
    refine ⟨szL (show 1 ≤ 1000000 by decide), fun d hd => ⟨_, rfl, x, rfl, szL (by omega), d, _, _, rfl, rfl, upd_same, by omega, by omega, szL (by rw [List.length_singleton]; omega), fun l hl => ?_⟩⟩
    have hl0 : H l = none := Ext.none (Ext.new hd) hl
    have e2 := (Ext.new (o := .lst [.str "."]) hd).trans (Ext.new (o := .lst ((List.replicate (x.length : Int).toNat [V.str "."]).flatten)) hl)
    refine ⟨_, rfl, af, rfl, ⟨_, SqT.of (e2 _ _ hF)⟩, for_tup (xs := fs) (fun i σ H2 => ∃ (y3 y4 : Option V), σ = [some (.str x), some (.ref af), some (.ref l), y3, y4] ∧ H2 l = some (.lst (((List.range x.length).map (sg (qs.take i))).map V.str)) ∧ Ext H H2)
      ⟨none, none, rfl, ?_, e2⟩ (fun i σ H2 _ ⟨_, _, _, _, k⟩ => SqT.of (k _ _ hF)) (fun i u σ H2 hi hv => ?_) (fun σ H2 hv => ?_)⟩
    · rw [upd_same, flat_one, List.take_zero, sg_nil, List.map_replicate]
      rfl
    · obtain ⟨y3, y4, rfl, hL2, k2⟩ := hv
      obtain ⟨⟨a, b⟩, hxq, a1, rfl, ha1⟩ := paired_get hPs hi
      have hm := List.mem_of_getElem? hxq
      obtain ⟨b1, b2, b3⟩ : 0 ≤ a ∧ a < b ∧ b < x.length := hin (a, b) hm
      have hln : (((List.range x.length).map (sg (qs.take i))).map V.str).length = x.length := by
        rw [List.length_map, List.length_map, List.length_range]
      refine ⟨a1, _, rfl, SqT.of (k2 _ _ ha1), rfl, _, _, rfl, _, _, rfl, rfl, ?_⟩
      refine ⟨_, rfl, _, rfl, l, _, _, _, rfl, rfl, hL2, ixN_at b1 (by omega), ?_⟩
      refine ⟨_, rfl, _, rfl, l, _, _, _, rfl, rfl, upd_same, ixN_at (by omega) (by rw [List.length_set]; omega), ?_⟩
      refine ⟨_, _, rfl, ?_, (k2.put hl0).put hl0⟩
      rw [upd_same, List.take_add_one, hxq]
      show some (HO.lst (((((List.range x.length).map (sg (qs.take i))).map V.str).set a.toNat (.str "(")).set b.toNat (.str ")"))) = some (HO.lst (((List.range x.length).map (sg (qs.take i ++ [(a, b)]))).map V.str))
      rw [← set_sg b1 (by omega) (by omega) b3 (by omega) (fun y hy => hsep.ne y (List.mem_of_mem_take hy) (a, b) hm), List.map_set, List.map_set]
    · obtain ⟨y3, y4, rfl, hL2, k2⟩ := hv
      rw [List.take_of_length_le (by omega)] at hL2
      have h1 : ∀ y ∈ (List.range x.length).map (sg qs), y.length ≤ 1 := fun y hy => by
        obtain ⟨k, _, rfl⟩ := List.mem_map.mp hy
        exact Nat.le_of_eq (sg_low qs k).2
      refine ⟨⟨_, rfl⟩, _, rfl, "", l, _, rfl, rfl, .inl (SqL.of hL2), fits_join (k := 1000) (m := 1) (by rw [List.length_map, List.length_range]; exact hx) h1 (by decide), ?_⟩
      rw [join_str]
      exact q H2 k2
end
end Pf


namespace Pf
open PySem PySem.Spec PyProof.Rows L2
/-! ### pairs of brackets that match: by a pile, by innermost ones -/
def run : List Int → List (Nat × Int) → Option (List (Int × Int))
  | b, [] => if b = [] then some [] else none
  | b, (c, i) :: r => if c = 40 then run (i :: b) r else if c = 41 then (match b with
    | [] => none
    | p :: b' => (run b' r).map ((p, i) :: ·)) else none
theorem run_nil (b : List Int) : run b [] = if b = [] then some [] else none := by
  rw [run.eq_def]
theorem run_cons (b : List Int) (c : Nat) (i : Int) (r : List (Nat × Int)) : run b ((c, i) :: r) = if c = 40 then run (i :: b) r else if c = 41 then (match b with
    | [] => none
    | p :: b' => (run b' r).map ((p, i) :: ·)) else none := by
  rw [run.eq_def]
def toks : Nat → List Nat → List (Nat × Int)
  | _, [] => []
  | k, c :: r => if c = 46 then toks (k + 1) r else (c, (k : Int)) :: toks (k + 1) r
theorem run_cut {p q : Int} {Y : List (Nat × Int)} : ∀ (X : List (Nat × Int)) (b : List Int), (run b (X ++ Y) = none → run b (X ++ (40, p) :: (41, q) :: Y) = none) ∧ ∀ ps, run b (X ++ Y) = some ps → ∃ ps', run b (X ++ (40, p) :: (41, q) :: Y) = some ps' ∧ ps'.Perm ((p, q) :: ps)
  | [], b => by
    have e : run b ([] ++ (40, p) :: (41, q) :: Y) = (run b Y).map ((p, q) :: ·) := by
      rw [List.nil_append, run_cons, if_pos rfl, run_cons, if_neg (by decide), if_pos rfl]
    rw [e, List.nil_append]
    refine ⟨fun h => by rw [h]; rfl, fun ps h => ⟨(p, q) :: ps, by rw [h]; rfl, List.Perm.refl _⟩⟩
  | (c, i) :: X, b => by
    rw [List.cons_append, List.cons_append, run_cons, run_cons]
    by_cases h1 : c = 40
    · rw [if_pos h1, if_pos h1]
      exact run_cut X (i :: b)
    · rw [if_neg h1, if_neg h1]
      by_cases h2 : c = 41
      · rw [if_pos h2, if_pos h2]
        cases b with
        | nil => exact ⟨fun _ => rfl, fun ps h => by cases h⟩
        | cons z b' =>
          have ih := run_cut (p := p) (q := q) (Y := Y) X b'
          dsimp only
          refine ⟨fun h => ?_, fun ps h => ?_⟩
          · cases e : run b' (X ++ Y) with
            | none => show (run b' _).map _ = none; rw [ih.1 e]; rfl
            | some r => rw [e] at h; cases h
          · cases e : run b' (X ++ Y) with
            | none => rw [e] at h; cases h
            | some r =>
              rw [e] at h
              obtain ⟨ps', h1, h2⟩ := ih.2 r e
              have hp : ps = (z, i) :: r := (Option.some.inj h).symm
              refine ⟨(z, i) :: ps', by show (run b' _).map _ = _; rw [h1]; rfl, ?_⟩
              rw [hp]
              exact (List.Perm.cons _ h2).trans (List.Perm.swap _ _ _)
      · rw [if_neg h2, if_neg h2]
        exact ⟨fun _ => rfl, fun ps h => by cases h⟩
def NoAdj (L : List (Nat × Int)) : Prop := ∀ (k : Nat) (x y : Nat × Int), L[k]? = some x → L[k + 1]? = some y → ¬ (x.1 = 40 ∧ y.1 = 41)
theorem run_dead : ∀ (L : List (Nat × Int)) (b : List Int), L ≠ [] → NoAdj L → (b = [] ∨ ∀ x, L[0]? = some x → x.1 ≠ 41) → run b L = none
  | [], _, h, _, _ => absurd rfl h
  | (c, i) :: r, b, _, hN, hb => by
    rw [run_cons]
    by_cases h1 : c = 40
    · rw [if_pos h1]
      cases r with
      | nil => rw [run_nil, if_neg (by intro z; cases z)]
      | cons y r' =>
        refine run_dead (y :: r') (i :: b) (by intro z; cases z) (fun k x z hx hz => hN (k + 1) x z hx hz) (.inr fun x hx e => ?_)
        exact hN 0 (c, i) x rfl hx ⟨h1, e⟩
    · rw [if_neg h1]
      by_cases h2 : c = 41
      · rw [if_pos h2]
        rcases hb with rfl | hb
        · rfl
        · exact absurd h2 (hb (c, i) rfl)
      · rw [if_neg h2]
def le2 (p q : Int × Int) : Bool := decide (p.1 < q.1 ∨ (p.1 = q.1 ∧ p.2 ≤ q.2))
def srt (ps : List (Int × Int)) : List (Int × Int) := ps.mergeSort le2
theorem le2_trans (a b c : Int × Int) (h1 : le2 a b = true) (h2 : le2 b c = true) : le2 a c = true := by
  have h1 := of_decide_eq_true h1
  have h2 := of_decide_eq_true h2
  exact decide_eq_true (by omega)
theorem le2_total (a b : Int × Int) : (le2 a b || le2 b a) = true := by
  rw [Bool.or_eq_true]
  by_cases h : a.1 < b.1 ∨ (a.1 = b.1 ∧ a.2 ≤ b.2)
  · exact .inl (decide_eq_true h)
  · exact .inr (decide_eq_true (by omega))
theorem srt_unique {L M : List (Int × Int)} (h1 : L.Pairwise (fun a b => le2 a b = true)) (h2 : M.Pairwise (fun a b => le2 a b = true)) (h : L.Perm M) : L = M :=
  List.Perm.eq_of_pairwise (fun a b _ _ x y => by
    have x := of_decide_eq_true x
    have y := of_decide_eq_true y
    exact Prod.ext (by omega) (by omega)) h1 h2 h
theorem srt_pw (ps : List (Int × Int)) : (srt ps).Pairwise (fun a b => le2 a b = true) := List.pairwise_mergeSort le2_trans le2_total ps
theorem srt_perm {F ps : List (Int × Int)} (h : F.Perm ps) : srt F = srt ps :=
  srt_unique (srt_pw F) (srt_pw ps) (((List.mergeSort_perm F le2).trans h).trans (List.mergeSort_perm ps le2).symm)
theorem twos_zip {H : Hp} : ∀ {vs : List V} {ps : List (Int × Int)}, Paired (TwoAt H) vs ps → ∃ bes : List (Addr × (Int × Int)), bes.map (fun x => V.ref x.1) = vs ∧ bes.map (·.2) = ps ∧ ∀ x ∈ bes, H x.1 = some (.tup [.int x.2.1, .int x.2.2])
  | _, _, .nil => ⟨[], rfl, rfl, fun x h => by cases h⟩
  | _, _, .cons (b := y) ⟨a, e, ha⟩ t => by
    obtain ⟨bes, h1, h2, h3⟩ := twos_zip t
    refine ⟨(a, y) :: bes, by rw [List.map_cons, h1, e], by rw [List.map_cons, h2], fun x hx => ?_⟩
    rcases List.mem_cons.mp hx with rfl | hx
    · exact ha
    · exact h3 x hx
theorem paired_of {H : Hp} : ∀ {bes : List (Addr × (Int × Int))}, (∀ x ∈ bes, H x.1 = some (.tup [.int x.2.1, .int x.2.2])) → Paired (TwoAt H) (bes.map fun x => V.ref x.1) (bes.map (·.2))
  | [], _ => .nil
  | x :: r, h => .cons ⟨x.1, rfl, h x (List.mem_cons_self ..)⟩ (paired_of fun y hy => h y (List.mem_cons_of_mem _ hy))
/-- sorted(pairs), as cr_sortD asks it -/
theorem sort_twos {K : PySem.W.Frag} {H : Hp} {l : Addr} {vs : List V} {ps : List (Int × Int)} {Q : VK} (hL : H l = some (.lst vs)) (hPr : Paired (TwoAt H) vs ps) (q : ∀ (p : Addr) (us : List V), H p = none → Paired (TwoAt (upd H p (.lst us))) us (srt ps) → us.length = vs.length → Q (.ref p) (upd H p (.lst us))) : rSortD K [.ref l] H Q := by
  obtain ⟨bes, h1, h2, h3⟩ := twos_zip hPr
  refine ⟨_, fun x => V.ref x.1, fun x => .tuple [.int x.2.1, .int x.2.2], l, bes, rfl, SqL.of (by rw [h1]; exact hL), fun x hx => ⟨.tup (SqT.of (h3 x hx)) (.cons (.int _) (.cons (.int _) .nil)), by simp [PyData.depth, PyData.depthAll]⟩, ?_, .inl ?_, fun p hp => ?_⟩
  · intro d1 e1 d2 e2
    obtain ⟨x1, _, rfl⟩ := List.mem_map.mp e1
    obtain ⟨x2, _, rfl⟩ := List.mem_map.mp e2
    simp [PySem.W.alike, PySem.W.alikeAll]
  · intro d1 e1
    obtain ⟨x1, _, rfl⟩ := List.mem_map.mp e1
    exact ⟨_, _, rfl⟩
  · have ele : PySem.W.dataLe false (fun x : Addr × (Int × Int) => PyData.tuple [.int x.2.1, .int x.2.2]) = fun p q => le2 p.2 q.2 := PySem.W.dataLe_ii (fun x : Addr × (Int × Int) => x.2.1) (fun x : Addr × (Int × Int) => x.2.2)
    rw [ele]
    have hp0 : (bes.mergeSort fun p q => le2 p.2 q.2).Perm bes := List.mergeSort_perm _ _
    have hp1 : ((bes.mergeSort fun p q => le2 p.2 q.2).map (·.2)).Perm ps := by
      have z := hp0.map (fun x : Addr × (Int × Int) => x.2)
      rw [h2] at z
      exact z
    have hpw : ((bes.mergeSort fun p q => le2 p.2 q.2).map (·.2)).Pairwise (fun a b => le2 a b = true) := by
      rw [List.pairwise_map]
      exact List.pairwise_mergeSort (fun a b c => le2_trans a.2 b.2 c.2) (fun a b => le2_total a.2 b.2) bes
    have hs : (bes.mergeSort fun p q => le2 p.2 q.2).map (·.2) = srt ps := srt_unique hpw (srt_pw ps) (hp1.trans (List.mergeSort_perm ps le2).symm)
    refine q p _ hp ?_ ?_
    · rw [← hs]
      exact paired_of fun x hx => Ext.new hp _ _ (h3 x (hp0.mem_iff.mp hx))
    · rw [List.length_map, List.length_mergeSort, ← h1, List.length_map]
def ResAt (H : Hp) (v : V) (o : Option (List (Int × Int))) : Prop := match o with
  | none => v = .non
  | some qs => TupOf TwoAt H v qs
def ask (x : Str) : Option (List (Int × Int)) := (run [] (toks 0 x.cps.toList)).map srt
theorem one_is (c d : Nat) : (decide ((V.str ⟨#[c]⟩ : V) = V.str ⟨#[d]⟩)) = decide (c = d) := by
  by_cases h : c = d
  · rw [h]
    simp
  · rw [decide_eq_false h, decide_eq_false]
    intro z
    injection z with z
    injection z with z
    injection z with z
    injection z with z
    exact h z
theorem sign_o : (Str.ofString "(") = ⟨#[40]⟩ := by decide +kernel
theorem sign_c : (Str.ofString ")") = ⟨#[41]⟩ := by decide +kernel
theorem sign_d : (Str.ofString ".") = ⟨#[46]⟩ := by decide +kernel
theorem drop_at {x : Str} {i c : Nat} (h : x.cps[i]? = some c) : x.cps.toList.drop i = c :: x.cps.toList.drop (i + 1) := by
  have h2 : x.cps.toList[i]? = some c := by
    rw [Array.getElem?_toList]
    exact h
  obtain ⟨hi, e⟩ := List.getElem?_eq_some_iff.mp h2
  rw [List.drop_eq_getElem_cons hi, e]
section
variable {P : Program} {w : World} {K : PySem.W.Frag} {mg : Str → Option Value} {base : Heap}
end
end Pf


namespace Pf
open PySem PySem.Spec PyProof.Rows L2
/-! ### who may pair, and what is a folding, of a tuple of pairs of numbers -/
def mayP (r : Rl) (x : Str) (i j : Int) : Bool := decide (0 ≤ i ∧ i < j ∧ j < x.length) && mayB r x i j
theorem pwV_no : ∀ {prs : List (Str × Int)} {b : Str}, b ∉ prs.map (·.1) → pwV prs b = .non
  | [], _, _ => rfl
  | (t, x) :: r, b, h => by
    rw [List.map_cons, List.mem_cons] at h
    rw [pwV, if_neg (fun z => h (.inl z.symm))]
    exact pwV_no fun z => h (.inr z)
theorem pwV_is (prs : List (Str × Int)) (b : Str) : (!decide (pwV prs b = .non)) = inV (.str b) ((prs.map (·.1)).map V.str) := by
  by_cases h : b ∈ prs.map (·.1)
  · rw [pwV_in h, in_str.mpr h, decide_eq_false (fun z => by cases z)]
    rfl
  · rw [pwV_no h, Bool.eq_false_iff.mpr (fun z => h (in_str.mp z)), decide_eq_true rfl]
    rfl
def lt2 (a b : Int × Int) : Bool := decide (a.1 < b.1 ∨ (a.1 = b.1 ∧ a.2 < b.2))
def go2 (p q : Int × Int) : Bool := decide (p.2 < q.1) || decide (q.2 < p.2)
def risL (qs : List (Int × Int)) : List Bool := (qs.zip (qs.drop 1)).map fun z => lt2 z.1 z.2
def goL : List (Int × Int) → List Bool
  | [] => []
  | p :: r => r.map (go2 p) ++ goL r
def isF (r : Rl) (x : Str) (qs : List (Int × Int)) : Bool := (qs.map fun y => mayP r x y.1 y.2).all id && ((risL qs).all id && (goL qs).all id)
theorem goL_len : ∀ qs : List (Int × Int), (goL qs).length ≤ qs.length * qs.length
  | [] => Nat.le_refl _
  | p :: r => by
    have h := goL_len r
    rw [goL, List.length_append, List.length_map, List.length_cons, Nat.succ_mul, Nat.mul_succ]
    omega
theorem goL_at {qs : List (Int × Int)} {i : Nat} {p : Int × Int} (h : qs[i]? = some p) : goL (qs.drop i) = (qs.drop (i + 1)).map (go2 p) ++ goL (qs.drop (i + 1)) := by
  obtain ⟨hi, e⟩ := List.getElem?_eq_some_iff.mp h
  rw [List.drop_eq_getElem_cons hi, e, goL]
section
variable {P : Program} {w : World} {K : PySem.W.Frag} {mg : Str → Option Value} {base : Heap}
abbrev s_may_pair : Stmt := topS 9
theorem sc_may_pair : FnScope ["rules", "string", "i", "j"] ["rules", "string", "i", "j"] (defScope s_may_pair) :=
  ⟨rfl, rfl, rfl, by decide +kernel, rfl, by decide +kernel, by decide +kernel⟩
def spMP : Sp := fun vs H Q _ => ∃ (v : V) (r : Rl) (x : Str) (i j : Int), vs = [v, .str x, .int i, .int j] ∧ RulesAt H v r ∧ x.length ≤ 1000 ∧ ∀ H', Ext H H' → Q (.bl (mayP r x i j)) H'
theorem ok_mp {f : Addr} {fd : FuncData} (F : Fun K "may_pair" "may_pair" s_may_pair f fd) (ctext_of : CTx P w K mg base) (cpair_worth : CPW P w K mg base) (mlen : mg "len" = none) : FnOk P w K mg base CX0 2 f fd ["rules", "string", "i", "j"] spMP := by
  refine F.ok sc_may_pair (fun vs H Q E h => ?_) (fun cdv A outer s H vs Q E hr h => ?_)
  · obtain ⟨v, r, x, i, j, rfl, _⟩ := h
    rfl
  · obtain ⟨v, r, x, i, j, rfl, hR, hx, q⟩ := h
    obtain ⟨a, vp, vl, vs, rfl, hA, hp, hl, hs⟩ := id hR
    refine ⟨_, (pss_cons (ps_if (pt_not (pt_chain3 op_le op_lt op_lt pe_int (pv 2) (pv 3) (pe_callB call_len_str (by rfl) mlen (by decide +kernel) (pa_cons (pv 1) pa_nil)))) (pss_one (ps_ret pe_bl)) pss_nil)
      (pss_cons (ps_if (pt_cmpR op_lt (pe_op op_sub (pe_op op_sub (pv 3) (pv 2)) pe_int) (pe_ix (ixT K) (pv 0) pe_int (fun _ _ => rfl)) (nomark _)) (pss_one (ps_ret pe_bl)) pss_nil)
      (pss_one (ps_ret (pe_cmpR op_notN (pe_ca cpair_worth (hr.mono (by decide)) (by rfl) (pa_cons (pv 0) (pa_cons (pe_ca ctext_of (hr.mono (by decide)) (by rfl) (pa_cons (pv 1) (pa_cons (pe_tup (pa_cons (pv 2) (pa_cons (pv 3) pa_nil))) pa_nil))) pa_nil))) pe_non (nomark _)))))), ?_⟩
    have qF : ¬ (0 ≤ i ∧ i < j ∧ j < x.length) → Q (.bl false) H := fun h => by
      have e : mayP r x i j = false := by
        unfold mayP
        rw [decide_eq_false h]
        rfl
      rw [← e]
      exact q H Ext.refl
    refine ⟨_, rfl, 0, i, rfl, rfl, _, rfl, ite2 (fun e1 => ?_) (fun e1 => ?_)⟩
    · have e1 : 0 ≤ i := of_decide_eq_true e1
      refine ⟨_, rfl, i, j, rfl, rfl, _, rfl, ite2 (fun e2 => ?_) (fun e2 => ?_)⟩
      · have e2 : i < j := of_decide_eq_true e2
        refine ⟨_, rfl, x, rfl, szL (by omega), _, _, rfl, rfl, _, rfl, ?_⟩
        by_cases e3 : j < x.length
        · rw [decide_eq_true e3]
          refine iteF ⟨_, rfl, _, rfl, _, _, rfl, rfl, _, 1, rfl, rfl, _, rfl, a, _, 2, _, rfl, rfl, SqT.of hA, rfl, _, _, rfl, rfl, _, rfl, ite2 (fun e4 => ?_) (fun e4 => ?_)⟩
          · have e4 : j - i - 1 < r.span := of_decide_eq_true e4
            have e : mayP r x i j = false := by
              unfold mayP mayB
              rw [decide_eq_false (show ¬ r.span ≤ j - i - 1 by omega), Bool.false_and, Bool.and_false]
            have := q H Ext.refl
            rw [e] at this
            exact this
          · have e4 : ¬ j - i - 1 < r.span := fun z => e4 (decide_eq_true z)
            refine ⟨_, rfl, _, rfl, _, rfl, _, rfl, szL (show 2 ≤ 1000000 by decide), fun t ht => ?_⟩
            refine ⟨x, t, (i, j), rfl, upd_same, hx, e1, (show i < x.length by omega), (show 0 ≤ j by omega), e3, ?_⟩
            refine ⟨_, r, _, rfl, RulesAt.mono _ _ _ _ (TupK.new ht) hR, rfl, ?_⟩
            have e : mayP r x i j = !decide (pwV r.prs (tx2 x (i, j)) = .non) := by
              unfold mayP mayB
              rw [decide_eq_true (show 0 ≤ i ∧ i < j ∧ j < x.length from ⟨e1, e2, e3⟩), decide_eq_true (show r.span ≤ j - i - 1 by omega), Bool.true_and, Bool.true_and, pwV_is]
              rfl
            have := q _ (Ext.new (o := .tup [.int i, .int j]) ht)
            rw [e] at this
            exact this
        · rw [decide_eq_false e3]
          exact iteT (qF fun h => e3 h.2.2)
      · refine ⟨_, rfl, ?_⟩
        exact iteT (qF fun h => e2 (decide_eq_true h.2.1))
    · refine ⟨_, rfl, ?_⟩
      exact iteT (qF fun h => e1 (decide_eq_true h.1))
abbrev s_is_whole : Stmt := topS 2
theorem sc_is_whole : FnScope ["thing"] ["thing"] (defScope s_is_whole) :=
  ⟨rfl, rfl, rfl, by decide +kernel, rfl, by decide +kernel, by decide +kernel⟩
def spWhI : Sp := fun vs H Q _ => ∃ i : Int, vs = [.int i] ∧ Q (.bl true) H
theorem ok_whI {f : Addr} {fd : FuncData} {k : Nat} (F : Fun K "is_whole" "is_whole" s_is_whole f fd) (misinstance : mg "isinstance" = none) (mint : mg "int" = none) (mbool : mg "bool" = none) : FnOk P w K mg base CX0 (k + 1) f fd ["thing"] spWhI := by
  refine F.ok sc_is_whole (fun vs H Q E h => ?_) (fun cdv A outer s H vs Q E hr h => ?_)
  · obtain ⟨i, rfl, _⟩ := h
    rfl
  · obtain ⟨i, rfl, q⟩ := h
    refine ⟨_, (pss_one (ps_ret (pe_and (pe_callB (isi1 K) (by rfl) misinstance (by decide +kernel) (pa_cons (pv 0) (pa_cons (pe_bltn (v := .ty "int") (by rfl) mint (by decide +kernel) rfl) pa_nil))) (pe_one (pe_not (pe_callB (isi1 K) (by rfl) misinstance (by decide +kernel) (pa_cons (pv 0) (pa_cons (pe_bltn (v := .ty "bool") (by rfl) mbool (by decide +kernel) rfl) pa_nil)))))))), ?_⟩
    refine ⟨_, rfl, .int i, .ty "int", _, _, true, rfl, .ty _, .base (.int i), kit_ty (by decide +kernel), true, rfl, iteT ?_⟩
    exact ⟨_, rfl, .int i, .ty "bool", _, _, false, rfl, .ty _, .base (.int i), kit_ty (by decide +kernel), false, rfl, q⟩
abbrev s_is_row : Stmt := topS 3
theorem sc_is_row : FnScope ["thing", "size"] ["thing", "size"] (defScope s_is_row) :=
  ⟨rfl, rfl, rfl, by decide +kernel, rfl, by decide +kernel, by decide +kernel⟩
def spRow2 : Sp := fun vs H Q _ => ∃ (t : Addr) (xs : List V) (n : Int), vs = [.ref t, .int n] ∧ H t = some (.tup xs) ∧ Q (.bl (decide ((xs.length : Int) = n))) H
theorem ok_row2 {f : Addr} {fd : FuncData} {k : Nat} (F : Fun K "is_row" "is_row" s_is_row f fd) (misinstance : mg "isinstance" = none) (mtuple : mg "tuple" = none) (mlen : mg "len" = none) : FnOk P w K mg base CX0 (k + 1) f fd ["thing", "size"] spRow2 := by
  refine F.ok sc_is_row (fun vs H Q E h => ?_) (fun cdv A outer s H vs Q E hr h => ?_)
  · obtain ⟨t, xs, n, rfl, _⟩ := h
    rfl
  · obtain ⟨t, xs, n, rfl, hT, q⟩ := h
    refine ⟨_, (pss_one (ps_ret (pe_and (pe_callB (isi1 K) (by rfl) misinstance (by decide +kernel) (pa_cons (pv 0) (pa_cons (pe_bltn (v := .ty "tuple") (by rfl) mtuple (by decide +kernel) rfl) pa_nil))) (pe_one (pe_cmpR op_eq (pe_callB (lenQ K) (by rfl) mlen (by decide +kernel) (pa_cons (pv 0) pa_nil)) (pv 1) (nomark _)))))), ?_⟩
    refine ⟨_, rfl, .ref t, .ty "tuple", _, _, true, rfl, .ty _, .base (.tup hT), kit_ty (by decide +kernel), true, rfl, iteT ?_⟩
    refine ⟨_, rfl, t, xs, rfl, .inr (SqT.of hT), _, rfl, rfl, ?_⟩
    have e : decide ((V.int (xs.length : Nat)) = V.int n) = decide ((xs.length : Int) = n) := decide_eq_decide.mpr ⟨V.int.inj, congrArg V.int⟩
    rw [e]
    exact q
abbrev CWhI (P : Program) (w : World) (K : PySem.W.Frag) (mg : Str → Option Value) (base : Heap) : Prop := Ca P w K mg base 1 "is_whole" ["thing"] spWhI
abbrev CRow2 (P : Program) (w : World) (K : PySem.W.Frag) (mg : Str → Option Value) (base : Heap) : Prop := Ca P w K mg base 1 "is_row" ["thing", "size"] spRow2
abbrev CMP (P : Program) (w : World) (K : PySem.W.Frag) (mg : Str → Option Value) (base : Heap) : Prop := Ca P w K mg base 2 "may_pair" ["rules", "string", "i", "j"] spMP
abbrev s_is_pair : Stmt := topS 18
theorem sc_is_pair : FnScope ["rules", "string", "thing"] ["rules", "string", "thing"] (defScope s_is_pair) :=
  ⟨rfl, rfl, rfl, by decide +kernel, rfl, by decide +kernel, by decide +kernel⟩
def spIP : Sp := fun vs H Q _ => ∃ (v : V) (r : Rl) (x : Str) (t : Addr) (y : Int × Int), vs = [v, .str x, .ref t] ∧ RulesAt H v r ∧ x.length ≤ 1000 ∧ H t = some (.tup [.int y.1, .int y.2]) ∧ ∀ H', Ext H H' → Q (.bl (mayP r x y.1 y.2)) H'
theorem ok_ip {f : Addr} {fd : FuncData} (F : Fun K "is_pair" "is_pair" s_is_pair f fd) (cis_row : CRow2 P w K mg base) (cis_whole : CWhI P w K mg base) (cmay_pair : CMP P w K mg base) : FnOk P w K mg base CX0 3 f fd ["rules", "string", "thing"] spIP := by
  refine F.ok sc_is_pair (fun vs H Q E h => ?_) (fun cdv A outer s H vs Q E hr h => ?_)
  · obtain ⟨v, r, x, t, y, rfl, _⟩ := h
    rfl
  · obtain ⟨v, r, x, t, y, rfl, hR, hx, hT, q⟩ := h
    refine ⟨_, (pss_cons (ps_if (PW.pt (pw_or (pt_not (pt_val (pe_ca cis_row (hr.mono (by decide)) (by rfl) (pa_cons (pv 2) (pa_cons pe_int pa_nil))))) (pw_or (pt_not (pt_val (pe_ca cis_whole (hr.mono (by decide)) (by rfl) (pa_cons (pe_ix (ixT K) (pv 2) pe_int (fun _ _ => rfl)) pa_nil)))) (pw_or1 (pt_not (pt_val (pe_ca cis_whole (hr.mono (by decide)) (by rfl) (pa_cons (pe_ix (ixT K) (pv 2) pe_int (fun _ _ => rfl)) pa_nil)))))))) (pss_one (ps_ret pe_bl)) pss_nil)
      (pss_one (ps_ret (pe_ca cmay_pair (hr.mono (by decide)) (by rfl) (pa_cons (pv 0) (pa_cons (pv 1) (pa_cons (pe_ix (ixT K) (pv 2) pe_int (fun _ _ => rfl)) (pa_cons (pe_ix (ixT K) (pv 2) pe_int (fun _ _ => rfl)) pa_nil)))))))), ?_⟩
    refine ⟨_, rfl, t, _, 2, rfl, hT, true, rfl, iteF ?_⟩
    refine ⟨_, rfl, t, _, 0, _, rfl, rfl, SqT.of hT, rfl, y.1, rfl, true, rfl, iteF ?_⟩
    refine ⟨_, rfl, t, _, 1, _, rfl, rfl, SqT.of hT, rfl, y.2, rfl, true, rfl, iteF ?_⟩
    exact ⟨_, rfl, _, rfl, _, rfl, t, _, 0, _, rfl, rfl, SqT.of hT, rfl, _, rfl, t, _, 1, _, rfl, rfl, SqT.of hT, rfl, v, r, x, y.1, y.2, rfl, hR, hx, q⟩
abbrev s_go_together : Stmt := topS 19
theorem sc_go_together : FnScope ["pair", "later"] ["pair", "later"] (defScope s_go_together) :=
  ⟨rfl, rfl, rfl, by decide +kernel, rfl, by decide +kernel, by decide +kernel⟩
def spGT : Sp := fun vs H Q _ => ∃ (t u : Addr) (p y : Int × Int), vs = [.ref t, .ref u] ∧ H t = some (.tup [.int p.1, .int p.2]) ∧ H u = some (.tup [.int y.1, .int y.2]) ∧ Q (.bl (go2 p y)) H
theorem ok_gt {f : Addr} {fd : FuncData} {k : Nat} (F : Fun K "go_together" "go_together" s_go_together f fd) : FnOk P w K mg base CX0 (k + 1) f fd ["pair", "later"] spGT := by
  refine F.ok sc_go_together (fun vs H Q E h => ?_) (fun cdv A outer s H vs Q E hr h => ?_)
  · obtain ⟨t, u, p, y, rfl, _⟩ := h
    rfl
  · obtain ⟨t, u, p, y, rfl, hT, hU, q⟩ := h
    refine ⟨_, (pss_one (ps_ret (pe_or (pe_cmpR op_lt (pe_ix (ixT K) (pv 0) pe_int (fun _ _ => rfl)) (pe_ix (ixT K) (pv 1) pe_int (fun _ _ => rfl)) (nomark _)) (pe_one (pe_cmpR op_lt (pe_ix (ixT K) (pv 1) pe_int (fun _ _ => rfl)) (pe_ix (ixT K) (pv 0) pe_int (fun _ _ => rfl)) (nomark _)))))), ?_⟩
    unfold go2 at q
    refine ⟨_, rfl, t, _, 1, _, rfl, rfl, SqT.of hT, rfl, _, rfl, u, _, 0, _, rfl, rfl, SqT.of hU, rfl, _, _, rfl, rfl, _, rfl, ite2 (fun e => ?_) (fun e => ?_)⟩
    · have e : decide (p.2 < y.1) = true := e
      rw [e, Bool.true_or] at q
      exact q
    · have e : decide (p.2 < y.1) = false := Bool.eq_false_iff.mpr e
      rw [e, Bool.false_or] at q
      exact ⟨_, rfl, u, _, 1, _, rfl, rfl, SqT.of hU, rfl, _, rfl, t, _, 1, _, rfl, rfl, SqT.of hT, rfl, _, _, rfl, rfl, q⟩
abbrev s_rises : Stmt := topS 4
theorem sc_rises : FnScope ["things", "thing", "after"] ["things"] (defScope s_rises) :=
  ⟨rfl, rfl, rfl, by decide +kernel, rfl, by decide +kernel, by decide +kernel⟩
def spRi : Sp := fun vs H Q _ => ∃ (v : V) (qs : List (Int × Int)), vs = [v] ∧ TupOf TwoAt H v qs ∧ qs.length ≤ 100 ∧ ∀ H', Ext H H' → Q (.bl ((risL qs).all id)) H'
theorem ok_ri {f : Addr} {fd : FuncData} {k : Nat} (F : Fun K "rises" "rises" s_rises f fd) (mall : mg "all" = none) (mzip : mg "zip" = none) : FnOk P w K mg base CX0 (k + 1) f fd ["things"] spRi := by
  refine F.ok sc_rises (fun vs H Q E h => ?_) (fun cdv A outer s H vs Q E hr h => ?_)
  · obtain ⟨v, qs, rfl, _⟩ := h
    rfl
  · obtain ⟨v, qs, rfl, ⟨af, fs, rfl, hF, hPs⟩, hql, q⟩ := h
    refine ⟨_, (pss_one (ps_ret (pe_callB (cr_all rfl) (by rfl) mall (by decide +kernel) (pa_cons (pe_lc (own := [("thing", 1), ("after", 2)]) (g := gTup K 2 (gCons (gName 1) (gCons (gName 2) gNil))) (by rfl) sc_rises.nd (RZ.pi_zipA (by rfl) mzip (pa_cons (pv 0) (pa_cons (pe_slice (slE K) (pv 0) (po_some pe_int) po_none) pa_nil))) (blkOk_by (own := [("thing", 1), ("after", 2)]) (N := ["things", "thing", "after"]) (sc := defScope s_rises) (by decide +kernel)) (fun _ _ _ _ _ => (pgT K rfl (pgs_cons (pg_name (i := 1) sc_rises.nd rfl (.inl rfl)) (pgs_cons (pg_name (i := 2) sc_rises.nd rfl (.inl rfl)) pgs_nil)))) (fun _ _ _ _ _ => pts_nil) (fun _ _ _ _ _ => (pe_cmpR (ltT K hr.units0) (pv 1) (pv 2) (nomark _)))) pa_nil)))), ?_⟩
    have hfl := paired_len hPs
    refine ⟨_, rfl, _, rfl, 1, rfl, af, fs, rfl, hF, fun t H1 k1 hT => ?_⟩
    have ec : cutV fs (some 1) none = fs.drop 1 := cut_from (k := 1)
    rw [ec] at hT
    have hrl : (risL qs).length = fs.length - 1 := by
      unfold risL
      rw [List.length_map, List.length_zip, List.length_drop]
      omega
    refine ⟨af, t, fs, fs.drop 1, rfl, .inr ⟨SqT.of (k1 _ _ hF), SqT.of hT, fun D hD => lc_it (walk_zt (n := fs.length - 1) (by rw [List.length_drop]; omega)) (fun i H2 => H2 D = some (.lst (((risL qs).take i).map V.bl)) ∧ Ext H1 H2)
      ⟨upd_same, Ext.new hD⟩ (fun i H2 _ ⟨_, k⟩ => ⟨SqT.of (k _ _ (k1 _ _ hF)), SqT.of (k _ _ hT)⟩) (fun i u H2 H3 hi hv hy => ?_) (fun H2 hv => ?_)⟩⟩
    · obtain ⟨hL, k2⟩ := hv
      obtain ⟨T, a, b, rfl, hTn, rfl, ha, hb⟩ := hy
      obtain ⟨y1, hy1, a1, rfl, ha1⟩ := paired_get hPs ha
      have hb : (fs.drop 1)[i]? = some b := hb
      rw [List.getElem?_drop] at hb
      obtain ⟨y2, hy2, a2, rfl, ha2⟩ := paired_get hPs hb
      have e3 := Ext.new (o := .tup [.ref a1, .ref a2]) hTn
      have k03 := (k1.trans k2).trans e3
      refine ⟨T, _, rfl, SqT.of upd_same, rfl, _, _, rfl, _, _, rfl, rfl, rfl, _, rfl, _, rfl, a1, a2, [y1.1, y1.2], [y2.1, y2.2], rfl, rfl, SqT.of (k03 _ _ ha1), SqT.of (k03 _ _ ha2), _, e3 _ _ hL, szLt ?_, ?_, (k2.trans e3).put hD⟩
      · rw [List.length_map, List.length_take]
        omega
      · have er : (risL qs)[i]? = some (lt2 y1 y2) := by
          unfold risL
          rw [List.getElem?_map, (List.getElem?_zip_eq_some (z := (y1, y2))).mpr ⟨hy1, by rw [List.getElem?_drop]; exact hy2⟩]
          rfl
        rw [upd_same, List.take_add_one, er, List.map_append, lex2]
        rfl
    · obtain ⟨hL, k2⟩ := hv
      rw [List.take_of_length_le (by omega)] at hL
      exact ⟨D, risL qs, rfl, SqL.of hL, q _ (k1.trans k2)⟩
abbrev CIP (P : Program) (w : World) (K : PySem.W.Frag) (mg : Str → Option Value) (base : Heap) : Prop := Ca P w K mg base 3 "is_pair" ["rules", "string", "thing"] spIP
abbrev CGT (P : Program) (w : World) (K : PySem.W.Frag) (mg : Str → Option Value) (base : Heap) : Prop := Ca P w K mg base 1 "go_together" ["pair", "later"] spGT
abbrev CRi (P : Program) (w : World) (K : PySem.W.Frag) (mg : Str → Option Value) (base : Heap) : Prop := Ca P w K mg base 1 "rises" ["things"] spRi
abbrev s_is_folding : Stmt := topS 20
theorem sc_is_folding : FnScope ["rules", "string", "thing", "at", "pair", "later"] ["rules", "string", "thing"] (defScope s_is_folding) :=
  ⟨rfl, rfl, rfl, by decide +kernel, rfl, by decide +kernel, by decide +kernel⟩
def spIF : Sp := fun vs H Q _ => ∃ (v vf : V) (r : Rl) (x : Str) (qs : List (Int × Int)), vs = [v, .str x, vf] ∧ RulesAt H v r ∧ x.length ≤ 1000 ∧ TupOf TwoAt H vf qs ∧ qs.length ≤ 100 ∧ ∀ H', Ext H H' → Q (.bl (isF r x qs)) H'
theorem ok_if {f : Addr} {fd : FuncData} (F : Fun K "is_folding" "is_folding" s_is_folding f fd) (cis_pair : CIP P w K mg base) (cgo_together : CGT P w K mg base) (crises : CRi P w K mg base) (misinstance : mg "isinstance" = none) (mtuple : mg "tuple" = none) (mall : mg "all" = none) (menumerate : mg "enumerate" = none) : FnOk P w K mg base CX0 4 f fd ["rules", "string", "thing"] spIF := by
  refine F.ok sc_is_folding (fun vs H Q E h => ?_) (fun cdv A outer s H vs Q E hr h => ?_)
  · obtain ⟨v, vf, r, x, qs, rfl, _⟩ := h
    rfl
  · obtain ⟨v, vf, r, x, qs, rfl, hR, hx, ⟨af, fs, rfl, hF, hPs⟩, hql, q⟩ := h
    refine ⟨_, (pss_cons (ps_if (PW.pt (pw_or (pt_not (pt_val (pe_callB (isi1 K) (by rfl) misinstance (by decide +kernel) (pa_cons (pv 2) (pa_cons (pe_bltn (v := .ty "tuple") (by rfl) mtuple (by decide +kernel) rfl) pa_nil))))) (pw_or1 (pt_not (pt_val (pe_callB (cr_all rfl) (by rfl) mall (by decide +kernel) (pa_cons (pe_lc (own := [("pair", 4)]) (g := gName 4) (by rfl) sc_is_folding.nd (pi_tup (pv 2)) (blkOk_by (own := [("pair", 4)]) (N := ["rules", "string", "thing", "at", "pair", "later"]) (sc := defScope s_is_folding) (by decide +kernel)) (fun _ _ _ _ _ => (pg_name (i := 4) sc_is_folding.nd rfl (.inl rfl))) (fun _ _ _ _ _ => pts_nil) (fun _ _ _ _ _ => (pe_ca cis_pair (hr.mono (by decide)) (by rfl) (pa_cons (pv 0) (pa_cons (pv 1) (pa_cons (pv 4) pa_nil)))))) pa_nil))))))) (pss_one (ps_ret pe_bl)) pss_nil)
      (pss_cons (ps_if (pt_not (pt_val (pe_ca crises (hr.mono (by decide)) (by rfl) (pa_cons (pv 2) pa_nil)))) (pss_one (ps_ret pe_bl)) pss_nil)
      (pss_one (ps_ret (pe_callB (cr_all rfl) (by rfl) mall (by decide +kernel) (pa_cons (pe_lc2 (own := [("at", 3), ("pair", 4), ("later", 5)]) (vs1 := [5]) (g := gTup K 2 (gCons (gName 3) (gCons (gName 4) gNil))) (g1 := gName 5) (by rfl) sc_is_folding.nd (pi_enumT (by rfl) menumerate (pa_cons (pv 2) pa_nil)) (blkOk_by (own := [("at", 3), ("pair", 4), ("later", 5)]) (N := ["rules", "string", "thing", "at", "pair", "later"]) (sc := defScope s_is_folding) (by decide +kernel)) (by decide) (fun _ _ _ _ _ => (pgT K rfl (pgs_cons (pg_name (i := 3) sc_is_folding.nd rfl (.inl rfl)) (pgs_cons (pg_name (i := 4) sc_is_folding.nd rfl (.inl rfl)) pgs_nil)))) (fun _ _ _ _ _ => pts_nil) (fun _ _ _ _ _ => (piT K (pe_slice (slE K) (pv 2) (po_some (pe_op op_add (pv 3) pe_int)) po_none))) (fun _ _ _ _ _ => (pg_name (i := 5) sc_is_folding.nd rfl (.inl rfl))) (fun _ _ _ _ _ => pts_nil) (fun _ _ _ _ _ => (pe_ca cgo_together (hr.mono (by decide)) (by rfl) (pa_cons (pv 4) (pa_cons (pv 5) pa_nil))))) pa_nil)))))), ?_⟩
    have hfl := paired_len hPs
    refine ⟨_, rfl, .ref af, .ty "tuple", _, _, true, rfl, .ty _, .base (.tup hF), kit_ty (by decide +kernel), true, rfl, iteF ?_⟩
    -- all([is_pair(..)])
    refine ⟨_, rfl, af, rfl, ⟨_, SqT.of hF⟩, fun D hD => lc_tup (K := K) (xs := fs) (fun i H2 => H2 D = some (.lst (((qs.take i).map fun y => mayP r x y.1 y.2).map V.bl)) ∧ Ext H H2)
      ⟨upd_same, Ext.new hD⟩ (fun i H2 _ ⟨_, k⟩ => SqT.of (k _ _ hF)) (fun i u H2 hi hv => ?_) (fun H2 hv => ?_)⟩
    · obtain ⟨hL, k2⟩ := hv
      obtain ⟨y, hy, a1, rfl, ha1⟩ := paired_get hPs hi
      refine ⟨rfl, _, rfl, _, rfl, _, rfl, v, r, x, a1, y, rfl, RulesAt.mono _ _ _ _ (TupK.ext k2) hR, hx, k2 _ _ ha1, fun H3 k3 => ⟨_, k3 _ _ hL, szLt ?_, ?_, (k2.trans k3).put hD⟩⟩
      · rw [List.length_map, List.length_map, List.length_take]
        omega
      · rw [upd_same, List.take_add_one, hy, List.map_append, List.map_append]
        rfl
    · obtain ⟨hL, k2⟩ := hv
      rw [List.take_of_length_le (by omega)] at hL
      refine ⟨D, _, rfl, SqL.of hL, _, rfl, ite2 (fun e => ?_) (fun e => ?_)⟩
      · have e : ((qs.map fun y => mayP r x y.1 y.2).all id) = false := by simpa using e
        have := q H2 k2
        unfold isF at this
        rw [e, Bool.false_and] at this
        exact this
      · have e : ((qs.map fun y => mayP r x y.1 y.2).all id) = true := by simpa using e
        have q1 : ∀ H', Ext H H' → Q (.bl ((risL qs).all id && (goL qs).all id)) H' := fun H' k => by
          have := q H' k
          unfold isF at this
          rw [e, Bool.true_and] at this
          exact this
        refine ⟨_, rfl, .ref af, qs, rfl, ⟨af, fs, rfl, k2 _ _ hF, paired_imp (fun _ _ => TwoAt.mono _ _ _ _ (TupK.ext k2)) hPs⟩, hql, fun H3 k3 => ⟨_, rfl, ite2 (fun e2 => ?_) (fun e2 => ?_)⟩⟩
        · have e2 : (risL qs).all id = false := by simpa using e2
          have := q1 H3 (k2.trans k3)
          rw [e2, Bool.false_and] at this
          exact this
        · have e2 : (risL qs).all id = true := by simpa using e2
          have q2 : ∀ H', Ext H H' → Q (.bl ((goL qs).all id)) H' := fun H' k => by
            have := q1 H' k
            rw [e2, Bool.true_and] at this
            exact this
          have k03 := k2.trans k3
          have hgl := goL_len qs
          have hgm : qs.length * qs.length ≤ 100 * 100 := Nat.mul_le_mul hql hql
          refine ⟨_, rfl, af, fs, rfl, SqT.of (k03 _ _ hF), fun D2 hD2 => lc_two walk_et (fun i H4 => ∃ bs : List Bool, goL qs = bs ++ goL (qs.drop i) ∧ H4 D2 = some (.lst (bs.map V.bl)) ∧ Ext H3 H4)
            ⟨[], rfl, upd_same, Ext.new hD2⟩ (fun i H4 _ ⟨_, _, _, k⟩ => SqT.of (k _ _ (k03 _ _ hF))) (fun i u H4 H5 hi hv hy => ?_) (fun H4 hv => ?_)⟩
          · obtain ⟨bs, hbs, hL4, k4⟩ := hv
            obtain ⟨T, a, b, rfl, hTn, rfl, ha, hb⟩ := hy
            cases ha
            obtain ⟨p, hp, a1, rfl, ha1⟩ := paired_get hPs hb
            have e5 := Ext.new (o := .tup [.int (i : Nat), .ref a1]) hTn
            have k05 := (k03.trans k4).trans e5
            refine ⟨T, _, rfl, SqT.of upd_same, rfl, _, _, rfl, _, _, rfl, rfl, rfl, ?_⟩
            refine ⟨_, rfl, _, rfl, _, 1, rfl, rfl, _, rfl, af, fs, rfl, k05 _ _ hF, fun t H6 k6 hT => ?_⟩
            have ec : cutV fs (some ((i : Int) + 1)) none = fs.drop (i + 1) := cut_from (k := i + 1)
            rw [ec] at hT
            have k06 := k05.trans k6
            rw [goL_at hp, ← List.append_assoc] at hbs
            refine ⟨t, rfl, ⟨_, SqT.of hT⟩, lc_in (walk_tup (xs := fs.drop (i + 1))) (fun j H7 => H7 D2 = some (.lst ((bs ++ ((qs.drop (i + 1)).take j).map (go2 p)).map V.bl)) ∧ H7 t = some (.tup (fs.drop (i + 1))) ∧ Ext H3 H7)
              ⟨?_, hT, (k4.trans e5).trans k6⟩ (fun j H7 _ ⟨_, h, _⟩ => SqT.of h) (fun j u H7 H8 hj hv hy => ?_) (fun H7 hv => ?_)⟩
            · rw [List.take_zero, List.map_nil, List.append_nil]
              exact k6 _ _ (e5 _ _ hL4)
            · obtain ⟨hL7, hT7, k7⟩ := hv
              obtain ⟨rfl, hu⟩ := hy
              obtain ⟨y, hy, a2, rfl, ha2⟩ := paired_get (paired_drop (i + 1) hPs) hu
              have k07 := k03.trans k7
              refine ⟨rfl, _, rfl, _, rfl, a1, a2, p, y, rfl, k07 _ _ ha1, k07 _ _ ha2, _, hL7, szLt ?_, ?_, ?_, k7.put hD2⟩
              · have hz := congrArg List.length hbs
                rw [List.length_append, List.length_append, List.length_map] at hz
                rw [List.length_map, List.length_append, List.length_map, List.length_take]
                omega
              · rw [upd_same, List.take_add_one, hy]
                simp only [List.map_append, List.append_assoc]
                rfl
              · rw [upd_ne (ne_of hT7 hL7 (by intro z; cases z))]
                exact hT7
            · obtain ⟨hL7, _, k7⟩ := hv
              rw [List.take_of_length_le (by rw [List.length_drop, List.length_drop]; omega)] at hL7
              exact ⟨_, hbs, hL7, k7⟩
          · obtain ⟨bs, hbs, hL4, k4⟩ := hv
            rw [List.drop_eq_nil_of_le (by omega)] at hbs
            rw [show goL [] = [] from rfl, List.append_nil] at hbs
            subst hbs
            exact ⟨D2, goL qs, rfl, SqL.of hL4, q2 _ (k03.trans k4)⟩
abbrev CIF (P : Program) (w : World) (K : PySem.W.Frag) (mg : Str → Option Value) (base : Heap) : Prop := Ca P w K mg base 4 "is_folding" ["rules", "string", "thing"] spIF
end
end Pf


namespace Pf
open PySem PySem.Spec PyProof.Rows L2
/-! ### a folding's pairs, one behind the other: it is known as one -/
def Apart (a b : Int × Int) : Prop := a.1 < b.1 ∧ (a.2 < b.1 ∨ b.2 < a.2)
theorem Fl.pw {lo hi : Int} {ps : List (Int × Int)} (h : Fl lo hi ps) : ps.Pairwise Apart := by
  induction h with
  | nil => exact .nil
  | @cons lo hi i j A B h1 h2 h3 hA hB ihA ihB =>
    have bA := hA.bound
    have bB := hB.bound
    refine List.pairwise_cons.mpr ⟨fun y hy => ?_, List.pairwise_append.mpr ⟨ihA, ihB, fun a ha b hb => ?_⟩⟩
    · rcases List.mem_append.mp hy with hy | hy
      · have := bA y hy
        exact ⟨show i < y.1 by omega, .inr (show y.2 < j by omega)⟩
      · have := bB y hy
        exact ⟨show i < y.1 by omega, .inl (show j < y.1 by omega)⟩
    · have := bA a ha
      have := bB b hb
      exact ⟨by omega, .inl (by omega)⟩
theorem ris_pw : ∀ {qs : List (Int × Int)}, qs.Pairwise Apart → (risL qs).all id = true
  | [], _ => rfl
  | [_], _ => rfl
  | a :: b :: r, h => by
    have h1 := (List.pairwise_cons.mp h).1 b (List.mem_cons_self ..)
    have h2 := ris_pw (List.pairwise_cons.mp h).2
    show (lt2 a b && (risL (b :: r)).all id) = true
    rw [h2, Bool.and_true]
    exact decide_eq_true (.inl h1.1)
theorem go_pw : ∀ {qs : List (Int × Int)}, qs.Pairwise Apart → (goL qs).all id = true
  | [], _ => rfl
  | a :: r, h => by
    have h1 := (List.pairwise_cons.mp h).1
    rw [goL, List.all_append, go_pw (List.pairwise_cons.mp h).2, Bool.and_true, List.all_map, List.all_eq_true]
    intro y hy
    have := (h1 y hy).2
    show (decide (a.2 < y.1) || decide (y.2 < a.2)) = true
    rw [Bool.or_eq_true]
    rcases this with z | z
    · exact .inl (decide_eq_true z)
    · exact .inr (decide_eq_true z)
theorem isF_true {r : Rl} {x : Str} {hi : Int} {qs : List (Int × Int)} (h : Fl 0 hi qs) (hh : hi < x.length) (hm : ∀ y ∈ qs, mayB r x y.1 y.2 = true) : isF r x qs = true := by
  unfold isF
  rw [ris_pw h.pw, go_pw h.pw, Bool.and_true, Bool.and_true, List.all_map, List.all_eq_true]
  intro y hy
  have hb := h.bound y hy
  show mayP r x y.1 y.2 = true
  unfold mayP
  rw [hm y hy, Bool.and_true]
  exact decide_eq_true ⟨hb.1, hb.2.1, by omega⟩
theorem srt_fl {lo hi : Int} {ps : List (Int × Int)} (h : Fl lo hi ps) : srt ps = ps := by
  refine srt_unique (srt_pw ps) (h.pw.imp fun {a b} z => decide_eq_true (.inl z.1)) (List.mergeSort_perm ps le2)
/-! ### its brackets are read back as the same pairs -/
def codeAt (qs : List (Int × Int)) (k : Int) : Nat := if (qs.any fun x => decide (x.1 = k)) = true then 40 else if (qs.any fun x => decide (x.2 = k)) = true then 41 else 46
def tkL (c : Int → Nat) (a : Int) : Nat → List (Nat × Int)
  | 0 => []
  | n + 1 => tkL c a n ++ if c (a + n) = 46 then [] else [(c (a + n), a + n)]
theorem tkL_add (c : Int → Nat) (a : Int) (m : Nat) : ∀ n : Nat, tkL c a (m + n) = tkL c a m ++ tkL c (a + m) n
  | 0 => by rw [tkL, List.append_nil]; rfl
  | n + 1 => by
    rw [← Nat.add_assoc, tkL, tkL_add c a m n, tkL, List.append_assoc, show a + ((m + n : Nat) : Int) = a + m + n by omega]
theorem tkL_congr {c d : Int → Nat} {a : Int} : ∀ {n : Nat}, (∀ z, a ≤ z → z < a + n → c z = d z) → tkL c a n = tkL d a n
  | 0, _ => rfl
  | n + 1, h => by
    rw [tkL, tkL, h (a + n) (by omega) (by omega), tkL_congr (n := n) fun z h1 h2 => h z h1 (by omega)]
theorem tkL_no {c : Int → Nat} {a : Int} : ∀ {n : Nat}, (∀ z, a ≤ z → z < a + n → c z = 46) → tkL c a n = []
  | 0, _ => rfl
  | n + 1, h => by
    rw [tkL, h (a + n) (by omega) (by omega), tkL_no (n := n) fun z h1 h2 => h z h1 (by omega), if_pos rfl]
    rfl
theorem tkL_one {c : Int → Nat} {a : Int} {v : Nat} (h : c a = v) (hv : v ≠ 46) : tkL c a 1 = [(v, a)] := by
  show (tkL c a 0 ++ if c (a + ((0 : Nat) : Int)) = 46 then [] else [(c (a + ((0 : Nat) : Int)), a + ((0 : Nat) : Int))]) = _
  rw [show a + ((0 : Nat) : Int) = a by omega, h, if_neg hv]
  rfl
theorem any_no {f : Int × Int → Int} {k : Int} {qs : List (Int × Int)} (h : ∀ y ∈ qs, f y ≠ k) : (qs.any fun x => decide (f x = k)) = false := by
  rw [List.any_eq_false]
  intro y hy z
  exact h y hy (of_decide_eq_true z)
theorem code_nil (k : Int) : codeAt [] k = 46 := rfl
theorem code_eq {qs rs : List (Int × Int)} {k : Int} (h1 : (qs.any fun x => decide (x.1 = k)) = rs.any fun x => decide (x.1 = k)) (h2 : (qs.any fun x => decide (x.2 = k)) = rs.any fun x => decide (x.2 = k)) : codeAt qs k = codeAt rs k := by
  unfold codeAt
  rw [h1, h2]
theorem run_fl {lo hi : Int} {qs : List (Int × Int)} (h : Fl lo hi qs) : ∀ c : Int → Nat, (∀ z, lo ≤ z → z ≤ hi → c z = codeAt qs z) → lo ≤ hi + 1 → ∀ b R ps, run b R = some ps → ∃ ps', run b (tkL c lo (hi + 1 - lo).toNat ++ R) = some ps' ∧ ps'.Perm (qs ++ ps) := by
  induction h with
  | @nil lo hi =>
    intro c hc hl b R ps e
    refine ⟨ps, ?_, List.Perm.refl _⟩
    rw [tkL_no fun z h1 h2 => hc z h1 (by omega)]
    exact e
  | @cons lo hi i j A B h1 h2 h3 hA hB ihA ihB =>
    intro c hc hl b R ps e
    have bA := hA.bound
    have bB := hB.bound
    have eany : ∀ (f : Int × Int → Int) (k : Int), (((i, j) :: (A ++ B)).any fun x => decide (f x = k)) = (decide (f (i, j) = k) || ((A.any fun x => decide (f x = k)) || B.any fun x => decide (f x = k))) := fun f k => by
      rw [List.any_cons, List.any_append]
    have ci : c i = 40 := by
      rw [hc i h1 (by omega)]
      unfold codeAt
      rw [eany (·.1), decide_eq_true (show i = i from rfl), Bool.true_or, if_pos rfl]
    have cj : c j = 41 := by
      rw [hc j (by omega) h3]
      unfold codeAt
      rw [eany (·.1), eany (·.2), decide_eq_false (show ¬ i = j by omega), decide_eq_true (show j = j from rfl), any_no (f := (·.1)) fun y hy => by have := bA y hy; omega, any_no (f := (·.1)) fun y hy => by have := bB y hy; omega]
      rfl
    have c0 : ∀ z, lo ≤ z → z < lo + ((i - lo).toNat : Nat) → c z = 46 := fun z z1 z2 => by
      rw [hc z z1 (by omega)]
      unfold codeAt
      rw [eany (·.1), eany (·.2), decide_eq_false (show ¬ i = z by omega), decide_eq_false (show ¬ j = z by omega), any_no (f := (·.1)) fun y hy => by have := bA y hy; omega, any_no (f := (·.1)) fun y hy => by have := bB y hy; omega, any_no (f := (·.2)) fun y hy => by have := bA y hy; omega, any_no (f := (·.2)) fun y hy => by have := bB y hy; omega]
      rfl
    have cA : ∀ z, i + 1 ≤ z → z ≤ j - 1 → c z = codeAt A z := fun z z1 z2 => by
      rw [hc z (by omega) (by omega)]
      refine code_eq ?_ ?_
      · rw [eany (·.1), decide_eq_false (show ¬ i = z by omega), any_no (f := (·.1)) (qs := B) fun y hy => by have := bB y hy; omega, Bool.false_or, Bool.or_false]
      · rw [eany (·.2), decide_eq_false (show ¬ j = z by omega), any_no (f := (·.2)) (qs := B) fun y hy => by have := bB y hy; omega, Bool.false_or, Bool.or_false]
    have cB : ∀ z, j + 1 ≤ z → z ≤ hi → c z = codeAt B z := fun z z1 z2 => by
      rw [hc z (by omega) (by omega)]
      refine code_eq ?_ ?_
      · rw [eany (·.1), decide_eq_false (show ¬ i = z by omega), any_no (f := (·.1)) (qs := A) fun y hy => by have := bA y hy; omega, Bool.false_or, Bool.false_or]
      · rw [eany (·.2), decide_eq_false (show ¬ j = z by omega), any_no (f := (·.2)) (qs := A) fun y hy => by have := bA y hy; omega, Bool.false_or, Bool.false_or]
    have split : tkL c lo (hi + 1 - lo).toNat = (40, i) :: (tkL c (i + 1) (j - 1 + 1 - (i + 1)).toNat ++ ((41, j) :: tkL c (j + 1) (hi + 1 - (j + 1)).toNat)) := by
      rw [show (hi + 1 - lo).toNat = (i - lo).toNat + (1 + ((j - 1 + 1 - (i + 1)).toNat + (1 + (hi + 1 - (j + 1)).toNat))) by omega, tkL_add, tkL_no c0, List.nil_append, tkL_add, tkL_add, tkL_add]
      rw [show lo + ((i - lo).toNat : Nat) = i by omega, show i + ((1 : Nat) : Int) = i + 1 by omega, show i + 1 + ((j - 1 + 1 - (i + 1)).toNat : Nat) = j by omega, show j + ((1 : Nat) : Int) = j + 1 by omega, tkL_one ci (by decide), tkL_one cj (by decide)]
      rfl
    obtain ⟨pB, eB, hpB⟩ := ihB c cB (by omega) b R ps e
    have e41 : run (i :: b) ((41, j) :: (tkL c (j + 1) (hi + 1 - (j + 1)).toNat ++ R)) = some ((i, j) :: pB) := by
      rw [run_cons, if_neg (by decide), if_pos rfl]
      show (run b (tkL c (j + 1) (hi + 1 - (j + 1)).toNat ++ R)).map ((i, j) :: ·) = _
      rw [eB]
      rfl
    obtain ⟨pA, eA, hpA⟩ := ihA c cA (by omega) (i :: b) _ _ e41
    refine ⟨pA, ?_, ?_⟩
    · rw [split, List.cons_append, run_cons, if_pos rfl, List.append_assoc]
      exact eA
    · refine hpA.trans ?_
      refine ((List.Perm.cons (i, j) hpB).append_left A).trans ?_
      rw [List.cons_append, List.append_assoc]
      exact List.perm_middle
theorem sg_code (qs : List (Int × Int)) (k : Nat) : sg qs k = ⟨#[codeAt qs (k : Int)]⟩ := by
  unfold sg codeAt
  by_cases h : (qs.any fun x => decide (x.1 = (k : Int))) = true
  · rw [if_pos h, if_pos h]
    exact sign_o
  · rw [if_neg h, if_neg h]
    by_cases h2 : (qs.any fun x => decide (x.2 = (k : Int))) = true
    · rw [if_pos h2, if_pos h2]
      exact sign_c
    · rw [if_neg h2, if_neg h2]
      exact sign_d
theorem txt_len' (qs : List (Int × Int)) (n : Nat) : (txt qs n).length = n := by
  induction n with
  | zero => rfl
  | succ n ih =>
    rw [txt_succ, Str.length_append, (sg_low qs n).2, ih]
theorem toks_snoc (c : Nat) : ∀ (l : List Nat) (k : Nat), toks k (l ++ [c]) = toks k l ++ if c = 46 then [] else [(c, ((k + l.length : Nat) : Int))]
  | [], k => by
    rw [List.nil_append, toks, toks]
    rfl
  | d :: r, k => by
    rw [List.cons_append, toks, toks, toks_snoc c r (k + 1), List.length_cons, show k + 1 + r.length = k + (r.length + 1) by omega]
    by_cases h : d = 46
    · rw [if_pos h, if_pos h]
    · rw [if_neg h, if_neg h]
      rfl
theorem toks_txt (qs : List (Int × Int)) (n : Nat) : toks 0 (txt qs n).cps.toList = tkL (codeAt qs) 0 n := by
  induction n with
  | zero => rfl
  | succ n ih =>
    have hl : (txt qs n).cps.toList.length = n := by
      rw [Array.length_toList]
      exact txt_len' qs n
    rw [txt_succ, Str.cps_append, Array.toList_append, sg_code]
    show toks 0 ((txt qs n).cps.toList ++ [codeAt qs (n : Int)]) = _
    rw [toks_snoc, ih, hl, tkL, show (((0 + n : Nat) : Nat) : Int) = 0 + (n : Int) by omega, show (0 : Int) + (n : Int) = n by omega]
theorem ask_txt {qs : List (Int × Int)} {n : Nat} (h : Fl 0 ((n : Int) - 1) qs) : ask (txt qs n) = some qs := by
  unfold ask
  rw [toks_txt]
  obtain ⟨ps, e, hp⟩ := run_fl h (codeAt qs) (fun _ _ _ => rfl) (by omega) [] [] [] (by rw [run_nil, if_pos rfl])
  rw [List.append_nil, show ((n : Int) - 1 + 1 - 0).toNat = n by omega] at e
  rw [List.append_nil] at hp
  rw [e]
  show some (srt ps) = some qs
  rw [srt_perm hp, srt_fl h]
/-! ### all pairs stand straight within one, or outermost -/
theorem filt_no {f : Int × Int → Bool} {A : List (Int × Int)} (h : ∀ y ∈ A, f y = false) : A.filter f = [] := List.filter_eq_nil_iff.mpr fun y hy z => by
  rw [h y hy] at z
  cases z
theorem ins_no {q y : Int × Int} (h : ¬ (q.1 < y.1 ∧ y.2 < q.2)) : ins (some q) y = false := by
  show (decide (q.1 < y.1) && decide (y.2 < q.2)) = false
  by_cases e : q.1 < y.1
  · rw [decide_eq_true e, decide_eq_false (fun z => h ⟨e, z⟩)]
    rfl
  · rw [decide_eq_false e]
    rfl
theorem ins_yes {q y : Int × Int} (h : q.1 < y.1 ∧ y.2 < q.2) : ins (some q) y = true := by
  show (decide (q.1 < y.1) && decide (y.2 < q.2)) = true
  rw [decide_eq_true h.1, decide_eq_true h.2]
  rfl
theorem filt_yes {f : Int × Int → Bool} {A : List (Int × Int)} (h : ∀ y ∈ A, f y = true) : A.filter f = A := List.filter_eq_self.mpr h
section
variable {lo hi i j : Int} {A B : List (Int × Int)}
theorem kids_self (hA : Fl (i + 1) (j - 1) A) (hB : Fl (j + 1) hi B) : kidsOf ((i, j) :: (A ++ B)) (i, j) = outL A := by
  have bA := hA.bound
  have bB := hB.bound
  unfold kidsOf
  rw [List.filter_cons_of_neg (by rw [ins_no (by show ¬ (i < i ∧ j < j); omega)]; exact Bool.false_ne_true), List.filter_append, filt_yes (A := A) fun y hy => ins_yes (by have := bA y hy; show i < y.1 ∧ y.2 < j; omega), filt_no (A := B) fun y hy => ins_no (by have := bB y hy; show ¬ (i < y.1 ∧ y.2 < j); omega), List.append_nil]
theorem kids_A (hA : Fl (i + 1) (j - 1) A) (hB : Fl (j + 1) hi B) {y : Int × Int} (hy : y ∈ A) : kidsOf ((i, j) :: (A ++ B)) y = kidsOf A y := by
  have bA := hA.bound
  have bB := hB.bound
  have b := bA y hy
  unfold kidsOf
  rw [List.filter_cons_of_neg (by rw [ins_no (by show ¬ (y.1 < i ∧ j < y.2); omega)]; exact Bool.false_ne_true), List.filter_append, filt_no (A := B) fun z hz => ins_no (by have := bB z hz; omega), List.append_nil]
theorem kids_B (h2 : i < j) (hA : Fl (i + 1) (j - 1) A) (hB : Fl (j + 1) hi B) {y : Int × Int} (hy : y ∈ B) : kidsOf ((i, j) :: (A ++ B)) y = kidsOf B y := by
  have bA := hA.bound
  have bB := hB.bound
  have b := bB y hy
  unfold kidsOf
  rw [List.filter_cons_of_neg (by rw [ins_no (by show ¬ (y.1 < i ∧ j < y.2); omega)]; exact Bool.false_ne_true), List.filter_append, filt_no (A := A) fun z hz => ins_no (by have := bA z hz; omega), List.nil_append]
theorem out_cons (h1 : lo ≤ i) (h2 : i < j) (h3 : j ≤ hi) (hA : Fl (i + 1) (j - 1) A) (hB : Fl (j + 1) hi B) : outL ((i, j) :: (A ++ B)) = (i, j) :: outL B := by
  have bA := hA.bound
  rw [← gr_out (Fl.cons h1 h2 h3 hA hB) none (fun z hz => by cases hz), gr, if_pos (show ((none : Option Int).isNone || decide ((none : Option Int).getD 0 < i)) = true from rfl), gr_skip (fun y hy => by have := bA y hy; show y.1 ≤ j; omega), gr_out hB (some j) (fun z hz => by injection hz with hz; omega)]
end
theorem all_kids {lo hi : Int} {qs : List (Int × Int)} (h : Fl lo hi qs) : (outL qs ++ (qs.map (kidsOf qs)).flatten).Perm qs := by
  induction h with
  | nil => exact List.Perm.refl _
  | @cons lo hi i j A B h1 h2 h3 hA hB ihA ihB =>
    rw [out_cons h1 h2 h3 hA hB, List.map_cons, kids_self hA hB, List.map_append, List.map_congr_left (f := kidsOf ((i, j) :: (A ++ B))) (g := kidsOf A) (l := A) (fun y hy => kids_A hA hB hy), List.map_congr_left (f := kidsOf ((i, j) :: (A ++ B))) (g := kidsOf B) (l := B) (fun y hy => kids_B h2 hA hB hy), List.flatten_cons, List.flatten_append, List.cons_append]
    refine List.Perm.cons _ ?_
    have e1 : (outL B ++ (outL A ++ ((A.map (kidsOf A)).flatten ++ (B.map (kidsOf B)).flatten))).Perm ((outL A ++ (A.map (kidsOf A)).flatten) ++ (outL B ++ (B.map (kidsOf B)).flatten)) := by
      have a1 := List.perm_append_comm (l₁ := outL B) (l₂ := outL A ++ (A.map (kidsOf A)).flatten)
      have a2 := a1.append_right (B.map (kidsOf B)).flatten
      simp only [List.append_assoc] at a2 ⊢
      exact a2
    exact e1.trans (ihA.append ihB)
theorem wid_app (a b : List (Int × Int)) : wid (a ++ b) = wid a + wid b := by
  unfold wid
  rw [List.map_append, List.sum_append]
theorem perm_sum {a b : List Int} (h : a.Perm b) : a.sum = b.sum := by
  induction h with
  | nil => rfl
  | cons x _ ih => rw [List.sum_cons, List.sum_cons, ih]
  | swap x y l =>
    rw [List.sum_cons, List.sum_cons, List.sum_cons, List.sum_cons]
    omega
  | trans _ _ ih1 ih2 => exact ih1.trans ih2
theorem wid_perm {a b : List (Int × Int)} (h : a.Perm b) : wid a = wid b := perm_sum (h.map _)
theorem wid_flat (f : Int × Int → List (Int × Int)) : ∀ qs : List (Int × Int), wid (qs.map f).flatten = (qs.map fun y => wid (f y)).sum
  | [] => rfl
  | y :: r => by
    rw [List.map_cons, List.flatten_cons, wid_app, wid_flat f r, List.map_cons, List.sum_cons]
theorem sum_free (f : Int × Int → List (Int × Int)) : ∀ qs : List (Int × Int), (qs.map fun y => freeI y (f y)).sum = wid qs - 2 * (qs.length : Int) - (qs.map fun y => wid (f y)).sum
  | [] => rfl
  | y :: r => by
    have ih := sum_free f r
    have e : wid (y :: r) = (y.2 - y.1 + 1) + wid r := by
      unfold wid
      rw [List.map_cons, List.sum_cons]
    rw [List.map_cons, List.sum_cons, List.map_cons, List.sum_cons, ih, e, List.length_cons]
    unfold freeI
    omega
theorem free_all {lo hi : Int} {qs : List (Int × Int)} (h : Fl lo hi qs) (n : Int) : n - wid (outL qs) + (qs.map fun y => freeI y (kidsOf qs y)).sum + 2 * (qs.length : Int) = n := by
  have h1 := wid_perm (all_kids h)
  rw [wid_app, wid_flat] at h1
  rw [sum_free]
  omega
end Pf


namespace Pf
open PySem PySem.Spec PyProof.Rows L2
/-! ### pairs moved on -/
def s1 (s : Int) (y : Int × Int) : Int × Int := (y.1 + s, y.2 + s)
def sh (s : Int) (qs : List (Int × Int)) : List (Int × Int) := qs.map (s1 s)
theorem Fl.sh {lo hi : Int} {qs : List (Int × Int)} (h : Fl lo hi qs) (s : Int) : Fl (lo + s) (hi + s) (Pf.sh s qs) := by
  induction h with
  | nil => exact .nil
  | @cons lo hi i j A B h1 h2 h3 hA hB ihA ihB =>
    unfold Pf.sh at ihA ihB ⊢
    rw [List.map_cons, List.map_append]
    exact Fl.cons (by omega) (by omega) (by omega) (ihA.mono (by omega) (by omega)) (ihB.mono (by omega) (by omega))
theorem sh_len (s : Int) (qs : List (Int × Int)) : (sh s qs).length = qs.length := List.length_map ..
theorem filt_sh (s : Int) (qs : List (Int × Int)) {f g : Int × Int → Bool} (h : ∀ z, f (s1 s z) = g z) : (sh s qs).filter f = sh s (qs.filter g) := by
  unfold sh
  rw [List.filter_map]
  congr 1
  exact List.filter_congr fun z _ => h z
theorem ins_sh (s : Int) (y z : Int × Int) : ins (some (s1 s y)) (s1 s z) = ins (some y) z := by
  show (decide (y.1 + s < z.1 + s) && decide (z.2 + s < y.2 + s)) = (decide (y.1 < z.1) && decide (z.2 < y.2))
  rw [show decide (y.1 + s < z.1 + s) = decide (y.1 < z.1) from decide_eq_decide.mpr (by omega), show decide (z.2 + s < y.2 + s) = decide (z.2 < y.2) from decide_eq_decide.mpr (by omega)]
theorem around_sh (s : Int) (qs : List (Int × Int)) (y : Int × Int) : around (sh s qs) (s1 s y) = sh s (around qs y) := by
  unfold around
  refine filt_sh s qs fun z => ?_
  show (decide (z.1 + s < y.1 + s) && decide (y.2 + s < z.2 + s)) = (decide (z.1 < y.1) && decide (y.2 < z.2))
  rw [show decide (z.1 + s < y.1 + s) = decide (z.1 < y.1) from decide_eq_decide.mpr (by omega), show decide (y.2 + s < z.2 + s) = decide (y.2 < z.2) from decide_eq_decide.mpr (by omega)]
theorem out_sh (s : Int) (qs : List (Int × Int)) : outL (sh s qs) = sh s (outL qs) := by
  unfold outL
  refine filt_sh s qs fun z => ?_
  rw [around_sh]
  unfold sh
  rw [List.isEmpty_map]
theorem kids_sh (s : Int) (qs : List (Int × Int)) (y : Int × Int) : kidsOf (sh s qs) (s1 s y) = sh s (kidsOf qs y) := by
  unfold kidsOf
  rw [filt_sh s qs (g := ins (some y)) fun z => ins_sh s y z, out_sh]
theorem wid_sh (s : Int) (qs : List (Int × Int)) : wid (sh s qs) = wid qs := by
  unfold wid sh
  rw [List.map_map]
  congr 1
  refine List.map_congr_left fun z _ => ?_
  show z.2 + s - (z.1 + s) + 1 = z.2 - z.1 + 1
  omega
theorem free_sh (s : Int) (y : Int × Int) (ks : List (Int × Int)) : freeI (s1 s y) (sh s ks) = freeI y ks := by
  unfold freeI
  rw [wid_sh]
  show y.2 + s - (y.1 + s) - 1 - wid ks = _
  omega
/-! ### one folding behind another -/
section
variable {qs rs : List (Int × Int)}
def Sepd (qs rs : List (Int × Int)) : Prop := (∀ a ∈ qs, a.1 < a.2) ∧ (∀ b ∈ rs, b.1 < b.2) ∧ ∀ a ∈ qs, ∀ b ∈ rs, a.2 < b.1
theorem kids_left (h : Sepd qs rs) {y : Int × Int} (hy : y ∈ qs) : kidsOf (qs ++ rs) y = kidsOf qs y := by
  unfold kidsOf
  rw [List.filter_append, filt_no (A := rs) fun z hz => ins_no (by have := h.2.2 y hy z hz; have := h.2.1 z hz; omega), List.append_nil]
theorem kids_right (h : Sepd qs rs) {y : Int × Int} (hy : y ∈ rs) : kidsOf (qs ++ rs) y = kidsOf rs y := by
  unfold kidsOf
  rw [List.filter_append, filt_no (A := qs) fun z hz => ins_no (by have := h.2.2 z hz y hy; have := h.1 z hz; omega), List.nil_append]
theorem out_cat (h : Sepd qs rs) : outL (qs ++ rs) = outL qs ++ outL rs := by
  unfold outL
  rw [List.filter_append]
  congr 1
  · refine List.filter_congr fun z hz => ?_
    have : around (qs ++ rs) z = around qs z := by
      unfold around
      rw [List.filter_append, filt_no (A := rs) fun o ho => ?_, List.append_nil]
      rw [decide_eq_false (show ¬ o.1 < z.1 by have := h.2.2 z hz o ho; have := h.1 z hz; omega), Bool.false_and]
    rw [this]
  · refine List.filter_congr fun z hz => ?_
    have : around (qs ++ rs) z = around rs z := by
      unfold around
      rw [List.filter_append, filt_no (A := qs) fun o ho => ?_, List.nil_append]
      rw [decide_eq_false (show ¬ z.2 < o.2 by have := h.2.2 o ho z hz; have := h.2.1 z hz; omega), Bool.and_false]
    rw [this]
end
/-! ### letters of strings put together -/
theorem sgn_left {x y : Str} {i : Int} (h0 : 0 ≤ i) (h1 : i < x.length) : sgn (x ++ y) i = sgn x i := by
  have hl : i.toNat < x.cps.toList.length := by
    rw [Array.length_toList]
    show i.toNat < x.length
    omega
  unfold sgn
  rw [Str.cps_append, Array.toList_append, List.getD_eq_getElem?_getD, List.getD_eq_getElem?_getD, List.getElem?_append_left hl]
theorem sgn_right {x y : Str} {i : Int} (h0 : 0 ≤ i) : sgn (x ++ y) (i + x.length) = sgn y i := by
  have e : (i + (x.length : Int)).toNat = x.cps.toList.length + i.toNat := by
    rw [Array.length_toList]
    show _ = x.length + i.toNat
    omega
  unfold sgn
  rw [Str.cps_append, Array.toList_append, List.getD_eq_getElem?_getD, List.getD_eq_getElem?_getD, e, List.getElem?_append_right (by omega), Nat.add_sub_cancel_left]
theorem lpW_eq {r : Rl} {x z : Str} {one one' : Int × Int} {ks ks' : List (Int × Int)} (hl : ks'.length = ks.length) (hf : freeI one' ks' = freeI one ks) (h1 : tx2 z one' = tx2 x one) (h2 : ∀ k, ks.head? = some k → tx2 z (ks'.headD (0, 0)) = tx2 x k) : lpW r z one' ks' = lpW r x one ks := by
  unfold lpW
  rw [hl, hf]
  by_cases c0 : ks.length = 0
  · rw [if_pos c0, if_pos c0]
  · rw [if_neg c0, if_neg c0]
    by_cases c1 : 1 < ks.length
    · rw [if_pos c1, if_pos c1]
    · rw [if_neg c1, if_neg c1]
      by_cases c2 : 0 < freeI one ks
      · rw [if_pos c2, if_pos c2]
      · rw [if_neg c2, if_neg c2, h1]
        cases ks with
        | nil => exact absurd rfl c0
        | cons k t => rw [h2 k rfl]; rfl
theorem headD_sh (s : Int) {ks : List (Int × Int)} {k : Int × Int} (h : ks.head? = some k) : (sh s ks).headD (0, 0) = s1 s k := by
  cases ks with
  | nil => cases h
  | cons a t =>
    cases h
    rfl
theorem head_mem {ks : List (Int × Int)} {k : Int × Int} (h : ks.head? = some k) : k ∈ ks := by
  cases ks with
  | nil => cases h
  | cons a t =>
    cases h
    exact List.mem_cons_self ..
theorem sum_map_app {α : Type} (f : α → Int) (a b : List α) : ((a ++ b).map f).sum = (a.map f).sum + (b.map f).sum := by
  rw [List.map_append, List.sum_append]
section
variable {r : Rl} {x y : Str} {qs rs : List (Int × Int)}
theorem tx_left (hq : InX x qs) {p : Int × Int} (hp : p ∈ qs) : tx2 (x ++ y) p = tx2 x p := by
  have := hq p hp
  unfold tx2
  rw [sgn_left (by omega) (by omega), sgn_left (by omega) (by omega)]
theorem tx_right {p : Int × Int} (h1 : 0 ≤ p.1) (h2 : 0 ≤ p.2) : tx2 (x ++ y) (s1 x.length p) = tx2 y p := by
  unfold tx2 s1
  rw [sgn_right h1, sgn_right h2]
theorem sepd_sh {n : Nat} {hi : Int} (hq : Fl 0 ((n : Int) - 1) qs) (hr : Fl 0 hi rs) : Sepd qs (sh (n : Int) rs) := by
  refine ⟨fun a ha => (hq.bound a ha).2.1, fun b hb => ?_, fun a ha b hb => ?_⟩
  · obtain ⟨z, hz, rfl⟩ := List.mem_map.mp hb
    have := (hr.bound z hz).2.1
    show z.1 + _ < z.2 + _
    omega
  · obtain ⟨z, hz, rfl⟩ := List.mem_map.mp hb
    have := hr.bound z hz
    have := hq.bound a ha
    show a.2 < z.1 + _
    omega
theorem fl_cat {m : Nat} (hq : Fl 0 ((x.length : Int) - 1) qs) (hr : Fl 0 ((m : Int) - 1) rs) : Fl 0 (((x.length + m : Nat) : Int) - 1) (qs ++ sh x.length rs) := by
  refine Fl.cat hq (m' := (x.length : Int)) (by omega) (by omega) ((hr.sh (x.length : Int)).mono (by omega) (by omega)) (fun z hz => ?_) (by omega)
  have := hq.bound z hz
  omega
theorem inX_of (hq : Fl 0 ((x.length : Int) - 1) qs) : InX x qs := fun z hz => by
  have := hq.bound z hz
  omega
theorem WF_cat (hq : Fl 0 ((x.length : Int) - 1) qs) (hr : Fl 0 ((y.length : Int) - 1) rs) : WF r (x ++ y) (qs ++ sh x.length rs) = WF r x qs + WF r y rs := by
  have hs := sepd_sh hq hr
  have hx := inX_of hq
  have hy := inX_of hr
  have e1 : pwS r (x ++ y) (qs ++ sh x.length rs) = pwS r x qs + pwS r y rs := by
    unfold pwS
    rw [sum_map_app]
    congr 1
    · congr 1
      exact List.map_congr_left fun z hz => by rw [tx_left hx hz]
    · unfold sh
      rw [List.map_map]
      congr 1
      refine List.map_congr_left fun z hz => ?_
      have := hy z hz
      show pwZ r.prs (tx2 (x ++ y) (s1 x.length z)) = _
      rw [tx_right (by omega) (by omega)]
  have e2 : lpS r (x ++ y) (qs ++ sh x.length rs) (qs ++ sh x.length rs) = lpS r x qs qs + lpS r y rs rs := by
    unfold lpS
    rw [sum_map_app]
    congr 1
    · congr 1
      refine List.map_congr_left fun z hz => ?_
      rw [kids_left hs hz]
      refine lpW_eq rfl rfl (tx_left hx hz) fun k hk => ?_
      have hkm := head_mem hk
      rw [List.headD_eq_head?_getD, hk]
      exact tx_left hx (kids_in k hkm).1
    · have e : ((sh x.length rs).map fun z => lpW r (x ++ y) z (kidsOf (qs ++ sh x.length rs) z)) = rs.map fun z => lpW r y z (kidsOf rs z) := by
        have hcong : ∀ z ∈ rs, lpW r (x ++ y) (s1 x.length z) (kidsOf (qs ++ sh x.length rs) (s1 x.length z)) = lpW r y z (kidsOf rs z) := fun z hz => by
          have hz' := hy z hz
          rw [kids_right hs (List.mem_map.mpr ⟨z, hz, rfl⟩), kids_sh]
          refine lpW_eq (sh_len _ _) (free_sh _ _ _) (tx_right (by omega) (by omega)) fun k hk => ?_
          have hk' := hy k (kids_in k (head_mem hk)).1
          rw [headD_sh _ hk]
          exact tx_right (by omega) (by omega)
        unfold sh at hcong ⊢
        rw [List.map_map]
        exact List.map_congr_left hcong
      rw [e]
  have e3 : (outL (qs ++ sh x.length rs)).length = (outL qs).length + (outL rs).length := by
    rw [out_cat hs, out_sh, List.length_append, sh_len]
  unfold WF
  rw [e1, e2, e3, Int.natCast_add, Int.add_mul]
  omega
theorem may_left {z : Int × Int} (h : InX x [z]) (hm : mayB r x z.1 z.2 = true) : mayB r (x ++ y) z.1 z.2 = true := by
  have := tx_left (y := y) h (List.mem_singleton.mpr rfl)
  unfold tx2 at this
  unfold mayB at hm ⊢
  rw [this]
  exact hm
theorem may_right {z : Int × Int} (h : InX y [z]) (hm : mayB r y z.1 z.2 = true) : mayB r (x ++ y) (s1 x.length z).1 (s1 x.length z).2 = true := by
  have h' := h z (List.mem_singleton.mpr rfl)
  have := tx_right (x := x) (y := y) (p := z) h'.1 h'.2.2.1
  unfold tx2 at this
  unfold mayB at hm ⊢
  rw [this, show (s1 (x.length : Int) z).2 - (s1 (x.length : Int) z).1 - 1 = z.2 - z.1 - 1 by show z.2 + _ - (z.1 + _) - 1 = _; omega]
  exact hm
theorem may_cat (hq : Fl 0 ((x.length : Int) - 1) qs) (hr : Fl 0 ((y.length : Int) - 1) rs) (hmq : ∀ z ∈ qs, mayB r x z.1 z.2 = true) (hmr : ∀ z ∈ rs, mayB r y z.1 z.2 = true) : ∀ z ∈ qs ++ sh x.length rs, mayB r (x ++ y) z.1 z.2 = true := fun z hz => by
  rcases List.mem_append.mp hz with hz | hz
  · exact may_left (fun w hw => by rw [List.mem_singleton.mp hw]; exact inX_of hq z hz) (hmq z hz)
  · obtain ⟨w, hw, rfl⟩ := List.mem_map.mp hz
    exact may_right (fun u hu => by rw [List.mem_singleton.mp hu]; exact inX_of hr w hw) (hmr w hw)
end
/-! ### brackets behind one another -/
theorem join_app : ∀ a b : List Str, J (a ++ b) = J a ++ J b
  | [], b => by
    show J b = Str.empty ++ J b
    rw [Str.empty_append]
  | x :: r, b => by
    rw [List.cons_append, join_cons, join_cons, join_app r b, Str.append_assoc]
theorem any_sh {f : Int × Int → Int} {s k : Int} (hf : ∀ z, f (s1 s z) = f z + s) : ∀ rs : List (Int × Int), ((sh s rs).any fun x => decide (f x = k + s)) = rs.any fun x => decide (f x = k)
  | [] => rfl
  | z :: r => by
    show (decide (f (s1 s z) = k + s) || ((sh s r).any fun x => decide (f x = k + s))) = _
    rw [List.any_cons, any_sh hf r, hf z, show decide (f z + s = k + s) = decide (f z = k) from decide_eq_decide.mpr (by omega)]
theorem txt_cat {qs rs : List (Int × Int)} {n m : Nat} (hq : Fl 0 ((n : Int) - 1) qs) (hr : Fl 0 ((m : Int) - 1) rs) : txt (qs ++ sh n rs) (n + m) = txt qs n ++ txt rs m := by
  have bq := hq.bound
  have br := hr.bound
  have ea : ∀ (f : Int × Int → Int) (k : Int), ((qs ++ sh n rs).any fun x => decide (f x = k)) = ((qs.any fun x => decide (f x = k)) || (sh n rs).any fun x => decide (f x = k)) := fun f k => List.any_append ..
  unfold txt
  rw [List.range_add, List.map_append, join_app, List.map_map]
  congr 2
  · refine List.map_congr_left fun k hk => ?_
    have hk := List.mem_range.mp hk
    unfold sg
    rw [ea (·.1), ea (·.2), any_no (f := (·.1)) (qs := sh n rs) fun z hz => ?_, any_no (f := (·.2)) (qs := sh n rs) fun z hz => ?_, Bool.or_false, Bool.or_false]
    · obtain ⟨w, hw, rfl⟩ := List.mem_map.mp hz
      have := br w hw
      show w.2 + (n : Int) ≠ k
      omega
    · obtain ⟨w, hw, rfl⟩ := List.mem_map.mp hz
      have := br w hw
      show w.1 + (n : Int) ≠ k
      omega
  · refine List.map_congr_left fun k _ => ?_
    show sg (qs ++ sh n rs) (n + k) = sg rs k
    unfold sg
    have e : ((n + k : Nat) : Int) = (k : Int) + (n : Int) := by omega
    rw [e, ea (·.1), ea (·.2), any_no (f := (·.1)) (qs := qs) fun z hz => by have := bq z hz; omega, any_no (f := (·.2)) (qs := qs) fun z hz => by have := bq z hz; omega, Bool.false_or, Bool.false_or, any_sh (f := (·.1)) (fun z => rfl), any_sh (f := (·.2)) (fun z => rfl)]
/-! ### a pair around a folding -/
section
variable {r : Rl} {x a b : Str} {qs : List (Int × Int)}
def arL (n : Nat) (qs : List (Int × Int)) : List (Int × Int) := (0, (n : Int) + 1) :: sh 1 qs
theorem ar_nil (n : Nat) (qs : List (Int × Int)) : arL n qs = (0, (n : Int) + 1) :: (sh 1 qs ++ []) := by
  rw [List.append_nil]
  rfl
theorem fl_in (hq : Fl 0 ((x.length : Int) - 1) qs) : Fl (0 + 1) ((x.length : Int) + 1 - 1) (sh 1 qs) := (hq.sh 1).mono (by omega) (by omega)
theorem fl_ar (hq : Fl 0 ((x.length : Int) - 1) qs) : Fl 0 ((x.length : Int) + 1) (arL x.length qs) := by
  rw [ar_nil]
  exact Fl.cons (Int.le_refl _) (by omega) (Int.le_refl _) (fl_in hq) .nil
theorem tx_mid (ha : a.length = 1) {p : Int × Int} (h : 0 ≤ p.1 ∧ p.1 < x.length ∧ 0 ≤ p.2 ∧ p.2 < x.length) : tx2 (a ++ x ++ b) (s1 1 p) = tx2 x p := by
  have e : s1 1 p = s1 (a.length : Int) p := by rw [ha]; rfl
  unfold tx2
  rw [e]
  show sgn (a ++ x ++ b) (p.1 + a.length) ++ sgn (a ++ x ++ b) (p.2 + a.length) = _
  have hl : (a ++ x).length = a.length + x.length := Str.length_append ..
  rw [sgn_left (x := a ++ x) (by omega) (by omega), sgn_left (x := a ++ x) (by omega) (by omega), sgn_right h.1, sgn_right h.2.2.1]
theorem tx_out (ha : a.length = 1) : tx2 (a ++ x ++ b) (0, (x.length : Int) + 1) = sgn a 0 ++ sgn b 0 := by
  have hl : (a ++ x).length = a.length + x.length := Str.length_append ..
  unfold tx2
  show sgn (a ++ x ++ b) 0 ++ sgn (a ++ x ++ b) ((x.length : Int) + 1) = _
  rw [show (x.length : Int) + 1 = 0 + ((a ++ x).length : Int) by omega, sgn_right (Int.le_refl _), sgn_left (x := a ++ x) (Int.le_refl _) (by omega), sgn_left (x := a) (Int.le_refl _) (by omega)]
theorem row_ar (ha : a.length = 1) (hq : Fl 0 ((x.length : Int) - 1) qs) {z : Int × Int} (hz : z ∈ qs) : lpR r (a ++ x ++ b) (arL x.length qs) (s1 1 z) = ((lpR r x qs z).1 + 1, (lpR r x qs z).2.1 + 1, (lpR r x qs z).2.2) := by
  have hx := inX_of hq
  have ek : kidsOf (arL x.length qs) (s1 1 z) = sh 1 (kidsOf qs z) := by
    rw [ar_nil, kids_A (fl_in hq) (.nil (hi := (x.length : Int) + 1)) (List.mem_map.mpr ⟨z, hz, rfl⟩), kids_sh]
  have ew : lpW r (a ++ x ++ b) (s1 1 z) (sh 1 (kidsOf qs z)) = lpW r x z (kidsOf qs z) := by
    refine lpW_eq (sh_len _ _) (free_sh _ _ _) (tx_mid ha (hx z hz)) fun k hk => ?_
    rw [headD_sh _ hk]
    exact tx_mid ha (hx k (kids_in k (head_mem hk)).1)
  unfold lpR
  rw [ek, ew, free_sh, sh_len]
  rfl
theorem WF_ar (ha : a.length = 1) (hq : Fl 0 ((x.length : Int) - 1) qs) : WF r (a ++ x ++ b) (arL x.length qs) = WF r x qs - lo r 8 * (outL qs).length + lo r 8 + pwZ r.prs (sgn a 0 ++ sgn b 0) + (lpR r (a ++ x ++ b) (arL x.length qs) (0, (x.length : Int) + 1)).2.2.2.2 := by
  have hx := inX_of hq
  have e1 : pwS r (a ++ x ++ b) (arL x.length qs) = pwZ r.prs (sgn a 0 ++ sgn b 0) + pwS r x qs := by
    unfold pwS arL sh
    rw [List.map_cons, List.sum_cons, tx_out ha, List.map_map]
    congr 2
    refine List.map_congr_left fun z hz => ?_
    show pwZ r.prs (tx2 (a ++ x ++ b) (s1 1 z)) = _
    rw [tx_mid ha (hx z hz)]
  have e2 : lpS r (a ++ x ++ b) (arL x.length qs) (arL x.length qs) = (lpR r (a ++ x ++ b) (arL x.length qs) (0, (x.length : Int) + 1)).2.2.2.2 + lpS r x qs qs := by
    have hcong : ∀ z ∈ qs, lpW r (a ++ x ++ b) (s1 1 z) (kidsOf (arL x.length qs) (s1 1 z)) = lpW r x z (kidsOf qs z) := fun z hz => by
      have := row_ar (r := r) (b := b) ha hq hz
      have := congrArg (fun t : Row => t.2.2.2.2) this
      exact this
    unfold lpS
    show ((((0, (x.length : Int) + 1) :: sh 1 qs).map fun z => lpW r (a ++ x ++ b) z (kidsOf (arL x.length qs) z))).sum = _
    rw [List.map_cons, List.sum_cons]
    unfold sh
    rw [List.map_map]
    congr 2
    exact List.map_congr_left hcong
  have e3 : (outL (arL x.length qs)).length = 1 := by
    rw [ar_nil, out_cons (Int.le_refl _) (by omega) (Int.le_refl _) (fl_in hq) .nil]
    rfl
  unfold WF
  rw [e1, e2, e3, Int.mul_comm (lo r 8)]
  omega
theorem may_ar (ha : a.length = 1) (hq : Fl 0 ((x.length : Int) - 1) qs) (hm : ∀ z ∈ qs, mayB r x z.1 z.2 = true) (h : mayB r (a ++ x ++ b) 0 ((x.length : Int) + 1) = true) : ∀ z ∈ arL x.length qs, mayB r (a ++ x ++ b) z.1 z.2 = true := fun z hz => by
  rcases List.mem_cons.mp hz with rfl | hz
  · exact h
  · obtain ⟨w, hw, rfl⟩ := List.mem_map.mp hz
    have h1 := tx_mid (b := b) ha (inX_of hq w hw)
    have h2 := hm w hw
    unfold tx2 at h1
    unfold mayB at h2 ⊢
    rw [h1, show (s1 1 w).2 - (s1 1 w).1 - 1 = w.2 - w.1 - 1 by show w.2 + 1 - (w.1 + 1) - 1 = _; omega]
    exact h2
theorem isF_ar (ha : a.length = 1) (hb : b.length = 1) (hq : Fl 0 ((x.length : Int) - 1) qs) (hm : ∀ z ∈ qs, mayB r x z.1 z.2 = true) : isF r (a ++ x ++ b) (arL x.length qs) = mayP r (a ++ x ++ b) 0 ((x.length : Int) + 1) := by
  have hl : (a ++ x ++ b).length = x.length + 2 := by
    rw [Str.length_append, Str.length_append]
    omega
  cases e : mayP r (a ++ x ++ b) 0 ((x.length : Int) + 1) with
  | true =>
    refine isF_true (fl_ar hq) (by omega) (may_ar ha hq hm ?_)
    unfold mayP at e
    rw [Bool.and_eq_true] at e
    exact e.2
  | false =>
    unfold isF arL
    rw [List.map_cons, List.all_cons]
    show ((mayP r (a ++ x ++ b) 0 ((x.length : Int) + 1) && _) && _) = false
    rw [e]
    rfl
end
theorem Fl.sub {lo hi : Int} {ps : List (Int × Int)} (h : Fl lo hi ps) : ∀ {qs : List (Int × Int)}, qs.Sublist ps → Fl lo hi qs := by
  induction h with
  | nil =>
    intro qs hs
    rw [List.sublist_nil.mp hs]
    exact .nil
  | @cons lo hi i j A B h1 h2 h3 hA hB ihA ihB =>
    intro qs hs
    rcases List.sublist_cons_iff.mp hs with hs2 | ⟨r, rfl, hs2⟩
    · obtain ⟨A', B', rfl, hsA, hsB⟩ := List.sublist_append_iff.mp hs2
      have := Fl.cat (ihA hsA) (m' := j + 1) (hi := hi) (by omega) (by omega) (ihB hsB) (fun x hx => by
        have := hA.bound x (hsA.subset hx)
        omega) (by omega)
      exact this.mono (by omega) (Int.le_refl _)
    · obtain ⟨A', B', rfl, hsA, hsB⟩ := List.sublist_append_iff.mp hs2
      exact .cons h1 h2 h3 (ihA hsA) (ihB hsB)
end Pf


namespace Pf
open PySem PySem.Spec PyProof.Rows L2
/-! ### a list of things that grows in a comprehension -/
section
variable {β : Type} {R : Hp → V → β → Prop} {D : Addr} {H H1 H4 : Hp} {bs : List β} {i n : Nat} {v : V} {b : β}
def GenP (R : Hp → V → β → Prop) (D : Addr) (H1 : Hp) (bs : List β) (i : Nat) (H : Hp) : Prop := ∃ vs, H D = some (.lst vs) ∧ Paired (R H) vs (bs.take i) ∧ Ext H1 H
theorem gen_new (hD : H1 D = none) : GenP R D H1 bs 0 (upd H1 D (.lst [])) := ⟨[], upd_same, by rw [List.take_zero]; exact .nil, Ext.new hD⟩
theorem GenP.ext (h : GenP R D H1 bs i H) : Ext H1 H := by
  obtain ⟨_, _, _, k⟩ := h
  exact k
theorem gen_step (m : Mono R) (hD : H1 D = none) (h : GenP R D H1 bs i H) (k : Ext H H4) (hv : R H4 v b) (hb : bs[i]? = some b) (hn : bs.length ≤ 1000) : ∃ acc, H4 D = some (.lst acc) ∧ acc.length < sizeLine ∧ GenP R D H1 bs (i + 1) (upd H4 D (.lst (acc ++ [v]))) := by
  obtain ⟨vs, hL, hP, k1⟩ := h
  have hl := paired_len hP
  rw [List.length_take] at hl
  have hL4 := k _ _ hL
  refine ⟨vs, hL4, szLt (by omega), vs ++ [v], upd_same, ?_, (k1.trans k).put hD⟩
  rw [List.take_add_one, hb]
  exact paired_app (paired_imp (fun _ _ => m _ _ _ _ ((TupK.ext k).trans (TupK.lst hL4))) hP) (.cons (m _ _ _ _ (TupK.lst hL4) hv) .nil)
theorem gen_end (h : GenP R D H1 bs n H) (hn : bs.length ≤ n) : ∃ vs, H D = some (.lst vs) ∧ Paired (R H) vs bs ∧ Ext H1 H := by
  obtain ⟨vs, hL, hP, k⟩ := h
  rw [List.take_of_length_le hn] at hP
  exact ⟨vs, hL, hP, k⟩
end
/-! ### rows without their places -/
abbrev Tr : Type := Str × Int × Int
def TrAt (H : Hp) (v : V) (y : Tr) : Prop := ∃ a, v = .ref a ∧ H a = some (.tup [.str y.1, .int y.2.1, .int y.2.2])
theorem TrAt.mono : Mono TrAt := fun H H' v x k ⟨a, e, h⟩ => ⟨a, e, k _ _ h⟩
def dTr (y : Tr) : PyData := .tuple [.str y.1, .int y.2.1, .int y.2.2]
theorem dpTrs {K : PySem.W.Frag} {H : Hp} : ∀ {vs : List V} {ps : List Tr}, Paired (TrAt H) vs ps → DpAll K H vs (ps.map dTr)
  | _, _, .nil => .nil
  | _, _, .cons ⟨_, e, h⟩ t => .cons (e ▸ .tup (SqT.of h) (.cons (.str _) (.cons (.int _) (.cons (.int _) .nil)))) (dpTrs t)
theorem sm_trs {r : Rl} (ok : RlOk r) {x : Str} {qs : List (Int × Int)} {hi : Int} (h : Fl 0 hi qs) (hh : hi < 900) (hq : qs.length ≤ 100) : Sm 50000 2 (.list ((qs.map fun z => (lpR r x qs z).2.2).map dTr)) := by
  refine Sm.lst (n := 100) (m := 400) (k := 1) (by rw [List.length_map, List.length_map]; exact hq) (fun d hd => ?_) (by decide)
  obtain ⟨y, hy, rfl⟩ := List.mem_map.mp hd
  obtain ⟨one, ho, rfl⟩ := List.mem_map.mp hy
  have hb := h.bound one ho
  have hf := free_sep (kids_sep h (one := one) hb.2.1)
  have hkl := kids_len (qs := qs) (one := one)
  have hw := lpW_bound ok (x := x) (one := one) (ks := kidsOf qs one) hf.1 (by omega) (by omega)
  refine Sm.tup (n := 3) (m := 64) (k := 0) (Nat.le_refl _) (fun d hd => ?_) (by decide)
  simp only [List.mem_cons, List.not_mem_nil, or_false] at hd
  rcases hd with rfl | rfl | rfl
  · exact Sm.str (kind_ok _ _).1 (kind_ok _ _).2
  · exact Sm.int (show _ < freeI one (kidsOf qs one) by omega) (show freeI one (kidsOf qs one) < _ by omega)
  · exact Sm.int (show _ < lpW r x one (kidsOf qs one) by omega) (show lpW r x one (kidsOf qs one) < _ by omega)
theorem eqv_all (d : PyData) {m k : Nat} (h : Sm m k d) : PyData.eqv d d = true := SeqAt.eqv_refl d h.lay
theorem two_eq {b : Str} (h : b.length = 2) : sgn b 0 ++ sgn b 1 = b := by
  obtain ⟨⟨l⟩⟩ := b
  match l, h with
  | [c, d], _ => rfl
/-- a string with a folding of it, in a tuple -/
def WdAt (r : Rl) (H : Hp) (w : V) (xq : Str × List (Int × Int)) : Prop := ∃ t vf, w = .ref t ∧ H t = some (.tup [.str xq.1, vf]) ∧ TupOf TwoAt H vf xq.2
theorem WdAt.mono {r : Rl} : Mono (WdAt r) := fun H H' v x k ⟨t, vf, e, h1, h2⟩ => ⟨t, vf, e, k _ _ h1, TupOf.mono TwoAt.mono _ _ _ _ k h2⟩
structure WdOk (r : Rl) (xq : Str × List (Int × Int)) : Prop where
  len : xq.1.length ≤ 6
  fl : Fl 0 ((xq.1.length : Int) - 1) xq.2
  may : ∀ y ∈ xq.2, mayB r xq.1 y.1 y.2 = true
theorem WdOk.size {r : Rl} {xq : Str × List (Int × Int)} (h : WdOk r xq) : xq.2.length ≤ 3 := by
  have := h.fl.len (by omega)
  have := h.len
  omega
section
variable {P : Program} {w : World} {K : PySem.W.Frag} {mg : Str → Option Value} {base : Heap}
abbrev CBr (P : Program) (w : World) (K : PySem.W.Frag) (mg : Str → Option Value) (base : Heap) : Prop := Ca P w K mg base 1 "brackets" ["string", "folding"] spBr
abbrev CWO (P : Program) (w : World) (K : PySem.W.Frag) (mg : Str → Option Value) (base : Heap) : Prop := Ca P w K mg base 4 "worth_of" ["rules", "string", "folding"] spWO
abbrev s_law_both_right : Stmt := topS 31
theorem sc_law_both_right : FnScope ["_law_code_here", "_law_first", "_law_second", "_law_word_here", "_law_folds", "_law_later", "_law_others", "_law_size", "_law_both", "_law_i", "_law_j"] ["_law_code_here", "_law_first", "_law_second"] (defScope s_law_both_right) :=
  ⟨rfl, rfl, rfl, by decide +kernel, rfl, by decide +kernel, by decide +kernel⟩
def spBoth : Sp := fun vs H Q _ => ∃ (v u1 u2 : V) (r : Rl) (xq yr : Str × List (Int × Int)), vs = [v, u1, u2] ∧ RulesAt H v r ∧ RlOk r ∧ WdAt r H u1 xq ∧ WdAt r H u2 yr ∧ WdOk r xq ∧ WdOk r yr ∧ ∀ H', Ext H H' → Q (.bl true) H'
theorem ok_both {f : Addr} {fd : FuncData} (F : Fun K "_law_both_right" "_law_both_right" s_law_both_right f fd) (cbrackets : CBr P w K mg base) (cis_folding : CIF P w K mg base) (cworth_of : CWO P w K mg base) (mlen : mg "len" = none) (mtuple : mg "tuple" = none) : FnOk P w K mg base CX0 5 f fd ["_law_code_here", "_law_first", "_law_second"] spBoth := by
  refine F.ok sc_law_both_right (fun vs H Q E h => ?_) (fun cdv A outer s H vs Q E hr h => ?_)
  · obtain ⟨v, u1, u2, r, xq, yr, rfl, _⟩ := h
    rfl
  · obtain ⟨v, u1, u2, r, ⟨x, qs⟩, ⟨y, rs⟩, rfl, hR, ok, ⟨t1, vf, rfl, hT1, ⟨af, fs, rfl, hF, hPf⟩⟩, ⟨t2, vg, rfl, hT2, ⟨ag, gs, rfl, hG, hPg⟩⟩, okx, oky, q⟩ := h
    refine ⟨_, (pss_cons (ps_asg (pv 1) (pg_tup rfl (pgs_cons (pg_name (i := 3) sc_law_both_right.nd rfl (.inl rfl)) (pgs_cons (pg_name (i := 4) sc_law_both_right.nd rfl (.inl rfl)) pgs_nil))))
      (pss_cons (ps_asg (pv 2) (pg_tup rfl (pgs_cons (pg_name (i := 5) sc_law_both_right.nd rfl (.inl rfl)) (pgs_cons (pg_name (i := 6) sc_law_both_right.nd rfl (.inl rfl)) pgs_nil))))
      (pss_cons (ps_set (i := 7) sc_law_both_right.nd rfl (.inr rfl) (pe_callB call_len_str (by rfl) mlen (by decide +kernel) (pa_cons (pv 3) pa_nil)))
      (pss_cons (ps_set (i := 8) sc_law_both_right.nd rfl (.inl rfl) (pe_op (catE K) (pv 4) (pe_callTy (tupleOf K) (by rfl) mtuple (by decide +kernel) (pa_cons (pe_lc (own := [("_law_i", 9), ("_law_j", 10)]) (g := gTup K 2 (gCons (gName 9) (gCons (gName 10) gNil))) (by rfl) sc_law_both_right.nd (pi_tup (pv 6)) (blkOk_by (own := [("_law_i", 9), ("_law_j", 10)]) (N := ["_law_code_here", "_law_first", "_law_second", "_law_word_here", "_law_folds", "_law_later", "_law_others", "_law_size", "_law_both", "_law_i", "_law_j"]) (sc := defScope s_law_both_right) (by decide +kernel)) (fun _ _ _ _ _ => (pgT K rfl (pgs_cons (pg_name (i := 9) sc_law_both_right.nd rfl (.inl rfl)) (pgs_cons (pg_name (i := 10) sc_law_both_right.nd rfl (.inl rfl)) pgs_nil)))) (fun _ _ _ _ _ => pts_nil) (fun _ _ _ _ _ => (pe_tup (pa_cons (pe_op op_add (pv 9) (pv 7)) (pa_cons (pe_op op_add (pv 10) (pv 7)) pa_nil))))) pa_nil))))
      (pss_cons (ps_if (pt_cmpR op_isnot_bl (pe_ca cis_folding (hr.mono (by decide)) (by rfl) (pa_cons (pv 0) (pa_cons (pe_op op_add_str (pv 3) (pv 5)) (pa_cons (pv 8) pa_nil)))) pe_bl (nomark _)) (pss_one (ps_ret pe_bl)) pss_nil)
      (pss_cons (ps_if (pt_cmpR op_ne (pe_ca cbrackets (hr.mono (by decide)) (by rfl) (pa_cons (pe_op op_add_str (pv 3) (pv 5)) (pa_cons (pv 8) pa_nil))) (pe_op op_add_str (pe_ca cbrackets (hr.mono (by decide)) (by rfl) (pa_cons (pv 3) (pa_cons (pv 4) pa_nil))) (pe_ca cbrackets (hr.mono (by decide)) (by rfl) (pa_cons (pv 5) (pa_cons (pv 6) pa_nil)))) (nomark _)) (pss_one (ps_ret pe_bl)) pss_nil)
      (pss_one (ps_ret (pe_cmpR op_eq (pe_ca cworth_of (hr.mono (by decide)) (by rfl) (pa_cons (pv 0) (pa_cons (pe_op op_add_str (pv 3) (pv 5)) (pa_cons (pv 8) pa_nil)))) (pe_op op_add (pe_ca cworth_of (hr.mono (by decide)) (by rfl) (pa_cons (pv 0) (pa_cons (pv 3) (pa_cons (pv 4) pa_nil)))) (pe_ca cworth_of (hr.mono (by decide)) (by rfl) (pa_cons (pv 0) (pa_cons (pv 5) (pa_cons (pv 6) pa_nil))))) (nomark _)))))))))), ?_⟩
    have hql : qs.length ≤ 3 := okx.size
    have hrl : rs.length ≤ 3 := oky.size
    have hfl : fs.length = qs.length := paired_len hPf
    have hgl : gs.length = rs.length := paired_len hPg
    have hx : x.length ≤ 6 := okx.len
    have hy : y.length ≤ 6 := oky.len
    have flx : Fl 0 ((x.length : Int) - 1) qs := okx.fl
    have fly : Fl 0 ((y.length : Int) - 1) rs := oky.fl
    have hxy : (x ++ y).length = x.length + y.length := Str.length_append ..
    refine ⟨_, rfl, t1, _, rfl, SqT.of hT1, rfl, _, _, rfl, _, _, rfl, rfl, ?_⟩
    refine ⟨_, rfl, t2, _, rfl, SqT.of hT2, rfl, _, _, rfl, _, _, rfl, rfl, ?_⟩
    refine ⟨_, rfl, x, rfl, szL (by omega), ?_⟩
    refine ⟨_, rfl, _, rfl, ag, rfl, ⟨_, SqT.of hG⟩, fun D hD => lc_tup (K := K) (xs := gs) (GenP TwoAt D H (sh x.length rs)) (gen_new hD) (fun i H2 _ h => SqT.of (h.ext _ _ hG)) (fun i u H2 hi hv => ?_) (fun H2 hv => ?_)⟩
    · obtain ⟨z, hz, a1, rfl, ha1⟩ := paired_get hPg hi
      refine ⟨a1, _, rfl, SqT.of (hv.ext _ _ ha1), rfl, _, _, rfl, _, _, rfl, rfl, rfl, _, rfl, _, rfl, _, _, rfl, rfl, _, rfl, _, rfl, _, _, rfl, rfl, szL (show 2 ≤ 1000000 by decide), fun t ht => ?_⟩
      refine gen_step TwoAt.mono hD hv (Ext.new ht) (b := s1 x.length z) ⟨t, rfl, upd_same⟩ ?_ (by rw [sh_len]; omega)
      unfold sh
      rw [List.getElem?_map, hz]
      rfl
    obtain ⟨vs2, hL2, hP2, k2⟩ := gen_end hv (by rw [sh_len]; omega)
    clear hv
    have hv2 := paired_len hP2
    rw [sh_len] at hv2
    refine ⟨D, vs2, rfl, .inl ⟨SqL.of hL2, fun tp htp => ?_⟩⟩
    have x3 := Ext.new (o := .tup vs2) htp
    refine ⟨af, tp, fs, vs2, rfl, rfl, x3 _ _ (k2 _ _ hF), upd_same, szL (by omega), fun p H4 k4 hp4 => ?_⟩
    have k04 := (k2.trans x3).trans k4
    have tupB : ∀ {H' : Hp}, Ext H4 H' → TupOf TwoAt H' (.ref p) (qs ++ sh x.length rs) := fun k => ⟨p, fs ++ vs2, rfl, k _ _ hp4, paired_app (paired_imp (fun _ _ => TwoAt.mono _ _ _ _ (TupK.ext (k04.trans k))) hPf) (paired_imp (fun _ _ => TwoAt.mono _ _ _ _ (TupK.ext ((x3.trans k4).trans k))) hP2)⟩
    have tupF : ∀ {H' : Hp}, Ext H H' → TupOf TwoAt H' (.ref af) qs := fun k => ⟨af, fs, rfl, k _ _ hF, paired_imp (fun _ _ => TwoAt.mono _ _ _ _ (TupK.ext k)) hPf⟩
    have tupG : ∀ {H' : Hp}, Ext H H' → TupOf TwoAt H' (.ref ag) rs := fun k => ⟨ag, gs, rfl, k _ _ hG, paired_imp (fun _ _ => TwoAt.mono _ _ _ _ (TupK.ext k)) hPg⟩
    have rulE : ∀ {H' : Hp}, Ext H H' → RulesAt H' v r := fun k => RulesAt.mono _ _ _ _ (TupK.ext k) hR
    have flb := fl_cat flx fly
    have hbl : (qs ++ sh x.length rs).length ≤ 6 := by
      rw [List.length_append, sh_len]
      omega
    have hmb := may_cat flx fly okx.may oky.may
    have bb := flb.bound
    -- is_folding
    refine ⟨_, rfl, _, rfl, _, rfl, x, y, rfl, rfl, szL (by omega), _, rfl, v, .ref p, r, x ++ y, _, rfl, rulE k04, by omega, tupB Ext.refl, by omega, fun H5 k5 => ⟨_, _, rfl, rfl, _, rfl, ?_⟩⟩
    rw [isF_true flb (by omega) hmb]
    refine iteF ?_
    -- brackets
    refine ⟨_, rfl, _, rfl, x, y, rfl, rfl, szL (by omega), _, rfl, x ++ y, .ref p, _, rfl, tupB k5, flb.sep, (fun z hz => by have := bb z hz; omega), by omega, fun H6 k6 => ?_⟩
    have k06 := (k04.trans k5).trans k6
    refine ⟨_, rfl, _, rfl, x, .ref af, qs, rfl, tupF k06, flx.sep, (fun z hz => by have := flx.bound z hz; omega), by omega, fun H7 k7 => ?_⟩
    refine ⟨_, rfl, _, rfl, y, .ref ag, rs, rfl, tupG (k06.trans k7), fly.sep, (fun z hz => by have := fly.bound z hz; omega), by omega, fun H8 k8 => ?_⟩
    have l1 := txt_len' qs x.length
    have l2 := txt_len' rs y.length
    refine ⟨_, _, rfl, rfl, szL (by omega), rfl, _, rfl, iteNS ?_ ?_⟩
    · rw [hxy, txt_cat flx fly]
    -- worth_of
    have k08 := (k06.trans k7).trans k8
    have k48 := ((k5.trans k6).trans k7).trans k8
    refine ⟨_, rfl, _, rfl, _, rfl, x, y, rfl, rfl, szL (by omega), _, rfl, v, .ref p, r, x ++ y, _, _, rfl, rulE k08, ok, by omega, tupB k48, by omega, flb, by omega, hmb, fun H9 k9 => ?_⟩
    refine ⟨_, rfl, _, rfl, _, rfl, v, .ref af, r, x, qs, _, rfl, rulE (k08.trans k9), ok, by omega, tupF (k08.trans k9), by omega, flx, by omega, okx.may, fun H10 k10 => ?_⟩
    refine ⟨_, rfl, _, rfl, _, rfl, v, .ref ag, r, y, rs, _, rfl, rulE ((k08.trans k9).trans k10), ok, by omega, tupG ((k08.trans k9).trans k10), by omega, fly, by omega, oky.may, fun H11 k11 => ?_⟩
    refine ⟨_, _, rfl, rfl, rfl, ?_⟩
    rw [decide_eq_true (show V.int (WF r (x ++ y) (qs ++ sh x.length rs)) = V.int (WF r x qs + WF r y rs) from congrArg V.int (WF_cat flx fly))]
    exact q _ (((k08.trans k9).trans k10).trans k11)
abbrev s_law_around_right : Stmt := topS 32
theorem sc_law_around_right : FnScope ["_law_code_here", "_law_word_here", "_law_folds", "_law_both", "_law_longer", "_law_around", "_law_some", "_law_may_here", "_law_loops", "_law_elder", "_law_out", "_law_due", "_law_row", "_law_i", "_law_j"] ["_law_code_here", "_law_word_here", "_law_folds", "_law_both"] (defScope s_law_around_right) :=
  ⟨rfl, rfl, rfl, by decide +kernel, rfl, by decide +kernel, by decide +kernel⟩
def spAr : Sp := fun vs H Q _ => ∃ (v vf : V) (r : Rl) (x b : Str) (qs : List (Int × Int)), vs = [v, .str x, vf, .str b] ∧ RulesAt H v r ∧ RlOk r ∧ TupOf TwoAt H vf qs ∧ WdOk r (x, qs) ∧ b ∈ r.prs.map (·.1) ∧ ∀ H', Ext H H' → Q (.bl true) H'
theorem ok_ar {f : Addr} {fd : FuncData} (F : Fun K "_law_around_right" "_law_around_right" s_law_around_right f fd) (cis_folding : CIF P w K mg base) (cmay_pair : CMP P w K mg base) (cloops_of : CLoops P w K mg base) (cstraight_within : CWithin P w K mg base) (cpair_worth : CPW P w K mg base) (cworth_of : CWO P w K mg base) (mlen : mg "len" = none) (mtuple : mg "tuple" = none) (mrepr : mg "repr" = none) : FnOk P w K mg base CX0 5 f fd ["_law_code_here", "_law_word_here", "_law_folds", "_law_both"] spAr := by
  refine F.ok sc_law_around_right (fun vs H Q E h => ?_) (fun cdv A outer s H vs Q E hr h => ?_)
  · obtain ⟨v, vf, r, x, b, qs, rfl, _⟩ := h
    rfl
  · obtain ⟨v, vf, r, x, b, qs, rfl, hR, ok, ⟨af, fs, rfl, hF, hPf⟩, okx, hbm, q⟩ := h
    refine ⟨_, (pss_cons (ps_set (i := 4) sc_law_around_right.nd rfl (.inl rfl) (pe_op op_add_str (pe_op op_add_str (pe_ix ix_str (pv 3) pe_int (fun _ _ => rfl)) (pv 1)) (pe_ix ix_str (pv 3) pe_int (fun _ _ => rfl))))
      (pss_cons (ps_set (i := 5) sc_law_around_right.nd rfl (.inl rfl) (pe_tup (pa_cons pe_int (pa_cons (pe_op op_add (pe_callB call_len_str (by rfl) mlen (by decide +kernel) (pa_cons (pv 1) pa_nil)) pe_int) pa_nil))))
      (pss_cons (ps_set (i := 6) sc_law_around_right.nd rfl (.inl rfl) (pe_op (catE K) (pe_tup (pa_cons (pv 5) pa_nil)) (pe_callTy (tupleOf K) (by rfl) mtuple (by decide +kernel) (pa_cons (pe_lc (own := [("_law_i", 13), ("_law_j", 14)]) (g := gTup K 2 (gCons (gName 13) (gCons (gName 14) gNil))) (by rfl) sc_law_around_right.nd (pi_tup (pv 2)) (blkOk_by (own := [("_law_i", 13), ("_law_j", 14)]) (N := ["_law_code_here", "_law_word_here", "_law_folds", "_law_both", "_law_longer", "_law_around", "_law_some", "_law_may_here", "_law_loops", "_law_elder", "_law_out", "_law_due", "_law_row", "_law_i", "_law_j"]) (sc := defScope s_law_around_right) (by decide +kernel)) (fun _ _ _ _ _ => (pgT K rfl (pgs_cons (pg_name (i := 13) sc_law_around_right.nd rfl (.inl rfl)) (pgs_cons (pg_name (i := 14) sc_law_around_right.nd rfl (.inl rfl)) pgs_nil)))) (fun _ _ _ _ _ => pts_nil) (fun _ _ _ _ _ => (pe_tup (pa_cons (pe_op op_add (pv 13) pe_int) (pa_cons (pe_op op_add (pv 14) pe_int) pa_nil))))) pa_nil))))
      (pss_cons (ps_set (i := 7) sc_law_around_right.nd rfl (.inl rfl) (pe_ca cmay_pair (hr.mono (by decide)) (by rfl) (pa_cons (pv 0) (pa_cons (pv 4) (pa_cons pe_int (pa_cons (pe_op op_add (pe_callB call_len_str (by rfl) mlen (by decide +kernel) (pa_cons (pv 1) pa_nil)) pe_int) pa_nil))))))
      (pss_cons (ps_if (pt_cmpR op_ne (pe_callB call_repr (by rfl) mrepr (by decide +kernel) (pa_cons (pe_ca cis_folding (hr.mono (by decide)) (by rfl) (pa_cons (pv 0) (pa_cons (pv 4) (pa_cons (pv 6) pa_nil)))) pa_nil)) (pe_callB call_repr (by rfl) mrepr (by decide +kernel) (pa_cons (pv 7) pa_nil)) (nomark _)) (pss_one (ps_ret pe_bl)) pss_nil)
      (pss_cons (ps_if (pt_not (pt_val (pv 7))) (pss_one (ps_ret pe_bl)) pss_nil)
      (pss_cons (ps_set (i := 8) sc_law_around_right.nd rfl (.inl rfl) (pe_ca cloops_of (hr.mono (by decide)) (by rfl) (pa_cons (pv 0) (pa_cons (pv 4) (pa_cons (pv 6) pa_nil)))))
      (pss_cons (ps_set (i := 9) sc_law_around_right.nd rfl (.inl rfl) (pe_ca cloops_of (hr.mono (by decide)) (by rfl) (pa_cons (pv 0) (pa_cons (pv 1) (pa_cons (pv 2) pa_nil)))))
      (pss_cons (ps_if (pt_cmpR (neD K hr.units) (pe_lc (own := [("_law_row", 12)]) (g := gName 12) (by rfl) sc_law_around_right.nd (pi_list (pe_slice (slL K) (pv 8) (po_some pe_int) po_none)) (blkOk_by (own := [("_law_row", 12)]) (N := ["_law_code_here", "_law_word_here", "_law_folds", "_law_both", "_law_longer", "_law_around", "_law_some", "_law_may_here", "_law_loops", "_law_elder", "_law_out", "_law_due", "_law_row", "_law_i", "_law_j"]) (sc := defScope s_law_around_right) (by decide +kernel)) (fun _ _ _ _ _ => (pg_name (i := 12) sc_law_around_right.nd rfl (.inl rfl))) (fun _ _ _ _ _ => pts_nil) (fun _ _ _ _ _ => (pe_slice (slE K) (pv 12) (po_some pe_int) po_none))) (pe_lc (own := [("_law_row", 12)]) (g := gName 12) (by rfl) sc_law_around_right.nd (pi_list (pv 9)) (blkOk_by (own := [("_law_row", 12)]) (N := ["_law_code_here", "_law_word_here", "_law_folds", "_law_both", "_law_longer", "_law_around", "_law_some", "_law_may_here", "_law_loops", "_law_elder", "_law_out", "_law_due", "_law_row", "_law_i", "_law_j"]) (sc := defScope s_law_around_right) (by decide +kernel)) (fun _ _ _ _ _ => (pg_name (i := 12) sc_law_around_right.nd rfl (.inl rfl))) (fun _ _ _ _ _ => pts_nil) (fun _ _ _ _ _ => (pe_slice (slE K) (pv 12) (po_some pe_int) po_none))) (nomark _)) (pss_one (ps_ret pe_bl)) pss_nil)
      (pss_cons (ps_set (i := 10) sc_law_around_right.nd rfl (.inl rfl) (pe_ix (ixT K) (pe_ix (ixT K) (pv 0) pe_int (fun _ _ => rfl)) pe_int (fun _ _ => rfl)))
      (pss_cons (ps_set (i := 11) sc_law_around_right.nd rfl (.inl rfl) (pe_op op_sub (pe_ca cworth_of (hr.mono (by decide)) (by rfl) (pa_cons (pv 0) (pa_cons (pv 1) (pa_cons (pv 2) pa_nil)))) (pe_op op_mul (pv 10) (pe_callB (lenQ K) (by rfl) mlen (by decide +kernel) (pa_cons (pe_ca cstraight_within (hr.mono (by decide)) (by rfl) (pa_cons (pv 2) (pa_cons pe_non pa_nil))) pa_nil)))))
      (pss_one (ps_ret (pe_cmpR op_eq (pe_ca cworth_of (hr.mono (by decide)) (by rfl) (pa_cons (pv 0) (pa_cons (pv 4) (pa_cons (pv 6) pa_nil)))) (pe_op op_add (pe_op op_add (pe_op op_add (pv 11) (pv 10)) (pe_ca cpair_worth (hr.mono (by decide)) (by rfl) (pa_cons (pv 0) (pa_cons (pv 3) pa_nil)))) (pe_ix (ixT K) (pe_ix (ixL K) (pv 8) pe_int (fun _ _ => rfl)) pe_int (fun _ _ => rfl))) (nomark _))))))))))))))), ?_⟩
    have hql : qs.length ≤ 3 := okx.size
    have hfl := paired_len hPf
    have hx : x.length ≤ 6 := okx.len
    have flx : Fl 0 ((x.length : Int) - 1) qs := okx.fl
    have hb2 : b.length = 2 := by
      obtain ⟨z, hz, e⟩ := List.mem_map.mp hbm
      rw [← e]
      exact (ok.pr z hz).1.1
    have tupF : ∀ {H' : Hp}, Ext H H' → TupOf TwoAt H' (.ref af) qs := fun k => ⟨af, fs, rfl, k _ _ hF, paired_imp (fun _ _ => TwoAt.mono _ _ _ _ (TupK.ext k)) hPf⟩
    have rulE : ∀ {H' : Hp}, Ext H H' → RulesAt H' v r := fun k => RulesAt.mono _ _ _ _ (TupK.ext k) hR
    have la : (sgn b 0).length = 1 := rfl
    have lb : (sgn b 1).length = 1 := rfl
    have hZ1 : (sgn b 0 ++ x).length = x.length + 1 := by
      rw [Str.length_append, la]
      omega
    have hZ : (sgn b 0 ++ x ++ sgn b 1).length = x.length + 2 := by
      rw [Str.length_append, hZ1, lb]
    -- longer
    refine ⟨_, rfl, b, 0, _, rfl, rfl, szL (by omega), sgn_at (by decide) (by omega), _, rfl, sgn b 0, x, rfl, rfl, szL (by omega), _, rfl, b, 1, _, rfl, rfl, szL (by omega), sgn_at (by decide) (by omega), sgn b 0 ++ x, sgn b 1, rfl, rfl, szL (by omega), ?_⟩
    -- around
    refine ⟨_, rfl, x, rfl, szL (by omega), _, 1, rfl, rfl, szL (show 2 ≤ 1000000 by decide), fun ta hta => ?_⟩
    have x1 := Ext.new (o := .tup [.int 0, .int ((x.length : Int) + 1)]) hta
    have hA1 : (upd H ta (.tup [.int 0, .int ((x.length : Int) + 1)])) ta = some (.tup [.int 0, .int ((x.length : Int) + 1)]) := upd_same
    -- some
    refine ⟨_, rfl, szL (show 1 ≤ 1000000 by decide), fun t1 ht1 => ?_⟩
    have x2 := Ext.new (o := .tup [.ref ta]) ht1
    have k02 := x1.trans x2
    have hT2 : (upd (upd H ta (.tup [.int 0, .int ((x.length : Int) + 1)])) t1 (.tup [.ref ta])) t1 = some (.tup [.ref ta]) := upd_same
    refine ⟨_, rfl, af, rfl, ⟨_, SqT.of (k02 _ _ hF)⟩, fun D hD => lc_tup (K := K) (xs := fs) (GenP TwoAt D _ (sh 1 qs)) (gen_new hD) (fun i H3 _ h => SqT.of (h.ext _ _ (k02 _ _ hF))) (fun i u H3 hi hv => ?_) (fun H3 hv => ?_)⟩
    · obtain ⟨z, hz, a1, rfl, ha1⟩ := paired_get hPf hi
      refine ⟨a1, _, rfl, SqT.of (hv.ext _ _ (k02 _ _ ha1)), rfl, _, _, rfl, _, _, rfl, rfl, rfl, _, rfl, _, 1, rfl, rfl, _, rfl, _, 1, rfl, rfl, szL (show 2 ≤ 1000000 by decide), fun t ht => ?_⟩
      refine gen_step TwoAt.mono hD hv (Ext.new ht) (b := s1 1 z) ⟨t, rfl, upd_same⟩ ?_ (by rw [sh_len]; omega)
      unfold sh
      rw [List.getElem?_map, hz]
      rfl
    obtain ⟨vs3, hL3, hP3, k3⟩ := gen_end hv (by rw [sh_len]; omega)
    clear hv
    have hv3 := paired_len hP3
    rw [sh_len] at hv3
    refine ⟨D, vs3, rfl, .inl ⟨SqL.of hL3, fun tp htp => ?_⟩⟩
    have x4 := Ext.new (o := .tup vs3) htp
    refine ⟨t1, tp, [.ref ta], vs3, rfl, rfl, x4 _ _ (k3 _ _ hT2), upd_same, szL (by rw [List.length_singleton]; omega), fun p H5 k5 hp5 => ?_⟩
    have k25 := (k3.trans x4).trans k5
    have k05 := k02.trans k25
    have tupB : ∀ {H' : Hp}, Ext H5 H' → TupOf TwoAt H' (.ref p) (arL x.length qs) := fun k => ⟨p, .ref ta :: vs3, rfl, k _ _ hp5, .cons ⟨ta, rfl, ((x2.trans k25).trans k) _ _ hA1⟩ (paired_imp (fun _ _ => TwoAt.mono _ _ _ _ (TupK.ext ((x4.trans k5).trans k))) hP3)⟩
    have fla := fl_ar flx
    have hal : (arL x.length qs).length ≤ 4 := by
      unfold arL
      rw [List.length_cons, sh_len]
      omega
    -- may_here
    refine ⟨_, rfl, _, rfl, _, rfl, x, rfl, szL (by omega), _, 1, rfl, rfl, v, r, sgn b 0 ++ x ++ sgn b 1, 0, (x.length : Int) + 1, rfl, rulE k05, by omega, fun H6 k6 => ?_⟩
    have k06 := k05.trans k6
    refine ⟨_, rfl, _, rfl, _, rfl, v, .ref p, r, sgn b 0 ++ x ++ sgn b 1, arL x.length qs, rfl, rulE k06, by omega, tupB k6, by omega, fun H7 k7 => ⟨_, rfl, trivial, _, rfl, _, rfl, trivial, rfl, _, rfl, iteNS ?_ ?_⟩⟩
    · rw [isF_ar la lb flx okx.may]
    have k07 := k06.trans k7
    have k57 := k6.trans k7
    refine ⟨_, rfl, _, rfl, ite2 (fun _ => q _ k07) (fun e => ?_)⟩
    have e : mayP r (sgn b 0 ++ x ++ sgn b 1) 0 ((x.length : Int) + 1) = true := by simpa using e
    have eB : mayB r (sgn b 0 ++ x ++ sgn b 1) 0 ((x.length : Int) + 1) = true := by
      unfold mayP at e
      rw [Bool.and_eq_true] at e
      exact e.2
    have hma := may_ar (qs := qs) la flx okx.may eB
    -- loops, elder
    refine ⟨_, rfl, _, rfl, _, rfl, v, .ref p, r, sgn b 0 ++ x ++ sgn b 1, arL x.length qs, _, rfl, rulE k07, ok, by omega, tupB k57, by omega, fla, by omega, fun l8 us8 H8 hL8 hP8 _ k8 => ?_⟩
    have k08 := k07.trans k8
    refine ⟨_, rfl, _, rfl, _, rfl, v, .ref af, r, x, qs, _, rfl, rulE k08, ok, by omega, tupF k08, by omega, flx, by omega, fun l9 us9 H9 hL9 hP9 _ k9 => ?_⟩
    have k09 := k08.trans k9
    have hul8 : us8.length = (arL x.length qs).length := by
      rw [paired_len hP8, List.length_map]
    have hul9 : us9.length = qs.length := by
      rw [paired_len hP9, List.length_map]
    -- the rows
    refine ⟨_, rfl, 1, rfl, l8, us8, rfl, SqL.of (k9 _ _ hL8), fun s10 hs10 => ?_⟩
    have ec : cutV us8 (some 1) none = us8.drop 1 := cut_from (k := 1)
    rw [ec]
    have x10 := Ext.new (o := .lst (us8.drop 1)) hs10
    have hPd : Paired (RowAt H8) (us8.drop 1) ((sh 1 qs).map (lpR r (sgn b 0 ++ x ++ sgn b 1) (arL x.length qs))) := by
      have := paired_drop 1 hP8
      rw [← List.map_drop] at this
      exact this
    have hsl : (us8.drop 1).length = qs.length := by
      rw [paired_len hPd, List.length_map, sh_len]
    refine ⟨s10, rfl, ⟨_, SqL.of upd_same⟩, fun D11 hD11 => lc_list (K := K) (xs := us8.drop 1) (GenP TrAt D11 _ (qs.map fun z => (lpR r x qs z).2.2)) (gen_new hD11) (fun i H11 _ h => SqL.of (h.ext _ _ upd_same)) (fun i u H11 hi hv => ?_) (fun H11 hv => ?_)⟩
    · obtain ⟨row, hrow, a1, rfl, ha1⟩ := paired_get hPd hi
      have hil : i < qs.length := by
        have := (List.getElem?_eq_some_iff.mp hi).1
        omega
      have hz : qs[i]? = some qs[i] := List.getElem?_eq_getElem hil
      have er : row = ((lpR r x qs qs[i]).1 + 1, (lpR r x qs qs[i]).2.1 + 1, (lpR r x qs qs[i]).2.2) := by
        unfold sh at hrow
        rw [List.getElem?_map, List.getElem?_map, hz] at hrow
        rw [← row_ar (b := sgn b 1) la flx (List.getElem_mem hil)]
        exact (Option.some.inj hrow).symm
      subst er
      refine ⟨rfl, _, rfl, 2, rfl, a1, _, rfl, hv.ext _ _ (x10 _ _ (k9 _ _ ha1)), fun p12 H12 k12 hp12 => ?_⟩
      refine gen_step TrAt.mono hD11 hv k12 (b := (lpR r x qs qs[i]).2.2) ⟨p12, rfl, ?_⟩ ?_ (by rw [List.length_map]; omega)
      · rw [hp12, show (2 : Int) = ((2 : Nat) : Int) from rfl, cut_from]
        rfl
      · rw [List.getElem?_map, hz]
        rfl
    obtain ⟨vs11, hL11, hP11, k11⟩ := gen_end hv (by rw [List.length_map]; omega)
    clear hv
    have k911 := x10.trans k11
    refine ⟨_, rfl, l9, rfl, ⟨_, SqL.of (k911 _ _ hL9)⟩, fun D12 hD12 => lc_list (K := K) (xs := us9) (GenP TrAt D12 H11 (qs.map fun z => (lpR r x qs z).2.2)) (gen_new hD12) (fun i H12 _ h => SqL.of (h.ext _ _ (k911 _ _ hL9))) (fun i u H12 hi hv => ?_) (fun H12 hv => ?_)⟩
    · obtain ⟨row, hrow, a1, rfl, ha1⟩ := paired_get hP9 hi
      have hil : i < qs.length := by
        have := (List.getElem?_eq_some_iff.mp hi).1
        omega
      have hz : qs[i]? = some qs[i] := List.getElem?_eq_getElem hil
      have er : row = lpR r x qs qs[i] := by
        rw [List.getElem?_map, hz] at hrow
        exact (Option.some.inj hrow).symm
      subst er
      refine ⟨rfl, _, rfl, 2, rfl, a1, _, rfl, hv.ext _ _ (k911 _ _ ha1), fun p13 H13 k13 hp13 => ?_⟩
      refine gen_step TrAt.mono hD12 hv k13 (b := (lpR r x qs qs[i]).2.2) ⟨p13, rfl, ?_⟩ ?_ (by rw [List.length_map]; omega)
      · rw [hp13, show (2 : Int) = ((2 : Nat) : Int) from rfl, cut_from]
        rfl
      · rw [List.getElem?_map, hz]
        rfl
    obtain ⟨vs12, hL12, hP12, k12⟩ := gen_end hv (by rw [List.length_map]; omega)
    clear hv
    have smr := sm_trs ok (x := x) flx (by omega) (by omega)
    refine ⟨_, _, .lst (SqL.of (k12 _ _ hL11)) (dpTrs (paired_imp (fun _ _ => TrAt.mono _ _ _ _ (TupK.ext k12)) hP11)), .lst (SqL.of hL12) (dpTrs hP12), smr.shaped (by decide), smr.shaped (by decide), _, rfl, ?_⟩
    rw [eqv_all _ smr]
    refine iteF ?_
    have k912 := k911.trans k12
    have k012 := k09.trans k912
    -- out
    obtain ⟨a, vp, vl, vss, rfl, hA, _, ⟨al, lus, rfl, hl, hRl⟩, _⟩ := id hR
    have elus := ints_of hRl
    have l9 := ok.lo9
    have hat8 : atI lus 8 = some (.int (lo r 8)) := by
      rw [elus, atI_get (by decide) (by rw [List.length_map]; omega), List.getElem_map]
      unfold lo
      rw [List.getD_eq_getElem?_getD, List.getElem?_eq_getElem (by omega)]
      rfl
    have lb8 := lo_bound ok (show 8 < 9 by decide)
    refine ⟨_, rfl, a, _, 3, _, rfl, rfl, SqT.of (k012 _ _ hA), rfl, al, _, 8, _, rfl, rfl, SqT.of (k012 _ _ hl), hat8, ?_⟩
    -- due
    refine ⟨_, rfl, _, rfl, _, rfl, .ref a, .ref af, r, x, qs, _, rfl, rulE k012, ok, by omega, tupF k012, by omega, flx, by omega, okx.may, fun H13 k13 => ?_⟩
    have k013 := k012.trans k13
    refine ⟨_, rfl, _, rfl, .ref af, .non, qs, none, rfl, tupF k013, by omega, rfl, fun l14 us14 H14 _ hL14 hP14 k14 => ?_⟩
    rw [sw_inner flx, out_none] at hP14
    have hul14 := paired_len hP14
    have k014 := k013.trans k14
    refine ⟨l14, us14, rfl, .inl (SqL.of hL14), _, _, rfl, rfl, .inl ⟨by omega, by omega⟩, _, _, rfl, rfl, ?_⟩
    -- the end
    have k514 := (((k57.trans k8).trans k9).trans k912).trans (k13.trans k14)
    refine ⟨_, rfl, _, rfl, _, rfl, .ref a, .ref p, r, sgn b 0 ++ x ++ sgn b 1, arL x.length qs, _, rfl, rulE k014, ok, by omega, tupB k514, by omega, fla, by omega, hma, fun H15 k15 => ?_⟩
    have k015 := k014.trans k15
    refine ⟨_, rfl, _, rfl, _, _, rfl, rfl, _, rfl, _, rfl, .ref a, r, b, rfl, rulE k015, ?_⟩
    rw [pwV_in hbm]
    refine ⟨_, _, rfl, rfl, ?_⟩
    have k815 := (k9.trans k912).trans ((k13.trans k14).trans k15)
    have h0 : us8[0]? = some (us8[0]'(by rw [hul8]; exact Nat.succ_pos _)) := List.getElem?_eq_getElem _
    obtain ⟨row, hrow, a1, ea1, ha1⟩ := paired_get hP8 h0
    have er : row = lpR r (sgn b 0 ++ x ++ sgn b 1) (arL x.length qs) (0, (x.length : Int) + 1) := (Option.some.inj hrow).symm
    subst er
    have hat0 : atI us8 0 = some (.ref a1) := by
      rw [← ea1]
      exact atI_get (xs := us8) (i := 0) (by decide) (by have := Nat.succ_pos (sh 1 qs).length; rw [hul8]; exact Int.ofNat_lt.mpr this)
    refine ⟨_, rfl, l8, us8, 0, _, rfl, rfl, SqL.of (k815 _ _ hL8), hat0, a1, _, 4, _, rfl, rfl, SqT.of (k815 _ _ ha1), rfl, _, _, rfl, rfl, rfl, ?_⟩
    have ew := WF_ar (r := r) (a := sgn b 0) (b := sgn b 1) la flx
    rw [show sgn (sgn b 0) 0 = sgn b 0 from rfl, show sgn (sgn b 1) 0 = sgn b 1 from rfl, two_eq hb2] at ew
    rw [hul14, decide_eq_true (congrArg V.int ew)]
    exact q _ k015
abbrev CBoth (P : Program) (w : World) (K : PySem.W.Frag) (mg : Str → Option Value) (base : Heap) : Prop := Ca P w K mg base 5 "_law_both_right" ["_law_code_here", "_law_first", "_law_second"] spBoth
abbrev CAr (P : Program) (w : World) (K : PySem.W.Frag) (mg : Str → Option Value) (base : Heap) : Prop := Ca P w K mg base 5 "_law_around_right" ["_law_code_here", "_law_word_here", "_law_folds", "_law_both"] spAr
end
end Pf


namespace Pf
open PySem PySem.Spec PyProof.Rows L2
section
variable {P : Program} {w : World} {K : PySem.W.Frag} {mg : Str → Option Value} {base : Heap}
abbrev s_law : Stmt := topS 33
theorem sc_law : FnScope ["_law_script", "_law_pen_here", "_law_turn", "_law_code_here", "_law_some", "_law_k", "_law_word_here", "_law_folds", "_law_both", "_law_much", "_law_at"] ["_law_script"] (defScope s_law) :=
  ⟨rfl, rfl, rfl, by decide +kernel, rfl, by decide +kernel, by decide +kernel⟩
def spLaw (K : PySem.W.Frag) : Sp := fun vs H Q _ => ∃ (a : Addr) (ns : List Int), vs = [.ref a] ∧ SqL K H a (ns.map V.int) ∧ ns.length ≤ 63 ∧ ∀ H', Q (.bl true) H'
theorem ok_law {f : Addr} {fd : FuncData} (F : Fun K "law" "law" s_law f fd) (room : Room 17 callerA) (c_law_pen : CPen P w K mg base) (c_law_code : CCode P w K mg base) (c_law_word : CWord P w K mg base) (c_law_folded : CFold P w K mg base) (c_law_both_right : CBoth P w K mg base) (c_law_around_right : CAr P w K mg base) (cis_folding : CIF P w K mg base)
    (mrange : mg "range" = none) (mlen : mg "len" = none) (mtuple : mg "tuple" = none) : FnG P w K mg base f fd ["_law_script"] (spLaw K) := by
  refine FnG.of (k := 16) F sc_law room (fun vs H Q E h => ?_) (fun cdv s H vs Q E hr hG h => ?_)
  · obtain ⟨a, ns, rfl, _⟩ := h
    rfl
  · obtain ⟨a, ns, rfl, hS, hns, q⟩ := h
    refine ⟨_, (pss_cons (ps_set (i := 1) sc_law.nd rfl (.inl rfl) (pe_ca c_law_pen (hr.mono (by decide)) (by rfl) (pa_cons (pv 0) pa_nil)))
      (pss_cons (ps_for PassesOwn.never rfl (pi_range1 (by rfl) mrange (pa_cons pe_int pa_nil)) (pg_name (i := 2) sc_law.nd rfl (.inl rfl)) (pss_cons (ps_set (i := 3) sc_law.nd rfl (.inl rfl) (pe_ca c_law_code (hr.mono (by decide)) (by rfl) (pa_cons (pv 1) pa_nil)))
      (pss_cons (ps_set (i := 4) sc_law.nd rfl (.inl rfl) (pe_lst pa_nil))
      (pss_cons (ps_for PassesOwn.never rfl (pi_range1 (by rfl) mrange (pa_cons pe_int pa_nil)) (pg_name (i := 5) sc_law.nd rfl (.inl rfl)) (pss_cons (ps_set (i := 6) sc_law.nd rfl (.inl rfl) (pe_ca c_law_word (hr.mono (by decide)) (by rfl) (pa_cons (pv 1) (pa_cons (pv 3) (pa_cons pe_int pa_nil)))))
      (pss_one (ps_expr (pe_bm PySem.F.plainAttrs_list PySem.F.slot_list_append PySem.F.type_list_append mt_append (pv 4) (pa_cons (pe_tup (pa_cons (pv 6) (pa_cons (pe_callTy (tupleOf K) (by rfl) mtuple (by decide +kernel) (pa_cons (pe_ca c_law_folded (hr.mono (by decide)) (by rfl) (pa_cons (pv 1) (pa_cons (pv 3) (pa_cons (pv 6) (pa_cons pe_int (pa_cons (pe_op op_sub (pe_callB call_len_str (by rfl) mlen (by decide +kernel) (pa_cons (pv 6) pa_nil)) pe_int) pa_nil)))))) pa_nil)) pa_nil))) pa_nil))))))
      (pss_cons (ps_if (PW.pt (pw_or (pt_not (pt_val (pe_ca c_law_both_right (hr.mono (by decide)) (by rfl) (pa_cons (pv 3) (pa_cons (pe_ix (ixL K) (pv 4) pe_int (fun _ _ => rfl)) (pa_cons (pe_ix (ixL K) (pv 4) pe_int (fun _ _ => rfl)) pa_nil)))))) (pw_or1 (pt_not (pt_val (pe_ca c_law_both_right (hr.mono (by decide)) (by rfl) (pa_cons (pv 3) (pa_cons (pe_ix (ixL K) (pv 4) pe_int (fun _ _ => rfl)) (pa_cons (pe_ix (ixL K) (pv 4) pe_int (fun _ _ => rfl)) pa_nil))))))))) (pss_one (ps_ret pe_bl)) pss_nil)
      (pss_cons (ps_asg (pe_ix (ixL K) (pv 4) pe_int (fun _ _ => rfl)) (pg_tup rfl (pgs_cons (pg_name (i := 6) sc_law.nd rfl (.inl rfl)) (pgs_cons (pg_name (i := 7) sc_law.nd rfl (.inl rfl)) pgs_nil))))
      (pss_cons (ps_for PassesOwn.never rfl (pi_tup (pe_ix (ixT K) (pv 3) pe_int (fun _ _ => rfl))) (pg_tup rfl (pgs_cons (pg_name (i := 8) sc_law.nd rfl (.inl rfl)) (pgs_cons (pg_name (i := 9) sc_law.nd rfl (.inl rfl)) pgs_nil))) (pss_one (ps_if (pt_not (pt_val (pe_ca c_law_around_right (hr.mono (by decide)) (by rfl) (pa_cons (pv 3) (pa_cons (pv 6) (pa_cons (pv 7) (pa_cons (pv 8) pa_nil))))))) (pss_one (ps_ret pe_bl)) pss_nil)))
      (pss_one (ps_for PassesOwn.never rfl (pi_range1 (by rfl) mrange (pa_cons (pe_callB (lenQ K) (by rfl) mlen (by decide +kernel) (pa_cons (pv 7) pa_nil)) pa_nil)) (pg_name (i := 10) sc_law.nd rfl (.inl rfl)) (pss_cons (ps_if (pt_cmpR op_isnot_bl (pe_ca cis_folding (hr.mono (by decide)) (by rfl) (pa_cons (pv 3) (pa_cons (pv 6) (pa_cons (pe_op (catE K) (pe_slice (slE K) (pv 7) po_none (po_some (pv 10))) (pe_slice (slE K) (pv 7) (po_some (pe_op op_add (pv 10) pe_int)) po_none)) pa_nil)))) pe_bl (nomark _)) (pss_one (ps_ret pe_bl)) pss_nil)
      (pss_one (ps_if (pt_cmpR op_isnot_bl (pe_ca cis_folding (hr.mono (by decide)) (by rfl) (pa_cons (pv 3) (pa_cons (pv 6) (pa_cons (pe_tup (pa_cons (pe_ix (ixT K) (pv 7) (pv 10) (fun _ _ => rfl)) pa_nil)) pa_nil)))) pe_bl (nomark _)) (pss_one (ps_ret pe_bl)) pss_nil))))))))))))
      (pss_one (ps_ret pe_bl)))), ?_⟩
    refine ⟨_, rfl, a, ns, rfl, hS, hns, fun p c H1 hP1 => ?_⟩
    refine ⟨5, rfl, by decide, by decide, for_range (n := 5) (fun i σ H2 => ∃ (y2 y3 y4 y5 y6 y7 y8 y9 y10 : Option V), σ = [some (.ref a), some (.ref p), y2, y3, y4, y5, y6, y7, y8, y9, y10] ∧ Pen H2 p c (600 * i))
      ⟨none, none, none, none, none, none, none, none, none, rfl, hP1⟩ (fun i σ H2 hi hv => ?_) (fun σ H2 hv => ?_)⟩
    · obtain ⟨y2, y3, y4, y5, y6, y7, y8, y9, y10, rfl, hP2⟩ := hv
      refine ⟨_, rfl, p, c, _, rfl, hP2, by omega, fun v r H3 hr3 ok3 k3 hP3 => ?_⟩
      refine ⟨Nat.zero_le _, fun l hl => ?_⟩
      have nl := hP3.ne hl
      -- two strings with foldings
      refine ⟨2, rfl, by decide, by decide, for_range (n := 2) (fun j σ H4 => ∃ (z5 z6 : Option V) (ws : List V) (xs : List (Str × List (Int × Int))) (m : Nat), σ = [some (.ref a), some (.ref p), some (.int (0 + (i : Nat))), some v, some (.ref l), z5, z6, y7, y8, y9, y10] ∧ H4 l = some (.lst ws) ∧ xs.length = j ∧ Paired (WdAt r H4) ws xs ∧ (∀ x ∈ xs, WdOk r x) ∧ RulesAt H4 v r ∧ Pen H4 p c m ∧ m ≤ 600 * i + 300 + 100 * j)
        ⟨_, _, [], [], _, rfl, upd_same, rfl, .nil, (fun x h => by cases h), RulesAt.mono _ _ _ _ (TupK.new hl) hr3, hP3.new hl, by omega⟩ (fun j σ H4 hj hv => ?_) (fun σ H4 hv => ?_)⟩
      · obtain ⟨z5, z6, ws, xs, m, rfl, hL4, hxl, hPw, hOk, hr4, hP4, hm⟩ := hv
        have hwl := paired_len hPw
        refine ⟨_, rfl, _, rfl, p, c, v, r, 6, _, rfl, hr4, ok3, by decide, by decide, hP4, by omega, fun x H5 hx6 hxs k5 hP5 => ?_⟩
        have t5 := TupK.of k5 hP4
        have hL5 := k5 _ _ nl.1 hL4
        refine ⟨_, rfl, .inl ⟨rfl, _, SqL.of hL5⟩, _, rfl, _, rfl, _, rfl, _, rfl, _, rfl, x, rfl, szL (by omega), _, 1, rfl, rfl, p, c, v, r, x, 0, (x.length : Int) - 1, _, rfl, RulesAt.mono _ _ _ _ t5 hr4, ok3, by omega, by decide, by omega, by omega, by omega, hP5, by omega, fun lf vf ps H6 n6 hlf hL6 hPr6 hFl hMy k6 hP6 hn6 => ⟨lf, _, rfl, .inl ⟨SqL.of hL6, fun tf htf => ⟨szL (show 2 ≤ 1000000 by decide), fun tw htw => ?_⟩⟩⟩⟩
        have t6 := TupK.of k6 hP5
        have x7 := Ext.new (o := .tup vf) htf
        have x8 := Ext.new (o := .tup [.str x, .ref tf]) htw
        have x68 := x7.trans x8
        have hL8 := x68 _ _ (k6 _ _ nl.1 hL5)
        refine ⟨l, _, _, rfl, rfl, hL8, szLt (by omega), ?_⟩
        have tall : TupK H4 (upd (upd (upd H6 tf (.tup vf)) tw (.tup [.str x, .ref tf])) l (.lst (ws ++ [.ref tw]))) := ((t5.trans t6).trans (TupK.ext x68)).trans (TupK.lst hL8)
        have tl := TupK.lst (o := .lst (ws ++ [.ref tw])) hL8
        refine ⟨_, _, ws ++ [.ref tw], xs ++ [(x, ps)], n6, rfl, upd_same, ?_, ?_, ?_, RulesAt.mono _ _ _ _ tall hr4, (hP6.ext x68).put nl.1 nl.2, by omega⟩
        · rw [List.length_append, List.length_singleton, hxl]
        · refine (paired_imp (fun _ _ => WdAt.mono _ _ _ _ tall) hPw).snoc ⟨tw, .ref tf, rfl, tl _ _ upd_same, ⟨tf, vf, rfl, tl _ _ (x8 _ _ upd_same), paired_imp (fun _ _ => TwoAt.mono _ _ _ _ ((TupK.ext x68).trans tl)) hPr6⟩⟩
        · intro y hy
          rcases List.mem_append.mp hy with hy | hy
          · exact hOk y hy
          · rw [List.mem_singleton.mp hy]
            exact ⟨by show x.length ≤ 6; omega, hFl, hMy⟩
      obtain ⟨z5, z6, ws, xs, m, rfl, hL4, hxl, hPw, hOk, hr4, hP4, hm⟩ := hv
      match xs, hxl with
      | [xq, yr], _ =>
        match ws, hPw with
        | [w0, w1], .cons hw0 (.cons hw1 .nil) =>
          have ok0 := hOk xq (List.mem_cons_self ..)
          have ok1 := hOk yr (List.mem_cons_of_mem _ (List.mem_cons_self ..))
          refine ⟨_, rfl, _, rfl, l, _, 0, _, rfl, rfl, SqL.of hL4, rfl, _, rfl, l, _, 1, _, rfl, rfl, SqL.of hL4, rfl, v, w0, w1, r, xq, yr, rfl, hr4, ok3, hw0, hw1, ok0, ok1, fun H5 k5 => ⟨_, rfl, iteF ?_⟩⟩
          have m5 : ∀ {H' : Hp}, Ext H4 H' → RulesAt H' v r := fun k => RulesAt.mono _ _ _ _ (TupK.ext k) hr4
          refine ⟨_, rfl, _, rfl, l, _, 1, _, rfl, rfl, SqL.of (k5 _ _ hL4), rfl, _, rfl, l, _, 0, _, rfl, rfl, SqL.of (k5 _ _ hL4), rfl, v, w1, w0, r, yr, xq, rfl, m5 k5, ok3, WdAt.mono _ _ _ _ (TupK.ext k5) hw1, WdAt.mono _ _ _ _ (TupK.ext k5) hw0, ok1, ok0, fun H6 k6 => ⟨_, rfl, iteF ?_⟩⟩
          have k46 := k5.trans k6
          obtain ⟨x, qs⟩ := xq
          obtain ⟨t0, vf, rfl, hT0, ⟨af, fs, rfl, hF, hPf⟩⟩ := hw0
          have hPf : Paired (TwoAt H4) fs qs := hPf
          have hfl : fs.length = qs.length := paired_len hPf
          have hql : qs.length ≤ 3 := ok0.size
          have hx : x.length ≤ 6 := ok0.len
          have flx : Fl 0 ((x.length : Int) - 1) qs := ok0.fl
          have hmx : ∀ y ∈ qs, mayB r x y.1 y.2 = true := ok0.may
          have tupF : ∀ {H' : Hp}, Ext H4 H' → TupOf TwoAt H' (.ref af) qs := fun k => ⟨af, fs, rfl, k _ _ hF, paired_imp (fun _ _ => TwoAt.mono _ _ _ _ (TupK.ext k)) hPf⟩
          refine ⟨_, rfl, l, _, 0, _, rfl, rfl, SqL.of (k46 _ _ hL4), rfl, t0, _, rfl, SqT.of (k46 _ _ hT0), rfl, _, _, rfl, _, _, rfl, rfl, ?_⟩
          -- a pair around
          obtain ⟨ar, vp, vl, vss, rfl, hA, ⟨ap, oz, us, rfl, hp, hoz, hRp⟩, _, _⟩ := id hr4
          have hpl := paired_len hRp
          refine ⟨_, rfl, ar, _, 1, _, rfl, rfl, SqT.of (k46 _ _ hA), rfl, ap, rfl, ⟨_, SqT.fz (k46 _ _ hp)⟩, for_tup (K := K) (xs := us) (fun j σ H7 => ∃ (z8 z9 : Option V), σ = [some (.ref a), some (.ref p), some (.int (0 + (i : Nat))), some (.ref ar), some (.ref l), z5, some (.str x), some (.ref af), z8, z9, y10] ∧ Ext H4 H7)
            ⟨_, _, rfl, k46⟩ (fun j σ H7 _ ⟨_, _, _, k⟩ => SqT.fz (k _ _ hp)) (fun j u σ H7 hj hv => ?_) (fun σ H7 hv => ?_)⟩
          · obtain ⟨z8, z9, rfl, k7⟩ := hv
            obtain ⟨⟨b, w1'⟩, hb, a1, rfl, ha1⟩ := paired_get hRp hj
            refine ⟨a1, _, rfl, SqT.of (k7 _ _ ha1), rfl, _, _, rfl, _, _, rfl, rfl, ?_⟩
            refine ⟨_, rfl, _, rfl, _, rfl, _, rfl, .ref ar, .ref af, r, x, b, qs, rfl, m5 k7, ok3, tupF k7, ok0, List.mem_map.mpr ⟨_, List.mem_of_getElem? hb, rfl⟩, fun H8 k8 => ⟨_, rfl, iteF ?_⟩⟩
            exact ⟨_, _, rfl, k7.trans k8⟩
          obtain ⟨z8, z9, rfl, k7⟩ := hv
          -- a pair taken out, a pair alone
          refine ⟨_, rfl, af, fs, rfl, .inr (SqT.of (k7 _ _ hF)), (fs.length : Int), rfl, by omega, by omega, for_range (n := (fs.length : Int).toNat) (fun j σ H8 => ∃ (z10 : Option V), σ = [some (.ref a), some (.ref p), some (.int (0 + (i : Nat))), some (.ref ar), some (.ref l), z5, some (.str x), some (.ref af), z8, z9, z10] ∧ Ext H4 H8)
            ⟨_, rfl, k7⟩ (fun j σ H8 hj hv => ?_) (fun σ H8 hv => ?_)⟩
          · obtain ⟨z10, rfl, k8⟩ := hv
            have hj' : j < fs.length := by omega
            refine ⟨_, rfl, _, rfl, _, rfl, _, rfl, _, rfl, af, fs, rfl, k8 _ _ hF, fun p9 H9 k9 hp9 => ?_⟩
            refine ⟨_, rfl, _, rfl, _, 1, rfl, rfl, _, rfl, af, fs, rfl, (k8.trans k9) _ _ hF, fun p10 H10 k10 hp10 => ?_⟩
            have e9 : cutV fs none (some (0 + (j : Int))) = fs.take j := by
              rw [show (0 : Int) + (j : Int) = ((j : Nat) : Int) by omega]
              exact cut_to
            have e10 : cutV fs (some (0 + (j : Int) + 1)) none = fs.drop (j + 1) := by
              rw [show (0 : Int) + (j : Int) + 1 = ((j + 1 : Nat) : Int) by omega]
              exact cut_from
            rw [e9] at hp9
            rw [e10] at hp10
            refine ⟨p9, p10, _, _, rfl, rfl, k10 _ _ hp9, hp10, szL (by rw [List.length_take, List.length_drop]; omega), fun p11 H11 k11 hp11 => ?_⟩
            have k411 := ((k8.trans k9).trans k10).trans k11
            have hPc : Paired (TwoAt H11) (fs.take j ++ fs.drop (j + 1)) (qs.take j ++ qs.drop (j + 1)) := paired_app (paired_imp (fun _ _ => TwoAt.mono _ _ _ _ (TupK.ext k411)) (paired_take j hPf)) (paired_imp (fun _ _ => TwoAt.mono _ _ _ _ (TupK.ext k411)) (paired_drop (j + 1) hPf))
            have hsub : (qs.take j ++ qs.drop (j + 1)).Sublist qs := by
              have h1 : (qs.drop (j + 1)).Sublist (qs.drop j) := by
                rw [show j + 1 = j + 1 from rfl, ← List.drop_drop]
                exact List.drop_sublist _ _
              have h2 := (List.Sublist.refl (qs.take j)).append h1
              rw [List.take_append_drop] at h2
              exact h2
            have hcl := hsub.length_le
            refine ⟨.ref ar, .ref p11, r, x, _, rfl, m5 k411, by omega, ⟨p11, _, rfl, hp11, hPc⟩, by omega, fun H12 k12 => ⟨_, _, rfl, rfl, _, rfl, ?_⟩⟩
            rw [isF_true (x := x) (flx.sub hsub) (by omega) (fun y hy => hmx y (hsub.subset hy))]
            refine iteF ?_
            have k412 := k411.trans k12
            obtain ⟨y, hy, a1, ea1, ha1⟩ := paired_get hPf (List.getElem?_eq_getElem hj')
            have hat : atI fs (0 + (j : Int)) = some (.ref a1) := by
              rw [← ea1, atI_get (by omega) (by omega)]
              congr 1
              simp
            have hym := List.mem_of_getElem? hy
            have hs1 : [y].Sublist qs := List.singleton_sublist.mpr hym
            refine ⟨_, rfl, _, rfl, _, rfl, _, rfl, af, fs, _, _, rfl, rfl, SqT.of (k412 _ _ hF), hat, szL (show 1 ≤ 1000000 by decide), fun t13 ht13 => ?_⟩
            have x13 := Ext.new (o := .tup [.ref a1]) ht13
            refine ⟨.ref ar, .ref t13, r, x, [y], rfl, m5 (k412.trans x13), by omega, ⟨t13, [.ref a1], rfl, upd_same, .cons ⟨a1, rfl, (k412.trans x13) _ _ ha1⟩ .nil⟩, (show 1 ≤ 100 by decide), fun H14 k14 => ⟨_, _, rfl, rfl, _, rfl, ?_⟩⟩
            rw [isF_true (x := x) (flx.sub hs1) (by omega) (fun z hz => hmx z (hs1.subset hz))]
            refine iteF ?_
            exact ⟨_, rfl, (k412.trans x13).trans k14⟩
          · obtain ⟨z10, rfl, k8⟩ := hv
            exact ⟨_, _, _, _, _, _, _, _, _, rfl, (hP4.ext k8).mono (by omega)⟩
    · exact q _
end
end Pf


namespace Pf
open PySem PySem.Spec PyProof.Rows L2
/-! ### what the top has written; the law's own head -/
theorem all_mk {l : PySem.W.OpenLaw} {w : World} {K : PySem.W.Frag} {h : Heap} {mg : Str → Option Value} {fa f0 f1 f2 f3 f4 f5 f6 f7 f8 f9 f10 f11 f12 f13 f14 f15 f16 f17 f18 f19 f20 f21 f22 f23 f24 f25 f26 f27 : Addr} (X : K.In h) (G : h.Ns mainGlobals mg) (hfa : mg "law" = some (.ref fa))
    {od0 an0 od1 an1 od2 an2 od3 an3 od4 an4 od5 an5 od6 an6 od7 an7 od8 an8 od9 an9 od10 an10 od11 an11 od12 an12 od13 an13 od14 an14 od15 an15 od16 an16 od17 an17 od18 an18 od19 an19 od20 an20 od21 an21 od22 an22 od23 an23 od24 an24 od25 an25 od26 an26 od27 an27 : Option Addr} {sl0 sl1 sl2 sl3 sl4 sl5 sl6 sl7 sl8 sl9 sl10 sl11 sl12 sl13 sl14 sl15 sl16 sl17 sl18 sl19 sl20 sl21 sl22 sl23 sl24 sl25 sl26 sl27 : Array (Option Value)} {oc0 kV0 dc0 pm0 cd0 ct0 oc1 kV1 dc1 pm1 cd1 ct1 oc2 kV2 dc2 pm2 cd2 ct2 oc3 kV3 dc3 pm3 cd3 ct3 oc4 kV4 dc4 pm4 cd4 ct4 oc5 kV5 dc5 pm5 cd5 ct5 oc6 kV6 dc6 pm6 cd6 ct6 oc7 kV7 dc7 pm7 cd7 ct7 oc8 kV8 dc8 pm8 cd8 ct8 oc9 kV9 dc9 pm9 cd9 ct9 oc10 kV10 dc10 pm10 cd10 ct10 oc11 kV11 dc11 pm11 cd11 ct11 oc12 kV12 dc12 pm12 cd12 ct12 oc13 kV13 dc13 pm13 cd13 ct13 oc14 kV14 dc14 pm14 cd14 ct14 oc15 kV15 dc15 pm15 cd15 ct15 oc16 kV16 dc16 pm16 cd16 ct16 oc17 kV17 dc17 pm17 cd17 ct17 oc18 kV18 dc18 pm18 cd18 ct18 oc19 kV19 dc19 pm19 cd19 ct19 oc20 kV20 dc20 pm20 cd20 ct20 oc21 kV21 dc21 pm21 cd21 ct21 oc22 kV22 dc22 pm22 cd22 ct22 oc23 kV23 dc23 pm23 cd23 ct23 oc24 kV24 dc24 pm24 cd24 ct24 oc25 kV25 dc25 pm25 cd25 ct25 oc26 kV26 dc26 pm26 cd26 ct26 oc27 kV27 dc27 pm27 cd27 ct27 : Value} {aL : Addr} {odG : Option Addr} {slG : Array (Option Value)} {nG : Nat} {tG0 tG1 tG2 tG3 tG4 tG5 tG6 tG7 tG8 : Tok} 
    (a0 : PySem.W.nsIn K mainGlobals "_law_pen" = some (some (.ref f0))) (l0 : K.lookup f0 = some ⟨oc0, od0, .func (PySem.W.fnOf "_law_pen" "_law_pen" (defArgs s_law_pen) (defBody s_law_pen) (defScope s_law_pen) .none kV0 dc0 pm0 an0 cd0 ct0), sl0⟩) (c0 : PySem.W.codeIn K cd0 "_law_pen" = true) (k0 : PySem.W.keepIn K (.ref f0) = true)
    (a1 : PySem.W.nsIn K mainGlobals "_law_take" = some (some (.ref f1))) (l1 : K.lookup f1 = some ⟨oc1, od1, .func (PySem.W.fnOf "_law_take" "_law_take" (defArgs s_law_take) (defBody s_law_take) (defScope s_law_take) .none kV1 dc1 pm1 an1 cd1 ct1), sl1⟩) (c1 : PySem.W.codeIn K cd1 "_law_take" = true) (k1 : PySem.W.keepIn K (.ref f1) = true)
    (a2 : PySem.W.nsIn K mainGlobals "_law_pick" = some (some (.ref f2))) (l2 : K.lookup f2 = some ⟨oc2, od2, .func (PySem.W.fnOf "_law_pick" "_law_pick" (defArgs s_law_pick) (defBody s_law_pick) (defScope s_law_pick) .none kV2 dc2 pm2 an2 cd2 ct2), sl2⟩) (c2 : PySem.W.codeIn K cd2 "_law_pick" = true) (k2 : PySem.W.keepIn K (.ref f2) = true)
    (a3 : PySem.W.nsIn K mainGlobals "_law_worth" = some (some (.ref f3))) (l3 : K.lookup f3 = some ⟨oc3, od3, .func (PySem.W.fnOf "_law_worth" "_law_worth" (defArgs s_law_worth) (defBody s_law_worth) (defScope s_law_worth) .none kV3 dc3 pm3 an3 cd3 ct3), sl3⟩) (c3 : PySem.W.codeIn K cd3 "_law_worth" = true) (k3 : PySem.W.keepIn K (.ref f3) = true)
    (a4 : PySem.W.nsIn K mainGlobals "_law_code" = some (some (.ref f4))) (l4 : K.lookup f4 = some ⟨oc4, od4, .func (PySem.W.fnOf "_law_code" "_law_code" (defArgs s_law_code) (defBody s_law_code) (defScope s_law_code) .none kV4 dc4 pm4 an4 cd4 ct4), sl4⟩) (c4 : PySem.W.codeIn K cd4 "_law_code" = true) (k4 : PySem.W.keepIn K (.ref f4) = true)
    (a5 : PySem.W.nsIn K mainGlobals "_law_word" = some (some (.ref f5))) (l5 : K.lookup f5 = some ⟨oc5, od5, .func (PySem.W.fnOf "_law_word" "_law_word" (defArgs s_law_word) (defBody s_law_word) (defScope s_law_word) .none kV5 dc5 pm5 an5 cd5 ct5), sl5⟩) (c5 : PySem.W.codeIn K cd5 "_law_word" = true) (k5 : PySem.W.keepIn K (.ref f5) = true)
    (a6 : PySem.W.nsIn K mainGlobals "_law_may" = some (some (.ref f6))) (l6 : K.lookup f6 = some ⟨oc6, od6, .func (PySem.W.fnOf "_law_may" "_law_may" (defArgs s_law_may) (defBody s_law_may) (defScope s_law_may) .none kV6 dc6 pm6 an6 cd6 ct6), sl6⟩) (c6 : PySem.W.codeIn K cd6 "_law_may" = true) (k6 : PySem.W.keepIn K (.ref f6) = true)
    (a7 : PySem.W.nsIn K mainGlobals "_law_folded" = some (some (.ref f7))) (l7 : K.lookup f7 = some ⟨oc7, od7, .func (PySem.W.fnOf "_law_folded" "_law_folded" (defArgs s_law_folded) (defBody s_law_folded) (defScope s_law_folded) .none kV7 dc7 pm7 an7 cd7 ct7), sl7⟩) (c7 : PySem.W.codeIn K cd7 "_law_folded" = true) (k7 : PySem.W.keepIn K (.ref f7) = true)
    (a8 : PySem.W.nsIn K mainGlobals "straight_within" = some (some (.ref f8))) (l8 : K.lookup f8 = some ⟨oc8, od8, .func (PySem.W.fnOf "straight_within" "straight_within" (defArgs s_straight_within) (defBody s_straight_within) (defScope s_straight_within) .none kV8 dc8 pm8 an8 cd8 ct8), sl8⟩) (c8 : PySem.W.codeIn K cd8 "straight_within" = true) (k8 : PySem.W.keepIn K (.ref f8) = true)
    (a9 : PySem.W.nsIn K mainGlobals "stack_worth" = some (some (.ref f9))) (l9 : K.lookup f9 = some ⟨oc9, od9, .func (PySem.W.fnOf "stack_worth" "stack_worth" (defArgs s_stack_worth) (defBody s_stack_worth) (defScope s_stack_worth) .none kV9 dc9 pm9 an9 cd9 ct9), sl9⟩) (c9 : PySem.W.codeIn K cd9 "stack_worth" = true) (k9 : PySem.W.keepIn K (.ref f9) = true)
    (a10 : PySem.W.nsIn K mainGlobals "text_of" = some (some (.ref f10))) (l10 : K.lookup f10 = some ⟨oc10, od10, .func (PySem.W.fnOf "text_of" "text_of" (defArgs s_text_of) (defBody s_text_of) (defScope s_text_of) .none kV10 dc10 pm10 an10 cd10 ct10), sl10⟩) (c10 : PySem.W.codeIn K cd10 "text_of" = true) (k10 : PySem.W.keepIn K (.ref f10) = true)
    (a11 : PySem.W.nsIn K mainGlobals "loop_worths" = some (some (.ref f11))) (l11 : K.lookup f11 = some ⟨oc11, od11, .func (PySem.W.fnOf "loop_worths" "loop_worths" (defArgs s_loop_worths) (defBody s_loop_worths) (defScope s_loop_worths) .none kV11 dc11 pm11 an11 cd11 ct11), sl11⟩) (c11 : PySem.W.codeIn K cd11 "loop_worths" = true) (k11 : PySem.W.keepIn K (.ref f11) = true)
    (a12 : PySem.W.nsIn K mainGlobals "kind_of" = some (some (.ref f12))) (l12 : K.lookup f12 = some ⟨oc12, od12, .func (PySem.W.fnOf "kind_of" "kind_of" (defArgs s_kind_of) (defBody s_kind_of) (defScope s_kind_of) .none kV12 dc12 pm12 an12 cd12 ct12), sl12⟩) (c12 : PySem.W.codeIn K cd12 "kind_of" = true) (k12 : PySem.W.keepIn K (.ref f12) = true)
    (a13 : PySem.W.nsIn K mainGlobals "loop_within" = some (some (.ref f13))) (l13 : K.lookup f13 = some ⟨oc13, od13, .func (PySem.W.fnOf "loop_within" "loop_within" (defArgs s_loop_within) (defBody s_loop_within) (defScope s_loop_within) .none kV13 dc13 pm13 an13 cd13 ct13), sl13⟩) (c13 : PySem.W.codeIn K cd13 "loop_within" = true) (k13 : PySem.W.keepIn K (.ref f13) = true)
    (a14 : PySem.W.nsIn K mainGlobals "loops_of" = some (some (.ref f14))) (l14 : K.lookup f14 = some ⟨oc14, od14, .func (PySem.W.fnOf "loops_of" "loops_of" (defArgs s_loops_of) (defBody s_loops_of) (defScope s_loops_of) .none kV14 dc14 pm14 an14 cd14 ct14), sl14⟩) (c14 : PySem.W.codeIn K cd14 "loops_of" = true) (k14 : PySem.W.keepIn K (.ref f14) = true)
    (a15 : PySem.W.nsIn K mainGlobals "pair_worth" = some (some (.ref f15))) (l15 : K.lookup f15 = some ⟨oc15, od15, .func (PySem.W.fnOf "pair_worth" "pair_worth" (defArgs s_pair_worth) (defBody s_pair_worth) (defScope s_pair_worth) .none kV15 dc15 pm15 an15 cd15 ct15), sl15⟩) (c15 : PySem.W.codeIn K cd15 "pair_worth" = true) (k15 : PySem.W.keepIn K (.ref f15) = true)
    (a16 : PySem.W.nsIn K mainGlobals "worth_of" = some (some (.ref f16))) (l16 : K.lookup f16 = some ⟨oc16, od16, .func (PySem.W.fnOf "worth_of" "worth_of" (defArgs s_worth_of) (defBody s_worth_of) (defScope s_worth_of) .none kV16 dc16 pm16 an16 cd16 ct16), sl16⟩) (c16 : PySem.W.codeIn K cd16 "worth_of" = true) (k16 : PySem.W.keepIn K (.ref f16) = true)
    (a17 : PySem.W.nsIn K mainGlobals "may_pair" = some (some (.ref f17))) (l17 : K.lookup f17 = some ⟨oc17, od17, .func (PySem.W.fnOf "may_pair" "may_pair" (defArgs s_may_pair) (defBody s_may_pair) (defScope s_may_pair) .none kV17 dc17 pm17 an17 cd17 ct17), sl17⟩) (c17 : PySem.W.codeIn K cd17 "may_pair" = true) (k17 : PySem.W.keepIn K (.ref f17) = true)
    (a18 : PySem.W.nsIn K mainGlobals "is_whole" = some (some (.ref f18))) (l18 : K.lookup f18 = some ⟨oc18, od18, .func (PySem.W.fnOf "is_whole" "is_whole" (defArgs s_is_whole) (defBody s_is_whole) (defScope s_is_whole) .none kV18 dc18 pm18 an18 cd18 ct18), sl18⟩) (c18 : PySem.W.codeIn K cd18 "is_whole" = true) (k18 : PySem.W.keepIn K (.ref f18) = true)
    (a19 : PySem.W.nsIn K mainGlobals "is_row" = some (some (.ref f19))) (l19 : K.lookup f19 = some ⟨oc19, od19, .func (PySem.W.fnOf "is_row" "is_row" (defArgs s_is_row) (defBody s_is_row) (defScope s_is_row) .none kV19 dc19 pm19 an19 cd19 ct19), sl19⟩) (c19 : PySem.W.codeIn K cd19 "is_row" = true) (k19 : PySem.W.keepIn K (.ref f19) = true)
    (a20 : PySem.W.nsIn K mainGlobals "is_pair" = some (some (.ref f20))) (l20 : K.lookup f20 = some ⟨oc20, od20, .func (PySem.W.fnOf "is_pair" "is_pair" (defArgs s_is_pair) (defBody s_is_pair) (defScope s_is_pair) .none kV20 dc20 pm20 an20 cd20 ct20), sl20⟩) (c20 : PySem.W.codeIn K cd20 "is_pair" = true) (k20 : PySem.W.keepIn K (.ref f20) = true)
    (a21 : PySem.W.nsIn K mainGlobals "go_together" = some (some (.ref f21))) (l21 : K.lookup f21 = some ⟨oc21, od21, .func (PySem.W.fnOf "go_together" "go_together" (defArgs s_go_together) (defBody s_go_together) (defScope s_go_together) .none kV21 dc21 pm21 an21 cd21 ct21), sl21⟩) (c21 : PySem.W.codeIn K cd21 "go_together" = true) (k21 : PySem.W.keepIn K (.ref f21) = true)
    (a22 : PySem.W.nsIn K mainGlobals "rises" = some (some (.ref f22))) (l22 : K.lookup f22 = some ⟨oc22, od22, .func (PySem.W.fnOf "rises" "rises" (defArgs s_rises) (defBody s_rises) (defScope s_rises) .none kV22 dc22 pm22 an22 cd22 ct22), sl22⟩) (c22 : PySem.W.codeIn K cd22 "rises" = true) (k22 : PySem.W.keepIn K (.ref f22) = true)
    (a23 : PySem.W.nsIn K mainGlobals "is_folding" = some (some (.ref f23))) (l23 : K.lookup f23 = some ⟨oc23, od23, .func (PySem.W.fnOf "is_folding" "is_folding" (defArgs s_is_folding) (defBody s_is_folding) (defScope s_is_folding) .none kV23 dc23 pm23 an23 cd23 ct23), sl23⟩) (c23 : PySem.W.codeIn K cd23 "is_folding" = true) (k23 : PySem.W.keepIn K (.ref f23) = true)
    (a24 : PySem.W.nsIn K mainGlobals "brackets" = some (some (.ref f24))) (l24 : K.lookup f24 = some ⟨oc24, od24, .func (PySem.W.fnOf "brackets" "brackets" (defArgs s_brackets) (defBody s_brackets) (defScope s_brackets) .none kV24 dc24 pm24 an24 cd24 ct24), sl24⟩) (c24 : PySem.W.codeIn K cd24 "brackets" = true) (k24 : PySem.W.keepIn K (.ref f24) = true)
    (a25 : PySem.W.nsIn K mainGlobals "_law_both_right" = some (some (.ref f25))) (l25 : K.lookup f25 = some ⟨oc25, od25, .func (PySem.W.fnOf "_law_both_right" "_law_both_right" (defArgs s_law_both_right) (defBody s_law_both_right) (defScope s_law_both_right) .none kV25 dc25 pm25 an25 cd25 ct25), sl25⟩) (c25 : PySem.W.codeIn K cd25 "_law_both_right" = true) (k25 : PySem.W.keepIn K (.ref f25) = true)
    (a26 : PySem.W.nsIn K mainGlobals "_law_around_right" = some (some (.ref f26))) (l26 : K.lookup f26 = some ⟨oc26, od26, .func (PySem.W.fnOf "_law_around_right" "_law_around_right" (defArgs s_law_around_right) (defBody s_law_around_right) (defScope s_law_around_right) .none kV26 dc26 pm26 an26 cd26 ct26), sl26⟩) (c26 : PySem.W.codeIn K cd26 "_law_around_right" = true) (k26 : PySem.W.keepIn K (.ref f26) = true)
    (a27 : PySem.W.nsIn K mainGlobals "law" = some (some (.ref f27))) (l27 : K.lookup f27 = some ⟨oc27, od27, .func (PySem.W.fnOf "law" "law" (defArgs s_law) (defBody s_law) (defScope s_law) .none kV27 dc27 pm27 an27 cd27 ct27), sl27⟩) (c27 : PySem.W.codeIn K cd27 "law" = true) (k27 : PySem.W.keepIn K (.ref f27) = true)
    (z0 : PySem.W.nsIn K mainGlobals "len" = some none)
    (z1 : PySem.W.nsIn K mainGlobals "abs" = some none)
    (z2 : PySem.W.nsIn K mainGlobals "int" = some none)
    (z3 : PySem.W.nsIn K mainGlobals "tuple" = some none)
    (z4 : PySem.W.nsIn K mainGlobals "range" = some none)
    (z5 : PySem.W.nsIn K mainGlobals "list" = some none)
    (z6 : PySem.W.nsIn K mainGlobals "sorted" = some none)
    (z7 : PySem.W.nsIn K mainGlobals "sum" = some none)
    (z8 : PySem.W.nsIn K mainGlobals "dict" = some none)
    (z9 : PySem.W.nsIn K mainGlobals "zip" = some none)
    (z10 : PySem.W.nsIn K mainGlobals "isinstance" = some none)
    (z11 : PySem.W.nsIn K mainGlobals "bool" = some none)
    (z12 : PySem.W.nsIn K mainGlobals "all" = some none)
    (z13 : PySem.W.nsIn K mainGlobals "enumerate" = some none)
    (z14 : PySem.W.nsIn K mainGlobals "repr" = some none)
    (aG : PySem.W.nsIn K mainGlobals "LOOPS" = some (some (.ref aL))) (lG : K.lookup aL = some ⟨.type "tuple", odG, .seq #[.str "stacked" tG0, .str "inner" tG1, .str "inner free" tG2, .str "forked" tG3, .str "branch" tG4, .str "fork free" tG5, .str "lone" tG6, .str "lone free" tG7, .str "open" tG8] nG, slG⟩) :
    ∃ fd : FuncData, (∀ (s : Shared) (v : Value), BindsTo s fd ⟨[v], []⟩ [("_law_script", v)]) ∧ ∀ base : Heap, K.In base → base.Ns mainGlobals mg → FnG l.prog w K mg base fa fd ["_law_script"] (spLaw K) := by
  have e := hfa.symm.trans (PySem.W.mg_of X G a27)
  cases e
  have F0 := fun_mk (st := s_law_pen) l0 c0 k0
  have F1 := fun_mk (st := s_law_take) l1 c1 k1
  have F2 := fun_mk (st := s_law_pick) l2 c2 k2
  have F3 := fun_mk (st := s_law_worth) l3 c3 k3
  have F4 := fun_mk (st := s_law_code) l4 c4 k4
  have F5 := fun_mk (st := s_law_word) l5 c5 k5
  have F6 := fun_mk (st := s_law_may) l6 c6 k6
  have F7 := fun_mk (st := s_law_folded) l7 c7 k7
  have F8 := fun_mk (st := s_straight_within) l8 c8 k8
  have F9 := fun_mk (st := s_stack_worth) l9 c9 k9
  have F10 := fun_mk (st := s_text_of) l10 c10 k10
  have F11 := fun_mk (st := s_loop_worths) l11 c11 k11
  have F12 := fun_mk (st := s_kind_of) l12 c12 k12
  have F13 := fun_mk (st := s_loop_within) l13 c13 k13
  have F14 := fun_mk (st := s_loops_of) l14 c14 k14
  have F15 := fun_mk (st := s_pair_worth) l15 c15 k15
  have F16 := fun_mk (st := s_worth_of) l16 c16 k16
  have F17 := fun_mk (st := s_may_pair) l17 c17 k17
  have F18 := fun_mk (st := s_is_whole) l18 c18 k18
  have F19 := fun_mk (st := s_is_row) l19 c19 k19
  have F20 := fun_mk (st := s_is_pair) l20 c20 k20
  have F21 := fun_mk (st := s_go_together) l21 c21 k21
  have F22 := fun_mk (st := s_rises) l22 c22 k22
  have F23 := fun_mk (st := s_is_folding) l23 c23 k23
  have F24 := fun_mk (st := s_brackets) l24 c24 k24
  have F25 := fun_mk (st := s_law_both_right) l25 c25 k25
  have F26 := fun_mk (st := s_law_around_right) l26 c26 k26
  have F27 := fun_mk (st := s_law) l27 c27 k27
  have mlen := PySem.W.mg_none_of X G z0
  have mabs := PySem.W.mg_none_of X G z1
  have mint := PySem.W.mg_none_of X G z2
  have mtuple := PySem.W.mg_none_of X G z3
  have mrange := PySem.W.mg_none_of X G z4
  have mlist := PySem.W.mg_none_of X G z5
  have msorted := PySem.W.mg_none_of X G z6
  have msum := PySem.W.mg_none_of X G z7
  have mdict := PySem.W.mg_none_of X G z8
  have mzip := PySem.W.mg_none_of X G z9
  have misinstance := PySem.W.mg_none_of X G z10
  have mbool := PySem.W.mg_none_of X G z11
  have mall := PySem.W.mg_none_of X G z12
  have menumerate := PySem.W.mg_none_of X G z13
  have mrepr := PySem.W.mg_none_of X G z14
  have gLOOPS := PySem.W.mg_of X G aG
  have hLO : ∀ H : Hp, SqT K H aL (LN.map V.str) := fun H => .inr ⟨_, _, _, lG, rfl, rfl, szL (show 9 ≤ 1000000 by decide), (.cons ⟨_, rfl⟩ (.cons ⟨_, rfl⟩ (.cons ⟨_, rfl⟩ (.cons ⟨_, rfl⟩ (.cons ⟨_, rfl⟩ (.cons ⟨_, rfl⟩ (.cons ⟨_, rfl⟩ (.cons ⟨_, rfl⟩ (.cons ⟨_, rfl⟩ .nil)))))))))⟩
  refine ⟨PySem.W.fnOf "law" "law" (defArgs s_law) (defBody s_law) (defScope s_law) .none kV27 dc27 pm27 an27 cd27 ct27, fun s v => .of_eq rfl, fun base _ _ => ?_⟩
  have c_law_pen : Ca l.prog w K mg base 1 "_law_pen" ["_law_script"] (spPen K) := ⟨f0, _, ok_pen F0, PySem.W.mg_of X G a0, F0.kp, F0.binds fun _ _ _ _ _ _ us hl => match us, hl with | [_], _ => rfl⟩
  have c_law_take : Ca l.prog w K mg base 1 "_law_take" ["_law_pen_here", "_law_size"] spTake := ⟨f1, _, ok_take F1 mlen mabs, PySem.W.mg_of X G a1, F1.kp, F1.binds fun _ _ _ _ _ _ us hl => match us, hl with | [_, _], _ => rfl⟩
  have c_law_pick : Ca l.prog w K mg base 2 "_law_pick" ["_law_pen_here", "_law_some"] spPick := ⟨f2, _, ok_pick F2 c_law_take mlen, PySem.W.mg_of X G a2, F2.kp, F2.binds fun _ _ _ _ _ _ us hl => match us, hl with | [_, _], _ => rfl⟩
  have c_law_worth : Ca l.prog w K mg base 3 "_law_worth" ["_law_pen_here"] spWorth := ⟨f3, _, ok_worth F3 c_law_take c_law_pick, PySem.W.mg_of X G a3, F3.kp, F3.binds fun _ _ _ _ _ _ us hl => match us, hl with | [_], _ => rfl⟩
  have c_law_code : Ca l.prog w K mg base 4 "_law_code" ["_law_pen_here"] spCode := ⟨f4, _, ok_code F4 c_law_take c_law_pick c_law_worth mlen mint mtuple mrange mlist msorted, PySem.W.mg_of X G a4, F4.kp, F4.binds fun _ _ _ _ _ _ us hl => match us, hl with | [_], _ => rfl⟩
  have c_law_word : Ca l.prog w K mg base 3 "_law_word" ["_law_pen_here", "_law_code_here", "_law_most"] spWord := ⟨f5, _, ok_word F5 c_law_take c_law_pick mrange, PySem.W.mg_of X G a5, F5.kp, F5.binds fun _ _ _ _ _ _ us hl => match us, hl with | [_, _, _], _ => rfl⟩
  have c_law_may : Ca l.prog w K mg base 1 "_law_may" ["_law_code_here", "_law_word_here", "_law_i", "_law_j"] spMay := ⟨f6, _, ok_may F6, PySem.W.mg_of X G a6, F6.kp, F6.binds fun _ _ _ _ _ _ us hl => match us, hl with | [_, _, _, _], _ => rfl⟩
  have c_law_folded : Ca l.prog w K mg base 16 "_law_folded" ["_law_pen_here", "_law_code_here", "_law_word_here", "_law_first", "_law_last"] (spFold 13) := ⟨f7, _, ok_folded F7 (F7.binds fun _ _ _ _ _ _ us hl => match us, hl with | [_, _, _, _, _], _ => rfl) (PySem.W.mg_of X G a7) c_law_take c_law_pick c_law_may mrange 13, PySem.W.mg_of X G a7, F7.kp, F7.binds fun _ _ _ _ _ _ us hl => match us, hl with | [_, _, _, _, _], _ => rfl⟩
  have cstraight_within : Ca l.prog w K mg base 1 "straight_within" ["folding", "pair"] spWithin := ⟨f8, _, ok_within F8, PySem.W.mg_of X G a8, F8.kp, F8.binds fun _ _ _ _ _ _ us hl => match us, hl with | [_, _], _ => rfl⟩
  have cstack_worth : Ca l.prog w K mg base 1 "stack_worth" ["rules", "outer", "within"] spSW := ⟨f9, _, ok_sw F9, PySem.W.mg_of X G a9, F9.kp, F9.binds fun _ _ _ _ _ _ us hl => match us, hl with | [_, _, _], _ => rfl⟩
  have ctext_of : Ca l.prog w K mg base 1 "text_of" ["string", "pair"] spTextOf := ⟨f10, _, ok_text_of F10, PySem.W.mg_of X G a10, F10.kp, F10.binds fun _ _ _ _ _ _ us hl => match us, hl with | [_, _], _ => rfl⟩
  have cloop_worths : Ca l.prog w K mg base 1 "loop_worths" ["rules"] spLW := ⟨f11, _, ok_lw F11 gLOOPS hLO mdict mzip, PySem.W.mg_of X G a11, F11.kp, F11.binds fun _ _ _ _ _ _ us hl => match us, hl with | [_], _ => rfl⟩
  have ckind_of : Ca l.prog w K mg base 1 "kind_of" ["free", "branches"] spKO := ⟨f12, _, ok_ko F12, PySem.W.mg_of X G a12, F12.kp, F12.binds fun _ _ _ _ _ _ us hl => match us, hl with | [_, _], _ => rfl⟩
  have cloop_within : Ca l.prog w K mg base 2 "loop_within" ["rules", "string", "pair", "within"] spLoopW := ⟨f13, _, ok_loopw F13 cstack_worth ctext_of cloop_worths ckind_of msum mlen, PySem.W.mg_of X G a13, F13.kp, F13.binds fun _ _ _ _ _ _ us hl => match us, hl with | [_, _, _, _], _ => rfl⟩
  have cloops_of : Ca l.prog w K mg base 3 "loops_of" ["rules", "string", "folding"] spLoops := ⟨f14, _, ok_loops F14 cloop_within cstraight_within, PySem.W.mg_of X G a14, F14.kp, F14.binds fun _ _ _ _ _ _ us hl => match us, hl with | [_, _, _], _ => rfl⟩
  have cpair_worth : Ca l.prog w K mg base 1 "pair_worth" ["rules", "both"] spPW := ⟨f15, _, ok_pw F15, PySem.W.mg_of X G a15, F15.kp, F15.binds fun _ _ _ _ _ _ us hl => match us, hl with | [_, _], _ => rfl⟩
  have cworth_of : Ca l.prog w K mg base 4 "worth_of" ["rules", "string", "folding"] spWO := ⟨f16, _, ok_wo F16 cpair_worth ctext_of cloops_of cstraight_within cloop_worths msum mlen, PySem.W.mg_of X G a16, F16.kp, F16.binds fun _ _ _ _ _ _ us hl => match us, hl with | [_, _, _], _ => rfl⟩
  have cmay_pair : Ca l.prog w K mg base 2 "may_pair" ["rules", "string", "i", "j"] spMP := ⟨f17, _, ok_mp F17 ctext_of cpair_worth mlen, PySem.W.mg_of X G a17, F17.kp, F17.binds fun _ _ _ _ _ _ us hl => match us, hl with | [_, _, _, _], _ => rfl⟩
  have cis_whole : Ca l.prog w K mg base 1 "is_whole" ["thing"] spWhI := ⟨f18, _, ok_whI F18 misinstance mint mbool, PySem.W.mg_of X G a18, F18.kp, F18.binds fun _ _ _ _ _ _ us hl => match us, hl with | [_], _ => rfl⟩
  have cis_row : Ca l.prog w K mg base 1 "is_row" ["thing", "size"] spRow2 := ⟨f19, _, ok_row2 F19 misinstance mtuple mlen, PySem.W.mg_of X G a19, F19.kp, F19.binds fun _ _ _ _ _ _ us hl => match us, hl with | [_, _], _ => rfl⟩
  have cis_pair : Ca l.prog w K mg base 3 "is_pair" ["rules", "string", "thing"] spIP := ⟨f20, _, ok_ip F20 cis_row cis_whole cmay_pair, PySem.W.mg_of X G a20, F20.kp, F20.binds fun _ _ _ _ _ _ us hl => match us, hl with | [_, _, _], _ => rfl⟩
  have cgo_together : Ca l.prog w K mg base 1 "go_together" ["pair", "later"] spGT := ⟨f21, _, ok_gt F21, PySem.W.mg_of X G a21, F21.kp, F21.binds fun _ _ _ _ _ _ us hl => match us, hl with | [_, _], _ => rfl⟩
  have crises : Ca l.prog w K mg base 1 "rises" ["things"] spRi := ⟨f22, _, ok_ri F22 mall mzip, PySem.W.mg_of X G a22, F22.kp, F22.binds fun _ _ _ _ _ _ us hl => match us, hl with | [_], _ => rfl⟩
  have cis_folding : Ca l.prog w K mg base 4 "is_folding" ["rules", "string", "thing"] spIF := ⟨f23, _, ok_if F23 cis_pair cgo_together crises misinstance mtuple mall menumerate, PySem.W.mg_of X G a23, F23.kp, F23.binds fun _ _ _ _ _ _ us hl => match us, hl with | [_, _, _], _ => rfl⟩
  have cbrackets : Ca l.prog w K mg base 1 "brackets" ["string", "folding"] spBr := ⟨f24, _, ok_br F24 mlen, PySem.W.mg_of X G a24, F24.kp, F24.binds fun _ _ _ _ _ _ us hl => match us, hl with | [_, _], _ => rfl⟩
  have c_law_both_right : Ca l.prog w K mg base 5 "_law_both_right" ["_law_code_here", "_law_first", "_law_second"] spBoth := ⟨f25, _, ok_both F25 cbrackets cis_folding cworth_of mlen mtuple, PySem.W.mg_of X G a25, F25.kp, F25.binds fun _ _ _ _ _ _ us hl => match us, hl with | [_, _, _], _ => rfl⟩
  have c_law_around_right : Ca l.prog w K mg base 5 "_law_around_right" ["_law_code_here", "_law_word_here", "_law_folds", "_law_both"] spAr := ⟨f26, _, ok_ar F26 cis_folding cmay_pair cloops_of cstraight_within cpair_worth cworth_of mlen mtuple mrepr, PySem.W.mg_of X G a26, F26.kp, F26.binds fun _ _ _ _ _ _ us hl => match us, hl with | [_, _, _, _], _ => rfl⟩
  exact ok_law F27 ⟨rfl, by decide, by decide⟩ c_law_pen c_law_code c_law_word c_law_folded c_law_both_right c_law_around_right cis_folding mrange mlen mtuple
end Pf
open PySem PySem.W PyProof.Rows
set_option maxHeartbeats 0 in
theorem PySem.Challenge.cw_pairfolds_k13_whole_foldings_put_togethe_holds : PySem.Challenge.rw_pairfolds_k13_whole_foldings_put_togethe.Holds := by
  w_on; o_law; k_head; (case hw => w_witness2)
  k_fill
  refine Pf.walk_g (l := PySem.Challenge.rw_pairfolds_k13_whole_foldings_put_togethe) (n := 63) (x := "_law_script") (sp := fun w => Pf.spLaw _) rfl (by decide) rfl (fun w h Y => PySem.W.kIn_of Y) ?F (fun _ _ a ns hl hS => ⟨a, ns, rfl, hS, hl, fun _ => rfl⟩)
  case F =>
    intro w mg fa h KX G hmg
    refine' Pf.all_mk KX G hmg ?a0 ?l0 ?c0 ?k0 ?a1 ?l1 ?c1 ?k1 ?a2 ?l2 ?c2 ?k2 ?a3 ?l3 ?c3 ?k3 ?a4 ?l4 ?c4 ?k4 ?a5 ?l5 ?c5 ?k5 ?a6 ?l6 ?c6 ?k6 ?a7 ?l7 ?c7 ?k7 ?a8 ?l8 ?c8 ?k8 ?a9 ?l9 ?c9 ?k9 ?a10 ?l10 ?c10 ?k10 ?a11 ?l11 ?c11 ?k11 ?a12 ?l12 ?c12 ?k12 ?a13 ?l13 ?c13 ?k13 ?a14 ?l14 ?c14 ?k14 ?a15 ?l15 ?c15 ?k15 ?a16 ?l16 ?c16 ?k16 ?a17 ?l17 ?c17 ?k17 ?a18 ?l18 ?c18 ?k18 ?a19 ?l19 ?c19 ?k19 ?a20 ?l20 ?c20 ?k20 ?a21 ?l21 ?c21 ?k21 ?a22 ?l22 ?c22 ?k22 ?a23 ?l23 ?c23 ?k23 ?a24 ?l24 ?c24 ?k24 ?a25 ?l25 ?c25 ?k25 ?a26 ?l26 ?c26 ?k26 ?a27 ?l27 ?c27 ?k27 ?z0 ?z1 ?z2 ?z3 ?z4 ?z5 ?z6 ?z7 ?z8 ?z9 ?z10 ?z11 ?z12 ?z13 ?z14 ?aG ?lG
    (case a0 => k_is); (case l0 => k_is); (case c0 => k_is); (case k0 => k_is); (case a1 => k_is); (case l1 => k_is); (case c1 => k_is); (case k1 => k_is); (case a2 => k_is); (case l2 => k_is); (case c2 => k_is); (case k2 => k_is); (case a3 => k_is); (case l3 => k_is); (case c3 => k_is); (case k3 => k_is); (case a4 => k_is); (case l4 => k_is); (case c4 => k_is); (case k4 => k_is); (case a5 => k_is); (case l5 => k_is); (case c5 => k_is); (case k5 => k_is); (case a6 => k_is); (case l6 => k_is); (case c6 => k_is); (case k6 => k_is); (case a7 => k_is); (case l7 => k_is); (case c7 => k_is); (case k7 => k_is); (case a8 => k_is); (case l8 => k_is); (case c8 => k_is); (case k8 => k_is); (case a9 => k_is); (case l9 => k_is); (case c9 => k_is); (case k9 => k_is); (case a10 => k_is); (case l10 => k_is); (case c10 => k_is); (case k10 => k_is); (case a11 => k_is); (case l11 => k_is); (case c11 => k_is); (case k11 => k_is); (case a12 => k_is); (case l12 => k_is); (case c12 => k_is); (case k12 => k_is); (case a13 => k_is); (case l13 => k_is); (case c13 => k_is); (case k13 => k_is); (case a14 => k_is); (case l14 => k_is); (case c14 => k_is); (case k14 => k_is); (case a15 => k_is); (case l15 => k_is); (case c15 => k_is); (case k15 => k_is); (case a16 => k_is); (case l16 => k_is); (case c16 => k_is); (case k16 => k_is); (case a17 => k_is); (case l17 => k_is); (case c17 => k_is); (case k17 => k_is); (case a18 => k_is); (case l18 => k_is); (case c18 => k_is); (case k18 => k_is); (case a19 => k_is); (case l19 => k_is); (case c19 => k_is); (case k19 => k_is); (case a20 => k_is); (case l20 => k_is); (case c20 => k_is); (case k20 => k_is); (case a21 => k_is); (case l21 => k_is); (case c21 => k_is); (case k21 => k_is); (case a22 => k_is); (case l22 => k_is); (case c22 => k_is); (case k22 => k_is); (case a23 => k_is); (case l23 => k_is); (case c23 => k_is); (case k23 => k_is); (case a24 => k_is); (case l24 => k_is); (case c24 => k_is); (case k24 => k_is); (case a25 => k_is); (case l25 => k_is); (case c25 => k_is); (case k25 => k_is); (case a26 => k_is); (case l26 => k_is); (case c26 => k_is); (case k26 => k_is); (case a27 => k_is); (case l27 => k_is); (case c27 => k_is); (case k27 => k_is); (case z0 => k_is); (case z1 => k_is); (case z2 => k_is); (case z3 => k_is); (case z4 => k_is); (case z5 => k_is); (case z6 => k_is); (case z7 => k_is); (case z8 => k_is); (case z9 => k_is); (case z10 => k_is); (case z11 => k_is); (case z12 => k_is); (case z13 => k_is); (case z14 => k_is); (case aG => k_is); (case lG => k_is)
