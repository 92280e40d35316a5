import PyProof.Rows.All
import Wide.All
import OpenK.AllK
import Wide.FinOn
import HandS.ForMost
import HandS.Defaults
import PySem.Challenge.RW_pairfolds_k05_who_may_pair
set_option Elab.async false
set_option linter.all false
set_option maxRecDepth 100000
set_option maxHeartbeats 4000000
namespace Pf
open PySem PySem.Spec PyProof.Rows L2

/-! ### a def that may be called: its promise, its name, its binding -/
structure Ca (P : Program) (w : World) (K : PySem.W.Frag) (mg : Str → Option Value) (base : Heap) (k : Nat) (x : Str) (ps : List Str) (sp : Sp) : Prop where
  ex : ∃ f fd, FnOk P w K mg base CX0 k f fd ps sp ∧ mg x = some (.ref f) ∧ PySem.W.keepIn K (.ref f) = true ∧ Binds K fd ps []
structure CaK (P : Program) (w : World) (K : PySem.W.Frag) (mg : Str → Option Value) (base : Heap) (k : Nat) (x : Str) (ps ks : List Str) (gV : List V → List V → List V) (sp : Sp) : Prop where
  ex : ∃ f fd g, FnOk P w K mg base CX0 k f fd ps sp ∧ mg x = some (.ref f) ∧ PySem.W.keepIn K (.ref f) = true ∧ KBn K fd ps 0 ks g gV
section
variable {X : Cx} {k : Nat} {x : Str} {ps ks : List Str} {sp : Sp} {p pos : Pos} {e : Expr} {es : List Expr} {kws : List Keyword} {t tk : TA} {gV : List V → List V → List V}
theorem pe_ca (c : Ca X.prog X.w X.K X.mg X.base k x ps sp) (hr : Room k X.A) (hg : Gl X x) (ha : PA X (e :: es) t) (hdb : (x == ("__debug__" : Str)) = false := by decide)
    (he : starEach (e :: es) X.env = (false, eval e X.env) :: starEach es X.env := by rfl) (hpl : (backTo pos (starEach es X.env)).any (·.1) = false := by rfl) :
    PE X (.Call (.Name x p) (e :: es) [] pos) (tCall sp [] E0 t) := by
  obtain ⟨f, fd, F, hm, hk, hb⟩ := c.ex
  exact pe_call F hr hg hm hk hb .nil pass0 ha hdb he hpl
theorem pe_ca0 (c : Ca X.prog X.w X.K X.mg X.base k x ps sp) (hr : Room k X.A) (hg : Gl X x) (hdb : (x == ("__debug__" : Str)) = false := by decide) :
    PE X (.Call (.Name x p) [] [] pos) (tCall sp [] E0 tNil) := by
  obtain ⟨f, fd, F, hm, hk, hb⟩ := c.ex
  exact pe_call0 F hr hg hm hk hb .nil pass0 hdb
/-- f(k = v, ..), by names alone -/
theorem pe_caK (c : CaK X.prog X.w X.K X.mg X.base k x ps ks gV sp) (hr : Room k X.A) (hg : Gl X x) (hkw : PK X kws tk)
    (hall : (backToKw pos (keywordEach kws X.env)).all (·.1.isSome) = true := by rfl) (hks : (backToKw pos (keywordEach kws X.env)).filterMap (·.1) = ks := by rfl) (hdb : (x == ("__debug__" : Str)) = false := by decide)
    (hpl : ((backTo pos (starEach [] X.env)).any (·.1) || (backToKw pos (keywordEach kws X.env)).any (·.1.isNone)) = false := by rfl) :
    PE X (.Call (.Name x p) [] kws pos) (tCallN 0 ks.length sp gV E0 tNil tk) := by
  obtain ⟨f, fd, g, F, hm, hk, hb⟩ := c.ex
  refine ⟨fun pins s σ H Q I h => ?_⟩
  refine wpAny_Call_Name_kw (ld_glob I hg hm ?_ hdb)
  refine PySem.W.callWith_KW0 (h₀ := X.base) I.ok.mod.kin hk hall ?_ hpl
  refine thn (hkw.run pos pins s σ H _ I h) fun ws s2 ⟨zs, H2, I2, rz, l1, l2, q2⟩ => ⟨I2.kIn, ?_⟩
  rw [hks]
  exact run_fnN (us := []) (vs := []) F hr hb pass0 I2 .nil rz rfl l2 q2
end

/-! ### rules that read a list or a tuple, the written part by its letter -/
theorem ixL (K : PySem.W.Frag) {X : Cx} (h : X.K = K := by rfl) : IxR X (rIxL K) := h ▸ ix_list
theorem ixT (K : PySem.W.Frag) {X : Cx} (h : X.K = K := by rfl) : IxR X (rIxT K) := h ▸ ix_tup
theorem slL (K : PySem.W.Frag) {X : Cx} (h : X.K = K := by rfl) : SlR X (rSlL K) := h ▸ sl_list
theorem slT (K : PySem.W.Frag) {X : Cx} (h : X.K = K := by rfl) : SlR X (rSlT K) := h ▸ sl_tup
theorem eqD (K : PySem.W.Frag) {X : Cx} (hu : X.A.units + 64 < cLine) (h : X.K = K := by rfl) : OpR X (compareOp .Eq) (rEqD K) := h ▸ op_eqD hu
theorem neD (K : PySem.W.Frag) {X : Cx} (hu : X.A.units + 64 < cLine) (h : X.K = K := by rfl) : OpR X (compareOp .NotEq) (rNeD K) := h ▸ op_neD hu
theorem catT (K : PySem.W.Frag) {X : Cx} (h : X.K = K := by rfl) : OpR X (binaryOp .Add) (rCatT K) := h ▸ op_catT
def rLen (K : PySem.W.Frag) : List V → Hp → VK → Prop := fun xs H Q => ∃ p ys, xs = [.ref p] ∧ (SqL K H p ys ∨ SqT K H p ys) ∧ Q (.int ys.length) H
theorem lenQ (K : PySem.W.Frag) {X : Cx} (h : X.K = K := by rfl) : CallR X (.builtin "len") (rLen K) := by
  subst h
  exact call_len_seq
def rListOf (K : PySem.W.Frag) : List V → Hp → VK → Prop := fun xs H Q => ∃ p ys, xs = [.ref p] ∧ (SqL K H p ys ∨ SqT K H p ys) ∧ ∀ l, H l = none → Q (.ref l) (upd H l (.lst ys))
theorem listOf (K : PySem.W.Frag) {X : Cx} (h : X.K = K := by rfl) : CallR X (.type "list") (rListOf K) := by
  subst h
  exact call_list_of
def rTupleOf (K : PySem.W.Frag) : List V → Hp → VK → Prop := fun xs H Q => ∃ p ys, xs = [.ref p] ∧ ((SqL K H p ys ∧ ∀ l, H l = none → Q (.ref l) (upd H l (.tup ys))) ∨ (SqT K H p ys ∧ Q (.ref p) H))
theorem tupleOf (K : PySem.W.Frag) {X : Cx} (h : X.K = K := by rfl) : CallR X (.type "tuple") (rTupleOf K) := by
  subst h
  exact call_tuple_of

/-! ### repr of a plain thing -/
def repV : V → Str
  | .non => "None"
  | .bl b => if b then "True" else "False"
  | .int i => toString i
  | _ => ""
def RepOk : V → Prop
  | .non => True
  | .bl _ => True
  | .int i => i.natAbs.log2 < 1920
  | _ => False
theorem call_repr {X : Cx} : CallR X (.builtin "repr") (fun xs H Q => ∃ v, xs = [v] ∧ RepOk v ∧ Q (.str (repV v)) H) := by
  intro pins s σ H xs us Q I r h
  obtain ⟨v, rfl, hz, q⟩ := h
  cases v with
  | non =>
    obtain ⟨u, rfl, rfl⟩ := vals1 r
    exact PySem.P.repr_of_none ⟨.str _, H, I.tok _, ⟨_, rfl⟩, q⟩
  | bl b =>
    obtain ⟨u, rfl, rfl⟩ := vals1 r
    exact PySem.P.repr_of_bool ⟨.str _, H, I.tok _, ⟨_, rfl⟩, by cases b <;> exact q⟩
  | int i =>
    obtain ⟨u, rfl, t, rfl⟩ := vals1 r
    exact PySem.P.repr_of_int hz ⟨.str _, H, I.tok _, ⟨_, rfl⟩, q⟩
  | str _ => exact hz.elim
  | byt _ => exact hz.elim
  | flt _ => exact hz.elim
  | ref _ => exact hz.elim
  | ty _ => exact hz.elim

/-! ### texts of small letters -/
def Small (x : Str) : Prop := ∀ c ∈ x.cps.toList, 97 ≤ c ∧ c ≤ 122
theorem Small.app {a b : Str} (ha : Small a) (hb : Small b) : Small (a ++ b) := fun c h => by
  rw [Str.cps_append, Array.toList_append, List.mem_append] at h
  rcases h with h | h
  · exact ha c h
  · exact hb c h
theorem Small.one {c : Nat} (h : 97 ≤ c ∧ c ≤ 122) : Small ⟨#[c]⟩ := fun d hd => by
  have e : d = c := by simpa using hd
  subst e
  exact h
theorem Small.at {x : Str} (h : Small x) {i c : Nat} (hi : x.cps[i]? = some c) : 97 ≤ c ∧ c ≤ 122 := by
  refine h c ?_
  have := Array.mem_of_getElem? hi
  exact Array.mem_toList_iff.mpr this
theorem Small.ok {x : Str} (h : Small x) : PyData.strOk x = true := by
  show x.cps.all (· < 0x110000) = true
  rw [Array.all_eq_true_iff_forall_mem]
  intro c hc
  have := h c (Array.mem_toList_iff.mpr hc)
  exact decide_eq_true (by omega)
/-! ### a chain of three comparisons -/
def tChain3 (r1 r2 r3 : R2) (ta tb tc td : TE) : TE := fun σ H Q => ta σ H fun x H1 => tb σ H1 fun y H2 => r1 x y H2 fun z H3 => ∃ k, z = .bl k ∧
  (if k = true then tc σ H3 fun u H4 => r2 y u H4 fun z2 H5 => ∃ k2, z2 = .bl k2 ∧ (if k2 = true then td σ H5 fun v H6 => r3 u v H6 Q else Q (.bl false) H5) else Q (.bl false) H3)
theorem pt_chain3 {X : Cx} {o1 o2 o3 : CmpOp} {r1 r2 r3 : R2} {a b c d : Expr} {ta tb tc td : TE} {pos : Pos} (h1 : OpR X (compareOp o1) r1) (h2 : OpR X (compareOp o2) r2) (h3 : OpR X (compareOp o3) r3)
    (ha : PE X a ta) (hb : PE X b tb) (hc : PE X c tc) (hd : PE X d td) (hm : lastMarks [o1, o2, o3] [b, c, d] = false := by with_unfolding_all rfl) :
    PT X (.Compare a [o1, o2, o3] [b, c, d] pos) (tTest (tChain3 r1 r2 r3 ta tb tc td)) := by
  refine ⟨fun pins s σ H Q I h => isTrue_chain (thn (ha.run pins s σ H _ I h) fun v s1 ⟨x, H1, I1, e1, q1⟩ => test_link ?_) hm⟩
  refine thn (hb.run pins s1 σ H1 _ I1 q1) fun u s2 ⟨y, H2, I2, e2, q2⟩ => ?_
  refine thn (h1 pins s2 σ H2 x y v u _ I2 e1 e2 q2) fun dv s3 ⟨z, H3, I3, e3, k, ek, q3⟩ => ?_
  subst ek
  cases e3
  refine wpAny_truthy_bool ?_
  cases k with
  | false =>
    obtain ⟨k', e', q'⟩ := q3
    cases e'
    exact ite_ff ⟨H3, I3, q'⟩
  | true =>
    refine ite_tt (test_link ?_)
    refine thn (hc.run pins s3 σ H3 _ I3 q3) fun u4 s4 ⟨y4, H4, I4, e4, q4⟩ => ?_
    refine thn (h2 pins s4 σ H4 y y4 u u4 _ I4 e2 e4 q4) fun dv5 s5 ⟨z5, H5, I5, e5, k5, ek5, q5⟩ => ?_
    subst ek5
    cases e5
    refine wpAny_truthy_bool ?_
    cases k5 with
    | false =>
      obtain ⟨k', e', q'⟩ := q5
      cases e'
      exact ite_ff ⟨H5, I5, q'⟩
    | true =>
      refine ite_tt (test_last ?_)
      refine thn (hd.run pins s5 σ H5 _ I5 q5) fun u6 s6 ⟨y6, H6, I6, e6, q6⟩ => ?_
      refine thn (h3 pins s6 σ H6 y4 y6 u4 u6 _ I6 e4 e6 q6) fun dv7 s7 ⟨z7, H7, I7, e7, k7, ek7, q7⟩ => ?_
      subst ek7
      cases e7
      exact wpAny_truthy_bool ⟨H7, I7, q7⟩
theorem inSeq (K : PySem.W.Frag) {X : Cx} (h : X.K = K := by rfl) : OpR X (compareOp .In) (rIn K false) := h ▸ op_in_seq
theorem notInSeq (K : PySem.W.Frag) {X : Cx} (h : X.K = K := by rfl) : OpR X (compareOp .NotIn) (rIn K true) := h ▸ op_notIn_seq
/-! ### join with nothing between -/
theorem join_str (ys : List Str) : Txt.join "" ys = Str.join "" ys := eq_of_beq (join_closes (ys := ys) rfl)
theorem sjoin_le {m : Nat} : ∀ {ys : List Str}, (∀ y ∈ ys, y.length ≤ m) → (Str.join "" ys).length ≤ ys.length * m
  | [], _ => Nat.zero_le _
  | [y], h => by
    have := h y (List.mem_cons_self ..)
    show y.length ≤ 1 * m
    omega
  | y :: z :: r, h => by
    have h1 := h y (List.mem_cons_self ..)
    have h2 := sjoin_le (ys := z :: r) fun x hx => h x (List.mem_cons_of_mem _ hx)
    show (y ++ "" ++ Str.join "" (z :: r)).length ≤ _
    rw [Str.length_append, Str.length_append, List.length_cons, Nat.succ_mul]
    show y.length + 0 + _ ≤ _
    omega
theorem small_nil : Small "" := by
  unfold Small
  decide +kernel
theorem sjoin_small : ∀ {ys : List Str}, (∀ y ∈ ys, Small y) → Small (Str.join "" ys)
  | [], _ => small_nil
  | [y], h => h y (List.mem_cons_self ..)
  | y :: z :: r, h => ((h y (List.mem_cons_self ..)).app small_nil).app (sjoin_small (ys := z :: r) fun x hx => h x (List.mem_cons_of_mem _ hx))
theorem join_le {m : Nat} {ys : List Str} (h : ∀ y ∈ ys, y.length ≤ m) : (Txt.join "" ys).length ≤ ys.length * m := by
  rw [join_str]
  exact sjoin_le h
theorem join_small {ys : List Str} (h : ∀ y ∈ ys, Small y) : Small (Txt.join "" ys) := by
  rw [join_str]
  exact sjoin_small h

/-! ### a walk over a text's signs -/
theorem for_str {x : Str} {g : TG} {tb : TS} {D : Ends} {σ : L2.St} {H : Hp} (Pv : Nat → L2.St → Hp → Prop) (h0 : Pv 0 σ H)
    (hs : ∀ i c σ H, x.cps[i]? = some c → Pv i σ H → g (.str ⟨#[c]⟩) σ H fun σ2 H2 => tb { D with nx := Pv (i + 1), ct := Pv (i + 1), bk := D.nx } σ2 H2) (hd : ∀ σ H, Pv x.cps.size σ H → D.nx σ H) :
    ∃ W : Nat → Nat → L2.St → Hp → Prop, (∃ m, W 0 m σ H) ∧ ∀ i m σ H, W i m σ H →
      ((Its x).stop i H ∧ D.nx σ H) ∨ ((Its x).go i H ∧ ∃ N : L2.St → Hp → Prop, (∀ σ' H', N σ' H' → ∃ m', m' < m ∧ W (i + 1) m' σ' H') ∧ ∀ y H', (Its x).yld i H y H' → g y σ H' fun σ2 H2 => tb { D with nx := N, ct := N, bk := D.nx } σ2 H2) := by
  refine ⟨fun i m σ H => m = x.cps.size - i ∧ i ≤ x.cps.size ∧ Pv i σ H, ⟨x.cps.size, by simp, Nat.zero_le _, h0⟩, ?_⟩
  rintro i m σ H ⟨rfl, hi, p⟩
  by_cases hlt : i < x.cps.size
  · refine .inr ⟨hlt, Pv (i + 1), fun σ' H' p' => ⟨x.cps.size - (i + 1), by omega, rfl, hlt, p'⟩, fun y H' z => ?_⟩
    obtain ⟨e, c, hc, ev⟩ := z
    subst e ev
    exact hs i c σ _ hc p
  · have e : i = x.cps.size := by omega
    subst e
    exact .inl ⟨Nat.le_refl _, hd σ H p⟩
theorem lc_str {x : Str} {g : TG} {tt : TT} {te : TE} {vs : List Nat} {σ : L2.St} {H1 : Hp} {D : Addr} {Qd : Hp → Prop} (Pv : Nat → Hp → Prop) (h0 : Pv 0 (upd H1 D (.lst [])))
    (hs : ∀ i c H, x.cps[i]? = some c → Pv i H → g (.str ⟨#[c]⟩) (wipe σ vs) H fun σ2 H2 => wipe σ2 vs = wipe σ vs ∧ tt σ2 H2 fun b H3 =>
      if b = true then te σ2 H3 fun y H4 => ∃ acc, H4 D = some (.lst acc) ∧ acc.length < sizeLine ∧ Pv (i + 1) (upd H4 D (.lst (acc ++ [y]))) else Pv (i + 1) H3) (hd : ∀ H, Pv x.cps.size H → Qd H) :
    ∃ W : Nat → Nat → Hp → Prop, (∃ m, W 0 m (upd H1 D (.lst []))) ∧ ∀ i m H, W i m H →
      ((Its x).stop i H ∧ Qd H) ∨ ((Its x).go i H ∧ ∃ Nx : Hp → Prop, (∀ H', Nx H' → ∃ m', m' < m ∧ W (i + 1) m' H') ∧ ∀ y H', (Its x).yld i H y H' → g y (wipe σ vs) H' fun σ2 H2 => wipe σ2 vs = wipe σ vs ∧ tt σ2 H2 fun b H3 =>
        if b = true then te σ2 H3 fun y H4 => ∃ acc, H4 D = some (.lst acc) ∧ acc.length < sizeLine ∧ Nx (upd H4 D (.lst (acc ++ [y]))) else Nx H3) := by
  refine ⟨fun i m H => m = x.cps.size - i ∧ i ≤ x.cps.size ∧ Pv i H, ⟨x.cps.size, by simp, Nat.zero_le _, h0⟩, ?_⟩
  rintro i m H ⟨rfl, hi, p⟩
  by_cases hlt : i < x.cps.size
  · refine .inr ⟨hlt, Pv (i + 1), fun H' p' => ⟨x.cps.size - (i + 1), by omega, rfl, hlt, p'⟩, fun y H' z => ?_⟩
    obtain ⟨e, c, hc, ev⟩ := z
    subst e ev
    exact hs i c _ hc p
  · have e : i = x.cps.size := by omega
    subst e
    exact .inl ⟨Nat.le_refl _, hd H p⟩

/-! ### what stays in the heap, but the thing at p -/
def Kp (p : Addr) (H H' : Hp) : Prop := ∀ b o, b ≠ p → H b = some o → H' b = some o
theorem Kp.refl {p : Addr} {H : Hp} : Kp p H H := fun _ _ _ e => e
theorem Kp.trans {p : Addr} {H H1 H2 : Hp} (a : Kp p H H1) (b : Kp p H1 H2) : Kp p H H2 := fun c o n e => b c o n (a c o n e)
theorem Kp.new {p q : Addr} {H : Hp} {o : HO} (h : H q = none) : Kp p H (upd H q o) := fun b x _ e => by
  rw [upd_ne (ne_of_none e h)]
  exact e
theorem Kp.at {p : Addr} {H : Hp} {o : HO} : Kp p H (upd H p o) := fun b x n e => by
  rw [upd_ne n]
  exact e
/-- a change of what stood nowhere in H -/
theorem Kp.put {p q : Addr} {H H1 : Hp} {o : HO} (k : Kp p H H1) (h : H q = none) : Kp p H (upd H1 q o) := fun b x n e => by
  rw [upd_ne (ne_of_none e h)]
  exact k b x n e
theorem Kp.tup {p : Addr} {H H' : Hp} {ys : List V} {b : Addr} {xs : List V} (k : Kp p H H') (hp : H p = some (.lst ys)) (h : H b = some (.tup xs)) : H' b = some (.tup xs) :=
  k b _ (ne_of h hp (by intro z; cases z)) h
theorem Kp.some {p : Addr} {H H' : Hp} (k : Kp p H H') (hp : ∃ o, H' p = some o) {b : Addr} (h : H' b = none) : H b = none := by
  cases e : H b with
  | none => rfl
  | some o =>
    by_cases n : b = p
    · subst n
      obtain ⟨o', e'⟩ := hp
      rw [e'] at h
      cases h
    · rw [k b o n e] at h
      cases h

/-! ### arguments by names, in another order -/
def permV (js : List Nat) : List V → List V → List V := fun _ zs => js.map fun j => zs.getD j .non
def permU (js : List Nat) : List Value → List Value → List Value := fun _ ws => js.map fun j => ws.getD j .none
theorem vals_getD : ∀ {zs : List V} {ws : List Value} (j : Nat), Vals zs ws → RelV (zs.getD j .non) (ws.getD j .none)
  | _, _, _, .nil => rfl
  | _, _, 0, .cons r _ => r
  | _, _, j + 1, .cons _ t => vals_getD j t
theorem perm_rel {zs : List V} {ws : List Value} (r : Vals zs ws) : ∀ js : List Nat, Vals (js.map fun j => zs.getD j .non) (js.map fun j => ws.getD j .none)
  | [] => .nil
  | j :: js => .cons (vals_getD j r) (perm_rel r js)
theorem kbn_of {K : PySem.W.Frag} {fd : FuncData} {ps ks : List Str} (js : List Nat) (h : ∀ ws : List Value, ws.length = ks.length → bindArgs fd ⟨[], ks.zip ws⟩ = pure (ps.zip (js.map fun j => ws.getD j .none))) :
    KBn K fd ps 0 ks (permU js) (permV js) where
  to := fun s us ws _ hu hw => by
    obtain rfl := List.length_eq_zero_iff.mp hu
    exact .of_eq (h ws hw)
  rel := fun _ r => perm_rel r js
/-! ### what is added, and nothing changed -/
def Ext (H H' : Hp) : Prop := ∀ b o, H b = some o → H' b = some o
theorem Ext.refl {H : Hp} : Ext H H := fun _ _ e => e
theorem Ext.trans {H H1 H2 : Hp} (a : Ext H H1) (b : Ext H1 H2) : Ext H H2 := fun c o e => b c o (a c o e)
theorem Ext.new {q : Addr} {H : Hp} {o : HO} (h : H q = none) : Ext H (upd H q o) := fun b x e => by
  rw [upd_ne (ne_of_none e h)]
  exact e
theorem Ext.put {q : Addr} {H H1 : Hp} {o : HO} (k : Ext H H1) (h : H q = none) : Ext H (upd H1 q o) := fun b x e => by
  rw [upd_ne (ne_of_none e h)]
  exact k b x e
theorem Ext.none {H H' : Hp} (k : Ext H H') {q : Addr} (h : H' q = none) : H q = none := by
  cases e : H q with
  | none => rfl
  | some o =>
    rw [k q o e] at h
    cases h

theorem atI_get {α : Type} {xs : List α} {i : Int} (h0 : 0 ≤ i) (h1 : i < xs.length) : atI xs i = some (xs[i.toNat]'(by omega)) := by
  unfold atI ixN
  rw [if_pos h0, if_pos h1]
  exact List.getElem?_eq_getElem _
theorem atI_ints {ns : List Int} {i : Int} (h0 : 0 ≤ i) (h1 : i < ns.length) : ∃ z, z ∈ ns ∧ atI (ns.map V.int) i = some (.int z) := by
  have h2 : i < (ns.map V.int).length := by rw [List.length_map]; exact h1
  refine ⟨ns[i.toNat]'(by omega), List.getElem_mem _, ?_⟩
  rw [atI_get h0 h2, List.getElem_map]
theorem atI_mem {α : Type} {xs : List α} {i : Int} (h0 : 0 ≤ i) (h1 : i < xs.length) : ∃ v, v ∈ xs ∧ atI xs i = some v :=
  ⟨xs[i.toNat]'(by omega), List.getElem_mem _, atI_get h0 h1⟩
theorem len_pos {x : Str} (h : ¬ x = "") : 1 ≤ x.length := by
  obtain ⟨⟨l⟩⟩ := x
  cases l with
  | nil => exact absurd (by decide +kernel) h
  | cons a r =>
    show 1 ≤ (a :: r).length
    exact Nat.succ_pos _
theorem natAbs_lt_of {i : Int} {n : Nat} (h0 : -(n : Int) < i) (h1 : i < n) : i.natAbs < n := by omega
theorem log2_small {i : Int} (h : i.natAbs < 2 ^ 64) : i.natAbs.log2 < 1920 := by
  by_cases z : i.natAbs = 0
  · rw [z]
    decide
  · exact (Nat.log2_lt z).mpr (Nat.lt_of_lt_of_le h (Nat.pow_le_pow_right (by decide) (by decide)))
theorem szL {n : Nat} (h : n ≤ 1000000) : n ≤ sizeLine := by
  rw [sizeLine_eq]
  omega
theorem szLt {n : Nat} (h : n < 1000000) : n < sizeLine := by
  rw [sizeLine_eq]
  omega
end Pf


namespace Pf
open PySem PySem.Spec PyProof.Rows L2
def topS (i : Nat) : Stmt := PySem.Challenge.pw_pairfolds_k05_who_may_pair.main.body.getD i (.Pass ⟨0, 0, 0, 0⟩)
/-! ### the pen: a list of cells, a place, a rest -/
def Pen (H : Hp) (p c : Addr) (n : Nat) : Prop := ∃ (cells : List Int) (a r : Int), H p = some (.lst [.ref c, .int a, .int r]) ∧ H c = some (.lst (cells.map V.int)) ∧ 0 ≤ a ∧ a ≤ n ∧ 0 ≤ r ∧ cells.length ≤ 63
theorem Pen.mono {H : Hp} {p c : Addr} {n m : Nat} (h : Pen H p c n) (l : n ≤ m) : Pen H p c m := by
  obtain ⟨cells, a, r, h1, h2, h3, h4, h5, h6⟩ := h
  exact ⟨cells, a, r, h1, h2, h3, by omega, h5, h6⟩
theorem Pen.put {H : Hp} {p c q : Addr} {n : Nat} {o : HO} (h : Pen H p c n) (hp : q ≠ p) (hc : q ≠ c) : Pen (upd H q o) p c n := by
  obtain ⟨cells, a, r, h1, h2, h3⟩ := h
  exact ⟨cells, a, r, by rw [upd_ne hp.symm]; exact h1, by rw [upd_ne hc.symm]; exact h2, h3⟩
theorem Pen.new {H : Hp} {p c q : Addr} {n : Nat} {o : HO} (h : Pen H p c n) (hq : H q = none) : Pen (upd H q o) p c n := by
  have h' := h
  obtain ⟨cells, a, r, h1, h2, h3⟩ := h
  exact h'.put (ne_of_none h1 hq).symm (ne_of_none h2 hq).symm
theorem Pen.ne {H : Hp} {p c q : Addr} {n : Nat} (h : Pen H p c n) (hq : H q = none) : q ≠ p ∧ q ≠ c := by
  obtain ⟨cells, a, r, h1, h2, h3⟩ := h
  exact ⟨(ne_of_none h1 hq).symm, (ne_of_none h2 hq).symm⟩
theorem Pen.is {H : Hp} {p c : Addr} {n : Nat} (h : Pen H p c n) : ∃ o, H p = some o := by
  obtain ⟨cells, a, r, h1, _⟩ := h
  exact ⟨_, h1⟩
theorem Pen.tup {H : Hp} {p c : Addr} {n : Nat} (h : Pen H p c n) {b : Addr} {xs : List V} (e : H b = some (.tup xs)) : b ≠ p := by
  obtain ⟨cells, a, r, h1, _⟩ := h
  exact ne_of e h1 (by intro z; cases z)
section
variable {P : Program} {w : World} {K : PySem.W.Frag} {mg : Str → Option Value} {base : Heap}
/-! ### draw -/
abbrev s_law_draw : Stmt := topS 6
theorem sc_law_draw : FnScope ["_law_pen", "_law_many", "_law_digit", "_law_at", "_law_cell", "_law_stirred"] ["_law_pen", "_law_many"] (defScope s_law_draw) :=
  ⟨rfl, rfl, rfl, by decide +kernel, rfl, by decide +kernel, by decide +kernel⟩
def spDraw : Sp := fun vs H Q _ => ∃ (p c : Addr) (m : Int) (n : Nat), vs = [.ref p, .int m] ∧ Pen H p c n ∧ n < 1000000 ∧ 0 < m ∧ m < 1000000 ∧
  ∀ r H', 0 ≤ r → r < m → Kp p H H' → Pen H' p c (n + 1) → Q (.int r) H'
theorem dpInts {H : Hp} : ∀ cells : List Int, DpAll K H (cells.map V.int) (cells.map PyData.int)
  | [] => .nil
  | _ :: r => .cons (.int _) (dpInts r)
theorem draw_b1 {z a : Int} (a0 : 0 ≤ a) (a1 : a ≤ 1000000) : (z % 2147483563 + 80021 * a * a + 40009 * a + 47).natAbs < 2 ^ 64 := by
  have h1 : 80021 * a * a ≤ 80021 * 1000000 * 1000000 := Int.mul_le_mul (by omega) a1 a0 (by decide)
  have h2 : 0 ≤ 80021 * a * a := Int.mul_nonneg (by omega) a0
  have h3 := Int.emod_nonneg z (show (2147483563 : Int) ≠ 0 by decide)
  have h4 := Int.emod_lt_of_pos z (show (0 : Int) < 2147483563 by decide)
  omega
theorem draw_b2 (z : Int) : -(2 ^ 64) < z % 2147483647 ∧ z % 2147483647 < 2 ^ 64 := by
  have h3 := Int.emod_nonneg z (show (2147483647 : Int) ≠ 0 by decide)
  have h4 := Int.emod_lt_of_pos z (show (0 : Int) < 2147483647 by decide)
  omega
theorem draw_b3 (z : Int) {a : Int} (a0 : 0 ≤ a) (a1 : a ≤ 1000000) : (z % 2147483647 * (9 * a + 4) + 60013).natAbs < 2 ^ 64 := by
  have h3 := Int.emod_nonneg z (show (2147483647 : Int) ≠ 0 by decide)
  have h4 := Int.emod_lt_of_pos z (show (0 : Int) < 2147483647 by decide)
  have h1 : z % 2147483647 * (9 * a + 4) ≤ 2147483647 * 9000004 := Int.mul_le_mul (by omega) (by omega) (by omega) (by decide)
  have h2 : 0 ≤ z % 2147483647 * (9 * a + 4) := Int.mul_nonneg h3 (by omega)
  omega
theorem ok_draw {f : Addr} {fd : FuncData} {k : Nat} (F : Fun K "_law_draw" "_law_draw" s_law_draw f fd) (mlen : mg "len" = none) (mabs : mg "abs" = none) : FnOk P w K mg base CX0 (k + 1) f fd ["_law_pen", "_law_many"] spDraw := by
  refine F.ok sc_law_draw (fun vs H Q E h => ?_) (fun cdv A outer s H vs Q E hr h => ?_)
  · obtain ⟨p, c, m, n, rfl, _⟩ := h
    rfl
  · obtain ⟨p, c, m, n, rfl, hP, hn, m0, m1, q⟩ := h
    obtain ⟨cells, a, r, hp, hc, a0, a1, r0, cl⟩ := hP
    refine ⟨_, (pss_cons (ps_if (pt_cmpR op_gt (pe_ix (ixL K) (pv 0) pe_int (fun _ _ => rfl)) pe_int (nomark _)) (pss_cons (ps_set (i := 2) sc_law_draw.nd rfl (.inl rfl) (pe_op op_mod (pe_ix (ixL K) (pv 0) pe_int (fun _ _ => rfl)) (pv 1)))
      (pss_cons (ps_asg (pe_op op_fdiv (pe_ix (ixL K) (pv 0) pe_int (fun _ _ => rfl)) (pv 1)) (pg_sub (pv 0) pe_int set_list))
      (pss_one (ps_ret (pv 2))))) pss_nil)
      (pss_cons (ps_set (i := 3) sc_law_draw.nd rfl (.inl rfl) (pe_ix (ixL K) (pv 0) pe_int (fun _ _ => rfl)))
      (pss_cons (ps_asg (pe_op op_add (pv 3) pe_int) (pg_sub (pv 0) pe_int set_list))
      (pss_cons (ps_set (i := 4) sc_law_draw.nd rfl (.inl rfl) (pe_op op_add (pe_op op_mul pe_int (pv 3)) pe_int))
      (pss_cons (ps_if (pt_cmpR (neD K hr.units) (pe_ix (ixL K) (pv 0) pe_int (fun _ _ => rfl)) (pe_lst pa_nil) (nomark _)) (pss_one (ps_set (i := 4) sc_law_draw.nd rfl (.inl rfl) (pe_ix (ixL K) (pe_ix (ixL K) (pv 0) pe_int (fun _ _ => rfl)) (pe_op op_mod (pv 3) (pe_callB (lenQ K) (by rfl) mlen (by decide +kernel) (pa_cons (pe_ix (ixL K) (pv 0) pe_int (fun _ _ => rfl)) pa_nil))) (fun _ _ => rfl)))) pss_nil)
      (pss_cons (ps_if (PW.pt (pw_and (pt_cmpR op_lt (pv 3) (pe_callB (lenQ K) (by rfl) mlen (by decide +kernel) (pa_cons (pe_ix (ixL K) (pv 0) pe_int (fun _ _ => rfl)) pa_nil)) (nomark _)) (pw_and1 (pt_cmpR op_ge (pe_callB call_abs (by rfl) mabs (by decide +kernel) (pa_cons (pv 4) pa_nil)) (pe_op op_pow pe_int pe_int) (nomark _))))) (pss_cons (ps_asg (pe_op op_fdiv (pe_callB call_abs (by rfl) mabs (by decide +kernel) (pa_cons (pv 4) pa_nil)) (pv 1)) (pg_sub (pv 0) pe_int set_list))
      (pss_one (ps_ret (pe_op op_mod (pe_callB call_abs (by rfl) mabs (by decide +kernel) (pa_cons (pv 4) pa_nil)) (pv 1))))) pss_nil)
      (pss_cons (ps_set (i := 5) sc_law_draw.nd rfl (.inl rfl) (pe_op op_mod (pe_op op_pow (pe_op op_add (pe_op op_add (pe_op op_add (pe_op op_mod (pv 4) pe_int) (pe_op op_mul (pe_op op_mul pe_int (pv 3)) (pv 3))) (pe_op op_mul pe_int (pv 3))) pe_int) pe_int) pe_int))
      (pss_cons (ps_set (i := 5) sc_law_draw.nd rfl (.inl rfl) (pe_op op_mod (pe_op op_pow (pe_op op_add (pe_op op_mul (pv 5) (pe_op op_add (pe_op op_mul pe_int (pv 3)) pe_int)) pe_int) pe_int) pe_int))
      (pss_one (ps_ret (pe_op op_mod (pe_op op_fdiv (pv 5) pe_int) (pv 1)))))))))))), ?_⟩
    have ncp : c ≠ p := ne_of hc hp (by
      intro z
      injection z with z
      cases cells with
      | nil => cases z
      | cons x y => injection z with z1 _; cases z1)
    -- if pen[2] > 0
    refine ⟨.ref p, rfl, p, _, 2, .int r, rfl, rfl, SqL.of hp, rfl, _, _, rfl, rfl, _, rfl, ite2 (fun e => ?_) (fun e => ?_)⟩
    · refine ⟨.ref p, rfl, p, _, 2, .int r, rfl, rfl, SqL.of hp, rfl, .int m, rfl, r, m, rfl, rfl, m0, ?_⟩
      refine ⟨.ref p, rfl, p, _, 2, .int r, rfl, rfl, SqL.of hp, rfl, .int m, rfl, r, m, rfl, rfl, ⟨m0, by omega⟩, .ref p, rfl, p, _, 2, 2, rfl, rfl, hp, rfl, ?_⟩
      refine ⟨_, rfl, q _ _ (Int.emod_nonneg _ (by omega)) (Int.emod_lt_of_pos _ m0) Kp.at ⟨cells, a, r / m, upd_same, ?_, a0, by omega, Int.ediv_nonneg r0 (by omega), cl⟩⟩
      rw [upd_ne ncp]
      exact hc
    · -- at = pen[1]; pen[1] = at + 1
      refine ⟨.ref p, rfl, p, _, 1, .int a, rfl, rfl, SqL.of hp, rfl, ?_⟩
      refine ⟨.int a, rfl, a, 1, rfl, rfl, .ref p, rfl, p, _, 1, 1, rfl, rfl, hp, rfl, ?_⟩
      have hp1 : (upd H p (.lst [.ref c, .int (a + 1), .int r])) p = some (.lst [.ref c, .int (a + 1), .int r]) := upd_same
      have hc1 : (upd H p (.lst [.ref c, .int (a + 1), .int r])) c = some (.lst (cells.map V.int)) := by
        rw [upd_ne ncp]
        exact hc
      -- cell = 70003 * at + 83
      refine ⟨.int a, rfl, 70003, a, rfl, rfl, .inl ⟨by decide, by decide⟩, _, 83, rfl, rfl, ?_⟩
      refine ⟨.ref p, rfl, p, _, 0, .ref c, rfl, rfl, SqL.of hp1, rfl, Nat.zero_le _, fun l hl => ?_⟩
      have nlp : l ≠ p := (ne_of_none hp1 hl).symm
      have nlc : l ≠ c := (ne_of_none hc1 hl).symm
      have hl0 : H l = none := by
        have h := hl
        rw [upd_ne nlp] at h
        exact h
      have hp2 : (upd (upd H p (.lst [.ref c, .int (a + 1), .int r])) l (.lst [])) p = some (.lst [.ref c, .int (a + 1), .int r]) := by
        rw [upd_ne nlp.symm]
        exact hp1
      have hc2 : (upd (upd H p (.lst [.ref c, .int (a + 1), .int r])) l (.lst [])) c = some (.lst (cells.map V.int)) := by
        rw [upd_ne nlc.symm]
        exact hc1
      have k2 : Kp p H (upd (upd H p (.lst [.ref c, .int (a + 1), .int r])) l (.lst [])) := Kp.at.put hl0
      refine ⟨.list (cells.map .int), .list [], .lst (SqL.of hc2) (dpInts cells), .lst (SqL.of upd_same) .nil, PySem.W.shaped_ints _, by decide, _, rfl, ite2 (fun e1 => ?_) (fun e1 => ?_)⟩
      have hne : 0 < cells.length := by
        cases cells with
        | nil => cases e1
        | cons x y => exact Nat.succ_pos _
      have hl1 : ((cells.map V.int).length : Int) = cells.length := by rw [List.length_map]
      obtain ⟨z, _, hat⟩ := atI_ints (ns := cells) (Int.emod_nonneg a (show ((cells.map V.int).length : Int) ≠ 0 by omega)) (by
        have := Int.emod_lt_of_pos a (show (0 : Int) < ((cells.map V.int).length : Int) by omega)
        omega)
      have hl2 : (0 : Int) < ((cells.map V.int).length : Int) := by omega
      refine ⟨.ref p, rfl, p, _, 0, .ref c, rfl, rfl, SqL.of hp2, rfl, .int a, rfl, .ref p, rfl, p, _, 0, .ref c, rfl, rfl, SqL.of hp2, rfl, c, _, rfl, .inl (SqL.of hc2), _, _, rfl, rfl, hl2, c, _, _, _, rfl, rfl, SqL.of hc2, hat, ?_⟩
      all_goals
        refine ⟨.int a, rfl, .ref p, rfl, p, _, 0, .ref c, rfl, rfl, SqL.of hp2, rfl, c, _, rfl, .inl (SqL.of hc2), _, _, rfl, rfl, _, rfl, ite2 (fun e2 => ?_) (fun e2 => ?_)⟩
        refine ⟨_, rfl, _, rfl, 10, 18, rfl, rfl, ⟨by decide, by decide, by decide⟩, _, _, rfl, rfl, _, rfl, ite2 (fun e3 => ?_) (fun e3 => ?_)⟩
        · refine ⟨_, rfl, _, rfl, .int m, rfl, _, m, rfl, rfl, ⟨m0, by omega⟩, .ref p, rfl, p, _, 2, 2, rfl, rfl, hp2, rfl, ?_⟩
          refine ⟨_, rfl, _, rfl, .int m, rfl, _, m, rfl, rfl, m0, q _ _ (Int.emod_nonneg _ (by omega)) (Int.emod_lt_of_pos _ m0) (k2.trans Kp.at) ⟨cells, a + 1, _, upd_same, ?_, by omega, by omega, Int.ediv_nonneg ?_ (by omega), cl⟩⟩
          · rw [upd_ne ncp]
            exact hc2
          · split <;> omega
        all_goals
          have ha2 : 80021 * a ≤ 80021 * 1000000 := by omega
          have ha3 : 0 ≤ 80021 * a := by omega
          refine ⟨_, rfl, _, 2147483563, rfl, rfl, (show (0 : Int) < 2147483563 by decide), .int a, rfl, 80021, a, rfl, rfl, .inl ⟨by decide, by decide⟩, .int a, rfl, _, a, rfl, rfl, .inl ⟨by omega, by omega⟩, _, _, rfl, rfl, .int a, rfl, 40009, a, rfl, rfl, .inl ⟨by decide, by decide⟩, _, _, rfl, rfl, _, 47, rfl, rfl, _, 3, rfl, rfl, ⟨by decide, by decide, draw_b1 a0 (by omega)⟩, _, 2147483647, rfl, rfl, (show (0 : Int) < 2147483647 by decide), ?_⟩
          refine ⟨_, rfl, .int a, rfl, 9, a, rfl, rfl, .inl ⟨by decide, by decide⟩, _, 4, rfl, rfl, _, _, rfl, rfl, .inl (draw_b2 _), _, 60013, rfl, rfl, _, 3, rfl, rfl, ⟨by decide, by decide, draw_b3 _ a0 (by omega)⟩, _, 2147483587, rfl, rfl, (show (0 : Int) < 2147483587 by decide), ?_⟩
          refine ⟨_, rfl, _, 32, rfl, rfl, ⟨by decide, by decide⟩, .int m, rfl, _, m, rfl, rfl, m0, q _ _ (Int.emod_nonneg _ (by omega)) (Int.emod_lt_of_pos _ m0) k2 ⟨cells, a + 1, r, hp2, hc2, by omega, by omega, r0, cl⟩⟩
end
end Pf


namespace Pf
open PySem PySem.Spec PyProof.Rows L2
section
variable {P : Program} {w : World} {K : PySem.W.Frag} {mg : Str → Option Value} {base : Heap}
abbrev CDraw (P : Program) (w : World) (K : PySem.W.Frag) (mg : Str → Option Value) (base : Heap) : Prop := Ca P w K mg base 1 "_law_draw" ["_law_pen", "_law_many"] spDraw
/-! ### few -/
abbrev s_law_few : Stmt := topS 9
theorem sc_law_few : FnScope ["_law_pen"] ["_law_pen"] (defScope s_law_few) :=
  ⟨rfl, rfl, rfl, by decide +kernel, rfl, by decide +kernel, by decide +kernel⟩
def spFew : Sp := fun vs H Q _ => ∃ (p c : Addr) (n : Nat), vs = [.ref p] ∧ Pen H p c n ∧ n < 1000000 ∧
  ∀ (i : Int) H', -99 ≤ i → i ≤ 99 → Kp p H H' → Pen H' p c (n + 1) → Q (.int i) H'
theorem ok_few {f : Addr} {fd : FuncData} (F : Fun K "_law_few" "_law_few" s_law_few f fd) (c_law_draw : CDraw P w K mg base) : FnOk P w K mg base CX0 2 f fd ["_law_pen"] spFew := by
  refine F.ok sc_law_few (fun vs H Q E h => ?_) (fun cdv A outer s H vs Q E hr h => ?_)
  · obtain ⟨p, c, n, rfl, _⟩ := h
    rfl
  · obtain ⟨p, c, n, rfl, hP, hn, q⟩ := h
    refine ⟨_, (pss_one (ps_ret (pe_op op_sub (pe_ca c_law_draw (hr.mono (by decide)) (by rfl) (pa_cons (pv 0) (pa_cons pe_int pa_nil))) pe_int))), ?_⟩
    refine ⟨.ref p, rfl, p, c, 9, n, rfl, hP, hn, by decide, by decide, fun r H' r0 r1 k hP' => ?_⟩
    exact ⟨r, 5, rfl, rfl, q _ _ (by omega) (by omega) k hP'⟩
/-! ### worth -/
abbrev s_law_worth : Stmt := topS 8
theorem sc_law_worth : FnScope ["_law_pen", "_law_some"] ["_law_pen"] (defScope s_law_worth) :=
  ⟨rfl, rfl, rfl, by decide +kernel, rfl, by decide +kernel, by decide +kernel⟩
def spWorth : Sp := fun vs H Q _ => ∃ (p c : Addr) (n : Nat), vs = [.ref p] ∧ Pen H p c n ∧ n + 3 < 1000000 ∧
  ∀ (i : Int) H', -99 ≤ i → i ≤ 99 → Kp p H H' → Pen H' p c (n + 4) → Q (.int i) H'
theorem ok_worth {f : Addr} {fd : FuncData} (F : Fun K "_law_worth" "_law_worth" s_law_worth f fd) (c_law_draw : CDraw P w K mg base) : FnOk P w K mg base CX0 2 f fd ["_law_pen"] spWorth := by
  refine F.ok sc_law_worth (fun vs H Q E h => ?_) (fun cdv A outer s H vs Q E hr h => ?_)
  · obtain ⟨p, c, n, rfl, _⟩ := h
    rfl
  · obtain ⟨p, c, n, rfl, hP, hn, q⟩ := h
    refine ⟨_, (pss_cons (ps_set (i := 1) sc_law_worth.nd rfl (.inl rfl) (pe_lst (pa_cons (pe_op op_sub (pe_ca c_law_draw (hr.mono (by decide)) (by rfl) (pa_cons (pv 0) (pa_cons pe_int pa_nil))) pe_int) (pa_cons pe_int (pa_cons (pe_un un_neg pe_int) (pa_cons (pe_op op_sub (pe_ca c_law_draw (hr.mono (by decide)) (by rfl) (pa_cons (pv 0) (pa_cons pe_int pa_nil))) pe_int) (pa_cons pe_int (pa_cons pe_int (pa_cons (pe_un un_neg pe_int) (pa_cons (pe_op op_sub pe_int (pe_ca c_law_draw (hr.mono (by decide)) (by rfl) (pa_cons (pv 0) (pa_cons pe_int pa_nil)))) pa_nil))))))))))
      (pss_one (ps_ret (pe_ix (ixL K) (pv 1) (pe_ca c_law_draw (hr.mono (by decide)) (by rfl) (pa_cons (pv 0) (pa_cons pe_int pa_nil))) (fun _ _ => rfl))))), ?_⟩
    refine ⟨.ref p, rfl, p, c, 9, n, rfl, hP, by omega, by decide, by decide, fun r1 H1 r1a r1b k1 hP1 => ⟨r1, 4, rfl, rfl, 1, rfl, ?_⟩⟩
    refine ⟨.ref p, rfl, p, c, 199, n + 1, rfl, hP1, by omega, by decide, by decide, fun r2 H2 r2a r2b k2 hP2 => ⟨r2, 99, rfl, rfl, 99, rfl, ?_⟩⟩
    refine ⟨.ref p, rfl, p, c, 7, n + 2, rfl, hP2, by omega, by decide, by decide, fun r3 H3 r3a r3b k3 hP3 => ⟨0, r3, rfl, rfl, ?_⟩⟩
    refine ⟨szL (show 8 ≤ 1000000 by decide), fun l hl => ?_⟩
    refine ⟨.ref l, rfl, .ref p, rfl, p, c, 8, n + 3, rfl, hP3.new hl, by omega, by decide, by decide, fun r4 H4 r4a r4b k4 hP4 => ?_⟩
    have hL : H4 l = some (.lst ([r1 - 4, 0, -1, r2 - 99, 1, 99, -99, 0 - r3].map V.int)) := k4 _ _ (hP3.ne hl).1 upd_same
    obtain ⟨z, hz, hat⟩ := atI_ints (ns := [r1 - 4, 0, -1, r2 - 99, 1, 99, -99, 0 - r3]) r4a r4b
    have hz2 : -99 ≤ z ∧ z ≤ 99 := by
      simp only [List.mem_cons, List.not_mem_nil, or_false] at hz
      omega
    exact ⟨l, _, r4, _, rfl, rfl, SqL.of hL, hat, q _ _ hz2.1 hz2.2 (((k1.trans k2).trans k3).trans ((Kp.new hl).trans k4)) hP4⟩
/-! ### letters -/
abbrev s_law_letters : Stmt := topS 7
theorem sc_law_letters : FnScope ["_law_pen", "_law_every", "_law_way", "_law_found", "_law_letter"] ["_law_pen"] (defScope s_law_letters) :=
  ⟨rfl, rfl, rfl, by decide +kernel, rfl, by decide +kernel, by decide +kernel⟩
def spLetters : Sp := fun vs H Q _ => ∃ (p c : Addr) (n : Nat), vs = [.ref p] ∧ Pen H p c n ∧ n + 26 < 1000000 ∧
  ∀ (x : Str) H', x.length ≤ 6 → 1 ≤ x.length → Small x → Kp p H H' → Pen H' p c (n + 27) → Q (.str x) H'
theorem ok_letters {f : Addr} {fd : FuncData} (F : Fun K "_law_letters" "_law_letters" s_law_letters f fd) (c_law_draw : CDraw P w K mg base) (mlen : mg "len" = none) (mint : mg "int" = none) : FnOk P w K mg base CX0 2 f fd ["_law_pen"] spLetters := by
  refine F.ok sc_law_letters (fun vs H Q E h => ?_) (fun cdv A outer s H vs Q E hr h => ?_)
  · obtain ⟨p, c, n, rfl, _⟩ := h
    rfl
  · obtain ⟨p, c, n, rfl, hP, hn, q⟩ := h
    refine ⟨_, (pss_cons (ps_set (i := 1) sc_law_letters.nd rfl (.inl rfl) pe_str)
      (pss_cons (ps_set (i := 2) sc_law_letters.nd rfl (.inl rfl) (pe_ca c_law_draw (hr.mono (by decide)) (by rfl) (pa_cons (pv 0) (pa_cons pe_int pa_nil))))
      (pss_cons (ps_if (pt_cmpR op_lt (pv 2) pe_int (nomark _)) (pss_one (ps_ret (pe_ix (ixL K) (pe_lst (pa_cons pe_str (pa_cons pe_str (pa_cons pe_str (pa_cons pe_str (pa_cons pe_str (pa_cons pe_str pa_nil))))))) (pe_ca c_law_draw (hr.mono (by decide)) (by rfl) (pa_cons (pv 0) (pa_cons pe_int pa_nil))) (fun _ _ => rfl)))) pss_nil)
      (pss_cons (ps_set (i := 3) sc_law_letters.nd rfl (.inl rfl) pe_str)
      (pss_cons (ps_for PassesOwn.never rfl (pi_str (pv 1)) (pg_name (i := 4) sc_law_letters.nd rfl (.inl rfl)) (pss_one (ps_if (PW.pt (pw_and (pt_cmpR op_lt (pe_callB call_len_str (by rfl) mlen (by decide +kernel) (pa_cons (pv 3) pa_nil)) pe_int (nomark _)) (pw_and1 (pt_cmpR op_eq (pe_ca c_law_draw (hr.mono (by decide)) (by rfl) (pa_cons (pv 0) (pa_cons pe_int pa_nil))) pe_int (nomark _))))) (pss_one (ps_set (i := 3) sc_law_letters.nd rfl (.inl rfl) (pe_op op_add_str (pv 3) (pv 4)))) pss_nil)))
      (pss_one (ps_ret (pe_ix (ixL K) (pe_lst (pa_cons (pv 3) (pa_cons pe_str pa_nil))) (pe_callTy call_int1 (by rfl) mint (by decide +kernel) (pa_cons (pe_cmpR op_eq (pv 3) pe_str (nomark _)) pa_nil)) (fun _ _ => rfl))))))))), ?_⟩
    refine ⟨.ref p, rfl, p, c, 3, n, rfl, hP, by omega, by decide, by decide, fun r1 H1 r1a r1b k1 hP1 => ?_⟩
    refine ⟨_, rfl, r1, 2, rfl, rfl, _, rfl, ite2 (fun e => ?_) (fun e => ?_)⟩
    · refine ⟨szL (by decide), fun l hl => ?_⟩
      refine ⟨.ref p, rfl, p, c, 6, n + 1, rfl, hP1.new hl, by omega, by decide, by decide, fun r4 H4 r4a r4b k4 hP4 => ?_⟩
      have hL := k4 _ _ (hP1.ne hl).1 upd_same
      obtain ⟨v, hmem, hz⟩ := atI_mem (xs := [V.str "ab", .str "a", .str "abc", .str "ad", .str "xyz", .str "abcdef"]) r4a r4b
      have hv : ∀ v ∈ [V.str "ab", .str "a", .str "abc", .str "ad", .str "xyz", .str "abcdef"], ∃ x : Str, v = .str x ∧ x.length ≤ 6 ∧ 1 ≤ x.length ∧ Small x := by
        intro v hv
        simp only [List.mem_cons, List.not_mem_nil, or_false] at hv
        rcases hv with rfl | rfl | rfl | rfl | rfl | rfl <;> exact ⟨_, rfl, by decide, by decide, by unfold Small; decide +kernel⟩
      obtain ⟨x, rfl, hx, hx1, hxs⟩ := hv _ hmem
      refine ⟨l, _, r4, _, rfl, rfl, SqL.of hL, hz, ?_⟩
      exact q _ _ hx hx1 hxs (k1.trans ((Kp.new hl).trans k4)) (hP4.mono (by omega))
    · refine ⟨_, rfl, _, rfl, for_str (fun i σ H2 => ∃ (x : Str) (y : Option V), σ = [some (.ref p), some (.str "abcdefghijklmnopqrstuvwxyz"), some (.int r1), some (.str x), y] ∧ x.length ≤ 6 ∧ Small x ∧ Kp p H H2 ∧ Pen H2 p c (n + 1 + i)) ⟨"", none, rfl, by decide, by unfold Small; decide +kernel, k1, hP1⟩ (fun i ch σ H2 hi hv => ?_) (fun σ H2 hv => ?_)⟩
      · obtain ⟨x, y, rfl, hx, hxs, k2, hP2⟩ := hv
        have hi26 : i < 26 := by
          have h1 := (Array.getElem?_eq_some_iff.mp hi).1
          have h2 : (Str.ofString "abcdefghijklmnopqrstuvwxyz").cps.size = 26 := by decide +kernel
          omega
        refine ⟨_, rfl, _, rfl, szL (by omega), _, _, rfl, rfl, _, rfl, ite2 (fun e1 => ?_) (fun e1 => ?_)⟩
        · have hx5 : x.length < 6 := by
            have := of_decide_eq_true e1
            omega
          refine ⟨_, rfl, p, c, 5, n + 1 + i, rfl, hP2, by omega, by decide, by decide, fun r3 H3 r3a r3b k3 hP3 => ?_⟩
          refine ⟨rfl, _, rfl, ite2 (fun e2 => ?_) (fun e2 => ?_)⟩
          · refine ⟨_, rfl, _, rfl, x, ⟨#[ch]⟩, rfl, rfl, szL ?_, x ++ ⟨#[ch]⟩, _, rfl, ?_, hxs.app (.one ((show Small "abcdefghijklmnopqrstuvwxyz" by unfold Small; decide +kernel).at hi)), k2.trans k3, hP3⟩
            · show x.length + 1 ≤ _
              omega
            · rw [Str.length_append]
              show x.length + 1 ≤ 6
              omega
          · exact ⟨x, _, rfl, hx, hxs, k2.trans k3, hP3⟩
        · exact ⟨x, _, rfl, hx, hxs, k2, hP2.mono (by omega)⟩
      · obtain ⟨x, y, rfl, hx, hxs, k2, hP2⟩ := hv
        have h26 : (Str.ofString "abcdefghijklmnopqrstuvwxyz").cps.size = 26 := by decide +kernel
        refine ⟨_, rfl, szL (show 2 ≤ 1000000 by decide), fun l hl => ?_⟩
        refine ⟨_, rfl, rfl, .inr ⟨_, rfl, ?_⟩⟩
        have hP3 : Pen (upd H2 l (.lst [.str x, .str "z"])) p c (n + 27) := (hP2.new hl).mono (by omega)
        have k3 : Kp p H (upd H2 l (.lst [.str x, .str "z"])) := k2.trans (Kp.new hl)
        by_cases e3 : V.str x = V.str ""
        · rw [decide_eq_true e3]
          exact ⟨l, _, 1, _, rfl, rfl, SqL.of upd_same, rfl, q _ _ (by decide) (by decide) (by unfold Small; decide +kernel) k3 hP3⟩
        · rw [decide_eq_false e3]
          exact ⟨l, _, 0, _, rfl, rfl, SqL.of upd_same, rfl, q _ _ hx (len_pos fun z => e3 (congrArg V.str z)) hxs k3 hP3⟩
end
end Pf


namespace Pf
open PySem PySem.Spec PyProof.Rows L2
/-! ### tuples stay -/
def TupK (H H' : Hp) : Prop := ∀ b xs, H b = some (.tup xs) → H' b = some (.tup xs)
theorem TupK.refl {H : Hp} : TupK H H := fun _ _ e => e
theorem TupK.trans {H H1 H2 : Hp} (a : TupK H H1) (b : TupK H1 H2) : TupK H H2 := fun c xs e => b c xs (a c xs e)
theorem TupK.of {p c : Addr} {n : Nat} {H H' : Hp} (k : Kp p H H') (hP : Pen H p c n) : TupK H H' := fun b _ e => k b _ (hP.tup e) e
theorem TupK.new {q : Addr} {H : Hp} {o : HO} (h : H q = none) : TupK H (upd H q o) := fun b xs e => by
  rw [upd_ne (ne_of_none e h)]
  exact e
theorem TupK.lst {q : Addr} {H : Hp} {o : HO} {ys : List V} (h : H q = some (.lst ys)) : TupK H (upd H q o) := fun b xs e => by
  rw [upd_ne (ne_of e h (by intro z; cases z))]
  exact e
theorem paired_imp {α β : Type} {R S : α → β → Prop} (h : ∀ a b, R a b → S a b) : ∀ {xs : List α} {ys : List β}, Paired R xs ys → Paired S xs ys
  | _, _, .nil => .nil
  | _, _, .cons r t => .cons (h _ _ r) (paired_imp h t)
theorem paired_get {α β : Type} {R : α → β → Prop} : ∀ {xs : List α} {ys : List β} {i : Nat} {x : α}, Paired R xs ys → xs[i]? = some x → ∃ y, ys[i]? = some y ∧ R x y
  | _, _, _, _, .nil, e => by simp at e
  | _, _, 0, _, .cons r _, e => by
    simp at e
    subst e
    exact ⟨_, rfl, r⟩
  | _, _, i + 1, x, .cons _ t, e => by
    obtain ⟨y, h1, h2⟩ := paired_get (i := i) (x := x) t (by simpa using e)
    exact ⟨y, by simpa using h1, h2⟩
theorem paired_len {α β : Type} {R : α → β → Prop} : ∀ {xs : List α} {ys : List β}, Paired R xs ys → xs.length = ys.length
  | _, _, .nil => rfl
  | _, _, .cons _ t => by rw [List.length_cons, List.length_cons, paired_len t]
/-! ### the parts of rules, as they lie in the heap -/
def PairAt (H : Hp) (v : V) (x : Str × Int) : Prop := ∃ a, v = .ref a ∧ H a = some (.tup [.str x.1, .int x.2])
def StackAt (H : Hp) (v : V) (x : Str × Str × Int) : Prop := ∃ a, v = .ref a ∧ H a = some (.tup [.str x.1, .str x.2.1, .int x.2.2])
def TupOf {α : Type} (R : Hp → V → α → Prop) (H : Hp) (v : V) (xs : List α) : Prop := ∃ a vs, v = .ref a ∧ H a = some (.tup vs) ∧ Paired (R H) vs xs
def Mono {α : Type} (R : Hp → V → α → Prop) : Prop := ∀ H H' v x, TupK H H' → R H v x → R H' v x
theorem PairAt.mono : Mono PairAt := fun H H' v x k ⟨a, e, h⟩ => ⟨a, e, k _ _ h⟩
theorem StackAt.mono : Mono StackAt := fun H H' v x k ⟨a, e, h⟩ => ⟨a, e, k _ _ h⟩
theorem TupOf.mono {α : Type} {R : Hp → V → α → Prop} (m : Mono R) : Mono (TupOf R) := fun H H' v x k ⟨a, vs, e, h, r⟩ => ⟨a, vs, e, k _ _ h, paired_imp (fun _ _ => m _ _ _ _ k) r⟩
def IntAt (_ : Hp) (v : V) (x : Int) : Prop := v = .int x
theorem IntAt.mono : Mono IntAt := fun _ _ _ _ _ e => e
def PrsOk (prs : List (Str × Int)) : Prop := prs.length ≤ 12 ∧ ∀ x ∈ prs, x.1.length = 2 ∧ Small x.1 ∧ -99 ≤ x.2 ∧ x.2 ≤ 99
def StkOk (stk : List (Str × Str × Int)) : Prop := stk.length ≤ 12 ∧ ∀ x ∈ stk, (x.1.length = 2 ∧ Small x.1) ∧ (x.2.1.length = 2 ∧ Small x.2.1) ∧ -99 ≤ x.2.2 ∧ x.2.2 ≤ 99
structure Rl where
  letters : Str
  prs : List (Str × Int)
  span : Int
  loops : List Int
  stk : List (Str × Str × Int)
structure RlOk (r : Rl) : Prop where
  let6 : r.letters.length ≤ 6
  let1 : 1 ≤ r.letters.length
  small : Small r.letters
  prs : PrsOk r.prs
  sp0 : 0 ≤ r.span
  sp3 : r.span ≤ 3
  stk : StkOk r.stk
def RulesAt (H : Hp) (v : V) (r : Rl) : Prop := ∃ a vp vl vs, v = .ref a ∧ H a = some (.tup [.str r.letters, vp, .int r.span, vl, vs]) ∧ TupOf PairAt H vp r.prs ∧ TupOf IntAt H vl r.loops ∧ TupOf StackAt H vs r.stk
theorem RulesAt.mono : Mono RulesAt := fun H H' v x k ⟨a, vp, vl, vs, e, h, h1, h2, h3⟩ => ⟨a, vp, vl, vs, e, k _ _ h, TupOf.mono PairAt.mono _ _ _ _ k h1, TupOf.mono IntAt.mono _ _ _ _ k h2, TupOf.mono StackAt.mono _ _ _ _ k h3⟩
/-- a list that grows at l, l nowhere in H -/
def Grow {α : Type} (R : Hp → V → α → Prop) (Ok : List α → Prop) (H H2 : Hp) (p c l : Addr) (m : Nat) : Prop :=
  ∃ vs xs, H2 l = some (.lst vs) ∧ Paired (R H2) vs xs ∧ Ok xs ∧ Kp p H H2 ∧ Pen H2 p c m
theorem Grow.le {α : Type} {R : Hp → V → α → Prop} {Ok : List α → Prop} {H H2 : Hp} {p c l : Addr} {m m' : Nat} (g : Grow R Ok H H2 p c l m) (h : m ≤ m') : Grow R Ok H H2 p c l m' := by
  obtain ⟨vs, xs, h1, h2, h3, h4, h5⟩ := g
  exact ⟨vs, xs, h1, h2, h3, h4, h5.mono h⟩
section
variable {P : Program} {w : World} {K : PySem.W.Frag} {mg : Str → Option Value} {base : Heap}
abbrev CFew (P : Program) (w : World) (K : PySem.W.Frag) (mg : Str → Option Value) (base : Heap) : Prop := Ca P w K mg base 2 "_law_few" ["_law_pen"] spFew
abbrev CWorth (P : Program) (w : World) (K : PySem.W.Frag) (mg : Str → Option Value) (base : Heap) : Prop := Ca P w K mg base 2 "_law_worth" ["_law_pen"] spWorth
/-! ### pairs -/
abbrev s_law_pairs : Stmt := topS 10
theorem sc_law_pairs : FnScope ["_law_pen", "_law_letters_here", "_law_small", "_law_found", "_law_one", "_law_two"] ["_law_pen", "_law_letters_here", "_law_small"] (defScope s_law_pairs) :=
  ⟨rfl, rfl, rfl, by decide +kernel, rfl, by decide +kernel, by decide +kernel⟩
def spPairs : Sp := fun vs H Q _ => ∃ (p c : Addr) (x : Str) (b : Bool) (n : Nat), vs = [.ref p, .str x, .bl b] ∧ x.length ≤ 6 ∧ Small x ∧ Pen H p c n ∧ n + 216 < 1000000 ∧
  ∀ v prs H', TupOf PairAt H' v prs → PrsOk prs → Kp p H H' → Pen H' p c (n + 216) → Q v H'
theorem ok_pairs {f : Addr} {fd : FuncData} (F : Fun K "_law_pairs" "_law_pairs" s_law_pairs f fd) (c_law_draw : CDraw P w K mg base) (c_law_few : CFew P w K mg base) (c_law_worth : CWorth P w K mg base) (mlen : mg "len" = none) (mint : mg "int" = none) (mtuple : mg "tuple" = none) : FnOk P w K mg base CX0 3 f fd ["_law_pen", "_law_letters_here", "_law_small"] spPairs := by
  refine F.ok sc_law_pairs (fun vs H Q E h => ?_) (fun cdv A outer s H vs Q E hr h => ?_)
  · obtain ⟨p, c, x, b, n, rfl, _⟩ := h
    rfl
  · obtain ⟨p, c, x, b, n, rfl, hx, hxs, hP, hn, q⟩ := h
    refine ⟨_, (pss_cons (ps_set (i := 3) sc_law_pairs.nd rfl (.inl rfl) (pe_lst pa_nil))
      (pss_cons (ps_for PassesOwn.never rfl (pi_str (pv 1)) (pg_name (i := 4) sc_law_pairs.nd rfl (.inl rfl)) (pss_one (ps_for PassesOwn.never rfl (pi_str (pv 1)) (pg_name (i := 5) sc_law_pairs.nd rfl (.inl rfl)) (pss_one (ps_if (PW.pt (pw_and (pt_cmpR op_lt (pe_callB (lenQ K) (by rfl) mlen (by decide +kernel) (pa_cons (pv 3) pa_nil)) pe_int (nomark _)) (pw_and1 (pt_cmpR op_gt (pe_ca c_law_draw (hr.mono (by decide)) (by rfl) (pa_cons (pv 0) (pa_cons pe_int pa_nil))) pe_int (nomark _))))) (pss_one (ps_expr (pe_bm PySem.F.plainAttrs_list PySem.F.slot_list_append PySem.F.type_list_append mt_append (pv 3) (pa_cons (pe_tup (pa_cons (pe_op op_add_str (pv 4) (pv 5)) (pa_cons (pe_ix (ixL K) (pe_lst (pa_cons (pe_ca c_law_few (hr.mono (by decide)) (by rfl) (pa_cons (pv 0) pa_nil)) (pa_cons (pe_ca c_law_worth (hr.mono (by decide)) (by rfl) (pa_cons (pv 0) pa_nil)) pa_nil))) (pe_callTy call_int1 (by rfl) mint (by decide +kernel) (pa_cons (pe_not (pv 2)) pa_nil)) (fun _ _ => rfl)) pa_nil))) pa_nil)))) pss_nil)))))
      (pss_one (ps_ret (pe_callTy (tupleOf K) (by rfl) mtuple (by decide +kernel) (pa_cons (pv 3) pa_nil)))))), ?_⟩
    refine ⟨Nat.zero_le _, fun l hl => ?_⟩
    have nl := hP.ne hl
    refine ⟨_, rfl, _, rfl, for_str (fun i σ H2 => ∃ (y4 y5 : Option V), σ = [some (.ref p), some (.str x), some (.bl b), some (.ref l), y4, y5] ∧ Grow PairAt PrsOk H H2 p c l (n + 36 * i))
      ⟨none, none, rfl, [], [], upd_same, .nil, ⟨by decide, fun x h => by cases h⟩, Kp.new hl, hP.new hl⟩ (fun i ch σ H2 hi hv => ?_) (fun σ H2 hv => ?_)⟩
    · obtain ⟨y4, y5, rfl, hg⟩ := hv
      have hi6 : i < x.length := (Array.getElem?_eq_some_iff.mp hi).1
      refine ⟨_, rfl, _, rfl, for_str (fun j σ H2 => ∃ (y5 : Option V), σ = [some (.ref p), some (.str x), some (.bl b), some (.ref l), some (.str ⟨#[ch]⟩), y5] ∧ Grow PairAt PrsOk H H2 p c l (n + 36 * i + 6 * j))
        ⟨_, rfl, hg⟩ (fun j cj σ H3 hj hv => ?_) (fun σ H3 hv => ?_)⟩
      · obtain ⟨y5, rfl, vs, prs, hL, hPr, hOk, k3, hP3⟩ := hv
        have hj6 : j < x.length := (Array.getElem?_eq_some_iff.mp hj).1
        have hlen := paired_len hPr
        have hok1 := hOk.1
        refine ⟨_, rfl, l, _, rfl, .inl (SqL.of hL), _, _, rfl, rfl, _, rfl, ite2 (fun e1 => ?_) (fun e1 => ?_)⟩
        · have hv12 : vs.length < 12 := by
            have := of_decide_eq_true e1
            omega
          refine ⟨_, rfl, p, c, 3, _, rfl, hP3, by omega, by decide, by decide, fun r4 H4 r4a r4b k4 hP4 => ?_⟩
          have hL4 : H4 l = some (.lst vs) := k4 _ _ nl.1 hL
          refine ⟨_, _, rfl, rfl, _, rfl, ite2 (fun e2 => ?_) (fun e2 => ?_)⟩
          · refine ⟨_, rfl, .inl ⟨rfl, _, SqL.of hL4⟩, _, rfl, _, rfl, _, _, rfl, rfl, szL (show 1 + 1 ≤ 1000000 by decide), _, rfl, p, c, _, rfl, hP4, by omega, fun i5 H5 i5a i5b k5 hP5 => ?_⟩
            refine ⟨_, rfl, p, c, _, rfl, hP5, by omega, fun i6 H6 i6a i6b k6 hP6 => ⟨szL (show 2 ≤ 1000000 by decide), fun d hd => ?_⟩⟩
            have hL6 : H6 l = some (.lst vs) := k6 _ _ nl.1 (k5 _ _ nl.1 hL4)
            obtain ⟨i7, i7a, i7b, hat⟩ : ∃ i7 : Int, -99 ≤ i7 ∧ i7 ≤ 99 ∧ atI [V.int i5, .int i6] (if (!b) = true then 1 else 0) = some (.int i7) := by
              cases b
              · exact ⟨i6, i6a, i6b, rfl⟩
              · exact ⟨i5, i5a, i5b, rfl⟩
            refine ⟨_, rfl, b, rfl, .inr ⟨_, rfl, d, _, _, _, rfl, rfl, SqL.of upd_same, hat, szL (show 2 ≤ 1000000 by decide), fun t ht => ?_⟩⟩
            have nld : l ≠ d := ne_of_none hL6 hd
            have hL7 : (upd H6 d (.lst [V.int i5, .int i6])) l = some (.lst vs) := by
              rw [upd_ne nld]
              exact hL6
            have nlt : l ≠ t := ne_of_none hL7 ht
            have hL8 : (upd (upd H6 d (.lst [V.int i5, .int i6])) t (.tup [.str (⟨#[ch]⟩ ++ ⟨#[cj]⟩), .int i7])) l = some (.lst vs) := by
              rw [upd_ne nlt]
              exact hL7
            refine ⟨l, _, _, rfl, rfl, hL8, szLt (by omega), ?_⟩
            have tk : TupK H3 (upd (upd (upd H6 d (.lst [V.int i5, .int i6])) t (.tup [.str (⟨#[ch]⟩ ++ ⟨#[cj]⟩), .int i7])) l (.lst (vs ++ [.ref t]))) :=
              ((((TupK.of k4 hP3).trans (TupK.of k5 hP4)).trans (TupK.of k6 hP5)).trans ((TupK.new hd).trans (TupK.new ht))).trans (TupK.lst hL8)
            refine ⟨_, rfl, vs ++ [.ref t], prs ++ [(⟨#[ch]⟩ ++ ⟨#[cj]⟩, i7)], upd_same, (paired_imp (fun _ _ => PairAt.mono _ _ _ _ tk) hPr).snoc ⟨t, rfl, ?_⟩, ⟨?_, fun y hy => ?_⟩, ?_, ?_⟩
            · rw [upd_ne nlt.symm, upd_same]
            · rw [List.length_append, List.length_singleton]
              omega
            · rw [List.mem_append, List.mem_singleton] at hy
              rcases hy with hy | rfl
              · exact hOk.2 y hy
              · exact ⟨rfl, (Small.one (hxs.at hi)).app (Small.one (hxs.at hj)), i7a, i7b⟩
            · exact (((((k3.trans k4).trans k5).trans k6).trans (Kp.new hd)).trans (Kp.new ht)).put hl
            · exact ((((hP6.new hd).new ht).put nl.1 nl.2).mono (by omega))
          · exact ⟨_, rfl, vs, prs, hL4, paired_imp (fun _ _ => PairAt.mono _ _ _ _ (TupK.of k4 hP3)) hPr, hOk, k3.trans k4, hP4.mono (by omega)⟩
        · exact ⟨_, rfl, vs, prs, hL, hPr, hOk, k3, hP3.mono (by omega)⟩
      · obtain ⟨y5, rfl, hg⟩ := hv
        have hsz : x.cps.size ≤ 6 := hx
        exact ⟨_, _, rfl, hg.le (by omega)⟩
    · obtain ⟨y4, y5, rfl, vs, prs, hL, hPr, hOk, k3, hP3⟩ := hv
      have hsz : x.cps.size ≤ 6 := hx
      refine ⟨_, rfl, l, _, rfl, .inl ⟨SqL.of hL, fun t ht => ?_⟩⟩
      exact q _ prs _ ⟨t, vs, rfl, upd_same, paired_imp (fun _ _ => PairAt.mono _ _ _ _ (TupK.new ht)) hPr⟩ hOk (k3.trans (Kp.new ht)) ((hP3.new ht).mono (by omega))
end
end Pf


namespace Pf
open PySem PySem.Spec PyProof.Rows L2
section
variable {P : Program} {w : World} {K : PySem.W.Frag} {mg : Str → Option Value} {base : Heap}
/-! ### stacks -/
abbrev s_law_stacks : Stmt := topS 11
theorem sc_law_stacks : FnScope ["_law_pen", "_law_pairs_here", "_law_small", "_law_found", "_law_one", "_law_two"] ["_law_pen", "_law_pairs_here", "_law_small"] (defScope s_law_stacks) :=
  ⟨rfl, rfl, rfl, by decide +kernel, rfl, by decide +kernel, by decide +kernel⟩
def spStacks : Sp := fun vs H Q _ => ∃ (p c : Addr) (v : V) (prs : List (Str × Int)) (b : Bool) (n : Nat), vs = [.ref p, v, .bl b] ∧ TupOf PairAt H v prs ∧ PrsOk prs ∧ Pen H p c n ∧ n + 864 < 1000000 ∧
  ∀ v' stk H', TupOf StackAt H' v' stk → StkOk stk → Kp p H H' → Pen H' p c (n + 864) → Q v' H'
theorem ok_stacks {f : Addr} {fd : FuncData} (F : Fun K "_law_stacks" "_law_stacks" s_law_stacks f fd) (c_law_draw : CDraw P w K mg base) (c_law_few : CFew P w K mg base) (c_law_worth : CWorth P w K mg base) (mlen : mg "len" = none) (mint : mg "int" = none) (mtuple : mg "tuple" = none) : FnOk P w K mg base CX0 3 f fd ["_law_pen", "_law_pairs_here", "_law_small"] spStacks := by
  refine F.ok sc_law_stacks (fun vs H Q E h => ?_) (fun cdv A outer s H vs Q E hr h => ?_)
  · obtain ⟨p, c, v, prs, b, n, rfl, _⟩ := h
    rfl
  · obtain ⟨p, c, v, prs, b, n, rfl, ⟨a, us, rfl, hA, hR⟩, hprs, hP, hn, q⟩ := h
    refine ⟨_, (pss_cons (ps_set (i := 3) sc_law_stacks.nd rfl (.inl rfl) (pe_lst pa_nil))
      (pss_cons (ps_for PassesOwn.never rfl (pi_tup (pv 1)) (pg_name (i := 4) sc_law_stacks.nd rfl (.inl rfl)) (pss_one (ps_for PassesOwn.never rfl (pi_tup (pv 1)) (pg_name (i := 5) sc_law_stacks.nd rfl (.inl rfl)) (pss_one (ps_if (PW.pt (pw_and (pt_cmpR op_lt (pe_callB (lenQ K) (by rfl) mlen (by decide +kernel) (pa_cons (pv 3) pa_nil)) pe_int (nomark _)) (pw_and1 (pt_cmpR op_eq (pe_ca c_law_draw (hr.mono (by decide)) (by rfl) (pa_cons (pv 0) (pa_cons pe_int pa_nil))) pe_int (nomark _))))) (pss_one (ps_expr (pe_bm PySem.F.plainAttrs_list PySem.F.slot_list_append PySem.F.type_list_append mt_append (pv 3) (pa_cons (pe_tup (pa_cons (pe_ix (ixT K) (pv 4) pe_int (fun _ _ => rfl)) (pa_cons (pe_ix (ixT K) (pv 5) pe_int (fun _ _ => rfl)) (pa_cons (pe_ix (ixL K) (pe_lst (pa_cons (pe_ca c_law_few (hr.mono (by decide)) (by rfl) (pa_cons (pv 0) pa_nil)) (pa_cons (pe_ca c_law_worth (hr.mono (by decide)) (by rfl) (pa_cons (pv 0) pa_nil)) pa_nil))) (pe_callTy call_int1 (by rfl) mint (by decide +kernel) (pa_cons (pe_not (pv 2)) pa_nil)) (fun _ _ => rfl)) pa_nil)))) pa_nil)))) pss_nil)))))
      (pss_one (ps_ret (pe_callTy (tupleOf K) (by rfl) mtuple (by decide +kernel) (pa_cons (pv 3) pa_nil)))))), ?_⟩
    refine ⟨Nat.zero_le _, fun l hl => ?_⟩
    have nl := hP.ne hl
    have hus := paired_len hR
    have hpl := hprs.1
    have hAp : a ≠ p := hP.tup hA
    refine ⟨_, rfl, a, rfl, ⟨_, SqT.of (Kp.new (p := p) hl _ _ hAp hA)⟩, for_tup (xs := us) (fun i σ H2 => ∃ (y4 y5 : Option V), σ = [some (.ref p), some (.ref a), some (.bl b), some (.ref l), y4, y5] ∧ Grow StackAt StkOk H H2 p c l (n + 72 * i))
      ⟨none, none, rfl, [], [], upd_same, .nil, ⟨by decide, fun x h => by cases h⟩, Kp.new hl, hP.new hl⟩ (fun i σ H2 _ ⟨y4, y5, _, vs, xs, _, _, _, k, _⟩ => SqT.of (k _ _ hAp hA)) (fun i u σ H2 hi hv => ?_) (fun σ H2 hv => ?_)⟩
    · obtain ⟨y4, y5, rfl, hg⟩ := hv
      have hi12 : i < us.length := (List.getElem?_eq_some_iff.mp hi).1
      obtain ⟨⟨x1, w1⟩, hx1, a1, rfl, ha1⟩ := paired_get hR hi
      have hx1 := hprs.2 _ (List.mem_of_getElem? hx1)
      have k2 : Kp p H H2 := by
        obtain ⟨vs, xs, _, _, _, k, _⟩ := hg
        exact k
      refine ⟨_, rfl, a, rfl, ⟨_, SqT.of (k2 _ _ hAp hA)⟩, for_tup (xs := us) (fun j σ H2 => ∃ (y5 : Option V), σ = [some (.ref p), some (.ref a), some (.bl b), some (.ref l), some (.ref a1), y5] ∧ Grow StackAt StkOk H H2 p c l (n + 72 * i + 6 * j))
        ⟨_, rfl, hg⟩ (fun i σ H2 _ ⟨y5, _, vs, xs, _, _, _, k, _⟩ => SqT.of (k _ _ hAp hA)) (fun j u2 σ H3 hj hv => ?_) (fun σ H3 hv => ?_)⟩
      · obtain ⟨y5, rfl, vs, stk, hL, hPr, hOk, k3, hP3⟩ := hv
        have hj12 : j < us.length := (List.getElem?_eq_some_iff.mp hj).1
        obtain ⟨⟨x2, w2⟩, hx2, a2, rfl, ha2⟩ := paired_get hR hj
        have hx2 := hprs.2 _ (List.mem_of_getElem? hx2)
        have hlen := paired_len hPr
        have hok1 := hOk.1
        refine ⟨_, rfl, l, _, rfl, .inl (SqL.of hL), _, _, rfl, rfl, _, rfl, ite2 (fun e1 => ?_) (fun e1 => ?_)⟩
        · have hv12 : vs.length < 12 := by
            have := of_decide_eq_true e1
            omega
          refine ⟨_, rfl, p, c, 6, _, rfl, hP3, by omega, by decide, by decide, fun r4 H4 r4a r4b k4 hP4 => ?_⟩
          have hL4 : H4 l = some (.lst vs) := k4 _ _ nl.1 hL
          have k34 := k3.trans k4
          have ha14 : H4 a1 = some (.tup [.str x1, .int w1]) := k34 _ _ (hP.tup ha1) ha1
          have ha24 : H4 a2 = some (.tup [.str x2, .int w2]) := k34 _ _ (hP.tup ha2) ha2
          refine ⟨rfl, _, rfl, ite2 (fun e2 => ?_) (fun e2 => ?_)⟩
          · refine ⟨_, rfl, .inl ⟨rfl, _, SqL.of hL4⟩, _, rfl, a1, _, 0, _, rfl, rfl, SqT.of ha14, rfl, _, rfl, a2, _, 0, _, rfl, rfl, SqT.of ha24, rfl, _, rfl, p, c, _, rfl, hP4, by omega, fun i5 H5 i5a i5b k5 hP5 => ?_⟩
            refine ⟨_, rfl, p, c, _, rfl, hP5, by omega, fun i6 H6 i6a i6b k6 hP6 => ⟨szL (show 2 ≤ 1000000 by decide), fun d hd => ?_⟩⟩
            have hL6 : H6 l = some (.lst vs) := k6 _ _ nl.1 (k5 _ _ nl.1 hL4)
            obtain ⟨i7, i7a, i7b, hat⟩ : ∃ i7 : Int, -99 ≤ i7 ∧ i7 ≤ 99 ∧ atI [V.int i5, .int i6] (if (!b) = true then 1 else 0) = some (.int i7) := by
              cases b
              · exact ⟨i6, i6a, i6b, rfl⟩
              · exact ⟨i5, i5a, i5b, rfl⟩
            refine ⟨_, rfl, b, rfl, .inr ⟨_, rfl, d, _, _, _, rfl, rfl, SqL.of upd_same, hat, szL (show 3 ≤ 1000000 by decide), fun t ht => ?_⟩⟩
            have nld : l ≠ d := ne_of_none hL6 hd
            have hL7 : (upd H6 d (.lst [V.int i5, .int i6])) l = some (.lst vs) := by
              rw [upd_ne nld]
              exact hL6
            have nlt : l ≠ t := ne_of_none hL7 ht
            have hL8 : (upd (upd H6 d (.lst [V.int i5, .int i6])) t (.tup [.str x1, .str x2, .int i7])) l = some (.lst vs) := by
              rw [upd_ne nlt]
              exact hL7
            refine ⟨l, _, _, rfl, rfl, hL8, szLt (by omega), ?_⟩
            have tk : TupK H3 (upd (upd (upd H6 d (.lst [V.int i5, .int i6])) t (.tup [.str x1, .str x2, .int i7])) l (.lst (vs ++ [.ref t]))) :=
              ((((TupK.of k4 hP3).trans (TupK.of k5 hP4)).trans (TupK.of k6 hP5)).trans ((TupK.new hd).trans (TupK.new ht))).trans (TupK.lst hL8)
            refine ⟨_, rfl, vs ++ [.ref t], stk ++ [(x1, x2, i7)], upd_same, (paired_imp (fun _ _ => StackAt.mono _ _ _ _ tk) hPr).snoc ⟨t, rfl, ?_⟩, ⟨?_, fun y hy => ?_⟩, ?_, ?_⟩
            · rw [upd_ne nlt.symm, upd_same]
            · rw [List.length_append, List.length_singleton]
              omega
            · rw [List.mem_append, List.mem_singleton] at hy
              rcases hy with hy | rfl
              · exact hOk.2 y hy
              · exact ⟨⟨hx1.1, hx1.2.1⟩, ⟨hx2.1, hx2.2.1⟩, i7a, i7b⟩
            · exact (((((k3.trans k4).trans k5).trans k6).trans (Kp.new hd)).trans (Kp.new ht)).put hl
            · exact ((((hP6.new hd).new ht).put nl.1 nl.2).mono (by omega))
          · exact ⟨_, rfl, vs, stk, hL4, paired_imp (fun _ _ => StackAt.mono _ _ _ _ (TupK.of k4 hP3)) hPr, hOk, k3.trans k4, hP4.mono (by omega)⟩
        · exact ⟨_, rfl, vs, stk, hL, hPr, hOk, k3, hP3.mono (by omega)⟩
      · obtain ⟨y5, rfl, hg⟩ := hv
        exact ⟨_, _, rfl, hg.le (by omega)⟩
    · obtain ⟨y4, y5, rfl, vs, stk, hL, hPr, hOk, k3, hP3⟩ := hv
      refine ⟨_, rfl, l, _, rfl, .inl ⟨SqL.of hL, fun t ht => ?_⟩⟩
      exact q _ stk _ ⟨t, vs, rfl, upd_same, paired_imp (fun _ _ => StackAt.mono _ _ _ _ (TupK.new ht)) hPr⟩ hOk (k3.trans (Kp.new ht)) ((hP3.new ht).mono (by omega))
/-! ### rules -/
abbrev CLetters (P : Program) (w : World) (K : PySem.W.Frag) (mg : Str → Option Value) (base : Heap) : Prop := Ca P w K mg base 2 "_law_letters" ["_law_pen"] spLetters
abbrev CPairs (P : Program) (w : World) (K : PySem.W.Frag) (mg : Str → Option Value) (base : Heap) : Prop := Ca P w K mg base 3 "_law_pairs" ["_law_pen", "_law_letters_here", "_law_small"] spPairs
abbrev CStacks (P : Program) (w : World) (K : PySem.W.Frag) (mg : Str → Option Value) (base : Heap) : Prop := Ca P w K mg base 3 "_law_stacks" ["_law_pen", "_law_pairs_here", "_law_small"] spStacks
abbrev s_law_rules : Stmt := topS 12
theorem sc_law_rules : FnScope ["_law_pen", "_law_small", "_law_letters_here", "_law_pairs_here", "_law_loops", "_law_apart", "_law_k"] ["_law_pen", "_law_small"] (defScope s_law_rules) :=
  ⟨rfl, rfl, rfl, by decide +kernel, rfl, by decide +kernel, by decide +kernel⟩
def spRules : Sp := fun vs H Q _ => ∃ (p c : Addr) (b : Bool) (n : Nat), vs = [.ref p, .bl b] ∧ Pen H p c n ∧ n + 1200 < 1000000 ∧
  ∀ v r H', RulesAt H' v r → RlOk r → Kp p H H' → Pen H' p c (n + 1200) → Q v H'
theorem paired_ints {H : Hp} : ∀ ns : List Int, Paired (IntAt H) (ns.map V.int) ns
  | [] => .nil
  | _ :: r => .cons rfl (paired_ints r)
theorem ok_rules {f : Addr} {fd : FuncData} (F : Fun K "_law_rules" "_law_rules" s_law_rules f fd) (c_law_draw : CDraw P w K mg base) (c_law_few : CFew P w K mg base) (c_law_worth : CWorth P w K mg base) (c_law_letters : CLetters P w K mg base) (c_law_pairs : CPairs P w K mg base) (c_law_stacks : CStacks P w K mg base)
    (mint : mg "int" = none) (mtuple : mg "tuple" = none) (mrange : mg "range" = none) : FnOk P w K mg base CX0 4 f fd ["_law_pen", "_law_small"] spRules := by
  refine F.ok sc_law_rules (fun vs H Q E h => ?_) (fun cdv A outer s H vs Q E hr h => ?_)
  · obtain ⟨p, c, b, n, rfl, _⟩ := h
    rfl
  · obtain ⟨p, c, b, n, rfl, hP, hn, q⟩ := h
    refine ⟨_, (pss_cons (ps_set (i := 2) sc_law_rules.nd rfl (.inl rfl) (pe_ca c_law_letters (hr.mono (by decide)) (by rfl) (pa_cons (pv 0) pa_nil)))
      (pss_cons (ps_set (i := 3) sc_law_rules.nd rfl (.inl rfl) (pe_ca c_law_pairs (hr.mono (by decide)) (by rfl) (pa_cons (pv 0) (pa_cons (pv 2) (pa_cons (pv 1) pa_nil)))))
      (pss_cons (ps_set (i := 4) sc_law_rules.nd rfl (.inl rfl) (pe_callTy (tupleOf K) (by rfl) mtuple (by decide +kernel) (pa_cons (pe_lc (own := [("_law_k", 6)]) (g := gName 6) (by rfl) sc_law_rules.nd (pi_range1 (by rfl) mrange (pa_cons pe_int pa_nil)) (blkOk_by (own := [("_law_k", 6)]) (N := ["_law_pen", "_law_small", "_law_letters_here", "_law_pairs_here", "_law_loops", "_law_apart", "_law_k"]) (sc := defScope s_law_rules) (by decide +kernel)) (fun _ _ _ _ _ => (pg_name (i := 6) sc_law_rules.nd rfl (.inl rfl))) (fun _ _ _ _ _ => pts_nil) (fun _ _ _ _ _ => (pe_ix (ixL K) (pe_lst (pa_cons (pe_ca c_law_few (hr.mono (by decide)) (by rfl) (pa_cons (pv 0) pa_nil)) (pa_cons (pe_ca c_law_worth (hr.mono (by decide)) (by rfl) (pa_cons (pv 0) pa_nil)) pa_nil))) (pe_callTy call_int1 (by rfl) mint (by decide +kernel) (pa_cons (pe_not (pv 1)) pa_nil)) (fun _ _ => rfl)))) pa_nil)))
      (pss_cons (ps_if (pt_cmpR op_eq (pe_ca c_law_draw (hr.mono (by decide)) (by rfl) (pa_cons (pv 0) (pa_cons pe_int pa_nil))) pe_int (nomark _)) (pss_one (ps_set (i := 4) sc_law_rules.nd rfl (.inl rfl) (pe_tup (pa_cons pe_int (pa_cons pe_int (pa_cons pe_int (pa_cons pe_int (pa_cons pe_int (pa_cons pe_int (pa_cons pe_int (pa_cons pe_int (pa_cons pe_int pa_nil)))))))))))) pss_nil)
      (pss_cons (ps_set (i := 5) sc_law_rules.nd rfl (.inl rfl) (pe_ix (ixL K) (pe_lst (pa_cons pe_int (pa_cons pe_int (pa_cons pe_int (pa_cons (pe_ca c_law_draw (hr.mono (by decide)) (by rfl) (pa_cons (pv 0) (pa_cons pe_int pa_nil))) pa_nil))))) (pe_ca c_law_draw (hr.mono (by decide)) (by rfl) (pa_cons (pv 0) (pa_cons pe_int pa_nil))) (fun _ _ => rfl)))
      (pss_one (ps_ret (pe_tup (pa_cons (pv 2) (pa_cons (pv 3) (pa_cons (pv 5) (pa_cons (pv 4) (pa_cons (pe_ca c_law_stacks (hr.mono (by decide)) (by rfl) (pa_cons (pv 0) (pa_cons (pv 3) (pa_cons (pv 1) pa_nil)))) pa_nil))))))))))))), ?_⟩
    refine ⟨_, rfl, p, c, n, rfl, hP, by omega, fun x H1 hx hx1 hxs k1 hP1 => ?_⟩
    refine ⟨_, rfl, _, rfl, _, rfl, p, c, x, b, _, rfl, hx, hxs, hP1, by omega, fun v2 prs H2 h2 ok2 k2 hP2 => ?_⟩
    refine ⟨9, rfl, by decide, by decide, fun D hD => lc_range (lo := 0) (n := 9) (fun i H3 => ∃ ns : List Int, ns.length = i ∧ H3 D = some (.lst (ns.map V.int)) ∧ Kp p H2 H3 ∧ Pen H3 p c (n + 27 + 216 + 5 * i)) ⟨[], rfl, upd_same, Kp.new hD, hP2.new hD⟩ (fun i H3 hi hv => ?_) (fun H3 hv => ?_)⟩
    · obtain ⟨ns, hns, hL, k3, hP3⟩ := hv
      refine ⟨rfl, _, rfl, p, c, _, rfl, hP3, by omega, fun i5 H5 i5a i5b k5 hP5 => ?_⟩
      refine ⟨_, rfl, p, c, _, rfl, hP5, by omega, fun i6 H6 i6a i6b k6 hP6 => ⟨szL (show 2 ≤ 1000000 by decide), fun d hd => ?_⟩⟩
      have nD := hP2.ne hD
      have hL6 : H6 D = some (.lst (ns.map V.int)) := k6 _ _ nD.1 (k5 _ _ nD.1 hL)
      obtain ⟨i7, i7a, i7b, hat⟩ : ∃ i7 : Int, -99 ≤ i7 ∧ i7 ≤ 99 ∧ atI [V.int i5, .int i6] (if (!b) = true then 1 else 0) = some (.int i7) := by
        cases b
        · exact ⟨i6, i6a, i6b, rfl⟩
        · exact ⟨i5, i5a, i5b, rfl⟩
      have nDd : D ≠ d := ne_of_none hL6 hd
      have hL7 : (upd H6 d (.lst [V.int i5, .int i6])) D = some (.lst (ns.map V.int)) := by
        rw [upd_ne nDd]
        exact hL6
      refine ⟨_, rfl, b, rfl, .inr ⟨_, rfl, d, _, _, _, rfl, rfl, SqL.of upd_same, hat, _, hL7, szLt ?_, ns ++ [i7], ?_, ?_, ?_, ?_⟩⟩
      · rw [List.length_map]
        omega
      · rw [List.length_append, List.length_singleton]
        omega
      · rw [upd_same, List.map_append]
        rfl
      · exact (((k3.trans k5).trans k6).trans (Kp.new hd)).put hD
      · exact ((hP6.new hd).put nD.1 nD.2).mono (by omega)
    · obtain ⟨ns, hns, hL, k3, hP3⟩ := hv
      refine ⟨D, _, rfl, .inl ⟨SqL.of hL, fun t ht => ?_⟩⟩
      have hP3' := hP3.new (o := .tup (ns.map V.int)) ht
      refine ⟨_, rfl, p, c, 3, _, rfl, hP3', by omega, by decide, by decide, fun r4 H4 r4a r4b k4 hP4 => ⟨rfl, _, rfl, ite2 (fun e => ?_) (fun e => ?_)⟩⟩
      · refine ⟨szL (show 9 ≤ 1000000 by decide), fun t2 ht2 => ?_⟩
        have hV5 : TupOf IntAt (upd H4 t2 (.tup [.int 0, .int 0, .int 0, .int 0, .int 0, .int 0, .int 0, .int 0, .int 0])) (.ref t2) [0, 0, 0, 0, 0, 0, 0, 0, 0] :=
          ⟨t2, _, rfl, upd_same, .cons rfl (.cons rfl (.cons rfl (.cons rfl (.cons rfl (.cons rfl (.cons rfl (.cons rfl (.cons rfl .nil))))))))⟩
        have k5 := ((k3.trans (Kp.new (o := .tup (ns.map V.int)) ht)).trans k4).trans (Kp.new (o := .tup [.int 0, .int 0, .int 0, .int 0, .int 0, .int 0, .int 0, .int 0, .int 0]) ht2)
        have hP5 := hP4.new (o := .tup [.int 0, .int 0, .int 0, .int 0, .int 0, .int 0, .int 0, .int 0, .int 0]) ht2
        refine ⟨_, rfl, p, c, 4, _, rfl, hP5, by omega, by decide, by decide, fun r6 H6 r6a r6b k6 hP6 => ⟨szL (show 4 ≤ 1000000 by decide), fun d hd => ?_⟩⟩
        refine ⟨_, rfl, p, c, 4, _, rfl, hP6.new hd, by omega, by decide, by decide, fun r7 H7 r7a r7b k7 hP7 => ?_⟩
        obtain ⟨z, hz, hat⟩ := atI_ints (ns := [0, 0, 1, r6]) r7a r7b
        have hz2 : 0 ≤ z ∧ z ≤ 3 := by
          simp only [List.mem_cons, List.not_mem_nil, or_false] at hz
          omega
        refine ⟨d, _, r7, _, rfl, rfl, SqL.of (k7 _ _ (hP6.ne hd).1 upd_same), hat, ?_⟩
        have k7' := (k5.trans k6).trans ((Kp.new hd).trans k7)
        refine ⟨_, rfl, _, rfl, _, rfl, _, rfl, _, rfl, _, rfl, _, rfl, p, c, v2, prs, b, _, rfl, TupOf.mono PairAt.mono _ _ _ _ (TupK.of k7' hP2) h2, ok2, hP7, by omega, fun v8 stk H8 h8 ok8 k8 hP8 => ⟨szL (show 5 ≤ 1000000 by decide), fun t9 ht9 => ?_⟩⟩
        have k9 := k8.trans (Kp.new (o := .tup [.str x, v2, .int z, .ref t2, v8]) ht9)
        refine q _ ⟨x, prs, z, _, stk⟩ _ ⟨t9, v2, _, v8, rfl, upd_same, TupOf.mono PairAt.mono _ _ _ _ (TupK.of (k7'.trans k9) hP2) h2, TupOf.mono IntAt.mono _ _ _ _ (TupK.of ((k6.trans ((Kp.new hd).trans k7)).trans k9) hP5) hV5, TupOf.mono StackAt.mono _ _ _ _ (TupK.new ht9) h8⟩ ⟨hx, hx1, hxs, ok2, hz2.1, hz2.2, ok8⟩ (((k1.trans k2).trans k7').trans k9) ((hP8.new ht9).mono (by omega))
      · have hV5 : TupOf IntAt H4 (.ref t) ns := ⟨t, ns.map V.int, rfl, k4 _ _ (hP3.ne ht).1 upd_same, paired_ints ns⟩
        have k5 := (k3.trans (Kp.new (o := .tup (ns.map V.int)) ht)).trans k4
        have hP5 := hP4
        refine ⟨_, rfl, p, c, 4, _, rfl, hP5, by omega, by decide, by decide, fun r6 H6 r6a r6b k6 hP6 => ⟨szL (show 4 ≤ 1000000 by decide), fun d hd => ?_⟩⟩
        refine ⟨_, rfl, p, c, 4, _, rfl, hP6.new hd, by omega, by decide, by decide, fun r7 H7 r7a r7b k7 hP7 => ?_⟩
        obtain ⟨z, hz, hat⟩ := atI_ints (ns := [0, 0, 1, r6]) r7a r7b
        have hz2 : 0 ≤ z ∧ z ≤ 3 := by
          simp only [List.mem_cons, List.not_mem_nil, or_false] at hz
          omega
        refine ⟨d, _, r7, _, rfl, rfl, SqL.of (k7 _ _ (hP6.ne hd).1 upd_same), hat, ?_⟩
        have k7' := (k5.trans k6).trans ((Kp.new hd).trans k7)
        refine ⟨_, rfl, _, rfl, _, rfl, _, rfl, _, rfl, _, rfl, _, rfl, p, c, v2, prs, b, _, rfl, TupOf.mono PairAt.mono _ _ _ _ (TupK.of k7' hP2) h2, ok2, hP7, by omega, fun v8 stk H8 h8 ok8 k8 hP8 => ⟨szL (show 5 ≤ 1000000 by decide), fun t9 ht9 => ?_⟩⟩
        have k9 := k8.trans (Kp.new (o := .tup [.str x, v2, .int z, .ref t, v8]) ht9)
        refine q _ ⟨x, prs, z, _, stk⟩ _ ⟨t9, v2, _, v8, rfl, upd_same, TupOf.mono PairAt.mono _ _ _ _ (TupK.of (k7'.trans k9) hP2) h2, TupOf.mono IntAt.mono _ _ _ _ (TupK.of ((k6.trans ((Kp.new hd).trans k7)).trans k9) hP5) hV5, TupOf.mono StackAt.mono _ _ _ _ (TupK.new ht9) h8⟩ ⟨hx, hx1, hxs, ok2, hz2.1, hz2.2, ok8⟩ (((k1.trans k2).trans k7').trans k9) ((hP8.new ht9).mono (by omega))
end
end Pf


namespace Pf
open PySem PySem.Spec PyProof.Rows L2
/-! ### worths of pairs and stacks: what is asked -/
def pwV : List (Str × Int) → Str → V
  | [], _ => .non
  | (t, x) :: r, b => if t = b then .int x else pwV r b
theorem pwV_at {prs : List (Str × Int)} {i : Nat} {t : Str} {x : Int} (h : prs[i]? = some (t, x)) (b : Str) : pwV (prs.drop i) b = if t = b then .int x else pwV (prs.drop (i + 1)) b := by
  obtain ⟨hi, e⟩ := List.getElem?_eq_some_iff.mp h
  rw [List.drop_eq_getElem_cons hi, e, pwV]
theorem pwV_end {prs : List (Str × Int)} {i : Nat} (h : prs.length ≤ i) (b : Str) : pwV (prs.drop i) b = .non := by
  rw [List.drop_eq_nil_of_le h, pwV]
theorem TupK.ext {H H' : Hp} (k : Ext H H') : TupK H H' := fun b _ e => k b _ e
section
variable {P : Program} {w : World} {K : PySem.W.Frag} {mg : Str → Option Value} {base : Heap}
abbrev s_pair_worth : Stmt := topS 1
theorem sc_pair_worth : FnScope ["rules", "both", "text", "worth"] ["rules", "both"] (defScope s_pair_worth) :=
  ⟨rfl, rfl, rfl, by decide +kernel, rfl, by decide +kernel, by decide +kernel⟩
def spPW : Sp := fun vs H Q _ => ∃ (v : V) (r : Rl) (b : Str), vs = [v, .str b] ∧ RulesAt H v r ∧ Q (pwV r.prs b) H
theorem ok_pw {f : Addr} {fd : FuncData} {k : Nat} (F : Fun K "pair_worth" "pair_worth" s_pair_worth f fd) : FnOk P w K mg base CX0 (k + 1) f fd ["rules", "both"] spPW := by
  refine F.ok sc_pair_worth (fun vs H Q E h => ?_) (fun cdv A outer s H vs Q E hr h => ?_)
  · obtain ⟨v, r, b, rfl, _⟩ := h
    rfl
  · obtain ⟨v, r, b, rfl, ⟨a, vp, vl, vs, rfl, hA, ⟨ap, us, rfl, hp, hR⟩, _, _⟩, q⟩ := h
    refine ⟨_, (pss_cons (ps_for PassesOwn.never rfl (pi_tup (pe_ix (ixT K) (pv 0) pe_int (fun _ _ => rfl))) (pg_tup rfl (pgs_cons (pg_name (i := 2) sc_pair_worth.nd rfl (.inl rfl)) (pgs_cons (pg_name (i := 3) sc_pair_worth.nd rfl (.inl rfl)) pgs_nil))) (pss_one (ps_if (pt_cmpR op_eq (pv 2) (pv 1) (nomark _)) (pss_one (ps_ret (pv 3))) pss_nil)))
      (pss_one (ps_ret pe_non))), ?_⟩
    have hlen := paired_len hR
    refine ⟨_, rfl, a, _, 1, _, rfl, rfl, SqT.of hA, rfl, ap, rfl, ⟨_, SqT.of hp⟩, for_tup (xs := us) (fun i σ H2 => ∃ (y2 y3 : Option V), σ = [some (.ref a), some (.str b), y2, y3] ∧ H2 = H ∧ pwV (r.prs.drop i) b = pwV r.prs b)
      ⟨none, none, rfl, rfl, rfl⟩ (fun i σ H2 _ ⟨y2, y3, _, e, _⟩ => SqT.of (by rw [e]; exact hp)) (fun i u σ H2 hi hv => ?_) (fun σ H2 hv => ?_)⟩
    · obtain ⟨y2, y3, rfl, rfl, hd⟩ := hv
      obtain ⟨⟨t, x⟩, hx, a1, rfl, ha1⟩ := paired_get hR hi
      rw [pwV_at hx] at hd
      refine ⟨a1, _, rfl, SqT.of ha1, rfl, _, _, rfl, _, _, rfl, rfl, ?_⟩
      refine ⟨_, rfl, _, rfl, rfl, _, rfl, ite2 (fun e => ?_) (fun e => ?_)⟩
      · have e2 : t = b := V.str.inj (of_decide_eq_true e)
        rw [if_pos e2] at hd
        refine ⟨_, rfl, ?_⟩
        show Q (.int x) _
        rw [hd]
        exact q
      · have e2 : ¬ t = b := fun z => e (decide_eq_true (congrArg V.str z))
        rw [if_neg e2] at hd
        exact ⟨_, _, rfl, rfl, hd⟩
    · obtain ⟨y2, y3, rfl, rfl, hd⟩ := hv
      rw [pwV_end (by omega)] at hd
      show Q .non _
      rw [hd]
      exact q
end
end Pf


namespace Pf
open PySem PySem.Spec PyProof.Rows L2
/-! ### the text of two places, and who may pair: what is asked -/
def sgn (x : Str) (i : Int) : Str := ⟨#[x.cps.toList.getD i.toNat 0]⟩
theorem sgn_at {x : Str} {i : Int} (h0 : 0 ≤ i) (h1 : i < x.length) : atI x.cps.toList i = some (x.cps.toList.getD i.toNat 0) := by
  have h2 : i < x.cps.toList.length := by
    rw [Array.length_toList]
    exact h1
  rw [atI_get h0 h2, List.getD_eq_getElem?_getD, List.getElem?_eq_getElem (by omega)]
  rfl
def mpB (r : Rl) (x : Str) (i j : Int) : Bool := decide (0 ≤ i ∧ i < j ∧ j < x.length) && (decide (r.span ≤ j - i - 1) && !decide (pwV r.prs (sgn x i ++ sgn x j) = .non))
section
variable {P : Program} {w : World} {K : PySem.W.Frag} {mg : Str → Option Value} {base : Heap}
abbrev s_text_of : Stmt := topS 3
theorem sc_text_of : FnScope ["string", "pair"] ["string", "pair"] (defScope s_text_of) :=
  ⟨rfl, rfl, rfl, by decide +kernel, rfl, by decide +kernel, by decide +kernel⟩
def spTextOf : Sp := fun vs H Q _ => ∃ (x : Str) (t : Addr) (i j : Int), vs = [.str x, .ref t] ∧ H t = some (.tup [.int i, .int j]) ∧ x.length ≤ 1000 ∧ 0 ≤ i ∧ i < x.length ∧ 0 ≤ j ∧ j < x.length ∧ Q (.str (sgn x i ++ sgn x j)) H
theorem ok_text_of {f : Addr} {fd : FuncData} {k : Nat} (F : Fun K "text_of" "text_of" s_text_of f fd) : FnOk P w K mg base CX0 (k + 1) f fd ["string", "pair"] spTextOf := by
  refine F.ok sc_text_of (fun vs H Q E h => ?_) (fun cdv A outer s H vs Q E hr h => ?_)
  · obtain ⟨x, t, i, j, rfl, _⟩ := h
    rfl
  · obtain ⟨x, t, i, j, rfl, hT, hx, i0, i1, j0, j1, q⟩ := h
    refine ⟨_, (pss_one (ps_ret (pe_op op_add_str (pe_ix ix_str (pv 0) (pe_ix (ixT K) (pv 1) pe_int (fun _ _ => rfl)) (fun _ _ => rfl)) (pe_ix ix_str (pv 0) (pe_ix (ixT K) (pv 1) pe_int (fun _ _ => rfl)) (fun _ _ => rfl))))), ?_⟩
    refine ⟨_, rfl, _, rfl, t, _, 0, _, rfl, rfl, SqT.of hT, rfl, x, i, _, rfl, rfl, szL (by omega), sgn_at i0 i1, ?_⟩
    refine ⟨_, rfl, _, rfl, t, _, 1, _, rfl, rfl, SqT.of hT, rfl, x, j, _, rfl, rfl, szL (by omega), sgn_at j0 j1, ?_⟩
    exact ⟨_, _, rfl, rfl, szL (show 1 + 1 ≤ 1000000 by decide), q⟩
abbrev CTextOf (P : Program) (w : World) (K : PySem.W.Frag) (mg : Str → Option Value) (base : Heap) : Prop := Ca P w K mg base 1 "text_of" ["string", "pair"] spTextOf
abbrev CPW (P : Program) (w : World) (K : PySem.W.Frag) (mg : Str → Option Value) (base : Heap) : Prop := Ca P w K mg base 1 "pair_worth" ["rules", "both"] spPW
abbrev s_may_pair : Stmt := topS 4
theorem sc_may_pair : FnScope ["rules", "string", "i", "j"] ["rules", "string", "i", "j"] (defScope s_may_pair) :=
  ⟨rfl, rfl, rfl, by decide +kernel, rfl, by decide +kernel, by decide +kernel⟩
def spMP : Sp := fun vs H Q _ => ∃ (v : V) (r : Rl) (x : Str) (i j : Int), vs = [v, .str x, .int i, .int j] ∧ RulesAt H v r ∧ x.length ≤ 1000 ∧ ∀ H', Ext H H' → Q (.bl (mpB r x i j)) H'
theorem ok_mp {f : Addr} {fd : FuncData} (F : Fun K "may_pair" "may_pair" s_may_pair f fd) (ctext_of : CTextOf P w K mg base) (cpair_worth : CPW P w K mg base) (mlen : mg "len" = none) : FnOk P w K mg base CX0 2 f fd ["rules", "string", "i", "j"] spMP := by
  refine F.ok sc_may_pair (fun vs H Q E h => ?_) (fun cdv A outer s H vs Q E hr h => ?_)
  · obtain ⟨v, r, x, i, j, rfl, _⟩ := h
    rfl
  · obtain ⟨v, r, x, i, j, rfl, hR, hx, q⟩ := h
    obtain ⟨a, vp, vl, vs, rfl, hA, hp, hl, hs⟩ := id hR
    refine ⟨_, (pss_cons (ps_if (pt_not (pt_chain3 op_le op_lt op_lt pe_int (pv 2) (pv 3) (pe_callB call_len_str (by rfl) mlen (by decide +kernel) (pa_cons (pv 1) pa_nil)))) (pss_one (ps_ret pe_bl)) pss_nil)
      (pss_cons (ps_if (pt_cmpR op_lt (pe_op op_sub (pe_op op_sub (pv 3) (pv 2)) pe_int) (pe_ix (ixT K) (pv 0) pe_int (fun _ _ => rfl)) (nomark _)) (pss_one (ps_ret pe_bl)) pss_nil)
      (pss_one (ps_ret (pe_cmpR op_notN (pe_ca cpair_worth (hr.mono (by decide)) (by rfl) (pa_cons (pv 0) (pa_cons (pe_ca ctext_of (hr.mono (by decide)) (by rfl) (pa_cons (pv 1) (pa_cons (pe_tup (pa_cons (pv 2) (pa_cons (pv 3) pa_nil))) pa_nil))) pa_nil))) pe_non (nomark _)))))), ?_⟩
    have qF : ¬ (0 ≤ i ∧ i < j ∧ j < x.length) → Q (.bl false) H := fun h => by
      have e : mpB r x i j = false := by
        unfold mpB
        rw [decide_eq_false h]
        rfl
      rw [← e]
      exact q H Ext.refl
    refine ⟨_, rfl, 0, i, rfl, rfl, _, rfl, ite2 (fun e1 => ?_) (fun e1 => ?_)⟩
    · have e1 : 0 ≤ i := of_decide_eq_true e1
      refine ⟨_, rfl, i, j, rfl, rfl, _, rfl, ite2 (fun e2 => ?_) (fun e2 => ?_)⟩
      · have e2 : i < j := of_decide_eq_true e2
        refine ⟨_, rfl, x, rfl, szL (by omega), _, _, rfl, rfl, _, rfl, ?_⟩
        by_cases e3 : j < x.length
        · rw [decide_eq_true e3]
          -- if j - i - 1 < rules[2]
          refine iteF ⟨_, rfl, _, rfl, _, _, rfl, rfl, _, 1, rfl, rfl, _, rfl, a, _, 2, _, rfl, rfl, SqT.of hA, rfl, _, _, rfl, rfl, _, rfl, ite2 (fun e4 => ?_) (fun e4 => ?_)⟩
          · have e4 : j - i - 1 < r.span := of_decide_eq_true e4
            have e : mpB r x i j = false := by
              unfold mpB
              rw [decide_eq_false (show ¬ r.span ≤ j - i - 1 by omega)]
              simp
            have := q H Ext.refl
            rw [e] at this
            exact this
          · have e4 : ¬ j - i - 1 < r.span := fun z => e4 (decide_eq_true z)
            refine ⟨_, rfl, _, rfl, _, rfl, _, rfl, szL (show 2 ≤ 1000000 by decide), fun t ht => ?_⟩
            refine ⟨x, t, i, j, rfl, upd_same, hx, e1, by omega, by omega, e3, ?_⟩
            refine ⟨_, r, _, rfl, RulesAt.mono _ _ _ _ (TupK.new ht) hR, rfl, ?_⟩
            have e : mpB r x i j = !decide (pwV r.prs (sgn x i ++ sgn x j) = .non) := by
              unfold mpB
              rw [decide_eq_true (show 0 ≤ i ∧ i < j ∧ j < x.length from ⟨e1, e2, e3⟩), decide_eq_true (show r.span ≤ j - i - 1 by omega)]
              rfl
            have := q _ (Ext.new (o := .tup [.int i, .int j]) ht)
            rw [e] at this
            exact this
        · rw [decide_eq_false e3]
          exact iteT (qF fun h => e3 h.2.2)
      · refine ⟨_, rfl, ?_⟩
        exact iteT (qF fun h => e2 (decide_eq_true h.2.1))
    · refine ⟨_, rfl, ?_⟩
      exact iteT (qF fun h => e1 (decide_eq_true h.1))
end
end Pf


namespace Pf
open PySem PySem.Spec PyProof.Rows L2
theorem sum_len_le {m : Nat} : ∀ {ys : List Str}, (∀ y ∈ ys, y.length ≤ m) → (ys.map (·.length)).sum ≤ ys.length * m
  | [], _ => Nat.zero_le _
  | y :: r, h => by
    have h1 := h y (List.mem_cons_self ..)
    have h2 := sum_len_le (ys := r) fun x hx => h x (List.mem_cons_of_mem _ hx)
    rw [List.map_cons, List.sum_cons, List.length_cons, Nat.succ_mul]
    omega
theorem fits_join {ys : List Str} {k m : Nat} (hk : ys.length ≤ k) (h : ∀ y ∈ ys, y.length ≤ m) (hm : k * m ≤ 1000000) : (ys.map (·.length)).sum + ys.length * ("" : Str).length ≤ 16777216 := by
  have h1 := sum_len_le h
  have h2 : ys.length * m ≤ k * m := Nat.mul_le_mul_right m hk
  have h3 : ("" : Str).length = 0 := by decide +kernel
  rw [h3, Nat.mul_zero]
  omega
section
variable {P : Program} {w : World} {K : PySem.W.Frag} {mg : Str → Option Value} {base : Heap}
abbrev s_law_string : Stmt := topS 13
theorem sc_law_string : FnScope ["_law_pen", "_law_some_rules", "_law_most", "_law_letters_here", "_law_size", "_law_k", "_law_pair"] ["_law_pen", "_law_some_rules", "_law_most"] (defScope s_law_string) :=
  ⟨rfl, rfl, rfl, by decide +kernel, rfl, by decide +kernel, by decide +kernel⟩
def spString : Sp := fun vs H Q _ => ∃ (p c : Addr) (v : V) (r : Rl) (m : Int) (n : Nat), vs = [.ref p, v, .int m] ∧ RulesAt H v r ∧ RlOk r ∧ 0 ≤ m ∧ m ≤ 20 ∧ Pen H p c n ∧ n + 30 < 1000000 ∧
  ∀ (x : Str) H', (x.length : Int) ≤ m → Small x → Kp p H H' → Pen H' p c (n + 30) → Q (.str x) H'
theorem ok_string {f : Addr} {fd : FuncData} (F : Fun K "_law_string" "_law_string" s_law_string f fd) (c_law_draw : CDraw P w K mg base) (mlen : mg "len" = none) (mrange : mg "range" = none) : FnOk P w K mg base CX0 2 f fd ["_law_pen", "_law_some_rules", "_law_most"] spString := by
  refine F.ok sc_law_string (fun vs H Q E h => ?_) (fun cdv A outer s H vs Q E hr h => ?_)
  · obtain ⟨p, c, v, r, m, n, rfl, _⟩ := h
    rfl
  · obtain ⟨p, c, v, r, m, n, rfl, ⟨a, vp, vl, vs, rfl, hA, ⟨ap, us, rfl, hp, hR⟩, hl, hs⟩, ok, m0, m1, hP, hn, q⟩ := h
    refine ⟨_, (pss_cons (ps_set (i := 3) sc_law_string.nd rfl (.inr rfl) (pe_op op_add_str (pe_ix (ixT K) (pv 1) pe_int (fun _ _ => rfl)) (pe_join pe_str (pe_lc (own := [("_law_pair", 6)]) (g := gName 6) (by rfl) sc_law_string.nd (pi_tup (pe_ix (ixT K) (pv 1) pe_int (fun _ _ => rfl))) (blkOk_by (own := [("_law_pair", 6)]) (N := ["_law_pen", "_law_some_rules", "_law_most", "_law_letters_here", "_law_size", "_law_k", "_law_pair"]) (sc := defScope s_law_string) (by decide +kernel)) (fun _ _ _ _ _ => (pg_name (i := 6) sc_law_string.nd rfl (.inl rfl))) (fun _ _ _ _ _ => pts_nil) (fun _ _ _ _ _ => (pe_ix (ixT K) (pv 6) pe_int (fun _ _ => rfl)))))))
      (pss_cons (ps_set (i := 4) sc_law_string.nd rfl (.inl rfl) (pe_ix (ixL K) (pe_lst (pa_cons (pv 2) (pa_cons (pe_ca c_law_draw (hr.mono (by decide)) (by rfl) (pa_cons (pv 0) (pa_cons (pe_op op_add (pv 2) pe_int) pa_nil))) (pa_cons (pe_ca c_law_draw (hr.mono (by decide)) (by rfl) (pa_cons (pv 0) (pa_cons (pe_op op_add (pv 2) pe_int) pa_nil))) pa_nil)))) (pe_ca c_law_draw (hr.mono (by decide)) (by rfl) (pa_cons (pv 0) (pa_cons pe_int pa_nil))) (fun _ _ => rfl)))
      (pss_one (ps_ret (pe_join pe_str (pe_lc (own := [("_law_k", 5)]) (g := gName 5) (by rfl) sc_law_string.nd (pi_range1 (by rfl) mrange (pa_cons (pv 4) pa_nil)) (blkOk_by (own := [("_law_k", 5)]) (N := ["_law_pen", "_law_some_rules", "_law_most", "_law_letters_here", "_law_size", "_law_k", "_law_pair"]) (sc := defScope s_law_string) (by decide +kernel)) (fun _ _ _ _ _ => (pg_name (i := 5) sc_law_string.nd rfl (.inl rfl))) (fun _ _ _ _ _ => pts_nil) (fun _ _ _ _ _ => (pe_ix ix_str (pv 3) (pe_ca c_law_draw (hr.mono (by decide)) (by rfl) (pa_cons (pv 0) (pa_cons (pe_callB call_len_str (by rfl) mlen (by decide +kernel) (pa_cons (pv 3) pa_nil)) pa_nil))) (fun _ _ => rfl))))))))), ?_⟩
    have hlen := paired_len hR
    have hpl := ok.prs.1
    have hl6 := ok.let6
    have hl1 := ok.let1
    refine ⟨_, rfl, a, _, 0, _, rfl, rfl, SqT.of hA, rfl, ⟨_, rfl⟩, _, rfl, a, _, 1, _, rfl, rfl, SqT.of hA, rfl, ap, rfl, ⟨_, SqT.of hp⟩, fun D hD => lc_tup (K := K) (xs := us) (fun i H6 => Ext H H6 ∧ H6 D = some (.lst (((r.prs.take i).map (·.1)).map V.str)))
      ⟨Ext.new hD, upd_same⟩ (fun i H6 _ ⟨k, _⟩ => SqT.of (k _ _ hp)) (fun i u H6 hi hv => ?_) (fun H6 hv => ?_)⟩
    · obtain ⟨k6, hL6⟩ := hv
      obtain ⟨⟨x1, w1⟩, hx1, a1, rfl, ha1⟩ := paired_get hR hi
      have ha1' := k6 _ _ ha1
      refine ⟨rfl, _, rfl, a1, _, 0, _, rfl, rfl, SqT.of ha1', rfl, _, hL6, szLt ?_, k6.put hD, ?_⟩
      · rw [List.length_map, List.length_map, List.length_take]
        omega
      · rw [upd_same, List.take_add_one, hx1, List.map_append, List.map_append]
        rfl
    · obtain ⟨k6, hL6⟩ := hv
      rw [List.take_of_length_le (by omega)] at hL6
      have hy2 : ∀ y ∈ r.prs.map (·.1), y.length ≤ 2 := fun y hy => by
        obtain ⟨x, hx, rfl⟩ := List.mem_map.mp hy
        exact Nat.le_of_eq (ok.prs.2 x hx).1
      have hys : ∀ y ∈ r.prs.map (·.1), Small y := fun y hy => by
        obtain ⟨x, hx, rfl⟩ := List.mem_map.mp hy
        exact (ok.prs.2 x hx).2.1
      have hyl : (r.prs.map (·.1)).length ≤ 12 := by
        rw [List.length_map]
        exact hpl
      have hj := join_le hy2
      refine ⟨"", D, r.prs.map (·.1), rfl, rfl, .inl (SqL.of hL6), fits_join hyl hy2 (by decide), r.letters, Txt.join "" (r.prs.map (·.1)), rfl, rfl, szL (by omega), ?_⟩
      have hz : ∃ z, z = r.letters ++ Txt.join "" (r.prs.map (·.1)) := ⟨_, rfl⟩
      obtain ⟨z, ez⟩ := hz
      have hz1 : 1 ≤ z.length ∧ z.length ≤ 30 := by
        rw [ez, Str.length_append]
        omega
      have hzs : Small z := by
        rw [ez]
        exact ok.small.app (join_small hys)
      rw [← ez]
      have hP6 : Pen H6 p c n := by
        obtain ⟨cells, a, r, h1, h2, h3⟩ := hP
        exact ⟨cells, a, r, k6 _ _ h1, k6 _ _ h2, h3⟩
      refine ⟨_, rfl, _, rfl, _, rfl, m, 1, rfl, rfl, p, c, m + 1, n, rfl, hP6, by omega, by omega, by omega, fun r1 H7 r1a r1b k7 hP7 => ?_⟩
      refine ⟨_, rfl, _, rfl, m, 1, rfl, rfl, p, c, m + 1, _, rfl, hP7, by omega, by omega, by omega, fun r2 H8 r2a r2b k8 hP8 => ⟨szL (show 3 ≤ 1000000 by decide), fun d hd => ?_⟩⟩
      refine ⟨_, rfl, p, c, 3, _, rfl, hP8.new hd, by omega, by decide, by decide, fun r3 H9 r3a r3b k9 hP9 => ?_⟩
      have hLd : H9 d = some (.lst ([m, r1, r2].map V.int)) := k9 _ _ (hP8.ne hd).1 upd_same
      obtain ⟨sz, hsz, hat⟩ := atI_ints (ns := [m, r1, r2]) r3a r3b
      have hsz2 : 0 ≤ sz ∧ sz ≤ m := by
        simp only [List.mem_cons, List.not_mem_nil, or_false] at hsz
        omega
      refine ⟨d, _, r3, _, rfl, rfl, SqL.of hLd, hat, ?_⟩
      have kp9 : Kp p H H9 := (((((show Kp p H H6 from fun b o _ e => k6 b o e)).trans k7).trans k8).trans (Kp.new hd)).trans k9
      refine ⟨⟨_, rfl⟩, _, rfl, sz, rfl, by omega, by omega, fun D2 hD2 => lc_range (lo := 0) (n := sz.toNat) (fun i H3 => ∃ ys : List Str, ys.length = i ∧ (∀ y ∈ ys, y.length ≤ 1 ∧ Small y) ∧ H3 D2 = some (.lst (ys.map V.str)) ∧ Kp p H9 H3 ∧ Pen H3 p c (n + 3 + i)) ⟨[], rfl, (fun y h => by cases h), upd_same, Kp.new hD2, hP9.new hD2⟩ (fun i H3 hi hv => ?_) (fun H3 hv => ?_)⟩
      · obtain ⟨ys, hyl2, hyo, hL3, k3, hP3⟩ := hv
        refine ⟨rfl, _, rfl, _, rfl, _, rfl, z, rfl, szL (by omega), p, c, z.length, _, rfl, hP3, by omega, by omega, by omega, fun r4 H4 r4a r4b k4 hP4 => ?_⟩
        obtain ⟨ch, hch, hat⟩ := atI_mem (xs := z.cps.toList) r4a (by rw [Array.length_toList]; exact r4b)
        have nD := hP9.ne hD2
        have hL4 := k4 _ _ nD.1 hL3
        refine ⟨z, r4, ch, rfl, rfl, szL (by omega), hat, _, hL4, szLt ?_, ys ++ [⟨#[ch]⟩], ?_, fun y hy => ?_, ?_, (k3.trans k4).put hD2, (hP4.put nD.1 nD.2)⟩
        · rw [List.length_map]
          omega
        · rw [List.length_append, List.length_singleton]
          omega
        · rw [List.mem_append, List.mem_singleton] at hy
          rcases hy with hy | rfl
          · exact hyo y hy
          · exact ⟨Nat.le_refl _, Small.one (hzs ch hch)⟩
        · rw [upd_same, List.map_append]
          rfl
      · obtain ⟨ys, hyl2, hyo, hL3, k3, hP3⟩ := hv
        have hj2 := join_le fun y hy => (hyo y hy).1
        refine ⟨"", D2, ys, rfl, rfl, .inl (SqL.of hL3), fits_join (k := 20) (m := 1) (by omega) (fun y hy => (hyo y hy).1) (by decide), q _ _ (by omega) (join_small fun y hy => (hyo y hy).2) (kp9.trans k3) (hP3.mono (by omega))⟩
end
end Pf


namespace Pf
open PySem PySem.Spec PyProof.Rows L2
theorem cut_ints (ns : List Int) (lo hi : Option Int) : ∃ cs : List Int, cutV (ns.map V.int) lo hi = cs.map V.int ∧ cs.length ≤ ns.length := by
  unfold cutV
  refine ⟨(ns.drop _).take _, by rw [List.map_take, List.map_drop], ?_⟩
  rw [List.length_take, List.length_drop]
  omega
theorem Pen.ext {H H' : Hp} {p c : Addr} {n : Nat} (h : Pen H p c n) (k : Ext H H') : Pen H' p c n := by
  obtain ⟨cells, a, r, h1, h2, h3⟩ := h
  exact ⟨cells, a, r, k _ _ h1, k _ _ h2, h3⟩
theorem in_known (t : Str) : ∀ prs : List (Str × Int), inV (.str t) ((prs.map (·.1)).map V.str) = !decide (pwV prs t = .non)
  | [] => rfl
  | (a, b) :: r => by
    have ih := in_known t r
    unfold inV at ih ⊢
    rw [List.map_cons, List.map_cons, List.any_cons, ih, pwV]
    by_cases e : a = t
    · rw [if_pos e]
      simp [eqV, e]
    · rw [if_neg e]
      simp [eqV, e]
theorem flat_strs : ∀ ts : List Str, (ts.map V.str).all flatV = true
  | [] => rfl
  | _ :: r => by
    rw [List.map_cons, List.all_cons, flat_strs r]
    rfl
section
variable {P : Program} {w : World} {K : PySem.W.Frag} {mg : Str → Option Value} {base : Heap}
abbrev s_law : Stmt := topS 14
theorem sc_law : FnScope ["_law_script", "_law_pen", "_law_turn", "_law_some", "_law_text", "_law_known", "_law_first", "_law_last", "_law_due", "_law_row"] ["_law_script"] (defScope s_law) :=
  ⟨rfl, rfl, rfl, by decide +kernel, rfl, by decide +kernel, by decide +kernel⟩
abbrev CRules (P : Program) (w : World) (K : PySem.W.Frag) (mg : Str → Option Value) (base : Heap) : Prop := Ca P w K mg base 4 "_law_rules" ["_law_pen", "_law_small"] spRules
abbrev CString (P : Program) (w : World) (K : PySem.W.Frag) (mg : Str → Option Value) (base : Heap) : Prop := Ca P w K mg base 2 "_law_string" ["_law_pen", "_law_some_rules", "_law_most"] spString
abbrev CMP (P : Program) (w : World) (K : PySem.W.Frag) (mg : Str → Option Value) (base : Heap) : Prop := Ca P w K mg base 2 "may_pair" ["rules", "string", "i", "j"] spMP
abbrev CMPK (P : Program) (w : World) (K : PySem.W.Frag) (mg : Str → Option Value) (base : Heap) : Prop := CaK P w K mg base 2 "may_pair" ["rules", "string", "i", "j"] ["j", "i", "string", "rules"] (permV [3, 2, 1, 0]) spMP
def spLaw (K : PySem.W.Frag) : Sp := fun vs H Q _ => ∃ (a : Addr) (ns : List Int), vs = [.ref a] ∧ SqL K H a (ns.map V.int) ∧ ns.length ≤ 63 ∧ ∀ H', Q (.bl true) H'
theorem ok_law {f : Addr} {fd : FuncData} (F : Fun K "law" "law" s_law f fd) (c_law_rules : CRules P w K mg base) (c_law_string : CString P w K mg base) (cmay_pair : CMP P w K mg base) (cmay_pairK : CMPK P w K mg base)
    (mlist : mg "list" = none) (mrange : mg "range" = none) (mrepr : mg "repr" = none) (mlen : mg "len" = none) : FnOk P w K mg base CX0 5 f fd ["_law_script"] (spLaw K) := by
  refine F.ok sc_law (fun vs H Q E h => ?_) (fun cdv A outer s H vs Q E hr h => ?_)
  · obtain ⟨a, ns, rfl, _⟩ := h
    rfl
  · obtain ⟨a, ns, rfl, hS, hns, q⟩ := h
    refine ⟨_, (pss_cons (ps_set (i := 1) sc_law.nd rfl (.inl rfl) (pe_lst (pa_cons (pe_callTy (listOf K) (by rfl) mlist (by decide +kernel) (pa_cons (pe_slice (slL K) (pv 0) po_none (po_some pe_int)) pa_nil)) (pa_cons pe_int (pa_cons pe_int pa_nil)))))
      (pss_cons (ps_for PassesOwn.never rfl (pi_range1 (by rfl) mrange (pa_cons pe_int pa_nil)) (pg_name (i := 2) sc_law.nd rfl (.inl rfl)) (pss_cons (ps_set (i := 3) sc_law.nd rfl (.inl rfl) (pe_ca c_law_rules (hr.mono (by decide)) (by rfl) (pa_cons (pv 1) (pa_cons pe_bl pa_nil))))
      (pss_cons (ps_set (i := 4) sc_law.nd rfl (.inl rfl) (pe_ca c_law_string (hr.mono (by decide)) (by rfl) (pa_cons (pv 1) (pa_cons (pv 3) (pa_cons pe_int pa_nil)))))
      (pss_cons (ps_setLc (i := 5) (own := [("_law_row", 9)]) (g := gName 9) (by rfl) sc_law.nd rfl rfl (sw_true rfl rfl rfl (by decide +kernel)) (pi_tup (pe_ix (ixT K) (pv 3) pe_int (fun _ _ => rfl))) (blkOk_by (own := [("_law_row", 9)]) (N := ["_law_script", "_law_pen", "_law_turn", "_law_some", "_law_text", "_law_known", "_law_first", "_law_last", "_law_due", "_law_row"]) (sc := defScope s_law) (by decide +kernel)) (fun _ _ _ _ _ => (pg_name (i := 9) sc_law.nd rfl (.inl rfl))) (fun _ _ _ _ _ => pts_nil) (fun _ _ _ _ _ => (pe_ix (ixT K) (pv 9) pe_int (fun _ _ => rfl))))
      (pss_one (ps_for PassesOwn.never rfl (pi_range1 (by rfl) mrange (pa_cons (pe_callB call_len_str (by rfl) mlen (by decide +kernel) (pa_cons (pv 4) pa_nil)) pa_nil)) (pg_name (i := 6) sc_law.nd rfl (.inl rfl)) (pss_one (ps_for PassesOwn.never rfl (pi_range2 (by rfl) mrange (pa_cons (pe_op op_add (pv 6) pe_int) (pa_cons (pe_callB call_len_str (by rfl) mlen (by decide +kernel) (pa_cons (pv 4) pa_nil)) pa_nil))) (pg_name (i := 7) sc_law.nd rfl (.inl rfl)) (pss_cons (ps_set (i := 8) sc_law.nd rfl (.inl rfl) (pe_and (pe_cmpR (inSeq K) (pe_op op_add_str (pe_ix ix_str (pv 4) (pv 6) (fun _ _ => rfl)) (pe_ix ix_str (pv 4) (pv 7) (fun _ _ => rfl))) (pv 5) (by rfl)) (pe_one (pe_cmpR op_ge (pe_op op_sub (pe_op op_sub (pv 7) (pv 6)) pe_int) (pe_ix (ixT K) (pv 3) pe_int (fun _ _ => rfl)) (nomark _)))))
      (pss_cons (ps_if (pt_cmpR op_ne (pe_callB call_repr (by rfl) mrepr (by decide +kernel) (pa_cons (pe_ca cmay_pair (hr.mono (by decide)) (by rfl) (pa_cons (pv 3) (pa_cons (pv 4) (pa_cons (pv 6) (pa_cons (pv 7) pa_nil))))) pa_nil)) (pe_callB call_repr (by rfl) mrepr (by decide +kernel) (pa_cons (pv 8) pa_nil)) (nomark _)) (pss_one (ps_ret pe_bl)) pss_nil)
      (pss_one (ps_if (pt_cmpR op_ne (pe_callB call_repr (by rfl) mrepr (by decide +kernel) (pa_cons (pe_caK cmay_pairK (hr.mono (by decide)) (by rfl) (pk_cons (pv 7) (pk_cons (pv 6) (pk_cons (pv 4) (pk_cons (pv 3) pk_nil))))) pa_nil)) (pe_callB call_repr (by rfl) mrepr (by decide +kernel) (pa_cons (pv 8) pa_nil)) (nomark _)) (pss_one (ps_ret pe_bl)) pss_nil))))))))))))
      (pss_one (ps_ret pe_bl)))), ?_⟩
    obtain ⟨cs, hcs, hcl⟩ := cut_ints ns none (some 63)
    refine ⟨.ref a, rfl, 63, rfl, a, _, rfl, hS, fun s1 hs1 => ⟨s1, _, rfl, .inl (SqL.of upd_same), fun c hc => ⟨szL (show 3 ≤ 1000000 by decide), fun pp hpp => ?_⟩⟩⟩
    have hP0 : Pen (upd (upd (upd H s1 (.lst (cutV (ns.map V.int) none (some 63)))) c (.lst (cutV (ns.map V.int) none (some 63)))) pp (.lst [.ref c, .int 0, .int 0])) pp c 0 :=
      ⟨cs, 0, 0, upd_same, by rw [upd_ne (fun e => by rw [e] at hpp; rw [← e, upd_same] at hpp; cases hpp), upd_same, hcs], by decide, by decide, by decide, by omega⟩
    refine ⟨8, rfl, by decide, by decide, for_range (n := 8) (fun i σ H2 => ∃ (y2 y3 y4 y5 y6 y7 y8 y9 : Option V), σ = [some (.ref a), some (.ref pp), y2, y3, y4, y5, y6, y7, y8, y9] ∧ Pen H2 pp c (1230 * i))
      ⟨none, none, none, none, none, none, none, none, rfl, hP0⟩ (fun i σ H2 hi hv => ?_) (fun σ H2 hv => ?_)⟩
    · obtain ⟨y2, y3, y4, y5, y6, y7, y8, y9, rfl, hP2⟩ := hv
      refine ⟨_, rfl, pp, c, false, _, rfl, hP2, by omega, fun v r H3 hr3 ok3 k3 hP3 => ?_⟩
      refine ⟨_, rfl, _, rfl, pp, c, v, r, 12, _, rfl, hr3, ok3, by decide, by decide, hP3, by omega, fun x H4 hx12 hxs k4 hP4 => ?_⟩
      have hr4 := RulesAt.mono _ _ _ _ (TupK.of k4 hP3) hr3
      obtain ⟨ar, vp, vl, vs, rfl, hA, ⟨ap, us, rfl, hp, hR⟩, hl, hs⟩ := id hr4
      have husl := paired_len hR
      have hpl := ok3.prs.1
      -- known = [row[0] for row in some[1]]
      refine ⟨_, rfl, ar, _, 1, _, rfl, rfl, SqT.of hA, rfl, ap, rfl, ⟨_, SqT.of hp⟩, fun D hD => lc_tup (K := K) (xs := us) (fun i H6 => Ext H4 H6 ∧ H6 D = some (.lst (((r.prs.take i).map (·.1)).map V.str)))
        ⟨Ext.new hD, upd_same⟩ (fun i H6 _ ⟨k, _⟩ => SqT.of (k _ _ hp)) (fun i u H6 hi hv => ?_) (fun H6 hv => ?_)⟩
      · obtain ⟨k6, hL6⟩ := hv
        obtain ⟨⟨x1, w1⟩, hx1, a1, rfl, ha1⟩ := paired_get hR hi
        have ha1' := k6 _ _ ha1
        refine ⟨rfl, _, rfl, a1, _, 0, _, rfl, rfl, SqT.of ha1', rfl, _, hL6, szLt ?_, k6.put hD, ?_⟩
        · rw [List.length_map, List.length_map, List.length_take]
          omega
        · rw [upd_same, List.take_add_one, hx1, List.map_append, List.map_append]
          rfl
      · obtain ⟨k6, hL6⟩ := hv
        rw [List.take_of_length_le (by omega)] at hL6
        refine ⟨_, rfl, x, rfl, szL (by omega), _, rfl, by omega, by omega, for_range (lo := 0) (n := (x.length : Int).toNat) (fun j σ H7 => ∃ (y6 y7 y8 y9 : Option V), σ = [some (.ref a), some (.ref pp), some (.int (0 + i)), some (.ref ar), some (.str x), some (.ref D), y6, y7, y8, y9] ∧ Ext H6 H7)
          ⟨_, _, _, _, rfl, Ext.refl⟩ (fun j σ H7 hj hv => ?_) (fun σ H7 hv => ?_)⟩
        · obtain ⟨y6, y7, y8, y9, rfl, k7⟩ := hv
          refine ⟨_, rfl, _, 1, rfl, rfl, _, rfl, x, rfl, szL (by omega), _, _, rfl, ⟨by omega, by omega, by omega, by omega⟩, for_range (lo := 0 + j + 1) (n := ((x.length : Int) - (0 + j + 1)).toNat) (fun m σ H7 => ∃ (y7 y8 y9 : Option V), σ = [some (.ref a), some (.ref pp), some (.int (0 + i)), some (.ref ar), some (.str x), some (.ref D), some (.int (0 + j)), y7, y8, y9] ∧ Ext H6 H7)
            ⟨_, _, _, rfl, k7⟩ (fun m σ H8 hm hv => ?_) (fun σ H8 hv => ?_)⟩
          · obtain ⟨y7, y8, y9, rfl, k8⟩ := hv
            have i0 : (0 : Int) ≤ 0 + j := by omega
            have i1 : (0 : Int) + j < x.length := by omega
            have j0 : (0 : Int) ≤ 0 + j + 1 + m := by omega
            have j1 : (0 : Int) + j + 1 + m < x.length := by omega
            have hA8 := k8 _ _ (k6 _ _ hA)
            have hr8 := RulesAt.mono _ _ _ _ (TupK.ext (k6.trans k8)) hr4
            have hmp : mpB r x (0 + j) (0 + j + 1 + m) = (decide (r.span ≤ (0 + j + 1 + m : Int) - (0 + j) - 1) && inV (.str (sgn x (0 + j) ++ sgn x (0 + j + 1 + m))) ((r.prs.map (·.1)).map V.str)) := by
              unfold mpB
              rw [decide_eq_true (show (0 : Int) ≤ 0 + j ∧ (0 : Int) + j < 0 + j + 1 + m ∧ (0 : Int) + j + 1 + m < x.length from ⟨i0, by omega, j1⟩), in_known]
              rfl
            refine ⟨_, rfl, _, rfl, x, _, _, rfl, rfl, szL (by omega), sgn_at i0 i1, _, rfl, _, rfl, x, _, _, rfl, rfl, szL (by omega), sgn_at j0 j1, _, _, rfl, rfl, szL (show 1 + 1 ≤ 1000000 by decide), _, rfl, D, _, rfl, .inl (SqL.of (k8 _ _ hL6)), rfl, flat_strs _, _, rfl, ite2 (fun e => ?_) (fun e => ?_)⟩
            · have e : inV (.str (sgn x (0 + j) ++ sgn x (0 + j + 1 + m))) ((r.prs.map (·.1)).map V.str) = true := e
              rw [e, Bool.and_true] at hmp
              refine ⟨_, rfl, _, rfl, _, _, rfl, rfl, _, 1, rfl, rfl, _, rfl, ar, _, 2, _, rfl, rfl, SqT.of hA8, rfl, _, _, rfl, rfl, ?_⟩
              refine ⟨_, rfl, _, rfl, _, rfl, _, rfl, .ref ar, r, x, _, _, rfl, hr8, by omega, fun H9 k9 => ⟨_, rfl, trivial, _, rfl, _, rfl, trivial, rfl, _, rfl, iteNS (by rw [hmp]) ?_⟩⟩
              refine ⟨_, rfl, _, rfl, _, rfl, _, rfl, rfl, rfl, .ref ar, r, x, _, _, rfl, RulesAt.mono _ _ _ _ (TupK.ext k9) hr8, by omega, fun H10 k10 => ⟨_, rfl, trivial, _, rfl, _, rfl, trivial, rfl, _, rfl, iteNS (by rw [hmp]) ?_⟩⟩
              exact ⟨_, _, _, rfl, (k8.trans k9).trans k10⟩
            · have e : inV (.str (sgn x (0 + j) ++ sgn x (0 + j + 1 + m))) ((r.prs.map (·.1)).map V.str) = false := Bool.eq_false_iff.mpr e
              rw [e, Bool.and_false] at hmp
              refine ⟨_, rfl, _, rfl, _, rfl, _, rfl, .ref ar, r, x, _, _, rfl, hr8, by omega, fun H9 k9 => ⟨_, rfl, trivial, _, rfl, _, rfl, trivial, rfl, _, rfl, iteNS (by rw [hmp]) ?_⟩⟩
              refine ⟨_, rfl, _, rfl, _, rfl, _, rfl, rfl, rfl, .ref ar, r, x, _, _, rfl, RulesAt.mono _ _ _ _ (TupK.ext k9) hr8, by omega, fun H10 k10 => ⟨_, rfl, trivial, _, rfl, _, rfl, trivial, rfl, _, rfl, iteNS (by rw [hmp]) ?_⟩⟩
              exact ⟨_, _, _, rfl, (k8.trans k9).trans k10⟩
          · obtain ⟨y7, y8, y9, rfl, k8⟩ := hv
            exact ⟨_, _, _, _, rfl, k8⟩
        · obtain ⟨y6, y7, y8, y9, rfl, k7⟩ := hv
          exact ⟨_, _, _, _, _, _, _, _, rfl, ((hP4.ext k6).ext k7).mono (by omega)⟩
    · obtain ⟨y2, y3, y4, y5, y6, y7, y8, y9, rfl, hP2⟩ := hv
      exact q _
end
end Pf


namespace Pf
open PySem PySem.Spec PyProof.Rows L2
/-! ### what the top has written; the law's own head -/
theorem all_mk {l : PySem.W.OpenLaw} {w : World} {K : PySem.W.Frag} {h : Heap} {mg : Str → Option Value} {fa f0 f1 f2 f3 f4 f5 f6 f7 f8 f9 f10 f11 : Addr} (X : K.In h) (G : h.Ns mainGlobals mg) (hfa : mg "law" = some (.ref fa))
    {od0 an0 od1 an1 od2 an2 od3 an3 od4 an4 od5 an5 od6 an6 od7 an7 od8 an8 od9 an9 od10 an10 od11 an11 : Option Addr} {sl0 sl1 sl2 sl3 sl4 sl5 sl6 sl7 sl8 sl9 sl10 sl11 : Array (Option Value)} {oc0 kV0 dc0 pm0 cd0 ct0 oc1 kV1 dc1 pm1 cd1 ct1 oc2 kV2 dc2 pm2 cd2 ct2 oc3 kV3 dc3 pm3 cd3 ct3 oc4 kV4 dc4 pm4 cd4 ct4 oc5 kV5 dc5 pm5 cd5 ct5 oc6 kV6 dc6 pm6 cd6 ct6 oc7 kV7 dc7 pm7 cd7 ct7 oc8 kV8 dc8 pm8 cd8 ct8 oc9 kV9 dc9 pm9 cd9 ct9 oc10 kV10 dc10 pm10 cd10 ct10 oc11 kV11 dc11 pm11 cd11 ct11 : Value}
    (a0 : PySem.W.nsIn K mainGlobals "pair_worth" = some (some (.ref f0))) (l0 : K.lookup f0 = some ⟨oc0, od0, .func (PySem.W.fnOf "pair_worth" "pair_worth" (defArgs s_pair_worth) (defBody s_pair_worth) (defScope s_pair_worth) .none kV0 dc0 pm0 an0 cd0 ct0), sl0⟩) (c0 : PySem.W.codeIn K cd0 "pair_worth" = true) (k0 : PySem.W.keepIn K (.ref f0) = true)
    (a1 : PySem.W.nsIn K mainGlobals "text_of" = some (some (.ref f1))) (l1 : K.lookup f1 = some ⟨oc1, od1, .func (PySem.W.fnOf "text_of" "text_of" (defArgs s_text_of) (defBody s_text_of) (defScope s_text_of) .none kV1 dc1 pm1 an1 cd1 ct1), sl1⟩) (c1 : PySem.W.codeIn K cd1 "text_of" = true) (k1 : PySem.W.keepIn K (.ref f1) = true)
    (a2 : PySem.W.nsIn K mainGlobals "may_pair" = some (some (.ref f2))) (l2 : K.lookup f2 = some ⟨oc2, od2, .func (PySem.W.fnOf "may_pair" "may_pair" (defArgs s_may_pair) (defBody s_may_pair) (defScope s_may_pair) .none kV2 dc2 pm2 an2 cd2 ct2), sl2⟩) (c2 : PySem.W.codeIn K cd2 "may_pair" = true) (k2 : PySem.W.keepIn K (.ref f2) = true)
    (a3 : PySem.W.nsIn K mainGlobals "_law_draw" = some (some (.ref f3))) (l3 : K.lookup f3 = some ⟨oc3, od3, .func (PySem.W.fnOf "_law_draw" "_law_draw" (defArgs s_law_draw) (defBody s_law_draw) (defScope s_law_draw) .none kV3 dc3 pm3 an3 cd3 ct3), sl3⟩) (c3 : PySem.W.codeIn K cd3 "_law_draw" = true) (k3 : PySem.W.keepIn K (.ref f3) = true)
    (a4 : PySem.W.nsIn K mainGlobals "_law_letters" = some (some (.ref f4))) (l4 : K.lookup f4 = some ⟨oc4, od4, .func (PySem.W.fnOf "_law_letters" "_law_letters" (defArgs s_law_letters) (defBody s_law_letters) (defScope s_law_letters) .none kV4 dc4 pm4 an4 cd4 ct4), sl4⟩) (c4 : PySem.W.codeIn K cd4 "_law_letters" = true) (k4 : PySem.W.keepIn K (.ref f4) = true)
    (a5 : PySem.W.nsIn K mainGlobals "_law_worth" = some (some (.ref f5))) (l5 : K.lookup f5 = some ⟨oc5, od5, .func (PySem.W.fnOf "_law_worth" "_law_worth" (defArgs s_law_worth) (defBody s_law_worth) (defScope s_law_worth) .none kV5 dc5 pm5 an5 cd5 ct5), sl5⟩) (c5 : PySem.W.codeIn K cd5 "_law_worth" = true) (k5 : PySem.W.keepIn K (.ref f5) = true)
    (a6 : PySem.W.nsIn K mainGlobals "_law_few" = some (some (.ref f6))) (l6 : K.lookup f6 = some ⟨oc6, od6, .func (PySem.W.fnOf "_law_few" "_law_few" (defArgs s_law_few) (defBody s_law_few) (defScope s_law_few) .none kV6 dc6 pm6 an6 cd6 ct6), sl6⟩) (c6 : PySem.W.codeIn K cd6 "_law_few" = true) (k6 : PySem.W.keepIn K (.ref f6) = true)
    (a7 : PySem.W.nsIn K mainGlobals "_law_pairs" = some (some (.ref f7))) (l7 : K.lookup f7 = some ⟨oc7, od7, .func (PySem.W.fnOf "_law_pairs" "_law_pairs" (defArgs s_law_pairs) (defBody s_law_pairs) (defScope s_law_pairs) .none kV7 dc7 pm7 an7 cd7 ct7), sl7⟩) (c7 : PySem.W.codeIn K cd7 "_law_pairs" = true) (k7 : PySem.W.keepIn K (.ref f7) = true)
    (a8 : PySem.W.nsIn K mainGlobals "_law_stacks" = some (some (.ref f8))) (l8 : K.lookup f8 = some ⟨oc8, od8, .func (PySem.W.fnOf "_law_stacks" "_law_stacks" (defArgs s_law_stacks) (defBody s_law_stacks) (defScope s_law_stacks) .none kV8 dc8 pm8 an8 cd8 ct8), sl8⟩) (c8 : PySem.W.codeIn K cd8 "_law_stacks" = true) (k8 : PySem.W.keepIn K (.ref f8) = true)
    (a9 : PySem.W.nsIn K mainGlobals "_law_rules" = some (some (.ref f9))) (l9 : K.lookup f9 = some ⟨oc9, od9, .func (PySem.W.fnOf "_law_rules" "_law_rules" (defArgs s_law_rules) (defBody s_law_rules) (defScope s_law_rules) .none kV9 dc9 pm9 an9 cd9 ct9), sl9⟩) (c9 : PySem.W.codeIn K cd9 "_law_rules" = true) (k9 : PySem.W.keepIn K (.ref f9) = true)
    (a10 : PySem.W.nsIn K mainGlobals "_law_string" = some (some (.ref f10))) (l10 : K.lookup f10 = some ⟨oc10, od10, .func (PySem.W.fnOf "_law_string" "_law_string" (defArgs s_law_string) (defBody s_law_string) (defScope s_law_string) .none kV10 dc10 pm10 an10 cd10 ct10), sl10⟩) (c10 : PySem.W.codeIn K cd10 "_law_string" = true) (k10 : PySem.W.keepIn K (.ref f10) = true)
    (a11 : PySem.W.nsIn K mainGlobals "law" = some (some (.ref f11))) (l11 : K.lookup f11 = some ⟨oc11, od11, .func (PySem.W.fnOf "law" "law" (defArgs s_law) (defBody s_law) (defScope s_law) .none kV11 dc11 pm11 an11 cd11 ct11), sl11⟩) (c11 : PySem.W.codeIn K cd11 "law" = true) (k11 : PySem.W.keepIn K (.ref f11) = true)
    (z0 : PySem.W.nsIn K mainGlobals "len" = some none)
    (z1 : PySem.W.nsIn K mainGlobals "abs" = some none)
    (z2 : PySem.W.nsIn K mainGlobals "int" = some none)
    (z3 : PySem.W.nsIn K mainGlobals "tuple" = some none)
    (z4 : PySem.W.nsIn K mainGlobals "range" = some none)
    (z5 : PySem.W.nsIn K mainGlobals "list" = some none)
    (z6 : PySem.W.nsIn K mainGlobals "repr" = some none) :
    ∃ fd : FuncData, (∀ (s : Shared) (v : Value), BindsTo s fd ⟨[v], []⟩ [("_law_script", v)]) ∧ ∀ base : Heap, K.In base → base.Ns mainGlobals mg → FnOk l.prog w K mg base CX0 5 fa fd ["_law_script"] (spLaw K) := by
  have e := hfa.symm.trans (PySem.W.mg_of X G a11)
  cases e
  have F0 := fun_mk (st := s_pair_worth) l0 c0 k0
  have F1 := fun_mk (st := s_text_of) l1 c1 k1
  have F2 := fun_mk (st := s_may_pair) l2 c2 k2
  have F3 := fun_mk (st := s_law_draw) l3 c3 k3
  have F4 := fun_mk (st := s_law_letters) l4 c4 k4
  have F5 := fun_mk (st := s_law_worth) l5 c5 k5
  have F6 := fun_mk (st := s_law_few) l6 c6 k6
  have F7 := fun_mk (st := s_law_pairs) l7 c7 k7
  have F8 := fun_mk (st := s_law_stacks) l8 c8 k8
  have F9 := fun_mk (st := s_law_rules) l9 c9 k9
  have F10 := fun_mk (st := s_law_string) l10 c10 k10
  have F11 := fun_mk (st := s_law) l11 c11 k11
  have mlen := PySem.W.mg_none_of X G z0
  have mabs := PySem.W.mg_none_of X G z1
  have mint := PySem.W.mg_none_of X G z2
  have mtuple := PySem.W.mg_none_of X G z3
  have mrange := PySem.W.mg_none_of X G z4
  have mlist := PySem.W.mg_none_of X G z5
  have mrepr := PySem.W.mg_none_of X G z6
  refine ⟨PySem.W.fnOf "law" "law" (defArgs s_law) (defBody s_law) (defScope s_law) .none kV11 dc11 pm11 an11 cd11 ct11, fun s v => .of_eq rfl, fun base _ _ => ?_⟩
  have cpair_worth : Ca l.prog w K mg base 1 "pair_worth" ["rules", "both"] spPW := ⟨f0, _, ok_pw F0, PySem.W.mg_of X G a0, F0.kp, F0.binds fun _ _ _ _ _ _ us hl => match us, hl with | [_, _], _ => rfl⟩
  have ctext_of : Ca l.prog w K mg base 1 "text_of" ["string", "pair"] spTextOf := ⟨f1, _, ok_text_of F1, PySem.W.mg_of X G a1, F1.kp, F1.binds fun _ _ _ _ _ _ us hl => match us, hl with | [_, _], _ => rfl⟩
  have cmay_pair : Ca l.prog w K mg base 2 "may_pair" ["rules", "string", "i", "j"] spMP := ⟨f2, _, ok_mp F2 ctext_of cpair_worth mlen, PySem.W.mg_of X G a2, F2.kp, F2.binds fun _ _ _ _ _ _ us hl => match us, hl with | [_, _, _, _], _ => rfl⟩
  have cmay_pairK : CaK l.prog w K mg base 2 "may_pair" ["rules", "string", "i", "j"] ["j", "i", "string", "rules"] (permV [3, 2, 1, 0]) spMP := ⟨f2, _, permU [3, 2, 1, 0], ok_mp F2 ctext_of cpair_worth mlen, PySem.W.mg_of X G a2, F2.kp, kbn_of [3, 2, 1, 0] fun ws hw => match ws, hw with | [_, _, _, _], _ => rfl⟩
  have c_law_draw : Ca l.prog w K mg base 1 "_law_draw" ["_law_pen", "_law_many"] spDraw := ⟨f3, _, ok_draw F3 mlen mabs, PySem.W.mg_of X G a3, F3.kp, F3.binds fun _ _ _ _ _ _ us hl => match us, hl with | [_, _], _ => rfl⟩
  have c_law_letters : Ca l.prog w K mg base 2 "_law_letters" ["_law_pen"] spLetters := ⟨f4, _, ok_letters F4 c_law_draw mlen mint, PySem.W.mg_of X G a4, F4.kp, F4.binds fun _ _ _ _ _ _ us hl => match us, hl with | [_], _ => rfl⟩
  have c_law_worth : Ca l.prog w K mg base 2 "_law_worth" ["_law_pen"] spWorth := ⟨f5, _, ok_worth F5 c_law_draw, PySem.W.mg_of X G a5, F5.kp, F5.binds fun _ _ _ _ _ _ us hl => match us, hl with | [_], _ => rfl⟩
  have c_law_few : Ca l.prog w K mg base 2 "_law_few" ["_law_pen"] spFew := ⟨f6, _, ok_few F6 c_law_draw, PySem.W.mg_of X G a6, F6.kp, F6.binds fun _ _ _ _ _ _ us hl => match us, hl with | [_], _ => rfl⟩
  have c_law_pairs : Ca l.prog w K mg base 3 "_law_pairs" ["_law_pen", "_law_letters_here", "_law_small"] spPairs := ⟨f7, _, ok_pairs F7 c_law_draw c_law_few c_law_worth mlen mint mtuple, PySem.W.mg_of X G a7, F7.kp, F7.binds fun _ _ _ _ _ _ us hl => match us, hl with | [_, _, _], _ => rfl⟩
  have c_law_stacks : Ca l.prog w K mg base 3 "_law_stacks" ["_law_pen", "_law_pairs_here", "_law_small"] spStacks := ⟨f8, _, ok_stacks F8 c_law_draw c_law_few c_law_worth mlen mint mtuple, PySem.W.mg_of X G a8, F8.kp, F8.binds fun _ _ _ _ _ _ us hl => match us, hl with | [_, _, _], _ => rfl⟩
  have c_law_rules : Ca l.prog w K mg base 4 "_law_rules" ["_law_pen", "_law_small"] spRules := ⟨f9, _, ok_rules F9 c_law_draw c_law_few c_law_worth c_law_letters c_law_pairs c_law_stacks mint mtuple mrange, PySem.W.mg_of X G a9, F9.kp, F9.binds fun _ _ _ _ _ _ us hl => match us, hl with | [_, _], _ => rfl⟩
  have c_law_string : Ca l.prog w K mg base 2 "_law_string" ["_law_pen", "_law_some_rules", "_law_most"] spString := ⟨f10, _, ok_string F10 c_law_draw mlen mrange, PySem.W.mg_of X G a10, F10.kp, F10.binds fun _ _ _ _ _ _ us hl => match us, hl with | [_, _, _], _ => rfl⟩
  exact ok_law F11 c_law_rules c_law_string cmay_pair cmay_pairK mlist mrange mrepr mlen
end Pf
open PySem PySem.W PyProof.Rows
set_option maxHeartbeats 0 in
theorem PySem.Challenge.cw_pairfolds_k05_who_may_pair_holds : PySem.Challenge.rw_pairfolds_k05_who_may_pair.Holds := by
  w_on; o_law; k_head; (case hw => w_witness2)
  k_fill
  refine L2.walk_of (l := PySem.Challenge.rw_pairfolds_k05_who_may_pair) (n := 63) (k := 5) (x := "_law_script") (CX := fun _ => L2.CX0) (sp := fun w => Pf.spLaw _) rfl (by decide) rfl ⟨rfl, by decide, by decide⟩ (fun w h Y => PySem.W.kIn_of Y) ?F (fun _ _ a ns hl _ hS => ⟨a, ns, rfl, hS, hl, fun _ => rfl⟩) (fun _ _ _ _ _ h => h)
  case F =>
    intro w mg fa h KX G hmg
    refine' Pf.all_mk KX G hmg ?a0 ?l0 ?c0 ?k0 ?a1 ?l1 ?c1 ?k1 ?a2 ?l2 ?c2 ?k2 ?a3 ?l3 ?c3 ?k3 ?a4 ?l4 ?c4 ?k4 ?a5 ?l5 ?c5 ?k5 ?a6 ?l6 ?c6 ?k6 ?a7 ?l7 ?c7 ?k7 ?a8 ?l8 ?c8 ?k8 ?a9 ?l9 ?c9 ?k9 ?a10 ?l10 ?c10 ?k10 ?a11 ?l11 ?c11 ?k11 ?z0 ?z1 ?z2 ?z3 ?z4 ?z5 ?z6
    (case a0 => k_is); (case l0 => k_is); (case c0 => k_is); (case k0 => k_is); (case a1 => k_is); (case l1 => k_is); (case c1 => k_is); (case k1 => k_is); (case a2 => k_is); (case l2 => k_is); (case c2 => k_is); (case k2 => k_is); (case a3 => k_is); (case l3 => k_is); (case c3 => k_is); (case k3 => k_is); (case a4 => k_is); (case l4 => k_is); (case c4 => k_is); (case k4 => k_is); (case a5 => k_is); (case l5 => k_is); (case c5 => k_is); (case k5 => k_is); (case a6 => k_is); (case l6 => k_is); (case c6 => k_is); (case k6 => k_is); (case a7 => k_is); (case l7 => k_is); (case c7 => k_is); (case k7 => k_is); (case a8 => k_is); (case l8 => k_is); (case c8 => k_is); (case k8 => k_is); (case a9 => k_is); (case l9 => k_is); (case c9 => k_is); (case k9 => k_is); (case a10 => k_is); (case l10 => k_is); (case c10 => k_is); (case k10 => k_is); (case a11 => k_is); (case l11 => k_is); (case c11 => k_is); (case k11 => k_is); (case z0 => k_is); (case z1 => k_is); (case z2 => k_is); (case z3 => k_is); (case z4 => k_is); (case z5 => k_is); (case z6 => k_is)
