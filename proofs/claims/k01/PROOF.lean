import PyProof.Rows.All
import Wide.All
import OpenK.AllK
import Wide.FinOn
import HandS.ForMost
import HandS.IsInst
import HandS.Wide
import HandS.Style
import HandS.Walk
import HandS.Text
import HandS.StrMore
import PyProof.EqAt
import KE.KIntText
import PySem.Challenge.RW_goneunseen_k01_names_integers_terms_rows
set_option Elab.async false
set_option linter.all false
set_option maxRecDepth 100000
/-! ### of our own, for every law: what the dice are, what stays, a few rules -/
namespace Kit
open PySem PySem.Spec PyProof.Rows L2
/-- the dice: a list of three ints -/
def Dice (H : Hp) (d : Addr) : Prop := ∃ a b c : Int, H d = some (.lst [.int a, .int b, .int c]) ∧ 0 ≤ a ∧ a.natAbs < 2 ^ 2200
/-- all that stood stands, but for the dice -/
def Keep (d : Addr) (H H' : Hp) : Prop := (∀ b o, b ≠ d → H b = some o → H' b = some o) ∧ Dice H' d
theorem Keep.trans {d : Addr} {H H1 H2 : Hp} (a : Keep d H H1) (b : Keep d H1 H2) : Keep d H H2 :=
  ⟨fun x o hx h => b.1 x o hx (a.1 x o hx h), b.2⟩
theorem Keep.refl {d : Addr} {H : Hp} (h : Dice H d) : Keep d H H := ⟨fun _ _ _ h => h, h⟩
theorem Dice.same {d : Addr} {H H1 : Hp} (h : Dice H d) (s : Same H H1) : Dice H1 d := by
  obtain ⟨a, b, c, e, r⟩ := h
  exact ⟨a, b, c, s _ _ e, r⟩
theorem Keep.of_same {d : Addr} {H H1 : Hp} (s : Same H H1) (h : Dice H d) : Keep d H H1 := ⟨fun b o _ e => s b o e, h.same s⟩
theorem Keep.same {d : Addr} {H H1 H2 : Hp} (k : Keep d H H1) (s : Same H1 H2) : Keep d H H2 := k.trans (.of_same s k.2)
theorem same_upd {H : Hp} {p : Addr} {o : HO} (h : H p = none) : Same H (upd H p o) := fun b x e => by
  rw [upd_ne (ne_of_none e h)]
  exact e
theorem Dice.ne_of {d p : Addr} {H : Hp} (h : Dice H d) (n : H p = none) : p ≠ d := fun e => by
  obtain ⟨a, b, c, x, _⟩ := h
  rw [e, x] at n
  cases n
/-- a thing of our own is stored anew -/
theorem Keep.put {d p : Addr} {H H1 : Hp} {o : HO} (k : Keep d H H1) (n : H p = none) (hp : p ≠ d) : Keep d H (upd H1 p o) := by
  refine ⟨fun b x hb e => ?_, ?_⟩
  · rw [upd_ne (ne_of_none e n)]
    exact k.1 b x hb e
  · obtain ⟨a, b, c, e, r⟩ := k.2
    exact ⟨a, b, c, by rw [upd_ne (Ne.symm hp)]; exact e, r⟩
theorem Keep.lst {d p : Addr} {H H1 : Hp} {xs : List V} (k : Keep d H H1) (hp : p ≠ d) (h : H p = some (.lst xs)) : H1 p = some (.lst xs) := k.1 _ _ hp h
theorem Keep.some {d p : Addr} {H H1 : Hp} {o : HO} (k : Keep d H H1) (hp : p ≠ d) (h : H p = some o) : H1 p = some o := k.1 _ _ hp h

section
variable {X : Cx}
/-- a power whose size is known -/
theorem op_powW : OpR X (binaryOp .Pow) (rI (fun i j => 0 ≤ j ∧ (Builtin.Int.intBits i : Int) * j ≤ 2 ^ 27) fun i j => .int (i ^ j.toNat)) := opI fun _ _ _ _ _ _ _ hc q => pow_int hc.1 hc.2 q
def rEqNil (K : PySem.W.Frag) : R2 := fun x y H Q => ∃ p q xs, x = .ref p ∧ y = .ref q ∧ SqL K H p xs ∧ SqL K H q [] ∧ Q (.bl xs.isEmpty) H
/-- a list of anything == [] -/
theorem op_eqNil (hu : X.A.units + 64 < cLine) : OpR X (compareOp .Eq) (rEqNil X.K) := by
  intro pins s σ H x y v u Q I rx ry h
  obtain ⟨p, q, xs, rfl, rfl, hp, hq, k⟩ := h
  cases rx
  cases ry
  cases xs with
  | nil => exact op_eqD hu pins s σ H (.ref p) (.ref q) _ _ Q I rfl rfl ⟨.list [], .list [], .lst hp .nil, .lst hq .nil, rfl, rfl, k⟩
  | cons z zs =>
    obtain ⟨its, rv, hl, _⟩ := I.list hp
    obtain ⟨its2, rv2, hl2, _⟩ := I.list hq
    cases rv2
    cases rv with
    | cons r1 r2 =>
      refine SeqAt.eq_list_lengthsAt hl.isList hl2.isList ?_ (by omega) ⟨.bl _, H, I, rfl, k⟩
      simp

/-- a rest, told by its bounds -/
def rMod : R2 := fun x y H Q => ∃ i j : Int, x = .int i ∧ y = .int j ∧ 0 < j ∧ ∀ r : Int, 0 ≤ r → r < j → r = i % j → Q (.int r) H
theorem op_modB : OpR X (binaryOp .Mod) rMod := by
  intro pins s σ H x y v u Q I rx ry h
  obtain ⟨i, j, rfl, rfl, hj, q⟩ := h
  exact op_mod pins s σ H _ _ v u Q I rx ry ⟨i, j, rfl, rfl, hj, q (i % j) (Int.emod_nonneg _ (by omega)) (Int.emod_lt_of_pos _ hj) rfl⟩
/-- a or b, a and b of two truths, the second one leaving all as it is: one way -/
def tOrB (ta tb : TE) : TE := fun σ H Q => ta σ H fun x H1 => ∃ c d : Bool, x = .bl c ∧ (c = false → tb σ H1 fun y H2 => y = .bl d ∧ H2 = H1) ∧ Q (.bl (c || d)) H1
def tAndB (ta tb : TE) : TE := fun σ H Q => ta σ H fun x H1 => ∃ c d : Bool, x = .bl c ∧ (c = true → tb σ H1 fun y H2 => y = .bl d ∧ H2 = H1) ∧ Q (.bl (c && d)) H1
def tMono (ta : TE) : TE := fun σ H Q => ∃ R : VK, ta σ H R ∧ ∀ x H', R x H' → Q x H'
theorem pe_mono {a : Expr} {ta : TE} (ha : PE X a ta) : PE X a (tMono ta) := ⟨fun pins s σ H Q I h => by
  obtain ⟨R, h1, h2⟩ := h
  exact thn (ha.run pins s σ H R I h1) fun v s1 ⟨x, H1, I1, r1, q1⟩ => ⟨x, H1, I1, r1, h2 x H1 q1⟩⟩
theorem pe_orB {a b : Expr} {ta tb : TE} {pos : Pos} (ha : PE X a ta) (hb : PE X b tb) : PE X (.BoolOp .Or [a, b] pos) (tOrB ta tb) := ⟨fun pins s σ H Q I h => by
  refine (pe_or (pe_mono ha) (pe_one (pe_mono hb))).run pins s σ H Q I ⟨_, h, fun x H1 r => ?_⟩
  obtain ⟨c, d, rfl, hd, q⟩ := r
  refine ⟨c, rfl, ?_⟩
  cases c with
  | true => exact iteT q
  | false => exact iteF ⟨_, hd rfl, fun y H2 ⟨e1, e2⟩ => by rw [e1, e2]; exact q⟩⟩
theorem pe_andB {a b : Expr} {ta tb : TE} {pos : Pos} (ha : PE X a ta) (hb : PE X b tb) : PE X (.BoolOp .And [a, b] pos) (tAndB ta tb) := ⟨fun pins s σ H Q I h => by
  refine (pe_and (pe_mono ha) (pe_one (pe_mono hb))).run pins s σ H Q I ⟨_, h, fun x H1 r => ?_⟩
  obtain ⟨c, d, rfl, hd, q⟩ := r
  refine ⟨c, rfl, ?_⟩
  cases c with
  | true => exact iteT ⟨_, hd rfl, fun y H2 ⟨e1, e2⟩ => by rw [e1, e2]; exact q⟩
  | false => exact iteF q⟩
def tMonoT (t : TT) : TT := fun σ H Q => ∃ R : Bool → Hp → Prop, t σ H R ∧ ∀ c H', R c H' → Q c H'
theorem pt_mono {a : Expr} {t : TT} (ha : PT X a t) : PT X a (tMonoT t) := ⟨fun pins s σ H Q I h => by
  obtain ⟨R, h1, h2⟩ := h
  exact thn (ha.run pins s σ H R I h1) fun b s1 ⟨H1, I1, q1⟩ => ⟨H1, I1, h2 b H1 q1⟩⟩
/-- a if t else b, the ways leaving all as it is: one way -/
def tIfB (t : TT) (ta tb : TE) : TE := fun σ H Q => t σ H fun c H1 => ∃ v, (c = true → ta σ H1 fun y H2 => y = v ∧ H2 = H1) ∧ (c = false → tb σ H1 fun y H2 => y = v ∧ H2 = H1) ∧ Q v H1
theorem pe_ifB {c a b : Expr} {t : TT} {ta tb : TE} {pos : Pos} (hc : PT X c t) (ha : PE X a ta) (hb : PE X b tb) : PE X (.IfExp c a b pos) (tIfB t ta tb) := ⟨fun pins s σ H Q I h => by
  refine (pe_ifExp (pt_mono hc) (pe_mono ha) (pe_mono hb)).run pins s σ H Q I ⟨_, h, fun x H1 r => ?_⟩
  obtain ⟨v, h1, h2, q⟩ := r
  cases x with
  | true => exact iteT ⟨_, h1 rfl, fun y H2 ⟨e1, e2⟩ => by rw [e1, e2]; exact q⟩
  | false => exact iteF ⟨_, h2 rfl, fun y H2 ⟨e1, e2⟩ => by rw [e1, e2]; exact q⟩⟩
def rNeNil (K : PySem.W.Frag) : R2 := fun x y H Q => ∃ p q xs, x = .ref p ∧ y = .ref q ∧ SqL K H p xs ∧ SqL K H q [] ∧ Q (.bl (!xs.isEmpty)) H
/-- a list of anything != [] -/
theorem op_neNil (hu : X.A.units + 64 < cLine) : OpR X (compareOp .NotEq) (rNeNil X.K) := by
  intro pins s σ H x y v u Q I rx ry h
  obtain ⟨p, q, xs, rfl, rfl, hp, hq, k⟩ := h
  cases rx
  cases ry
  cases xs with
  | nil => exact op_neD hu pins s σ H (.ref p) (.ref q) _ _ Q I rfl rfl ⟨.list [], .list [], .lst hp .nil, .lst hq .nil, rfl, rfl, k⟩
  | cons z zs =>
    obtain ⟨its, rv, hl, _⟩ := I.list hp
    obtain ⟨its2, rv2, hl2, _⟩ := I.list hq
    cases rv2
    cases rv with
    | cons r1 r2 =>
      exact SeqAt.RcNeAt.lists_lengths hl.isList hl2.isList (by simp) (by omega) X.prog X.w X.xe _ ⟨.bl _, H, I, rfl, k⟩
end
/-- an item at a place that is there -/
theorem ixN_of {n : Nat} {i : Int} (h0 : 0 ≤ i) (h1 : i < n) : ixN n i = some i.toNat := by
  unfold ixN
  rw [if_pos h0, if_pos (by omega)]
theorem at_lt {α : Type} {xs : List α} {i : Int} (h0 : 0 ≤ i) (h1 : i < xs.length) : ∃ v, atI xs i = some v ∧ v ∈ xs := by
  have h : i.toNat < xs.length := by omega
  refine ⟨xs[i.toNat], ?_, List.getElem_mem h⟩
  unfold atI
  rw [ixN_of h0 h1]
  show xs[i.toNat]? = _
  exact List.getElem?_eq_getElem h
theorem sput {H H1 : Hp} {p : Addr} {o : HO} (s : Same H H1) (n : H p = none) : Same H (upd H1 p o) := fun b x e => by
  rw [upd_ne (ne_of_none e n)]
  exact s b x e
theorem snew {H H1 : Hp} {p : Addr} {o : HO} (s : Same H H1) (n : H1 p = none) : Same H (upd H1 p o) := s.trans (same_upd n)
theorem Keep.free {d p : Addr} {H H1 : Hp} (k : Keep d H H1) (n : H1 p = none) : H p = none := by
  cases e : H p with
  | none => rfl
  | some o =>
    by_cases hp : p = d
    · obtain ⟨a, b, c, x, _⟩ := k.2
      rw [hp, x] at n
      cases n
    · rw [k.1 _ _ hp e] at n
      cases n
/-- a comprehension whose test and element leave all as it stood (but for new things): what it makes -/
theorem lc_pure {α : Type} {J : It} {n : Nat} {G : Hp → Prop} {Y : Nat → Hp → V → Hp → Prop} (w : Walk J n G Y) {k : Nat} {tt : TT} {te : TE} {vs : List Nat} {σ : L2.St} {H : Hp} {D : Addr} {Qd : Hp → Prop}
    (hD : H D = none) (xs : List α) (val : α → V) (p : α → Bool) (f : α → V) (hn : xs.length = n) (hsz : n ≤ 1000) (hk : k ∈ vs)
    (hG : ∀ H1, Same H H1 → G H1) (hY : ∀ i H1 x H', Same H H1 → Y i H1 x H' → H' = H1 ∧ ∃ a, xs[i]? = some a ∧ x = val a)
    (ht : ∀ a H1, a ∈ xs → Same H H1 → ∀ Q : Bool → Hp → Prop, (∀ H2, Same H1 H2 → Q (p a) H2) → tt ((wipe σ vs).set k (some (val a))) H1 Q)
    (he : ∀ a H1, a ∈ xs → p a = true → Same H H1 → ∀ Q : VK, (∀ H2, Same H1 H2 → Q (f a) H2) → te ((wipe σ vs).set k (some (val a))) H1 Q)
    (hw : ∀ x, wipe ((wipe σ vs).set k (some x)) vs = wipe σ vs)
    (hd : ∀ H1, Same H H1 → H1 D = some (.lst ((xs.filter p).map f)) → Qd H1) :
    ∃ W : Nat → Nat → Hp → Prop, (∃ m, W 0 m (upd H D (.lst []))) ∧ ∀ i m H, W i m H →
      (J.stop i H ∧ Qd H) ∨ (J.go i H ∧ ∃ Nx : Hp → Prop, (∀ H', Nx H' → ∃ m', m' < m ∧ W (i + 1) m' H') ∧ ∀ x H', J.yld i H x H' → gName k x (wipe σ vs) H' fun σ2 H2 => wipe σ2 vs = wipe σ vs ∧ tt σ2 H2 fun b H3 =>
        if b = true then te σ2 H3 fun y H4 => ∃ acc, H4 D = some (.lst acc) ∧ acc.length < sizeLine ∧ Nx (upd H4 D (.lst (acc ++ [y]))) else Nx H3) := by
  have step : ∀ {i : Nat} {a : α}, xs[i]? = some a → (xs.take (i + 1)).filter p = (xs.take i).filter p ++ (if p a = true then [a] else []) := fun {i a} e => by
    rw [List.take_add_one, e, List.filter_append]
    show _ ++ List.filter p [a] = _
    rw [List.filter_cons]
    rfl
  refine lc_it w (g := gName k) (fun i H1 => Same H H1 ∧ H1 D = some (.lst (((xs.take i).filter p).map f))) ⟨same_upd hD, by rw [upd_same]; rfl⟩ (fun i H1 _ h => hG H1 h.1) (fun i x H1 H' hi h y => ?_) fun H1 h => hd H1 h.1 (by rw [h.2, List.take_of_length_le (by omega)])
  obtain ⟨s1, e1⟩ := h
  obtain ⟨rfl, a, ea, rfl⟩ := hY i H1 x H' s1 y
  have ma : a ∈ xs := List.mem_of_getElem? ea
  refine ⟨hw _, ht a _ ma s1 _ fun H2 s2 => ?_⟩
  cases hp : p a with
  | true =>
    refine iteT (he a H2 ma hp (s1.trans s2) _ fun H3 s3 => ⟨_, s3 _ _ (s2 _ _ e1), ?_, ?_⟩)
    · rw [List.length_map]
      exact Nat.lt_of_le_of_lt (Nat.le_trans (List.length_filter_le _ _) (List.length_take_le _ _)) (small1000 (by omega))
    · refine ⟨sput ((s1.trans s2).trans s3) hD, ?_⟩
      rw [upd_same, step ea, hp, if_pos rfl, List.map_append]
      rfl
  | false =>
    refine iteF ⟨s1.trans s2, ?_⟩
    rw [s2 _ _ e1, step ea, hp, if_neg Bool.false_ne_true, List.append_nil]
theorem yesT {σ : L2.St} {H : Hp} {A B : Hp → Prop} (h : A H) : tYes σ H (fun b H3 => if b = true then A H3 else B H3) := show (if true = true then A H else B H) from iteT h
theorem joinL_nil : ∀ ps : List (List Nat), TL.joinL [] ps = ps.flatten
  | [] => rfl
  | [p] => by
    show p = _
    simp
  | p :: q :: r => by
    show p ++ ([] ++ TL.joinL [] (q :: r)) = _
    rw [List.nil_append, joinL_nil (q :: r), List.flatten_cons (l := p)]
theorem join_len (ys : List Str) : (Txt.join "" ys).length = (ys.map (·.length)).sum := by
  have e : (Txt.join "" ys).cps.toList = (ys.map TL.tl).flatten := by
    rw [TL.join_eq]
    have h := TL.tl_join "" ys
    rw [show TL.tl "" = [] by decide +kernel, joinL_nil] at h
    exact h
  have e2 := congrArg List.length e
  rw [Array.length_toList, List.length_flatten, List.map_map] at e2
  exact e2
theorem sum_ones : ∀ ys : List Str, (∀ y ∈ ys, y.length = 1) → (ys.map (·.length)).sum = ys.length
  | [], _ => rfl
  | y :: ys, h => by
    rw [List.map_cons, List.sum_cons, sum_ones ys fun z hz => h z (List.mem_cons_of_mem _ hz), h y (List.mem_cons_self ..), List.length_cons]
    omega
theorem filt_all {α : Type} (xs : List α) : xs.filter (fun _ => true) = xs := List.filter_eq_self.2 fun _ _ => rfl
theorem all_filt {α : Type} (p : α → Bool) : ∀ xs : List α, xs.all p = (xs.filter fun x => !p x).isEmpty
  | [] => rfl
  | x :: xs => by
    rw [List.all_cons, List.filter_cons]
    cases h : p x with
    | true =>
      rw [if_neg (by simp), Bool.true_and]
      exact all_filt p xs
    | false => simp
theorem abs_nat (i : Int) : (if i < 0 then -i else i) = ((i.natAbs : Nat) : Int) := by
  split <;> omega
theorem sz_of {n : Nat} (h : n ≤ 100000) : n ≤ sizeLine := Nat.le_trans h (by decide)
theorem nb {b : Bool} (h : (!b) = true) : b = false := by
  cases b with
  | false => rfl
  | true => cases h
theorem nnb {b : Bool} (h : ¬ (!b) = true) : b = true := by
  cases b with
  | true => rfl
  | false => exact absurd rfl h
theorem nt {b : Bool} (h : ¬ b = true) : b = false := by
  cases b with
  | false => rfl
  | true => exact absurd rfl h
/-- how long a number's text is -/
theorem numlen (m : Nat) : (Str.ofString (toString ((m : Nat) : Int))).length = (Nat.toDigits 10 m).length := by
  have e := congrArg List.length (PySem.W.KIN.signs_num m)
  rw [List.length_map, Array.length_toList] at e
  exact e
theorem numlen21 (m : Nat) : ((Str.ofString (toString ((m : Nat) : Int))).length < 21) ↔ m < 100000000000000000000 := by
  rw [numlen]
  have h := Nat.length_toDigits_le_iff (b := 10) (n := m) (k := 20) (by decide) (by decide)
  have e : (10 : Nat) ^ 20 = 100000000000000000000 := by decide
  rw [e] at h
  omega
end Kit
-- CUT
-- HEAD namespace K01
-- HEAD open PySem PySem.Spec PyProof.Rows L2 Kit
-- HEAD section
-- HEAD variable {P : Program} {w : World} {K : PySem.W.Frag} {mg : Str → Option Value} {base : Heap}
-- FOOT end
-- FOOT end K01
namespace K01
open PySem PySem.Spec PyProof.Rows L2 Kit
def topS (i : Nat) : Stmt := PySem.Challenge.pw_goneunseen_k01_names_integers_terms_rows.main.body.getD i (.Pass ⟨0, 0, 0, 0⟩)
abbrev s_is_name : Stmt := topS 5
theorem sc_is_name : FnScope ["value"] ["value"] (defScope s_is_name) := ⟨rfl, rfl, rfl, by decide +kernel, rfl, by decide +kernel, by decide +kernel⟩
abbrev s_is_whole : Stmt := topS 6
theorem sc_is_whole : FnScope ["value"] ["value"] (defScope s_is_whole) := ⟨rfl, rfl, rfl, by decide +kernel, rfl, by decide +kernel, by decide +kernel⟩
abbrev s_is_integer : Stmt := topS 7
theorem sc_is_integer : FnScope ["value"] ["value"] (defScope s_is_integer) := ⟨rfl, rfl, rfl, by decide +kernel, rfl, by decide +kernel, by decide +kernel⟩
abbrev s_is_term : Stmt := topS 8
theorem sc_is_term : FnScope ["value"] ["value"] (defScope s_is_term) := ⟨rfl, rfl, rfl, by decide +kernel, rfl, by decide +kernel, by decide +kernel⟩
abbrev s_is_row : Stmt := topS 9
theorem sc_is_row : FnScope ["value", "part"] ["value"] (defScope s_is_row) := ⟨rfl, rfl, rfl, by decide +kernel, rfl, by decide +kernel, by decide +kernel⟩
abbrev s_l_dice : Stmt := topS 11
theorem sc_l_dice : FnScope ["_law_script", "_law_spot", "_law_cell", "_law_great", "_law_blend"] ["_law_script", "_law_spot"] (defScope s_l_dice) := ⟨rfl, rfl, rfl, by decide +kernel, rfl, by decide +kernel, by decide +kernel⟩
abbrev s_l_roll : Stmt := topS 12
theorem sc_l_roll : FnScope ["_law_dice_here", "_law_upto", "_law_found", "_law_one", "_law_two"] ["_law_dice_here", "_law_upto"] (defScope s_l_roll) := ⟨rfl, rfl, rfl, by decide +kernel, rfl, by decide +kernel, by decide +kernel⟩
abbrev s_l_pick : Stmt := topS 13
theorem sc_l_pick : FnScope ["_law_dice_here", "_law_items"] ["_law_dice_here", "_law_items"] (defScope s_l_pick) := ⟨rfl, rfl, rfl, by decide +kernel, rfl, by decide +kernel, by decide +kernel⟩
abbrev s_l_signs : Stmt := topS 14
theorem sc_l_signs : FnScope ["_law_marks"] [] (defScope s_l_signs) := ⟨rfl, rfl, rfl, by decide +kernel, rfl, by decide +kernel, by decide +kernel⟩
abbrev s_l_string : Stmt := topS 15
theorem sc_l_string : FnScope ["_law_dice_here", "_law_letters", "_law_turn"] ["_law_dice_here"] (defScope s_l_string) := ⟨rfl, rfl, rfl, by decide +kernel, rfl, by decide +kernel, by decide +kernel⟩
abbrev s_l_integer : Stmt := topS 16
theorem sc_l_integer : FnScope ["_law_dice_here", "_law_some", "_law_one"] ["_law_dice_here"] (defScope s_l_integer) := ⟨rfl, rfl, rfl, by decide +kernel, rfl, by decide +kernel, by decide +kernel⟩
abbrev s_l_tuple : Stmt := topS 17
theorem sc_l_tuple : FnScope ["_law_dice_here", "_law_found", "_law_odd", "_law_turn"] ["_law_dice_here"] (defScope s_l_tuple) := ⟨rfl, rfl, rfl, by decide +kernel, rfl, by decide +kernel, by decide +kernel⟩
abbrev s_l_value : Stmt := topS 18
theorem sc_l_value : FnScope ["_law_dice_here", "_law_way"] ["_law_dice_here"] (defScope s_l_value) := ⟨rfl, rfl, rfl, by decide +kernel, rfl, by decide +kernel, by decide +kernel⟩
abbrev s_l_like_name : Stmt := topS 19
theorem sc_l_like_name : FnScope ["_law_value_here", "_law_sign"] ["_law_value_here"] (defScope s_l_like_name) := ⟨rfl, rfl, rfl, by decide +kernel, rfl, by decide +kernel, by decide +kernel⟩
abbrev s_l_like_integer : Stmt := topS 20
theorem sc_l_like_integer : FnScope ["_law_value_here"] ["_law_value_here"] (defScope s_l_like_integer) := ⟨rfl, rfl, rfl, by decide +kernel, rfl, by decide +kernel, by decide +kernel⟩
abbrev s_l_like_row : Stmt := topS 21
theorem sc_l_like_row : FnScope ["_law_value_here", "_law_one"] ["_law_value_here"] (defScope s_l_like_row) := ⟨rfl, rfl, rfl, by decide +kernel, rfl, by decide +kernel, by decide +kernel⟩
abbrev s_l_right : Stmt := topS 22
theorem sc_l_right : FnScope ["_law_value_here", "_law_name", "_law_number", "_law_due", "_law_told", "_law_one"] ["_law_value_here"] (defScope s_l_right) := ⟨rfl, rfl, rfl, by decide +kernel, rfl, by decide +kernel, by decide +kernel⟩
abbrev s_law : Stmt := topS 23
theorem sc_law : FnScope ["_law_script", "_law_spot", "_law_dice_here", "_law_turn", "_law_some", "_law_one"] ["_law_script"] (defScope s_law) := ⟨rfl, rfl, rfl, by decide +kernel, rfl, by decide +kernel, by decide +kernel⟩
structure Txt (K : PySem.W.Frag) (mg : Str → Option Value) where
  a_is_name : Addr
  fd_is_name : FuncData
  F_is_name : Fun K "is_name" "is_name" s_is_name a_is_name fd_is_name
  b_is_name : Binds K fd_is_name ["value"] []
  g_is_name : mg "is_name" = some (.ref a_is_name)
  a_is_whole : Addr
  fd_is_whole : FuncData
  F_is_whole : Fun K "is_whole" "is_whole" s_is_whole a_is_whole fd_is_whole
  b_is_whole : Binds K fd_is_whole ["value"] []
  g_is_whole : mg "is_whole" = some (.ref a_is_whole)
  a_is_integer : Addr
  fd_is_integer : FuncData
  F_is_integer : Fun K "is_integer" "is_integer" s_is_integer a_is_integer fd_is_integer
  b_is_integer : Binds K fd_is_integer ["value"] []
  g_is_integer : mg "is_integer" = some (.ref a_is_integer)
  a_is_term : Addr
  fd_is_term : FuncData
  F_is_term : Fun K "is_term" "is_term" s_is_term a_is_term fd_is_term
  b_is_term : Binds K fd_is_term ["value"] []
  g_is_term : mg "is_term" = some (.ref a_is_term)
  a_is_row : Addr
  fd_is_row : FuncData
  F_is_row : Fun K "is_row" "is_row" s_is_row a_is_row fd_is_row
  b_is_row : Binds K fd_is_row ["value"] []
  g_is_row : mg "is_row" = some (.ref a_is_row)
  a_l_dice : Addr
  fd_l_dice : FuncData
  F_l_dice : Fun K "_law_dice" "_law_dice" s_l_dice a_l_dice fd_l_dice
  b_l_dice : Binds K fd_l_dice ["_law_script", "_law_spot"] []
  g_l_dice : mg "_law_dice" = some (.ref a_l_dice)
  a_l_roll : Addr
  fd_l_roll : FuncData
  F_l_roll : Fun K "_law_roll" "_law_roll" s_l_roll a_l_roll fd_l_roll
  b_l_roll : Binds K fd_l_roll ["_law_dice_here", "_law_upto"] []
  g_l_roll : mg "_law_roll" = some (.ref a_l_roll)
  a_l_pick : Addr
  fd_l_pick : FuncData
  F_l_pick : Fun K "_law_pick" "_law_pick" s_l_pick a_l_pick fd_l_pick
  b_l_pick : Binds K fd_l_pick ["_law_dice_here", "_law_items"] []
  g_l_pick : mg "_law_pick" = some (.ref a_l_pick)
  a_l_signs : Addr
  fd_l_signs : FuncData
  F_l_signs : Fun K "_law_signs" "_law_signs" s_l_signs a_l_signs fd_l_signs
  b_l_signs : Binds K fd_l_signs [] []
  g_l_signs : mg "_law_signs" = some (.ref a_l_signs)
  a_l_string : Addr
  fd_l_string : FuncData
  F_l_string : Fun K "_law_string" "_law_string" s_l_string a_l_string fd_l_string
  b_l_string : Binds K fd_l_string ["_law_dice_here"] []
  g_l_string : mg "_law_string" = some (.ref a_l_string)
  a_l_integer : Addr
  fd_l_integer : FuncData
  F_l_integer : Fun K "_law_integer" "_law_integer" s_l_integer a_l_integer fd_l_integer
  b_l_integer : Binds K fd_l_integer ["_law_dice_here"] []
  g_l_integer : mg "_law_integer" = some (.ref a_l_integer)
  a_l_tuple : Addr
  fd_l_tuple : FuncData
  F_l_tuple : Fun K "_law_tuple" "_law_tuple" s_l_tuple a_l_tuple fd_l_tuple
  b_l_tuple : Binds K fd_l_tuple ["_law_dice_here"] []
  g_l_tuple : mg "_law_tuple" = some (.ref a_l_tuple)
  a_l_value : Addr
  fd_l_value : FuncData
  F_l_value : Fun K "_law_value" "_law_value" s_l_value a_l_value fd_l_value
  b_l_value : Binds K fd_l_value ["_law_dice_here"] []
  g_l_value : mg "_law_value" = some (.ref a_l_value)
  a_l_like_name : Addr
  fd_l_like_name : FuncData
  F_l_like_name : Fun K "_law_like_name" "_law_like_name" s_l_like_name a_l_like_name fd_l_like_name
  b_l_like_name : Binds K fd_l_like_name ["_law_value_here"] []
  g_l_like_name : mg "_law_like_name" = some (.ref a_l_like_name)
  a_l_like_integer : Addr
  fd_l_like_integer : FuncData
  F_l_like_integer : Fun K "_law_like_integer" "_law_like_integer" s_l_like_integer a_l_like_integer fd_l_like_integer
  b_l_like_integer : Binds K fd_l_like_integer ["_law_value_here"] []
  g_l_like_integer : mg "_law_like_integer" = some (.ref a_l_like_integer)
  a_l_like_row : Addr
  fd_l_like_row : FuncData
  F_l_like_row : Fun K "_law_like_row" "_law_like_row" s_l_like_row a_l_like_row fd_l_like_row
  b_l_like_row : Binds K fd_l_like_row ["_law_value_here"] []
  g_l_like_row : mg "_law_like_row" = some (.ref a_l_like_row)
  a_l_right : Addr
  fd_l_right : FuncData
  F_l_right : Fun K "_law_right" "_law_right" s_l_right a_l_right fd_l_right
  b_l_right : Binds K fd_l_right ["_law_value_here"] []
  g_l_right : mg "_law_right" = some (.ref a_l_right)
  a_law : Addr
  fd_law : FuncData
  F_law : Fun K "law" "law" s_law a_law fd_law
  b_law : Binds K fd_law ["_law_script"] []
  g_law : mg "law" = some (.ref a_law)
  t_LONGEST_NAME : Tok
  m_LONGEST_NAME : mg "_LONGEST_NAME" = some (.int 8 t_LONGEST_NAME)
  t_TOO_GREAT : Tok
  m_TOO_GREAT : mg "_TOO_GREAT" = some (.int 100000000000000000000 t_TOO_GREAT)
  t_TOO_SMALL : Tok
  m_TOO_SMALL : mg "_TOO_SMALL" = some (.int (-100000000000000000000) t_TOO_SMALL)
  t_WIDEST_ROW : Tok
  m_WIDEST_ROW : mg "_WIDEST_ROW" = some (.int 4 t_WIDEST_ROW)
  n_isinstance : mg "isinstance" = none
  n_str : mg "str" = none
  n_len : mg "len" = none
  n_int : mg "int" = none
  n_bool : mg "bool" = none
  n_tuple : mg "tuple" = none
  n_max : mg "max" = none
  n_abs : mg "abs" = none
  n_range : mg "range" = none
  n_list : mg "list" = none
  n_min : mg "min" = none
/-! ### what is worth what -/
def LET : Str := "abcdefghijklmnopqrstuvwxyz"
def nameB : V → Bool
  | .str z => decide (1 ≤ (z.length : Int)) && decide ((z.length : Int) ≤ 8) && z.cps.toList.all fun c => decide (c ∈ LET.cps.toList)
  | _ => false
def wholeB : V → Bool
  | .int _ => true
  | _ => false
def intB : V → Bool
  | .int i => decide (-100000000000000000000 < i) && decide (i < 100000000000000000000)
  | _ => false
def rowL (xs : List V) : Bool := decide (1 ≤ (xs.length : Int)) && decide ((xs.length : Int) ≤ 4) && xs.all intB
/-- an item of a tuple -/
inductive Item (H : Hp) : V → Prop where
  | non : Item H .non
  | bl (b : Bool) : Item H (.bl b)
  | int (i : Int) (h : i.natAbs < 10 ^ 45) : Item H (.int i)
  | str (z : Str) : Item H (.str z)
  | lst {a : Addr} {xs : List V} (e : H a = some (.lst xs)) : Item H (.ref a)
  | tup {a : Addr} {xs : List V} (e : H a = some (.tup xs)) : Item H (.ref a)
  | dK {a : Addr} {kvs : List (Key × V)} (e : H a = some (.dK kvs)) : Item H (.ref a)
/-- a value that is asked of -/
inductive Good (H : Hp) : V → Prop where
  | non : Good H .non
  | bl (b : Bool) : Good H (.bl b)
  | int (i : Int) (h : i.natAbs < 10 ^ 45) : Good H (.int i)
  | str (z : Str) (h : z.length ≤ 1000) : Good H (.str z)
  | lst {a : Addr} {xs : List V} (e : H a = some (.lst xs)) : Good H (.ref a)
  | tup {a : Addr} {xs : List V} (e : H a = some (.tup xs)) (h : ∀ x ∈ xs, Item H x) : Good H (.ref a)
  | dK {a : Addr} {kvs : List (Key × V)} (e : H a = some (.dK kvs)) : Good H (.ref a)
theorem nameB_str (z : Str) : nameB (.str z) = (decide (1 ≤ (z.length : Int)) && decide ((z.length : Int) ≤ 8) && z.cps.toList.all fun c => decide (c ∈ LET.cps.toList)) := rfl
theorem intB_int (i : Int) : intB (.int i) = (decide (-100000000000000000000 < i) && decide (i < 100000000000000000000)) := rfl
theorem Good.item {H : Hp} {v : V} (g : Good H v) : Item H v := by
  cases g with
  | non => exact .non
  | bl b => exact .bl b
  | int i h => exact .int i h
  | str z h => exact .str z
  | lst e => exact .lst e
  | tup e h => exact .tup e
  | dK e => exact .dK e
theorem Item.same {H H1 : Hp} {v : V} (s : Same H H1) (g : Item H v) : Item H1 v := by
  cases g with
  | non => exact .non
  | bl b => exact .bl b
  | int i h => exact .int i h
  | str z => exact .str z
  | lst e => exact .lst (s _ _ e)
  | tup e => exact .tup (s _ _ e)
  | dK e => exact .dK (s _ _ e)
theorem Good.same {H H1 : Hp} {v : V} (s : Same H H1) (g : Good H v) : Good H1 v := by
  cases g with
  | non => exact .non
  | bl b => exact .bl b
  | int i h => exact .int i h
  | str z h => exact .str z h
  | lst e => exact .lst (s _ _ e)
  | tup e h => exact .tup (s _ _ e) fun x hx => (h x hx).same s
  | dK e => exact .dK (s _ _ e)
theorem Item.keep {d : Addr} {H H1 : Hp} {v : V} (k : Keep d H H1) (hd : Dice H d) (g : Item H v) : Item H1 v := by
  obtain ⟨a, b, c, e0, _⟩ := hd
  obtain ⟨a1, b1, c1, e1, _⟩ := k.2
  cases g with
  | non => exact .non
  | bl b => exact .bl b
  | int i h => exact .int i h
  | str z => exact .str z
  | @lst x xs e =>
    by_cases hx : x = d
    · subst hx
      exact .lst e1
    · exact .lst (k.1 _ _ hx e)
  | tup e => exact .tup (k.1 _ _ (fun z => by rw [z, e0] at e; cases e) e)
  | dK e => exact .dK (k.1 _ _ (fun z => by rw [z, e0] at e; cases e) e)
theorem Good.keep {d : Addr} {H H1 : Hp} {v : V} (k : Keep d H H1) (hd : Dice H d) (g : Good H v) : Good H1 v := by
  obtain ⟨a, b, c, e0, _⟩ := id hd
  obtain ⟨a1, b1, c1, e1, _⟩ := k.2
  cases g with
  | non => exact .non
  | bl b => exact .bl b
  | int i h => exact .int i h
  | str z h => exact .str z h
  | @lst x xs e =>
    by_cases hx : x = d
    · subst hx
      exact .lst e1
    · exact .lst (k.1 _ _ hx e)
  | tup e h => exact .tup (k.1 _ _ (fun z => by rw [z, e0] at e; cases e) e) fun x hx => (h x hx).keep k hd
  | dK e => exact .dK (k.1 _ _ (fun z => by rw [z, e0] at e; cases e) e)
/-- whether what stands there is a row -/
def rowB (H : Hp) : V → Bool
  | .ref a => match H a with
    | some (.tup xs) => rowL xs
    | _ => false
  | _ => false
def isiB : V → Bool
  | .int _ => true
  | .bl _ => true
  | _ => false
def isbB : V → Bool
  | .bl _ => true
  | _ => false
def issB : V → Bool
  | .str _ => true
  | _ => false
def tupB (H : Hp) : V → Bool
  | .ref a => match H a with
    | some (.tup _) => true
    | _ => false
  | _ => false
theorem ty_int {K : PySem.W.Frag} {H : Hp} {v : V} (g : Item H v) : ∃ t, TyX K H v t ∧ PySem.W.kitOne K t (.type "int") = some (isiB v) := by
  cases g with
  | non  => exact ⟨_, .base .non, kit_ty (r := false) (by decide +kernel)⟩
  | bl b => exact ⟨_, .base (.bl b), kit_ty (r := true) (by decide +kernel)⟩
  | int i h => exact ⟨_, .base (.int i), kit_ty (r := true) (by decide +kernel)⟩
  | str z => exact ⟨_, .base (.str z), kit_ty (r := false) (by decide +kernel)⟩
  | lst e => exact ⟨_, .base (.lst e), kit_ty (r := false) (by decide +kernel)⟩
  | tup e => exact ⟨_, .base (.tup e), kit_ty (r := false) (by decide +kernel)⟩
  | dK e => exact ⟨_, .base (.dK e), kit_ty (r := false) (by decide +kernel)⟩
theorem ty_bool {K : PySem.W.Frag} {H : Hp} {v : V} (g : Item H v) : ∃ t, TyX K H v t ∧ PySem.W.kitOne K t (.type "bool") = some (isbB v) := by
  cases g with
  | non  => exact ⟨_, .base .non, kit_ty (r := false) (by decide +kernel)⟩
  | bl b => exact ⟨_, .base (.bl b), kit_ty (r := true) (by decide +kernel)⟩
  | int i h => exact ⟨_, .base (.int i), kit_ty (r := false) (by decide +kernel)⟩
  | str z => exact ⟨_, .base (.str z), kit_ty (r := false) (by decide +kernel)⟩
  | lst e => exact ⟨_, .base (.lst e), kit_ty (r := false) (by decide +kernel)⟩
  | tup e => exact ⟨_, .base (.tup e), kit_ty (r := false) (by decide +kernel)⟩
  | dK e => exact ⟨_, .base (.dK e), kit_ty (r := false) (by decide +kernel)⟩
theorem ty_str {K : PySem.W.Frag} {H : Hp} {v : V} (g : Item H v) : ∃ t, TyX K H v t ∧ PySem.W.kitOne K t (.type "str") = some (issB v) := by
  cases g with
  | non  => exact ⟨_, .base .non, kit_ty (r := false) (by decide +kernel)⟩
  | bl b => exact ⟨_, .base (.bl b), kit_ty (r := false) (by decide +kernel)⟩
  | int i h => exact ⟨_, .base (.int i), kit_ty (r := false) (by decide +kernel)⟩
  | str z => exact ⟨_, .base (.str z), kit_ty (r := true) (by decide +kernel)⟩
  | lst e => exact ⟨_, .base (.lst e), kit_ty (r := false) (by decide +kernel)⟩
  | tup e => exact ⟨_, .base (.tup e), kit_ty (r := false) (by decide +kernel)⟩
  | dK e => exact ⟨_, .base (.dK e), kit_ty (r := false) (by decide +kernel)⟩
theorem ty_tuple {K : PySem.W.Frag} {H : Hp} {v : V} (g : Item H v) : ∃ t, TyX K H v t ∧ PySem.W.kitOne K t (.type "tuple") = some (tupB H v) := by
  cases g with
  | non  => exact ⟨_, .base .non, kit_ty (r := false) (by decide +kernel)⟩
  | bl b => exact ⟨_, .base (.bl b), kit_ty (r := false) (by decide +kernel)⟩
  | int i h => exact ⟨_, .base (.int i), kit_ty (r := false) (by decide +kernel)⟩
  | str z => exact ⟨_, .base (.str z), kit_ty (r := false) (by decide +kernel)⟩
  | lst e => exact ⟨_, .base (.lst e), by simp only [tupB, e]; exact kit_ty (r := false) (by decide +kernel)⟩
  | tup e => exact ⟨_, .base (.tup e), by simp only [tupB, e]; exact kit_ty (r := true) (by decide +kernel)⟩
  | dK e => exact ⟨_, .base (.dK e), by simp only [tupB, e]; exact kit_ty (r := false) (by decide +kernel)⟩
section
variable {P : Program} {w : World} {K : PySem.W.Frag} {mg : Str → Option Value} {base : Heap}
/-! ### the program's defs -/
/-- letters alone, told by the three methods of strings -/
theorem let_low : ∀ c, c < 128 → (PySem.Unicode.isAlpha c && !(PySem.Unicode.isUpper c || PySem.Unicode.isTitle c)) = decide (c ∈ LET.cps.toList) := by decide +kernel
theorem let_small : ∀ c ∈ LET.cps.toList, c < 128 := by decide +kernel
theorem low_low : ∀ c ∈ LET.cps.toList, PySem.Unicode.isLower c = true := by decide +kernel
theorem nameB_met {z : Str} (h1 : 1 ≤ z.length) (h8 : z.length ≤ 8) : nameB (.str z) = (Txt.isascii z && Txt.isalpha z && Txt.islower z) := by
  rw [nameB_str, decide_eq_true (show 1 ≤ (z.length : Int) by omega), decide_eq_true (show (z.length : Int) ≤ 8 by omega), Bool.true_and, Bool.true_and]
  show _ = (z.cps.all (fun c => decide (c < 128)) && (decide (z.length > 0) && z.cps.all PySem.Unicode.isAlpha) && (z.cps.any PySem.Unicode.isLower && !z.cps.any fun c => PySem.Unicode.isUpper c || PySem.Unicode.isTitle c))
  rw [decide_eq_true (show z.length > 0 by omega), Bool.true_and, ← Array.all_toList, ← Array.all_toList, ← Array.any_toList, ← Array.any_toList, Bool.eq_iff_iff]
  simp only [Bool.and_eq_true, List.all_eq_true, Bool.not_eq_true', List.any_eq_false, List.any_eq_true, decide_eq_true_eq]
  constructor
  · intro h
    have h0 : ∀ c ∈ z.cps.toList, (PySem.Unicode.isAlpha c && !(PySem.Unicode.isUpper c || PySem.Unicode.isTitle c)) = true := fun c hc => by
      rw [let_low c (let_small c (h c hc))]
      exact decide_eq_true (h c hc)
    refine ⟨⟨fun c hc => let_small c (h c hc), fun c hc => (Bool.and_eq_true _ _ ▸ h0 c hc).1⟩, ?_, fun c hc => ?_⟩
    · have hz : 0 < z.cps.toList.length := by
        rw [Array.length_toList]
        exact h1
      exact ⟨z.cps.toList[0], List.getElem_mem hz, low_low _ (h _ (List.getElem_mem hz))⟩
    · have k := h0 c hc
      rw [Bool.and_eq_true] at k
      have k2 := nb k.2
      rw [k2]
      exact Bool.false_ne_true
  · rintro ⟨⟨h1, h2⟩, _, h3⟩ c hc
    have k := let_low c (h1 c hc)
    have k3 : (PySem.Unicode.isUpper c || PySem.Unicode.isTitle c) = false := nt (h3 c hc)
    rw [h2 c hc, k3] at k
    exact of_decide_eq_true k.symm
def sp_is_name (K : PySem.W.Frag) : Sp := fun vs H Q _ => ∃ v, vs = [v] ∧ Good H v ∧ ∀ H', Same H H' → Q (.bl (nameB v)) H'
theorem ok_is_name (T : Txt K mg) : FnOk P w K mg base CX0 1 T.a_is_name T.fd_is_name ["value"] (sp_is_name K) := by
  refine T.F_is_name.ok sc_is_name (fun vs H Q E h => ?_) (fun cdv A outer s H vs Q E hr h => ?_)
  · obtain ⟨v, rfl, _⟩ := h
    rfl
  · obtain ⟨v, rfl, hv, q⟩ := h
    refine ⟨_, (pss_cons (ps_if (PW.pt (pw_or (pt_not (pt_val (pe_callB call_isi (by rfl) T.n_isinstance (by decide +kernel) (pa_cons (pv 0) (pa_cons (pe_bltn (v := .ty "str") (by rfl) T.n_str (by decide +kernel) rfl) pa_nil))))) (pw_or1 (pt_not (pt_chain op_le op_le pe_int (pe_callB call_len_str (by rfl) T.n_len (by decide +kernel) (pa_cons (pv 0) pa_nil)) (pe_glob (v := .int 8) rfl T.m_LONGEST_NAME ⟨_, rfl⟩)))))) (pss_one (ps_ret pe_bl)) pss_nil)
      (pss_one (ps_ret (pe_and (pe_bm0 PySem.F.plainAttrs_str PySem.F.slot_str_isascii PySem.F.type_str_isascii mt_isascii (pv 0)) (pe_and (pe_bm0 PySem.F.plainAttrs_str PySem.F.slot_str_isalpha PySem.F.type_str_isalpha mt_isalpha (pv 0)) (pe_one (pe_bm0 PySem.F.plainAttrs_str PySem.F.slot_str_islower PySem.F.type_str_islower mt_islower (pv 0)))))))), ?_⟩
    obtain ⟨t, ht, hk⟩ := ty_str (K := K) hv.item
    refine ⟨v, rfl, v, .ty "str", t, _, _, rfl, .ty "str", ht, hk, _, rfl, ?_⟩
    cases hv with
    | str z hz =>
      refine iteF ⟨.str z, rfl, z, rfl, sz_of (by omega), 1, (z.length : Int), rfl, rfl, _, rfl, ite2 (fun e1 => ?_) (fun e1 => ?_)⟩
      · refine ⟨_, _, rfl, rfl, _, rfl, ite2 (fun e2 => ?_) (fun e2 => ?_)⟩
        · have n : nameB (.str z) = false := by
            have e3 : decide ((z.length : Int) ≤ 8) = false := nb e2
            rw [nameB_str, e3, Bool.and_false, Bool.false_and]
          have r := q H (.refl H)
          rw [n] at r
          exact r
        · have h1 : 1 ≤ (z.length : Int) := of_decide_eq_true e1
          have h8 : (z.length : Int) ≤ 8 := of_decide_eq_true (nnb e2)
          have r := q H (.refl H)
          rw [nameB_met (by omega) (by omega)] at r
          refine ⟨.str z, rfl, rfl, z, rfl, rfl, trivial, _, rfl, ite2 (fun e3 => ?_) (fun e3 => ?_)⟩
          · rw [e3, Bool.true_and] at r
            refine ⟨.str z, rfl, rfl, z, rfl, rfl, trivial, _, rfl, ite2 (fun e4 => ?_) (fun e4 => ?_)⟩
            · rw [e4, Bool.true_and] at r
              exact ⟨.str z, rfl, rfl, z, rfl, rfl, trivial, r⟩
            · have e5 : Txt.isalpha z = false := nt e4
              rw [e5, Bool.false_and] at r
              exact r
          · have e5 : Txt.isascii z = false := nt e3
            rw [e5, Bool.false_and, Bool.false_and] at r
            exact r
      · refine ⟨_, rfl, iteT ?_⟩
        have n : nameB (.str z) = false := by
          have e3 : decide (1 ≤ (z.length : Int)) = false := nt e1
          rw [nameB_str, e3]
          rfl
        have r := q H (.refl H)
        rw [n] at r
        exact r
    | _ => exact iteT (q H (.refl H))
def sp_is_whole (K : PySem.W.Frag) : Sp := fun vs H Q _ => ∃ v, vs = [v] ∧ Item H v ∧ Q (.bl (wholeB v)) H
theorem ok_is_whole (T : Txt K mg) : FnOk P w K mg base CX0 1 T.a_is_whole T.fd_is_whole ["value"] (sp_is_whole K) := by
  refine T.F_is_whole.ok sc_is_whole (fun vs H Q E h => ?_) (fun cdv A outer s H vs Q E hr h => ?_)
  · obtain ⟨v, rfl, _⟩ := h
    rfl
  · obtain ⟨v, rfl, hv, q⟩ := h
    refine ⟨_, (pss_one (ps_ret (pe_and (pe_callB call_isi (by rfl) T.n_isinstance (by decide +kernel) (pa_cons (pv 0) (pa_cons (pe_bltn (v := .ty "int") (by rfl) T.n_int (by decide +kernel) rfl) pa_nil))) (pe_one (pe_not (pe_callB call_isi (by rfl) T.n_isinstance (by decide +kernel) (pa_cons (pv 0) (pa_cons (pe_bltn (v := .ty "bool") (by rfl) T.n_bool (by decide +kernel) rfl) pa_nil)))))))), ?_⟩
    obtain ⟨t, ht, hk⟩ := ty_int (K := K) hv
    obtain ⟨t2, ht2, hk2⟩ := ty_bool (K := K) hv
    refine ⟨v, rfl, v, .ty "int", t, _, _, rfl, .ty "int", ht, hk, _, rfl, ?_⟩
    cases hv with
    | int i hi => exact iteT ⟨.int i, rfl, .int i, .ty "bool", t2, _, _, rfl, .ty "bool", ht2, hk2, _, rfl, q⟩
    | bl b => exact iteT ⟨.bl b, rfl, .bl b, .ty "bool", t2, _, _, rfl, .ty "bool", ht2, hk2, _, rfl, q⟩
    | _ => exact iteF q
def sp_is_wholeI (K : PySem.W.Frag) : Sp := fun vs H Q _ => ∃ i : Int, vs = [.int i] ∧ Q (.bl true) H
theorem ok_is_wholeI (T : Txt K mg) : FnOk P w K mg base CX0 1 T.a_is_whole T.fd_is_whole ["value"] (sp_is_wholeI K) := by
  refine T.F_is_whole.ok sc_is_whole (fun vs H Q E h => ?_) (fun cdv A outer s H vs Q E hr h => ?_)
  · obtain ⟨i, rfl, _⟩ := h
    rfl
  · obtain ⟨i, rfl, q⟩ := h
    refine ⟨_, (pss_one (ps_ret (pe_and (pe_callB call_isi (by rfl) T.n_isinstance (by decide +kernel) (pa_cons (pv 0) (pa_cons (pe_bltn (v := .ty "int") (by rfl) T.n_int (by decide +kernel) rfl) pa_nil))) (pe_one (pe_not (pe_callB call_isi (by rfl) T.n_isinstance (by decide +kernel) (pa_cons (pv 0) (pa_cons (pe_bltn (v := .ty "bool") (by rfl) T.n_bool (by decide +kernel) rfl) pa_nil)))))))), ?_⟩
    have t1 : TyX K H (.int i) (.type "int") := .base (.int i)
    exact ⟨.int i, rfl, .int i, .ty "int", _, _, true, rfl, .ty "int", t1, kit_ty (by decide +kernel), _, rfl, iteT ⟨.int i, rfl, .int i, .ty "bool", _, _, false, rfl, .ty "bool", t1, kit_ty (by decide +kernel), _, rfl, q⟩⟩
def sp_is_integer (K : PySem.W.Frag) : Sp := fun vs H Q _ => ∃ v, vs = [v] ∧ Item H v ∧ Q (.bl (intB v)) H
theorem ok_is_integer (T : Txt K mg) : FnOk P w K mg base CX0 2 T.a_is_integer T.fd_is_integer ["value"] (sp_is_integer K) := by
  have G_is_whole : FnOk P w K mg base CX0 1 T.a_is_whole T.fd_is_whole ["value"] (sp_is_whole K) := ok_is_whole T
  refine T.F_is_integer.ok sc_is_integer (fun vs H Q E h => ?_) (fun cdv A outer s H vs Q E hr h => ?_)
  · obtain ⟨v, rfl, _⟩ := h
    rfl
  · obtain ⟨v, rfl, hv, q⟩ := h
    refine ⟨_, (pss_one (ps_ret (pe_and (pe_call G_is_whole (hr.mono (by decide)) (by rfl) T.g_is_whole T.F_is_whole.kp T.b_is_whole .nil pass0 (pa_cons (pv 0) pa_nil)) (pe_one (pe_chain op_lt op_lt (pe_glob (v := .int (-100000000000000000000)) rfl T.m_TOO_SMALL ⟨_, rfl⟩) (pv 0) (pe_glob (v := .int 100000000000000000000) rfl T.m_TOO_GREAT ⟨_, rfl⟩)))))), ?_⟩
    refine ⟨v, rfl, v, rfl, hv, _, rfl, ?_⟩
    cases hv with
    | int i hi =>
      refine iteT ⟨.int i, rfl, _, _, rfl, rfl, _, rfl, ite2 (fun e1 => ?_) (fun e1 => ?_)⟩
      · refine ⟨_, _, rfl, rfl, ?_⟩
        have n : intB (.int i) = decide (i < 100000000000000000000) := by
          rw [intB_int, e1, Bool.true_and]
        rw [n] at q
        exact q
      · have n : intB (.int i) = false := by
          have e3 : decide (-100000000000000000000 < i) = false := nt e1
          rw [intB_int, e3, Bool.false_and]
        rw [n] at q
        exact q
    | _ => exact iteF q
theorem rowB_of {H : Hp} {a : Addr} {xs : List V} (e : H a = some (.tup xs)) : rowB H (.ref a) = rowL xs := by
  unfold rowB
  simp only [e]
/-- what is asked of a row, by the one who goes through it -/
def sp_is_row (K : PySem.W.Frag) : Sp := fun vs H Q _ => ∃ v, vs = [v] ∧ Good H v ∧ ∀ H', Same H H' → Q (.bl (rowB H v)) H'
theorem ok_is_row (T : Txt K mg) : FnOk P w K mg base CX0 3 T.a_is_row T.fd_is_row ["value"] (sp_is_row K) := by
  have G_is_integer : FnOk P w K mg base CX0 2 T.a_is_integer T.fd_is_integer ["value"] (sp_is_integer K) := ok_is_integer T
  refine T.F_is_row.ok sc_is_row (fun vs H Q E h => ?_) (fun cdv A outer s H vs Q E hr h => ?_)
  · obtain ⟨v, rfl, _⟩ := h
    rfl
  · obtain ⟨v, rfl, hv, q⟩ := h
    refine ⟨_, (pss_cons (ps_if (PW.pt (pw_or (pt_not (pt_val (pe_callB call_isi (by rfl) T.n_isinstance (by decide +kernel) (pa_cons (pv 0) (pa_cons (pe_bltn (v := .ty "tuple") (by rfl) T.n_tuple (by decide +kernel) rfl) pa_nil))))) (pw_or1 (pt_not (pt_chain op_le op_le pe_int (pe_callB call_len_seq (by rfl) T.n_len (by decide +kernel) (pa_cons (pv 0) pa_nil)) (pe_glob (v := .int 4) rfl T.m_WIDEST_ROW ⟨_, rfl⟩)))))) (pss_one (ps_ret pe_bl)) pss_nil)
      (pss_cons (ps_for PassesOwn.never rfl (pi_tup (pv 0)) (pg_name (i := 1) sc_is_row.nd rfl (.inl rfl)) (pss_one (ps_if (PW.pt (pw_or (pt_not (pt_val (pe_callB call_isi (by rfl) T.n_isinstance (by decide +kernel) (pa_cons (pv 1) (pa_cons (pe_bltn (v := .ty "int") (by rfl) T.n_int (by decide +kernel) rfl) pa_nil))))) (pw_or (pt_val (pe_callB call_isi (by rfl) T.n_isinstance (by decide +kernel) (pa_cons (pv 1) (pa_cons (pe_bltn (v := .ty "bool") (by rfl) T.n_bool (by decide +kernel) rfl) pa_nil)))) (pw_or1 (pt_not (pt_chain op_lt op_lt (pe_glob (v := .int (-100000000000000000000)) rfl T.m_TOO_SMALL ⟨_, rfl⟩) (pv 1) (pe_glob (v := .int 100000000000000000000) rfl T.m_TOO_GREAT ⟨_, rfl⟩))))))) (pss_one (ps_ret pe_bl)) pss_nil)))
      (pss_one (ps_ret pe_bl)))), ?_⟩
    obtain ⟨t, ht, hk⟩ := ty_tuple (K := K) hv.item
    refine ⟨v, rfl, v, .ty "tuple", t, _, _, rfl, .ty "tuple", ht, hk, _, rfl, ?_⟩
    cases hv with
    | @tup a xs ea hx =>
      have nr := rowB_of ea
      have tb : tupB H (.ref a) = true := by
        unfold tupB
        simp only [ea]
      rw [tb]
      refine iteF ⟨.ref a, rfl, a, xs, rfl, .inr (.of ea), 1, (xs.length : Int), rfl, rfl, _, rfl, ite2 (fun e1 => ?_) (fun e1 => ?_)⟩
      · refine ⟨_, _, rfl, rfl, _, rfl, ite2 (fun e2 => ?_) (fun e2 => ?_)⟩
        · have e3 : decide ((xs.length : Int) ≤ 4) = false := nb e2
          have r := q H (.refl H)
          rw [nr] at r
          unfold rowL at r
          rw [e3, Bool.and_false, Bool.false_and] at r
          exact r
        · have e3 : decide ((xs.length : Int) ≤ 4) = true := nnb e2
          have r := q H (.refl H)
          rw [nr] at r
          unfold rowL at r
          rw [e1, e3, Bool.true_and, Bool.true_and] at r
          refine ⟨.ref a, rfl, a, rfl, ⟨_, .of ea⟩, for_tup (K := K) (a := a) (xs := xs) (fun i σ H1 => H1 = H ∧ (xs.take i).all intB = true ∧ ∃ y, σ = [some (.ref a), y]) ⟨rfl, rfl, _, rfl⟩ (fun i σ H1 _ h => by rw [h.1]; exact .of ea) (fun i x σ H1 ex h => ?_) (fun σ H1 h => ?_)⟩
          · obtain ⟨rfl, ha, y, rfl⟩ := h
            have mx := List.mem_of_getElem? ex
            have hxx := hx x mx
            have st : (xs.take (i + 1)).all intB = ((xs.take i).all intB && intB x) := by
              rw [List.take_add_one, ex, List.all_append]
              simp
            have no : intB x = false → Q (.bl false) H1 := fun e => by
              have e9 : xs.all intB = false := by
                rw [List.all_eq_false]
                exact ⟨x, mx, by rw [e]; exact Bool.false_ne_true⟩
              rw [e9] at r
              exact r
            obtain ⟨t, ht, hk⟩ := ty_int (K := K) hxx
            obtain ⟨t2, ht2, hk2⟩ := ty_bool (K := K) hxx
            refine ⟨x, rfl, x, .ty "int", t, _, _, rfl, .ty "int", ht, hk, _, rfl, ?_⟩
            cases x with
            | int j =>
              refine iteF ⟨.int j, rfl, .int j, .ty "bool", t2, _, _, rfl, .ty "bool", ht2, hk2, _, rfl, iteF ⟨.int j, rfl, _, _, rfl, rfl, _, rfl, ite2 (fun c1 => ?_) (fun c1 => ?_)⟩⟩
              · refine ⟨_, _, rfl, rfl, _, rfl, ite2 (fun c2 => ?_) (fun c2 => ?_)⟩
                · refine no ?_
                  rw [intB_int, c1, Bool.true_and]
                  exact nb c2
                · refine ⟨rfl, ?_, _, rfl⟩
                  rw [st, ha, Bool.true_and, intB_int, c1, Bool.true_and]
                  exact nnb c2
              · refine ⟨_, rfl, iteT (no ?_)⟩
                have c3 : decide (-100000000000000000000 < j) = false := nt c1
                rw [intB_int, c3, Bool.false_and]
            | bl b => exact iteF ⟨.bl b, rfl, .bl b, .ty "bool", t2, _, _, rfl, .ty "bool", ht2, hk2, _, rfl, iteT (no rfl)⟩
            | _ => exact iteT (no rfl)
          · obtain ⟨rfl, ha, y, rfl⟩ := h
            rw [List.take_length] at ha
            rw [ha] at r
            exact r
      · refine ⟨_, rfl, iteT ?_⟩
        have e3 : decide (1 ≤ (xs.length : Int)) = false := nt e1
        have r := q H (.refl H)
        rw [nr] at r
        unfold rowL at r
        rw [e3, Bool.false_and, Bool.false_and] at r
        exact r
    | @lst a xs e =>
      have tb : tupB H (.ref a) = false := by
        unfold tupB
        simp only [e]
      rw [tb]
      have r := q H (.refl H)
      unfold rowB at r
      simp only [e] at r
      exact iteT r
    | @dK a xs e =>
      have tb : tupB H (.ref a) = false := by
        unfold tupB
        simp only [e]
      rw [tb]
      have r := q H (.refl H)
      unfold rowB at r
      simp only [e] at r
      exact iteT r
    | _ => exact iteT (q H (.refl H))
end
section
variable {P : Program} {w : World} {K : PySem.W.Frag} {mg : Str → Option Value} {base : Heap}
def sp_is_term (K : PySem.W.Frag) : Sp := fun vs H Q _ => ∃ v, vs = [v] ∧ Good H v ∧ ∀ H', Same H H' → Q (.bl (intB v || nameB v)) H'
theorem ok_is_term (T : Txt K mg) : FnOk P w K mg base CX0 3 T.a_is_term T.fd_is_term ["value"] (sp_is_term K) := by
  have G_is_integer : FnOk P w K mg base CX0 2 T.a_is_integer T.fd_is_integer ["value"] (sp_is_integer K) := ok_is_integer T
  have G_is_name : FnOk P w K mg base CX0 1 T.a_is_name T.fd_is_name ["value"] (sp_is_name K) := ok_is_name T
  refine T.F_is_term.ok sc_is_term (fun vs H Q E h => ?_) (fun cdv A outer s H vs Q E hr h => ?_)
  · obtain ⟨v, rfl, _⟩ := h
    rfl
  · obtain ⟨v, rfl, hv, q⟩ := h
    refine ⟨_, (pss_one (ps_ret (pe_or (pe_call G_is_integer (hr.mono (by decide)) (by rfl) T.g_is_integer T.F_is_integer.kp T.b_is_integer .nil pass0 (pa_cons (pv 0) pa_nil)) (pe_one (pe_call G_is_name (hr.mono (by decide)) (by rfl) T.g_is_name T.F_is_name.kp T.b_is_name .nil pass0 (pa_cons (pv 0) pa_nil)))))), ?_⟩
    refine ⟨v, rfl, v, rfl, hv.item, _, rfl, ite2 (fun e1 => ?_) (fun e1 => ?_)⟩
    · have r := q H (.refl H)
      rw [e1, Bool.true_or] at r
      exact r
    · refine ⟨v, rfl, v, rfl, hv, fun H1 s => ?_⟩
      have r := q H1 s
      have e2 : intB v = false := nt e1
      rw [e2, Bool.false_or] at r
      exact r
/-! ### the law's own judges -/
def sp_like_name (K : PySem.W.Frag) : Sp := fun vs H Q _ => ∃ v, vs = [v] ∧ Good H v ∧ ∀ H', Same H H' → Q (.bl (nameB v)) H'
theorem ok_like_name (T : Txt K mg) : FnOk P w K mg base CX0 1 T.a_l_like_name T.fd_l_like_name ["_law_value_here"] (sp_like_name K) := by
  refine T.F_l_like_name.ok sc_l_like_name (fun vs H Q E h => ?_) (fun cdv A outer s H vs Q E hr h => ?_)
  · obtain ⟨v, rfl, _⟩ := h
    rfl
  · obtain ⟨v, rfl, hv, q⟩ := h
    refine ⟨_, (pss_cons (ps_if (PW.pt (pw_or (pt_not (pt_val (pe_callB call_isi (by rfl) T.n_isinstance (by decide +kernel) (pa_cons (pv 0) (pa_cons (pe_bltn (v := .ty "str") (by rfl) T.n_str (by decide +kernel) rfl) pa_nil))))) (pw_or (pt_cmpR op_lt (pe_callB call_len_str (by rfl) T.n_len (by decide +kernel) (pa_cons (pv 0) pa_nil)) pe_int (nomark _)) (pw_or1 (pt_cmpR op_gt (pe_callB call_len_str (by rfl) T.n_len (by decide +kernel) (pa_cons (pv 0) pa_nil)) pe_int (nomark _)))))) (pss_one (ps_ret pe_bl)) pss_nil)
      (pss_one (ps_ret (pe_cmpR (op_eqNil hr.units) (pe_lc (own := [("_law_sign", 1)]) (g := gName 1) (tt := _) rfl sc_l_like_name.nd (pi_str (pv 0)) (blkOk_by (N := ["_law_value_here", "_law_sign"]) (sc := defScope s_l_like_name) (by decide +kernel)) (fun _ _ _ _ _ => pg_name (i := 1) sc_l_like_name.nd rfl (Or.inl rfl)) (fun _ _ _ _ _ => (pts_one (pt_cmpR op_notIn_sign (pv 1) pe_str (by rfl)))) (fun _ _ _ _ _ => (pv 1))) (pe_lst pa_nil) (nomark _))))), ?_⟩
    obtain ⟨t, ht, hk⟩ := ty_str (K := K) hv.item
    refine ⟨v, rfl, v, .ty "str", t, _, _, rfl, .ty "str", ht, hk, _, rfl, ?_⟩
    cases hv with
    | str z hz =>
      refine iteF ⟨.str z, rfl, z, rfl, sz_of (by omega), (z.length : Int), 1, rfl, rfl, _, rfl, ite2 (fun e1 => ?_) (fun e1 => ?_)⟩
      · have n : nameB (.str z) = false := by
          have e2 : (z.length : Int) < 1 := of_decide_eq_true e1
          rw [nameB_str, decide_eq_false (by omega)]
          rfl
        have r := q H (.refl H)
        rw [n] at r
        exact r
      · refine ⟨.str z, rfl, z, rfl, sz_of (by omega), (z.length : Int), 8, rfl, rfl, _, rfl, ite2 (fun e2 => ?_) (fun e2 => ?_)⟩
        · have n : nameB (.str z) = false := by
            have e3 : 8 < (z.length : Int) := of_decide_eq_true e2
            rw [nameB_str, decide_eq_false (p := (z.length : Int) ≤ 8) (by omega), Bool.and_false, Bool.false_and]
          have r := q H (.refl H)
          rw [n] at r
          exact r
        · have e3 : ¬ (z.length : Int) < 1 := of_decide_eq_false (nt e1)
          have e4 : ¬ 8 < (z.length : Int) := of_decide_eq_false (nt e2)
          refine ⟨.str z, rfl, z, rfl, fun D hD => lc_pure walk_str hD z.cps.toList (fun c => .str ⟨#[c]⟩) (fun c => !decide (c ∈ LET.cps.toList)) (fun c => .str ⟨#[c]⟩) (by simp) hz (by decide) (fun _ _ => True.intro) (fun i H1 x H' s y => ?_)
            (fun c H1 hc s Q h => ⟨_, rfl, c, LET, rfl, rfl, _, rfl, h H1 (.refl H1)⟩) (fun c H1 hc _ s Q h => ⟨_, rfl, h H1 (.refl H1)⟩) (fun x => rfl) (fun H1 s e => ⟨Nat.zero_le _, fun p hp => ?_⟩)⟩
          · obtain ⟨rfl, c, hc, rfl⟩ := y
            exact ⟨rfl, c, by rw [Array.getElem?_toList]; exact hc, rfl⟩
          · have n : nameB (.str z) = ((z.cps.toList.filter fun c => !decide (c ∈ LET.cps.toList)).map fun c => V.str ⟨#[c]⟩).isEmpty := by
              rw [nameB_str, decide_eq_true (show 1 ≤ (z.length : Int) by omega), decide_eq_true (show (z.length : Int) ≤ 8 by omega), Bool.true_and, Bool.true_and, List.isEmpty_map]
              exact all_filt _ _
            refine ⟨D, p, _, rfl, rfl, .of ((same_upd hp) _ _ e), .of upd_same, ?_⟩
            rw [← n]
            exact q _ (s.trans (same_upd hp))
    | _ => exact iteT (q H (.refl H))
def sp_like_integer (K : PySem.W.Frag) : Sp := fun vs H Q _ => ∃ v, vs = [v] ∧ Item H v ∧ Q (.bl (intB v)) H
theorem ok_like_integer (T : Txt K mg) : FnOk P w K mg base CX0 1 T.a_l_like_integer T.fd_l_like_integer ["_law_value_here"] (sp_like_integer K) := by
  refine T.F_l_like_integer.ok sc_l_like_integer (fun vs H Q E h => ?_) (fun cdv A outer s H vs Q E hr h => ?_)
  · obtain ⟨v, rfl, _⟩ := h
    rfl
  · obtain ⟨v, rfl, hv, q⟩ := h
    refine ⟨_, (pss_one (ps_ret (pe_and (pe_callB call_isi (by rfl) T.n_isinstance (by decide +kernel) (pa_cons (pv 0) (pa_cons (pe_bltn (v := .ty "int") (by rfl) T.n_int (by decide +kernel) rfl) pa_nil))) (pe_and (pe_not (pe_callB call_isi (by rfl) T.n_isinstance (by decide +kernel) (pa_cons (pv 0) (pa_cons (pe_bltn (v := .ty "bool") (by rfl) T.n_bool (by decide +kernel) rfl) pa_nil)))) (pe_one (pe_cmpR op_lt (pe_callB call_len_str (by rfl) T.n_len (by decide +kernel) (pa_cons (pe_callTy call_str_int (by rfl) T.n_str (by decide +kernel) (pa_cons (pe_callB call_abs (by rfl) T.n_abs (by decide +kernel) (pa_cons (pv 0) pa_nil)) pa_nil)) pa_nil)) pe_int (nomark _))))))), ?_⟩
    obtain ⟨t, ht, hk⟩ := ty_int (K := K) hv
    obtain ⟨t2, ht2, hk2⟩ := ty_bool (K := K) hv
    refine ⟨v, rfl, v, .ty "int", t, _, _, rfl, .ty "int", ht, hk, _, rfl, ?_⟩
    cases hv with
    | int i hi =>
      refine iteT ⟨.int i, rfl, .int i, .ty "bool", t2, _, _, rfl, .ty "bool", ht2, hk2, _, rfl, _, rfl, iteT ⟨.int i, rfl, i, rfl, _, rfl, ?_, ?_⟩⟩
      · rw [abs_nat]
        exact PySem.Flt.log2_lt_of (by decide) (Nat.lt_of_lt_of_le hi (by decide))
      · refine ⟨_, rfl, sz_of ?_, _, _, rfl, rfl, ?_⟩
        · rw [abs_nat, numlen]
          have h := (Nat.length_toDigits_le_iff (b := 10) (n := i.natAbs) (k := 45) (by decide) (by decide)).mpr hi
          omega
        · have n : intB (.int i) = decide (((Str.ofString (toString (if i < 0 then -i else i))).length : Int) < 21) := by
            rw [abs_nat, intB_int, ← Bool.decide_and]
            have h := numlen21 i.natAbs
            exact decide_eq_decide.mpr (by omega)
          show Q (.bl (decide (((Str.ofString (toString (if i < 0 then -i else i))).length : Int) < 21))) H
          rw [← n]
          exact q
    | bl b => exact iteT ⟨.bl b, rfl, .bl b, .ty "bool", t2, _, _, rfl, .ty "bool", ht2, hk2, _, rfl, _, rfl, iteF q⟩
    | _ => exact iteF q
def sp_like_row (K : PySem.W.Frag) : Sp := fun vs H Q _ => ∃ v, vs = [v] ∧ Good H v ∧ ∀ H', Same H H' → Q (.bl (rowB H v)) H'
theorem ok_like_row (T : Txt K mg) : FnOk P w K mg base CX0 2 T.a_l_like_row T.fd_l_like_row ["_law_value_here"] (sp_like_row K) := by
  have G_l_like_integer : FnOk P w K mg base CX0 1 T.a_l_like_integer T.fd_l_like_integer ["_law_value_here"] (sp_like_integer K) := ok_like_integer T
  refine T.F_l_like_row.ok sc_l_like_row (fun vs H Q E h => ?_) (fun cdv A outer s H vs Q E hr h => ?_)
  · obtain ⟨v, rfl, _⟩ := h
    rfl
  · obtain ⟨v, rfl, hv, q⟩ := h
    refine ⟨_, (pss_cons (ps_if (PW.pt (pw_or (pt_not (pt_val (pe_callB call_isi (by rfl) T.n_isinstance (by decide +kernel) (pa_cons (pv 0) (pa_cons (pe_bltn (v := .ty "tuple") (by rfl) T.n_tuple (by decide +kernel) rfl) pa_nil))))) (pw_or (pt_cmpR op_lt (pe_callB call_len_seq (by rfl) T.n_len (by decide +kernel) (pa_cons (pv 0) pa_nil)) pe_int (nomark _)) (pw_or1 (pt_cmpR op_gt (pe_callB call_len_seq (by rfl) T.n_len (by decide +kernel) (pa_cons (pv 0) pa_nil)) pe_int (nomark _)))))) (pss_one (ps_ret pe_bl)) pss_nil)
      (pss_one (ps_ret (pe_cmpR (op_eqNil hr.units) (pe_lc (own := [("_law_one", 1)]) (g := gName 1) (tt := _) rfl sc_l_like_row.nd (pi_tup (pv 0)) (blkOk_by (N := ["_law_value_here", "_law_one"]) (sc := defScope s_l_like_row) (by decide +kernel)) (fun _ _ _ _ _ => pg_name (i := 1) sc_l_like_row.nd rfl (Or.inl rfl)) (fun _ _ _ _ _ => (pts_one (pt_not (pt_val (pe_call G_l_like_integer (hr.mono (by decide)) (by rfl) T.g_l_like_integer T.F_l_like_integer.kp T.b_l_like_integer .nil pass0 (pa_cons (pv 1) pa_nil)))))) (fun _ _ _ _ _ => (pv 1))) (pe_lst pa_nil) (nomark _))))), ?_⟩
    obtain ⟨t, ht, hk⟩ := ty_tuple (K := K) hv.item
    refine ⟨v, rfl, v, .ty "tuple", t, _, _, rfl, .ty "tuple", ht, hk, _, rfl, ?_⟩
    cases hv with
    | @tup a xs ea hx =>
      have nr := rowB_of ea
      have tb : tupB H (.ref a) = true := by
        unfold tupB
        simp only [ea]
      rw [tb]
      refine iteF ⟨.ref a, rfl, a, xs, rfl, .inr (.of ea), (xs.length : Int), 1, rfl, rfl, _, rfl, ite2 (fun e1 => ?_) (fun e1 => ?_)⟩
      · have e2 : (xs.length : Int) < 1 := of_decide_eq_true e1
        have r := q H (.refl H)
        rw [nr] at r
        unfold rowL at r
        rw [decide_eq_false (p := 1 ≤ (xs.length : Int)) (by omega), Bool.false_and, Bool.false_and] at r
        exact r
      · refine ⟨.ref a, rfl, a, xs, rfl, .inr (.of ea), (xs.length : Int), 4, rfl, rfl, _, rfl, ite2 (fun e2 => ?_) (fun e2 => ?_)⟩
        · have e3 : 4 < (xs.length : Int) := of_decide_eq_true e2
          have r := q H (.refl H)
          rw [nr] at r
          unfold rowL at r
          rw [decide_eq_false (p := (xs.length : Int) ≤ 4) (by omega), Bool.and_false, Bool.false_and] at r
          exact r
        · have e3 : ¬ (xs.length : Int) < 1 := of_decide_eq_false (nt e1)
          have e4 : ¬ 4 < (xs.length : Int) := of_decide_eq_false (nt e2)
          refine ⟨.ref a, rfl, a, rfl, ⟨_, .of ea⟩, fun D hD => lc_pure (walk_tup (xs := xs)) hD xs id (fun x => !intB x) id rfl (by omega) (by decide) (fun H1 s => .of (s _ _ ea)) (fun i H1 x H' s y => ?_)
            (fun c H1 hc s Q h => ⟨_, rfl, c, rfl, (hx c hc).same s, _, rfl, h H1 (.refl H1)⟩) (fun c H1 hc _ s Q h => ⟨_, rfl, h H1 (.refl H1)⟩) (fun x => rfl) (fun H1 s e => ⟨Nat.zero_le _, fun p hp => ?_⟩)⟩
          · obtain ⟨rfl, hc⟩ := y
            exact ⟨rfl, x, hc, rfl⟩
          · have r := q (upd H1 p (.lst [])) (s.trans (same_upd hp))
            rw [nr] at r
            unfold rowL at r
            rw [decide_eq_true (show 1 ≤ (xs.length : Int) by omega), decide_eq_true (show (xs.length : Int) ≤ 4 by omega), Bool.true_and, Bool.true_and, all_filt] at r
            refine ⟨D, p, _, rfl, rfl, .of ((same_upd hp) _ _ e), .of upd_same, ?_⟩
            rw [List.isEmpty_map]
            exact r
    | @lst a xs e =>
      have tb : tupB H (.ref a) = false := by
        unfold tupB
        simp only [e]
      rw [tb]
      have r := q H (.refl H)
      unfold rowB at r
      simp only [e] at r
      exact iteT r
    | @dK a xs e =>
      have tb : tupB H (.ref a) = false := by
        unfold tupB
        simp only [e]
      rw [tb]
      have r := q H (.refl H)
      unfold rowB at r
      simp only [e] at r
      exact iteT r
    | _ => exact iteT (q H (.refl H))
theorem rowB_same {H H1 : Hp} {v : V} (s : Same H H1) (g : Good H v) : rowB H1 v = rowB H v := by
  cases g with
  | lst e =>
    unfold rowB
    simp only [e, s _ _ e]
  | tup e h =>
    unfold rowB
    simp only [e, s _ _ e]
  | dK e =>
    unfold rowB
    simp only [e, s _ _ e]
  | _ => rfl
/-- two lists of truths are equal -/
theorem eqv_bools : ∀ bs : List Bool, PyData.eqvAll (bs.map PyData.bool) (bs.map PyData.bool) = true
  | [] => rfl
  | b :: bs => by
    show (PyData.eqv (.bool b) (.bool b) && PyData.eqvAll (bs.map PyData.bool) (bs.map PyData.bool)) = true
    rw [eqv_bools bs]
    show ((b == b) && true) = true
    simp
theorem dp_bools {K : PySem.W.Frag} {H : Hp} : ∀ bs : List Bool, DpAll K H (bs.map V.bl) (bs.map PyData.bool)
  | [] => .nil
  | b :: bs => .cons (.bl b) (dp_bools bs)
def sp_right (K : PySem.W.Frag) : Sp := fun vs H Q _ => ∃ v, vs = [v] ∧ Good H v ∧ ∀ H', Same H H' → Q (.bl true) H'
theorem ok_right (T : Txt K mg) : FnOk P w K mg base CX0 4 T.a_l_right T.fd_l_right ["_law_value_here"] (sp_right K) := by
  have G_l_like_name : FnOk P w K mg base CX0 1 T.a_l_like_name T.fd_l_like_name ["_law_value_here"] (sp_like_name K) := ok_like_name T
  have G_l_like_integer : FnOk P w K mg base CX0 1 T.a_l_like_integer T.fd_l_like_integer ["_law_value_here"] (sp_like_integer K) := ok_like_integer T
  have G_l_like_row : FnOk P w K mg base CX0 2 T.a_l_like_row T.fd_l_like_row ["_law_value_here"] (sp_like_row K) := ok_like_row T
  have G_is_name : FnOk P w K mg base CX0 1 T.a_is_name T.fd_is_name ["value"] (sp_is_name K) := ok_is_name T
  have G_is_integer : FnOk P w K mg base CX0 2 T.a_is_integer T.fd_is_integer ["value"] (sp_is_integer K) := ok_is_integer T
  have G_is_term : FnOk P w K mg base CX0 3 T.a_is_term T.fd_is_term ["value"] (sp_is_term K) := ok_is_term T
  have G_is_row : FnOk P w K mg base CX0 3 T.a_is_row T.fd_is_row ["value"] (sp_is_row K) := ok_is_row T
  refine T.F_l_right.ok sc_l_right (fun vs H Q E h => ?_) (fun cdv A outer s H vs Q E hr h => ?_)
  · obtain ⟨v, rfl, _⟩ := h
    rfl
  · obtain ⟨v, rfl, hv, q⟩ := h
    refine ⟨_, (pss_cons (ps_par (i := 1) (j := 2) rfl sc_l_right.nd rfl rfl (by decide) rfl rfl (pa_cons (pe_call G_l_like_name (hr.mono (by decide)) (by rfl) T.g_l_like_name T.F_l_like_name.kp T.b_l_like_name .nil pass0 (pa_cons (pv 0) pa_nil)) (pa_cons (pe_call G_l_like_integer (hr.mono (by decide)) (by rfl) T.g_l_like_integer T.F_l_like_integer.kp T.b_l_like_integer .nil pass0 (pa_cons (pv 0) pa_nil)) pa_nil)) (by rfl))
      (pss_cons (ps_set (i := 3) sc_l_right.nd rfl (.inl rfl) (pe_lst (pa_cons (pv 1) (pa_cons (pv 2) (pa_cons (pe_orB (pv 1) (pv 2)) (pa_cons (pe_call G_l_like_row (hr.mono (by decide)) (by rfl) T.g_l_like_row T.F_l_like_row.kp T.b_l_like_row .nil pass0 (pa_cons (pv 0) pa_nil)) pa_nil))))))
      (pss_cons (ps_set (i := 4) sc_l_right.nd rfl (.inl rfl) (pe_lst (pa_cons (pe_call G_is_name (hr.mono (by decide)) (by rfl) T.g_is_name T.F_is_name.kp T.b_is_name .nil pass0 (pa_cons (pv 0) pa_nil)) (pa_cons (pe_call G_is_integer (hr.mono (by decide)) (by rfl) T.g_is_integer T.F_is_integer.kp T.b_is_integer .nil pass0 (pa_cons (pv 0) pa_nil)) (pa_cons (pe_call G_is_term (hr.mono (by decide)) (by rfl) T.g_is_term T.F_is_term.kp T.b_is_term .nil pass0 (pa_cons (pv 0) pa_nil)) (pa_cons (pe_call G_is_row (hr.mono (by decide)) (by rfl) T.g_is_row T.F_is_row.kp T.b_is_row .nil pass0 (pa_cons (pv 0) pa_nil)) pa_nil))))))
      (pss_one (ps_ret (pe_and (pe_cmpR (op_eqD hr.units) (pe_lc (own := [("_law_one", 5)]) (g := gName 5) (tt := tYes) rfl sc_l_right.nd (pi_list (pv 4)) (blkOk_by (N := ["_law_value_here", "_law_name", "_law_number", "_law_due", "_law_told", "_law_one"]) (sc := defScope s_l_right) (by decide +kernel)) (fun _ _ _ _ _ => pg_name (i := 5) sc_l_right.nd rfl (Or.inl rfl)) (fun _ _ _ _ _ => pts_nil) (fun _ _ _ _ _ => (pe_cmpR op_isBl (pv 5) pe_bl (nomark _)))) (pv 3) (nomark _)) (pe_one (pe_cmpR (op_eqD hr.units) (pe_lc (own := [("_law_one", 5)]) (g := gName 5) (tt := tYes) rfl sc_l_right.nd (pi_list (pv 4)) (blkOk_by (N := ["_law_value_here", "_law_name", "_law_number", "_law_due", "_law_told", "_law_one"]) (sc := defScope s_l_right) (by decide +kernel)) (fun _ _ _ _ _ => pg_name (i := 5) sc_l_right.nd rfl (Or.inl rfl)) (fun _ _ _ _ _ => pts_nil) (fun _ _ _ _ _ => (pe_cmpR op_isBl (pv 5) pe_bl (nomark _)))) (pe_lc (own := [("_law_one", 5)]) (g := gName 5) (tt := tYes) rfl sc_l_right.nd (pi_list (pv 3)) (blkOk_by (N := ["_law_value_here", "_law_name", "_law_number", "_law_due", "_law_told", "_law_one"]) (sc := defScope s_l_right) (by decide +kernel)) (fun _ _ _ _ _ => pg_name (i := 5) sc_l_right.nd rfl (Or.inl rfl)) (fun _ _ _ _ _ => pts_nil) (fun _ _ _ _ _ => (pe_not (pv 5)))) (nomark _))))))))), ?_⟩
    -- name, number
    refine ⟨v, rfl, v, rfl, hv, fun H1 s1 => ?_⟩
    refine ⟨v, rfl, v, rfl, (hv.same s1).item, _, _, rfl, ?_⟩
    -- due
    refine ⟨_, rfl, _, rfl, _, rfl, nameB v, intB v, rfl, fun _ => ⟨_, rfl, rfl, rfl⟩, ?_⟩
    refine ⟨v, rfl, v, rfl, hv.same s1, fun H2 s2 => ⟨by show 4 ≤ sizeLine; decide, fun p hp => ?_⟩⟩
    have s3 : Same H (upd H2 p (.lst [.bl (nameB v), .bl (intB v), .bl (nameB v || intB v), .bl (rowB H1 v)])) := snew (s1.trans s2) hp
    have e3 : (upd H2 p (.lst [.bl (nameB v), .bl (intB v), .bl (nameB v || intB v), .bl (rowB H1 v)])) p = some (.lst [.bl (nameB v), .bl (intB v), .bl (nameB v || intB v), .bl (rowB H1 v)]) := upd_same
    rw [rowB_same s1 hv] at s3 e3 ⊢
    generalize upd H2 p (.lst [.bl (nameB v), .bl (intB v), .bl (nameB v || intB v), .bl (rowB H v)]) = H3 at s3 e3 ⊢
    -- told
    refine ⟨v, rfl, v, rfl, hv.same s3, fun H4 s4 => ?_⟩
    refine ⟨v, rfl, v, rfl, (hv.same (s3.trans s4)).item, ?_⟩
    refine ⟨v, rfl, v, rfl, hv.same (s3.trans s4), fun H5 s5 => ?_⟩
    refine ⟨v, rfl, v, rfl, hv.same ((s3.trans s4).trans s5), fun H6 s6 => ⟨by show 4 ≤ sizeLine; decide, fun p2 hp2 => ?_⟩⟩
    rw [rowB_same ((s3.trans s4).trans s5) hv, Bool.or_comm (intB v)]
    have bs0 : ∀ bs : List Bool, bs = [nameB v, intB v, (nameB v || intB v), rowB H v] → bs.map V.bl = [.bl (nameB v), .bl (intB v), .bl (nameB v || intB v), .bl (rowB H v)] := fun bs e => by
      rw [e]
      rfl
    generalize hbs : [nameB v, intB v, (nameB v || intB v), rowB H v] = bs at bs0
    have bs1 := bs0 bs rfl
    have bl4 : bs.length = 4 := by
      rw [← hbs]
      rfl
    have sh : ∀ cs : List Bool, cs.length = 4 → SeqAt.shaped (.list (cs.map PyData.bool)) = true := fun cs h => by
      match cs, h with
      | [a, b, c, d], _ => rfl
    rw [← bs1] at e3 ⊢
    have s7 : Same H3 (upd H6 p2 (.lst (bs.map V.bl))) := snew ((s4.trans s5).trans s6) hp2
    have e7 : (upd H6 p2 (.lst (bs.map V.bl))) p2 = some (.lst (bs.map V.bl)) := upd_same
    generalize upd H6 p2 (.lst (bs.map V.bl)) = H7 at s7 e7 ⊢
    -- the answers that are True
    refine ⟨.ref p2, rfl, p2, rfl, ⟨_, .of e7⟩, fun D hD => lc_pure (walk_list (xs := bs.map V.bl)) hD bs V.bl (fun _ => true) (fun b => .bl (decide (b = true))) (by rw [List.length_map]) (by rw [List.length_map, bl4]; decide) (by decide) (fun H1 s => .of (s _ _ e7)) (fun i H1 x H' s y => ?_)
      (fun c H1 hc s Q h => h H1 (.refl H1)) (fun c H1 hc _ s Q h => ⟨_, rfl, c, true, rfl, rfl, h H1 (.refl H1)⟩) (fun x => rfl) (fun H8 s8 e8 => ?_)⟩
    · obtain ⟨rfl, hc⟩ := y
      rw [List.getElem?_map] at hc
      obtain ⟨b, hb, rfl⟩ := Option.map_eq_some_iff.mp hc
      exact ⟨rfl, b, hb, rfl⟩
    rw [filt_all, show (bs.map fun b => V.bl (decide (b = true))) = bs.map V.bl from List.map_congr_left fun b _ => by simp] at e8
    refine ⟨.ref p, rfl, .list (bs.map PyData.bool), .list (bs.map PyData.bool), .lst (.of e8) (dp_bools bs), .lst (.of (s8 _ _ (s7 _ _ e3))) (dp_bools bs), sh bs bl4, sh bs bl4, true, ?_, iteT ?_⟩
    · exact congrArg V.bl (eqv_bools bs)
    -- the answers that are False
    refine ⟨.ref p2, rfl, p2, rfl, ⟨_, .of (s8 _ _ e7)⟩, fun D2 hD2 => lc_pure (walk_list (xs := bs.map V.bl)) hD2 bs V.bl (fun _ => true) (fun b => .bl (decide (b = false))) (by rw [List.length_map]) (by rw [List.length_map, bl4]; decide) (by decide) (fun H1 s => .of (s _ _ (s8 _ _ e7))) (fun i H1 x H' s y => ?_)
      (fun c H1 hc s Q h => h H1 (.refl H1)) (fun c H1 hc _ s Q h => ⟨_, rfl, c, false, rfl, rfl, h H1 (.refl H1)⟩) (fun x => rfl) (fun H9 s9 e9 => ?_)⟩
    · obtain ⟨rfl, hc⟩ := y
      rw [List.getElem?_map] at hc
      obtain ⟨b, hb, rfl⟩ := Option.map_eq_some_iff.mp hc
      exact ⟨rfl, b, hb, rfl⟩
    have e3' := s9 _ _ (s8 _ _ (s7 _ _ e3))
    refine ⟨.ref p, rfl, p, rfl, ⟨_, .of e3'⟩, fun D3 hD3 => lc_pure (walk_list (xs := bs.map V.bl)) hD3 bs V.bl (fun _ => true) (fun b => .bl (!b)) (by rw [List.length_map]) (by rw [List.length_map, bl4]; decide) (by decide) (fun H1 s => .of (s _ _ e3')) (fun i H1 x H' s y => ?_)
      (fun c H1 hc s Q h => h H1 (.refl H1)) (fun c H1 hc _ s Q h => ⟨_, rfl, _, rfl, h H1 (.refl H1)⟩) (fun x => rfl) (fun Ha sa ea => ?_)⟩
    · obtain ⟨rfl, hc⟩ := y
      rw [List.getElem?_map] at hc
      obtain ⟨b, hb, rfl⟩ := Option.map_eq_some_iff.mp hc
      exact ⟨rfl, b, hb, rfl⟩
    have f1 : (bs.map fun b => V.bl (decide (b = false))) = (bs.map (!·)).map V.bl := by
      rw [List.map_map]
      exact List.map_congr_left fun b _ => by cases b <;> rfl
    have f2 : (bs.map fun b => V.bl (!b)) = (bs.map (!·)).map V.bl := by
      rw [List.map_map]
      rfl
    rw [filt_all, f1] at e9
    rw [filt_all, f2] at ea
    have l4 : (bs.map (!·)).length = 4 := by rw [List.length_map, bl4]
    refine ⟨.list ((bs.map (!·)).map PyData.bool), .list ((bs.map (!·)).map PyData.bool), .lst (.of (sa _ _ e9)) (dp_bools _), .lst (.of ea) (dp_bools _), sh _ l4, sh _ l4, ?_⟩
    have r := q Ha ((((s3.trans s7).trans s8).trans s9).trans sa)
    rw [← show PyData.eqv (.list ((bs.map (!·)).map PyData.bool)) (.list ((bs.map (!·)).map PyData.bool)) = true from eqv_bools _] at r
    exact r
-- SPLIT
/-! ### the dice -/
def sp_dice (K : PySem.W.Frag) : Sp := fun vs H Q _ => ∃ (a : Addr) (ns : List Int) (i : Int), vs = [.ref a, .int i] ∧ SqL K H a (ns.map V.int) ∧ 0 ≤ i ∧ ns.length ≤ 63 ∧ ∀ d H', H d = none → Same H H' → Dice H' d → Q (.ref d) H'
theorem pow_big : ((10 : Int) ^ (59 : Int).toNat) ^ (11 : Int).toNat < 2 ^ 2160 ∧ 0 < ((10 : Int) ^ (59 : Int).toNat) ^ (11 : Int).toNat := by decide +kernel
theorem dice_a {g : Int} (h0 : 0 ≤ g) (h1 : g < ((10 : Int) ^ (59 : Int).toNat) ^ (11 : Int).toNat) {m z : Int} (e : m = if z > 0 then z else 0) (hz : z = g - (10 : Int) ^ (18 : Int).toNat) : 0 ≤ m ∧ m.natAbs < 2 ^ 2200 := by
  have h2 : (0 : Int) ≤ (10 : Int) ^ (18 : Int).toNat := by decide +kernel
  have h3 := pow_big.1
  have h4 : 0 ≤ m ∧ m ≤ g := by
    rw [e]
    split <;> omega
  refine ⟨h4.1, ?_⟩
  have h5 : m < 2 ^ 2160 := Int.lt_of_le_of_lt (Int.le_trans h4.2 (Int.le_of_lt h1)) h3
  have h6 : m.natAbs < 2 ^ 2160 := by
    have e2 : ((2 : Int) ^ 2160) = ((2 ^ 2160 : Nat) : Int) := by norm_cast
    omega
  exact Nat.lt_of_lt_of_le h6 (Nat.pow_le_pow_right (by decide) (by decide))
theorem ok_dice (T : Txt K mg) : FnOk P w K mg base CX0 1 T.a_l_dice T.fd_l_dice ["_law_script", "_law_spot"] (sp_dice K) := by
  refine T.F_l_dice.ok sc_l_dice (fun vs H Q E h => ?_) (fun cdv A outer s H vs Q E hr h => ?_)
  · obtain ⟨a, ns, i, rfl, _⟩ := h
    rfl
  · obtain ⟨a, ns, i, rfl, hS, h0, h63, q⟩ := h
    refine ⟨_, (pss_cons (ps_set (i := 2) sc_l_dice.nd rfl (.inl rfl) (pe_ifB (pt_cmpR op_lt (pv 1) (pe_callB call_len_seq (by rfl) T.n_len (by decide +kernel) (pa_cons (pv 0) pa_nil)) (nomark _)) (pe_ix ix_list (pv 0) (pv 1) (fun _ _ => rfl)) (pe_op op_add (pe_op op_mul pe_int (pv 1)) pe_int)))
      (pss_cons (ps_set (i := 3) sc_l_dice.nd rfl (.inl rfl) (pe_op op_modB (pe_callTy call_int1 (by rfl) T.n_int (by decide +kernel) (pa_cons (pe_callB call_abs (by rfl) T.n_abs (by decide +kernel) (pa_cons (pv 2) pa_nil)) pa_nil)) (pe_op op_powW (pe_op op_pow pe_int pe_int) pe_int)))
      (pss_cons (ps_set (i := 4) sc_l_dice.nd rfl (.inl rfl) (pe_op op_add (pe_op op_add (pe_op op_add (pe_op op_mul (pv 3) pe_int) (pe_op op_mul pe_int (pv 1))) (pe_op op_mul pe_int (pe_callTy call_int1 (by rfl) T.n_int (by decide +kernel) (pa_cons (pe_cmpR op_lt (pv 2) pe_int (nomark _)) pa_nil)))) pe_int))
      (pss_one (ps_ret (pe_lst (pa_cons (pe_callB (call_max2 rfl) (by rfl) T.n_max (by decide +kernel) (pa_cons pe_int (pa_cons (pe_op op_sub (pv 3) (pe_op op_pow pe_int pe_int)) pa_nil))) (pa_cons (pe_op op_modB (pe_callTy call_int1 (by rfl) T.n_int (by decide +kernel) (pa_cons (pv 4) pa_nil)) pe_int) (pa_cons pe_int pa_nil))))))))), ?_⟩
    refine ⟨_, rfl, .ref a, rfl, a, ns.map V.int, rfl, .inl hS, i, ((ns.map V.int).length : Int), rfl, rfl, _, rfl, ?_⟩
    have cell : ∃ c : Int, (decide (i < ((ns.map V.int).length : Int)) = true → atI (ns.map V.int) i = some (.int c)) ∧ (decide (i < ((ns.map V.int).length : Int)) = false → c = 41 * i + 9) := by
      cases e : decide (i < ((ns.map V.int).length : Int)) with
      | true =>
        obtain ⟨v, ev, mv⟩ := at_lt h0 (of_decide_eq_true e)
        obtain ⟨c, _, rfl⟩ := List.mem_map.mp mv
        exact ⟨c, fun _ => ev, fun z => by cases z⟩
      | false => exact ⟨41 * i + 9, fun z => (by cases z), fun _ => rfl⟩
    obtain ⟨c, c1, c2⟩ := cell
    refine ⟨.int c, fun e => ⟨.ref a, rfl, .int i, rfl, a, _, i, .int c, rfl, rfl, hS, c1 e, rfl, rfl⟩, fun e => ⟨.int i, rfl, 41, i, rfl, rfl, .inl ⟨by decide, by decide⟩, 41 * i, 9, rfl, rfl, by rw [c2 e], rfl⟩, ?_⟩
    -- great
    refine ⟨_, rfl, c, rfl, .inl ⟨_, rfl, 10, 59, rfl, rfl, ⟨by decide, by decide, by decide⟩, _, 11, rfl, rfl, ⟨by decide, by decide +kernel⟩, _, _, rfl, rfl, pow_big.2, fun g g0 g1 _ => ?_⟩⟩
    -- blend
    refine ⟨_, rfl, g, _, rfl, rfl, .inr ⟨by decide, by decide⟩, _, rfl, 83, i, rfl, rfl, .inl ⟨by decide, by decide⟩, _, _, rfl, rfl, _, rfl, c, 0, rfl, rfl, .inr ⟨_, rfl, 19, _, rfl, rfl, .inl ⟨by decide, by decide⟩, _, _, rfl, rfl, _, _, rfl, rfl, ?_⟩⟩
    refine ⟨_, rfl, 10, 18, rfl, rfl, ⟨by decide, by decide, by decide⟩, g, _, rfl, rfl, 0, _, rfl, _, rfl, .inl ⟨_, rfl, _, _, rfl, rfl, by decide, fun b b0 b1 _ => ⟨by show 3 ≤ sizeLine; decide, fun p hp => ?_⟩⟩⟩
    exact q p _ hp (same_upd hp) ⟨_, b, 0, upd_same, dice_a g0 g1 rfl rfl⟩
/-- a roll -/
def sp_roll (K : PySem.W.Frag) : Sp := fun vs H Q _ => ∃ (d : Addr) (n : Int), vs = [.ref d, .int n] ∧ Dice H d ∧ 0 < n ∧ n.natAbs < 2 ^ 5000 ∧ ∀ r H', 0 ≤ r → r < n → Keep d H H' → Q (.int r) H'
theorem Keep.dice {d : Addr} {H : Hp} {a b c : Int} (h0 : 0 ≤ a) (h1 : a.natAbs < 2 ^ 2200) : Keep d H (upd H d (.lst [.int a, .int b, .int c])) :=
  ⟨fun b o hb e => by rw [upd_ne hb]; exact e, a, b, c, upd_same, h0, h1⟩
theorem ok_roll (T : Txt K mg) : FnOk P w K mg base CX0 1 T.a_l_roll T.fd_l_roll ["_law_dice_here", "_law_upto"] (sp_roll K) := by
  refine T.F_l_roll.ok sc_l_roll (fun vs H Q E h => ?_) (fun cdv A outer s H vs Q E hr h => ?_)
  · obtain ⟨d, n, rfl, _⟩ := h
    rfl
  · obtain ⟨d, n, rfl, ⟨a, b, c, hd, a0, a1⟩, n0, n1, q⟩ := h
    refine ⟨_, (pss_cons (ps_if (pt_cmpR op_gt (pe_ix ix_list (pv 0) pe_int (fun _ _ => rfl)) pe_int (nomark _)) (pss_cons (ps_set (i := 2) sc_l_roll.nd rfl (.inl rfl) (pe_op op_modB (pe_callTy call_int1 (by rfl) T.n_int (by decide +kernel) (pa_cons (pe_ix ix_list (pv 0) pe_int (fun _ _ => rfl)) pa_nil)) (pv 1)))
      (pss_cons (ps_asg (pe_op op_fdivW (pe_ix ix_list (pv 0) pe_int (fun _ _ => rfl)) (pv 1)) (pg_sub (pv 0) pe_int set_list))
      (pss_one (ps_ret (pv 2))))) pss_nil)
      (pss_cons (ps_asg (pe_op op_add (pe_ix ix_list (pv 0) pe_int (fun _ _ => rfl)) pe_int) (pg_sub (pv 0) pe_int set_list))
      (pss_cons (ps_set (i := 3) sc_l_roll.nd rfl (.inl rfl) (pe_op op_modB (pe_callTy call_int1 (by rfl) T.n_int (by decide +kernel) (pa_cons (pe_op op_add (pe_ix ix_list (pv 0) pe_int (fun _ _ => rfl)) (pe_op op_mul pe_int (pe_ix ix_list (pv 0) pe_int (fun _ _ => rfl)))) pa_nil)) pe_int))
      (pss_cons (ps_set (i := 4) sc_l_roll.nd rfl (.inl rfl) (pe_op op_add (pe_op op_mul (pe_op op_modB (pe_callTy call_int1 (by rfl) T.n_int (by decide +kernel) (pa_cons (pe_op op_mul (pv 3) (pv 3)) pa_nil)) pe_int) (pv 3)) (pe_op op_mul pe_int (pe_ix ix_list (pv 0) pe_int (fun _ _ => rfl)))))
      (pss_one (ps_ret (pe_op op_modB (pe_callTy call_int1 (by rfl) T.n_int (by decide +kernel) (pa_cons (pe_op op_fdiv (pe_op op_modB (pe_callTy call_int1 (by rfl) T.n_int (by decide +kernel) (pa_cons (pe_op op_add (pv 4) (pe_ix ix_list (pv 0) pe_int (fun _ _ => rfl))) pa_nil)) pe_int) pe_int) pa_nil)) (pv 1)))))))), ?_⟩
    have at0 : atI [V.int a, .int b, .int c] 0 = some (.int a) := rfl
    have at1 : atI [V.int a, .int b, .int c] 1 = some (.int b) := rfl
    have at2 : atI [V.int a, .int b, .int c] 2 = some (.int c) := rfl
    refine ⟨_, rfl, d, _, 0, .int a, rfl, rfl, .of hd, at0, a, 0, rfl, rfl, _, rfl, ite2 (fun e1 => ?_) (fun e1 => ?_)⟩
    · -- found
      refine ⟨_, rfl, d, _, 0, .int a, rfl, rfl, .of hd, at0, .inl ⟨a, rfl, _, rfl, a, n, rfl, rfl, n0, fun r r0 r1 _ => ?_⟩⟩
      refine ⟨_, rfl, d, _, 0, .int a, rfl, rfl, .of hd, at0, _, rfl, a, n, rfl, rfl, wide_div n0 n1 (by decide) (by decide), _, rfl, d, _, 0, 0, rfl, rfl, hd, rfl, ?_⟩
      refine ⟨_, rfl, q r _ r0 r1 ?_⟩
      have h1 : 0 ≤ a / n := Int.ediv_nonneg a0 (by omega)
      have h2 : a / n ≤ a := Int.ediv_le_self n a0
      exact Keep.dice h1 (by omega)
    · refine ⟨_, rfl, d, _, 2, .int c, rfl, rfl, .of hd, at2, c, 1, rfl, rfl, _, rfl, d, _, 2, 2, rfl, rfl, hd, rfl, ?_⟩
      generalize hH : upd H d (.lst ([V.int a, .int b, .int c].set 2 ((fun i j => V.int (i + j)) c 1))) = H1
      have k1 : Keep d H H1 := by
        rw [← hH]
        exact Keep.dice a0 a1
      have e2 : H1 d = some (.lst [.int a, .int b, .int (c + 1)]) := by
        rw [← hH]
        exact upd_same
      refine ⟨_, rfl, d, _, 1, .int b, rfl, rfl, .of e2, rfl, _, rfl, d, _, 2, .int (c + 1), rfl, rfl, .of e2, rfl, 961748941, _, rfl, rfl, .inl ⟨by decide, by decide⟩, _, _, rfl, rfl, .inl ⟨_, rfl, _, _, rfl, rfl, by decide, fun o o0 o1 _ => ?_⟩⟩
      refine ⟨_, rfl, _, rfl, o, o, rfl, rfl, .inl ⟨by omega, by omega⟩, .inl ⟨_, rfl, _, _, rfl, rfl, by decide, fun t t0 t1 _ => ?_⟩⟩
      refine ⟨_, rfl, t, o, rfl, rfl, .inl ⟨by omega, by omega⟩, _, rfl, d, _, 2, .int (c + 1), rfl, rfl, .of e2, rfl, 7919, _, rfl, rfl, .inl ⟨by decide, by decide⟩, _, _, rfl, rfl, ?_⟩
      exact ⟨_, rfl, _, rfl, d, _, 1, .int b, rfl, rfl, .of e2, rfl, _, _, rfl, rfl, .inl ⟨_, rfl, _, _, rfl, rfl, by decide, fun u u0 u1 _ => ⟨u, 128, rfl, rfl, ⟨by decide, by decide⟩, .inl ⟨_, rfl, _, rfl, _, n, rfl, rfl, n0, fun r r0 r1 _ => q r H1 r0 r1 k1⟩⟩⟩⟩
/-- one of a list's items | a sign of a text -/
def sp_pickL (K : PySem.W.Frag) : Sp := fun vs H Q _ => ∃ (d p : Addr) (xs : List V), vs = [.ref d, .ref p] ∧ Dice H d ∧ p ≠ d ∧ H p = some (.lst xs) ∧ 0 < xs.length ∧ xs.length ≤ 1000 ∧ ∀ v H', v ∈ xs → Keep d H H' → Q v H'
def sp_pickS (K : PySem.W.Frag) : Sp := fun vs H Q _ => ∃ (d : Addr) (z : Str), vs = [.ref d, .str z] ∧ Dice H d ∧ 0 < z.length ∧ z.length ≤ 1000 ∧ ∀ c H', Keep d H H' → Q (.str ⟨#[c]⟩) H'
theorem small_b {n : Nat} (h : n ≤ 1000) : ((n : Nat) : Int).natAbs < 2 ^ 5000 := Nat.lt_of_le_of_lt (show ((n : Nat) : Int).natAbs ≤ 2 ^ 10 by simp; omega) (Nat.pow_lt_pow_right (by decide) (by decide))
theorem ok_pickL (T : Txt K mg) : FnOk P w K mg base CX0 2 T.a_l_pick T.fd_l_pick ["_law_dice_here", "_law_items"] (sp_pickL K) := by
  have G_l_roll : FnOk P w K mg base CX0 1 T.a_l_roll T.fd_l_roll ["_law_dice_here", "_law_upto"] (sp_roll K) := ok_roll T
  refine T.F_l_pick.ok sc_l_pick (fun vs H Q E h => ?_) (fun cdv A outer s H vs Q E hr h => ?_)
  · obtain ⟨d, p, xs, rfl, _⟩ := h
    rfl
  · obtain ⟨d, p, xs, rfl, hd, hp, e, x0, x1, q⟩ := h
    refine ⟨_, (pss_one (ps_ret (pe_ix ix_seq (pv 1) (pe_call G_l_roll (hr.mono (by decide)) (by rfl) T.g_l_roll T.F_l_roll.kp T.b_l_roll .nil pass0 (pa_cons (pv 0) (pa_cons (pe_callB call_len (by rfl) T.n_len (by decide +kernel) (pa_cons (pv 1) pa_nil)) pa_nil))) (fun _ _ => rfl)))), ?_⟩
    refine ⟨_, rfl, _, rfl, _, rfl, .ref p, xs.length, rfl, .inl ⟨xs, .of e, rfl⟩, d, xs.length, rfl, hd, by omega, small_b x1, fun r H1 r0 r1 k => ?_⟩
    obtain ⟨v, ev, mv⟩ := at_lt r0 r1
    exact .inl ⟨p, xs, r, v, rfl, rfl, .of (k.some hp e), ev, q v H1 mv k⟩
theorem ok_pickS (T : Txt K mg) : FnOk P w K mg base CX0 2 T.a_l_pick T.fd_l_pick ["_law_dice_here", "_law_items"] (sp_pickS K) := by
  have G_l_roll : FnOk P w K mg base CX0 1 T.a_l_roll T.fd_l_roll ["_law_dice_here", "_law_upto"] (sp_roll K) := ok_roll T
  refine T.F_l_pick.ok sc_l_pick (fun vs H Q E h => ?_) (fun cdv A outer s H vs Q E hr h => ?_)
  · obtain ⟨d, z, rfl, _⟩ := h
    rfl
  · obtain ⟨d, z, rfl, hd, x0, x1, q⟩ := h
    refine ⟨_, (pss_one (ps_ret (pe_ix ix_seq (pv 1) (pe_call G_l_roll (hr.mono (by decide)) (by rfl) T.g_l_roll T.F_l_roll.kp T.b_l_roll .nil pass0 (pa_cons (pv 0) (pa_cons (pe_callB call_len (by rfl) T.n_len (by decide +kernel) (pa_cons (pv 1) pa_nil)) pa_nil))) (fun _ _ => rfl)))), ?_⟩
    refine ⟨_, rfl, _, rfl, _, rfl, .str z, z.length, rfl, ⟨sz_of (by omega), rfl⟩, d, z.length, rfl, hd, by omega, small_b x1, fun r H1 r0 r1 k => ?_⟩
    obtain ⟨c, ec, mc⟩ := at_lt (xs := z.cps.toList) r0 (by rw [Array.length_toList]; exact r1)
    exact .inr (.inr ⟨z, r, c, rfl, rfl, sz_of (by omega), ec, q c H1 k⟩)
def sp_signs (K : PySem.W.Frag) : Sp := fun vs H Q _ => vs = [] ∧ ∀ z : Str, 0 < z.length → z.length ≤ 1000 → Q (.str z) H
theorem ok_signs (T : Txt K mg) : FnOk P w K mg base CX0 1 T.a_l_signs T.fd_l_signs [] (sp_signs K) := by
  refine T.F_l_signs.ok sc_l_signs (fun vs H Q E h => ?_) (fun cdv A outer s H vs Q E hr h => ?_)
  · obtain ⟨rfl, _⟩ := h
    rfl
  · obtain ⟨rfl, q⟩ := h
    refine ⟨_, (pss_cons (ps_set (i := 0) sc_l_signs.nd rfl (.inl rfl) pe_str)
      (pss_one (ps_ret (pe_op op_add_str (pv 0) pe_str)))), ?_⟩
    exact ⟨_, rfl, _, _, rfl, rfl, by decide +kernel, q _ (by decide +kernel) (by decide +kernel)⟩
-- SPLIT
/-! ### values that are drawn -/
theorem ABC26 : ("abcdefghijklmnopqrstuvwxyz" : Str).cps.toList.length = 26 := by decide +kernel
def sp_string (K : PySem.W.Frag) : Sp := fun vs H Q _ => ∃ d : Addr, vs = [.ref d] ∧ Dice H d ∧ ∀ z H', z.length ≤ 1000 → Keep d H H' → Q (.str z) H'
theorem ok_string (T : Txt K mg) : FnOk P w K mg base CX0 3 T.a_l_string T.fd_l_string ["_law_dice_here"] (sp_string K) := by
  have G_l_roll : FnOk P w K mg base CX0 1 T.a_l_roll T.fd_l_roll ["_law_dice_here", "_law_upto"] (sp_roll K) := ok_roll T
  have G_l_pick : FnOk P w K mg base CX0 2 T.a_l_pick T.fd_l_pick ["_law_dice_here", "_law_items"] (sp_pickS K) := ok_pickS T
  have G_l_signs : FnOk P w K mg base CX0 1 T.a_l_signs T.fd_l_signs [] (sp_signs K) := ok_signs T
  refine T.F_l_string.ok sc_l_string (fun vs H Q E h => ?_) (fun cdv A outer s H vs Q E hr h => ?_)
  · obtain ⟨d, rfl, _⟩ := h
    rfl
  · obtain ⟨d, rfl, hd, q⟩ := h
    refine ⟨_, (pss_cons (ps_setLc (i := 1) (own := [("_law_turn", 2)]) (g := gName 2) (tt := tYes) rfl sc_l_string.nd rfl rfl (sw_true rfl rfl rfl (by decide +kernel)) (pi_range1 (by rfl) T.n_range (pa_cons (pe_call G_l_roll (hr.mono (by decide)) (by rfl) T.g_l_roll T.F_l_roll.kp T.b_l_roll .nil pass0 (pa_cons (pv 0) (pa_cons pe_int pa_nil))) pa_nil)) (blkOk_by (N := ["_law_dice_here", "_law_letters", "_law_turn"]) (sc := defScope s_l_string) (by decide +kernel)) (fun _ _ _ _ _ => pg_name (i := 2) sc_l_string.nd rfl (Or.inl rfl)) (fun _ _ _ _ _ => pts_nil) (fun _ _ _ _ _ => (pe_ix ix_str pe_str (pe_call G_l_roll (hr.mono (by decide)) (by rfl) T.g_l_roll T.F_l_roll.kp T.b_l_roll .nil pass0 (pa_cons (pv 0) (pa_cons pe_int pa_nil))) (fun _ _ => rfl))))
      (pss_cons (ps_if (PW.pt (pw_and (pt_cmpR (op_neNil hr.units) (pv 1) (pe_lst pa_nil) (nomark _)) (pw_and1 (pt_cmpR op_eq (pe_call G_l_roll (hr.mono (by decide)) (by rfl) T.g_l_roll T.F_l_roll.kp T.b_l_roll .nil pass0 (pa_cons (pv 0) (pa_cons pe_int pa_nil))) pe_int (nomark _))))) (pss_one (ps_asg (pe_call G_l_pick (hr.mono (by decide)) (by rfl) T.g_l_pick T.F_l_pick.kp T.b_l_pick .nil pass0 (pa_cons (pv 0) (pa_cons (pe_call0 G_l_signs (hr.mono (by decide)) (by rfl) T.g_l_signs T.F_l_signs.kp T.b_l_signs .nil pass0) pa_nil))) (pg_sub (pv 1) (pe_call G_l_roll (hr.mono (by decide)) (by rfl) T.g_l_roll T.F_l_roll.kp T.b_l_roll .nil pass0 (pa_cons (pv 0) (pa_cons (pe_callB call_len_seq (by rfl) T.n_len (by decide +kernel) (pa_cons (pv 1) pa_nil)) pa_nil))) set_list))) pss_nil)
      (pss_one (ps_ret (pe_join pe_str (pv 1)))))), ?_⟩
    refine ⟨_, rfl, d, 10, rfl, hd, by decide, by decide +kernel, fun n H1 n0 n1 k1 => ⟨n, rfl, by omega, by omega, fun D hD => ?_⟩⟩
    have nD : H D = none := k1.free hD
    have Dd : D ≠ d := hd.ne_of nD
    refine lc_range (lo := 0) (n := n.toNat) (fun i H2 => Keep d H H2 ∧ ∃ ys : List Str, H2 D = some (.lst (ys.map V.str)) ∧ ys.length = i ∧ ∀ y ∈ ys, y.length = 1) ⟨k1.put nD Dd, [], upd_same, rfl, by simp⟩ (fun i H2 hi h2 => ?_) (fun H2 h2 => ?_)
    · obtain ⟨k2, ys, e2, l2, y2⟩ := h2
      refine ⟨rfl, yesT ⟨_, rfl, d, 26, rfl, k2.2, by decide, by decide +kernel, fun r H3 r0 r1 k3 => ?_⟩⟩
      obtain ⟨c, ec, mc⟩ := at_lt (xs := ("abcdefghijklmnopqrstuvwxyz" : Str).cps.toList) r0 (by rw [ABC26]; exact r1)
      refine ⟨"abcdefghijklmnopqrstuvwxyz", r, c, rfl, rfl, by decide +kernel, ec, _, k3.some Dd e2, ?_, (k2.trans k3).put nD Dd, ys ++ [⟨#[c]⟩], ?_, ?_, ?_⟩
      · rw [List.length_map]
        exact small1000 (by omega)
      · rw [upd_same, List.map_append]
        rfl
      · rw [List.length_append, l2]
        rfl
      · intro y hy
        rcases List.mem_append.mp hy with h | h
        · exact y2 y h
        · cases List.mem_singleton.mp h
          rfl
    · obtain ⟨k2, ys, e2, l2, y2⟩ := h2
      have fin : ∀ (H3 : Hp) (ys : List Str), Keep d H H3 → H3 D = some (.lst (ys.map V.str)) → ys.length ≤ 10 → (∀ y ∈ ys, y.length = 1) → (ys.map (·.length)).sum + ys.length * Str.length "" ≤ 16777216 ∧ Q (.str (Txt.join "" ys)) H3 := fun H3 ys k e l y => by
        have h0 : Str.length "" = 0 := by decide +kernel
        have h1 := sum_ones ys y
        rw [h0]
        exact ⟨by omega, q _ H3 (by rw [join_len]; omega) k⟩
      have l10 : ys.length ≤ 10 := by omega
      refine ⟨.ref D, rfl, Nat.zero_le _, fun p hp => ?_⟩
      have k3 := k2.same (same_upd (o := .lst []) hp)
      have e3 := (same_upd (o := .lst []) hp) _ _ e2
      refine ⟨D, p, ys.map V.str, rfl, rfl, .of e3, .of upd_same, _, rfl, ite2 (fun c1 => ?_) (fun c1 => ?_)⟩
      · refine ⟨_, rfl, d, 3, rfl, k3.2, by decide, by decide +kernel, fun r H4 r0 r1 k4 => ⟨rfl, _, rfl, ite2 (fun c2 => ?_) (fun c2 => ?_)⟩⟩
        · have k5 := k3.trans k4
          have e4 := k4.some Dd e3
          refine ⟨_, rfl, rfl, fun z z0 z1 => ⟨d, z, rfl, k5.2, z0, z1, fun c H5 k6 => ?_⟩⟩
          have k7 := k5.trans k6
          have e5 := k6.some Dd e4
          have n0 : 0 < (ys.map V.str).length := by
            cases ys with
            | nil => cases c1
            | cons _ _ => exact Nat.succ_pos _
          refine ⟨_, rfl, _, rfl, _, rfl, D, _, rfl, .inl (.of e5), d, _, rfl, k7.2, by omega, small_b (by rw [List.length_map]; omega), fun r2 H6 r20 r21 k8 => ?_⟩
          refine ⟨D, _, r2, r2.toNat, rfl, rfl, k8.some Dd e5, ixN_of r20 r21, ?_⟩
          have g := fin (upd H6 D (.lst ((ys.set r2.toNat ⟨#[c]⟩).map V.str))) (ys.set r2.toNat ⟨#[c]⟩) ((k7.trans k8).put nD Dd) upd_same (by rw [List.length_set]; exact l10) fun y hy => by
            rcases List.mem_or_eq_of_mem_set hy with h | h
            · exact y2 y h
            · rw [h]
              rfl
          rw [show (ys.set r2.toNat ⟨#[c]⟩).map V.str = (ys.map V.str).set r2.toNat (.str ⟨#[c]⟩) from List.map_set] at g
          exact ⟨⟨_, rfl⟩, _, rfl, "", D, ys.set r2.toNat ⟨#[c]⟩, rfl, rfl, .inl (.of (by rw [List.map_set]; exact upd_same)), g⟩
        · exact ⟨⟨_, rfl⟩, _, rfl, "", D, ys, rfl, rfl, .inl (.of (k4.some Dd e3)), fin _ ys (k3.trans k4) (k4.some Dd e3) l10 y2⟩
      · exact ⟨⟨_, rfl⟩, _, rfl, "", D, ys, rfl, rfl, .inl (.of e3), fin _ ys k3 e3 l10 y2⟩
/-- an int that is drawn -/
def sp_integer (K : PySem.W.Frag) : Sp := fun vs H Q _ => ∃ d : Addr, vs = [.ref d] ∧ Dice H d ∧ ∀ (i : Int) H', i.natAbs < 10 ^ 45 → Keep d H H' → Q (.int i) H'
theorem p20 : (10 : Int) ^ (20 : Int).toNat = 100000000000000000000 := by decide +kernel
theorem p20n : ((10 : Int) ^ (20 : Int).toNat).natAbs < 2 ^ 5000 := Nat.lt_of_lt_of_le (show ((10 : Int) ^ (20 : Int).toNat).natAbs < 2 ^ 100 by decide +kernel) (Nat.pow_le_pow_right (by decide) (by decide))
theorem ok_integer (T : Txt K mg) : FnOk P w K mg base CX0 3 T.a_l_integer T.fd_l_integer ["_law_dice_here"] (sp_integer K) := by
  have G_l_roll : FnOk P w K mg base CX0 1 T.a_l_roll T.fd_l_roll ["_law_dice_here", "_law_upto"] (sp_roll K) := ok_roll T
  have G_l_pick : FnOk P w K mg base CX0 2 T.a_l_pick T.fd_l_pick ["_law_dice_here", "_law_items"] (sp_pickL K) := ok_pickL T
  refine T.F_l_integer.ok sc_l_integer (fun vs H Q E h => ?_) (fun cdv A outer s H vs Q E hr h => ?_)
  · obtain ⟨d, rfl, _⟩ := h
    rfl
  · obtain ⟨d, rfl, hd, q⟩ := h
    refine ⟨_, (pss_cons (ps_set (i := 1) sc_l_integer.nd rfl (.inl rfl) (pe_lst (pa_cons pe_int (pa_cons pe_int (pa_cons (pe_op op_sub (pe_op op_pow pe_int pe_int) pe_int) (pa_cons (pe_op op_pow pe_int pe_int) (pa_cons (pe_op op_add (pe_op op_pow pe_int pe_int) pe_int) (pa_cons (pe_op op_sub (pe_op op_pow pe_int pe_int) pe_int) (pa_cons (pe_call G_l_roll (hr.mono (by decide)) (by rfl) T.g_l_roll T.F_l_roll.kp T.b_l_roll .nil pass0 (pa_cons (pv 0) (pa_cons (pe_op op_pow pe_int pe_int) pa_nil))) (pa_cons (pe_call G_l_roll (hr.mono (by decide)) (by rfl) T.g_l_roll T.F_l_roll.kp T.b_l_roll .nil pass0 (pa_cons (pv 0) (pa_cons pe_int pa_nil))) pa_nil))))))))))
      (pss_cons (ps_set (i := 2) sc_l_integer.nd rfl (.inl rfl) (pe_call G_l_pick (hr.mono (by decide)) (by rfl) T.g_l_pick T.F_l_pick.kp T.b_l_pick .nil pass0 (pa_cons (pv 0) (pa_cons (pv 1) pa_nil))))
      (pss_one (ps_ret (pe_ifExp (pt_cmpR op_eq (pe_call G_l_roll (hr.mono (by decide)) (by rfl) T.g_l_roll T.F_l_roll.kp T.b_l_roll .nil pass0 (pa_cons (pv 0) (pa_cons pe_int pa_nil))) pe_int (nomark _)) (pv 2) (pe_op op_sub pe_int (pv 2))))))), ?_⟩
    refine ⟨10, 20, rfl, rfl, ⟨by decide, by decide, by decide⟩, _, 1, rfl, rfl, 10, 20, rfl, rfl, ⟨by decide, by decide, by decide⟩, 10, 20, rfl, rfl, ⟨by decide, by decide, by decide⟩, _, 1, rfl, rfl, 10, 40, rfl, rfl, ⟨by decide, by decide, by decide⟩, _, 1, rfl, rfl, _, rfl, 10, 20, rfl, rfl, ⟨by decide, by decide, by decide⟩, d, _, rfl, hd, by decide +kernel, p20n, fun r1 H1 r10 r11 k1 => ?_⟩
    refine ⟨_, rfl, d, 9, rfl, k1.2, by decide, small_b (n := 9) (by decide), fun r2 H2 r20 r21 k2 => ⟨by show 8 ≤ sizeLine; decide, fun p hp => ?_⟩⟩
    have k3 := k1.trans k2
    have pd : p ≠ d := k2.2.ne_of hp
    refine ⟨_, rfl, _, rfl, d, p, _, rfl, k3.2.same (same_upd hp), pd, upd_same, by show 0 < 8; decide, by show 8 ≤ 1000; decide, fun v H3 mv k4 => ?_⟩
    have k5 := (k3.same (same_upd hp)).trans k4
    have hv : ∃ i : Int, v = .int i ∧ i.natAbs < 10 ^ 45 := by
      rw [p20] at r11
      simp only [List.mem_cons, List.not_mem_nil, or_false] at mv
      rcases mv with rfl | rfl | rfl | rfl | rfl | rfl | rfl | rfl
      · exact ⟨_, rfl, by decide +kernel⟩
      · exact ⟨_, rfl, by decide +kernel⟩
      · exact ⟨_, rfl, by decide +kernel⟩
      · exact ⟨_, rfl, by decide +kernel⟩
      · exact ⟨_, rfl, by decide +kernel⟩
      · exact ⟨_, rfl, by decide +kernel⟩
      · exact ⟨_, rfl, by omega⟩
      · exact ⟨_, rfl, by omega⟩
    obtain ⟨i, rfl, hi⟩ := hv
    refine ⟨_, rfl, d, 2, rfl, k5.2, by decide, small_b (n := 2) (by decide), fun r3 H4 _ _ k6 => ⟨rfl, _, rfl, ite2 (fun _ => ?_) (fun _ => ?_)⟩⟩
    · exact ⟨_, rfl, q i H4 hi (k5.trans k6)⟩
    · exact ⟨_, rfl, 0, i, rfl, rfl, q (0 - i) H4 (by omega) (k5.trans k6)⟩
theorem Item.put {H : Hp} {D : Addr} {xs ys : List V} {v : V} (e : H D = some (.lst xs)) (g : Item H v) : Item (upd H D (.lst ys)) v := by
  cases g with
  | non => exact .non
  | bl b => exact .bl b
  | int i h => exact .int i h
  | str z => exact .str z
  | @lst a zs e1 =>
    by_cases h : a = D
    · subst h
      exact .lst upd_same
    · exact .lst (by rw [upd_ne h]; exact e1)
  | @tup a zs e1 => exact .tup (by rw [upd_ne (fun h => by rw [h, e] at e1; cases e1)]; exact e1)
  | @dK a zs e1 => exact .dK (by rw [upd_ne (fun h => by rw [h, e] at e1; cases e1)]; exact e1)
/-- a tuple that is drawn -/
def sp_tuple (K : PySem.W.Frag) : Sp := fun vs H Q _ => ∃ d : Addr, vs = [.ref d] ∧ Dice H d ∧ ∀ (p : Addr) (xs : List V) H', H' p = some (.tup xs) → xs.length ≤ 1000 → (∀ x ∈ xs, Item H' x) → Keep d H H' → Q (.ref p) H'
theorem ok_tuple (T : Txt K mg) : FnOk P w K mg base CX0 4 T.a_l_tuple T.fd_l_tuple ["_law_dice_here"] (sp_tuple K) := by
  have G_l_roll : FnOk P w K mg base CX0 1 T.a_l_roll T.fd_l_roll ["_law_dice_here", "_law_upto"] (sp_roll K) := ok_roll T
  have G_l_pick : FnOk P w K mg base CX0 2 T.a_l_pick T.fd_l_pick ["_law_dice_here", "_law_items"] (sp_pickL K) := ok_pickL T
  have G_l_integer : FnOk P w K mg base CX0 3 T.a_l_integer T.fd_l_integer ["_law_dice_here"] (sp_integer K) := ok_integer T
  refine T.F_l_tuple.ok sc_l_tuple (fun vs H Q E h => ?_) (fun cdv A outer s H vs Q E hr h => ?_)
  · obtain ⟨d, rfl, _⟩ := h
    rfl
  · obtain ⟨d, rfl, hd, q⟩ := h
    refine ⟨_, (pss_cons (ps_setLc (i := 1) (own := [("_law_turn", 3)]) (g := gName 3) (tt := tYes) rfl sc_l_tuple.nd rfl rfl (sw_true rfl rfl rfl (by decide +kernel)) (pi_range1 (by rfl) T.n_range (pa_cons (pe_call G_l_roll (hr.mono (by decide)) (by rfl) T.g_l_roll T.F_l_roll.kp T.b_l_roll .nil pass0 (pa_cons (pv 0) (pa_cons pe_int pa_nil))) pa_nil)) (blkOk_by (N := ["_law_dice_here", "_law_found", "_law_odd", "_law_turn"]) (sc := defScope s_l_tuple) (by decide +kernel)) (fun _ _ _ _ _ => pg_name (i := 3) sc_l_tuple.nd rfl (Or.inl rfl)) (fun _ _ _ _ _ => pts_nil) (fun _ _ _ _ _ => (pe_call G_l_integer (hr.mono (by decide)) (by rfl) T.g_l_integer T.F_l_integer.kp T.b_l_integer .nil pass0 (pa_cons (pv 0) pa_nil))))
      (pss_cons (ps_if (PW.pt (pw_and (pt_cmpR (op_neNil hr.units) (pv 1) (pe_lst pa_nil) (nomark _)) (pw_and1 (pt_cmpR op_eq (pe_call G_l_roll (hr.mono (by decide)) (by rfl) T.g_l_roll T.F_l_roll.kp T.b_l_roll .nil pass0 (pa_cons (pv 0) (pa_cons pe_int pa_nil))) pe_int (nomark _))))) (pss_cons (ps_set (i := 2) sc_l_tuple.nd rfl (.inl rfl) (pe_call G_l_pick (hr.mono (by decide)) (by rfl) T.g_l_pick T.F_l_pick.kp T.b_l_pick .nil pass0 (pa_cons (pv 0) (pa_cons (pe_lst (pa_cons pe_bl (pa_cons pe_bl (pa_cons pe_non (pa_cons pe_str (pa_cons pe_str (pa_cons (pe_tup (pa_cons pe_int pa_nil)) (pa_cons (pe_lst (pa_cons pe_int pa_nil)) (pa_cons pe_dnewK (pa_cons (pe_tup pa_nil) (pa_cons (pe_op op_pow pe_int pe_int) pa_nil))))))))))) pa_nil))))
      (pss_one (ps_asg (pv 2) (pg_sub (pv 1) (pe_call G_l_roll (hr.mono (by decide)) (by rfl) T.g_l_roll T.F_l_roll.kp T.b_l_roll .nil pass0 (pa_cons (pv 0) (pa_cons (pe_callB call_len_seq (by rfl) T.n_len (by decide +kernel) (pa_cons (pv 1) pa_nil)) pa_nil))) set_list)))) pss_nil)
      (pss_one (ps_ret (pe_callTy call_tuple_of (by rfl) T.n_tuple (by decide +kernel) (pa_cons (pv 1) pa_nil)))))), ?_⟩
    refine ⟨_, rfl, d, 6, rfl, hd, by decide, small_b (n := 6) (by decide), fun n H1 n0 n1 k1 => ⟨n, rfl, by omega, by omega, fun D hD => ?_⟩⟩
    have nD : H D = none := k1.free hD
    have Dd : D ≠ d := hd.ne_of nD
    refine lc_range (lo := 0) (n := n.toNat) (fun i H2 => Keep d H H2 ∧ ∃ xs : List V, H2 D = some (.lst xs) ∧ xs.length = i ∧ ∀ x ∈ xs, ∃ j : Int, x = .int j ∧ j.natAbs < 10 ^ 45) ⟨k1.put nD Dd, [], upd_same, rfl, by simp⟩ (fun i H2 hi h2 => ?_) (fun H2 h2 => ?_)
    · obtain ⟨k2, xs, e2, l2, y2⟩ := h2
      refine ⟨rfl, yesT ⟨_, rfl, d, rfl, k2.2, fun j H3 hj k3 => ⟨xs, k3.some Dd e2, small1000 (by omega), (k2.trans k3).put nD Dd, xs ++ [.int j], upd_same, ?_, ?_⟩⟩⟩
      · rw [List.length_append, l2]
        rfl
      · intro y hy
        rcases List.mem_append.mp hy with h | h
        · exact y2 y h
        · exact ⟨j, List.mem_singleton.mp h, hj⟩
    · obtain ⟨k2, xs, e2, l2, y2⟩ := h2
      have l10 : xs.length ≤ 10 := by omega
      have y2' : ∀ x ∈ xs, ∀ H', Item H' x := fun x hx H' => by
        obtain ⟨j, rfl, hj⟩ := y2 x hx
        exact .int j hj
      refine ⟨.ref D, rfl, Nat.zero_le _, fun p hp => ?_⟩
      generalize hH3 : upd H2 p (.lst []) = H3
      have s3 : Same H2 H3 := by
        rw [← hH3]
        exact same_upd hp
      have ep : H3 p = some (.lst []) := by
        rw [← hH3]
        exact upd_same
      have k3 := k2.same s3
      have e3 := s3 _ _ e2
      refine ⟨D, p, xs, rfl, rfl, .of e3, .of ep, _, rfl, ite2 (fun c1 => ?_) (fun c1 => ?_)⟩
      · refine ⟨_, rfl, d, 2, rfl, k3.2, by decide, small_b (n := 2) (by decide), fun r H4 r0 r1 k4 => ⟨rfl, _, rfl, ite2 (fun c2 => ?_) (fun c2 => ?_)⟩⟩
        · have k5 := k3.trans k4
          have e4 := k4.some Dd e3
          refine ⟨_, rfl, by show 1 ≤ sizeLine; decide, fun p1 h1 => ?_⟩
          generalize hA1 : upd H4 p1 (.tup [.int 1]) = A1
          have s1 : Same H4 A1 := by
            rw [← hA1]
            exact same_upd h1
          have f1 : A1 p1 = some (.tup [.int 1]) := by
            rw [← hA1]
            exact upd_same
          refine ⟨by show 1 ≤ sizeLine; decide, fun p2 h2 => ?_⟩
          generalize hA2 : upd A1 p2 (.lst [.int 1]) = A2
          have s2 : Same A1 A2 := by
            rw [← hA2]
            exact same_upd h2
          have f2 : A2 p2 = some (.lst [.int 1]) := by
            rw [← hA2]
            exact upd_same
          refine fun p3 h3 => ?_
          generalize hA3 : upd A2 p3 (.dK []) = A3
          have s33 : Same A2 A3 := by
            rw [← hA3]
            exact same_upd h3
          have f3 : A3 p3 = some (.dK []) := by
            rw [← hA3]
            exact upd_same
          refine ⟨by decide, fun p4 h4 => ?_⟩
          generalize hA4 : upd A3 p4 (.tup []) = A4
          have s4 : Same A3 A4 := by
            rw [← hA4]
            exact same_upd h4
          have f4 : A4 p4 = some (.tup []) := by
            rw [← hA4]
            exact upd_same
          refine ⟨10, 20, rfl, rfl, ⟨by decide, by decide, by decide⟩, by show 10 ≤ sizeLine; decide, fun p5 h5 => ?_⟩
          have sA : Same H4 A4 := ((s1.trans s2).trans s33).trans s4
          have kA := k5.same sA
          refine ⟨d, p5, _, rfl, kA.2.same (same_upd h5), kA.2.ne_of h5, upd_same, by show 0 < 10; decide, by show 10 ≤ 1000; decide, fun v H5 mv k6 => ?_⟩
          have kB := (kA.same (same_upd h5)).trans k6
          have iv : Item H5 v := by
            refine Item.keep k6 (kA.2.same (same_upd h5)) (Item.same (same_upd h5) ?_)
            simp only [List.mem_cons, List.not_mem_nil, or_false] at mv
            rcases mv with rfl | rfl | rfl | rfl | rfl | rfl | rfl | rfl | rfl | rfl
            · exact .bl _
            · exact .bl _
            · exact .non
            · exact .str _
            · exact .str _
            · exact .tup (s4 _ _ (s33 _ _ (s2 _ _ f1)))
            · exact .lst (s4 _ _ (s33 _ _ f2))
            · exact .dK (s4 _ _ f3)
            · exact .tup f4
            · exact .int _ (by decide +kernel)
          have e5 : H5 D = some (.lst xs) := k6.some Dd ((same_upd h5) _ _ (sA _ _ e4))
          have n0 : 0 < xs.length := by
            cases xs with
            | nil => cases c1
            | cons _ _ => exact Nat.succ_pos _
          refine ⟨_, rfl, _, rfl, _, rfl, _, rfl, D, _, rfl, .inl (.of e5), d, _, rfl, kB.2, by omega, small_b (by omega), fun r2 H6 r20 r21 k8 => ?_⟩
          have e6 := k8.some Dd e5
          refine ⟨D, _, r2, r2.toNat, rfl, rfl, e6, ixN_of r20 r21, ?_⟩
          refine ⟨_, rfl, D, _, rfl, .inl ⟨.of upd_same, fun l hl => ?_⟩⟩
          refine q l _ _ upd_same (by rw [List.length_set]; omega) (fun x hx => ?_) (((kB.trans k8).put nD Dd).same (same_upd hl))
          refine Item.same (same_upd hl) (Item.put e6 ?_)
          rcases List.mem_or_eq_of_mem_set hx with h | h
          · exact y2' x h _
          · rw [h]
            exact iv.keep k8 kB.2
        · refine ⟨_, rfl, D, _, rfl, .inl ⟨.of (k4.some Dd e3), fun l hl => ?_⟩⟩
          exact q l _ _ upd_same (by omega) (fun x hx => y2' x hx _) ((k3.trans k4).same (same_upd hl))
      · refine ⟨_, rfl, D, _, rfl, .inl ⟨.of e3, fun l hl => ?_⟩⟩
        exact q l _ _ upd_same (by omega) (fun x hx => y2' x hx _) (k3.same (same_upd hl))
-- SPLIT
/-! ### a value of any kind, and the law -/
def sp_value (K : PySem.W.Frag) : Sp := fun vs H Q _ => ∃ d : Addr, vs = [.ref d] ∧ Dice H d ∧ ∀ v H', Good H' v → Keep d H H' → Q v H'
theorem ok_value (T : Txt K mg) : FnOk P w K mg base CX0 5 T.a_l_value T.fd_l_value ["_law_dice_here"] (sp_value K) := by
  have G_l_roll : FnOk P w K mg base CX0 1 T.a_l_roll T.fd_l_roll ["_law_dice_here", "_law_upto"] (sp_roll K) := ok_roll T
  have G_l_pick : FnOk P w K mg base CX0 2 T.a_l_pick T.fd_l_pick ["_law_dice_here", "_law_items"] (sp_pickL K) := ok_pickL T
  have G_l_string : FnOk P w K mg base CX0 3 T.a_l_string T.fd_l_string ["_law_dice_here"] (sp_string K) := ok_string T
  have G_l_integer : FnOk P w K mg base CX0 3 T.a_l_integer T.fd_l_integer ["_law_dice_here"] (sp_integer K) := ok_integer T
  have G_l_tuple : FnOk P w K mg base CX0 4 T.a_l_tuple T.fd_l_tuple ["_law_dice_here"] (sp_tuple K) := ok_tuple T
  refine T.F_l_value.ok sc_l_value (fun vs H Q E h => ?_) (fun cdv A outer s H vs Q E hr h => ?_)
  · obtain ⟨d, rfl, _⟩ := h
    rfl
  · obtain ⟨d, rfl, hd, q⟩ := h
    refine ⟨_, (pss_cons (ps_set (i := 1) sc_l_value.nd rfl (.inl rfl) (pe_call G_l_roll (hr.mono (by decide)) (by rfl) T.g_l_roll T.F_l_roll.kp T.b_l_roll .nil pass0 (pa_cons (pv 0) (pa_cons pe_int pa_nil))))
      (pss_cons (ps_if (pt_cmpR op_lt (pv 1) pe_int (nomark _)) (pss_one (ps_ret (pe_call G_l_string (hr.mono (by decide)) (by rfl) T.g_l_string T.F_l_string.kp T.b_l_string .nil pass0 (pa_cons (pv 0) pa_nil)))) pss_nil)
      (pss_cons (ps_if (pt_cmpR op_lt (pv 1) pe_int (nomark _)) (pss_one (ps_ret (pe_call G_l_integer (hr.mono (by decide)) (by rfl) T.g_l_integer T.F_l_integer.kp T.b_l_integer .nil pass0 (pa_cons (pv 0) pa_nil)))) pss_nil)
      (pss_cons (ps_if (pt_cmpR op_lt (pv 1) pe_int (nomark _)) (pss_one (ps_ret (pe_call G_l_tuple (hr.mono (by decide)) (by rfl) T.g_l_tuple T.F_l_tuple.kp T.b_l_tuple .nil pass0 (pa_cons (pv 0) pa_nil)))) pss_nil)
      (pss_cons (ps_if (pt_cmpR op_eq (pv 1) pe_int (nomark _)) (pss_one (ps_ret (pe_callTy call_list_of (by rfl) T.n_list (by decide +kernel) (pa_cons (pe_call G_l_tuple (hr.mono (by decide)) (by rfl) T.g_l_tuple T.F_l_tuple.kp T.b_l_tuple .nil pass0 (pa_cons (pv 0) pa_nil)) pa_nil)))) pss_nil)
      (pss_one (ps_ret (pe_call G_l_pick (hr.mono (by decide)) (by rfl) T.g_l_pick T.F_l_pick.kp T.b_l_pick .nil pass0 (pa_cons (pv 0) (pa_cons (pe_lst (pa_cons pe_non (pa_cons pe_bl (pa_cons pe_bl (pa_cons pe_dnewK (pa_cons (pe_disp (pps_cons pe_str pe_int pps_nil) (by rfl) (by rfl) (fun z => by cases z) (by decide)) (pa_cons (pe_lst pa_nil) (pa_cons (pe_lst (pa_cons pe_str pa_nil)) (pa_cons (pe_tup (pa_cons pe_str (pa_cons pe_str pa_nil))) (pa_cons (pe_tup (pa_cons (pe_tup (pa_cons pe_int (pa_cons pe_int pa_nil))) pa_nil)) (pa_cons (pe_lst (pa_cons (pe_lst (pa_cons pe_int pa_nil)) pa_nil)) (pa_cons (pe_disp (pps_cons pe_int pe_int pps_nil) (by rfl) (by rfl) (fun z => by cases z) (by decide)) pa_nil)))))))))))) pa_nil)))))))))), ?_⟩
    refine ⟨_, rfl, d, 8, rfl, hd, by decide, small_b (n := 8) (by decide), fun n H1 n0 n1 k1 => ?_⟩
    refine ⟨_, rfl, n, 2, rfl, rfl, _, rfl, ite2 (fun _ => ?_) (fun _ => ?_)⟩
    · exact ⟨_, rfl, d, rfl, k1.2, fun z H2 hz k2 => q _ H2 (.str z hz) (k1.trans k2)⟩
    refine ⟨_, rfl, n, 4, rfl, rfl, _, rfl, ite2 (fun _ => ?_) (fun _ => ?_)⟩
    · exact ⟨_, rfl, d, rfl, k1.2, fun i H2 hi k2 => q _ H2 (.int i hi) (k1.trans k2)⟩
    refine ⟨_, rfl, n, 6, rfl, rfl, _, rfl, ite2 (fun _ => ?_) (fun _ => ?_)⟩
    · exact ⟨_, rfl, d, rfl, k1.2, fun p xs H2 e2 l2 hx k2 => q _ H2 (.tup e2 hx) (k1.trans k2)⟩
    refine ⟨_, rfl, rfl, _, rfl, ite2 (fun _ => ?_) (fun _ => ?_)⟩
    · exact ⟨_, rfl, d, rfl, k1.2, fun p xs H2 e2 l2 hx k2 => ⟨p, xs, rfl, .inr (.of e2), fun l hl => q _ _ (.lst upd_same) ((k1.trans k2).same (same_upd hl))⟩⟩
    refine ⟨_, rfl, fun p1 h1 => ?_⟩
    generalize hA1 : upd H1 p1 (.dK []) = A1
    have s1 : Same H1 A1 := by
      rw [← hA1]
      exact same_upd h1
    have f1 : A1 p1 = some (.dK []) := by
      rw [← hA1]
      exact upd_same
    refine fun p2 h2 => ?_
    generalize hB2 : upd A1 p2 (.dK []) = B2
    have t2 : Same A1 B2 := by
      rw [← hB2]
      exact same_upd h2
    have g2 : B2 p2 = some (.dK []) := by
      rw [← hB2]
      exact upd_same
    refine ⟨g2, [(.inr "a", .int 1)], rfl, by decide, ?_⟩
    generalize hA2 : upd B2 p2 (.dK (mergeK [] [(Sum.inr "a", V.int 1)])) = A2
    have s2 : Same A1 A2 := by
      rw [← hA2]
      exact sput t2 h2
    have f2 : ∃ kvs, A2 p2 = some (.dK kvs) := ⟨_, by rw [← hA2]; exact upd_same⟩
    refine ⟨Nat.zero_le _, fun p3 h3 => ?_⟩
    generalize hA3 : upd A2 p3 (.lst []) = A3
    have s3 : Same A2 A3 := by
      rw [← hA3]
      exact same_upd h3
    have f3 : A3 p3 = some (.lst []) := by
      rw [← hA3]
      exact upd_same
    refine ⟨by show 1 ≤ sizeLine; decide, fun p4 h4 => ?_⟩
    generalize hA4 : upd A3 p4 (.lst [.str "a"]) = A4
    have s4 : Same A3 A4 := by
      rw [← hA4]
      exact same_upd h4
    have f4 : A4 p4 = some (.lst [.str "a"]) := by
      rw [← hA4]
      exact upd_same
    refine ⟨by show 2 ≤ sizeLine; decide, fun p5 h5 => ?_⟩
    generalize hA5 : upd A4 p5 (.tup [.str "a", .str "b"]) = A5
    have s5 : Same A4 A5 := by
      rw [← hA5]
      exact same_upd h5
    have f5 : A5 p5 = some (.tup [.str "a", .str "b"]) := by
      rw [← hA5]
      exact upd_same
    refine ⟨by show 2 ≤ sizeLine; decide, fun p6 h6 => ?_⟩
    generalize hA6 : upd A5 p6 (.tup [.int 1, .int 2]) = A6
    have s6 : Same A5 A6 := by
      rw [← hA6]
      exact same_upd h6
    have f6 : A6 p6 = some (.tup [.int 1, .int 2]) := by
      rw [← hA6]
      exact upd_same
    refine ⟨by show 1 ≤ sizeLine; decide, fun p7 h7 => ?_⟩
    generalize hA7 : upd A6 p7 (.tup [.ref p6]) = A7
    have s7 : Same A6 A7 := by
      rw [← hA7]
      exact same_upd h7
    have f7 : A7 p7 = some (.tup [.ref p6]) := by
      rw [← hA7]
      exact upd_same
    refine ⟨by show 1 ≤ sizeLine; decide, fun p8 h8 => ?_⟩
    generalize hA8 : upd A7 p8 (.lst [.int 1]) = A8
    have s8 : Same A7 A8 := by
      rw [← hA8]
      exact same_upd h8
    have f8 : A8 p8 = some (.lst [.int 1]) := by
      rw [← hA8]
      exact upd_same
    refine ⟨by show 1 ≤ sizeLine; decide, fun p9 h9 => ?_⟩
    generalize hA9 : upd A8 p9 (.lst [.ref p8]) = A9
    have s9 : Same A8 A9 := by
      rw [← hA9]
      exact same_upd h9
    have f9 : A9 p9 = some (.lst [.ref p8]) := by
      rw [← hA9]
      exact upd_same
    refine fun p10 h10 => ?_
    generalize hB10 : upd A9 p10 (.dK []) = B10
    have t10 : Same A9 B10 := by
      rw [← hB10]
      exact same_upd h10
    have g10 : B10 p10 = some (.dK []) := by
      rw [← hB10]
      exact upd_same
    refine ⟨g10, [(.inl 1, .int 2)], rfl, by decide, ?_⟩
    generalize hA10 : upd B10 p10 (.dK (mergeK [] [(Sum.inl 1, V.int 2)])) = A10
    have s10 : Same A9 A10 := by
      rw [← hA10]
      exact sput t10 h10
    have f10 : ∃ kvs, A10 p10 = some (.dK kvs) := ⟨_, by rw [← hA10]; exact upd_same⟩
    refine ⟨by show 11 ≤ sizeLine; decide, fun pz hz => ?_⟩
    have u9 : Same A9 A10 := s10
    have u8 := s9.trans u9
    have u7 := s8.trans u8
    have u6 := s7.trans u7
    have u5 := s6.trans u6
    have u4 := s5.trans u5
    have u3 := s4.trans u4
    have u2 := s3.trans u3
    have u1 := s2.trans u2
    have kA := k1.same (s1.trans u1)
    refine ⟨d, pz, _, rfl, kA.2.same (same_upd hz), kA.2.ne_of hz, upd_same, by show 0 < 11; decide, by show 11 ≤ 1000; decide, fun v H5 mv k6 => ?_⟩
    refine q v H5 (Good.keep k6 (kA.2.same (same_upd hz)) (Good.same (same_upd hz) ?_)) ((kA.same (same_upd hz)).trans k6)
    obtain ⟨kv2, f2⟩ := f2
    obtain ⟨kv10, f10⟩ := f10
    simp only [List.mem_cons, List.not_mem_nil, or_false] at mv
    rcases mv with rfl | rfl | rfl | rfl | rfl | rfl | rfl | rfl | rfl | rfl | rfl
    · exact .non
    · exact .bl _
    · exact .bl _
    · exact .dK (u1 _ _ f1)
    · exact .dK (u2 _ _ f2)
    · exact .lst (u3 _ _ f3)
    · exact .lst (u4 _ _ f4)
    · exact .tup (u5 _ _ f5) fun x hx => by
        simp only [List.mem_cons, List.not_mem_nil, or_false] at hx
        rcases hx with rfl | rfl <;> exact .str _
    · exact .tup (u7 _ _ f7) fun x hx => by
        cases List.mem_singleton.mp hx
        exact .tup (u6 _ _ f6)
    · exact .lst (u9 _ _ f9)
    · exact .dK f10
theorem same_loop {d : Addr} {H H1 H2 H3 : Hp} (s1 : Same H H1) (n : H1 d = none) (s2 : Same H1 H2) (k : Keep d H2 H3) : Same H H3 := fun b o e =>
  k.1 b o (ne_of_none (s1 _ _ e) n) (s2 _ _ (s1 _ _ e))
theorem filt_none {α : Type} (xs : List α) : xs.filter (fun _ => false) = [] := List.filter_eq_nil_iff.2 fun _ _ h => by cases h
theorem good_ints {H : Hp} {p : Addr} {ns : List Int} (e : H p = some (.tup (ns.map V.int))) (h : ∀ i ∈ ns, i.natAbs < 10 ^ 45) : Good H (.ref p) := .tup e fun x hx => by
  obtain ⟨i, hi, rfl⟩ := List.mem_map.mp hx
  exact .int i (h i hi)
def sp_law (K : PySem.W.Frag) : Sp := fun vs H Q _ => ∃ (a : Addr) (ns : List Int), vs = [.ref a] ∧ SqL K H a (ns.map V.int) ∧ ns.length ≤ 63 ∧ ∀ H', Q (.bl true) H'
theorem ok_law (T : Txt K mg) : FnOk P w K mg base CX0 6 T.a_law T.fd_law ["_law_script"] (sp_law K) := by
  have G_l_dice : FnOk P w K mg base CX0 1 T.a_l_dice T.fd_l_dice ["_law_script", "_law_spot"] (sp_dice K) := ok_dice T
  have G_l_value : FnOk P w K mg base CX0 5 T.a_l_value T.fd_l_value ["_law_dice_here"] (sp_value K) := ok_value T
  have G_l_right : FnOk P w K mg base CX0 4 T.a_l_right T.fd_l_right ["_law_value_here"] (sp_right K) := ok_right T
  refine T.F_law.ok sc_law (fun vs H Q E h => ?_) (fun cdv A outer s H vs Q E hr h => ?_)
  · obtain ⟨a, ns, rfl, _⟩ := h
    rfl
  · obtain ⟨a, ns, rfl, hS, h63, q⟩ := h
    refine ⟨_, (pss_cons (ps_for PassesOwn.never rfl (pi_range1 (by rfl) T.n_range (pa_cons (pe_callB (call_max2 rfl) (by rfl) T.n_max (by decide +kernel) (pa_cons pe_int (pa_cons (pe_callB (call_min2 rfl) (by rfl) T.n_min (by decide +kernel) (pa_cons pe_int (pa_cons (pe_callB call_len_seq (by rfl) T.n_len (by decide +kernel) (pa_cons (pv 0) pa_nil)) pa_nil))) pa_nil))) pa_nil)) (pg_name (i := 1) sc_law.nd rfl (.inl rfl)) (pss_cons (ps_set (i := 2) sc_law.nd rfl (.inl rfl) (pe_call G_l_dice (hr.mono (by decide)) (by rfl) T.g_l_dice T.F_l_dice.kp T.b_l_dice .nil pass0 (pa_cons (pv 0) (pa_cons (pv 1) pa_nil))))
      (pss_one (ps_for PassesOwn.never rfl (pi_range1 (by rfl) T.n_range (pa_cons pe_int pa_nil)) (pg_name (i := 3) sc_law.nd rfl (.inl rfl)) (pss_one (ps_if (pt_not (pt_val (pe_call G_l_right (hr.mono (by decide)) (by rfl) T.g_l_right T.F_l_right.kp T.b_l_right .nil pass0 (pa_cons (pe_call G_l_value (hr.mono (by decide)) (by rfl) T.g_l_value T.F_l_value.kp T.b_l_value .nil pass0 (pa_cons (pv 2) pa_nil)) pa_nil)))) (pss_one (ps_ret pe_bl)) pss_nil))))))
      (pss_cons (ps_set (i := 4) sc_law.nd rfl (.inl rfl) (pe_lst (pa_cons pe_str (pa_cons pe_str (pa_cons pe_str (pa_cons pe_str (pa_cons pe_str (pa_cons pe_str (pa_cons pe_str (pa_cons (pe_op op_sub (pe_op op_pow pe_int pe_int) pe_int) (pa_cons (pe_op op_sub pe_int (pe_op op_pow pe_int pe_int)) (pa_cons (pe_op op_sub pe_int (pe_op op_pow pe_int pe_int)) (pa_cons pe_bl pa_nil)))))))))))))
      (pss_cons (ps_set (i := 4) sc_law.nd rfl (.inl rfl) (pe_op op_cat (pv 4) (pe_lst (pa_cons (pe_tup (pa_cons pe_int pa_nil)) (pa_cons (pe_tup (pa_cons pe_int (pa_cons pe_int (pa_cons pe_int (pa_cons pe_int pa_nil))))) (pa_cons (pe_tup (pa_cons pe_int (pa_cons pe_int (pa_cons pe_int (pa_cons pe_int (pa_cons pe_int pa_nil)))))) (pa_cons (pe_tup pa_nil) (pa_cons (pe_tup (pa_cons pe_bl pa_nil)) (pa_cons (pe_tup (pa_cons pe_int (pa_cons (pe_op op_pow pe_int pe_int) pa_nil))) (pa_cons (pe_tup (pa_cons pe_int (pa_cons (pe_op op_sub pe_int (pe_op op_pow pe_int pe_int)) pa_nil))) pa_nil))))))))))
      (pss_cons (ps_set (i := 4) sc_law.nd rfl (.inl rfl) (pe_op op_cat (pv 4) (pe_lst (pa_cons (pe_lst (pa_cons pe_int pa_nil)) (pa_cons (pe_tup (pa_cons (pe_tup (pa_cons pe_int pa_nil)) pa_nil)) (pa_cons pe_non pa_nil))))))
      (pss_one (ps_ret (pe_cmpR (op_eqNil hr.units) (pe_lc (own := [("_law_one", 5)]) (g := gName 5) (tt := _) rfl sc_law.nd (pi_list (pv 4)) (blkOk_by (N := ["_law_script", "_law_spot", "_law_dice_here", "_law_turn", "_law_some", "_law_one"]) (sc := defScope s_law) (by decide +kernel)) (fun _ _ _ _ _ => pg_name (i := 5) sc_law.nd rfl (Or.inl rfl)) (fun _ _ _ _ _ => (pts_one (pt_not (pt_val (pe_call G_l_right (hr.mono (by decide)) (by rfl) T.g_l_right T.F_l_right.kp T.b_l_right .nil pass0 (pa_cons (pv 5) pa_nil)))))) (fun _ _ _ _ _ => (pv 5))) (pe_lst pa_nil) (nomark _)))))))), ?_⟩
    refine ⟨.ref a, rfl, a, ns.map V.int, rfl, .inl hS, 10, _, rfl, 1, _, rfl, ?_⟩
    generalize hm : (if (if ((ns.map V.int).length : Int) < 10 then ((ns.map V.int).length : Int) else 10) > 1 then (if ((ns.map V.int).length : Int) < 10 then ((ns.map V.int).length : Int) else 10) else 1) = m
    have m0 : 0 ≤ m ∧ m ≤ 10 := by
      rw [← hm]
      repeat' split
      all_goals omega
    refine ⟨m, rfl, by omega, by omega, for_range (lo := 0) (n := m.toNat) (fun i σ H1 => (∃ y1 y2 y3, σ = [some (.ref a), y1, y2, y3, none, none]) ∧ Same H H1) ⟨⟨none, none, none, rfl⟩, .refl H⟩ (fun i σ H1 hi h => ?_) (fun σ H1 h => ?_)⟩
    · obtain ⟨⟨y1, y2, y3, rfl⟩, s1⟩ := h
      refine ⟨_, rfl, _, rfl, a, ns, 0 + i, rfl, s1.seq hS, by omega, h63, fun d H2 hd s2 dd => ?_⟩
      refine ⟨6, rfl, by decide, by decide, for_range (lo := 0) (n := 6) (fun j σ H3 => (∃ y3, σ = [some (.ref a), some (.int (0 + i)), some (.ref d), y3, none, none]) ∧ Keep d H2 H3) ⟨⟨_, rfl⟩, .refl dd⟩ (fun j σ H3 hj h => ?_) (fun σ H3 h => ?_)⟩
      · obtain ⟨⟨z3, rfl⟩, k3⟩ := h
        exact ⟨_, rfl, d, rfl, k3.2, fun v H4 gv k4 => ⟨v, rfl, gv, fun H5 s5 => ⟨_, rfl, iteF ⟨⟨_, rfl⟩, (k3.trans k4).same s5⟩⟩⟩⟩
      · obtain ⟨⟨z3, rfl⟩, k3⟩ := h
        exact ⟨⟨_, _, _, rfl⟩, same_loop s1 hd s2 k3⟩
    · obtain ⟨⟨y1, y2, y3, rfl⟩, s1⟩ := h
      refine ⟨10, 20, rfl, rfl, ⟨by decide, by decide, by decide⟩, _, 1, rfl, rfl, 10, 20, rfl, rfl, ⟨by decide, by decide, by decide⟩, 1, _, rfl, rfl, 10, 20, rfl, rfl, ⟨by decide, by decide, by decide⟩, 0, _, rfl, rfl, by show 11 ≤ sizeLine; decide, fun p1 h1 => ?_⟩
      generalize hA0 : upd H1 p1 (.lst [.str "", .str "a", .str "abcdefgh", .str "abcdefghi", .str "aB", .str "\n", .str "a b", (fun i j => V.int (i - j)) (10 ^ Int.toNat 20) 1, (fun i j => V.int (i - j)) 1 (10 ^ Int.toNat 20), (fun i j => V.int (i - j)) 0 (10 ^ Int.toNat 20), .bl true]) = A0
      have s2 : Same H1 A0 := by
        rw [← hA0]
        exact same_upd h1
      have e1 : A0 p1 = some (.lst [.str "", .str "a", .str "abcdefgh", .str "abcdefghi", .str "aB", .str "\n", .str "a b", (fun i j => V.int (i - j)) (10 ^ Int.toNat 20) 1, (fun i j => V.int (i - j)) 1 (10 ^ Int.toNat 20), (fun i j => V.int (i - j)) 0 (10 ^ Int.toNat 20), .bl true]) := by
        rw [← hA0]
        exact upd_same
      refine ⟨_, rfl, by show 1 ≤ sizeLine; decide, fun q1 g1 => ?_⟩
      generalize hA1 : upd A0 q1 (.tup [.int 1]) = A1
      have r1 : Same A0 A1 := by
        rw [← hA1]
        exact same_upd g1
      have f1 : A1 q1 = some (.tup [.int 1]) := by
        rw [← hA1]
        exact upd_same
      refine ⟨by show 4 ≤ sizeLine; decide, fun q2 g2 => ?_⟩
      generalize hA2 : upd A1 q2 (.tup [.int 1, .int 2, .int 3, .int 4]) = A2
      have r2 : Same A1 A2 := by
        rw [← hA2]
        exact same_upd g2
      have f2 : A2 q2 = some (.tup [.int 1, .int 2, .int 3, .int 4]) := by
        rw [← hA2]
        exact upd_same
      refine ⟨by show 5 ≤ sizeLine; decide, fun q3 g3 => ?_⟩
      generalize hA3 : upd A2 q3 (.tup [.int 1, .int 2, .int 3, .int 4, .int 5]) = A3
      have r3 : Same A2 A3 := by
        rw [← hA3]
        exact same_upd g3
      have f3 : A3 q3 = some (.tup [.int 1, .int 2, .int 3, .int 4, .int 5]) := by
        rw [← hA3]
        exact upd_same
      refine ⟨Nat.zero_le _, fun q4 g4 => ?_⟩
      generalize hA4 : upd A3 q4 (.tup []) = A4
      have r4 : Same A3 A4 := by
        rw [← hA4]
        exact same_upd g4
      have f4 : A4 q4 = some (.tup []) := by
        rw [← hA4]
        exact upd_same
      refine ⟨by show 1 ≤ sizeLine; decide, fun q5 g5 => ?_⟩
      generalize hA5 : upd A4 q5 (.tup [.bl true]) = A5
      have r5 : Same A4 A5 := by
        rw [← hA5]
        exact same_upd g5
      have f5 : A5 q5 = some (.tup [.bl true]) := by
        rw [← hA5]
        exact upd_same
      refine ⟨10, 20, rfl, rfl, ⟨by decide, by decide, by decide⟩, by show 2 ≤ sizeLine; decide, fun q6 g6 => ?_⟩
      generalize hA6 : upd A5 q6 (.tup [.int 0, (fun i j : Int => V.int (i ^ j.toNat)) 10 20]) = A6
      have r6 : Same A5 A6 := by
        rw [← hA6]
        exact same_upd g6
      have f6 : A6 q6 = some (.tup [.int 0, (fun i j : Int => V.int (i ^ j.toNat)) 10 20]) := by
        rw [← hA6]
        exact upd_same
      refine ⟨10, 20, rfl, rfl, ⟨by decide, by decide, by decide⟩, 1, _, rfl, rfl, by show 2 ≤ sizeLine; decide, fun q7 g7 => ?_⟩
      generalize hA7 : upd A6 q7 (.tup [.int 0, (fun i j : Int => V.int (i - j)) 1 (10 ^ Int.toNat 20)]) = A7
      have r7 : Same A6 A7 := by
        rw [← hA7]
        exact same_upd g7
      have f7 : A7 q7 = some (.tup [.int 0, (fun i j : Int => V.int (i - j)) 1 (10 ^ Int.toNat 20)]) := by
        rw [← hA7]
        exact upd_same
      refine ⟨by show 7 ≤ sizeLine; decide, fun p2 h2 => ?_⟩
      generalize hA8 : upd A7 p2 (.lst [.ref q1, .ref q2, .ref q3, .ref q4, .ref q5, .ref q6, .ref q7]) = A8
      have r8 : Same A7 A8 := by
        rw [← hA8]
        exact same_upd h2
      have f8 : A8 p2 = some (.lst [.ref q1, .ref q2, .ref q3, .ref q4, .ref q5, .ref q6, .ref q7]) := by
        rw [← hA8]
        exact upd_same
      have u7 := r8
      have u6 := r7.trans u7
      have u5 := r6.trans u6
      have u4 := r5.trans u5
      have u3 := r4.trans u4
      have u2 := r3.trans u3
      have u1 := r2.trans u2
      have u0 := r1.trans u1
      refine ⟨p1, p2, _, _, rfl, rfl, u0 _ _ e1, f8, by show 18 ≤ sizeLine; decide, fun p3 h3 => ?_⟩
      generalize hA9 : upd A8 p3 (.lst ([V.str "", .str "a", .str "abcdefgh", .str "abcdefghi", .str "aB", .str "\n", .str "a b", (fun i j => V.int (i - j)) (10 ^ Int.toNat 20) 1, (fun i j => V.int (i - j)) 1 (10 ^ Int.toNat 20), (fun i j => V.int (i - j)) 0 (10 ^ Int.toNat 20), .bl true] ++ [V.ref q1, .ref q2, .ref q3, .ref q4, .ref q5, .ref q6, .ref q7])) = A9
      have s3 : Same A8 A9 := by
        rw [← hA9]
        exact same_upd h3
      have e3 : A9 p3 = some (.lst ([V.str "", .str "a", .str "abcdefgh", .str "abcdefghi", .str "aB", .str "\n", .str "a b", (fun i j => V.int (i - j)) (10 ^ Int.toNat 20) 1, (fun i j => V.int (i - j)) 1 (10 ^ Int.toNat 20), (fun i j => V.int (i - j)) 0 (10 ^ Int.toNat 20), .bl true] ++ [V.ref q1, .ref q2, .ref q3, .ref q4, .ref q5, .ref q6, .ref q7])) := by
        rw [← hA9]
        exact upd_same
      refine ⟨_, rfl, by show 1 ≤ sizeLine; decide, fun t1 g1' => ?_⟩
      generalize hB1 : upd A9 t1 (.lst [.int 1]) = B1
      have b1 : Same A9 B1 := by
        rw [← hB1]
        exact same_upd g1'
      have c1 : B1 t1 = some (.lst [.int 1]) := by
        rw [← hB1]
        exact upd_same
      refine ⟨by show 1 ≤ sizeLine; decide, fun t2 g2' => ?_⟩
      generalize hB2 : upd B1 t2 (.tup [.int 1]) = B2
      have b2 : Same B1 B2 := by
        rw [← hB2]
        exact same_upd g2'
      have c2 : B2 t2 = some (.tup [.int 1]) := by
        rw [← hB2]
        exact upd_same
      refine ⟨by show 1 ≤ sizeLine; decide, fun t3 g3' => ?_⟩
      generalize hB3 : upd B2 t3 (.tup [.ref t2]) = B3
      have b3 : Same B2 B3 := by
        rw [← hB3]
        exact same_upd g3'
      have c3 : B3 t3 = some (.tup [.ref t2]) := by
        rw [← hB3]
        exact upd_same
      refine ⟨by show 3 ≤ sizeLine; decide, fun p4 h4 => ?_⟩
      generalize hB4 : upd B3 p4 (.lst [.ref t1, .ref t3, .non]) = B4
      have b4 : Same B3 B4 := by
        rw [← hB4]
        exact same_upd h4
      have c4 : B4 p4 = some (.lst [.ref t1, .ref t3, .non]) := by
        rw [← hB4]
        exact upd_same
      have w0 := ((b1.trans b2).trans b3).trans b4
      refine ⟨p3, p4, _, _, rfl, rfl, w0 _ _ e3, c4, by show 21 ≤ sizeLine; decide, fun p5 h5 => ?_⟩
      have s5 := same_upd (o := .lst (([V.str "", .str "a", .str "abcdefgh", .str "abcdefghi", .str "aB", .str "\n", .str "a b", (fun i j => V.int (i - j)) (10 ^ Int.toNat 20) 1, (fun i j => V.int (i - j)) 1 (10 ^ Int.toNat 20), (fun i j => V.int (i - j)) 0 (10 ^ Int.toNat 20), .bl true] ++ [V.ref q1, .ref q2, .ref q3, .ref q4, .ref q5, .ref q6, .ref q7]) ++ [.ref t1, .ref t3, .non])) h5
      have v0 := ((s3.trans w0).trans s5)
      have good : ∀ x ∈ (([V.str "", .str "a", .str "abcdefgh", .str "abcdefghi", .str "aB", .str "\n", .str "a b", (fun i j => V.int (i - j)) (10 ^ Int.toNat 20) 1, (fun i j => V.int (i - j)) 1 (10 ^ Int.toNat 20), (fun i j => V.int (i - j)) 0 (10 ^ Int.toNat 20), .bl true] ++ [V.ref q1, .ref q2, .ref q3, .ref q4, .ref q5, .ref q6, .ref q7]) ++ [V.ref t1, .ref t3, .non]), Good (upd B4 p5 (.lst (([V.str "", .str "a", .str "abcdefgh", .str "abcdefghi", .str "aB", .str "\n", .str "a b", (fun i j => V.int (i - j)) (10 ^ Int.toNat 20) 1, (fun i j => V.int (i - j)) 1 (10 ^ Int.toNat 20), (fun i j => V.int (i - j)) 0 (10 ^ Int.toNat 20), .bl true] ++ [V.ref q1, .ref q2, .ref q3, .ref q4, .ref q5, .ref q6, .ref q7]) ++ [.ref t1, .ref t3, .non]))) x := fun x hx => by
        simp only [List.mem_append, List.mem_cons, List.not_mem_nil, or_false] at hx
        rcases hx with (((rfl | rfl | rfl | rfl | rfl | rfl | rfl | rfl | rfl | rfl | rfl) | (rfl | rfl | rfl | rfl | rfl | rfl | rfl)) | (rfl | rfl | rfl))
        · exact .str _ (by decide +kernel)
        · exact .str _ (by decide +kernel)
        · exact .str _ (by decide +kernel)
        · exact .str _ (by decide +kernel)
        · exact .str _ (by decide +kernel)
        · exact .str _ (by decide +kernel)
        · exact .str _ (by decide +kernel)
        · exact .int _ (by decide +kernel)
        · exact .int _ (by decide +kernel)
        · exact .int _ (by decide +kernel)
        · exact .bl _
        · exact good_ints (ns := [1]) (v0 _ _ (u1 _ _ f1)) (by decide +kernel)
        · exact good_ints (ns := [1, 2, 3, 4]) (v0 _ _ (u2 _ _ f2)) (by decide +kernel)
        · exact good_ints (ns := [1, 2, 3, 4, 5]) (v0 _ _ (u3 _ _ f3)) (by decide +kernel)
        · exact good_ints (ns := []) (v0 _ _ (u4 _ _ f4)) (by decide +kernel)
        · exact .tup (v0 _ _ (u5 _ _ f5)) fun x hx => by
            cases List.mem_singleton.mp hx
            exact .bl _
        · exact good_ints (ns := [0, 10 ^ Int.toNat 20]) (v0 _ _ (u6 _ _ f6)) (by decide +kernel)
        · exact good_ints (ns := [0, 1 - 10 ^ Int.toNat 20]) (v0 _ _ (u7 _ _ f7)) (by decide +kernel)
        · exact .lst (s5 _ _ (b4 _ _ (b3 _ _ (b2 _ _ c1))))
        · exact .tup (s5 _ _ (b4 _ _ c3)) fun x hx => by
            cases List.mem_singleton.mp hx
            exact .tup (s5 _ _ (b4 _ _ (b3 _ _ c2)))
        · exact .non
      have len : ((([V.str "", .str "a", .str "abcdefgh", .str "abcdefghi", .str "aB", .str "\n", .str "a b", (fun i j => V.int (i - j)) (10 ^ Int.toNat 20) 1, (fun i j => V.int (i - j)) 1 (10 ^ Int.toNat 20), (fun i j => V.int (i - j)) 0 (10 ^ Int.toNat 20), .bl true] ++ [V.ref q1, .ref q2, .ref q3, .ref q4, .ref q5, .ref q6, .ref q7]) ++ [V.ref t1, .ref t3, .non]) : List V).length = 21 := rfl
      have e5 := upd_same (H := B4) (a := p5) (o := .lst (([V.str "", .str "a", .str "abcdefgh", .str "abcdefghi", .str "aB", .str "\n", .str "a b", (fun i j => V.int (i - j)) (10 ^ Int.toNat 20) 1, (fun i j => V.int (i - j)) 1 (10 ^ Int.toNat 20), (fun i j => V.int (i - j)) 0 (10 ^ Int.toNat 20), .bl true] ++ [V.ref q1, .ref q2, .ref q3, .ref q4, .ref q5, .ref q6, .ref q7]) ++ [.ref t1, .ref t3, .non]))
      generalize hL : (([V.str "", .str "a", .str "abcdefgh", .str "abcdefghi", .str "aB", .str "\n", .str "a b", (fun i j => V.int (i - j)) (10 ^ Int.toNat 20) 1, (fun i j => V.int (i - j)) 1 (10 ^ Int.toNat 20), (fun i j => V.int (i - j)) 0 (10 ^ Int.toNat 20), .bl true] ++ [V.ref q1, .ref q2, .ref q3, .ref q4, .ref q5, .ref q6, .ref q7]) ++ [V.ref t1, .ref t3, .non]) = L at good len e5 ⊢
      generalize upd B4 p5 (.lst L) = B5 at good e5 ⊢
      refine ⟨_, rfl, p5, rfl, ⟨_, .of e5⟩, fun D hD => lc_pure (walk_list (xs := L)) hD L id (fun _ => false) id rfl (by omega) (by decide) (fun H1 s => .of (s _ _ e5)) (fun i H1 x H' s y => ?_)
        (fun c H1 hc s Q h => ⟨_, rfl, c, rfl, (good c hc).same s, fun H2 s2 => ⟨_, rfl, h H2 s2⟩⟩) (fun c H1 hc hf => by cases hf) (fun x => rfl) (fun H6 s6 e6 => ⟨Nat.zero_le _, fun p hp => ?_⟩)⟩
      · obtain ⟨rfl, hc⟩ := y
        exact ⟨rfl, x, hc, rfl⟩
      · rw [filt_none] at e6
        exact ⟨D, p, [], rfl, rfl, .of ((same_upd hp) _ _ e6), .of upd_same, q _⟩
set_option maxHeartbeats 0 in
theorem all_mk {l : PySem.W.OpenLaw} {w : World} {K : PySem.W.Frag} {h : Heap} {mg : Str → Option Value} {fa : Addr} (X : K.In h) (G : h.Ns mainGlobals mg) (hfa : mg "law" = some (.ref fa))
    {f1 : Addr}
    {od1 an1 : Option Addr}
    {sl1 : Array (Option Value)}
    {oc1 kV1 dc1 pm1 cd1 ct1 : Value}
    {f2 : Addr}
    {od2 an2 : Option Addr}
    {sl2 : Array (Option Value)}
    {oc2 kV2 dc2 pm2 cd2 ct2 : Value}
    {f3 : Addr}
    {od3 an3 : Option Addr}
    {sl3 : Array (Option Value)}
    {oc3 kV3 dc3 pm3 cd3 ct3 : Value}
    {f4 : Addr}
    {od4 an4 : Option Addr}
    {sl4 : Array (Option Value)}
    {oc4 kV4 dc4 pm4 cd4 ct4 : Value}
    {f5 : Addr}
    {od5 an5 : Option Addr}
    {sl5 : Array (Option Value)}
    {oc5 kV5 dc5 pm5 cd5 ct5 : Value}
    {f6 : Addr}
    {od6 an6 : Option Addr}
    {sl6 : Array (Option Value)}
    {oc6 kV6 dc6 pm6 cd6 ct6 : Value}
    {f7 : Addr}
    {od7 an7 : Option Addr}
    {sl7 : Array (Option Value)}
    {oc7 kV7 dc7 pm7 cd7 ct7 : Value}
    {f8 : Addr}
    {od8 an8 : Option Addr}
    {sl8 : Array (Option Value)}
    {oc8 kV8 dc8 pm8 cd8 ct8 : Value}
    {f9 : Addr}
    {od9 an9 : Option Addr}
    {sl9 : Array (Option Value)}
    {oc9 kV9 dc9 pm9 cd9 ct9 : Value}
    {f10 : Addr}
    {od10 an10 : Option Addr}
    {sl10 : Array (Option Value)}
    {oc10 kV10 dc10 pm10 cd10 ct10 : Value}
    {f11 : Addr}
    {od11 an11 : Option Addr}
    {sl11 : Array (Option Value)}
    {oc11 kV11 dc11 pm11 cd11 ct11 : Value}
    {f12 : Addr}
    {od12 an12 : Option Addr}
    {sl12 : Array (Option Value)}
    {oc12 kV12 dc12 pm12 cd12 ct12 : Value}
    {f13 : Addr}
    {od13 an13 : Option Addr}
    {sl13 : Array (Option Value)}
    {oc13 kV13 dc13 pm13 cd13 ct13 : Value}
    {f14 : Addr}
    {od14 an14 : Option Addr}
    {sl14 : Array (Option Value)}
    {oc14 kV14 dc14 pm14 cd14 ct14 : Value}
    {f15 : Addr}
    {od15 an15 : Option Addr}
    {sl15 : Array (Option Value)}
    {oc15 kV15 dc15 pm15 cd15 ct15 : Value}
    {f16 : Addr}
    {od16 an16 : Option Addr}
    {sl16 : Array (Option Value)}
    {oc16 kV16 dc16 pm16 cd16 ct16 : Value}
    {f17 : Addr}
    {od17 an17 : Option Addr}
    {sl17 : Array (Option Value)}
    {oc17 kV17 dc17 pm17 cd17 ct17 : Value}
    {f18 : Addr}
    {od18 an18 : Option Addr}
    {sl18 : Array (Option Value)}
    {oc18 kV18 dc18 pm18 cd18 ct18 : Value}
    {t_LONGEST_NAME : Tok}
    {t_TOO_GREAT : Tok}
    {t_TOO_SMALL : Tok}
    {t_WIDEST_ROW : Tok}
    (l1 : K.lookup f1 = some ⟨oc1, od1, .func (PySem.W.fnOf "is_name" "is_name" (defArgs s_is_name) (defBody s_is_name) (defScope s_is_name) .none kV1 dc1 pm1 an1 cd1 ct1), sl1⟩)
    (c1 : PySem.W.codeIn K cd1 "is_name" = true)
    (k1 : PySem.W.keepIn K (.ref f1) = true)
    (a1 : PySem.W.nsIn K mainGlobals "is_name" = some (some (.ref f1)))
    (l2 : K.lookup f2 = some ⟨oc2, od2, .func (PySem.W.fnOf "is_whole" "is_whole" (defArgs s_is_whole) (defBody s_is_whole) (defScope s_is_whole) .none kV2 dc2 pm2 an2 cd2 ct2), sl2⟩)
    (c2 : PySem.W.codeIn K cd2 "is_whole" = true)
    (k2 : PySem.W.keepIn K (.ref f2) = true)
    (a2 : PySem.W.nsIn K mainGlobals "is_whole" = some (some (.ref f2)))
    (l3 : K.lookup f3 = some ⟨oc3, od3, .func (PySem.W.fnOf "is_integer" "is_integer" (defArgs s_is_integer) (defBody s_is_integer) (defScope s_is_integer) .none kV3 dc3 pm3 an3 cd3 ct3), sl3⟩)
    (c3 : PySem.W.codeIn K cd3 "is_integer" = true)
    (k3 : PySem.W.keepIn K (.ref f3) = true)
    (a3 : PySem.W.nsIn K mainGlobals "is_integer" = some (some (.ref f3)))
    (l4 : K.lookup f4 = some ⟨oc4, od4, .func (PySem.W.fnOf "is_term" "is_term" (defArgs s_is_term) (defBody s_is_term) (defScope s_is_term) .none kV4 dc4 pm4 an4 cd4 ct4), sl4⟩)
    (c4 : PySem.W.codeIn K cd4 "is_term" = true)
    (k4 : PySem.W.keepIn K (.ref f4) = true)
    (a4 : PySem.W.nsIn K mainGlobals "is_term" = some (some (.ref f4)))
    (l5 : K.lookup f5 = some ⟨oc5, od5, .func (PySem.W.fnOf "is_row" "is_row" (defArgs s_is_row) (defBody s_is_row) (defScope s_is_row) .none kV5 dc5 pm5 an5 cd5 ct5), sl5⟩)
    (c5 : PySem.W.codeIn K cd5 "is_row" = true)
    (k5 : PySem.W.keepIn K (.ref f5) = true)
    (a5 : PySem.W.nsIn K mainGlobals "is_row" = some (some (.ref f5)))
    (l6 : K.lookup f6 = some ⟨oc6, od6, .func (PySem.W.fnOf "_law_dice" "_law_dice" (defArgs s_l_dice) (defBody s_l_dice) (defScope s_l_dice) .none kV6 dc6 pm6 an6 cd6 ct6), sl6⟩)
    (c6 : PySem.W.codeIn K cd6 "_law_dice" = true)
    (k6 : PySem.W.keepIn K (.ref f6) = true)
    (a6 : PySem.W.nsIn K mainGlobals "_law_dice" = some (some (.ref f6)))
    (l7 : K.lookup f7 = some ⟨oc7, od7, .func (PySem.W.fnOf "_law_roll" "_law_roll" (defArgs s_l_roll) (defBody s_l_roll) (defScope s_l_roll) .none kV7 dc7 pm7 an7 cd7 ct7), sl7⟩)
    (c7 : PySem.W.codeIn K cd7 "_law_roll" = true)
    (k7 : PySem.W.keepIn K (.ref f7) = true)
    (a7 : PySem.W.nsIn K mainGlobals "_law_roll" = some (some (.ref f7)))
    (l8 : K.lookup f8 = some ⟨oc8, od8, .func (PySem.W.fnOf "_law_pick" "_law_pick" (defArgs s_l_pick) (defBody s_l_pick) (defScope s_l_pick) .none kV8 dc8 pm8 an8 cd8 ct8), sl8⟩)
    (c8 : PySem.W.codeIn K cd8 "_law_pick" = true)
    (k8 : PySem.W.keepIn K (.ref f8) = true)
    (a8 : PySem.W.nsIn K mainGlobals "_law_pick" = some (some (.ref f8)))
    (l9 : K.lookup f9 = some ⟨oc9, od9, .func (PySem.W.fnOf "_law_signs" "_law_signs" (defArgs s_l_signs) (defBody s_l_signs) (defScope s_l_signs) .none kV9 dc9 pm9 an9 cd9 ct9), sl9⟩)
    (c9 : PySem.W.codeIn K cd9 "_law_signs" = true)
    (k9 : PySem.W.keepIn K (.ref f9) = true)
    (a9 : PySem.W.nsIn K mainGlobals "_law_signs" = some (some (.ref f9)))
    (l10 : K.lookup f10 = some ⟨oc10, od10, .func (PySem.W.fnOf "_law_string" "_law_string" (defArgs s_l_string) (defBody s_l_string) (defScope s_l_string) .none kV10 dc10 pm10 an10 cd10 ct10), sl10⟩)
    (c10 : PySem.W.codeIn K cd10 "_law_string" = true)
    (k10 : PySem.W.keepIn K (.ref f10) = true)
    (a10 : PySem.W.nsIn K mainGlobals "_law_string" = some (some (.ref f10)))
    (l11 : K.lookup f11 = some ⟨oc11, od11, .func (PySem.W.fnOf "_law_integer" "_law_integer" (defArgs s_l_integer) (defBody s_l_integer) (defScope s_l_integer) .none kV11 dc11 pm11 an11 cd11 ct11), sl11⟩)
    (c11 : PySem.W.codeIn K cd11 "_law_integer" = true)
    (k11 : PySem.W.keepIn K (.ref f11) = true)
    (a11 : PySem.W.nsIn K mainGlobals "_law_integer" = some (some (.ref f11)))
    (l12 : K.lookup f12 = some ⟨oc12, od12, .func (PySem.W.fnOf "_law_tuple" "_law_tuple" (defArgs s_l_tuple) (defBody s_l_tuple) (defScope s_l_tuple) .none kV12 dc12 pm12 an12 cd12 ct12), sl12⟩)
    (c12 : PySem.W.codeIn K cd12 "_law_tuple" = true)
    (k12 : PySem.W.keepIn K (.ref f12) = true)
    (a12 : PySem.W.nsIn K mainGlobals "_law_tuple" = some (some (.ref f12)))
    (l13 : K.lookup f13 = some ⟨oc13, od13, .func (PySem.W.fnOf "_law_value" "_law_value" (defArgs s_l_value) (defBody s_l_value) (defScope s_l_value) .none kV13 dc13 pm13 an13 cd13 ct13), sl13⟩)
    (c13 : PySem.W.codeIn K cd13 "_law_value" = true)
    (k13 : PySem.W.keepIn K (.ref f13) = true)
    (a13 : PySem.W.nsIn K mainGlobals "_law_value" = some (some (.ref f13)))
    (l14 : K.lookup f14 = some ⟨oc14, od14, .func (PySem.W.fnOf "_law_like_name" "_law_like_name" (defArgs s_l_like_name) (defBody s_l_like_name) (defScope s_l_like_name) .none kV14 dc14 pm14 an14 cd14 ct14), sl14⟩)
    (c14 : PySem.W.codeIn K cd14 "_law_like_name" = true)
    (k14 : PySem.W.keepIn K (.ref f14) = true)
    (a14 : PySem.W.nsIn K mainGlobals "_law_like_name" = some (some (.ref f14)))
    (l15 : K.lookup f15 = some ⟨oc15, od15, .func (PySem.W.fnOf "_law_like_integer" "_law_like_integer" (defArgs s_l_like_integer) (defBody s_l_like_integer) (defScope s_l_like_integer) .none kV15 dc15 pm15 an15 cd15 ct15), sl15⟩)
    (c15 : PySem.W.codeIn K cd15 "_law_like_integer" = true)
    (k15 : PySem.W.keepIn K (.ref f15) = true)
    (a15 : PySem.W.nsIn K mainGlobals "_law_like_integer" = some (some (.ref f15)))
    (l16 : K.lookup f16 = some ⟨oc16, od16, .func (PySem.W.fnOf "_law_like_row" "_law_like_row" (defArgs s_l_like_row) (defBody s_l_like_row) (defScope s_l_like_row) .none kV16 dc16 pm16 an16 cd16 ct16), sl16⟩)
    (c16 : PySem.W.codeIn K cd16 "_law_like_row" = true)
    (k16 : PySem.W.keepIn K (.ref f16) = true)
    (a16 : PySem.W.nsIn K mainGlobals "_law_like_row" = some (some (.ref f16)))
    (l17 : K.lookup f17 = some ⟨oc17, od17, .func (PySem.W.fnOf "_law_right" "_law_right" (defArgs s_l_right) (defBody s_l_right) (defScope s_l_right) .none kV17 dc17 pm17 an17 cd17 ct17), sl17⟩)
    (c17 : PySem.W.codeIn K cd17 "_law_right" = true)
    (k17 : PySem.W.keepIn K (.ref f17) = true)
    (a17 : PySem.W.nsIn K mainGlobals "_law_right" = some (some (.ref f17)))
    (l18 : K.lookup f18 = some ⟨oc18, od18, .func (PySem.W.fnOf "law" "law" (defArgs s_law) (defBody s_law) (defScope s_law) .none kV18 dc18 pm18 an18 cd18 ct18), sl18⟩)
    (c18 : PySem.W.codeIn K cd18 "law" = true)
    (k18 : PySem.W.keepIn K (.ref f18) = true)
    (a18 : PySem.W.nsIn K mainGlobals "law" = some (some (.ref f18)))
    (v_LONGEST_NAME : PySem.W.nsIn K mainGlobals "_LONGEST_NAME" = some (some (.int 8 t_LONGEST_NAME)))
    (v_TOO_GREAT : PySem.W.nsIn K mainGlobals "_TOO_GREAT" = some (some (.int 100000000000000000000 t_TOO_GREAT)))
    (v_TOO_SMALL : PySem.W.nsIn K mainGlobals "_TOO_SMALL" = some (some (.int (-100000000000000000000) t_TOO_SMALL)))
    (v_WIDEST_ROW : PySem.W.nsIn K mainGlobals "_WIDEST_ROW" = some (some (.int 4 t_WIDEST_ROW)))
    (z_isinstance : PySem.W.nsIn K mainGlobals "isinstance" = some none)
    (z_str : PySem.W.nsIn K mainGlobals "str" = some none)
    (z_len : PySem.W.nsIn K mainGlobals "len" = some none)
    (z_int : PySem.W.nsIn K mainGlobals "int" = some none)
    (z_bool : PySem.W.nsIn K mainGlobals "bool" = some none)
    (z_tuple : PySem.W.nsIn K mainGlobals "tuple" = some none)
    (z_max : PySem.W.nsIn K mainGlobals "max" = some none)
    (z_abs : PySem.W.nsIn K mainGlobals "abs" = some none)
    (z_range : PySem.W.nsIn K mainGlobals "range" = some none)
    (z_list : PySem.W.nsIn K mainGlobals "list" = some none)
    (z_min : PySem.W.nsIn K mainGlobals "min" = some none) :
    ∃ fd : FuncData, (∀ (s : Shared) (v : Value), BindsTo s fd ⟨[v], []⟩ [("_law_script", v)]) ∧ ∀ base : Heap, K.In base → base.Ns mainGlobals mg → FnOk l.prog w K mg base CX0 6 fa fd ["_law_script"] (sp_law K) := by
  have e := hfa.symm.trans (PySem.W.mg_of X G a18)
  cases e
  let T : Txt K mg := {
    a_is_name := f1,
    fd_is_name := _,
    F_is_name := fun_mk (st := s_is_name) l1 c1 k1,
    b_is_name := (fun_mk (st := s_is_name) l1 c1 k1).binds (ps := ["value"]) fun _ _ _ _ _ _ us hl => match us, hl with | [_], _ => rfl,
    g_is_name := PySem.W.mg_of X G a1,
    a_is_whole := f2,
    fd_is_whole := _,
    F_is_whole := fun_mk (st := s_is_whole) l2 c2 k2,
    b_is_whole := (fun_mk (st := s_is_whole) l2 c2 k2).binds (ps := ["value"]) fun _ _ _ _ _ _ us hl => match us, hl with | [_], _ => rfl,
    g_is_whole := PySem.W.mg_of X G a2,
    a_is_integer := f3,
    fd_is_integer := _,
    F_is_integer := fun_mk (st := s_is_integer) l3 c3 k3,
    b_is_integer := (fun_mk (st := s_is_integer) l3 c3 k3).binds (ps := ["value"]) fun _ _ _ _ _ _ us hl => match us, hl with | [_], _ => rfl,
    g_is_integer := PySem.W.mg_of X G a3,
    a_is_term := f4,
    fd_is_term := _,
    F_is_term := fun_mk (st := s_is_term) l4 c4 k4,
    b_is_term := (fun_mk (st := s_is_term) l4 c4 k4).binds (ps := ["value"]) fun _ _ _ _ _ _ us hl => match us, hl with | [_], _ => rfl,
    g_is_term := PySem.W.mg_of X G a4,
    a_is_row := f5,
    fd_is_row := _,
    F_is_row := fun_mk (st := s_is_row) l5 c5 k5,
    b_is_row := (fun_mk (st := s_is_row) l5 c5 k5).binds (ps := ["value"]) fun _ _ _ _ _ _ us hl => match us, hl with | [_], _ => rfl,
    g_is_row := PySem.W.mg_of X G a5,
    a_l_dice := f6,
    fd_l_dice := _,
    F_l_dice := fun_mk (st := s_l_dice) l6 c6 k6,
    b_l_dice := (fun_mk (st := s_l_dice) l6 c6 k6).binds (ps := ["_law_script", "_law_spot"]) fun _ _ _ _ _ _ us hl => match us, hl with | [_, _], _ => rfl,
    g_l_dice := PySem.W.mg_of X G a6,
    a_l_roll := f7,
    fd_l_roll := _,
    F_l_roll := fun_mk (st := s_l_roll) l7 c7 k7,
    b_l_roll := (fun_mk (st := s_l_roll) l7 c7 k7).binds (ps := ["_law_dice_here", "_law_upto"]) fun _ _ _ _ _ _ us hl => match us, hl with | [_, _], _ => rfl,
    g_l_roll := PySem.W.mg_of X G a7,
    a_l_pick := f8,
    fd_l_pick := _,
    F_l_pick := fun_mk (st := s_l_pick) l8 c8 k8,
    b_l_pick := (fun_mk (st := s_l_pick) l8 c8 k8).binds (ps := ["_law_dice_here", "_law_items"]) fun _ _ _ _ _ _ us hl => match us, hl with | [_, _], _ => rfl,
    g_l_pick := PySem.W.mg_of X G a8,
    a_l_signs := f9,
    fd_l_signs := _,
    F_l_signs := fun_mk (st := s_l_signs) l9 c9 k9,
    b_l_signs := (fun_mk (st := s_l_signs) l9 c9 k9).binds (ps := []) fun _ _ _ _ _ _ us hl => match us, hl with | [], _ => rfl,
    g_l_signs := PySem.W.mg_of X G a9,
    a_l_string := f10,
    fd_l_string := _,
    F_l_string := fun_mk (st := s_l_string) l10 c10 k10,
    b_l_string := (fun_mk (st := s_l_string) l10 c10 k10).binds (ps := ["_law_dice_here"]) fun _ _ _ _ _ _ us hl => match us, hl with | [_], _ => rfl,
    g_l_string := PySem.W.mg_of X G a10,
    a_l_integer := f11,
    fd_l_integer := _,
    F_l_integer := fun_mk (st := s_l_integer) l11 c11 k11,
    b_l_integer := (fun_mk (st := s_l_integer) l11 c11 k11).binds (ps := ["_law_dice_here"]) fun _ _ _ _ _ _ us hl => match us, hl with | [_], _ => rfl,
    g_l_integer := PySem.W.mg_of X G a11,
    a_l_tuple := f12,
    fd_l_tuple := _,
    F_l_tuple := fun_mk (st := s_l_tuple) l12 c12 k12,
    b_l_tuple := (fun_mk (st := s_l_tuple) l12 c12 k12).binds (ps := ["_law_dice_here"]) fun _ _ _ _ _ _ us hl => match us, hl with | [_], _ => rfl,
    g_l_tuple := PySem.W.mg_of X G a12,
    a_l_value := f13,
    fd_l_value := _,
    F_l_value := fun_mk (st := s_l_value) l13 c13 k13,
    b_l_value := (fun_mk (st := s_l_value) l13 c13 k13).binds (ps := ["_law_dice_here"]) fun _ _ _ _ _ _ us hl => match us, hl with | [_], _ => rfl,
    g_l_value := PySem.W.mg_of X G a13,
    a_l_like_name := f14,
    fd_l_like_name := _,
    F_l_like_name := fun_mk (st := s_l_like_name) l14 c14 k14,
    b_l_like_name := (fun_mk (st := s_l_like_name) l14 c14 k14).binds (ps := ["_law_value_here"]) fun _ _ _ _ _ _ us hl => match us, hl with | [_], _ => rfl,
    g_l_like_name := PySem.W.mg_of X G a14,
    a_l_like_integer := f15,
    fd_l_like_integer := _,
    F_l_like_integer := fun_mk (st := s_l_like_integer) l15 c15 k15,
    b_l_like_integer := (fun_mk (st := s_l_like_integer) l15 c15 k15).binds (ps := ["_law_value_here"]) fun _ _ _ _ _ _ us hl => match us, hl with | [_], _ => rfl,
    g_l_like_integer := PySem.W.mg_of X G a15,
    a_l_like_row := f16,
    fd_l_like_row := _,
    F_l_like_row := fun_mk (st := s_l_like_row) l16 c16 k16,
    b_l_like_row := (fun_mk (st := s_l_like_row) l16 c16 k16).binds (ps := ["_law_value_here"]) fun _ _ _ _ _ _ us hl => match us, hl with | [_], _ => rfl,
    g_l_like_row := PySem.W.mg_of X G a16,
    a_l_right := f17,
    fd_l_right := _,
    F_l_right := fun_mk (st := s_l_right) l17 c17 k17,
    b_l_right := (fun_mk (st := s_l_right) l17 c17 k17).binds (ps := ["_law_value_here"]) fun _ _ _ _ _ _ us hl => match us, hl with | [_], _ => rfl,
    g_l_right := PySem.W.mg_of X G a17,
    a_law := fa,
    fd_law := _,
    F_law := fun_mk (st := s_law) l18 c18 k18,
    b_law := (fun_mk (st := s_law) l18 c18 k18).binds (ps := ["_law_script"]) fun _ _ _ _ _ _ us hl => match us, hl with | [_], _ => rfl,
    g_law := PySem.W.mg_of X G a18,
    t_LONGEST_NAME := t_LONGEST_NAME,
    m_LONGEST_NAME := PySem.W.mg_of X G v_LONGEST_NAME,
    t_TOO_GREAT := t_TOO_GREAT,
    m_TOO_GREAT := PySem.W.mg_of X G v_TOO_GREAT,
    t_TOO_SMALL := t_TOO_SMALL,
    m_TOO_SMALL := PySem.W.mg_of X G v_TOO_SMALL,
    t_WIDEST_ROW := t_WIDEST_ROW,
    m_WIDEST_ROW := PySem.W.mg_of X G v_WIDEST_ROW,
    n_isinstance := PySem.W.mg_none_of X G z_isinstance,
    n_str := PySem.W.mg_none_of X G z_str,
    n_len := PySem.W.mg_none_of X G z_len,
    n_int := PySem.W.mg_none_of X G z_int,
    n_bool := PySem.W.mg_none_of X G z_bool,
    n_tuple := PySem.W.mg_none_of X G z_tuple,
    n_max := PySem.W.mg_none_of X G z_max,
    n_abs := PySem.W.mg_none_of X G z_abs,
    n_range := PySem.W.mg_none_of X G z_range,
    n_list := PySem.W.mg_none_of X G z_list,
    n_min := PySem.W.mg_none_of X G z_min }
  exact ⟨T.fd_law, fun s v => .of_eq rfl, fun base _ _ => ok_law T⟩
end
end K01
open PySem PySem.W PyProof.Rows
set_option maxHeartbeats 0 in
theorem PySem.Challenge.cw_goneunseen_k01_names_integers_terms_rows_holds : PySem.Challenge.rw_goneunseen_k01_names_integers_terms_rows.Holds := by
  w_on; o_law; k_head; (case hw => w_witness2)
  k_fill
  refine L2.walk_of (l := PySem.Challenge.rw_goneunseen_k01_names_integers_terms_rows) (n := 63) (k := 6) (x := "_law_script") (CX := fun _ => L2.CX0) (sp := fun w => K01.sp_law _) rfl (by decide) rfl ⟨rfl, by decide, by decide⟩ (fun w h Y => PySem.W.kIn_of Y) ?F (fun _ _ a ns hl _ hS => ⟨a, ns, rfl, hS, hl, fun _ => rfl⟩) (fun _ _ _ _ _ h => h)
  case F =>
    intro w mg fa h KX G hmg
    refine' K01.all_mk KX G hmg ?l1 ?c1 ?k1 ?a1 ?l2 ?c2 ?k2 ?a2 ?l3 ?c3 ?k3 ?a3 ?l4 ?c4 ?k4 ?a4 ?l5 ?c5 ?k5 ?a5 ?l6 ?c6 ?k6 ?a6 ?l7 ?c7 ?k7 ?a7 ?l8 ?c8 ?k8 ?a8 ?l9 ?c9 ?k9 ?a9 ?l10 ?c10 ?k10 ?a10 ?l11 ?c11 ?k11 ?a11 ?l12 ?c12 ?k12 ?a12 ?l13 ?c13 ?k13 ?a13 ?l14 ?c14 ?k14 ?a14 ?l15 ?c15 ?k15 ?a15 ?l16 ?c16 ?k16 ?a16 ?l17 ?c17 ?k17 ?a17 ?l18 ?c18 ?k18 ?a18 ?v_LONGEST_NAME ?v_TOO_GREAT ?v_TOO_SMALL ?v_WIDEST_ROW ?z_isinstance ?z_str ?z_len ?z_int ?z_bool ?z_tuple ?z_max ?z_abs ?z_range ?z_list ?z_min
    (case a1 => k_is); (case a2 => k_is); (case a3 => k_is); (case a4 => k_is); (case a5 => k_is); (case a6 => k_is); (case a7 => k_is); (case a8 => k_is); (case a9 => k_is); (case a10 => k_is); (case a11 => k_is); (case a12 => k_is); (case a13 => k_is); (case a14 => k_is); (case a15 => k_is); (case a16 => k_is); (case a17 => k_is); (case a18 => k_is); (case v_LONGEST_NAME => k_is); (case v_TOO_GREAT => k_is); (case v_TOO_SMALL => k_is); (case v_WIDEST_ROW => k_is); (case z_isinstance => k_is); (case z_str => k_is); (case z_len => k_is); (case z_int => k_is); (case z_bool => k_is); (case z_tuple => k_is); (case z_max => k_is); (case z_abs => k_is); (case z_range => k_is); (case z_list => k_is); (case z_min => k_is); (case l1 => k_is); (case l2 => k_is); (case l3 => k_is); (case l4 => k_is); (case l5 => k_is); (case l6 => k_is); (case l7 => k_is); (case l8 => k_is); (case l9 => k_is); (case l10 => k_is); (case l11 => k_is); (case l12 => k_is); (case l13 => k_is); (case l14 => k_is); (case l15 => k_is); (case l16 => k_is); (case l17 => k_is); (case l18 => k_is); (case c1 => k_is); (case k1 => k_is); (case c2 => k_is); (case k2 => k_is); (case c3 => k_is); (case k3 => k_is); (case c4 => k_is); (case k4 => k_is); (case c5 => k_is); (case k5 => k_is); (case c6 => k_is); (case k6 => k_is); (case c7 => k_is); (case k7 => k_is); (case c8 => k_is); (case k8 => k_is); (case c9 => k_is); (case k9 => k_is); (case c10 => k_is); (case k10 => k_is); (case c11 => k_is); (case k11 => k_is); (case c12 => k_is); (case k12 => k_is); (case c13 => k_is); (case k13 => k_is); (case c14 => k_is); (case k14 => k_is); (case c15 => k_is); (case k15 => k_is); (case c16 => k_is); (case k16 => k_is); (case c17 => k_is); (case k17 => k_is); (case c18 => k_is); (case k18 => k_is)