import PyProof.Rows.All
import Wide.All
import OpenK.AllK
import Wide.FinOn
import HandS.ForMost
import HandS.IsInst
import HandS.Wide
import HandS.Style
import HandS.Walk
import HandS.Text
import HandS.StrMore
import HandS.Deep
import HandS.TupSets
import HandS.SetFor
import HandS.Strs
import HandS.OwnEq
import HandS.ClsMeth
import HandS.MakeKwOnly
import HandS.Property
import HandS.Conv
import HandS.TupAny
import HandS.Star
import HandS.Exc
import HandS.ExcOwn
import HandS.Lambda
import HandS.EndTab
import HandS.RaiseMore
import HandS.FStr
import HandS.WordsExc
import HandS.ExcSuper
import HandS.ExcInit
import HandS.TryMany
import HandS.Small
import KE.KSuper
import KE.KNest
import KE.KOpsOwn
import KE.KCallOwn
import PyProof.Rows.NestShow
import PyProof.EqAt
import KE.KIntText
import KE.SortData
import KE.KeyNested
import KE.SortLaws
import PySem.Challenge.RW_goneunseen_k26_spots
set_option Elab.async false
set_option linter.all false
set_option maxRecDepth 100000
/-! ### of our own, for every law: what the dice are, what stays, a few rules -/
namespace Kit
open PySem PySem.Spec PyProof.Rows L2
/-- the dice: a list of three ints -/
def Dice (H : Hp) (d : Addr) : Prop := ∃ a b c : Int, H d = some (.lst [.int a, .int b, .int c]) ∧ 0 ≤ a ∧ a.natAbs < 2 ^ 2200
/-- all that stood stands, but for the dice -/
def Keep (d : Addr) (H H' : Hp) : Prop := (∀ b o, b ≠ d → H b = some o → H' b = some o) ∧ Dice H' d
theorem Keep.trans {d : Addr} {H H1 H2 : Hp} (a : Keep d H H1) (b : Keep d H1 H2) : Keep d H H2 :=
  ⟨fun x o hx h => b.1 x o hx (a.1 x o hx h), b.2⟩
theorem Keep.refl {d : Addr} {H : Hp} (h : Dice H d) : Keep d H H := ⟨fun _ _ _ h => h, h⟩
theorem Dice.same {d : Addr} {H H1 : Hp} (h : Dice H d) (s : Same H H1) : Dice H1 d := by
  obtain ⟨a, b, c, e, r⟩ := h
  exact ⟨a, b, c, s _ _ e, r⟩
theorem Keep.of_same {d : Addr} {H H1 : Hp} (s : Same H H1) (h : Dice H d) : Keep d H H1 := ⟨fun b o _ e => s b o e, h.same s⟩
theorem Keep.same {d : Addr} {H H1 H2 : Hp} (k : Keep d H H1) (s : Same H1 H2) : Keep d H H2 := k.trans (.of_same s k.2)
theorem same_upd {H : Hp} {p : Addr} {o : HO} (h : H p = none) : Same H (upd H p o) := fun b x e => by
  rw [upd_ne (ne_of_none e h)]
  exact e
theorem Dice.ne_of {d p : Addr} {H : Hp} (h : Dice H d) (n : H p = none) : p ≠ d := fun e => by
  obtain ⟨a, b, c, x, _⟩ := h
  rw [e, x] at n
  cases n
/-- a thing of our own is stored anew -/
theorem Keep.put {d p : Addr} {H H1 : Hp} {o : HO} (k : Keep d H H1) (n : H p = none) (hp : p ≠ d) : Keep d H (upd H1 p o) := by
  refine ⟨fun b x hb e => ?_, ?_⟩
  · rw [upd_ne (ne_of_none e n)]
    exact k.1 b x hb e
  · obtain ⟨a, b, c, e, r⟩ := k.2
    exact ⟨a, b, c, by rw [upd_ne (Ne.symm hp)]; exact e, r⟩
theorem Keep.lst {d p : Addr} {H H1 : Hp} {xs : List V} (k : Keep d H H1) (hp : p ≠ d) (h : H p = some (.lst xs)) : H1 p = some (.lst xs) := k.1 _ _ hp h
theorem Keep.some {d p : Addr} {H H1 : Hp} {o : HO} (k : Keep d H H1) (hp : p ≠ d) (h : H p = some o) : H1 p = some o := k.1 _ _ hp h

section
variable {X : Cx}
/-- a power whose size is known -/
theorem op_powW : OpR X (binaryOp .Pow) (rI (fun i j => 0 ≤ j ∧ (Builtin.Int.intBits i : Int) * j ≤ 2 ^ 27) fun i j => .int (i ^ j.toNat)) := opI fun _ _ _ _ _ _ _ hc q => pow_int hc.1 hc.2 q
def rEqNil (K : PySem.W.Frag) : R2 := fun x y H Q => ∃ p q xs, x = .ref p ∧ y = .ref q ∧ SqL K H p xs ∧ SqL K H q [] ∧ Q (.bl xs.isEmpty) H
/-- a list of anything == [] -/
theorem op_eqNil (hu : X.A.units + 64 < cLine) : OpR X (compareOp .Eq) (rEqNil X.K) := by
  intro pins s σ H x y v u Q I rx ry h
  obtain ⟨p, q, xs, rfl, rfl, hp, hq, k⟩ := h
  cases rx
  cases ry
  cases xs with
  | nil => exact op_eqD hu pins s σ H (.ref p) (.ref q) _ _ Q I rfl rfl ⟨.list [], .list [], .lst hp .nil, .lst hq .nil, rfl, rfl, k⟩
  | cons z zs =>
    obtain ⟨its, rv, hl, _⟩ := I.list hp
    obtain ⟨its2, rv2, hl2, _⟩ := I.list hq
    cases rv2
    cases rv with
    | cons r1 r2 =>
      refine SeqAt.eq_list_lengthsAt hl.isList hl2.isList ?_ (by omega) ⟨.bl _, H, I, rfl, k⟩
      simp

/-- a rest, told by its bounds -/
def rMod : R2 := fun x y H Q => ∃ i j : Int, x = .int i ∧ y = .int j ∧ 0 < j ∧ ∀ r : Int, 0 ≤ r → r < j → r = i % j → Q (.int r) H
theorem op_modB : OpR X (binaryOp .Mod) rMod := by
  intro pins s σ H x y v u Q I rx ry h
  obtain ⟨i, j, rfl, rfl, hj, q⟩ := h
  exact op_mod pins s σ H _ _ v u Q I rx ry ⟨i, j, rfl, rfl, hj, q (i % j) (Int.emod_nonneg _ (by omega)) (Int.emod_lt_of_pos _ hj) rfl⟩
/-- a or b, a and b of two truths, the second one leaving all as it is: one way -/
def tOrB (ta tb : TE) : TE := fun σ H Q => ta σ H fun x H1 => ∃ c d : Bool, x = .bl c ∧ (c = false → tb σ H1 fun y H2 => y = .bl d ∧ H2 = H1) ∧ Q (.bl (c || d)) H1
def tAndB (ta tb : TE) : TE := fun σ H Q => ta σ H fun x H1 => ∃ c d : Bool, x = .bl c ∧ (c = true → tb σ H1 fun y H2 => y = .bl d ∧ H2 = H1) ∧ Q (.bl (c && d)) H1
def tMono (ta : TE) : TE := fun σ H Q => ∃ R : VK, ta σ H R ∧ ∀ x H', R x H' → Q x H'
theorem pe_mono {a : Expr} {ta : TE} (ha : PE X a ta) : PE X a (tMono ta) := ⟨fun pins s σ H Q I h => by
  obtain ⟨R, h1, h2⟩ := h
  exact thn (ha.run pins s σ H R I h1) fun v s1 ⟨x, H1, I1, r1, q1⟩ => ⟨x, H1, I1, r1, h2 x H1 q1⟩⟩
theorem pe_orB {a b : Expr} {ta tb : TE} {pos : Pos} (ha : PE X a ta) (hb : PE X b tb) : PE X (.BoolOp .Or [a, b] pos) (tOrB ta tb) := ⟨fun pins s σ H Q I h => by
  refine (pe_or (pe_mono ha) (pe_one (pe_mono hb))).run pins s σ H Q I ⟨_, h, fun x H1 r => ?_⟩
  obtain ⟨c, d, rfl, hd, q⟩ := r
  refine ⟨c, rfl, ?_⟩
  cases c with
  | true => exact iteT q
  | false => exact iteF ⟨_, hd rfl, fun y H2 ⟨e1, e2⟩ => by rw [e1, e2]; exact q⟩⟩
theorem pe_andB {a b : Expr} {ta tb : TE} {pos : Pos} (ha : PE X a ta) (hb : PE X b tb) : PE X (.BoolOp .And [a, b] pos) (tAndB ta tb) := ⟨fun pins s σ H Q I h => by
  refine (pe_and (pe_mono ha) (pe_one (pe_mono hb))).run pins s σ H Q I ⟨_, h, fun x H1 r => ?_⟩
  obtain ⟨c, d, rfl, hd, q⟩ := r
  refine ⟨c, rfl, ?_⟩
  cases c with
  | true => exact iteT ⟨_, hd rfl, fun y H2 ⟨e1, e2⟩ => by rw [e1, e2]; exact q⟩
  | false => exact iteF q⟩
def tMonoT (t : TT) : TT := fun σ H Q => ∃ R : Bool → Hp → Prop, t σ H R ∧ ∀ c H', R c H' → Q c H'
theorem pt_mono {a : Expr} {t : TT} (ha : PT X a t) : PT X a (tMonoT t) := ⟨fun pins s σ H Q I h => by
  obtain ⟨R, h1, h2⟩ := h
  exact thn (ha.run pins s σ H R I h1) fun b s1 ⟨H1, I1, q1⟩ => ⟨H1, I1, h2 b H1 q1⟩⟩
/-- a if t else b, the ways leaving all as it is: one way -/
def tIfB (t : TT) (ta tb : TE) : TE := fun σ H Q => t σ H fun c H1 => ∃ v, (c = true → ta σ H1 fun y H2 => y = v ∧ H2 = H1) ∧ (c = false → tb σ H1 fun y H2 => y = v ∧ H2 = H1) ∧ Q v H1
theorem pe_ifB {c a b : Expr} {t : TT} {ta tb : TE} {pos : Pos} (hc : PT X c t) (ha : PE X a ta) (hb : PE X b tb) : PE X (.IfExp c a b pos) (tIfB t ta tb) := ⟨fun pins s σ H Q I h => by
  refine (pe_ifExp (pt_mono hc) (pe_mono ha) (pe_mono hb)).run pins s σ H Q I ⟨_, h, fun x H1 r => ?_⟩
  obtain ⟨v, h1, h2, q⟩ := r
  cases x with
  | true => exact iteT ⟨_, h1 rfl, fun y H2 ⟨e1, e2⟩ => by rw [e1, e2]; exact q⟩
  | false => exact iteF ⟨_, h2 rfl, fun y H2 ⟨e1, e2⟩ => by rw [e1, e2]; exact q⟩⟩
def rNeNil (K : PySem.W.Frag) : R2 := fun x y H Q => ∃ p q xs, x = .ref p ∧ y = .ref q ∧ SqL K H p xs ∧ SqL K H q [] ∧ Q (.bl (!xs.isEmpty)) H
/-- a list of anything != [] -/
theorem op_neNil (hu : X.A.units + 64 < cLine) : OpR X (compareOp .NotEq) (rNeNil X.K) := by
  intro pins s σ H x y v u Q I rx ry h
  obtain ⟨p, q, xs, rfl, rfl, hp, hq, k⟩ := h
  cases rx
  cases ry
  cases xs with
  | nil => exact op_neD hu pins s σ H (.ref p) (.ref q) _ _ Q I rfl rfl ⟨.list [], .list [], .lst hp .nil, .lst hq .nil, rfl, rfl, k⟩
  | cons z zs =>
    obtain ⟨its, rv, hl, _⟩ := I.list hp
    obtain ⟨its2, rv2, hl2, _⟩ := I.list hq
    cases rv2
    cases rv with
    | cons r1 r2 =>
      exact SeqAt.RcNeAt.lists_lengths hl.isList hl2.isList (by simp) (by omega) X.prog X.w X.xe _ ⟨.bl _, H, I, rfl, k⟩
end
/-- an item at a place that is there -/
theorem ixN_of {n : Nat} {i : Int} (h0 : 0 ≤ i) (h1 : i < n) : ixN n i = some i.toNat := by
  unfold ixN
  rw [if_pos h0, if_pos (by omega)]
theorem at_lt {α : Type} {xs : List α} {i : Int} (h0 : 0 ≤ i) (h1 : i < xs.length) : ∃ v, atI xs i = some v ∧ v ∈ xs := by
  have h : i.toNat < xs.length := by omega
  refine ⟨xs[i.toNat], ?_, List.getElem_mem h⟩
  unfold atI
  rw [ixN_of h0 h1]
  show xs[i.toNat]? = _
  exact List.getElem?_eq_getElem h
theorem sput {H H1 : Hp} {p : Addr} {o : HO} (s : Same H H1) (n : H p = none) : Same H (upd H1 p o) := fun b x e => by
  rw [upd_ne (ne_of_none e n)]
  exact s b x e
theorem snew {H H1 : Hp} {p : Addr} {o : HO} (s : Same H H1) (n : H1 p = none) : Same H (upd H1 p o) := s.trans (same_upd n)
theorem Keep.free {d p : Addr} {H H1 : Hp} (k : Keep d H H1) (n : H1 p = none) : H p = none := by
  cases e : H p with
  | none => rfl
  | some o =>
    by_cases hp : p = d
    · obtain ⟨a, b, c, x, _⟩ := k.2
      rw [hp, x] at n
      cases n
    · rw [k.1 _ _ hp e] at n
      cases n
/-- a comprehension whose test and element leave all as it stood (but for new things): what it makes -/
theorem lc_pure {α : Type} {J : It} {n : Nat} {G : Hp → Prop} {Y : Nat → Hp → V → Hp → Prop} (w : Walk J n G Y) {k : Nat} {tt : TT} {te : TE} {vs : List Nat} {σ : L2.St} {H : Hp} {D : Addr} {Qd : Hp → Prop}
    (hD : H D = none) (xs : List α) (val : α → V) (p : α → Bool) (f : α → V) (hn : xs.length = n) (hsz : n ≤ 1000) (hk : k ∈ vs)
    (hG : ∀ H1, Same H H1 → G H1) (hY : ∀ i H1 x H', Same H H1 → Y i H1 x H' → H' = H1 ∧ ∃ a, xs[i]? = some a ∧ x = val a)
    (ht : ∀ a H1, a ∈ xs → Same H H1 → ∀ Q : Bool → Hp → Prop, (∀ H2, Same H1 H2 → Q (p a) H2) → tt ((wipe σ vs).set k (some (val a))) H1 Q)
    (he : ∀ a H1, a ∈ xs → p a = true → Same H H1 → ∀ Q : VK, (∀ H2, Same H1 H2 → Q (f a) H2) → te ((wipe σ vs).set k (some (val a))) H1 Q)
    (hw : ∀ x, wipe ((wipe σ vs).set k (some x)) vs = wipe σ vs)
    (hd : ∀ H1, Same H H1 → H1 D = some (.lst ((xs.filter p).map f)) → Qd H1) :
    ∃ W : Nat → Nat → Hp → Prop, (∃ m, W 0 m (upd H D (.lst []))) ∧ ∀ i m H, W i m H →
      (J.stop i H ∧ Qd H) ∨ (J.go i H ∧ ∃ Nx : Hp → Prop, (∀ H', Nx H' → ∃ m', m' < m ∧ W (i + 1) m' H') ∧ ∀ x H', J.yld i H x H' → gName k x (wipe σ vs) H' fun σ2 H2 => wipe σ2 vs = wipe σ vs ∧ tt σ2 H2 fun b H3 =>
        if b = true then te σ2 H3 fun y H4 => ∃ acc, H4 D = some (.lst acc) ∧ acc.length < sizeLine ∧ Nx (upd H4 D (.lst (acc ++ [y]))) else Nx H3) := by
  have step : ∀ {i : Nat} {a : α}, xs[i]? = some a → (xs.take (i + 1)).filter p = (xs.take i).filter p ++ (if p a = true then [a] else []) := fun {i a} e => by
    rw [List.take_add_one, e, List.filter_append]
    show _ ++ List.filter p [a] = _
    rw [List.filter_cons]
    rfl
  refine lc_it w (g := gName k) (fun i H1 => Same H H1 ∧ H1 D = some (.lst (((xs.take i).filter p).map f))) ⟨same_upd hD, by rw [upd_same]; rfl⟩ (fun i H1 _ h => hG H1 h.1) (fun i x H1 H' hi h y => ?_) fun H1 h => hd H1 h.1 (by rw [h.2, List.take_of_length_le (by omega)])
  obtain ⟨s1, e1⟩ := h
  obtain ⟨rfl, a, ea, rfl⟩ := hY i H1 x H' s1 y
  have ma : a ∈ xs := List.mem_of_getElem? ea
  refine ⟨hw _, ht a _ ma s1 _ fun H2 s2 => ?_⟩
  cases hp : p a with
  | true =>
    refine iteT (he a H2 ma hp (s1.trans s2) _ fun H3 s3 => ⟨_, s3 _ _ (s2 _ _ e1), ?_, ?_⟩)
    · rw [List.length_map]
      exact Nat.lt_of_le_of_lt (Nat.le_trans (List.length_filter_le _ _) (List.length_take_le _ _)) (small1000 (by omega))
    · refine ⟨sput ((s1.trans s2).trans s3) hD, ?_⟩
      rw [upd_same, step ea, hp, if_pos rfl, List.map_append]
      rfl
  | false =>
    refine iteF ⟨s1.trans s2, ?_⟩
    rw [s2 _ _ e1, step ea, hp, if_neg Bool.false_ne_true, List.append_nil]
/-- .. for any target: st a is what stands in the slots behind it -/
theorem lc_pureG {α : Type} {J : It} {n : Nat} {G : Hp → Prop} {Y : Nat → Hp → V → Hp → Prop} (w : Walk J n G Y) {g : TG} {tt : TT} {te : TE} {vs : List Nat} {σ : L2.St} {H : Hp} {D : Addr} {Qd : Hp → Prop}
    (hD : H D = none) (xs : List α) (val : α → V) (st : α → L2.St) (p : α → Bool) (f : α → V) (hn : xs.length = n) (hsz : n ≤ 1000)
    (hG : ∀ H1, Same H H1 → G H1) (hY : ∀ i H1 x H', Same H H1 → Y i H1 x H' → H' = H1 ∧ ∃ a, xs[i]? = some a ∧ x = val a)
    (hg : ∀ a H1, a ∈ xs → Same H H1 → ∀ Q : L2.St → Hp → Prop, Q (st a) H1 → g (val a) (wipe σ vs) H1 Q)
    (ht : ∀ a H1, a ∈ xs → Same H H1 → ∀ Q : Bool → Hp → Prop, (∀ H2, Same H1 H2 → Q (p a) H2) → tt (st a) H1 Q)
    (he : ∀ a H1, a ∈ xs → p a = true → Same H H1 → ∀ Q : VK, (∀ H2, Same H1 H2 → Q (f a) H2) → te (st a) H1 Q)
    (hw : ∀ a, a ∈ xs → wipe (st a) vs = wipe σ vs)
    (hd : ∀ H1, Same H H1 → H1 D = some (.lst ((xs.filter p).map f)) → Qd H1) :
    ∃ W : Nat → Nat → Hp → Prop, (∃ m, W 0 m (upd H D (.lst []))) ∧ ∀ i m H, W i m H →
      (J.stop i H ∧ Qd H) ∨ (J.go i H ∧ ∃ Nx : Hp → Prop, (∀ H', Nx H' → ∃ m', m' < m ∧ W (i + 1) m' H') ∧ ∀ x H', J.yld i H x H' → g x (wipe σ vs) H' fun σ2 H2 => wipe σ2 vs = wipe σ vs ∧ tt σ2 H2 fun b H3 =>
        if b = true then te σ2 H3 fun y H4 => ∃ acc, H4 D = some (.lst acc) ∧ acc.length < sizeLine ∧ Nx (upd H4 D (.lst (acc ++ [y]))) else Nx H3) := by
  have step : ∀ {i : Nat} {a : α}, xs[i]? = some a → (xs.take (i + 1)).filter p = (xs.take i).filter p ++ (if p a = true then [a] else []) := fun {i a} e => by
    rw [List.take_add_one, e, List.filter_append]
    show _ ++ List.filter p [a] = _
    rw [List.filter_cons]
    rfl
  refine lc_it w (g := g) (fun i H1 => Same H H1 ∧ H1 D = some (.lst (((xs.take i).filter p).map f))) ⟨same_upd hD, by rw [upd_same]; rfl⟩ (fun i H1 _ h => hG H1 h.1) (fun i x H1 H' hi h y => ?_) fun H1 h => hd H1 h.1 (by rw [h.2, List.take_of_length_le (by omega)])
  obtain ⟨s1, e1⟩ := h
  obtain ⟨rfl, a, ea, rfl⟩ := hY i H1 x H' s1 y
  have ma : a ∈ xs := List.mem_of_getElem? ea
  refine hg a _ ma s1 _ ⟨hw a ma, ht a _ ma s1 _ fun H2 s2 => ?_⟩
  cases hp : p a with
  | true =>
    refine iteT (he a H2 ma hp (s1.trans s2) _ fun H3 s3 => ⟨_, s3 _ _ (s2 _ _ e1), ?_, ?_⟩)
    · rw [List.length_map]
      exact Nat.lt_of_le_of_lt (Nat.le_trans (List.length_filter_le _ _) (List.length_take_le _ _)) (small1000 (by omega))
    · refine ⟨sput ((s1.trans s2).trans s3) hD, ?_⟩
      rw [upd_same, step ea, hp, if_pos rfl, List.map_append]
      rfl
  | false =>
    refine iteF ⟨s1.trans s2, ?_⟩
    rw [s2 _ _ e1, step ea, hp, if_neg Bool.false_ne_true, List.append_nil]
theorem yesT {σ : L2.St} {H : Hp} {A B : Hp → Prop} (h : A H) : tYes σ H (fun b H3 => if b = true then A H3 else B H3) := show (if true = true then A H else B H) from iteT h
theorem joinL_nil : ∀ ps : List (List Nat), TL.joinL [] ps = ps.flatten
  | [] => rfl
  | [p] => by
    show p = _
    simp
  | p :: q :: r => by
    show p ++ ([] ++ TL.joinL [] (q :: r)) = _
    rw [List.nil_append, joinL_nil (q :: r), List.flatten_cons (l := p)]
theorem join_len (ys : List Str) : (Txt.join "" ys).length = (ys.map (·.length)).sum := by
  have e : (Txt.join "" ys).cps.toList = (ys.map TL.tl).flatten := by
    rw [TL.join_eq]
    have h := TL.tl_join "" ys
    rw [show TL.tl "" = [] by decide +kernel, joinL_nil] at h
    exact h
  have e2 := congrArg List.length e
  rw [Array.length_toList, List.length_flatten, List.map_map] at e2
  exact e2
theorem sum_ones : ∀ ys : List Str, (∀ y ∈ ys, y.length = 1) → (ys.map (·.length)).sum = ys.length
  | [], _ => rfl
  | y :: ys, h => by
    rw [List.map_cons, List.sum_cons, sum_ones ys fun z hz => h z (List.mem_cons_of_mem _ hz), h y (List.mem_cons_self ..), List.length_cons]
    omega
theorem filt_all {α : Type} (xs : List α) : xs.filter (fun _ => true) = xs := List.filter_eq_self.2 fun _ _ => rfl
theorem all_filt {α : Type} (p : α → Bool) : ∀ xs : List α, xs.all p = (xs.filter fun x => !p x).isEmpty
  | [] => rfl
  | x :: xs => by
    rw [List.all_cons, List.filter_cons]
    cases h : p x with
    | true =>
      rw [if_neg (by simp), Bool.true_and]
      exact all_filt p xs
    | false => simp
theorem abs_nat (i : Int) : (if i < 0 then -i else i) = ((i.natAbs : Nat) : Int) := by
  split <;> omega
theorem sz_of {n : Nat} (h : n ≤ 100000) : n ≤ sizeLine := Nat.le_trans h (by decide)
theorem nb {b : Bool} (h : (!b) = true) : b = false := by
  cases b with
  | false => rfl
  | true => cases h
theorem nnb {b : Bool} (h : ¬ (!b) = true) : b = true := by
  cases b with
  | true => rfl
  | false => exact absurd rfl h
theorem nt {b : Bool} (h : ¬ b = true) : b = false := by
  cases b with
  | false => rfl
  | true => exact absurd rfl h
/-- how long a number's text is -/
theorem numlen (m : Nat) : (Str.ofString (toString ((m : Nat) : Int))).length = (Nat.toDigits 10 m).length := by
  have e := congrArg List.length (PySem.W.KIN.signs_num m)
  rw [List.length_map, Array.length_toList] at e
  exact e
theorem numlen21 (m : Nat) : ((Str.ofString (toString ((m : Nat) : Int))).length < 21) ↔ m < 100000000000000000000 := by
  rw [numlen]
  have h := Nat.length_toDigits_le_iff (b := 10) (n := m) (k := 20) (by decide) (by decide)
  have e : (10 : Nat) ^ 20 = 100000000000000000000 := by decide
  rw [e] at h
  omega
end Kit
-- CUT
/-! ### of our own: sorted(x) of data, len(set(x)) of keys that are tuples of tuples, set(x) of ints -/
namespace Kit
open PySem PySem.Spec PyProof.Rows L2
/-- the heap behind the items xs laid into a new list -/
abbrev hpNew (h : Heap) (xs : List Value) : Heap := (h.push (seqObj "list" #[] 0)).update h.objs.size (Obj.mapSeq (· ++ xs.toArray))
section
variable {prog : Program} {w : World} {A : Around} {E : Value → Shared → Prop} {s : Shared}
/-- the items of a tuple, laid into a new list -/
theorem collect_tup {l : Addr} {xs : List Value} {R : List Value → Shared → Prop} (ht : s.heap.IsTuple l xs.toArray) (hz : xs.length ≤ sizeLine)
    (k : R xs { s with heap := hpNew s.heap xs }) : wpAny (model prog w) A (collect (.ref l)) R E s := by
  obtain ⟨ob, e1, e2, m, e3⟩ := id ht
  have new : (s.heap.push (seqObj "list" #[] 0)).get? s.heap.objs.size = some (seqObj "list" #[] 0) := Heap.get?_push_size _ rfl
  have old : (s.heap.push (seqObj "list" #[] 0)).get? l = some ob := Heap.get?_push_of_some _ e1
  have z0 : ((#[] : Array Value) ++ xs.toArray).size ≤ sizeLine + 1 := by
    rw [Array.size_append, List.size_toArray]
    simp only [List.size_toArray, List.length_nil]
    omega
  have fin : ((#[] : Array Value) ++ xs.toArray).toList = xs := by simp
  unfold collect
  refine wpAny_bind (wpAny_runValue (codeAny_builtin entry_proto_collect' ?_))
  show wpAny _ _ (newList [] >>= fun z => again (.builtin "list.__iadd__" ⟨[z, .ref l], []⟩)) _ _ s
  refine wpAny_bind (wpAny_newList (wpAny_pure (And.intro (Code.quiet_builtin _ (by decide +kernel)) (codeAny_builtin entry_list_iadd' ?_))))
  show wpAny _ _ (Builtin.List.listExtendWith (.ref s.heap.objs.size) (.ref l) (.ref s.heap.objs.size)) _ _ { s with heap := Heap.push s.heap (seqObj "list" #[] 0) }
  unfold Builtin.List.listExtendWith
  refine wpAny_bind (wpAny_typeOf (T := "tuple") (Exists.intro ob (And.intro old e2)) ?_)
  rw [if_pos (by simp)]
  refine wpAny_bind (listItems_at old e3 ?_)
  refine wpAny_bind (listItems_at (n := 0) (xs := #[]) new rfl ?_)
  rw [if_neg (by simp)]
  refine wpAny_bind (listUpdate_at (n := 0) (xs := #[]) new rfl ?_ (Nat.zero_le _) z0)
  refine wpAny_pure ?_
  refine wpAny_bind (wpAny_load (get?_update_seq new _) ?_)
  show wpAny _ _ (pure ((#[] : Array Value) ++ xs.toArray).toList) R E _
  rw [fin]
  exact wpAny_pure k
open PySem.Calls in
/-- sorted(x), x a tuple -/
theorem sorted_tup {l : Addr} {xs : List Value} {β : Type} {bs : List β} {enc : β → PyData} {R : Value → β → Prop} {Q : Value → Shared → Prop} (ht : s.heap.IsTuple l xs.toArray) (e : PySem.W.EachIs R xs bs) (er : PySem.W.EachIs (fun v b => ∃ as, Reads s.heap v (enc b) as) xs bs)
    (hal : PySem.W.AllAlike (bs.map enc)) (hk : PySem.W.Sortable (bs.map enc)) (hz : bs.length ≤ sizeLine) (hu : ∀ b ∈ bs, A.units + 2 + (enc b).depth < cLine)
    (q : ∀ out : List Value, PySem.W.EachIs R out (bs.mergeSort (PySem.W.dataLe false enc)) → Q (.ref (s.heap.objs.size + 1)) { s with heap := sortedAll s.heap xs out.toArray }) :
    wpAny (model prog w) A (call (.builtin "sorted") [.ref l]) Q E s := by
  have hz' : xs.length ≤ sizeLine := by
    rw [e.length]
    exact hz
  have size : (hpNew s.heap xs).objs.size = s.heap.objs.size + 1 := by
    rw [Heap.size_update, size_push']
  have er2 : PySem.W.EachIs (fun v b => ∃ as, Reads (PySem.W.sortingHeap (PySem.W.copyHeap s.heap xs) (s.heap.objs.size + 1) xs) v (enc b) as) xs bs :=
    er.mono fun _ _ ⟨as, r⟩ => ⟨as, PyProof.Rows.Reads.keeps (fun _ _ => PySem.W.sorting_copy_old) r⟩
  have S := PySem.W.SortsAt.data (prog := prog) (w := w) (A := A.in1.in1) (s := { s with heap := PySem.W.sortingHeap (PySem.W.copyHeap s.heap xs) (s.heap.objs.size + 1) xs }) (PySem.W.each_map (R := fun v d => ∃ as, Reads (PySem.W.sortingHeap (PySem.W.copyHeap s.heap xs) (s.heap.objs.size + 1) xs) v d as) enc er2) hal hk (PySem.W.bound_map (A := A.in1.in1) hu)
  refine call_function_entry kind_sorted plain_sorted entry_sorted (args_sorted1 _) ?_
  unfold Builtin.«sorted»
  refine wpAny_bind (m := checkCount "sorted" 1 1 _) (wpAny_pure ?_)
  refine wpAny_bind (collect_tup ht hz' ?_)
  refine wpAny_bind (wpAny_newList ?_ hz')
  rw [size]
  refine wpAny_bind (wpAny_holding (wpAny_call_entry slot_list_sort ⟨_, PySem.W.copyHeap_at s.heap xs, rfl⟩ entry_list_sort ?_ (args_list_sort _)))
  refine PySem.W.list_sort_vals (s := { s with heap := PySem.W.copyHeap s.heap xs }) (PySem.W.copyHeap_at s.heap xs) S hz' ⟨Value.none, rfl, ?_⟩
  exact wpAny_pure ⟨_, rfl, q _ (PySem.W.sortVals_data false e er2 hal)⟩
end
/-- sorted(xs) of a list whose items are data, alike: each item p.1 is the datum p.2 -/
def rSortX (K : PySem.W.Frag) : List V → Hp → VK → Prop := fun vs H Q => ∃ (a : Addr) (ps : List (V × PyData)), vs = [V.ref a] ∧ (SqL K H a (ps.map Prod.fst) ∨ SqT K H a (ps.map Prod.fst)) ∧
  (∀ p ∈ ps, Dp K H p.1 p.2 ∧ p.2.depth ≤ 60) ∧ PySem.W.AllAlike (ps.map Prod.snd) ∧ PySem.W.Sortable (ps.map Prod.snd) ∧
  ∀ l, H l = none → Q (.ref l) (upd H l (.lst ((ps.mergeSort (PySem.W.dataLe false Prod.snd)).map Prod.fst)))
theorem each_of {X : Cx} {pins : List (Addr × Obj)} {σ : L2.St} {H : Hp} {s : Shared} (I : Inv X pins σ H s) : ∀ {ps : List (V × PyData)} {us : List Value}, Vals (ps.map Prod.fst) us → (∀ p ∈ ps, Dp X.K H p.1 p.2 ∧ p.2.depth ≤ 60) →
    PySem.W.EachIs (fun (u : Value) (p : V × PyData) => RelV p.1 u) us ps ∧ PySem.W.EachIs (fun (u : Value) (p : V × PyData) => ∃ as, Reads s.heap u p.2 as) us ps
  | [], us, r, _ => by
    cases r
    exact ⟨.nil, .nil⟩
  | p :: ps, us, r, h => by
    cases r with
    | cons r1 r2 =>
      obtain ⟨a, b⟩ := each_of I r2 fun q hq => h q (List.mem_cons_of_mem _ hq)
      exact ⟨.cons r1 a, .cons (Dp.reads I _ _ _ (h p (List.mem_cons_self ..)).1 r1) b⟩
theorem vals_each : ∀ {ps : List (V × PyData)} {us : List Value}, PySem.W.EachIs (fun (u : Value) (p : V × PyData) => RelV p.1 u) us ps → Vals (ps.map Prod.fst) us
  | _, _, .nil => .nil
  | _, _, .cons h t => .cons h (vals_each t)
theorem cr_sortedX {X : Cx} (hu : X.A.units + 64 < cLine) : CallR X (.builtin "sorted") (rSortX X.K) := by
  intro pins s σ H vs us Q I r h
  obtain ⟨a, ps, rfl, hs, hd, hal, hk, q⟩ := h
  rw [Vals.ref1 r]
  have len : ∀ its : List Value, Vals (ps.map Prod.fst) its → ps.length ≤ sizeLine → ∀ out : List Value, PySem.W.EachIs (fun (u : Value) (p : V × PyData) => RelV p.1 u) out (ps.mergeSort (PySem.W.dataLe false Prod.snd)) →
      EP X pins σ Q (.ref (s.heap.objs.size + 1)) { s with heap := sortedAll s.heap its out.toArray } := fun its rv hz out eo => by
    obtain ⟨ep, he⟩ := PyProof.Rows.sortedAll_at s.heap its out.toArray
    have len : ((ps.mergeSort (PySem.W.dataLe false Prod.snd)).map Prod.fst).length ≤ sizeLine := by
      rw [List.length_map, List.length_mergeSort]
      exact hz
    exact ⟨.ref _, upd H (s.heap.objs.size + 1) (.lst ((ps.mergeSort (PySem.W.dataLe false Prod.snd)).map Prod.fst)), I.laid (t' := s.toks) (fun _ _ => PyProof.Rows.sortedAll_old) (Nat.le_succ _) ⟨len, out, ep, vals_each eo, he⟩, rfl, q _ (I.hok.fresh (Nat.le_succ _))⟩
  have room : ∀ p ∈ ps, X.A.units + 2 + p.2.depth < cLine := fun p hp => by
    have := (hd p hp).2
    omega
  rcases hs with hs | hs
  · obtain ⟨its, rv, hl, hz⟩ := I.list hs
    obtain ⟨e1, e2⟩ := each_of I rv hd
    rw [List.length_map] at hz
    exact PySem.W.sorted_data hl.isList e1 e2 hal hk hz room fun out _ eo => len its rv hz out eo
  · obtain ⟨its, rv, ht, hz⟩ := I.tuple hs
    obtain ⟨e1, e2⟩ := each_of I rv hd
    rw [List.length_map] at hz
    exact sorted_tup ht e1 e2 hal hk hz room fun out eo => len its rv hz out eo
end Kit
namespace NS
open PySem PySem.Spec PyProof.Rows L2
abbrev NK := NestedKey
section
variable {P : Program} {w : World} {A : Around} {E : Value → Shared → Prop} {s : Shared}
theorem each_in {h : Heap} {n : Nat} : ∀ {ks : List NK} {vs : List Value}, NestedAll h ks vs → NestedKey.depthAll ks ≤ n → ∀ v ∈ vs, ∃ k : NK, NestedIs h k v ∧ k.depth ≤ n
  | [], _, a, _, v, hv => by
    cases a
    cases hv
  | k :: ks, _, a, d, v, hv => by
    cases a with
    | cons a1 a2 =>
      simp only [NestedKey.depthAll] at d
      rcases List.mem_cons.mp hv with rfl | m
      · exact ⟨k, a1, by omega⟩
      · exact each_in a2 (by omega) v m
/-- a value that is a key is of no class statement -/
theorem no_cls : ∀ (n : Nat) (k : NK) (v : Value) (A : Around) (Q : Bool → Shared → Prop), NestedIs s.heap k v → k.depth ≤ n → Q false s → wpAny (model P w) A (ofAClassStatement n v) Q E s := by
  intro n
  induction n with
  | zero =>
    intro k v A Q hk hd q
    cases hk with
    | tup => exact absurd hd (by simp only [NestedKey.depth]; omega)
    | _ => exact wpAny_pure q
  | succ n ih =>
    intro k v A Q hk hd q
    cases hk with
    | @tup b o xs m ks e1 e2 e3 e4 =>
      simp only [NestedKey.depth] at hd
      have hT : s.TypeIs (.ref b) "tuple" := ⟨o, e1, e2⟩
      have items := each_in (n := n) e4 (by omega)
      unfold ofAClassStatement
      refine wpAny_bind (wpAny_typeOf hT ?_)
      dsimp only
      simp only [show ("tuple" == "tuple") = true from by decide, if_true]
      refine wpAny_bind (wpAny_pure ?_)
      simp only [Bool.not_true, Bool.false_eq_true, if_false]
      refine wpAny_bind (m := seqItems? (.ref b)) (wpAny_seqItems e1 e3 ?_)
      dsimp only
      refine wpAny_bind ?_
      rw [← Array.forIn_toList]
      refine wpAny_forIn_list _ (fun r st s' => (∀ v ∈ r, ∃ k : NK, NestedIs s.heap k v ∧ k.depth ≤ n) ∧ st.1 = none ∧ s' = s) _ (fun v r st s' hI => ?_) (fun st s' hI => ?_) _ _ ⟨items, rfl, rfl⟩
      · obtain ⟨h1, h2, rfl⟩ := hI
        obtain ⟨k, hk, hd2⟩ := h1 v (List.mem_cons_self ..)
        refine wpAny_bind (ih k v _ _ hk hd2 ?_)
        simp only [Bool.false_eq_true, if_false]
        exact wpAny_pure ⟨fun u hu => h1 u (List.mem_cons_of_mem _ hu), rfl, rfl⟩
      · obtain ⟨_, h2, rfl⟩ := hI
        obtain ⟨r1, r2⟩ := st
        dsimp only at h2
        subst h2
        exact wpAny_pure q
    | _ => exact wpAny_pure q
/-- whether a key's hash rests on its value: one or the other -/
theorem by_val : ∀ (n : Nat) (k : NK) (v : Value) (A : Around) (Q : Bool → Shared → Prop), NestedIs s.heap k v → k.depth ≤ n → (∀ b, Q b s) → wpAny (model P w) A (hashByValue n v) Q E s := by
  intro n
  induction n with
  | zero =>
    intro k v A Q hk hd q
    cases hk with
    | tup => exact absurd hd (by simp only [NestedKey.depth]; omega)
    | _ => exact wpAny_pure (q _)
  | succ n ih =>
    intro k v A Q hk hd q
    cases hk with
    | @tup b o xs m ks e1 e2 e3 e4 =>
      simp only [NestedKey.depth] at hd
      have hT : s.TypeIs (.ref b) "tuple" := ⟨o, e1, e2⟩
      have items := each_in (n := n) e4 (by omega)
      unfold hashByValue
      refine wpAny_bind (wpAny_specialOf hT F.slot_tuple_hash.lookup ?_)
      dsimp only
      refine wpAny_bind (m := seqItems? (.ref b)) (wpAny_seqItems e1 e3 ?_)
      dsimp only [Option.getD]
      refine wpAny_bind ?_
      rw [← Array.forIn_toList]
      refine wpAny_forIn_list _ (fun r st s' => (∀ v ∈ r, ∃ k : NK, NestedIs s.heap k v ∧ k.depth ≤ n) ∧ s' = s) _ (fun v r st s' hI => ?_) (fun st s' hI => ?_) _ _ ⟨items, rfl⟩
      · obtain ⟨h1, rfl⟩ := hI
        obtain ⟨k, hk, hd2⟩ := h1 v (List.mem_cons_self ..)
        refine wpAny_bind (ih k v _ _ hk hd2 fun b => ?_)
        cases b with
        | false => exact wpAny_pure (wpAny_pure (q _))
        | true => exact wpAny_pure ⟨fun u hu => h1 u (List.mem_cons_of_mem _ hu), rfl⟩
      · obtain ⟨_, rfl⟩ := hI
        obtain ⟨r1, r2⟩ := st
        cases r1 with
        | none => exact wpAny_pure (q _)
        | some c => exact wpAny_pure (q _)
    | _ => exact wpAny_pure (q _)
/-- a tuple that is the key k -/
abbrev IsN (h : Heap) (k : NK) (b : Addr) : Prop := NestedIs h k (.ref b) ∧ k.depth ≤ 8
/-- a search among keys shows nothing -/
theorem unseen {k : NK} {b : Addr} {Q : Bool → Shared → Prop} (hk : IsN s.heap k b) {ys : List Value} (hy : ∀ y ∈ ys, ∃ k' c, y = Value.ref c ∧ IsN s.heap k' c) (q : Q false s) : wpAny (model P w) A (searchCouldBeSeen (.ref b) ys) Q E s := by
  unfold searchCouldBeSeen
  refine wpAny_bind ?_
  refine wpAny_forIn_list _ (fun r st s' => (∀ y ∈ r, ∃ k' c, y = Value.ref c ∧ IsN s.heap k' c) ∧ st.1 = none ∧ s' = s) _ (fun v r st s' hI => ?_) (fun st s' hI => ?_) _ _ ⟨hy, rfl, rfl⟩
  · obtain ⟨h1, h2, rfl⟩ := hI
    have h3 : ∀ y ∈ r, ∃ k' c, y = Value.ref c ∧ IsN s'.heap k' c := fun u hu => h1 u (List.mem_cons_of_mem _ hu)
    obtain ⟨k', c, rfl, hc⟩ := h1 v (List.mem_cons_self ..)
    dsimp only
    by_cases hv : (b == c || (carriedByValue (.ref b) && carriedByValue (.ref c))) = true
    · rw [if_pos hv]
      exact wpAny_pure ⟨h3, rfl, rfl⟩
    · rw [if_neg hv]
      refine wpAny_bind (quiet_key k _ 8 s' hk.1 hk.2 _ _ _ ?_)
      refine wpAny_bind (quiet_key k' _ 8 s' hc.1 hc.2 _ _ _ ?_)
      refine wpAny_bind (no_cls 8 k _ _ _ hk.1 hk.2 ?_)
      refine wpAny_bind (no_cls 8 k' _ _ _ hc.1 hc.2 ?_)
      exact wpAny_pure ⟨h3, rfl, rfl⟩
  · obtain ⟨_, h2, rfl⟩ := hI
    obtain ⟨r1, r2⟩ := st
    dsimp only at h2
    subst h2
    exact wpAny_pure q
end
end NS
namespace NS
open PySem PySem.Spec PyProof.Rows L2
/-- a set of at most four such keys, in its first table -/
structure NSet (w : World) (h : Heap) (a : Addr) (L : List (Addr × NK)) (es : Array (Int × Value)) (ep : Nat) (t : SetTable) : Prop where
  at_ : ∃ ob, h.get? a = some ob ∧ ob.ExactSet ∧ ob.data = .set es ep t
  its : es.toList = L.map fun p => (p.2.hash w, Value.ref p.1)
  tab : TabOk t (L.map fun p => p.2.hash w)
  one : (L.map Prod.snd).Nodup
  key : ∀ p ∈ L, IsN h p.2 p.1
  led : w.params.followText "set-order" = true ∨ t.led = true
  m7 : t.mask = 7
  few : L.length ≤ 4
section
variable {P : Program} {w : World} {A : Around} {E : Value → Shared → Prop} {s : Shared} {a : Addr} {L : List (Addr × NK)} {es : Array (Int × Value)} {ep : Nat} {t : SetTable}
theorem NSet.size (R : NSet w s.heap a L es ep t) : es.size = L.length := by
  have e := congrArg List.length R.its
  rwa [Array.length_toList, List.length_map] at e
theorem NSet.fits (R : NSet w s.heap a L es ep t) : t.fits es.size = true := by
  have z := R.tab.sz
  have f := R.few
  have m := R.m7
  rw [List.length_map] at z
  unfold SetTable.fits SetTable.fill
  rw [R.tab.dm, R.size, z, m]
  simp
  omega
theorem NSet.at' (R : NSet w s.heap a L es ep t) {i : Nat} {p : Addr × NK} (e : L[i]? = some p) : es[i]? = some (p.2.hash w, Value.ref p.1) := by
  rw [← Array.getElem?_toList, R.its, List.getElem?_map, e]
  rfl
/-- the search from its c-th step on: way K is the first empty slot -/
theorem NSet.from (R : NSet w s.heap a L es ep t) {x : Addr} {k : NK} (hx : IsN s.heap k x) (hu : A.units + 8 < cLine) {K : Nat} (kf : K < 10 * SetTable.turns t.mask)
    (k1 : way t.mask (k.hash w) K ∉ t.place.toList) (k2 : ∀ c, c < K → way t.mask (k.hash w) c ∈ t.place.toList) {Q : SetFound → Shared → Prop}
    (yes : k ∈ L.map Prod.snd → Q (.there none) s) (no : k ∉ L.map Prod.snd → Q (.free (way t.mask (k.hash w) K) false) s) :
    ∀ (f c : Nat) (st : Option SetTable.Probe), st.getD (t.probeStart (k.hash w)) = nth t.mask (runAt t.mask (SetTable.bits (k.hash w) % (t.mask + 1)) (SetTable.bits (k.hash w))) c → c ≤ K → K - c < f →
      (∀ (i : Nat) p, L[i]? = some p → p.2 = k → ∃ d, c ≤ d ∧ d < K ∧ t.place.toList[i]? = some (way t.mask (k.hash w) d)) →
      wpAny (model P w) A (setSearchFrom a (.ref x) (k.hash w) true f st) Q E s := by
  intro f
  induction f with
  | zero =>
    intro c st _ _ z _
    exact absurd z (Nat.not_lt_zero _)
  | succ f ih =>
    intro c st est hcK hf hre
    obtain ⟨ob, e1, e2, e3⟩ := R.at_
    generalize hg : runAt t.mask (SetTable.bits (k.hash w) % (t.mask + 1)) (SetTable.bits (k.hash w)) = g at est
    have wy : ∀ c, way t.mask (k.hash w) c = (nth t.mask g c).j := fun c => by rw [← hg]
    have nod : ∀ (n : Nat) (p : SetTable.Probe), p.dummy = none → (nth t.mask p n).dummy = none := by
      intro n
      induction n with
      | zero => exact fun p z => z
      | succ n jh =>
        intro p z
        refine jh _ ?_
        unfold adv
        split <;> exact z
    have gap : ¬ t.gaveWay = true := by
      unfold SetTable.gaveWay
      rw [mask_odd R.tab.mok]
      decide
    have same : t.sameMemory t.moves t.mask = some true := by
      unfold SetTable.sameMemory
      rw [if_pos (beq_self_eq_true _)]
    rw [setSearchFrom_succ]
    refine wpAny_bind (wpAny_setState_of e1 e3 R.fits ?_)
    dsimp only
    refine wp_if_neg gap ?_
    try refine wpAny_bind (wpAny_pure ?_)
    have shift : ∀ q, (nth t.mask (nth t.mask g c) q).j = way t.mask (k.hash w) (c + q) := fun q => by rw [wy, nth_add]
    have hash : ∀ (i : Nat) p, L[i]? = some p → (fun i => (es[i]?.map (·.1)).getD 0) i = p.2.hash w := fun i p e => by
      show (es[i]?.map (·.1)).getD 0 = _
      rw [R.at' e]
      rfl
    have spec := go_spec t R.tab.ris R.tab.dm (fun i => (es[i]?.map (·.1)).getD 0) (k.hash w) (10 * SetTable.turns t.mask) (K - c) (nth t.mask g c) (nod c g (by rw [← hg]; rfl)) (by omega)
      (fun q z => by rw [shift]; exact k2 _ (by omega)) (by rw [shift, Nat.add_sub_cancel' hcK]; exact k1)
    rcases spec with ⟨q, i, q1, q2, q3, q4, q5⟩ | ⟨q4, q5⟩
    · rw [shift] at q2
      have e4 : t.probe (fun i => (es[i]?.map (·.1)).getD 0) (k.hash w) (st.getD (t.probeStart (k.hash w))) = some (.candidate (way t.mask (k.hash w) (c + q)) i (nth t.mask g (c + (q + 1)))) := by
        rw [est, ← shift, nth_add]
        exact q5
      rw [e4]
      dsimp only
      have il : i < L.length := by
        have z1 := (List.getElem?_eq_some_iff.mp q2).1
        have z2 := R.tab.sz
        rw [List.length_map] at z2
        rw [Array.length_toList] at z1
        omega
      obtain ⟨p, ep'⟩ : ∃ p, L[i]? = some p := ⟨_, List.getElem?_eq_getElem il⟩
      have pm : p ∈ L := List.mem_of_getElem? ep'
      have pk := R.key p pm
      have live := slot_live R.tab.ris q2
      have go : wpAny (model P w) A (searchRest a (.ref x) (k.hash w) true f es t (way t.mask (k.hash w) (c + q)) i (nth t.mask g (c + (q + 1)))) Q E s := by
        unfold searchRest
        rw [R.at' ep']
        dsimp only
        refine wpAny_bind (wpAny_holding ?_)
        refine (nestedKind P w).eqBool (show A.units + 8 < cLine from hu) pk hx ?_
        refine wpAny_bind (wpAny_setState_of e1 e3 R.fits ?_)
        dsimp only
        by_cases hpk : p.2 = k
        · refine wp_if_pos (by simp [hpk]) ?_
          exact wpAny_pure (yes (List.mem_map.mpr ⟨p, pm, hpk⟩))
        · refine wp_if_neg (by simp [hpk]) ?_
          try refine wpAny_bind (wpAny_pure ?_)
          rw [same]
          dsimp only
          simp only [if_true, live, R.at' ep']
          refine wpAny_bind (wpAny_isSame_ref_self (wpAny_bind (wpAny_pure ?_)))
          simp only [if_true]
          refine wp_if_neg (by simp [hpk]) ?_
          refine ih (c + (q + 1)) _ (by rw [hg]; rfl) (by omega) (by omega) fun i0 p0 h0 hk0 => ?_
          obtain ⟨d, d1, d2, d3⟩ := hre i0 p0 h0 hk0
          refine ⟨d, ?_, d2, d3⟩
          rcases Nat.lt_trichotomy d (c + q) with z | z | z
          · refine absurd ?_ (q4 (d - c) i0 (by omega) ?_)
            · exact (hash i0 p0 h0).trans (congrArg (NestedKey.hash w) hk0)
            · rw [shift, Nat.add_sub_cancel' d1]
              exact d3
          · rw [z] at d3
            have l2 := slot_live R.tab.ris d3
            rw [live] at l2
            injection l2 with l2
            rw [← l2, ep'] at h0
            exact absurd ((congrArg Prod.snd (Option.some.inj h0)).trans hk0) hpk
          · omega
      by_cases hl : t.led = true
      · refine wp_if_neg (by simp [hl]) ?_
        try refine wpAny_bind (wpAny_pure ?_)
        exact go
      · refine wp_if_pos (by simp [hl]) ?_
        refine wpAny_bind (unseen hx (fun y hy => ?_) ?_)
        · obtain ⟨e, he, rfl⟩ := List.mem_map.mp hy
          have m1 : e ∈ es := by
            have z := Array.mem_toList_iff.mp he
            exact (Array.mem_filter.mp z).1
          have m2 := Array.mem_toList_iff.mpr m1
          rw [R.its] at m2
          obtain ⟨p2, hp2, rfl⟩ := List.mem_map.mp m2
          exact ⟨p2.2, p2.1, rfl, R.key p2 hp2⟩
        · refine wp_if_neg (by decide) ?_
          try refine wpAny_bind (wpAny_pure ?_)
          exact go
    · have e4 : t.probe (fun i => (es[i]?.map (·.1)).getD 0) (k.hash w) (st.getD (t.probeStart (k.hash w))) = some (.empty (way t.mask (k.hash w) K) none) := by
        have z := shift (K - c)
        rw [Nat.add_sub_cancel' hcK] at z
        rw [est, ← z]
        exact q5
      rw [e4]
      dsimp only
      refine wpAny_pure (no fun m => ?_)
      obtain ⟨p0, h0, hk0⟩ := List.mem_map.mp m
      obtain ⟨i0, hi0⟩ := List.getElem?_of_mem h0
      obtain ⟨d, d1, d2, d3⟩ := hre i0 p0 hi0 hk0
      refine absurd ?_ (q4 (d - c) i0 (by omega) ?_)
      · exact (hash i0 p0 hi0).trans (congrArg (NestedKey.hash w) hk0)
      · rw [shift, Nat.add_sub_cancel' d1]
        exact d3
/-- the search as adding asks for it -/
theorem NSet.search (R : NSet w s.heap a L es ep t) {x : Addr} {k : NK} (hx : IsN s.heap k x) (hu : A.units + 8 < cLine) {Q : SetFound → Shared → Prop} (yes : k ∈ L.map Prod.snd → Q (.there none) s)
    (no : ∀ K, k ∉ L.map Prod.snd → way t.mask (k.hash w) K ∉ t.place.toList → (∀ c, c < K → way t.mask (k.hash w) c ∈ t.place.toList) → Q (.free (way t.mask (k.hash w) K) false) s) :
    wpAny (model P w) A (setSearch a (.ref x) (k.hash w) true) Q E s := by
  have f := R.few
  have m := R.m7
  obtain ⟨K, kf, k1, k2⟩ := R.tab.first (by rw [List.length_map, m]; omega) (k.hash w)
  have kb : K < 100000 := by
    have z : 10 * SetTable.turns t.mask ≤ 1420 := by
      rw [m]
      decide
    omega
  unfold setSearch
  refine R.from hx hu kf k1 k2 yes (fun n => no K n k1 k2) 100000 0 none rfl (Nat.zero_le _) (by omega) fun i p e hp => ?_
  have e1 : (L.map fun p => p.2.hash w)[i]? = some (k.hash w) := by
    rw [List.getElem?_map, e, ← hp]
    rfl
  have il : i < t.place.toList.length := by
    have z1 := (List.getElem?_eq_some_iff.mp e).1
    have z2 := R.tab.sz
    rw [List.length_map] at z2
    rw [Array.length_toList]
    omega
  have hj := List.getElem?_eq_getElem il
  obtain ⟨c, c1, c2⟩ := R.tab.before k1 e1 hj
  exact ⟨c, Nat.zero_le _, c1, by rw [hj, c2]⟩
end
end NS
namespace NS
open PySem PySem.Spec PyProof.Rows L2
section
variable {P : Program} {w : World} {A : Around} {E : Value → Shared → Prop} {s : Shared} {a : Addr} {L : List (Addr × NK)} {es : Array (Int × Value)} {ep : Nat} {t : SetTable}
/-- no tuple is the set -/
theorem isN_but {h h' : Heap} {k : NK} {a b : Addr} {ob : Obj} {es : Array (Int × Value)} {ep : Nat} {t : SetTable} (hb : IsN h k b) (ho : h.get? a = some ob) (hd : ob.data = .set es ep t) (hs : Heap.SameBut a h h') : IsN h' k b := by
  refine ⟨NestedIs.at (fun c oc xs n hc hc2 => ?_) k _ hb.1, hb.2⟩
  have ne : c ≠ a := fun z => by
    subst z
    cases hc.symm.trans ho
    rw [hd] at hc2
    cases hc2
  exact (hs.2 c ne).trans hc
theorem isN_keep {h h' : Heap} {k : NK} {b : Addr} (hb : IsN h k b) (hk : ∀ c o, h.get? c = some o → h'.get? c = some o) : IsN h' k b := ⟨NestedIs.at (fun c o _ _ e _ => hk c o e) k _ hb.1, hb.2⟩
theorem perm_put {α : Type} (l : List α) (n : Nat) (x : α) : (l.take n ++ x :: l.drop n).Perm (x :: l) := by
  have z := List.perm_middle (a := x) (l₁ := l.take n) (l₂ := l.drop n)
  rwa [List.take_append_drop] at z
theorem tab_plain {t : SetTable} {hs : List Int} (T : TabOk t hs) (b : Bool) : TabOk (if b = true then t else { t with plain := false }) hs := by
  cases b with
  | true => exact T
  | false => exact ⟨T.ris, T.dm, T.sz, T.mok, T.bd, T.reach⟩
set_option maxHeartbeats 1600000 in
/-- one more key -/
theorem NSet.add (R : NSet w s.heap a L es ep t) {x : Addr} {k : NK} (hx : IsN s.heap k x) (hu : A.units + 8 < cLine) (h4 : L.length + 1 ≤ 4) {Q : Bool → Shared → Prop}
    (q : ∀ b h' L' es' ep' t', Heap.SameBut a s.heap h' → NSet w h' a L' es' ep' t' → (k ∈ L.map Prod.snd → L' = L) → (k ∉ L.map Prod.snd → L'.Perm ((x, k) :: L)) → Q b { s with heap := h' }) :
    wpAny (model P w) A (setAddHashed a (.ref x) (k.hash w)) Q E s := by
  obtain ⟨ob, e1, e2, e3⟩ := R.at_
  have sz := R.size
  unfold setAddHashed
  refine wpAny_holding ?_
  rw [show (100000 : Nat) = 99999 + 1 from rfl, setAddHashedIn_succ]
  refine wpAny_bind (wpAny_setState_of e1 e3 R.fits ?_)
  dsimp only
  refine wp_if_neg (by simp [byScan, Value.scannable]) ?_
  try refine wpAny_bind (wpAny_pure ?_)
  refine wpAny_bind (R.search hx hu (fun m => ?_) fun K m k1 k2 => ?_)
  · dsimp only
    exact wpAny_pure (q false s.heap L es ep t (Heap.SameBut.refl a s.heap) R (fun _ => rfl) fun z => absurd m z)
  · dsimp only
    refine wpAny_bind (wpAny_setState_of e1 e3 R.fits ?_)
    dsimp only
    obtain ⟨p1, p2, p3, p4, p5, p6, p7, p8, p9⟩ := R.tab.put k1 k2
    generalize hp : t.put (way t.mask (k.hash w) K) = pt at p1 p3 p4 p5 p6 p7 p8 p9 ⊢
    obtain ⟨t1, n⟩ := pt
    dsimp only at p1 p3 p4 p5 p6 p7 p8 p9 ⊢
    subst p1
    generalize SetTable.below t.place (way t.mask (k.hash w) K) = n at p2 p3 ⊢
    have its : (SetTable.insertAt es n (k.hash w, Value.ref x)).toList = (L.take n ++ (x, k) :: L.drop n).map fun p => (p.2.hash w, Value.ref p.1) := by
      rw [SetTable.toList_insertAt, R.its, List.map_append, List.map_cons, List.map_take, List.map_drop]
    have tb : (L.take n ++ (x, k) :: L.drop n).map (fun p => p.2.hash w) = (L.map fun p => p.2.hash w).take n ++ k.hash w :: (L.map fun p => p.2.hash w).drop n := by
      rw [List.map_append, List.map_cons, List.map_take, List.map_drop]
    rw [← tb] at p3
    have pm := perm_put L n (x, k)
    have ln : (L.take n ++ (x, k) :: L.drop n).length = L.length + 1 := pm.length_eq
    have nd : ((L.take n ++ (x, k) :: L.drop n).map Prod.snd).Nodup := (pm.map Prod.snd).nodup_iff.mpr (List.nodup_cons.mpr ⟨m, R.one⟩)
    have ez : (SetTable.insertAt es n (k.hash w, Value.ref x)).size = L.length + 1 := by
      have z := congrArg List.length its
      rwa [Array.length_toList, List.length_map, ln] at z
    generalize SetTable.insertAt es n (k.hash w, Value.ref x) = es1 at its ez ⊢
    generalize L.take n ++ (x, k) :: L.drop n = L1 at pm ln p3 nd its
    have fin : ∀ b : Bool, wpAny (model P w) A (do
        storeSet a es1 (if b = true then t1 else { t1 with plain := false })
        if (!false && (if b = true then t1 else { t1 with plain := false }).tooFull) = true then setRelay a (SetTable.grown (es.size + 1))
        return true) Q E s := fun b => by
      have T := tab_plain p3 b
      have m7 : (if b = true then t1 else { t1 with plain := false }).mask = 7 := by
        rw [← R.m7, ← p4]
        cases b <;> rfl
      have ld : w.params.followText "set-order" = true ∨ (if b = true then t1 else { t1 with plain := false }).led = true := by
        have z := R.led
        rw [← p5] at z
        cases b <;> exact z
      have fl : (if b = true then t1 else { t1 with plain := false }).fill = L.length + 1 := by
        rw [List.length_map] at p9
        rw [← p9]
        cases b <;> rfl
      generalize (if b = true then t1 else { t1 with plain := false }) = t2 at T m7 ld fl ⊢
      refine wpAny_bind (wpAny_storeSet_of e1 e3 ?_ (by rw [ez, sizeLine_eq]; omega))
      have sb : Heap.SameBut a s.heap (s.heap.update a (Obj.putSet es1 t2)) := Heap.SameBut.update ..
      have at1 := store_at (es' := es1) (t' := t2) e1 e3
      generalize s.heap.update a (Obj.putSet es1 t2) = h1 at sb at1 ⊢
      have nf : t2.tooFull = false := by
        unfold SetTable.tooFull
        rw [fl, m7]
        exact decide_eq_false (by omega)
      rw [nf]
      refine wp_if_neg (by decide) ?_
      try refine wpAny_bind (wpAny_pure ?_)
      refine wpAny_pure (q true h1 L1 es1 (ep + 1) t2 sb ⟨⟨_, at1, ⟨e2.1, e2.2.1, e2.2.2⟩, rfl⟩, its, T, nd, fun p hp => ?_, ld, m7, by omega⟩ (fun z => absurd z m) fun _ => pm)
      rcases List.mem_cons.mp (pm.mem_iff.mp hp) with rfl | z
      · exact isN_but hx e1 e3 sb
      · exact isN_but (R.key p z) e1 e3 sb
    by_cases hpl : t1.plain = true
    · rw [if_pos hpl]
      exact wpAny_bind (by_val 8 k _ _ _ hx.1 hx.2 fin)
    · rw [if_neg hpl]
      exact wpAny_bind (wpAny_pure (fin true))
end
end NS
namespace NS
open PySem PySem.Spec PyProof.Rows L2
/-- what the set has of the first i items -/
structure Has (ks : List (Addr × NK)) (i : Nat) (L : List (Addr × NK)) : Prop where
  len : L.length ≤ i
  all : ∀ p ∈ ks.take i, p.2 ∈ L.map Prod.snd
  sub : ∀ p ∈ L, p ∈ ks.take i
theorem take_one {α : Type} {l : List α} {i : Nat} {x : α} (e : l[i]? = some x) : l.take (i + 1) = l.take i ++ [x] := by
  rw [List.take_add_one, e]
  rfl
theorem Has.step {ks L L' : List (Addr × NK)} {i : Nat} {x : Addr × NK} (g : Has ks i L) (e : ks[i]? = some x) (c1 : x.2 ∈ L.map Prod.snd → L' = L) (c2 : x.2 ∉ L.map Prod.snd → L'.Perm (x :: L)) : Has ks (i + 1) L' := by
  by_cases m : x.2 ∈ L.map Prod.snd
  · rw [c1 m]
    refine ⟨Nat.le_succ_of_le g.len, fun p hp => ?_, fun p hp => ?_⟩
    · rw [take_one e] at hp
      rcases List.mem_append.mp hp with z | z
      · exact g.all p z
      · rw [List.mem_singleton.mp z]
        exact m
    · rw [take_one e]
      exact List.mem_append_left _ (g.sub p hp)
  · have pm := c2 m
    refine ⟨?_, fun p hp => ?_, fun p hp => ?_⟩
    · rw [pm.length_eq]
      exact Nat.succ_le_succ g.len
    · rw [(pm.map Prod.snd).mem_iff]
      rw [take_one e] at hp
      rcases List.mem_append.mp hp with z | z
      · exact List.mem_cons_of_mem _ (g.all p z)
      · rw [List.mem_singleton.mp z]
        exact List.mem_cons_self ..
    · rw [take_one e]
      rcases List.mem_cons.mp (pm.mem_iff.mp hp) with z | z
      · rw [z]
        exact List.mem_append_right _ (List.mem_singleton.mpr rfl)
      · exact List.mem_append_left _ (g.sub p z)
theorem perm_of_sub {α : Type} [DecidableEq α] : ∀ (xs ys : List α), xs.Nodup → (∀ x ∈ xs, x ∈ ys) → ys.length ≤ xs.length → xs.Perm ys
  | [], ys, _, _, h => by
    rw [List.eq_nil_of_length_eq_zero (Nat.le_zero.mp h)]
  | x :: xs, ys, nd, h, l => by
    have hx := h x (List.mem_cons_self ..)
    obtain ⟨n1, n2⟩ := List.nodup_cons.mp nd
    have le := List.length_erase_of_mem hx
    have l2 := List.length_pos_of_mem hx
    rw [List.length_cons] at l
    refine ((perm_of_sub xs (ys.erase x) n2 (fun y hy => ?_) (by omega)).cons x).trans (List.perm_cons_erase hx).symm
    have ne : y ≠ x := fun z => n1 (by rw [← z]; exact hy)
    exact (List.mem_erase_of_ne ne).mpr (h y (List.mem_cons_of_mem _ hy))
/-- as many keys as items exactly if no two items are one key -/
theorem Has.size {ks L : List (Addr × NK)} (g : Has ks ks.length L) (nd : (L.map Prod.snd).Nodup) : decide (L.length = ks.length) = decide ((ks.map Prod.snd).Nodup) := by
  have s1 : ∀ k ∈ L.map Prod.snd, k ∈ ks.map Prod.snd := fun k hk => by
    obtain ⟨p, hp, rfl⟩ := List.mem_map.mp hk
    exact List.mem_map.mpr ⟨p, List.mem_of_mem_take (g.sub p hp), rfl⟩
  have s2 : ∀ k ∈ ks.map Prod.snd, k ∈ L.map Prod.snd := fun k hk => by
    obtain ⟨p, hp, rfl⟩ := List.mem_map.mp hk
    exact g.all p (by rw [List.take_length]; exact hp)
  refine decide_eq_decide.mpr ⟨fun e => ?_, fun n2 => ?_⟩
  · have pm := perm_of_sub _ _ nd s1 (by rw [List.length_map, List.length_map, e]; exact Nat.le_refl _)
    exact pm.nodup_iff.mp nd
  · have pm : (L.map Prod.snd).Perm (ks.map Prod.snd) := (List.perm_ext_iff_of_nodup nd n2).mpr fun k => ⟨s1 k, s2 k⟩
    have z := pm.length_eq
    rwa [List.length_map, List.length_map] at z
section
variable {P : Program} {w : World} {A : Around} {E : Value → Shared → Prop} {s : Shared}
/-- set.update's turns -/
theorem set_turns {I S : Addr} {fp wr : List Addr} {G : Array GenState → Array GenState → Prop} {n : Nat} {Pv : Nat → Value → Prop} {St : Nat → Shared → Prop} {R : Result → Shared → Prop} (W : WalksS P w A.in1 I fp wr G n Pv St)
    (sf : S ∉ fp) (ks : List (Addr × NK)) (hn : n = ks.length) (h4 : ks.length ≤ 4) (val : ∀ i v, Pv i v → ∃ p, ks[i]? = some p ∧ v = .ref p.1) (h0 : Heap) (hk : ∀ p ∈ ks, IsN h0 p.2 p.1)
    (s0 : h0.get? S = none) (w0 : ∀ b ∈ wr, h0.get? b = none) (hu : A.in1.units + 8 < cLine) :
    ∀ (m i : Nat) (s : Shared), n - i = m → i ≤ n → St i s → (∀ b o, h0.get? b = some o → s.heap.get? b = some o) → (∃ L es ep t, NSet w s.heap S L es ep t ∧ Has ks i L) →
      (∀ s' L es ep t, Moved (S :: wr) G s s' → NSet w s'.heap S L es ep t → Has ks n L → (∀ b o, h0.get? b = some o → s'.heap.get? b = some o) → R (.ok (.ret .none)) s') →
      codeAny (model P w) A (.builtin "set.update.loop" ⟨[.ref S, .ref I], []⟩) R s := by
  have sw : S ∉ wr := fun z => sf (W.sub _ z)
  have into : ∀ b ∈ wr, b ∈ S :: wr := fun b hb => List.mem_cons_of_mem _ hb
  have stay : ∀ {s s' : Shared}, Moved wr G s s' → (∀ b o, h0.get? b = some o → s.heap.get? b = some o) → ∀ b o, h0.get? b = some o → s'.heap.get? b = some o := fun mv k b o e =>
    mv.heap b o (fun z => by rw [w0 b z] at e; cases e) (k b o e)
  have setStay : ∀ {h h' : Heap} {L : List (Addr × NK)} {es : Array (Int × Value)} {ep : Nat} {t : SetTable} {i : Nat}, NSet w h S L es ep t → Has ks i L → (∀ o, h.get? S = some o → h'.get? S = some o) → (∀ b o, h0.get? b = some o → h'.get? b = some o) → NSet w h' S L es ep t := fun R g e1 e2 => by
    obtain ⟨ob, a1, a2⟩ := R.at_
    exact ⟨⟨ob, e1 ob a1, a2⟩, R.its, R.tab, R.one, fun p hp => isN_keep (hk p (List.mem_of_mem_take (g.sub p hp))) e2, R.led, R.m7, R.few⟩
  intro m
  induction m with
  | zero =>
    intro i s hm hi st kp ⟨L, es, ep, t, hS, g⟩ fin
    obtain rfl : i = n := by omega
    refine codeAny_builtin F.entry_set_update_loop ?_
    rw [Around.under_plainId F.plain_set_update_loop _]
    refine wpAny_bind (m := pyNext (.ref I)) (W.done s _ _ st fun s' mv => ?_)
    have k2 := stay mv kp
    exact wpAny_pure (fin s' L es ep t (mv.mono into) (setStay hS g (fun o e => mv.heap S o sw e) k2) g k2)
  | succ m ih =>
    intro i s hm hi st kp ⟨L, es, ep, t, hS, g⟩ fin
    have lt : i < n := by omega
    refine codeAny_builtin F.entry_set_update_loop ?_
    rw [Around.under_plainId F.plain_set_update_loop _]
    refine wpAny_bind (m := pyNext (.ref I)) (W.item i s _ _ lt st fun v s' hv st' mv => ?_)
    obtain ⟨p, hp, rfl⟩ := val i v hv
    have k2 := stay mv kp
    have hS2 := setStay hS g (fun o e => mv.heap S o sw e) k2
    have hx : IsN s'.heap p.2 p.1 := isN_keep (hk p (List.mem_of_getElem? hp)) k2
    show wpAny _ A.in1 (holding [Value.ref p.1] (setAdd S (.ref p.1)) >>= _) _ _ s'
    refine wpAny_bind (wpAny_holding ?_)
    unfold setAdd
    refine wpAny_holding (wpAny_bind ?_)
    refine (nestedKind P w).pyHash (show A.in1.units + 8 < cLine from hu) hx ?_
    refine NSet.add (s := { s' with toks := s'.toks + p.2.draws }) hS2 hx hu (by have := g.len; omega) fun b h' L' es' ep' t' sb R2 c1 c2 => ?_
    have k3 : ∀ b o, h0.get? b = some o → h'.get? b = some o := fun b o e => (sb.2 b fun z => by rw [z, s0] at e; cases e).trans (k2 b o e)
    refine wpAny_pure ⟨plainId_quiet F.plain_set_update_loop _, ih (i + 1) _ (by omega) lt (W.frame _ s' _ _ st' (Nat.le_add_right _ _) fun b hb o e => ?_) k3 ⟨L', es', ep', t', R2, g.step hp c1 c2⟩ fun s2 L2 es2 ep2 t2 mv2 R3 g3 k4 => ?_⟩
    · exact (sb.2 b fun z => sf (z ▸ hb)).trans e
    · refine fin s2 L2 es2 ep2 t2 (Moved.trans W.gtrans ((mv.mono into).then_heap (Nat.le_add_right _ _) fun b o hb e => ?_) mv2) R3 g3 k4
      exact (sb.2 b fun z => hb (z ▸ List.mem_cons_self ..)).trans e
end
end NS
namespace NS
open PySem PySem.Spec PyProof.Rows L2
section
variable {P : Program} {w : World} {A : Around} {E : Value → Shared → Prop} {s : Shared}
/-- an empty set, as it is made -/
abbrev fresh (w : World) : Obj := { cls := .type "set", dict := none, data := .set #[] 0 (.fresh 0 0 (!w.params.followText "set-order")) }
theorem NSet.fresh {h : Heap} {a : Addr} (e : h.get? a = some (fresh w)) : NSet w h a [] #[] 0 (.fresh 0 0 (!w.params.followText "set-order")) := by
  refine ⟨⟨_, e, ⟨rfl, rfl, rfl⟩, rfl⟩, rfl, ⟨List.Pairwise.nil, rfl, rfl, .inl rfl, fun x hx => ?_, fun i h j hi => ?_⟩, List.nodup_nil, fun p hp => ?_, ?_, rfl, Nat.zero_le _⟩
  · cases hx
  · cases hi
  · cases hp
  · show w.params.followText "set-order" = true ∨ (!w.params.followText "set-order") = true
    cases w.params.followText "set-order" with
    | true => exact .inl rfl
    | false => exact .inr rfl
/-- set(x) made: the keys of a tuple's items -/
def Made (w : World) (s : Shared) (ks : List (Addr × NK)) (r : Value) (s' : Shared) : Prop := ∃ h' tk L es ep t, r = .ref s.heap.objs.size ∧ s' = { s with heap := h', toks := tk } ∧ NSet w h' s.heap.objs.size L es ep t ∧ Has ks ks.length L ∧ ∀ b o, s.heap.get? b = some o → h'.get? b = some o
set_option maxHeartbeats 3200000 in
theorem set_tup {l : Addr} {items : Array Value} (ks : List (Addr × NK)) {Q : Value → Shared → Prop} (calm : A.handled = none) (hl : s.heap.IsTuple l items) (hit : items.toList = ks.map fun p => Value.ref p.1)
    (hk : ∀ p ∈ ks, IsN s.heap p.2 p.1) (h4 : ks.length ≤ 4) (hu : A.units + 20 < cLine) (q : ∀ r s', Made w s ks r s' → Q r s') : wpAny (model P w) A (call (.type "set") [.ref l]) Q E s := by
  have size : items.size = ks.length := by
    have z := congrArg List.length hit
    rwa [Array.length_toList, List.length_map] at z
  obtain ⟨c, tl, hmro⟩ := F.called_set.mro
  have hmade := F.called_set.made
  have hsub := F.called_set.sub
  refine wpAny_call (codeAny_of_tree ?_)
  show wpAny _ _ (callAny (.type "set") _) _ _ _
  refine wpAny_pure (And.intro (Code.quiet_builtin _ (by decide +kernel)) (codeAny_builtin F.entry_type_call ?_))
  rw [Around.under_plain (weight_type_call_type "set" [.ref l] []) rfl]
  have h1 := F.called_set.notType
  have h2 := F.called_set.canCreate
  have hct := F.typeCall_set_1 (.ref l)
  repeat (any_goals (first | assumption | wp_step))
  refine codeAny_mono (code_set_led1 (.ref l) (E := E) (Q₁ := fun ob s1 => ob = .ref s.heap.objs.size ∧ s1 = { s with heap := s.heap.push (NS.fresh w) }) ⟨rfl, rfl⟩) fun r s1 hr => ?_
  cases r with
  | error e => exact hr
  | ok fl =>
    cases fl with
    | ret ob =>
      obtain ⟨rfl, rfl⟩ := hr
      have new : (s.heap.push (NS.fresh w)).get? s.heap.objs.size = some (NS.fresh w) := Heap.get?_push_size _ rfl
      have hT : Shared.TypeIs { s with heap := s.heap.push (NS.fresh w) } (.ref s.heap.objs.size) "set" := ⟨_, new, rfl⟩
      have hli := F.called_set.init.lookup
      have hbi := F.called_set.init.bind (.ref s.heap.objs.size)
      repeat (any_goals (first | assumption | wp_step))
      refine codeAny_mono (codeAny_call_builtin (R := wants (fun r s2 => r = .none ∧ Made w s ks (.ref s.heap.objs.size) s2) E) F.called_set.init.plain F.entry_set_init (check_set_init_1 hT ?_)) fun r2 s2 hr2 => ?_
      · obtain ⟨ol, b1, b2, n, b3⟩ := hl
        have zl : l < s.heap.objs.size := Heap.lt_size b1
        obtain ⟨oc, odi, oda, osl⟩ := ol
        simp only at b2 b3
        subst b2; subst b3
        have old : (s.heap.push (NS.fresh w)).get? l = some { cls := .type "tuple", dict := odi, data := .seq items n, slots := osl } := Heap.get?_push_of_some _ b1
        have n1 := F.sub_tuple_set
        have n2 := F.sub_tuple_frozenset
        have n3 : (Value.type "tuple" == Value.type "dict") = false := by decide
        have hl1 : (s.heap.push (NS.fresh w)).IsTuple l items := ⟨_, old, rfl, n, rfl⟩
        unfold Builtin.«set.__init__» noKeywords Builtin.Frozenset.updateFrom
        generalize hPI : pyIter = PI
        wp_walk
        subst hPI
        refine wpAny_pyIter_tuple hl1 (wpAny_bind (wpAny_runValue ?_))
        have calm3 : A.in1.in1.in1.handled = none := by simp [calm]
        have sz1 : (s.heap.push (NS.fresh w)).objs.size = s.heap.objs.size + 1 := Heap.size_push ..
        have ne1 : l ≠ (s.heap.push (NS.fresh w)).objs.size := by
          rw [sz1]
          exact Nat.ne_of_lt (Nat.lt_succ_of_lt zl)
        have ne2 : s.heap.objs.size ∉ [(s.heap.push (NS.fresh w)).objs.size, l] := by
          rw [sz1]
          intro z
          simp only [List.mem_cons, List.not_mem_nil, or_false] at z
          rcases z with z | z
          · exact Nat.ne_of_lt (Nat.lt_succ_self _) z
          · exact Nat.ne_of_gt zl z
        have val : ∀ (i : Nat) (v : Value), items[i]? = some v → ∃ p, ks[i]? = some p ∧ v = .ref p.1 := fun i v hv => by
          rw [← Array.getElem?_toList, hit, List.getElem?_map] at hv
          obtain ⟨p, e, rfl⟩ := Option.map_eq_some_iff.mp hv
          exact ⟨p, e, rfl⟩
        have noneAt : ∀ b, s.heap.objs.size ≤ b → s.heap.get? b = none := fun b hb => Heap.get?_none_of_le hb
        refine set_turns ((Walks.tuple calm3 _ l ne1 items).toS) ne2 ks size h4 val s.heap hk (noneAt _ (Nat.le_refl _)) (fun b hb => noneAt b ?_) (by show A.in1.in1.in1.units + 8 < cLine; simp only [Around.in1]; omega) (items.size - 0) 0 _ (by omega) (Nat.zero_le _)
          ⟨⟨_, Heap.get?_push_size _ rfl, rfl, rfl⟩, hl1.push _⟩ (fun b o e => Heap.get?_push_of_some _ (Heap.get?_push_of_some _ e)) ⟨[], #[], 0, _, NSet.fresh (Heap.get?_push_of_some _ new), ⟨Nat.le_refl _, fun p hp => ?_, fun p hp => ?_⟩⟩ fun s3 L es ep t mv R g kp => ?_
        · rw [List.mem_singleton.mp hb, sz1]
          omega
        · cases hp
        · cases hp
        · obtain ⟨h3, g3, d3, tk3, os3⟩ := s3
          have eg : g3 = s.gens := mv.gens
          have ed : d3 = s.drawn := mv.drawn
          have eo : os3 = s.os := mv.os
          subst eg; subst ed; subst eo
          rw [size] at g
          exact wpAny_pure (wpAny_pure ⟨rfl, h3, tk3, L, es, ep, t, rfl, rfl, R, g, kp⟩)
      · cases r2 with
        | error e => exact hr2
        | ok fl2 =>
          cases fl2 with
          | ret r =>
            obtain ⟨rfl, hm⟩ := hr2
            repeat (any_goals (first | assumption | wp_step))
            exact q _ _ hm
          | _ => exact hr2.elim
    | _ => exact hr.elim
end
end NS
namespace NS
open PySem PySem.Spec PyProof.Rows L2
mutual
theorem of_reads {h : Heap} : ∀ (k : NK) (v : Value) (as : List Addr), Reads h v k.data as → NestedIs h k v
  | .none, _, _, r => by
    cases r
    exact .none
  | .num i, _, _, r => by
    cases r
    exact .int _ _
  | .text x, _, _, r => by
    cases r
    exact .text _ _
  | .tup ks, _, _, r => by
    cases r with
    | tuple e1 e2 e3 e4 => exact .tup e1 e2 e3 (all_of_reads ks _ _ e4)
theorem all_of_reads {h : Heap} : ∀ (ks : List NK) (vs : List Value) (as : List Addr), ReadsAll h vs (NestedKey.datas ks) as → NestedAll h ks vs
  | [], _, _, r => by
    cases r
    exact .nil
  | k :: ks, _, _, r => by
    cases r with
    | cons r1 r2 => exact .cons (of_reads k _ _ r1) (all_of_reads ks _ _ r2)
end
section
variable {X : Cx}
/-- len(set(x)), x a tuple of keys: all of them exactly if no two are one -/
def tLenSetN (K : PySem.W.Frag) (ta : TE) : TE := fun σ H Q => ta σ H fun x H1 => ∃ (l : Addr) (ks : List (Addr × NK)), x = V.ref l ∧ SqT K H1 l (ks.map fun p => V.ref p.1) ∧ (∀ p ∈ ks, Dp K H1 (.ref p.1) p.2.data ∧ p.2.depth ≤ 8) ∧ ks.length ≤ 4 ∧
  ∀ n : Nat, decide (n = ks.length) = decide ((ks.map Prod.snd).Nodup) → Q (.int n) H1
theorem refs_eq : ∀ {ks : List (Addr × NK)} {us : List Value}, Vals (ks.map fun p => V.ref p.1) us → us = ks.map fun p => Value.ref p.1
  | [], _, r => by
    cases r
    rfl
  | p :: ks, _, r => by
    cases r with
    | cons r1 r2 =>
      rw [refs_eq r2, show _ = Value.ref p.1 from r1]
      rfl
theorem pe_lenSetN {a : Expr} {ta : TE} {p p2 q pos : Pos} (hc : X.calm = true) (hu : X.A.units + 64 < cLine) (hg : Gl X "len") (hm : X.mg "len" = none) (hg2 : Gl X "set") (hm2 : X.mg "set" = none) (ha : PE X a ta)
    (na : starEach [a] X.env = (false, eval a X.env) :: starEach [] X.env := by rfl) : PE X (.Call (.Name "len" p) [.Call (.Name "set" p2) [a] [] q] [] pos) (tLenSetN X.K ta) := by
  refine ⟨fun pins s σ H Q I h => Call_ (ld_blt I hg hm PySem.boot_len ?_)⟩
  refine PyProof.Rows.callWith_builtin1 (PyProof.Rows.args_cons ?_ rfl) rfl rfl
  refine Call_ (ld_blt I hg2 hm2 PyProof.Rows.boot_set (PyProof.Rows.callWith_type1 (PyProof.Rows.args_cons (thn (ha.run pins s σ H _ I h) fun v s1 ⟨x, H1, I1, r1, q1⟩ => PyProof.Rows.args_nil ?_) na) na rfl))
  obtain ⟨l, ks, rfl, ht, hk, h4, q1⟩ := q1
  cases r1
  obtain ⟨its, rv, tp, hz⟩ := I1.tuple ht
  refine set_tup (P := X.prog) (w := X.w) ks (I1.ok.hd hc) tp (by simpa using refs_eq rv) (fun p hp => ?_) h4 (by omega) fun r s2 hm => ?_
  · obtain ⟨d1, d2⟩ := hk p hp
    obtain ⟨as, rd⟩ := Dp.reads I1 _ _ (Value.ref p.1) d1 rfl
    exact ⟨of_reads _ _ _ rd, d2⟩
  · obtain ⟨h', tk, L, es, ep, t, rfl, rfl, R, g, kp⟩ := hm
    refine PyProof.Rows.args_nil ?_
    obtain ⟨ob, e1, e2, e3⟩ := R.at_
    have I2 : Inv X pins σ H1 { s1 with heap := h', toks := tk } := I1.kept kp
    have sz := NSet.size (s := { s1 with heap := h', toks := tk }) R
    refine call_len_set (s := { s1 with heap := h', toks := tk }) e1 e2 e3 (NSet.fits (s := { s1 with heap := h', toks := tk }) R) (by have := R.few; omega) ⟨.int L.length, H1, I2.tok _, ⟨_, by rw [sz]⟩, q1 _ (g.size R.one)⟩
end
end NS
namespace NS
open PySem PySem.Spec PyProof.Rows L2
section
variable {X : Cx}
/-- set(x), x a tuple of ints -/
def rSetTI (K : PySem.W.Frag) (w : World) : List V → Hp → VK → Prop := fun vs H Q => ∃ (p : Addr) (ns : List Int), vs = [V.ref p] ∧ SqT K H p (ns.map V.int) ∧ ns.length ≤ 1000 ∧
  ∀ a c, H a = none → c ≤ ns.length → Q (.ref a) (upd H a (SetO w a (fun j => decide (j ∈ ns)) c))
theorem cr_setTI (hc : X.calm = true) : CallR X (.type "set") (rSetTI X.K X.w) := by
  intro pins s σ H vs us Q I r h
  obtain ⟨p, ns, rfl, ht, hz, q⟩ := h
  rw [Vals.ref1 r]
  obtain ⟨its, rv, tp, _⟩ := I.tuple ht
  refine call_set_tupI (P := X.prog) (w := X.w) ns (I.ok.hd hc) tp (by simpa using rv.ints) (by unfold scanBound; omega) fun h' tk c R hle kp => ?_
  exact ⟨.ref s.heap.objs.size, upd H s.heap.objs.size (SetO X.w s.heap.objs.size (fun j => decide (j ∈ ns)) c), I.laid (t' := tk) kp (Nat.le_refl _) (setO_new R), rfl, q _ c (I.hok.fresh (Nat.le_refl _)) hle⟩
end
/-- list(value) == sorted(set(value)) -/
theorem asc_iff {ns ms : List Int} (h1 : ms.Pairwise (· < ·)) (h2 : ∀ k : Int, k ∈ ms ↔ k ∈ ns) : decide (ns = ms) = decide (ns.Pairwise (· < ·)) := by
  refine decide_eq_decide.mpr ⟨fun e => e ▸ h1, fun h => ?_⟩
  have n1 : ms.Nodup := h1.imp fun a b => by
    subst b
    omega
  have n2 : ns.Nodup := h.imp fun a b => by
    subst b
    omega
  have pm : ns.Perm ms := (List.perm_ext_iff_of_nodup n2 n1).mpr fun k => (h2 k).symm
  exact pm.eq_of_pairwise (fun a b _ _ x y => by omega) h h1
end NS
-- CUT
/-! ### of our own: == and != by an own __eq__, static methods -/
namespace Kit
open PySem PySem.Spec PyProof.Rows L2
/-- == of the class at C is the def at f, != is object's -/
structure EqC (K : PySem.W.Frag) (C f : Addr) : Prop where
  eq : PySem.W.findIn K (.ref C) "__eq__" = some (some (.ref f))
  fn : PySem.W.isFn K (.ref f) = true
  ne : PySem.W.findIn K (.ref C) "__ne__" = some (some (.builtin "object.__ne__"))
  po : PySem.W.plainOver K C = true
/-- a statement's end, told once -/
def tMonoS (t : TS) : TS := fun D σ H => ∃ R : L2.St → Hp → Prop, t { D with nx := R } σ H ∧ ∀ σ' H', R σ' H' → D.nx σ' H'
theorem ps_mono {X : Cx} {st : Stmt} {t : TS} (h : PS X st t) : PS X st (tMonoS t) := ⟨fun pins s σ H D I q => by
  obtain ⟨R, h1, h2⟩ := q
  refine thn (h.run pins s σ H _ I h1) fun f s' z => ?_
  cases f with
  | next =>
    obtain ⟨σ', H', I', r⟩ := z
    exact ⟨σ', H', I', h2 σ' H' r⟩
  | _ => exact z⟩
theorem u65 {A : Around} {k : Nat} (hr : Room k A) : A.units + 65 < cLine := by
  have := hr.un
  omega
/-- the types of values that are no instances of own classes -/
def BT : List String := ["NoneType", "bool", "int", "str", "list", "tuple", "dict"]
/-- instances of C are asked what they are -/
structure IsC (K : PySem.W.Frag) (C : Addr) : Prop where
  cl : Cls K C
  ca : PySem.W.findIn K (.ref C) "__class__" = some (some (.builtin "object.__class__"))
  cg : PySem.W.specialIn K (.builtin "object.__class__") "__get__" = some (some (.builtin "getset_descriptor.__get__"))
  ct : PySem.W.takesIn K (.builtin "object.__class__") = some true
  cm : PySem.W.mroIn K C (.type "object") = some true
theorem IsC.ty {K : PySem.W.Frag} {H : Hp} {a C dx : Addr} {fs : List (Str × V)} (i : IsC K C) (e : H a = some (.ins C dx fs)) : TyX K H (.ref a) (.ref C) := .base (.ins e i.cl i.ca i.cg i.ct i.cm)
theorem nf_self {K : PySem.W.Frag} {C : Addr} : PySem.W.notFirst K C (.ref C) = true := by
  unfold PySem.W.notFirst
  rw [beq_self_eq_true]
  rfl
theorem ko_self {K : PySem.W.Frag} {C : Addr} : PySem.W.kitOne K (.ref C) (.ref C) = some true := by
  unfold PySem.W.kitOne
  rw [if_pos (beq_self_eq_true _)]
theorem ne_bind (v : Value) : bindSpecial (.builtin "object.__ne__") v = pure (.builtin "object.__ne__", [v]) :=
  (Slot.of (T := "object") (name := "__ne__") (owner := "object") (n := "__ne__") (by rw [typeLookup_type, builtinLookup_eq_fast]; kernel_rfl) (by decide +kernel) (by decide +kernel) (by decide +kernel)
    (.inl (by decide +kernel)) (by rw [isSubtype_type]; kernel_rfl)).bind v
theorem ne_entry : entryFor table "object.__ne__" = some Builtin.«object.__ne__» := entryFor_of_tree (by kernel_rfl)
theorem ne_args (u v : Value) : argsOk "object.__ne__" ⟨[u, v], []⟩ := by
  unfold argsOk
  kernel_rfl
section
variable {prog : Program} {w : World} {A : Around} {E : Value → Shared → Prop} {s : Shared} {K : PySem.W.Frag} {x C f : Addr} {ox : Obj} {od : Option Obj} {u tu : Value}
theorem inst_top {M : Model} (k : K.In s.heap) (I : PySem.W.InstAt s.heap x ox C od) (po : PySem.W.plainOver K C = true) : PySem.W.Looks M s.heap (isInstance (.ref x) (.type "object")) true := by
  obtain ⟨cd, hc, ho⟩ := PySem.W.any_some po
  have ne : cd.mro.isEmpty = false := by
    cases z : cd.mro with
    | nil =>
      rw [z] at ho
      cases ho
    | cons _ _ => rfl
  refine I.type.andThen (PySem.W.looks_mroIn k ?_)
  unfold PySem.W.mroIn
  rw [hc, Option.bind_some, if_neg (by rw [ne]; decide), PySem.W.only_has ho]
/-- a special method that is object's own: how it is called -/
theorem slot_of {M : Model} {name : Str} {i : String} {args : List Value} {Q : Option Value → Shared → Prop} (k : K.In s.heap) (I : PySem.W.InstAt s.heap x ox C od) (hs : PySem.W.findIn K (.ref C) name = some (some (.builtin i)))
    (hb : ∀ v, bindSpecial (.builtin i) v = pure (.builtin i, [v])) (h : wpAny M A (call (.builtin i) (.ref x :: args)) (fun v => Q (some v)) E s) : wpAny M A (callSpecialIfBound? (.ref x) name args) Q E s := by
  have fin : wpAny M A (call (.builtin i) ([.ref x] ++ args) >>= fun v => pure (some v)) Q E s := wpAny_bind (wpAny_mono h (fun v s' z => wpAny_pure z) fun _ _ z => z)
  simp only [callSpecialIfBound?, bindSpecialIfBound?, hb]
  refine wpAny_holding (wpAny_bind (wpAny_bind (wpAny_bind (I.type.here ((PySem.W.looks_findIn k hs).here ?_)))))
  refine wpAny_bind (wpAny_askSetting (wpAny_ite ?_))
  split
  · exact wpAny_bind (by rw [hb]; exact wpAny_pure (wpAny_pure (by exact fin)))
  · exact wpAny_tryCatch (wpAny_bind (by rw [hb]; exact wpAny_pure (wpAny_pure (by exact fin))))
/-- x != y, x an instance with an own == -/
theorem ne_own {h0 : Heap} {L : Addr} {m : Str → Option Value} {Q : Value → Shared → Prop} (hu : A.units + 1 < cLine) (F : Fr h0 L s.heap m) (k0 : K.In h0) (I : PySem.W.InstAt s.heap x ox C od) (ht : PySem.W.Looks (model prog w) s.heap (typeOf u) tu)
    (hn : PySem.W.notFirst K C tu = true) (e : EqC K C f) (h : wpAny (model prog w) A.in1 (call (.ref f) [.ref x, u]) (fun v s' => ∃ b, v = .bool b ∧ Q (.bool (!b)) s') E s) :
    wpAny (model prog w) A (richCompare .NotEq (.ref x) u) Q E s := by
  have k : K.In s.heap := k0.keeps F.keep
  have one : wpAny (model prog w) A (tryCompare (.ref x) "__ne__" u) (fun r s' => ∃ v, r = some v ∧ Q v s') E s := by
    unfold tryCompare
    refine wpAny_bind (slot_of k I e.ne ne_bind (wpAny_call (codeAny_call_builtin (by decide +kernel) ne_entry ?_)))
    refine @PySem.W.check_slot (model prog w) A.in1 _ s "object.__ne__" "object" "__ne__" (.ref x) [u] [] _ (by decide +kernel) (by decide +kernel) (inst_top k I e.po) (ne_args _ _) ?_
    unfold Builtin.«object.__ne__»
    refine wpAny_bind (m := slotArgs "__ne__" 1 ⟨[.ref x, u], []⟩) (wpAny_pure ?_)
    refine wpAny_bind (wpAny_cRoomFor hu ?_)
    refine wpAny_bind (PySem.W.ifBound_K k I e.eq e.fn (wpAny_mono h (fun v s' z => ?_) fun _ _ z => z))
    obtain ⟨b, rfl, q⟩ := z
    exact wpAny_bind (wpAny_truthy_bool (wpAny_pure (wpAny_pure ⟨_, rfl, q⟩)))
  unfold richCompare
  simp only [oneThing_ref]
  refine wpAny_holding (wpAny_bind (wpAny_cRoomFor (by omega) ?_))
  refine wpAny_bind (I.type.here (wpAny_bind (ht.here ?_)))
  have go : wpAny (model prog w) A (tryCompare (.ref x) (cmpInfo .NotEq).2.1 u) (fun r s' => ∃ v, r = some v ∧ Q v s') E s := one
  split
  · rename_i q
    have z : PySem.W.subIn K tu (.ref C) = some false := by
      rcases Bool.or_eq_true_iff.mp hn with z | z
      · rw [beq_iff_eq.mp z] at q
        simp at q
      · exact beq_iff_eq.mp z
    refine wpAny_bind ((PySem.W.looks_subIn k z).here ?_)
    simp only [Bool.false_eq_true, if_false]
    refine wpAny_bind (wpAny_mono go (fun r s' z => ?_) fun _ _ z => z)
    obtain ⟨v, rfl, hq⟩ := z
    exact wpAny_pure hq
  · refine wpAny_bind (wpAny_pure ?_)
    simp only [Bool.false_eq_true, if_false]
    refine wpAny_bind (wpAny_mono go (fun r s' z => ?_) fun _ _ z => z)
    obtain ⟨v, rfl, hq⟩ := z
    exact wpAny_pure hq
end
/-- x == y: the promise sp of the own == at x, y -/
def rEqO (K : PySem.W.Frag) (C : Addr) (sp : Sp) (E : XK) : R2 := fun x y H Q => ∃ a dx fs tu, x = .ref a ∧ H a = some (.ins C dx fs) ∧ TyX K H y tu ∧ PySem.W.notFirst K C tu = true ∧ sp [x, y] H (fun v H' => ∃ b, v = .bl b ∧ Q v H') E
def rNeO (K : PySem.W.Frag) (C : Addr) (sp : Sp) (E : XK) : R2 := fun x y H Q => ∃ a dx fs tu, x = .ref a ∧ H a = some (.ins C dx fs) ∧ TyX K H y tu ∧ PySem.W.notFirst K C tu = true ∧ sp [x, y] H (fun v H' => ∃ b, v = .bl b ∧ Q (.bl (!b)) H') E
section
variable {X : Cx} {CX : CXT} {n : Nat} {C f : Addr} {fd : FuncData} {ps : List Str} {sp : Sp} {E : XK}
theorem run_in {A : Around} {pins : List (Addr × Obj)} {σ : L2.St} {H : Hp} {s : Shared} {Q : VK} {us : List Value} {vs : List V} (F : FnOk X.prog X.w X.K X.mg X.base CX n f fd ps sp) (hr : Room n A) (hf : A.frames = some X.stack) (hb : Binds X.K fd ps []) (hx : Passes CX X E)
    (I : Inv X pins σ H s) (r : Vals vs us) (h : sp vs H Q E) : wpAny (model X.prog X.w) A (call (.ref f) us) (EP X pins σ Q) X.xe s := by
  have e := I.env0
  have e0 : Env0 X.prog X.w X.K X.mg X.base A X.stack s H := ⟨hf, e.mod, e.bs, e.bsz, e.funs, e.frf, e.hok, e.bare⟩
  have len : us.length = ps.length := by
    rw [← r.length]
    exact F.len _ _ _ _ h
  have b := hb s us I.kIn (by rw [List.append_nil]; exact len)
  rw [List.append_nil] at b
  refine wpAny_call (codeAny_mono (F.run A X.stack s H ⟨us, []⟩ us vs Q E hr e0 b r h) fun r s' hq => ?_)
  cases r with
  | error e => exact hx pins σ H s e s' I hq
  | ok fl =>
    cases fl with
    | ret u => exact I.after hq
    | _ => exact False.elim hq
theorem op_eqO (F : FnOk X.prog X.w X.K X.mg X.base CX n f fd ps sp) (hr : Room (n + 1) X.A) (e : EqC X.K C f) (hb : Binds X.K fd ps []) (hx : Passes CX X E) : OpR X (compareOp .Eq) (rEqO X.K C sp E) := by
  intro pins s σ H x y v u Q I rx ry h
  obtain ⟨a, dx, fs, tu, rfl, ha, ty, nf, hsp⟩ := h
  cases rx
  obtain ⟨P, Z, hP, _⟩ := kit_of I ry ty
  obtain ⟨mA, J, _⟩ := ins_get I.hok ha
  obtain ⟨od, J, _⟩ := J.look
  obtain ⟨m, hF⟩ := I.fr
  show wpAny (model X.prog X.w) X.A (richCompare .Eq (.ref a) u) (EP X pins σ Q) X.xe s
  refine PySem.W.cmp_K (op := .Eq) (tb := tu) hr.units0 hF I.ok.mod.kin J (Z.ty _ _ I.kIn hP) nf e.eq e.fn ?_
  refine wpAny_mono (run_in F (hr.mono (Nat.le_succ n)) I.ok.frames hb hx I (vs := [.ref a, y]) (.cons rfl (.cons ry .nil)) hsp) (fun r s' z => ?_) fun _ _ z => z
  obtain ⟨v, H', I', rv, b, rfl, q⟩ := z
  cases rv
  exact ⟨.bl b, H', I', rfl, q⟩
theorem op_neO (F : FnOk X.prog X.w X.K X.mg X.base CX n f fd ps sp) (hr : Room (n + 1) X.A) (e : EqC X.K C f) (hb : Binds X.K fd ps []) (hx : Passes CX X E) : OpR X (compareOp .NotEq) (rNeO X.K C sp E) := by
  intro pins s σ H x y v u Q I rx ry h
  obtain ⟨a, dx, fs, tu, rfl, ha, ty, nf, hsp⟩ := h
  cases rx
  obtain ⟨P, Z, hP, _⟩ := kit_of I ry ty
  obtain ⟨mA, J, _⟩ := ins_get I.hok ha
  obtain ⟨od, J, _⟩ := J.look
  obtain ⟨m, hF⟩ := I.fr
  show wpAny (model X.prog X.w) X.A (richCompare .NotEq (.ref a) u) (EP X pins σ Q) X.xe s
  refine ne_own (by have := hr.units; omega) hF I.ok.mod.kin J (Z.ty _ _ I.kIn hP) nf e ?_
  refine wpAny_mono (run_in F hr.in1 I.ok.frames hb hx I (vs := [.ref a, y]) (.cons rfl (.cons ry .nil)) hsp) (fun r s' z => ?_) fun _ _ z => z
  obtain ⟨v, H', I', rv, b, rfl, q⟩ := z
  cases rv
  exact ⟨b, rfl, .bl (!b), H', I', rfl, q⟩
end
end Kit
namespace Kit
open PySem PySem.Spec PyProof.Rows L2
/-- C.m is a staticmethod: its record at p, its def at g -/
structure SMet (K : PySem.W.Frag) (C : Addr) (mc : Value) (m : Str) (p g : Addr) : Prop where
  find : PySem.W.findCls K (.ref C) mc m = some (.get (.builtin "staticmethod.__get__") (.ref p) .none (.ref C))
  rcd : ∃ rest, PySem.W.recIn K p "staticmethod" = some (.ref g :: rest)
  hand : PySem.W.handedIn (.ref g) = true
section
variable {X : Cx} {CX : CXT} {k : Nat} {C p g : Addr} {mc : Value} {fd : FuncData} {ps : List Str} {sp : Sp} {E : XK} {o e : Expr} {es : List Expr} {m : Str} {pos apos : Pos} {ta : TE} {t : TA} {pl : Sem Bool}
/-- e.m(..), e the class at C -/
def tSMeth (C : Addr) (sp : Sp) (E : XK) (ta : TE) (t : TA) : TE := fun σ H Q => ta σ H fun x H1 => x = .ref C ∧ t σ H1 fun vs H2 => sp vs H2 Q E
theorem pe_smeth (he : PE X o ta) (r : ClX.CRead X.K C mc) (c : SMet X.K C mc m p g) (F : FnOk X.prog X.w X.K X.mg X.base CX k g fd ps sp) (hr : Room k X.A) (hk : PySem.W.keepIn X.K (.ref g) = true) (hb : Binds X.K fd ps []) (hx : Passes CX X E) (ha : PA X (e :: es) t)
    (hst : starEach (e :: es) X.env = (false, eval e X.env) :: starEach es X.env := by rfl) (hpl : (backTo pos (starEach es X.env)).any (·.1) = false := by rfl)
    (ht : eval (.Call (.Attribute o m apos) (e :: es) [] pos) X.env = (do
      let ov ← eval o X.env
      standAt apos.atName
      let (f, first) ← holding [ov] (getMethod ov m pl)
      callWith pos f first (backTo pos (starEach (e :: es) X.env)) (backToKw pos (keywordEach [] X.env))) := by rfl) :
    PE X (.Call (.Attribute o m apos) (e :: es) [] pos) (tSMeth C sp E ta t) := by
  refine ⟨fun pins s σ H Q I h => ?_⟩
  refine PySem.W.methodCall_KW (pl := pl) (thn (he.run pins s σ H _ I h) fun u s1 ⟨x, H1, I1, rx, ex, q⟩ => ?_) ht
  subst ex
  obtain rfl : u = Value.ref C := rx
  obtain ⟨rest, hp⟩ := c.rcd
  refine PySem.W.method_cls I1.kIn r.ga (PySem.W.cls_bind I1.kIn r.rd c.find (wpAny_call (PySem.W.sm_get (s := { s1 with toks := s1.toks + 1 }) I1.kIn hp (PySem.W.handed_on c.hand ?_))))
  have I2 := I1.tok (s1.toks + 1)
  refine PySem.W.callWith_K (h₀ := X.base) I2.ok.mod.kin hk (thn (ha.run pos pins _ σ H1 _ I2 q) fun us s3 ⟨vs, H2, I3, rv, q2⟩ => ⟨I3.kIn, ?_⟩) hst hpl
  exact run_in F hr I3.ok.frames hb hx I3 rv q2
end
end Kit
-- CUT
/-! ### of our own: what a table is, as data -/
namespace Kit
open PySem PySem.Spec PyProof.Rows L2
/-- tuples stay -/
def Mv (K : PySem.W.Frag) (H H' : Hp) : Prop := ∀ a xs, SqT K H a xs → SqT K H' a xs
theorem Mv.refl {K : PySem.W.Frag} (H : Hp) : Mv K H H := fun _ _ h => h
theorem Mv.trans {K : PySem.W.Frag} {H H1 H2 : Hp} (a : Mv K H H1) (b : Mv K H1 H2) : Mv K H H2 := fun p xs h => b p xs (a p xs h)
theorem mv_but {K : PySem.W.Frag} {H H' : Hp} {d : Addr} (k : ∀ b o, b ≠ d → H b = some o → H' b = some o) (n : ∀ xs, ¬ Rd H d (.tup xs)) : Mv K H H' := fun a xs h => by
  rcases h with h | h
  · have ne : a ≠ d := fun e => n xs (e ▸ h)
    rcases h with h | ⟨o, h⟩
    · exact .inl (.inl (k _ _ ne h))
    · exact .inl (.inr ⟨o, k _ _ ne h⟩)
  · exact .inr h
theorem mv_same {K : PySem.W.Frag} {H H' : Hp} (s : Same H H') : Mv K H H' := fun a xs h => by
  rcases h with (h | ⟨o, h⟩) | h
  · exact .inl (.inl (s _ _ h))
  · exact .inl (.inr ⟨o, s _ _ h⟩)
  · exact .inr h
theorem mv_keep {K : PySem.W.Frag} {H H' : Hp} {d : Addr} (k : Keep d H H') (hd : Dice H d) : Mv K H H' := mv_but k.1 fun xs h => by
  obtain ⟨a, b, c, e, _⟩ := hd
  rcases h with h | ⟨o, h⟩
  · rw [e] at h
    cases h
  · rw [e] at h
    cases h
mutual
/-- data without lists -/
def flat : PyData → Bool
  | .none => true
  | .bool _ => true
  | .int _ => true
  | .str _ => true
  | .tuple ds => flats ds
  | .list _ => false
  | .dict _ => false
def flats : List PyData → Bool
  | [] => true
  | d :: ds => flat d && flats ds
end
mutual
theorem dp_mv {K : PySem.W.Frag} {H H' : Hp} (m : Mv K H H') : ∀ (d : PyData) (v : V), flat d = true → Dp K H v d → Dp K H' v d
  | .none, _, _, h => by
    cases h
    exact .non
  | .bool b, _, _, h => by
    cases h
    exact .bl b
  | .int i, _, _, h => by
    cases h
    exact .int i
  | .str x, _, _, h => by
    cases h
    exact .str x
  | .tuple ds, _, f, h => by
    cases h with
    | tup e a => exact .tup (m _ _ e) (dps_mv m ds _ (by rwa [flat] at f) a)
  | .list _, _, f, _ => by
    rw [flat] at f
    cases f
  | .dict _, _, f, _ => by
    rw [flat] at f
    cases f
theorem dps_mv {K : PySem.W.Frag} {H H' : Hp} (m : Mv K H H') : ∀ (ds : List PyData) (vs : List V), flats ds = true → DpAll K H vs ds → DpAll K H' vs ds
  | [], _, _, h => by
    cases h
    exact .nil
  | d :: ds, _, f, h => by
    rw [flats, Bool.and_eq_true] at f
    cases h with
    | cons h1 h2 => exact .cons (dp_mv m d _ f.1 h1) (dps_mv m ds _ f.2 h2)
end
/-- a reference: its columns, its name -/
abbrev Rf := List Int × Str
def intsD (ns : List Int) : PyData := .tuple (ns.map PyData.int)
def refD (r : Rf) : PyData := .tuple [intsD r.1, .str r.2]
def refK (r : Rf) : NestedKey := .tup [.tup (r.1.map NestedKey.num), .text r.2]
def keyD : Option (List Int) → PyData
  | none => .none
  | some c => intsD c
theorem flats_ints : ∀ ns : List Int, flats (ns.map PyData.int) = true
  | [] => by simp [flats]
  | n :: ns => by simp [flats, flat, flats_ints ns]
theorem flat_ints (ns : List Int) : flat (intsD ns) = true := by
  unfold intsD
  rw [flat]
  exact flats_ints ns
theorem flat_ref (r : Rf) : flat (refD r) = true := by
  unfold refD
  rw [flat, flats, flat_ints]
  simp [flats, flat]
theorem flat_key (k : Option (List Int)) : flat (keyD k) = true := by
  cases k with
  | none => simp [keyD, flat]
  | some c => exact flat_ints c
theorem flats_map {α : Type} (f : α → PyData) (h : ∀ a, flat (f a) = true) : ∀ xs : List α, flats (xs.map f) = true
  | [] => by simp [flats]
  | x :: xs => by simp [flats, h x, flats_map f h xs]
theorem flat_refs (rs : List Rf) : flat (.tuple (rs.map refD)) = true := by
  rw [flat]
  exact flats_map refD flat_ref rs
/-! two such data are equal -/
theorem eqvAll_ints : ∀ xs ys : List Int, PyData.eqvAll (xs.map PyData.int) (ys.map PyData.int) = decide (xs = ys)
  | [], [] => by simp [PyData.eqvAll]
  | [], _ :: _ => by simp [PyData.eqvAll]
  | _ :: _, [] => by simp [PyData.eqvAll]
  | x :: xs, y :: ys => by
    rw [List.map_cons, List.map_cons, PyData.eqvAll, eqvAll_ints xs ys, PyData.eqv]
    by_cases a : x = y <;> by_cases b : xs = ys <;> simp [a, b]
theorem eqv_ints (xs ys : List Int) : PyData.eqv (intsD xs) (intsD ys) = decide (xs = ys) := by
  unfold intsD
  rw [PyData.eqv, eqvAll_ints]
theorem eqv_ref (a b : Rf) : PyData.eqv (refD a) (refD b) = decide (a = b) := by
  unfold refD
  rw [PyData.eqv, PyData.eqvAll, PyData.eqvAll, PyData.eqvAll, eqv_ints, PyData.eqv, Bool.and_true]
  obtain ⟨a1, a2⟩ := a
  obtain ⟨b1, b2⟩ := b
  by_cases x : a1 = b1 <;> by_cases y : a2 = b2 <;> simp [x, y]
theorem eqvAll_map {α : Type} [DecidableEq α] (f : α → PyData) (h : ∀ a b, PyData.eqv (f a) (f b) = decide (a = b)) : ∀ xs ys : List α, PyData.eqvAll (xs.map f) (ys.map f) = decide (xs = ys)
  | [], [] => by simp [PyData.eqvAll]
  | [], _ :: _ => by simp [PyData.eqvAll]
  | _ :: _, [] => by simp [PyData.eqvAll]
  | x :: xs, y :: ys => by
    rw [List.map_cons, List.map_cons, PyData.eqvAll, eqvAll_map f h xs ys, h]
    by_cases a : x = y <;> by_cases b : xs = ys <;> simp [a, b]
theorem eqv_refs (xs ys : List Rf) : PyData.eqv (.tuple (xs.map refD)) (.tuple (ys.map refD)) = decide (xs = ys) := by
  rw [PyData.eqv, eqvAll_map refD eqv_ref]
theorem eqv_refsL (xs ys : List Rf) : PyData.eqv (.list (xs.map refD)) (.list (ys.map refD)) = decide (xs = ys) := by
  rw [PyData.eqv, eqvAll_map refD eqv_ref]
theorem eqv_key (a b : Option (List Int)) : PyData.eqv (keyD a) (keyD b) = decide (a = b) := by
  cases a with
  | none =>
    cases b with
    | none => simp [keyD, PyData.eqv]
    | some c => simp [keyD, intsD, PyData.eqv]
  | some c =>
    cases b with
    | none => simp [keyD, intsD, PyData.eqv]
    | some e =>
      show PyData.eqv (intsD c) (intsD e) = _
      rw [eqv_ints]
      simp
/-! how deep -/
theorem depth_ints (ns : List Int) : (intsD ns).depth = 1 := by
  unfold intsD
  rw [PyData.depth, PySem.W.depth_ints]
theorem depth_ref (r : Rf) : (refD r).depth = 2 := by
  unfold refD
  simp [PyData.depth, PyData.depthAll, depth_ints]
theorem depth_refs : ∀ rs : List Rf, PyData.depthAll (rs.map refD) ≤ 2
  | [] => by simp [PyData.depthAll]
  | r :: rs => by
    have a := depth_ref r
    have b := depth_refs rs
    rw [List.map_cons, PyData.depthAll]
    omega
theorem lays_ints : ∀ ns : List Int, PyData.canLayAll0 (ns.map PyData.int) = true
  | [] => by simp [PyData.canLayAll0]
  | n :: ns => by simp [PyData.canLayAll0, PyData.canLay0, lays_ints ns]
theorem lay_ints (ns : List Int) : (intsD ns).canLay0 = true := by
  unfold intsD
  rw [PyData.canLay0]
  exact lays_ints ns
theorem lay_ref {r : Rf} (h : PyData.strOk r.2 = true) : (refD r).canLay0 = true := by
  unfold refD
  simp [PyData.canLay0, PyData.canLayAll0, lay_ints, h]
theorem lays_refs : ∀ {rs : List Rf}, (∀ r ∈ rs, PyData.strOk r.2 = true) → PyData.canLayAll0 (rs.map refD) = true
  | [], _ => by simp [PyData.canLayAll0]
  | r :: rs, h => by simp [PyData.canLayAll0, lay_ref (h r (List.mem_cons_self ..)), lays_refs fun q hq => h q (List.mem_cons_of_mem _ hq)]
theorem shaped_of {d : PyData} (a : d.canLay0 = true) (b : d.depth ≤ 64) : SeqAt.shaped d = true := by
  show (d.canLay0 && decide (d.depth ≤ 64)) = true
  rw [a, decide_eq_true b]
  rfl
theorem sh_ints (ns : List Int) : SeqAt.shaped (intsD ns) = true := shaped_of (lay_ints ns) (by rw [depth_ints]; decide)
theorem shL_ints (ns : List Int) : SeqAt.shaped (.list (ns.map PyData.int)) = true := by
  refine shaped_of (by rw [PyData.canLay0]; exact lays_ints ns) ?_
  rw [PyData.depth, PySem.W.depth_ints]
  decide
theorem dps_ints {K : PySem.W.Frag} {H : Hp} : ∀ ns : List Int, DpAll K H (ns.map V.int) (ns.map PyData.int)
  | [] => .nil
  | n :: ns => .cons (.int n) (dps_ints ns)
theorem sh_ref {r : Rf} (h : PyData.strOk r.2 = true) : SeqAt.shaped (refD r) = true := shaped_of (lay_ref h) (by rw [depth_ref]; decide)
theorem sh_refs {rs : List Rf} (h : ∀ r ∈ rs, PyData.strOk r.2 = true) : SeqAt.shaped (.tuple (rs.map refD)) = true := by
  have d := depth_refs rs
  refine shaped_of (by rw [PyData.canLay0]; exact lays_refs h) ?_
  rw [PyData.depth]
  omega
theorem sh_refsL {rs : List Rf} (h : ∀ r ∈ rs, PyData.strOk r.2 = true) : SeqAt.shaped (.list (rs.map refD)) = true := by
  have d := depth_refs rs
  refine shaped_of (by rw [PyData.canLay0]; exact lays_refs h) ?_
  rw [PyData.depth]
  omega
theorem sh_key (k : Option (List Int)) : SeqAt.shaped (keyD k) = true := by
  cases k with
  | none => rfl
  | some c => exact sh_ints c
/-! as keys of a set -/
theorem data_nums : ∀ ns : List Int, NestedKey.datas (ns.map NestedKey.num) = ns.map PyData.int
  | [] => by simp [NestedKey.datas]
  | n :: ns => by simp [NestedKey.datas, NestedKey.data, data_nums ns]
theorem data_refK (r : Rf) : (refK r).data = refD r := by
  unfold refK refD intsD
  simp [NestedKey.data, NestedKey.datas, data_nums]
theorem depth_nums : ∀ ns : List Int, NestedKey.depthAll (ns.map NestedKey.num) = 0
  | [] => by simp [NestedKey.depthAll]
  | n :: ns => by simp [NestedKey.depthAll, NestedKey.depth, depth_nums ns]
theorem depth_refK (r : Rf) : (refK r).depth ≤ 8 := by
  unfold refK
  simp [NestedKey.depth, NestedKey.depthAll, depth_nums]
theorem refK_inj {a b : Rf} (h : refK a = refK b) : a = b := by
  unfold refK at h
  injection h with h
  injection h with h1 h2
  injection h1 with h1
  injection h2 with h2 _
  injection h2 with h2
  have e : a.1 = b.1 := List.map_inj_right (f := NestedKey.num) (fun x y z => by injection z) |>.mp h1
  exact Prod.ext e h2
theorem nodup_refK {rs : List Rf} (h : rs.Nodup) : (rs.map refK).Nodup := List.pairwise_map.mpr (h.imp fun ne e => ne (refK_inj e))
/-! sorted -/
theorem alike_refs (a b : Rf) : PySem.W.alike (refD a) (refD b) = true := by
  unfold refD intsD
  simp [PySem.W.alike, PySem.W.alikeAll, PySem.W.alike_ints]
/-- the references ascending -/
noncomputable def sortR (rs : List Rf) : List Rf := rs.mergeSort (PySem.W.dataLe false refD)
theorem lt_ref (a b : Rf) : PySem.W.dataLt (refD a) (refD b) = if a.1 = b.1 then decide (a.2.cps.toList < b.2.cps.toList) else decide (a.1 < b.1) := by
  have e1 : PySem.W.alike (intsD a.1) (intsD b.1) = true := by
    unfold intsD
    simp [PySem.W.alike, PySem.W.alike_ints]
  unfold refD
  rw [PySem.W.dataLt_pair e1 (by simp [PySem.W.alike]), eqv_ints, PySem.W.dataLt_str]
  have e2 : PySem.W.dataLt (intsD a.1) (intsD b.1) = decide (a.1 < b.1) := by
    unfold intsD
    rw [PySem.W.dataLt_tuple]
    exact PySem.W.dataLt_ints a.1 b.1
  rw [e2]
  by_cases h : a.1 = b.1
  · rw [if_pos h, if_pos (decide_eq_true h)]
    by_cases h2 : a.2 = b.2
    · rw [if_pos (by rw [h2, PyData.eqv]; exact beq_self_eq_true _), h2]
      exact (decide_eq_false (List.lt_irrefl _)).symm
    · rw [if_neg (by rw [PyData.eqv]; simpa using h2)]
  · rw [if_neg h, if_neg (by simpa using h)]
def refLe (a b : Rf) : Prop := a.1 < b.1 ∨ (a.1 = b.1 ∧ a.2.cps.toList ≤ b.2.cps.toList)
theorem le_ref (a b : Rf) : PySem.W.dataLe false refD a b = true ↔ refLe a b := by
  show (!PySem.W.dataLt (refD b) (refD a)) = true ↔ _
  rw [lt_ref]
  unfold refLe
  by_cases h : b.1 = a.1
  · rw [if_pos h, Bool.not_eq_true', decide_eq_false_iff_not, List.not_lt]
    constructor
    · exact fun z => .inr ⟨h.symm, z⟩
    · rintro (z | ⟨_, z⟩)
      · rw [h] at z
        exact absurd z (List.lt_irrefl _)
      · exact z
  · rw [if_neg h, Bool.not_eq_true', decide_eq_false_iff_not, List.not_lt]
    constructor
    · intro z
      rcases List.le_iff_lt_or_eq.mp z with z | z
      · exact .inl z
      · exact absurd z.symm h
    · rintro (z | ⟨z, _⟩)
      · exact List.le_of_lt z
      · exact absurd z.symm h
theorem refLe_trans (a b c : Rf) (h1 : PySem.W.dataLe false refD a b = true) (h2 : PySem.W.dataLe false refD b c = true) : PySem.W.dataLe false refD a c = true := by
  rw [le_ref] at h1 h2 ⊢
  rcases h1 with h1 | ⟨h1, k1⟩
  · rcases h2 with h2 | ⟨h2, k2⟩
    · exact .inl (List.lt_trans h1 h2)
    · exact .inl (h2 ▸ h1)
  · rcases h2 with h2 | ⟨h2, k2⟩
    · exact .inl (h1 ▸ h2)
    · exact .inr ⟨h1.trans h2, List.le_trans k1 k2⟩
theorem refLe_total (a b : Rf) : (PySem.W.dataLe false refD a b || PySem.W.dataLe false refD b a) = true := by
  rw [Bool.or_eq_true, le_ref, le_ref]
  unfold refLe
  rcases List.le_total a.1 b.1 with h | h
  · rcases List.le_iff_lt_or_eq.mp h with h | h
    · exact .inl (.inl h)
    · rcases List.le_total a.2.cps.toList b.2.cps.toList with k | k
      · exact .inl (.inr ⟨h, k⟩)
      · exact .inr (.inr ⟨h.symm, k⟩)
  · rcases List.le_iff_lt_or_eq.mp h with h | h
    · exact .inr (.inl h)
    · rcases List.le_total a.2.cps.toList b.2.cps.toList with k | k
      · exact .inl (.inr ⟨h.symm, k⟩)
      · exact .inr (.inr ⟨h, k⟩)
theorem refLe_anti {a b : Rf} (h1 : PySem.W.dataLe false refD a b = true) (h2 : PySem.W.dataLe false refD b a = true) : a = b := by
  rw [le_ref] at h1 h2
  rcases h1 with h1 | ⟨h1, k1⟩
  · rcases h2 with h2 | ⟨h2, k2⟩
    · exact absurd (List.lt_trans h1 h2) (List.lt_irrefl _)
    · rw [h2] at h1
      exact absurd h1 (List.lt_irrefl _)
  · rcases h2 with h2 | ⟨h2, k2⟩
    · rw [h1] at h2
      exact absurd h2 (List.lt_irrefl _)
    · exact Prod.ext h1 (PySem.W.str_of_cps (List.le_antisymm k1 k2))
theorem sortR_perm (rs : List Rf) : (sortR rs).Perm rs := List.mergeSort_perm _ _
theorem sortR_asc (rs : List Rf) : (sortR rs).Pairwise fun a b => PySem.W.dataLe false refD a b = true := List.pairwise_mergeSort refLe_trans refLe_total rs
theorem sortR_eq {rs qs : List Rf} (h : rs.Perm qs) : sortR rs = sortR qs :=
  ((sortR_perm rs).trans (h.trans (sortR_perm qs).symm)).eq_of_pairwise (fun a b _ _ x y => refLe_anti x y) (sortR_asc rs) (sortR_asc qs)
theorem sortR_idem (rs : List Rf) : sortR (sortR rs) = sortR rs := sortR_eq (sortR_perm rs)
theorem putF_new {f : Str} {v : V} : ∀ {fs : List (Str × V)} (ns : List Str), fs.map Prod.fst = ns → ns.all (fun g => !decide (g = f)) = true → putF f v fs = fs ++ [(f, v)]
  | [], _, _, _ => rfl
  | (g, x) :: r, _, rfl, h => by
    rw [List.map_cons, List.all_cons, Bool.and_eq_true] at h
    have ne : ¬ g = f := of_decide_eq_false (by simpa using h.1)
    unfold putF
    rw [if_neg ne, putF_new (r.map Prod.fst) rfl h.2]
    rfl
theorem put4 (a b c d : V) : putF "_scope" d (putF "_key" c (putF "_width" b (putF "_name" a []))) = [(("_name" : Str), a), ("_width", b), ("_key", c), ("_scope", d)] := by
  rw [putF_new (fs := []) [] rfl rfl, putF_new (fs := [] ++ [_]) ["_name"] rfl (by decide +kernel), putF_new (fs := ([] ++ [_]) ++ [_]) ["_name", "_width"] rfl (by decide +kernel), putF_new (fs := (([] ++ [_]) ++ [_]) ++ [_]) ["_name", "_width", "_key"] rfl (by decide +kernel)]
  rfl
theorem put5 (a b c d e : V) : putF "_refers" e [(("_name" : Str), a), ("_width", b), ("_key", c), ("_scope", d)] = [(("_name" : Str), a), ("_width", b), ("_key", c), ("_scope", d), ("_refers", e)] := by
  rw [putF_new ["_name", "_width", "_key", "_scope"] rfl (by decide +kernel)]
  rfl
/-- a table's parts -/
structure Parts where
  nm : Str
  wd : Int
  key : Option (List Int)
  sc : Str
  refs : List Rf
deriving DecidableEq
def tabF (nm : Str) (wd : Int) (kv : V) (sc : Str) (rv : V) : List (Str × V) := [("_name", .str nm), ("_width", .int wd), ("_key", kv), ("_scope", .str sc), ("_refers", rv)]
/-- at v stands a table with these parts -/
def TabAt (K : PySem.W.Frag) (C : Addr) (H : Hp) (v : V) (p : Parts) : Prop := ∃ a dx kv rv, v = .ref a ∧ H a = some (.ins C dx (tabF p.nm p.wd kv p.sc rv)) ∧ Dp K H kv (keyD p.key) ∧ Dp K H rv (.tuple (p.refs.map refD))
theorem TabAt.same {K : PySem.W.Frag} {C : Addr} {H H' : Hp} {v : V} {p : Parts} (t : TabAt K C H v p) (s : Same H H') : TabAt K C H' v p := by
  obtain ⟨a, dx, kv, rv, e, ea, hk, hr⟩ := t
  exact ⟨a, dx, kv, rv, e, s _ _ ea, dp_mv (mv_same s) _ _ (flat_key _) hk, dp_mv (mv_same s) _ _ (flat_refs _) hr⟩
theorem TabAt.keep {K : PySem.W.Frag} {C : Addr} {H H' : Hp} {v : V} {p : Parts} {d : Addr} (t : TabAt K C H v p) (k : Keep d H H') (hd : Dice H d) : TabAt K C H' v p := by
  obtain ⟨a, dx, kv, rv, e, ea, hk, hr⟩ := t
  have ne : a ≠ d := fun z => by
    obtain ⟨x, y, c, e2, _⟩ := hd
    rw [z, e2] at ea
    cases ea
  exact ⟨a, dx, kv, rv, e, k.1 _ _ ne ea, dp_mv (mv_keep k hd) _ _ (flat_key _) hk, dp_mv (mv_keep k hd) _ _ (flat_refs _) hr⟩
end Kit
-- CUT
/-! ### of our own: defs with *args and one keyword-only parameter, classmethods, classes in a local name; calls of them with stars and keywords -/
namespace Kit
open PySem PySem.Spec PyProof.Rows L2 StX ClX
/-- positional values, keyword values -/
abbrev SpA := List V → List (Str × V) → Hp → VK → XK → Prop
def FnA (P : Program) (w : World) (K : PySem.W.Frag) (mg : Str → Option Value) (base : Heap) (CX : CXT) (k : Nat) (f : Addr) (sp : SpA) : Prop :=
  ∀ (A : Around) (outer : List Env) (s : Shared) (H : Hp) (ks : List Str) (us ws : List Value) (vs zs : List V) (Q : VK) (E : XK), Room k A → Env0 P w K mg base A outer s H → Vals vs us → Vals zs ws → zs.length = ks.length → sp vs (ks.zip zs) H Q E →
    codeAny (model P w) A (.call (.ref f) ⟨us, ks.zip ws⟩) (CR CX outer P w H s Q E) s
/-- the one keyword-only parameter q, its default d: what it is -/
def KwOne (q : Str) (d : V) (kws : List (Str × V)) (z : V) : Prop := (kws = [] ∧ z = d) ∨ kws = [(q, z)]
theorem kw_one {q : Str} {d z : V} {kws : List (Str × V)} {ks : List Str} {zs : List V} {ws : List Value} (h : KwOne q d kws z) (e : kws = ks.zip zs) (r : Vals zs ws) (l : zs.length = ks.length) : (ks = [] ∧ ws = [] ∧ zs = [] ∧ z = d) ∨ ∃ u, ks = [q] ∧ ws = [u] ∧ zs = [z] ∧ RelV z u := by
  subst e
  cases r with
  | nil =>
    cases ks with
    | nil =>
      rcases h with ⟨_, e⟩ | e
      · exact .inl ⟨rfl, rfl, rfl, e⟩
      · cases e
    | cons _ _ => cases l
  | cons a r =>
    cases ks with
    | nil => cases l
    | cons k0 ks =>
      rcases h with ⟨e, _⟩ | e
      · cases e
      · rw [List.zip_cons_cons] at e
        injection e with e1 e2
        injection e1 with e3 e4
        subst e3 e4
        cases r with
        | nil =>
          cases ks with
          | nil => exact .inr ⟨_, rfl, rfl, rfl, a⟩
          | cons _ _ => cases l
        | cons _ _ =>
          cases ks with
          | nil => cases l
          | cons _ _ => cases e2
section
variable {CX : CXT} {P : Program} {w : World} {K : PySem.W.Frag} {mg : Str → Option Value} {base : Heap} {k n : Nat} {f : Addr} {x qual : Str} {params : Arguments} {body : List Stmt} {scope : Scope} {N ps : List Str} {sp : Sp} {fd : FuncData} {q pv : Str} {dq : V}
/-- def f(a, .., *v, q = d) -/
theorem fn_starK1 (F : FunD K x qual params body scope [] [(q, dq)] f fd) (S : FnScope N (ps ++ [q, pv]) scope) (hCX : CXUp CX)
    (hb0 : ∀ (D : Addr) (doc pm : Value) (an : Option Addr) (cdv ct : Value) (us rest : List Value) (u : Value), us.length = ps.length → ∃ (β γ : Type) (k1 : Option Value → Sem β) (k2 : β → Sem γ) (k3 : γ → Sem (List (Str × Value))) (a : β),
      bindArgs (PySem.W.fnOf x qual params body scope .none (.ref D) doc pm an cdv ct) ⟨us ++ rest, []⟩ = ((nsGet D q >>= k1) >>= k2) >>= k3 ∧ k1 (some u) = pure a ∧ (k2 a >>= k3) = (newTuple rest >>= fun t => pure (ps.zip us ++ [(q, u), (pv, t)])))
    (hb1 : ∀ (D : Addr) (doc pm : Value) (an : Option Addr) (cdv ct : Value) (us rest : List Value) (u : Value), us.length = ps.length →
      bindArgs (PySem.W.fnOf x qual params body scope .none (.ref D) doc pm an cdv ct) ⟨us ++ rest, [(q, u)]⟩ = (newTuple rest >>= fun t => pure (ps.zip us ++ [(q, u), (pv, t)])))
    (hbody : ∀ (cdv : Value) (A : Around) (outer : List Env) (s : Shared) (H : Hp) (vs : List V) (Q : VK) (E : XK), Room k (A.deeper (envOfC qual scope s.heap.objs.size f cdv)) → sp vs H Q E →
      ∃ t, PSs (cxOf CX P w K mg base N qual scope f cdv A outer s H E) body t ∧ t { nx := fun _ H' => Q .non H', rt := Q } (start N vs) H) :
    FnA P w K mg base CX (k + 1) f (fun vs kws H Q E => ∃ ws rest z, vs = ws ++ rest ∧ ws.length = ps.length ∧ rest.length ≤ sizeLine ∧ KwOne q dq kws z ∧ ∀ p, H p = Option.none → sp (ws ++ [z, V.ref p]) (upd H p (.tup rest)) Q E) := by
  intro A outer s H ks us wz vs zs Q E hr e0 r rz lz hsp
  obtain ⟨oc, od, dV, kV, doc, pm, an, cdv, ct, osl, rfl, lk, hcd, hD, hK⟩ := F.ex
  rcases hD with ⟨_, rfl⟩ | ⟨e, _⟩
  · rcases hK with e | ⟨D, rfl, hq⟩
    · cases e
    · obtain ⟨u0, hu0, ru0⟩ := hq (q, dq) (List.mem_cons_self ..)
      obtain ⟨wv, rest, z, ev, hl, hz, ko, hq⟩ := hsp
      subst ev
      obtain ⟨u1, u2, eu, r1, r2⟩ := vals_split r
      subst eu
      have hn : H s.heap.objs.size = Option.none := e0.hok.fresh (Nat.le_refl _)
      have hl1 : u1.length = ps.length := by rw [← r1.length]; exact hl
      have hl2 : u2.length ≤ sizeLine := by rw [← r2.length]; exact hz
      have new : ObjOk P w (upd H s.heap.objs.size (.tup rest)) (s.heap.push ({ cls := .type "tuple", data := .seq u2.toArray } : Obj)) s.heap.objs.size (.tup rest) := ⟨hz, u2, r2, ⟨_, Heap.get?_push_size _ rfl, rfl, _, rfl⟩⟩
      have un := un_laid (fs := frs outer) (s := s) (o := ({ cls := .type "tuple", data := .seq u2.toArray } : Obj)) (u := .tup rest) hn
      have fin : ∀ (u : Value) (rq : RelV z u) (A' : Around) (Ex : Value → Shared → Prop) (Q' : List (Str × Value) → Shared → Prop),
          (∀ (s2 : Shared) (H2 : Hp) (xs : List V) (us : List Value), Env0 P w K mg base A outer s2 H2 → Un (frs outer) [] H H2 s.heap s2.heap → s2.os = s.os → (∀ e s', CX outer H2 s2 E e s' → CX outer H s E e s') → Vals xs us → xs.length = (ps ++ [q, pv]).length → (∃ p, H p = Option.none ∧ xs = wv ++ [z, V.ref p] ∧ H2 = upd H p (.tup rest)) → Q' ((ps ++ [q, pv]).zip us) s2) →
          wpAny (model P w) A' (newTuple u2 >>= fun t => pure (ps.zip u1 ++ [(q, u), (pv, t)])) Q' Ex s := fun u rq A' Ex Q' h => by
        refine wpAny_bind (wpAny_newTuple (wpAny_pure ?_) hl2)
        have zz := h _ _ (wv ++ [z, V.ref s.heap.objs.size]) (u1 ++ [u, Value.ref s.heap.objs.size]) (env0_laid e0 new) un rfl (fun e s' => hCX outer s H _ _ E e s' un (fun b o q => Heap.get?_push_of_some _ q) rfl) (r1.append (.cons rq (.cons rfl .nil)))
          (by rw [List.length_append, List.length_append, hl] <;> rfl) ⟨_, hn, rfl, rfl⟩
        rw [List.zip_append hl1.symm] at zz
        exact zz
      refine run_bnd lk hcd S hr e0 (G := fun xs H2 => ∃ p, H p = Option.none ∧ xs = wv ++ [z, V.ref p] ∧ H2 = upd H p (.tup rest)) (fun A' Ex Q' h => ?_) fun s2 H2 xs ⟨p, hp, ex, eH⟩ hr' => ?_
      · rcases kw_one ko rfl rz lz with ⟨rfl, rfl, rfl, rfl⟩ | ⟨u, rfl, rfl, rfl, ru⟩
        · obtain ⟨β, γ, k1, k2, k3, a, e1, e2, e3⟩ := hb0 D doc pm an cdv ct u1 u2 u0 hl1
          show wpAny _ _ (bindArgs _ ⟨u1 ++ u2, []⟩) _ _ _
          rw [e1, bind_assoc, bind_assoc]
          have KI : K.In s.heap := e0.mod.kin.keeps fun b o e => (e0.bs b o e).1
          refine wpAny_bind ((PySem.W.looks_nsIn KI hu0).here ?_)
          rw [e2, pure_bind, e3]
          exact fin u0 ru0 A' Ex Q' h
        · show wpAny _ _ (bindArgs _ ⟨u1 ++ u2, [(q, u)]⟩) _ _ _
          rw [hb1 D doc pm an cdv ct u1 u2 u hl1]
          exact fin u ru A' Ex Q' h
      · subst ex eH
        exact hbody cdv A outer s2 _ _ Q E hr' (hq p hp)
  · exact absurd rfl e
/-- def f(a, .., *, q = d) -/
theorem fn_K1 (F : FnOk P w K mg base CX k f fd ps sp) {g0 g1 : List Value → List Value → List Value} (b0 : KBn K fd ps n [] g0 fun vs _ => vs ++ [dq]) (b1 : KBn K fd ps n [q] g1 fun vs zs => vs ++ zs) :
    FnA P w K mg base CX k f (fun vs kws H Q E => ∃ z, vs.length = n ∧ KwOne q dq kws z ∧ sp (vs ++ [z]) H Q E) := by
  intro A outer s H ks us wz vs zs Q E hr e0 r rz lz ⟨z, hl, ko, hsp⟩
  have KI : K.In s.heap := e0.mod.kin.keeps fun b o e => (e0.bs b o e).1
  have hu : us.length = n := by rw [← r.length]; exact hl
  rcases kw_one ko rfl rz lz with ⟨rfl, rfl, rfl, rfl⟩ | ⟨u, rfl, rfl, rfl, ru⟩
  · exact F.run A outer s H ⟨us, _⟩ (g0 us []) _ Q E hr e0 (b0.to s us [] KI hu rfl) (b0.rel r .nil) hsp
  · exact F.run A outer s H ⟨us, _⟩ (g1 us [u]) _ Q E hr e0 (b1.to s us [u] KI hu rfl) (b1.rel r (.cons ru .nil)) hsp
end
section
open PySem.W
variable {M : Model} {A : Around} {E : Value → Shared → Prop} {s : Shared} {env : Env} {pos : Pos} {f : Value} {first : List Value} {Q : Value → Shared → Prop} {e : Expr} {rest : List Expr} {kws : List Keyword}
theorem callA_of {P : Heap → Prop} (hk : ∀ h, P h → ∃ k, (k = Keeper.frame ∨ k = Keeper.machine ∨ k = Keeper.boundFrame) ∧ Looks M h (keeperOf f) k) (hall : (backToKw pos (keywordEach kws env)).all (·.1.isSome) = true)
    (h : wpAny M A (spliced (backTo pos (starEach (e :: rest) env))) (fun vs s₁ => wpAny M A (evalAll ((backToKw pos (keywordEach kws env)).map (·.2)))
      (fun ks s₂ => P s₂.heap ∧ wpAny M A (call f (first ++ vs) (((backToKw pos (keywordEach kws env)).filterMap (·.1)).zip ks)) Q E s₂) E s₁) E s)
    (he : starEach (e :: rest) env = (false, eval e env) :: starEach rest env) : wpAny M A (callWith pos f first (backTo pos (starEach (e :: rest) env)) (backToKw pos (keywordEach kws env))) Q E s := by
  have z : wpAny M A (evalArgs f true (backTo pos (starEach (e :: rest) env)) (backToKw pos (keywordEach kws env))) (fun a s₁ => P s₁.heap ∧ wpAny M A (call f (first ++ a.pos) a.kw) Q E s₁) E s := evalArgs_kw2 hall h he
  unfold callWith
  refine wpAny_bind (wpAny_holding (wpAny_mono z (fun a s₁ h₁ => wpAny_bind (wpAny_standAt ?_)) fun _ _ x => x))
  obtain ⟨k, hk', L⟩ := hk _ h₁.1
  refine wpAny_bind (L.here ?_)
  have tail : ∀ {t : Sem Value}, wpAny M A t Q E s₁ → wpAny M A (t >>= fun r => holding [r] point >>= fun _ => pure r) Q E s₁ :=
    fun ht => wpAny_bind (wpAny_mono ht (fun r s₂ hr => wpAny_bind (wpAny_holding (wpAny_point (wpAny_pure hr)))) fun _ _ x => x)
  have marked (mk : Value) : wpAny M A (callMarked mk f (first ++ a.pos) a.kw) Q E s₁ := by unfold callMarked; exact Calls.wpAny_keep h₁.2
  generalize ((backTo pos (starEach (e :: rest) env)).any (·.1) || (backToKw pos (keywordEach kws env)).any (·.1.isNone)) = st
  cases st <;> rcases hk' with rfl | rfl | rfl <;> dsimp only <;> first | exact tail h₁.2 | exact tail (marked _) | exact tail (wpAny_operating h₁.2) | (split <;> first | exact tail h₁.2 | exact tail (marked _))
end
/-- C(e, .., *y, .., k = v), the class by any expression that is a name -/
def tMakeA (C : Addr) (ks : List Str) (sp : SpA) (E : XK) (tc : TE) (t tk : TA) : TE := fun σ H Q => tc σ H fun y H0 => y = .ref C ∧ t σ H0 fun vs H1 => tk σ H1 fun zs H2 => zs.length = ks.length ∧ ∀ x dx, H2 x = Option.none → H2 dx = Option.none → dx ≠ x →
  sp (.ref x :: vs) (ks.zip zs) (upd (upd H2 dx (.own x)) x (.ins C dx [])) (fun v H3 => v = .non ∧ Q (.ref x) H3) E
/-- e.m(..), e the class at C, m a classmethod -/
def tCMethA (C : Addr) (ks : List Str) (sp : SpA) (E : XK) (ta : TE) (t tk : TA) : TE := fun σ H Q => ta σ H fun x H1 => x = .ref C ∧ t σ H1 fun vs H2 => tk σ H2 fun zs H3 => zs.length = ks.length ∧ sp (.ref C :: vs) (ks.zip zs) H3 Q E
section
variable {X : Cx} {CX : CXT} {k : Nat} {f g C p : Addr} {mc : Value} {ks : List Str} {sp : SpA} {E : XK} {x m : Str} {ps pos apos : Pos} {o e : Expr} {es : List Expr} {kws : List Keyword} {tc ta : TE} {t tk : TA} {pl : Sem Bool}
theorem run_makeA {pins : List (Addr × Obj)} {σ : L2.St} {H : Hp} {s : Shared} {Q : VK} {us ws : List Value} {vs zs : List V} (M : Mk X.K C f) (F : FnA X.prog X.w X.K X.mg X.base CX k f sp) (hr : Room (k + 1) X.A) (hx : Passes CX X E)
    (I : Inv X pins σ H s) (r : Vals vs us) (rz : Vals zs ws) (l2 : zs.length = ks.length)
    (h : ∀ x dx, H x = Option.none → H dx = Option.none → dx ≠ x → sp (.ref x :: vs) (ks.zip zs) (upd (upd H dx (.own x)) x (.ins C dx [])) (fun v H2 => v = .non ∧ Q (.ref x) H2) E) :
    wpAny (model X.prog X.w) X.A (call (.ref C) us (ks.zip ws)) (EP X pins σ Q) X.xe s := by
  have hq := h (s.heap.objs.size + 1) s.heap.objs.size (I.hok.fresh (Nat.le_succ _)) (I.hok.fresh (Nat.le_refl _)) (Nat.ne_of_lt (Nat.lt_succ_self _))
  have I2 := Inv.made (C := C) I
  have r1 : Vals (V.ref (s.heap.objs.size + 1) :: vs) (Value.ref (s.heap.objs.size + 1) :: us) := .cons rfl r
  refine wpAny_call (make_map (f := f) I.kIn M.makes M.init (beq_iff_eq.mp M.fn) (codeAny_mono (F _ X.stack _ _ ks (Value.ref (s.heap.objs.size + 1) :: us) ws _ zs _ E (hr.make C us (ks.zip ws))
    (I2.env0.make C us (ks.zip ws)) r1 rz l2 hq) fun r s' hq' => ?_))
  cases r with
  | error e => exact hx pins σ _ _ e s' I2 hq'
  | ok fl =>
    cases fl with
    | ret u =>
      obtain ⟨v, H', I3, rv, ev, q3⟩ := I2.after hq'
      subst ev
      exact ⟨rv, ⟨V.ref (s.heap.objs.size + 1), H', I3, rfl, q3⟩⟩
    | next => exact False.elim hq'
    | brk => exact False.elim hq'
    | cont => exact False.elim hq'
theorem pe_makeA (hc : PE X (.Name x ps) tc) (M : Mk X.K C f) (F : FnA X.prog X.w X.K X.mg X.base CX k f sp) (hr : Room (k + 1) X.A) (hx : Passes CX X E) (ha : PA X (e :: es) t) (hkw : PK X kws tk)
    (hall : (backToKw pos (keywordEach kws X.env)).all (·.1.isSome) = true := by rfl) (hks : (backToKw pos (keywordEach kws X.env)).filterMap (·.1) = ks := by rfl)
    (he : starEach (e :: es) X.env = (false, eval e X.env) :: starEach es X.env := by rfl) : PE X (.Call (.Name x ps) (e :: es) kws pos) (tMakeA C ks sp E tc t tk) := by
  refine ⟨fun pins s σ H Q I h => ?_⟩
  refine wpAny_Call_Name_kw (thn (hc.run pins s σ H _ I h) fun u s0 ⟨y, H0, I0, ry, ey, q0⟩ => ?_)
  subst ey
  obtain rfl : u = Value.ref C := ry
  refine callA_of (P := fun h => X.K.In h) (PySem.W.keeps_K M.kp) hall (thn (ha.run pos pins s0 σ H0 _ I0 q0) fun us s1 ⟨vs, H1, I1, r, q⟩ => ?_) he
  refine thn (hkw.run pos pins s1 σ H1 _ I1 q) fun ws s2 ⟨zs, H2, I2, rz, l2, q2⟩ => ⟨I2.kIn, ?_⟩
  rw [hks]
  exact run_makeA M F hr hx I2 r rz l2 q2
/-- the call of a bound method's record, with keywords -/
theorem run_cmA {q : Addr} {pins : List (Addr × Obj)} {σ : L2.St} {H : Hp} {s : Shared} {Q : VK} {us ws : List Value} {vs zs : List V} (F : FnA X.prog X.w X.K X.mg X.base CX k g sp) (hr : Room k X.A) (hx : Passes CX X E) (I : Inv X ((q, PySem.W.methodObj (.ref g) (.ref C)) :: pins) σ H s)
    (r : Vals vs us) (rz : Vals zs ws) (l2 : zs.length = ks.length) (h : sp (.ref C :: vs) (ks.zip zs) H Q E) : wpAny (model X.prog X.w) X.A (call (.ref q) us (ks.zip ws)) (EP X pins σ Q) X.xe s := by
  refine wpAny_call (PySem.W.method_call (pin_at I) (codeAny_mono (F X.A X.stack s H ks (.ref C :: us) ws (.ref C :: vs) zs Q E hr I.env0 (.cons rfl r) rz l2 h) fun z s' q1 => ?_))
  cases z with
  | error u => exact hx pins σ H s u s' (unpin I) q1
  | ok fl =>
    cases fl with
    | ret u => exact (unpin I).after q1
    | _ => exact False.elim q1
theorem pe_cmethA (he : PE X o ta) (r : CRead X.K C mc) (c : CMet X.K C mc m p g) (F : FnA X.prog X.w X.K X.mg X.base CX k g sp) (hr : Room k X.A) (hx : Passes CX X E) (ha : PA X (e :: es) t) (hkw : PK X kws tk)
    (hall : (backToKw pos (keywordEach kws X.env)).all (·.1.isSome) = true := by rfl) (hks : (backToKw pos (keywordEach kws X.env)).filterMap (·.1) = ks := by rfl)
    (hst : starEach (e :: es) X.env = (false, eval e X.env) :: starEach es X.env := by rfl)
    (ht : eval (.Call (.Attribute o m apos) (e :: es) kws pos) X.env = (do
      let ov ← eval o X.env
      standAt apos.atName
      let (f, first) ← holding [ov] (getMethod ov m pl)
      callWith pos f first (backTo pos (starEach (e :: es) X.env)) (backToKw pos (keywordEach kws X.env))) := by rfl) :
    PE X (.Call (.Attribute o m apos) (e :: es) kws pos) (tCMethA C ks sp E ta t tk) := by
  refine ⟨fun pins s σ H Q I h => ?_⟩
  refine PySem.W.methodCall_KW (pl := pl) (thn (he.run pins s σ H _ I h) fun u s1 ⟨x, H1, I1, rx, ex, q⟩ => ?_) ht
  subst ex
  obtain rfl : u = Value.ref C := rx
  refine getmethcm_ok I1 r c fun s2 I2 => ?_
  refine callA_of (P := fun h => PySem.W.MethP X.K s1.heap.objs.size g (.ref C) h) (PySem.W.keeps_M c.fi) hall (thn (ha.run pos _ s2 σ H1 _ I2 q) fun us s3 ⟨vs, H2, I3, rv, q2⟩ => ?_) hst
  refine thn (hkw.run pos _ s3 σ H2 _ I3 q2) fun ws s4 ⟨zs, H3, I4, rz, l2, q3⟩ => ⟨⟨pin_at I4, I4.kIn⟩, ?_⟩
  rw [hks]
  exact run_cmA F hr hx I4 rv rz l2 q3
end
/-- def f(a, .., *v) -/
theorem fn_star0 {CX : CXT} {P : Program} {w : World} {K : PySem.W.Frag} {mg : Str → Option Value} {base : Heap} {k : Nat} {f : Addr} {x qual : Str} {st : Stmt} {N ps : List Str} {sp : Sp} {fd : FuncData} {pv : Str}
    (F : Fun K x qual st f fd) (S : FnScope N (ps ++ [pv]) (defScope st)) (hCX : CXUp CX)
    (hb : ∀ (kV doc pm : Value) (an : Option Addr) (cdv ct : Value) (us rest : List Value), us.length = ps.length → bindArgs (PySem.W.fnOf x qual (defArgs st) (defBody st) (defScope st) .none kV doc pm an cdv ct) ⟨us ++ rest, []⟩ = (newTuple rest >>= fun t => pure (ps.zip us ++ [(pv, t)])))
    (hbody : ∀ (cdv : Value) (A : Around) (outer : List Env) (s : Shared) (H : Hp) (vs : List V) (Q : VK) (E : XK), Room k (A.deeper (envOfC qual (defScope st) s.heap.objs.size f cdv)) → sp vs H Q E →
      ∃ t, PSs (cxOf CX P w K mg base N qual (defScope st) f cdv A outer s H E) (defBody st) t ∧ t { nx := fun _ H' => Q .non H', rt := Q } (start N vs) H) :
    FnA P w K mg base CX (k + 1) f (fun vs kws H Q E => kws = [] ∧ ∃ ws rest, vs = ws ++ rest ∧ ws.length = ps.length ∧ rest.length ≤ sizeLine ∧ ∀ p, H p = Option.none → sp (ws ++ [V.ref p]) (upd H p (.tup rest)) Q E) := by
  intro A outer s H ks us wz vs zs Q E hr e0 r rz lz hsp
  obtain ⟨e1, hsp⟩ := hsp
  obtain ⟨oc, od, kV, doc, pm, an, cdv, ct, osl, rfl, lk, hcd⟩ := F.ex
  have e2 : ks.zip wz = [] := by
    cases ks with
    | nil => rfl
    | cons k0 ks =>
      cases rz with
      | nil => rfl
      | cons _ _ => cases e1
  rw [e2]
  exact fn_star lk hcd S hCX (hb kV doc pm an cdv ct) (hbody cdv) A outer s H us vs Q E hr e0 r hsp
end Kit
-- CUT
/-! ### of our own: set(x) of texts; sorted of such a set -/
namespace TXS
open PySem PySem.Spec PyProof.Rows L2
/-- the text of a member -/
def txt (e : Int × Value) : Str := match e.2 with
  | .str k _ => k
  | _ => Str.empty
def Member (w : World) (e : Int × Value) : Prop := ∃ k tk, e.2 = Value.str k tk ∧ e.1 = hashStr w k
/-- a set of texts, its table as it stands -/
structure Laid (w : World) (h : Heap) (a : Addr) (S : Str → Bool) (n : Nat) (o : Obj) (es : Array (Int × Value)) (ep : Nat) (t : SetTable) : Prop where
  ob : h.get? a = some o
  ex : o.ExactSet
  dt : o.data = .set es ep t
  mem : ∀ e ∈ es.toList, Member w e
  one : (es.toList.map txt).Nodup
  is : ∀ k, S k = true ↔ k ∈ es.toList.map txt
  few : es.size < scanBound
  fit : t.fits es.size = true
  num : es.size = n
  ris : Ris t.place.toList
  led : w.params.followText "set-order" = true ∨ t.led = true
def TxtR (w : World) (h : Heap) (a : Addr) (S : Str → Bool) (n : Nat) : Prop := ∃ o es ep t, Laid w h a S n o es ep t
section
variable {P : Program} {w : World} {h h' : Heap} {a : Addr} {S : Str → Bool} {n : Nat}
theorem TxtR.at (R : TxtR w h a S n) (k : ∀ o, h.get? a = some o → h'.get? a = some o) : TxtR w h' a S n := by
  obtain ⟨o, es, ep, t, L⟩ := R
  exact ⟨o, es, ep, t, { L with ob := k o L.ob }⟩
theorem TxtR.congr {S' : Str → Bool} (R : TxtR w h a S n) (e : ∀ k, S' k = S k) : TxtR w h a S' n := by
  rw [show S' = S from funext e]
  exact R
theorem member_elems {l : List (Int × Value)} (g : ∀ e ∈ l, Member w e) : ElemsOf (PySem.strKind P w) l := fun e he => by
  obtain ⟨k, tk, h1, h2⟩ := g e he
  refine ⟨⟨k, ?_, h2⟩, by rw [h1] <;> rfl⟩
  rw [h1]
  show ((k == k) = true)
  exact beq_self_eq_true k
theorem member_is {e : Int × Value} (g : Member w e) (k : Str) : (PySem.strKind P w).is k e.2 = true ↔ txt e = k := by
  obtain ⟨k0, tk, h1, _⟩ := g
  unfold txt
  rw [h1]
  show ((k0 == k) = true) ↔ k0 = k
  exact beq_iff_eq
theorem member_at {l : List (Int × Value)} (g : ∀ e ∈ l, Member w e) (k : Str) : k ∈ l.map txt ↔ ∃ e ∈ l, (PySem.strKind P w).is k e.2 = true := by
  rw [List.mem_map]
  exact ⟨fun ⟨e, he, q⟩ => ⟨e, he, (member_is (g e he) k).2 q⟩, fun ⟨e, he, q⟩ => ⟨e, he, (member_is (g e he) k).1 q⟩⟩
end
section
variable {P : Program} {w : World} {A : Around} {E : Value → Shared → Prop} {s : Shared} {a : Addr} {S : Str → Bool} {n : Nat}
/-- what is stored behind the search: the table with its new member, perhaps laid anew -/
theorem put_back {g : Bool → Sem Unit} (hg : ∀ (b : Bool) (s₁ : Shared) (Q' : Unit → Shared → Prop), Q' () s₁ → wpAny (model P w) A (g b) Q' E s₁) {o : Obj} {es0 : Array (Int × Value)} {ep0 : Nat} {t0 : SetTable} (ho : s.heap.get? a = some o) (hex : o.ExactSet) (hd : o.data = .set es0 ep0 t0)
    {es : Array (Int × Value)} {t : SetTable} {S' : Str → Bool} (mem : ∀ e ∈ es.toList, Member w e) (one : (es.toList.map txt).Nodup) (is : ∀ k, S' k = true ↔ k ∈ es.toList.map txt) (few : es.size < scanBound) (fit : t.fits es.size = true) (ris : Ris t.place.toList)
    (led : w.params.followText "set-order" = true ∨ t.led = true) {wd : Bool} {R : Option Bool → Shared → Prop} (hR : ∀ h', Heap.SameBut a s.heap h' → TxtR w h' a S' es.size → R (some true) { s with heap := h' }) :
    wpAny (model P w) A (do
        storeSet a es t
        if (!wd && t.tooFull) = true then do
            g (relayAll t es (SetTable.grown es.size)).2.2
            storeSet a (relayAll t es (SetTable.grown es.size)).1 (relayAll t es (SetTable.grown es.size)).2.1
            pure (some true)
          else pure (some true)) R E s := by
  have o1 := L2.store_at (es' := es) (t' := t) ho hd
  have sb1 := Heap.SameBut.update s.heap a (Obj.putSet es t)
  refine wpAny_bind (wpAny_storeSet_of ho hd ?_ (fits_of_scanBound few))
  generalize s.heap.update a (Obj.putSet es t) = h1 at o1 sb1 ⊢
  split
  · have pm := relayAll_perm t es (SetTable.grown es.size)
    have fit2 := relayAll_fits t es (SetTable.grown es.size)
    have ris2 := relayAll_ris t es (SetTable.grown es.size)
    have led2 := relayAll_led t es (SetTable.grown es.size)
    generalize relayAll t es (SetTable.grown es.size) = Z at pm fit2 ris2 led2 ⊢
    obtain ⟨es2, t2, gave⟩ := Z
    dsimp only at pm fit2 ris2 led2 ⊢
    have num : es2.size = es.size := by
      have z := pm.length_eq
      rwa [Array.length_toList, Array.length_toList] at z
    have few2 : es2.size < scanBound := by
      rw [num]
      exact few
    refine wpAny_bind (hg _ _ _ ?_)
    refine wpAny_bind (wpAny_storeSet_of o1 rfl ?_ (fits_of_scanBound few2))
    have o2 := L2.store_at (es' := es2) (t' := t2) o1 rfl
    refine wpAny_pure (hR _ (sb1.trans (Heap.SameBut.update h1 a _)) ⟨_, es2, _, t2, ⟨o2, hex, rfl, fun e he => mem e (pm.mem_iff.mp he), (pm.map txt).nodup_iff.mpr one, fun k => (is k).trans (pm.map txt).mem_iff.symm, few2, fit2, num, ris2, ?_⟩⟩)
    rw [led2]
    exact led
  · exact wpAny_pure (hR _ sb1 ⟨_, es, _, t, ⟨o1, hex, rfl, mem, one, is, few, fit, rfl, ris, led⟩⟩)
/-- one more text -/
theorem add {k : Str} {tk : Tok} {Q : Bool → Shared → Prop} (R : TxtR w s.heap a S n) (room : n + 1 < scanBound)
    (hQ : ∀ b h', Heap.SameBut a s.heap h' → TxtR w h' a (fun j => S j || decide (j = k)) (if S k = true then n else n + 1) → Q b { s with heap := h' }) :
    wpAny (model P w) A (setAddHashed a (.str k tk) (hashStr w k)) Q E s := by
  obtain ⟨o, es, ep, t, L⟩ := R
  have is : (PySem.strKind P w).is k (.str k tk) = true := by
    show ((k == k) = true)
    exact beq_self_eq_true k
  have sc : (Value.str k tk).scannable = true := rfl
  have el : ElemsOf (PySem.strKind P w) es.toList := member_elems L.mem
  unfold setAddHashed setAddHashedIn
  refine wpAny_holding (wpAny_bind (wpAny_setState_of L.ob L.dt L.fit ?_))
  dsimp only
  rw [byScan_of sc L.few el]
  simp only [↓reduceIte]
  unfold setAddByScan
  refine wpAny_bind ?_
  refine wpAny_bind (wpAny_rule ?_)
  show wpAny _ _ (setScan a (.str k tk) ((PySem.strKind P w).hash k) true es >>= _) _ _ _
  refine wpAny_bind (wpAny_setScan_of is L.ob L.dt L.fit el ?_)
  cases hf : List.findIdx? (fun e => (PySem.strKind P w).is k e.2) es.toList with
  | some j =>
    dsimp only
    obtain ⟨hj, pj, _⟩ := List.findIdx?_eq_some_iff_getElem.mp hf
    have there : S k = true := (L.is k).2 ((member_at (P := P) L.mem k).2 ⟨es.toList[j], List.getElem_mem hj, pj⟩)
    refine wpAny_pure (wpAny_pure (hQ _ s.heap (Heap.SameBut.refl a s.heap) ?_))
    rw [if_pos there]
    refine TxtR.congr ⟨o, es, ep, t, L⟩ fun i => ?_
    by_cases e : i = k
    · rw [e, there, Bool.true_or]
    · rw [decide_eq_false e, Bool.or_false]
  | none =>
    dsimp only
    have off : k ∉ es.toList.map txt := fun z => by
      obtain ⟨e, he, q⟩ := (member_at (P := P) L.mem k).1 z
      have c := List.findIdx?_eq_none_iff.mp hf e he
      rw [q] at c
      cases c
    have away : S k = false := by
      cases q : S k with
      | false => rfl
      | true => exact absurd ((L.is k).1 q) off
    have quiet : ∀ (b : Bool) {s₁ : Shared} {Q' : Unit → Shared → Prop}, Q' () s₁ → wpAny (model P w) A (match b with | true => rule "set.scan.the-table-gave-way" | false => pure ()) Q' E s₁ := fun b s₁ Q' q => by
      cases b
      · exact wpAny_pure q
      · exact wpAny_rule q
    have pm := layNew_perm t es (hashStr w k) (.str k tk)
    have fit := layNew_fits t es (hashStr w k) (.str k tk)
    have ris := layNew_ris t es (hashStr w k) (.str k tk) L.ris
    have led := layNew_led t es (hashStr w k) (.str k tk)
    generalize layNew t es (hashStr w k) (.str k tk) = Z at pm fit ris led ⊢
    obtain ⟨es1, t1, wd, gave⟩ := Z
    dsimp only at pm fit ris led ⊢
    rw [Array.toList_push] at pm
    have pc : es1.toList.Perm ((hashStr w k, Value.str k tk) :: es.toList) := pm.trans (List.perm_append_singleton _ _)
    have pk : (es1.toList.map txt).Perm (k :: es.toList.map txt) := pc.map txt
    have mem : ∀ e ∈ es1.toList, Member w e := fun e he => by
      rcases List.mem_cons.mp (pc.mem_iff.mp he) with z | z
      · rw [z]
        exact ⟨k, tk, rfl, rfl⟩
      · exact L.mem e z
    have one : (es1.toList.map txt).Nodup := pk.nodup_iff.mpr (List.nodup_cons.mpr ⟨off, L.one⟩)
    have iss : ∀ i, (S i || decide (i = k)) = true ↔ i ∈ es1.toList.map txt := fun i => by
      rw [Bool.or_eq_true, decide_eq_true_eq, L.is i, pk.mem_iff, List.mem_cons]
      exact Or.comm
    have num : es1.size = n + 1 := by
      have z := pc.length_eq
      rwa [List.length_cons, Array.length_toList, Array.length_toList, L.num] at z
    have few : es1.size < scanBound := by
      rw [num]
      exact room
    have ledd : w.params.followText "set-order" = true ∨ t1.led = true := by
      rw [led]
      exact L.led
    have fin : ∀ h', Heap.SameBut a s.heap h' → TxtR w h' a (fun j => S j || decide (j = k)) es1.size → Q true { s with heap := h' } := fun h' sb r => by
      have z := hQ true h' sb
      rw [away] at z
      rw [num] at r
      exact z r
    refine wpAny_bind (quiet _ ?_)
    split
    · refine wpAny_bind ?_
      rw [hashByValue_scannable 8 sc]
      refine wpAny_pure ?_
      refine put_back (fun b s₁ Q' q => by cases b <;> first | exact wpAny_pure q | exact wpAny_rule q) L.ob L.ex L.dt mem one iss few ?_ ?_ ?_ fun h' sb r => by
        dsimp only
        exact wpAny_pure (fin h' sb r)
      · first | (split <;> first | exact fit | exact SetTable.fits_plain_off fit) | exact fit
      · first | (split <;> exact ris) | exact ris
      · first | (split <;> exact ledd) | exact ledd
    · refine wpAny_bind (wpAny_pure ?_)
      simp only [↓reduceIte]
      exact put_back (fun b s₁ Q' q => by cases b <;> first | exact wpAny_pure q | exact wpAny_rule q) L.ob L.ex L.dt mem one iss few fit ris ledd fun h' sb r => by
        dsimp only
        exact wpAny_pure (fin h' sb r)
/-- a new set -/
theorem fresh {h : Heap} {zs : List Str} (ho : h.get? a = some { cls := .type "set", dict := none, data := .set #[] 0 (.fresh 0 0 (!w.params.followText "set-order")) }) : TxtR w h a (fun j => decide (j ∈ zs.take 0)) 0 :=
  ⟨_, #[], 0, _, ⟨ho, ⟨rfl, rfl, rfl⟩, rfl, (fun e he => by simp at he), (by simp), (fun k => by simp), (by decide), (by rfl), rfl, List.Pairwise.nil, by
    show _ ∨ (!w.params.followText "set-order") = true
    cases w.params.followText "set-order"
    · exact .inr rfl
    · exact .inl rfl⟩⟩
/-- the set takes in what a walk gives -/
theorem takes_in {I : Addr} {fp wr : List Addr} {G : Array GenState → Array GenState → Prop} {m : Nat} {Pv : Nat → Value → Prop} {St : Nat → Shared → Prop} {R : Result → Shared → Prop} (W : WalksS P w A.in1 I fp wr G m Pv St) (a : Addr) (hf : a ∉ fp) (zs : List Str) (hm : m = zs.length)
    (hb : zs.length + 1 < scanBound) (hv : ∀ i v, Pv i v → ∃ k tk, zs[i]? = some k ∧ v = .str k tk) :
    ∀ (f i : Nat) (s : Shared), m - i = f → i ≤ m → St i s → (∃ c, c ≤ i ∧ TxtR w s.heap a (fun j => decide (j ∈ zs.take i)) c) →
      (∀ s' c, Moved (a :: wr) G s s' → c ≤ m → TxtR w s'.heap a (fun j => decide (j ∈ zs)) c → R (.ok (.ret .none)) s') → codeAny (model P w) A (.builtin "set.update.loop" ⟨[.ref a, .ref I], []⟩) R s := by
  have nw : a ∉ wr := fun z => hf (W.sub _ z)
  have more : ∀ b ∈ wr, b ∈ a :: wr := fun b hb => List.mem_cons_of_mem _ hb
  intro f
  induction f with
  | zero =>
    intro i s ef hi st ⟨c, hc, R0⟩ hR
    obtain rfl : i = m := by omega
    refine codeAny_builtin F.entry_set_update_loop ?_
    rw [Around.under_plainId F.plain_set_update_loop _]
    show wpAny _ A.in1 (pyNext (.ref I) >>= _) _ _ s
    refine wpAny_bind (W.done s _ _ st fun s' mv => ?_)
    show wpAny _ A.in1 (ret Value.none) _ _ s'
    rw [List.take_of_length_le (Nat.le_of_eq hm.symm)] at R0
    exact wpAny_pure (hR s' c (mv.mono more) hc (R0.at fun o e => mv.heap a o nw e))
  | succ f ih =>
    intro i s ef hi st ⟨c, hc, R0⟩ hR
    have lt : i < m := by omega
    refine codeAny_builtin F.entry_set_update_loop ?_
    rw [Around.under_plainId F.plain_set_update_loop _]
    show wpAny _ A.in1 (pyNext (.ref I) >>= _) _ _ s
    refine wpAny_bind (W.item i s _ _ lt st fun v s' pv st' mv => ?_)
    obtain ⟨z, tk, hz, rfl⟩ := hv i v pv
    have R1 : TxtR w s'.heap a (fun j => decide (j ∈ zs.take i)) c := R0.at fun o e => mv.heap a o nw e
    show wpAny _ A.in1 (holding [Value.str z tk] (setAdd a (.str z tk)) >>= _) _ _ s'
    refine wpAny_bind (wpAny_holding ?_)
    unfold setAdd
    refine wpAny_holding ?_
    refine wpAny_bind ((PySem.strKind P w).pyHash (k := z) (show ((z == z) = true) from beq_self_eq_true z) ?_)
    refine add (s := { s' with toks := s'.toks + 1 }) R1 (by omega) fun b h' sb R2 => ?_
    have R3 : TxtR w h' a (fun j => decide (j ∈ zs.take (i + 1))) (if decide (z ∈ zs.take i) = true then c else c + 1) := R2.congr fun j => by
      rw [List.take_add_one, hz]
      simp [List.mem_append]
    have le : (if decide (z ∈ zs.take i) = true then c else c + 1) ≤ i + 1 := by
      split <;> omega
    refine wpAny_pure ⟨plainId_quiet F.plain_set_update_loop _, ih (i + 1) _ (by omega) lt (W.frame _ s' _ _ st' (Nat.le_succ _) fun b hb o e => ?_) ⟨_, le, R3⟩ fun s'' c2 mv2 c2m R4 => ?_⟩
    · exact (sb.2 b fun z : b = a => hf (by rw [← z]; exact hb)).trans e
    · refine hR s'' c2 (Moved.trans W.gtrans ((mv.mono more).then_heap (Nat.le_succ _) fun b o hb e => ?_) mv2) c2m R4
      exact (sb.2 b fun z : b = a => hb (by rw [z]; exact List.mem_cons_self)).trans e
/-- what set(x) leaves -/
def Made (w : World) (s : Shared) (zs : List Str) (r : Value) (s' : Shared) : Prop := ∃ h' tk c, r = .ref s.heap.objs.size ∧ s' = { s with heap := h', toks := tk } ∧ TxtR w h' s.heap.objs.size (fun j => decide (j ∈ zs)) c ∧ c ≤ zs.length ∧ ∀ b o, s.heap.get? b = some o → h'.get? b = some o
abbrev empty (w : World) : Obj := { cls := .type "set", dict := none, data := .set #[] 0 (.fresh 0 0 (!w.params.followText "set-order")) }
theorem strs_at : ∀ {vs : List Value} {zs : List Str} {i : Nat} {v : Value}, StrsAre vs zs → vs[i]? = some v → ∃ k tk, zs[i]? = some k ∧ v = .str k tk
  | _, _, i, _, .nil, e => by simp at e
  | _, _, 0, _, .cons k tk r, e => by
    simp at e
    exact ⟨k, tk, rfl, e.symm⟩
  | _, _, i + 1, _, .cons k tk r, e => by
    simp at e
    obtain ⟨k', tk', e1, e2⟩ := strs_at r e
    exact ⟨k', tk', by simpa using e1, e2⟩
set_option maxHeartbeats 3200000 in
/-- set(x), x a tuple of texts -/
theorem set_tuple {l : Addr} {items : Array Value} (zs : List Str) {Q : Value → Shared → Prop} (calm : A.handled = none) (hl : s.heap.IsTuple l items) (hit : StrsAre items.toList zs) (hb : zs.length + 1 < scanBound) (q : ∀ r s', Made w s zs r s' → Q r s') :
    wpAny (model P w) A (call (.type "set") [.ref l]) Q E s := by
  have size : items.size = zs.length := by
    have z := hit.length
    rwa [Array.length_toList] at z
  obtain ⟨c, tl, hmro⟩ := F.called_set.mro
  have hmade := F.called_set.made
  have hsub := F.called_set.sub
  refine wpAny_call (codeAny_of_tree ?_)
  show wpAny _ _ (callAny (.type "set") _) _ _ _
  refine wpAny_pure (And.intro (Code.quiet_builtin _ (by decide +kernel)) (codeAny_builtin F.entry_type_call ?_))
  rw [Around.under_plain (weight_type_call_type "set" [.ref l] []) rfl]
  have h1 := F.called_set.notType
  have h2 := F.called_set.canCreate
  have hct := F.typeCall_set_1 (.ref l)
  repeat (any_goals (first | assumption | wp_step))
  refine codeAny_mono (code_set_led1 (.ref l) (E := E) (Q₁ := fun ob s1 => ob = .ref s.heap.objs.size ∧ s1 = { s with heap := s.heap.push (empty w) }) ⟨rfl, rfl⟩) fun r s1 hr => ?_
  cases r with
  | error e => exact hr
  | ok fl =>
    cases fl with
    | ret ob =>
      obtain ⟨rfl, rfl⟩ := hr
      have new : (s.heap.push (empty w)).get? s.heap.objs.size = some (empty w) := Heap.get?_push_size _ rfl
      have hT : Shared.TypeIs { s with heap := s.heap.push (empty w) } (.ref s.heap.objs.size) "set" := ⟨_, new, rfl⟩
      have hli := F.called_set.init.lookup
      have hbi := F.called_set.init.bind (.ref s.heap.objs.size)
      repeat (any_goals (first | assumption | wp_step))
      refine codeAny_mono (codeAny_call_builtin (R := wants (fun r s2 => r = .none ∧ Made w s zs (.ref s.heap.objs.size) s2) E) F.called_set.init.plain F.entry_set_init (check_set_init_1 hT ?_)) fun r2 s2 hr2 => ?_
      · obtain ⟨ol, b1, b2, n, b3⟩ := hl
        have zl : l < s.heap.objs.size := Heap.lt_size b1
        obtain ⟨oc, odi, oda, osl⟩ := ol
        simp only at b2 b3
        subst b2; subst b3
        have old : (s.heap.push (empty w)).get? l = some { cls := .type "tuple", dict := odi, data := .seq items n, slots := osl } := Heap.get?_push_of_some _ b1
        have n1 := F.sub_tuple_set
        have n2 := F.sub_tuple_frozenset
        have n3 : (Value.type "tuple" == Value.type "dict") = false := by decide
        have hl1 : (s.heap.push (empty w)).IsTuple l items := ⟨_, old, rfl, n, rfl⟩
        unfold Builtin.«set.__init__» noKeywords Builtin.Frozenset.updateFrom
        generalize hPI : pyIter = PI
        wp_walk
        subst hPI
        refine wpAny_pyIter_tuple hl1 (wpAny_bind (wpAny_runValue ?_))
        have calm3 : A.in1.in1.in1.handled = none := by simp [calm]
        have sz1 : (s.heap.push (empty w)).objs.size = s.heap.objs.size + 1 := Heap.size_push ..
        have ne1 : l ≠ (s.heap.push (empty w)).objs.size := by
          rw [sz1]
          exact Nat.ne_of_lt (Nat.lt_succ_of_lt zl)
        have ne2 : s.heap.objs.size ∉ [(s.heap.push (empty w)).objs.size, l] := by
          rw [sz1]
          intro z
          simp only [List.mem_cons, List.not_mem_nil, or_false] at z
          rcases z with z | z
          · exact Nat.ne_of_lt (Nat.lt_succ_self _) z
          · exact Nat.ne_of_gt zl z
        have val : ∀ (i : Nat) (v : Value), items[i]? = some v → ∃ k tk, zs[i]? = some k ∧ v = .str k tk := fun i v hv => by
          rw [← Array.getElem?_toList] at hv
          exact strs_at hit hv
        refine takes_in ((Walks.tuple calm3 _ l ne1 items).toS) s.heap.objs.size ne2 zs size hb val (items.size - 0) 0 _ (by omega) (Nat.zero_le _)
          ⟨⟨_, Heap.get?_push_size _ rfl, rfl, rfl⟩, hl1.push _⟩ ⟨0, Nat.le_refl 0, fresh (Heap.get?_push_of_some _ new)⟩ fun s3 c mv le R => ?_
        obtain ⟨h3, g3, d3, tk3, os3⟩ := s3
        have eg : g3 = s.gens := mv.gens
        have ed : d3 = s.drawn := mv.drawn
        have eo : os3 = s.os := mv.os
        subst eg; subst ed; subst eo
        rw [size] at le
        refine wpAny_pure (wpAny_pure ⟨rfl, h3, tk3, c, rfl, rfl, R, le, fun b o e => ?_⟩)
        have z0 := Heap.lt_size e
        refine mv.heap b o (fun z => ?_) (Heap.get?_push_of_some _ (Heap.get?_push_of_some _ e))
        simp only [List.mem_cons, List.not_mem_nil, or_false] at z
        rcases z with z | z
        · exact absurd z (Nat.ne_of_lt z0)
        · rw [sz1] at z
          exact absurd z (Nat.ne_of_lt (Nat.lt_succ_of_lt z0))
      · cases r2 with
        | error e => exact hr2
        | ok fl2 =>
          cases fl2 with
          | ret r =>
            obtain ⟨rfl, hm⟩ := hr2
            repeat (any_goals (first | assumption | wp_step))
            exact q _ _ hm
          | _ => exact hr2.elim
    | _ => exact hr.elim
set_option maxHeartbeats 3200000 in
/-- set(x), x a list of texts -/
theorem set_list {l : Addr} {items : Array Value} (zs : List Str) {Q : Value → Shared → Prop} (calm : A.handled = none) (hl : s.heap.IsList l items) (hit : StrsAre items.toList zs) (hb : zs.length + 1 < scanBound) (q : ∀ r s', Made w s zs r s' → Q r s') :
    wpAny (model P w) A (call (.type "set") [.ref l]) Q E s := by
  have size : items.size = zs.length := by
    have z := hit.length
    rwa [Array.length_toList] at z
  obtain ⟨c, tl, hmro⟩ := F.called_set.mro
  have hmade := F.called_set.made
  have hsub := F.called_set.sub
  refine wpAny_call (codeAny_of_tree ?_)
  show wpAny _ _ (callAny (.type "set") _) _ _ _
  refine wpAny_pure (And.intro (Code.quiet_builtin _ (by decide +kernel)) (codeAny_builtin F.entry_type_call ?_))
  rw [Around.under_plain (weight_type_call_type "set" [.ref l] []) rfl]
  have h1 := F.called_set.notType
  have h2 := F.called_set.canCreate
  have hct := F.typeCall_set_1 (.ref l)
  repeat (any_goals (first | assumption | wp_step))
  refine codeAny_mono (code_set_led1 (.ref l) (E := E) (Q₁ := fun ob s1 => ob = .ref s.heap.objs.size ∧ s1 = { s with heap := s.heap.push (empty w) }) ⟨rfl, rfl⟩) fun r s1 hr => ?_
  cases r with
  | error e => exact hr
  | ok fl =>
    cases fl with
    | ret ob =>
      obtain ⟨rfl, rfl⟩ := hr
      have new : (s.heap.push (empty w)).get? s.heap.objs.size = some (empty w) := Heap.get?_push_size _ rfl
      have hT : Shared.TypeIs { s with heap := s.heap.push (empty w) } (.ref s.heap.objs.size) "set" := ⟨_, new, rfl⟩
      have hli := F.called_set.init.lookup
      have hbi := F.called_set.init.bind (.ref s.heap.objs.size)
      repeat (any_goals (first | assumption | wp_step))
      refine codeAny_mono (codeAny_call_builtin (R := wants (fun r s2 => r = .none ∧ Made w s zs (.ref s.heap.objs.size) s2) E) F.called_set.init.plain F.entry_set_init (check_set_init_1 hT ?_)) fun r2 s2 hr2 => ?_
      · obtain ⟨ol, b1, b2, n, b3⟩ := hl
        have zl : l < s.heap.objs.size := Heap.lt_size b1
        obtain ⟨oc, odi, oda, osl⟩ := ol
        simp only at b2 b3
        subst b2; subst b3
        have old : (s.heap.push (empty w)).get? l = some { cls := .type "list", dict := odi, data := .seq items n, slots := osl } := Heap.get?_push_of_some _ b1
        have n1 := F.sub_list_set
        have n2 := F.sub_list_frozenset
        have n3 : (Value.type "list" == Value.type "dict") = false := by decide
        have hl1 : (s.heap.push (empty w)).IsList l items := ⟨_, old, rfl, n, rfl⟩
        unfold Builtin.«set.__init__» noKeywords Builtin.Frozenset.updateFrom
        generalize hPI : pyIter = PI
        wp_walk
        subst hPI
        refine wpAny_pyIter_list hl1 (wpAny_bind (wpAny_runValue ?_))
        have calm3 : A.in1.in1.in1.handled = none := by simp [calm]
        have sz1 : (s.heap.push (empty w)).objs.size = s.heap.objs.size + 1 := Heap.size_push ..
        have ne1 : l ≠ (s.heap.push (empty w)).objs.size := by
          rw [sz1]
          exact Nat.ne_of_lt (Nat.lt_succ_of_lt zl)
        have ne2 : s.heap.objs.size ∉ [(s.heap.push (empty w)).objs.size, l] := by
          rw [sz1]
          intro z
          simp only [List.mem_cons, List.not_mem_nil, or_false] at z
          rcases z with z | z
          · exact Nat.ne_of_lt (Nat.lt_succ_self _) z
          · exact Nat.ne_of_gt zl z
        have val : ∀ (i : Nat) (v : Value), items[i]? = some v → ∃ k tk, zs[i]? = some k ∧ v = .str k tk := fun i v hv => by
          rw [← Array.getElem?_toList] at hv
          exact strs_at hit hv
        refine takes_in ((Walks.list calm3 _ l ne1 items).toS) s.heap.objs.size ne2 zs size hb val (items.size - 0) 0 _ (by omega) (Nat.zero_le _)
          ⟨⟨_, Heap.get?_push_size _ rfl, rfl, rfl⟩, hl1.push _⟩ ⟨0, Nat.le_refl 0, fresh (Heap.get?_push_of_some _ new)⟩ fun s3 c mv le R => ?_
        obtain ⟨h3, g3, d3, tk3, os3⟩ := s3
        have eg : g3 = s.gens := mv.gens
        have ed : d3 = s.drawn := mv.drawn
        have eo : os3 = s.os := mv.os
        subst eg; subst ed; subst eo
        rw [size] at le
        refine wpAny_pure (wpAny_pure ⟨rfl, h3, tk3, c, rfl, rfl, R, le, fun b o e => ?_⟩)
        have z0 := Heap.lt_size e
        refine mv.heap b o (fun z => ?_) (Heap.get?_push_of_some _ (Heap.get?_push_of_some _ e))
        simp only [List.mem_cons, List.not_mem_nil, or_false] at z
        rcases z with z | z
        · exact absurd z (Nat.ne_of_lt z0)
        · rw [sz1] at z
          exact absurd z (Nat.ne_of_lt (Nat.lt_succ_of_lt z0))
      · cases r2 with
        | error e => exact hr2
        | ok fl2 =>
          cases fl2 with
          | ret r =>
            obtain ⟨rfl, hm⟩ := hr2
            repeat (any_goals (first | assumption | wp_step))
            exact q _ _ hm
          | _ => exact hr2.elim
    | _ => exact hr.elim
end
end TXS
-- CUT
/-! ### of our own: the rules for sets of texts -/
namespace TXS
open PySem PySem.Spec PyProof.Rows L2
section
variable {P : Program} {w : World} {A : Around} {E : Value → Shared → Prop} {s : Shared} {a : Addr} {S : Str → Bool} {n : Nat}
theorem strs_of : ∀ {vs : List Value}, (∀ v ∈ vs, ∃ k tk, v = Value.str k tk) → StrsAre vs (vs.map strOf)
  | [], _ => .nil
  | v :: vs, h => by
    obtain ⟨k, tk, rfl⟩ := h v (List.mem_cons_self ..)
    exact .cons k tk (strs_of fun u hu => h u (List.mem_cons_of_mem _ hu))
/-- sorted(x), x such a set -/
theorem sorted_txt {Q : Value → Shared → Prop} (R : TxtR w s.heap a S n) (calm : A.handled = none) (h64 : n < 64)
    (hQ : ∀ s' p (out : Array Value) (c : Nat) (zs : List Str), (∀ b o, s.heap.get? b = some o → s'.heap.get? b = some o) → s'.gens = s.gens → s'.os = s.os → s.heap.objs.size ≤ p →
      s'.heap.get? p = some (seqObj "list" out c) → StrsAre out.toList zs → sortedS zs = true → zs.Nodup → (∀ k, k ∈ zs ↔ S k = true) → zs.length = n → Q (.ref p) s') : wpAny (model P w) A (call (.builtin "sorted") [.ref a]) Q E s := by
  obtain ⟨o, es, ep, t, L⟩ := R
  refine Calls.call_function_entry kind_sorted plain_sorted entry_sorted (args_sorted1 _) ?_
  unfold Builtin.«sorted»
  refine wpAny_bind (m := checkCount "sorted" 1 1 _) (wpAny_pure ?_)
  refine wpAny_bind (collect_set (A := A.in1) calm ⟨o, L.ob, L.ex.1, L.dt⟩ L.fit L.few L.ris L.led fun s1 vs k1 hz g1 o1 pm => ?_)
  have len : vs.length = n := by
    rw [pm.length_eq, List.length_map, Array.length_toList]
    exact L.num
  have all : StrsAre vs (vs.map strOf) := strs_of fun v hv => by
    obtain ⟨e, he, rfl⟩ := List.mem_map.mp (pm.mem_iff.mp hv)
    obtain ⟨k, tk, h1, _⟩ := L.mem e he
    exact ⟨k, tk, h1⟩
  have pk : (vs.map strOf).Perm (es.toList.map txt) := by
    have z := pm.map strOf
    rw [List.map_map] at z
    exact z
  refine wpAny_bind (wpAny_newList ?_ (by rw [len, sizeLine_eq]; omega))
  have new : (s1.heap.push (seqObj "list" vs.toArray 0)).get? s1.heap.objs.size = some (seqObj "list" vs.toArray 0) := Heap.get?_push_size _ rfl
  refine wpAny_bind (wpAny_holding (wpAny_call_entry slot_list_sort ⟨_, new, rfl⟩ entry_list_sort (list_sort_treeK strKind_oneLt new all.keysOf (fun v₁ v₂ rest e => keyKind_strs (by rw [← e]; exact all)) (by rw [len]; exact h64) fun st' a1 a2 => ⟨_, rfl, ?_⟩) (args_list_sort _)))
  obtain ⟨zs, b1, b2, b3⟩ := sorted_out_str all a1 a2
  generalize ((arrOf st').map (·.2)) = out at b1 ⊢
  obtain ⟨c, hc⟩ := sortedHeap_at (vs := vs) (out := out) new
  have pn : zs.Perm (es.toList.map txt) := b2.trans pk
  refine wpAny_pure ⟨_, rfl, hQ _ s1.heap.objs.size out c zs (fun b u e => ?_) g1 o1 hz hc b1 b3 (pn.nodup_iff.mpr L.one) (fun k => by rw [pn.mem_iff, ← L.is k]) ?_⟩
  · have z := k1 b u e
    have lt := Heap.lt_size z
    show (sortedHeap (s1.heap.push (seqObj "list" vs.toArray 0)) s1.heap.objs.size vs out).get? b = some u
    rw [sortedHeap_old (Nat.ne_of_lt lt) (by rw [size_push']; exact Nat.lt_succ_of_lt lt)]
    exact Heap.get?_push_of_some _ z
  · exact (pn.length_eq.trans (by rw [List.length_map, Array.length_toList])).trans L.num
end
/-- a set of texts in the model's heap -/
def TxtO (w : World) (a : Addr) (S : Str → Bool) (n : Nat) : HO := .ext fun h => TxtR w h a S n
section
variable {X : Cx}
theorem txtO_new {w : World} {P : Program} {H : Hp} {h : Heap} {a : Addr} {S : Str → Bool} {n : Nat} (R : TxtR w h a S n) : ObjOk P w H h a (TxtO w a S n) := by
  obtain ⟨o, es, ep, t, L⟩ := id R
  exact ⟨R, ⟨o, L.ob⟩, fun h1 h2 p k => TxtR.at p k⟩
theorem txtO_get {pins : List (Addr × Obj)} {σ : L2.St} {H : Hp} {s : Shared} {a : Addr} {S : Str → Bool} {n : Nat} (I : Inv X pins σ H s) (ha : H a = some (TxtO X.w a S n)) : TxtR X.w s.heap a S n := (I.hok a _ ha).1
/-- set(x), x a tuple or a list of texts -/
def rSetS (K : PySem.W.Frag) (w : World) : List V → Hp → VK → Prop := fun vs H Q => ∃ (p : Addr) (zs : List Str), vs = [V.ref p] ∧ (SqT K H p (zs.map V.str) ∨ SqL K H p (zs.map V.str)) ∧ zs.length ≤ 1000 ∧
  ∀ a c, H a = none → c ≤ zs.length → Q (.ref a) (upd H a (TxtO w a (fun j => decide (j ∈ zs)) c))
theorem cr_setS (hc : X.calm = true) : CallR X (.type "set") (rSetS X.K X.w) := by
  intro pins s σ H vs us Q I r h
  obtain ⟨p, zs, rfl, ht, hz, q⟩ := h
  rw [Vals.ref1 r]
  have room : zs.length + 1 < scanBound := by
    unfold scanBound
    omega
  have fin : ∀ (r : Value) (s' : Shared), Made X.w s zs r s' → EP X pins σ Q r s' := fun r s' m => by
    obtain ⟨h', tk, c, rfl, rfl, R, le, kp⟩ := m
    exact ⟨.ref s.heap.objs.size, upd H s.heap.objs.size (TxtO X.w s.heap.objs.size (fun j => decide (j ∈ zs)) c), I.laid (t' := tk) kp (Nat.le_refl _) (txtO_new R), rfl, q _ c (I.hok.fresh (Nat.le_refl _)) le⟩
  rcases ht with ht | ht
  · obtain ⟨its, rv, tp, _⟩ := I.tuple ht
    exact set_tuple (P := X.prog) (w := X.w) zs (I.ok.hd hc) tp (by simpa using rv.strs) room fin
  · obtain ⟨its, rv, tp, _⟩ := I.list ht
    exact set_list (P := X.prog) (w := X.w) zs (I.ok.hd hc) tp.isList (by simpa using rv.strs) room fin
/-- sorted(x), x a set of texts -/
def rSortedTx (w : World) : List V → Hp → VK → Prop := fun vs H Q => ∃ (a : Addr) (S : Str → Bool) (n : Nat), vs = [V.ref a] ∧ H a = some (TxtO w a S n) ∧ n < 64 ∧
  ∀ (zs : List Str) (p : Addr), sortedS zs = true → zs.Nodup → (∀ k, k ∈ zs ↔ S k = true) → zs.length = n → H p = none → Q (.ref p) (upd H p (.lst (zs.map V.str)))
theorem cr_sortedTx (hc : X.calm = true) : CallR X (.builtin "sorted") (rSortedTx X.w) := by
  intro pins s σ H vs us Q I r h
  obtain ⟨a, S, n, rfl, ha, h64, q⟩ := h
  have R := txtO_get I ha
  rw [Vals.ref1 r]
  refine sorted_txt R (I.ok.hd hc) h64 fun s' p out c zs k g o hp hg hi hs hd hm hl => ?_
  have len : (zs.map V.str).length ≤ sizeLine := by
    rw [List.length_map, hl, sizeLine_eq]
    omega
  have hn : H p = none := I.hok.fresh hp
  have J : Inv X pins σ (upd H p (.lst (zs.map V.str))) { s with heap := s'.heap, gens := s'.gens, drawn := s'.drawn, toks := s'.toks } :=
    I.call (ch := []) (Un.laid k hp hn) (I.hok.laid k hp ⟨len, out.toList, c, vals_of_strs hi, hg⟩) (by rw [g]; exact I.bare) (fun _ z => nomatch z)
  have e : s' = { s with heap := s'.heap, gens := s'.gens, drawn := s'.drawn, toks := s'.toks } := by
    obtain ⟨_, _, _, _, _⟩ := s'
    cases o
    rfl
  rw [e]
  exact ⟨.ref p, _, J, rfl, q zs p hs hd hm hl hn⟩
end
end TXS
/-! the sorted texts of a set are one list -/
namespace TXS
open PySem PySem.Spec PyProof.Rows L2
theorem le_of_no {a b : Str} (h : ltCps b.cps.toList a.cps.toList = false) : a.cps.toList ≤ b.cps.toList := by
  rw [ltCps_eq, decide_eq_false_iff_not] at h
  exact List.not_lt.mp h
theorem rising_all : ∀ (p : Str) (l : List Str), risingS p l = true → (p :: l).Pairwise fun a b => a.cps.toList ≤ b.cps.toList
  | p, [], _ => by simp
  | p, x :: r, h => by
    have h' : (!ltCps x.cps.toList p.cps.toList && risingS x r) = true := h
    rw [Bool.and_eq_true, Bool.not_eq_true'] at h'
    have z := rising_all x r h'.2
    have le := le_of_no h'.1
    refine List.pairwise_cons.mpr ⟨fun y hy => ?_, z⟩
    rcases List.mem_cons.mp hy with rfl | m
    · exact le
    · exact List.le_trans le ((List.pairwise_cons.mp z).1 y m)
theorem sorted_all : ∀ {l : List Str}, sortedS l = true → l.Pairwise fun a b => a.cps.toList ≤ b.cps.toList
  | [], _ => List.Pairwise.nil
  | x :: r, h => rising_all x r h
theorem uniq {xs ys : List Str} (h1 : sortedS xs = true) (h2 : sortedS ys = true) (n1 : xs.Nodup) (n2 : ys.Nodup) (h : ∀ k, k ∈ xs ↔ k ∈ ys) : xs = ys := by
  have pm : xs.Perm ys := (List.perm_ext_iff_of_nodup n1 n2).mpr h
  refine pm.eq_of_pairwise (fun a b _ _ x y => ?_) (sorted_all h1) (sorted_all h2)
  have z := List.le_antisymm x y
  exact Str.ext' (Array.toList_inj.mp z)
end TXS
-- CUT
/-! ### of our own: what an own class's methods answer for len, bool, in, [ ], str and the signs -/
namespace Kit
open PySem PySem.Spec PyProof.Rows L2
/-- the class at C has the def at f under the special name m -/
structure OwnM (K : PySem.W.Frag) (C : Addr) (m : Str) (f : Addr) : Prop where
  at_ : PySem.W.findIn K (.ref C) m = some (some (.ref f))
  fn : PySem.W.isFn K (.ref f) = true
/-- an instance of the class at C -/
def InsAt (H : Hp) (C a : Addr) : Prop := ∃ dx fs, H a = some (.ins C dx fs)
section
variable {X : Cx} {CX : CXT} {n : Nat} {C f : Addr} {fd : FuncData} {ps : List Str} {sp : Sp} {E : XK}
/-- what stands around an instance at a call of its method -/
theorem ins_here {pins : List (Addr × Obj)} {σ : L2.St} {H : Hp} {s : Shared} {a : Addr} (I : Inv X pins σ H s) (h : InsAt H C a) : ∃ (L : Addr) (m : Str → Option Value) (ox : Obj) (od : Option Obj), Fr X.base L s.heap m ∧ PySem.W.InstAt s.heap a ox C od := by
  obtain ⟨dx, fs, e⟩ := h
  obtain ⟨mA, J, _⟩ := ins_get I.hok e
  obtain ⟨od, J, _⟩ := J.look
  obtain ⟨m, hF⟩ := I.fr
  exact ⟨_, m, _, _, hF, J⟩
variable (F : FnOk X.prog X.w X.K X.mg X.base CX n f fd ps sp) (hb : Binds X.K fd ps []) (hx : Passes CX X E)
include F hb hx
/-- len(a) -/
def rLenO (C : Addr) (sp : Sp) (E : XK) : List V → Hp → VK → Prop := fun xs H Q => ∃ a, xs = [.ref a] ∧ InsAt H C a ∧ sp [.ref a] H (fun v H' => ∃ i : Int, v = .int i ∧ 0 ≤ i ∧ i < 2 ^ 63 ∧ Q (.int i) H') E
theorem call_lenO (hr : Room (n + 1) X.A) (o : OwnM X.K C "__len__" f) : CallR X (.builtin "len") (rLenO C sp E) := by
  intro pins s σ H xs us Q I r h
  obtain ⟨a, rfl, ha, q⟩ := h
  obtain ⟨u, rfl, ru⟩ := vals1 r
  cases ru
  obtain ⟨L, m, ox, od, hF, J⟩ := ins_here I ha
  refine PySem.W.len_K hF I.ok.mod.kin J o.at_ o.fn (wpAny_mono (run_in F hr.in1 I.ok.frames hb hx I (vs := [.ref a]) (.cons rfl .nil) q) (fun z s' y => ?_) fun _ _ y => y)
  obtain ⟨v, H', I', rv, i, rfl, i0, i1, q1⟩ := y
  obtain ⟨t, rfl⟩ := rv
  exact ⟨⟨i0, i1⟩, .int i, H', I'.tok _, ⟨_, rfl⟩, q1⟩
/-- x in a, x not in a -/
def rInO (C : Addr) (sp : Sp) (E : XK) : R2 := fun x y H Q => ∃ a, y = .ref a ∧ InsAt H C a ∧ sp [.ref a, x] H (fun v H' => ∃ b, v = .bl b ∧ Q (.bl b) H') E
def rNotInO (C : Addr) (sp : Sp) (E : XK) : R2 := fun x y H Q => ∃ a, y = .ref a ∧ InsAt H C a ∧ sp [.ref a, x] H (fun v H' => ∃ b, v = .bl b ∧ Q (.bl (!b)) H') E
theorem op_inO (hr : Room n X.A) (o : OwnM X.K C "__contains__" f) : OpR X (compareOp .In) (rInO C sp E) := by
  intro pins s σ H x y v u Q I rx ry h
  obtain ⟨a, rfl, ha, q⟩ := h
  cases ry
  obtain ⟨L, m, ox, od, hF, J⟩ := ins_here I ha
  refine PySem.W.in_K hF I.ok.mod.kin J o.at_ o.fn (wpAny_mono (run_in F hr I.ok.frames hb hx I (vs := [.ref a, x]) (.cons rfl (.cons rx .nil)) q) (fun z s' y => ?_) fun _ _ y => y)
  obtain ⟨v, H', I', rv, b, rfl, q1⟩ := y
  cases rv
  exact wpAny_truthy_bool ⟨.bl b, H', I', rfl, q1⟩
theorem op_notInO (hr : Room n X.A) (o : OwnM X.K C "__contains__" f) : OpR X (compareOp .NotIn) (rNotInO C sp E) := by
  intro pins s σ H x y v u Q I rx ry h
  obtain ⟨a, rfl, ha, q⟩ := h
  cases ry
  obtain ⟨L, m, ox, od, hF, J⟩ := ins_here I ha
  refine PySem.W.notIn_K hF I.ok.mod.kin J o.at_ o.fn (wpAny_mono (run_in F hr I.ok.frames hb hx I (vs := [.ref a, x]) (.cons rfl (.cons rx .nil)) q) (fun z s' y => ?_) fun _ _ y => y)
  obtain ⟨v, H', I', rv, b, rfl, q1⟩ := y
  cases rv
  exact wpAny_truthy_bool ⟨.bl (!b), H', I', rfl, q1⟩
/-- a[x] -/
def rIxO (C : Addr) (sp : Sp) (E : XK) : R2 := fun x y H Q => ∃ a, x = .ref a ∧ InsAt H C a ∧ sp [.ref a, y] H Q E
/-- a's own truth, told as a value -/
def rTruO (C : Addr) (sp : Sp) (E : XK) : V → Hp → (Bool → Hp → Prop) → Prop := fun x H Q => ∃ a, x = .ref a ∧ InsAt H C a ∧ sp [.ref a] H (fun v H' => ∃ b, v = .bl b ∧ Q b H') E
theorem truO (hr : Room n X.A) (o : OwnM X.K C "__bool__" f) : TruR X (rTruO C sp E) := by
  intro pins s σ H x v Q I rx h
  obtain ⟨a, rfl, ha, q⟩ := h
  cases rx
  obtain ⟨L, m, ox, od, hF, J⟩ := ins_here I ha
  refine PySem.W.truthy_K hF I.ok.mod.kin J o.at_ o.fn (wpAny_mono (run_in F hr I.ok.frames hb hx I (vs := [.ref a]) (.cons rfl .nil) q) (fun z s' y => ?_) fun _ _ y => y)
  obtain ⟨v, H', I', rv, b, rfl, q1⟩ := y
  cases rv
  exact ⟨H', I', q1⟩
/-- if a -/
theorem pt_truO {e : Expr} {te : TE} (hr : Room n X.A) (o : OwnM X.K C "__bool__" f) (he : PE X e te) (ht : ∀ whole, isTrue e X.env whole = (do let v ← whole; standAt e.pos; holding [v] (truthy v))) : PT X e (fun σ H Q => te σ H fun x H' => rTruO C sp E x H' Q) :=
  ⟨fun pins s σ H Q I h => isTrue_plain (thn (he.run pins s σ H _ I h) fun v s1 ⟨x, H1, I1, r1, q1⟩ => truO F hb hx hr o pins s1 σ H1 x v Q I1 r1 q1) (ht _)⟩
/-- e[k], e an instance -/
theorem pe_ixO {a b : Expr} {pos : Pos} {ta tb : TE} (hr : Room (n + 1) X.A) (o : OwnM X.K C "__getitem__" f) (fn : PySem.W.fnIn X.K f = true) (ha : PE X a ta) (hbb : PE X b tb)
    (hs : ∀ v u, subscripted b true v u = runValue (.builtin "lifetime.subscript" ⟨[v, u], []⟩) := by intro _ _; rfl) : PE X (.Subscript a b pos) (tOp (rIxO C sp E) ta tb) := by
  refine ⟨fun pins s σ H Q I h => Subscript_ (binT ha hbb I h fun v u s2 x y H2 I2 rx ry q => ?_)⟩
  obtain ⟨c, rfl, hc, q⟩ := q
  cases rx
  obtain ⟨L, m, ox, od, hF, J⟩ := ins_here I2 hc
  exact PySem.W.sub_K hF I2.ok.mod.kin J o.at_ fn o.fn (run_in F hr.in1 I2.ok.frames hb hx I2 (vs := [.ref c, y]) (.cons rfl (.cons ry .nil)) q) (hs _ _)
/-- str(a) -/
def rStrO (C : Addr) (sp : Sp) (E : XK) : List V → Hp → VK → Prop := fun xs H Q => ∃ a, xs = [.ref a] ∧ InsAt H C a ∧ sp [.ref a] H (fun v H' => ∃ z, v = .str z ∧ Q (.str z) H') E
theorem call_strO (hr : Room (n + 2) X.A) (o : OwnM X.K C "__str__" f) : CallR X (.type "str") (rStrO C sp E) := by
  intro pins s σ H xs us Q I r h
  obtain ⟨a, rfl, ha, q⟩ := h
  obtain ⟨u, rfl, ru⟩ := vals1 r
  cases ru
  obtain ⟨L, m, ox, od, hF, J⟩ := ins_here I ha
  refine PySem.W.kso_call (by have := hr.un; show X.A.units + 1 + 1 < cLine; omega) I.kIn J o.at_ o.fn (wpAny_mono (run_in F hr.in1.in1 I.ok.frames hb hx I (vs := [.ref a]) (.cons rfl .nil) q) (fun z s' y => ?_) fun _ _ y => y)
  obtain ⟨v, H', I', rv, z, rfl, q1⟩ := y
  obtain ⟨t, rfl⟩ := rv
  exact ⟨.str z, H', I', ⟨_, rfl⟩, q1⟩
/-- -a, +a, ~a -/
def rUnO (C : Addr) (sp : Sp) (E : XK) : V → Hp → VK → Prop := fun x H Q => ∃ a, x = .ref a ∧ InsAt H C a ∧ sp [.ref a] H Q E
theorem un_negO (hr : Room n X.A) (o : OwnM X.K C "__neg__" f) : UnR X (unaryOp .USub) (rUnO C sp E) := by
  intro pins s σ H x v Q I rx h
  obtain ⟨a, rfl, ha, q⟩ := h
  cases rx
  obtain ⟨L, m, ox, od, hF, J⟩ := ins_here I ha
  exact PySem.W.ksp_neg hF I.ok.mod.kin J o.at_ o.fn (run_in F hr I.ok.frames hb hx I (vs := [.ref a]) (.cons rfl .nil) q)
theorem un_posO (hr : Room n X.A) (o : OwnM X.K C "__pos__" f) : UnR X (unaryOp .UAdd) (rUnO C sp E) := by
  intro pins s σ H x v Q I rx h
  obtain ⟨a, rfl, ha, q⟩ := h
  cases rx
  obtain ⟨L, m, ox, od, hF, J⟩ := ins_here I ha
  exact PySem.W.ksp_pos hF I.ok.mod.kin J o.at_ o.fn (run_in F hr I.ok.frames hb hx I (vs := [.ref a]) (.cons rfl .nil) q)
theorem un_invO (hr : Room n X.A) (o : OwnM X.K C "__invert__" f) : UnR X (unaryOp .Invert) (rUnO C sp E) := by
  intro pins s σ H x v Q I rx h
  obtain ⟨a, rfl, ha, q⟩ := h
  cases rx
  obtain ⟨L, m, ox, od, hF, J⟩ := ins_here I ha
  exact PySem.W.ksp_inv hF I.ok.mod.kin J o.at_ o.fn (run_in F hr I.ok.frames hb hx I (vs := [.ref a]) (.cons rfl .nil) q)
/-- a op b, both of the class -/
def rBinO (K : PySem.W.Frag) (C : Addr) (sp : Sp) (E : XK) : R2 := fun x y H Q => ∃ a b, x = .ref a ∧ y = .ref b ∧ InsAt H C a ∧ TyX K H (.ref b) (.ref C) ∧ sp [x, y] H (fun v H' => ∃ z, v = .ref z ∧ Q v H') E
theorem op_binO {op : Operator} (hr : Room n X.A) (first : PySem.W.selfFirst X.K C = true) (o : OwnM X.K C (PySem.dunder op.info.2) f) : OpR X (binaryOp op) (rBinO X.K C sp E) := by
  intro pins s σ H x y v u Q I rx ry h
  obtain ⟨a, b, rfl, rfl, ha, ty, q⟩ := h
  obtain ⟨P, Z, hP, _⟩ := kit_of I ry ty
  cases rx
  obtain ⟨L, m, ox, od, hF, J⟩ := ins_here I ha
  refine PySem.W.binop_K hF I.ok.mod.kin J (Z.ty _ _ I.kIn hP) first o.at_ o.fn (wpAny_mono (run_in F hr I.ok.frames hb hx I (vs := [.ref a, .ref b]) (.cons rfl (.cons ry .nil)) q) (fun z s' y => ?_) fun _ _ y => y)
  obtain ⟨v, H', I', rv, z, rfl, q1⟩ := y
  cases rv
  exact ⟨.ref z, H', I', rfl, q1⟩
end
/-- x op= y, x of a class with the sign and without its own in-place form: as x op y -/
def noIp (K : PySem.W.Frag) (C : Addr) (i : Str) : Bool := match PySem.W.clsIn K C with
  | some cd => cd.mro.all fun c => match PySem.W.findIn K c i with
    | some none => true
    | _ => false
  | none => false
theorem any_no {M : Model} {h : Heap} {f : Value → Sem Bool} : ∀ l : List Value, (∀ c ∈ l, PySem.W.Looks M h (f c) false) → PySem.W.Looks M h (l.anyM f) false
  | [], _ => PySem.W.Looks.of_pure rfl
  | c :: l, g => by
    intro A Q E s k q
    rw [List.anyM_cons]
    refine wpAny_bind (g c (List.mem_cons_self ..) A _ E s k ?_)
    simp only [Bool.false_eq_true, if_false]
    exact any_no l (fun d hd => g d (List.mem_cons_of_mem _ hd)) A Q E s k q
theorem noIp_look {M : Model} {K : PySem.W.Frag} {h : Heap} {C : Addr} {nm : String} {add : Bool} (X : K.In h) (n : noIp K C (dunderI nm) = true) : PySem.W.Looks M h (fillsInplaceSlot (.ref C) nm add) false := by
  unfold noIp at n
  cases hc : PySem.W.clsIn K C with
  | none => rw [hc] at n; cases n
  | some cd =>
    rw [hc] at n
    have all := List.all_eq_true.mp n
    intro A Q E s k q
    unfold fillsInplaceSlot
    refine wpAny_bind ((PySem.W.looks_clsIn X hc).andThen (f := fun cd => pure cd.mro) .now A _ E s k ?_)
    refine any_no (h := h) cd.mro (fun c hcm => ?_) A Q E s k q
    have z := all c hcm
    cases hf : PySem.W.findIn K c (dunderI nm) with
    | none => rw [hf] at z; cases z
    | some o =>
      cases o with
      | some _ => rw [hf] at z; cases z
      | none =>
        intro A Q E s k q
        refine wpAny_bind (PySem.W.looks_findIn X hf A _ E s k ?_)
        exact wpAny_pure q
theorem inplace_K {prog : Program} {w : World} {A : Around} {E : Value → Shared → Prop} {s : Shared} {K : PySem.W.Frag} {x C L f : Addr} {h₀ : Heap} {m : Str → Option Value} {ox : Obj} {od : Option Obj} {op : Operator} {b : Value} {Q : Value → Shared → Prop} (F : Fr h₀ L s.heap m) (X₀ : K.In h₀) (I : PySem.W.InstAt s.heap x ox C od)
    (hb : PySem.W.Looks (model prog w) s.heap (typeOf b) (.ref C)) (hc : PySem.W.selfFirst K C = true) (hn : noIp K C (dunderI op.info.2) = true) (hs : PySem.W.findIn K (.ref C) (PySem.dunder op.info.2) = some (some (.ref f))) (hf : PySem.W.isFn K (.ref f) = true)
    (h : wpAny (model prog w) A (call (.ref f) [.ref x, b]) (PySem.W.CmpBack Q) E s) : wpAny (model prog w) A (inplaceOp op (.ref x) b) Q E s := by
  have X := X₀.keeps F.keep
  obtain ⟨cd, rest, hcd, hm⟩ := PySem.W.ksp_first hc
  unfold inplaceOp
  refine wpAny_holding ?_
  refine wpAny_bind (I.type.here ?_)
  refine wpAny_bind ((noIp_look X hn).here ?_)
  simp only [Bool.false_eq_true, if_false]
  refine wpAny_bind ?_
  unfold binaryOp1
  refine wpAny_bind (I.type.here (wpAny_bind (hb.here (wpAny_bind ((PySem.W.fills_K X hcd hm hs).here ?_)))))
  simp only [beq_self_eq_true, if_true]
  refine wpAny_bind (wpAny_pure ?_)
  simp only [Bool.and_false, Bool.false_eq_true, if_false, Bool.false_and]
  refine wpAny_bind (wpAny_pure ?_)
  simp only [Bool.false_eq_true, if_false]
  refine wpAny_bind (m := tryMethod (.ref x) _ b) ?_
  unfold tryMethod
  refine wpAny_bind (PySem.W.special_fn X I hs (beq_iff_eq.mp hf) (wpAny_mono h (fun v s' hv => ?_) fun _ _ e => e))
  cases v <;> first | exact hv.elim | exact wpAny_pure (wpAny_pure (wpAny_pure hv))
theorem ip_binO {X : Cx} {CX : CXT} {n : Nat} {C f : Addr} {fd : FuncData} {ps : List Str} {sp : Sp} {E : XK} {op : Operator} (G : FnOk X.prog X.w X.K X.mg X.base CX n f fd ps sp) (hb : Binds X.K fd ps []) (hx : Passes CX X E) (hr : Room n X.A) (first : PySem.W.selfFirst X.K C = true) (hn : noIp X.K C (dunderI op.info.2) = true)
    (o : OwnM X.K C (PySem.dunder op.info.2) f) : PIp X op (rBinO X.K C sp E) := by
  intro pins s σ H x y v u Q I rx ry h
  obtain ⟨a, b, rfl, rfl, ha, ty, q⟩ := h
  obtain ⟨P, Z, hP, _⟩ := kit_of I ry ty
  cases rx
  obtain ⟨L, m, ox, od, hF, J⟩ := ins_here I ha
  refine inplace_K hF I.ok.mod.kin J (Z.ty _ _ I.kIn hP) first hn o.at_ o.fn (wpAny_mono (run_in G hr I.ok.frames hb hx I (vs := [.ref a, .ref b]) (.cons rfl (.cons ry .nil)) q) (fun z s' y => ?_) fun _ _ y => y)
  obtain ⟨v, H', I', rv, z, rfl, q1⟩ := y
  cases rv
  exact ⟨.ref z, H', I', rfl, q1⟩
end Kit
-- CUT
-- CUT
/-! ### of our own: repr of data; defs that know that nothing else is being shown -/
namespace Kit
open PySem PySem.Spec PyProof.Rows L2
/-- what a def promises where no text of a thing is on its way -/
structure FnG (P : Program) (w : World) (K : PySem.W.Frag) (mg : Str → Option Value) (base : Heap) (CX : CXT) (k : Nat) (g : Addr) (gd : FuncData) (ps : List Str) (sp : Sp) : Prop where
  many : ∀ vs H Q E, sp vs H Q E → vs.length = ps.length
  goes : ∀ (A : Around) (out : List Env) (s : Shared) (H : Hp) (args : Args) (us : List Value) (vs : List V) (Q : VK) (E : XK), A.guards = some [] → Room k A → Env0 P w K mg base A out s H → BindsTo s gd args (ps.zip us) → Vals vs us → sp vs H Q E → codeAny (model P w) A (.call (.ref g) args) (CR CX out P w H s Q E) s
section
variable {P : Program} {w : World} {K : PySem.W.Frag} {mg : Str → Option Value} {base : Heap} {CX : CXT} {k j : Nat} {g : Addr} {gd : FuncData} {ps : List Str} {sp : Sp}
theorem FnG.of (F : FnOk P w K mg base CX k g gd ps sp) : FnG P w K mg base CX k g gd ps sp := ⟨F.len, fun A out s H args us vs Q E _ r e b v h => F.run A out s H args us vs Q E r e b v h⟩
/-- a def's body, told by its rules -/
theorem okG {x qual : Str} {st : Stmt} {N : List Str} (F : Fun K x qual st g gd) (S : FnScope N ps (defScope st)) (many : ∀ vs H Q E, sp vs H Q E → vs.length = ps.length)
    (body : ∀ (cdv : Value) (A : Around) (out : List Env) (s : Shared) (H : Hp) (vs : List V) (Q : VK) (E : XK), A.guards = some [] → Room k (A.deeper (envOfC qual (defScope st) s.heap.objs.size g cdv)) → sp vs H Q E →
      ∃ t, PSs (cxOf CX0 P w K mg base N qual (defScope st) g cdv A out s H E).nox (defBody st) t ∧ t { nx := fun _ H' => Q .non H', rt := Q } (start N vs) H) : FnG P w K mg base CX0 (k + 1) g gd ps sp := by
  obtain ⟨oc, od, kV, doc, pm, an, cdv, ct, sl, rfl, lk, hc⟩ := F.ex
  refine ⟨many, fun A out s H args us vs Q E gu r e b v h => ?_⟩
  refine LamX.run_ofS lk hc S r e b v (many _ _ _ _ h) fun r2 => ?_
  obtain ⟨t, h1, h2⟩ := body cdv A out s H vs Q E gu r2 h
  exact ⟨t, h1.nox, h2⟩
end
section
variable {X : Cx} {CX : CXT} {k : Nat} {g : Addr} {gd : FuncData} {ps : List Str} {sp : Sp} {E : XK} {x : Str} {p pos : Pos} {e : Expr} {es : List Expr} {t : TA}
theorem runG {pins : List (Addr × Obj)} {σ : L2.St} {H : Hp} {s : Shared} {Q : VK} {us : List Value} {vs : List V} (F : FnG X.prog X.w X.K X.mg X.base CX k g gd ps sp) (gu : X.A.guards = some []) (hr : Room k X.A) (hb : Binds X.K gd ps []) (hx : Passes CX X E)
    (I : Inv X pins σ H s) (r : Vals vs us) (h : sp vs H Q E) : wpAny (model X.prog X.w) X.A (call (.ref g) us) (EP X pins σ Q) X.xe s := by
  have many : us.length = ps.length := by
    rw [← r.length]
    exact F.many _ _ _ _ h
  have b := hb s us I.kIn (by rw [List.append_nil]; exact many)
  rw [List.append_nil] at b
  refine wpAny_call (codeAny_mono (F.goes X.A X.stack s H ⟨us, []⟩ us vs Q E gu hr I.env0 b r h) fun z s' q => ?_)
  cases z with
  | error u => exact hx pins σ H s u s' I q
  | ok fl =>
    cases fl with
    | ret u => exact I.after q
    | _ => exact False.elim q
/-- g(e, ..) -/
theorem pe_callG (F : FnG X.prog X.w X.K X.mg X.base CX k g gd ps sp) (gu : X.A.guards = some []) (hr : Room k X.A) (hg : Gl X x) (hm : X.mg x = some (.ref g)) (hk : PySem.W.keepIn X.K (.ref g) = true) (hb : Binds X.K gd ps []) (hx : Passes CX X E) (ha : PA X (e :: es) t)
    (nd : (x == ("__debug__" : Str)) = false := by decide) (hs : starEach (e :: es) X.env = (false, eval e X.env) :: starEach es X.env := by rfl) (np : (backTo pos (starEach es X.env)).any (·.1) = false := by rfl) : PE X (.Call (.Name x p) (e :: es) [] pos) (tCall sp [] E t) := by
  refine ⟨fun pins s σ H Q I h => wpAny_Call_Name_kw (ld_glob I hg hm ?_ nd)⟩
  refine PySem.W.callWith_K (h₀ := X.base) I.ok.mod.kin hk (thn (ha.run pos pins s σ H _ I h) fun us s1 ⟨vs, H1, I1, r, q⟩ => ⟨I1.kIn, ?_⟩) hs np
  have q1 : sp (vs ++ []) H1 Q E := q
  rw [List.append_nil] at q1
  exact runG F gu hr hb hx I1 r q1
/-- repr(e) of data -/
def rRepr (K : PySem.W.Frag) : List V → Hp → VK → Prop := fun xs H Q => ∃ v d, xs = [v] ∧ Dp K H v d ∧ d.showable = true ∧ d.hasDict = false ∧ d.depth ≤ 30 ∧ d.shown.length ≤ sizeLine ∧ Q (.str d.shown) H
theorem call_reprD (gu : X.A.guards = some []) (hu : X.A.units + 64 < cLine) : CallR X (.builtin "repr") (rRepr X.K) := by
  intro pins s σ H xs us Q I r h
  obtain ⟨v, d, rfl, hd, sh, nd, dp, sz, q⟩ := h
  cases r with
  | cons rv rn =>
    cases rn
    obtain ⟨as, rd⟩ := Dp.reads I d v _ hd rv
    have fin : ∀ (h' : Heap) (u tk : Tok), (∀ b o, s.heap.get? b = some o → h'.get? b = some o) → EP X pins σ Q (.str d.shown u) { s with heap := h', toks := tk } := fun h' u tk hk => ⟨.str d.shown, H, I.kept hk, ⟨u, rfl⟩, q⟩
    cases hD : isDisplay d with
    | true =>
      obtain ⟨a, rfl⟩ := isRef_of_reads rd hD
      exact repr_of_reads' rd sh (PyData.noDict_hsm nd) gu (by omega) (fun _ _ e => e) fin sz
    | false =>
      cases rd with
      | none => exact PySem.P.repr_of_none (fin _ _ _ fun _ _ e => e)
      | bool b => exact PySem.P.repr_of_bool (fin _ _ _ fun _ _ e => e)
      | int i t =>
        rw [PyData.showable] at sh
        exact PySem.P.repr_of_int (of_decide_eq_true sh) (fin _ _ _ fun _ _ e => e)
      | str x t => exact PySem.P.repr_of_str (fin _ _ _ fun _ _ e => e) (by rw [PyData.shown] at sz; exact sz)
      | list => cases hD
      | tuple => cases hD
      | dict => rw [PyData.hasDict] at nd; cases nd
end
/-- the law's def is called, the tables of code objects being empty: its promise, where no text of a thing is on its way -/
theorem script_of_law {K : PySem.W.Frag} {a : Addr} {us : List Value} {ns : List Int} (n : ns.length ≤ sizeLine) (e : Vals (ns.map V.int) us) {hp : Heap} (ea : hp.get? a = some { cls := .type "list", data := .seq us.toArray }) (KX : K.In hp) (T : List Addr) (eT : ∀ b ∈ T, hp.get? b = some { cls := .none, data := .fields #[] })
    (P : Program) (w : World) : ∃ H : Hp, (∀ b ∈ T, H b = some (.tbl #[])) ∧ (∀ b o, H b = some o → b ∈ T ∨ (b = a ∧ K.lookup a = none ∧ ∃ ob, o = .frz ob (.lst (ns.map V.int)))) ∧ SqL K H a (ns.map V.int) ∧ HOk P w H hp := by
  have ne : a ∉ T := fun m => by
    have z := eT a m
    rw [ea] at z
    have z2 := congrArg Obj.data (Option.some.inj z)
    cases z2
  have sz : us.toArray.size ≤ sizeLine := by
    rw [List.size_toArray, ← e.length, List.length_map]
    exact n
  cases kl : K.lookup a with
  | some o =>
    have z := KX a o kl
    rw [ea] at z
    cases z
    refine ⟨fun b => if b ∈ T then some (.tbl #[]) else none, fun b m => if_pos m, fun b o z => ?_, .inr ⟨_, us.toArray, _, kl, rfl, rfl, rfl, sz, by simpa using e⟩, fun b o z => ?_⟩
    · by_cases m : b ∈ T
      · exact .inl m
      · have z2 := (if_neg m).symm.trans z
        cases z2
    · by_cases m : b ∈ T
      · have z2 := (if_pos m).symm.trans z
        cases z2
        exact eT b m
      · have z2 := (if_neg m).symm.trans z
        cases z2
  | none =>
    have off : ∀ {b : Addr}, b = a → ¬ b ∈ T := fun z m => ne (z ▸ m)
    refine ⟨fun b => if b ∈ T then some (.tbl #[]) else if b = a then some (.frz { cls := .type "list", data := .seq us.toArray } (.lst (ns.map V.int))) else none, fun b m => if_pos m, fun b o z => ?_, .inl (.inr ⟨_, (if_neg ne).trans (if_pos rfl)⟩), fun b o z => ?_⟩
    · by_cases m : b ∈ T
      · exact .inl m
      · have z2 := (if_neg m).symm.trans z
        by_cases q : b = a
        · have z3 := (if_pos q).symm.trans z2
          cases z3
          exact .inr ⟨q, rfl, _, rfl⟩
        · have z3 := (if_neg q).symm.trans z2
          cases z3
    · by_cases m : b ∈ T
      · have z2 := (if_pos m).symm.trans z
        cases z2
        exact eT b m
      · have z2 := (if_neg m).symm.trans z
        by_cases q : b = a
        · have z3 := (if_pos q).symm.trans z2
          cases z3
          rw [q]
          exact ⟨ea, by rw [List.length_map]; exact n, us, _, e, ea⟩
        · have z3 := (if_neg q).symm.trans z2
          cases z3
/-- the state at the law's call -/
theorem env_of_law {P : Program} {w : World} {K : PySem.W.Frag} {mg mb : Str → Option Value} {a : Addr} {us : List Value} {ns : List Int} {s : Shared} {H : Hp} {cs : List (Addr × Addr)} (KX : K.In s.heap) (gl : s.heap.Ns mainGlobals mg) (bl : s.heap.Ns builtinsNs mb) (bb : ∀ y : Str, y ≠ "__name__" → mb y = bootBuiltins y)
    (lim : s.heap.NoLimit) (ge : s.gens = #[]) (ea : s.heap.get? a = some { cls := .type "list", data := .seq us.toArray }) (eT : ∀ q ∈ cs, s.heap.get? q.2 = some { cls := .none, data := .fields #[] }) (kT : ∀ q ∈ cs, K.lookup q.2 = none) (ch : ∀ q ∈ cs, PySem.W.CodeHd s.heap q.1 q.2)
    (bm : ∃ (z : Addr) (ob : Obj), mg "__builtins__" = some (.ref z) ∧ z ≠ builtinsNs ∧ s.heap.get? z = some ob ∧ ob.cls = .type "module" ∧ ob.dict = some builtinsNs ∧ ob.data = .plain)
    (hO : ∀ b o, H b = some o → b ∈ cs.map (·.2) ∨ (b = a ∧ K.lookup a = none ∧ ∃ ob, o = .frz ob (.lst (ns.map V.int)))) (ok : HOk P w H s.heap) :
    K.In (hidT s.heap H) ∧ (hidT s.heap H).Ns mainGlobals mg ∧ (∀ q ∈ cs, LamX.TabB (hidT s.heap H) mg q.1 q.2) ∧ Env0 P w K mg (hidT s.heap H) callerA [] s H := by
  -- what is neither a list nor an empty table is not told
  have free : ∀ {b : Addr} {o : Obj}, s.heap.get? b = some o → (∀ xs n, o.data ≠ .seq xs n) → o.data ≠ .fields #[] → H b = none := fun {b o} e n1 n2 => by
    cases z : H b with
    | none => rfl
    | some u =>
      rcases hO b u z with m | ⟨rfl, _⟩
      · obtain ⟨q, mq, rfl⟩ := List.mem_map.mp m
        rw [eT q mq] at e
        cases e
        exact absurd rfl n2
      · rw [ea] at e
        cases e
        exact absurd rfl (n1 _ _)
  have dict : ∀ {b : Addr} {f : Str → Option Value}, s.heap.Ns b f → (hidT s.heap H).Ns b f := fun {b f} ⟨o, es, ep, e, d, r⟩ => ⟨o, es, ep, hidT_get e (free e (fun xs n z => by rw [d] at z; cases z) fun z => by rw [d] at z; cases z), d, r⟩
  have kin : K.In (hidT s.heap H) := fun b o e => hidT_get (KX b o e) (by
    cases z : H b with
    | none => rfl
    | some u =>
      rcases hO b u z with m | ⟨rfl, kn, _⟩
      · obtain ⟨q, mq, rfl⟩ := List.mem_map.mp m
        rw [kT q mq] at e
        cases e
      · rw [kn] at e
        cases e)
  refine ⟨kin, dict gl, fun q mq => ?_, rfl, ⟨kin, dict gl, ⟨mb, dict bl, bb⟩, ?_⟩, fun b o e => of_hidT e, Nat.le_of_eq (hidT_size _ _), trivial, (fun b m => by
    have m2 : b ∈ ([] : List Addr) := m
    cases m2), ok, .of_eq ge⟩
  · have tq := eT q mq
    refine ⟨?_, ?_, fun z => ?_⟩
    · obtain ⟨o, fs, file, tf, fl, tg, inF, tx, tt, e1, rest⟩ := ch q mq
      have rest2 := rest
      obtain ⟨_, r2, r3, _⟩ := rest2
      refine ⟨o, fs, file, tf, fl, tg, inF, tx, tt, hidT_get e1 (free e1 (fun xs n z => ?_) fun z => ?_), rest⟩
      · rw [r2] at z
        cases z
      · rw [r2] at z
        cases z
        simp at r3
    · obtain ⟨z, ob, b1, b2, b3, b4, b5, b6⟩ := bm
      refine ⟨z, ob, b1, b2, fun y => ?_, fun y => ?_, hidT_get b3 (free b3 (fun xs n y => ?_) fun y => ?_), b4, b5, b6⟩
      · obtain ⟨o, es, ep, e, d, _⟩ := gl
        rw [y, e] at b3
        cases b3
        rw [d] at b6
        cases b6
      · rw [y, tq] at b3
        cases b3
        cases b6
      · rw [b6] at y
        cases y
      · rw [b6] at y
        cases y
    · obtain ⟨o, es, ep, e, d, _⟩ := gl
      rw [z, tq] at e
      cases e
      cases d
  · obtain ⟨f, h1, h2⟩ := lim
    exact ⟨f, dict h1, h2⟩
/-- the law's call ends and gives True -/
theorem ends_of_law {P : Program} {w : World} {K : PySem.W.Frag} {CX : CXT} {a : Addr} {ns : List Int} {s : Shared} {H : Hp} {cs : List (Addr × Addr)} (eT : ∀ q ∈ cs, s.heap.get? q.2 = some { cls := .none, data := .fields #[] }) (ch : ∀ q ∈ cs, PySem.W.CodeHd s.heap q.1 q.2)
    (hT : ∀ b ∈ cs.map (·.2), H b = some (.tbl #[])) (hO : ∀ b o, H b = some o → b ∈ cs.map (·.2) ∨ (b = a ∧ K.lookup a = none ∧ ∃ ob, o = .frz ob (.lst (ns.map V.int)))) (ok : HOk P w H s.heap) (noE : ∀ e s', CX [] H s (fun _ _ _ => False) e s' → False) :
    ∀ r s', CR CX [] P w H s (fun v _ => v = .bl true) (fun _ _ _ => False) r s' → r = .ok (.ret (.bool true)) ∧ OldK s.heap s'.heap ∧ s'.os = s.os ∧ AllBare s'.gens := fun r s' z => by
  match r, z with
  | .error e, z => exact (noE e s' z).elim
  | .ok (.ret u), z =>
    obtain ⟨v, H', os, bare, un, ok2, rv, rfl⟩ := z
    obtain rfl : u = Value.bool true := rv
    have stays : ∀ {b : Addr} {o : Obj}, b ∉ cs.map (·.2) → s.heap.get? b = some o → s'.heap.get? b = some o := fun {b o} nb e => by
      cases q : H b with
      | none => exact un.keep b o e q (fun m => by
          have m2 : b ∈ ([] : List Addr) := m
          cases m2) (by simp)
      | some u =>
        rcases hO b u q with m | ⟨_, _, ob, rfl⟩
        · exact absurd m nb
        · have y := (ok b _ q).1
          rw [e] at y
          cases y
          exact (ok2 b _ (un.frzs b _ _ q)).1
    have more : ∀ q ∈ cs, ∃ m : Array Value, s'.heap.get? q.2 = some { cls := .none, data := .fields m } := fun q mq => by
      obtain ⟨m, y⟩ := un.tbls q.2 #[] (hT _ (List.mem_map.mpr ⟨q, mq, rfl⟩))
      exact ⟨_, ok2 q.2 _ y⟩
    refine ⟨rfl, ⟨fun b o e => ?_, fun b o e => ?_⟩, os, bare⟩
    · by_cases m : b ∈ cs.map (·.2)
      · obtain ⟨q, mq, rfl⟩ := List.mem_map.mp m
        obtain ⟨m, y⟩ := more q mq
        have t := eT q mq
        rw [t] at e
        cases e
        exact .inr (.inl ⟨((ch q mq).tab t).isCodeTable, rfl, #[], m, rfl, by rw [Array.empty_append]; exact y⟩)
      · exact .inl (stays m e)
    · by_cases m : b ∈ cs.map (·.2)
      · obtain ⟨q, mq, rfl⟩ := List.mem_map.mp m
        exact ⟨_, (more q mq).choose_spec⟩
      · exact ⟨o, stays m e⟩
  | .ok .next, z => exact False.elim z
  | .ok .brk, z => exact False.elim z
  | .ok .cont, z => exact False.elim z
/-- the end of a row whose law's def is told by FnG: a law's own tables of code objects are empty at its call -/
def LawG (l : PySem.W.OpenLaw) (w : World) (K : PySem.W.Frag) (k n : Nat) (x : Str) (mg : Str → Option Value) (fa : Addr) (hp : Heap) : Prop :=
  ∃ (fd : FuncData) (cs : List (Addr × Addr)) (sp : Sp), (∀ q ∈ cs, hp.get? q.2 = some { cls := .none, data := .fields #[] }) ∧ (∀ q ∈ cs, K.lookup q.2 = none) ∧ (∀ q ∈ cs, PySem.W.CodeHd hp q.1 q.2) ∧ (∀ (s : Shared) (u : Value), BindsTo s fd ⟨[u], []⟩ [(x, u)]) ∧
    (∀ (H : Hp) (a : Addr) (ns : List Int), ns.length ≤ n → (∀ z ∈ ns, Builtin.Int.intBits z ≤ 1048576) → (∀ q ∈ cs, H q.2 = some (.tbl #[])) → SqL K H a (ns.map V.int) → sp [.ref a] H (fun v _ => v = .bl true) fun _ _ _ => False) ∧
    ∀ base : Heap, K.In base → base.Ns mainGlobals mg → (∀ q ∈ cs, LamX.TabB base mg q.1 q.2) → FnG l.prog w K mg base CX0 k fa fd [x] sp
theorem walk_ofG {l : PySem.W.OpenLaw} {n k : Nat} {q : Program} {loose : List Str} {XP : (Str → Option Value) → Heap → Prop} {YP : World → Heap → Prop} {d : DefRec} {K : Params → PySem.W.Frag} {x : Str} (most : l.most = some n) (small : n ≤ sizeLine) (nodef : d.params.defaults = []) (room : Room k callerA)
    (inK : ∀ (w : World) (h : Heap), YP w h → (K w.params).In h) (F : ∀ (w : World) (mg : Str → Option Value) (fa : Addr) (h : Heap), YP w h → (K w.params).In h → h.Ns mainGlobals mg → mg d.name = some (.ref fa) → LawG l w (K w.params) k n x mg fa h) :
    PySem.W.WalkO q loose XP YP l.row.toRowW d [] (fun f vs => PySem.call f vs) := by
  refine Att.attach_callB most nodef fun w s0 s1 mg mb fa o pm cd doc a us ns G Y ho hd hcd hmg ea hi len bits ge => ?_
  obtain ⟨fd, cs, sp, eT, kT, ch, bind, told, prom⟩ := F w mg fa _ Y (inK w _ Y) G.T.g hmg
  obtain ⟨H, hT, hO, hS, ok⟩ := script_of_law (P := l.prog) (w := w) (Nat.le_trans len small) (vals_ints hi) ea (inK w _ Y) (cs.map (·.2)) (fun b m => by
    obtain ⟨q, mq, rfl⟩ := List.mem_map.mp m
    exact eT q mq)
  obtain ⟨kin, ns1, tb, e0⟩ := env_of_law (inK w _ Y) G.T.g G.T.b G.T.builtins G.T.nolimit ge ea eT kT ch G.T.bmain hO ok
  exact codeAny_mono ((prom _ kin ns1 tb).goes callerA [] s1 H ⟨[.ref a], []⟩ [.ref a] [.ref a] _ _ rfl room e0 (bind s1 _) (.cons rfl .nil) (told H a ns len bits (fun q mq => hT _ (List.mem_map.mpr ⟨q, mq, rfl⟩)) hS)) (ends_of_law eT ch hT hO ok fun e s' z => z.elim)
end Kit
-- CUT
-- CUT
/-! ### of our own: defs that hand lambdas to another def; the end of a row with tables of code objects -/
namespace Kit
open PySem PySem.Spec PyProof.Rows L2
/-- a def whose code object stands at c -/
structure FunC (K : PySem.W.Frag) (x qual : Str) (st : Stmt) (g : Addr) (gd : FuncData) (c : Addr) : Prop where
  ex : ∃ (oc : Value) (od : Option Addr) (kV doc pm : Value) (an : Option Addr) (ct : Value) (sl : Array (Option Value)),
    gd = PySem.W.fnOf x qual (defArgs st) (defBody st) (defScope st) .none kV doc pm an (.ref c) ct ∧ K.lookup g = some ⟨oc, od, .func gd, sl⟩ ∧ PySem.W.codeIn K (.ref c) qual = true
section
variable {P : Program} {w : World} {K : PySem.W.Frag} {mg : Str → Option Value} {base : Heap} {k : Nat} {g : Addr} {gd : FuncData} {ps : List Str} {sp : Sp}
/-- a def's body, told by its rules, its code object known -/
theorem okGC {x qual : Str} {st : Stmt} {N : List Str} {c : Addr} (F : FunC K x qual st g gd c) (S : FnScope N ps (defScope st)) (many : ∀ vs H Q E, sp vs H Q E → vs.length = ps.length)
    (body : ∀ (A : Around) (out : List Env) (s : Shared) (H : Hp) (vs : List V) (Q : VK) (E : XK), A.guards = some [] → Room k (A.deeper (envOfC qual (defScope st) s.heap.objs.size g (.ref c))) → sp vs H Q E →
      ∃ t, PSs (cxOf CX0 P w K mg base N qual (defScope st) g (.ref c) A out s H E).nox (defBody st) t ∧ t { nx := fun _ H' => Q .non H', rt := Q } (start N vs) H) : FnG P w K mg base CX0 (k + 1) g gd ps sp := by
  obtain ⟨oc, od, kV, doc, pm, an, ct, sl, rfl, lk, hc⟩ := F.ex
  refine ⟨many, fun A out s H args us vs Q E gu r e b v h => ?_⟩
  refine LamX.run_ofS lk hc S r e b v (many _ _ _ _ h) fun r2 => ?_
  obtain ⟨t, h1, h2⟩ := body A out s H vs Q E gu r2 h
  exact ⟨t, h1.nox, h2⟩
end
/-! what stands when tables of code objects grow -/
theorem codeO_lst {c : Addr} {q : Str} {o : HO} (h : ∀ p, o ≠ .ext p) : LamX.CodeO c q ≠ o := fun z => h _ z.symm
/-- all but the dice at d and the tables of code objects stands -/
def KeepN (d : Addr) (H H' : Hp) : Prop := (∀ b o, b ≠ d → (∀ ps, o ≠ .tbl ps) → H b = some o → H' b = some o) ∧ Dice H' d
theorem KeepN.refl {d : Addr} {H : Hp} (h : Dice H d) : KeepN d H H := ⟨fun _ _ _ _ e => e, h⟩
theorem KeepN.trans {d : Addr} {H H1 H2 : Hp} (a : KeepN d H H1) (b : KeepN d H1 H2) : KeepN d H H2 := ⟨fun x o hx hn e => b.1 x o hx hn (a.1 x o hx hn e), b.2⟩
theorem KeepN.of {d : Addr} {H H1 : Hp} (k : Keep d H H1) : KeepN d H H1 := ⟨fun b o hb _ e => k.1 b o hb e, k.2⟩
theorem Dice.ext {d : Addr} {H H1 : Hp} (h : Dice H d) (e : LamX.ExtN H H1) : Dice H1 d := by
  obtain ⟨a, b, c, x, r⟩ := h
  exact ⟨a, b, c, e _ _ x (fun _ z => by cases z), r⟩
theorem KeepN.ext {d : Addr} {H H1 : Hp} (h : Dice H d) (e : LamX.ExtN H H1) : KeepN d H H1 := ⟨fun b o _ hn x => e b o x hn, h.ext e⟩
theorem ext_same {H H1 : Hp} (s : Same H H1) : LamX.ExtN H H1 := fun b o e _ => s b o e
theorem tabs_keep {T : List (Addr × Str)} {d : Addr} {H H1 : Hp} (t : LamX.Tabs T H) (k : Keep d H H1) (hd : Dice H d) : LamX.Tabs T H1 := fun p hp => by
  obtain ⟨ps, h1, h2, h3⟩ := t p hp
  obtain ⟨a, b, c, e0, _⟩ := hd
  refine ⟨ps, k.1 _ _ (fun z => by rw [z, e0] at h1; cases h1) h1, h2, fun pos cv hc => ?_⟩
  obtain ⟨c, e1, e2⟩ := h3 pos cv hc
  refine ⟨c, e1, k.1 _ _ (fun z => ?_) e2⟩
  rw [z, e0] at e2
  injection e2 with e2
  unfold LamX.CodeO at e2
  cases e2
theorem mv_ext {K : PySem.W.Frag} {H H' : Hp} (s : LamX.ExtN H H') : Mv K H H' := fun a xs h => by
  rcases h with (h | ⟨o, h⟩) | h
  · exact .inl (.inl (s _ _ h (fun _ z => by cases z)))
  · exact .inl (.inr ⟨o, s _ _ h (fun _ z => by cases z)⟩)
  · exact .inr h
theorem mv_keepN {K : PySem.W.Frag} {H H' : Hp} {d : Addr} (k : KeepN d H H') (hd : Dice H d) : Mv K H H' := fun a xs h => by
  obtain ⟨x, y, z, e0, _⟩ := hd
  rcases h with (h | ⟨o, h⟩) | h
  · exact .inl (.inl (k.1 _ _ (fun z => by rw [z, e0] at h; cases h) (fun _ z => by cases z) h))
  · exact .inl (.inr ⟨o, k.1 _ _ (fun z => by rw [z, e0] at h; cases h) (fun _ z => by cases z) h⟩)
  · exact .inr h
/-! a lambda without parameters handed to a def that catches one error -/
/-- try: a() / except e: return True // return False -/
def TTmet (K : PySem.W.Frag) (C : Addr) : (XK → Hp → VK → Prop) → Hp → VK → Prop := fun tl H Q =>
  tl (fun cls _ H' => ∃ b, PySem.W.exmOne K cls (.ref C) = some b ∧ (b = true → Q (.bl true) H') ∧ (b = false → False)) H (fun _ H' => Q (.bl false) H')
theorem exm_self {K : PySem.W.Frag} {C : Addr} (h1 : PySem.W.subIn K (.ref C) (.type "BaseException") = some true) (h2 : PySem.W.isClsIn K C = true) (ht : PySem.W.typeIn K (.ref C) = some (.type "type")) (h4 : PySem.W.subIn K (.ref C) (.ref C) = some true) : PySem.W.exmOne K (.ref C) (.ref C) = some true := by
  have e1 : (PySem.W.subIn K (.ref C) (.type "BaseException") == some true) = true := by rw [h1] <;> rfl
  have e2 : ((PySem.W.clsIn K C).isSome && PySem.W.typeIn K (.ref C) == some (.type "type")) = true := by
    unfold PySem.W.isClsIn at h2
    rw [h2, ht] <;> rfl
  show (if (PySem.W.subIn K (.ref C) (.type "BaseException") == some true) = true then (if ((PySem.W.clsIn K C).isSome && PySem.W.typeIn K (.ref C) == some (.type "type")) = true then PySem.W.subIn K (.ref C) (.ref C) else none) else none) = some true
  rw [if_pos e1, if_pos e2]
  exact h4
section
variable {X : Cx}
theorem met_gives {Ng : List Str} {x a e q : Str} {sg : Scope} {g C : Addr} {cdg : Value} {bg : List Stmt} {p1 p2 p3 p4 p5 p6 p7 p8 p9 p10 : Pos}
    (eb : bg = [.Try [.Expr (.Call (.Name a p1) [] [] p2) p3] [.ExceptHandler (some (.Name e p4)) none [.Return (some (.Constant (.bool true) 0 p5)) p6] p7] [] [] p8, .Return (some (.Constant (.bool false) 0 p9)) p10])
    (hge : sg.names.lookup e = some .globalImplicit) (hme : X.mg e = some (.ref C)) (hde : (e == ("__debug__" : Str)) = false) (h0 : ∀ f : Addr, (L2.start Ng [V.ref f])[0]? = some (some (V.ref f))) : LamX.GivesTo X Ng x sg g cdg bg a q (TTmet X.K C) := by
  intro f c' s H Q tl act hc h
  subst eb
  have hgl : Gl (cxOf C8.CX0 X.prog X.w X.K X.mg X.base Ng x sg g cdg X.A X.stack s H C8.E0).nox e := hge
  refine ⟨_, pss_cons (ps_try_only (X := (cxOf C8.CX0 X.prog X.w X.K X.mg X.base Ng x sg g cdg X.A X.stack s H C8.E0).nox) (c := .ref C)
      (tb := fun W D σ H => ∃ Ech : XK, (∀ cls d σ' H', Ech cls d H' → W cls d σ' H') ∧ σ[0]? = some (some (.ref f)) ∧ H c' = some (LamX.CodeO c' q) ∧ tl Ech H fun _ H' => D.nx σ H')
      rfl rfl ⟨hgl, hde, .inl hme⟩ LamX.takes0 (fun W pn xe tk _ => ?_) (fun a oe cls d pn _ _ => pss_one (ps_ret pe_bl))) (pss_one (ps_ret pe_bl)), ?_⟩
  · refine ⟨fun pins s' σ H' D I h' => ?_⟩
    obtain ⟨Ech, hW, h1, h2, h3⟩ := h'
    exact (pss_one (ps_expr (pos := p3) (act W pn xe Ech p1 p2 tk hW))).run pins s' σ H' D I ⟨h1, h2, h3⟩
  · exact ⟨fun cls _ H' => ∃ b, PySem.W.exmOne X.K cls (.ref C) = some b ∧ (b = true → Q (.bl true) H') ∧ (b = false → False), fun cls d σ' H' ⟨b, e1, e2, e3⟩ => ⟨b, e1, fun hb a _ => e2 hb, fun hb => e3 hb⟩, h0 f, hc, h⟩
/-- x(lambda: body), x told by Fun -/
theorem pe_lamF {TT : (XK → Hp → VK → Prop) → Hp → VK → Prop} {x a q : Str} {g c P : Addr} {k : Nat} {st : Stmt} {gd : FuncData} {Ng : List Str} {params : Arguments} {body : Expr} {scope : Scope} {t : XK → TE} {p lpos pos : Pos} (F : Fun X.K x x st g gd) (Sg : FnScope Ng [a] (defScope st)) (hb : L2.Binds X.K gd [a] [])
    (hG : ∀ cdg, LamX.GivesTo X Ng x (defScope st) g cdg (defBody st) a (X.env.qual ++ "<lambda>") TT) (hm : X.mg x = some (.ref g)) (TB : LamX.TabB X.base X.mg c P) (hr : Room (k + 2) X.A)
    (hbody : ∀ (A : Around) (outer : List Env) (s : Shared) (H : Hp) (E : XK) (f c' : Addr), Room k (A.deeper (LamX.lamEnv X scope s.heap.objs.size f c')) → PE (LamX.lamCx X A outer s H E scope f c') body (t E))
    (hcode : X.env.code = .ref c := by rfl) (hq : X.env.qual ++ "<lambda>" = q := by rfl) (L : LamX.LamS X.env.scope scope := by exact LamX.lamS_by (by decide +kernel)) (hdef : defaultsOf params X.env = ([], []) := by rfl)
    (hbind : ∀ (q : Str) (cl : List (Str × Addr)) (pm cv ctv : Value), bindArgs (PySem.W.kla_fn "<lambda>" q params body scope cl pm cv ctv) ⟨[], []⟩ = pure [] := by intros; rfl) (hNg : Ng[0]? = some a := by rfl) (hva : Vis (defScope st) a := by first | exact Or.inl rfl | exact Or.inr (Or.inl rfl)) (hg : Gl X x := by rfl)
    (hdb : (x == ("__debug__" : Str)) = false := by decide) (hd : (a == ("__debug__" : Str)) = false := by decide) (hcd : (a == ("__classdict__" : Str)) = false := by decide) :
    PE X (.Call (.Name x p) [.Lambda params body scope lpos] [] pos) (LamX.tLam [(P, q)] TT t) := by
  subst hq
  obtain ⟨oc, od, kV, doc, pm, an, cdv, ct, sl, rfl, lk, hc⟩ := F.ex
  exact LamX.pe_lamcall hg hm F.kp lk hc hb Sg hNg hva (hG cdv) TB hcode (List.mem_singleton.mpr rfl) (fun p hp _ => by rw [List.mem_singleton.mp hp]) hr L hdef hbind hbody hdb hd hcd
end
/-! the end of a row -/
/-- what is known of the law at its call; cs: the defs that make lambdas, their code objects and tables -/
def LawT (l : PySem.W.OpenLaw) (w : World) (K : PySem.W.Frag) (k n : Nat) (x : Str) (mg : Str → Option Value) (fa : Addr) (p : Program) : Prop :=
  ∃ (fd : FuncData) (cs : List (Str × Addr × Addr)) (sp : Sp), (∀ q ∈ cs, (∃ d, (recsOf p).find? (fun e => e.name == q.1) = some d) ∧ PySem.W.tabIn K q.1 = some q.2 ∧ K.lookup q.2.2 = none) ∧ (∀ (s : Shared) (u : Value), BindsTo s fd ⟨[u], []⟩ [(x, u)]) ∧
    (∀ (H : Hp) (a : Addr) (ns : List Int), ns.length ≤ n → (∀ z ∈ ns, Builtin.Int.intBits z ≤ 1048576) → (∀ q ∈ cs, H q.2.2 = some (.tbl #[])) → SqL K H a (ns.map V.int) → sp [.ref a] H (fun v _ => v = .bl true) fun _ _ _ => False) ∧
    ∀ base : Heap, K.In base → base.Ns mainGlobals mg → (∀ q ∈ cs, LamX.TabB base mg q.2.1 q.2.2) → FnG l.prog w K mg base CX0 k fa fd [x] sp
theorem walk_ofT {l : PySem.W.OpenLaw} {n k : Nat} {q : Program} {loose : List Str} {XP : (Str → Option Value) → Heap → Prop} {YP : World → Heap → Prop} {d : DefRec} {K : Params → PySem.W.Frag} {x : Str} (most : l.most = some n) (small : n ≤ sizeLine) (nodef : d.params.defaults = []) (room : Room k callerA)
    (inK : ∀ (w : World) (h : Heap), YP w h → (K w.params).In h) (F : ∀ (w : World) (mg : Str → Option Value) (fa : Addr) (h : Heap), (K w.params).In h → h.Ns mainGlobals mg → mg d.name = some (.ref fa) → LawT l w (K w.params) k n x mg fa q) :
    PySem.W.WalkO q loose XP YP l.row.toRowW d [] (fun f vs => PySem.call f vs) := by
  refine Att.attach_callB most nodef fun w s0 s1 mg mb fa o pm cd doc a us ns G Y ho hd hcd hmg ea hi len bits ge => ?_
  obtain ⟨fd, cs, sp, tabs, bind, told, prom⟩ := F w mg fa _ (inK w _ Y) G.T.g hmg
  have tt : ∀ e ∈ cs.map (·.2), PySem.W.CodeHd s1.heap e.1 e.2 ∧ s1.heap.get? e.2 = some { cls := .none, data := .fields #[] } ∧ (K w.params).lookup e.2 = none := fun e he => by
    obtain ⟨e, me, rfl⟩ := List.mem_map.mp he
    obtain ⟨⟨d, h1⟩, h2, h3⟩ := tabs e me
    obtain ⟨z1, z2⟩ := PySem.W.tab_of G.T (inK w _ Y) h1 h2
    exact ⟨z1, z2, h3⟩
  obtain ⟨H, hT, hO, hS, ok⟩ := script_of_law (P := l.prog) (w := w) (Nat.le_trans len small) (vals_ints hi) ea (inK w _ Y) ((cs.map (·.2)).map (·.2)) (fun b m => by
    obtain ⟨e, me, rfl⟩ := List.mem_map.mp m
    exact (tt e me).2.1)
  obtain ⟨kin, ns1, tb, e0⟩ := env_of_law (cs := cs.map (·.2)) (inK w _ Y) G.T.g G.T.b G.T.builtins G.T.nolimit ge ea (fun e me => (tt e me).2.1) (fun e me => (tt e me).2.2) (fun e me => (tt e me).1) G.T.bmain hO ok
  exact codeAny_mono ((prom _ kin ns1 fun e me => tb _ (List.mem_map.mpr ⟨e, me, rfl⟩)).goes callerA [] s1 H ⟨[.ref a], []⟩ [.ref a] [.ref a] _ _ rfl room e0 (bind s1 _) (.cons rfl .nil)
    (told H a ns len bits (fun e me => hT _ (List.mem_map.mpr ⟨e.2, List.mem_map.mpr ⟨e, me, rfl⟩, rfl⟩)) hS)) (ends_of_law (fun e me => (tt e me).2.1) (fun e me => (tt e me).1) hT hO ok fun e s' z => z.elim)
/-- where a def's table of code objects stands -/
theorem tab_in {K : PySem.W.Frag} {x : Str} {f c P : Addr} {oc cc : Value} {od dc : Option Addr} {fd : FuncData} {sl scl : Array (Option Value)} {vs : Array Value} (h1 : PySem.W.nsIn K mainGlobals x = some (some (.ref f))) (h2 : K.lookup f = some ⟨oc, od, .func fd, sl⟩) (h3 : fd.code = .ref c)
    (h4 : K.lookup c = some ⟨cc, dc, .fields vs, scl⟩) (h5 : vs[11]? = some (.ref P)) : PySem.W.tabIn K x = some (c, P) := by
  unfold PySem.W.tabIn
  rw [h1]
  simp only [h2, h3, h4, h5]
end Kit
-- CUT
/-! ### of our own: how long the text of data is -/
namespace Kit
open PySem PySem.Spec PyProof.Rows L2
/-- every sign is a code point -/
def Low (z : Str) : Prop := ∀ c ∈ z.cps.toList, c < 16 ^ 8
theorem low_of (s : String) : Low (Str.ofString s) := by
  intro c hc
  have e : (Str.ofString s).cps.toList = s.toList.map fun x => x.toNat := by
    rw [Str.ofString_eq_toList]
  rw [e] at hc
  obtain ⟨x, _, rfl⟩ := List.mem_map.mp hc
  have z := x.val.toNat_lt
  exact Nat.lt_of_lt_of_le z (by decide)
theorem Low.app {a b : Str} (x : Low a) (y : Low b) : Low (a ++ b) := fun c hc => by
  rw [Str.cps_append, Array.toList_append, List.mem_append] at hc
  exact hc.elim (x c) (y c)
theorem low_empty : Low Str.empty := fun c hc => by cases hc
theorem mem_joinL {sep : List Nat} {c : Nat} : ∀ {ps : List (List Nat)}, c ∈ TL.joinL sep ps → c ∈ sep ∨ ∃ p ∈ ps, c ∈ p
  | [], h => by cases h
  | [p], h => .inr ⟨p, List.mem_cons_self .., h⟩
  | p :: q :: r, h => by
    have h' : c ∈ p ++ (sep ++ TL.joinL sep (q :: r)) := h
    rw [List.mem_append, List.mem_append] at h'
    rcases h' with h' | h' | h'
    · exact .inr ⟨p, List.mem_cons_self .., h'⟩
    · exact .inl h'
    · rcases mem_joinL h' with z | ⟨x, hx, z⟩
      · exact .inl z
      · exact .inr ⟨x, List.mem_cons_of_mem _ hx, z⟩
theorem low_join {sep : Str} {ys : List Str} (a : Low sep) (b : ∀ y ∈ ys, Low y) : Low (Txt.join sep ys) := fun c hc => by
  have h := TL.tl_join sep ys
  have e : (Txt.join sep ys).cps.toList = TL.joinL (TL.tl sep) (ys.map TL.tl) := by
    rw [TL.join_eq]
    exact h
  rw [e] at hc
  rcases mem_joinL hc with z | ⟨p, hp, z⟩
  · exact a c z
  · obtain ⟨y, hy, rfl⟩ := List.mem_map.mp hp
    exact b y hy c z
/-- data whose text is no longer than so much -/
structure Brief (n : Nat) (d : PyData) : Prop where
  sh : d.showable = true
  nd : d.hasDict = false
  lv : d.leavesShort 30 = true
  wt : d.weight ≤ n
structure BriefAll (n : Nat) (ds : List PyData) : Prop where
  sh : PyData.showableAll ds = true
  nd : PyData.hasDictAll ds = false
  lv : PyData.leavesShortAll 30 ds = true
  wt : PyData.weightAll ds ≤ n
theorem BriefAll.nil : BriefAll 0 [] := ⟨by rw [PyData.showableAll], by rw [PyData.hasDictAll], by rw [PyData.leavesShortAll], by rw [PyData.weightAll] <;> exact Nat.le_refl 0⟩
theorem BriefAll.cons {n m : Nat} {d : PyData} {ds : List PyData} (a : Brief n d) (b : BriefAll m ds) : BriefAll (n + 1 + m) (d :: ds) :=
  ⟨by rw [PyData.showableAll, a.sh, b.sh] <;> rfl, by rw [PyData.hasDictAll, a.nd, b.nd] <;> rfl, by rw [PyData.leavesShortAll, a.lv, b.lv] <;> rfl, by
    rw [PyData.weightAll]
    have := a.wt
    have := b.wt
    omega⟩
theorem BriefAll.list {n : Nat} {ds : List PyData} (a : BriefAll n ds) : Brief n (.list ds) := ⟨by rw [PyData.showable]; exact a.sh, by rw [PyData.hasDict]; exact a.nd, by rw [PyData.leavesShort]; exact a.lv, by rw [PyData.weight]; exact a.wt⟩
theorem BriefAll.tuple {n : Nat} {ds : List PyData} (a : BriefAll n ds) : Brief n (.tuple ds) := ⟨by rw [PyData.showable]; exact a.sh, by rw [PyData.hasDict]; exact a.nd, by rw [PyData.leavesShort]; exact a.lv, by rw [PyData.weight]; exact a.wt⟩
theorem BriefAll.map {α : Type} {f : α → PyData} {k : Nat} : ∀ {xs : List α}, (∀ x ∈ xs, Brief k (f x)) → BriefAll ((k + 1) * xs.length) (xs.map f)
  | [], _ => .nil
  | x :: xs, h => by
    have z := BriefAll.cons (h x (List.mem_cons_self ..)) (BriefAll.map fun y hy => h y (List.mem_cons_of_mem _ hy))
    have e : k + 1 + (k + 1) * xs.length = (k + 1) * (x :: xs).length := by
      rw [List.length_cons, Nat.mul_succ]
      omega
    rw [e] at z
    exact z
theorem brief_str {n : Nat} {z : Str} (a : Low z) (b : z.length ≤ n) : Brief n (.str z) := ⟨by rw [PyData.showable], by rw [PyData.hasDict], by rw [PyData.leavesShort, List.all_eq_true]; exact fun c hc => decide_eq_true (a c hc), by rw [PyData.weight]; exact b⟩
theorem brief_bool (b : Bool) : Brief 0 (.bool b) := ⟨by rw [PyData.showable], by rw [PyData.hasDict], by rw [PyData.leavesShort], by rw [PyData.weight] <;> exact Nat.le_refl 0⟩
theorem brief_non : Brief 0 .none := ⟨by rw [PyData.showable], by rw [PyData.hasDict], by rw [PyData.leavesShort], by rw [PyData.weight] <;> exact Nat.le_refl 0⟩
theorem brief_int {i : Int} (h : i.natAbs < 10 ^ 28) : Brief 100 (.int i) := by
  have lg : i.natAbs.log2 < 94 := by
    by_cases z : i.natAbs = 0
    · rw [z]
      decide
    · exact (Nat.log2_lt z).mpr (Nat.lt_trans h (by decide +kernel))
  refine ⟨by rw [PyData.showable]; exact decide_eq_true (by omega), by rw [PyData.hasDict], ?_, ?_⟩
  · rw [PyData.leavesShort]
    refine decide_eq_true ?_
    have z := int_text_length_le10 (a := i) (k := 28) (by decide) h
    show (Str.ofString (toString i)).length ≤ 30
    have e : (Str.ofString (toString i)).length = (toString i).length := by
      rw [Str.ofString_eq_toList]
      show (((toString i).toList.map Char.toNat).toArray).size = _
      rw [List.size_toArray, List.length_map]
      exact String.length_toList
    rw [e]
    omega
  · rw [PyData.weight]
    split <;> omega
theorem Brief.more {n m : Nat} {d : PyData} (a : Brief n d) (h : n ≤ m) : Brief m d := ⟨a.sh, a.nd, a.lv, Nat.le_trans a.wt h⟩
theorem Brief.len {n : Nat} {d : PyData} (a : Brief n d) (h : n ≤ 400000) : d.shown.length ≤ sizeLine := by
  have z := PyData.shown_le 30 (by decide) d a.lv
  have w := a.wt
  have e := Nat.mul_le_mul_left 32 (Nat.le_trans w h)
  rw [sizeLine_eq]
  omega
end Kit
/-! ### of our own: slices and sums of tuples, told in one way (HandS.TupAny) -/
namespace Kit
open PySem PySem.Spec PyProof.Rows L2
section
variable {K : PySem.W.Frag} {H : Hp}
theorem sl_step {t : Addr} {xs : List V} {lo hi : Option Int} {Q : VK} (h : SqT K H t xs) (k : ∀ u H', Same H H' → SqT K H' u (cutV xs lo hi) → Q (.ref u) H') : rSlA K (.ref t) lo hi H Q := by
  refine ⟨t, xs, rfl, h, fun e => k t H (.refl H) ?_, fun _ p n => k p _ (same_upd n) (.of upd_same)⟩
  unfold cutV
  rw [e.1, e.2, List.drop_zero, Nat.sub_zero, List.take_length]
  exact h
theorem cat_step {t u : Addr} {xs ys : List V} {Q : VK} (h1 : SqT K H t xs) (h2 : SqT K H u ys) (z : xs.length + ys.length ≤ 1000) (k : ∀ v H', Same H H' → SqT K H' v (xs ++ ys) → Q (.ref v) H') : rCatA K (.ref t) (.ref u) H Q := by
  refine ⟨t, u, xs, ys, rfl, rfl, h1, h2, sz_of (by omega), fun e => k u H (.refl H) ?_, fun _ e => k t H (.refl H) ?_, fun _ _ p n => k p _ (same_upd n) (.of upd_same)⟩
  · subst e
    exact h2
  · subst e
    rw [List.append_nil]
    exact h1
theorem cut_take {xs : List V} {n : Nat} (h : n ≤ xs.length) : cutV xs none (some (n : Int)) = xs.take n := by
  unfold cutV
  rw [HT.sIx_none, HT.sIx_nat, List.drop_zero, Nat.sub_zero, Nat.min_eq_left h]
theorem cut_drop {xs : List V} {n : Nat} (h : n ≤ xs.length) : cutV xs (some (n : Int)) none = xs.drop n := by
  unfold cutV
  rw [HT.sIx_none, HT.sIx_nat, Nat.min_eq_left h]
  exact List.take_of_length_le (by rw [List.length_drop]; exact Nat.le_refl _)
end
theorem sl_stepN {K : PySem.W.Frag} {H : Hp} {σ : L2.St} {t : Addr} {xs : List V} {lo : Option Int} {Q : VK} (h : SqT K H t xs) (k : ∀ u H', Same H H' → SqT K H' u (cutV xs lo none) → Q (.ref u) H') : tNoPart σ H (fun hi H3 => rSlA K (.ref t) lo hi H3 Q) := sl_step h k
theorem dec_beq {α : Type} [DecidableEq α] (a b : α) : decide (a = b) = (a == b) := by
  by_cases h : a = b
  · rw [decide_eq_true h, h, beq_self_eq_true]
  · rw [decide_eq_false h, beq_eq_false_iff_ne.mpr h]
end Kit
-- CUT
/-! ### of our own: sets of keys (tuples of data), fewer than 64; sorted of such a set -/
namespace NB
open PySem PySem.Spec PyProof.Rows L2 NS
/-- a set of such keys, fewer than 64 -/
structure KSet (w : World) (h : Heap) (a : Addr) (L : List (Addr × NK)) (es : Array (Int × Value)) (ep : Nat) (t : SetTable) : Prop where
  at_ : ∃ ob, h.get? a = some ob ∧ ob.ExactSet ∧ ob.data = .set es ep t
  its : es.toList = L.map fun p => (p.2.hash w, Value.ref p.1)
  tab : TabOk t (L.map fun p => p.2.hash w)
  one : (L.map Prod.snd).Nodup
  key : ∀ p ∈ L, IsN h p.2 p.1
  led : w.params.followText "set-order" = true ∨ t.led = true
  room : L.length * 5 < t.mask * 3
  few : L.length < 64
section
variable {P : Program} {w : World} {A : Around} {E : Value → Shared → Prop} {s : Shared} {a : Addr} {L : List (Addr × NK)} {es : Array (Int × Value)} {ep : Nat} {t : SetTable}
theorem KSet.size (R : KSet w s.heap a L es ep t) : es.size = L.length := by
  have e := congrArg List.length R.its
  rwa [Array.length_toList, List.length_map] at e
theorem KSet.fits (R : KSet w s.heap a L es ep t) : t.fits es.size = true := by
  have z := R.tab.sz
  have f := R.room
  rw [List.length_map] at z
  unfold SetTable.fits SetTable.fill
  rw [R.tab.dm, R.size, z]
  simp
  omega
theorem KSet.at' (R : KSet w s.heap a L es ep t) {i : Nat} {p : Addr × NK} (e : L[i]? = some p) : es[i]? = some (p.2.hash w, Value.ref p.1) := by
  rw [← Array.getElem?_toList, R.its, List.getElem?_map, e]
  rfl
/-- the search from its c-th step on: way K is the first empty slot -/
theorem KSet.from (R : KSet w s.heap a L es ep t) {x : Addr} {k : NK} (hx : IsN s.heap k x) (hu : A.units + 8 < cLine) {K : Nat} (kf : K < 10 * SetTable.turns t.mask)
    (k1 : way t.mask (k.hash w) K ∉ t.place.toList) (k2 : ∀ c, c < K → way t.mask (k.hash w) c ∈ t.place.toList) {Q : SetFound → Shared → Prop}
    (yes : k ∈ L.map Prod.snd → Q (.there none) s) (no : k ∉ L.map Prod.snd → Q (.free (way t.mask (k.hash w) K) false) s) :
    ∀ (f c : Nat) (st : Option SetTable.Probe), st.getD (t.probeStart (k.hash w)) = nth t.mask (runAt t.mask (SetTable.bits (k.hash w) % (t.mask + 1)) (SetTable.bits (k.hash w))) c → c ≤ K → K - c < f →
      (∀ (i : Nat) p, L[i]? = some p → p.2 = k → ∃ d, c ≤ d ∧ d < K ∧ t.place.toList[i]? = some (way t.mask (k.hash w) d)) →
      wpAny (model P w) A (setSearchFrom a (.ref x) (k.hash w) true f st) Q E s := by
  intro f
  induction f with
  | zero =>
    intro c st _ _ z _
    exact absurd z (Nat.not_lt_zero _)
  | succ f ih =>
    intro c st est hcK hf hre
    obtain ⟨ob, e1, e2, e3⟩ := R.at_
    generalize hg : runAt t.mask (SetTable.bits (k.hash w) % (t.mask + 1)) (SetTable.bits (k.hash w)) = g at est
    have wy : ∀ c, way t.mask (k.hash w) c = (nth t.mask g c).j := fun c => by rw [← hg]
    have nod : ∀ (n : Nat) (p : SetTable.Probe), p.dummy = none → (nth t.mask p n).dummy = none := by
      intro n
      induction n with
      | zero => exact fun p z => z
      | succ n jh =>
        intro p z
        refine jh _ ?_
        unfold adv
        split <;> exact z
    have gap : ¬ t.gaveWay = true := by
      unfold SetTable.gaveWay
      rw [mask_odd R.tab.mok]
      decide
    have same : t.sameMemory t.moves t.mask = some true := by
      unfold SetTable.sameMemory
      rw [if_pos (beq_self_eq_true _)]
    rw [setSearchFrom_succ]
    refine wpAny_bind (wpAny_setState_of e1 e3 R.fits ?_)
    dsimp only
    refine wp_if_neg gap ?_
    try refine wpAny_bind (wpAny_pure ?_)
    have shift : ∀ q, (nth t.mask (nth t.mask g c) q).j = way t.mask (k.hash w) (c + q) := fun q => by rw [wy, nth_add]
    have hash : ∀ (i : Nat) p, L[i]? = some p → (fun i => (es[i]?.map (·.1)).getD 0) i = p.2.hash w := fun i p e => by
      show (es[i]?.map (·.1)).getD 0 = _
      rw [R.at' e]
      rfl
    have spec := go_spec t R.tab.ris R.tab.dm (fun i => (es[i]?.map (·.1)).getD 0) (k.hash w) (10 * SetTable.turns t.mask) (K - c) (nth t.mask g c) (nod c g (by rw [← hg]; rfl)) (by omega)
      (fun q z => by rw [shift]; exact k2 _ (by omega)) (by rw [shift, Nat.add_sub_cancel' hcK]; exact k1)
    rcases spec with ⟨q, i, q1, q2, q3, q4, q5⟩ | ⟨q4, q5⟩
    · rw [shift] at q2
      have e4 : t.probe (fun i => (es[i]?.map (·.1)).getD 0) (k.hash w) (st.getD (t.probeStart (k.hash w))) = some (.candidate (way t.mask (k.hash w) (c + q)) i (nth t.mask g (c + (q + 1)))) := by
        rw [est, ← shift, nth_add]
        exact q5
      rw [e4]
      dsimp only
      have il : i < L.length := by
        have z1 := (List.getElem?_eq_some_iff.mp q2).1
        have z2 := R.tab.sz
        rw [List.length_map] at z2
        rw [Array.length_toList] at z1
        omega
      obtain ⟨p, ep'⟩ : ∃ p, L[i]? = some p := ⟨_, List.getElem?_eq_getElem il⟩
      have pm : p ∈ L := List.mem_of_getElem? ep'
      have pk := R.key p pm
      have live := slot_live R.tab.ris q2
      have go : wpAny (model P w) A (searchRest a (.ref x) (k.hash w) true f es t (way t.mask (k.hash w) (c + q)) i (nth t.mask g (c + (q + 1)))) Q E s := by
        unfold searchRest
        rw [R.at' ep']
        dsimp only
        refine wpAny_bind (wpAny_holding ?_)
        refine (nestedKind P w).eqBool (show A.units + 8 < cLine from hu) pk hx ?_
        refine wpAny_bind (wpAny_setState_of e1 e3 R.fits ?_)
        dsimp only
        by_cases hpk : p.2 = k
        · refine wp_if_pos (by simp [hpk]) ?_
          exact wpAny_pure (yes (List.mem_map.mpr ⟨p, pm, hpk⟩))
        · refine wp_if_neg (by simp [hpk]) ?_
          try refine wpAny_bind (wpAny_pure ?_)
          rw [same]
          dsimp only
          simp only [if_true, live, R.at' ep']
          refine wpAny_bind (wpAny_isSame_ref_self (wpAny_bind (wpAny_pure ?_)))
          simp only [if_true]
          refine wp_if_neg (by simp [hpk]) ?_
          refine ih (c + (q + 1)) _ (by rw [hg]; rfl) (by omega) (by omega) fun i0 p0 h0 hk0 => ?_
          obtain ⟨d, d1, d2, d3⟩ := hre i0 p0 h0 hk0
          refine ⟨d, ?_, d2, d3⟩
          rcases Nat.lt_trichotomy d (c + q) with z | z | z
          · refine absurd ?_ (q4 (d - c) i0 (by omega) ?_)
            · exact (hash i0 p0 h0).trans (congrArg (NestedKey.hash w) hk0)
            · rw [shift, Nat.add_sub_cancel' d1]
              exact d3
          · rw [z] at d3
            have l2 := slot_live R.tab.ris d3
            rw [live] at l2
            injection l2 with l2
            rw [← l2, ep'] at h0
            exact absurd ((congrArg Prod.snd (Option.some.inj h0)).trans hk0) hpk
          · omega
      by_cases hl : t.led = true
      · refine wp_if_neg (by simp [hl]) ?_
        try refine wpAny_bind (wpAny_pure ?_)
        exact go
      · refine wp_if_pos (by simp [hl]) ?_
        refine wpAny_bind (unseen hx (fun y hy => ?_) ?_)
        · obtain ⟨e, he, rfl⟩ := List.mem_map.mp hy
          have m1 : e ∈ es := by
            have z := Array.mem_toList_iff.mp he
            exact (Array.mem_filter.mp z).1
          have m2 := Array.mem_toList_iff.mpr m1
          rw [R.its] at m2
          obtain ⟨p2, hp2, rfl⟩ := List.mem_map.mp m2
          exact ⟨p2.2, p2.1, rfl, R.key p2 hp2⟩
        · refine wp_if_neg (by decide) ?_
          try refine wpAny_bind (wpAny_pure ?_)
          exact go
    · have e4 : t.probe (fun i => (es[i]?.map (·.1)).getD 0) (k.hash w) (st.getD (t.probeStart (k.hash w))) = some (.empty (way t.mask (k.hash w) K) none) := by
        have z := shift (K - c)
        rw [Nat.add_sub_cancel' hcK] at z
        rw [est, ← z]
        exact q5
      rw [e4]
      dsimp only
      refine wpAny_pure (no fun m => ?_)
      obtain ⟨p0, h0, hk0⟩ := List.mem_map.mp m
      obtain ⟨i0, hi0⟩ := List.getElem?_of_mem h0
      obtain ⟨d, d1, d2, d3⟩ := hre i0 p0 hi0 hk0
      refine absurd ?_ (q4 (d - c) i0 (by omega) ?_)
      · exact (hash i0 p0 hi0).trans (congrArg (NestedKey.hash w) hk0)
      · rw [shift, Nat.add_sub_cancel' d1]
        exact d3
/-- the search as adding asks for it -/
theorem KSet.search (R : KSet w s.heap a L es ep t) {x : Addr} {k : NK} (hx : IsN s.heap k x) (hu : A.units + 8 < cLine) {Q : SetFound → Shared → Prop} (yes : k ∈ L.map Prod.snd → Q (.there none) s)
    (no : ∀ K, k ∉ L.map Prod.snd → way t.mask (k.hash w) K ∉ t.place.toList → (∀ c, c < K → way t.mask (k.hash w) c ∈ t.place.toList) → Q (.free (way t.mask (k.hash w) K) false) s) :
    wpAny (model P w) A (setSearch a (.ref x) (k.hash w) true) Q E s := by
  have f := R.room
  obtain ⟨K, kf, k1, k2⟩ := R.tab.first (by rw [List.length_map]; omega) (k.hash w)
  have kb : K < 100000 := by
    have z : 10 * SetTable.turns t.mask ≤ 90000 := by
      rcases R.tab.mok with e | e | e <;> rw [e] <;> decide
    omega
  unfold setSearch
  refine R.from hx hu kf k1 k2 yes (fun n => no K n k1 k2) 100000 0 none rfl (Nat.zero_le _) (by omega) fun i p e hp => ?_
  have e1 : (L.map fun p => p.2.hash w)[i]? = some (k.hash w) := by
    rw [List.getElem?_map, e, ← hp]
    rfl
  have il : i < t.place.toList.length := by
    have z1 := (List.getElem?_eq_some_iff.mp e).1
    have z2 := R.tab.sz
    rw [List.length_map] at z2
    rw [Array.length_toList]
    omega
  have hj := List.getElem?_eq_getElem il
  obtain ⟨c, c1, c2⟩ := R.tab.before k1 e1 hj
  exact ⟨c, Nat.zero_le _, c1, by rw [hj, c2]⟩
end
end NB
namespace NB
open PySem PySem.Spec PyProof.Rows L2 NS
/-- the entries of a table that is laid anew -/
theorem all_of_range {α : Type} : ∀ L : List α, (List.range L.length).filterMap (fun i => L[i]?) = L
  | [] => rfl
  | x :: L => by
    have z := all_of_range L
    rw [List.length_cons, List.range_succ_eq_map, List.filterMap_cons_some (f := fun i => (x :: L)[i]?) (a := 0) (b := x) rfl, List.filterMap_map]
    exact congrArg _ z
theorem anew {α : Type} (f : α → Int × Value) (L : List α) (es : Array (Int × Value)) (o : Array Nat) (hr : es.toList = L.map f) (hp : o.toList.Perm (List.range L.length)) :
    ∃ L2 : List α, (o.filterMap (es[·]?)).toList = L2.map f ∧ L2.Perm L ∧ (L2.map fun p => (f p).1) = o.toList.map fun i => (es.map (·.1)).getD i 0 := by
  have at_ : ∀ i, es[i]? = (L[i]?).map f := fun i => by rw [← Array.getElem?_toList, hr, List.getElem?_map]
  refine ⟨o.toList.filterMap fun i => L[i]?, ?_, ?_, ?_⟩
  · rw [Array.toList_filterMap, List.map_filterMap]
    exact congrArg (fun g => List.filterMap g o.toList) (funext at_)
  · have z := hp.filterMap fun i => L[i]?
    rwa [all_of_range] at z
  · have key : ∀ l : List Nat, (∀ i ∈ l, i < L.length) → ((l.filterMap fun i => L[i]?).map fun p => (f p).1) = l.map fun i => (es.map (·.1)).getD i 0 := by
      intro l
      induction l with
      | nil => exact fun _ => rfl
      | cons i l ih =>
        intro h
        have hi := h i (List.mem_cons_self ..)
        have e1 : L[i]? = some L[i] := List.getElem?_eq_getElem hi
        have e2 : (es.map (·.1)).getD i 0 = (f L[i]).1 := by
          rw [Array.getD_eq_getD_getElem?, Array.getElem?_map, at_ i, e1]
          rfl
        rw [List.filterMap_cons_some e1, List.map_cons, List.map_cons, e2, ih fun j hj => h j (List.mem_cons_of_mem _ hj)]
    exact key _ fun i hi => List.mem_range.mp (hp.mem_iff.mp hi)
section
variable {P : Program} {w : World} {A : Around} {E : Value → Shared → Prop} {s : Shared} {a : Addr} {L : List (Addr × NK)} {es : Array (Int × Value)} {ep : Nat} {t : SetTable}
abbrev row (w : World) (p : Addr × NK) : Int × Value := (p.2.hash w, Value.ref p.1)
set_option maxHeartbeats 1600000 in
/-- more room -/
theorem relaid {ob : Obj} (e1 : s.heap.get? a = some ob) (e2 : ob.ExactSet) (e3 : ob.data = .set es ep t) (its : es.toList = L.map (row w)) (sz : t.place.size = es.size) (dm : t.dummies = #[]) (fl : es.size ≤ t.mask)
    (one : (L.map Prod.snd).Nodup) (key : ∀ p ∈ L, IsN s.heap p.2 p.1) (led : w.params.followText "set-order" = true ∨ t.led = true) (few : L.length < 64) {n M : Nat}
    (m1 : SetTable.sizeAbove n - 1 = M) (m2 : MaskOk M) (m3 : SetTable.sizeAbove n ≤ 128) (m4 : L.length * 5 < M * 3) {Q : Unit → Shared → Prop}
    (q : ∀ h' L' es' ep' t', Heap.SameBut a s.heap h' → KSet w h' a L' es' ep' t' → L'.Perm L → Q () { s with heap := h' }) : wpAny (model P w) A (setRelay a n) Q E s := by
  have len : es.size = L.length := by
    have z := congrArg List.length its
    rwa [Array.length_toList, List.length_map] at z
  have fits : t.fits es.size = true := by
    unfold SetTable.fits SetTable.fill
    rw [dm, Bool.and_eq_true, beq_iff_eq, decide_eq_true_eq]
    exact ⟨sz, by show t.place.size + 0 ≤ t.mask; omega⟩
  obtain ⟨u, o, g1, g2, g3, g4, g5, g6, g7⟩ := relaid_ok t (hs := es.map (·.1)) (wanted := n) m1 m2 (by rw [Array.size_map, len]; omega)
  rw [Array.size_map, len] at g2
  obtain ⟨L2, r1, r2, r3⟩ := anew (row w) L es o its g2
  rw [← r3] at g3
  have len2 : (o.filterMap (es[·]?)).size = es.size := by
    have z := congrArg List.length r1
    rw [Array.length_toList, List.length_map, r2.length_eq] at z
    rw [z, len]
  rw [setRelay_eq]
  refine wpAny_bind (wpAny_setState_of e1 e3 fits ?_)
  dsimp only
  refine wp_if_neg (by rw [sizeLine_eq]; omega) ?_
  try refine wpAny_bind (wpAny_pure ?_)
  rw [g1]
  dsimp only
  refine wpAny_bind ?_
  refine wp_if_neg (by rw [len2]; simp) ?_
  try refine wpAny_bind (wpAny_pure ?_)
  refine wpAny_pure ?_
  dsimp only
  refine wpAny_storeSet_of e1 e3 ?_ (by rw [len2, len, sizeLine_eq]; omega)
  have sb : Heap.SameBut a s.heap (s.heap.update a (Obj.putSet (o.filterMap (es[·]?)) u)) := Heap.SameBut.update ..
  refine q _ L2 (o.filterMap (es[·]?)) (ep + 1) u sb ⟨⟨_, store_at e1 e3, ⟨e2.1, e2.2.1, e2.2.2⟩, rfl⟩, r1, g3, (r2.map Prod.snd).nodup_iff.mpr one, fun p hp => isN_but (key p (r2.mem_iff.mp hp)) e1 e3 sb, by rw [g5]; exact led, ?_, by rw [r2.length_eq]; exact few⟩ r2
  rw [r2.length_eq, g4]
  exact m4
set_option maxHeartbeats 3200000 in
/-- one more key -/
theorem KSet.add (R : KSet w s.heap a L es ep t) {x : Addr} {k : NK} (hx : IsN s.heap k x) (hu : A.units + 8 < cLine) (h64 : L.length + 1 < 64) {Q : Bool → Shared → Prop}
    (q : ∀ b h' L' es' ep' t', Heap.SameBut a s.heap h' → KSet w h' a L' es' ep' t' → (k ∈ L.map Prod.snd → L' = L) → (k ∉ L.map Prod.snd → L'.Perm ((x, k) :: L)) → Q b { s with heap := h' }) :
    wpAny (model P w) A (setAddHashed a (.ref x) (k.hash w)) Q E s := by
  obtain ⟨ob, e1, e2, e3⟩ := R.at_
  have sz := R.size
  have room := R.room
  unfold setAddHashed
  refine wpAny_holding ?_
  rw [show (100000 : Nat) = 99999 + 1 from rfl, setAddHashedIn_succ]
  refine wpAny_bind (wpAny_setState_of e1 e3 R.fits ?_)
  dsimp only
  refine wp_if_neg (by simp [byScan, Value.scannable]) ?_
  try refine wpAny_bind (wpAny_pure ?_)
  refine wpAny_bind (R.search hx hu (fun m => ?_) fun K m k1 k2 => ?_)
  · dsimp only
    exact wpAny_pure (q false s.heap L es ep t (Heap.SameBut.refl a s.heap) R (fun _ => rfl) fun z => absurd m z)
  · dsimp only
    refine wpAny_bind (wpAny_setState_of e1 e3 R.fits ?_)
    dsimp only
    obtain ⟨p1, p2, p3, p4, p5, p6, p7, p8, p9⟩ := R.tab.put k1 k2
    generalize hp : t.put (way t.mask (k.hash w) K) = pt at p1 p3 p4 p5 p6 p7 p8 p9 ⊢
    obtain ⟨t1, n⟩ := pt
    dsimp only at p1 p3 p4 p5 p6 p7 p8 p9 ⊢
    subst p1
    generalize SetTable.below t.place (way t.mask (k.hash w) K) = n at p2 p3 ⊢
    have its : (SetTable.insertAt es n (k.hash w, Value.ref x)).toList = (L.take n ++ (x, k) :: L.drop n).map (row w) := by
      rw [SetTable.toList_insertAt, R.its, List.map_append, List.map_cons, List.map_take, List.map_drop]
    have tb : (L.take n ++ (x, k) :: L.drop n).map (fun p => p.2.hash w) = (L.map fun p => p.2.hash w).take n ++ k.hash w :: (L.map fun p => p.2.hash w).drop n := by
      rw [List.map_append, List.map_cons, List.map_take, List.map_drop]
    rw [← tb] at p3
    have pm := perm_put L n (x, k)
    have ln : (L.take n ++ (x, k) :: L.drop n).length = L.length + 1 := pm.length_eq
    have nd : ((L.take n ++ (x, k) :: L.drop n).map Prod.snd).Nodup := (pm.map Prod.snd).nodup_iff.mpr (List.nodup_cons.mpr ⟨m, R.one⟩)
    have ez : (SetTable.insertAt es n (k.hash w, Value.ref x)).size = L.length + 1 := by
      have z := congrArg List.length its
      rwa [Array.length_toList, List.length_map, ln] at z
    generalize SetTable.insertAt es n (k.hash w, Value.ref x) = es1 at its ez ⊢
    generalize L.take n ++ (x, k) :: L.drop n = L1 at pm ln p3 nd its
    have fin : ∀ b : Bool, wpAny (model P w) A (do
        storeSet a es1 (if b = true then t1 else { t1 with plain := false })
        if (!false && (if b = true then t1 else { t1 with plain := false }).tooFull) = true then setRelay a (SetTable.grown (es.size + 1))
        return true) Q E s := fun b => by
      have T := tab_plain p3 b
      have mk : (if b = true then t1 else { t1 with plain := false }).mask = t.mask := by
        rw [← p4]
        cases b <;> rfl
      have ld : w.params.followText "set-order" = true ∨ (if b = true then t1 else { t1 with plain := false }).led = true := by
        have z := R.led
        rw [← p5] at z
        cases b <;> exact z
      have fl : (if b = true then t1 else { t1 with plain := false }).fill = L.length + 1 := by
        rw [List.length_map] at p9
        rw [← p9]
        cases b <;> rfl
      generalize (if b = true then t1 else { t1 with plain := false }) = t2 at T mk ld fl ⊢
      refine wpAny_bind (wpAny_storeSet_of e1 e3 ?_ (by rw [ez, sizeLine_eq]; omega))
      have sb : Heap.SameBut a s.heap (s.heap.update a (Obj.putSet es1 t2)) := Heap.SameBut.update ..
      have at1 := store_at (es' := es1) (t' := t2) e1 e3
      generalize s.heap.update a (Obj.putSet es1 t2) = h1 at sb at1 ⊢
      have keys : ∀ p ∈ L1, IsN h1 p.2 p.1 := fun p hp => by
        rcases List.mem_cons.mp (pm.mem_iff.mp hp) with rfl | z
        · exact isN_but hx e1 e3 sb
        · exact isN_but (R.key p z) e1 e3 sb
      by_cases hf : t2.tooFull = true
      · have full : (L.length + 1) * 5 ≥ t.mask * 3 := by
          have z := hf
          unfold SetTable.tooFull at z
          rw [decide_eq_true_eq, fl, mk] at z
          exact z
        have two : (t.mask = 7 ∧ L.length = 4) ∨ (t.mask = 31 ∧ L.length = 18) := by
          rcases R.tab.mok with e | e | e
          · rw [e] at full room
            exact .inl ⟨e, by omega⟩
          · rw [e] at full room
            exact .inr ⟨e, by omega⟩
          · rw [e] at full
            omega
        have psz : t2.place.size = es1.size := by
          have z := T.sz
          rw [List.length_map, ln] at z
          rw [z, ez]
        rw [sz]
        refine wp_if_pos (by simp [hf]) ?_
        refine wpAny_bind ?_
        have go : ∀ M, SetTable.sizeAbove (SetTable.grown (L.length + 1)) - 1 = M → MaskOk M → SetTable.sizeAbove (SetTable.grown (L.length + 1)) ≤ 128 → (L.length + 1) * 5 < M * 3 →
            wpAny (model P w) A (setRelay a (SetTable.grown (L.length + 1))) (fun _ s' => wpAny (model P w) A (pure true) Q E s') E { s with heap := h1 } := fun M a1 a2 a3 a4 =>
          relaid (s := { s with heap := h1 }) at1 ⟨e2.1, e2.2.1, e2.2.2⟩ rfl its psz T.dm (by rw [ez, mk]; rcases two with ⟨e, e'⟩ | ⟨e, e'⟩ <;> omega) nd keys ld (by rw [ln]; exact h64) a1 a2 a3 (by rw [ln]; exact a4) fun h2 L2 es2 ep2 t3 sb2 R2 pm2 =>
            wpAny_pure (q true h2 L2 es2 ep2 t3 (sb.trans sb2) R2 (fun z => absurd z m) fun _ => pm2.trans pm)
        rcases two with ⟨_, e'⟩ | ⟨_, e'⟩
        · exact go 31 (by rw [e', size_20]) (.inr (.inl rfl)) (by rw [e', size_20]; decide) (by omega)
        · exact go 127 (by rw [e', size_76]) (.inr (.inr rfl)) (by rw [e', size_76]; decide) (by omega)
      · refine wp_if_neg (by simp [hf]) ?_
        try refine wpAny_bind (wpAny_pure ?_)
        refine wpAny_pure (q true h1 L1 es1 (ep + 1) t2 sb ⟨⟨_, at1, ⟨e2.1, e2.2.1, e2.2.2⟩, rfl⟩, its, T, nd, keys, ld, ?_, by omega⟩ (fun z => absurd z m) fun _ => pm)
        have z := hf
        unfold SetTable.tooFull at z
        rw [decide_eq_true_eq, fl, mk] at z
        rw [ln, mk]
        omega
    by_cases hpl : t1.plain = true
    · rw [if_pos hpl]
      exact wpAny_bind (by_val 8 k _ _ _ hx.1 hx.2 fin)
    · rw [if_neg hpl]
      exact wpAny_bind (wpAny_pure (fin true))
end
end NB
-- CUT
namespace NB
open PySem PySem.Spec PyProof.Rows L2 NS
section
variable {P : Program} {w : World} {A : Around} {E : Value → Shared → Prop} {s : Shared}
/-- set.update's turns -/
theorem set_turns {I S : Addr} {fp wr : List Addr} {G : Array GenState → Array GenState → Prop} {n : Nat} {Pv : Nat → Value → Prop} {St : Nat → Shared → Prop} {R : Result → Shared → Prop} (W : WalksS P w A.in1 I fp wr G n Pv St)
    (sf : S ∉ fp) (ks : List (Addr × NK)) (hn : n = ks.length) (h64 : ks.length < 64) (val : ∀ i v, Pv i v → ∃ p, ks[i]? = some p ∧ v = .ref p.1) (h0 : Heap) (hk : ∀ p ∈ ks, IsN h0 p.2 p.1)
    (s0 : h0.get? S = none) (w0 : ∀ b ∈ wr, h0.get? b = none) (hu : A.in1.units + 8 < cLine) :
    ∀ (m i : Nat) (s : Shared), n - i = m → i ≤ n → St i s → (∀ b o, h0.get? b = some o → s.heap.get? b = some o) → (∃ L es ep t, KSet w s.heap S L es ep t ∧ Has ks i L) →
      (∀ s' L es ep t, Moved (S :: wr) G s s' → KSet w s'.heap S L es ep t → Has ks n L → (∀ b o, h0.get? b = some o → s'.heap.get? b = some o) → R (.ok (.ret .none)) s') →
      codeAny (model P w) A (.builtin "set.update.loop" ⟨[.ref S, .ref I], []⟩) R s := by
  have sw : S ∉ wr := fun z => sf (W.sub _ z)
  have into : ∀ b ∈ wr, b ∈ S :: wr := fun b hb => List.mem_cons_of_mem _ hb
  have stay : ∀ {s s' : Shared}, Moved wr G s s' → (∀ b o, h0.get? b = some o → s.heap.get? b = some o) → ∀ b o, h0.get? b = some o → s'.heap.get? b = some o := fun mv k b o e =>
    mv.heap b o (fun z => by rw [w0 b z] at e; cases e) (k b o e)
  have setStay : ∀ {h h' : Heap} {L : List (Addr × NK)} {es : Array (Int × Value)} {ep : Nat} {t : SetTable} {i : Nat}, KSet w h S L es ep t → Has ks i L → (∀ o, h.get? S = some o → h'.get? S = some o) → (∀ b o, h0.get? b = some o → h'.get? b = some o) → KSet w h' S L es ep t := fun R g e1 e2 => by
    obtain ⟨ob, a1, a2⟩ := R.at_
    exact ⟨⟨ob, e1 ob a1, a2⟩, R.its, R.tab, R.one, fun p hp => isN_keep (hk p (List.mem_of_mem_take (g.sub p hp))) e2, R.led, R.room, R.few⟩
  intro m
  induction m with
  | zero =>
    intro i s hm hi st kp ⟨L, es, ep, t, hS, g⟩ fin
    obtain rfl : i = n := by omega
    refine codeAny_builtin F.entry_set_update_loop ?_
    rw [Around.under_plainId F.plain_set_update_loop _]
    refine wpAny_bind (m := pyNext (.ref I)) (W.done s _ _ st fun s' mv => ?_)
    have k2 := stay mv kp
    exact wpAny_pure (fin s' L es ep t (mv.mono into) (setStay hS g (fun o e => mv.heap S o sw e) k2) g k2)
  | succ m ih =>
    intro i s hm hi st kp ⟨L, es, ep, t, hS, g⟩ fin
    have lt : i < n := by omega
    refine codeAny_builtin F.entry_set_update_loop ?_
    rw [Around.under_plainId F.plain_set_update_loop _]
    refine wpAny_bind (m := pyNext (.ref I)) (W.item i s _ _ lt st fun v s' hv st' mv => ?_)
    obtain ⟨p, hp, rfl⟩ := val i v hv
    have k2 := stay mv kp
    have hS2 := setStay hS g (fun o e => mv.heap S o sw e) k2
    have hx : IsN s'.heap p.2 p.1 := isN_keep (hk p (List.mem_of_getElem? hp)) k2
    show wpAny _ A.in1 (holding [Value.ref p.1] (setAdd S (.ref p.1)) >>= _) _ _ s'
    refine wpAny_bind (wpAny_holding ?_)
    unfold setAdd
    refine wpAny_holding (wpAny_bind ?_)
    refine (nestedKind P w).pyHash (show A.in1.units + 8 < cLine from hu) hx ?_
    refine KSet.add (s := { s' with toks := s'.toks + p.2.draws }) hS2 hx hu (by have := g.len; omega) fun b h' L' es' ep' t' sb R2 c1 c2 => ?_
    have k3 : ∀ b o, h0.get? b = some o → h'.get? b = some o := fun b o e => (sb.2 b fun z => by rw [z, s0] at e; cases e).trans (k2 b o e)
    refine wpAny_pure ⟨plainId_quiet F.plain_set_update_loop _, ih (i + 1) _ (by omega) lt (W.frame _ s' _ _ st' (Nat.le_add_right _ _) fun b hb o e => ?_) k3 ⟨L', es', ep', t', R2, g.step hp c1 c2⟩ fun s2 L2 es2 ep2 t2 mv2 R3 g3 k4 => ?_⟩
    · exact (sb.2 b fun z => sf (z ▸ hb)).trans e
    · refine fin s2 L2 es2 ep2 t2 (Moved.trans W.gtrans ((mv.mono into).then_heap (Nat.le_add_right _ _) fun b o hb e => ?_) mv2) R3 g3 k4
      exact (sb.2 b fun z => hb (z ▸ List.mem_cons_self ..)).trans e
end
end NB
namespace NB
open PySem PySem.Spec PyProof.Rows L2 NS
section
variable {P : Program} {w : World} {A : Around} {E : Value → Shared → Prop} {s : Shared}
/-- an empty set, as it is made -/
abbrev fresh (w : World) : Obj := { cls := .type "set", dict := none, data := .set #[] 0 (.fresh 0 0 (!w.params.followText "set-order")) }
theorem KSet.fresh {h : Heap} {a : Addr} (e : h.get? a = some (fresh w)) : KSet w h a [] #[] 0 (.fresh 0 0 (!w.params.followText "set-order")) := by
  refine ⟨⟨_, e, ⟨rfl, rfl, rfl⟩, rfl⟩, rfl, ⟨List.Pairwise.nil, rfl, rfl, .inl rfl, fun x hx => ?_, fun i h j hi => ?_⟩, List.nodup_nil, fun p hp => ?_, ?_, by show 0 * 5 < 7 * 3; decide, by decide⟩
  · cases hx
  · cases hi
  · cases hp
  · show w.params.followText "set-order" = true ∨ (!w.params.followText "set-order") = true
    cases w.params.followText "set-order" with
    | true => exact .inl rfl
    | false => exact .inr rfl
/-- set(x) made: the keys of a tuple's items -/
def Made (w : World) (s : Shared) (ks : List (Addr × NK)) (r : Value) (s' : Shared) : Prop := ∃ h' tk L es ep t, r = .ref s.heap.objs.size ∧ s' = { s with heap := h', toks := tk } ∧ KSet w h' s.heap.objs.size L es ep t ∧ Has ks ks.length L ∧ ∀ b o, s.heap.get? b = some o → h'.get? b = some o
set_option maxHeartbeats 3200000 in
theorem set_tup {l : Addr} {items : Array Value} (ks : List (Addr × NK)) {Q : Value → Shared → Prop} (calm : A.handled = none) (hl : s.heap.IsTuple l items) (hit : items.toList = ks.map fun p => Value.ref p.1)
    (hk : ∀ p ∈ ks, IsN s.heap p.2 p.1) (h64 : ks.length < 64) (hu : A.units + 20 < cLine) (q : ∀ r s', Made w s ks r s' → Q r s') : wpAny (model P w) A (call (.type "set") [.ref l]) Q E s := by
  have size : items.size = ks.length := by
    have z := congrArg List.length hit
    rwa [Array.length_toList, List.length_map] at z
  obtain ⟨c, tl, hmro⟩ := F.called_set.mro
  have hmade := F.called_set.made
  have hsub := F.called_set.sub
  refine wpAny_call (codeAny_of_tree ?_)
  show wpAny _ _ (callAny (.type "set") _) _ _ _
  refine wpAny_pure (And.intro (Code.quiet_builtin _ (by decide +kernel)) (codeAny_builtin F.entry_type_call ?_))
  rw [Around.under_plain (weight_type_call_type "set" [.ref l] []) rfl]
  have h1 := F.called_set.notType
  have h2 := F.called_set.canCreate
  have hct := F.typeCall_set_1 (.ref l)
  repeat (any_goals (first | assumption | wp_step))
  refine codeAny_mono (code_set_led1 (.ref l) (E := E) (Q₁ := fun ob s1 => ob = .ref s.heap.objs.size ∧ s1 = { s with heap := s.heap.push (NB.fresh w) }) ⟨rfl, rfl⟩) fun r s1 hr => ?_
  cases r with
  | error e => exact hr
  | ok fl =>
    cases fl with
    | ret ob =>
      obtain ⟨rfl, rfl⟩ := hr
      have new : (s.heap.push (NB.fresh w)).get? s.heap.objs.size = some (NB.fresh w) := Heap.get?_push_size _ rfl
      have hT : Shared.TypeIs { s with heap := s.heap.push (NB.fresh w) } (.ref s.heap.objs.size) "set" := ⟨_, new, rfl⟩
      have hli := F.called_set.init.lookup
      have hbi := F.called_set.init.bind (.ref s.heap.objs.size)
      repeat (any_goals (first | assumption | wp_step))
      refine codeAny_mono (codeAny_call_builtin (R := wants (fun r s2 => r = .none ∧ Made w s ks (.ref s.heap.objs.size) s2) E) F.called_set.init.plain F.entry_set_init (check_set_init_1 hT ?_)) fun r2 s2 hr2 => ?_
      · obtain ⟨ol, b1, b2, n, b3⟩ := hl
        have zl : l < s.heap.objs.size := Heap.lt_size b1
        obtain ⟨oc, odi, oda, osl⟩ := ol
        simp only at b2 b3
        subst b2; subst b3
        have old : (s.heap.push (NB.fresh w)).get? l = some { cls := .type "tuple", dict := odi, data := .seq items n, slots := osl } := Heap.get?_push_of_some _ b1
        have n1 := F.sub_tuple_set
        have n2 := F.sub_tuple_frozenset
        have n3 : (Value.type "tuple" == Value.type "dict") = false := by decide
        have hl1 : (s.heap.push (NB.fresh w)).IsTuple l items := ⟨_, old, rfl, n, rfl⟩
        unfold Builtin.«set.__init__» noKeywords Builtin.Frozenset.updateFrom
        generalize hPI : pyIter = PI
        wp_walk
        subst hPI
        refine wpAny_pyIter_tuple hl1 (wpAny_bind (wpAny_runValue ?_))
        have calm3 : A.in1.in1.in1.handled = none := by simp [calm]
        have sz1 : (s.heap.push (NB.fresh w)).objs.size = s.heap.objs.size + 1 := Heap.size_push ..
        have ne1 : l ≠ (s.heap.push (NB.fresh w)).objs.size := by
          rw [sz1]
          exact Nat.ne_of_lt (Nat.lt_succ_of_lt zl)
        have ne2 : s.heap.objs.size ∉ [(s.heap.push (NB.fresh w)).objs.size, l] := by
          rw [sz1]
          intro z
          simp only [List.mem_cons, List.not_mem_nil, or_false] at z
          rcases z with z | z
          · exact Nat.ne_of_lt (Nat.lt_succ_self _) z
          · exact Nat.ne_of_gt zl z
        have val : ∀ (i : Nat) (v : Value), items[i]? = some v → ∃ p, ks[i]? = some p ∧ v = .ref p.1 := fun i v hv => by
          rw [← Array.getElem?_toList, hit, List.getElem?_map] at hv
          obtain ⟨p, e, rfl⟩ := Option.map_eq_some_iff.mp hv
          exact ⟨p, e, rfl⟩
        have noneAt : ∀ b, s.heap.objs.size ≤ b → s.heap.get? b = none := fun b hb => Heap.get?_none_of_le hb
        refine set_turns ((Walks.tuple calm3 _ l ne1 items).toS) ne2 ks size h64 val s.heap hk (noneAt _ (Nat.le_refl _)) (fun b hb => noneAt b ?_) (by show A.in1.in1.in1.units + 8 < cLine; simp only [Around.in1]; omega) (items.size - 0) 0 _ (by omega) (Nat.zero_le _)
          ⟨⟨_, Heap.get?_push_size _ rfl, rfl, rfl⟩, hl1.push _⟩ (fun b o e => Heap.get?_push_of_some _ (Heap.get?_push_of_some _ e)) ⟨[], #[], 0, _, KSet.fresh (Heap.get?_push_of_some _ new), ⟨Nat.le_refl _, fun p hp => ?_, fun p hp => ?_⟩⟩ fun s3 L es ep t mv R g kp => ?_
        · rw [List.mem_singleton.mp hb, sz1]
          omega
        · cases hp
        · cases hp
        · obtain ⟨h3, g3, d3, tk3, os3⟩ := s3
          have eg : g3 = s.gens := mv.gens
          have ed : d3 = s.drawn := mv.drawn
          have eo : os3 = s.os := mv.os
          subst eg; subst ed; subst eo
          rw [size] at g
          exact wpAny_pure (wpAny_pure ⟨rfl, h3, tk3, L, es, ep, t, rfl, rfl, R, g, kp⟩)
      · cases r2 with
        | error e => exact hr2
        | ok fl2 =>
          cases fl2 with
          | ret r =>
            obtain ⟨rfl, hm⟩ := hr2
            repeat (any_goals (first | assumption | wp_step))
            exact q _ _ hm
          | _ => exact hr2.elim
    | _ => exact hr.elim
set_option maxHeartbeats 3200000 in
theorem set_list {l : Addr} {items : Array Value} (ks : List (Addr × NK)) {Q : Value → Shared → Prop} (calm : A.handled = none) (hl : s.heap.IsList l items) (hit : items.toList = ks.map fun p => Value.ref p.1)
    (hk : ∀ p ∈ ks, IsN s.heap p.2 p.1) (h64 : ks.length < 64) (hu : A.units + 20 < cLine) (q : ∀ r s', Made w s ks r s' → Q r s') : wpAny (model P w) A (call (.type "set") [.ref l]) Q E s := by
  have size : items.size = ks.length := by
    have z := congrArg List.length hit
    rwa [Array.length_toList, List.length_map] at z
  obtain ⟨c, tl, hmro⟩ := F.called_set.mro
  have hmade := F.called_set.made
  have hsub := F.called_set.sub
  refine wpAny_call (codeAny_of_tree ?_)
  show wpAny _ _ (callAny (.type "set") _) _ _ _
  refine wpAny_pure (And.intro (Code.quiet_builtin _ (by decide +kernel)) (codeAny_builtin F.entry_type_call ?_))
  rw [Around.under_plain (weight_type_call_type "set" [.ref l] []) rfl]
  have h1 := F.called_set.notType
  have h2 := F.called_set.canCreate
  have hct := F.typeCall_set_1 (.ref l)
  repeat (any_goals (first | assumption | wp_step))
  refine codeAny_mono (code_set_led1 (.ref l) (E := E) (Q₁ := fun ob s1 => ob = .ref s.heap.objs.size ∧ s1 = { s with heap := s.heap.push (NB.fresh w) }) ⟨rfl, rfl⟩) fun r s1 hr => ?_
  cases r with
  | error e => exact hr
  | ok fl =>
    cases fl with
    | ret ob =>
      obtain ⟨rfl, rfl⟩ := hr
      have new : (s.heap.push (NB.fresh w)).get? s.heap.objs.size = some (NB.fresh w) := Heap.get?_push_size _ rfl
      have hT : Shared.TypeIs { s with heap := s.heap.push (NB.fresh w) } (.ref s.heap.objs.size) "set" := ⟨_, new, rfl⟩
      have hli := F.called_set.init.lookup
      have hbi := F.called_set.init.bind (.ref s.heap.objs.size)
      repeat (any_goals (first | assumption | wp_step))
      refine codeAny_mono (codeAny_call_builtin (R := wants (fun r s2 => r = .none ∧ Made w s ks (.ref s.heap.objs.size) s2) E) F.called_set.init.plain F.entry_set_init (check_set_init_1 hT ?_)) fun r2 s2 hr2 => ?_
      · obtain ⟨ol, b1, b2, n, b3⟩ := hl
        have zl : l < s.heap.objs.size := Heap.lt_size b1
        obtain ⟨oc, odi, oda, osl⟩ := ol
        simp only at b2 b3
        subst b2; subst b3
        have old : (s.heap.push (NB.fresh w)).get? l = some { cls := .type "list", dict := odi, data := .seq items n, slots := osl } := Heap.get?_push_of_some _ b1
        have n1 := F.sub_list_set
        have n2 := F.sub_list_frozenset
        have n3 : (Value.type "list" == Value.type "dict") = false := by decide
        have hl1 : (s.heap.push (NB.fresh w)).IsList l items := ⟨_, old, rfl, n, rfl⟩
        unfold Builtin.«set.__init__» noKeywords Builtin.Frozenset.updateFrom
        generalize hPI : pyIter = PI
        wp_walk
        subst hPI
        refine wpAny_pyIter_list hl1 (wpAny_bind (wpAny_runValue ?_))
        have calm3 : A.in1.in1.in1.handled = none := by simp [calm]
        have sz1 : (s.heap.push (NB.fresh w)).objs.size = s.heap.objs.size + 1 := Heap.size_push ..
        have ne1 : l ≠ (s.heap.push (NB.fresh w)).objs.size := by
          rw [sz1]
          exact Nat.ne_of_lt (Nat.lt_succ_of_lt zl)
        have ne2 : s.heap.objs.size ∉ [(s.heap.push (NB.fresh w)).objs.size, l] := by
          rw [sz1]
          intro z
          simp only [List.mem_cons, List.not_mem_nil, or_false] at z
          rcases z with z | z
          · exact Nat.ne_of_lt (Nat.lt_succ_self _) z
          · exact Nat.ne_of_gt zl z
        have val : ∀ (i : Nat) (v : Value), items[i]? = some v → ∃ p, ks[i]? = some p ∧ v = .ref p.1 := fun i v hv => by
          rw [← Array.getElem?_toList, hit, List.getElem?_map] at hv
          obtain ⟨p, e, rfl⟩ := Option.map_eq_some_iff.mp hv
          exact ⟨p, e, rfl⟩
        have noneAt : ∀ b, s.heap.objs.size ≤ b → s.heap.get? b = none := fun b hb => Heap.get?_none_of_le hb
        refine set_turns ((Walks.list calm3 _ l ne1 items).toS) ne2 ks size h64 val s.heap hk (noneAt _ (Nat.le_refl _)) (fun b hb => noneAt b ?_) (by show A.in1.in1.in1.units + 8 < cLine; simp only [Around.in1]; omega) (items.size - 0) 0 _ (by omega) (Nat.zero_le _)
          ⟨⟨_, Heap.get?_push_size _ rfl, rfl, rfl⟩, hl1.push _⟩ (fun b o e => Heap.get?_push_of_some _ (Heap.get?_push_of_some _ e)) ⟨[], #[], 0, _, KSet.fresh (Heap.get?_push_of_some _ new), ⟨Nat.le_refl _, fun p hp => ?_, fun p hp => ?_⟩⟩ fun s3 L es ep t mv R g kp => ?_
        · rw [List.mem_singleton.mp hb, sz1]
          omega
        · cases hp
        · cases hp
        · obtain ⟨h3, g3, d3, tk3, os3⟩ := s3
          have eg : g3 = s.gens := mv.gens
          have ed : d3 = s.drawn := mv.drawn
          have eo : os3 = s.os := mv.os
          subst eg; subst ed; subst eo
          rw [size] at g
          exact wpAny_pure (wpAny_pure ⟨rfl, h3, tk3, L, es, ep, t, rfl, rfl, R, g, kp⟩)
      · cases r2 with
        | error e => exact hr2
        | ok fl2 =>
          cases fl2 with
          | ret r =>
            obtain ⟨rfl, hm⟩ := hr2
            repeat (any_goals (first | assumption | wp_step))
            exact q _ _ hm
          | _ => exact hr2.elim
    | _ => exact hr.elim
end
end NB
-- CUT
namespace NB
open PySem PySem.Spec PyProof.Rows L2 NS Kit
/-- a list whose images are those of L in another order is such an order of L -/
theorem perm_of_map {α β : Type} (f : α → β) : ∀ {us vs : List β}, us.Perm vs → ∀ L : List α, vs = L.map f → ∃ L1 : List α, L1.Perm L ∧ us = L1.map f := by
  intro us vs h
  induction h with
  | nil =>
    intro L e
    exact ⟨L, .refl _, e⟩
  | cons x _ ih =>
    intro L e
    match L, e with
    | p :: L, e =>
      injection e with e1 e2
      obtain ⟨L1, k1, k2⟩ := ih L e2
      exact ⟨p :: L1, k1.cons p, by rw [List.map_cons, ← k2, e1]⟩
  | swap x y l =>
    intro L e
    match L, e with
    | p :: q :: L, e =>
      injection e with e1 e2
      injection e2 with e2 e3
      exact ⟨q :: p :: L, .swap p q L, by rw [List.map_cons, List.map_cons, ← e1, ← e2, ← e3]⟩
  | trans _ _ ih1 ih2 =>
    intro L e
    obtain ⟨L2, k1, k2⟩ := ih2 L e
    obtain ⟨L1, k3, k4⟩ := ih1 L2 k2
    exact ⟨L1, k3.trans k1, k4⟩
theorem sub_of_map {α β : Type} (f : α → β) (ps : List α) : ∀ L : List β, (∀ x ∈ L, x ∈ ps.map f) → ∃ L1 : List α, L = L1.map f ∧ ∀ q ∈ L1, q ∈ ps
  | [], _ => ⟨[], rfl, fun q h => nomatch h⟩
  | x :: L, h => by
    obtain ⟨q, hq, e⟩ := List.mem_map.mp (h x (List.mem_cons_self ..))
    obtain ⟨L1, k1, k2⟩ := sub_of_map f ps L fun y hy => h y (List.mem_cons_of_mem _ hy)
    refine ⟨q :: L1, by rw [List.map_cons, e, k1], fun r hr => ?_⟩
    rcases List.mem_cons.mp hr with z | z
    · rw [z]
      exact hq
    · exact k2 r z
/-- the set at a, without its members' own objects -/
def K0 (w : World) (h : Heap) (a : Addr) (L : List (Addr × NK)) : Prop := ∃ (es : Array (Int × Value)) (ep : Nat) (t : SetTable), (∃ ob, h.get? a = some ob ∧ ob.ExactSet ∧ ob.data = .set es ep t) ∧ es.toList = L.map (row w) ∧
  TabOk t (L.map fun p => p.2.hash w) ∧ (L.map Prod.snd).Nodup ∧ (w.params.followText "set-order" = true ∨ t.led = true) ∧ L.length * 5 < t.mask * 3 ∧ L.length < 64
def KO (w : World) (a : Addr) (L : List (Addr × NK)) : HO := .ext fun h => K0 w h a L
theorem KSet.k0 {w : World} {h : Heap} {a : Addr} {L : List (Addr × NK)} {es : Array (Int × Value)} {ep : Nat} {t : SetTable} (R : KSet w h a L es ep t) : K0 w h a L := ⟨es, ep, t, R.at_, R.its, R.tab, R.one, R.led, R.room, R.few⟩
theorem K0.full {w : World} {h : Heap} {a : Addr} {L : List (Addr × NK)} (R : K0 w h a L) (k : ∀ p ∈ L, IsN h p.2 p.1) : ∃ es ep t, KSet w h a L es ep t := by
  obtain ⟨es, ep, t, h1, h2, h3, h4, h5, h6, h7⟩ := R
  exact ⟨es, ep, t, h1, h2, h3, h4, k, h5, h6, h7⟩
theorem kO_new {w : World} {P : Program} {H : Hp} {h : Heap} {a : Addr} {L : List (Addr × NK)} (R : K0 w h a L) : ObjOk P w H h a (KO w a L) := by
  obtain ⟨es, ep, t, ⟨ob, e, _⟩, _⟩ := id R
  refine ⟨R, ⟨ob, e⟩, fun h1 h2 p k => ?_⟩
  obtain ⟨es', ep', t', ⟨ob', e', r'⟩, q'⟩ := (show K0 w h1 a L from p)
  exact ⟨es', ep', t', ⟨ob', k ob' e', r'⟩, q'⟩
section
variable {P : Program} {w : World} {A : Around} {E : Value → Shared → Prop} {s : Shared} {a : Addr} {es : Array (Int × Value)} {ep : Nat} {t : SetTable} {β : Type} {enc : β → NK}
set_option maxHeartbeats 3200000 in
/-- sorted(x), x such a set -/
theorem sorted_set {L : List (Addr × β)} {Q : Value → Shared → Prop} (R : KSet w s.heap a (L.map fun p => (p.1, enc p.2)) es ep t) (calm : A.handled = none) (hd : ∀ p ∈ L, ∃ as, Reads s.heap (.ref p.1) (enc p.2).data as)
    (dp : ∀ p ∈ L, (enc p.2).data.depth ≤ 60) (hal : PySem.W.AllAlike (L.map fun p => (enc p.2).data)) (hk : PySem.W.Sortable (L.map fun p => (enc p.2).data)) (hu : A.units + 64 < cLine)
    (q : ∀ s' p (out : Array Value) (c : Nat) (L' : List (Addr × β)), (∀ b o, s.heap.get? b = some o → s'.heap.get? b = some o) → s'.gens = s.gens → s'.os = s.os → s.heap.objs.size ≤ p →
      s'.heap.get? p = some (seqObj "list" out c) → out.toList = L'.map (fun q => Value.ref q.1) → L'.Perm L → L'.Pairwise (fun x y => PySem.W.dataLe false (fun p : Addr × β => (enc p.2).data) x y = true) → Q (.ref p) s') :
    wpAny (model P w) A (call (.builtin "sorted") [.ref a]) Q E s := by
  obtain ⟨o, e1, e2, e3⟩ := R.at_
  have sz := R.size
  have few := R.few
  rw [List.length_map] at few sz
  refine Calls.call_function_entry kind_sorted plain_sorted entry_sorted (args_sorted1 _) ?_
  unfold Builtin.«sorted»
  refine wpAny_bind (m := checkCount "sorted" 1 1 _) (wpAny_pure ?_)
  refine wpAny_bind (collect_set (A := A.in1) calm ⟨o, e1, e2.1, e3⟩ R.fits (by unfold scanBound; omega) R.tab.ris R.led fun s1 vs k1 hz g1 o1 pm => ?_)
  have its : es.toList.map (·.2) = L.map fun q => Value.ref q.1 := by
    rw [R.its, List.map_map, List.map_map]
    rfl
  rw [its] at pm
  obtain ⟨L1, p1, p2⟩ := perm_of_map (fun q : Addr × β => Value.ref q.1) pm L rfl
  have len : vs.length = L.length := by rw [pm.length_eq, List.length_map]
  refine wpAny_bind (wpAny_newList ?_ (by rw [len, sizeLine_eq]; omega))
  have new : (s1.heap.push (seqObj "list" vs.toArray 0)).get? s1.heap.objs.size = some (seqObj "list" vs.toArray 0) := Heap.get?_push_size _ rfl
  have old : ∀ b o, s.heap.get? b = some o → (PySem.W.sortingHeap (s1.heap.push (seqObj "list" vs.toArray 0)) s1.heap.objs.size vs).get? b = some o := fun b o e =>
    PySem.W.sortingHeap_old (Nat.ne_of_lt (Heap.lt_size (k1 b o e))) (Heap.get?_push_of_some _ (k1 b o e))
  have each : ∀ (M : List (Addr × β)), (∀ p ∈ M, p ∈ L) → PySem.W.EachIs (fun (u : Value) (p : Addr × β) => u = Value.ref p.1) (M.map fun q => Value.ref q.1) M ∧
      PySem.W.EachIs (fun (u : Value) (p : Addr × β) => ∃ as, Reads (PySem.W.sortingHeap (s1.heap.push (seqObj "list" vs.toArray 0)) s1.heap.objs.size vs) u (enc p.2).data as) (M.map fun q => Value.ref q.1) M := by
    intro M
    induction M with
    | nil => exact fun _ => ⟨.nil, .nil⟩
    | cons p M ih =>
      intro h
      obtain ⟨a1, a2⟩ := ih fun y hy => h y (List.mem_cons_of_mem _ hy)
      obtain ⟨as, rd⟩ := hd p (h p (List.mem_cons_self ..))
      exact ⟨.cons rfl a1, .cons ⟨as, PyProof.Rows.Reads.keeps (fun _ _ => old _ _) rd⟩ a2⟩
  obtain ⟨ea, er⟩ := each L1 fun p hp => p1.mem_iff.mp hp
  rw [← p2] at ea er
  have pd := p1.map fun p : Addr × β => (enc p.2).data
  have hal1 : PySem.W.AllAlike (L1.map fun p => (enc p.2).data) := fun d hd1 d' hd2 => hal d (pd.mem_iff.mp hd1) d' (pd.mem_iff.mp hd2)
  have hk1 : PySem.W.Sortable (L1.map fun p => (enc p.2).data) := by
    rcases hk with z | z
    · exact .inl fun d h => z d (pd.mem_iff.mp h)
    · exact .inr fun d h => z d (pd.mem_iff.mp h)
  have S := PySem.W.SortsAt.data (prog := P) (w := w) (A := A.in1.in1) (s := { s1 with heap := PySem.W.sortingHeap (s1.heap.push (seqObj "list" vs.toArray 0)) s1.heap.objs.size vs }) (PySem.W.each_map (R := fun v d => ∃ as, Reads (PySem.W.sortingHeap (s1.heap.push (seqObj "list" vs.toArray 0)) s1.heap.objs.size vs) v d as) (fun p : Addr × β => (enc p.2).data) er) hal1 hk1
    (PySem.W.bound_map (A := A.in1.in1) fun p hp => by
      have := dp p (p1.mem_iff.mp hp)
      show A.units + 1 + 1 + _ < cLine
      omega)
  refine wpAny_bind (wpAny_holding (wpAny_call_entry slot_list_sort ⟨_, new, rfl⟩ entry_list_sort ?_ (args_list_sort _)))
  refine PySem.W.list_sort_vals (s := { s1 with heap := s1.heap.push (seqObj "list" vs.toArray 0) }) new S (by rw [len, sizeLine_eq]; omega) ⟨Value.none, rfl, ?_⟩
  have eo := PySem.W.sortVals_data false ea er hal1
  generalize PySem.W.sortVals (PySem.W.dataKind (PySem.W.sortingHeap (s1.heap.push (seqObj "list" vs.toArray 0)) s1.heap.objs.size vs) (L1.map fun p => (enc p.2).data)) false vs vs = out at eo ⊢
  obtain ⟨c, hc⟩ := sortedHeap_at (vs := vs) (out := out.toArray) new
  have refs : ∀ {us : List Value} {M : List (Addr × β)}, PySem.W.EachIs (fun (u : Value) (p : Addr × β) => u = Value.ref p.1) us M → us = M.map fun q => Value.ref q.1 := by
    intro us M h
    induction h with
    | nil => rfl
    | cons h1 _ ih => rw [h1, ih, List.map_cons]
  refine wpAny_pure ⟨_, rfl, q { s1 with heap := sortedHeap (s1.heap.push (seqObj "list" vs.toArray 0)) s1.heap.objs.size vs out.toArray } s1.heap.objs.size out.toArray c (L1.mergeSort (PySem.W.dataLe false fun p : Addr × β => (enc p.2).data)) (fun b u e => ?_) g1 o1 hz hc (refs eo) ((List.mergeSort_perm _ _).trans p1) (PySem.W.sort_pairwise (PySem.W.sortLe_total _ _ _) _)⟩
  have z := k1 b u e
  have lt := Heap.lt_size z
  show (sortedHeap (s1.heap.push (seqObj "list" vs.toArray 0)) s1.heap.objs.size vs out.toArray).get? b = some u
  rw [sortedHeap_old (Nat.ne_of_lt lt) (by rw [size_push']; exact Nat.lt_succ_of_lt lt)]
  exact Heap.get?_push_of_some _ z
end
section
variable {X : Cx} {β : Type} {enc : β → NK}
theorem Dp.isN {pins : List (Addr × Obj)} {σ : L2.St} {H : Hp} {s : Shared} {b : Addr} {k : NK} (I : Inv X pins σ H s) (h : Dp X.K H (.ref b) k.data) (d : k.depth ≤ 8) : IsN s.heap k b := by
  obtain ⟨as, rd⟩ := Dp.reads I _ _ (Value.ref b) h rfl
  exact ⟨of_reads _ _ _ rd, d⟩
/-- set(x), x a tuple or a list of keys -/
def rSetN (enc : β → NK) (K : PySem.W.Frag) (w : World) : List V → Hp → VK → Prop := fun vs H Q => ∃ (l : Addr) (ps : List (Addr × β)), vs = [V.ref l] ∧ (SqT K H l (ps.map fun p => V.ref p.1) ∨ SqL K H l (ps.map fun p => V.ref p.1)) ∧
  (∀ p ∈ ps, Dp K H (.ref p.1) (enc p.2).data ∧ (enc p.2).depth ≤ 8) ∧ ps.length < 64 ∧
  ∀ a (L : List (Addr × β)), H a = none → (∀ p ∈ L, p ∈ ps) → (∀ p ∈ ps, p.2 ∈ L.map Prod.snd) → (L.map Prod.snd).Nodup → Q (.ref a) (upd H a (KO w a (L.map fun p => (p.1, enc p.2))))
theorem cr_setN (inj : ∀ x y, enc x = enc y → x = y) (hc : X.calm = true) (hu : X.A.units + 64 < cLine) : CallR X (.type "set") (rSetN enc X.K X.w) := by
  intro pins s σ H vs us Q I r h
  obtain ⟨l, ps, rfl, ht, hk, h64, q⟩ := h
  rw [Vals.ref1 r]
  have e0 : (ps.map fun p => V.ref p.1) = ((ps.map fun p => (p.1, enc p.2)).map fun p => V.ref p.1) := by
    rw [List.map_map]
    rfl
  have key : ∀ p ∈ ps.map (fun p => (p.1, enc p.2)), IsN s.heap p.2 p.1 := fun p hp => by
    obtain ⟨x, hx, rfl⟩ := List.mem_map.mp hp
    exact Dp.isN I (hk x hx).1 (hk x hx).2
  have fin : ∀ (r : Value) (s' : Shared), Made X.w s (ps.map fun p => (p.1, enc p.2)) r s' → EP X pins σ Q r s' := fun r s' m => by
    obtain ⟨h', tk, L, es, ep, t, rfl, rfl, R, g, kp⟩ := m
    obtain ⟨L1, k1, k2⟩ := sub_of_map (fun p : Addr × β => (p.1, enc p.2)) ps L fun x hx => List.mem_of_mem_take (g.sub x hx)
    rw [k1] at R g
    have nd := R.one
    rw [List.map_map] at nd
    refine ⟨.ref s.heap.objs.size, upd H s.heap.objs.size (KO X.w s.heap.objs.size (L1.map fun p => (p.1, enc p.2))), I.laid (t' := tk) kp (Nat.le_refl _) (kO_new R.k0), rfl, q _ L1 (I.hok.fresh (Nat.le_refl _)) k2 (fun p hp => ?_) ?_⟩
    · have z := g.all (p.1, enc p.2) (by rw [List.take_length]; exact List.mem_map.mpr ⟨p, hp, rfl⟩)
      rw [List.map_map] at z
      obtain ⟨y, hy, e⟩ := List.mem_map.mp z
      exact List.mem_map.mpr ⟨y, hy, inj _ _ e⟩
    · exact List.pairwise_map.mpr ((List.pairwise_map.mp nd).imp fun ne e => ne (congrArg enc e))
  have len : (ps.map fun p => (p.1, enc p.2)).length < 64 := by
    rw [List.length_map]
    exact h64
  rcases ht with ht | ht
  · obtain ⟨its, rv, tp, _⟩ := I.tuple ht
    rw [e0] at rv
    exact set_tup (P := X.prog) (w := X.w) _ (I.ok.hd hc) tp (by simpa using refs_eq rv) key len (by omega) fin
  · obtain ⟨its, rv, tp, _⟩ := I.list ht
    rw [e0] at rv
    exact set_list (P := X.prog) (w := X.w) _ (I.ok.hd hc) tp.isList (by simpa using refs_eq rv) key len (by omega) fin
theorem vals_refs : ∀ (L : List (Addr × β)), Vals (L.map fun p => V.ref p.1) (L.map fun p => Value.ref p.1)
  | [] => .nil
  | p :: L => .cons rfl (vals_refs L)
/-- sorted(x), x such a set -/
def rSortN (enc : β → NK) (K : PySem.W.Frag) (w : World) : List V → Hp → VK → Prop := fun vs H Q => ∃ (a : Addr) (L : List (Addr × β)), vs = [V.ref a] ∧ H a = some (KO w a (L.map fun p => (p.1, enc p.2))) ∧
  (∀ p ∈ L, Dp K H (.ref p.1) (enc p.2).data ∧ (enc p.2).depth ≤ 8 ∧ (enc p.2).data.depth ≤ 60) ∧ PySem.W.AllAlike (L.map fun p => (enc p.2).data) ∧ PySem.W.Sortable (L.map fun p => (enc p.2).data) ∧
  ∀ (L' : List (Addr × β)) p, L'.Perm L → (L'.map Prod.snd).Nodup → L'.Pairwise (fun x y => PySem.W.dataLe false (fun p : Addr × β => (enc p.2).data) x y = true) → H p = none → Q (.ref p) (upd H p (.lst (L'.map fun q => V.ref q.1)))
theorem cr_sortN (hc : X.calm = true) (hu : X.A.units + 64 < cLine) : CallR X (.builtin "sorted") (rSortN enc X.K X.w) := by
  intro pins s σ H vs us Q I r h
  obtain ⟨a, L, rfl, ha, hk, hal, hs, q⟩ := h
  have R0 : K0 X.w s.heap a (L.map fun p => (p.1, enc p.2)) := (I.hok a _ ha).1
  obtain ⟨es, ep, t, R⟩ := R0.full fun p hp => by
    obtain ⟨x, hx, rfl⟩ := List.mem_map.mp hp
    exact Dp.isN I (hk x hx).1 (hk x hx).2.1
  rw [Vals.ref1 r]
  have few := R.few
  have one := R.one
  rw [List.length_map] at few
  rw [List.map_map] at one
  refine sorted_set R (I.ok.hd hc) (fun p hp => Dp.reads I _ _ (Value.ref p.1) (hk p hp).1 rfl) (fun p hp => (hk p hp).2.2) hal hs hu fun s' p out c L' k g o hp hg hi pm pw => ?_
  have len : (L'.map fun q => V.ref q.1).length ≤ sizeLine := by
    rw [List.length_map, pm.length_eq, sizeLine_eq]
    omega
  have hn : H p = none := I.hok.fresh hp
  have J : Inv X pins σ (upd H p (.lst (L'.map fun q => V.ref q.1))) { s with heap := s'.heap, gens := s'.gens, drawn := s'.drawn, toks := s'.toks } :=
    I.call (ch := []) (Un.laid k hp hn) (I.hok.laid k hp ⟨len, out.toList, c, by rw [hi]; exact vals_refs L', hg⟩) (by rw [g]; exact I.bare) (fun _ z => nomatch z)
  have e : s' = { s with heap := s'.heap, gens := s'.gens, drawn := s'.drawn, toks := s'.toks } := by
    obtain ⟨_, _, _, _, _⟩ := s'
    cases o
    rfl
  rw [e]
  refine ⟨.ref p, _, J, rfl, q L' p pm ?_ pw hn⟩
  refine (pm.map Prod.snd).nodup_iff.mpr ?_
  exact List.pairwise_map.mpr ((List.pairwise_map.mp one).imp fun ne e => ne (congrArg enc e))
end
end NB
-- CUT
/-! ### of our own: C(*y), C(), bool(x) -/
namespace Kit
open PySem PySem.Spec PyProof.Rows L2
/-- C(*y), the class by any expression that is a name -/
def tMakeS1 (K : PySem.W.Frag) (C : Addr) (sp : SpA) (E : XK) (tc te : TE) : TE := fun σ H Q => tc σ H fun y H0 => y = .ref C ∧ te σ H0 fun v H1 => ∃ a xs, v = V.ref a ∧ (SqT K H1 a xs ∨ SqL K H1 a xs) ∧ ∀ x dx, H1 x = Option.none → H1 dx = Option.none → dx ≠ x →
  sp (.ref x :: xs) [] (upd (upd H1 dx (.own x)) x (.ins C dx [])) (fun v H3 => v = .non ∧ Q (.ref x) H3) E
open StX in
theorem pe_makeS1 {X : Cx} {CX : CXT} {k : Nat} {f C : Addr} {sp : SpA} {E : XK} {x : Str} {p pos sp_ : Pos} {e : Expr} {tc te : TE} (hc : PE X (.Name x p) tc) (M : Mk X.K C f) (F : FnA X.prog X.w X.K X.mg X.base CX k f sp) (hr : Room (k + 1) X.A) (hx : Passes CX X E) (he : PE X e te)
    (hst : starEach [.Starred e sp_] X.env = [(true, eval e X.env)] := by rfl) : PE X (.Call (.Name x p) [.Starred e sp_] [] pos) (tMakeS1 X.K C sp E tc te) := by
  refine ⟨fun pins s σ H Q I h => ?_⟩
  refine wpAny_Call_Name_kw (thn (hc.run pins s σ H _ I h) fun u s0 ⟨y, H0, I0, ry, ey, q0⟩ => ?_)
  subst ey
  obtain rfl : u = Value.ref C := ry
  refine PySem.W.callWith_S (h₀ := X.base) I.ok.mod.kin M.kp (thn (he.run pins s0 σ H0 _ I0 q0) fun v s1 ⟨y, H1, I1, ry, a, xs, ey, hxs, q⟩ => ?_) hst
  subst ey
  obtain rfl : v = Value.ref a := ry
  exact star_any I1 hxs fun us s2 I2 rv => ⟨I2.kIn, run_makeA (ks := []) (ws := []) (zs := []) M F hr hx I2 rv .nil rfl q⟩
open PySem.Sem (wp) in
theorem meets_boolT (l : Addr) (items : Array Value) (hfit : (items.size : Int) < 2 ^ 63) :
    Meets (Builtin.«bool.__new__» ⟨[.type "bool", .ref l], []⟩) (fun _ R s => s.heap.IsTuple l items ∧ R (.ok (.ret (.bool (!items.isEmpty)))) { s with toks := s.toks + 1 + 1 }) :=
  Meets.of_wp fun prog w A R s hs => by
    obtain ⟨hl, hs⟩ := hs
    obtain ⟨hp, g, d, tk, os⟩ := s
    have f1 := F.conv_sub_bool
    have hl2 : IsTup hp l items := hl
    repeat (any_goals (first | assumption | (with_reducible refine truthy_tuple hl2 hfit ?_) | wp_step))
    all_goals first | exact ⟨_, rfl, hs⟩ | exact hs | skip
/-- bool(a tuple) -/
theorem call_boolT {X : Cx} : CallR X (.type "bool") (fun xs H Q => ∃ (a : Addr) (zs : List V), xs = [.ref a] ∧ SqT X.K H a zs ∧ Q (.bl (!zs.isEmpty)) H) := by
  intro pins s σ H xs us Q I r h
  obtain ⟨a, zs, rfl, hq, q⟩ := h
  obtain rfl := Vals.ref1 r
  obtain ⟨its, rv, pl, hz⟩ := I.tuple hq
  have hl := line63
  have hlen := rv.length
  refine call_bool_1 (meets_boolT a its.toArray (by simp only [List.size_toArray]; omega)) ⟨pl, rfl, ?_⟩
  exact ⟨.bl (!zs.isEmpty), H, I.tok _, by rw [isEmpty_of rv]; rfl, q⟩
theorem joinL_most (sep : List Nat) : ∀ ps : List (List Nat), (TL.joinL sep ps).length ≤ (ps.map List.length).sum + ps.length * sep.length
  | [] => Nat.zero_le _
  | [p] => by
    show p.length ≤ _
    simp
  | p :: q :: r => by
    have z := joinL_most sep (q :: r)
    show (p ++ (sep ++ TL.joinL sep (q :: r))).length ≤ _
    rw [List.length_append, List.length_append, List.map_cons, List.sum_cons, List.length_cons, Nat.succ_mul]
    omega
theorem join_most (sep : Str) (ys : List Str) : (Txt.join sep ys).length ≤ (ys.map (·.length)).sum + ys.length * sep.length := by
  have z := joinL_most (TL.tl sep) (ys.map TL.tl)
  have h := TL.tl_join sep ys
  have e : (Txt.join sep ys).length = (TL.joinL (TL.tl sep) (ys.map TL.tl)).length := by
    rw [TL.join_eq, ← h]
    rfl
  rw [e]
  rw [List.map_map, List.length_map] at z
  exact z
/-- C() -/
def tMake0A (C : Addr) (sp : SpA) (E : XK) (tc : TE) : TE := fun σ H Q => tc σ H fun y H0 => y = .ref C ∧ ∀ x dx, H0 x = Option.none → H0 dx = Option.none → dx ≠ x → sp [.ref x] [] (upd (upd H0 dx (.own x)) x (.ins C dx [])) (fun v H3 => v = .non ∧ Q (.ref x) H3) E
theorem pe_make0A {X : Cx} {CX : CXT} {k : Nat} {f C : Addr} {sp : SpA} {E : XK} {x : Str} {p pos : Pos} {tc : TE} (hc : PE X (.Name x p) tc) (M : Mk X.K C f) (F : FnA X.prog X.w X.K X.mg X.base CX k f sp) (hr : Room (k + 1) X.A) (hx : Passes CX X E) : PE X (.Call (.Name x p) [] [] pos) (tMake0A C sp E tc) := by
  refine ⟨fun pins s σ H Q I h => ?_⟩
  refine wpAny_Call_Name_kw (thn (hc.run pins s σ H _ I h) fun u s0 ⟨y, H0, I0, ry, ey, q0⟩ => ?_)
  subst ey
  obtain rfl : u = Value.ref C := ry
  exact PySem.W.callWith_K0 I0.kIn M.kp (run_makeA (ks := []) (us := []) (ws := []) (vs := []) (zs := []) M F hr hx I0 .nil .nil rfl q0)
/-- bool(a) -/
theorem meets_boolV {prog : Program} {w : World} (v : Value) : MeetsIn prog w (Builtin.«bool.__new__» ⟨[.type "bool", v], []⟩)
    (fun A R s => wpAny (model prog w) A.in1 (truthy v) (fun b s1 => R (.ok (.ret (.bool b))) s1) (fun e s1 => R (.error e) s1) s) :=
  .of_wp fun A R s h => by
    have f1 := F.conv_sub_bool
    unfold Builtin.«bool.__new__»
    generalize truthy = TR at h ⊢
    repeat (any_goals (first | assumption | (with_reducible refine wpAny_bind (wpAny_mono h (fun b s1 hb => ?_) fun _ _ z => z)) | wp_step))
    all_goals first | exact ⟨_, rfl, hb⟩ | skip
def rBoolO (C : Addr) (sp : Sp) (E : XK) : List V → Hp → VK → Prop := fun xs H Q => ∃ a, xs = [.ref a] ∧ InsAt H C a ∧ sp [.ref a] H (fun v H' => ∃ b, v = .bl b ∧ Q (.bl b) H') E
theorem call_boolO {X : Cx} {CX : CXT} {n : Nat} {C f : Addr} {fd : FuncData} {ps : List Str} {sp : Sp} {E : XK} (G : FnOk X.prog X.w X.K X.mg X.base CX n f fd ps sp) (hb : Binds X.K fd ps []) (hx : Passes CX X E) (hr : Room (n + 2) X.A) (o : OwnM X.K C "__bool__" f) : CallR X (.type "bool") (rBoolO C sp E) := by
  intro pins s σ H xs us Q I r h
  obtain ⟨a, rfl, ha, q⟩ := h
  obtain rfl := Vals.ref1 r
  obtain ⟨L, m, ox, od, hF, J⟩ := ins_here I ha
  refine callType_newIn F.called_bool F.newNe_bool (F.typeCall_bool_1 _) (F.newCall_bool_1 _) (fun obj => F.args_object_init_2 obj _) F.entry_bool_new (meets_boolV _) ?_
  show wpAny (model X.prog X.w) X.A.in1.in1 (truthy (.ref a)) _ _ _
  refine PySem.W.truthy_K hF I.ok.mod.kin J o.at_ o.fn (wpAny_mono (run_in G hr.in1.in1 I.ok.frames hb hx I (vs := [.ref a]) (.cons rfl .nil) q) (fun z s' y => ?_) fun _ _ y => y)
  obtain ⟨v, H', I', rv, b, rfl, q1⟩ := y
  cases rv
  exact ⟨rfl, .bl b, H', I', rfl, q1⟩

end Kit
-- CUT
/-! ### of our own: error classes over ValueError whose __init__ says super().__init__('..') and keeps one value -/
namespace KitE
open PySem PySem.W PySem.Calls PyProof.Rows
abbrev veI : Value := .builtin "ValueError.__init__"
/-- ValueError.__init__, bound to e -/
abbrev veB (e : Addr) : Obj := { cls := .type "method-wrapper", dict := none, data := .fields #[veI, .ref e], slots := #[] }
theorem ve_type : typeOf veI = pure (.type "wrapper_descriptor") := by
  show builtinType _ = _
  rw [builtinType_eq_fast]
  kernel_rfl
theorem ve_names : (kfb_private% "nameAndClass") veI = (pure (("__init__" : Str), Value.type "ValueError") : Sem (Str × Value)) := by kernel_rfl
section
variable {prog : Program} {w : World} {M : Model} {A : Around} {E : Value → Shared → Prop} {h : Heap} {g : Array GenState} {dr : Drawn} {tk : Nat} {os : OsState}
theorem ve_get {e C : Addr} {P : Fin → Shared → Prop} (ok : Looks M h (isInstance (.ref e) (.type "ValueError")) true) (z : P (.done (.ret (.ref h.objs.size))) ⟨h.push (veB e), g, dr, tk, os⟩) :
    wpAny M A (Builtin.«wrapper_descriptor.__get__» ⟨[veI, .ref e, .ref C], []⟩) P E ⟨h, g, dr, tk, os⟩ := by
  unfold Builtin.«wrapper_descriptor.__get__»
  refine wpAny_bind (wpAny_of_eq (a := (veI, some (.ref e), some (.ref C))) (by first | rfl | kernel_rfl) ?_)
  show wpAny M A ((kfb_private% "checkInstance") veI (.ref e) >>= fun _ => newFields "method-wrapper" [veI, .ref e] >>= fun r => ret r) P E _
  refine wpAny_bind ?_
  show wpAny M A ((kfb_private% "nameAndClass") veI >>= _) _ E _
  refine wpAny_bind (wpAny_of_eq ve_names ?_)
  show wpAny M A (isInstance (.ref e) (.type "ValueError") >>= _) _ E _
  exact wpAny_bind (ok.at (KFB.if_not rfl (wpAny_pure (wpAny_bind (wpAny_newObj_type (wpAny_pure z))))))
/-- super().name is ValueError.__init__ -/
theorem ve_super {so D e C : Addr} {l0 l : List Value} {K : Frag} {name : Str} {t0 : Tok} {P : Fin → Shared → Prop} (hs : h.get? so = some (ks_superObj D e C)) (op : Looks (model prog w) h (opaqueClassAbove (.ref C)) none)
    (mr : Looks (model prog w) h (mroOf (.ref C)) l0) (el : (l0.dropWhile (· != .ref D)).drop 1 = l) (X : K.In h) (al : alongIn K name l = some (some veI)) (ne : e ≠ C) (nn : (name == ("__class__" : Str)) = false)
    (ok : Looks (model prog w) h (isInstance (.ref e) (.type "ValueError")) true) (z : P (.done (.ret (.ref h.objs.size))) ⟨h.push (veB e), g, dr, tk, os⟩) :
    wpAny (model prog w) A (Builtin.«super.__getattribute__» ⟨[.ref so, .str name t0], []⟩) P E ⟨h, g, dr, tk, os⟩ := by
  have lk := ESX.slot_wd.lookup
  have ne2 : (Value.ref e == Value.ref C) = false := by simp [ne]
  have ty : Shared.TypeIs ⟨h, g, dr, tk, os⟩ veI "wrapper_descriptor" := ve_type
  have ed : (ks_superObj D e C).data = .fields #[.ref D, .ref e, .ref C] := rfl
  have x0 : (#[.ref D, .ref e, .ref C] : Array Value)[0]? = some (.ref D) := rfl
  have x1 : (#[.ref D, .ref e, .ref C] : Array Value)[1]? = some (.ref e) := rfl
  have x2 : (#[.ref D, .ref e, .ref C] : Array Value)[2]? = some (.ref C) := rfl
  unfold Builtin.«super.__getattribute__»
  repeat (first
    | (with_reducible refine wpAny_field hs ed x0 ?_)
    | (with_reducible refine wpAny_field hs ed x1 ?_)
    | (with_reducible refine wpAny_field hs ed x2 ?_)
    | (with_reducible refine ks_wpAny_notOpaque op ?_)
    | (with_reducible refine Looks.at mr ?_; rw [el])
    | (refine ks_forIn_along X (fun _ _ => rfl) rfl ?_ al)
    | (with_reducible refine wpAny_call_entry ESX.slot_wd ty ESX.entry_wd ?_ (ESX.args_wd _ _ _))
    | (with_reducible refine ve_get ok ?_)
    | (with_reducible refine ⟨_, rfl, ?_⟩)
    | (simp only [nn, ne2, Bool.or_false, Bool.false_eq_true, if_false])
    | wp_step
    | dsimp only)
  all_goals exact z
theorem ve_method {so D e C : Addr} {l0 l : List Value} {K : Frag} {name : Str} {pl : Sem Bool} {P : Value × List Value → Shared → Prop} (hs : h.get? so = some (ks_superObj D e C)) (op : Looks (model prog w) h (opaqueClassAbove (.ref C)) none)
    (mr : Looks (model prog w) h (mroOf (.ref C)) l0) (el : (l0.dropWhile (· != .ref D)).drop 1 = l) (X : K.In h) (al : alongIn K name l = some (some veI)) (ne : e ≠ C) (nn : (name == ("__class__" : Str)) = false)
    (ok : Looks (model prog w) h (isInstance (.ref e) (.type "ValueError")) true) (z : P (.ref h.objs.size, []) ⟨h.push (veB e), g, dr, tk + 1, os⟩) :
    wpAny (model prog w) A (getMethod (.ref so) name pl) P E ⟨h, g, dr, tk, os⟩ := by
  have lk := F.ks_slot_super_ga.lookup
  have cn := F.ks_canon_super_ga
  have ty : ∀ t', (⟨h, g, dr, t', os⟩ : Shared).TypeIs (.ref so) "super" := fun _ => ⟨_, hs, rfl⟩
  unfold getMethod
  refine wpAny_bind (wpAny_specialOf (ty _) lk ?_)
  show wpAny _ _ (if (Manifest.canonical "super.__getattribute__" != "object.__getattribute__") = true then _ else _) _ _ _
  rw [if_pos cn]
  unfold getAttr
  unfold getAttrBy
  refine wpAny_bind (wpAny_bind (wpAny_mkText (wpAny_holding (wpAny_bind (wpAny_typeOf (ty _) (wpAny_bind (wpAny_of_eq lk ?_)))))))
  show wpAny _ _ (getAttrByItsOwn (.ref so) (.str name tk) (.type "super") (.builtin "super.__getattribute__") true false) _ _ _
  unfold getAttrByItsOwn hookBefore
  unfold callGetattribute boundAndCalled
  refine wpAny_bind (wpAny_of_eq (show (if onTheHeap (.type "super") then typeLookup (.type "super") "__getattr__" else pure none) = pure Option.none from rfl) ?_)
  refine wpAny_bind (wpAny_attempt (wpAny_holding ?_))
  show wpAny _ _ (bindSpecial (.builtin "super.__getattribute__") (.ref so) >>= _) _ _ _
  refine wpAny_bind (wpAny_of_eq (F.ks_slot_super_ga.bind _) ?_)
  refine wpAny_mono (Q := fun v s' => v = .ref h.objs.size ∧ s' = ⟨h.push (veB e), g, dr, tk + 1, os⟩) (E := fun _ _ => False) ?_ (fun v s' hv => ?_) fun _ _ y => y.elim
  · exact wpAny_call_entry F.ks_slot_super_ga (ty _) F.ks_entry_super_ga (ve_super hs op mr el X al ne nn ok ⟨_, rfl, rfl, rfl⟩) (F.ks_gaArgs_super _ _)
  · obtain ⟨rfl, rfl⟩ := hv
    exact wpAny_pure (wpAny_pure z)
/-- the bound one is called -/
theorem ve_callWith {s : Shared} {pos : Pos} {u e : Addr} {env : Env} {a : Expr} {rest : List Expr} {P : Value → Shared → Prop}
    (k : wpAny M A (spliced (backTo pos (starEach (a :: rest) env))) (fun vs s1 => s1.heap.get? u = some (veB e) ∧ wpAny M A (call (.ref u) ([] ++ vs)) P E s1) E s)
    (hs : starEach (a :: rest) env = (false, eval a env) :: starEach rest env := by rfl) (np : (backTo pos (starEach rest env)).any (·.1) = false := by rfl) : wpAny M A (callWith pos (.ref u) [] (backTo pos (starEach (a :: rest) env)) []) P E s := by
  rw [hs] at k ⊢
  have pl : ((false, eval a env) :: backTo pos (starEach rest env)).any (·.1) = false := by
    show (false || (backTo pos (starEach rest env)).any (·.1)) = false
    rw [np]
    rfl
  have k2 : wpAny M A (evalArgs (.ref u) true (backTo pos ((false, eval a env) :: starEach rest env)) []) (fun x s1 => s1.heap.get? u = some (veB e) ∧ wpAny M A (call (.ref u) ([] ++ x.pos) x.kw) P E s1) E s := evalArgs_plain k
  unfold callWith
  refine wpAny_bind (wpAny_holding (wpAny_mono k2 (fun x s1 z => wpAny_bind (wpAny_standAt ?_)) fun _ _ y => y))
  obtain ⟨o1, c1⟩ := z
  have pl2 : (backTo pos ((false, eval a env) :: starEach rest env)).any (·.1) = false := pl
  simp only [pl2, List.any_nil, Bool.or_false]
  refine wpAny_bind (m := keeperOf (.ref u)) ?_
  unfold keeperOf
  refine wpAny_bind (wpAny_load o1 ?_)
  simp only [veB, show (Value.type "method-wrapper" != Value.type "method") = true by decide, if_true, show (Value.type "method-wrapper" == Value.type "builtin_function_or_method" || Value.type "method-wrapper" == Value.type "method-wrapper") = true by decide]
  exact wpAny_pure (wpAny_bind (wpAny_mono c1 (fun r s2 y => wpAny_bind (wpAny_holding (wpAny_point (wpAny_pure y)))) fun _ _ y => y))
theorem ve_call {u e C N t0 : Addr} {nm q : Str} {bs bm : List Value} {hd : Bool} {sn : List Str} {sub : List Value} {ab : Bool} {col : Option Bool} {dd : Option Addr} {k0 k1 k2 k3 k5 : Option Value} {vs : List Value} {P : Value → Shared → Prop}
    (hC : h.get? C = some (excClassObj nm q C N bs bm hd sn sub ab col dd k0 k1 k2 k3 k5 "ValueError.__new__")) (he : h.get? e = some (HandSPX.excO C t0)) (hu : h.get? u = some (veB e)) (n : vs.length ≤ sizeLine)
    (z : ∀ h' t1, (∀ b o, b ≠ e → h.get? b = some o → h'.get? b = some o) → h'.get? e = some (HandSPX.excO C t1) → P .none ⟨h', g, dr, tk, os⟩) : wpAny (model prog w) A (call (.ref u) vs) P E ⟨h, g, dr, tk, os⟩ := by
  refine wpAny_call (codeAny_of_tree ?_)
  show wpAny _ A.in1 (callAny (.ref u) ⟨vs, []⟩) _ _ _
  simp only [callAny]
  refine wpAny_bind (wpAny_load hu ?_)
  simp only [veB, if_true, show (Value.type "method-wrapper" == Value.type "method" || Value.type "method-wrapper" == Value.type "builtin_function_or_method" || Value.type "method-wrapper" == Value.type "method-wrapper") = true by decide]
  refine KFB.if_so (by decide) (wpAny_bind (ESX.check_bound F.excBase_ValueError hC he rfl ?_))
  refine wpAny_bind (wpAny_pure (wpAny_pure ⟨Code.quiet_builtin _ (by decide +kernel), codeAny_builtin F.excBase_ValueError.initEntry ?_⟩))
  rw [Around.under_plainId F.excBase_ValueError.init.plain _]
  wp_walk
  refine z _ h.objs.size (fun b o nb ho => ?_) ?_
  · rw [Heap.get?_update_other _ _ (Ne.symm nb)]
    exact Heap.get?_push_of_some _ ho
  · rw [Heap.get?_update_self _ (Heap.get?_push_of_some _ he) rfl]
    rfl
end
end KitE
namespace Kit
open PySem PySem.Spec PyProof.Rows L2
/-- what is known of an error class C over ValueError, its __init__ at f: it passes a text on and keeps its argument x as fld -/
structure SupI (P : Program) (K : PySem.W.Frag) (mg : Str → Option Value) (st : Stmt) (qual : Str) (C f : Addr) (fd : FuncData) (x fld : Str) : Prop where
  body : ∃ (p0 p1 p2 p3 p4 p5 p6 p7 p8 p9 : Pos) (msg : Str) (j : Nat), defBody st = [.Expr (.Call (.Attribute (.Call (.Name "super" p0) [] [] p1) "__init__" p2) [.Constant (.str msg) j p3] [] p4) p5, .Assign [.Attribute (.Name "self" p6) fld p7] (.Name x p8) p9] ∧
    ∀ (L cda cc : Addr), ∃ pl : Sem Bool, eval (.Call (.Attribute (.Call (.Name "super" p0) [] [] p1) "__init__" p2) [.Constant (.str msg) j p3] [] p4) (PySem.W.ksEnv qual (defScope st) L f (.ref cda) cc) = (do
      let ov ← attributeBase (.Call (.Name "super" p0) [] [] p1) "__init__" (PySem.W.ksEnv qual (defScope st) L f (.ref cda) cc) (eval (.Call (.Name "super" p0) [] [] p1) (PySem.W.ksEnv qual (defScope st) L f (.ref cda) cc))
      standAt p2.atName
      let (g, first) ← holding [ov] (getMethod ov "__init__" pl)
      callWith p4 g first (backTo p4 (starEach [.Constant (.str msg) j p3] (PySem.W.ksEnv qual (defScope st) L f (.ref cda) cc))) [])
  fn : ∃ (oc : Value) (od : Option Addr) (kV doc pm : Value) (an : Option Addr) (cda cc : Addr) (ct : Value) (sl : Array (Option Value)) (c1 c2 : Value) (d1 d2 : Option Addr) (l1 l2 : Array (Option Value)) (vs : Array Value) (file : Str) (tf : Tok),
    fd = PySem.W.ksFn "__init__" qual (defArgs st) (defBody st) (defScope st) .none kV doc pm an (.ref cda) ct cc ∧ K.lookup f = some ⟨oc, od, .func fd, sl⟩ ∧ PySem.W.codeIn K (.ref cda) qual = true ∧
    K.lookup cda = some ⟨c1, d1, .fields vs, l1⟩ ∧ vs[2]? = some (.str file tf) ∧ ((P.main.file : Str) == file) = true ∧ K.lookup cc = some ⟨c2, d2, .cell (some (.ref C)), l2⟩
  params : ∃ a1, ((defArgs st).posonlyargs ++ (defArgs st).args).head? = some a1 ∧ a1.arg = "self"
  top : (P.main.scope.names.lookup ("super" : Str)).isSome = false
  sup : mg "super" = none
  any : PySem.W.nsIn K cStatics "thirdparty.any" = some none
  init : PySem.W.ks_superIn K C C "__init__" = some (some KitE.veI)
  own : PySem.W.mroIn K C (.ref C) = some true
  ve : PySem.W.mroIn K C (.type "ValueError") = some true
  cls : OexC K C
  fld : PySem.W.findIn K (.ref C) fld = some none
  s1 : (defScope st).names.lookup ("super" : Str) = some .globalImplicit
  s2 : (defScope st).names.lookup ("__class__" : Str) = some .free
  s3 : (defScope st).names.lookup ("self" : Str) = some .local
  s4 : (defScope st).names.lookup x = some .local
  s5 : (defScope st).kind = .function
  s6 : (defScope st).isCoroutine = false
  s7 : (defScope st).isGenerator = false
  s8 : ∀ y ∈ (defScope st).names, y.2 ≠ .cell
  s9 : x ≠ "self"
  s10 : (x == ("__debug__" : Str)) = false
/-- what such an __init__ does -/
def sp_sup (C : Addr) (fld : Str) : Sp := fun vs H Q _ => ∃ (a : Addr) (v : V), vs = [.ref a, v] ∧ H a = some (exo a C none) ∧ ∀ d, H d = none → d ≠ a → Q .non (upd (upd H d (exd d [(fld, v)])) a (exo a C (some d)))
theorem fn_sup {P : Program} {w : World} {K : PySem.W.Frag} {mg : Str → Option Value} {base : Heap} {st : Stmt} {qual : Str} {C f : Addr} {fd : FuncData} {x fld : Str} (S : SupI P K mg st qual C f fd x fld) : FnOk P w K mg base CX0 1 f fd ["self", x] (sp_sup C fld) := by
  refine ⟨fun vs H Q E h => ?_, fun A outer s H args us vs Q E hr e0 b r h => ?_⟩
  · obtain ⟨a, v, rfl, _⟩ := h
    rfl
  obtain ⟨a, v, rfl, ea, q⟩ := h
  cases r with
  | cons ra r1 =>
  cases r1 with
  | @cons _ uv _ _ rv r2 =>
  cases r2
  cases ra
  obtain ⟨oc, od, kV, doc, pm, an, cda, cc, ct, sl, c1, c2, d1, d2, l1, l2, vs, file, tf, rfl, lk, hcd, lcda, hvs, hfile, lcc⟩ := S.fn
  obtain ⟨p0, p1, p2, p3, p4, p5, p6, p7, p8, p9, msg, j, eb, eve⟩ := S.body
  obtain ⟨pl, eve⟩ := eve s.heap.objs.size cda cc
  obtain ⟨a1, hp, ea1⟩ := S.params
  have KX : K.In s.heap := e0.mod.kin.keeps fun b o e => (e0.bs b o e).1
  have lim : s.heap.NoLimit := e0.mod.nolimit.keeps fun b o e => (e0.bs b o e).1
  have gl : s.heap.Ns mainGlobals mg := e0.mod.glob.keeps fun b o e => (e0.bs b o e).1
  obtain ⟨mb, bl0, hmb⟩ := e0.mod.blt
  have bl : s.heap.Ns builtinsNs mb := bl0.keeps fun b o e => (e0.bs b o e).1
  refine ks_codeAny_call_defAt hr.depth (KX _ _ lk) rfl lim (PySem.W.codeRec_of KX hcd) rfl b S.s8 (fun y hy => ?_) (fun h0 hns k0 => ?_) S.s6 S.s7 S.s5
  · simp only [List.zip_cons_cons, List.zip_nil_right, List.mem_cons, List.not_mem_nil, or_false] at hy
    rcases hy with rfl | rfl
    · exact S.s3
    · exact S.s4
  have K0 : K.In h0 := fun b o z => k0 _ _ (KX b o z)
  have n : (("self" : Str) == x) = false := by
    rw [beq_eq_false_iff_ne]
    exact Ne.symm S.s9
  have v1 : (fun y => ([(("self" : Str), Value.ref a), (x, uv)]).reverse.lookup y) "self" = some (.ref a) := by simp [List.lookup, n]
  have v2 : (fun y => ([(("self" : Str), Value.ref a), (x, uv)]).reverse.lookup y) x = some uv := by simp [List.lookup]
  have hns : h0.Ns s.heap.objs.size (fun y => ([(("self" : Str), Value.ref a), (x, uv)]).reverse.lookup y) := hns
  have hC : ∃ nm q N bs bm sn sub ab col dd k0 k1 k2 k3 k5, K.lookup C = some (excClassObj nm q C N bs bm true sn sub ab col dd k0 k1 k2 k3 k5 "ValueError.__new__") ∧ PySem.HandSPX.refsVE bm = true := S.cls.cls
  obtain ⟨nm, qn, N, bs, bm, sn, sub, ab, col, dd, k1, k2, k3, k4, k5, hC, hbm⟩ := hC
  have hcl : PySem.W.clsIn K C = some { name := nm, bases := bs, mro := .ref C :: bm, ns := N, qualname := qn, hasDict := true, slotNames := sn, subclasses := sub, abstract := ab, collection := col, hasDel := false } := by
    unfold PySem.W.clsIn
    rw [hC] <;> rfl
  have hi : interactive (PySem.W.ksEnv qual (defScope st) s.heap.objs.size f (.ref cda) cc) = false := by
    unfold interactive
    simp [S.s5]
  have hsw : swapsWith (.Call (.Attribute (.Call (.Name "super" p0) [] [] p1) "__init__" p2) [.Constant (.str msg) j p3] [] p4) none p5.line (PySem.W.ksEnv qual (defScope st) s.heap.objs.size f (.ref cda) cc) = pure false := by rfl
  obtain ⟨t0, oa⟩ := exo_at e0.hok ea
  obtain ⟨hp0, gg, dr, tk, os⟩ := s
  show PySem.wpAt (model P w) (A.deeper (PySem.W.ksEnv qual (defScope st) hp0.objs.size f (.ref cda) cc)) (.func (defBody st) (PySem.W.ksEnv qual (defScope st) hp0.objs.size f (.ref cda) cc)) (execs (defBody st) (PySem.W.ksEnv qual (defScope st) hp0.objs.size f (.ref cda) cc)) _ _ _
  rw [eb]
  refine ks_wpAt_execs_cons (ks_wpAt_Expr_any (ks_wpAt_MethodCall (pl := pl) ?_ eve) hi hsw)
  refine ks_wpAt_super_base S.s1 S.s2 (by decide) rfl (K0 _ _ lk) rfl hp rfl (K0 _ _ lcda) rfl hvs hfile S.top ?_
  refine PySem.W.ks_loadName_global S.s5 S.s1 (Calls.loadGlobal_builtin (gl.keeps k0) S.sup (bl.keeps k0) ((hmb "super" (by decide)).trans (by first | boot_by_name | rfl | kernel_rfl)) ⟨rfl, ?_⟩)
  refine wpAny_loadName_free S.s5 S.s2 rfl ⟨_, K0 _ _ lcc, rfl⟩ ?_
  rw [ea1]
  refine wpAny_loadName_local S.s5 S.s3 hns v1 ?_
  refine ks_wpAny_isType_cls (K0 _ _ hC) rfl ⟨rfl, ?_⟩
  have oa0 := k0 _ _ oa
  refine ks_wpAny_call_super (K0 _ _ hC) rfl oa0 rfl (fun c z => by cases z) (PySem.W.looks_mroIn K0 S.own) (fun h1 hso kk1 => ?_)
  have K1 : K.In h1 := fun b o z => kk1 b o (K0 b o z)
  have oa1 := kk1 _ _ oa0
  have ac : a ≠ C := fun z => by
    rw [z, K1 _ _ hC] at oa1
    cases oa1
  have al : PySem.W.alongIn K "__init__" bm = some (some KitE.veI) := by
    have z := S.init
    unfold PySem.W.ks_superIn at z
    rw [hcl, Option.bind_some, PySem.ESX.drop_own] at z
    exact z
  have I1 : PySem.W.InstAt h1 a (PySem.HandSPX.excO C t0) C none := ⟨oa1, rfl, rfl, trivial⟩
  refine KitE.ve_method (l0 := .ref C :: bm) hso (PySem.W.looks_opaque K1 S.any) ((PySem.W.looks_clsIn K1 hcl).andThen .now) (PySem.ESX.drop_own C bm) K1 al ac (by decide) (I1.type.andThen (PySem.W.looks_mroIn K1 S.ve)) ?_
  refine KitE.ve_callWith (e := a) ?_
  show wpAny _ _ (spliced ((false, eval (.Constant (.str msg) j p3) (PySem.W.ksEnv qual (defScope st) hp0.objs.size f (.ref cda) cc)) :: backTo p4 (starEach [] (PySem.W.ksEnv qual (defScope st) hp0.objs.size f (.ref cda) cc)))) _ _ _
  refine Calls.spliced_cons (Calls.Constant_str (Calls.spliced_nil ⟨Heap.get?_push_at rfl rfl, ?_⟩))
  have oa2 : (h1.push (KitE.veB a)).get? a = some (PySem.HandSPX.excO C t0) := Heap.get?_push_of_some _ oa1
  refine KitE.ve_call (Heap.get?_push_of_some _ (K1 _ _ hC)) oa2 (Heap.get?_push_at rfl rfl) (by show 1 ≤ sizeLine; decide) (fun h3 t1 kk3 oa3 => ?_)
  have keep3 : ∀ b o, b ≠ a → hp0.get? b = some o → h3.get? b = some o := fun b o nb z => kk3 b o nb (Heap.get?_push_of_some _ (kk1 _ _ (k0 _ _ z)))
  have Ka : ∀ {b : Addr} {o : Obj}, K.lookup b = some o → b ≠ a := fun {b o} z nb => by
    have y := (e0.bs b o (e0.mod.kin b o z)).2
    rw [nb, ea] at y
    cases y
  have K3 : K.In h3 := fun b o z => kk3 b o (Ka z) (Heap.get?_push_of_some _ (K1 _ _ z))
  have ah : a < hp0.objs.size := Heap.lt_size oa
  have hns3 : h3.Ns hp0.objs.size (fun y => ([(("self" : Str), Value.ref a), (x, uv)]).reverse.lookup y) := by
    obtain ⟨o, es, ep, z, r⟩ := hns
    exact ⟨o, es, ep, kk3 _ _ (Nat.ne_of_gt ah) (Heap.get?_push_of_some _ (kk1 _ _ z)), r⟩
  refine ks_wpAt_execs_cons (wpAt_of_wpAny (plainObj_wpAny_Assign_Attribute ?_))
  refine PySem.ESX.ldL hns3 v2 ?_ S.s5 S.s4 S.s10
  refine PySem.ESX.ldL hns3 v1 ?_ S.s5 S.s3
  refine PySem.W.set_plain K3 (ox := PySem.HandSPX.excO C t1) (od := none) ⟨oa3, rfl, rfl, trivial⟩ S.cls.sa ?_
  refine PySem.HandSPX.exc_osa K3 oa3 hcl (show PySem.HandSPX.refsVE (.ref C :: bm) = true from hbm) rfl S.fld (fun h4 tk4 dx kk4 dn dne oa4 hn4 => ?_)
  refine wpAt_of_wpAny (wpAny_execs_nil ?_)
  have keep4 : ∀ b o, b ≠ a → hp0.get? b = some o → h4.get? b = some o := fun b o nb z => kk4 b o nb (keep3 b o nb z)
  have big : hp0.objs.size ≤ dx := by
    obtain ⟨o, es, ep, z, r⟩ := hns3
    exact Nat.le_of_lt (Nat.lt_of_lt_of_le (Heap.lt_size z) dn)
  have nd : H dx = none := e0.hok.fresh big
  have old : ∀ {b : Addr} {o : Obj}, hp0.get? b = some o → b ≠ dx := fun {b o} z => Nat.ne_of_lt (Nat.lt_of_lt_of_le (Heap.lt_size z) big)
  have off : ∀ {b : Addr}, H b = none → b ≠ a := fun {b} z y => by
    rw [y, ea] at z
    cases z
  have same : ∀ {b : Addr} {u : HO}, b ≠ a → H b = some u → upd (upd H dx (exd dx [(fld, v)])) a (exo a C (some dx)) b = some u := fun {b u} h1 h2 => by
    rw [upd_ne h1, upd_ne (ne_of_none h2 nd)]
    exact h2
  refine ⟨.non, _, rfl, e0.bare, ⟨fun b o z y _ _ => keep4 b o (off y) z, fun b o z y _ _ => ⟨o.slots, keep4 b o (off y) z⟩, fun b o z y _ => ?_, fun b o z _ => ?_, fun b xs z => same (at_ne ea z exo_tup) z, fun b o u z => same (at_ne ea z exo_frz) z, fun b ps z => ⟨#[], ?_⟩⟩, fun b o z => ?_, rfl, q dx nd dne⟩
  · rw [upd_ne (off y), upd_ne (old z)]
    exact y
  · by_cases nb : b = a
    · rw [nb]
      exact ⟨_, oa4⟩
    · exact ⟨o, keep4 b o nb z⟩
  · rw [Array.append_empty]
    exact same (at_ne ea z exo_tbl) z
  · have z : upd (upd H dx (exd dx [(fld, v)])) a (exo a C (some dx)) b = some o := z
    by_cases nb : b = a
    · rw [nb, upd_same] at z
      cases z
      rw [nb]
      exact exo_ok oa4
    · rw [upd_ne nb] at z
      by_cases eb2 : b = dx
      · rw [eb2, upd_same] at z
        cases z
        rw [eb2]
        exact exd_ok hn4 (relO_put (fs := []) rv fun g => True.intro)
      · rw [upd_ne eb2] at z
        refine (e0.hok b o z).stay (fun c u hc y => keep4 c u ?_ y) (fun c hc => same (at_ne ea hc exo_own) hc) fun c xs hc => same (at_ne ea hc exo_tup) hc
        rcases hc with hc | hc
        · rw [hc]
          exact nb
        · exact at_ne ea hc exo_own
end Kit
-- CUT
/-! ### of our own: several except clauses, some with a name; a kept value of a caught error; the making of such errors -/
namespace Kit
open PySem PySem.Spec PyProof.Rows L2
/-- an except clause: its class, its suite's reading, the slot of its name -/
structure Cla where
  c : Value
  as : Option Nat
  ts : Addr → Value → Option Addr → TS
/-- what follows a suite: its name is gone -/
def endsAt (D : Ends) : Option Nat → Ends
  | none => D
  | some i => { nx := fun σ H => D.nx (σ.set i none) H, rt := D.rt, bk := fun σ H => D.bk (σ.set i none) H, ct := fun σ H => D.ct (σ.set i none) H }
def startAt (σ : L2.St) (a : Addr) : Option Nat → L2.St
  | none => σ
  | some i => σ.set i (some (.ref a))
/-- what is wished of an error of the body -/
def wMix (K : PySem.W.Frag) (Wout : WX) (D : Ends) : List Cla → WX
  | [] => Wout
  | m :: r => fun cls d σ H => ∃ b, PySem.W.exmOne K cls m.c = some b ∧ (b = true → ∀ a, H a = none → m.ts a cls d (endsAt D m.as) (startAt σ a m.as) H) ∧ (b = false → wMix K Wout D r cls d σ H)
inductive MixOk (X : Cx) : List ExceptHandler → List Cla → Prop
  | nil : MixOk X [] []
  | one {y : Str} {c : Value} {ts : Addr → Value → Option Addr → TS} {b : Stmt} {bs : List Stmt} {np hp : Pos} {hs : List ExceptHandler} {l : List Cla} (hc : Names X y c)
      (su : ∀ (a : Addr) (oe : Obj) (cls : Value) (d : Option Addr) (pn : List (Addr × Obj)), Zc cls d oe → (∃ vs, oe.data = .fields vs) → PSs (X.suite a ((a, oe) :: pn)) (b :: bs) (ts a cls d)) (r : MixOk X hs l) :
      MixOk X (.ExceptHandler (some (.Name y np)) none (b :: bs) hp :: hs) (⟨c, none, ts⟩ :: l)
  | as {y n : Str} {i : Nat} {c : Value} {ts : Addr → Value → Option Addr → TS} {b : Stmt} {bs : List Stmt} {np hp : Pos} {hs : List ExceptHandler} {l : List Cla} (hi : X.N[i]? = some n) (hl : X.env.kindOf n = some .local) (hc : Names X y c)
      (su : ∀ (a : Addr) (oe : Obj) (cls : Value) (d : Option Addr) (pn : List (Addr × Obj)), Zc cls d oe → (∃ vs, oe.data = .fields vs) → PSs (X.suite a ((a, oe) :: pn)) (b :: bs) (ts a cls d)) (r : MixOk X hs l) :
      MixOk X (.ExceptHandler (some (.Name y np)) (some n) (b :: bs) hp :: hs) (⟨c, some i, ts⟩ :: l)
section
variable {X : Cx} {body : List Stmt} {h0 : ExceptHandler} {hs : List ExceptHandler} {l : List Cla} {pos : Pos} {tb : WX → TS} {Wout : WX}
theorem ps_try_mix (st : X.stack = X.env :: X.outer) (fr : X.env.frame = some X.env.locals) (nd : X.N.Nodup) (tk : Takes X Wout)
    (hb : ∀ (W : WX) (pn : List (Addr × Obj)) (xe : Value → Shared → Prop), Takes (X.tr pn xe) W → PassesOwn (model X.prog X.w) X.A X.env xe → PSs (X.tr pn xe) body (tb W)) (hh : MixOk X (h0 :: hs) l) : PS X (.Try body (h0 :: hs) [] [] pos) (fun D σ H => tb (wMix X.K Wout D l) D σ H) := by
  refine ⟨fun pins s σ H D I h => ?_⟩
  have ok := I.ok
  have frs0 : X.A.frames = some (X.env :: X.outer) := by
    rw [ok.frames, st]
  refine wpAny_Try_except ?_
  refine wpAny_mono ((hb (wMix X.K Wout D l) (X.pn ++ pins) (fun e s1 => wpAny (model X.prog X.w) X.A (noteFrame e X.env) (fun _ s2 => wpAny (model X.prog X.w) X.A (setFlight e none) (fun _ s3 => wpAny (model X.prog X.w) X.A (handleBy e X.env (h0 :: hs)) (SP X pins D) X.xe s3) X.xe s2) X.xe s1)
    (fun u s' z => ?_) PassesOwn.looking).run [] s σ H D (I.toTry _) h) (fun f s1 z => ?_) fun e s1 z => z
  · obtain ⟨a, B, sI, pins', σ', H', cls, d, rfl, J', nb, up, sky, na, os, ag, w⟩ := z
    have J : Inv X pins σ' H' sI := J'.ofTry ok
    have sky2 : Sky B (X.env :: X.outer) a (Zc cls d) X.env.locals s'.heap := by
      rw [← st]
      exact sky
    show wpAny (model X.prog X.w) X.A (noteFrame (.ref a) X.env) _ _ _
    refine Sky.land Zc.steady frs0 fr sky2 fun h3 fl3 up3 => ?_
    have J3 : Inv X pins σ' H' { s' with heap := h3 } := J.landed nb fl3.1 (up.trans up3) os ag
    obtain ⟨o3, vs3, he3, hz3, hd3⟩ := fl3.there
    have nfr : a ∉ frs (X.env :: X.outer) := fun m => by
      obtain ⟨_, o', e', y⟩ := fl3.2.2.1.mem m
      rw [he3] at e'
      cases e'
      exact y _ hd3
    have nL : a ≠ X.env.locals := fun z => nfr (List.mem_filterMap.mpr ⟨X.env, List.mem_cons_self, by rw [fr, z]⟩)
    have nF : a ∉ X.fs := fun m => by
      obtain ⟨e, he, y⟩ := List.mem_filterMap.mp m
      exact nfr (List.mem_filterMap.mpr ⟨e, List.mem_cons_of_mem _ he, y⟩)
    have S3 := J3.suite he3 hd3 na nL nF
    have LT : PySem.W.Looks (model X.prog X.w) h3 (typeOf (.ref a)) cls := fun A Q E s k y => wpAny_typeOf_ref (k _ _ he3) (by rw [hz3.1]; exact y)
    have test : ∀ {y : Str} {c : Value} {np : Pos} {Q : Value → Shared → Prop} {E : Value → Shared → Prop}, Names X y c → Q c { s' with heap := h3 } → wpAny (model X.prog X.w) (X.A.mark (some (.ref a))) (eval (.Name y np) X.env) Q E { s' with heap := h3 } := fun {y c np Q E} hc q => by
      obtain ⟨g1, g2, g3 | ⟨g3, g4, g5⟩⟩ := hc
      · exact ld_glob (X := X.suite a ((a, o3) :: (X.pn ++ pins))) S3 g1 g3 q g2
      · exact ld_blt (X := X.suite a ((a, o3) :: (X.pn ++ pins))) S3 g1 g3 g4 q g5 g2
    have go : ∀ {hs' : List ExceptHandler} {l' : List Cla}, MixOk X hs' l' → wMix X.K Wout D l' cls d σ' H' → wpAny (model X.prog X.w) X.A (handleBy (.ref a) X.env hs') (SP X pins D) X.xe { s' with heap := h3 } := by
      intro hs' l' hk
      induction hk with
      | nil =>
        intro w
        refine wpAny_handleBy_nil ?_
        obtain ⟨k1, k2, k3, oe, vs, T, oT, ts', he, hz, hd, x1, hr⟩ := id fl3
        unfold PySem.passOn
        refine wpAny_bind (wpAny_field he hd x1 ?_)
        rw [if_neg (show ¬ ((Value.ref T == Value.none) = true) from by simp)]
        have fin : wpAny (model X.prog X.w) X.A (setFlight (.ref a) X.env.frame) (fun _ s4 => wpAny (model X.prog X.w) X.A (throw (.ref a) : Sem Flow) (SP X pins D) X.xe s4) X.xe { s' with heap := h3 } := by
          rw [fr]
          refine HandSPX.setFlight_upZ fl3 fun h4 f4 up4 => wpAny_throw (tk _ _ ⟨a, B, sI, pins, σ', H', cls, d, rfl, J, nb, (up.trans up3).trans up4, .inr (.inr ?_), na, os, ag, w⟩)
          rw [st]
          exact f4
        first
          | exact wpAny_bind (wpAny_pure (wpAny_bind fin))
          | exact wpAny_bind fin
      | @one y c ts b bs np hp hs2 l2 hc su r ih =>
        intro w
        obtain ⟨t, t1, yes, no⟩ := w
        refine wpAny_handleBy_cons (codeAny_handlers_test ?_) (by intro q; cases q)
        refine test hc ((PySem.W.exm_one (M := model X.prog X.w) J3.kIn LT t1).here ?_)
        cases t with
        | true =>
          refine codeAny_handlers_suite (HandSPX.lands_againZ fl3 fun h4 fl4 up4 => ?_)
          have J4 : Inv X pins σ' H' { s' with heap := h4 } := J.landed nb fl4.1 ((up.trans up3).trans up4) os ag
          obtain ⟨o4, vs4, he4, hz4, hd4⟩ := fl4.there
          have S4 := J4.suite he4 hd4 na nL nF
          refine wpAny_mono ((su a o4 cls d (X.pn ++ pins) hz4 ⟨_, hd4⟩).run [] _ _ H' _ S4 (yes rfl a na)) (fun f s6 z => ?_) (fun _ _ z => False.elim z)
          cases f with
          | next => exact let ⟨_, _, S6, q6⟩ := z; ⟨_, _, S6.unsuite ok, q6⟩
          | brk => exact let ⟨_, _, S6, q6⟩ := z; ⟨_, _, S6.unsuite ok, q6⟩
          | cont => exact let ⟨_, _, S6, q6⟩ := z; ⟨_, _, S6.unsuite ok, q6⟩
          | ret u => exact let ⟨_, _, _, S6, r6, q6⟩ := z; ⟨_, _, _, S6.unsuite ok, r6, q6⟩
        | false =>
          show wpAny _ X.A (handleBy (.ref a) X.env hs2) _ _ _
          exact ih (no rfl)
      | @as y n i c ts b bs np hp hs2 l2 hi hl hc su r ih =>
        intro w
        obtain ⟨t, t1, yes, no⟩ := w
        refine wpAny_handleBy_cons (codeAny_handlers_test ?_) (by intro q; cases q)
        refine test hc ((PySem.W.exm_one (M := model X.prog X.w) J3.kIn LT t1).here ?_)
        cases t with
        | true =>
          refine codeAny_handlers_suite_as (HandSPX.lands_againZ fl3 fun h4 fl4 up4 => ?_)
          have J4 : Inv X pins σ' H' { s' with heap := h4 } := J.landed nb fl4.1 ((up.trans up3).trans up4) os ag
          obtain ⟨o4, vs4, he4, hz4, hd4⟩ := fl4.there
          have S4 := J4.suite he4 hd4 na nL nF
          have hln : X.env.scope.names.lookup n = some .local := hl
          refine store_ok (X := X.suite a ((a, o4) :: (X.pn ++ pins))) (v := .ref a) S4 nd hi (.inl hln) rfl (fun s5 S5 => ?_) (.inr hln)
          refine wpAny_mono ((su a o4 cls d (X.pn ++ pins) hz4 ⟨_, hd4⟩).run [] s5 _ H' _ S5 (yes rfl a na)) (fun f s6 z => ?_) (fun _ _ z => False.elim z)
          have gone : ∀ {σ6 : L2.St} {H6 : Hp} {Q : Shared → Prop}, Inv (X.suite a ((a, o4) :: (X.pn ++ pins))) [] σ6 H6 s6 → (∀ s7, Inv X pins (σ6.set i none) H6 s7 → Q s7) → wpAny (model X.prog X.w) X.A (do bindName X.env n .none; unbindBehindTheSuite X.env n hp) (fun _ s7 => Q s7) X.xe s6 :=
            fun S6 q => gone_ok (S6.unsuite ok) nd hi hl q
          cases f with
          | next => exact let ⟨_, _, S6, q6⟩ := z; gone S6 fun s7 J7 => ⟨_, _, J7, q6⟩
          | brk => exact let ⟨_, _, S6, q6⟩ := z; gone S6 fun s7 J7 => ⟨_, _, J7, q6⟩
          | cont => exact let ⟨_, _, S6, q6⟩ := z; gone S6 fun s7 J7 => ⟨_, _, J7, q6⟩
          | ret u => exact let ⟨_, _, _, S6, r6, q6⟩ := z; gone S6 fun s7 J7 => ⟨_, _, _, J7, r6, q6⟩
        | false =>
          show wpAny _ X.A (handleBy (.ref a) X.env hs2) _ _ _
          exact ih (no rfl)
    exact go hh w
  · cases f with
    | next => exact let ⟨_, _, J', q⟩ := z; wpAny_execs_nil ⟨_, _, J'.ofTry ok, q⟩
    | brk => exact let ⟨_, _, J', q⟩ := z; ⟨_, _, J'.ofTry ok, q⟩
    | cont => exact let ⟨_, _, J', q⟩ := z; ⟨_, _, J'.ofTry ok, q⟩
    | ret u => exact let ⟨_, _, _, J', r, q⟩ := z; ⟨_, _, _, J'.ofTry ok, r, q⟩
end
/-- what is known of an error class whose instances keep a value -/
structure Keeps (K : PySem.W.Frag) (C : Addr) (fld : Str) : Prop where
  ga : PySem.W.findIn K (.ref C) "__getattribute__" = some (some (.builtin "BaseException.__getattribute__"))
  gg : ∃ gt, PySem.W.findIn K (.ref C) "__getattr__" = some gt
  ex : PySem.W.subIn K (.ref C) (.type "BaseException") = some true
  hd : PySem.W.hasDictIn K C = true
  no : PySem.W.findIn K (.ref C) fld = some none
/-- e.fld, e the caught error -/
def tKept (C : Addr) (fld : Str) (a : Addr) (cls : Value) (d : Option Addr) (te : TE) : TE := fun σ H Q => te σ H fun x H1 => x = .ref a ∧ cls = .ref C ∧ ∃ (dd : Addr) (v : V), d = some dd ∧ H1 dd = some (.xd [(fld, v)]) ∧ Q v H1
theorem pe_kept {X : Cx} {C a : Addr} {fld : Str} {oe : Obj} {cls : Value} {d : Option Addr} {pn : List (Addr × Obj)} {e : Expr} {te : TE} {pos : Pos} (T : Keeps X.K C fld) (hz : Zc cls d oe) (hf : ∃ vs, oe.data = .fields vs) (he : PE (X.suite a ((a, oe) :: pn)) e te)
    (hb : attributeBase e fld X.env (eval e X.env) = eval e X.env := by rfl) : PE (X.suite a ((a, oe) :: pn)) (.Attribute e fld pos) (tKept C fld a cls d te) := by
  refine ⟨fun pins s σ H Q I h => attr_of hb (thn (he.run pins s σ H _ I h) fun u s1 z => ?_)⟩
  obtain ⟨x, H1, I1, rx, rfl, rfl, dd, v, rfl, ea, q⟩ := z
  obtain rfl : u = Value.ref a := rx
  obtain ⟨ha, _⟩ := I1.pin (a, oe) (List.mem_append_left _ List.mem_cons_self)
  obtain ⟨vs, hd⟩ := hf
  have ob : ObjOk X.prog X.w H1 s1.heap dd (.xd [(fld, v)]) := I1.hok dd _ ea
  obtain ⟨mA, hns, hr⟩ := ob
  obtain ⟨od, ho, hl⟩ := lookIn_ns hns
  have l : List.lookup fld [(fld, v)] = some v := by simp [List.lookup]
  obtain ⟨u, hu, ru⟩ := RelO.some_of (v := v) (o := mA fld) (by rw [← l]; exact hr fld)
  obtain ⟨gt, gg⟩ := T.gg
  have J : PySem.W.InstAt s1.heap a oe C (some od) := ⟨ha, hz.1, by unfold PySem.W.notCls; rw [hd] <;> rfl, by rw [hz.2]; exact ho⟩
  exact HandSPX.exc_get I1.kIn J T.ga gg T.ex (PySem.W.findObj_own T.hd T.no rfl (by rw [hl, hu])) (handed_of ru) ⟨v, H1, I1.tok _, ru, q⟩
/-- C(v) is made: its dict is a new one -/
theorem sup_mk {C : Addr} {fld : Str} {H : Hp} {v : V} {Q : XK} (k : ∀ d H', H d = none → Same H H' → H' d = some (.xd [(fld, v)]) → Q (.ref C) (some d) H') :
    ([v] : List V).length ≤ 1000 ∧ ∀ a, H a = none → sp_sup C fld (.ref a :: ([v] ++ [])) (upd H a (exo a C none)) (fun u H2 => u = .non ∧ ∃ (d : Addr) (fs : List (Str × V)), H2 a = some (exo a C (some d)) ∧ H2 d = some (exd d fs) ∧ H d = none ∧ Q (.ref C) (some d) (upd (del H2 a) d (.xd fs))) (fun _ _ _ => False) := by
  refine ⟨by show 1 ≤ 1000; decide, fun a na => ⟨a, v, rfl, upd_same, fun d nd ne => ⟨rfl, d, [(fld, v)], upd_same, ?_, ?_, k d _ ?_ ?_ upd_same⟩⟩⟩
  · rw [upd_ne ne, upd_same]
  · rw [upd_ne ne] at nd
    exact nd
  · rw [upd_ne ne] at nd
    exact nd
  · rw [upd_ne ne] at nd
    intro b o e
    have e1 := ne_of_none e na
    have e2 := ne_of_none e nd
    rw [upd_ne e2, del_ne e1, upd_ne e1, upd_ne e2, upd_ne e1]
    exact e
end Kit
-- CUT
/-! ### of our own: readings that know no heap: what is told by its parts (D), what never changes stands in a world (Wd) -/
namespace DL
open PySem PySem.Spec PyProof.Rows L2 Kit
/-- a thing that never changes, told by its parts; rdl: a list that is read alone; cel: a thing that may change, but stays one of I -/
inductive D where
  | non
  | bl (b : Bool)
  | int (i : Int)
  | str (x : Str)
  | tup (xs : List D)
  | lst (xs : List D)
  | dct (kvs : List (Key × D))
  | obj (C : Addr) (fs : List (Str × D))
  | raw (v : V)
  | rdl (xs : List D)
  | cel (I : HO → Prop)
/-- what is known of things for good; the tables of code objects -/
structure Wd where
  c : Addr → Option (HO → Prop)
  T : List (Addr × Str)
def DctI (kvs : List (Key × V)) : HO → Prop := fun o => o = .dK kvs ∨ ∃ ob, o = .frz ob (.dK kvs)
def RdI (xs : List V) : HO → Prop := fun o => o = .lst xs ∨ ∃ ob, o = .frz ob (.lst xs)
mutual
inductive Rep (K : PySem.W.Frag) (c : Addr → Option (HO → Prop)) : V → D → Prop
  | non : Rep K c .non .non
  | bl (b : Bool) : Rep K c (.bl b) (.bl b)
  | int (i : Int) : Rep K c (.int i) (.int i)
  | str (x : Str) : Rep K c (.str x) (.str x)
  | tup {a : Addr} {vs : List V} {ds : List D} (h : c a = some (Eq (.tup vs)) ∨ SqT K (fun _ => none) a vs) (r : RepL K c vs ds) : Rep K c (.ref a) (.tup ds)
  | lst {a : Addr} {vs : List V} {ds : List D} (h : c a = some (Eq (.lst vs))) (r : RepL K c vs ds) : Rep K c (.ref a) (.lst ds)
  | dct {a : Addr} {kvs : List (Key × V)} {ds : List (Key × D)} (h : c a = some (DctI kvs)) (e : kvs.map Prod.fst = ds.map Prod.fst) (r : RepL K c (kvs.map Prod.snd) (ds.map Prod.snd)) : Rep K c (.ref a) (.dct ds)
  | obj {a C dx : Addr} {fs : List (Str × V)} {ds : List (Str × D)} (h : c a = some (Eq (.ins C dx fs))) (e : fs.map Prod.fst = ds.map Prod.fst) (r : RepL K c (fs.map Prod.snd) (ds.map Prod.snd)) : Rep K c (.ref a) (.obj C ds)
  | raw (v : V) : Rep K c v (.raw v)
  | rdl {a : Addr} {vs : List V} {ds : List D} (h : c a = some (RdI vs) ∨ SqL K (fun _ => none) a vs) (r : RepL K c vs ds) : Rep K c (.ref a) (.rdl ds)
  | cel {a : Addr} {I : HO → Prop} (h : c a = some I) : Rep K c (.ref a) (.cel I)
inductive RepL (K : PySem.W.Frag) (c : Addr → Option (HO → Prop)) : List V → List D → Prop
  | nil : RepL K c [] []
  | cons {v : V} {d : D} {vs : List V} {ds : List D} (h : Rep K c v d) (r : RepL K c vs ds) : RepL K c (v :: vs) (d :: ds)
end
abbrev CW := Addr → Option (HO → Prop)
def CW.le (c c' : CW) : Prop := ∀ a I, c a = some I → c' a = some I
mutual
theorem Rep.mono {K : PySem.W.Frag} {c c' : CW} (l : CW.le c c') {v : V} {d : D} : Rep K c v d → Rep K c' v d
  | .non => .non
  | .bl b => .bl b
  | .int i => .int i
  | .str x => .str x
  | .tup h r => .tup (h.imp (l _ _) id) (r.mono l)
  | .lst h r => .lst (l _ _ h) (r.mono l)
  | .dct h e r => .dct (l _ _ h) e (r.mono l)
  | .obj h e r => .obj (l _ _ h) e (r.mono l)
  | .raw v => .raw v
  | .rdl h r => .rdl (h.imp (l _ _) id) (r.mono l)
  | .cel h => .cel (l _ _ h)
theorem RepL.mono {K : PySem.W.Frag} {c c' : CW} (l : CW.le c c') {vs : List V} {ds : List D} : RepL K c vs ds → RepL K c' vs ds
  | .nil => .nil
  | .cons h r => .cons (h.mono l) (r.mono l)
end
section
variable {K : PySem.W.Frag} {c c' : CW}
theorem RepL.length : ∀ {vs : List V} {ds : List D}, RepL K c vs ds → vs.length = ds.length
  | _, _, .nil => rfl
  | _, _, .cons _ r => by rw [List.length_cons, List.length_cons, r.length]
theorem RepL.get : ∀ {vs : List V} {ds : List D} {i : Nat} {d : D}, RepL K c vs ds → ds[i]? = some d → ∃ v, vs[i]? = some v ∧ Rep K c v d
  | _, _, _, _, .nil, e => by cases e
  | _, _, 0, _, .cons h _, e => by
    cases e
    exact ⟨_, rfl, h⟩
  | _, _, i + 1, _, .cons _ r, e => by
    have e2 := e
    rw [List.getElem?_cons_succ] at e2
    obtain ⟨v, h1, h2⟩ := r.get e2
    exact ⟨v, by rw [List.getElem?_cons_succ]; exact h1, h2⟩
theorem RepL.got : ∀ {vs : List V} {ds : List D} {i : Nat} {v : V}, RepL K c vs ds → vs[i]? = some v → ∃ d, ds[i]? = some d ∧ Rep K c v d
  | _, _, _, _, .nil, e => by cases e
  | _, _, 0, _, .cons h _, e => by
    cases e
    exact ⟨_, rfl, h⟩
  | _, _, i + 1, _, .cons _ r, e => by
    have e2 := e
    rw [List.getElem?_cons_succ] at e2
    obtain ⟨v, h1, h2⟩ := r.got e2
    exact ⟨v, by rw [List.getElem?_cons_succ]; exact h1, h2⟩
theorem RepL.append : ∀ {vs ws : List V} {ds es : List D}, RepL K c vs ds → RepL K c ws es → RepL K c (vs ++ ws) (ds ++ es)
  | _, _, _, _, .nil, s => s
  | _, _, _, _, .cons h r, s => .cons h (r.append s)
theorem RepL.take : ∀ {vs : List V} {ds : List D} (n : Nat), RepL K c vs ds → RepL K c (vs.take n) (ds.take n)
  | _, _, 0, _ => .nil
  | _, _, _ + 1, .nil => .nil
  | _, _, n + 1, .cons h r => .cons h (r.take n)
theorem RepL.drop : ∀ {vs : List V} {ds : List D} (n : Nat), RepL K c vs ds → RepL K c (vs.drop n) (ds.drop n)
  | _, _, 0, r => r
  | _, _, _ + 1, .nil => .nil
  | _, _, n + 1, .cons _ r => r.drop n
theorem RepL.reverse : ∀ {vs : List V} {ds : List D}, RepL K c vs ds → RepL K c vs.reverse ds.reverse
  | _, _, .nil => .nil
  | _, _, .cons h r => by
    rw [List.reverse_cons, List.reverse_cons]
    exact r.reverse.append (.cons h .nil)
theorem RepL.erase : ∀ {vs : List V} {ds : List D} (n : Nat), RepL K c vs ds → RepL K c (vs.eraseIdx n) (ds.eraseIdx n)
  | _, _, _, .nil => .nil
  | _, _, 0, .cons _ r => r
  | _, _, n + 1, .cons h r => .cons h (r.erase n)
theorem RepL.set {v : V} {d : D} (q : Rep K c v d) : ∀ {vs : List V} {ds : List D} (n : Nat), RepL K c vs ds → RepL K c (vs.set n v) (ds.set n d)
  | _, _, _, .nil => .nil
  | _, _, 0, .cons _ r => .cons q r
  | _, _, n + 1, .cons h r => .cons h (r.set q n)
theorem RepL.ints : ∀ (ns : List Int) {vs : List V}, RepL K c vs (ns.map D.int) → vs = ns.map V.int
  | [], _, .nil => rfl
  | n :: ns, _, .cons h r => by
    cases h
    rw [RepL.ints ns r]
    rfl
theorem RepL.of_ints : ∀ (ns : List Int), RepL K c (ns.map V.int) (ns.map D.int)
  | [] => .nil
  | n :: ns => .cons (.int n) (RepL.of_ints ns)
theorem RepL.strs : ∀ (ns : List Str) {vs : List V}, RepL K c vs (ns.map D.str) → vs = ns.map V.str
  | [], _, .nil => rfl
  | n :: ns, _, .cons h r => by
    cases h
    rw [RepL.strs ns r]
    rfl
theorem RepL.of_strs : ∀ (ns : List Str), RepL K c (ns.map V.str) (ns.map D.str)
  | [] => .nil
  | n :: ns => .cons (.str n) (RepL.of_strs ns)
theorem RepL.bools : ∀ (ns : List Bool) {vs : List V}, RepL K c vs (ns.map D.bl) → vs = ns.map V.bl
  | [], _, .nil => rfl
  | n :: ns, _, .cons h r => by
    cases h
    rw [RepL.bools ns r]
    rfl
theorem RepL.of_bools : ∀ (ns : List Bool), RepL K c (ns.map V.bl) (ns.map D.bl)
  | [] => .nil
  | n :: ns => .cons (.bl n) (RepL.of_bools ns)
/-- fields -/
def RepF (K : PySem.W.Frag) (c : CW) (fs : List (Str × V)) (ds : List (Str × D)) : Prop := fs.map Prod.fst = ds.map Prod.fst ∧ RepL K c (fs.map Prod.snd) (ds.map Prod.snd)
theorem RepF.mono (l : CW.le c c') {fs : List (Str × V)} {ds : List (Str × D)} (h : RepF K c fs ds) : RepF K c' fs ds := ⟨h.1, h.2.mono l⟩
theorem RepF.look {f : Str} {d : D} : ∀ {fs : List (Str × V)} {ds : List (Str × D)}, RepF K c fs ds → ds.lookup f = some d → ∃ v, fs.lookup f = some v ∧ Rep K c v d
  | [], [], _, h => by cases h
  | [], _ :: _, ⟨e, _⟩, _ => by cases e
  | _ :: _, [], ⟨e, _⟩, _ => by cases e
  | (a, v) :: fs, (b, d') :: ds, ⟨e, r⟩, h => by
    have e1 : a = b := by injection e
    have e2 : fs.map Prod.fst = ds.map Prod.fst := by injection e
    subst e1
    cases r with
    | cons r1 r2 =>
      rw [List.lookup_cons] at h ⊢
      cases q : f == a with
      | true =>
        rw [q] at h
        cases h
        exact ⟨v, rfl, r1⟩
      | false =>
        rw [q] at h
        exact RepF.look (fs := fs) (ds := ds) ⟨e2, r2⟩ h
theorem RepF.none {f : Str} : ∀ {fs : List (Str × V)} {ds : List (Str × D)}, RepF K c fs ds → ds.lookup f = Option.none → fs.lookup f = Option.none
  | [], [], _, _ => rfl
  | [], _ :: _, ⟨e, _⟩, _ => by cases e
  | _ :: _, [], ⟨e, _⟩, _ => by cases e
  | (a, v) :: fs, (b, d') :: ds, ⟨e, r⟩, h => by
    have e1 : a = b := by injection e
    have e2 : fs.map Prod.fst = ds.map Prod.fst := by injection e
    subst e1
    cases r with
    | cons r1 r2 =>
      rw [List.lookup_cons] at h ⊢
      cases q : f == a with
      | true =>
        rw [q] at h
        cases h
      | false =>
        rw [q] at h
        exact RepF.none (fs := fs) (ds := ds) ⟨e2, r2⟩ h
def putD (f : Str) (v : D) : List (Str × D) → List (Str × D)
  | [] => [(f, v)]
  | (g, u) :: fs => if g = f then (f, v) :: fs else (g, u) :: putD f v fs
theorem RepF.len {fs : List (Str × V)} {ds : List (Str × D)} (h : RepF K c fs ds) : fs.length = ds.length := by
  have e := congrArg List.length h.1
  rw [List.length_map, List.length_map] at e
  exact e
end
/-! what holds of a heap -/
structure Good (W : Wd) (H : Hp) : Prop where
  cel : ∀ a I, W.c a = some I → ∃ o, H a = some o ∧ I o
  tab : LamX.Tabs W.T H
  ntb : ∀ p ∈ W.T, W.c p.1 = none
  ntc : ∀ a I ps, W.c a = some I → H a ≠ some (.tbl ps)
/-- nothing stands there, or a table of code objects -/
def Fr (H : Hp) (p : Addr) : Prop := ∀ o, H p = some o → ∃ ps, o = .tbl ps
theorem Fr.of {H : Hp} {p : Addr} (n : H p = none) : Fr H p := fun o e => by
  rw [n] at e
  cases e
/-- what is done leaves what is known; what is not known stays, but for the tables of code objects -/
structure Ext (W : Wd) (H : Hp) (W' : Wd) (H' : Hp) : Prop where
  le : CW.le W.c W'.c
  tb : W'.T = W.T
  good : Good W' H'
  keep : ∀ a o, H a = some o → W.c a = none → (∀ ps, o ≠ .tbl ps) → W'.c a = none ∧ H' a = some o
theorem Ext.un {W W' : Wd} {H H' : Hp} (e : Ext W H W' H') (a : Addr) (o : HO) (h : H a = some o) (n : W.c a = none) (nt : ∀ ps, o ≠ .tbl ps := by intro ps z; cases z) : W'.c a = none ∧ True ∧ ((∀ ps, o ≠ .tbl ps) → H' a = some o) :=
  ⟨(e.keep a o h n nt).1, trivial, fun _ => (e.keep a o h n nt).2⟩
theorem Ext.refl {W : Wd} {H : Hp} (g : Good W H) : Ext W H W H := ⟨fun _ _ h => h, rfl, g, fun a o h n _ => ⟨n, h⟩⟩
theorem Ext.trans {W W1 W2 : Wd} {H H1 H2 : Hp} (a : Ext W H W1 H1) (b : Ext W1 H1 W2 H2) : Ext W H W2 H2 :=
  ⟨fun x I h => b.le x I (a.le x I h), b.tb.trans a.tb, b.good, fun x o h n nt => by
    obtain ⟨n1, k1⟩ := a.keep x o h n nt
    exact b.keep x o k1 n1 nt⟩
theorem Ext.free {W W' : Wd} {H H' : Hp} (e : Ext W H W' H') {p : Addr} (n : Fr H' p) : Fr H p := fun o h => by
  cases w : W.c p with
  | none =>
    by_cases nt : ∀ ps, o ≠ .tbl ps
    · exact n o (e.keep p o h w nt).2
    · obtain ⟨ps, q⟩ := Classical.not_forall.mp nt
      exact ⟨ps, Classical.not_not.mp q⟩
  | some I =>
    obtain ⟨o', e', _⟩ := e.good.cel p I (e.le _ _ w)
    obtain ⟨ps, rfl⟩ := n o' e'
    exact absurd e' (e.good.ntc p I ps (e.le _ _ w))
theorem Good.fresh {W : Wd} {H : Hp} (g : Good W H) {p : Addr} (n : H p = none) : W.c p = none := by
  cases h : W.c p with
  | none => rfl
  | some I =>
    obtain ⟨o, e, _⟩ := g.cel p I h
    rw [n] at e
    cases e
def Wd.put (W : Wd) (p : Addr) (I : HO → Prop) : Wd := ⟨fun a => if a = p then some I else W.c a, W.T⟩
theorem Wd.put_same {W : Wd} {p : Addr} {I : HO → Prop} : (W.put p I).c p = some I := if_pos rfl
theorem Wd.put_ne {W : Wd} {p a : Addr} {I : HO → Prop} (h : a ≠ p) : (W.put p I).c a = W.c a := if_neg h
theorem Wd.put_le {W : Wd} {p : Addr} {I : HO → Prop} (n : W.c p = none) : CW.le W.c (W.put p I).c := fun a J h => by
  rw [Wd.put_ne]
  · exact h
  · intro e
    rw [e, n] at h
    cases h
/-- what stood stands -/
theorem Good.same {W : Wd} {H H' : Hp} (g : Good W H) (s : LamX.ExtN H H') (tb : LamX.Tabs W.T H') : Good W H' where
  cel := fun a I h => by
    obtain ⟨o, e, i⟩ := g.cel a I h
    exact ⟨o, s _ _ e (fun ps z => g.ntc a I ps h (by rw [e, z])), i⟩
  tab := tb
  ntb := g.ntb
  ntc := fun a I ps h e => by
    obtain ⟨o, e1, i⟩ := g.cel a I h
    have nt : ∀ ps, o ≠ .tbl ps := fun ps z => g.ntc a I ps h (by rw [e1, z])
    rw [s _ _ e1 nt] at e
    exact nt ps (Option.some.inj e)
theorem Ext.sameN {W : Wd} {H H' : Hp} (g : Good W H) (s : LamX.ExtN H H') (tb : LamX.Tabs W.T H') : Ext W H W H' := ⟨fun _ _ h => h, rfl, g.same s tb, fun a o h n nt => ⟨n, s _ _ h nt⟩⟩
theorem Ext.same {W : Wd} {H H' : Hp} (g : Good W H) (s : Same H H') : Ext W H W H' := .sameN g (fun b o e _ => s b o e) (g.tab.ext s)
theorem Good.tabAt {W : Wd} {H : Hp} (g : Good W H) {p : Addr × Str} (h : p ∈ W.T) : ∃ ps, H p.1 = some (.tbl ps) := by
  obtain ⟨ps, e, _⟩ := g.tab p h
  exact ⟨ps, e⟩
/-- a thing that is not known is known from now on -/
theorem Good.know {W : Wd} {H : Hp} (g : Good W H) {p : Addr} {o : HO} {I : HO → Prop} (h : H p = some o) (nt : ∀ ps, o ≠ .tbl ps) (i : I o) (n : W.c p = none) : Good (W.put p I) H where
  cel := fun a J e => by
    by_cases q : a = p
    · subst q
      rw [Wd.put_same] at e
      cases e
      exact ⟨o, h, i⟩
    · rw [Wd.put_ne q] at e
      exact g.cel a J e
  tab := g.tab
  ntb := fun q hq => by
    have ne : q.1 ≠ p := fun z => by
      obtain ⟨ps, e⟩ := g.tabAt hq
      rw [z, h] at e
      exact nt ps (Option.some.inj e)
    rw [Wd.put_ne ne]
    exact g.ntb q hq
  ntc := fun a J ps e z => by
    by_cases q : a = p
    · rw [q, h] at z
      exact nt ps (Option.some.inj z)
    · rw [Wd.put_ne q] at e
      exact g.ntc a J ps e z
theorem fr_ne {H : Hp} {a p : Addr} {o : HO} (h : H a = some o) (nt : ∀ ps, o ≠ .tbl ps) (n : Fr H p) : a ≠ p := fun z => by
  subst z
  obtain ⟨ps, e⟩ := n o h
  exact nt ps e
theorem Ext.know {W0 W : Wd} {H0 H : Hp} (e : Ext W0 H0 W H) {p : Addr} {o : HO} {I : HO → Prop} (h : H p = some o) (nt : ∀ ps, o ≠ .tbl ps) (i : I o) (n : W.c p = none) (n0 : Fr H0 p) : Ext W0 H0 (W.put p I) H :=
  ⟨fun a J q => Wd.put_le n a J (e.le a J q), e.tb, e.good.know h nt i n, fun a u q w nu => by
    obtain ⟨k1, k2⟩ := e.keep a u q w nu
    refine ⟨?_, k2⟩
    rw [Wd.put_ne (fr_ne q nu n0)]
    exact k1⟩
theorem Ext.new {W : Wd} {H : Hp} (g : Good W H) {p : Addr} {o : HO} (h : H p = none) : Ext W H W (upd H p o) := .same g (same_upd h)
/-- a new thing, known -/
theorem Ext.put {W : Wd} {H : Hp} (g : Good W H) {p : Addr} {o : HO} {I : HO → Prop} (h : H p = none) (nt : ∀ ps, o ≠ .tbl ps) (i : I o) : Ext W H (W.put p I) (upd H p o) :=
  (Ext.new g h).know upd_same nt i (g.fresh h) (.of h)
/-- a thing that is not known changes -/
theorem Good.upd {W : Wd} {H : Hp} (g : Good W H) {p : Addr} {o o' : HO} (h : H p = some o) (n : W.c p = none) (nt : ∀ ps, o ≠ .tbl ps) (nx : ∀ φ, o ≠ .ext φ) : Good W (L2.upd H p o') where
  cel := fun a I e => by
    obtain ⟨u, e1, i⟩ := g.cel a I e
    refine ⟨u, ?_, i⟩
    rw [upd_ne]
    · exact e1
    · intro z
      rw [z, n] at e
      cases e
  tab := fun q hq => by
    obtain ⟨ps, h1, h2, h3⟩ := g.tab q hq
    refine ⟨ps, ?_, h2, fun pos cv hc => ?_⟩
    · rw [upd_ne (ne_of h1 h (fun z => nt ps z.symm))]
      exact h1
    · obtain ⟨c, e1, e2⟩ := h3 pos cv hc
      refine ⟨c, e1, ?_⟩
      rw [upd_ne]
      · exact e2
      · intro z
        rw [z, h] at e2
        injection e2 with e2
        exact nx _ e2
  ntb := g.ntb
  ntc := fun a I ps e z => by
    rw [upd_ne] at z
    · exact g.ntc a I ps e z
    · intro y
      rw [y, n] at e
      cases e
theorem Ext.upd {W0 W : Wd} {H0 H : Hp} (e : Ext W0 H0 W H) {p : Addr} {o o' : HO} (h : H p = some o) (n : W.c p = none) (n0 : Fr H0 p) (nt : ∀ ps, o ≠ .tbl ps) (nx : ∀ φ, o ≠ .ext φ) : Ext W0 H0 W (L2.upd H p o') :=
  ⟨e.le, e.tb, e.good.upd h n nt nx, fun a u q w nu => by
    obtain ⟨k1, k2⟩ := e.keep a u q w nu
    rw [upd_ne (fr_ne q nu n0)]
    exact ⟨k1, k2⟩⟩
/-- a known thing changes within what is known of it -/
theorem Ext.cel {W : Wd} {H : Hp} (g : Good W H) {p : Addr} {o o' : HO} {I : HO → Prop} (w : W.c p = some I) (h : H p = some o) (i : I o') (nx : ∀ φ, o ≠ .ext φ) (nt : ∀ ps, o' ≠ .tbl ps) : Ext W H W (L2.upd H p o') := by
  refine ⟨fun _ _ h => h, rfl, ⟨fun a J e => ?_, fun q hq => ?_, g.ntb, fun a J ps e z => ?_⟩, fun a u q y nu => ?_⟩
  · by_cases q : a = p
    · subst q
      rw [w] at e
      cases e
      exact ⟨o', upd_same, i⟩
    · rw [upd_ne q]
      exact g.cel a J e
  · obtain ⟨ps, h1, h2, h3⟩ := g.tab q hq
    have ne : q.1 ≠ p := fun z => by
      have y := g.ntb q hq
      rw [z, w] at y
      cases y
    refine ⟨ps, ?_, h2, fun pos cv hc => ?_⟩
    · rw [upd_ne ne]
      exact h1
    · obtain ⟨c, e1, e2⟩ := h3 pos cv hc
      refine ⟨c, e1, ?_⟩
      rw [upd_ne]
      · exact e2
      · intro z
        rw [z, h] at e2
        injection e2 with e2
        exact nx _ e2
  · by_cases q : a = p
    · rw [q, upd_same] at z
      exact nt ps (Option.some.inj z)
    · rw [upd_ne q] at z
      exact g.ntc a J ps e z
  · have ne : a ≠ p := fun z => by
      rw [z, w] at y
      cases y
    rw [upd_ne ne]
    exact ⟨y, q⟩
/-! what a value is -/
section
variable {K : PySem.W.Frag} {W W' : Wd} {H H' : Hp} {v : V} {a : Addr}
theorem none_sqt {a : Addr} {vs : List V} (h : SqT K (fun _ => none) a vs) : SqT K H a vs := by
  rcases h with (h | ⟨o, h⟩) | h
  · cases h
  · cases h
  · exact .inr h
theorem none_sql {a : Addr} {vs : List V} (h : SqL K (fun _ => none) a vs) : SqL K H a vs := by
  rcases h with (h | ⟨o, h⟩) | h
  · cases h
  · cases h
  · exact .inr h
theorem Rep.tupAt (g : Good W H) {ds : List D} (r : Rep K W.c v (.tup ds)) : ∃ a vs, v = .ref a ∧ SqT K H a vs ∧ RepL K W.c vs ds := by
  cases r with
  | @tup a vs _ h r =>
    refine ⟨a, vs, rfl, ?_, r⟩
    rcases h with h | h
    · obtain ⟨o, e, rfl⟩ := g.cel _ _ h
      exact .inl (.inl e)
    · exact none_sqt h
theorem Rep.objAt (g : Good W H) {C : Addr} {ds : List (Str × D)} (r : Rep K W.c v (.obj C ds)) : ∃ a dx fs, v = .ref a ∧ H a = some (.ins C dx fs) ∧ RepF K W.c fs ds := by
  cases r with
  | @obj a _ dx fs _ h e r =>
    obtain ⟨o, e1, rfl⟩ := g.cel _ _ h
    exact ⟨a, dx, fs, rfl, e1, e, r⟩
theorem Rep.rdlAt (g : Good W H) {ds : List D} (r : Rep K W.c v (.rdl ds)) : ∃ a vs, v = .ref a ∧ SqL K H a vs ∧ RepL K W.c vs ds := by
  cases r with
  | @rdl a vs _ h r =>
    refine ⟨a, vs, rfl, ?_, r⟩
    rcases h with h | h
    · obtain ⟨o, e, i⟩ := g.cel _ _ h
      rcases i with rfl | ⟨ob, rfl⟩
      · exact .inl (.inl e)
      · exact .inl (.inr ⟨ob, e⟩)
    · exact none_sql h
theorem Rep.celAt (g : Good W H) {I : HO → Prop} (r : Rep K W.c v (.cel I)) : ∃ a o, v = .ref a ∧ H a = some o ∧ I o ∧ W.c a = some I := by
  cases r with
  | @cel a I h =>
    obtain ⟨o, e, i⟩ := g.cel _ _ h
    exact ⟨a, o, rfl, e, i, h⟩
theorem Rep.dctAt (g : Good W H) {ds : List (Key × D)} (r : Rep K W.c v (.dct ds)) : ∃ a kvs, v = .ref a ∧ Rd H a (.dK kvs) ∧ kvs.map Prod.fst = ds.map Prod.fst ∧ RepL K W.c (kvs.map Prod.snd) (ds.map Prod.snd) := by
  cases r with
  | @dct a kvs _ h e r =>
    obtain ⟨o, e1, i⟩ := g.cel _ _ h
    refine ⟨a, kvs, rfl, ?_, e, r⟩
    rcases i with rfl | ⟨ob, rfl⟩
    · exact .inl e1
    · exact .inr ⟨ob, e1⟩
/-- what is seen now: a thing that is known, or a list or a dict that is nobody else's -/
inductive Seen (K : PySem.W.Frag) (c : CW) (H : Hp) : V → D → Prop
  | rep {v : V} {d : D} (r : Rep K c v d) : Seen K c H v d
  | lst {a : Addr} {vs : List V} {ds : List D} (h : H a = some (.lst vs)) (n : c a = none) (r : RepL K c vs ds) : Seen K c H (.ref a) (.lst ds)
  | dct {a : Addr} {kvs : List (Key × V)} {ds : List (Key × D)} (h : H a = some (.dK kvs)) (n : c a = none) (e : kvs.map Prod.fst = ds.map Prod.fst) (r : RepL K c (kvs.map Prod.snd) (ds.map Prod.snd)) : Seen K c H (.ref a) (.dct ds)
theorem Seen.ext {d : D} (x : Ext W H W' H') : Seen K W.c H v d → Seen K W'.c H' v d
  | .rep r => .rep (r.mono x.le)
  | .lst h n r => by
    obtain ⟨n1, _, k⟩ := x.un _ _ h n
    exact .lst (k fun ps z => by cases z) n1 (r.mono x.le)
  | .dct h n e r => by
    obtain ⟨n1, _, k⟩ := x.un _ _ h n
    exact .dct (k fun ps z => by cases z) n1 e (r.mono x.le)
theorem Seen.lstAt (g : Good W H) {ds : List D} (s : Seen K W.c H v (.lst ds)) : ∃ a vs, v = .ref a ∧ H a = some (.lst vs) ∧ RepL K W.c vs ds := by
  cases s with
  | rep r =>
    cases r with
    | @lst a vs _ h r =>
      obtain ⟨o, e, rfl⟩ := g.cel _ _ h
      exact ⟨a, vs, rfl, e, r⟩
  | lst h n r => exact ⟨_, _, rfl, h, r⟩
theorem Seen.tup {ds : List D} (s : Seen K W.c H v (.tup ds)) : Rep K W.c v (.tup ds) := by cases s; assumption
theorem Seen.obj {C : Addr} {ds : List (Str × D)} (s : Seen K W.c H v (.obj C ds)) : Rep K W.c v (.obj C ds) := by cases s; assumption
theorem Seen.int {i : Int} (s : Seen K W.c H v (.int i)) : v = .int i := by
  cases s with
  | rep r => cases r; rfl
theorem Seen.str {i : Str} (s : Seen K W.c H v (.str i)) : v = .str i := by
  cases s with
  | rep r => cases r; rfl
theorem Seen.bl {i : Bool} (s : Seen K W.c H v (.bl i)) : v = .bl i := by
  cases s with
  | rep r => cases r; rfl
theorem Seen.non (s : Seen K W.c H v .non) : v = .non := by
  cases s with
  | rep r => cases r; rfl
theorem Seen.raw {u : V} (s : Seen K W.c H v (.raw u)) : v = u := by
  cases s with
  | rep r => cases r; rfl
theorem Seen.rdl {ds : List D} (s : Seen K W.c H v (.rdl ds)) : Rep K W.c v (.rdl ds) := by cases s; assumption
theorem Seen.cel {I : HO → Prop} (s : Seen K W.c H v (.cel I)) : Rep K W.c v (.cel I) := by cases s; assumption
end
end DL
-- CUT
/-! ### the frame, told by parts; what an expression asks -/
namespace DL
open PySem PySem.Spec PyProof.Rows L2 Kit
/-- a name's value: a known thing; a list, a dict, an instance that is nobody else's yet -/
inductive DV where
  | val (d : D)
  | own (xs : List D)
  | ownO (x C : Addr) (fs : List (Str × D))
  | ownD (kvs : List (Key × D))
abbrev DEnv := List (Option DV)
def DV.mine : DV → Bool
  | .val _ => false
  | _ => true
def getV : DEnv → Nat → Option DV
  | [], _ => none
  | x :: _, 0 => x
  | _ :: xs, n + 1 => getV xs n
def setV : DEnv → Nat → Option DV → DEnv
  | [], _, _ => []
  | _ :: xs, 0, v => v :: xs
  | x :: xs, n + 1, v => x :: setV xs n v
theorem setV_len : ∀ (ε : DEnv) (i : Nat) (v : Option DV), (setV ε i v).length = ε.length
  | [], _, _ => rfl
  | _ :: _, 0, _ => rfl
  | _ :: xs, n + 1, v => congrArg (· + 1) (setV_len xs n v)
theorem get_set : ∀ (ε : DEnv) (i j : Nat) (v : Option DV), getV (setV ε i v) j = if j = i then (if i < ε.length then v else none) else getV ε j
  | [], i, j, v => by
    show none = _
    split
    · rfl
    · rfl
  | x :: xs, 0, 0, v => by
    rw [if_pos rfl, if_pos (by rw [List.length_cons]; omega)]
    rfl
  | x :: xs, 0, j + 1, v => by
    rw [if_neg (by omega)]
    rfl
  | x :: xs, i + 1, 0, v => by
    rw [if_neg (by omega)]
    rfl
  | x :: xs, i + 1, j + 1, v => by
    have h := get_set xs i j v
    show getV (setV xs i v) j = _
    rw [h]
    by_cases e : j = i
    · rw [if_pos e, if_pos (show j + 1 = i + 1 by omega)]
      by_cases k : i < xs.length
      · rw [if_pos k, if_pos (show i + 1 < (x :: xs).length by rw [List.length_cons]; omega)]
      · rw [if_neg k, if_neg (show ¬ i + 1 < (x :: xs).length by rw [List.length_cons]; omega)]
    · rw [if_neg e, if_neg (show ¬ j + 1 = i + 1 by omega)]
      rfl
theorem getV_lt : ∀ {ε : DEnv} {i : Nat} {x : DV}, getV ε i = some x → i < ε.length
  | [], _, _, h => by cases h
  | _ :: _, 0, _, _ => by rw [List.length_cons]; omega
  | _ :: xs, i + 1, x, h => by
    have k := getV_lt (ε := xs) (i := i) (x := x) h
    rw [List.length_cons]
    omega
inductive Slot (K : PySem.W.Frag) (c : CW) (H : Hp) (a : Addr) : V → DV → Prop
  | val {v : V} {d : D} (r : Rep K c v d) : Slot K c H a v (.val d)
  | own {vs : List V} {xs : List D} (n : c a = none) (h : H a = some (.lst vs)) (r : RepL K c vs xs) : Slot K c H a (.ref a) (.own xs)
  | ownO {C dx : Addr} {fs : List (Str × V)} {ds : List (Str × D)} (n : c a = none) (h : H a = some (.ins C dx fs)) (r : RepF K c fs ds) : Slot K c H a (.ref a) (.ownO a C ds)
  | ownD {kvs : List (Key × V)} {ds : List (Key × D)} (n : c a = none) (h : H a = some (.dK kvs)) (e : kvs.map Prod.fst = ds.map Prod.fst) (r : RepL K c (kvs.map Prod.snd) (ds.map Prod.snd)) : Slot K c H a (.ref a) (.ownD ds)
structure EnvR (K : PySem.W.Frag) (c : CW) (H0 H : Hp) (σ : L2.St) (ε : DEnv) : Prop where
  len : σ.length = ε.length
  ex : ∃ ad : Nat → Addr, (∀ i x, getV ε i = some x → ∃ v, σ[i]? = some (some v) ∧ Slot K c H (ad i) v x) ∧
    (∀ i j x y, getV ε i = some x → getV ε j = some y → x.mine = true → y.mine = true → ad i = ad j → i = j) ∧ ∀ i x, getV ε i = some x → x.mine = true → Fr H0 (ad i)
section
variable {K : PySem.W.Frag} {W W' : Wd} {H0 H H' : Hp} {σ : L2.St} {ε : DEnv}
theorem Slot.ext {a : Addr} {v : V} {x : DV} (e : Ext W H W' H') : Slot K W.c H a v x → Slot K W'.c H' a v x
  | .val r => .val (r.mono e.le)
  | .own n h r => by
    obtain ⟨n1, _, k⟩ := e.un _ _ h n
    exact .own n1 (k fun ps z => by cases z) (r.mono e.le)
  | .ownO n h r => by
    obtain ⟨n1, _, k⟩ := e.un _ _ h n
    exact .ownO n1 (k fun ps z => by cases z) (r.mono e.le)
  | .ownD n h e1 r => by
    obtain ⟨n1, _, k⟩ := e.un _ _ h n
    exact .ownD n1 (k fun ps z => by cases z) e1 (r.mono e.le)
theorem EnvR.ext (en : EnvR K W.c H0 H σ ε) (e : Ext W H W' H') : EnvR K W'.c H0 H' σ ε := by
  obtain ⟨l, ad, h1, h2, h3⟩ := en
  refine ⟨l, ad, fun i x hx => ?_, h2, h3⟩
  obtain ⟨v, e1, s⟩ := h1 i x hx
  exact ⟨v, e1, s.ext e⟩
theorem EnvR.val (en : EnvR K W.c H0 H σ ε) {i : Nat} {d : D} (h : getV ε i = some (.val d)) : ∃ v, σ[i]? = some (some v) ∧ Rep K W.c v d := by
  obtain ⟨l, ad, h1, _, _⟩ := en
  obtain ⟨v, e1, s⟩ := h1 i _ h
  cases s with
  | val r => exact ⟨v, e1, r⟩
theorem EnvR.own (en : EnvR K W.c H0 H σ ε) {i : Nat} {xs : List D} (h : getV ε i = some (.own xs)) : ∃ a vs, σ[i]? = some (some (.ref a)) ∧ W.c a = none ∧ H a = some (.lst vs) ∧ RepL K W.c vs xs ∧ Fr H0 a := by
  obtain ⟨l, ad, h1, _, h3⟩ := en
  obtain ⟨v, e1, s⟩ := h1 i _ h
  cases s with
  | own n h' r => exact ⟨_, _, e1, n, h', r, h3 i _ h rfl⟩
theorem EnvR.ownO (en : EnvR K W.c H0 H σ ε) {i : Nat} {a C : Addr} {ds : List (Str × D)} (h : getV ε i = some (.ownO a C ds)) : ∃ dx fs, σ[i]? = some (some (.ref a)) ∧ W.c a = none ∧ H a = some (.ins C dx fs) ∧ RepF K W.c fs ds ∧ Fr H0 a := by
  obtain ⟨l, ad, h1, _, h3⟩ := en
  obtain ⟨v, e1, s⟩ := h1 i _ h
  have n0 := h3 i _ h rfl
  generalize ad i = b at s n0
  cases s with
  | ownO n h' r => exact ⟨_, _, e1, n, h', r, n0⟩
theorem EnvR.ownD (en : EnvR K W.c H0 H σ ε) {i : Nat} {ds : List (Key × D)} (h : getV ε i = some (.ownD ds)) : ∃ a kvs, σ[i]? = some (some (.ref a)) ∧ W.c a = none ∧ H a = some (.dK kvs) ∧ kvs.map Prod.fst = ds.map Prod.fst ∧ RepL K W.c (kvs.map Prod.snd) (ds.map Prod.snd) ∧ Fr H0 a := by
  obtain ⟨l, ad, h1, _, h3⟩ := en
  obtain ⟨v, e1, s⟩ := h1 i _ h
  cases s with
  | ownD n h' e r => exact ⟨_, _, e1, n, h', e, r, h3 i _ h rfl⟩
theorem set_at {i j : Nat} {v : V} : (σ.set i (some v))[j]? = if j = i then (if i < σ.length then some (some v) else none) else σ[j]? := by
  rw [List.getElem?_set]
  by_cases e : i = j
  · subst e
    simp
  · rw [if_neg e, if_neg (fun z => e z.symm)]
/-- a slot is set -/
theorem EnvR.setG (en : EnvR K W.c H0 H σ ε) (i : Nat) {v : V} {y : DV} {b : Addr} (s : Slot K W.c H b v y) (hb : y.mine = true → Fr H0 b ∧ ∀ j x, j ≠ i → getV ε j = some x → x.mine = true → ∀ u, σ[j]? = some (some u) → u ≠ .ref b) : EnvR K W.c H0 H (σ.set i (some v)) (setV ε i (some y)) := by
  obtain ⟨l, ad, h1, h2, h3⟩ := en
  refine ⟨by rw [List.length_set, setV_len, l], fun j => if j = i then b else ad j, fun j x hx => ?_, fun j k x z hx hz mx mz e => ?_, fun j x hx mx => ?_⟩
  · rw [get_set] at hx
    rw [set_at]
    by_cases e : j = i
    · rw [if_pos e] at hx ⊢
      by_cases q : i < ε.length
      · rw [if_pos q] at hx
        cases hx
        refine ⟨v, by rw [if_pos (by rw [l]; exact q)], ?_⟩
        show Slot K W.c H (if j = i then b else ad j) v y
        rw [if_pos e]
        exact s
      · rw [if_neg q] at hx
        cases hx
    · rw [if_neg e] at hx ⊢
      show ∃ v, _ ∧ Slot K W.c H (if j = i then b else ad j) v x
      rw [if_neg e]
      exact h1 j x hx
  · have at_ : ∀ {j : Nat} {x : DV}, j ≠ i → getV (setV ε i (some y)) j = some x → getV ε j = some x := fun {j x} n h => by
      rw [get_set, if_neg n] at h
      exact h
    have own : ∀ {j : Nat} {x : DV}, getV ε j = some x → x.mine = true → σ[j]? = some (some (.ref (ad j))) := fun {j x} h m => by
      obtain ⟨v, e1, s⟩ := h1 j x h
      cases s with
      | val r => cases m
      | own => exact e1
      | ownO => exact e1
      | ownD => exact e1
    have me : ∀ {j : Nat} {x : DV}, j = i → getV (setV ε i (some y)) j = some x → x = y := fun {j x} n h => by
      rw [get_set, if_pos n] at h
      split at h
      · cases h
        rfl
      · cases h
    have e : (if j = i then b else ad j) = (if k = i then b else ad k) := e
    by_cases ej : j = i
    · by_cases ek : k = i
      · rw [ej, ek]
      · rw [if_pos ej, if_neg ek] at e
        have m := me ej hx
        subst m
        have hz' := at_ ek hz
        exact absurd (by rw [e]) ((hb mx).2 k z ek hz' mz _ (own hz' mz))
    · by_cases ek : k = i
      · rw [if_neg ej, if_pos ek] at e
        have m := me ek hz
        subst m
        have hx' := at_ ej hx
        exact absurd (by rw [e]) ((hb mz).2 j x ej hx' mx _ (own hx' mx))
      · rw [if_neg ej, if_neg ek] at e
        exact h2 j k x z (at_ ej hx) (at_ ek hz) mx mz e
  · show Fr H0 (if j = i then b else ad j)
    rw [get_set] at hx
    by_cases e : j = i
    · rw [if_pos e] at hx ⊢
      split at hx
      · cases hx
        exact (hb mx).1
      · cases hx
    · rw [if_neg e] at hx ⊢
      exact h3 j x hx mx
theorem EnvR.set (en : EnvR K W.c H0 H σ ε) (i : Nat) {v : V} {d : D} (r : Rep K W.c v d) : EnvR K W.c H0 H (σ.set i (some v)) (setV ε i (some (.val d))) := en.setG i (b := 0) (.val r) (fun h => by cases h)
/-- a name's slot is forgotten -/
theorem EnvR.forget (en : EnvR K W.c H0 H σ ε) (i : Nat) {o : Option V} : EnvR K W.c H0 H (σ.set i o) (setV ε i none) := by
  obtain ⟨l, ad, h1, h2, h3⟩ := en
  have at_ : ∀ {j : Nat} {x : DV}, getV (setV ε i none) j = some x → j ≠ i ∧ getV ε j = some x := fun {j x} h => by
    rw [get_set] at h
    by_cases e : j = i
    · rw [if_pos e] at h
      split at h <;> cases h
    · rw [if_neg e] at h
      exact ⟨e, h⟩
  refine ⟨by rw [List.length_set, setV_len, l], ad, fun j x hx => ?_, fun j k x z hx hz => h2 j k x z (at_ hx).2 (at_ hz).2, fun j x hx => h3 j x (at_ hx).2⟩
  obtain ⟨n, e⟩ := at_ hx
  obtain ⟨v, e1, s⟩ := h1 j x e
  refine ⟨v, ?_, s⟩
  rw [List.getElem?_set_ne (fun z => n z.symm)]
  exact e1
def wipeV : DEnv → List Nat → DEnv
  | ε, [] => ε
  | ε, i :: is => wipeV (setV ε i none) is
end
/-! ### what is asked: of an expression, a test, a list of arguments -/
/-- what is wanted of an error; the tables of code objects -/
structure EX where
  x : XK
  T : List (Addr × Str)
/-- an error: its class, its fields -/
abbrev Exc := Value × List (Str × D)
abbrev DX := DEnv → (D → Prop) → (Exc → Prop) → Prop
abbrev DXT := DEnv → (Bool → Prop) → (Exc → Prop) → Prop
abbrev DXA := DEnv → (List D → Prop) → (Exc → Prop) → Prop
abbrev DF := List D → (D → Prop) → (Exc → Prop) → Prop
abbrev NoX : Exc → Prop := fun _ => False
inductive XRep (K : PySem.W.Frag) (c : CW) (H : Hp) : Value → Option Addr → Exc → Prop
  | plain {x : Value} : XRep K c H x none (x, [])
  | full {x : Value} {a : Addr} {fs : List (Str × V)} {ds : List (Str × D)} (h : H a = some (.xd fs)) (n : c a = none) (r : RepF K c fs ds) : XRep K c H x (some a) (x, ds)
def KQ (K : PySem.W.Frag) (W : Wd) (H : Hp) (Q : VK) (q : D → Prop) : Prop := ∀ W' H' v d, Ext W H W' H' → Rep K W'.c v d → q d → Q v H'
def KS (K : PySem.W.Frag) (W : Wd) (H : Hp) (Q : VK) (q : D → Prop) : Prop := ∀ W' H' v d, Ext W H W' H' → Seen K W'.c H' v d → q d → Q v H'
/-- a new list that nobody knows -/
def KN (K : PySem.W.Frag) (W : Wd) (H : Hp) (Q : VK) (q : List D → Prop) : Prop := ∀ W' H' a vs ds, Ext W H W' H' → Fr H a → W'.c a = none → H' a = some (.lst vs) → RepL K W'.c vs ds → q ds → Q (.ref a) H'
def KB (W : Wd) (H : Hp) (Q : Bool → Hp → Prop) (q : Bool → Prop) : Prop := ∀ W' H' b, Ext W H W' H' → q b → Q b H'
def KE (K : PySem.W.Frag) (W : Wd) (H : Hp) (E : EX) (e : Exc → Prop) : Prop := W.T = E.T ∧ ∀ W' H' x a z, Ext W H W' H' → XRep K W'.c H' x a z → e z → E.x x a H'
inductive SeenL (K : PySem.W.Frag) (c : CW) (H : Hp) : List V → List D → Prop
  | nil : SeenL K c H [] []
  | cons {v : V} {d : D} {vs : List V} {ds : List D} (h : Seen K c H v d) (r : SeenL K c H vs ds) : SeenL K c H (v :: vs) (d :: ds)
def KA (K : PySem.W.Frag) (W : Wd) (H : Hp) (Q : List V → Hp → Prop) (q : List D → Prop) : Prop := ∀ W' H' vs ds, Ext W H W' H' → RepL K W'.c vs ds → q ds → Q vs H'
def KAS (K : PySem.W.Frag) (W : Wd) (H : Hp) (Q : List V → Hp → Prop) (q : List D → Prop) : Prop := ∀ W' H' vs ds, Ext W H W' H' → SeenL K W'.c H' vs ds → q ds → Q vs H'
section
variable {K : PySem.W.Frag} {W W' : Wd} {H H' : Hp}
theorem KQ.after {Q : VK} {q : D → Prop} (k : KQ K W H Q q) (x : Ext W H W' H') : KQ K W' H' Q q := fun _ _ _ _ y => k _ _ _ _ (x.trans y)
theorem KS.after {Q : VK} {q : D → Prop} (k : KS K W H Q q) (x : Ext W H W' H') : KS K W' H' Q q := fun _ _ _ _ y => k _ _ _ _ (x.trans y)
theorem KN.after {Q : VK} {q : List D → Prop} (k : KN K W H Q q) (x : Ext W H W' H') : KN K W' H' Q q := fun _ _ _ _ _ y n => k _ _ _ _ _ (x.trans y) (x.free n)
theorem KB.after {Q : Bool → Hp → Prop} {q : Bool → Prop} (k : KB W H Q q) (x : Ext W H W' H') : KB W' H' Q q := fun _ _ _ y => k _ _ _ (x.trans y)
theorem KE.after {E : EX} {e : Exc → Prop} (k : KE K W H E e) (x : Ext W H W' H') : KE K W' H' E e := ⟨x.tb.trans k.1, fun _ _ _ _ _ y => k.2 _ _ _ _ _ (x.trans y)⟩
theorem KA.after {Q : List V → Hp → Prop} {q : List D → Prop} (k : KA K W H Q q) (x : Ext W H W' H') : KA K W' H' Q q := fun _ _ _ _ y => k _ _ _ _ (x.trans y)
theorem KAS.after {Q : List V → Hp → Prop} {q : List D → Prop} (k : KAS K W H Q q) (x : Ext W H W' H') : KAS K W' H' Q q := fun _ _ _ _ y => k _ _ _ _ (x.trans y)
theorem KE.no {E : EX} (h : W.T = E.T) : KE K W H E NoX := ⟨h, fun _ _ _ _ _ _ _ h => h.elim⟩
theorem KS.kq {Q : VK} {q : D → Prop} (k : KS K W H Q q) : KQ K W H Q q := fun _ _ _ _ x r => k _ _ _ _ x (.rep r)
/-- a new list is known from now on -/
theorem KQ.kn {Q : VK} {q : D → Prop} (k : KQ K W H Q q) : KN K W H Q fun ds => q (.lst ds) := fun W' H' a vs ds x n n' h r hq =>
  k _ _ (.ref a) (.lst ds) (x.know h (fun ps z => by cases z) rfl n' n) (.lst Wd.put_same (r.mono (Wd.put_le n'))) hq
theorem SeenL.ext {vs : List V} {ds : List D} (x : Ext W H W' H') : SeenL K W.c H vs ds → SeenL K W'.c H' vs ds
  | .nil => .nil
  | .cons h r => .cons (h.ext x) (r.ext x)
theorem RepL.seen : ∀ {vs : List V} {ds : List D}, RepL K W.c vs ds → SeenL K W.c H vs ds
  | _, _, .nil => .nil
  | _, _, .cons h r => .cons (.rep h) r.seen
end
/-- the heap-free readings as readings -/
def dE (K : PySem.W.Frag) (E : EX) (t : DX) : TE := fun σ H Q => ∃ W H0 ε q e, Good W H ∧ EnvR K W.c H0 H σ ε ∧ t ε q e ∧ KQ K W H Q q ∧ KE K W H E e
def dV (K : PySem.W.Frag) (E : EX) (t : DX) : TE := fun σ H Q => ∃ W H0 ε q e, Good W H ∧ EnvR K W.c H0 H σ ε ∧ t ε q e ∧ KS K W H Q q ∧ KE K W H E e
def dN (K : PySem.W.Frag) (E : EX) (t : DXA) : TE := fun σ H Q => ∃ W H0 ε q e, Good W H ∧ EnvR K W.c H0 H σ ε ∧ t ε q e ∧ KN K W H Q q ∧ KE K W H E e
def dT (K : PySem.W.Frag) (E : EX) (t : DXT) : TT := fun σ H Q => ∃ W H0 ε q e, Good W H ∧ EnvR K W.c H0 H σ ε ∧ t ε q e ∧ KB W H Q q ∧ KE K W H E e
def dA (K : PySem.W.Frag) (E : EX) (t : DXA) : TA := fun σ H Q => ∃ W H0 ε q e, Good W H ∧ EnvR K W.c H0 H σ ε ∧ t ε q e ∧ KA K W H Q q ∧ KE K W H E e
def dAS (K : PySem.W.Frag) (E : EX) (t : DXA) : TA := fun σ H Q => ∃ W H0 ε q e, Good W H ∧ EnvR K W.c H0 H σ ε ∧ t ε q e ∧ KAS K W H Q q ∧ KE K W H E e
theorem PE.to {X : Cx} {e : Expr} {t t' : TE} (h : PE X e t) (f : ∀ σ H Q, t' σ H Q → t σ H Q) : PE X e t' := ⟨fun pins s σ H Q I q => h.run pins s σ H Q I (f _ _ _ q)⟩
theorem PT.to {X : Cx} {e : Expr} {t t' : TT} (h : PT X e t) (f : ∀ σ H Q, t' σ H Q → t σ H Q) : PT X e t' := ⟨fun pins s σ H Q I q => h.run pins s σ H Q I (f _ _ _ q)⟩
theorem PW.to {X : Cx} {e : Expr} {t t' : TT} (h : PW X e t) (f : ∀ σ H Q, t' σ H Q → t σ H Q) : PW X e t' := ⟨fun wh pins s σ H Q I q => h.run wh pins s σ H Q I (f _ _ _ q)⟩
theorem PA.to {X : Cx} {e : List Expr} {t t' : TA} (h : PA X e t) (f : ∀ σ H Q, t' σ H Q → t σ H Q) : PA X e t' := ⟨fun pos pins s σ H Q I q => h.run pos pins s σ H Q I (f _ _ _ q)⟩
theorem PS.to {X : Cx} {e : Stmt} {t t' : TS} (h : PS X e t) (f : ∀ σ H D, t' D σ H → t D σ H) : PS X e t' := ⟨fun pins s σ H D I q => h.run pins s σ H D I (f _ _ _ q)⟩
theorem PSs.to {X : Cx} {e : List Stmt} {t t' : TS} (h : PSs X e t) (f : ∀ σ H D, t' D σ H → t D σ H) : PSs X e t' := ⟨fun pins s σ H D I q => h.run pins s σ H D I (f _ _ _ q)⟩
abbrev DE (X : Cx) (E : EX) (e : Expr) (t : DX) : Prop := PE X e (dE X.K E t)
abbrev DS (X : Cx) (E : EX) (e : Expr) (t : DX) : Prop := PE X e (dV X.K E t)
abbrev DN (X : Cx) (E : EX) (e : Expr) (t : DXA) : Prop := PE X e (dN X.K E t)
abbrev DT (X : Cx) (E : EX) (e : Expr) (t : DXT) : Prop := PT X e (dT X.K E t)
abbrev DA (X : Cx) (E : EX) (e : List Expr) (t : DXA) : Prop := PA X e (dA X.K E t)
abbrev DAS (X : Cx) (E : EX) (e : List Expr) (t : DXA) : Prop := PA X e (dAS X.K E t)
/-- an operation on two values, on one, a call -/
abbrev F2 := D → D → (D → Prop) → (Exc → Prop) → Prop
abbrev F1 := D → (D → Prop) → (Exc → Prop) → Prop
def R2D (K : PySem.W.Frag) (E : EX) (r : R2) (f : F2) : Prop := ∀ W H v u x y Q q e, Good W H → Seen K W.c H v x → Seen K W.c H u y → f x y q e → KQ K W H Q q → KE K W H E e → r v u H Q
def R1D (K : PySem.W.Frag) (E : EX) (r : V → Hp → VK → Prop) (f : F1) : Prop := ∀ W H v x Q q e, Good W H → Seen K W.c H v x → f x q e → KQ K W H Q q → KE K W H E e → r v H Q
def RCD (K : PySem.W.Frag) (E : EX) (r : List V → Hp → VK → Prop) (f : DF) : Prop := ∀ W H vs xs Q q e, Good W H → SeenL K W.c H vs xs → f xs q e → KQ K W H Q q → KE K W H E e → r vs H Q
/-- .. whose result is a new list -/
abbrev N2 := D → D → (List D → Prop) → (Exc → Prop) → Prop
abbrev NF := List D → (List D → Prop) → (Exc → Prop) → Prop
def R2N (K : PySem.W.Frag) (E : EX) (r : R2) (f : N2) : Prop := ∀ W H v u x y Q q e, Good W H → Seen K W.c H v x → Seen K W.c H u y → f x y q e → KN K W H Q q → KE K W H E e → r v u H Q
def RCN (K : PySem.W.Frag) (E : EX) (r : List V → Hp → VK → Prop) (f : NF) : Prop := ∀ W H vs xs Q q e, Good W H → SeenL K W.c H vs xs → f xs q e → KN K W H Q q → KE K W H E e → r vs H Q
/-! #### names, constants -/
def xVar (i : Nat) : DX := fun ε q _ => match getV ε i with | some (.val d) => q d | _ => False
/-- a name's value as it is seen now -/
def xNow (i : Nat) : DX := fun ε q _ => match getV ε i with | some (.val d) => q d | some (.own xs) => q (.lst xs) | some (.ownD kvs) => q (.dct kvs) | _ => False
def xC (d : D) : DX := fun _ q _ => q d
def xList (t : DXA) : DX := fun ε q e => t ε (fun ds => q (.lst ds)) e
def xOp (f : F2) (a b : DX) : DX := fun ε q e => a ε (fun x => b ε (fun y => f x y q e) e) e
def xUn (f : F1) (a : DX) : DX := fun ε q e => a ε (fun x => f x q e) e
def xOpN (f : N2) (a b : DX) : DXA := fun ε q e => a ε (fun x => b ε (fun y => f x y q e) e) e
def xNil : DXA := fun _ q _ => q []
def xCons (a : DX) (t : DXA) : DXA := fun ε q e => a ε (fun x => t ε (fun xs => q (x :: xs)) e) e
def xSeqOf : D → Option (List D)
  | .tup xs => some xs
  | .lst xs => some xs
  | _ => none
def xStar (a : DX) (t : DXA) : DXA := fun ε q e => a ε (fun x => match xSeqOf x with | some zs => t ε (fun xs => q (zs ++ xs)) e | none => False) e
def xCB (f : DF) (t : DXA) : DX := fun ε q e => t ε (fun ds => f ds q e) e
def xCBN (f : NF) (t : DXA) : DXA := fun ε q e => t ε (fun ds => f ds q e) e
def ifB (b : Bool) (p r : Prop) : Prop := match b with | true => p | false => r
theorem ifB_tt {p r : Prop} : ifB true p r = p := rfl
theorem ifB_ff {p r : Prop} : ifB false p r = r := rfl
theorem ifB_no {b : Bool} {p r : Prop} (h1 : b = false → p) (h2 : b = true → r) : ifB (!b) p r := by
  cases b with
  | true => exact h2 rfl
  | false => exact h1 rfl
theorem ifB_of {b : Bool} {p r : Prop} (h1 : b = true → p) (h2 : b = false → r) : ifB b p r := by
  cases b with
  | true => exact h1 rfl
  | false => exact h2 rfl
theorem ifB_t {b : Bool} {p r : Prop} (h : b = true) (hp : p) : ifB b p r := by
  subst h
  exact hp
theorem ifB_f {b : Bool} {p r : Prop} (h : b = false) (hr : r) : ifB b p r := by
  subst h
  exact hr
theorem ifB_ite {b : Bool} {p r : Prop} (h : ifB b p r) : if b = true then p else r := by
  cases b with
  | true => exact iteT h
  | false => exact iteF h
def xIf (c : DXT) (a b : DX) : DX := fun ε q e => c ε (fun k => ifB k (a ε q e) (b ε q e)) e
def xAnd (a b : DX) : DX := fun ε q e => a ε (fun x => match x with | .bl k => ifB k (b ε q e) (q (.bl false)) | _ => False) e
def xOr (a b : DX) : DX := fun ε q e => a ε (fun x => match x with | .bl k => ifB k (q (.bl true)) (b ε q e) | _ => False) e
def xNot (a : DX) : DX := fun ε q e => a ε (fun x => match x with | .bl k => q (.bl (!k)) | _ => False) e
def xtAnd (a b : DXT) : DXT := fun ε q e => a ε (fun k => ifB k (b ε q e) (q false)) e
def xtOr (a b : DXT) : DXT := fun ε q e => a ε (fun k => ifB k (q true) (b ε q e)) e
def xtNot (a : DXT) : DXT := fun ε q e => a ε (fun k => q (!k)) e
def xtVal (a : DX) : DXT := fun ε q e => a ε (fun x => match x with | .bl k => q k | _ => False) e
def truD (x : D) (q : Bool → Prop) : Prop := match x with
  | .non => q false
  | .bl b => q b
  | .int i => q (i != 0)
  | .str y => y.length ≤ sizeLine ∧ q ((y.length : Int) != 0)
  | .tup xs => q (!xs.isEmpty)
  | .lst xs => q (!xs.isEmpty)
  | _ => False
def xtTru (a : DX) : DXT := fun ε q e => a ε (fun x => truD x q) e
def xChain (f g : F2) (a b c : DX) : DX := fun ε q e => a ε (fun x => b ε (fun y => f x y (fun z => match z with | .bl k => ifB k (c ε (fun w => g y w (fun z => match z with | .bl k => q (.bl k) | _ => False) e) e) (q (.bl false)) | _ => False) e) e) e
section
variable {X : Cx} {E : EX} {a b c : Expr} {xa xb xc : DX} {pos : Pos}
theorem DE.s (h : DE X E a xa) : DS X E a xa := PE.to h fun _ _ _ ⟨W, H0, ε, q, e, g, en, t, k, ke⟩ => ⟨W, H0, ε, q, e, g, en, t, k.kq, ke⟩
theorem DN.e {ta : DXA} (h : DN X E a ta) : DE X E a (xList ta) := PE.to h fun _ _ _ ⟨W, H0, ε, q, e, g, en, t, k, ke⟩ => ⟨W, H0, ε, _, e, g, en, t, KQ.kn k, ke⟩
theorem DN.s {ta : DXA} (h : DN X E a ta) : DS X E a (xList ta) := PE.to h fun _ _ _ ⟨W, H0, ε, q, e, g, en, t, k, ke⟩ => ⟨W, H0, ε, _, e, g, en, t, fun W' H' p vs ds x n n' h r hq => k _ _ _ _ x (.lst h n' r) hq, ke⟩
theorem d_var {i : Nat} {x : Str} (h : PE X (.Name x pos) (tVar i)) : DE X E (.Name x pos) (xVar i) := PE.to h fun σ H Q ⟨W, H0, ε, q, e, g, en, t, k, ke⟩ => by
  unfold xVar at t
  split at t
  · rename_i d hd
    obtain ⟨v, e1, r⟩ := en.val hd
    exact ⟨v, e1, k _ _ _ _ (.refl g) r t⟩
  · exact t.elim
theorem d_now {i : Nat} {x : Str} (h : PE X (.Name x pos) (tVar i)) : DS X E (.Name x pos) (xNow i) := PE.to h fun σ H Q ⟨W, H0, ε, q, e, g, en, t, k, ke⟩ => by
  unfold xNow at t
  split at t
  · rename_i d hd
    obtain ⟨v, e1, r⟩ := en.val hd
    exact ⟨v, e1, k _ _ _ _ (.refl g) (.rep r) t⟩
  · rename_i d hd
    obtain ⟨a, vs, e1, n, h, r, _⟩ := en.own hd
    exact ⟨_, e1, k _ _ _ _ (.refl g) (.lst h n r) t⟩
  · rename_i d hd
    obtain ⟨a, vs, e1, n, h, e2, r, _⟩ := en.ownD hd
    exact ⟨_, e1, k _ _ _ _ (.refl g) (.dct h n e2 r) t⟩
  · exact t.elim
theorem d_c {v : V} {d : D} (h : PE X a (tC v)) (r : ∀ c, Rep X.K c v d) : DE X E a (xC d) := PE.to h fun σ H Q ⟨W, H0, ε, q, e, g, en, t, k, ke⟩ => k _ _ _ _ (.refl g) (r _) t
theorem d_int {i j} : DE X E (.Constant (.int i) j pos) (xC (.int i)) := d_c pe_int fun _ => .int i
theorem d_bl {b j} : DE X E (.Constant (.bool b) j pos) (xC (.bl b)) := d_c pe_bl fun _ => .bl b
theorem d_non {j} : DE X E (.Constant .none j pos) (xC .non) := d_c pe_non fun _ => .non
theorem d_str {x j} : DE X E (.Constant (.str x) j pos) (xC (.str x)) := d_c pe_str fun _ => .str x
/-- a thing that is known as it is (a class) -/
theorem d_raw {v : V} (h : PE X a (tC v)) : DE X E a (xC (.raw v)) := d_c h fun _ => .raw v
theorem d_op {op : Operator} {r : R2} {f : F2} (ho : OpR X (binaryOp op) r) (hf : R2D X.K E r f) (ha : DS X E a xa) (hb : DS X E b xb) : DE X E (.BinOp a op b pos) (xOp f xa xb) :=
  PE.to (pe_op ho ha hb) fun σ H Q ⟨W, H0, ε, q, e, g, en, t, k, ke⟩ => ⟨W, H0, ε, _, e, g, en, t, fun W1 H1 v x x1 s1 t1 => ⟨W1, H0, ε, _, e, x1.good, en.ext x1, t1, fun W2 H2 u y x2 s2 t2 =>
    hf W2 H2 v u x y Q q e x2.good (s1.ext x2) s2 t2 (k.after (x1.trans x2)) (ke.after (x1.trans x2)), ke.after x1⟩, ke⟩
theorem d_opN {op : Operator} {r : R2} {f : N2} (ho : OpR X (binaryOp op) r) (hf : R2N X.K E r f) (ha : DS X E a xa) (hb : DS X E b xb) : DN X E (.BinOp a op b pos) (xOpN f xa xb) :=
  PE.to (pe_op ho ha hb) fun σ H Q ⟨W, H0, ε, q, e, g, en, t, k, ke⟩ => ⟨W, H0, ε, _, e, g, en, t, fun W1 H1 v x x1 s1 t1 => ⟨W1, H0, ε, _, e, x1.good, en.ext x1, t1, fun W2 H2 u y x2 s2 t2 =>
    hf W2 H2 v u x y Q q e x2.good (s1.ext x2) s2 t2 (k.after (x1.trans x2)) (ke.after (x1.trans x2)), ke.after x1⟩, ke⟩
theorem d_un {op : UnaryOp} {r : V → Hp → VK → Prop} {f : F1} (ho : UnR X (unaryOp op) r) (hf : R1D X.K E r f) (ha : DS X E a xa) : DE X E (.UnaryOp op a pos) (xUn f xa) :=
  PE.to (pe_un ho ha) fun σ H Q ⟨W, H0, ε, q, e, g, en, t, k, ke⟩ => ⟨W, H0, ε, _, e, g, en, t, fun W1 H1 v x x1 s1 t1 => hf W1 H1 v x Q q e x1.good s1 t1 (k.after x1) (ke.after x1), ke⟩
theorem d_cmp {op : CmpOp} {r : R2} {f : F2} (ho : OpR X (compareOp op) r) (hf : R2D X.K E r f) (ha : DS X E a xa) (hb : DS X E b xb) (hm : behindInMarks op b = false) : DE X E (.Compare a [op] [b] pos) (xOp f xa xb) :=
  PE.to (pe_cmpR ho ha hb hm) fun σ H Q ⟨W, H0, ε, q, e, g, en, t, k, ke⟩ => ⟨W, H0, ε, _, e, g, en, t, fun W1 H1 v x x1 s1 t1 => ⟨W1, H0, ε, _, e, x1.good, en.ext x1, t1, fun W2 H2 u y x2 s2 t2 =>
    hf W2 H2 v u x y Q q e x2.good (s1.ext x2) s2 t2 (k.after (x1.trans x2)) (ke.after (x1.trans x2)), ke.after x1⟩, ke⟩
theorem Rep.blAt {K : PySem.W.Frag} {c : CW} {v : V} {k : Bool} (r : Rep K c v (.bl k)) : v = .bl k := by cases r; rfl
/-- a test that is a comparison -/
theorem dt_cmp {op : CmpOp} {r : R2} {f : F2} (ho : OpR X (compareOp op) r) (hf : R2D X.K E r f) (ha : DS X E a xa) (hb : DS X E b xb) (hm : behindInMarks op b = false) : DT X E (.Compare a [op] [b] pos) (xtVal (xOp f xa xb)) :=
  PT.to (pt_cmpR ho ha hb hm) fun σ H Q ⟨W, H0, ε, q, e, g, en, t, k, ke⟩ => ⟨W, H0, ε, _, e, g, en, t, fun W1 H1 v x x1 s1 t1 => ⟨W1, H0, ε, _, e, x1.good, en.ext x1, t1, fun W2 H2 u y x2 s2 t2 =>
    hf W2 H2 v u x y _ _ e x2.good (s1.ext x2) s2 t2 (fun W3 H3 w d x3 r3 h3 => by
      cases d with
      | bl z =>
        cases r3
        exact ⟨z, rfl, k _ _ _ ((x1.trans x2).trans x3) h3⟩
      | _ => exact h3.elim) (ke.after (x1.trans x2)), ke.after x1⟩, ke⟩
theorem d_chain {op op' : CmpOp} {r r' : R2} {f f' : F2} (ho : OpR X (compareOp op) r) (ho' : OpR X (compareOp op') r') (hf : R2D X.K E r f) (hf' : R2D X.K E r' f') (ha : DS X E a xa) (hb : DS X E b xb) (hc : DS X E c xc)
    (h : PE X (.Compare a [op, op'] [b, c] pos) (tChain r r' (dV X.K E xa) (dV X.K E xb) (dV X.K E xc))) : DE X E (.Compare a [op, op'] [b, c] pos) (xChain f f' xa xb xc) :=
  PE.to h fun σ H Q ⟨W, H0, ε, q, e, g, en, t, k, ke⟩ => ⟨W, H0, ε, _, e, g, en, t, fun W1 H1 v x x1 s1 t1 => ⟨W1, H0, ε, _, e, x1.good, en.ext x1, t1, fun W2 H2 u y x2 s2 t2 =>
    hf W2 H2 v u x y _ _ e x2.good (s1.ext x2) s2 t2 (fun W3 H3 w d x3 r3 h3 => by
      cases d with
      | bl z =>
        cases r3
        refine ⟨z, rfl, ?_⟩
        cases z with
        | false => exact iteF (k _ _ _ _ ((x1.trans x2).trans x3) (.bl false) h3)
        | true =>
          refine iteT ⟨W3, H0, ε, _, e, x3.good, ((en.ext x1).ext x2).ext x3, h3, fun W4 H4 p d4 x4 s4 t4 => ?_, ke.after ((x1.trans x2).trans x3)⟩
          exact hf' W4 H4 u p y d4 _ _ e x4.good (s2.ext (x3.trans x4)) s4 t4 (fun W5 H5 w5 d5 x5 r5 h5 => by
            cases d5 with
            | bl z5 =>
              cases r5
              exact k _ _ _ _ (((x1.trans x2).trans x3).trans (x4.trans x5)) (.bl z5) h5
            | _ => exact h5.elim) (ke.after ((x1.trans x2).trans (x3.trans x4)))
      | _ => exact h3.elim) (ke.after (x1.trans x2)), ke.after x1⟩, ke⟩
theorem d_not (ha : DS X E a xa) : DE X E (.UnaryOp .Not a pos) (xNot xa) :=
  PE.to (pe_not ha) fun σ H Q ⟨W, H0, ε, q, e, g, en, t, k, ke⟩ => ⟨W, H0, ε, _, e, g, en, t, fun W1 H1 v x x1 s1 t1 => by
    cases x with
    | bl z => exact ⟨z, s1.bl, k _ _ _ _ x1 (.bl _) t1⟩
    | _ => exact t1.elim, ke⟩
theorem d_one {op : BoolOp} (h : DE X E a xa) : DE X E (.BoolOp op [a] pos) xa := pe_one h
theorem d_and {rest : List Expr} (ha : DS X E a xa) (hb : DE X E (.BoolOp .And (b :: rest) pos) xb) : DE X E (.BoolOp .And (a :: b :: rest) pos) (xAnd xa xb) :=
  PE.to (pe_and ha hb) fun σ H Q ⟨W, H0, ε, q, e, g, en, t, k, ke⟩ => ⟨W, H0, ε, _, e, g, en, t, fun W1 H1 v x x1 s1 t1 => by
    cases x with
    | bl z =>
      refine ⟨z, s1.bl, ?_⟩
      cases z with
      | false => exact iteF (k _ _ _ _ x1 (.bl _) t1)
      | true => exact iteT ⟨W1, H0, ε, q, e, x1.good, en.ext x1, t1, k.after x1, ke.after x1⟩
    | _ => exact t1.elim, ke⟩
theorem d_or {rest : List Expr} (ha : DS X E a xa) (hb : DE X E (.BoolOp .Or (b :: rest) pos) xb) : DE X E (.BoolOp .Or (a :: b :: rest) pos) (xOr xa xb) :=
  PE.to (pe_or ha hb) fun σ H Q ⟨W, H0, ε, q, e, g, en, t, k, ke⟩ => ⟨W, H0, ε, _, e, g, en, t, fun W1 H1 v x x1 s1 t1 => by
    cases x with
    | bl z =>
      refine ⟨z, s1.bl, ?_⟩
      cases z with
      | true => exact iteT (k _ _ _ _ x1 (.bl _) t1)
      | false => exact iteF ⟨W1, H0, ε, q, e, x1.good, en.ext x1, t1, k.after x1, ke.after x1⟩
    | _ => exact t1.elim, ke⟩
theorem d_if {xt : DXT} (hc : DT X E c xt) (ha : DE X E a xa) (hb : DE X E b xb) : DE X E (.IfExp c a b pos) (xIf xt xa xb) :=
  PE.to (pe_ifExp hc ha hb) fun σ H Q ⟨W, H0, ε, q, e, g, en, t, k, ke⟩ => ⟨W, H0, ε, _, e, g, en, t, fun W1 H1 z x1 t1 => by
    cases z with
    | true => exact iteT ⟨W1, H0, ε, q, e, x1.good, en.ext x1, t1, k.after x1, ke.after x1⟩
    | false => exact iteF ⟨W1, H0, ε, q, e, x1.good, en.ext x1, t1, k.after x1, ke.after x1⟩, ke⟩
theorem dt_val (ha : DS X E a xa) (he : ∀ whole, isTrue a X.env whole = (do let v ← whole; standAt a.pos; holding [v] (truthy v)) := by intro _; rfl) : DT X E a (xtVal xa) :=
  PT.to (pt_val ha he) fun σ H Q ⟨W, H0, ε, q, e, g, en, t, k, ke⟩ => ⟨W, H0, ε, _, e, g, en, t, fun W1 H1 v x x1 s1 t1 => by
    cases x with
    | bl z => exact ⟨z, s1.bl, k _ _ _ x1 t1⟩
    | _ => exact t1.elim, ke⟩
theorem dt_tru (ha : DS X E a xa) (he : ∀ whole, isTrue a X.env whole = (do let v ← whole; standAt a.pos; holding [v] (truthy v)) := by intro _; rfl) : DT X E a (xtTru xa) :=
  PT.to (pt_truth ha he) fun σ H Q ⟨W, H0, ε, q, e, g, en, t, k, ke⟩ => ⟨W, H0, ε, _, e, g, en, t, fun W1 H1 v x x1 s1 t1 => by
    cases x with
    | non => rw [s1.non]; exact ⟨_, rfl, k _ _ _ x1 t1⟩
    | bl z => rw [s1.bl]; exact ⟨_, rfl, k _ _ _ x1 t1⟩
    | int z => rw [s1.int]; exact ⟨_, rfl, k _ _ _ x1 t1⟩
    | str z => rw [s1.str]; exact ⟨_, ⟨t1.1, rfl⟩, k _ _ _ x1 t1.2⟩
    | tup ds =>
      obtain ⟨p, vs, rfl, h, r⟩ := s1.tup.tupAt x1.good
      refine ⟨_, .inr (.inl ⟨vs, h, rfl⟩), k _ _ _ x1 ?_⟩
      have e : vs.isEmpty = ds.isEmpty := by cases r <;> rfl
      rw [e]
      exact t1
    | lst ds =>
      obtain ⟨p, vs, rfl, h, r⟩ := s1.lstAt x1.good
      refine ⟨_, .inl ⟨vs, .inl (.inl h), rfl⟩, k _ _ _ x1 ?_⟩
      have e : vs.isEmpty = ds.isEmpty := by cases r <;> rfl
      rw [e]
      exact t1
    | _ => exact t1.elim, ke⟩
theorem dt_not {xt : DXT} (ha : DT X E a xt) : DT X E (.UnaryOp .Not a pos) (xtNot xt) :=
  PT.to (pt_not ha) fun σ H Q ⟨W, H0, ε, q, e, g, en, t, k, ke⟩ => ⟨W, H0, ε, _, e, g, en, t, fun W1 H1 z x1 t1 => k _ _ _ x1 t1, ke⟩
theorem dw_and1 {xt : DXT} (ha : DT X E a xt) : PW X (.BoolOp .And [a] pos) (dT X.K E xt) := pw_and1 ha
theorem dw_or1 {xt : DXT} (ha : DT X E a xt) : PW X (.BoolOp .Or [a] pos) (dT X.K E xt) := pw_or1 ha
theorem dw_and {rest : List Expr} {xt yt : DXT} (ha : DT X E a xt) (hb : PW X (.BoolOp .And (b :: rest) pos) (dT X.K E yt)) : PW X (.BoolOp .And (a :: b :: rest) pos) (dT X.K E (xtAnd xt yt)) :=
  PW.to (pw_and ha hb) fun σ H Q ⟨W, H0, ε, q, e, g, en, t, k, ke⟩ => ⟨W, H0, ε, _, e, g, en, t, fun W1 H1 z x1 t1 => by
    cases z with
    | true => exact iteT ⟨W1, H0, ε, q, e, x1.good, en.ext x1, t1, k.after x1, ke.after x1⟩
    | false => exact iteF (k _ _ _ x1 t1), ke⟩
theorem dw_or {rest : List Expr} {xt yt : DXT} (ha : DT X E a xt) (hb : PW X (.BoolOp .Or (b :: rest) pos) (dT X.K E yt)) : PW X (.BoolOp .Or (a :: b :: rest) pos) (dT X.K E (xtOr xt yt)) :=
  PW.to (pw_or ha hb) fun σ H Q ⟨W, H0, ε, q, e, g, en, t, k, ke⟩ => ⟨W, H0, ε, _, e, g, en, t, fun W1 H1 z x1 t1 => by
    cases z with
    | true => exact iteT (k _ _ _ x1 t1)
    | false => exact iteF ⟨W1, H0, ε, q, e, x1.good, en.ext x1, t1, k.after x1, ke.after x1⟩, ke⟩
/-! #### lists of arguments, displays -/
theorem da_nil : DA X E [] xNil := PA.to pa_nil fun σ H Q ⟨W, H0, ε, q, e, g, en, t, k, ke⟩ => k _ _ _ _ (.refl g) .nil t
theorem da_cons {es : List Expr} {t : DXA} (ha : DE X E a xa) (hr : DA X E es t) (hs : starEach (a :: es) X.env = (false, eval a X.env) :: starEach es X.env := by rfl) : DA X E (a :: es) (xCons xa t) :=
  PA.to (pa_cons ha hr hs) fun σ H Q ⟨W, H0, ε, q, e, g, en, t, k, ke⟩ => ⟨W, H0, ε, _, e, g, en, t, fun W1 H1 v x x1 r1 t1 => ⟨W1, H0, ε, _, e, x1.good, en.ext x1, t1, fun W2 H2 vs ds x2 r2 t2 => k _ _ _ _ (x1.trans x2) (.cons (r1.mono x2.le) r2) t2, ke.after x1⟩, ke⟩
theorem das_nil : DAS X E [] xNil := PA.to pa_nil fun σ H Q ⟨W, H0, ε, q, e, g, en, t, k, ke⟩ => k _ _ _ _ (.refl g) .nil t
theorem das_cons {es : List Expr} {t : DXA} (ha : DS X E a xa) (hr : DAS X E es t) (hs : starEach (a :: es) X.env = (false, eval a X.env) :: starEach es X.env := by rfl) : DAS X E (a :: es) (xCons xa t) :=
  PA.to (pa_cons ha hr hs) fun σ H Q ⟨W, H0, ε, q, e, g, en, t, k, ke⟩ => ⟨W, H0, ε, _, e, g, en, t, fun W1 H1 v x x1 r1 t1 => ⟨W1, H0, ε, _, e, x1.good, en.ext x1, t1, fun W2 H2 vs ds x2 r2 t2 => k _ _ _ _ (x1.trans x2) (.cons (r1.ext x2) r2) t2, ke.after x1⟩, ke⟩
theorem da_star {es : List Expr} {p : Pos} {t : DXA} (ha : DS X E a xa) (hr : DA X E es t) (hs : starEach (.Starred a p :: es) X.env = (true, eval a X.env) :: starEach es X.env := by rfl) : DA X E (.Starred a p :: es) (xStar xa t) :=
  PA.to (StX.pa_star ha hr hs) fun σ H Q ⟨W, H0, ε, q, e, g, en, t, k, ke⟩ => ⟨W, H0, ε, _, e, g, en, t, fun W1 H1 v x x1 s1 t1 => by
    cases x with
    | tup ds =>
      obtain ⟨p, vs, rfl, h, r⟩ := s1.tup.tupAt x1.good
      exact ⟨p, vs, rfl, .inl h, W1, H0, ε, _, e, x1.good, en.ext x1, t1, fun W2 H2 us es x2 r2 t2 => k _ _ _ _ (x1.trans x2) ((r.mono x2.le).append r2) t2, ke.after x1⟩
    | lst ds =>
      obtain ⟨p, vs, rfl, h, r⟩ := s1.lstAt x1.good
      exact ⟨p, vs, rfl, .inr (.inl (.inl h)), W1, H0, ε, _, e, x1.good, en.ext x1, t1, fun W2 H2 us es x2 r2 t2 => k _ _ _ _ (x1.trans x2) ((r.mono x2.le).append r2) t2, ke.after x1⟩
    | _ => exact t1.elim, ke⟩
def fit (n : Nat) : Prop := n ≤ sizeLine
theorem fit_of {n : Nat} (h : n ≤ 100000) : fit n := sz_of h
def xTup (t : DXA) : DX := fun ε q e => t ε (fun ds => fit ds.length ∧ q (.tup ds)) e
def xLst (t : DXA) : DXA := fun ε q e => t ε (fun ds => fit ds.length ∧ q ds) e
theorem d_tup {es : List Expr} {x1} {t : DXA} (h : DA X E es t) : DE X E (.Tuple es x1 pos) (xTup t) :=
  PE.to (pe_tup h) fun σ H Q ⟨W, H0, ε, q, e, g, en, t, k, ke⟩ => ⟨W, H0, ε, _, e, g, en, t, fun W1 H1 vs ds x1 r1 t1 => ⟨by rw [r1.length]; exact t1.1, fun p hp =>
    k _ _ _ _ (x1.trans (.put x1.good hp (fun ps z => by cases z) rfl)) (.tup (.inl Wd.put_same) (r1.mono (Wd.put_le (x1.good.fresh hp)))) t1.2⟩, ke⟩
theorem d_lst {es : List Expr} {t : DXA} (h : DA X E es t) : DN X E (.List es pos) (xLst t) :=
  PE.to (pe_lst h) fun σ H Q ⟨W, H0, ε, q, e, g, en, t, k, ke⟩ => ⟨W, H0, ε, _, e, g, en, t, fun W1 H1 vs ds x1 r1 t1 => ⟨by rw [r1.length]; exact t1.1, fun p hp =>
    k _ _ _ _ _ (x1.trans (.new x1.good hp)) (x1.free (.of hp)) (x1.good.fresh hp) upd_same r1 t1.2⟩, ke⟩
/-! #### calls -/
theorem d_callB {r : List V → Hp → VK → Prop} {f : DF} {t : DXA} {e1 : Expr} (h : PE X e1 (tCB r (dAS X.K E t))) (hf : RCD X.K E r f) : DE X E e1 (xCB f t) :=
  PE.to h fun σ H Q ⟨W, H0, ε, q, e, g, en, t, k, ke⟩ => ⟨W, H0, ε, _, e, g, en, t, fun W1 H1 vs ds x1 r1 t1 => hf W1 H1 vs ds Q q e x1.good r1 t1 (k.after x1) (ke.after x1), ke⟩
theorem d_callN {r : List V → Hp → VK → Prop} {f : NF} {t : DXA} {e1 : Expr} (h : PE X e1 (tCB r (dAS X.K E t))) (hf : RCN X.K E r f) : DN X E e1 (xCBN f t) :=
  PE.to h fun σ H Q ⟨W, H0, ε, q, e, g, en, t, k, ke⟩ => ⟨W, H0, ε, _, e, g, en, t, fun W1 H1 vs ds x1 r1 t1 => hf W1 H1 vs ds Q q e x1.good r1 t1 (k.after x1) (ke.after x1), ke⟩
end
/-- a def's promise, told without the heap -/
def toSp (K : PySem.W.Frag) (T : List (Addr × Str)) (s : DF) : Sp := fun vs H Q E => ∃ W ds q e, Good W H ∧ RepL K W.c vs ds ∧ s ds q e ∧ KQ K W H Q q ∧ KE K W H ⟨E, T⟩ e
/-- .. of a def that lets no error out -/
def toSp0 (K : PySem.W.Frag) (T : List (Addr × Str)) (s : DF) : Sp := fun vs H Q _ => ∃ W ds q, Good W H ∧ RepL K W.c vs ds ∧ s ds q NoX ∧ KQ K W H Q q ∧ W.T = T
def xCall (s : DF) (t : DXA) : DX := fun ε q e => t ε (fun ds => s ds q e) e
def xCall0 (s : DF) (t : DXA) : DX := fun ε q e => t ε (fun ds => s ds q NoX) e
section
variable {X : Cx} {E : EX} {c : Expr} {t : DXA} {s : DF}
theorem d_call (h : PE X c (tCall (toSp X.K E.T s) [] E.x (dA X.K E t))) : DE X E c (xCall s t) :=
  PE.to h fun σ H Q ⟨W, H0, ε, q, e, g, en, t, k, ke⟩ => ⟨W, H0, ε, _, e, g, en, t, fun W1 H1 vs ds x1 r1 t1 => by
    show toSp X.K E.T s (vs ++ []) H1 Q E.x
    rw [List.append_nil]
    exact ⟨W1, ds, q, e, x1.good, r1, t1, k.after x1, ke.after x1⟩, ke⟩
theorem d_call0 {E' : XK} (h : PE X c (tCall (toSp0 X.K E.T s) [] E' (dA X.K E t))) : DE X E c (xCall0 s t) :=
  PE.to h fun σ H Q ⟨W, H0, ε, q, e, g, en, t, k, ke⟩ => ⟨W, H0, ε, _, e, g, en, t, fun W1 H1 vs ds x1 r1 t1 => by
    show toSp0 X.K E.T s (vs ++ []) H1 Q E'
    rw [List.append_nil]
    exact ⟨W1, ds, q, x1.good, r1, t1, k.after x1, (ke.after x1).1⟩, ke⟩
end
end DL
-- CUT
/-! ### statements, loops, comprehensions, defs -/
namespace DL
open PySem PySem.Spec PyProof.Rows L2 Kit
/-- what is wanted behind a statement -/
structure DK where
  nx : DEnv → Prop
  rt : D → Prop
  bk : DEnv → Prop
  ct : DEnv → Prop
  ex : Exc → Prop
abbrev DXS := DK → DEnv → Prop
/-- B: what was known at some time before; W0, H0: at the entry -/
structure EndsR (K : PySem.W.Frag) (B : CW) (W0 : Wd) (H0 : Hp) (E : EX) (M : Ends) (k : DK) : Prop where
  nx : ∀ W H σ ε, CW.le B W.c → Ext W0 H0 W H → EnvR K W.c H0 H σ ε → k.nx ε → M.nx σ H
  bk : ∀ W H σ ε, CW.le B W.c → Ext W0 H0 W H → EnvR K W.c H0 H σ ε → k.bk ε → M.bk σ H
  ct : ∀ W H σ ε, CW.le B W.c → Ext W0 H0 W H → EnvR K W.c H0 H σ ε → k.ct ε → M.ct σ H
  rt : ∀ W H v d, Ext W0 H0 W H → Rep K W.c v d → k.rt d → M.rt v H
  ex : KE K W0 H0 E k.ex
def dSt (K : PySem.W.Frag) (E : EX) (t : DXS) : TS := fun M σ H => ∃ B W0 H0 W ε k, CW.le B W.c ∧ Ext W0 H0 W H ∧ EnvR K W.c H0 H σ ε ∧ t k ε ∧ EndsR K B W0 H0 E M k
abbrev DSt (X : Cx) (E : EX) (st : Stmt) (t : DXS) : Prop := PS X st (dSt X.K E t)
abbrev DSs (X : Cx) (E : EX) (st : List Stmt) (t : DXS) : Prop := PSs X st (dSt X.K E t)
theorem CW.le.trans {a b c : CW} (h : CW.le a b) (k : CW.le b c) : CW.le a c := fun x I e => k x I (h x I e)
theorem CW.le.refl (a : CW) : CW.le a a := fun _ _ h => h
def xsNil : DXS := fun k ε => k.nx ε
def xsSeq (t u : DXS) : DXS := fun k ε => t { k with nx := u k } ε
def xsRet (a : DX) : DXS := fun k ε => a ε k.rt k.ex
def xsRetN : DXS := fun k _ => k.rt .non
def xsDrop (a : DX) : DXS := fun k ε => a ε (fun _ => k.nx ε) k.ex
def xsSet (i : Nat) (a : DX) : DXS := fun k ε => a ε (fun d => k.nx (setV ε i (some (.val d)))) k.ex
/-- a new list, nobody else's -/
def xsOwn (i : Nat) (a : DXA) : DXS := fun k ε => a ε (fun ds => k.nx (setV ε i (some (.own ds)))) k.ex
def xsIf (c : DXT) (t u : DXS) : DXS := fun k ε => c ε (fun b => ifB b (t k ε) (u k ε)) k.ex
/-- the list of a name is known from now on -/
def xsFrz (i : Nat) (t : DXS) : DXS := fun k ε => match getV ε i with
  | some (.own xs) => t k (setV ε i (some (.val (.lst xs))))
  | some (.ownD kvs) => t k (setV ε i (some (.val (.dct kvs))))
  | _ => t k ε
def xsApp (i : Nat) (a : DX) : DXS := fun k ε => match getV ε i with
  | some (.own xs) => a ε (fun d => fit (xs.length + 1) ∧ k.nx (setV ε i (some (.own (xs ++ [d]))))) k.ex
  | _ => False
def xsBreak : DXS := fun k ε => k.bk ε
def xsCont : DXS := fun k ε => k.ct ε
section
variable {X : Cx} {E : EX} {e : Expr} {st : Stmt} {rest : List Stmt} {xa : DX} {t u : DXS} {pos : Pos}
theorem dss_nil : DSs X E [] xsNil := PSs.to pss_nil fun σ H M ⟨B, W0, H0, W, ε, k, le, x, en, h, R⟩ => R.nx W H σ ε le x en h
theorem dss_cons (h1 : DSt X E st t) (h2 : DSs X E rest u) : DSs X E (st :: rest) (xsSeq t u) :=
  PSs.to (pss_cons h1 h2) fun σ H M ⟨B, W0, H0, W, ε, k, le, x, en, h, R⟩ => ⟨B, W0, H0, W, ε, _, le, x, en, h, fun W1 H1 σ1 ε1 l1 x1 en1 h1 => ⟨B, W0, H0, W1, ε1, k, l1, x1, en1, h1, R⟩, R.bk, R.ct, R.rt, R.ex⟩
theorem dss_one (h1 : DSt X E st t) : DSs X E [st] t := pss_one h1
theorem ds_ret (h : DE X E e xa) : DSt X E (.Return (some e) pos) (xsRet xa) :=
  PS.to (ps_ret h) fun σ H M ⟨B, W0, H0, W, ε, k, le, x, en, h, R⟩ => ⟨W, H0, ε, _, _, x.good, en, h, fun W1 H1 v d x1 r hd => R.rt _ _ _ _ (x.trans x1) r hd, R.ex.after x⟩
theorem ds_retN : DSt X E (.Return none pos) xsRetN := PS.to ps_retN fun σ H M ⟨B, W0, H0, W, ε, k, le, x, en, h, R⟩ => R.rt W H _ _ x .non h
theorem ds_expr (h : DE X E e xa) (hs : swapsWith e none pos.line X.env = pure false := by rfl) : DSt X E (.Expr e pos) (xsDrop xa) :=
  PS.to (ps_expr h hs) fun σ H M ⟨B, W0, H0, W, ε, k, le, x, en, h, R⟩ => ⟨W, H0, ε, _, _, x.good, en, h, fun W1 H1 v d x1 r hd => R.nx _ _ _ _ (le.trans x1.le) (x.trans x1) (en.ext x1) hd, R.ex.after x⟩
/-- a store into a slot -/
theorem ds_set {i : Nat} (h : PS X st (tAsg (dE X.K E xa) (gName i))) : DSt X E st (xsSet i xa) :=
  PS.to h fun σ H M ⟨B, W0, H0, W, ε, k, le, x, en, h, R⟩ => ⟨W, H0, ε, _, _, x.good, en, h, fun W1 H1 v d x1 r hd => R.nx _ _ _ _ (le.trans x1.le) (x.trans x1) ((en.ext x1).set i r) hd, R.ex.after x⟩
theorem EnvR.new {K : PySem.W.Frag} {W W' : Wd} {H0 H H' : Hp} {σ : L2.St} {ε : DEnv} (en : EnvR K W.c H0 H σ ε) (x : Ext W H W' H') (i : Nat) {a : Addr} {y : DV} (s : Slot K W'.c H' a (.ref a) y) (n : Fr H a) (n0 : Fr H0 a) : EnvR K W'.c H0 H' (σ.set i (some (.ref a))) (setV ε i (some y)) := by
  refine (en.ext x).setG i s fun _ => ⟨n0, fun j z _ hz mz u hu e => ?_⟩
  subst e
  cases z with
  | val d => cases mz
  | own xs =>
    obtain ⟨b, vs, e1, _, h, _⟩ := en.own hz
    rw [hu] at e1
    cases e1
    obtain ⟨ps, z⟩ := n _ h
    cases z
  | ownO b C fs =>
    obtain ⟨dx, vs, e1, _, h, _⟩ := en.ownO hz
    rw [hu] at e1
    cases e1
    obtain ⟨ps, z⟩ := n _ h
    cases z
  | ownD kvs =>
    obtain ⟨b, vs, e1, _, h, _⟩ := en.ownD hz
    rw [hu] at e1
    cases e1
    obtain ⟨ps, z⟩ := n _ h
    cases z
theorem ds_own {i : Nat} {xl : DXA} (h : PS X st (tAsg (dN X.K E xl) (gName i))) : DSt X E st (xsOwn i xl) :=
  PS.to h fun σ H M ⟨B, W0, H0, W, ε, k, le, x, en, h, R⟩ => ⟨W, H0, ε, _, _, x.good, en, h, fun W1 H1 a vs ds x1 n n1 h1 r hd =>
    R.nx _ _ _ _ (le.trans x1.le) (x.trans x1) (en.new x1 i (.own n1 h1 r) n (x.free n)) hd, R.ex.after x⟩
theorem ds_if {c : Expr} {p q : List Stmt} {xt : DXT} (hc : DT X E c xt) (hp : DSs X E p t) (hq : DSs X E q u) : DSt X E (.If c p q pos) (xsIf xt t u) :=
  PS.to (ps_if hc hp hq) fun σ H M ⟨B, W0, H0, W, ε, k, le, x, en, h, R⟩ => ⟨W, H0, ε, _, _, x.good, en, h, fun W1 H1 b x1 hb => by
    cases b with
    | true => exact iteT ⟨B, W0, H0, W1, ε, k, le.trans x1.le, x.trans x1, en.ext x1, hb, R⟩
    | false => exact iteF ⟨B, W0, H0, W1, ε, k, le.trans x1.le, x.trans x1, en.ext x1, hb, R⟩, R.ex.after x⟩
theorem EnvR.ad {K : PySem.W.Frag} {c : CW} {H0 H : Hp} {σ : L2.St} {ε : DEnv} (en : EnvR K c H0 H σ ε) {i j : Nat} {x y : DV} (hi : getV ε i = some x) (hj : getV ε j = some y) (mx : x.mine = true) (my : y.mine = true) {a : Addr} (e1 : σ[i]? = some (some (.ref a))) (e2 : σ[j]? = some (some (.ref a))) : i = j := by
  obtain ⟨l, ad, h1, h2, h3⟩ := en
  have at_ : ∀ {i : Nat} {x : DV}, getV ε i = some x → x.mine = true → σ[i]? = some (some (.ref a)) → ad i = a := fun {i x} h m e => by
    obtain ⟨v, e3, s⟩ := h1 i x h
    rw [e] at e3
    cases s with
    | val => cases m
    | own => cases e3; rfl
    | ownO => exact V.ref.inj (Option.some.inj (Option.some.inj e3)).symm
    | ownD => cases e3; rfl
  exact h2 i j x y hi hj mx my ((at_ hi mx e1).trans (at_ hj my e2).symm)
/-- a thing of ours is known from now on -/
theorem EnvR.know {K : PySem.W.Frag} {W : Wd} {H0 H : Hp} {σ : L2.St} {ε : DEnv} (en : EnvR K W.c H0 H σ ε) (i : Nat) {a : Addr} {I : HO → Prop} {d : D} (hs : σ[i]? = some (some (.ref a))) (n : W.c a = none)
    (own : ∀ j x, j ≠ i → getV ε j = some x → x.mine = true → ∀ u, σ[j]? = some (some u) → u ≠ .ref a) (r : Rep K (W.put a I).c (.ref a) d) : EnvR K (W.put a I).c H0 H σ (setV ε i (some (.val d))) := by
  obtain ⟨l, ad, h1, h2, h3⟩ := en
  have at_ : ∀ {j : Nat} {x : DV}, j ≠ i → getV (setV ε i (some (.val d))) j = some x → getV ε j = some x := fun {j x} n h => by
    rw [get_set, if_neg n] at h
    exact h
  have me : ∀ {j : Nat} {x : DV}, j = i → getV (setV ε i (some (.val d))) j = some x → x = .val d := fun {j x} n h => by
    rw [get_set, if_pos n] at h
    split at h
    · cases h
      rfl
    · cases h
  refine ⟨by rw [setV_len, l], ad, fun j x hx => ?_, fun j k x y hx hy mx my e => ?_, fun j x hx mx => ?_⟩
  · by_cases e : j = i
    · rw [me e hx, e]
      exact ⟨_, hs, .val r⟩
    · have hx' := at_ e hx
      obtain ⟨v, e1, s⟩ := h1 j x hx'
      refine ⟨v, e1, ?_⟩
      have ne : x.mine = true → v ≠ .ref a := fun m => own j x e hx' m v e1
      generalize ad j = b at s
      cases s with
      | val r => exact .val (r.mono (Wd.put_le n))
      | own n1 h r =>
        have ne := ne rfl
        exact .own (by rw [Wd.put_ne (fun z => ne (by rw [z]))]; exact n1) h (r.mono (Wd.put_le n))
      | ownO n1 h r =>
        have ne := ne rfl
        exact .ownO (by rw [Wd.put_ne (fun z => ne (by rw [z]))]; exact n1) h (r.mono (Wd.put_le n))
      | ownD n1 h e r =>
        have ne := ne rfl
        exact .ownD (by rw [Wd.put_ne (fun z => ne (by rw [z]))]; exact n1) h e (r.mono (Wd.put_le n))
  · have n1 : j ≠ i := fun z => by
      rw [me z hx] at mx
      cases mx
    have n2 : k ≠ i := fun z => by
      rw [me z hy] at my
      cases my
    exact h2 j k x y (at_ n1 hx) (at_ n2 hy) mx my e
  · have n1 : j ≠ i := fun z => by
      rw [me z hx] at mx
      cases mx
    exact h3 j x (at_ n1 hx) mx
theorem dss_frz {sts : List Stmt} (i : Nat) (h : DSs X E sts t) : DSs X E sts (xsFrz i t) :=
  PSs.to h fun σ H M ⟨B, W0, H0, W, ε, k, le, x, en, h, R⟩ => by
    unfold xsFrz at h
    split at h
    · rename_i xs hx
      obtain ⟨a, vs, e1, n, e2, r, n0⟩ := en.own hx
      refine ⟨B, W0, H0, W.put a (Eq (.lst vs)), _, k, le.trans (Wd.put_le n), x.know e2 (fun ps z => by cases z) rfl n n0, en.know i e1 n (fun j y ne hy my u hu z => ?_) (.lst Wd.put_same (r.mono (Wd.put_le n))), h, R⟩
      subst z
      exact ne (en.ad hy hx my rfl hu e1)
    · rename_i xs hx
      obtain ⟨a, vs, e1, n, e2, e3, r, n0⟩ := en.ownD hx
      refine ⟨B, W0, H0, W.put a (DctI vs), _, k, le.trans (Wd.put_le n), x.know e2 (fun ps z => by cases z) (.inl rfl) n n0, en.know i e1 n (fun j y ne hy my u hu z => ?_) (.dct Wd.put_same e3 (r.mono (Wd.put_le n))), h, R⟩
      subst z
      exact ne (en.ad hy hx my rfl hu e1)
    · exact ⟨B, W0, H0, W, ε, k, le, x, en, h, R⟩
/-- a thing of ours changes -/
theorem EnvR.upd {K : PySem.W.Frag} {W : Wd} {H0 H : Hp} {σ : L2.St} {ε : DEnv} (en : EnvR K W.c H0 H σ ε) (i : Nat) {a : Addr} {o : HO} {x y : DV} (hi : getV ε i = some x) (mx : x.mine = true) (hs : σ[i]? = some (some (.ref a))) (n0 : Fr H0 a)
    (s : Slot K W.c (L2.upd H a o) a (.ref a) y) : EnvR K W.c H0 (L2.upd H a o) σ (setV ε i (some y)) := by
  have two : ∀ j z, j ≠ i → getV ε j = some z → z.mine = true → ∀ u, σ[j]? = some (some u) → u ≠ .ref a := fun j z ne hz mz u hu e => by
    subst e
    exact ne (en.ad hz hi mz mx hu hs)
  obtain ⟨l, ad, h1, h2, h3⟩ := en
  have at_ : ∀ {j : Nat} {z : DV}, j ≠ i → getV (setV ε i (some y)) j = some z → getV ε j = some z := fun {j z} n h => by
    rw [get_set, if_neg n] at h
    exact h
  have me : ∀ {j : Nat} {z : DV}, j = i → getV (setV ε i (some y)) j = some z → z = y := fun {j z} n h => by
    rw [get_set, if_pos n] at h
    split at h
    · cases h
      rfl
    · cases h
  have own : ∀ {j : Nat} {z : DV}, getV ε j = some z → z.mine = true → σ[j]? = some (some (.ref (ad j))) := fun {j z} h m => by
    obtain ⟨v, e1, s⟩ := h1 j z h
    cases s with
    | val => cases m
    | own => exact e1
    | ownO => exact e1
    | ownD => exact e1
  refine ⟨by rw [setV_len, l], fun j => if j = i then a else ad j, fun j z hz => ?_, fun j k z w hz hw mz mw e => ?_, fun j z hz mz => ?_⟩
  · show ∃ v, _ ∧ Slot K W.c _ (if j = i then a else ad j) v z
    by_cases e : j = i
    · rw [if_pos e, me e hz, e]
      exact ⟨_, hs, s⟩
    · rw [if_neg e]
      have hz' := at_ e hz
      obtain ⟨v, e1, s1⟩ := h1 j z hz'
      refine ⟨v, e1, ?_⟩
      generalize ad j = b at s1
      cases s1 with
      | val r => exact .val r
      | own n1 h r => exact .own n1 (by rw [upd_ne (fun q => two j _ e hz' rfl _ e1 (by rw [q]))]; exact h) r
      | ownO n1 h r => exact .ownO n1 (by rw [upd_ne (fun q => two j _ e hz' rfl _ e1 (by rw [q]))]; exact h) r
      | ownD n1 h e3 r => exact .ownD n1 (by rw [upd_ne (fun q => two j _ e hz' rfl _ e1 (by rw [q]))]; exact h) e3 r
  · have e : (if j = i then a else ad j) = (if k = i then a else ad k) := e
    by_cases ej : j = i
    · by_cases ek : k = i
      · rw [ej, ek]
      · rw [if_pos ej, if_neg ek] at e
        exact absurd (by rw [e]) (two k w ek (at_ ek hw) mw _ (own (at_ ek hw) mw))
    · by_cases ek : k = i
      · rw [if_neg ej, if_pos ek] at e
        exact absurd (by rw [e]) (two j z ej (at_ ej hz) mz _ (own (at_ ej hz) mz))
      · rw [if_neg ej, if_neg ek] at e
        exact h2 j k z w (at_ ej hz) (at_ ek hw) mz mw e
  · show Fr H0 (if j = i then a else ad j)
    by_cases e : j = i
    · rw [if_pos e]
      exact n0
    · rw [if_neg e]
      exact h3 j z (at_ e hz) mz
/-- x.append(e), x our own list -/
theorem ds_app {i : Nat} {x : Str} {p1 p2 p3 : Pos} (hv : PE X (.Name x p1) (tVar i)) (ha : DE X E e xa)
    (hh : ∀ (to : TE) (ta : TA), PE X (.Name x p1) to → PA X [e] ta → PE X (.Call (.Attribute (.Name x p1) "append" p2) [e] [] p3) (tBM X.K "list" rAppend to ta))
    (hs : swapsWith (.Call (.Attribute (.Name x p1) "append" p2) [e] [] p3) none pos.line X.env = pure false := by rfl) (hst : starEach [e] X.env = (false, eval e X.env) :: starEach [] X.env := by rfl) : DSt X E (.Expr (.Call (.Attribute (.Name x p1) "append" p2) [e] [] p3) pos) (xsApp i xa) :=
  PS.to (ps_expr (hh _ _ hv (pa_cons ha pa_nil hst)) hs) fun σ H M ⟨B, W0, H0, W, ε, k, le, x, en, h, R⟩ => by
    unfold xsApp at h
    split at h
    · rename_i xs hx
      obtain ⟨a, vs, e1, n, e2, r, n0⟩ := en.own hx
      refine ⟨.ref a, e1, .inl ⟨rfl, vs, .inl (.inl e2)⟩, W, H0, ε, _, _, x.good, en, h, fun W1 H1 v d x1 r1 hd => ?_, R.ex.after x⟩
      obtain ⟨n1, _, k1⟩ := x1.un _ _ e2 n
      have e3 := k1 fun ps z => by cases z
      refine ⟨a, vs, v, rfl, rfl, e3, by rw [r.length]; exact hd.1, ?_⟩
      have x2 : Ext W0 H0 W1 (L2.upd H1 a (.lst (vs ++ [v]))) := (x.trans x1).upd e3 n1 n0 (fun ps z => by cases z) (fun φ z => by cases z)
      exact R.nx W1 _ σ _ (le.trans x1.le) x2 ((en.ext x1).upd i hx rfl e1 n0 (.own n1 upd_same ((r.mono x1.le).append (.cons r1 .nil)))) hd.2
    · exact h.elim
end
end DL
-- CUT
/-! ### what is walked; loops; comprehensions; the promise of a def -/
namespace DL
open PySem PySem.Spec PyProof.Rows L2 Kit
/-- what an iterator gives while G stands -/
structure ItD (K : PySem.W.Frag) (G : Wd → Hp → Prop) (J : It) (ds : List D) : Prop where
  goes : ∀ i W H, i < ds.length → G W H → J.go i H
  stops : ∀ W H, G W H → J.stop ds.length H
  yields : ∀ i W H x H', i < ds.length → G W H → J.yld i H x H' → ∃ W' d, Ext W H W' H' ∧ ds[i]? = some d ∧ Rep K W'.c x d
/-- .. all of it is known for good -/
def dI (K : PySem.W.Frag) (E : EX) (t : DXA) : TI := fun σ H R => ∃ W H0 ε q e, Good W H ∧ EnvR K W.c H0 H σ ε ∧ t ε q e ∧ (∀ W' H' J ds, Ext W H W' H' → ItD K (fun W2 H2 => CW.le W'.c W2.c ∧ Good W2 H2) J ds → q ds → R J H') ∧ KE K W H E e
/-- .. while nothing of ours changes -/
def dIS (K : PySem.W.Frag) (E : EX) (t : DXA) : TI := fun σ H R => ∃ W H0 ε q e, Good W H ∧ EnvR K W.c H0 H σ ε ∧ t ε q e ∧ (∀ W' H' J ds, Ext W H W' H' → ItD K (fun W2 H2 => Ext W' H' W2 H2) J ds → q ds → R J H') ∧ KE K W H E e
theorem ItD.imp {K : PySem.W.Frag} {G G' : Wd → Hp → Prop} {J : It} {ds : List D} (h : ItD K G J ds) (f : ∀ W H, G' W H → G W H) : ItD K G' J ds :=
  ⟨fun i W H hi g => h.goes i W H hi (f _ _ g), fun W H g => h.stops W H (f _ _ g), fun i W H x H' hi g => h.yields i W H x H' hi (f _ _ g)⟩
theorem PI.to {X : Cx} {tg e : Expr} {t t' : TI} (h : PI X tg e t) (f : ∀ σ H R, t' σ H R → t σ H R) : PI X tg e t' := ⟨fun pins s σ H R I q => h.run pins s σ H R I (f _ _ _ q)⟩
/-- a walk that leaves the heap -/
theorem ItD.at {K : PySem.W.Frag} {G : Wd → Hp → Prop} {J : It} {vs : List V} {ds : List D} {Gh : Hp → Prop} (w : Walk J vs.length Gh (YAt vs)) (h1 : ∀ W H, G W H → Gh H) (hg : ∀ W H, G W H → Good W H) (hr : ∀ W H, G W H → RepL K W.c vs ds) (len : vs.length = ds.length) : ItD K G J ds :=
  ⟨fun i W H hi g => w.goes i H (by omega) (h1 _ _ g), fun W H g => by
    rw [← len]
    exact w.stops H (h1 _ _ g), fun i W H x H' hi g y => by
    obtain ⟨rfl, e⟩ := w.yields i H x H' (by omega) (h1 _ _ g) y
    obtain ⟨d, e2, r⟩ := (hr _ _ g).got e
    exact ⟨W, d, .refl (hg _ _ g), e2, r⟩⟩
section
variable {X : Cx} {E : EX} {tg e : Expr} {xa : DX}
def xiLst (a : DX) : DXA := fun ε q e => a ε (fun x => match x with | .lst ds => q ds | _ => False) e
def xiTup (a : DX) : DXA := fun ε q e => a ε (fun x => match x with | .tup ds => q ds | _ => False) e
theorem Rep.lstOf {K : PySem.W.Frag} {c : CW} {v : V} {ds : List D} (r : Rep K c v (.lst ds)) : ∃ a vs, v = .ref a ∧ c a = some (Eq (.lst vs)) ∧ RepL K c vs ds := by
  cases r with
  | lst h r => exact ⟨_, _, rfl, h, r⟩
theorem Rep.tupOf {K : PySem.W.Frag} {c : CW} {v : V} {ds : List D} (r : Rep K c v (.tup ds)) : ∃ a vs, v = .ref a ∧ (c a = some (Eq (.tup vs)) ∨ SqT K (fun _ => none) a vs) ∧ RepL K c vs ds := by
  cases r with
  | tup h r => exact ⟨_, _, rfl, h, r⟩
theorem known {W : Wd} {H : Hp} (g : Good W H) {a : Addr} {o : HO} (h : W.c a = some (Eq o)) : H a = some o := by
  obtain ⟨u, e, rfl⟩ := g.cel _ _ h
  exact e
theorem tup_known {K : PySem.W.Frag} {W : Wd} {H : Hp} (g : Good W H) {a : Addr} {vs : List V} (h : W.c a = some (Eq (.tup vs)) ∨ SqT K (fun _ => none) a vs) : SqT K H a vs := by
  rcases h with h | h
  · exact .inl (.inl (known g h))
  · exact none_sqt h
theorem di_lst (h : DE X E e xa) : PI X tg e (dI X.K E (xiLst xa)) := PI.to (pi_list h) fun σ H R ⟨W, H0, ε, q, e, g, en, t, k, ke⟩ => ⟨W, H0, ε, _, e, g, en, t, fun W1 H1 v x x1 r h1 => by
  cases x with
  | lst ds =>
    obtain ⟨a, vs, rfl, hc, rl⟩ := r.lstOf
    exact ⟨a, rfl, ⟨vs, .inl (.inl (known x1.good hc))⟩, k W1 H1 _ ds x1 (.at walk_list (fun W H g => .inl (.inl (known g.2 (g.1 _ _ hc)))) (fun W H g => g.2) (fun W H g => rl.mono g.1) rl.length) h1⟩
  | _ => exact h1.elim, ke⟩
theorem di_tup (h : DE X E e xa) : PI X tg e (dI X.K E (xiTup xa)) := PI.to (pi_tup h) fun σ H R ⟨W, H0, ε, q, e, g, en, t, k, ke⟩ => ⟨W, H0, ε, _, e, g, en, t, fun W1 H1 v x x1 r h1 => by
  cases x with
  | tup ds =>
    obtain ⟨a, vs, rfl, hc, rl⟩ := r.tupOf
    exact ⟨a, rfl, ⟨vs, tup_known x1.good hc⟩, k W1 H1 _ ds x1 (.at walk_tup (fun W H g => tup_known g.2 (hc.imp (g.1 _ _) id)) (fun W H g => g.2) (fun W H g => rl.mono g.1) rl.length) h1⟩
  | _ => exact h1.elim, ke⟩
theorem dis_lst (h : DS X E e xa) : PI X tg e (dIS X.K E (xiLst xa)) := PI.to (pi_list h) fun σ H R ⟨W, H0, ε, q, e, g, en, t, k, ke⟩ => ⟨W, H0, ε, _, e, g, en, t, fun W1 H1 v x x1 r h1 => by
  cases x with
  | lst ds =>
    cases r with
    | rep r =>
      obtain ⟨a, vs, rfl, hc, rl⟩ := r.lstOf
      exact ⟨a, rfl, ⟨vs, .inl (.inl (known x1.good hc))⟩, k W1 H1 _ ds x1 (.at walk_list (fun W H g => .inl (.inl (known g.good (g.le _ _ hc)))) (fun W H g => g.good) (fun W H g => rl.mono g.le) rl.length) h1⟩
    | @lst a vs _ hh n rl =>
      exact ⟨a, rfl, ⟨vs, .inl (.inl hh)⟩, k W1 H1 _ ds x1 (.at walk_list (fun W H g => .inl (.inl ((g.un _ _ hh n).2.2 fun ps z => by cases z))) (fun W H g => g.good) (fun W H g => rl.mono g.le) rl.length) h1⟩
  | _ => exact h1.elim, ke⟩
theorem dis_of {t : DXA} (h : PI X tg e (dI X.K E t)) : PI X tg e (dIS X.K E t) := PI.to h fun σ H R ⟨W, H0, ε, q, e, g, en, t, k, ke⟩ => ⟨W, H0, ε, _, e, g, en, t, fun W1 H1 J ds x1 r h1 => k W1 H1 J ds x1 (r.imp fun W H g => ⟨g.le, g.good⟩) h1, ke⟩
/-- range -/
def rngD (lo : Int) (n : Nat) : List D := (List.range n).map fun (i : Nat) => D.int (lo + (i : Int))
theorem rngD_len (lo : Int) (n : Nat) : (rngD lo n).length = n := by
  unfold rngD
  rw [List.length_map, List.length_range]
theorem rngD_at {lo : Int} {n i : Nat} (h : i < n) : (rngD lo n)[i]? = some (.int (lo + (i : Int))) := by
  unfold rngD
  rw [List.getElem?_map, List.getElem?_range h]
  rfl
theorem ItD.range {K : PySem.W.Frag} {G : Wd → Hp → Prop} (hg : ∀ W H, G W H → Good W H) {lo : Int} {n : Nat} : ItD K G (Itr lo n) (rngD lo n) :=
  ⟨fun i W H hi g => walk_range.goes i H (by rw [rngD_len] at hi; exact hi) trivial, fun W H g => by
    rw [rngD_len]
    exact walk_range.stops H trivial, fun i W H x H' hi g y => by
    rw [rngD_len] at hi
    obtain ⟨rfl, e⟩ := walk_range.yields i H x H' hi trivial y
    exact ⟨W, _, .refl (hg _ _ g), rngD_at hi, by rw [e]; exact .int _⟩⟩
def xiRng1 (t : DXA) : DXA := fun ε q e => t ε (fun ds => match ds with
  | [.int n] => (-(2 ^ 62) ≤ n ∧ n < 2 ^ 62) ∧ q (rngD 0 n.toNat)
  | _ => False) e
def xiRng2 (t : DXA) : DXA := fun ε q e => t ε (fun ds => match ds with
  | [.int lo, .int hi] => (-(2 ^ 62) ≤ lo ∧ lo < 2 ^ 62 ∧ -(2 ^ 62) ≤ hi ∧ hi < 2 ^ 62) ∧ q (rngD lo (hi - lo).toNat)
  | _ => False) e
theorem SeenL.one {K : PySem.W.Frag} {c : CW} {H : Hp} {vs : List V} {d : D} (h : SeenL K c H vs [d]) : ∃ v, vs = [v] ∧ Seen K c H v d := by
  cases h with
  | cons h r =>
    cases r
    exact ⟨_, rfl, h⟩
theorem SeenL.two {K : PySem.W.Frag} {c : CW} {H : Hp} {vs : List V} {d e : D} (h : SeenL K c H vs [d, e]) : ∃ v u, vs = [v, u] ∧ Seen K c H v d ∧ Seen K c H u e := by
  cases h with
  | cons h r =>
    obtain ⟨u, rfl, k⟩ := r.one
    exact ⟨_, _, rfl, h, k⟩
theorem di_rng1 {t : DXA} (h : PI X tg e (iRng1 (dAS X.K E t))) : PI X tg e (dI X.K E (xiRng1 t)) := PI.to h fun σ H R ⟨W, H0, ε, q, e, g, en, t, k, ke⟩ => ⟨W, H0, ε, _, e, g, en, t, fun W1 H1 vs ds x1 r h1 => by
  dsimp only at h1
  split at h1
  · rename_i n
    obtain ⟨v, rfl, s⟩ := r.one
    rw [s.int]
    exact ⟨n, rfl, h1.1.1, h1.1.2, k W1 H1 _ _ x1 (.range fun W H g => g.2) h1.2⟩
  · exact h1.elim, ke⟩
theorem di_rng2 {t : DXA} (h : PI X tg e (iRng2 (dAS X.K E t))) : PI X tg e (dI X.K E (xiRng2 t)) := PI.to h fun σ H R ⟨W, H0, ε, q, e, g, en, t, k, ke⟩ => ⟨W, H0, ε, _, e, g, en, t, fun W1 H1 vs ds x1 r h1 => by
  dsimp only at h1
  split at h1
  · rename_i lo hi
    obtain ⟨v, u, rfl, s, s2⟩ := r.two
    rw [s.int, s2.int]
    exact ⟨lo, hi, rfl, h1.1, k W1 H1 _ _ x1 (.range fun W H g => g.2) h1.2⟩
  · exact h1.elim, ke⟩
/-- the signs of a text -/
def sgnD (z : Str) : List D := z.cps.toList.map fun c => D.str ⟨#[c]⟩
theorem ItD.text {K : PySem.W.Frag} {G : Wd → Hp → Prop} (hg : ∀ W H, G W H → Good W H) {z : Str} : ItD K G (Its z) (sgnD z) := by
  have len : (sgnD z).length = z.cps.size := by
    unfold sgnD
    rw [List.length_map, Array.length_toList]
  refine ⟨fun i W H hi g => walk_str.goes i H (by rw [len] at hi; exact hi) trivial, fun W H g => by
    rw [len]
    exact walk_str.stops H trivial, fun i W H x H' hi g y => ?_⟩
  rw [len] at hi
  obtain ⟨rfl, c, e, rfl⟩ := walk_str.yields i H x H' hi trivial y
  refine ⟨W, .str ⟨#[c]⟩, .refl (hg _ _ g), ?_, .str _⟩
  unfold sgnD
  rw [List.getElem?_map, Array.getElem?_toList, e]
  rfl
def xiStr (a : DX) : DXA := fun ε q e => a ε (fun x => match x with | .str z => q (sgnD z) | _ => False) e
theorem di_str (h : DE X E e xa) : PI X tg e (dI X.K E (xiStr xa)) := PI.to (pi_str h) fun σ H R ⟨W, H0, ε, q, e, g, en, t, k, ke⟩ => ⟨W, H0, ε, _, e, g, en, t, fun W1 H1 v x x1 r h1 => by
  cases x with
  | str z =>
    cases r
    exact ⟨z, rfl, k W1 H1 _ _ x1 (.text fun W H g => g.2) h1⟩
  | _ => exact h1.elim, ke⟩
/-- pairs: enumerate, zip -/
theorem ItD.pairs {K : PySem.W.Frag} {G : Wd → Hp → Prop} {J : It} {n : Nat} {Gh : Hp → Prop} {xs ys : Nat → Option V} {ds : List D} (w : Walk J n Gh (YPair xs ys)) (h1 : ∀ W H, G W H → Gh H) (hg : ∀ W H, G W H → Good W H) (len : ds.length = n)
    (hr : ∀ W H i x y, G W H → xs i = some x → ys i = some y → i < n → ∃ a b, ds[i]? = some (.tup [a, b]) ∧ Rep K W.c x a ∧ Rep K W.c y b) : ItD K G J ds :=
  ⟨fun i W H hi g => w.goes i H (by omega) (h1 _ _ g), fun W H g => by
    rw [len]
    exact w.stops H (h1 _ _ g), fun i W H x H' hi g yy => by
    obtain ⟨T, x, y, rfl, n, rfl, e1, e2⟩ := w.yields i H x H' (by omega) (h1 _ _ g) yy
    obtain ⟨a, b, e, r1, r2⟩ := hr W H i x y g e1 e2 (by omega)
    have l := Wd.put_le (I := Eq (.tup [x, y])) ((hg _ _ g).fresh n)
    exact ⟨_, _, .put (hg _ _ g) n (fun ps z => by cases z) rfl, e, .tup (.inl Wd.put_same) (.cons (r1.mono l) (.cons (r2.mono l) .nil))⟩⟩
def enumD (ds : List D) : List D := ds.zipIdx.map fun p => D.tup [.int (p.2 : Int), p.1]
def xiEnum (t : DXA) : DXA := fun ε q e => t ε (fun ds => match ds with | [.lst xs] => q (enumD xs) | _ => False) e
theorem di_enum {t : DXA} (h : PI X tg e (iEnum X.K (dA X.K E t))) : PI X tg e (dI X.K E (xiEnum t)) := PI.to h fun σ H R ⟨W, H0, ε, q, e, g, en, t, k, ke⟩ => ⟨W, H0, ε, _, e, g, en, t, fun W1 H1 vs ds x1 r h1 => by
  dsimp only at h1
  split at h1
  · rename_i xs
    cases r with
    | cons r0 rn =>
      cases rn
      obtain ⟨a, us, rfl, hc, rl⟩ := r0.lstOf
      refine ⟨a, us, rfl, .inl (.inl (known x1.good hc)), k W1 H1 _ _ x1 (.pairs walk_enum (fun W H g => .inl (.inl (known g.2 (g.1 _ _ hc)))) (fun W H g => g.2) ?_ fun W H i x y g e1 e2 hi => ?_) h1⟩
      · unfold enumD
        rw [List.length_map, List.length_zipIdx, rl.length]
      · cases e1
        obtain ⟨d, e3, r3⟩ := rl.got e2
        refine ⟨.int (i : Nat), d, ?_, .int _, r3.mono g.1⟩
        unfold enumD
        rw [List.getElem?_map, List.getElem?_zipIdx, e3]
        simp
  · exact h1.elim, ke⟩
def zipD (xs ys : List D) : List D := (xs.zip ys).map fun p => D.tup [p.1, p.2]
/-- of two lists, a list and a tuple: as lists -/
def xiZip (t : DXA) : DXA := fun ε q e => t ε (fun ds => match ds with | [.lst xs, .lst ys] => q (zipD xs ys) | _ => False) e
theorem di_zip {t : DXA} (h : PI X tg e (iZip X.K (dA X.K E t))) : PI X tg e (dI X.K E (xiZip t)) := PI.to h fun σ H R ⟨W, H0, ε, q, e, g, en, t, k, ke⟩ => ⟨W, H0, ε, _, e, g, en, t, fun W1 H1 vs ds x1 r h1 => by
  dsimp only at h1
  split at h1
  · rename_i xs ys
    cases r with
    | cons r0 rn =>
      cases rn with
      | cons r9 rm =>
        cases rm
        obtain ⟨a, us, rfl, hc, rl⟩ := r0.lstOf
        obtain ⟨b, ws, rfl, hc2, rl2⟩ := r9.lstOf
        refine ⟨a, b, us, ws, rfl, .inl (.inl (known x1.good hc)), .inl (.inl (known x1.good hc2)), k W1 H1 _ _ x1 (.pairs (walk_zip rfl) (fun W H g => ⟨.inl (.inl (known g.2 (g.1 _ _ hc))), .inl (.inl (known g.2 (g.1 _ _ hc2)))⟩) (fun W H g => g.2) ?_ fun W H i x y g e1 e2 hi => ?_) h1⟩
        · unfold zipD
          rw [List.length_map, List.length_zip, rl.length, rl2.length]
        · obtain ⟨d, e3, r3⟩ := rl.got e1
          obtain ⟨d2, e4, r4⟩ := rl2.got e2
          refine ⟨d, d2, ?_, r3.mono g.1, r4.mono g.1⟩
          unfold zipD
          rw [List.getElem?_map, show (xs.zip ys)[i]? = some (d, d2) from List.getElem?_zip_eq_some.mpr ⟨e3, e4⟩]
          rfl
  · exact h1.elim, ke⟩
end
/-! #### what a target takes -/
abbrev GX := D → DEnv → (DEnv → Prop) → Prop
abbrev GXs := List D → DEnv → (DEnv → Prop) → Prop
def GD (K : PySem.W.Frag) (g : TG) (t : GX) (vs : List Nat) : Prop := ∀ W H H0 v d σ ε (Q : L2.St → Hp → Prop) (q : DEnv → Prop), Good W H → Rep K W.c v d → EnvR K W.c H0 H σ ε → t d ε q → (∀ σ' ε', EnvR K W.c H0 H σ' ε' → wipe σ' vs = wipe σ vs → q ε' → Q σ' H) → g v σ H Q
def GDs (K : PySem.W.Frag) (g : TGs) (t : GXs) (vs : List Nat) : Prop := ∀ W H H0 us ds σ ε (Q : L2.St → Hp → Prop) (q : DEnv → Prop), Good W H → RepL K W.c us ds → EnvR K W.c H0 H σ ε → t ds ε q → (∀ σ' ε', EnvR K W.c H0 H σ' ε' → wipe σ' vs = wipe σ vs → q ε' → Q σ' H) → g us σ H Q
def xgName (i : Nat) : GX := fun d ε q => q (setV ε i (some (.val d)))
def xgNil : GXs := fun ds ε q => match ds with | [] => q ε | _ => False
def xgCons (t : GX) (u : GXs) : GXs := fun ds ε q => match ds with | d :: r => t d ε (fun ε' => u r ε' q) | [] => False
def xgTup (n : Nat) (t : GXs) : GX := fun d ε q => match d with | .tup ds => ds.length = n ∧ t ds ε q | _ => False
theorem wipe_get (σ : L2.St) : ∀ (vs : List Nat) (j : Nat), (wipe σ vs)[j]? = if j ∈ vs then (if j < σ.length then some none else none) else σ[j]?
  | [], j => by simp [wipe]
  | v :: vs, j => by
    unfold wipe
    rw [List.getElem?_set, wipe_get σ vs j, wipe_length]
    by_cases e : v = j
    · subst e
      simp
    · rw [if_neg e]
      by_cases m : j ∈ vs
      · rw [if_pos m, if_pos (List.mem_cons_of_mem _ m)]
      · rw [if_neg m, if_neg (by simp only [List.mem_cons, not_or]; exact ⟨fun z => e z.symm, m⟩)]
theorem wipe_put (σ : L2.St) {vs : List Nat} {i : Nat} (h : i ∈ vs) (o : Option V) : wipe (σ.set i o) vs = wipe σ vs := by
  apply List.ext_getElem?
  intro j
  rw [wipe_get, wipe_get, List.length_set, List.getElem?_set]
  by_cases m : j ∈ vs
  · rw [if_pos m, if_pos m]
  · rw [if_neg m, if_neg m, if_neg (fun (z : i = j) => m (z ▸ h))]
theorem wipe_two (σ : L2.St) (vs : List Nat) : wipe (wipe σ vs) vs = wipe σ vs := by
  apply List.ext_getElem?
  intro j
  rw [wipe_get, wipe_get, wipe_length]
  by_cases m : j ∈ vs
  · rw [if_pos m, if_pos m]
  · rw [if_neg m]
theorem gd_name {K : PySem.W.Frag} {i : Nat} {vs : List Nat} (h : i ∈ vs) : GD K (gName i) (xgName i) vs := fun W H H0 v d σ ε Q q g r en t k => k _ _ (en.set i r) (wipe_put σ h _) t
theorem gd_nil {K : PySem.W.Frag} {vs : List Nat} : GDs K gNil xgNil vs := fun W H H0 us ds σ ε Q q g r en t k => by
  cases r with
  | nil => exact ⟨rfl, k _ _ en rfl t⟩
  | cons h r => exact t.elim
theorem gd_cons {K : PySem.W.Frag} {g : TG} {gs : TGs} {t : GX} {u : GXs} {vs : List Nat} (h1 : GD K g t vs) (h2 : GDs K gs u vs) : GDs K (gCons g gs) (xgCons t u) vs := fun W H H0 us ds σ ε Q q g r en t k => by
  cases r with
  | nil => exact t.elim
  | cons h r => exact ⟨_, _, rfl, h1 W H H0 _ _ σ ε _ _ g h en t fun σ1 ε1 en1 w1 t1 => h2 W H H0 _ _ σ1 ε1 Q q g r en1 t1 fun σ2 ε2 en2 w2 t2 => k _ _ en2 (w2.trans w1) t2⟩
theorem gd_tup {K : PySem.W.Frag} {n : Nat} {gs : TGs} {u : GXs} {vs : List Nat} (h : GDs K gs u vs) : GD K (gTup K n gs) (xgTup n u) vs := fun W H H0 v d σ ε Q q g r en t k => by
  cases d with
  | tup ds =>
    obtain ⟨a, us, rfl, hs, rl⟩ := r.tupAt g
    exact ⟨a, us, rfl, hs, by rw [rl.length]; exact t.1, h W H H0 us ds σ ε Q q g rl en t.2 k⟩
  | _ => exact t.elim
/-! #### loops -/
def xsFor (ix : DXA) (gx : GX) (b : DXS) : DXS := fun k ε => ix ε (fun ds => ∃ I : Nat → DEnv → Prop, I 0 ε ∧ (∀ i d ε1, ds[i]? = some d → I i ε1 → gx d ε1 fun ε2 => b { k with nx := I (i + 1), ct := I (i + 1), bk := k.nx } ε2) ∧ ∀ ε1, I ds.length ε1 → k.nx ε1) k.ex
theorem ds_for {X : Cx} {E : EX} {st : Stmt} {ix : DXA} {g : TG} {gx : GX} {b : DXS} {vs : List Nat} (h : PS X st (tFor (dI X.K E ix) g (dSt X.K E b))) (hg : GD X.K g gx vs) : DSt X E st (xsFor ix gx b) :=
  PS.to h fun σ H M ⟨B, W0, H0, W, ε, k, le, x, en, h, R⟩ => ⟨W, H0, ε, _, _, x.good, en, h, fun W1 H1 J ds x1 it ⟨I, i0, is, iE⟩ => by
    have e1 := en.ext x1
    refine ⟨fun i m σ H => m = ds.length - i ∧ i ≤ ds.length ∧ ∃ W2 ε2, CW.le W1.c W2.c ∧ Ext W0 H0 W2 H ∧ EnvR X.K W2.c H0 H σ ε2 ∧ I i ε2, ⟨_, rfl, Nat.zero_le _, W1, ε, .refl _, x.trans x1, e1, i0⟩, fun i m σ2 H2 w => ?_⟩
    obtain ⟨rfl, hi, W2, ε2, l2, x2, en2, i2⟩ := w
    by_cases hlt : i < ds.length
    · refine .inr ⟨it.goes i W2 H2 hlt ⟨l2, x2.good⟩, fun σ H => ∃ W3 ε3, CW.le W1.c W3.c ∧ Ext W0 H0 W3 H ∧ EnvR X.K W3.c H0 H σ ε3 ∧ I (i + 1) ε3, fun σ' H' h3 => ⟨_, ?_, rfl, hlt, h3⟩, fun v H' y => ?_⟩
      · omega
      · obtain ⟨W3, d, x3, ed, r3⟩ := it.yields i W2 H2 v H' hlt ⟨l2, x2.good⟩ y
        refine hg W3 H' H0 v d σ2 ε2 _ _ x3.good r3 (en2.ext x3) (is i d ε2 ed i2) fun σ4 ε4 en4 _ h4 => ?_
        refine ⟨W1.c, W0, H0, W3, ε4, _, l2.trans x3.le, x2.trans x3, en4, h4, fun W5 H5 σ5 ε5 l5 x5 en5 h5 => ⟨W5, ε5, l5, x5, en5, h5⟩, fun W5 H5 σ5 ε5 l5 x5 en5 h5 => R.nx W5 H5 σ5 ε5 ((le.trans x1.le).trans l5) x5 en5 h5,
          fun W5 H5 σ5 ε5 l5 x5 en5 h5 => ⟨W5, ε5, l5, x5, en5, h5⟩, R.rt, R.ex⟩
    · have e : i = ds.length := by omega
      subst e
      exact .inl ⟨it.stops W2 H2 ⟨l2, x2.good⟩, R.nx W2 H2 σ2 ε2 ((le.trans x1.le).trans l2) x2 en2 (iE ε2 i2)⟩, R.ex.after x⟩
def xsWhile (c : DXT) (b : DXS) : DXS := fun k ε => ∃ I : Nat → DEnv → Prop, (∃ m, I m ε) ∧ ∀ m ε1, I m ε1 → c ε1 (fun z => ifB z (b { k with nx := fun ε2 => ∃ m', m' < m ∧ I m' ε2, ct := fun ε2 => ∃ m', m' < m ∧ I m' ε2, bk := k.nx } ε1) (k.nx ε1)) k.ex
theorem ds_while {X : Cx} {E : EX} {st : Stmt} {c : DXT} {b : DXS} (h : PS X st (tWhile (dT X.K E c) (dSt X.K E b))) : DSt X E st (xsWhile c b) :=
  PS.to h fun σ H M ⟨B, W0, H0, W, ε, k, le, x, en, ⟨I, ⟨m0, i0⟩, is⟩, R⟩ => by
    refine ⟨fun m σ H => ∃ W2 ε2, CW.le B W2.c ∧ Ext W0 H0 W2 H ∧ EnvR X.K W2.c H0 H σ ε2 ∧ I m ε2, ⟨m0, W, ε, le, x, en, i0⟩, fun m σ2 H2 w => ?_⟩
    obtain ⟨W2, ε2, l2, x2, en2, i2⟩ := w
    refine ⟨W2, H0, ε2, _, _, x2.good, en2, is m ε2 i2, fun W3 H3 z x3 hz => ?_, R.ex.after x2⟩
    cases z with
    | true =>
      refine iteT ⟨fun σ H => ∃ m', m' < m ∧ ∃ W4 ε4, CW.le B W4.c ∧ Ext W0 H0 W4 H ∧ EnvR X.K W4.c H0 H σ ε4 ∧ I m' ε4, fun σ' H' h => h, B, W0, H0, W3, ε2, _, l2.trans x3.le, x2.trans x3, en2.ext x3, hz,
        fun W5 H5 σ5 ε5 l5 x5 en5 ⟨m', lt, h5⟩ => ⟨m', lt, W5, ε5, l5, x5, en5, h5⟩, fun W5 H5 σ5 ε5 l5 x5 en5 h5 => R.nx W5 H5 σ5 ε5 l5 x5 en5 h5,
        fun W5 H5 σ5 ε5 l5 x5 en5 ⟨m', lt, h5⟩ => ⟨m', lt, W5, ε5, l5, x5, en5, h5⟩, R.rt, R.ex⟩
    | false => exact iteF (R.nx W3 H3 σ2 ε2 (l2.trans x3.le) (x2.trans x3) (en2.ext x3) hz)
/-! #### comprehensions -/
def wipeD (ε : DEnv) : List Nat → DEnv
  | [] => ε
  | v :: vs => setV (wipeD ε vs) v none
theorem EnvR.wipe {K : PySem.W.Frag} {W : Wd} {H0 H : Hp} {σ : L2.St} {ε : DEnv} (en : EnvR K W.c H0 H σ ε) : ∀ vs : List Nat, EnvR K W.c H0 H (L2.wipe σ vs) (wipeD ε vs)
  | [] => en
  | v :: vs => (EnvR.wipe en vs).forget v
/-- one turn: yes y: y is put into the list; no: nothing is -/
def xlStep (gx : GX) (c : DXT) (a : DX) (vs : List Nat) (ε : DEnv) (d : D) (yes : D → Prop) (no : Prop) : Prop := gx d (wipeD ε vs) fun ε2 => c ε2 (fun b => ifB b (a ε2 yes NoX) no) NoX
def xlAll (step : D → (D → Prop) → Prop → Prop) (ds : List D) (q : List D → Prop) : Prop := ds.length ≤ 1000000 ∧ ∃ I : Nat → List D → Prop, I 0 [] ∧ (∀ i d acc, ds[i]? = some d → I i acc → step d (fun y => I (i + 1) (acc ++ [y])) (I (i + 1) acc)) ∧ ∀ acc, I ds.length acc → q acc
def xLc (ix : DXA) (gx : GX) (c : DXT) (a : DX) (vs : List Nat) : DXA := fun ε q e => ix ε (fun ds => xlAll (xlStep gx c a vs ε) ds q) e
def xtYes : DXT := fun _ q _ => q true
theorem dt_yes {K : PySem.W.Frag} {E : EX} {σ : L2.St} {H : Hp} {Q : Bool → Hp → Prop} (h : dT K E xtYes σ H Q) : tYes σ H Q := by
  obtain ⟨W, H0, ε, q, e, g, en, t, k, ke⟩ := h
  exact k W H true (.refl g) t
theorem PTs.to {X : Cx} {e : List Expr} {t t' : TT} (h : PTs X e t) (f : ∀ σ H Q, t' σ H Q → t σ H Q) : PTs X e t' := ⟨fun pins s σ H Q I q => h.run pins s σ H Q I (f _ _ _ q)⟩
theorem dts_nil {X : Cx} {E : EX} : PTs X [] (dT X.K E xtYes) := PTs.to pts_nil fun σ H Q h => dt_yes h
theorem lc_ok {K : PySem.W.Frag} {E : EX} {ix : DXA} {g : TG} {gx : GX} {c : DXT} {a : DX} {vs : List Nat} (hg : GD K g gx vs) : ∀ σ H Q, dN K E (xLc ix gx c a vs) σ H Q → tLc (dIS K E ix) g (dT K ⟨E0, E.T⟩ c) (dE K ⟨E0, E.T⟩ a) vs σ H Q :=
  fun σ H Q ⟨W, H0, ε, q, e, gd, en, h, k, ke⟩ => ⟨W, H0, ε, _, e, gd, en, h, fun W1 H1 J ds x1 it ⟨sz, I, i0, is, iE⟩ => fun L hL => by
    refine ⟨fun i m H => m = ds.length - i ∧ i ≤ ds.length ∧ ∃ W2 acc us, Ext W1 H1 W2 H ∧ W2.c L = none ∧ H L = some (.lst us) ∧ RepL K W2.c us acc ∧ acc.length ≤ i ∧ I i acc, ⟨_, rfl, Nat.zero_le _, W1, [], [], .new x1.good hL, x1.good.fresh hL, upd_same, .nil, Nat.le_refl _, i0⟩, fun i m H2 w => ?_⟩
    obtain ⟨rfl, hi, W2, acc, us, x2, n2, h2, r2, la, i2⟩ := w
    by_cases hlt : i < ds.length
    · refine .inr ⟨it.goes i W2 H2 hlt x2, fun H => ∃ W2 acc us, Ext W1 H1 W2 H ∧ W2.c L = none ∧ H L = some (.lst us) ∧ RepL K W2.c us acc ∧ acc.length ≤ i + 1 ∧ I (i + 1) acc, fun H' h3 => ⟨_, ?_, rfl, hlt, h3⟩, fun v H' y => ?_⟩
      · omega
      · obtain ⟨W3, d, x3, ed, r3⟩ := it.yields i W2 H2 v H' hlt x2 y
        have x13 := x2.trans x3
        refine hg W3 H' H0 v d _ _ _ _ x3.good r3 ((en.ext (x1.trans x13)).wipe vs) (is i d acc ed i2) fun σ4 ε4 en4 w4 h4 => ⟨by rw [w4, wipe_two], W3, H0, ε4, _, _, x3.good, en4, h4, fun W5 H5 b x5 h5 => ?_, .no ((x1.trans x13).tb.trans ke.1)⟩
        obtain ⟨n3, _, k3⟩ := x3.un _ _ h2 n2
        have h3 := k3 fun ps z => by cases z
        obtain ⟨n5, _, k5⟩ := x5.un _ _ h3 n3
        have hl5 := k5 fun ps z => by cases z
        cases b with
        | false => exact iteF ⟨W5, acc, us, x13.trans x5, n5, hl5, (r2.mono x3.le).mono x5.le, by omega, h5⟩
        | true =>
          refine iteT ⟨W5, H0, ε4, _, _, x5.good, en4.ext x5, h5, fun W6 H6 u d6 x6 r6 h6 => ?_, .no (((x1.trans x13).trans x5).tb.trans ke.1)⟩
          obtain ⟨n6, _, k6⟩ := x6.un _ _ hl5 n5
          have hl6 := k6 fun ps z => by cases z
          refine ⟨us, hl6, ?_, W6, acc ++ [d6], us ++ [u], ((x13.trans x5).trans x6).upd hl6 n6 (.of hL) (fun ps z => by cases z) (fun φ z => by cases z), n6, upd_same, (((r2.mono x3.le).mono x5.le).mono x6.le).append (.cons r6 .nil), by rw [List.length_append, List.length_singleton]; omega, h6⟩
          rw [r2.length]
          exact Nat.lt_of_lt_of_le (show acc.length < 1000001 by omega) (by decide)
    · have e : i = ds.length := by omega
      subst e
      exact .inl ⟨it.stops W2 H2 x2, k _ _ _ _ _ (x1.trans x2) (x1.free (.of hL)) n2 h2 r2 (iE acc i2)⟩, ke⟩
/-- what a comprehension makes whose turns are told one by one -/
theorem xl_map {α : Type} {step : D → (D → Prop) → Prop → Prop} {q : List D → Prop} (xs : List α) (enc : α → D) (p : α → Bool) (f : α → D) (sz : xs.length ≤ 1000000)
    (h : ∀ a ∈ xs, ∀ yes no, (p a = true → yes (f a)) → (p a = false → no) → step (enc a) yes no) (hq : q ((xs.filter p).map f)) : xlAll step (xs.map enc) q := by
  refine ⟨by rw [List.length_map]; exact sz, fun i acc => acc = ((xs.take i).filter p).map f, rfl, fun i d acc hd e => ?_, fun acc e => ?_⟩
  · rw [List.getElem?_map] at hd
    obtain ⟨a, ea, rfl⟩ := Option.map_eq_some_iff.mp hd
    refine h a (List.mem_of_getElem? ea) _ _ (fun hp => ?_) (fun hp => ?_)
    · show acc ++ [f a] = _
      rw [e, List.take_add_one, ea, List.filter_append, List.map_append]
      simp [hp]
    · show acc = _
      rw [e, List.take_add_one, ea, List.filter_append, List.map_append]
      simp [hp]
  · rw [List.length_map] at e
    have e : acc = _ := e
    rw [List.take_length] at e
    rw [e]
    exact hq
theorem xl_all {α : Type} {step : D → (D → Prop) → Prop → Prop} {q : List D → Prop} (xs : List α) (enc : α → D) (f : α → D) (sz : xs.length ≤ 1000000)
    (h : ∀ a ∈ xs, ∀ (yes : D → Prop) no, yes (f a) → step (enc a) yes no) (hq : q (xs.map f)) : xlAll step (xs.map enc) q :=
  xl_map xs enc (fun _ => true) f sz (fun a ha yes no h1 _ => h a ha yes no (h1 rfl)) (by rw [List.filter_eq_self.mpr fun _ _ => rfl]; exact hq)
theorem xl_mapD {step : D → (D → Prop) → Prop → Prop} {q : List D → Prop} (ds : List D) (p : D → Bool) (f : D → D) (sz : ds.length ≤ 1000000)
    (h : ∀ a ∈ ds, ∀ yes no, (p a = true → yes (f a)) → (p a = false → no) → step a yes no) (hq : q ((ds.filter p).map f)) : xlAll step ds q := by
  have z := xl_map (step := step) (q := q) ds id p f sz h hq
  rw [List.map_id] at z
  exact z
theorem xl_allD {step : D → (D → Prop) → Prop → Prop} {q : List D → Prop} (ds : List D) (f : D → D) (sz : ds.length ≤ 1000000)
    (h : ∀ a ∈ ds, ∀ (yes : D → Prop) no, yes (f a) → step a yes no) (hq : q (ds.map f)) : xlAll step ds q := by
  have z := xl_all (step := step) (q := q) ds id f sz h hq
  rw [List.map_id] at z
  exact z
/-- each turn puts one of P into the list -/
theorem xl_any {step : D → (D → Prop) → Prop → Prop} {q : List D → Prop} (ds : List D) (P : D → Prop) (sz : ds.length ≤ 1000000) (h : ∀ d ∈ ds, ∀ (yes : D → Prop) no, (∀ y, P y → yes y) → step d yes no)
    (hq : ∀ ys : List D, ys.length = ds.length → (∀ y ∈ ys, P y) → q ys) : xlAll step ds q := by
  refine ⟨sz, fun i acc => acc.length = i ∧ ∀ y ∈ acc, P y, ⟨rfl, fun y hy => by cases hy⟩, fun i d acc hd ⟨e, hp⟩ => ?_, fun acc ⟨e, hp⟩ => hq acc e hp⟩
  refine h d (List.mem_of_getElem? hd) _ _ fun y hy => ⟨by rw [List.length_append, List.length_singleton, e], fun z hz => ?_⟩
  rcases List.mem_append.mp hz with m | m
  · exact hp z m
  · rw [List.mem_singleton.mp m]
    exact hy
/-! #### a def -/
section
variable {P : Program} {w : World} {K : PySem.W.Frag} {mg : Str → Option Value} {base : Heap}
theorem getV_iff : ∀ (ε : DEnv) (i : Nat) (x : DV), getV ε i = some x ↔ ε[i]? = some (some x)
  | [], i, x => by simp [getV]
  | y :: ε, 0, x => by simp [getV]
  | y :: ε, i + 1, x => by
    rw [List.getElem?_cons_succ]
    exact getV_iff ε i x
/-- the slots at a def's start -/
def noV : Nat → DEnv
  | 0 => []
  | n + 1 => none :: noV n
def startD (n : Nat) : List D → DEnv
  | [] => noV n
  | d :: ds => some (.val d) :: startD n ds
theorem noV_eq : ∀ n : Nat, noV n = List.replicate n none
  | 0 => rfl
  | n + 1 => congrArg (none :: ·) (noV_eq n)
theorem startD_eq (n : Nat) : ∀ ds : List D, startD n ds = ds.map (fun d => some (.val d)) ++ List.replicate n none
  | [] => noV_eq n
  | d :: ds => congrArg (some (DV.val d) :: ·) (startD_eq n ds)
theorem start_env {c : CW} {H0 H : Hp} {N : List Str} {vs : List V} {ds : List D} (r : RepL K c vs ds) {n : Nat} (hn : N.length = ds.length + n) : EnvR K c H0 H (L2.start N vs) (startD n ds) := by
  have get : ∀ {i : Nat} {x : DV}, getV (startD n ds) i = some x → ∃ d, ds[i]? = some d ∧ x = .val d := fun {i x} h => by
    have h := (getV_iff _ _ _).mp h
    rw [startD_eq, List.getElem?_append] at h
    split at h
    · rw [List.getElem?_map] at h
      obtain ⟨d, e, z⟩ := Option.map_eq_some_iff.mp h
      cases z
      exact ⟨d, e, rfl⟩
    · rw [List.getElem?_replicate] at h
      split at h <;> cases h
  refine ⟨?_, fun _ => 0, fun i x h => ?_, fun i j x y hx hy mx => ?_, fun i x hx mx => ?_⟩
  · rw [startD_eq]
    unfold L2.start
    rw [List.length_append, List.length_append, List.length_map, List.length_map, List.length_replicate, List.length_replicate, r.length]
    omega
  · obtain ⟨d, e, rfl⟩ := get h
    obtain ⟨v, e2, r2⟩ := r.get e
    refine ⟨v, ?_, .val r2⟩
    unfold L2.start
    have lt : i < vs.length := (List.getElem?_eq_some_iff.mp e2).1
    rw [List.getElem?_append_left (by rw [List.length_map]; exact lt), List.getElem?_map, e2]
    rfl
  · obtain ⟨d, e, rfl⟩ := get hx
    cases mx
  · obtain ⟨d, e, rfl⟩ := get hx
    cases mx
theorem toSp_len {T : List (Addr × Str)} {s : DF} {n : Nat} (h : ∀ ds q e, s ds q e → ds.length = n) : ∀ vs H Q E, toSp K T s vs H Q E → vs.length = n := fun vs H Q E ⟨W, ds, q, e, g, r, t, _⟩ => by rw [r.length, h ds q e t]
theorem toSp0_len {T : List (Addr × Str)} {s : DF} {n : Nat} (h : ∀ ds q e, s ds q e → ds.length = n) : ∀ vs H Q E, toSp0 K T s vs H Q E → vs.length = n := fun vs H Q E ⟨W, ds, q, g, r, t, _⟩ => by rw [r.length, h ds q _ t]
/-- what a def's body is to reach -/
abbrev endK (q : D → Prop) (e : Exc → Prop) : DK := ⟨fun _ => q .non, q, fun _ => False, fun _ => False, e⟩
/-- a def that lets no error out -/
theorem okD0 {T : List (Addr × Str)} {x qual : Str} {st : Stmt} {f : Addr} {fd : FuncData} {N ps : List Str} {k : Nat} {s : DF} {n : Nat} {t : DXS} (F : Fun K x qual st f fd) (S : FnScope N ps (defScope st)) (hn : N.length = ps.length + n) (len : ∀ ds q e, s ds q e → ds.length = ps.length)
    (body : ∀ (cdv : Value) (A : Around) (outer : List Env) (s : Shared) (H : Hp) (E : XK), Room k (A.deeper (envOfC qual (defScope st) s.heap.objs.size f cdv)) → DSs (cxOf CX0 P w K mg base N qual (defScope st) f cdv A outer s H E).nox ⟨E0, T⟩ (defBody st) t)
    (h : ∀ ds q, s ds q NoX → t (endK q NoX) (startD n ds)) : FnOk P w K mg base CX0 (k + 1) f fd ps (toSp0 K T s) :=
  F.ok S (toSp0_len len) fun cdv A outer sh H vs Q E hr ⟨W, ds, q, g, r, hs, hk, hT⟩ => ⟨_, body cdv A outer sh H E hr, W.c, W, H, W, startD n ds, endK q NoX, .refl _, .refl g, start_env r (by rw [hn, len _ _ _ hs]), h ds q hs,
    fun W1 H1 σ ε l x en hq => hk W1 H1 .non .non x .non hq, fun _ _ _ _ _ _ _ z => z.elim, fun _ _ _ _ _ _ _ z => z.elim, fun W1 H1 v d x r hq => hk W1 H1 v d x r hq, .no hT⟩
/-- .. where no text of a thing is on its way -/
theorem okDG {T : List (Addr × Str)} {x qual : Str} {st : Stmt} {f : Addr} {fd : FuncData} {N ps : List Str} {k : Nat} {s : DF} {n : Nat} {t : DXS} (F : Fun K x qual st f fd) (S : FnScope N ps (defScope st)) (hn : N.length = ps.length + n) (len : ∀ ds q e, s ds q e → ds.length = ps.length)
    (body : ∀ (cdv : Value) (A : Around) (outer : List Env) (s : Shared) (H : Hp) (E : XK), A.guards = some [] → Room k (A.deeper (envOfC qual (defScope st) s.heap.objs.size f cdv)) → DSs (cxOf CX0 P w K mg base N qual (defScope st) f cdv A outer s H E).nox ⟨E0, T⟩ (defBody st) t)
    (h : ∀ ds q, s ds q NoX → t (endK q NoX) (startD n ds)) : FnG P w K mg base CX0 (k + 1) f fd ps (toSp0 K T s) :=
  okG F S (toSp0_len len) fun cdv A outer sh H vs Q E gu hr ⟨W, ds, q, g, r, hs, hk, hT⟩ => ⟨_, body cdv A outer sh H E gu hr, W.c, W, H, W, startD n ds, endK q NoX, .refl _, .refl g, start_env r (by rw [hn, len _ _ _ hs]), h ds q hs,
    fun W1 H1 σ ε l x en hq => hk W1 H1 .non .non x .non hq, fun _ _ _ _ _ _ _ z => z.elim, fun _ _ _ _ _ _ _ z => z.elim, fun W1 H1 v d x r hq => hk W1 H1 v d x r hq, .no hT⟩
/-- .. that may raise -/
theorem okDX {T : List (Addr × Str)} {x qual : Str} {st : Stmt} {f : Addr} {fd : FuncData} {N ps : List Str} {k : Nat} {s : DF} {n : Nat} {t : DXS} (F : Fun K x qual st f fd) (S : FnScope N ps (defScope st)) (hn : N.length = ps.length + n) (len : ∀ ds q e, s ds q e → ds.length = ps.length)
    (body : ∀ (cdv : Value) (A : Around) (outer : List Env) (s : Shared) (H : Hp) (E : XK), Room k (A.deeper (envOfC qual (defScope st) s.heap.objs.size f cdv)) → DSs (cxOf (L2.CX P w) P w K mg base N qual (defScope st) f cdv A outer s H E) ⟨E, T⟩ (defBody st) t)
    (h : ∀ ds q e, s ds q e → t (endK q e) (startD n ds)) : FnOk P w K mg base (L2.CX P w) (k + 1) f fd ps (toSp K T s) :=
  F.okX S (toSp_len len) fun cdv A outer sh H vs Q E hr ⟨W, ds, q, e, g, r, hs, hk, he⟩ => ⟨_, body cdv A outer sh H E hr, W.c, W, H, W, startD n ds, endK q e, .refl _, .refl g, start_env r (by rw [hn, len _ _ _ hs]), h ds q e hs,
    fun W1 H1 σ ε l x en hq => hk W1 H1 .non .non x .non hq, fun _ _ _ _ _ _ _ z => z.elim, fun _ _ _ _ _ _ _ z => z.elim, fun W1 H1 v d x r hq => hk W1 H1 v d x r hq, he⟩
end
end DL
-- CUT
/-! ### operations on things told by their parts -/
namespace DL
open PySem PySem.Spec PyProof.Rows L2 Kit
/-! #### data -/
mutual
def D.py : D → Option PyData
  | .non => some .none
  | .bl b => some (.bool b)
  | .int i => some (.int i)
  | .str x => some (.str x)
  | .tup xs => (D.pys xs).map PyData.tuple
  | .lst xs => (D.pys xs).map PyData.list
  | .dct _ => none
  | .obj _ _ => none
  | .raw _ => none
  | .rdl _ => none
  | .cel _ => none
def D.pys : List D → Option (List PyData)
  | [] => some []
  | x :: xs => (D.py x).bind fun a => (D.pys xs).map fun b => a :: b
end
mutual
theorem rep_dp {K : PySem.W.Frag} {W : Wd} {H : Hp} (g : Good W H) : ∀ (d : D) (v : V) (p : PyData), Rep K W.c v d → d.py = some p → Dp K H v p
  | .non, _, _, r, e => by
    cases r
    cases e
    exact .non
  | .bl b, _, _, r, e => by
    cases r
    cases e
    exact .bl b
  | .int i, _, _, r, e => by
    cases r
    cases e
    exact .int i
  | .str x, _, _, r, e => by
    cases r
    cases e
    exact .str x
  | .tup ds, _, _, r, e => by
    obtain ⟨a, vs, rfl, hs, rl⟩ := r.tupAt g
    rw [D.py] at e
    obtain ⟨ps, e2, rfl⟩ := Option.map_eq_some_iff.mp e
    exact .tup hs (reps_dp g ds vs ps rl e2)
  | .lst ds, _, _, r, e => by
    obtain ⟨a, vs, rfl, hc, rl⟩ := r.lstOf
    rw [D.py] at e
    obtain ⟨ps, e2, rfl⟩ := Option.map_eq_some_iff.mp e
    exact .lst (.inl (.inl (known g hc))) (reps_dp g ds vs ps rl e2)
  | .dct _, _, _, _, e => by cases e
  | .obj _ _, _, _, _, e => by cases e
  | .raw _, _, _, _, e => by cases e
  | .rdl _, _, _, _, e => by cases e
  | .cel _, _, _, _, e => by cases e
theorem reps_dp {K : PySem.W.Frag} {W : Wd} {H : Hp} (g : Good W H) : ∀ (ds : List D) (vs : List V) (ps : List PyData), RepL K W.c vs ds → D.pys ds = some ps → DpAll K H vs ps
  | [], _, _, r, e => by
    cases r
    cases e
    exact .nil
  | d :: ds, _, _, r, e => by
    cases r with
    | cons r1 r2 =>
      rw [D.pys] at e
      obtain ⟨a, e1, e⟩ := Option.bind_eq_some_iff.mp e
      obtain ⟨b, e2, rfl⟩ := Option.map_eq_some_iff.mp e
      exact .cons (rep_dp g d _ a r1 e1) (reps_dp g ds _ b r2 e2)
end
theorem seen_dp {K : PySem.W.Frag} {W : Wd} {H : Hp} (g : Good W H) {d : D} {v : V} {p : PyData} (s : Seen K W.c H v d) (e : d.py = some p) : Dp K H v p := by
  cases s with
  | rep r => exact rep_dp g d v p r e
  | lst h n r =>
    rw [D.py] at e
    obtain ⟨ps, e2, rfl⟩ := Option.map_eq_some_iff.mp e
    exact .lst (.inl (.inl h)) (reps_dp g _ _ ps r e2)
  | dct h n e1 r => cases e
/-- data of at most so many levels, its texts of signs that there are -/
def Plain : Nat → D → Prop
  | _, .non => True
  | _, .bl _ => True
  | _, .int _ => True
  | _, .str x => PyData.strOk x = true
  | n + 1, .tup xs => ∀ x ∈ xs, Plain n x
  | n + 1, .lst xs => ∀ x ∈ xs, Plain n x
  | _, _ => False
theorem plains_py {n : Nat} (ih : ∀ d, Plain n d → ∃ p, d.py = some p ∧ p.canLay0 = true ∧ p.depth ≤ n) : ∀ xs : List D, (∀ x ∈ xs, Plain n x) → ∃ ps, D.pys xs = some ps ∧ PyData.canLayAll0 ps = true ∧ PyData.depthAll ps ≤ n
  | [], _ => ⟨[], rfl, rfl, Nat.zero_le _⟩
  | x :: xs, h => by
    obtain ⟨p, e1, l1, d1⟩ := ih x (h x (List.mem_cons_self ..))
    obtain ⟨ps, e2, l2, d2⟩ := plains_py ih xs fun y hy => h y (List.mem_cons_of_mem _ hy)
    refine ⟨p :: ps, ?_, ?_, ?_⟩
    · rw [D.pys, e1, e2]
      rfl
    · rw [PyData.canLayAll0, l1, l2]
      rfl
    · rw [PyData.depthAll]
      omega
theorem plain_py : ∀ (n : Nat) (d : D), Plain n d → ∃ p, d.py = some p ∧ p.canLay0 = true ∧ p.depth ≤ n
  | _, .non, _ => ⟨.none, rfl, rfl, Nat.zero_le _⟩
  | _, .bl b, _ => ⟨.bool b, rfl, rfl, Nat.zero_le _⟩
  | _, .int i, _ => ⟨.int i, rfl, rfl, Nat.zero_le _⟩
  | _, .str x, h => ⟨.str x, rfl, by
      unfold Plain at h
      rw [PyData.canLay0]
      exact h, Nat.zero_le _⟩
  | n + 1, .tup xs, h => by
    unfold Plain at h
    obtain ⟨ps, e, l, d⟩ := plains_py (plain_py n) xs h
    exact ⟨.tuple ps, by rw [D.py, e]; rfl, by rw [PyData.canLay0]; exact l, by rw [PyData.depth]; omega⟩
  | n + 1, .lst xs, h => by
    unfold Plain at h
    obtain ⟨ps, e, l, d⟩ := plains_py (plain_py n) xs h
    exact ⟨.list ps, by rw [D.py, e]; rfl, by rw [PyData.canLay0]; exact l, by rw [PyData.depth]; omega⟩
  | 0, .tup _, h => by cases h
  | 0, .lst _, h => by cases h
  | 0, .dct _, h => by cases h
  | 0, .obj _ _, h => by cases h
  | 0, .raw _, h => by cases h
  | 0, .rdl _, h => by cases h
  | 0, .cel _, h => by cases h
  | _ + 1, .dct _, h => by cases h
  | _ + 1, .obj _ _, h => by cases h
  | _ + 1, .raw _, h => by cases h
  | _ + 1, .rdl _, h => by cases h
  | _ + 1, .cel _, h => by cases h
theorem Plain.py {n : Nat} {d : D} (h : Plain n d) (l : n ≤ 64) : ∃ p, d.py = some p ∧ SeqAt.shaped p = true := by
  obtain ⟨p, e, a, b⟩ := plain_py n d h
  exact ⟨p, e, shaped_of a (Nat.le_trans b l)⟩
theorem Plain.mono : ∀ {n m : Nat} {d : D}, n ≤ m → Plain n d → Plain m d
  | _, _, .non, _, _ => by unfold Plain; trivial
  | _, _, .bl _, _, _ => by unfold Plain; trivial
  | _, _, .int _, _, _ => by unfold Plain; trivial
  | _, _, .str _, _, h => by unfold Plain at h ⊢; exact h
  | n + 1, m + 1, .tup xs, l, h => by
    unfold Plain at h ⊢
    exact fun x hx => Plain.mono (by omega) (h x hx)
  | n + 1, m + 1, .lst xs, l, h => by
    unfold Plain at h ⊢
    exact fun x hx => Plain.mono (by omega) (h x hx)
  | n + 1, 0, .tup xs, l, h => by omega
  | n + 1, 0, .lst xs, l, h => by omega
  | 0, _, .tup _, _, h => by cases h
  | 0, _, .lst _, _, h => by cases h
  | 0, _, .dct _, _, h => by cases h
  | 0, _, .obj _ _, _, h => by cases h
  | 0, _, .raw _, _, h => by cases h
  | 0, _, .rdl _, _, h => by cases h
  | 0, _, .cel _, _, h => by cases h
  | _ + 1, _, .dct _, _, h => by cases h
  | _ + 1, _, .obj _ _, _, h => by cases h
  | _ + 1, _, .raw _, _, h => by cases h
  | _ + 1, _, .rdl _, _, h => by cases h
  | _ + 1, _, .cel _, _, h => by cases h
mutual
/-- == of data -/
def eqD : D → D → Bool
  | .non, .non => true
  | .bl a, .bl b => a == b
  | .bl a, .int j => (if a then 1 else 0) == j
  | .int i, .bl b => i == (if b then 1 else 0)
  | .int i, .int j => i == j
  | .str x, .str y => x == y
  | .lst xs, .lst ys => eqDs xs ys
  | .tup xs, .tup ys => eqDs xs ys
  | _, _ => false
def eqDs : List D → List D → Bool
  | [], [] => true
  | x :: xs, y :: ys => eqD x y && eqDs xs ys
  | _, _ => false
end
mutual
theorem eqD_py : ∀ (x y : D) (p q : PyData), x.py = some p → y.py = some q → PyData.eqv p q = eqD x y := by
  intro x y p q hx hy
  cases x with
  | tup xs =>
    rw [D.py] at hx
    obtain ⟨ps, ex, rfl⟩ := Option.map_eq_some_iff.mp hx
    cases y with
    | tup ys =>
      rw [D.py] at hy
      obtain ⟨qs, ey, rfl⟩ := Option.map_eq_some_iff.mp hy
      rw [PyData.eqv, eqD]
      exact eqDs_py xs ys ps qs ex ey
    | lst ys =>
      rw [D.py] at hy
      obtain ⟨qs, ey, rfl⟩ := Option.map_eq_some_iff.mp hy
      simp [PyData.eqv, eqD]
    | _ => cases hy <;> simp [PyData.eqv, eqD]
  | lst xs =>
    rw [D.py] at hx
    obtain ⟨ps, ex, rfl⟩ := Option.map_eq_some_iff.mp hx
    cases y with
    | lst ys =>
      rw [D.py] at hy
      obtain ⟨qs, ey, rfl⟩ := Option.map_eq_some_iff.mp hy
      rw [PyData.eqv, eqD]
      exact eqDs_py xs ys ps qs ex ey
    | tup ys =>
      rw [D.py] at hy
      obtain ⟨qs, ey, rfl⟩ := Option.map_eq_some_iff.mp hy
      simp [PyData.eqv, eqD]
    | _ => cases hy <;> simp [PyData.eqv, eqD]
  | _ =>
    cases hx <;> (cases y with
    | tup ys =>
      rw [D.py] at hy
      obtain ⟨qs, ey, rfl⟩ := Option.map_eq_some_iff.mp hy
      simp [PyData.eqv, eqD]
    | lst ys =>
      rw [D.py] at hy
      obtain ⟨qs, ey, rfl⟩ := Option.map_eq_some_iff.mp hy
      simp [PyData.eqv, eqD]
    | _ => cases hy <;> simp [PyData.eqv, eqD])
theorem eqDs_py : ∀ (xs ys : List D) (ps qs : List PyData), D.pys xs = some ps → D.pys ys = some qs → PyData.eqvAll ps qs = eqDs xs ys
  | [], [], _, _, hx, hy => by
    cases hx
    cases hy
    rw [PyData.eqvAll, eqDs]
  | [], y :: ys, _, _, hx, hy => by
    cases hx
    rw [D.pys] at hy
    obtain ⟨a, e1, hy⟩ := Option.bind_eq_some_iff.mp hy
    obtain ⟨b, e2, rfl⟩ := Option.map_eq_some_iff.mp hy
    simp [PyData.eqvAll, eqDs]
  | x :: xs, [], _, _, hx, hy => by
    cases hy
    rw [D.pys] at hx
    obtain ⟨a, e1, hx⟩ := Option.bind_eq_some_iff.mp hx
    obtain ⟨b, e2, rfl⟩ := Option.map_eq_some_iff.mp hx
    simp [PyData.eqvAll, eqDs]
  | x :: xs, y :: ys, _, _, hx, hy => by
    rw [D.pys] at hx hy
    obtain ⟨a, e1, hx⟩ := Option.bind_eq_some_iff.mp hx
    obtain ⟨b, e2, rfl⟩ := Option.map_eq_some_iff.mp hx
    obtain ⟨a', e3, hy⟩ := Option.bind_eq_some_iff.mp hy
    obtain ⟨b', e4, rfl⟩ := Option.map_eq_some_iff.mp hy
    rw [PyData.eqvAll, eqDs, eqD_py x y a a' e1 e3, eqDs_py xs ys b b' e2 e4]
end
theorem eqDs_map {α : Type} [DecidableEq α] (f : α → D) (h : ∀ a b, eqD (f a) (f b) = decide (a = b)) : ∀ xs ys : List α, eqDs (xs.map f) (ys.map f) = decide (xs = ys)
  | [], [] => by simp [eqDs]
  | [], y :: ys => by simp [eqDs]
  | x :: xs, [] => by simp [eqDs]
  | x :: xs, y :: ys => by
    rw [List.map_cons, List.map_cons, eqDs, h, eqDs_map f h xs ys]
    simp [List.cons.injEq, Bool.decide_and]
mutual
theorem eqD_self : ∀ (n : Nat) (x : D), Plain n x → eqD x x = true
  | _, .non, _ => by simp [eqD]
  | _, .bl _, _ => by simp [eqD]
  | _, .int _, _ => by simp [eqD]
  | _, .str _, _ => by simp [eqD]
  | n + 1, .tup xs, h => by
    unfold Plain at h
    rw [eqD]
    exact eqDs_self n xs h
  | n + 1, .lst xs, h => by
    unfold Plain at h
    rw [eqD]
    exact eqDs_self n xs h
  | 0, .tup _, h => by cases h
  | 0, .lst _, h => by cases h
  | 0, .dct _, h => by cases h
  | 0, .obj _ _, h => by cases h
  | 0, .raw _, h => by cases h
  | 0, .rdl _, h => by cases h
  | 0, .cel _, h => by cases h
  | _ + 1, .dct _, h => by cases h
  | _ + 1, .obj _ _, h => by cases h
  | _ + 1, .raw _, h => by cases h
  | _ + 1, .rdl _, h => by cases h
  | _ + 1, .cel _, h => by cases h
theorem eqDs_self : ∀ (n : Nat) (xs : List D), (∀ x ∈ xs, Plain n x) → eqDs xs xs = true
  | _, [], _ => by rw [eqDs]
  | n, x :: xs, h => by rw [eqDs, eqD_self n x (h x (List.mem_cons_self ..)), eqDs_self n xs fun y hy => h y (List.mem_cons_of_mem _ hy), Bool.and_self]
end
end DL
-- CUT
/-! ### the operations of the language on things told by their parts -/
namespace DL
open PySem PySem.Spec PyProof.Rows L2 Kit
section
variable {X : Cx} {E : EX}
theorem OpR.or {f : Value → Value → Sem Value} {r r' : R2} (h : OpR X f r) (h' : OpR X f r') : OpR X f (fun x y H Q => r x y H Q ∨ r' x y H Q) := fun pins s σ H x y v u Q I rx ry q =>
  q.elim (fun q => h pins s σ H x y v u Q I rx ry q) (fun q => h' pins s σ H x y v u Q I rx ry q)
theorem CallR.or {f : Value} {r r' : List V → Hp → VK → Prop} (h : CallR X f r) (h' : CallR X f r') : CallR X f (fun x H Q => r x H Q ∨ r' x H Q) := fun pins s σ H x v Q I rx q =>
  q.elim (fun q => h pins s σ H x v Q I rx q) (fun q => h' pins s σ H x v Q I rx q)
theorem SlR.or {r r' : V → Option Int → Option Int → Hp → VK → Prop} (h : SlR X r) (h' : SlR X r') : SlR X (fun x l u H Q => r x l u H Q ∨ r' x l u H Q) := fun pins s σ H x v vl vu lo hi sl Q I rx hs pl pu q =>
  q.elim (fun q => h pins s σ H x v vl vu lo hi sl Q I rx hs pl pu q) (fun q => h' pins s σ H x v vl vu lo hi sl Q I rx hs pl pu q)
end
section
variable {K : PySem.W.Frag} {E : EX} {W : Wd} {H : Hp} {Q : VK} {q : D → Prop}
theorem KQ.here (k : KQ K W H Q q) (g : Good W H) {v : V} {d : D} (r : Rep K W.c v d) (h : q d) : Q v H := k _ _ _ _ (.refl g) r h
/-- a new tuple, a new list, known -/
theorem KQ.tup (k : KQ K W H Q q) (g : Good W H) {p : Addr} (n : H p = none) {vs : List V} {ds : List D} (r : RepL K W.c vs ds) (h : q (.tup ds)) : Q (.ref p) (upd H p (.tup vs)) :=
  k _ _ _ _ (.put g n (fun ps z => by cases z) rfl) (.tup (.inl Wd.put_same) (r.mono (Wd.put_le (g.fresh n)))) h
theorem KQ.lst (k : KQ K W H Q q) (g : Good W H) {p : Addr} (n : H p = none) {vs : List V} {ds : List D} (r : RepL K W.c vs ds) (h : q (.lst ds)) : Q (.ref p) (upd H p (.lst vs)) :=
  k _ _ _ _ (.put g n (fun ps z => by cases z) rfl) (.lst Wd.put_same (r.mono (Wd.put_le (g.fresh n)))) h
theorem KN.at {q : List D → Prop} (k : KN K W H Q q) (g : Good W H) {p : Addr} (n : H p = none) {vs : List V} {ds : List D} (r : RepL K W.c vs ds) (h : q ds) : Q (.ref p) (upd H p (.lst vs)) :=
  k _ _ _ _ _ (.new g n) (.of n) (g.fresh n) upd_same r h
end
/-! #### + - * // % ** -/
def fAdd : F2 := fun x y q _ => match x, y with
  | .int i, .int j => q (.int (i + j))
  | .str a, .str b => fit (a.length + b.length) ∧ q (.str (a ++ b))
  | .lst a, .lst b => fit (a.length + b.length) ∧ q (.lst (a ++ b))
  | .tup a, .tup b => fit (a.length + b.length) ∧ q (.tup (a ++ b))
  | _, _ => False
section
variable {X : Cx} {E : EX}
def rAddU (K : PySem.W.Frag) : R2 := fun x y H Q => ((rI0 fun i j => V.int (i + j)) x y H Q ∨ ∃ i j, x = .str i ∧ y = .str j ∧ i.length + j.length ≤ sizeLine ∧ Q (.str (i ++ j)) H) ∨ (rCat x y H Q ∨ rCatA K x y H Q)
theorem o_add : OpR X (binaryOp .Add) (rAddU X.K) := OpR.or (OpR.or op_add op_add_str) (OpR.or op_cat op_catA)
theorem f_add {K : PySem.W.Frag} : R2D K E (rAddU K) fAdd := fun W H v u x y Q q e g s1 s2 h k ke => by
  unfold fAdd at h
  split at h
  · rw [s1.int, s2.int]
    exact .inl (.inl ⟨_, _, rfl, rfl, k.here g (.int _) h⟩)
  · rw [s1.str, s2.str]
    exact .inl (.inr ⟨_, _, rfl, rfl, h.1, k.here g (.str _) h.2⟩)
  · obtain ⟨a, vs, rfl, e1, r1⟩ := s1.lstAt g
    obtain ⟨b, us, rfl, e2, r2⟩ := s2.lstAt g
    exact .inr (.inl ⟨a, b, vs, us, rfl, rfl, e1, e2, by rw [r1.length, r2.length]; exact h.1, fun p n => k.lst g n (r1.append r2) h.2⟩)
  · have t1 := s1.tup
    have t2 := s2.tup
    obtain ⟨a, vs, rfl, e1, r1⟩ := t1.tupAt g
    obtain ⟨b, us, rfl, e2, r2⟩ := t2.tupAt g
    refine .inr (.inr ⟨a, b, vs, us, rfl, rfl, e1, e2, by rw [r1.length, r2.length]; exact h.1, fun z => ?_, fun _ z => ?_, fun _ _ p n => k.tup g n (r1.append r2) h.2⟩)
    · subst z
      cases r1
      exact k.here g t2 h.2
    · subst z
      cases r2
      have z := h.2
      rw [List.append_nil] at z
      exact k.here g t1 z
  · exact h.elim
/-- a list and a list, the new list nobody's else -/
def nAdd : N2 := fun x y q _ => match x, y with
  | .lst a, .lst b => fit (a.length + b.length) ∧ q (a ++ b)
  | _, _ => False
theorem n_add {K : PySem.W.Frag} : R2N K E rCat nAdd := fun W H v u x y Q q e g s1 s2 h k ke => by
  unfold nAdd at h
  split at h
  · obtain ⟨a, vs, rfl, e1, r1⟩ := s1.lstAt g
    obtain ⟨b, us, rfl, e2, r2⟩ := s2.lstAt g
    exact ⟨a, b, vs, us, rfl, rfl, e1, e2, by rw [r1.length, r2.length]; exact h.1, fun p n => k.at g n (r1.append r2) h.2⟩
  · exact h.elim
def fSub : F2 := fun x y q _ => match x, y with | .int i, .int j => q (.int (i - j)) | _, _ => False
theorem f_sub {K : PySem.W.Frag} : R2D K E (rI0 fun i j => .int (i - j)) fSub := fun W H v u x y Q q e g s1 s2 h k ke => by
  unfold fSub at h
  split at h
  · rw [s1.int, s2.int]
    exact ⟨_, _, rfl, rfl, k.here g (.int _) h⟩
  · exact h.elim
/-- a number times a number, a list so many times -/
def fMul : F2 := fun x y q _ => match x, y with
  | .int i, .int j => (CMul i j ∨ CMulW i j) ∧ q (.int (i * j))
  | .lst xs, .int j => (-(2 ^ 63) ≤ j ∧ j < 2 ^ 63 ∧ fit (xs.length * j.toNat)) ∧ q (.lst (List.replicate j.toNat xs).flatten)
  | _, _ => False
def rMulU : R2 := fun x y H Q => (rI CMul (fun i j => V.int (i * j)) x y H Q ∨ rI CMulW (fun i j => V.int (i * j)) x y H Q) ∨ rRep x y H Q
theorem o_mul : OpR X (binaryOp .Mult) rMulU := OpR.or (OpR.or op_mul op_mulW) op_rep
theorem RepL.rep {K : PySem.W.Frag} {c : CW} {vs : List V} {ds : List D} (r : RepL K c vs ds) : ∀ n : Nat, RepL K c (List.replicate n vs).flatten (List.replicate n ds).flatten
  | 0 => .nil
  | n + 1 => by
    rw [List.replicate_succ, List.replicate_succ, List.flatten_cons, List.flatten_cons]
    exact r.append (RepL.rep r n)
theorem f_mul {K : PySem.W.Frag} : R2D K E rMulU fMul := fun W H v u x y Q q e g s1 s2 h k ke => by
  unfold fMul at h
  split at h
  · rw [s1.int, s2.int]
    refine .inl ?_
    rcases h.1 with c | c
    · exact .inl ⟨_, _, rfl, rfl, c, k.here g (.int _) h.2⟩
    · exact .inr ⟨_, _, rfl, rfl, c, k.here g (.int _) h.2⟩
  · obtain ⟨a, vs, rfl, e1, r1⟩ := s1.lstAt g
    rw [s2.int]
    exact .inr ⟨a, _, vs, rfl, rfl, e1, h.1.1, h.1.2.1, by rw [r1.length]; exact h.1.2.2, fun p n => k.lst g n (r1.rep _) h.2⟩
  · exact h.elim
def fMod : F2 := fun x y q _ => match x, y with | .int i, .int j => 0 < j ∧ ∀ r : Int, 0 ≤ r → r < j → r = i % j → q (.int r) | _, _ => False
theorem f_mod {K : PySem.W.Frag} : R2D K E rMod fMod := fun W H v u x y Q q e g s1 s2 h k ke => by
  unfold fMod at h
  split at h
  · rw [s1.int, s2.int]
    exact ⟨_, _, rfl, rfl, h.1, fun r a b c => k.here g (.int _) (h.2 r a b c)⟩
  · exact h.elim
def fPow : F2 := fun x y q _ => match x, y with | .int i, .int j => (0 ≤ j ∧ (Builtin.Int.intBits i : Int) * j ≤ 2 ^ 27) ∧ q (.int (i ^ j.toNat)) | _, _ => False
theorem f_pow {K : PySem.W.Frag} : R2D K E (rI (fun i j => 0 ≤ j ∧ (Builtin.Int.intBits i : Int) * j ≤ 2 ^ 27) fun i j => .int (i ^ j.toNat)) fPow := fun W H v u x y Q q e g s1 s2 h k ke => by
  unfold fPow at h
  split at h
  · rw [s1.int, s2.int]
    exact ⟨_, _, rfl, rfl, h.1, k.here g (.int _) h.2⟩
  · exact h.elim
/-! #### comparisons -/
def fCmpI (p : Int → Int → Bool) : F2 := fun x y q _ => match x, y with | .int i, .int j => q (.bl (p i j)) | _, _ => False
theorem f_cmpI {K : PySem.W.Frag} {p : Int → Int → Bool} : R2D K E (rI0 fun i j => .bl (p i j)) (fCmpI p) := fun W H v u x y Q q e g s1 s2 h k ke => by
  unfold fCmpI at h
  split at h
  · rw [s1.int, s2.int]
    exact ⟨_, _, rfl, rfl, k.here g (.bl _) h⟩
  · exact h.elim
/-- data == data -/
def okD (x : D) : Prop := Plain 64 x
def fEq : F2 := fun x y q _ => match x, y with
  | .int i, .int j => q (.bl (i == j))
  | .str a, .str b => q (.bl (a == b))
  | .bl a, .bl b => q (.bl (a == b))
  | .non, .non => q (.bl true)
  | x, y => okD x ∧ okD y ∧ q (.bl (eqD x y))
def fNe : F2 := fun x y q _ => match x, y with
  | .int i, .int j => q (.bl (!(i == j)))
  | .str a, .str b => q (.bl (!(a == b)))
  | .bl a, .bl b => q (.bl (!(a == b)))
  | .non, .non => q (.bl false)
  | x, y => okD x ∧ okD y ∧ q (.bl (!eqD x y))
theorem beq_dec {α : Type} [DecidableEq α] (a b : α) : decide (a = b) = (a == b) := dec_beq a b
def rEqU (K : PySem.W.Frag) : R2 := fun x y H Q => rEq x y H Q ∨ rEqD K x y H Q
def rNeU (K : PySem.W.Frag) : R2 := fun x y H Q => rNe x y H Q ∨ rNeD K x y H Q
theorem o_eq (hu : X.A.units + 64 < cLine) : OpR X (compareOp .Eq) (rEqU X.K) := OpR.or op_eq (op_eqD hu)
theorem o_ne (hu : X.A.units + 64 < cLine) : OpR X (compareOp .NotEq) (rNeU X.K) := OpR.or op_ne (op_neD hu)
theorem dec_bi (i j : Int) : (i == j) = decide (V.int i = V.int j) := dec_int.symm
theorem f_eqD {K : PySem.W.Frag} {W : Wd} {H : Hp} {v u : V} {x y : D} {Q : VK} {q : D → Prop} (g : Good W H) (s1 : Seen K W.c H v x) (s2 : Seen K W.c H u y) (k : KQ K W H Q q) (h : okD x ∧ okD y ∧ q (.bl (eqD x y))) : rEqD K v u H Q := by
  obtain ⟨p, e1, h1⟩ := Plain.py h.1 (Nat.le_refl _)
  obtain ⟨p2, e2, h2⟩ := Plain.py h.2.1 (Nat.le_refl _)
  refine ⟨p, p2, seen_dp g s1 e1, seen_dp g s2 e2, h1, h2, ?_⟩
  rw [eqD_py x y p p2 e1 e2]
  exact k.here g (.bl _) h.2.2
theorem f_neD {K : PySem.W.Frag} {W : Wd} {H : Hp} {v u : V} {x y : D} {Q : VK} {q : D → Prop} (g : Good W H) (s1 : Seen K W.c H v x) (s2 : Seen K W.c H u y) (k : KQ K W H Q q) (h : okD x ∧ okD y ∧ q (.bl (!eqD x y))) : rNeD K v u H Q := by
  obtain ⟨p, e1, h1⟩ := Plain.py h.1 (Nat.le_refl _)
  obtain ⟨p2, e2, h2⟩ := Plain.py h.2.1 (Nat.le_refl _)
  refine ⟨p, p2, seen_dp g s1 e1, seen_dp g s2 e2, h1, h2, ?_⟩
  rw [eqD_py x y p p2 e1 e2]
  exact k.here g (.bl _) h.2.2
theorem f_eq {K : PySem.W.Frag} : R2D K E (rEqU K) fEq := fun W H v u x y Q q e g s1 s2 h k ke => by
  unfold fEq at h
  split at h
  · rw [s1.int, s2.int]
    refine .inl ⟨rfl, ?_⟩
    rw [dec_int]
    exact k.here g (.bl _) h
  · rw [s1.str, s2.str]
    refine .inl ⟨rfl, ?_⟩
    rw [dec_str]
    exact k.here g (.bl _) h
  · rw [s1.bl, s2.bl]
    refine .inl ⟨rfl, ?_⟩
    rw [dec_bl]
    exact k.here g (.bl _) h
  · rw [s1.non, s2.non]
    exact .inl ⟨rfl, k.here g (.bl _) h⟩
  · exact .inr (f_eqD g s1 s2 k h)
theorem f_ne {K : PySem.W.Frag} : R2D K E (rNeU K) fNe := fun W H v u x y Q q e g s1 s2 h k ke => by
  unfold fNe at h
  split at h
  · rw [s1.int, s2.int]
    refine .inl ⟨rfl, ?_⟩
    rw [dec_int]
    exact k.here g (.bl _) h
  · rw [s1.str, s2.str]
    refine .inl ⟨rfl, ?_⟩
    rw [dec_str]
    exact k.here g (.bl _) h
  · rw [s1.bl, s2.bl]
    refine .inl ⟨rfl, ?_⟩
    rw [dec_bl]
    exact k.here g (.bl _) h
  · rw [s1.non, s2.non]
    exact .inl ⟨rfl, k.here g (.bl _) h⟩
  · exact .inr (f_neD g s1 s2 k h)
/-- a list of anything and [] -/
def fEqNil : F2 := fun x y q _ => match x, y with | .lst xs, .lst ys => ys = [] ∧ q (.bl xs.isEmpty) | _, _ => False
def fNeNil : F2 := fun x y q _ => match x, y with | .lst xs, .lst ys => ys = [] ∧ q (.bl (!xs.isEmpty)) | _, _ => False
theorem RepL.isEmpty {K : PySem.W.Frag} {c : CW} {vs : List V} {ds : List D} (r : RepL K c vs ds) : vs.isEmpty = ds.isEmpty := by cases r <;> rfl
theorem f_eqNil {K : PySem.W.Frag} : R2D K E (rEqNil K) fEqNil := fun W H v u x y Q q e g s1 s2 h k ke => by
  unfold fEqNil at h
  split at h
  · obtain ⟨a, vs, rfl, e1, r1⟩ := s1.lstAt g
    obtain ⟨b, us, rfl, e2, r2⟩ := s2.lstAt g
    obtain ⟨rfl, h⟩ := h
    cases r2
    refine ⟨a, b, vs, rfl, rfl, .inl (.inl e1), .inl (.inl e2), ?_⟩
    rw [r1.isEmpty]
    exact k.here g (.bl _) h
  · exact h.elim
theorem f_neNil {K : PySem.W.Frag} : R2D K E (rNeNil K) fNeNil := fun W H v u x y Q q e g s1 s2 h k ke => by
  unfold fNeNil at h
  split at h
  · obtain ⟨a, vs, rfl, e1, r1⟩ := s1.lstAt g
    obtain ⟨b, us, rfl, e2, r2⟩ := s2.lstAt g
    obtain ⟨rfl, h⟩ := h
    cases r2
    refine ⟨a, b, vs, rfl, rfl, .inl (.inl e1), .inl (.inl e2), ?_⟩
    rw [r1.isEmpty]
    exact k.here g (.bl _) h
  · exact h.elim
/-- is None -/
def isNon : D → Bool
  | .non => true
  | _ => false
def fIsN : F2 := fun x y q _ => match y with | .non => q (.bl (isNon x)) | _ => False
def fIsntN : F2 := fun x y q _ => match y with | .non => q (.bl (!isNon x)) | _ => False
/-- .. of a thing that is known as it is: not asked -/
def noRaw : D → Prop
  | .raw _ => False
  | _ => True
theorem Seen.isNon {K : PySem.W.Frag} {c : CW} {H : Hp} {v : V} {d : D} (s : Seen K c H v d) (n : noRaw d) : decide (v = .non) = DL.isNon d := by
  cases s with
  | rep r =>
    cases r with
    | non => rfl
    | raw v => exact n.elim
    | _ => exact decide_eq_false (fun z => by cases z)
  | lst => exact decide_eq_false (fun z => by cases z)
  | dct => exact decide_eq_false (fun z => by cases z)
def rIsU : R2 := fun x y H Q => y = .non ∧ Q (.bl (decide (x = .non))) H
def rIsntU : R2 := fun x y H Q => y = .non ∧ Q (.bl (!decide (x = .non))) H
theorem o_is : OpR X (compareOp .Is) rIsU := op_isN
theorem o_isnt : OpR X (compareOp .IsNot) rIsntU := op_notN
def fIs : F2 := fun x y q _ => match y with | .non => noRaw x ∧ q (.bl (isNon x)) | _ => False
def fIsnt : F2 := fun x y q _ => match y with | .non => noRaw x ∧ q (.bl (!isNon x)) | _ => False
theorem f_is {K : PySem.W.Frag} : R2D K E rIsU fIs := fun W H v u x y Q q e g s1 s2 h k ke => by
  unfold fIs at h
  split at h
  · refine ⟨s2.non, ?_⟩
    rw [s1.isNon h.1]
    exact k.here g (.bl _) h.2
  · exact h.elim
theorem f_isnt {K : PySem.W.Frag} : R2D K E rIsntU fIsnt := fun W H v u x y Q q e g s1 s2 h k ke => by
  unfold fIsnt at h
  split at h
  · refine ⟨s2.non, ?_⟩
    rw [s1.isNon h.1]
    exact k.here g (.bl _) h.2
  · exact h.elim
/-! #### in -/
/-- a sign in a text; data in a list, a tuple of data -/
def fIn : F2 := fun x y q _ => match y with
  | .str z => ∃ c : Nat, x = .str ⟨#[c]⟩ ∧ q (.bl (decide (c ∈ z.cps.toList)))
  | .lst ys => okD x ∧ okD (.lst ys) ∧ q (.bl (ys.any fun z => eqD z x))
  | .tup ys => okD x ∧ okD (.tup ys) ∧ q (.bl (ys.any fun z => eqD z x))
  | _ => False
def fNotIn : F2 := fun x y q _ => match y with
  | .str z => ∃ c : Nat, x = .str ⟨#[c]⟩ ∧ q (.bl (!decide (c ∈ z.cps.toList)))
  | .lst ys => okD x ∧ okD (.lst ys) ∧ q (.bl (!ys.any fun z => eqD z x))
  | .tup ys => okD x ∧ okD (.tup ys) ∧ q (.bl (!ys.any fun z => eqD z x))
  | _ => False
theorem any_py {d : D} {p : PyData} (e : d.py = some p) : ∀ {ys : List D} {ps : List PyData}, D.pys ys = some ps → (ps.any fun z => PyData.eqv z p) = ys.any fun z => eqD z d
  | [], _, h => by
    cases h
    rfl
  | y :: ys, _, h => by
    rw [D.pys] at h
    obtain ⟨a, e1, h⟩ := Option.bind_eq_some_iff.mp h
    obtain ⟨b, e2, rfl⟩ := Option.map_eq_some_iff.mp h
    rw [List.any_cons, List.any_cons, eqD_py y d a p e1 e, any_py e e2]
end
/-! rules for x in a tuple of data stand in this part, too: the text has them with Spots alone -/
section
def rInTU (K : PySem.W.Frag) : R2 := fun x y H Q => ∃ d ds, Dp K H x d ∧ Dp K H y (.tuple ds) ∧ SeqAt.shaped d = true ∧ SeqAt.shaped (.tuple ds) = true ∧ Q (.bl (ds.any fun z => PyData.eqv z d)) H
def rNotInTU (K : PySem.W.Frag) : R2 := fun x y H Q => ∃ d ds, Dp K H x d ∧ Dp K H y (.tuple ds) ∧ SeqAt.shaped d = true ∧ SeqAt.shaped (.tuple ds) = true ∧ Q (.bl (!ds.any fun z => PyData.eqv z d)) H
variable {X : Cx} {E : EX}
theorem op_inTU (hu : X.A.units + 65 < cLine) : OpR X (compareOp .In) (rInTU X.K) := by
  intro pins s σ H x y v u Q I rx ry h
  obtain ⟨d, ds, hd, he, sd, se, q⟩ := h
  obtain ⟨as, r1⟩ := Dp.reads I d x v hd rx
  obtain ⟨bs, r2⟩ := Dp.reads I (.tuple ds) y u he ry
  exact SeqAt.in_tuple_reads r2 r1 (SeqAt.canLay_of_shaped se) (SeqAt.canLay_of_shaped sd) (room_in_shaped sd hu) ⟨.bl _, H, I, rfl, q⟩
theorem op_notInTU (hu : X.A.units + 65 < cLine) : OpR X (compareOp .NotIn) (rNotInTU X.K) := by
  intro pins s σ H x y v u Q I rx ry h
  obtain ⟨d, ds, hd, he, sd, se, q⟩ := h
  obtain ⟨as, r1⟩ := Dp.reads I d x v hd rx
  obtain ⟨bs, r2⟩ := Dp.reads I (.tuple ds) y u he ry
  exact SeqAt.notIn_tuple_reads r2 r1 (SeqAt.canLay_of_shaped se) (SeqAt.canLay_of_shaped sd) (room_in_shaped sd hu) ⟨.bl _, H, I, rfl, q⟩
open PySem.Sem (wp) in

def rInU (K : PySem.W.Frag) : R2 := fun x y H Q => (∃ (c : Nat) (z : Str), x = .str ⟨#[c]⟩ ∧ y = .str z ∧ Q (.bl (decide (c ∈ z.cps.toList))) H) ∨ rInD K x y H Q ∨ rInTU K x y H Q
def rNotInU (K : PySem.W.Frag) : R2 := fun x y H Q => (∃ (c : Nat) (z : Str), x = .str ⟨#[c]⟩ ∧ y = .str z ∧ Q (.bl (!decide (c ∈ z.cps.toList))) H) ∨ rNotInD K x y H Q ∨ rNotInTU K x y H Q
theorem o_in (hu : X.A.units + 65 < cLine) : OpR X (compareOp .In) (rInU X.K) := OpR.or op_in_sign (OpR.or (op_inD hu) (op_inTU hu))
theorem o_notIn (hu : X.A.units + 65 < cLine) : OpR X (compareOp .NotIn) (rNotInU X.K) := OpR.or op_notIn_sign (OpR.or (op_notInD hu) (op_notInTU hu))
theorem okD_py {d : D} (h : okD d) : ∃ p, d.py = some p ∧ SeqAt.shaped p = true := Plain.py h (Nat.le_refl _)
theorem f_in {K : PySem.W.Frag} : R2D K E (rInU K) fIn := fun W H v u x y Q q e g s1 s2 h k ke => by
  unfold fIn at h
  split at h
  · obtain ⟨c, rfl, h⟩ := h
    exact .inl ⟨c, _, s1.str, s2.str, k.here g (.bl _) h⟩
  · obtain ⟨h1, h2, h⟩ := h
    obtain ⟨p, e1, sh1⟩ := okD_py h1
    obtain ⟨p2, e2, sh2⟩ := okD_py h2
    have e3 := e2
    rw [D.py] at e3
    obtain ⟨ps, e4, rfl⟩ := Option.map_eq_some_iff.mp e3
    refine .inr (.inl ⟨p, ps, seen_dp g s1 e1, seen_dp g s2 e2, sh1, sh2, ?_⟩)
    rw [any_py e1 e4]
    exact k.here g (.bl _) h
  · obtain ⟨h1, h2, h⟩ := h
    obtain ⟨p, e1, sh1⟩ := okD_py h1
    obtain ⟨p2, e2, sh2⟩ := okD_py h2
    have e3 := e2
    rw [D.py] at e3
    obtain ⟨ps, e4, rfl⟩ := Option.map_eq_some_iff.mp e3
    refine .inr (.inr ⟨p, ps, seen_dp g s1 e1, seen_dp g s2 e2, sh1, sh2, ?_⟩)
    rw [any_py e1 e4]
    exact k.here g (.bl _) h
  · exact h.elim
theorem f_notIn {K : PySem.W.Frag} : R2D K E (rNotInU K) fNotIn := fun W H v u x y Q q e g s1 s2 h k ke => by
  unfold fNotIn at h
  split at h
  · obtain ⟨c, rfl, h⟩ := h
    exact .inl ⟨c, _, s1.str, s2.str, k.here g (.bl _) h⟩
  · obtain ⟨h1, h2, h⟩ := h
    obtain ⟨p, e1, sh1⟩ := okD_py h1
    obtain ⟨p2, e2, sh2⟩ := okD_py h2
    have e3 := e2
    rw [D.py] at e3
    obtain ⟨ps, e4, rfl⟩ := Option.map_eq_some_iff.mp e3
    refine .inr (.inl ⟨p, ps, seen_dp g s1 e1, seen_dp g s2 e2, sh1, sh2, ?_⟩)
    rw [any_py e1 e4]
    exact k.here g (.bl _) h
  · obtain ⟨h1, h2, h⟩ := h
    obtain ⟨p, e1, sh1⟩ := okD_py h1
    obtain ⟨p2, e2, sh2⟩ := okD_py h2
    have e3 := e2
    rw [D.py] at e3
    obtain ⟨ps, e4, rfl⟩ := Option.map_eq_some_iff.mp e3
    refine .inr (.inr ⟨p, ps, seen_dp g s1 e1, seen_dp g s2 e2, sh1, sh2, ?_⟩)
    rw [any_py e1 e4]
    exact k.here g (.bl _) h
  · exact h.elim
end
end DL
-- CUT
/-! ### places, slices, calls of the built-ins -/
namespace DL
open PySem PySem.Spec PyProof.Rows L2 Kit
section
variable {X : Cx} {E : EX} {e : Expr} {es : List Expr} {xa xb : DX} {pos : Pos}
/-! #### x[i] -/
theorem RepL.atI {K : PySem.W.Frag} {c : CW} {vs : List V} {ds : List D} (r : RepL K c vs ds) {i : Int} {d : D} (h : L2.atI ds i = some d) : ∃ v, L2.atI vs i = some v ∧ Rep K c v d := by
  unfold L2.atI at h ⊢
  rw [r.length]
  cases e : ixN ds.length i with
  | none =>
    rw [e] at h
    cases h
  | some j =>
    rw [e] at h
    exact r.get h
def fIx : F2 := fun x y q _ => match y with
  | .int i => (match x with
    | .lst xs => ∃ d, L2.atI xs i = some d ∧ q d
    | .tup xs => ∃ d, L2.atI xs i = some d ∧ q d
    | .rdl xs => ∃ d, L2.atI xs i = some d ∧ q d
    | .str z => fit z.length ∧ ∃ c, L2.atI z.cps.toList i = some c ∧ q (.str ⟨#[c]⟩)
    | _ => False)
  | _ => False
def rIxU (K : PySem.W.Frag) : R2 := fun x y H Q => (rIxL K x y H Q ∨ rIxT K x y H Q) ∨ rIxS x y H Q
theorem o_ix : IxR X (rIxU X.K) := (ix_list.or ix_tup).or ix_str
theorem f_ix {K : PySem.W.Frag} : R2D K E (rIxU K) fIx := fun W H v u x y Q q e g s1 s2 h k ke => by
  unfold fIx at h
  split at h
  · rw [s2.int]
    split at h
    · obtain ⟨d, e1, h⟩ := h
      obtain ⟨a, vs, rfl, e2, r⟩ := s1.lstAt g
      obtain ⟨z, e3, r3⟩ := r.atI e1
      exact .inl (.inl ⟨a, vs, _, z, rfl, rfl, .inl (.inl e2), e3, k.here g r3 h⟩)
    · obtain ⟨d, e1, h⟩ := h
      obtain ⟨a, vs, rfl, e2, r⟩ := s1.tup.tupAt g
      obtain ⟨z, e3, r3⟩ := r.atI e1
      exact .inl (.inr ⟨a, vs, _, z, rfl, rfl, e2, e3, k.here g r3 h⟩)
    · obtain ⟨d, e1, h⟩ := h
      obtain ⟨a, vs, rfl, e2, r⟩ := s1.rdl.rdlAt g
      obtain ⟨z, e3, r3⟩ := r.atI e1
      exact .inl (.inl ⟨a, vs, _, z, rfl, rfl, e2, e3, k.here g r3 h⟩)
    · obtain ⟨l, c, e1, h⟩ := h
      exact .inr ⟨_, _, c, s1.str, rfl, l, e1, k.here g (.str _) h⟩
    · exact h.elim
  · exact h.elim
theorem d_ix {a b : Expr} {r : R2} {f : F2} (ho : IxR X r) (hf : R2D X.K E r f) (ha : DS X E a xa) (hb : DS X E b xb) (hs : PlainIx b) : DE X E (.Subscript a b pos) (xOp f xa xb) :=
  PE.to (pe_ix ho ha hb hs) fun σ H Q ⟨W, H0, ε, q, e, g, en, t, k, ke⟩ => ⟨W, H0, ε, _, e, g, en, t, fun W1 H1 v x x1 s1 t1 => ⟨W1, H0, ε, _, e, x1.good, en.ext x1, t1, fun W2 H2 u y x2 s2 t2 =>
    hf W2 H2 v u x y Q q e x2.good (s1.ext x2) s2 t2 (k.after (x1.trans x2)) (ke.after (x1.trans x2)), ke.after x1⟩, ke⟩
/-! #### x[lo:hi] -/
abbrev DXO := DEnv → (Option Int → Prop) → (Exc → Prop) → Prop
def KO (W : Wd) (H : Hp) (Q : Option Int → Hp → Prop) (q : Option Int → Prop) : Prop := ∀ W' H' o, Ext W H W' H' → q o → Q o H'
theorem KO.after {W W' : Wd} {H H' : Hp} {Q : Option Int → Hp → Prop} {q : Option Int → Prop} (k : KO W H Q q) (x : Ext W H W' H') : KO W' H' Q q := fun _ _ _ y => k _ _ _ (x.trans y)
def dO (K : PySem.W.Frag) (E : EX) (t : DXO) : TO := fun σ H Q => ∃ W H0 ε q e, Good W H ∧ EnvR K W.c H0 H σ ε ∧ t ε q e ∧ KO W H Q q ∧ KE K W H E e
def xoNone : DXO := fun _ q _ => q none
def xoSome (a : DX) : DXO := fun ε q e => a ε (fun d => match d with | .int i => q (some i) | _ => False) e
theorem PO.to {e : Option Expr} {t t' : TO} (h : PO X e t) (f : ∀ σ H Q, t' σ H Q → t σ H Q) : PO X e t' := ⟨fun pins s σ H Q I q => h.run pins s σ H Q I (f _ _ _ q)⟩
theorem do_none : PO X none (dO X.K E xoNone) := PO.to po_none fun σ H Q ⟨W, H0, ε, q, e, g, en, t, k, ke⟩ => k W H none (.refl g) t
theorem do_some (h : DS X E e xa) : PO X (some e) (dO X.K E (xoSome xa)) := PO.to (po_some h) fun σ H Q ⟨W, H0, ε, q, e, g, en, t, k, ke⟩ => ⟨W, H0, ε, _, e, g, en, t, fun W1 H1 v x x1 s1 t1 => by
  cases x with
  | int i => exact ⟨i, s1.int, k _ _ _ x1 t1⟩
  | _ => exact t1.elim, ke⟩
def cutD (xs : List D) (lo hi : Option Int) : List D := (xs.drop (HT.sIx xs.length 0 lo)).take (HT.sIx xs.length xs.length hi - HT.sIx xs.length 0 lo)
theorem RepL.cut {K : PySem.W.Frag} {c : CW} {vs : List V} {ds : List D} (r : RepL K c vs ds) (lo hi : Option Int) : RepL K c (cutV vs lo hi) (cutD ds lo hi) := by
  unfold cutV cutD
  rw [r.length]
  exact (r.drop _).take _
abbrev FS := D → Option Int → Option Int → (D → Prop) → Prop
def fSl : FS := fun x lo hi q => match x with
  | .lst xs => q (.lst (cutD xs lo hi))
  | .tup xs => q (.tup (cutD xs lo hi))
  | .str z => fit z.length ∧ q (.str (cutS z lo hi))
  | _ => False
def rSlU (K : PySem.W.Frag) : V → Option Int → Option Int → Hp → VK → Prop := fun x l u H Q => rSlL K x l u H Q ∨ rSlA K x l u H Q ∨ rSlS x l u H Q
theorem o_sl : SlR X (rSlU X.K) := SlR.or sl_list (SlR.or sl_tupA sl_str)
def xSl (a : DX) (lo hi : DXO) : DX := fun ε q e => a ε (fun x => lo ε (fun l => hi ε (fun u => fSl x l u q) e) e) e
theorem f_sl {K : PySem.W.Frag} {W : Wd} {H : Hp} {v : V} {x : D} {lo hi : Option Int} {Q : VK} {q : D → Prop} (g : Good W H) (s : Seen K W.c H v x) (h : fSl x lo hi q) (k : KQ K W H Q q) : rSlU K v lo hi H Q := by
  unfold fSl at h
  split at h
  · obtain ⟨a, vs, rfl, e, r⟩ := s.lstAt g
    exact .inl ⟨a, vs, rfl, .inl (.inl e), fun p n => k.lst g n (r.cut lo hi) h⟩
  · have t := s.tup
    obtain ⟨a, vs, rfl, e, r⟩ := t.tupAt g
    refine .inr (.inl ⟨a, vs, rfl, e, fun z => ?_, fun _ p n => k.tup g n (r.cut lo hi) h⟩)
    rename_i xs
    have e2 : cutD xs lo hi = xs := by
      unfold cutD
      rw [← r.length, z.1, z.2, List.drop_zero, Nat.sub_zero, r.length, List.take_length]
    rw [e2] at h
    exact k.here g t h
  · exact .inr (.inr ⟨_, s.str, h.1, k.here g (.str _) h.2⟩)
  · exact h.elim
theorem d_sl {lo hi : Option Expr} {xl xh : DXO} {p2 : Pos} (ha : DS X E e xa) (hl : PO X lo (dO X.K E xl)) (hh : PO X hi (dO X.K E xh)) : DE X E (.Subscript e (.Slice lo hi none p2) pos) (xSl xa xl xh) :=
  PE.to (pe_slice o_sl ha hl hh) fun σ H Q ⟨W, H0, ε, q, e, g, en, t, k, ke⟩ => ⟨W, H0, ε, _, e, g, en, t, fun W1 H1 v x x1 s1 t1 => ⟨W1, H0, ε, _, e, x1.good, en.ext x1, t1, fun W2 H2 l x2 t2 => ⟨W2, H0, ε, _, e, x2.good, (en.ext x1).ext x2, t2, fun W3 H3 u x3 t3 =>
    f_sl x3.good ((s1.ext x2).ext x3) t3 (k.after ((x1.trans x2).trans x3)), ke.after (x1.trans x2)⟩, ke.after x1⟩, ke⟩
/-! cuts that are asked for most -/
theorem cut_all (xs : List D) : cutD xs none none = xs := by
  unfold cutD
  rw [HT.sIx_none, HT.sIx_none, List.drop_zero, Nat.sub_zero, List.take_length]
theorem cutD_take (xs : List D) (n : Nat) : cutD xs none (some (n : Int)) = xs.take n := by
  unfold cutD
  rw [HT.sIx_none, HT.sIx_nat, List.drop_zero, Nat.sub_zero]
  by_cases h : n ≤ xs.length
  · rw [Nat.min_eq_left h]
  · rw [Nat.min_eq_right (by omega), List.take_length, List.take_of_length_le (by omega)]
theorem cutD_drop (xs : List D) (n : Nat) : cutD xs (some (n : Int)) none = xs.drop n := by
  unfold cutD
  rw [HT.sIx_none, HT.sIx_nat]
  by_cases h : n ≤ xs.length
  · rw [Nat.min_eq_left h]
    exact List.take_of_length_le (by rw [List.length_drop]; exact Nat.le_refl _)
  · rw [Nat.min_eq_right (by omega), Nat.sub_self, List.take_zero, List.drop_of_length_le (by omega)]
/-! #### built-ins -/
def fLen : DF := fun ds q _ => match ds with
  | [.lst xs] => q (.int (xs.length : Int))
  | [.tup xs] => q (.int (xs.length : Int))
  | [.rdl xs] => q (.int (xs.length : Int))
  | [.str z] => fit z.length ∧ q (.int (z.length : Int))
  | _ => False
def rLenU (K : PySem.W.Frag) : List V → Hp → VK → Prop := fun xs H Q => ∃ x n, xs = [x] ∧ LenV K x H n ∧ Q (.int n) H
theorem f_len {K : PySem.W.Frag} : RCD K E (rLenU K) fLen := fun W H vs xs Q q e g r h k ke => by
  unfold fLen at h
  split at h
  · obtain ⟨v, rfl, s⟩ := r.one
    obtain ⟨a, us, rfl, e1, r1⟩ := s.lstAt g
    exact ⟨_, us.length, rfl, .inl ⟨us, .inl (.inl e1), rfl⟩, by rw [r1.length]; exact k.here g (.int _) h⟩
  · obtain ⟨v, rfl, s⟩ := r.one
    obtain ⟨a, us, rfl, e1, r1⟩ := s.tup.tupAt g
    exact ⟨_, us.length, rfl, .inr ⟨us, e1, rfl⟩, by rw [r1.length]; exact k.here g (.int _) h⟩
  · obtain ⟨v, rfl, s⟩ := r.one
    obtain ⟨a, us, rfl, e1, r1⟩ := s.rdl.rdlAt g
    exact ⟨_, us.length, rfl, .inl ⟨us, e1, rfl⟩, by rw [r1.length]; exact k.here g (.int _) h⟩
  · obtain ⟨v, rfl, s⟩ := r.one
    exact ⟨_, _, rfl, by rw [s.str]; exact ⟨h.1, rfl⟩, k.here g (.int _) h.2⟩
  · exact h.elim
def fAbs : DF := fun ds q _ => match ds with | [.int i] => q (.int (if i < 0 then -i else i)) | _ => False
theorem f_abs {K : PySem.W.Frag} : RCD K E (fun xs H Q => ∃ i, xs = [V.int i] ∧ Q (.int (if i < 0 then -i else i)) H) fAbs := fun W H vs xs Q q e g r h k ke => by
  unfold fAbs at h
  split at h
  · obtain ⟨v, rfl, s⟩ := r.one
    exact ⟨_, by rw [s.int], k.here g (.int _) h⟩
  · exact h.elim
def fMax : DF := fun ds q _ => match ds with | [.int i, .int j] => q (.int (if j > i then j else i)) | _ => False
theorem f_max {K : PySem.W.Frag} : RCD K E (fun xs H Q => ∃ i j, xs = [V.int i, V.int j] ∧ Q (.int (if j > i then j else i)) H) fMax := fun W H vs xs Q q e g r h k ke => by
  unfold fMax at h
  split at h
  · obtain ⟨v, u, rfl, s, s2⟩ := r.two
    exact ⟨_, _, by rw [s.int, s2.int], k.here g (.int _) h⟩
  · exact h.elim
def fMin : DF := fun ds q _ => match ds with | [.int i, .int j] => q (.int (if j < i then j else i)) | _ => False
theorem f_min {K : PySem.W.Frag} : RCD K E (fun xs H Q => ∃ i j, xs = [V.int i, V.int j] ∧ Q (.int (if j < i then j else i)) H) fMin := fun W H vs xs Q q e g r h k ke => by
  unfold fMin at h
  split at h
  · obtain ⟨v, u, rfl, s, s2⟩ := r.two
    exact ⟨_, _, by rw [s.int, s2.int], k.here g (.int _) h⟩
  · exact h.elim
def fInt : DF := fun ds q _ => match ds with | [.int i] => q (.int i) | [.bl b] => q (.int (if b then 1 else 0)) | _ => False
theorem f_int {K : PySem.W.Frag} : RCD K E (fun xs H Q => (∃ i, xs = [V.int i] ∧ Q (.int i) H) ∨ ∃ k, xs = [V.bl k] ∧ Q (.int (if k then 1 else 0)) H) fInt := fun W H vs xs Q q e g r h k ke => by
  unfold fInt at h
  split at h
  · obtain ⟨v, rfl, s⟩ := r.one
    exact .inl ⟨_, by rw [s.int], k.here g (.int _) h⟩
  · obtain ⟨v, rfl, s⟩ := r.one
    exact .inr ⟨_, by rw [s.bl], k.here g (.int _) h⟩
  · exact h.elim
/-- str of a number -/
def fStr : DF := fun ds q _ => match ds with | [.int i] => i.natAbs.log2 < 1920 ∧ q (.str (toString i)) | _ => False
theorem f_str {K : PySem.W.Frag} : RCD K E (fun xs H Q => ∃ i, xs = [V.int i] ∧ i.natAbs.log2 < 1920 ∧ Q (.str (toString i)) H) fStr := fun W H vs xs Q q e g r h k ke => by
  unfold fStr at h
  split at h
  · obtain ⟨v, rfl, s⟩ := r.one
    exact ⟨_, by rw [s.int], h.1, k.here g (.str _) h.2⟩
  · exact h.elim
/-- list(x), tuple(x) of a list, a tuple -/
def nList : NF := fun ds q _ => match ds with | [.lst xs] => q xs | [.tup xs] => q xs | _ => False
def rListU (K : PySem.W.Frag) : List V → Hp → VK → Prop := fun xs H Q => ∃ p ys, xs = [.ref p] ∧ (SqL K H p ys ∨ SqT K H p ys) ∧ ∀ l, H l = none → Q (.ref l) (upd H l (.lst ys))
theorem n_list {K : PySem.W.Frag} : RCN K E (rListU K) nList := fun W H vs xs Q q e g r h k ke => by
  unfold nList at h
  split at h
  · obtain ⟨v, rfl, s⟩ := r.one
    obtain ⟨a, us, rfl, e1, r1⟩ := s.lstAt g
    exact ⟨a, us, rfl, .inl (.inl (.inl e1)), fun l n => k.at g n r1 h⟩
  · obtain ⟨v, rfl, s⟩ := r.one
    obtain ⟨a, us, rfl, e1, r1⟩ := s.tup.tupAt g
    exact ⟨a, us, rfl, .inr e1, fun l n => k.at g n r1 h⟩
  · exact h.elim
def fTuple : DF := fun ds q _ => match ds with | [.lst xs] => q (.tup xs) | [.tup xs] => q (.tup xs) | _ => False
def rTupleU (K : PySem.W.Frag) : List V → Hp → VK → Prop := fun xs H Q => ∃ p ys, xs = [.ref p] ∧ ((SqL K H p ys ∧ ∀ l, H l = none → Q (.ref l) (upd H l (.tup ys))) ∨ (SqT K H p ys ∧ Q (.ref p) H))
theorem f_tuple {K : PySem.W.Frag} : RCD K E (rTupleU K) fTuple := fun W H vs xs Q q e g r h k ke => by
  unfold fTuple at h
  split at h
  · obtain ⟨v, rfl, s⟩ := r.one
    obtain ⟨a, us, rfl, e1, r1⟩ := s.lstAt g
    exact ⟨a, us, rfl, .inl ⟨.inl (.inl e1), fun l n => k.tup g n r1 h⟩⟩
  · obtain ⟨v, rfl, s⟩ := r.one
    have t := s.tup
    obtain ⟨a, us, rfl, e1, r1⟩ := t.tupAt g
    exact ⟨a, us, rfl, .inr ⟨e1, k.here g t h⟩⟩
  · exact h.elim
/-- all, any, sum: of a list of truths, of numbers -/
def fAll : DF := fun ds q _ => match ds with | [.lst xs] => ∃ bs : List Bool, xs = bs.map D.bl ∧ q (.bl (bs.all id)) | _ => False
def fAny : DF := fun ds q _ => match ds with | [.lst xs] => ∃ bs : List Bool, xs = bs.map D.bl ∧ q (.bl (bs.any id)) | _ => False
def fSum : DF := fun ds q _ => match ds with | [.lst xs] => ∃ ns : List Int, xs = ns.map D.int ∧ q (.int ns.sum) | _ => False
theorem f_all {K : PySem.W.Frag} : RCD K E (rAll K) fAll := fun W H vs xs Q q e g r h k ke => by
  unfold fAll at h
  split at h
  · obtain ⟨v, rfl, s⟩ := r.one
    obtain ⟨a, us, rfl, e1, r1⟩ := s.lstAt g
    obtain ⟨bs, rfl, h⟩ := h
    rw [RepL.bools bs r1] at e1
    exact ⟨a, bs, rfl, .inl (.inl e1), k.here g (.bl _) h⟩
  · exact h.elim
theorem f_any {K : PySem.W.Frag} : RCD K E (rAny K) fAny := fun W H vs xs Q q e g r h k ke => by
  unfold fAny at h
  split at h
  · obtain ⟨v, rfl, s⟩ := r.one
    obtain ⟨a, us, rfl, e1, r1⟩ := s.lstAt g
    obtain ⟨bs, rfl, h⟩ := h
    rw [RepL.bools bs r1] at e1
    exact ⟨a, bs, rfl, .inl (.inl e1), k.here g (.bl _) h⟩
  · exact h.elim
theorem f_sum {K : PySem.W.Frag} : RCD K E (rSum K) fSum := fun W H vs xs Q q e g r h k ke => by
  unfold fSum at h
  split at h
  · obtain ⟨v, rfl, s⟩ := r.one
    obtain ⟨a, us, rfl, e1, r1⟩ := s.lstAt g
    obtain ⟨bs, rfl, h⟩ := h
    rw [RepL.ints bs r1] at e1
    exact ⟨a, bs, rfl, .inl (.inl e1), k.here g (.int _) h⟩
  · exact h.elim
/-- repr of data: its text -/
def shownD (x : D) : Str := match x.py with | some p => p.shown | none => Str.empty
/-- what may be shown: its numbers are not too long, its text neither -/
def okShow (x : D) : Prop := ∃ p, x.py = some p ∧ p.showable = true ∧ p.depth ≤ 30 ∧ p.shown.length ≤ sizeLine
mutual
theorem py_noDict : ∀ (d : D) (p : PyData), d.py = some p → p.hasDict = false
  | .non, _, e => by cases e; rw [PyData.hasDict]
  | .bl _, _, e => by cases e; rw [PyData.hasDict]
  | .int _, _, e => by cases e; rw [PyData.hasDict]
  | .str _, _, e => by cases e; rw [PyData.hasDict]
  | .tup xs, _, e => by
    rw [D.py] at e
    obtain ⟨ps, e2, rfl⟩ := Option.map_eq_some_iff.mp e
    rw [PyData.hasDict]
    exact pys_noDict xs ps e2
  | .lst xs, _, e => by
    rw [D.py] at e
    obtain ⟨ps, e2, rfl⟩ := Option.map_eq_some_iff.mp e
    rw [PyData.hasDict]
    exact pys_noDict xs ps e2
  | .dct _, _, e => by cases e
  | .obj _ _, _, e => by cases e
  | .raw _, _, e => by cases e
  | .rdl _, _, e => by cases e
  | .cel _, _, e => by cases e
theorem pys_noDict : ∀ (ds : List D) (ps : List PyData), D.pys ds = some ps → PyData.hasDictAll ps = false
  | [], _, e => by cases e; rw [PyData.hasDictAll]
  | d :: ds, _, e => by
    rw [D.pys] at e
    obtain ⟨a, e1, e⟩ := Option.bind_eq_some_iff.mp e
    obtain ⟨b, e2, rfl⟩ := Option.map_eq_some_iff.mp e
    rw [PyData.hasDictAll, py_noDict d a e1, pys_noDict ds b e2]
    rfl
end
def fRepr : DF := fun ds q _ => match ds with | [x] => okShow x ∧ q (.str (shownD x)) | _ => False
theorem f_repr {K : PySem.W.Frag} : RCD K E (rRepr K) fRepr := fun W H vs xs Q q e g r h k ke => by
  unfold fRepr at h
  split at h
  · obtain ⟨v, rfl, s⟩ := r.one
    obtain ⟨⟨p, e1, a, b, c⟩, h⟩ := h
    refine ⟨v, p, rfl, seen_dp g s e1, a, py_noDict _ _ e1, b, c, ?_⟩
    unfold shownD at h
    rw [e1] at h
    exact k.here g (.str _) h
  · exact h.elim
/-! #### isinstance -/
def tyD : D → Option String
  | .non => some "NoneType"
  | .bl _ => some "bool"
  | .int _ => some "int"
  | .str _ => some "str"
  | .tup _ => some "tuple"
  | .lst _ => some "list"
  | .dct _ => some "dict"
  | _ => none
theorem tyD_in {d : D} {t : String} (h : tyD d = some t) : t ∈ BT := by
  cases d <;> cases h <;> decide
theorem Seen.ty {K : PySem.W.Frag} {W : Wd} {H : Hp} {v : V} {d : D} {t : String} (g : Good W H) (s : Seen K W.c H v d) (h : tyD d = some t) : TyX K H v (.type t) := by
  cases d with
  | non => cases h; rw [s.non]; exact .base .non
  | bl b => cases h; rw [s.bl]; exact .base (.bl b)
  | int i => cases h; rw [s.int]; exact .base (.int i)
  | str x => cases h; rw [s.str]; exact .base (.str x)
  | tup xs =>
    cases h
    obtain ⟨a, vs, rfl, e, r⟩ := s.tup.tupAt g
    rcases e with (e | ⟨o, e⟩) | ⟨o, its, n, e, c, _⟩
    · exact .base (.tup e)
    · exact .fTuple e
    · exact .kTuple e c
  | lst xs =>
    cases h
    obtain ⟨a, vs, rfl, e, r⟩ := s.lstAt g
    exact .base (.lst e)
  | dct xs =>
    cases h
    cases s with
    | rep r =>
      obtain ⟨a, kvs, rfl, e, _⟩ := r.dctAt g
      rcases e with e | ⟨o, e⟩
      · exact .base (.dK e)
      · exact .fDict e
    | dct e n _ _ => exact .base (.dK e)
  | _ => cases h
/-- is one of the built-in kind t one of the built-in kind T? -/
def subT (t T : String) : Bool := t == T || (t == "bool" && T == "int")
theorem kit_sub {K : PySem.W.Frag} : ∀ t ∈ BT, ∀ T ∈ ["int", "bool", "str", "tuple", "list", "dict"], PySem.W.kitOne K (.type t) (.type T) = some (subT t T) := by
  intro t ht T hT
  simp only [BT, List.mem_cons, List.not_mem_nil, or_false] at ht hT
  rcases ht with rfl | rfl | rfl | rfl | rfl | rfl | rfl <;> rcases hT with rfl | rfl | rfl | rfl | rfl | rfl <;> exact kit_ty (by decide +kernel)
/-- a thing of a built-in kind -/
def kB (x : D) : Prop := match x with | .obj _ _ => False | .raw _ => False | .rdl _ => False | .cel _ => False | _ => True
theorem kB_ty {x : D} (h : kB x) : ∃ t, tyD x = some t := by
  cases x <;> first | exact ⟨_, rfl⟩ | exact h.elim
def isIntD : D → Bool | .int _ => true | .bl _ => true | _ => false
def isBoolD : D → Bool | .bl _ => true | _ => false
def isStrD : D → Bool | .str _ => true | _ => false
def isTupD : D → Bool | .tup _ => true | _ => false
def isLstD : D → Bool | .lst _ => true | _ => false
def isDctD : D → Bool | .dct _ => true | _ => false
/-- what tells a built-in kind -/
def Tells (T : String) (k : D → Bool) : Prop := T ∈ ["int", "bool", "str", "tuple", "list", "dict"] ∧ (∀ C fs, k (.obj C fs) = false) ∧ ∀ x t, tyD x = some t → subT t T = k x
theorem tell_int : Tells "int" isIntD := ⟨by decide, fun _ _ => rfl, fun x t h => by cases x <;> cases h <;> rfl⟩
theorem tell_bool : Tells "bool" isBoolD := ⟨by decide, fun _ _ => rfl, fun x t h => by cases x <;> cases h <;> rfl⟩
theorem tell_str : Tells "str" isStrD := ⟨by decide, fun _ _ => rfl, fun x t h => by cases x <;> cases h <;> rfl⟩
theorem tell_tuple : Tells "tuple" isTupD := ⟨by decide, fun _ _ => rfl, fun x t h => by cases x <;> cases h <;> rfl⟩
theorem tell_list : Tells "list" isLstD := ⟨by decide, fun _ _ => rfl, fun x t h => by cases x <;> cases h <;> rfl⟩
theorem tell_dict : Tells "dict" isDctD := ⟨by decide, fun _ _ => rfl, fun x t h => by cases x <;> cases h <;> rfl⟩
/-- isinstance(x, T), T a built-in type; cs: the own classes that x may be of -/
def fIsi (T : String) (k : D → Bool) (cs : List Addr) : DF := fun ds q _ => match ds with
  | [x, .raw (.ty U)] => U = T ∧ (match x with | .obj C _ => C ∈ cs | x => kB x) ∧ q (.bl (k x))
  | _ => False
theorem f_isi {K : PySem.W.Frag} {T : String} {k : D → Bool} {cs : List Addr} (hT : Tells T k) (hc : ∀ C ∈ cs, IsC K C ∧ PySem.W.kitOne K (.ref C) (.type T) = some false) : RCD K E (rIsi K) (fIsi T k cs) := fun W H vs xs Q q e g r h k ke => by
  unfold fIsi at h
  split at h
  · obtain ⟨v, u, rfl, s, s2⟩ := r.two
    rw [s2.raw]
    obtain ⟨rfl, m, h⟩ := h
    split at m
    · obtain ⟨a, dx, fs, rfl, e1, _⟩ := s.obj.objAt g
      refine ⟨_, _, _, _, false, rfl, .ty _, (hc _ m).1.ty e1, (hc _ m).2, k.here g (.bl _) ?_⟩
      rw [hT.2.1] at h
      exact h
    · obtain ⟨t, e1⟩ := kB_ty m
      refine ⟨_, _, _, _, _, rfl, .ty _, s.ty g e1, kit_sub t (tyD_in e1) _ hT.1, k.here g (.bl _) ?_⟩
      rw [hT.2.2 _ _ e1]
      exact h
  · exact h.elim
/-- isinstance(x, C), C an own class; cs: the other own classes that x may be of -/
def fIsO (C : Addr) (cs : List (Addr × Bool)) : DF := fun ds q _ => match ds with
  | [x, .raw (.ref A)] => A = C ∧ (match x with | .obj B _ => (B = C ∧ q (.bl true)) ∨ ∃ b, (B, b) ∈ cs ∧ q (.bl b) | x => kB x ∧ q (.bl false))
  | _ => False
theorem f_isO {K : PySem.W.Frag} {C : Addr} {cs : List (Addr × Bool)} (hC : IsC K C) (hb : ∀ n ∈ BT, PySem.W.kitOne K (.type n) (.ref C) = some false) (hc : ∀ p ∈ cs, IsC K p.1 ∧ PySem.W.kitOne K (.ref p.1) (.ref C) = some p.2) : RCD K E (rIsi K) (fIsO C cs) := fun W H vs xs Q q e g r h k ke => by
  unfold fIsO at h
  split at h
  · obtain ⟨v, u, rfl, s, s2⟩ := r.two
    rw [s2.raw]
    obtain ⟨rfl, h⟩ := h
    split at h
    · obtain ⟨a, dx, fs, rfl, e1, _⟩ := s.obj.objAt g
      rcases h with ⟨rfl, h⟩ | ⟨b, m, h⟩
      · exact ⟨_, _, _, _, true, rfl, .own _, hC.ty e1, ko_self, k.here g (.bl _) h⟩
      · exact ⟨_, _, _, _, b, rfl, .own _, (hc _ m).1.ty e1, (hc _ m).2, k.here g (.bl _) h⟩
    · obtain ⟨t, e1⟩ := kB_ty h.1
      exact ⟨_, _, _, _, _, rfl, .own _, s.ty g e1, hb t (tyD_in e1), k.here g (.bl _) h.2⟩
  · exact h.elim
end
end DL
-- CUT
/-! ### own classes; errors; texts; stores of several names -/
namespace DL
open PySem PySem.Spec PyProof.Rows L2 Kit
section
variable {X : Cx} {E : EX} {c e a b : Expr} {xa xb : DX} {t : DXA} {pos : Pos} {C : Addr} {s : DF}
/-! #### fields, methods -/
def xFld (C : Addr) (f : Str) (a : DX) : DX := fun ε q e => a ε (fun x => match x with | .obj B fs => B = C ∧ ∃ d, fs.lookup f = some d ∧ q d | _ => False) e
theorem d_fld {f : Str} (h : PE X c (tFld X.K (dV X.K E xa) f)) (cl : Cls X.K C) (na : NoAttr X.K C f) : DE X E c (xFld C f xa) :=
  PE.to h fun σ H Q ⟨W, H0, ε, q, e, g, en, t, k, ke⟩ => ⟨W, H0, ε, _, e, g, en, t, fun W1 H1 v x x1 s1 t1 => by
    cases x with
    | obj B fs =>
      obtain ⟨rfl, d, l, hq⟩ := t1
      obtain ⟨p, dx, us, rfl, h1, r⟩ := s1.obj.objAt x1.good
      obtain ⟨u, l2, r2⟩ := r.look l
      exact ⟨p, B, dx, us, u, rfl, h1, cl, na, l2, k _ _ _ _ x1 r2 hq⟩
    | _ => exact t1.elim, ke⟩
/-- a field of an instance that is being made -/
def xOwnF (i : Nat) (C : Addr) (f : Str) : DX := fun ε q _ => match getV ε i with | some (.ownO _ B fs) => B = C ∧ ∃ d, fs.lookup f = some d ∧ q d | _ => False
theorem d_ownF {i : Nat} {f : Str} (h : PE X c (tFld X.K (tVar i) f)) (cl : Cls X.K C) (na : NoAttr X.K C f) : DE X E c (xOwnF i C f) :=
  PE.to h fun σ H Q ⟨W, H0, ε, q, e, g, en, t, k, ke⟩ => by
    unfold xOwnF at t
    split at t
    · rename_i p B fs hx
      obtain ⟨rfl, d, l, hq⟩ := t
      obtain ⟨dx, us, e1, n, h1, r, _⟩ := en.ownO hx
      obtain ⟨u, l2, r2⟩ := r.look l
      exact ⟨.ref p, e1, p, B, dx, us, u, rfl, h1, cl, na, l2, k _ _ _ _ (.refl g) r2 hq⟩
    · exact t.elim
def xMeth (C : Addr) (m : Str) (s : DF) (a : DX) (t : DXA) : DX := fun ε q e => a ε (fun x => match x with | .obj B fs => B = C ∧ fs.lookup m = none ∧ t ε (fun ds => s (x :: ds) q e) e | _ => False) e
def xMeth0 (C : Addr) (m : Str) (s : DF) (a : DX) (t : DXA) : DX := fun ε q e => a ε (fun x => match x with | .obj B fs => B = C ∧ fs.lookup m = none ∧ t ε (fun ds => s (x :: ds) q NoX) e | _ => False) e
theorem d_meth {m : Str} (h : PE X c (tMeth C m (toSp X.K E.T s) [] E.x (dE X.K E xa) (dA X.K E t))) : DE X E c (xMeth C m s xa t) :=
  PE.to h fun σ H Q ⟨W, H0, ε, q, e, g, en, t, k, ke⟩ => ⟨W, H0, ε, _, e, g, en, t, fun W1 H1 v x x1 r1 t1 => by
    cases x with
    | obj B fs =>
      obtain ⟨rfl, l, hq⟩ := t1
      obtain ⟨p, dx, us, rfl, h1, r⟩ := r1.objAt x1.good
      exact ⟨p, dx, us, rfl, h1, r.none l, W1, H0, ε, _, e, x1.good, en.ext x1, hq, fun W2 H2 vs ds x2 r2 t2 => by
        show toSp X.K E.T s (.ref p :: (vs ++ [])) H2 Q E.x
        rw [List.append_nil]
        exact ⟨W2, _, q, e, x2.good, .cons (r1.mono x2.le) r2, t2, k.after (x1.trans x2), ke.after (x1.trans x2)⟩, ke.after x1⟩
    | _ => exact t1.elim, ke⟩
theorem d_meth0 {m : Str} {E' : XK} (h : PE X c (tMeth C m (toSp0 X.K E.T s) [] E' (dE X.K E xa) (dA X.K E t))) : DE X E c (xMeth0 C m s xa t) :=
  PE.to h fun σ H Q ⟨W, H0, ε, q, e, g, en, t, k, ke⟩ => ⟨W, H0, ε, _, e, g, en, t, fun W1 H1 v x x1 r1 t1 => by
    cases x with
    | obj B fs =>
      obtain ⟨rfl, l, hq⟩ := t1
      obtain ⟨p, dx, us, rfl, h1, r⟩ := r1.objAt x1.good
      exact ⟨p, dx, us, rfl, h1, r.none l, W1, H0, ε, _, e, x1.good, en.ext x1, hq, fun W2 H2 vs ds x2 r2 t2 => by
        show toSp0 X.K E.T s (.ref p :: (vs ++ [])) H2 Q E'
        rw [List.append_nil]
        exact ⟨W2, _, q, x2.good, .cons (r1.mono x2.le) r2, t2, k.after (x1.trans x2), (ke.after (x1.trans x2)).1⟩, ke.after x1⟩
    | _ => exact t1.elim, ke⟩
/-- a method without arguments -/
theorem d_methN {m : Str} (h : PE X c (tMeth C m (toSp X.K E.T s) [] E.x (dE X.K E xa) tNil)) : DE X E c (xMeth C m s xa xNil) :=
  PE.to h fun σ H Q ⟨W, H0, ε, q, e, g, en, t, k, ke⟩ => ⟨W, H0, ε, _, e, g, en, t, fun W1 H1 v x x1 r1 t1 => by
    cases x with
    | obj B fs =>
      obtain ⟨rfl, l, hq⟩ := t1
      obtain ⟨p, dx, us, rfl, h1, r⟩ := r1.objAt x1.good
      exact ⟨p, dx, us, rfl, h1, r.none l, W1, _, q, e, x1.good, .cons r1 .nil, hq, k.after x1, ke.after x1⟩
    | _ => exact t1.elim, ke⟩
theorem d_methN0 {m : Str} {E' : XK} (h : PE X c (tMeth C m (toSp0 X.K E.T s) [] E' (dE X.K E xa) tNil)) : DE X E c (xMeth0 C m s xa xNil) :=
  PE.to h fun σ H Q ⟨W, H0, ε, q, e, g, en, t, k, ke⟩ => ⟨W, H0, ε, _, e, g, en, t, fun W1 H1 v x x1 r1 t1 => by
    cases x with
    | obj B fs =>
      obtain ⟨rfl, l, hq⟩ := t1
      obtain ⟨p, dx, us, rfl, h1, r⟩ := r1.objAt x1.good
      exact ⟨p, dx, us, rfl, h1, r.none l, W1, _, q, x1.good, .cons r1 .nil, hq, k.after x1, (ke.after x1).1⟩
    | _ => exact t1.elim, ke⟩
/-- a def without arguments -/
theorem d_call00 {E' : XK} (h : PE X c (tCall (toSp0 X.K E.T s) [] E' tNil)) : DE X E c (xCall0 s xNil) :=
  PE.to h fun σ H Q ⟨W, H0, ε, q, e, g, en, t, k, ke⟩ => ⟨W, [], q, g, .nil, t, k, ke.1⟩
/-- e.f, f a property -/
def xProp (C : Addr) (s : DF) (a : DX) : DX := fun ε q e => a ε (fun x => match x with | .obj B _ => B = C ∧ s [x] q NoX | _ => False) e
theorem d_prop {E' : XK} (h : PE X c (tProp C (toSp0 X.K E.T s) [] E' (dE X.K E xa))) : DE X E c (xProp C s xa) :=
  PE.to h fun σ H Q ⟨W, H0, ε, q, e, g, en, t, k, ke⟩ => ⟨W, H0, ε, _, e, g, en, t, fun W1 H1 v x x1 r1 t1 => by
    cases x with
    | obj B fs =>
      obtain ⟨rfl, hq⟩ := t1
      obtain ⟨p, dx, us, rfl, h1, r⟩ := r1.objAt x1.good
      exact ⟨p, dx, us, rfl, h1, W1, _, q, x1.good, .cons r1 .nil, hq, k.after x1, (ke.after x1).1⟩
    | _ => exact t1.elim, ke⟩
/-! #### signs of own classes: both sides known -/
def R2E (K : PySem.W.Frag) (E : EX) (r : R2) (f : F2) : Prop := ∀ W H v u x y Q q e, Good W H → Rep K W.c v x → Rep K W.c u y → f x y q e → KQ K W H Q q → KE K W H E e → r v u H Q
def R1E (K : PySem.W.Frag) (E : EX) (r : V → Hp → VK → Prop) (f : F1) : Prop := ∀ W H v x Q q e, Good W H → Rep K W.c v x → f x q e → KQ K W H Q q → KE K W H E e → r v H Q
theorem d_opE {op : Operator} {r : R2} {f : F2} (ho : OpR X (binaryOp op) r) (hf : R2E X.K E r f) (ha : DE X E a xa) (hb : DE X E b xb) : DE X E (.BinOp a op b pos) (xOp f xa xb) :=
  PE.to (pe_op ho ha hb) fun σ H Q ⟨W, H0, ε, q, e, g, en, t, k, ke⟩ => ⟨W, H0, ε, _, e, g, en, t, fun W1 H1 v x x1 s1 t1 => ⟨W1, H0, ε, _, e, x1.good, en.ext x1, t1, fun W2 H2 u y x2 s2 t2 =>
    hf W2 H2 v u x y Q q e x2.good (s1.mono x2.le) s2 t2 (k.after (x1.trans x2)) (ke.after (x1.trans x2)), ke.after x1⟩, ke⟩
theorem d_cmpE {op : CmpOp} {r : R2} {f : F2} (ho : OpR X (compareOp op) r) (hf : R2E X.K E r f) (ha : DE X E a xa) (hb : DE X E b xb) (hm : behindInMarks op b = false) : DE X E (.Compare a [op] [b] pos) (xOp f xa xb) :=
  PE.to (pe_cmpR ho ha hb hm) fun σ H Q ⟨W, H0, ε, q, e, g, en, t, k, ke⟩ => ⟨W, H0, ε, _, e, g, en, t, fun W1 H1 v x x1 s1 t1 => ⟨W1, H0, ε, _, e, x1.good, en.ext x1, t1, fun W2 H2 u y x2 s2 t2 =>
    hf W2 H2 v u x y Q q e x2.good (s1.mono x2.le) s2 t2 (k.after (x1.trans x2)) (ke.after (x1.trans x2)), ke.after x1⟩, ke⟩
theorem dt_cmpE {op : CmpOp} {r : R2} {f : F2} (ho : OpR X (compareOp op) r) (hf : R2E X.K E r f) (ha : DE X E a xa) (hb : DE X E b xb) (hm : behindInMarks op b = false) : DT X E (.Compare a [op] [b] pos) (xtVal (xOp f xa xb)) :=
  PT.to (pt_cmpR ho ha hb hm) fun σ H Q ⟨W, H0, ε, q, e, g, en, t, k, ke⟩ => ⟨W, H0, ε, _, e, g, en, t, fun W1 H1 v x x1 s1 t1 => ⟨W1, H0, ε, _, e, x1.good, en.ext x1, t1, fun W2 H2 u y x2 s2 t2 =>
    hf W2 H2 v u x y _ _ e x2.good (s1.mono x2.le) s2 t2 (fun W3 H3 w d x3 r3 h3 => by
      cases d with
      | bl z =>
        cases r3
        exact ⟨z, rfl, k _ _ _ ((x1.trans x2).trans x3) h3⟩
      | _ => exact h3.elim) (ke.after (x1.trans x2)), ke.after x1⟩, ke⟩
theorem d_ixE {r : R2} {f : F2} (hf : R2E X.K E r f) (h : PE X c (tOp r (dE X.K E xa) (dE X.K E xb))) : DE X E c (xOp f xa xb) :=
  PE.to h fun σ H Q ⟨W, H0, ε, q, e, g, en, t, k, ke⟩ => ⟨W, H0, ε, _, e, g, en, t, fun W1 H1 v x x1 s1 t1 => ⟨W1, H0, ε, _, e, x1.good, en.ext x1, t1, fun W2 H2 u y x2 s2 t2 =>
    hf W2 H2 v u x y Q q e x2.good (s1.mono x2.le) s2 t2 (k.after (x1.trans x2)) (ke.after (x1.trans x2)), ke.after x1⟩, ke⟩
theorem d_unE {op : UnaryOp} {r : V → Hp → VK → Prop} {f : F1} (ho : UnR X (unaryOp op) r) (hf : R1E X.K E r f) (ha : DE X E a xa) : DE X E (.UnaryOp op a pos) (xUn f xa) :=
  PE.to (pe_un ho ha) fun σ H Q ⟨W, H0, ε, q, e, g, en, t, k, ke⟩ => ⟨W, H0, ε, _, e, g, en, t, fun W1 H1 v x x1 s1 t1 => hf W1 H1 v x Q q e x1.good s1 t1 (k.after x1) (ke.after x1), ke⟩
/-- a built-in's call with known things -/
def RCE (K : PySem.W.Frag) (E : EX) (r : List V → Hp → VK → Prop) (f : DF) : Prop := ∀ W H vs xs Q q e, Good W H → RepL K W.c vs xs → f xs q e → KQ K W H Q q → KE K W H E e → r vs H Q
theorem d_callE {r : List V → Hp → VK → Prop} {f : DF} (h : PE X c (tCB r (dA X.K E t))) (hf : RCE X.K E r f) : DE X E c (xCB f t) :=
  PE.to h fun σ H Q ⟨W, H0, ε, q, e, g, en, t, k, ke⟩ => ⟨W, H0, ε, _, e, g, en, t, fun W1 H1 vs ds x1 r1 t1 => hf W1 H1 vs ds Q q e x1.good r1 t1 (k.after x1) (ke.after x1), ke⟩
/-- what a method of an own class tells, a truth -/
def asBl (q : Bool → Prop) : D → Prop := fun d => match d with | .bl b => q b | _ => False
/-- the kinds of the right side that == of an own class is told with: built-in ones, the class itself, others (cs) -/
def sideOk (C : Addr) (cs : List Addr) (y : D) : Prop := match y with | .obj B _ => B = C ∨ B ∈ cs | y => kB y
def fEqO (C : Addr) (cs : List Addr) (s : DF) : F2 := fun x y q _ => match x with | .obj B _ => B = C ∧ sideOk C cs y ∧ s [x, y] (asBl fun b => q (.bl b)) NoX | _ => False
def fNeO (C : Addr) (cs : List Addr) (s : DF) : F2 := fun x y q _ => match x with | .obj B _ => B = C ∧ sideOk C cs y ∧ s [x, y] (asBl fun b => q (.bl (!b))) NoX | _ => False
theorem side_ty {K : PySem.W.Frag} {W : Wd} {H : Hp} (g : Good W H) {cs : List Addr} (hC : IsC K C) (hb : ∀ n ∈ BT, PySem.W.notFirst K C (.type n) = true) (hc : ∀ B ∈ cs, IsC K B ∧ PySem.W.notFirst K C (.ref B) = true) {u : V} {y : D} (r : Rep K W.c u y) (h : sideOk C cs y) : ∃ tu, TyX K H u tu ∧ PySem.W.notFirst K C tu = true := by
  unfold sideOk at h
  split at h
  · obtain ⟨a, dx, fs, rfl, e1, _⟩ := r.objAt g
    rcases h with rfl | m
    · exact ⟨_, hC.ty e1, nf_self⟩
    · exact ⟨_, (hc _ m).1.ty e1, (hc _ m).2⟩
  · obtain ⟨t, e⟩ := kB_ty h
    exact ⟨_, (Seen.rep r).ty g e, hb t (tyD_in e)⟩
theorem asBl_at {K : PySem.W.Frag} {W : Wd} {H : Hp} {Q : VK} {q : D → Prop} {f : Bool → Bool} (k : KQ K W H Q q) : KQ K W H (fun v H' => ∃ b, v = .bl b ∧ Q (.bl (f b)) H') (asBl fun b => q (.bl (f b))) := fun W1 H1 v d x r h => by
  cases d with
  | bl b =>
    cases r
    exact ⟨b, rfl, k _ _ _ _ x (.bl _) h⟩
  | _ => exact h.elim
theorem f_eqO {K : PySem.W.Frag} {cs : List Addr} {E' : XK} (hC : IsC K C) (hb : ∀ n ∈ BT, PySem.W.notFirst K C (.type n) = true) (hc : ∀ B ∈ cs, IsC K B ∧ PySem.W.notFirst K C (.ref B) = true) : R2E K E (rEqO K C (toSp0 K E.T s) E') (fEqO C cs s) := fun W H v u x y Q q e g r1 r2 h k ke => by
  unfold fEqO at h
  split at h
  · obtain ⟨rfl, sd, h⟩ := h
    obtain ⟨tu, t1, t2⟩ := side_ty g hC hb hc r2 sd
    obtain ⟨a, dx, fs, rfl, e1, _⟩ := r1.objAt g
    exact ⟨a, dx, fs, tu, rfl, e1, t1, t2, W, _, _, g, .cons r1 (.cons r2 .nil), h, fun W1 H1 v d x r h => by
      obtain ⟨b, z, y⟩ := asBl_at (f := id) k W1 H1 v d x r h
      exact ⟨b, z, by rw [z]; exact y⟩, ke.1⟩
  · exact h.elim
theorem f_neO {K : PySem.W.Frag} {cs : List Addr} {E' : XK} (hC : IsC K C) (hb : ∀ n ∈ BT, PySem.W.notFirst K C (.type n) = true) (hc : ∀ B ∈ cs, IsC K B ∧ PySem.W.notFirst K C (.ref B) = true) : R2E K E (rNeO K C (toSp0 K E.T s) E') (fNeO C cs s) := fun W H v u x y Q q e g r1 r2 h k ke => by
  unfold fNeO at h
  split at h
  · obtain ⟨rfl, sd, h⟩ := h
    obtain ⟨tu, t1, t2⟩ := side_ty g hC hb hc r2 sd
    obtain ⟨a, dx, fs, rfl, e1, _⟩ := r1.objAt g
    exact ⟨a, dx, fs, tu, rfl, e1, t1, t2, W, _, _, g, .cons r1 (.cons r2 .nil), h, asBl_at (f := not) k, ke.1⟩
  · exact h.elim
theorem Rep.insAt {K : PySem.W.Frag} {W : Wd} {H : Hp} (g : Good W H) {v : V} {ds : List (Str × D)} (r : Rep K W.c v (.obj C ds)) : ∃ a, v = .ref a ∧ InsAt H C a := by
  obtain ⟨a, dx, fs, rfl, e1, _⟩ := r.objAt g
  exact ⟨a, rfl, dx, fs, e1⟩
def fInO (C : Addr) (s : DF) : F2 := fun x y q _ => match y with | .obj B _ => B = C ∧ s [y, x] (asBl fun b => q (.bl b)) NoX | _ => False
def fNotInO (C : Addr) (s : DF) : F2 := fun x y q _ => match y with | .obj B _ => B = C ∧ s [y, x] (asBl fun b => q (.bl (!b))) NoX | _ => False
theorem f_inO {K : PySem.W.Frag} {E' : XK} : R2E K E (rInO C (toSp0 K E.T s) E') (fInO C s) := fun W H v u x y Q q e g r1 r2 h k ke => by
  unfold fInO at h
  split at h
  · obtain ⟨rfl, h⟩ := h
    obtain ⟨a, rfl, i⟩ := r2.insAt g
    exact ⟨a, rfl, i, W, _, _, g, .cons r2 (.cons r1 .nil), h, asBl_at (f := id) k, ke.1⟩
  · exact h.elim
theorem f_notInO {K : PySem.W.Frag} {E' : XK} : R2E K E (rNotInO C (toSp0 K E.T s) E') (fNotInO C s) := fun W H v u x y Q q e g r1 r2 h k ke => by
  unfold fNotInO at h
  split at h
  · obtain ⟨rfl, h⟩ := h
    obtain ⟨a, rfl, i⟩ := r2.insAt g
    exact ⟨a, rfl, i, W, _, _, g, .cons r2 (.cons r1 .nil), h, asBl_at (f := not) k, ke.1⟩
  · exact h.elim
/-- x[y] of an own class -/
def fIxO (C : Addr) (s : DF) : F2 := fun x y q e => match x with | .obj B _ => B = C ∧ s [x, y] q e | _ => False
theorem f_ixO {K : PySem.W.Frag} : R2E K E (rIxO C (toSp K E.T s) E.x) (fIxO C s) := fun W H v u x y Q q e g r1 r2 h k ke => by
  unfold fIxO at h
  split at h
  · obtain ⟨rfl, h⟩ := h
    obtain ⟨a, rfl, i⟩ := r1.insAt g
    exact ⟨a, rfl, i, W, _, _, e, g, .cons r1 (.cons r2 .nil), h, k, ke⟩
  · exact h.elim
def fIxO0 (C : Addr) (s : DF) : F2 := fun x y q _ => match x with | .obj B _ => B = C ∧ s [x, y] q NoX | _ => False
theorem f_ixO0 {K : PySem.W.Frag} {E' : XK} : R2E K E (rIxO C (toSp0 K E.T s) E') (fIxO0 C s) := fun W H v u x y Q q e g r1 r2 h k ke => by
  unfold fIxO0 at h
  split at h
  · obtain ⟨rfl, h⟩ := h
    obtain ⟨a, rfl, i⟩ := r1.insAt g
    exact ⟨a, rfl, i, W, _, _, g, .cons r1 (.cons r2 .nil), h, k, ke.1⟩
  · exact h.elim
/-- -x, +x, ~x -/
def fUnO (C : Addr) (s : DF) : F1 := fun x q _ => match x with | .obj B _ => B = C ∧ s [x] q NoX | _ => False
theorem f_unO {K : PySem.W.Frag} {E' : XK} : R1E K E (rUnO C (toSp0 K E.T s) E') (fUnO C s) := fun W H v x Q q e g r1 h k ke => by
  unfold fUnO at h
  split at h
  · obtain ⟨rfl, h⟩ := h
    obtain ⟨a, rfl, i⟩ := r1.insAt g
    exact ⟨a, rfl, i, W, _, _, g, .cons r1 .nil, h, k, ke.1⟩
  · exact h.elim
/-- x + y and its like, both of the class -/
def fBinO (C : Addr) (s : DF) : F2 := fun x y q e => match x, y with | .obj A _, .obj B _ => A = C ∧ B = C ∧ s [x, y] (fun d => (match d with | .obj _ _ => True | .tup _ => True | .lst _ => True | _ => False) ∧ q d) e | _, _ => False
theorem f_binO {K : PySem.W.Frag} (hC : IsC K C) : R2E K E (rBinO K C (toSp K E.T s) E.x) (fBinO C s) := fun W H v u x y Q q e g r1 r2 h k ke => by
  unfold fBinO at h
  split at h
  · obtain ⟨rfl, rfl, h⟩ := h
    obtain ⟨a, rfl, i⟩ := r1.insAt g
    obtain ⟨b, rfl, i2⟩ := r2.insAt g
    obtain ⟨dx, fs, e2⟩ := id i2
    refine ⟨a, b, rfl, rfl, i, hC.ty e2, W, _, _, e, g, .cons r1 (.cons r2 .nil), h, fun W1 H1 v d x r h => ?_, ke⟩
    cases d with
    | obj =>
      have r' := r
      cases r with
      | obj => exact ⟨_, rfl, k _ _ _ _ x r' h.2⟩
    | tup =>
      have r' := r
      cases r with
      | tup => exact ⟨_, rfl, k _ _ _ _ x r' h.2⟩
    | lst =>
      have r' := r
      cases r with
      | lst => exact ⟨_, rfl, k _ _ _ _ x r' h.2⟩
    | _ => exact h.1.elim
  · exact h.elim
/-- len, bool, str of an own class -/
def fLenO (C : Addr) (s : DF) : DF := fun ds q _ => match ds with | [.obj B fs] => B = C ∧ s [.obj B fs] (fun d => match d with | .int i => 0 ≤ i ∧ i < 2 ^ 63 ∧ q (.int i) | _ => False) NoX | _ => False
theorem f_lenO {K : PySem.W.Frag} {E' : XK} : RCE K E (rLenO C (toSp0 K E.T s) E') (fLenO C s) := fun W H vs xs Q q e g r h k ke => by
  unfold fLenO at h
  split at h
  · obtain ⟨rfl, h⟩ := h
    cases r with
    | cons r1 rn =>
      cases rn
      obtain ⟨a, rfl, i⟩ := r1.insAt g
      refine ⟨a, rfl, i, W, _, _, g, .cons r1 .nil, h, fun W1 H1 v d x r h => ?_, ke.1⟩
      cases d with
      | int j =>
        cases r
        exact ⟨j, rfl, h.1, h.2.1, k _ _ _ _ x (.int j) h.2.2⟩
      | _ => exact h.elim
  · exact h.elim
def fStrO (C : Addr) (s : DF) : DF := fun ds q _ => match ds with | [.obj B fs] => B = C ∧ s [.obj B fs] (fun d => match d with | .str z => q (.str z) | _ => False) NoX | _ => False
theorem f_strO {K : PySem.W.Frag} {E' : XK} : RCE K E (rStrO C (toSp0 K E.T s) E') (fStrO C s) := fun W H vs xs Q q e g r h k ke => by
  unfold fStrO at h
  split at h
  · obtain ⟨rfl, h⟩ := h
    cases r with
    | cons r1 rn =>
      cases rn
      obtain ⟨a, rfl, i⟩ := r1.insAt g
      refine ⟨a, rfl, i, W, _, _, g, .cons r1 .nil, h, fun W1 H1 v d x r h => ?_, ke.1⟩
      cases d with
      | str j =>
        cases r
        exact ⟨j, rfl, k _ _ _ _ x (.str j) h⟩
      | _ => exact h.elim
  · exact h.elim
/-! #### an instance is made -/
abbrev DFI := List D → (List (Str × D) → Prop) → (Exc → Prop) → Prop
def toSpI (K : PySem.W.Frag) (T : List (Addr × Str)) (C : Addr) (s : DFI) : Sp := fun vs H Q E => ∃ W Hb x dx us ds q e, vs = .ref x :: us ∧ Good W Hb ∧ Ext W Hb W H ∧ Hb x = none ∧ H x = some (.ins C dx []) ∧ RepL K W.c us ds ∧ s ds q e ∧
  (∀ W' H' dx' fs fd, Ext W Hb W' H' → W'.c x = none → H' x = some (.ins C dx' fs) → RepF K W'.c fs fd → q fd → Q .non H') ∧ KE K W Hb ⟨E, T⟩ e
theorem inst_new {W : Wd} {H : Hp} {x dx : Addr} (g : Good W H) (hx : H x = none) (hd : H dx = none) (ne : dx ≠ x) : Ext W H W (upd (upd H dx (.own x)) x (.ins C dx [])) :=
  .same g ((same_upd hd).trans (same_upd (by rw [upd_ne (fun z => ne z.symm)]; exact hx)))
def xMake (C : Addr) (s : DFI) (t : DXA) : DX := fun ε q e => t ε (fun ds => s ds (fun fd => q (.obj C fd)) e) e
theorem made_at {K : PySem.W.Frag} {si : DFI} {W : Wd} {H : Hp} {Q : VK} {q : D → Prop} {e : Exc → Prop} {us : List V} {ds : List D} (g : Good W H) (r : RepL K W.c us ds) (h : si ds (fun fd => q (.obj C fd)) e) (k : KQ K W H Q q) (ke : KE K W H E e) {x dx : Addr} (hx : H x = none) (hd : H dx = none) (ne : dx ≠ x) :
    toSpI K E.T C si (.ref x :: us) (upd (upd H dx (.own x)) x (.ins C dx [])) (fun v H2 => v = .non ∧ Q (.ref x) H2) E.x :=
  ⟨W, H, x, dx, us, ds, _, e, rfl, g, inst_new g hx hd ne, hx, upd_same, r, h, fun W' H' dx' fs fd x1 n h1 r1 hq =>
    ⟨rfl, k _ _ _ _ (x1.know h1 (fun ps z => by cases z) rfl n (.of hx)) (.obj Wd.put_same r1.1 (r1.2.mono (Wd.put_le n))) hq⟩, ke⟩
theorem d_make {si : DFI} (h : PE X c (tMake C (toSpI X.K E.T C si) [] E.x (dA X.K E t))) : DE X E c (xMake C si t) :=
  PE.to h fun σ H Q ⟨W, H0, ε, q, e, g, en, t, k, ke⟩ => ⟨W, H0, ε, _, e, g, en, t, fun W1 H1 vs ds x1 r1 t1 => fun x dx hx hd ne => by
    show toSpI X.K E.T C si (.ref x :: (vs ++ [])) _ _ E.x
    rw [List.append_nil]
    exact made_at x1.good r1 t1 (k.after x1) (ke.after x1) hx hd ne, ke⟩
theorem d_makeN {si : DFI} (h : PE X c (tMake C (toSpI X.K E.T C si) [] E.x tNil)) : DE X E c (xMake C si xNil) :=
  PE.to h fun σ H Q ⟨W, H0, ε, q, e, g, en, t, k, ke⟩ => fun x dx hx hd ne => made_at g .nil t k ke hx hd ne
/-- C(.., *rest): the rest comes as a tuple -/
def starI (n : Nat) (s : DFI) : DFI := fun ds q e => n ≤ ds.length ∧ fit (ds.length - n) ∧ s (ds.take n ++ [.tup (ds.drop n)]) q e
theorem upd_swap {H : Hp} {a b : Addr} {o u : HO} (h : a ≠ b) : upd (upd H a o) b u = upd (upd H b u) a o := by
  funext c
  by_cases h1 : c = a
  · have h2 : c ≠ b := fun z => h (h1.symm.trans z)
    rw [upd_ne h2, h1, upd_same, upd_same]
  · by_cases h2 : c = b
    · rw [h2, upd_same, upd_ne (fun z => h z.symm), upd_same]
    · rw [upd_ne h2, upd_ne h1, upd_ne h1, upd_ne h2]
abbrev spStar (K : PySem.W.Frag) (T : List (Addr × Str)) (C : Addr) (n : Nat) (si : DFI) : SpA := fun vs kws H Q E => kws = [] ∧ ∃ ws rest, vs = ws ++ rest ∧ ws.length = n + 1 ∧ rest.length ≤ sizeLine ∧ ∀ p, H p = none → toSpI K T C si (ws ++ [V.ref p]) (upd H p (.tup rest)) Q E
theorem star_at {K : PySem.W.Frag} {n : Nat} {si : DFI} {W : Wd} {H : Hp} {Q : VK} {q : D → Prop} {e : Exc → Prop} {us : List V} {ds : List D} (g : Good W H) (r : RepL K W.c us ds) (h : starI n si ds (fun fd => q (.obj C fd)) e) (k : KQ K W H Q q) (ke : KE K W H E e) {x dx : Addr} (hx : H x = none) (hd : H dx = none) (ne : dx ≠ x) :
    spStar K E.T C n si (.ref x :: us) [] (upd (upd H dx (.own x)) x (.ins C dx [])) (fun v H2 => v = .non ∧ Q (.ref x) H2) E.x := by
  obtain ⟨t2, t3, t4⟩ := h
  have len := r.length
  refine ⟨rfl, .ref x :: us.take n, us.drop n, by rw [List.cons_append, List.take_append_drop], by rw [List.length_cons, List.length_take]; omega, by rw [List.length_drop, len]; exact t3, fun p hp => ?_⟩
  have e0 := inst_new (C := C) g hx hd ne
  have hpx : H p = none := by
    cases z : H p with
    | none => rfl
    | some o =>
      have s1 : Same H (upd (upd H dx (.own x)) x (.ins C dx [])) := (same_upd hd).trans (same_upd (by rw [upd_ne (fun z => ne z.symm)]; exact hx))
      rw [s1 _ _ z] at hp
      cases hp
  have npx : p ≠ x := fun z => by
    rw [z, upd_same] at hp
    cases hp
  have npd : p ≠ dx := fun z => by
    rw [z, upd_ne ne, upd_same] at hp
    cases hp
  have e1 : Ext W H (W.put p (Eq (.tup (us.drop n)))) (upd H p (.tup (us.drop n))) := .put g hpx (fun ps z => by cases z) rfl
  have le : CW.le W.c (W.put p (Eq (.tup (us.drop n)))).c := e1.le
  have sw : upd (upd (upd H dx (.own x)) x (.ins C dx [])) p (.tup (us.drop n)) = upd (upd (upd H p (.tup (us.drop n))) dx (.own x)) x (.ins C dx []) := by
    rw [upd_swap (fun z => npx z.symm), upd_swap (fun z => npd z.symm)]
  rw [sw]
  exact made_at e1.good (((r.take n).mono le).append (.cons (.tup (.inl Wd.put_same) ((r.drop n).mono le)) .nil)) t4 (k.after e1) (ke.after e1) (by rw [upd_ne (fun z => npx z.symm)]; exact hx) (by rw [upd_ne (fun z => npd z.symm)]; exact hd) ne
/-- C(e, ..) of a class whose __init__ takes the rest as a tuple -/
theorem d_makeA {n : Nat} {si : DFI} (h : PE X c (tMakeA C [] (spStar X.K E.T C n si) E.x (tC (.ref C)) (dA X.K E t) (fun _ H Q => Q [] H))) : DE X E c (xMake C (starI n si) t) :=
  PE.to h fun σ H Q ⟨W, H0, ε, q, e, g, en, t, k, ke⟩ => ⟨rfl, W, H0, ε, _, e, g, en, t, fun W1 H1 vs ds x1 r1 t1 => ⟨rfl, fun x dx hx hd ne => star_at x1.good r1 t1 (k.after x1) (ke.after x1) hx hd ne⟩, ke⟩
theorem d_make0A {n : Nat} {si : DFI} (h : PE X c (tMake0A C (spStar X.K E.T C n si) E.x (tC (.ref C)))) : DE X E c (xMake C (starI n si) xNil) :=
  PE.to h fun σ H Q ⟨W, H0, ε, q, e, g, en, t, k, ke⟩ => ⟨rfl, fun x dx hx hd ne => star_at g .nil t k ke hx hd ne⟩
/-- C(*e) -/
def xMakeS (C : Addr) (s : DFI) (a : DX) : DX := fun ε q e => a ε (fun x => match x with | .tup xs => s xs (fun fd => q (.obj C fd)) e | .lst xs => s xs (fun fd => q (.obj C fd)) e | _ => False) e
theorem d_makeS {n : Nat} {si : DFI} {tc : TE} (htc : ∀ σ H Q, (∀ y, y = V.ref C → Q y H) → tc σ H Q) (h : PE X c (tMakeS1 X.K C (spStar X.K E.T C n si) E.x tc (dV X.K E xa))) : DE X E c (xMakeS C (starI n si) xa) :=
  PE.to h fun σ H Q ⟨W, H0, ε, q, e, g, en, t, k, ke⟩ => htc _ _ _ fun y hy => ⟨hy, W, H0, ε, _, e, g, en, t, fun W1 H1 v x x1 s1 t1 => by
    cases x with
    | tup xs =>
      obtain ⟨a, vs, rfl, h1, r⟩ := s1.tup.tupAt x1.good
      exact ⟨a, vs, rfl, .inl h1, fun x dx hx hd ne => star_at x1.good r t1 (k.after x1) (ke.after x1) hx hd ne⟩
    | lst xs =>
      obtain ⟨a, vs, rfl, h1, r⟩ := s1.lstAt x1.good
      exact ⟨a, vs, rfl, .inr (.inl (.inl h1)), fun x dx hx hd ne => star_at x1.good r t1 (k.after x1) (ke.after x1) hx hd ne⟩
    | _ => exact t1.elim, ke⟩
/-- cls(*e), cls a name -/
theorem d_makeSV {n i : Nat} {si : DFI} (h : PE X c (tMakeS1 X.K C (spStar X.K E.T C n si) E.x (tVar i) (dV X.K E xa))) : DE X E c (fun ε q e => (match getV ε i with | some (.val (.raw v)) => v = .ref C | _ => False) ∧ xMakeS C (starI n si) xa ε q e) :=
  PE.to h fun σ H Q ⟨W, H0, ε, q, e, g, en, ⟨tv, t⟩, k, ke⟩ => by
    split at tv
    · rename_i v hv
      subst tv
      obtain ⟨u, e1, r⟩ := en.val hv
      cases r
      refine ⟨_, e1, rfl, W, H0, ε, _, e, g, en, t, fun W1 H1 v x x1 s1 t1 => ?_, ke⟩
      cases x with
      | tup xs =>
        obtain ⟨a, vs, rfl, h1, r⟩ := s1.tup.tupAt x1.good
        exact ⟨a, vs, rfl, .inl h1, fun x dx hx hd ne => star_at x1.good r t1 (k.after x1) (ke.after x1) hx hd ne⟩
      | lst xs =>
        obtain ⟨a, vs, rfl, h1, r⟩ := s1.lstAt x1.good
        exact ⟨a, vs, rfl, .inr (.inl (.inl h1)), fun x dx hx hd ne => star_at x1.good r t1 (k.after x1) (ke.after x1) hx hd ne⟩
      | _ => exact t1.elim
    · exact tv.elim
/-- C.m(..), m a class method; a static one -/
def xCMeth (C : Addr) (s : DF) (t : DXA) : DX := fun ε q e => t ε (fun ds => s (.raw (.ref C) :: ds) q e) e
theorem d_cmeth {sp : Sp} (h : PE X c (ClX.tCMeth C sp E.x (tC (.ref C)) (dA X.K E t))) (hs : ∀ vs H Q, toSp X.K E.T s vs H Q E.x → sp vs H Q E.x) : DE X E c (xCMeth C s t) :=
  PE.to h fun σ H Q ⟨W, H0, ε, q, e, g, en, t, k, ke⟩ => ⟨rfl, W, H0, ε, _, e, g, en, t, fun W1 H1 vs ds x1 r1 t1 => hs _ _ _ ⟨W1, _, q, e, x1.good, .cons (.raw _) r1, t1, k.after x1, ke.after x1⟩, ke⟩
end
/-! #### the promise of an __init__ -/
section
variable {P : Program} {w : World} {K : PySem.W.Frag} {mg : Str → Option Value} {base : Heap}
abbrev endI (x C : Addr) (q : List (Str × D) → Prop) (e : Exc → Prop) : DK := ⟨fun ε => ∃ fd, getV ε 0 = some (.ownO x C fd) ∧ q fd, fun _ => False, fun _ => False, fun _ => False, e⟩
def startI (x C : Addr) (n : Nat) (ds : List D) : DEnv := some (.ownO x C []) :: startD n ds
theorem startI_env {W : Wd} {H0 H : Hp} {N : List Str} {x C dx : Addr} {vs : List V} {ds : List D} (r : RepL K W.c vs ds) {n : Nat} (hn : N.length = 1 + ds.length + n) (hx : H x = some (.ins C dx [])) (n1 : W.c x = none) (n0 : Fr H0 x) : EnvR K W.c H0 H (L2.start N (.ref x :: vs)) (startI x C n ds) := by
  have en : EnvR K W.c H0 H (L2.start (N.drop 1) vs) (startD n ds) := start_env r (by rw [List.length_drop]; omega)
  obtain ⟨l, ad, h1, h2, h3⟩ := en
  have st : L2.start N (.ref x :: vs) = some (.ref x) :: L2.start (N.drop 1) vs := by
    unfold L2.start
    rw [List.map_cons, List.cons_append, List.length_cons, List.length_drop]
    congr 3
    omega
  have noMine : ∀ {j : Nat} {z : DV}, getV (startD n ds) j = some z → z.mine = false := fun {j z} h => by
    have h := (getV_iff _ _ _).mp h
    rw [startD_eq, List.getElem?_append] at h
    split at h
    · rw [List.getElem?_map] at h
      obtain ⟨d, _, z⟩ := Option.map_eq_some_iff.mp h
      cases z
      rfl
    · rw [List.getElem?_replicate] at h
      split at h <;> cases h
  rw [st]
  refine ⟨by show _ + 1 = _ + 1; rw [l], fun j => match j with | 0 => x | j + 1 => ad j, fun j z hz => ?_, fun j k y z hy hz my mz e => ?_, fun j z hz mz => ?_⟩
  · cases j with
    | zero =>
      cases hz
      exact ⟨_, rfl, .ownO n1 hx ⟨rfl, .nil⟩⟩
    | succ j =>
      obtain ⟨v, e1, s⟩ := h1 j z hz
      exact ⟨v, by rw [List.getElem?_cons_succ]; exact e1, s⟩
  · cases j with
    | zero =>
      cases k with
      | zero => rfl
      | succ k =>
        have y := noMine hz
        rw [mz] at y
        cases y
    | succ j =>
      have y := noMine hy
      rw [my] at y
      cases y
  · cases j with
    | zero => exact n0
    | succ j =>
      have y := noMine hz
      rw [mz] at y
      cases y
theorem toSpI_len {T : List (Addr × Str)} {C : Addr} {s : DFI} {n : Nat} (h : ∀ ds q e, s ds q e → ds.length + 1 = n) : ∀ vs H Q E, toSpI K T C s vs H Q E → vs.length = n := fun vs H Q E ⟨W, Hb, x, dx, us, ds, q, e, ev, _, _, _, _, r, t, _⟩ => by
  rw [ev, List.length_cons, r.length, h ds q e t]
theorem initK {T : List (Addr × Str)} {C : Addr} {W : Wd} {Hb : Hp} {x : Addr} {Q : VK} {E : XK} {q : List (Str × D) → Prop} {e : Exc → Prop}
    (hk : ∀ W' H' dx' fs fd, Ext W Hb W' H' → W'.c x = none → H' x = some (.ins C dx' fs) → RepF K W'.c fs fd → q fd → Q .non H') (he : KE K W Hb ⟨E, T⟩ e) (hb : Hb x = none) : EndsR K W.c W Hb ⟨E, T⟩ { nx := fun _ H' => Q .non H', rt := Q } (endI x C q e) :=
  ⟨fun W1 H1 σ ε l x1 en ⟨fd, hf, hq⟩ => by
    obtain ⟨dx, fs, _, n, h1, r, _⟩ := en.ownO hf
    exact hk W1 H1 dx fs fd x1 n h1 r hq, fun _ _ _ _ _ _ _ z => z.elim, fun _ _ _ _ _ _ _ z => z.elim, fun _ _ _ _ _ _ z => z.elim, he⟩
theorem okDI {T : List (Addr × Str)} {x qual : Str} {st : Stmt} {f C : Addr} {fd : FuncData} {N ps : List Str} {k : Nat} {si : DFI} {n : Nat} {t : DXS} (F : Fun K x qual st f fd) (S : FnScope N ps (defScope st)) (hn : N.length = ps.length + n) (len : ∀ ds q e, si ds q e → ds.length + 1 = ps.length)
    (body : ∀ (cdv : Value) (A : Around) (outer : List Env) (s : Shared) (H : Hp) (E : XK), Room k (A.deeper (envOfC qual (defScope st) s.heap.objs.size f cdv)) → DSs (cxOf (L2.CX P w) P w K mg base N qual (defScope st) f cdv A outer s H E) ⟨E, T⟩ (defBody st) t)
    (h : ∀ x ds q e, si ds q e → t (endI x C q e) (startI x C n ds)) : FnOk P w K mg base (L2.CX P w) (k + 1) f fd ps (toSpI K T C si) :=
  F.okX S (toSpI_len len) fun cdv A outer sh H vs Q E hr ⟨W, Hb, x, dx, us, ds, q, e, ev, g, x0, hb, hx, r, hs, hk, he⟩ => ⟨_, body cdv A outer sh H E hr, W.c, W, Hb, W, startI x C n ds, endI x C q e, .refl _, x0, by
    rw [ev]
    exact startI_env r (by have z := len _ _ _ hs; omega) hx (g.fresh hb) (.of hb), h x ds q e hs, initK hk he hb⟩
/-- def __init__(self, .., *rest) -/
theorem okDIs {T : List (Addr × Str)} {x qual : Str} {st : Stmt} {f C : Addr} {fd : FuncData} {N ps : List Str} {pv : Str} {k m : Nat} {si : DFI} {n : Nat} {t : DXS} (F : Fun K x qual st f fd) (S : FnScope N (ps ++ [pv]) (defScope st)) (hm : ps.length = m + 1) (hn : N.length = ps.length + 1 + n) (len : ∀ ds q e, si ds q e → ds.length + 1 = ps.length + 1)
    (hb : ∀ (kV doc pm : Value) (an : Option Addr) (cdv ct : Value) (us rest : List Value), us.length = ps.length → bindArgs (PySem.W.fnOf x qual (defArgs st) (defBody st) (defScope st) .none kV doc pm an cdv ct) ⟨us ++ rest, []⟩ = (newTuple rest >>= fun t => pure (ps.zip us ++ [(pv, t)])))
    (body : ∀ (cdv : Value) (A : Around) (outer : List Env) (s : Shared) (H : Hp) (E : XK), Room k (A.deeper (envOfC qual (defScope st) s.heap.objs.size f cdv)) → DSs (cxOf (L2.CX P w) P w K mg base N qual (defScope st) f cdv A outer s H E) ⟨E, T⟩ (defBody st) t)
    (h : ∀ x ds q e, si ds q e → t (endI x C q e) (startI x C n ds)) : FnA P w K mg base (L2.CX P w) (k + 1) f (spStar K T C m si) := by
  have F0 := Kit.fn_star0 (sp := toSpI K T C si) F S StX.cxUp hb fun cdv A outer sh H vs Q E hr ⟨W, Hb, x, dx, us, ds, q, e, ev, g, x0, hb, hx, r, hs, hk, he⟩ => ⟨_, body cdv A outer sh H E hr, W.c, W, Hb, W, startI x C n ds, endI x C q e, .refl _, x0, by
    rw [ev]
    exact startI_env r (by have z := len _ _ _ hs; omega) hx (g.fresh hb) (.of hb), h x ds q e hs, initK hk he hb⟩
  rw [hm] at F0
  exact F0
end
end DL
-- CUT
/-! ### stores, errors, texts, sets; lambdas -/
namespace DL
open PySem PySem.Spec PyProof.Rows L2 Kit
section
variable {X : Cx} {E : EX} {c e a b : Expr} {st : Stmt} {xa xb : DX} {t : DXA} {pos : Pos} {C : Addr} {s : DF}
/-! #### self.f = e while self is being made -/
theorem RepF.put {K : PySem.W.Frag} {cw : CW} {f : Str} {v : V} {d : D} (q : Rep K cw v d) : ∀ {fs : List (Str × V)} {ds : List (Str × D)}, RepF K cw fs ds → RepF K cw (putF f v fs) (putD f d ds)
  | [], [], _ => ⟨rfl, .cons q .nil⟩
  | [], _ :: _, ⟨z, _⟩ => by cases z
  | _ :: _, [], ⟨z, _⟩ => by cases z
  | (g, u) :: fs, (h, y) :: ds, ⟨z, r⟩ => by
    have z1 : g = h := by injection z
    have z2 : fs.map Prod.fst = ds.map Prod.fst := by injection z
    subst z1
    cases r with
    | cons r1 r2 =>
      unfold putF putD
      by_cases k : g = f
      · subst k
        rw [if_pos rfl]
        split
        · exact ⟨by show _ :: _ = _ :: _; rw [z2], .cons q r2⟩
        · rename_i n
          first
          | exact absurd rfl n
          | (simp at n)
      · have ih := RepF.put (f := f) q (fs := fs) (ds := ds) ⟨z2, r2⟩
        rw [if_neg k]
        split
        · rename_i n
          first
          | exact absurd n k
          | (exact absurd (by simpa using n) k)
        · exact ⟨by show _ :: _ = _ :: _; rw [ih.1], .cons r1 ih.2⟩
def xsPut (i : Nat) (f : Str) (a : DX) : DXS := fun k ε => match getV ε i with
  | some (.ownO x C fs) => fs.length < 100 ∧ a ε (fun d => k.nx (setV ε i (some (.ownO x C (putD f d fs))))) k.ex
  | _ => False
theorem ds_put {i : Nat} {f : Str} (h : PS X st (sFld X.K (tVar i) (dE X.K E xa) f)) (cl : Cls X.K C) (na : NoAttr X.K C f) : DSt X E st (fun k ε => (∃ x fs, getV ε i = some (.ownO x C fs)) ∧ xsPut i f xa k ε) :=
  PS.to h fun σ H M ⟨B, W0, H0, W, ε, k, le, x, en, ⟨⟨p, fs, hx⟩, h⟩, R⟩ => by
    unfold xsPut at h
    rw [hx] at h
    obtain ⟨sz, h⟩ := h
    refine ⟨W, H0, ε, _, _, x.good, en, h, fun W1 H1 v d x1 r hd => ?_, R.ex.after x⟩
    have en1 := en.ext x1
    obtain ⟨dx, us, e1, n, h1, rf, n0⟩ := en1.ownO hx
    refine ⟨.ref p, e1, p, C, dx, us, rfl, h1, cl, na, by rw [rf.len]; omega, ?_⟩
    exact R.nx W1 _ σ _ (le.trans x1.le) ((x.trans x1).upd h1 n n0 (fun ps z => by cases z) (fun φ z => by cases z)) (en1.upd i hx rfl e1 n0 (.ownO n upd_same (rf.put r))) hd
/-! #### raise -/
def xsRaise (C : Addr) : DXS := fun k _ => k.ex (.ref C, [])
theorem ds_raise (h : PS X st (fun _ _ H => E.x (.ref C) none H)) : DSt X E st (xsRaise C) :=
  PS.to h fun σ H M ⟨B, W0, H0, W, ε, k, le, x, en, h, R⟩ => R.ex.2 W H _ none _ x .plain h
/-! #### a, b = x, y; a, b = e -/
/-- what is stored: a known thing, a new list of ours -/
inductive NewL (K : PySem.W.Frag) (cw : CW) (H H' : Hp) : List V → List DV → Prop
  | nil : NewL K cw H H' [] []
  | val {v : V} {d : D} {vs : List V} {xs : List DV} (r : Rep K cw v d) (t : NewL K cw H H' vs xs) : NewL K cw H H' (v :: vs) (.val d :: xs)
  | own {p : Addr} {us : List V} {ds : List D} {vs : List V} {xs : List DV} (n : Fr H p) (nw : cw p = none) (h : H' p = some (.lst us)) (r : RepL K cw us ds) (ne : ∀ (i : Nat) (ys : List D), xs[i]? = some (DV.own ys) → vs[i]? ≠ some (V.ref p)) (t : NewL K cw H H' vs xs) : NewL K cw H H' (.ref p :: vs) (.own ds :: xs)
abbrev DXM := DEnv → (List DV → Prop) → (Exc → Prop) → Prop
def KM (K : PySem.W.Frag) (W : Wd) (H : Hp) (Q : List V → Hp → Prop) (q : List DV → Prop) : Prop := ∀ W' H' vs xs, Ext W H W' H' → NewL K W'.c H H' vs xs → q xs → Q vs H'
def dM (K : PySem.W.Frag) (E : EX) (t : DXM) : TA := fun σ H Q => ∃ W H0 ε q e, Good W H ∧ EnvR K W.c H0 H σ ε ∧ t ε q e ∧ KM K W H Q q ∧ KE K W H E e
abbrev DM (X : Cx) (E : EX) (e : List Expr) (t : DXM) : Prop := PA X e (dM X.K E t)
def xmNil : DXM := fun _ q _ => q []
def xmVal (a : DX) (t : DXM) : DXM := fun ε q e => a ε (fun x => t ε (fun xs => q (.val x :: xs)) e) e
def xmOwn (a : DXA) (t : DXM) : DXM := fun ε q e => a ε (fun x => t ε (fun xs => q (.own x :: xs)) e) e
theorem dm_nil : DM X E [] xmNil := PA.to pa_nil fun σ H Q ⟨W, H0, ε, q, e, g, en, t, k, ke⟩ => k _ _ _ _ (.refl g) .nil t
/-- what is new behind is new before -/
theorem NewL.back {K : PySem.W.Frag} {W W1 : Wd} {cw : CW} {H H1 H2 : Hp} (x : Ext W H W1 H1) : ∀ {vs : List V} {xs : List DV}, NewL K cw H1 H2 vs xs → NewL K cw H H2 vs xs
  | _, _, .nil => .nil
  | _, _, .val r t => .val r (NewL.back x t)
  | _, _, .own n nw h r ne t => .own (x.free n) nw h r ne (NewL.back x t)
theorem NewL.free {K : PySem.W.Frag} {cw : CW} {H H2 : Hp} : ∀ {vs : List V} {xs : List DV} {i : Nat} {ys : List D} {p : Addr}, NewL K cw H H2 vs xs → xs[i]? = some (DV.own ys) → vs[i]? = some (V.ref p) → Fr H p
  | _, _, _, _, _, .nil, e, _ => by cases e
  | _, _, 0, _, _, .val r t, e, _ => by cases e
  | _, _, 0, _, _, .own n nw h r ne t, _, e => by
    cases e
    exact n
  | _, _, i + 1, _, _, .val r t, e, e2 => NewL.free (i := i) t (by simpa using e) (by simpa using e2)
  | _, _, i + 1, _, _, .own n nw h r ne t, e, e2 => NewL.free (i := i) t (by simpa using e) (by simpa using e2)
theorem dm_val {es : List Expr} {u : DXM} (ha : DE X E a xa) (hr : DM X E es u) (hs : starEach (a :: es) X.env = (false, eval a X.env) :: starEach es X.env := by rfl) : DM X E (a :: es) (xmVal xa u) :=
  PA.to (pa_cons ha hr hs) fun σ H Q ⟨W, H0, ε, q, e, g, en, t, k, ke⟩ => ⟨W, H0, ε, _, e, g, en, t, fun W1 H1 v x x1 r1 t1 => ⟨W1, H0, ε, _, e, x1.good, en.ext x1, t1, fun W2 H2 vs ds x2 r2 t2 => k _ _ _ _ (x1.trans x2) (.val (r1.mono x2.le) (r2.back x1)) t2, ke.after x1⟩, ke⟩
theorem dm_own {es : List Expr} {u : DXM} {ta : DXA} (ha : DN X E a ta) (hr : DM X E es u) (hs : starEach (a :: es) X.env = (false, eval a X.env) :: starEach es X.env := by rfl) : DM X E (a :: es) (xmOwn ta u) :=
  PA.to (pa_cons ha hr hs) fun σ H Q ⟨W, H0, ε, q, e, g, en, t, k, ke⟩ => ⟨W, H0, ε, _, e, g, en, t, fun W1 H1 p us ds x1 n n1 h1 r1 t1 => ⟨W1, H0, ε, _, e, x1.good, en.ext x1, t1, fun W2 H2 vs xs x2 r2 t2 => by
    obtain ⟨n2, _, k2⟩ := x2.un _ _ h1 n1
    refine k _ _ _ _ (x1.trans x2) (.own n n2 (k2 fun ps z => by cases z) (r1.mono x2.le) (fun i ys hy hv => ?_) (r2.back x1)) t2
    obtain ⟨ps, z⟩ := r2.free hy hv _ h1
    exact (nomatch z), ke.after x1⟩, ke⟩
/-- the names' slots set, one by one -/
def setVs (ε : DEnv) : List Nat → List DV → DEnv
  | i :: is, x :: xs => setVs (setV ε i (some x)) is xs
  | _, _ => ε
def setSs (σ : L2.St) : List Nat → List V → L2.St
  | i :: is, v :: vs => setSs (σ.set i (some v)) is vs
  | _, _ => σ
theorem EnvR.setMany {K : PySem.W.Frag} {W : Wd} {H0 H H' : Hp} (h0 : ∀ p, Fr H p → Fr H0 p) : ∀ {σ : L2.St} {ε : DEnv} {vs : List V} {xs : List DV} (is : List Nat), EnvR K W.c H0 H' σ ε → NewL K W.c H H' vs xs →
    (∀ (j : Nat) (y : DV) (p : Addr) (m : Nat) (ys : List D), getV ε j = some y → y.mine = true → σ[j]? = some (some (.ref p)) → xs[m]? = some (DV.own ys) → vs[m]? ≠ some (V.ref p)) → EnvR K W.c H0 H' (setSs σ is vs) (setVs ε is xs)
  | σ, ε, _, _, [], en, t, _ => by
    cases t <;> exact en
  | σ, ε, _, _, i :: is, en, .nil, _ => en
  | σ, ε, _, _, i :: is, en, .val r t, hd => by
    refine EnvR.setMany h0 is (en.set i r) t fun j y p m ys hj my hs h1 => ?_
    rw [get_set] at hj
    rw [set_at] at hs
    by_cases e : j = i
    · rw [if_pos e] at hj
      split at hj
      · cases hj
        cases my
      · cases hj
    · rw [if_neg e] at hj hs
      have z := hd j y p (m + 1) ys hj my hs (by simpa using h1)
      simpa using z
  | σ, ε, _, _, i :: is, en, .own (p := p) (ds := ds) n nw h r ne t, hd => by
    refine EnvR.setMany h0 is (en.setG i (.own nw h r) fun _ => ⟨h0 _ n, fun j z nj hz mz u hu e => ?_⟩) t fun j y p2 m ys hj my hs h1 => ?_
    · subst e
      exact hd j z p 0 ds hz mz hu rfl rfl
    · rw [get_set] at hj
      rw [set_at] at hs
      by_cases e : j = i
      · rw [if_pos e] at hs
        split at hs
        · cases hs
          exact ne m ys h1
        · cases hs
      · rw [if_neg e] at hj hs
        have z := hd j y p2 (m + 1) ys hj my hs (by simpa using h1)
        simpa using z
theorem newL_apart {K : PySem.W.Frag} {W W' : Wd} {H0 H H' : Hp} {σ : L2.St} {ε : DEnv} {vs : List V} {xs : List DV} (en : EnvR K W.c H0 H σ ε) (t : NewL K W'.c H H' vs xs) : ∀ (j : Nat) (y : DV) (p : Addr) (m : Nat) (ys : List D), getV ε j = some y → y.mine = true → σ[j]? = some (some (.ref p)) → xs[m]? = some (DV.own ys) → vs[m]? ≠ some (V.ref p) := fun j y p m ys hj my hs h1 h2 => by
  have fr := t.free h1 h2
  cases y with
  | val d => cases my
  | own zs =>
    obtain ⟨a, us, e1, _, h, _⟩ := en.own hj
    rw [hs] at e1
    cases e1
    obtain ⟨ps, z⟩ := fr _ h
    cases z
  | ownO b B fs =>
    obtain ⟨dx, us, e1, _, h, _⟩ := en.ownO hj
    rw [hs] at e1
    cases e1
    obtain ⟨ps, z⟩ := fr _ h
    cases z
  | ownD kvs =>
    obtain ⟨a, us, e1, _, h, _⟩ := en.ownD hj
    rw [hs] at e1
    cases e1
    obtain ⟨ps, z⟩ := fr _ h
    cases z
def xsMany (is : List Nat) (t : DXM) : DXS := fun k ε => t ε (fun xs => xs.length = is.length ∧ k.nx (setVs ε is xs)) k.ex
theorem NewL.length {K : PySem.W.Frag} {cw : CW} {H H' : Hp} : ∀ {vs : List V} {xs : List DV}, NewL K cw H H' vs xs → vs.length = xs.length
  | _, _, .nil => rfl
  | _, _, .val _ t => congrArg (· + 1) t.length
  | _, _, .own _ _ _ _ _ t => congrArg (· + 1) t.length
theorem ds_par {i j : Nat} {u : DXM} (h : PS X st (tPar i j (dM X.K E u))) : DSt X E st (xsMany [i, j] u) :=
  PS.to h fun σ H M ⟨B, W0, H0, W, ε, k, le, x, en, h, R⟩ => ⟨W, H0, ε, _, _, x.good, en, h, fun W1 H1 vs xs x1 r ⟨len, hd⟩ => by
    have l := r.length
    rw [len] at l
    match vs, l with
    | [v, w], _ => exact ⟨v, w, rfl, R.nx _ _ _ _ (le.trans x1.le) (x.trans x1) ((en.ext x1).setMany (fun p f => x.free f) [i, j] r (newL_apart en r |> fun z => z)) hd⟩, R.ex.after x⟩
theorem ds_par3 {i j l : Nat} {u : DXM} (h : PS X st (tPar3 i j l (dM X.K E u))) : DSt X E st (xsMany [i, j, l] u) :=
  PS.to h fun σ H M ⟨B, W0, H0, W, ε, k, le, x, en, h, R⟩ => ⟨W, H0, ε, _, _, x.good, en, h, fun W1 H1 vs xs x1 r ⟨len, hd⟩ => by
    have ll := r.length
    rw [len] at ll
    match vs, ll with
    | [v, w, z], _ => exact ⟨v, w, z, rfl, R.nx _ _ _ _ (le.trans x1.le) (x.trans x1) ((en.ext x1).setMany (fun p f => x.free f) [i, j, l] r (newL_apart en r)) hd⟩, R.ex.after x⟩
def gNs : List Nat → TGs
  | [] => gNil
  | i :: is => gCons (gName i) (gNs is)
theorem gNs_run : ∀ (is : List Nat) (vs : List V) (σ : L2.St) (H : Hp) (Q : L2.St → Hp → Prop), vs.length = is.length → Q (setSs σ is vs) H → gNs is vs σ H Q
  | [], [], σ, H, Q, _, h => ⟨rfl, h⟩
  | i :: is, v :: vs, σ, H, Q, l, h => ⟨v, vs, rfl, gNs_run is vs _ H Q (by simpa using l) h⟩
  | [], v :: vs, _, _, _, l, _ => by cases l
  | i :: is, [], _, _, _, l, _ => by cases l
theorem NewL.later {K : PySem.W.Frag} {cw : CW} {H H1 H2 : Hp} (s : Same H1 H2) : ∀ {vs : List V} {xs : List DV}, NewL K cw H H1 vs xs → NewL K cw H H2 vs xs
  | _, _, .nil => .nil
  | _, _, .val r t => .val r (NewL.later s t)
  | _, _, .own n nw h r ne t => .own n nw (s _ _ h) r ne (NewL.later s t)
theorem ds_parN {is : List Nat} {u : DXM} (h : PS X st (tAsg (tTup (dM X.K E u)) (gTup X.K is.length (gNs is)))) (sz : is.length ≤ 1000) : DSt X E st (xsMany is u) :=
  PS.to h fun σ H M ⟨B, W0, H0, W, ε, k, le, x, en, h, R⟩ => ⟨W, H0, ε, _, _, x.good, en, h, fun W1 H1 vs xs x1 r ⟨len, hd⟩ => by
    have ll := r.length
    rw [len] at ll
    refine ⟨by rw [ll]; exact sz_of (by omega), fun p hp => ⟨p, vs, rfl, .inl (.inl upd_same), ll, gNs_run is vs _ _ _ ll ?_⟩⟩
    have x2 := x1.trans (.new x1.good (o := .tup vs) hp)
    have r2 := r.later (same_upd (o := .tup vs) hp)
    exact R.nx _ _ _ _ (le.trans x2.le) (x.trans x2) ((en.ext x2).setMany (fun p f => x.free f) is r2 (newL_apart en r2)) hd, R.ex.after x⟩
/-- a, b = e -/
def xsAsg (a : DX) (gx : GX) : DXS := fun k ε => a ε (fun d => gx d ε k.nx) k.ex
theorem ds_asg {g : TG} {gx : GX} {vs : List Nat} (h : PS X st (tAsg (dE X.K E xa) g)) (hg : GD X.K g gx vs) : DSt X E st (xsAsg xa gx) :=
  PS.to h fun σ H M ⟨B, W0, H0, W, ε, k, le, x, en, h, R⟩ => ⟨W, H0, ε, _, _, x.good, en, h, fun W1 H1 v d x1 r hd =>
    hg W1 H1 H0 v d σ ε _ _ x1.good r (en.ext x1) hd fun σ2 ε2 en2 _ h2 => R.nx _ _ _ _ (le.trans x1.le) (x.trans x1) en2 h2, R.ex.after x⟩
/-- a op= e, a a name, by an operation on known things -/
def xsAug (i : Nat) (f : F2) (a : DX) : DXS := fun k ε => match getV ε i with | some (.val x) => a ε (fun y => f x y (fun z => k.nx (setV ε i (some (.val z)))) k.ex) k.ex | _ => False
theorem ds_aug {i : Nat} {r : R2} {f : F2} (h : PS X st (tAug i (dE X.K E xa) r)) (hf : R2E X.K E r f) : DSt X E st (xsAug i f xa) :=
  PS.to h fun σ H M ⟨B, W0, H0, W, ε, k, le, x, en, h, R⟩ => by
    unfold xsAug at h
    split at h
    · rename_i d hd
      obtain ⟨v, e1, r1⟩ := en.val hd
      refine ⟨v, e1, W, H0, ε, _, _, x.good, en, h, fun W1 H1 u y x1 r2 h1 => ?_, R.ex.after x⟩
      exact hf W1 H1 v u d y _ _ _ x1.good (r1.mono x1.le) r2 h1 (fun W2 H2 z c x2 r3 h3 => R.nx _ _ _ _ ((le.trans x1.le).trans x2.le) ((x.trans x1).trans x2) (((en.ext x1).ext x2).set i r3) h3) (R.ex.after (x.trans x1))
    · exact h.elim
/-! #### texts -/
def xJoin (a b : DX) : DX := fun ε q e => a ε (fun x => match x with
  | .str z => b ε (fun y => ∃ ys : List Str, (y = .lst (ys.map D.str) ∨ y = .tup (ys.map D.str)) ∧ (ys.map (·.length)).sum + ys.length * z.length ≤ 16777216 ∧ q (.str (Txt.join z ys))) e
  | _ => False) e
theorem d_join {r : V → List V → Hp → VK → Prop} (hr : r = fun x xs H Q => ∃ a p, ∃ ys : List Str, x = .str a ∧ xs = [.ref p] ∧ (SqL X.K H p (ys.map V.str) ∨ SqT X.K H p (ys.map V.str)) ∧ (ys.map (·.length)).sum + ys.length * a.length ≤ 16777216 ∧ Q (.str (Txt.join a ys)) H)
    (h : PE X c (tM1 r (dV X.K E xa) (dV X.K E xb))) : DE X E c (xJoin xa xb) := by
  subst hr
  exact PE.to h fun σ H Q ⟨W, H0, ε, q, e, g, en, t, k, ke⟩ => ⟨W, H0, ε, _, e, g, en, t, fun W1 H1 v x x1 s1 t1 => by
    cases x with
    | str z =>
      rw [s1.str]
      refine ⟨⟨z, rfl⟩, W1, H0, ε, _, e, x1.good, en.ext x1, t1, fun W2 H2 u y x2 s2 ⟨ys, hy, sz, hq⟩ => ?_, ke.after x1⟩
      rcases hy with rfl | rfl
      · obtain ⟨p, us, rfl, h1, r⟩ := s2.lstAt x2.good
        rw [RepL.strs ys r] at h1
        exact ⟨z, p, ys, rfl, rfl, .inl (.inl (.inl h1)), sz, k _ _ _ _ (x1.trans x2) (.str _) hq⟩
      · obtain ⟨p, us, rfl, h1, r⟩ := s2.tup.tupAt x2.good
        rw [RepL.strs ys r] at h1
        exact ⟨z, p, ys, rfl, rfl, .inr h1, sz, k _ _ _ _ (x1.trans x2) (.str _) hq⟩
    | _ => exact t1.elim, ke⟩
/-- s.isalpha() and its like -/
def xSm (f : Str → Bool) (a : DX) : DX := fun ε q e => a ε (fun x => match x with | .str z => q (.bl (f z)) | _ => False) e
theorem d_sm {f : Str → Bool} {r : V → List V → Hp → VK → Prop} (hr : r = fun x xs H Q => ∃ a, x = .str a ∧ xs = [] ∧ True ∧ Q (.bl (f a)) H) (h : PE X c (tBM0 X.K "str" r (dV X.K E xa))) : DE X E c (xSm f xa) := by
  subst hr
  exact PE.to h fun σ H Q ⟨W, H0, ε, q, e, g, en, t, k, ke⟩ => ⟨W, H0, ε, _, e, g, en, t, fun W1 H1 v x x1 s1 t1 => by
    cases x with
    | str z =>
      rw [s1.str]
      exact ⟨rfl, z, rfl, rfl, trivial, k _ _ _ _ x1 (.bl _) t1⟩
    | _ => exact t1.elim, ke⟩
/-- f'..{e}..' -/
def xFmt (a : DX) : DX := fun ε q e => a ε (fun x => match x with | .str y => fit y.length ∧ q (.str y) | .int i => i.natAbs.log2 < 1920 ∧ q (.str (toString i)) | _ => False) e
theorem d_fmt (ha : DS X E a xa) : DE X E (.FormattedValue a (-1) none pos) (xFmt xa) :=
  PE.to (pe_fmt ha) fun σ H Q ⟨W, H0, ε, q, e, g, en, t, k, ke⟩ => ⟨W, H0, ε, _, e, g, en, t, fun W1 H1 v x x1 s1 t1 => by
    cases x with
    | str z =>
      rw [s1.str]
      exact .inl ⟨z, rfl, t1.1, k _ _ _ _ x1 (.str _) t1.2⟩
    | int i =>
      rw [s1.int]
      exact .inr ⟨i, rfl, t1.1, k _ _ _ _ x1 (.str _) t1.2⟩
    | _ => exact t1.elim, ke⟩
def xJs : List DX → Str → DX
  | [], acc => fun _ q _ => q (.str acc)
  | t :: ts, acc => fun ε q e => t ε (fun x => match x with | .str y => fit (acc ++ y).length ∧ xJs ts (acc ++ y) ε q e | _ => False) e
inductive DJ (X : Cx) (E : EX) : List Expr → List DX → Prop
  | nil : DJ X E [] []
  | cons {a : Expr} {t : DX} {es : List Expr} {ts : List DX} (h : DE X E a t) (r : DJ X E es ts) : DJ X E (a :: es) (t :: ts)
theorem DJ.pj {es : List Expr} {ts : List DX} (h : DJ X E es ts) : PJ X es (ts.map (dE X.K E)) := by
  induction h with
  | nil => exact .nil
  | cons h r ih => exact .cons h ih
theorem js_run {K : PySem.W.Frag} : ∀ (ts : List DX) (acc : Str) (W : Wd) (H0 : Hp) (ε : DEnv) (q : D → Prop) (e : Exc → Prop) (σ : L2.St) (H : Hp) (Q : Str → Hp → Prop), Good W H → EnvR K W.c H0 H σ ε → xJs ts acc ε q e → (∀ W' H' z, Ext W H W' H' → q (.str z) → Q z H') → KE K W H E e → tJs (ts.map (dE K E)) acc σ H Q
  | [], acc, W, H0, ε, q, e, σ, H, Q, g, en, h, k, ke => k W H acc (.refl g) h
  | t :: ts, acc, W, H0, ε, q, e, σ, H, Q, g, en, h, k, ke => ⟨W, H0, ε, _, e, g, en, h, fun W1 H1 v x x1 r1 t1 => by
    cases x with
    | str y =>
      cases r1
      exact ⟨y, rfl, t1.1, js_run ts (acc ++ y) W1 H0 ε q e σ H1 Q x1.good (en.ext x1) t1.2 (fun W2 H2 z x2 hz => k W2 H2 z (x1.trans x2) hz) (ke.after x1)⟩
    | _ => exact t1.elim, ke⟩
theorem d_joined {v1 v2 : Expr} {rest : List Expr} {ts : List DX} (h : DJ X E (v1 :: v2 :: rest) ts) : DE X E (.JoinedStr (v1 :: v2 :: rest) pos) (xJs ts Str.empty) :=
  PE.to (pe_joined h.pj) fun σ H Q ⟨W, H0, ε, q, e, g, en, t, k, ke⟩ => js_run ts Str.empty W H0 ε q e σ H _ g en t (fun W1 H1 z x1 hz => k _ _ _ _ x1 (.str z) hz) ke
theorem d_joined1 (h : DE X E a xa) : DE X E (.JoinedStr [a] pos) xa := pe_joined1 h
/-! #### x[::-1] -/
def xRev (a : DX) : DXA := fun ε q e => a ε (fun x => match x with | .lst xs => q xs.reverse | _ => False) e
theorem d_rev (h : PE X c (tRevL X.K (dV X.K E xa))) : DN X E c (xRev xa) :=
  PE.to h fun σ H Q ⟨W, H0, ε, q, e, g, en, t, k, ke⟩ => ⟨W, H0, ε, _, e, g, en, t, fun W1 H1 v x x1 s1 t1 => by
    cases x with
    | lst xs =>
      obtain ⟨p, us, rfl, h1, r⟩ := s1.lstAt x1.good
      exact ⟨p, us, rfl, .inl (.inl h1), fun l hl => (k.after x1).at x1.good hl r.reverse t1⟩
    | _ => exact t1.elim, ke⟩
/-! #### bool(x) -/
def fBool : DF := fun ds q _ => match ds with | [.int i] => q (.bl (i != 0)) | [.bl b] => q (.bl b) | [.tup xs] => q (.bl (!xs.isEmpty)) | _ => False
def rBoolU (K : PySem.W.Frag) : List V → Hp → VK → Prop := fun xs H Q => ((∃ i, xs = [V.int i] ∧ Q (.bl (i != 0)) H) ∨ ∃ k, xs = [V.bl k] ∧ Q (.bl k) H) ∨ ∃ (a : Addr) (zs : List V), xs = [.ref a] ∧ SqT K H a zs ∧ Q (.bl (!zs.isEmpty)) H
theorem o_bool : CallR X (.type "bool") (rBoolU X.K) := CallR.or call_bool1 call_boolT
theorem f_bool {K : PySem.W.Frag} : RCD K E (rBoolU K) fBool := fun W H vs xs Q q e g r h k ke => by
  unfold fBool at h
  split at h
  · obtain ⟨v, rfl, s⟩ := r.one
    exact .inl (.inl ⟨_, by rw [s.int], k.here g (.bl _) h⟩)
  · obtain ⟨v, rfl, s⟩ := r.one
    exact .inl (.inr ⟨_, by rw [s.bl], k.here g (.bl _) h⟩)
  · obtain ⟨v, rfl, s⟩ := r.one
    obtain ⟨a, us, rfl, e1, r1⟩ := s.tup.tupAt g
    exact .inr ⟨a, us, rfl, e1, by rw [r1.isEmpty]; exact k.here g (.bl _) h⟩
  · exact h.elim
def fBoolO (C : Addr) (s : DF) : DF := fun ds q _ => match ds with | [.obj B fs] => B = C ∧ s [.obj B fs] (asBl fun b => q (.bl b)) NoX | _ => False
theorem f_boolO {K : PySem.W.Frag} {E' : XK} : RCE K E (rBoolO C (toSp0 K E.T s) E') (fBoolO C s) := fun W H vs xs Q q e g r h k ke => by
  unfold fBoolO at h
  split at h
  · obtain ⟨rfl, h⟩ := h
    cases r with
    | cons r1 rn =>
      cases rn
      obtain ⟨a, rfl, i⟩ := r1.insAt g
      exact ⟨a, rfl, i, W, _, _, g, .cons r1 .nil, h, asBl_at (f := id) k, ke.1⟩
  · exact h.elim
end
end DL
-- CUT
/-! ### sets that are sorted at once; lambdas handed to a def that catches -/
namespace DL
open PySem PySem.Spec PyProof.Rows L2 Kit
/-- what stands at places: known tuples -/
theorem refs_of {K : PySem.W.Frag} {W : Wd} {β : Type} (enc : β → List D) : ∀ (zs : List β) {vs : List V}, RepL K W.c vs (zs.map fun z => D.tup (enc z)) → ∃ L : List (Addr × β), vs = L.map (fun p => V.ref p.1) ∧ L.map Prod.snd = zs ∧ ∀ p ∈ L, Rep K W.c (.ref p.1) (.tup (enc p.2))
  | [], _, .nil => ⟨[], rfl, rfl, fun p hp => by cases hp⟩
  | z :: zs, _, .cons h r => by
    obtain ⟨L, e1, e2, h3⟩ := refs_of enc zs r
    obtain ⟨a, us, rfl, _, _⟩ := h.tupOf
    refine ⟨(a, z) :: L, by rw [e1]; rfl, by rw [List.map_cons, e2], fun p hp => ?_⟩
    rcases List.mem_cons.mp hp with rfl | hp
    · exact h
    · exact h3 p hp
theorem refs_rep {K : PySem.W.Frag} {cw : CW} {β : Type} (enc : β → List D) : ∀ (L : List (Addr × β)), (∀ p ∈ L, Rep K cw (.ref p.1) (.tup (enc p.2))) → RepL K cw (L.map fun p => V.ref p.1) ((L.map Prod.snd).map fun z => D.tup (enc z))
  | [], _ => .nil
  | p :: L, h => .cons (h p (List.mem_cons_self ..)) (refs_rep enc L fun q hq => h q (List.mem_cons_of_mem _ hq))
/-- us are what zs are, each once, in the order of the language -/
structure Asc {β : Type} (dat : β → PyData) (us zs : List β) : Prop where
  asc : us.Pairwise fun a b => PySem.W.dataLe false dat a b = true
  one : us.Nodup
  mem : ∀ k, k ∈ us ↔ k ∈ zs
theorem allAlike_sub {xs ys : List PyData} (h : PySem.W.AllAlike ys) (s : ∀ x ∈ xs, x ∈ ys) : PySem.W.AllAlike xs := fun d hd d' hd' => h d (s d hd) d' (s d' hd')
section
variable {X : Cx} {E : EX} {c e : Expr} {xa : DX} {t : DXA} {pos : Pos}
/-- sorted(set(x)), x a list or a tuple of tuples that are keys -/
def xSortSet {β : Type} (enc : β → List D) (dat : β → PyData) (a : DX) : DXA := fun ε q e => a ε (fun x => ∃ zs : List β, (x = .lst (zs.map fun z => D.tup (enc z)) ∨ x = .tup (zs.map fun z => D.tup (enc z))) ∧ zs.length < 64 ∧
  PySem.W.AllAlike (zs.map dat) ∧ (∀ us : List β, (∀ u ∈ us, u ∈ zs) → PySem.W.Sortable (us.map dat)) ∧ ∀ us, Asc dat us zs → q (us.map fun z => D.tup (enc z))) e
theorem d_sortSet {β : Type} {enc : β → List D} {key : β → NestedKey} {w : World} (hw : w = X.w) (hp : ∀ z, (D.tup (enc z)).py = some (key z).data) (hd : ∀ z, (key z).depth ≤ 8 ∧ (key z).data.depth ≤ 60)
    (h : PE X c (tCB (NB.rSortN key X.K w) (tCons (tCB (NB.rSetN key X.K w) (tCons (dV X.K E xa) tNil)) tNil))) : DN X E c (xSortSet enc (fun z => (key z).data) xa) := by
  refine PE.to h fun σ H Q ⟨W, H0, ε, q, e, g, en, t, k, ke⟩ => ⟨W, H0, ε, _, e, g, en, t, fun W1 H1 v x x1 s1 ⟨zs, hx, h64, al, so, hq⟩ => ?_, ke⟩
  have go : ∀ (l : Addr) (vs : List V), v = .ref l → (SqT X.K H1 l vs ∨ SqL X.K H1 l vs) → RepL X.K W1.c vs (zs.map fun z => D.tup (enc z)) → NB.rSetN key X.K w [v] H1 fun x H2 => NB.rSortN key X.K w [x] H2 Q := fun l vs e1 h1 r => by
    obtain ⟨L, rfl, l2, l3⟩ := refs_of enc zs r
    have len : L.length = zs.length := by rw [← l2, List.length_map]
    refine ⟨l, L, by rw [e1], h1, fun p hp' => ⟨rep_dp x1.good _ _ _ (l3 p hp') (hp _), (hd _).1⟩, by omega, fun p N hp' n1 n2 n3 => ?_⟩
    have x2 : Ext W1 H1 W1 (upd H1 p (NB.KO w p (N.map fun p => (p.1, key p.2)))) := .new x1.good hp'
    have inz : ∀ y ∈ N, y.2 ∈ zs := fun y hy => by
      rw [← l2]
      exact List.mem_map.mpr ⟨y, n1 y hy, rfl⟩
    refine ⟨p, N, rfl, upd_same, fun y hy => ⟨rep_dp x2.good _ _ _ (l3 y (n1 y hy)) (hp _), (hd _).1, (hd _).2⟩, allAlike_sub al fun d hd => ?_, ?_, fun L' p2 pm nd pw hp2 => ?_⟩
    · obtain ⟨y, hy, rfl⟩ := List.mem_map.mp hd
      exact List.mem_map.mpr ⟨y.2, inz y hy, rfl⟩
    · have z := so (N.map Prod.snd) fun u hu => by
        obtain ⟨y, hy, rfl⟩ := List.mem_map.mp hu
        exact inz y hy
      rw [List.map_map] at z
      exact z
    · refine (k.after (x1.trans x2)).at x2.good hp2 (refs_rep enc L' fun y hy => l3 y (n1 y (pm.mem_iff.mp hy))) (hq _ ⟨List.pairwise_map.mpr pw, nd, fun k => ?_⟩)
      constructor
      · intro hk
        obtain ⟨y, hy, rfl⟩ := List.mem_map.mp hk
        exact inz y (pm.mem_iff.mp hy)
      · intro hk
        rw [← l2] at hk
        obtain ⟨y, hy, rfl⟩ := List.mem_map.mp hk
        exact (pm.map Prod.snd).mem_iff.mpr (n2 y hy)
  rcases hx with rfl | rfl
  · obtain ⟨a, us, rfl, h1, r⟩ := s1.lstAt x1.good
    exact go a us rfl (.inr (.inl (.inl h1))) r
  · obtain ⟨a, us, rfl, h1, r⟩ := s1.tup.tupAt x1.good
    exact go a us rfl (.inl h1) r
/-- sorted(x), x a list or a tuple of data: pairs of a thing and its data -/
def xSorted (t : DXA) : DXA := fun ε q e => t ε (fun ds => match ds with
  | [.lst xs] => (∃ ps : List PyData, D.pys xs = some ps ∧ PyData.depthAll ps ≤ 60 ∧ PySem.W.AllAlike ps ∧ PySem.W.Sortable ps ∧ ∀ L : List (D × PyData), L.map Prod.fst = xs → L.map Prod.snd = ps → q ((L.mergeSort (PySem.W.dataLe false Prod.snd)).map Prod.fst))
  | [.tup xs] => (∃ ps : List PyData, D.pys xs = some ps ∧ PyData.depthAll ps ≤ 60 ∧ PySem.W.AllAlike ps ∧ PySem.W.Sortable ps ∧ ∀ L : List (D × PyData), L.map Prod.fst = xs → L.map Prod.snd = ps → q ((L.mergeSort (PySem.W.dataLe false Prod.snd)).map Prod.fst))
  | _ => False) e
/-! #### lambdas -/
/-- the clauses of a def that catches: each gives a constant -/
inductive MetH (sg : Scope) (mg : Str → Option Value) : List ExceptHandler → List (Addr × V) → Prop
  | nil : MetH sg mg [] []
  | cons {y : Str} {C : Addr} {v : V} {ec : Expr} {hs : List ExceptHandler} {l : List (Addr × V)} {p1 p2 p3 : Pos} (hg : sg.names.lookup y = some .globalImplicit) (hm : mg y = some (.ref C)) (hd : (y == ("__debug__" : Str)) = false) (hv : ∀ X : Cx, PE X ec (tC v)) (r : MetH sg mg hs l) :
      MetH sg mg (.ExceptHandler (some (.Name y p1)) none [.Return (some ec) p2] p3 :: hs) ((C, v) :: l)
def wMet (K : PySem.W.Frag) : List (Addr × V) → Value → Hp → VK → Prop
  | [], _, _, _ => False
  | m :: l, cls, H, Q => ∃ b, PySem.W.exmOne K cls (.ref m.1) = some b ∧ (b = true → Q m.2 H) ∧ (b = false → wMet K l cls H Q)
def TTmet (K : PySem.W.Frag) (l : List (Addr × V)) (v0 : V) : (XK → Hp → VK → Prop) → Hp → VK → Prop := fun tl H Q => tl (fun cls _ H' => wMet K l cls H' Q) H (fun _ H' => Q v0 H')
def clas (l : List (Addr × V)) : List Cla := l.map fun m => ⟨.ref m.1, none, fun _ _ _ => tRet (tC m.2)⟩
theorem met_ok {X : Cx} {hs : List ExceptHandler} {l : List (Addr × V)} (h : MetH X.env.scope X.mg hs l) : MixOk X hs (clas l) := by
  induction h with
  | nil => exact .nil
  | cons hg hm hd hv r ih => exact .one ⟨hg, hd, .inl hm⟩ (fun a oe cls d pn _ _ => pss_one (ps_ret (hv _))) ih
theorem met_wish {K : PySem.W.Frag} {D : Ends} {Q : VK} (hD : D.rt = Q) : ∀ (l : List (Addr × V)) (cls : Value) (d : Option Addr) (σ : L2.St) (H : Hp), wMet K l cls H Q → wMix K (fun _ _ _ _ => False) D (clas l) cls d σ H
  | [], _, _, _, _, h => h.elim
  | m :: l, cls, d, σ, H, ⟨b, e1, h1, h2⟩ => ⟨b, e1, fun hb a _ => by
      show D.rt m.2 H
      rw [hD]
      exact h1 hb, fun hb => met_wish hD l cls d σ H (h2 hb)⟩
theorem met_mix {Ng : List Str} {x a q : Str} {sg : Scope} {g : Addr} {cdg : Value} {bg : List Stmt} {hs : List ExceptHandler} {h0 : ExceptHandler} {l : List (Addr × V)} {v0 : V} {ec : Expr} {p1 p2 p3 p8 p9 : Pos}
    (eb : bg = [.Try [.Expr (.Call (.Name a p1) [] [] p2) p3] (h0 :: hs) [] [] p8, .Return (some ec) p9]) (nd : Ng.Nodup) (hh : MetH sg X.mg (h0 :: hs) l) (hv : ∀ X : Cx, PE X ec (tC v0)) (hN : ∀ f : Addr, (L2.start Ng [V.ref f])[0]? = some (some (V.ref f))) : LamX.GivesTo X Ng x sg g cdg bg a q (TTmet X.K l v0) := by
  intro f c' s H Q tl act hc h
  subst eb
  have mo : MixOk (cxOf C8.CX0 X.prog X.w X.K X.mg X.base Ng x sg g cdg X.A X.stack s H C8.E0).nox (h0 :: hs) (clas l) := met_ok hh
  refine ⟨_, pss_cons (ps_try_mix (X := (cxOf C8.CX0 X.prog X.w X.K X.mg X.base Ng x sg g cdg X.A X.stack s H C8.E0).nox)
      (tb := fun W D σ H => ∃ Ech : XK, (∀ cls d σ' H', Ech cls d H' → W cls d σ' H') ∧ σ[0]? = some (some (.ref f)) ∧ H c' = some (LamX.CodeO c' q) ∧ tl Ech H fun _ H' => D.nx σ H')
      rfl rfl nd LamX.takes0 (fun W pn xe tk _ => ?_) mo) (pss_one (ps_ret (hv _))), ?_⟩
  · refine ⟨fun pins s' σ H' D I h' => ?_⟩
    obtain ⟨Ech, hW, h1, h2, h3⟩ := h'
    exact (pss_one (ps_expr (pos := p3) (act W pn xe Ech p1 p2 tk hW))).run pins s' σ H' D I ⟨h1, h2, h3⟩
  · exact ⟨fun cls _ H' => wMet X.K l cls H' Q, fun cls d σ' H' w => met_wish rfl l cls d σ' H' w, hN f, hc, h⟩
end
end DL
-- CUT
/-! ### the rest of the rules that derivations name -/
namespace DL
open PySem PySem.Spec PyProof.Rows L2 Kit
section
variable {X : Cx} {E : EX} {c e a b : Expr} {st : Stmt} {xa xb xc : DX} {t : DXA} {pos : Pos} {C : Addr} {s : DF}
theorem d_lc {ix : DXA} {g : TG} {gx : GX} {ct : DXT} {vs : List Nat} (h : PE X c (tLc (dIS X.K E ix) g (dT X.K ⟨E0, E.T⟩ ct) (dE X.K ⟨E0, E.T⟩ xa) vs)) (hg : GD X.K g gx vs) : DN X E c (xLc ix gx ct xa vs) := PE.to h (lc_ok hg)
theorem asg_to {t t' : TE} {g : TG} (h : PS X st (tAsg t g)) (f : ∀ σ H Q, t' σ H Q → t σ H Q) : PS X st (tAsg t' g) := PS.to h fun σ H M q => f σ H _ q
theorem ds_setLc {i : Nat} {ix : DXA} {g : TG} {gx : GX} {ct : DXT} {vs : List Nat} (h : PS X st (tAsg (tLc (dIS X.K E ix) g (dT X.K ⟨E0, E.T⟩ ct) (dE X.K ⟨E0, E.T⟩ xa) vs) (gName i))) (hg : GD X.K g gx vs) : DSt X E st (xsSet i (xList (xLc ix gx ct xa vs))) :=
  ds_set (asg_to h fun σ H Q q => lc_ok hg σ H Q (by
    obtain ⟨W, H0, ε, q, e, g, en, t, k, ke⟩ := q
    exact ⟨W, H0, ε, _, e, g, en, t, KQ.kn k, ke⟩))
theorem ds_ownLc {i : Nat} {ix : DXA} {g : TG} {gx : GX} {ct : DXT} {vs : List Nat} (h : PS X st (tAsg (tLc (dIS X.K E ix) g (dT X.K ⟨E0, E.T⟩ ct) (dE X.K ⟨E0, E.T⟩ xa) vs) (gName i))) (hg : GD X.K g gx vs) : DSt X E st (xsOwn i (xLc ix gx ct xa vs)) :=
  ds_own (asg_to h (lc_ok hg))
theorem dts_one {xt : DXT} (h : DT X E c xt) : PTs X [c] (dT X.K E xt) := pts_one h
theorem dt_chain {op op' : CmpOp} {r r' : R2} {f f' : F2} (ho : OpR X (compareOp op) r) (ho' : OpR X (compareOp op') r') (hf : R2D X.K E r f) (hf' : R2D X.K E r' f') (ha : DS X E a xa) (hb : DS X E b xb) (hc : DS X E c xc)
    (h : PT X (.Compare a [op, op'] [b, c] pos) (tTest (tChain r r' (dV X.K E xa) (dV X.K E xb) (dV X.K E xc)))) : DT X E (.Compare a [op, op'] [b, c] pos) (xtVal (xChain f f' xa xb xc)) :=
  PT.to h fun σ H Q ⟨W, H0, ε, q, e, g, en, t, k, ke⟩ => ⟨W, H0, ε, _, e, g, en, t, fun W1 H1 v x x1 s1 t1 => ⟨W1, H0, ε, _, e, x1.good, en.ext x1, t1, fun W2 H2 u y x2 s2 t2 =>
    hf W2 H2 v u x y _ _ e x2.good (s1.ext x2) s2 t2 (fun W3 H3 w d x3 r3 h3 => by
      cases d with
      | bl z =>
        cases r3
        refine ⟨z, rfl, ?_⟩
        cases z with
        | false => exact iteF ⟨false, rfl, k _ _ _ ((x1.trans x2).trans x3) h3⟩
        | true =>
          refine iteT ⟨W3, H0, ε, _, e, x3.good, ((en.ext x1).ext x2).ext x3, h3, fun W4 H4 p d4 x4 s4 t4 => ?_, ke.after ((x1.trans x2).trans x3)⟩
          exact hf' W4 H4 u p y d4 _ _ e x4.good (s2.ext (x3.trans x4)) s4 t4 (fun W5 H5 w5 d5 x5 r5 h5 => by
            cases d5 with
            | bl z5 =>
              cases r5
              exact ⟨z5, rfl, k _ _ _ (((x1.trans x2).trans x3).trans (x4.trans x5)) h5⟩
            | _ => exact h5.elim) (ke.after ((x1.trans x2).trans (x3.trans x4)))
      | _ => exact h3.elim) (ke.after (x1.trans x2)), ke.after x1⟩, ke⟩
/-- // -/
def fFdiv : F2 := fun x y q _ => match x, y with | .int i, .int j => CDivW i j ∧ q (.int (i / j)) | _, _ => False
theorem o_fdiv : OpR X (binaryOp .FloorDiv) (rI CDivW fun i j => .int (i / j)) := op_fdivW
theorem f_fdiv {K : PySem.W.Frag} : R2D K E (rI CDivW fun i j => .int (i / j)) fFdiv := fun W H v u x y Q q e g s1 s2 h k ke => by
  unfold fFdiv at h
  split at h
  · rw [s1.int, s2.int]
    exact ⟨_, _, rfl, rfl, h.1, k.here g (.int _) h.2⟩
  · exact h.elim
def fNeg : F1 := fun x q _ => match x with | .int i => q (.int (-i)) | _ => False
theorem f_neg {K : PySem.W.Frag} : R1D K E (rU fun i => .int (-i)) fNeg := fun W H v x Q q e g s1 h k ke => by
  unfold fNeg at h
  split at h
  · rw [s1.int]
    exact ⟨_, rfl, k.here g (.int _) h⟩
  · exact h.elim
/-- a slice of a list, nobody else's -/
def xnSl (a : DX) (lo hi : DXO) : DXA := fun ε q e => a ε (fun x => lo ε (fun l => hi ε (fun u => match x with | .lst xs => q (cutD xs l u) | _ => False) e) e) e
theorem n_sl {lo hi : Option Expr} {xl xh : DXO} {p2 : Pos} (ha : DS X E e xa) (hl : PO X lo (dO X.K E xl)) (hh : PO X hi (dO X.K E xh)) : DN X E (.Subscript e (.Slice lo hi none p2) pos) (xnSl xa xl xh) :=
  PE.to (pe_slice sl_list ha hl hh) fun σ H Q ⟨W, H0, ε, q, e, g, en, t, k, ke⟩ => ⟨W, H0, ε, _, e, g, en, t, fun W1 H1 v x x1 s1 t1 => ⟨W1, H0, ε, _, e, x1.good, en.ext x1, t1, fun W2 H2 l x2 t2 => ⟨W2, H0, ε, _, e, x2.good, (en.ext x1).ext x2, t2, fun W3 H3 u x3 t3 => by
    cases x with
    | lst xs =>
      obtain ⟨p, us, rfl, h1, r⟩ := ((s1.ext x2).ext x3).lstAt x3.good
      exact ⟨p, us, rfl, .inl (.inl h1), fun l hl => (k.after ((x1.trans x2).trans x3)).at x3.good hl (r.cut _ _) t3⟩
    | _ => exact t3.elim, ke.after (x1.trans x2)⟩, ke.after x1⟩, ke⟩
/-- the sign of an own class that lets no error out -/
def fBinO0 (C : Addr) (s : DF) : F2 := fun x y q _ => fBinO C s x y q NoX
theorem f_binO0 {K : PySem.W.Frag} {E' : XK} (hC : IsC K C) : R2E K E (rBinO K C (toSp0 K E.T s) E') (fBinO0 C s) := fun W H v u x y Q q e g r1 r2 h k ke => by
  unfold fBinO0 fBinO at h
  split at h
  · obtain ⟨rfl, rfl, h⟩ := h
    obtain ⟨a, rfl, i⟩ := r1.insAt g
    obtain ⟨b, rfl, i2⟩ := r2.insAt g
    obtain ⟨dx, fs, e2⟩ := id i2
    refine ⟨a, b, rfl, rfl, i, hC.ty e2, W, _, _, g, .cons r1 (.cons r2 .nil), h, fun W1 H1 v d x r h => ?_, ke.1⟩
    cases d with
    | obj =>
      have r' := r
      cases r with
      | obj => exact ⟨_, rfl, k _ _ _ _ x r' h.2⟩
    | tup =>
      have r' := r
      cases r with
      | tup => exact ⟨_, rfl, k _ _ _ _ x r' h.2⟩
    | lst =>
      have r' := r
      cases r with
      | lst => exact ⟨_, rfl, k _ _ _ _ x r' h.2⟩
    | _ => exact h.1.elim
  · exact h.elim
/-! #### x(lambda: body), x a def that catches -/
/-- the kinds of errors that the clauses tell apart: the error's class, the clause's class, whether it catches it -/
abbrev Tab := List (Value × Addr × Bool)
def metD (tab : Tab) : List (Addr × D) → (D → Prop) → Exc → Prop
  | [], _, _ => False
  | m :: l, q, z => ∃ b, (z.1, m.1, b) ∈ tab ∧ ifB b (q m.2) (metD tab l q z)
def xMet (tab : Tab) (l : List (Addr × D)) (v0 : D) (a : DX) : DX := fun ε q _ => a ε (fun _ => q v0) (metD tab l q)
/-- a constant as a thing -/
def cD : V → D
  | .non => .non
  | .bl b => .bl b
  | .int i => .int i
  | .str x => .str x
  | v => .raw v
theorem rep_c (K : PySem.W.Frag) (cw : CW) (v : V) : Rep K cw v (cD v) := by
  cases v with
  | non => exact .non
  | bl b => exact .bl b
  | int i => exact .int i
  | str x => exact .str x
  | _ => exact .raw _
theorem met_told {K : PySem.W.Frag} {tab : Tab} (ht : ∀ p ∈ tab, PySem.W.exmOne K p.1 (.ref p.2.1) = some p.2.2) {W : Wd} {H : Hp} {Q : VK} {q : D → Prop} (k : KQ K W H Q q) : ∀ (l : List (Addr × V)) {W' : Wd} {H' : Hp} {x : Value} {d : Option Addr} {z : Exc}, Ext W H W' H' → XRep K W'.c H' x d z → metD tab (l.map fun m => (m.1, cD m.2)) q z → wMet K l x H' Q
  | [], _, _, _, _, _, _, _, h => h.elim
  | m :: l, W', H', x, d, z, e, r, ⟨b, mb, h⟩ => by
    have hz : z.1 = x := by cases r <;> rfl
    refine ⟨b, by rw [← hz]; exact ht _ mb, fun hb => ?_, fun hb => ?_⟩
    · subst hb
      exact k _ _ _ _ e (rep_c K _ _) h
    · subst hb
      exact met_told ht k l e r h
theorem d_met {tab : Tab} {l : List (Addr × V)} {v0 : V} {x a : Str} {g cb P : Addr} {k : Nat} {st : Stmt} {gd : FuncData} {Ng : List Str} {params : Arguments} {body : Expr} {scope : Scope} {p lpos : Pos} (F : Fun X.K x x st g gd) (Sg : FnScope Ng [a] (defScope st)) (hb : L2.Binds X.K gd [a] [])
    (hG : ∀ cdg, LamX.GivesTo X Ng x (defScope st) g cdg (defBody st) a (X.env.qual ++ "<lambda>") (TTmet X.K l v0)) (hm : X.mg x = some (.ref g)) (TB : LamX.TabB X.base X.mg cb P) (hmT : (P, X.env.qual ++ "<lambda>") ∈ E.T) (hu : ∀ p ∈ E.T, p.1 = P → p.2 = X.env.qual ++ "<lambda>") (hr : Room (k + 2) X.A)
    (ht : ∀ p ∈ tab, PySem.W.exmOne X.K p.1 (.ref p.2.1) = some p.2.2)
    (hbody : ∀ (A : Around) (outer : List Env) (s : Shared) (H : Hp) (E' : XK) (f c' : Addr), Room k (A.deeper (LamX.lamEnv X scope s.heap.objs.size f c')) → PE (LamX.lamCx X A outer s H E' scope f c') body (dE X.K ⟨E', E.T⟩ xa))
    (hcode : X.env.code = .ref cb := by rfl) (L : LamX.LamS X.env.scope scope := by exact LamX.lamS_by (by decide +kernel)) (hdef : defaultsOf params X.env = ([], []) := by rfl)
    (hbind : ∀ (q : Str) (cl : List (Str × Addr)) (pm cv ctv : Value), bindArgs (PySem.W.kla_fn "<lambda>" q params body scope cl pm cv ctv) ⟨[], []⟩ = pure [] := by intros; rfl) (hNg : Ng[0]? = some a := by rfl) (hva : Vis (defScope st) a := by first | exact Or.inl rfl | exact Or.inr (Or.inl rfl)) (hg : Gl X x := by rfl)
    (hdb : (x == ("__debug__" : Str)) = false := by decide) (hd : (a == ("__debug__" : Str)) = false := by decide) (hcd : (a == ("__classdict__" : Str)) = false := by decide) :
    DE X E (.Call (.Name x p) [.Lambda params body scope lpos] [] pos) (xMet tab (l.map fun m => (m.1, cD m.2)) (cD v0) xa) := by
  obtain ⟨oc, od, kV, doc, pm, an, cdv, ct, sl, rfl, lk, hc⟩ := F.ex
  refine PE.to (LamX.pe_lamcall (T := E.T) hg hm F.kp lk hc hb Sg hNg hva (hG cdv) TB hcode hmT hu hr L hdef hbind hbody hdb hd hcd) fun σ H Q ⟨W, H0, ε, q, e, gg, en, t, k, ke⟩ => ?_
  refine ⟨by rw [← ke.1]; exact gg.tab, fun H1 s1 tb => ?_⟩
  have x0 : Ext W H W H1 := .sameN gg s1 (by rw [ke.1]; exact tb)
  exact ⟨W, H0, ε, _, _, x0.good, en.ext x0, t, fun W1 H2 v d x1 r hq => k _ _ _ _ (x0.trans x1) (rep_c _ _ _) hq, ke.1, fun W1 H2 cls d z x1 r hz => met_told ht k l (x0.trans x1) r hz⟩
end
section
variable {P : Program} {w : World} {K : PySem.W.Frag} {mg : Str → Option Value} {base : Heap}
/-- a def that makes lambdas -/
theorem okDGC {T : List (Addr × Str)} {x qual : Str} {st : Stmt} {f cb : Addr} {fd : FuncData} {N ps : List Str} {k : Nat} {s : DF} {n : Nat} {t : DXS} (F : FunC K x qual st f fd cb) (S : FnScope N ps (defScope st)) (hn : N.length = ps.length + n) (len : ∀ ds q e, s ds q e → ds.length = ps.length)
    (body : ∀ (A : Around) (outer : List Env) (s : Shared) (H : Hp) (E : XK), A.guards = some [] → Room k (A.deeper (envOfC qual (defScope st) s.heap.objs.size f (.ref cb))) → DSs (cxOf CX0 P w K mg base N qual (defScope st) f (.ref cb) A outer s H E).nox ⟨E0, T⟩ (defBody st) t)
    (h : ∀ ds q, s ds q NoX → t (endK q NoX) (startD n ds)) : FnG P w K mg base CX0 (k + 1) f fd ps (toSp0 K T s) :=
  okGC F S (toSp0_len len) fun A outer sh H vs Q E gu hr ⟨W, ds, q, g, r, hs, hk, hT⟩ => ⟨_, body A outer sh H E gu hr, W.c, W, H, W, startD n ds, endK q NoX, .refl _, .refl g, start_env r (by rw [hn, len _ _ _ hs]), h ds q hs,
    fun W1 H1 σ ε l x en hq => hk W1 H1 .non .non x .non hq, fun _ _ _ _ _ _ _ z => z.elim, fun _ _ _ _ _ _ _ z => z.elim, fun W1 H1 v d x r hq => hk W1 H1 v d x r hq, .no hT⟩
/-! #### promises by the number of arguments -/
abbrev sp0 (f : (D → Prop) → (Exc → Prop) → Prop) : DF := fun ds q e => match ds with | [] => f q e | _ => False
abbrev sp1 (f : D → (D → Prop) → (Exc → Prop) → Prop) : DF := fun ds q e => match ds with | [a] => f a q e | _ => False
abbrev sp2 (f : D → D → (D → Prop) → (Exc → Prop) → Prop) : DF := fun ds q e => match ds with | [a, b] => f a b q e | _ => False
abbrev sp3 (f : D → D → D → (D → Prop) → (Exc → Prop) → Prop) : DF := fun ds q e => match ds with | [a, b, c] => f a b c q e | _ => False
abbrev sp4 (f : D → D → D → D → (D → Prop) → (Exc → Prop) → Prop) : DF := fun ds q e => match ds with | [a, b, c, d] => f a b c d q e | _ => False
abbrev sp5 (f : D → D → D → D → D → (D → Prop) → (Exc → Prop) → Prop) : DF := fun ds q e => match ds with | [a, b, c, d, g] => f a b c d g q e | _ => False
theorem sp1_len {f} : ∀ ds q e, sp1 f ds q e → ds.length = 1 := fun ds q e h => by
  unfold sp1 at h
  split at h
  · rfl
  · exact h.elim
theorem sp2_len {f} : ∀ ds q e, sp2 f ds q e → ds.length = 2 := fun ds q e h => by
  unfold sp2 at h
  split at h
  · rfl
  · exact h.elim
theorem sp3_len {f} : ∀ ds q e, sp3 f ds q e → ds.length = 3 := fun ds q e h => by
  unfold sp3 at h
  split at h
  · rfl
  · exact h.elim
theorem sp4_len {f} : ∀ ds q e, sp4 f ds q e → ds.length = 4 := fun ds q e h => by
  unfold sp4 at h
  split at h
  · rfl
  · exact h.elim
theorem sp5_len {f} : ∀ ds q e, sp5 f ds q e → ds.length = 5 := fun ds q e h => by
  unfold sp5 at h
  split at h
  · rfl
  · exact h.elim
theorem sp1_by {f} {R : List D → (D → Prop) → (Exc → Prop) → Prop} (h : ∀ a q e, f a q e → R [a] q e) : ∀ ds q e, sp1 f ds q e → R ds q e := fun ds q e z => by
  unfold sp1 at z
  split at z
  · exact h _ _ _ z
  · exact z.elim
theorem sp2_by {f} {R : List D → (D → Prop) → (Exc → Prop) → Prop} (h : ∀ a b q e, f a b q e → R [a, b] q e) : ∀ ds q e, sp2 f ds q e → R ds q e := fun ds q e z => by
  unfold sp2 at z
  split at z
  · exact h _ _ _ _ z
  · exact z.elim
theorem sp3_by {f} {R : List D → (D → Prop) → (Exc → Prop) → Prop} (h : ∀ a b c q e, f a b c q e → R [a, b, c] q e) : ∀ ds q e, sp3 f ds q e → R ds q e := fun ds q e z => by
  unfold sp3 at z
  split at z
  · exact h _ _ _ _ _ z
  · exact z.elim
theorem sp4_by {f} {R : List D → (D → Prop) → (Exc → Prop) → Prop} (h : ∀ a b c d q e, f a b c d q e → R [a, b, c, d] q e) : ∀ ds q e, sp4 f ds q e → R ds q e := fun ds q e z => by
  unfold sp4 at z
  split at z
  · exact h _ _ _ _ _ _ z
  · exact z.elim
theorem sp5_by {f} {R : List D → (D → Prop) → (Exc → Prop) → Prop} (h : ∀ a b c d g q e, f a b c d g q e → R [a, b, c, d, g] q e) : ∀ ds q e, sp5 f ds q e → R ds q e := fun ds q e z => by
  unfold sp5 at z
  split at z
  · exact h _ _ _ _ _ _ _ z
  · exact z.elim
theorem sp1_by0 {f} {R : List D → (D → Prop) → Prop} (h : ∀ a q, f a q NoX → R [a] q) : ∀ ds q, sp1 f ds q NoX → R ds q := fun ds q z => by
  unfold sp1 at z
  split at z
  · exact h _ _ z
  · exact z.elim
theorem sp2_by0 {f} {R : List D → (D → Prop) → Prop} (h : ∀ a b q, f a b q NoX → R [a, b] q) : ∀ ds q, sp2 f ds q NoX → R ds q := fun ds q z => by
  unfold sp2 at z
  split at z
  · exact h _ _ _ z
  · exact z.elim
theorem sp3_by0 {f} {R : List D → (D → Prop) → Prop} (h : ∀ a b c q, f a b c q NoX → R [a, b, c] q) : ∀ ds q, sp3 f ds q NoX → R ds q := fun ds q z => by
  unfold sp3 at z
  split at z
  · exact h _ _ _ _ z
  · exact z.elim
theorem sp4_by0 {f} {R : List D → (D → Prop) → Prop} (h : ∀ a b c d q, f a b c d q NoX → R [a, b, c, d] q) : ∀ ds q, sp4 f ds q NoX → R ds q := fun ds q z => by
  unfold sp4 at z
  split at z
  · exact h _ _ _ _ _ z
  · exact z.elim
theorem sp5_by0 {f} {R : List D → (D → Prop) → Prop} (h : ∀ a b c d g q, f a b c d g q NoX → R [a, b, c, d, g] q) : ∀ ds q, sp5 f ds q NoX → R ds q := fun ds q z => by
  unfold sp5 at z
  split at z
  · exact h _ _ _ _ _ _ z
  · exact z.elim
/-! #### promises of an __init__ -/
abbrev si1 (f : D → (List (Str × D) → Prop) → (Exc → Prop) → Prop) : DFI := fun ds q e => match ds with | [a] => f a q e | _ => False
theorem si1_len {f} : ∀ ds q e, si1 f ds q e → ds.length + 1 = 2 := fun ds q e h => by
  unfold si1 at h
  split at h
  · rfl
  · exact h.elim
theorem si1_by {f} {R : Addr → List D → (List (Str × D) → Prop) → (Exc → Prop) → Prop} (h : ∀ x a q e, f a q e → R x [a] q e) : ∀ x ds q e, si1 f ds q e → R x ds q e := fun x ds q e z => by
  unfold si1 at z
  split at z
  · exact h x _ _ _ z
  · exact z.elim
abbrev si2 (f : D → D → (List (Str × D) → Prop) → (Exc → Prop) → Prop) : DFI := fun ds q e => match ds with | [a, b] => f a b q e | _ => False
theorem si2_len {f} : ∀ ds q e, si2 f ds q e → ds.length + 1 = 3 := fun ds q e h => by
  unfold si2 at h
  split at h
  · rfl
  · exact h.elim
theorem si2_by {f} {R : Addr → List D → (List (Str × D) → Prop) → (Exc → Prop) → Prop} (h : ∀ x a b q e, f a b q e → R x [a, b] q e) : ∀ x ds q e, si2 f ds q e → R x ds q e := fun x ds q e z => by
  unfold si2 at z
  split at z
  · exact h x _ _ _ _ z
  · exact z.elim
abbrev si3 (f : D → D → D → (List (Str × D) → Prop) → (Exc → Prop) → Prop) : DFI := fun ds q e => match ds with | [a, b, c] => f a b c q e | _ => False
theorem si3_len {f} : ∀ ds q e, si3 f ds q e → ds.length + 1 = 4 := fun ds q e h => by
  unfold si3 at h
  split at h
  · rfl
  · exact h.elim
theorem si3_by {f} {R : Addr → List D → (List (Str × D) → Prop) → (Exc → Prop) → Prop} (h : ∀ x a b c q e, f a b c q e → R x [a, b, c] q e) : ∀ x ds q e, si3 f ds q e → R x ds q e := fun x ds q e z => by
  unfold si3 at z
  split at z
  · exact h x _ _ _ _ _ z
  · exact z.elim
abbrev si4 (f : D → D → D → D → (List (Str × D) → Prop) → (Exc → Prop) → Prop) : DFI := fun ds q e => match ds with | [a, b, c, d] => f a b c d q e | _ => False
theorem si4_len {f} : ∀ ds q e, si4 f ds q e → ds.length + 1 = 5 := fun ds q e h => by
  unfold si4 at h
  split at h
  · rfl
  · exact h.elim
theorem si4_by {f} {R : Addr → List D → (List (Str × D) → Prop) → (Exc → Prop) → Prop} (h : ∀ x a b c d q e, f a b c d q e → R x [a, b, c, d] q e) : ∀ x ds q e, si4 f ds q e → R x ds q e := fun x ds q e z => by
  unfold si4 at z
  split at z
  · exact h x _ _ _ _ _ _ z
  · exact z.elim
abbrev si5 (f : D → D → D → D → D → (List (Str × D) → Prop) → (Exc → Prop) → Prop) : DFI := fun ds q e => match ds with | [a, b, c, d, g] => f a b c d g q e | _ => False
theorem si5_len {f} : ∀ ds q e, si5 f ds q e → ds.length + 1 = 6 := fun ds q e h => by
  unfold si5 at h
  split at h
  · rfl
  · exact h.elim
theorem si5_by {f} {R : Addr → List D → (List (Str × D) → Prop) → (Exc → Prop) → Prop} (h : ∀ x a b c d g q e, f a b c d g q e → R x [a, b, c, d, g] q e) : ∀ x ds q e, si5 f ds q e → R x ds q e := fun x ds q e z => by
  unfold si5 at z
  split at z
  · exact h x _ _ _ _ _ _ _ z
  · exact z.elim
/-! #### the dice -/
def DiceI : HO → Prop := fun o => ∃ a b c : Int, o = .lst [.int a, .int b, .int c] ∧ 0 ≤ a ∧ a.natAbs < 2 ^ 2200
abbrev dice : D := .cel DiceI
theorem ext_keep {W : Wd} {H H' : Hp} {d : Addr} (g : Good W H) (w : W.c d = some DiceI) (hd : Dice H d) (k : Keep d H H') : Ext W H W H' := by
  have tb := tabs_keep g.tab k hd
  obtain ⟨a, b, c, e, p, r⟩ := k.2
  refine ⟨fun _ _ h => h, rfl, ⟨fun x I h => ?_, tb, g.ntb, fun x I ps h z => ?_⟩, fun x o h n nt => ⟨n, k.1 x o (fun z => ?_) h⟩⟩
  · by_cases q : x = d
    · subst q
      rw [w] at h
      cases h
      exact ⟨_, e, a, b, c, rfl, p, r⟩
    · obtain ⟨o, e1, i⟩ := g.cel x I h
      exact ⟨o, k.1 x o q e1, i⟩
  · by_cases q : x = d
    · subst q
      rw [e] at z
      cases z
    · obtain ⟨o, e1, i⟩ := g.cel x I h
      rw [k.1 x o q e1, ← e1] at z
      exact g.ntc x I ps h z
  · subst z
    rw [w] at n
    cases n
theorem dice_at {W : Wd} {H : Hp} {v : V} (g : Good W H) (r : Rep K W.c v dice) : ∃ d, v = .ref d ∧ Dice H d ∧ W.c d = some DiceI := by
  obtain ⟨d, o, rfl, e, ⟨a, b, c, rfl, p, q⟩, w⟩ := r.celAt g
  exact ⟨d, rfl, ⟨a, b, c, e, p, q⟩, w⟩
theorem dice_new {W : Wd} {H H' : Hp} {d : Addr} (g : Good W H) (n : H d = none) (s : Same H H') (hd : Dice H' d) : Ext W H (W.put d DiceI) H' ∧ Rep K (W.put d DiceI).c (.ref d) dice := by
  obtain ⟨a, b, c, e, p, r⟩ := hd
  exact ⟨(Ext.same g s).know e (fun ps z => by cases z) ⟨a, b, c, rfl, p, r⟩ (g.fresh n) (.of n), .cel Wd.put_same⟩
end
end DL
-- CUT
/-! ### how long texts are; what repr tells is no longer than so much -/
namespace DL
open PySem PySem.Spec PyProof.Rows L2 Kit
theorem joinL_len (sep : List Nat) : ∀ ps : List (List Nat), (TL.joinL sep ps).length ≤ (ps.map List.length).sum + ps.length * sep.length
  | [] => Nat.zero_le _
  | [p] => by
    show p.length ≤ _
    simp
  | p :: q :: r => by
    have z := joinL_len sep (q :: r)
    show (p ++ (sep ++ TL.joinL sep (q :: r))).length ≤ _
    rw [List.length_append, List.length_append, List.map_cons, List.sum_cons, List.length_cons, Nat.succ_mul]
    omega
theorem join_le (sep : Str) (ys : List Str) : (Txt.join sep ys).length ≤ (ys.map (·.length)).sum + ys.length * sep.length := by
  have z := joinL_len (TL.tl sep) (ys.map TL.tl)
  have h := TL.tl_join sep ys
  have e : (Txt.join sep ys).length = (TL.joinL (TL.tl sep) (ys.map TL.tl)).length := by
    rw [TL.join_eq, ← h]
    rfl
  rw [e]
  rw [List.map_map, List.length_map] at z
  exact z
/-- things that are all of a kind -/
theorem kind_map {α : Type} {f : α → D} {P : α → Prop} : ∀ {ys : List D}, (∀ y ∈ ys, ∃ a, P a ∧ y = f a) → ∃ as : List α, ys = as.map f ∧ ∀ a ∈ as, P a
  | [], _ => ⟨[], rfl, fun a h => by cases h⟩
  | y :: ys, h => by
    obtain ⟨a, pa, rfl⟩ := h y (List.mem_cons_self ..)
    obtain ⟨as, rfl, hp⟩ := kind_map fun z hz => h z (List.mem_cons_of_mem _ hz)
    refine ⟨a :: as, rfl, fun b hb => ?_⟩
    rcases List.mem_cons.mp hb with rfl | hb
    · exact pa
    · exact hp b hb
theorem plain_strs (zs : List Str) (h : (zs.all fun z => PyData.strOk z) = true) : okD (.lst (zs.map D.str)) := by
  unfold okD Plain
  intro x hx
  obtain ⟨z, m, rfl⟩ := List.mem_map.mp hx
  unfold Plain
  exact List.all_eq_true.mp h z m
theorem side_kB {C : Addr} {cs : List Addr} (y : D) : kB y → sideOk C cs y := fun h => by
  cases y <;> first | exact h | exact h.elim
/-- each turn puts a thing of a kind into the list -/
theorem xl_kind {α : Type} {step : D → (D → Prop) → Prop → Prop} {q : List D → Prop} (ds : List D) (f : α → D) (P : α → Prop) (sz : ds.length ≤ 1000000) (h : ∀ d ∈ ds, ∀ (yes : D → Prop) no, (∀ a, P a → yes (f a)) → step d yes no)
    (hq : ∀ as : List α, as.length = ds.length → (∀ a ∈ as, P a) → q (as.map f)) : xlAll step ds q :=
  xl_any ds (fun y => ∃ a, P a ∧ y = f a) sz (fun d hd yes no k => h d hd yes no fun a pa => k _ ⟨a, pa, rfl⟩) fun ys l k => by
    obtain ⟨as, rfl, pa⟩ := kind_map k
    exact hq as (by rw [List.length_map] at l; exact l) pa
theorem sum_le {α : Type} {f : α → Nat} {n : Nat} : ∀ {xs : List α}, (∀ x ∈ xs, f x ≤ n) → (xs.map f).sum ≤ n * xs.length
  | [], _ => Nat.zero_le _
  | x :: xs, h => by
    have a := h x (List.mem_cons_self ..)
    have b := sum_le fun y hy => h y (List.mem_cons_of_mem _ hy)
    simp only [List.map_cons, List.sum_cons, List.length_cons, Nat.mul_succ] at b ⊢
    omega
theorem join_cps (ys : List Str) : (Txt.join "" ys).cps.toList = (ys.map fun y => y.cps.toList).flatten := by
  have h := TL.tl_join "" ys
  rw [show TL.tl "" = [] by decide +kernel, joinL_nil] at h
  rw [TL.join_eq]
  exact h
theorem brief_idx {i : Int} (h0 : 0 ≤ i) (h1 : i < 10 ^ 30) : Brief 200 (.int i) := by
  obtain ⟨m, rfl⟩ := Int.eq_ofNat_of_zero_le h0
  have hm : m < 10 ^ 30 := by
    have e : (10 : Int) ^ 30 = ((10 ^ 30 : Nat) : Int) := by decide
    omega
  have lg : (m : Int).natAbs.log2 < 100 := by
    show m.log2 < 100
    by_cases z : m = 0
    · rw [z]
      decide
    · exact (Nat.log2_lt z).mpr (Nat.lt_trans hm (by decide +kernel))
  refine ⟨by rw [PyData.showable]; exact decide_eq_true (by omega), by rw [PyData.hasDict], ?_, ?_⟩
  · rw [PyData.leavesShort]
    refine decide_eq_true ?_
    have e := numlen m
    have z : (Nat.toDigits 10 m).length ≤ 30 := (Nat.length_toDigits_le_iff (by decide) (by decide)).mpr hm
    show (Str.ofString (toString ((m : Nat) : Int))).length ≤ 30
    rw [e]
    exact z
  · rw [PyData.weight]
    split <;> omega
/-- what stands in the order, each once, is told by what it has -/
theorem Asc.uniq {β : Type} {dat : β → PyData} (inj : ∀ a b, PySem.W.keyToks (dat a) = PySem.W.keyToks (dat b) → a = b) {us vs zs ys : List β} (a : Asc dat us zs) (b : Asc dat vs ys) (h : ∀ k, k ∈ zs ↔ k ∈ ys) : us = vs := by
  have pm : us.Perm vs := (List.perm_ext_iff_of_nodup a.one b.one).mpr fun k => ((a.mem k).trans (h k)).trans (b.mem k).symm
  refine pm.eq_of_pairwise (fun x y _ _ h1 h2 => inj x y ?_) a.asc b.asc
  unfold PySem.W.dataLe PySem.W.sortLe at h1 h2
  simp only [cond_false, Bool.not_eq_true'] at h1 h2
  exact (listOrd itemOrd).total _ _ h2 h1
theorem Asc.congr {β : Type} {dat : β → PyData} {us zs ys : List β} (a : Asc dat us zs) (h : ∀ k, k ∈ zs ↔ k ∈ ys) : Asc dat us ys := ⟨a.asc, a.one, fun k => (a.mem k).trans (h k)⟩
theorem Asc.self {β : Type} {dat : β → PyData} {us zs : List β} (a : Asc dat us zs) : Asc dat us us := ⟨a.asc, a.one, fun _ => Iff.rfl⟩
theorem Asc.filter {β : Type} {dat : β → PyData} {us zs : List β} (a : Asc dat us zs) (p : β → Bool) : Asc dat (us.filter p) (zs.filter p) := ⟨a.asc.filter p, a.one.filter p, fun k => by rw [List.mem_filter, List.mem_filter, a.mem k]⟩
theorem Asc.nil {β : Type} {dat : β → PyData} : Asc dat ([] : List β) [] := ⟨.nil, .nil, fun _ => Iff.rfl⟩
theorem nodup_len {β : Type} [DecidableEq β] : ∀ {us zs : List β}, us.Nodup → (∀ u ∈ us, u ∈ zs) → us.length ≤ zs.length
  | [], _, _, _ => Nat.zero_le _
  | u :: us, zs, n, h => by
    have n := List.nodup_cons.mp n
    have m := h u (List.mem_cons_self ..)
    have z := nodup_len (us := us) (zs := zs.erase u) n.2 fun v hv => (List.mem_erase_of_ne (fun e : v = u => n.1 (by rw [← e]; exact hv))).mpr (h v (List.mem_cons_of_mem _ hv))
    have l := List.length_erase_of_mem m
    have p : 0 < zs.length := List.length_pos_of_mem m
    rw [List.length_cons]
    omega
theorem Asc.len {β : Type} [DecidableEq β] {dat : β → PyData} {us zs : List β} (a : Asc dat us zs) : us.length ≤ zs.length := nodup_len a.one fun u hu => (a.mem u).mp hu
/-- a thing whose text is no longer than so much; k: how deep it is -/
def Shw (n k : Nat) (d : D) : Prop := ∃ p, d.py = some p ∧ Brief n p ∧ p.depth ≤ k
def ShwAll (n k : Nat) (ds : List D) : Prop := ∃ ps, D.pys ds = some ps ∧ BriefAll n ps ∧ PyData.depthAll ps ≤ k
theorem Shw.more {n m k l : Nat} {d : D} (h : Shw n k d) (a : n ≤ m) (b : k ≤ l) : Shw m l d := by
  obtain ⟨p, e, c, f⟩ := h
  exact ⟨p, e, c.more a, Nat.le_trans f b⟩
theorem Shw.ok {n k : Nat} {d : D} (h : Shw n k d) (a : n ≤ 400000) (b : k ≤ 30) : okShow d := by
  obtain ⟨p, e, c, f⟩ := h
  exact ⟨p, e, c.sh, Nat.le_trans f b, c.len a⟩
theorem shw_non : Shw 0 0 .non := ⟨_, rfl, brief_non, Nat.zero_le _⟩
theorem shw_bl (b : Bool) : Shw 0 0 (.bl b) := ⟨_, rfl, brief_bool b, Nat.zero_le _⟩
theorem shw_int {i : Int} (h : i.natAbs < 10 ^ 28) : Shw 100 0 (.int i) := ⟨_, rfl, brief_int h, Nat.zero_le _⟩
theorem shw_idx {i : Int} (h0 : 0 ≤ i) (h1 : i < 10 ^ 30) : Shw 200 0 (.int i) := ⟨_, rfl, brief_idx h0 h1, Nat.zero_le _⟩
theorem shw_str {n : Nat} {z : Str} (a : Low z) (b : z.length ≤ n) : Shw n 0 (.str z) := ⟨_, rfl, brief_str a b, Nat.zero_le _⟩
theorem shw_nil : ShwAll 0 0 [] := ⟨[], rfl, .nil, Nat.zero_le _⟩
theorem shw_cons {n m k l : Nat} {d : D} {ds : List D} (h : Shw n k d) (g : ShwAll m l ds) : ShwAll (n + 1 + m) (max k l) (d :: ds) := by
  obtain ⟨p, e, c, f⟩ := h
  obtain ⟨ps, e2, c2, f2⟩ := g
  refine ⟨p :: ps, by rw [D.pys, e, e2]; rfl, .cons c c2, ?_⟩
  rw [PyData.depthAll]
  omega
theorem shw_map {α : Type} {f : α → D} {n k : Nat} : ∀ {xs : List α}, (∀ x ∈ xs, Shw n k (f x)) → ShwAll ((n + 1) * xs.length) k (xs.map f)
  | [], _ => ⟨[], rfl, .nil, Nat.zero_le _⟩
  | x :: xs, h => by
    have a := shw_cons (h x (List.mem_cons_self ..)) (shw_map fun y hy => h y (List.mem_cons_of_mem _ hy))
    rw [Nat.max_self] at a
    have e : n + 1 + (n + 1) * xs.length = (n + 1) * (x :: xs).length := by
      rw [List.length_cons, Nat.mul_succ]
      omega
    rw [e] at a
    exact a
theorem shw_lst {n k : Nat} {ds : List D} (h : ShwAll n k ds) : Shw n (k + 1) (.lst ds) := by
  obtain ⟨ps, e, c, f⟩ := h
  refine ⟨.list ps, by rw [D.py, e]; rfl, c.list, ?_⟩
  rw [PyData.depth]
  omega
theorem shw_tup {n k : Nat} {ds : List D} (h : ShwAll n k ds) : Shw n (k + 1) (.tup ds) := by
  obtain ⟨ps, e, c, f⟩ := h
  refine ⟨.tuple ps, by rw [D.py, e]; rfl, c.tuple, ?_⟩
  rw [PyData.depth]
  omega
end DL
-- CUT
/-! ### a sign of an own class beside a thing of a built-in kind -/
namespace Kit
open PySem PySem.Spec PyProof.Rows L2
theorem bin1_T {prog : Program} {w : World} {A : Around} {E : Value → Shared → Prop} {s : Shared} {K : PySem.W.Frag} {x C f : Addr} {ox : Obj} {od : Option Obj} {nm T : String} {b : Value} {fo ro : Option Value} {Q : Value → Shared → Prop} (X : K.In s.heap) (I : PySem.W.InstAt s.heap x ox C od)
    (hb : PySem.W.Looks (model prog w) s.heap (typeOf b) (.type T)) (hc : PySem.W.selfFirst K C = true) (hs : PySem.W.findIn K (.ref C) (PySem.dunder nm) = some (some (.ref f))) (hf : PySem.W.isFn K (.ref f) = true) (hr : PySem.W.findIn K (.ref C) (dunderR nm) = some none)
    (h1 : PySem.W.findIn K (.type T) (PySem.dunder nm) = some fo) (h2 : PySem.W.findIn K (.type T) (dunderR nm) = some ro) (hu : PySem.W.subIn K (.type T) (.ref C) = some false)
    (h : wpAny (model prog w) A (call (.ref f) [.ref x, b]) (PySem.W.CmpBack Q) E s) : wpAny (model prog w) A (binaryOp1 nm (.ref x) b) (fun r s' => ∃ v, r = some v ∧ Q v s') E s := by
  obtain ⟨cd, rest, hcd, hm⟩ := PySem.W.ksp_first hc
  have one := PySem.W.ksp_try X I hs hf h
  have n1 : (Value.ref C == Value.type T) = false := Bool.eq_false_iff.mpr fun q => by cases beq_iff_eq.mp q
  have k3 := PySem.W.fills_K (M := model prog w) X hcd hm hs
  have k4 := PySem.W.ksp_fillsT (M := model prog w) X h1 h2
  have k5 := PySem.W.looks_subIn (M := model prog w) X hu
  have k6 := PySem.W.ksp_inPy (M := model prog w) X hs hr (.inl rfl)
  have k7 : PySem.W.Looks (model prog w) s.heap (numberSlotInPython (.type T) nm) false := PySem.W.Looks.of_pure rfl
  have k8 := PySem.W.looks_findIn (M := model prog w) X h2
  generalize ((fo.isSome && !isSeqSlot fo) || (ro.isSome && !isSeqSlot ro)) = right at k4
  unfold binaryOp1
  refine wpAny_bind (I.type.here (wpAny_bind (hb.here (wpAny_bind (k3.here ?_)))))
  simp only [n1, Bool.false_eq_true, if_false]
  refine wpAny_bind (k4.here ?_)
  cases right with
  | false =>
    simp only [Bool.and_false, Bool.false_eq_true, if_false, Bool.false_and]
    refine wpAny_bind (wpAny_pure (wpAny_bind (wpAny_mono one (fun r s' hr' => ?_) fun _ _ e => e)))
    obtain ⟨v, rfl, hq⟩ := hr'
    exact wpAny_pure ⟨v, rfl, hq⟩
  | true =>
    simp only [Bool.and_self, if_true]
    refine wpAny_bind (k5.here ?_)
    simp only [Bool.false_eq_true, if_false, Bool.not_false, Bool.and_self, if_true]
    refine wpAny_bind (k6.here ?_)
    simp only [if_true]
    refine wpAny_bind (k7.here ?_)
    simp only [Bool.not_false, if_true]
    refine wpAny_bind (k8.here ?_)
    refine wpAny_bind (wpAny_mono one (fun r s' hr' => ?_) fun _ _ e => e)
    obtain ⟨v, rfl, hq⟩ := hr'
    exact wpAny_pure ⟨v, rfl, hq⟩
theorem exm_of {K : PySem.W.Frag} {A C : Addr} {b : Bool} (h1 : PySem.W.subIn K (.ref C) (.type "BaseException") = some true) (h2 : PySem.W.isClsIn K C = true) (ht : PySem.W.typeIn K (.ref C) = some (.type "type")) (h4 : PySem.W.subIn K (.ref A) (.ref C) = some b) : PySem.W.exmOne K (.ref A) (.ref C) = some b := by
  have e1 : (PySem.W.subIn K (.ref C) (.type "BaseException") == some true) = true := by rw [h1] <;> rfl
  have e2 : ((PySem.W.clsIn K C).isSome && PySem.W.typeIn K (.ref C) == some (.type "type")) = true := by
    unfold PySem.W.isClsIn at h2
    rw [h2, ht] <;> rfl
  unfold PySem.W.exmOne PySem.W.kitCls
  rw [if_pos e1]
  show (if ((PySem.W.clsIn K C).isSome && PySem.W.typeIn K (.ref C) == some (.type "type")) = true then PySem.W.subIn K (.ref A) (.ref C) else none) = some b
  rw [if_pos e2]
  exact h4
/-- a op b, a of the class, b of a built-in kind -/
def rBinT (K : PySem.W.Frag) (C : Addr) (sp : Sp) (E : XK) : R2 := fun x y H Q => ∃ a T, x = .ref a ∧ InsAt H C a ∧ T ∈ BT ∧ TyX K H y (.type T) ∧ sp [x, y] H (fun v H' => ∃ z, v = .ref z ∧ Q v H') E
/-- what the built-in kinds have under the name of a sign -/
def signT (op : Operator) : Prop := ∀ T ∈ BT, (fastLookup T (PySem.dunder op.info.2)).isSome = true ∧ (fastLookup T (dunderR op.info.2)).isSome = true
theorem sign_or : signT .BitOr := by
  unfold signT
  decide +kernel
theorem sign_and : signT .BitAnd := by
  unfold signT
  decide +kernel
theorem sign_sub : signT .Sub := by
  unfold signT
  decide +kernel
theorem sign_add : signT .Add := by
  unfold signT
  decide +kernel
theorem sub_BT (K : PySem.W.Frag) (C : Addr) : ∀ T ∈ BT, PySem.W.subIn K (.type T) (.ref C) = some false := fun T hT => by
  simp only [BT, List.mem_cons, List.not_mem_nil, or_false] at hT
  rcases hT with rfl | rfl | rfl | rfl | rfl | rfl | rfl <;> rfl
section
variable {X : Cx} {CX : CXT} {n : Nat} {C f : Addr} {fd : FuncData} {ps : List Str} {sp : Sp} {E : XK} {op : Operator}
theorem op_binT (G : FnOk X.prog X.w X.K X.mg X.base CX n f fd ps sp) (hb : Binds X.K fd ps []) (hx : Passes CX X E) (hr : Room n X.A) (first : PySem.W.selfFirst X.K C = true) (o : OwnM X.K C (PySem.dunder op.info.2) f) (no : PySem.W.findIn X.K (.ref C) (dunderR op.info.2) = some none) (sg : signT op) : OpR X (binaryOp op) (rBinT X.K C sp E) := by
  intro pins s σ H x y v u Q I rx ry h
  obtain ⟨a, T, rfl, ha, hT, ty, q⟩ := h
  obtain ⟨P, Z, hP, _⟩ := kit_of I ry ty
  cases rx
  obtain ⟨L, m, ox, od, hF, J⟩ := ins_here I ha
  obtain ⟨g1, g2⟩ := sg T hT
  obtain ⟨fo, e1⟩ := Option.isSome_iff_exists.mp g1
  obtain ⟨ro, e2⟩ := Option.isSome_iff_exists.mp g2
  unfold binaryOp
  refine wpAny_holding (wpAny_bind (wpAny_mono (bin1_T (I.ok.mod.kin.keeps hF.keep) J (Z.ty _ _ I.kIn hP) first o.at_ o.fn no e1 e2 (sub_BT _ _ T hT)
    (Q := EP X pins σ Q) (wpAny_mono (run_in G hr I.ok.frames hb hx I (vs := [.ref a, y]) (.cons rfl (.cons ry .nil)) q) (fun z s' k => ?_) fun _ _ k => k)) (fun r s' k => ?_) fun _ _ k => k))
  · obtain ⟨v, H', I', rv, z, rfl, q1⟩ := k
    cases rv
    exact ⟨.ref z, H', I', rfl, q1⟩
  · obtain ⟨v, rfl, k⟩ := k
    exact wpAny_pure k
theorem ip_binT (G : FnOk X.prog X.w X.K X.mg X.base CX n f fd ps sp) (hb : Binds X.K fd ps []) (hx : Passes CX X E) (hr : Room n X.A) (first : PySem.W.selfFirst X.K C = true) (hn : noIp X.K C (dunderI op.info.2) = true) (o : OwnM X.K C (PySem.dunder op.info.2) f) (no : PySem.W.findIn X.K (.ref C) (dunderR op.info.2) = some none) (sg : signT op) : PIp X op (rBinT X.K C sp E) := by
  intro pins s σ H x y v u Q I rx ry h
  obtain ⟨a, T, rfl, ha, hT, ty, q⟩ := h
  obtain ⟨P, Z, hP, _⟩ := kit_of I ry ty
  cases rx
  obtain ⟨L, m, ox, od, hF, J⟩ := ins_here I ha
  obtain ⟨g1, g2⟩ := sg T hT
  obtain ⟨fo, e1⟩ := Option.isSome_iff_exists.mp g1
  obtain ⟨ro, e2⟩ := Option.isSome_iff_exists.mp g2
  have K1 := I.ok.mod.kin.keeps hF.keep
  unfold inplaceOp
  refine wpAny_holding ?_
  refine wpAny_bind (J.type.here ?_)
  refine wpAny_bind ((noIp_look K1 hn).here ?_)
  simp only [Bool.false_eq_true, if_false]
  refine wpAny_bind (wpAny_mono (bin1_T K1 J (Z.ty _ _ I.kIn hP) first o.at_ o.fn no e1 e2 (sub_BT _ _ T hT)
    (Q := EP X pins σ Q) (wpAny_mono (run_in G hr I.ok.frames hb hx I (vs := [.ref a, y]) (.cons rfl (.cons ry .nil)) q) (fun z s' k => ?_) fun _ _ k => k)) (fun r s' k => ?_) fun _ _ k => k)
  · obtain ⟨v, H', I', rv, z, rfl, q1⟩ := k
    cases rv
    exact ⟨.ref z, H', I', rfl, q1⟩
  · obtain ⟨v, rfl, k⟩ := k
    exact wpAny_pure k
end
end Kit
namespace DL
open PySem PySem.Spec PyProof.Rows L2 Kit
section
variable {E : EX} {C : Addr} {s : DF}
/-- x op y, x of the class, y of it or of a built-in kind -/
def fBinU (C : Addr) (s : DF) : F2 := fun x y q e => match x with
  | .obj A _ => A = C ∧ (match y with | .obj B _ => B = C | y => kB y) ∧ s [x, y] (fun d => (match d with | .obj _ _ => True | .tup _ => True | .lst _ => True | _ => False) ∧ q d) e
  | _ => False
theorem off_kB {C : Addr} (y : D) : kB y → (match y with | .obj B _ => B = C | y => kB y) := fun h => by
  cases y <;> first | exact h | exact h.elim
def rBinU (K : PySem.W.Frag) (C : Addr) (sp : Sp) (E : XK) : R2 := fun x y H Q => rBinO K C sp E x y H Q ∨ rBinT K C sp E x y H Q
theorem isRef {K : PySem.W.Frag} {cw : CW} {v : V} {d : D} (h : match d with | .obj _ _ => True | .tup _ => True | .lst _ => True | _ => False) (r : Rep K cw v d) : ∃ z, v = .ref z := by
  cases d with
  | obj => cases r with | obj => exact ⟨_, rfl⟩
  | tup => cases r with | tup => exact ⟨_, rfl⟩
  | lst => cases r with | lst => exact ⟨_, rfl⟩
  | _ => exact h.elim
theorem f_binU {K : PySem.W.Frag} (hC : IsC K C) : R2E K E (rBinU K C (toSp K E.T s) E.x) (fBinU C s) := fun W H v u x y Q q e g r1 r2 h k ke => by
  unfold fBinU at h
  split at h
  · obtain ⟨rfl, hy, h⟩ := h
    obtain ⟨a, rfl, i⟩ := r1.insAt g
    have go : toSp K E.T s [.ref a, u] H (fun v H' => ∃ z, v = .ref z ∧ Q v H') E.x := ⟨W, _, _, e, g, .cons r1 (.cons r2 .nil), h, fun W1 H1 v d x r h => by
      obtain ⟨z, rfl⟩ := isRef h.1 r
      exact ⟨z, rfl, k _ _ _ _ x r h.2⟩, ke⟩
    split at hy
    · subst hy
      obtain ⟨b, rfl, i2⟩ := r2.insAt g
      obtain ⟨dx, fs, e2⟩ := id i2
      exact .inl ⟨a, b, rfl, rfl, i, hC.ty e2, go⟩
    · obtain ⟨t, e1⟩ := kB_ty hy
      exact .inr ⟨a, t, rfl, i, tyD_in e1, (Seen.rep r2).ty g e1, go⟩
  · exact h.elim
theorem op_binU {X : Cx} {CX : CXT} {n : Nat} {f : Addr} {fd : FuncData} {ps : List Str} {sp : Sp} {E : XK} {op : Operator} (G : FnOk X.prog X.w X.K X.mg X.base CX n f fd ps sp) (hb : Binds X.K fd ps []) (hx : Passes CX X E) (hr : Room n X.A) (first : PySem.W.selfFirst X.K C = true) (o : OwnM X.K C (PySem.dunder op.info.2) f) (no : PySem.W.findIn X.K (.ref C) (dunderR op.info.2) = some none) (sg : signT op) : OpR X (binaryOp op) (rBinU X.K C sp E) :=
  OpR.or (op_binO G hb hx hr first o) (op_binT G hb hx hr first o no sg)
theorem ip_binU {X : Cx} {CX : CXT} {n : Nat} {f : Addr} {fd : FuncData} {ps : List Str} {sp : Sp} {E : XK} {op : Operator} (G : FnOk X.prog X.w X.K X.mg X.base CX n f fd ps sp) (hb : Binds X.K fd ps []) (hx : Passes CX X E) (hr : Room n X.A) (first : PySem.W.selfFirst X.K C = true) (hn : noIp X.K C (dunderI op.info.2) = true) (o : OwnM X.K C (PySem.dunder op.info.2) f) (no : PySem.W.findIn X.K (.ref C) (dunderR op.info.2) = some none) (sg : signT op) : PIp X op (rBinU X.K C sp E) :=
  fun pins s σ H x y v u Q I rx ry h => h.elim (ip_binO G hb hx hr first hn o pins s σ H x y v u Q I rx ry) (ip_binT G hb hx hr first hn o no sg pins s σ H x y v u Q I rx ry)
/-- {} -/
def xDct0 : DX := fun _ q _ => q (.dct [])
theorem d_dct0 {X : Cx} {pos : Pos} : DE X E (.Dict [] [] pos) xDct0 := PE.to pe_dnewK fun σ H Q ⟨W, H0, ε, q, e, g, en, t, k, ke⟩ => fun p hp =>
  k _ _ _ _ ((Ext.same g (same_upd hp)).know upd_same (fun ps z => by cases z) (.inl rfl) (g.fresh hp) (.of hp)) (.dct Wd.put_same rfl .nil) t
/-- a call of what is handed over leads to r -/
theorem met_step {tab : Tab} {l : List (Addr × D)} {v0 : D} {a : DX} {ε : DEnv} {q : D → Prop} {e : Exc → Prop} (r : D) (hr : q r) (h : ∀ q' : D → Prop, q' r → a ε (fun _ => q' v0) (metD tab l q')) : xMet tab l v0 a ε q e := h q hr
/-- a comprehension stored into a name that blocks inside use, too -/
theorem sw_cell {elt : Expr} {gs : List Comprehension} {scope : Scope} {pos py : Pos} {y : Str} {l : Nat} {env : Env} (hy : (env.scope.names.lookup y == some .local) = false) : swapsWith (.ListComp elt gs scope pos) (some (.Name y py)) l env = pure false := by
  have ky : (env.kindOf y == some .local) = false := hy
  unfold swapsWith
  simp only [ky, Bool.and_false, Bool.false_and]
end
/-! #### the script -/
theorem reps_int {K : PySem.W.Frag} {cw : CW} : ∀ ns : List Int, RepL K cw (ns.map V.int) (ns.map D.int)
  | [] => .nil
  | n :: ns => .cons (.int n) (reps_int ns)
theorem told_rdl {K : PySem.W.Frag} {T : List (Addr × Str)} {H : Hp} {a : Addr} {ns : List Int} (tb : LamX.Tabs T H) (hS : SqL K H a (ns.map V.int)) : ∃ W : Wd, Good W H ∧ W.T = T ∧ Rep K W.c (.ref a) (.rdl (ns.map D.int)) := by
  have g : Good ⟨fun _ => none, T⟩ H := ⟨nofun, tb, fun _ _ => rfl, nofun⟩
  rcases hS with (h | ⟨o, h⟩) | h
  · exact ⟨_, g.know h (fun ps z => by cases z) (.inl rfl : RdI (ns.map V.int) _) rfl, rfl, .rdl (.inl Wd.put_same) (reps_int ns)⟩
  · exact ⟨_, g.know h (fun ps z => by cases z) (.inr ⟨o, rfl⟩ : RdI (ns.map V.int) _) rfl, rfl, .rdl (.inl Wd.put_same) (reps_int ns)⟩
  · exact ⟨_, g, rfl, .rdl (.inr (.inr h)) (reps_int ns)⟩
/-- a law's promise, the script no longer than n -/
abbrev p_lawOf (n : Nat) : DF := sp1 fun a q _ => ∃ ns : List Int, a = .rdl (ns.map D.int) ∧ ns.length ≤ n ∧ q (.bl true)
theorem told_of {K : PySem.W.Frag} {T : List (Addr × Str)} {H : Hp} {a : Addr} {n : Nat} {ns : List Int} {E : XK} (tb : LamX.Tabs T H) (hl : ns.length ≤ n) (hS : SqL K H a (ns.map V.int)) : toSp0 K T (p_lawOf n) [.ref a] H (fun v _ => v = .bl true) E := by
  obtain ⟨W, g, hT, r⟩ := told_rdl tb hS
  exact ⟨W, _, fun d => d = .bl true, g, .cons r .nil, ⟨ns, rfl, hl, rfl⟩, fun W1 H1 v d x r h => by
    subst h
    cases r
    rfl, hT⟩
end DL
-- CUT
/-! ### an __init__ with *rest and one keyword -/
namespace DL
open PySem PySem.Spec PyProof.Rows L2 Kit
section
variable {X : Cx} {E : EX} {c e a b : Expr} {xa xk : DX} {t : DXA} {pos : Pos} {C : Addr}
/-- C(.., *rest, q = z): what the __init__ gets: the first ones, z, the rest -/
def starIK (n : Nat) (zd : D) (s : DFI) : DFI := fun ds q e => n ≤ ds.length ∧ fit (ds.length - n) ∧ s (ds.take n ++ [zd, .tup (ds.drop n)]) q e
abbrev spStarK (K : PySem.W.Frag) (T : List (Addr × Str)) (C : Addr) (n : Nat) (q : Str) (dq : V) (si : DFI) : SpA := fun vs kws H Q E => ∃ ws rest z, vs = ws ++ rest ∧ ws.length = n + 1 ∧ rest.length ≤ sizeLine ∧ KwOne q dq kws z ∧ ∀ p, H p = none → toSpI K T C si (ws ++ [z, V.ref p]) (upd H p (.tup rest)) Q E
theorem starK_at {K : PySem.W.Frag} {n : Nat} {si : DFI} {W : Wd} {H : Hp} {Q : VK} {q : D → Prop} {e : Exc → Prop} {us : List V} {ds : List D} {nm : Str} {dq z : V} {zd : D} {kws : List (Str × V)} (g : Good W H) (r : RepL K W.c us ds) (rz : Rep K W.c z zd) (kw : KwOne nm dq kws z)
    (h : starIK n zd si ds (fun fd => q (.obj C fd)) e) (k : KQ K W H Q q) (ke : KE K W H E e) {x dx : Addr} (hx : H x = none) (hd : H dx = none) (ne : dx ≠ x) :
    spStarK K E.T C n nm dq si (.ref x :: us) kws (upd (upd H dx (.own x)) x (.ins C dx [])) (fun v H2 => v = .non ∧ Q (.ref x) H2) E.x := by
  obtain ⟨t2, t3, t4⟩ := h
  have len := r.length
  refine ⟨.ref x :: us.take n, us.drop n, z, by rw [List.cons_append, List.take_append_drop], by rw [List.length_cons, List.length_take]; omega, by rw [List.length_drop, len]; exact t3, kw, fun p hp => ?_⟩
  have e0 := inst_new (C := C) g hx hd ne
  have hpx : H p = none := by
    cases z : H p with
    | none => rfl
    | some o =>
      have s1 : Same H (upd (upd H dx (.own x)) x (.ins C dx [])) := (same_upd hd).trans (same_upd (by rw [upd_ne (fun z => ne z.symm)]; exact hx))
      rw [s1 _ _ z] at hp
      cases hp
  have npx : p ≠ x := fun z => by
    rw [z, upd_same] at hp
    cases hp
  have npd : p ≠ dx := fun z => by
    rw [z, upd_ne ne, upd_same] at hp
    cases hp
  have e1 : Ext W H (W.put p (Eq (.tup (us.drop n)))) (upd H p (.tup (us.drop n))) := .put g hpx (fun ps z => by cases z) rfl
  have le : CW.le W.c (W.put p (Eq (.tup (us.drop n)))).c := e1.le
  have sw : upd (upd (upd H dx (.own x)) x (.ins C dx [])) p (.tup (us.drop n)) = upd (upd (upd H p (.tup (us.drop n))) dx (.own x)) x (.ins C dx []) := by
    rw [upd_swap (fun z => npx z.symm), upd_swap (fun z => npd z.symm)]
  rw [sw]
  exact made_at e1.good (((r.take n).mono le).append (.cons (rz.mono le) (.cons (.tup (.inl Wd.put_same) ((r.drop n).mono le)) .nil))) t4 (k.after e1) (ke.after e1) (by rw [upd_ne (fun z => npx z.symm)]; exact hx) (by rw [upd_ne (fun z => npd z.symm)]; exact hd) ne
/-- C(.., q = z) -/
def xMakeK (C : Addr) (n : Nat) (si : DFI) (t : DXA) (xk : DX) : DX := fun ε q e => t ε (fun ds => xk ε (fun zd => starIK n zd si ds (fun fd => q (.obj C fd)) e) e) e
theorem d_makeK {n : Nat} {si : DFI} {nm : Str} {dq : V} (h : PE X c (tMakeA C [nm] (spStarK X.K E.T C n nm dq si) E.x (tC (.ref C)) (dA X.K E t) (tCons (dE X.K E xk) tNil))) : DE X E c (xMakeK C n si t xk) :=
  PE.to h fun σ H Q ⟨W, H0, ε, q, e, g, en, t, k, ke⟩ => ⟨rfl, W, H0, ε, _, e, g, en, t, fun W1 H1 vs ds x1 r1 t1 => ⟨W1, H0, ε, _, e, x1.good, en.ext x1, t1, fun W2 H2 z zd x2 rz t2 =>
    ⟨rfl, fun x dx hx hd ne => starK_at x2.good (r1.mono x2.le) rz (.inr rfl) t2 (k.after (x1.trans x2)) (ke.after (x1.trans x2)) hx hd ne⟩, ke.after x1⟩, ke⟩
/-- C(..), the keyword left out -/
theorem d_makeK0 {n : Nat} {si : DFI} {nm : Str} {dq : V} (h : PE X c (tMakeA C [] (spStarK X.K E.T C n nm dq si) E.x (tC (.ref C)) (dA X.K E t) (fun _ H Q => Q [] H))) : DE X E c (xMakeK C n si t (xC (cD dq))) :=
  PE.to h fun σ H Q ⟨W, H0, ε, q, e, g, en, t, k, ke⟩ => ⟨rfl, W, H0, ε, _, e, g, en, t, fun W1 H1 vs ds x1 r1 t1 => ⟨rfl, fun x dx hx hd ne => starK_at x1.good r1 (rep_c _ _ _) (.inl ⟨rfl, rfl⟩) t1 (k.after x1) (ke.after x1) hx hd ne⟩, ke⟩
end
section
variable {P : Program} {w : World} {K : PySem.W.Frag} {mg : Str → Option Value} {base : Heap}
/-- def __init__(self, .., *rest, nm = dq) -/
theorem okDIsK {T : List (Addr × Str)} {x qual : Str} {params : Arguments} {bd : List Stmt} {scope : Scope} {f C : Addr} {fd : FuncData} {N ps : List Str} {nm pv : Str} {dq : V} {k m : Nat} {si : DFI} {n : Nat} {t : DXS} (F : FunD K x qual params bd scope [] [(nm, dq)] f fd) (S : FnScope N (ps ++ [nm, pv]) scope) (hm : ps.length = m + 1) (hn : N.length = ps.length + 2 + n) (len : ∀ ds q e, si ds q e → ds.length + 1 = ps.length + 2)
    (hb0 : ∀ (D : Addr) (doc pm : Value) (an : Option Addr) (cdv ct : Value) (us rest : List Value) (u : Value), us.length = ps.length → ∃ (β γ : Type) (k1 : Option Value → Sem β) (k2 : β → Sem γ) (k3 : γ → Sem (List (Str × Value))) (a : β),
      bindArgs (PySem.W.fnOf x qual params bd scope .none (.ref D) doc pm an cdv ct) ⟨us ++ rest, []⟩ = ((nsGet D nm >>= k1) >>= k2) >>= k3 ∧ k1 (some u) = pure a ∧ (k2 a >>= k3) = (newTuple rest >>= fun t => pure (ps.zip us ++ [(nm, u), (pv, t)])))
    (hb1 : ∀ (D : Addr) (doc pm : Value) (an : Option Addr) (cdv ct : Value) (us rest : List Value) (u : Value), us.length = ps.length →
      bindArgs (PySem.W.fnOf x qual params bd scope .none (.ref D) doc pm an cdv ct) ⟨us ++ rest, [(nm, u)]⟩ = (newTuple rest >>= fun t => pure (ps.zip us ++ [(nm, u), (pv, t)])))
    (body : ∀ (cdv : Value) (A : Around) (outer : List Env) (s : Shared) (H : Hp) (E : XK), Room k (A.deeper (envOfC qual scope s.heap.objs.size f cdv)) → DSs (cxOf (L2.CX P w) P w K mg base N qual scope f cdv A outer s H E) ⟨E, T⟩ bd t)
    (h : ∀ x ds q e, si ds q e → t (endI x C q e) (startI x C n ds)) : FnA P w K mg base (L2.CX P w) (k + 1) f (spStarK K T C m nm dq si) := by
  have F0 := Kit.fn_starK1 (sp := toSpI K T C si) F S StX.cxUp hb0 hb1 fun cdv A outer sh H vs Q E hr ⟨W, Hb, x, dx, us, ds, q, e, ev, g, x0, hb, hx, r, hs, hk, he⟩ => ⟨_, body cdv A outer sh H E hr, W.c, W, Hb, W, startI x C n ds, endI x C q e, .refl _, x0, by
    rw [ev]
    exact startI_env r (by have z := len _ _ _ hs; omega) hx (g.fresh hb) (.of hb), h x ds q e hs, initK hk he hb⟩
  rw [hm] at F0
  exact F0
end
end DL
-- LIBEND
-- HEAD namespace K26
-- HEAD open PySem PySem.Spec PyProof.Rows L2 Kit StX DL
-- HEAD set_option maxHeartbeats 1000000
-- FOOT end K26
namespace K26
open PySem PySem.Spec PyProof.Rows L2 Kit StX DL
set_option maxHeartbeats 1000000

def topS (i : Nat) : Stmt := PySem.Challenge.pw_goneunseen_k26_spots.main.body.getD i (.Pass ⟨0, 0, 0, 0⟩)
abbrev s_Sound_init : Stmt := inClass (topS 1) 0
theorem sc_Sound_init : FnScope ["self", "worth"] ["self", "worth"] (defScope s_Sound_init) := ⟨rfl, rfl, rfl, by decide +kernel, rfl, by decide +kernel, by decide +kernel⟩
abbrev s_Spots_init : Stmt := inClass (topS 11) 0
theorem sc_Spots_init : FnScope ["self", "spots"] ["self", "spots"] (defScope s_Spots_init) := ⟨rfl, rfl, rfl, by decide +kernel, rfl, by decide +kernel, by decide +kernel⟩
abbrev s_Spots_of : Stmt := inClass (topS 11) 1
theorem sc_Spots_of : FnScope ["cls", "spots"] ["cls", "spots"] (defScope s_Spots_of) := ⟨rfl, rfl, rfl, by decide +kernel, rfl, by decide +kernel, by decide +kernel⟩
abbrev s_Spots_listed : Stmt := inClass (topS 11) 2
theorem sc_Spots_listed : FnScope ["self"] ["self"] (defScope s_Spots_listed) := ⟨rfl, rfl, rfl, by decide +kernel, rfl, by decide +kernel, by decide +kernel⟩
abbrev s_Spots_within : Stmt := inClass (topS 11) 3
theorem sc_Spots_within : FnScope ["self", "other", "spot"] ["self", "other"] (defScope s_Spots_within) := ⟨rfl, rfl, rfl, by decide +kernel, rfl, by decide +kernel, by decide +kernel⟩
abbrev s_Spots_or : Stmt := inClass (topS 11) 4
theorem sc_Spots_or : FnScope ["self", "other"] ["self", "other"] (defScope s_Spots_or) := ⟨rfl, rfl, rfl, by decide +kernel, rfl, by decide +kernel, by decide +kernel⟩
abbrev s_Spots_and : Stmt := inClass (topS 11) 5
theorem sc_Spots_and : FnScope ["self", "other", "spot"] ["self", "other"] (defScope s_Spots_and) := ⟨rfl, rfl, rfl, by decide +kernel, rfl, by decide +kernel, by decide +kernel⟩
abbrev s_Spots_sub : Stmt := inClass (topS 11) 6
theorem sc_Spots_sub : FnScope ["self", "other", "spot"] ["self", "other"] (defScope s_Spots_sub) := ⟨rfl, rfl, rfl, by decide +kernel, rfl, by decide +kernel, by decide +kernel⟩
abbrev s_Spots_len : Stmt := inClass (topS 11) 7
theorem sc_Spots_len : FnScope ["self"] ["self"] (defScope s_Spots_len) := ⟨rfl, rfl, rfl, by decide +kernel, rfl, by decide +kernel, by decide +kernel⟩
abbrev s_Spots_bool : Stmt := inClass (topS 11) 8
theorem sc_Spots_bool : FnScope ["self"] ["self"] (defScope s_Spots_bool) := ⟨rfl, rfl, rfl, by decide +kernel, rfl, by decide +kernel, by decide +kernel⟩
abbrev s_Spots_iter : Stmt := inClass (topS 11) 9
theorem sc_Spots_iter : FnScope ["self"] ["self"] (defScope s_Spots_iter) := ⟨rfl, rfl, rfl, by decide +kernel, rfl, by decide +kernel, by decide +kernel⟩
abbrev s_Spots_contains : Stmt := inClass (topS 11) 10
theorem sc_Spots_contains : FnScope ["self", "value"] ["self", "value"] (defScope s_Spots_contains) := ⟨rfl, rfl, rfl, by decide +kernel, rfl, by decide +kernel, by decide +kernel⟩
abbrev s_Spots_eq : Stmt := inClass (topS 11) 11
theorem sc_Spots_eq : FnScope ["self", "other"] ["self", "other"] (defScope s_Spots_eq) := ⟨rfl, rfl, rfl, by decide +kernel, rfl, by decide +kernel, by decide +kernel⟩
abbrev s_Spots_str : Stmt := inClass (topS 11) 12
theorem sc_Spots_str : FnScope ["self", "spot"] ["self"] (defScope s_Spots_str) := ⟨rfl, rfl, rfl, by decide +kernel, rfl, by decide +kernel, by decide +kernel⟩
abbrev s_is_name : Stmt := topS 8
theorem sc_is_name : FnScope ["value"] ["value"] (defScope s_is_name) := ⟨rfl, rfl, rfl, by decide +kernel, rfl, by decide +kernel, by decide +kernel⟩
abbrev s_is_whole : Stmt := topS 9
theorem sc_is_whole : FnScope ["value"] ["value"] (defScope s_is_whole) := ⟨rfl, rfl, rfl, by decide +kernel, rfl, by decide +kernel, by decide +kernel⟩
abbrev s_checked_spots : Stmt := topS 12
theorem sc_checked_spots : FnScope ["spots", "spot"] ["spots"] (defScope s_checked_spots) := ⟨rfl, rfl, rfl, by decide +kernel, rfl, by decide +kernel, by decide +kernel⟩
abbrev s_is_spot : Stmt := topS 13
theorem sc_is_spot : FnScope ["value", "index"] ["value"] (defScope s_is_spot) := ⟨rfl, rfl, rfl, by decide +kernel, rfl, by decide +kernel, by decide +kernel⟩
abbrev s_check_is_spots : Stmt := topS 14
theorem sc_check_is_spots : FnScope ["value"] ["value"] (defScope s_check_is_spots) := ⟨rfl, rfl, rfl, by decide +kernel, rfl, by decide +kernel, by decide +kernel⟩
abbrev s_spot_text : Stmt := topS 15
theorem sc_spot_text : FnScope ["spot", "name", "index", "at"] ["spot"] (defScope s_spot_text) := ⟨rfl, rfl, rfl, by decide +kernel, rfl, by decide +kernel, by decide +kernel⟩
abbrev s_l_dice : Stmt := topS 17
theorem sc_l_dice : FnScope ["_law_script", "_law_spot_here", "_law_cell", "_law_great", "_law_blend"] ["_law_script", "_law_spot_here"] (defScope s_l_dice) := ⟨rfl, rfl, rfl, by decide +kernel, rfl, by decide +kernel, by decide +kernel⟩
abbrev s_l_roll : Stmt := topS 18
theorem sc_l_roll : FnScope ["_law_dice_here", "_law_upto", "_law_found", "_law_one", "_law_two"] ["_law_dice_here", "_law_upto"] (defScope s_l_roll) := ⟨rfl, rfl, rfl, by decide +kernel, rfl, by decide +kernel, by decide +kernel⟩
abbrev s_l_pick : Stmt := topS 19
theorem sc_l_pick : FnScope ["_law_dice_here", "_law_items"] ["_law_dice_here", "_law_items"] (defScope s_l_pick) := ⟨rfl, rfl, rfl, by decide +kernel, rfl, by decide +kernel, by decide +kernel⟩
abbrev s_l_word : Stmt := topS 20
theorem sc_l_word : FnScope ["_law_dice_here", "_law_turn"] ["_law_dice_here"] (defScope s_l_word) := ⟨rfl, rfl, rfl, by decide +kernel, rfl, by decide +kernel, by decide +kernel⟩
abbrev s_l_index : Stmt := topS 21
theorem sc_l_index : FnScope ["_law_dice_here"] ["_law_dice_here"] (defScope s_l_index) := ⟨rfl, rfl, rfl, by decide +kernel, rfl, by decide +kernel, by decide +kernel⟩
abbrev s_l_spot : Stmt := topS 22
theorem sc_l_spot : FnScope ["_law_dice_here", "_law_words"] ["_law_dice_here", "_law_words"] (defScope s_l_spot) := ⟨rfl, rfl, rfl, by decide +kernel, rfl, by decide +kernel, by decide +kernel⟩
abbrev s_l_different : Stmt := topS 23
theorem sc_l_different : FnScope ["_law_spots"] ["_law_spots"] (defScope s_l_different) := ⟨rfl, rfl, rfl, by decide +kernel, rfl, by decide +kernel, by decide +kernel⟩
abbrev s_l_is_told : Stmt := topS 24
theorem sc_l_is_told : FnScope ["_law_found", "_law_spots", "_law_due", "_law_text", "_law_told", "_law_name", "_law_one", "_law_two", "_law_spot_here"] ["_law_found", "_law_spots"] (defScope s_l_is_told) := ⟨rfl, rfl, rfl, by decide +kernel, rfl, by decide +kernel, by decide +kernel⟩
abbrev s_l_one_by_one : Stmt := topS 25
theorem sc_l_one_by_one : FnScope ["_law_spots"] ["_law_spots"] (defScope s_l_one_by_one) := ⟨rfl, rfl, rfl, by decide +kernel, rfl, by decide +kernel, by decide +kernel⟩
abbrev s_l_signs_right : Stmt := topS 26
theorem sc_l_signs_right : FnScope ["_law_one", "_law_two", "_law_first", "_law_second", "_law_both", "_law_here", "_law_later", "_law_told", "_law_same", "_law_due", "_law_spot_here"] ["_law_one", "_law_two", "_law_first", "_law_second"] (defScope s_l_signs_right) := ⟨rfl, rfl, rfl, by decide +kernel, rfl, by decide +kernel, by decide +kernel⟩
abbrev s_l_met : Stmt := topS 27
theorem sc_l_met : FnScope ["_law_call"] ["_law_call"] (defScope s_l_met) := ⟨rfl, rfl, rfl, by decide +kernel, rfl, by decide +kernel, by decide +kernel⟩
abbrev s_l_odd_spot : Stmt := topS 28
theorem sc_l_odd_spot : FnScope ["_law_dice_here", "_law_spot_here", "_law_name", "_law_one", "_law_two", "_law_odd"] ["_law_dice_here", "_law_spot_here"] (defScope s_l_odd_spot) := ⟨rfl, rfl, rfl, by decide +kernel, rfl, by decide +kernel, by decide +kernel⟩
abbrev s_l_more : Stmt := topS 29
theorem sc_l_more : FnScope ["_law_made", "_law_value", "_law_later"] ["_law_made", "_law_value"] (defScope s_l_more) := ⟨rfl, rfl, rfl, by decide +kernel, rfl, by decide +kernel, by decide +kernel⟩
abbrev s_l_refused : Stmt := topS 30
theorem sc_l_refused : FnScope ["_law_dice_here", "_law_made", "_law_spots", "_law_spot_here", "_law_odd", "_law_at", "_law_bent", "_law_told", "_law_bad", "_law_off"] ["_law_dice_here", "_law_made", "_law_spots", "_law_spot_here"] (defScope s_l_refused) := ⟨rfl, rfl, rfl, by decide +kernel, rfl, by decide +kernel, by decide +kernel⟩
abbrev s_l_right : Stmt := topS 31
theorem sc_l_right : FnScope ["_law_dice_here", "_law_words", "_law_some", "_law_first", "_law_second", "_law_one", "_law_two", "_law_spot_here", "_law_turn"] ["_law_dice_here"] (defScope s_l_right) := ⟨rfl, rfl, rfl, by decide +kernel, rfl, by decide +kernel, by decide +kernel⟩
abbrev s_law : Stmt := topS 32
theorem sc_law : FnScope ["_law_script", "_law_spot_here", "_law_dice_here", "_law_turn", "_law_some", "_law_told"] ["_law_script"] (defScope s_law) := ⟨rfl, rfl, rfl, by decide +kernel, rfl, by decide +kernel, by decide +kernel⟩
structure Txt (K : PySem.W.Frag) (mg : Str → Option Value) where
  c_Sound : Addr
  g_Sound : mg "Sound" = some (.ref c_Sound)
  cl_Sound : Cls K c_Sound
  kC_Sound : PySem.W.keepIn K (.ref c_Sound) = true
  nA_Sound_worth : NoAttr K c_Sound "worth"
  c_Spots : Addr
  g_Spots : mg "Spots" = some (.ref c_Spots)
  cl_Spots : Cls K c_Spots
  kC_Spots : PySem.W.keepIn K (.ref c_Spots) = true
  nA_Spots_spots : NoAttr K c_Spots "_spots"
  mc_Spots : Value
  rd_Spots : ClX.CRead K c_Spots mc_Spots
  c_InvalidSpot : Addr
  g_InvalidSpot : mg "InvalidSpot" = some (.ref c_InvalidSpot)
  x_InvalidSpot : PySem.W.excIn K c_InvalidSpot [.type "ValueError", .type "Exception", .type "BaseException", .type "object"] "ValueError.__new__" = true
  kC_InvalidSpot : PySem.W.keepIn K (.ref c_InvalidSpot) = true
  eb_InvalidSpot : PySem.W.subIn K (.ref c_InvalidSpot) (.type "BaseException") = some true
  et_InvalidSpot : PySem.W.typeIn K (.ref c_InvalidSpot) = some (.type "type")
  ec_InvalidSpot : PySem.W.isClsIn K c_InvalidSpot = true
  es_InvalidSpot : PySem.W.subIn K (.ref c_InvalidSpot) (.ref c_InvalidSpot) = some true
  c_InvalidOperation : Addr
  g_InvalidOperation : mg "InvalidOperation" = some (.ref c_InvalidOperation)
  x_InvalidOperation : PySem.W.excIn K c_InvalidOperation [.type "ValueError", .type "Exception", .type "BaseException", .type "object"] "ValueError.__new__" = true
  kC_InvalidOperation : PySem.W.keepIn K (.ref c_InvalidOperation) = true
  eb_InvalidOperation : PySem.W.subIn K (.ref c_InvalidOperation) (.type "BaseException") = some true
  et_InvalidOperation : PySem.W.typeIn K (.ref c_InvalidOperation) = some (.type "type")
  ec_InvalidOperation : PySem.W.isClsIn K c_InvalidOperation = true
  es_InvalidOperation : PySem.W.subIn K (.ref c_InvalidOperation) (.ref c_InvalidOperation) = some true
  xs_InvalidSpot_InvalidOperation : PySem.W.subIn K (.ref c_InvalidSpot) (.ref c_InvalidOperation) = some false
  xs_InvalidOperation_InvalidSpot : PySem.W.subIn K (.ref c_InvalidOperation) (.ref c_InvalidSpot) = some false
  a_Sound_init : Addr
  fd_Sound_init : FuncData
  F_Sound_init : Fun K "__init__" "Sound.__init__" s_Sound_init a_Sound_init fd_Sound_init
  b_Sound_init : Binds K fd_Sound_init ["self", "worth"] []
  M_Sound : Mk K c_Sound a_Sound_init
  a_Spots_init : Addr
  fd_Spots_init : FuncData
  F_Spots_init : Fun K "__init__" "Spots.__init__" s_Spots_init a_Spots_init fd_Spots_init
  M_Spots : Mk K c_Spots a_Spots_init
  a_Spots_of : Addr
  fd_Spots_of : FuncData
  F_Spots_of : Fun K "of" "Spots.of" s_Spots_of a_Spots_of fd_Spots_of
  b_Spots_of : Binds K fd_Spots_of ["cls", "spots"] []
  q_Spots_of : Addr
  cm_Spots_of : ClX.CMet K c_Spots mc_Spots "of" q_Spots_of a_Spots_of
  a_Spots_listed : Addr
  fd_Spots_listed : FuncData
  F_Spots_listed : Fun K "listed" "Spots.listed" s_Spots_listed a_Spots_listed fd_Spots_listed
  b_Spots_listed : Binds K fd_Spots_listed ["self"] []
  q_Spots_listed : Addr
  p_Spots_listed : PropOf K c_Spots "listed" q_Spots_listed a_Spots_listed
  a_Spots_within : Addr
  fd_Spots_within : FuncData
  F_Spots_within : Fun K "within" "Spots.within" s_Spots_within a_Spots_within fd_Spots_within
  b_Spots_within : Binds K fd_Spots_within ["self", "other"] []
  m_Spots_within : Meth K c_Spots "within" a_Spots_within
  a_Spots_or : Addr
  fd_Spots_or : FuncData
  F_Spots_or : Fun K "__or__" "Spots.__or__" s_Spots_or a_Spots_or fd_Spots_or
  b_Spots_or : Binds K fd_Spots_or ["self", "other"] []
  m_Spots_or : Meth K c_Spots "__or__" a_Spots_or
  a_Spots_and : Addr
  fd_Spots_and : FuncData
  F_Spots_and : Fun K "__and__" "Spots.__and__" s_Spots_and a_Spots_and fd_Spots_and
  b_Spots_and : Binds K fd_Spots_and ["self", "other"] []
  m_Spots_and : Meth K c_Spots "__and__" a_Spots_and
  a_Spots_sub : Addr
  fd_Spots_sub : FuncData
  F_Spots_sub : Fun K "__sub__" "Spots.__sub__" s_Spots_sub a_Spots_sub fd_Spots_sub
  b_Spots_sub : Binds K fd_Spots_sub ["self", "other"] []
  m_Spots_sub : Meth K c_Spots "__sub__" a_Spots_sub
  a_Spots_len : Addr
  fd_Spots_len : FuncData
  F_Spots_len : Fun K "__len__" "Spots.__len__" s_Spots_len a_Spots_len fd_Spots_len
  b_Spots_len : Binds K fd_Spots_len ["self"] []
  m_Spots_len : Meth K c_Spots "__len__" a_Spots_len
  a_Spots_bool : Addr
  fd_Spots_bool : FuncData
  F_Spots_bool : Fun K "__bool__" "Spots.__bool__" s_Spots_bool a_Spots_bool fd_Spots_bool
  b_Spots_bool : Binds K fd_Spots_bool ["self"] []
  m_Spots_bool : Meth K c_Spots "__bool__" a_Spots_bool
  a_Spots_iter : Addr
  fd_Spots_iter : FuncData
  F_Spots_iter : Fun K "__iter__" "Spots.__iter__" s_Spots_iter a_Spots_iter fd_Spots_iter
  b_Spots_iter : Binds K fd_Spots_iter ["self"] []
  m_Spots_iter : Meth K c_Spots "__iter__" a_Spots_iter
  a_Spots_contains : Addr
  fd_Spots_contains : FuncData
  F_Spots_contains : Fun K "__contains__" "Spots.__contains__" s_Spots_contains a_Spots_contains fd_Spots_contains
  b_Spots_contains : Binds K fd_Spots_contains ["self", "value"] []
  m_Spots_contains : Meth K c_Spots "__contains__" a_Spots_contains
  a_Spots_eq : Addr
  fd_Spots_eq : FuncData
  F_Spots_eq : Fun K "__eq__" "Spots.__eq__" s_Spots_eq a_Spots_eq fd_Spots_eq
  b_Spots_eq : Binds K fd_Spots_eq ["self", "other"] []
  m_Spots_eq : Meth K c_Spots "__eq__" a_Spots_eq
  a_Spots_str : Addr
  fd_Spots_str : FuncData
  F_Spots_str : Fun K "__str__" "Spots.__str__" s_Spots_str a_Spots_str fd_Spots_str
  b_Spots_str : Binds K fd_Spots_str ["self"] []
  m_Spots_str : Meth K c_Spots "__str__" a_Spots_str
  a_is_name : Addr
  fd_is_name : FuncData
  F_is_name : Fun K "is_name" "is_name" s_is_name a_is_name fd_is_name
  b_is_name : Binds K fd_is_name ["value"] []
  g_is_name : mg "is_name" = some (.ref a_is_name)
  a_is_whole : Addr
  fd_is_whole : FuncData
  F_is_whole : Fun K "is_whole" "is_whole" s_is_whole a_is_whole fd_is_whole
  b_is_whole : Binds K fd_is_whole ["value"] []
  g_is_whole : mg "is_whole" = some (.ref a_is_whole)
  a_checked_spots : Addr
  fd_checked_spots : FuncData
  F_checked_spots : Fun K "_checked_spots" "_checked_spots" s_checked_spots a_checked_spots fd_checked_spots
  b_checked_spots : Binds K fd_checked_spots ["spots"] []
  g_checked_spots : mg "_checked_spots" = some (.ref a_checked_spots)
  a_is_spot : Addr
  fd_is_spot : FuncData
  F_is_spot : Fun K "_is_spot" "_is_spot" s_is_spot a_is_spot fd_is_spot
  b_is_spot : Binds K fd_is_spot ["value"] []
  g_is_spot : mg "_is_spot" = some (.ref a_is_spot)
  a_check_is_spots : Addr
  fd_check_is_spots : FuncData
  F_check_is_spots : Fun K "_check_is_spots" "_check_is_spots" s_check_is_spots a_check_is_spots fd_check_is_spots
  b_check_is_spots : Binds K fd_check_is_spots ["value"] []
  g_check_is_spots : mg "_check_is_spots" = some (.ref a_check_is_spots)
  a_spot_text : Addr
  fd_spot_text : FuncData
  F_spot_text : Fun K "_spot_text" "_spot_text" s_spot_text a_spot_text fd_spot_text
  b_spot_text : Binds K fd_spot_text ["spot"] []
  g_spot_text : mg "_spot_text" = some (.ref a_spot_text)
  a_l_dice : Addr
  fd_l_dice : FuncData
  F_l_dice : Fun K "_law_dice" "_law_dice" s_l_dice a_l_dice fd_l_dice
  b_l_dice : Binds K fd_l_dice ["_law_script", "_law_spot_here"] []
  g_l_dice : mg "_law_dice" = some (.ref a_l_dice)
  a_l_roll : Addr
  fd_l_roll : FuncData
  F_l_roll : Fun K "_law_roll" "_law_roll" s_l_roll a_l_roll fd_l_roll
  b_l_roll : Binds K fd_l_roll ["_law_dice_here", "_law_upto"] []
  g_l_roll : mg "_law_roll" = some (.ref a_l_roll)
  a_l_pick : Addr
  fd_l_pick : FuncData
  F_l_pick : Fun K "_law_pick" "_law_pick" s_l_pick a_l_pick fd_l_pick
  b_l_pick : Binds K fd_l_pick ["_law_dice_here", "_law_items"] []
  g_l_pick : mg "_law_pick" = some (.ref a_l_pick)
  a_l_word : Addr
  fd_l_word : FuncData
  F_l_word : Fun K "_law_word" "_law_word" s_l_word a_l_word fd_l_word
  b_l_word : Binds K fd_l_word ["_law_dice_here"] []
  g_l_word : mg "_law_word" = some (.ref a_l_word)
  a_l_index : Addr
  fd_l_index : FuncData
  F_l_index : Fun K "_law_index" "_law_index" s_l_index a_l_index fd_l_index
  b_l_index : Binds K fd_l_index ["_law_dice_here"] []
  g_l_index : mg "_law_index" = some (.ref a_l_index)
  a_l_spot : Addr
  fd_l_spot : FuncData
  F_l_spot : Fun K "_law_spot" "_law_spot" s_l_spot a_l_spot fd_l_spot
  b_l_spot : Binds K fd_l_spot ["_law_dice_here", "_law_words"] []
  g_l_spot : mg "_law_spot" = some (.ref a_l_spot)
  a_l_different : Addr
  fd_l_different : FuncData
  F_l_different : Fun K "_law_different" "_law_different" s_l_different a_l_different fd_l_different
  b_l_different : Binds K fd_l_different ["_law_spots"] []
  g_l_different : mg "_law_different" = some (.ref a_l_different)
  a_l_is_told : Addr
  fd_l_is_told : FuncData
  F_l_is_told : Fun K "_law_is_told" "_law_is_told" s_l_is_told a_l_is_told fd_l_is_told
  b_l_is_told : Binds K fd_l_is_told ["_law_found", "_law_spots"] []
  g_l_is_told : mg "_law_is_told" = some (.ref a_l_is_told)
  a_l_one_by_one : Addr
  fd_l_one_by_one : FuncData
  F_l_one_by_one : Fun K "_law_one_by_one" "_law_one_by_one" s_l_one_by_one a_l_one_by_one fd_l_one_by_one
  b_l_one_by_one : Binds K fd_l_one_by_one ["_law_spots"] []
  g_l_one_by_one : mg "_law_one_by_one" = some (.ref a_l_one_by_one)
  a_l_signs_right : Addr
  fd_l_signs_right : FuncData
  F_l_signs_right : Fun K "_law_signs_right" "_law_signs_right" s_l_signs_right a_l_signs_right fd_l_signs_right
  b_l_signs_right : Binds K fd_l_signs_right ["_law_one", "_law_two", "_law_first", "_law_second"] []
  g_l_signs_right : mg "_law_signs_right" = some (.ref a_l_signs_right)
  a_l_met : Addr
  fd_l_met : FuncData
  F_l_met : Fun K "_law_met" "_law_met" s_l_met a_l_met fd_l_met
  b_l_met : Binds K fd_l_met ["_law_call"] []
  g_l_met : mg "_law_met" = some (.ref a_l_met)
  a_l_odd_spot : Addr
  fd_l_odd_spot : FuncData
  F_l_odd_spot : Fun K "_law_odd_spot" "_law_odd_spot" s_l_odd_spot a_l_odd_spot fd_l_odd_spot
  b_l_odd_spot : Binds K fd_l_odd_spot ["_law_dice_here", "_law_spot_here"] []
  g_l_odd_spot : mg "_law_odd_spot" = some (.ref a_l_odd_spot)
  a_l_more : Addr
  fd_l_more : FuncData
  F_l_more : Fun K "_law_more" "_law_more" s_l_more a_l_more fd_l_more
  b_l_more : Binds K fd_l_more ["_law_made", "_law_value"] []
  g_l_more : mg "_law_more" = some (.ref a_l_more)
  a_l_refused : Addr
  fd_l_refused : FuncData
  F_l_refused : Fun K "_law_refused" "_law_refused" s_l_refused a_l_refused fd_l_refused
  b_l_refused : Binds K fd_l_refused ["_law_dice_here", "_law_made", "_law_spots", "_law_spot_here"] []
  cb_l_refused : Addr
  tp_l_refused : Addr
  FC_l_refused : Kit.FunC K "_law_refused" "_law_refused" s_l_refused a_l_refused fd_l_refused cb_l_refused
  tn_l_refused : K.lookup tp_l_refused = none
  g_l_refused : mg "_law_refused" = some (.ref a_l_refused)
  a_l_right : Addr
  fd_l_right : FuncData
  F_l_right : Fun K "_law_right" "_law_right" s_l_right a_l_right fd_l_right
  b_l_right : Binds K fd_l_right ["_law_dice_here"] []
  g_l_right : mg "_law_right" = some (.ref a_l_right)
  a_law : Addr
  fd_law : FuncData
  F_law : Fun K "law" "law" s_law a_law fd_law
  b_law : Binds K fd_law ["_law_script"] []
  g_law : mg "law" = some (.ref a_law)
  is_Sound : Kit.IsC K c_Sound
  fo_Sound : ∀ n ∈ Kit.BT, PySem.W.kitOne K (.type n) (.ref c_Sound) = some false ∧ PySem.W.notFirst K c_Sound (.type n) = true
  sf_Spots : PySem.W.selfFirst K c_Spots = true
  ni_Spots : Kit.noIp K c_Spots "__ior__" = true
  ro_Spots_or : PySem.W.findIn K (.ref c_Spots) "__ror__" = some none
  ro_Spots_and : PySem.W.findIn K (.ref c_Spots) "__rand__" = some none
  ro_Spots_sub : PySem.W.findIn K (.ref c_Spots) "__rsub__" = some none
  kk_Spots_tuple : PySem.W.kitOne K (.ref c_Spots) (.type "tuple") = some false
  eq_Spots : Kit.EqC K c_Spots a_Spots_eq
  is_Spots : Kit.IsC K c_Spots
  fo_Spots : ∀ n ∈ Kit.BT, PySem.W.kitOne K (.type n) (.ref c_Spots) = some false ∧ PySem.W.notFirst K c_Spots (.type n) = true
  t_LONGEST_NAME : Tok
  m_LONGEST_NAME : mg "_LONGEST_NAME" = some (.int 8 t_LONGEST_NAME)
  n_isinstance : mg "isinstance" = none
  n_len : mg "len" = none
  n_classmethod : mg "classmethod" = none
  n_tuple : mg "tuple" = none
  n_property : mg "property" = none
  n_all : mg "all" = none
  n_sorted : mg "sorted" = none
  n_set : mg "set" = none
  n_bool : mg "bool" = none
  n_iter : mg "iter" = none
  n_str : mg "str" = none
  n_int : mg "int" = none
  n_max : mg "max" = none
  n_abs : mg "abs" = none
  n_range : mg "range" = none
  n_repr : mg "repr" = none
  n_list : mg "list" = none
  n_min : mg "min" = none
def TQ {K : PySem.W.Frag} {mg : Str → Option Value} (T : Txt K mg) : List (Str × Addr × Addr) := [(("_law_refused" : Str), T.cb_l_refused, T.tp_l_refused)]
def MT {K : PySem.W.Frag} {mg : Str → Option Value} (T : Txt K mg) : Tab := [(.ref T.c_InvalidSpot, T.c_InvalidSpot, true), (.ref T.c_InvalidSpot, T.c_InvalidOperation, false), (.ref T.c_InvalidOperation, T.c_InvalidSpot, false), (.ref T.c_InvalidOperation, T.c_InvalidOperation, true)]
theorem mt_ok {K : PySem.W.Frag} {mg : Str → Option Value} (T : Txt K mg) : ∀ p ∈ MT T, PySem.W.exmOne K p.1 (.ref p.2.1) = some p.2.2 := fun p hp => by
  simp only [MT, List.mem_cons, List.not_mem_nil, or_false] at hp
  rcases hp with rfl | rfl | rfl | rfl
  · exact exm_of T.eb_InvalidSpot T.ec_InvalidSpot T.et_InvalidSpot T.es_InvalidSpot
  · exact exm_of T.eb_InvalidOperation T.ec_InvalidOperation T.et_InvalidOperation T.xs_InvalidSpot_InvalidOperation
  · exact exm_of T.eb_InvalidSpot T.ec_InvalidSpot T.et_InvalidSpot T.xs_InvalidOperation_InvalidSpot
  · exact exm_of T.eb_InvalidOperation T.ec_InvalidOperation T.et_InvalidOperation T.es_InvalidOperation
def TB {K : PySem.W.Frag} {mg : Str → Option Value} (T : Txt K mg) : List (Addr × Str) := [(T.tp_l_refused, Str.ofString "_law_refused" ++ ".<locals>." ++ "<lambda>")]
theorem tbq_l_refused {K : PySem.W.Frag} {mg : Str → Option Value} (T : Txt K mg) : (("_law_refused" : Str), T.cb_l_refused, T.tp_l_refused) ∈ TQ T := by simp [TQ]
theorem tbm_l_refused {K : PySem.W.Frag} {mg : Str → Option Value} (T : Txt K mg) : (T.tp_l_refused, Str.ofString "_law_refused" ++ ".<locals>." ++ "<lambda>") ∈ TB T := by simp [TB]
theorem tbu_l_refused {K : PySem.W.Frag} {mg : Str → Option Value} (T : Txt K mg) : ∀ p ∈ TB T, p.1 = T.tp_l_refused → p.2 = Str.ofString "_law_refused" ++ ".<locals>." ++ "<lambda>" := fun p hp _ => by rw [List.mem_singleton.mp hp]
-- SPLIT
/-! ### names, whole numbers -/
def LET : Str := "abcdefghijklmnopqrstuvwxyz"
def nameS (z : Str) : Bool := decide (1 ≤ (z.length : Int)) && decide ((z.length : Int) ≤ 8) && z.cps.toList.all fun c => decide (c ∈ LET.cps.toList)
def nameD : D → Bool
  | .str z => nameS z
  | _ => false
theorem names_ok : (LET.cps.toList.all fun c => decide (c < 0x110000)) = true := by decide +kernel
theorem name_str {z : Str} (h : nameS z = true) : PyData.strOk z = true := by
  rw [nameS, Bool.and_eq_true, Bool.and_eq_true] at h
  unfold PyData.strOk
  rw [← Array.all_toList, List.all_eq_true]
  intro c hc
  have a := of_decide_eq_true (List.all_eq_true.mp h.2 c hc)
  exact List.all_eq_true.mp names_ok c a
theorem name_len {z : Str} (h : nameS z = true) : 1 ≤ z.length ∧ z.length ≤ 8 := by
  rw [nameS, Bool.and_eq_true, Bool.and_eq_true] at h
  have a := of_decide_eq_true h.1.2
  have b := of_decide_eq_true h.1.1
  omega
theorem let_low : ∀ c, c < 128 → (PySem.Unicode.isAlpha c && !(PySem.Unicode.isUpper c || PySem.Unicode.isTitle c)) = decide (c ∈ LET.cps.toList) := by decide +kernel
theorem let_small : ∀ c ∈ LET.cps.toList, c < 128 := by decide +kernel
theorem low_low : ∀ c ∈ LET.cps.toList, PySem.Unicode.isLower c = true := by decide +kernel
theorem nameS_met {z : Str} (h1 : 1 ≤ z.length) (h8 : z.length ≤ 8) : nameS z = (Txt.isascii z && Txt.isalpha z && Txt.islower z) := by
  rw [nameS, decide_eq_true (show 1 ≤ (z.length : Int) by omega), decide_eq_true (show (z.length : Int) ≤ 8 by omega), Bool.true_and, Bool.true_and]
  show _ = (z.cps.all (fun c => decide (c < 128)) && (decide (z.length > 0) && z.cps.all PySem.Unicode.isAlpha) && (z.cps.any PySem.Unicode.isLower && !z.cps.any fun c => PySem.Unicode.isUpper c || PySem.Unicode.isTitle c))
  rw [decide_eq_true (show z.length > 0 by omega), Bool.true_and, ← Array.all_toList, ← Array.all_toList, ← Array.any_toList, ← Array.any_toList, Bool.eq_iff_iff]
  simp only [Bool.and_eq_true, List.all_eq_true, Bool.not_eq_true', List.any_eq_false, List.any_eq_true, decide_eq_true_eq]
  constructor
  · intro h
    have h0 : ∀ c ∈ z.cps.toList, (PySem.Unicode.isAlpha c && !(PySem.Unicode.isUpper c || PySem.Unicode.isTitle c)) = true := fun c hc => by
      rw [let_low c (let_small c (h c hc))]
      exact decide_eq_true (h c hc)
    refine ⟨⟨fun c hc => let_small c (h c hc), fun c hc => (Bool.and_eq_true _ _ ▸ h0 c hc).1⟩, ?_, fun c hc => ?_⟩
    · have hz : 0 < z.cps.toList.length := by
        rw [Array.length_toList]
        exact h1
      exact ⟨z.cps.toList[0], List.getElem_mem hz, low_low _ (h _ (List.getElem_mem hz))⟩
    · have k := h0 c hc
      rw [Bool.and_eq_true] at k
      have k2 := nb k.2
      rw [k2]
      exact Bool.false_ne_true
  · rintro ⟨⟨h1, h2⟩, _, h3⟩ c hc
    have k := let_low c (h1 c hc)
    have k3 : (PySem.Unicode.isUpper c || PySem.Unicode.isTitle c) = false := nt (h3 c hc)
    rw [h2 c hc, k3] at k
    exact of_decide_eq_true k.symm
section
variable {P : Program} {w : World} {K : PySem.W.Frag} {mg : Str → Option Value} {base : Heap}
/-- a thing of a built-in kind, a text not too long -/
def kindD (x : D) : Prop := match x with | .str z => fit z.length | x => kB x
theorem kindD.k {x : D} (h : kindD x) : kB x := by
  cases x <;> first | trivial | exact h.elim
abbrev p_is_name : DF := sp1 fun a q _ => kindD a ∧ q (.bl (nameD a))
theorem ok_is_name (T : Txt K mg) : FnOk P w K mg base CX0 1 T.a_is_name T.fd_is_name ["value"] (toSp0 K (TB T) p_is_name) := by
  refine okD0 (n := 0) T.F_is_name sc_is_name rfl (fun ds q e h => sp1_len ds q e h) (fun cdv A outer s H E hr => (dss_cons (ds_if (PW.pt (dw_or (dt_not (dt_val (DE.s (d_callB (pe_callB (show CallR _ (.builtin "isinstance") (rIsi K) from call_isi) (by rfl) T.n_isinstance (by decide +kernel) (das_cons (DE.s (d_var (pv 0))) (das_cons (DE.s (d_raw (pe_bltn (v := .ty "str") (by rfl) T.n_str (by decide +kernel) rfl))) das_nil))) (f_isi (cs := [])  tell_str  (fun C m => (List.not_mem_nil m).elim)))) (by intro _; rfl))) (dw_or1 (dt_not (dt_chain op_le op_le f_cmpI f_cmpI (DE.s d_int) (DE.s (d_callB (pe_callB call_len (by rfl) T.n_len (by decide +kernel) (das_cons (DE.s (d_var (pv 0))) das_nil)) f_len)) (DE.s (d_c (pe_glob (v := .int 8) rfl T.m_LONGEST_NAME ⟨_, rfl⟩) (fun _ => .int _))) (pt_chain op_le op_le (DE.s d_int) (DE.s (d_callB (pe_callB call_len (by rfl) T.n_len (by decide +kernel) (das_cons (DE.s (d_var (pv 0))) das_nil)) f_len)) (DE.s (d_c (pe_glob (v := .int 8) rfl T.m_LONGEST_NAME ⟨_, rfl⟩) (fun _ => .int _))))))))) (dss_one (ds_ret d_bl)) dss_nil)
      (dss_one (ds_ret (d_and (DE.s (d_sm (f := Txt.isascii) rfl (pe_bm0 PySem.F.plainAttrs_str PySem.F.slot_str_isascii PySem.F.type_str_isascii mt_isascii (DE.s (d_var (pv 0)))))) (d_and (DE.s (d_sm (f := Txt.isalpha) rfl (pe_bm0 PySem.F.plainAttrs_str PySem.F.slot_str_isalpha PySem.F.type_str_isalpha mt_isalpha (DE.s (d_var (pv 0)))))) (d_one (d_sm (f := Txt.islower) rfl (pe_bm0 PySem.F.plainAttrs_str PySem.F.slot_str_islower PySem.F.type_str_islower mt_islower (DE.s (d_var (pv 0)))))))))))) ?_
  refine sp1_by0 fun a q ⟨ht, hq⟩ => ?_
  cases a with
  | str z =>
    (dsimp only [xsSeq, xsNil, xsRet, xsRetN, xsDrop, xsSet, xsOwn, xsIf, xsFrz, xsApp, xsMany, xsAsg, xsAug, xsRaise, xsPut, xVar, xNow, xC, xList, xOp, xUn, xOpN, xNil, xCons, xStar, xSeqOf, xCB, xCBN, xIf, xAnd, xOr, xNot, xtAnd, xtOr, xtNot, xtVal, xtTru, truD, xChain, xTup, xLst, xCall, xCall0, xFld, xOwnF, xMeth, xMeth0, xProp, xMake, xMakeS, xCMeth, xSl, xoNone, xoSome, xJoin, xSm, xFmt, xJs, xRev, xnSl, fAdd, nAdd, fSub, fMul, fMod, fPow, fFdiv, fNeg, fCmpI, fEq, fNe, fEqNil, fNeNil, fIs, fIsnt, DL.isNon, noRaw, fIn, fNotIn, fIx, fSl, fLen, fAbs, fMax, fMin, fInt, fStr, nList, fTuple, fAll, fAny, fSum, fRepr, fIsi, fIsO, fEqO, fNeO, sideOk, fInO, fNotInO, fIxO, fIxO0, fUnO, fBinO, fBinO0, fLenO, fStrO, fBoolO, fBool, asBl, xgName, xgNil, xgCons, xgTup, startD, startI, endK, endI, getV, setV, setVs, xmNil, xmVal, xmOwn, noV, List.length_cons, List.length_nil, Bool.not_true, Bool.not_false, xLc, xiLst, xiTup, xiRng1, xiRng2, xiStr, xiEnum, xiZip, xsFor, xsWhile, xtYes, ifB_tt, ifB_ff, kB, isIntD, isBoolD, isStrD, isTupD, isLstD, isDctD, xlStep, wipeD, List.map, fBinU, xDct0]; try simp only [eq_self_iff_true, true_and, and_true])
    refine ⟨ht, ifB_of (fun e1 => ifB_of (fun e2 => ?_) fun e2 => ?_) fun e1 => ?_⟩
    · have n : nameS z = false := by rw [nameS, nb e2, Bool.and_false, Bool.false_and]
      rw [nameD, n] at hq
      exact hq
    · have h1 : 1 ≤ (z.length : Int) := of_decide_eq_true e1
      have h8 : (z.length : Int) ≤ 8 := of_decide_eq_true (nnb (fun z => by rw [e2] at z; cases z))
      rw [nameD, nameS_met (by omega) (by omega)] at hq
      refine ifB_of (fun e3 => ifB_of (fun e4 => ?_) fun e4 => ?_) fun e3 => ?_
      · rw [e3, e4] at hq
        exact hq
      · rw [e3, e4] at hq
        exact hq
      · rw [e3] at hq
        exact hq
    · have n : nameS z = false := by rw [nameS, e1]; rfl
      rw [nameD, n] at hq
      exact hq
  | _ => first | exact ht.elim | ((dsimp only [xsSeq, xsNil, xsRet, xsRetN, xsDrop, xsSet, xsOwn, xsIf, xsFrz, xsApp, xsMany, xsAsg, xsAug, xsRaise, xsPut, xVar, xNow, xC, xList, xOp, xUn, xOpN, xNil, xCons, xStar, xSeqOf, xCB, xCBN, xIf, xAnd, xOr, xNot, xtAnd, xtOr, xtNot, xtVal, xtTru, truD, xChain, xTup, xLst, xCall, xCall0, xFld, xOwnF, xMeth, xMeth0, xProp, xMake, xMakeS, xCMeth, xSl, xoNone, xoSome, xJoin, xSm, xFmt, xJs, xRev, xnSl, fAdd, nAdd, fSub, fMul, fMod, fPow, fFdiv, fNeg, fCmpI, fEq, fNe, fEqNil, fNeNil, fIs, fIsnt, DL.isNon, noRaw, fIn, fNotIn, fIx, fSl, fLen, fAbs, fMax, fMin, fInt, fStr, nList, fTuple, fAll, fAny, fSum, fRepr, fIsi, fIsO, fEqO, fNeO, sideOk, fInO, fNotInO, fIxO, fIxO0, fUnO, fBinO, fBinO0, fLenO, fStrO, fBoolO, fBool, asBl, xgName, xgNil, xgCons, xgTup, startD, startI, endK, endI, getV, setV, setVs, xmNil, xmVal, xmOwn, noV, List.length_cons, List.length_nil, Bool.not_true, Bool.not_false, xLc, xiLst, xiTup, xiRng1, xiRng2, xiStr, xiEnum, xiZip, xsFor, xsWhile, xtYes, ifB_tt, ifB_ff, kB, isIntD, isBoolD, isStrD, isTupD, isLstD, isDctD, xlStep, wipeD, List.map, fBinU, xDct0]; try simp only [eq_self_iff_true, true_and, and_true]); exact hq)
def wholeD : D → Bool
  | .int _ => true
  | _ => false
abbrev p_is_whole : DF := sp1 fun a q _ => kB a ∧ q (.bl (wholeD a))
theorem ok_is_whole (T : Txt K mg) : FnOk P w K mg base CX0 1 T.a_is_whole T.fd_is_whole ["value"] (toSp0 K (TB T) p_is_whole) := by
  refine okD0 (n := 0) T.F_is_whole sc_is_whole rfl (fun ds q e h => sp1_len ds q e h) (fun cdv A outer s H E hr => (dss_one (ds_ret (d_and (DE.s (d_callB (pe_callB (show CallR _ (.builtin "isinstance") (rIsi K) from call_isi) (by rfl) T.n_isinstance (by decide +kernel) (das_cons (DE.s (d_var (pv 0))) (das_cons (DE.s (d_raw (pe_bltn (v := .ty "int") (by rfl) T.n_int (by decide +kernel) rfl))) das_nil))) (f_isi (cs := [])  tell_int  (fun C m => (List.not_mem_nil m).elim)))) (d_one (d_not (DE.s (d_callB (pe_callB (show CallR _ (.builtin "isinstance") (rIsi K) from call_isi) (by rfl) T.n_isinstance (by decide +kernel) (das_cons (DE.s (d_var (pv 0))) (das_cons (DE.s (d_raw (pe_bltn (v := .ty "bool") (by rfl) T.n_bool (by decide +kernel) rfl))) das_nil))) (f_isi (cs := [])  tell_bool  (fun C m => (List.not_mem_nil m).elim)))))))))) ?_
  refine sp1_by0 fun a q ⟨ht, hq⟩ => ?_
  cases a with
  | _ => first | ((dsimp only [xsSeq, xsNil, xsRet, xsRetN, xsDrop, xsSet, xsOwn, xsIf, xsFrz, xsApp, xsMany, xsAsg, xsAug, xsRaise, xsPut, xVar, xNow, xC, xList, xOp, xUn, xOpN, xNil, xCons, xStar, xSeqOf, xCB, xCBN, xIf, xAnd, xOr, xNot, xtAnd, xtOr, xtNot, xtVal, xtTru, truD, xChain, xTup, xLst, xCall, xCall0, xFld, xOwnF, xMeth, xMeth0, xProp, xMake, xMakeS, xCMeth, xSl, xoNone, xoSome, xJoin, xSm, xFmt, xJs, xRev, xnSl, fAdd, nAdd, fSub, fMul, fMod, fPow, fFdiv, fNeg, fCmpI, fEq, fNe, fEqNil, fNeNil, fIs, fIsnt, DL.isNon, noRaw, fIn, fNotIn, fIx, fSl, fLen, fAbs, fMax, fMin, fInt, fStr, nList, fTuple, fAll, fAny, fSum, fRepr, fIsi, fIsO, fEqO, fNeO, sideOk, fInO, fNotInO, fIxO, fIxO0, fUnO, fBinO, fBinO0, fLenO, fStrO, fBoolO, fBool, asBl, xgName, xgNil, xgCons, xgTup, startD, startI, endK, endI, getV, setV, setVs, xmNil, xmVal, xmOwn, noV, List.length_cons, List.length_nil, Bool.not_true, Bool.not_false, xLc, xiLst, xiTup, xiRng1, xiRng2, xiStr, xiEnum, xiZip, xsFor, xsWhile, xtYes, ifB_tt, ifB_ff, kB, isIntD, isBoolD, isStrD, isTupD, isLstD, isDctD, xlStep, wipeD, List.map, fBinU, xDct0]; try simp only [eq_self_iff_true, true_and, and_true]); exact hq) | exact ht.elim
end
-- SPLIT
/-! ### spots -/
structure Spt where
  nm : Str
  one : Int
  two : Int
  deriving DecidableEq
def spL (z : Spt) : List D := [.str z.nm, .int z.one, .int z.two]
def spD (z : Spt) : D := .tup (spL z)
def spK (z : Spt) : NestedKey := .tup [.text z.nm, .num z.one, .num z.two]
def spP (z : Spt) : PyData := (spK z).data
theorem spK_py (z : Spt) : (D.tup (spL z)).py = some (spK z).data := rfl
theorem spK_dep (z : Spt) : (spK z).depth ≤ 8 ∧ (spK z).data.depth ≤ 60 := by
  constructor
  · unfold spK
    simp [NestedKey.depth, NestedKey.depthAll]
  · rw [show (spK z).data = .tuple [.str z.nm, .int z.one, .int z.two] from rfl]
    simp [PyData.depth, PyData.depthAll]
theorem spK_inj (x y : Spt) (h : spK x = spK y) : x = y := by
  unfold spK at h
  injection h with h
  injection h with a h
  injection h with b h
  injection h with c h
  injection a with a
  injection b with b
  injection c with c
  cases x
  cases y
  simp_all
def idxD : D → Bool
  | .int i => decide (0 ≤ i)
  | _ => false
def isSpot : D → Bool
  | .tup [n, i, j] => nameD n && (idxD i && idxD j)
  | _ => false
def okS (z : Spt) : Prop := nameS z.nm = true ∧ 0 ≤ z.one ∧ 0 ≤ z.two
theorem spot_of {x : D} (h : isSpot x = true) : ∃ z, x = spD z ∧ okS z := by
  unfold isSpot at h
  split at h
  · next n i j =>
    rw [Bool.and_eq_true, Bool.and_eq_true] at h
    obtain ⟨a, b, c⟩ := h
    cases n <;> try (cases a; done)
    cases i <;> try (cases b; done)
    cases j <;> try (cases c; done)
    next n i j => exact ⟨⟨n, i, j⟩, rfl, a, of_decide_eq_true b, of_decide_eq_true c⟩
  · cases h
theorem spots_of_all : ∀ xs : List D, xs.all isSpot = true → ∃ zs : List Spt, xs = zs.map spD ∧ ∀ z ∈ zs, okS z
  | [], _ => ⟨[], rfl, fun z hz => by cases hz⟩
  | x :: xs, h => by
    rw [List.all_cons, Bool.and_eq_true] at h
    obtain ⟨zs, rfl, hz⟩ := spots_of_all xs h.2
    obtain ⟨y, rfl, hy⟩ := spot_of h.1
    refine ⟨y :: zs, rfl, fun z hm => ?_⟩
    rcases List.mem_cons.mp hm with rfl | hm
    · exact hy
    · exact hz z hm
theorem alike_sp (x y : Spt) : PySem.W.alike (spP x) (spP y) = true := rfl
theorem isSpot_sp {z : Spt} (h : okS z) : isSpot (spD z) = true := by
  show (nameS z.nm && (decide (0 ≤ z.one) && decide (0 ≤ z.two))) = true
  rw [h.1, decide_eq_true h.2.1, decide_eq_true h.2.2]
  rfl
theorem eq_sp (a b : Spt) : eqD (spD a) (spD b) = decide (a = b) := by
  cases a
  cases b
  simp only [spD, spL, eqD, eqDs, Spt.mk.injEq, Bool.decide_and, Bool.and_true, beq_dec]
theorem plain_sp {z : Spt} (h : okS z) : Plain 1 (spD z) := by
  unfold spD spL Plain
  intro x hx
  simp only [List.mem_cons, List.not_mem_nil, or_false] at hx
  rcases hx with rfl | rfl | rfl
  · unfold Plain
    exact name_str h.1
  · unfold Plain
    trivial
  · unfold Plain
    trivial
theorem plain_sps {us : List Spt} (h : ∀ z ∈ us, okS z) : Plain 2 (.tup (us.map spD)) := by
  unfold Plain
  intro x hx
  obtain ⟨z, hz, rfl⟩ := List.mem_map.mp hx
  exact plain_sp (h z hz)
theorem has_sp (us : List Spt) (b : Spt) : ((us.map spD).any fun z => eqD z (spD b)) = decide (b ∈ us) := by
  rw [List.any_map, Bool.eq_iff_iff, List.any_eq_true, decide_eq_true_eq]
  constructor
  · rintro ⟨x, hx, h⟩
    have h : eqD (spD x) (spD b) = true := h
    rw [eq_sp, decide_eq_true_eq] at h
    exact h ▸ hx
  · intro h
    refine ⟨b, h, ?_⟩
    show eqD (spD b) (spD b) = true
    rw [eq_sp, decide_eq_true_eq]
/-- a thing that may be asked whether it is a spot -/
def askOk (x : D) : Prop := match x with | .tup xs => ∀ y ∈ xs, kindD y | x => kB x
theorem askOk.k {x : D} (h : askOk x) : kB x := by
  cases x <;> first | trivial | exact h.elim
section
variable {P : Program} {w : World} {K : PySem.W.Frag} {mg : Str → Option Value} {base : Heap}
abbrev p_is_spot : DF := sp1 fun a q _ => askOk a ∧ q (.bl (isSpot a))
theorem ok_is_spot (T : Txt K mg) : FnOk P w K mg base CX0 4 T.a_is_spot T.fd_is_spot ["value"] (toSp0 K (TB T) p_is_spot) := by
  have G_is_name : FnOk P w K mg base CX0 1 T.a_is_name T.fd_is_name ["value"] (toSp0 K (TB T) p_is_name) := ok_is_name T
  have G_is_whole : FnOk P w K mg base CX0 1 T.a_is_whole T.fd_is_whole ["value"] (toSp0 K (TB T) p_is_whole) := ok_is_whole T
  refine okD0 (n := 1) T.F_is_spot sc_is_spot rfl (fun ds q e h => sp1_len ds q e h) (fun cdv A outer s H E hr => (dss_cons (ds_if (PW.pt (dw_or (dt_not (dt_val (DE.s (d_callB (pe_callB (show CallR _ (.builtin "isinstance") (rIsi K) from call_isi) (by rfl) T.n_isinstance (by decide +kernel) (das_cons (DE.s (d_var (pv 0))) (das_cons (DE.s (d_raw (pe_bltn (v := .ty "tuple") (by rfl) T.n_tuple (by decide +kernel) rfl))) das_nil))) (f_isi (cs := [])  tell_tuple  (fun C m => (List.not_mem_nil m).elim)))) (by intro _; rfl))) (dw_or (dt_cmp (show OpR _ (compareOp .NotEq) (rNeU K) from o_ne hr.units) f_ne (DE.s (d_callB (pe_callB call_len (by rfl) T.n_len (by decide +kernel) (das_cons (DE.s (d_var (pv 0))) das_nil)) f_len)) (DE.s d_int) (nomark _)) (dw_or1 (dt_not (dt_val (DE.s (d_call0 (pe_call G_is_name (hr.mono (by decide)) (by rfl) T.g_is_name T.F_is_name.kp T.b_is_name .nil pass0 (da_cons (d_ix o_ix f_ix (DE.s (d_var (pv 0))) (DE.s d_int) (fun _ _ => rfl)) da_nil)))) (by intro _; rfl))))))) (dss_one (ds_ret d_bl)) dss_nil)
      (dss_one (ds_ret (d_callB (pe_callB (cr_all rfl) (by rfl) T.n_all (by decide +kernel) (das_cons (DN.s (d_lc (pe_lc (own := [("index", 1)]) (g := (gName 1)) rfl sc_is_spot.nd (dis_of (di_tup (d_sl (DE.s (d_var (pv 0))) (do_some (DE.s d_int)) do_none))) (blkOk_by (N := ["value", "index"]) (sc := defScope s_is_spot) (by decide +kernel)) (fun _ _ _ _ _ => (pg_name (i := 1) sc_is_spot.nd rfl (Or.inl rfl))) (fun _ _ _ _ _ => dts_nil) (fun _ _ _ _ _ => (d_and (DE.s (d_call0 (pe_call G_is_whole (hr.mono (by decide)) (by rfl) T.g_is_whole T.F_is_whole.kp T.b_is_whole .nil pass0 (da_cons (d_var (pv 1)) da_nil)))) (d_one (d_cmp op_ge f_cmpI (DE.s (d_var (pv 1))) (DE.s d_int) (nomark _)))))) (gd_name (by decide)))) das_nil)) f_all))))) ?_
  refine sp1_by0 fun a q ⟨ha, hq⟩ => ?_
  cases a with
  | tup xs =>
    (dsimp only [xsSeq, xsNil, xsRet, xsRetN, xsDrop, xsSet, xsOwn, xsIf, xsFrz, xsApp, xsMany, xsAsg, xsAug, xsRaise, xsPut, xVar, xNow, xC, xList, xOp, xUn, xOpN, xNil, xCons, xStar, xSeqOf, xCB, xCBN, xIf, xAnd, xOr, xNot, xtAnd, xtOr, xtNot, xtVal, xtTru, truD, xChain, xTup, xLst, xCall, xCall0, xFld, xOwnF, xMeth, xMeth0, xProp, xMake, xMakeS, xCMeth, xSl, xoNone, xoSome, xJoin, xSm, xFmt, xJs, xRev, xnSl, fAdd, nAdd, fSub, fMul, fMod, fPow, fFdiv, fNeg, fCmpI, fEq, fNe, fEqNil, fNeNil, fIs, fIsnt, DL.isNon, noRaw, fIn, fNotIn, fIx, fSl, fLen, fAbs, fMax, fMin, fInt, fStr, nList, fTuple, fAll, fAny, fSum, fRepr, fIsi, fIsO, fEqO, fNeO, sideOk, fInO, fNotInO, fIxO, fIxO0, fUnO, fBinO, fBinO0, fLenO, fStrO, fBoolO, fBool, asBl, xgName, xgNil, xgCons, xgTup, startD, startI, endK, endI, getV, setV, setVs, xmNil, xmVal, xmOwn, noV, List.length_cons, List.length_nil, Bool.not_true, Bool.not_false, xLc, xiLst, xiTup, xiRng1, xiRng2, xiStr, xiEnum, xiZip, xsFor, xsWhile, xtYes, ifB_tt, ifB_ff, kB, isIntD, isBoolD, isStrD, isTupD, isLstD, isDctD, xlStep, wipeD, List.map, fBinU, xDct0]; try simp only [eq_self_iff_true, true_and, and_true])
    match xs, ha, hq with
    | [a, b, c], ha, hq =>
      refine ⟨a, rfl, ha a (by simp), ?_⟩
      (dsimp only [xsSeq, xsNil, xsRet, xsRetN, xsDrop, xsSet, xsOwn, xsIf, xsFrz, xsApp, xsMany, xsAsg, xsAug, xsRaise, xsPut, xVar, xNow, xC, xList, xOp, xUn, xOpN, xNil, xCons, xStar, xSeqOf, xCB, xCBN, xIf, xAnd, xOr, xNot, xtAnd, xtOr, xtNot, xtVal, xtTru, truD, xChain, xTup, xLst, xCall, xCall0, xFld, xOwnF, xMeth, xMeth0, xProp, xMake, xMakeS, xCMeth, xSl, xoNone, xoSome, xJoin, xSm, xFmt, xJs, xRev, xnSl, fAdd, nAdd, fSub, fMul, fMod, fPow, fFdiv, fNeg, fCmpI, fEq, fNe, fEqNil, fNeNil, fIs, fIsnt, DL.isNon, noRaw, fIn, fNotIn, fIx, fSl, fLen, fAbs, fMax, fMin, fInt, fStr, nList, fTuple, fAll, fAny, fSum, fRepr, fIsi, fIsO, fEqO, fNeO, sideOk, fInO, fNotInO, fIxO, fIxO0, fUnO, fBinO, fBinO0, fLenO, fStrO, fBoolO, fBool, asBl, xgName, xgNil, xgCons, xgTup, startD, startI, endK, endI, getV, setV, setVs, xmNil, xmVal, xmOwn, noV, List.length_cons, List.length_nil, Bool.not_true, Bool.not_false, xLc, xiLst, xiTup, xiRng1, xiRng2, xiStr, xiEnum, xiZip, xsFor, xsWhile, xtYes, ifB_tt, ifB_ff, kB, isIntD, isBoolD, isStrD, isTupD, isLstD, isDctD, xlStep, wipeD, List.map, fBinU, xDct0]; try simp only [eq_self_iff_true, true_and, and_true])
      have e : isSpot (.tup [a, b, c]) = (nameD a && (idxD b && idxD c)) := rfl
      rw [e] at hq
      refine ifB_no (fun h => ?_) (fun h => ?_)
      · rw [h] at hq
        exact hq
      · rw [h, Bool.true_and] at hq
        refine xl_allD [b, c] (fun d => .bl (idxD d)) (by show 2 ≤ 1000000; decide) (fun d hd yes no hy => ?_) ⟨[idxD b, idxD c], rfl, by simpa using hq⟩
        have k : kindD d := ha d (by simp at hd ⊢; rcases hd with h | h <;> simp [h])
        (dsimp only [xsSeq, xsNil, xsRet, xsRetN, xsDrop, xsSet, xsOwn, xsIf, xsFrz, xsApp, xsMany, xsAsg, xsAug, xsRaise, xsPut, xVar, xNow, xC, xList, xOp, xUn, xOpN, xNil, xCons, xStar, xSeqOf, xCB, xCBN, xIf, xAnd, xOr, xNot, xtAnd, xtOr, xtNot, xtVal, xtTru, truD, xChain, xTup, xLst, xCall, xCall0, xFld, xOwnF, xMeth, xMeth0, xProp, xMake, xMakeS, xCMeth, xSl, xoNone, xoSome, xJoin, xSm, xFmt, xJs, xRev, xnSl, fAdd, nAdd, fSub, fMul, fMod, fPow, fFdiv, fNeg, fCmpI, fEq, fNe, fEqNil, fNeNil, fIs, fIsnt, DL.isNon, noRaw, fIn, fNotIn, fIx, fSl, fLen, fAbs, fMax, fMin, fInt, fStr, nList, fTuple, fAll, fAny, fSum, fRepr, fIsi, fIsO, fEqO, fNeO, sideOk, fInO, fNotInO, fIxO, fIxO0, fUnO, fBinO, fBinO0, fLenO, fStrO, fBoolO, fBool, asBl, xgName, xgNil, xgCons, xgTup, startD, startI, endK, endI, getV, setV, setVs, xmNil, xmVal, xmOwn, noV, List.length_cons, List.length_nil, Bool.not_true, Bool.not_false, xLc, xiLst, xiTup, xiRng1, xiRng2, xiStr, xiEnum, xiZip, xsFor, xsWhile, xtYes, ifB_tt, ifB_ff, kB, isIntD, isBoolD, isStrD, isTupD, isLstD, isDctD, xlStep, wipeD, List.map, fBinU, xDct0]; try simp only [eq_self_iff_true, true_and, and_true])
        refine ⟨k.k, ?_⟩
        cases d <;> first | exact hy | exact k.elim
    | [], ha, hq => exact hq
    | [_], ha, hq => exact hq
    | [_, _], ha, hq => exact hq
    | a :: b :: c :: d :: r, ha, hq =>
      have e : ((((a :: b :: c :: d :: r).length : Nat) : Int) == 3) = false := by
        simp only [List.length_cons, beq_eq_false_iff_ne]
        omega
      rw [e]
      exact hq
  | _ => first | exact ha.elim | ((dsimp only [xsSeq, xsNil, xsRet, xsRetN, xsDrop, xsSet, xsOwn, xsIf, xsFrz, xsApp, xsMany, xsAsg, xsAug, xsRaise, xsPut, xVar, xNow, xC, xList, xOp, xUn, xOpN, xNil, xCons, xStar, xSeqOf, xCB, xCBN, xIf, xAnd, xOr, xNot, xtAnd, xtOr, xtNot, xtVal, xtTru, truD, xChain, xTup, xLst, xCall, xCall0, xFld, xOwnF, xMeth, xMeth0, xProp, xMake, xMakeS, xCMeth, xSl, xoNone, xoSome, xJoin, xSm, xFmt, xJs, xRev, xnSl, fAdd, nAdd, fSub, fMul, fMod, fPow, fFdiv, fNeg, fCmpI, fEq, fNe, fEqNil, fNeNil, fIs, fIsnt, DL.isNon, noRaw, fIn, fNotIn, fIx, fSl, fLen, fAbs, fMax, fMin, fInt, fStr, nList, fTuple, fAll, fAny, fSum, fRepr, fIsi, fIsO, fEqO, fNeO, sideOk, fInO, fNotInO, fIxO, fIxO0, fUnO, fBinO, fBinO0, fLenO, fStrO, fBoolO, fBool, asBl, xgName, xgNil, xgCons, xgTup, startD, startI, endK, endI, getV, setV, setVs, xmNil, xmVal, xmOwn, noV, List.length_cons, List.length_nil, Bool.not_true, Bool.not_false, xLc, xiLst, xiTup, xiRng1, xiRng2, xiStr, xiEnum, xiZip, xsFor, xsWhile, xtYes, ifB_tt, ifB_ff, kB, isIntD, isBoolD, isStrD, isTupD, isLstD, isDctD, xlStep, wipeD, List.map, fBinU, xDct0]; try simp only [eq_self_iff_true, true_and, and_true]); exact hq)
/-- the spots asked for, checked -/
def AskS (T : Txt K mg) (xs : List D) (q : List Spt → Prop) (e : Exc → Prop) : Prop := xs.length < 64 ∧ (∀ x ∈ xs, askOk x) ∧
  ((xs.all isSpot = true ∧ ∀ zs : List Spt, xs = zs.map spD → (∀ z ∈ zs, okS z) → ∀ us, Asc spP us zs → q us) ∨ (xs.all isSpot = false ∧ e (.ref T.c_InvalidSpot, [])))
theorem AskS.to {T : Txt K mg} {xs : List D} {q q' : List Spt → Prop} {e : Exc → Prop} (h : AskS T xs q e) (f : ∀ us, q us → q' us) : AskS T xs q' e :=
  ⟨h.1, h.2.1, h.2.2.imp (fun k => ⟨k.1, fun zs a b us c => f us (k.2 zs a b us c)⟩) id⟩
abbrev p_checked (T : Txt K mg) : DF := sp1 fun a q e => ∃ xs, a = .tup xs ∧ AskS T xs (fun us => q (.tup (us.map spD))) e
theorem ok_checked_spots (T : Txt K mg) : FnOk P w K mg base (L2.CX P w) 7 T.a_checked_spots T.fd_checked_spots ["spots"] (toSp K (TB T) (p_checked T)) := by
  have G_is_spot : FnOk P w K mg base CX0 4 T.a_is_spot T.fd_is_spot ["value"] (toSp0 K (TB T) p_is_spot) := ok_is_spot T
  refine okDX (n := 1) T.F_checked_spots sc_checked_spots rfl (fun ds q e h => sp1_len ds q e h) (fun cdv A outer s H E hr => (dss_cons (ds_if (dt_not (dt_val (DE.s (d_callB (pe_callB (cr_all rfl) (by rfl) T.n_all (by decide +kernel) (das_cons (DN.s (d_lc (pe_lc (own := [("spot", 1)]) (g := (gName 1)) rfl sc_checked_spots.nd (dis_of (di_tup (d_var (pv 0)))) (blkOk_by (N := ["spots", "spot"]) (sc := defScope s_checked_spots) (by decide +kernel)) (fun _ _ _ _ _ => (pg_name (i := 1) sc_checked_spots.nd rfl (Or.inl rfl))) (fun _ _ _ _ _ => dts_nil) (fun _ _ _ _ _ => (d_call0 (pe_call G_is_spot (hr.mono (by decide)) (by rfl) T.g_is_spot T.F_is_spot.kp T.b_is_spot .nil pass0 (da_cons (d_var (pv 1)) da_nil))))) (gd_name (by decide)))) das_nil)) f_all)) (by intro _; rfl))) (dss_one (ds_raise (C := T.c_InvalidSpot) (ps_raise rfl (takes_of rfl rfl rfl rfl) (pmk_own PySem.F.excBase_ValueError T.x_InvalidSpot T.g_InvalidSpot T.kC_InvalidSpot (raises_own T.eb_InvalidSpot T.et_InvalidSpot) (by exact rfl))))) dss_nil)
      (dss_one (ds_ret (d_callB (pe_callTy call_tuple_of (by rfl) T.n_tuple (by decide +kernel) (das_cons (DN.s (d_sortSet (key := spK) rfl (enc := spL) spK_py spK_dep (pe_callB (NB.cr_sortN rfl hr.units) (by rfl) T.n_sorted (by decide +kernel) (pa_cons (pe_callTy (NB.cr_setN spK_inj rfl hr.units) (by rfl) T.n_set (by decide +kernel) (pa_cons (DE.s (d_var (pv 0))) pa_nil)) pa_nil)))) das_nil)) f_tuple))))) ?_
  refine sp1_by fun a q e ⟨xs, ea, h64, ha, hq⟩ => ?_
  subst ea
  (dsimp only [xsSeq, xsNil, xsRet, xsRetN, xsDrop, xsSet, xsOwn, xsIf, xsFrz, xsApp, xsMany, xsAsg, xsAug, xsRaise, xsPut, xVar, xNow, xC, xList, xOp, xUn, xOpN, xNil, xCons, xStar, xSeqOf, xCB, xCBN, xIf, xAnd, xOr, xNot, xtAnd, xtOr, xtNot, xtVal, xtTru, truD, xChain, xTup, xLst, xCall, xCall0, xFld, xOwnF, xMeth, xMeth0, xProp, xMake, xMakeS, xCMeth, xSl, xoNone, xoSome, xJoin, xSm, xFmt, xJs, xRev, xnSl, fAdd, nAdd, fSub, fMul, fMod, fPow, fFdiv, fNeg, fCmpI, fEq, fNe, fEqNil, fNeNil, fIs, fIsnt, DL.isNon, noRaw, fIn, fNotIn, fIx, fSl, fLen, fAbs, fMax, fMin, fInt, fStr, nList, fTuple, fAll, fAny, fSum, fRepr, fIsi, fIsO, fEqO, fNeO, sideOk, fInO, fNotInO, fIxO, fIxO0, fUnO, fBinO, fBinO0, fLenO, fStrO, fBoolO, fBool, asBl, xgName, xgNil, xgCons, xgTup, startD, startI, endK, endI, getV, setV, setVs, xmNil, xmVal, xmOwn, noV, List.length_cons, List.length_nil, Bool.not_true, Bool.not_false, xLc, xiLst, xiTup, xiRng1, xiRng2, xiStr, xiEnum, xiZip, xsFor, xsWhile, xtYes, ifB_tt, ifB_ff, kB, isIntD, isBoolD, isStrD, isTupD, isLstD, isDctD, xlStep, wipeD, List.map, fBinU, xDct0]; try simp only [eq_self_iff_true, true_and, and_true])
  refine xl_allD xs (fun d => .bl (isSpot d)) (by omega) (fun d hd yes no hy => ?_) ⟨xs.map isSpot, by rw [List.map_map]; rfl, ?_⟩
  · (dsimp only [xsSeq, xsNil, xsRet, xsRetN, xsDrop, xsSet, xsOwn, xsIf, xsFrz, xsApp, xsMany, xsAsg, xsAug, xsRaise, xsPut, xVar, xNow, xC, xList, xOp, xUn, xOpN, xNil, xCons, xStar, xSeqOf, xCB, xCBN, xIf, xAnd, xOr, xNot, xtAnd, xtOr, xtNot, xtVal, xtTru, truD, xChain, xTup, xLst, xCall, xCall0, xFld, xOwnF, xMeth, xMeth0, xProp, xMake, xMakeS, xCMeth, xSl, xoNone, xoSome, xJoin, xSm, xFmt, xJs, xRev, xnSl, fAdd, nAdd, fSub, fMul, fMod, fPow, fFdiv, fNeg, fCmpI, fEq, fNe, fEqNil, fNeNil, fIs, fIsnt, DL.isNon, noRaw, fIn, fNotIn, fIx, fSl, fLen, fAbs, fMax, fMin, fInt, fStr, nList, fTuple, fAll, fAny, fSum, fRepr, fIsi, fIsO, fEqO, fNeO, sideOk, fInO, fNotInO, fIxO, fIxO0, fUnO, fBinO, fBinO0, fLenO, fStrO, fBoolO, fBool, asBl, xgName, xgNil, xgCons, xgTup, startD, startI, endK, endI, getV, setV, setVs, xmNil, xmVal, xmOwn, noV, List.length_cons, List.length_nil, Bool.not_true, Bool.not_false, xLc, xiLst, xiTup, xiRng1, xiRng2, xiStr, xiEnum, xiZip, xsFor, xsWhile, xtYes, ifB_tt, ifB_ff, kB, isIntD, isBoolD, isStrD, isTupD, isLstD, isDctD, xlStep, wipeD, List.map, fBinU, xDct0]; try simp only [eq_self_iff_true, true_and, and_true])
    exact ⟨ha d hd, hy⟩
  · rw [show (xs.map isSpot).all id = xs.all isSpot by rw [List.all_map]; rfl]
    rcases hq with ⟨h1, h2⟩ | ⟨h1, h2⟩
    · rw [h1]
      obtain ⟨zs, rfl, hz⟩ := spots_of_all xs h1
      rw [List.length_map] at h64
      refine ⟨zs, .inr rfl, h64, fun d hd d' hd' => ?_, fun us _ => .inl fun d hd => ?_, fun us hu => h2 zs rfl hz us hu⟩
      · obtain ⟨x, _, rfl⟩ := List.mem_map.mp hd
        obtain ⟨y, _, rfl⟩ := List.mem_map.mp hd'
        exact alike_sp x y
      · obtain ⟨x, _, rfl⟩ := List.mem_map.mp hd
        exact ⟨_, _, rfl⟩
    · rw [h1]
      exact h2
end
-- SPLIT
/-! ### sets of spots -/
section
variable {P : Program} {w : World} {K : PySem.W.Frag} {mg : Str → Option Value} {base : Heap}
abbrev p_Sound : DFI := si1 fun a q _ => q [("worth", a)]
theorem ok_Sound_init (T : Txt K mg) : FnOk P w K mg base (L2.CX P w) 1 T.a_Sound_init T.fd_Sound_init ["self", "worth"] (toSpI K (TB T) T.c_Sound p_Sound) := by
  refine okDI (n := 0) T.F_Sound_init sc_Sound_init rfl (fun ds q e h => si1_len ds q e h) (fun cdv A outer s H E hr => (dss_one (ds_put (f := "worth") (ps_fld (pv 0) (d_var (pv 1)) rfl) T.cl_Sound T.nA_Sound_worth))) ?_
  refine si1_by fun x a q e h => ?_
  (dsimp only [xsSeq, xsNil, xsRet, xsRetN, xsDrop, xsSet, xsOwn, xsIf, xsFrz, xsApp, xsMany, xsAsg, xsAug, xsRaise, xsPut, xVar, xNow, xC, xList, xOp, xUn, xOpN, xNil, xCons, xStar, xSeqOf, xCB, xCBN, xIf, xAnd, xOr, xNot, xtAnd, xtOr, xtNot, xtVal, xtTru, truD, xChain, xTup, xLst, xCall, xCall0, xFld, xOwnF, xMeth, xMeth0, xProp, xMake, xMakeS, xCMeth, xSl, xoNone, xoSome, xJoin, xSm, xFmt, xJs, xRev, xnSl, fAdd, nAdd, fSub, fMul, fMod, fPow, fFdiv, fNeg, fCmpI, fEq, fNe, fEqNil, fNeNil, fIs, fIsnt, DL.isNon, noRaw, fIn, fNotIn, fIx, fSl, fLen, fAbs, fMax, fMin, fInt, fStr, nList, fTuple, fAll, fAny, fSum, fRepr, fIsi, fIsO, fEqO, fNeO, sideOk, fInO, fNotInO, fIxO, fIxO0, fUnO, fBinO, fBinO0, fLenO, fStrO, fBoolO, fBool, asBl, xgName, xgNil, xgCons, xgTup, startD, startI, endK, endI, getV, setV, setVs, xmNil, xmVal, xmOwn, noV, List.length_cons, List.length_nil, Bool.not_true, Bool.not_false, xLc, xiLst, xiTup, xiRng1, xiRng2, xiStr, xiEnum, xiZip, xsFor, xsWhile, xtYes, ifB_tt, ifB_ff, kB, isIntD, isBoolD, isStrD, isTupD, isLstD, isDctD, xlStep, wipeD, List.map, fBinU, xDct0]; try simp only [eq_self_iff_true, true_and, and_true])
  exact ⟨⟨_, _, rfl⟩, by decide, _, rfl, h⟩
def sndD (T : Txt K mg) (a : D) : D := .obj T.c_Sound [("worth", a)]
def spF (us : List Spt) : List (Str × D) := [("_spots", .tup (us.map spD))]
def spsD (T : Txt K mg) (us : List Spt) : D := .obj T.c_Spots (spF us)
abbrev p_Spots (T : Txt K mg) : DFI := si1 fun a q e => ∃ xs, a = .tup xs ∧ ((∃ us, xs = [sndD T (.tup (us.map spD))] ∧ q (spF us)) ∨ AskS T xs (fun us => q (spF us)) e)
theorem ok_Spots_init (T : Txt K mg) : FnA P w K mg base (L2.CX P w) 10 T.a_Spots_init (spStar K (TB T) T.c_Spots 0 (p_Spots T)) := by
  have G_Sound_init : FnOk P w K mg base (L2.CX P w) 1 T.a_Sound_init T.fd_Sound_init ["self", "worth"] (toSpI K (TB T) T.c_Sound p_Sound) := ok_Sound_init T
  have G_checked_spots : FnOk P w K mg base (L2.CX P w) 7 T.a_checked_spots T.fd_checked_spots ["spots"] (toSp K (TB T) (p_checked T)) := ok_checked_spots T
  refine okDIs (n := 0) (m := 0) (ps := ["self"]) T.F_Spots_init sc_Spots_init rfl rfl (fun ds q e h => si1_len ds q e h) (fun _ _ _ _ _ _ us rest hl => match us, rest, hl with | [_], [], _ => rfl | [_], _ :: _, _ => rfl) (fun cdv A outer s H E hr => (dss_one (ds_if (PW.pt (dw_and (dt_cmp (show OpR _ (compareOp .Eq) (rEqU K) from o_eq hr.units) f_eq (DE.s (d_callB (pe_callB call_len (by rfl) T.n_len (by decide +kernel) (das_cons (DE.s (d_var (pv 1))) das_nil)) f_len)) (DE.s d_int) (nomark _)) (dw_and1 (dt_val (DE.s (d_callB (pe_callB (show CallR _ (.builtin "isinstance") (rIsi K) from call_isi) (by rfl) T.n_isinstance (by decide +kernel) (das_cons (DE.s (d_ix o_ix f_ix (DE.s (d_var (pv 1))) (DE.s d_int) (fun _ _ => rfl))) (das_cons (DE.s (d_raw (pe_glob (v := .ref T.c_Sound) rfl T.g_Sound rfl))) das_nil))) (f_isO (cs := [])  T.is_Sound (fun n hn => (T.fo_Sound n hn).1)  (fun p m => (List.not_mem_nil m).elim)))) (by intro _; rfl))))) (dss_one (ds_put (f := "_spots") (ps_fld (pv 0) (d_fld (pe_fld (DE.s (d_ix o_ix f_ix (DE.s (d_var (pv 1))) (DE.s d_int) (fun _ _ => rfl))) rfl) T.cl_Sound T.nA_Sound_worth) rfl) T.cl_Spots T.nA_Spots_spots)) (dss_one (ds_put (f := "_spots") (ps_fld (pv 0) (d_call (pe_call G_checked_spots (hr.mono (by decide)) (by rfl) T.g_checked_spots T.F_checked_spots.kp T.b_checked_spots .nil (passes_call (takes_of rfl rfl rfl rfl) (fun _ _ _ _ h => h)) (da_cons (d_var (pv 1)) da_nil))) rfl) T.cl_Spots T.nA_Spots_spots))))) ?_
  refine si1_by fun x a q e ⟨xs, ea, h⟩ => ?_
  subst ea
  (dsimp only [xsSeq, xsNil, xsRet, xsRetN, xsDrop, xsSet, xsOwn, xsIf, xsFrz, xsApp, xsMany, xsAsg, xsAug, xsRaise, xsPut, xVar, xNow, xC, xList, xOp, xUn, xOpN, xNil, xCons, xStar, xSeqOf, xCB, xCBN, xIf, xAnd, xOr, xNot, xtAnd, xtOr, xtNot, xtVal, xtTru, truD, xChain, xTup, xLst, xCall, xCall0, xFld, xOwnF, xMeth, xMeth0, xProp, xMake, xMakeS, xCMeth, xSl, xoNone, xoSome, xJoin, xSm, xFmt, xJs, xRev, xnSl, fAdd, nAdd, fSub, fMul, fMod, fPow, fFdiv, fNeg, fCmpI, fEq, fNe, fEqNil, fNeNil, fIs, fIsnt, DL.isNon, noRaw, fIn, fNotIn, fIx, fSl, fLen, fAbs, fMax, fMin, fInt, fStr, nList, fTuple, fAll, fAny, fSum, fRepr, fIsi, fIsO, fEqO, fNeO, sideOk, fInO, fNotInO, fIxO, fIxO0, fUnO, fBinO, fBinO0, fLenO, fStrO, fBoolO, fBool, asBl, xgName, xgNil, xgCons, xgTup, startD, startI, endK, endI, getV, setV, setVs, xmNil, xmVal, xmOwn, noV, List.length_cons, List.length_nil, Bool.not_true, Bool.not_false, xLc, xiLst, xiTup, xiRng1, xiRng2, xiStr, xiEnum, xiZip, xsFor, xsWhile, xtYes, ifB_tt, ifB_ff, kB, isIntD, isBoolD, isStrD, isTupD, isLstD, isDctD, xlStep, wipeD, List.map, fBinU, xDct0]; try simp only [eq_self_iff_true, true_and, and_true])
  rcases h with ⟨us, rfl, hq⟩ | h
  · exact ⟨_, rfl, .inl ⟨rfl, ⟨_, _, rfl⟩, by decide, _, rfl, rfl, _, rfl, _, rfl, hq⟩⟩
  · have fin : p_checked T [.tup xs] (fun d => ∃ fd, some (DV.ownO x T.c_Spots (putD "_spots" d [])) = some (DV.ownO x T.c_Spots fd) ∧ q fd) e := ⟨xs, rfl, h.to fun us hq => ⟨_, rfl, hq⟩⟩
    match xs, h, fin with
    | [y], h, fin =>
      refine ifB_of (fun _ => ⟨y, rfl, ?_⟩) fun _ => ⟨⟨_, _, rfl⟩, by decide, fin⟩
      have k := h.2.1 y (List.mem_singleton.mpr rfl)
      cases y <;> first | exact k.elim | exact ⟨trivial, ⟨_, _, rfl⟩, by decide, fin⟩
    | [], h, fin => exact ⟨⟨_, _, rfl⟩, by decide, fin⟩
    | y :: z :: r, h, fin =>
      have e2 : ((((y :: z :: r).length : Nat) : Int) == 1) = false := by
        simp only [List.length_cons, beq_eq_false_iff_ne]
        omega
      rw [e2]
      exact ⟨⟨_, _, rfl⟩, by decide, fin⟩
abbrev p_listed (T : Txt K mg) : DF := sp1 fun a q _ => ∃ us, a = spsD T us ∧ q (.tup (us.map spD))
theorem ok_Spots_listed (T : Txt K mg) : FnOk P w K mg base CX0 1 T.a_Spots_listed T.fd_Spots_listed ["self"] (toSp0 K (TB T) (p_listed T)) := by
  refine okD0 (n := 0) T.F_Spots_listed sc_Spots_listed rfl (fun ds q e h => sp1_len ds q e h) (fun cdv A outer s H E hr => (dss_one (ds_ret (d_fld (pe_fld (DE.s (d_var (pv 0))) rfl) T.cl_Spots T.nA_Spots_spots)))) ?_
  refine sp1_by0 fun a q ⟨us, ea, h⟩ => ?_
  subst ea
  (dsimp only [xsSeq, xsNil, xsRet, xsRetN, xsDrop, xsSet, xsOwn, xsIf, xsFrz, xsApp, xsMany, xsAsg, xsAug, xsRaise, xsPut, xVar, xNow, xC, xList, xOp, xUn, xOpN, xNil, xCons, xStar, xSeqOf, xCB, xCBN, xIf, xAnd, xOr, xNot, xtAnd, xtOr, xtNot, xtVal, xtTru, truD, xChain, xTup, xLst, xCall, xCall0, xFld, xOwnF, xMeth, xMeth0, xProp, xMake, xMakeS, xCMeth, xSl, xoNone, xoSome, xJoin, xSm, xFmt, xJs, xRev, xnSl, fAdd, nAdd, fSub, fMul, fMod, fPow, fFdiv, fNeg, fCmpI, fEq, fNe, fEqNil, fNeNil, fIs, fIsnt, DL.isNon, noRaw, fIn, fNotIn, fIx, fSl, fLen, fAbs, fMax, fMin, fInt, fStr, nList, fTuple, fAll, fAny, fSum, fRepr, fIsi, fIsO, fEqO, fNeO, sideOk, fInO, fNotInO, fIxO, fIxO0, fUnO, fBinO, fBinO0, fLenO, fStrO, fBoolO, fBool, asBl, xgName, xgNil, xgCons, xgTup, startD, startI, endK, endI, getV, setV, setVs, xmNil, xmVal, xmOwn, noV, List.length_cons, List.length_nil, Bool.not_true, Bool.not_false, xLc, xiLst, xiTup, xiRng1, xiRng2, xiStr, xiEnum, xiZip, xsFor, xsWhile, xtYes, ifB_tt, ifB_ff, kB, isIntD, isBoolD, isStrD, isTupD, isLstD, isDctD, xlStep, wipeD, List.map, fBinU, xDct0]; try simp only [eq_self_iff_true, true_and, and_true])
  exact ⟨rfl, _, rfl, h⟩
abbrev p_len (T : Txt K mg) : DF := sp1 fun a q _ => ∃ us, a = spsD T us ∧ q (.int us.length)
theorem ok_Spots_len (T : Txt K mg) : FnOk P w K mg base CX0 1 T.a_Spots_len T.fd_Spots_len ["self"] (toSp0 K (TB T) (p_len T)) := by
  refine okD0 (n := 0) T.F_Spots_len sc_Spots_len rfl (fun ds q e h => sp1_len ds q e h) (fun cdv A outer s H E hr => (dss_one (ds_ret (d_callB (pe_callB call_len (by rfl) T.n_len (by decide +kernel) (das_cons (DE.s (d_fld (pe_fld (DE.s (d_var (pv 0))) rfl) T.cl_Spots T.nA_Spots_spots)) das_nil)) f_len)))) ?_
  refine sp1_by0 fun a q ⟨us, ea, h⟩ => ?_
  subst ea
  (dsimp only [xsSeq, xsNil, xsRet, xsRetN, xsDrop, xsSet, xsOwn, xsIf, xsFrz, xsApp, xsMany, xsAsg, xsAug, xsRaise, xsPut, xVar, xNow, xC, xList, xOp, xUn, xOpN, xNil, xCons, xStar, xSeqOf, xCB, xCBN, xIf, xAnd, xOr, xNot, xtAnd, xtOr, xtNot, xtVal, xtTru, truD, xChain, xTup, xLst, xCall, xCall0, xFld, xOwnF, xMeth, xMeth0, xProp, xMake, xMakeS, xCMeth, xSl, xoNone, xoSome, xJoin, xSm, xFmt, xJs, xRev, xnSl, fAdd, nAdd, fSub, fMul, fMod, fPow, fFdiv, fNeg, fCmpI, fEq, fNe, fEqNil, fNeNil, fIs, fIsnt, DL.isNon, noRaw, fIn, fNotIn, fIx, fSl, fLen, fAbs, fMax, fMin, fInt, fStr, nList, fTuple, fAll, fAny, fSum, fRepr, fIsi, fIsO, fEqO, fNeO, sideOk, fInO, fNotInO, fIxO, fIxO0, fUnO, fBinO, fBinO0, fLenO, fStrO, fBoolO, fBool, asBl, xgName, xgNil, xgCons, xgTup, startD, startI, endK, endI, getV, setV, setVs, xmNil, xmVal, xmOwn, noV, List.length_cons, List.length_nil, Bool.not_true, Bool.not_false, xLc, xiLst, xiTup, xiRng1, xiRng2, xiStr, xiEnum, xiZip, xsFor, xsWhile, xtYes, ifB_tt, ifB_ff, kB, isIntD, isBoolD, isStrD, isTupD, isLstD, isDctD, xlStep, wipeD, List.map, fBinU, xDct0]; try simp only [eq_self_iff_true, true_and, and_true])
  exact ⟨rfl, _, rfl, by show q (.int ((us.map spD).length : Nat)); rw [List.length_map]; exact h⟩
abbrev p_bool (T : Txt K mg) : DF := sp1 fun a q _ => ∃ us, a = spsD T us ∧ q (.bl (!us.isEmpty))
theorem ok_Spots_bool (T : Txt K mg) : FnOk P w K mg base CX0 1 T.a_Spots_bool T.fd_Spots_bool ["self"] (toSp0 K (TB T) (p_bool T)) := by
  refine okD0 (n := 0) T.F_Spots_bool sc_Spots_bool rfl (fun ds q e h => sp1_len ds q e h) (fun cdv A outer s H E hr => (dss_one (ds_ret (d_callB (pe_callTy o_bool (by rfl) T.n_bool (by decide +kernel) (das_cons (DE.s (d_fld (pe_fld (DE.s (d_var (pv 0))) rfl) T.cl_Spots T.nA_Spots_spots)) das_nil)) f_bool)))) ?_
  refine sp1_by0 fun a q ⟨us, ea, h⟩ => ?_
  subst ea
  (dsimp only [xsSeq, xsNil, xsRet, xsRetN, xsDrop, xsSet, xsOwn, xsIf, xsFrz, xsApp, xsMany, xsAsg, xsAug, xsRaise, xsPut, xVar, xNow, xC, xList, xOp, xUn, xOpN, xNil, xCons, xStar, xSeqOf, xCB, xCBN, xIf, xAnd, xOr, xNot, xtAnd, xtOr, xtNot, xtVal, xtTru, truD, xChain, xTup, xLst, xCall, xCall0, xFld, xOwnF, xMeth, xMeth0, xProp, xMake, xMakeS, xCMeth, xSl, xoNone, xoSome, xJoin, xSm, xFmt, xJs, xRev, xnSl, fAdd, nAdd, fSub, fMul, fMod, fPow, fFdiv, fNeg, fCmpI, fEq, fNe, fEqNil, fNeNil, fIs, fIsnt, DL.isNon, noRaw, fIn, fNotIn, fIx, fSl, fLen, fAbs, fMax, fMin, fInt, fStr, nList, fTuple, fAll, fAny, fSum, fRepr, fIsi, fIsO, fEqO, fNeO, sideOk, fInO, fNotInO, fIxO, fIxO0, fUnO, fBinO, fBinO0, fLenO, fStrO, fBoolO, fBool, asBl, xgName, xgNil, xgCons, xgTup, startD, startI, endK, endI, getV, setV, setVs, xmNil, xmVal, xmOwn, noV, List.length_cons, List.length_nil, Bool.not_true, Bool.not_false, xLc, xiLst, xiTup, xiRng1, xiRng2, xiStr, xiEnum, xiZip, xsFor, xsWhile, xtYes, ifB_tt, ifB_ff, kB, isIntD, isBoolD, isStrD, isTupD, isLstD, isDctD, xlStep, wipeD, List.map, fBinU, xDct0]; try simp only [eq_self_iff_true, true_and, and_true])
  exact ⟨rfl, _, rfl, by show q (.bl (!(us.map spD).isEmpty)); rw [List.isEmpty_map]; exact h⟩
abbrev p_check (T : Txt K mg) : DF := sp1 fun a q e => ((∃ us, a = spsD T us) ∧ q .non) ∨ (kB a ∧ e (.ref T.c_InvalidOperation, []))
theorem ok_check_is_spots (T : Txt K mg) : FnOk P w K mg base (L2.CX P w) 13 T.a_check_is_spots T.fd_check_is_spots ["value"] (toSp K (TB T) (p_check T)) := by
  have G_Spots_init : FnA P w K mg base (L2.CX P w) 10 T.a_Spots_init (spStar K (TB T) T.c_Spots 0 (p_Spots T)) := ok_Spots_init T
  refine okDX (n := 0) T.F_check_is_spots sc_check_is_spots rfl (fun ds q e h => sp1_len ds q e h) (fun cdv A outer s H E hr => (dss_one (ds_if (dt_not (dt_val (DE.s (d_callB (pe_callB (show CallR _ (.builtin "isinstance") (rIsi K) from call_isi) (by rfl) T.n_isinstance (by decide +kernel) (das_cons (DE.s (d_var (pv 0))) (das_cons (DE.s (d_raw (pe_glob (v := .ref T.c_Spots) rfl T.g_Spots rfl))) das_nil))) (f_isO (cs := [])  T.is_Spots (fun n hn => (T.fo_Spots n hn).1)  (fun p m => (List.not_mem_nil m).elim)))) (by intro _; rfl))) (dss_one (ds_raise (C := T.c_InvalidOperation) (ps_raise rfl (takes_of rfl rfl rfl rfl) (pmk_own PySem.F.excBase_ValueError T.x_InvalidOperation T.g_InvalidOperation T.kC_InvalidOperation (raises_own T.eb_InvalidOperation T.et_InvalidOperation) (by exact rfl))))) dss_nil))) ?_
  refine sp1_by fun a q e h => ?_
  rcases h with ⟨⟨us, rfl⟩, h⟩ | ⟨ha, h⟩
  · (dsimp only [xsSeq, xsNil, xsRet, xsRetN, xsDrop, xsSet, xsOwn, xsIf, xsFrz, xsApp, xsMany, xsAsg, xsAug, xsRaise, xsPut, xVar, xNow, xC, xList, xOp, xUn, xOpN, xNil, xCons, xStar, xSeqOf, xCB, xCBN, xIf, xAnd, xOr, xNot, xtAnd, xtOr, xtNot, xtVal, xtTru, truD, xChain, xTup, xLst, xCall, xCall0, xFld, xOwnF, xMeth, xMeth0, xProp, xMake, xMakeS, xCMeth, xSl, xoNone, xoSome, xJoin, xSm, xFmt, xJs, xRev, xnSl, fAdd, nAdd, fSub, fMul, fMod, fPow, fFdiv, fNeg, fCmpI, fEq, fNe, fEqNil, fNeNil, fIs, fIsnt, DL.isNon, noRaw, fIn, fNotIn, fIx, fSl, fLen, fAbs, fMax, fMin, fInt, fStr, nList, fTuple, fAll, fAny, fSum, fRepr, fIsi, fIsO, fEqO, fNeO, sideOk, fInO, fNotInO, fIxO, fIxO0, fUnO, fBinO, fBinO0, fLenO, fStrO, fBoolO, fBool, asBl, xgName, xgNil, xgCons, xgTup, startD, startI, endK, endI, getV, setV, setVs, xmNil, xmVal, xmOwn, noV, List.length_cons, List.length_nil, Bool.not_true, Bool.not_false, xLc, xiLst, xiTup, xiRng1, xiRng2, xiStr, xiEnum, xiZip, xsFor, xsWhile, xtYes, ifB_tt, ifB_ff, kB, isIntD, isBoolD, isStrD, isTupD, isLstD, isDctD, xlStep, wipeD, List.map, fBinU, xDct0]; try simp only [eq_self_iff_true, true_and, and_true])
    exact .inl ⟨rfl, h⟩
  · cases a with
    | _ => first | exact ha.elim | ((dsimp only [xsSeq, xsNil, xsRet, xsRetN, xsDrop, xsSet, xsOwn, xsIf, xsFrz, xsApp, xsMany, xsAsg, xsAug, xsRaise, xsPut, xVar, xNow, xC, xList, xOp, xUn, xOpN, xNil, xCons, xStar, xSeqOf, xCB, xCBN, xIf, xAnd, xOr, xNot, xtAnd, xtOr, xtNot, xtVal, xtTru, truD, xChain, xTup, xLst, xCall, xCall0, xFld, xOwnF, xMeth, xMeth0, xProp, xMake, xMakeS, xCMeth, xSl, xoNone, xoSome, xJoin, xSm, xFmt, xJs, xRev, xnSl, fAdd, nAdd, fSub, fMul, fMod, fPow, fFdiv, fNeg, fCmpI, fEq, fNe, fEqNil, fNeNil, fIs, fIsnt, DL.isNon, noRaw, fIn, fNotIn, fIx, fSl, fLen, fAbs, fMax, fMin, fInt, fStr, nList, fTuple, fAll, fAny, fSum, fRepr, fIsi, fIsO, fEqO, fNeO, sideOk, fInO, fNotInO, fIxO, fIxO0, fUnO, fBinO, fBinO0, fLenO, fStrO, fBoolO, fBool, asBl, xgName, xgNil, xgCons, xgTup, startD, startI, endK, endI, getV, setV, setVs, xmNil, xmVal, xmOwn, noV, List.length_cons, List.length_nil, Bool.not_true, Bool.not_false, xLc, xiLst, xiTup, xiRng1, xiRng2, xiStr, xiEnum, xiZip, xsFor, xsWhile, xtYes, ifB_tt, ifB_ff, kB, isIntD, isBoolD, isStrD, isTupD, isLstD, isDctD, xlStep, wipeD, List.map, fBinU, xDct0]; try simp only [eq_self_iff_true, true_and, and_true]); first | exact h | exact ⟨trivial, h⟩)
abbrev p_has (T : Txt K mg) : DF := sp2 fun a b q _ => ∃ us, a = spsD T us ∧ askOk b ∧ (∀ z ∈ us, okS z) ∧ q (.bl (isSpot b && (us.map spD).any fun z => eqD z b))
theorem ok_Spots_contains (T : Txt K mg) : FnOk P w K mg base CX0 7 T.a_Spots_contains T.fd_Spots_contains ["self", "value"] (toSp0 K (TB T) (p_has T)) := by
  have G_is_spot : FnOk P w K mg base CX0 4 T.a_is_spot T.fd_is_spot ["value"] (toSp0 K (TB T) p_is_spot) := ok_is_spot T
  refine okD0 (n := 0) T.F_Spots_contains sc_Spots_contains rfl (fun ds q e h => sp2_len ds q e h) (fun cdv A outer s H E hr => (dss_one (ds_ret (d_and (DE.s (d_call0 (pe_call G_is_spot (hr.mono (by decide)) (by rfl) T.g_is_spot T.F_is_spot.kp T.b_is_spot .nil pass0 (da_cons (d_var (pv 1)) da_nil)))) (d_one (d_cmp (show OpR _ (compareOp .In) (rInU K) from o_in (u65 hr)) f_in (DE.s (d_var (pv 1))) (DE.s (d_fld (pe_fld (DE.s (d_var (pv 0))) rfl) T.cl_Spots T.nA_Spots_spots)) (by rfl))))))) ?_
  refine sp2_by0 fun a b q ⟨us, ea, hb, hu, h⟩ => ?_
  subst ea
  (dsimp only [xsSeq, xsNil, xsRet, xsRetN, xsDrop, xsSet, xsOwn, xsIf, xsFrz, xsApp, xsMany, xsAsg, xsAug, xsRaise, xsPut, xVar, xNow, xC, xList, xOp, xUn, xOpN, xNil, xCons, xStar, xSeqOf, xCB, xCBN, xIf, xAnd, xOr, xNot, xtAnd, xtOr, xtNot, xtVal, xtTru, truD, xChain, xTup, xLst, xCall, xCall0, xFld, xOwnF, xMeth, xMeth0, xProp, xMake, xMakeS, xCMeth, xSl, xoNone, xoSome, xJoin, xSm, xFmt, xJs, xRev, xnSl, fAdd, nAdd, fSub, fMul, fMod, fPow, fFdiv, fNeg, fCmpI, fEq, fNe, fEqNil, fNeNil, fIs, fIsnt, DL.isNon, noRaw, fIn, fNotIn, fIx, fSl, fLen, fAbs, fMax, fMin, fInt, fStr, nList, fTuple, fAll, fAny, fSum, fRepr, fIsi, fIsO, fEqO, fNeO, sideOk, fInO, fNotInO, fIxO, fIxO0, fUnO, fBinO, fBinO0, fLenO, fStrO, fBoolO, fBool, asBl, xgName, xgNil, xgCons, xgTup, startD, startI, endK, endI, getV, setV, setVs, xmNil, xmVal, xmOwn, noV, List.length_cons, List.length_nil, Bool.not_true, Bool.not_false, xLc, xiLst, xiTup, xiRng1, xiRng2, xiStr, xiEnum, xiZip, xsFor, xsWhile, xtYes, ifB_tt, ifB_ff, kB, isIntD, isBoolD, isStrD, isTupD, isLstD, isDctD, xlStep, wipeD, List.map, fBinU, xDct0]; try simp only [eq_self_iff_true, true_and, and_true])
  refine ⟨hb, ifB_of (fun k => ?_) fun k => ?_⟩
  · rw [k, Bool.true_and] at h
    obtain ⟨y, rfl, hy⟩ := spot_of k
    exact ⟨rfl, _, rfl, (plain_sp hy).mono (by decide), (plain_sps hu).mono (by decide), h⟩
  · rw [k, Bool.false_and] at h
    exact h
abbrev p_eq (T : Txt K mg) : DF := sp2 fun a b q _ => ∃ us, a = spsD T us ∧ (∀ z ∈ us, okS z) ∧ ((∃ zs, b = spsD T zs ∧ (∀ z ∈ zs, okS z) ∧ q (.bl (decide (us = zs)))) ∨ (kB b ∧ q (.bl false)))
theorem ok_Spots_eq (T : Txt K mg) : FnOk P w K mg base CX0 13 T.a_Spots_eq T.fd_Spots_eq ["self", "other"] (toSp0 K (TB T) (p_eq T)) := by
  have G_Spots_init : FnA P w K mg base (L2.CX P w) 10 T.a_Spots_init (spStar K (TB T) T.c_Spots 0 (p_Spots T)) := ok_Spots_init T
  refine okD0 (n := 0) T.F_Spots_eq sc_Spots_eq rfl (fun ds q e h => sp2_len ds q e h) (fun cdv A outer s H E hr => (dss_one (ds_ret (d_and (DE.s (d_callB (pe_callB (show CallR _ (.builtin "isinstance") (rIsi K) from call_isi) (by rfl) T.n_isinstance (by decide +kernel) (das_cons (DE.s (d_var (pv 1))) (das_cons (DE.s (d_raw (pe_glob (v := .ref T.c_Spots) rfl T.g_Spots rfl))) das_nil))) (f_isO (cs := [])  T.is_Spots (fun n hn => (T.fo_Spots n hn).1)  (fun p m => (List.not_mem_nil m).elim)))) (d_one (d_cmp (show OpR _ (compareOp .Eq) (rEqU K) from o_eq hr.units) f_eq (DE.s (d_fld (pe_fld (DE.s (d_var (pv 0))) rfl) T.cl_Spots T.nA_Spots_spots)) (DE.s (d_fld (pe_fld (DE.s (d_var (pv 1))) rfl) T.cl_Spots T.nA_Spots_spots)) (nomark _))))))) ?_
  refine sp2_by0 fun a b q ⟨us, ea, hu, h⟩ => ?_
  subst ea
  rcases h with ⟨zs, rfl, hz, h⟩ | ⟨hb, h⟩
  · (dsimp only [xsSeq, xsNil, xsRet, xsRetN, xsDrop, xsSet, xsOwn, xsIf, xsFrz, xsApp, xsMany, xsAsg, xsAug, xsRaise, xsPut, xVar, xNow, xC, xList, xOp, xUn, xOpN, xNil, xCons, xStar, xSeqOf, xCB, xCBN, xIf, xAnd, xOr, xNot, xtAnd, xtOr, xtNot, xtVal, xtTru, truD, xChain, xTup, xLst, xCall, xCall0, xFld, xOwnF, xMeth, xMeth0, xProp, xMake, xMakeS, xCMeth, xSl, xoNone, xoSome, xJoin, xSm, xFmt, xJs, xRev, xnSl, fAdd, nAdd, fSub, fMul, fMod, fPow, fFdiv, fNeg, fCmpI, fEq, fNe, fEqNil, fNeNil, fIs, fIsnt, DL.isNon, noRaw, fIn, fNotIn, fIx, fSl, fLen, fAbs, fMax, fMin, fInt, fStr, nList, fTuple, fAll, fAny, fSum, fRepr, fIsi, fIsO, fEqO, fNeO, sideOk, fInO, fNotInO, fIxO, fIxO0, fUnO, fBinO, fBinO0, fLenO, fStrO, fBoolO, fBool, asBl, xgName, xgNil, xgCons, xgTup, startD, startI, endK, endI, getV, setV, setVs, xmNil, xmVal, xmOwn, noV, List.length_cons, List.length_nil, Bool.not_true, Bool.not_false, xLc, xiLst, xiTup, xiRng1, xiRng2, xiStr, xiEnum, xiZip, xsFor, xsWhile, xtYes, ifB_tt, ifB_ff, kB, isIntD, isBoolD, isStrD, isTupD, isLstD, isDctD, xlStep, wipeD, List.map, fBinU, xDct0]; try simp only [eq_self_iff_true, true_and, and_true])
    refine .inl ⟨rfl, rfl, _, rfl, rfl, _, rfl, (plain_sps hu).mono (by decide), (plain_sps hz).mono (by decide), ?_⟩
    rw [← eqDs_map spD eq_sp] at h
    rw [eqD]
    exact h
  · cases b with
    | _ => first | exact hb.elim | ((dsimp only [xsSeq, xsNil, xsRet, xsRetN, xsDrop, xsSet, xsOwn, xsIf, xsFrz, xsApp, xsMany, xsAsg, xsAug, xsRaise, xsPut, xVar, xNow, xC, xList, xOp, xUn, xOpN, xNil, xCons, xStar, xSeqOf, xCB, xCBN, xIf, xAnd, xOr, xNot, xtAnd, xtOr, xtNot, xtVal, xtTru, truD, xChain, xTup, xLst, xCall, xCall0, xFld, xOwnF, xMeth, xMeth0, xProp, xMake, xMakeS, xCMeth, xSl, xoNone, xoSome, xJoin, xSm, xFmt, xJs, xRev, xnSl, fAdd, nAdd, fSub, fMul, fMod, fPow, fFdiv, fNeg, fCmpI, fEq, fNe, fEqNil, fNeNil, fIs, fIsnt, DL.isNon, noRaw, fIn, fNotIn, fIx, fSl, fLen, fAbs, fMax, fMin, fInt, fStr, nList, fTuple, fAll, fAny, fSum, fRepr, fIsi, fIsO, fEqO, fNeO, sideOk, fInO, fNotInO, fIxO, fIxO0, fUnO, fBinO, fBinO0, fLenO, fStrO, fBoolO, fBool, asBl, xgName, xgNil, xgCons, xgTup, startD, startI, endK, endI, getV, setV, setVs, xmNil, xmVal, xmOwn, noV, List.length_cons, List.length_nil, Bool.not_true, Bool.not_false, xLc, xiLst, xiTup, xiRng1, xiRng2, xiStr, xiEnum, xiZip, xsFor, xsWhile, xtYes, ifB_tt, ifB_ff, kB, isIntD, isBoolD, isStrD, isTupD, isLstD, isDctD, xlStep, wipeD, List.map, fBinU, xDct0]; try simp only [eq_self_iff_true, true_and, and_true]); first | exact h | exact ⟨trivial, h⟩)
end
-- SPLIT
/-! ### what is asked of sets of spots -/
section
variable {P : Program} {w : World} {K : PySem.W.Frag} {mg : Str → Option Value} {base : Heap}
theorem spD_inj {a b : Spt} (h : spD a = spD b) : a = b := by
  obtain ⟨n, i, j⟩ := a
  obtain ⟨m, k, l⟩ := b
  unfold spD spL at h
  injection h with h
  injection h with h1 h
  injection h with h2 h
  injection h with h3 h
  injection h1 with h1
  injection h2 with h2
  injection h3 with h3
  have h1 : n = m := h1
  have h2 : i = k := h2
  have h3 : j = l := h3
  rw [h1, h2, h3]
theorem askOk_sp {z : Spt} (h : okS z) : askOk (spD z) := by
  intro y hy
  simp only [spL, List.mem_cons, List.not_mem_nil, or_false] at hy
  rcases hy with rfl | rfl | rfl
  · have := name_len h.1
    exact fit_of (by omega)
  · trivial
  · trivial
theorem all_sp {zs : List Spt} (h : ∀ z ∈ zs, okS z) : (zs.map spD).all isSpot = true := by
  rw [List.all_map, List.all_eq_true]
  exact fun z hz => isSpot_sp (h z hz)
/-- spots are asked for -/
theorem ask_sps (T : Txt K mg) {zs : List Spt} {q : List Spt → Prop} {e : Exc → Prop} (h : ∀ z ∈ zs, okS z) (l : zs.length < 64) (hq : ∀ us, Asc spP us zs → q us) : AskS T (zs.map spD) q e := by
  refine ⟨by rw [List.length_map]; exact l, fun x hx => ?_, .inl ⟨all_sp h, fun ys e _ us hu => ?_⟩⟩
  · obtain ⟨z, hz, rfl⟩ := List.mem_map.mp hx
    exact askOk_sp (h z hz)
  · rw [(List.map_inj_right fun a b => spD_inj).mp e] at hq
    exact hq us hu
theorem ask_bad (T : Txt K mg) {xs : List D} {x : D} {q : List Spt → Prop} {e : Exc → Prop} (h : ∀ y ∈ xs, askOk y) (l : xs.length < 64) (m : x ∈ xs) (n : isSpot x = false) (he : e (.ref T.c_InvalidSpot, [])) : AskS T xs q e :=
  ⟨l, h, .inr ⟨nt fun z => Bool.false_ne_true (n.symm.trans (List.all_eq_true.mp z x m)), he⟩⟩
theorem sp_inj (a b : Spt) (h : PySem.W.keyToks (spP a) = PySem.W.keyToks (spP b)) : a = b := by
  obtain ⟨n, i, j⟩ := a
  obtain ⟨m, k, l⟩ := b
  have h : PySem.W.keyToks (.tuple [.str n, .int i, .int j]) = PySem.W.keyToks (.tuple [.str m, .int k, .int l]) := h
  simp only [PySem.W.keyToks, PySem.W.keyToksAll, List.cons_append, List.nil_append, List.cons.injEq, Sum.inr.injEq, Sum.inl.injEq, true_and, and_true] at h
  obtain ⟨e1, e2, e3⟩ := h
  rw [PySem.W.str_of_cps e1, e2, e3]
abbrev p_of (T : Txt K mg) : DF := sp2 fun c a q e => c = .raw (.ref T.c_Spots) ∧ ((∃ xs, a = .tup xs ∧ AskS T xs (fun us => q (spsD T us)) e) ∨ ((kB a ∨ ∃ us, a = spsD T us) ∧ (∀ xs, a ≠ .tup xs) ∧ e (.ref T.c_InvalidSpot, [])))
theorem ok_Spots_of (T : Txt K mg) : FnOk P w K mg base (L2.CX P w) 13 T.a_Spots_of T.fd_Spots_of ["cls", "spots"] (toSp K (TB T) (p_of T)) := by
  have G_Spots_init : FnA P w K mg base (L2.CX P w) 10 T.a_Spots_init (spStar K (TB T) T.c_Spots 0 (p_Spots T)) := ok_Spots_init T
  refine okDX (n := 0) T.F_Spots_of sc_Spots_of rfl (fun ds q e h => sp2_len ds q e h) (fun cdv A outer s H E hr => (dss_cons (ds_if (dt_not (dt_val (DE.s (d_callB (pe_callB (show CallR _ (.builtin "isinstance") (rIsi K) from call_isi) (by rfl) T.n_isinstance (by decide +kernel) (das_cons (DE.s (d_var (pv 1))) (das_cons (DE.s (d_raw (pe_bltn (v := .ty "tuple") (by rfl) T.n_tuple (by decide +kernel) rfl))) das_nil))) (f_isi (cs := [T.c_Spots])  tell_tuple  (fun C m => by rw [List.mem_singleton.mp m]; exact ⟨T.is_Spots, T.kk_Spots_tuple⟩)))) (by intro _; rfl))) (dss_one (ds_raise (C := T.c_InvalidSpot) (ps_raise rfl (takes_of rfl rfl rfl rfl) (pmk_own PySem.F.excBase_ValueError T.x_InvalidSpot T.g_InvalidSpot T.kC_InvalidSpot (raises_own T.eb_InvalidSpot T.et_InvalidSpot) (by exact rfl))))) dss_nil)
      (dss_one (ds_ret (d_makeSV (pe_makeS1 (pv 0) T.M_Spots G_Spots_init (hr.mono (by decide)) (passes_call (takes_of rfl rfl rfl rfl) (fun _ _ _ _ h => h)) (DE.s (d_var (pv 1))))))))) ?_
  refine sp2_by fun c a q e ⟨ec, h⟩ => ?_
  subst ec
  rcases h with ⟨xs, rfl, h⟩ | ⟨ha, no, h⟩
  · (dsimp only [xsSeq, xsNil, xsRet, xsRetN, xsDrop, xsSet, xsOwn, xsIf, xsFrz, xsApp, xsMany, xsAsg, xsAug, xsRaise, xsPut, xVar, xNow, xC, xList, xOp, xUn, xOpN, xNil, xCons, xStar, xSeqOf, xCB, xCBN, xIf, xAnd, xOr, xNot, xtAnd, xtOr, xtNot, xtVal, xtTru, truD, xChain, xTup, xLst, xCall, xCall0, xFld, xOwnF, xMeth, xMeth0, xProp, xMake, xMakeS, xCMeth, xSl, xoNone, xoSome, xJoin, xSm, xFmt, xJs, xRev, xnSl, fAdd, nAdd, fSub, fMul, fMod, fPow, fFdiv, fNeg, fCmpI, fEq, fNe, fEqNil, fNeNil, fIs, fIsnt, DL.isNon, noRaw, fIn, fNotIn, fIx, fSl, fLen, fAbs, fMax, fMin, fInt, fStr, nList, fTuple, fAll, fAny, fSum, fRepr, fIsi, fIsO, fEqO, fNeO, sideOk, fInO, fNotInO, fIxO, fIxO0, fUnO, fBinO, fBinO0, fLenO, fStrO, fBoolO, fBool, asBl, xgName, xgNil, xgCons, xgTup, startD, startI, endK, endI, getV, setV, setVs, xmNil, xmVal, xmOwn, noV, List.length_cons, List.length_nil, Bool.not_true, Bool.not_false, xLc, xiLst, xiTup, xiRng1, xiRng2, xiStr, xiEnum, xiZip, xsFor, xsWhile, xtYes, ifB_tt, ifB_ff, kB, isIntD, isBoolD, isStrD, isTupD, isLstD, isDctD, xlStep, wipeD, List.map, fBinU, xDct0]; try simp only [eq_self_iff_true, true_and, and_true])
    exact ⟨Nat.zero_le _, fit_of (by have z := h.1; show xs.length - 0 ≤ 100000; omega), xs, rfl, .inr h⟩
  · rcases ha with ha | ⟨us, rfl⟩
    · cases a with
      | tup xs => exact (no xs rfl).elim
      | _ => first | exact ha.elim | ((dsimp only [xsSeq, xsNil, xsRet, xsRetN, xsDrop, xsSet, xsOwn, xsIf, xsFrz, xsApp, xsMany, xsAsg, xsAug, xsRaise, xsPut, xVar, xNow, xC, xList, xOp, xUn, xOpN, xNil, xCons, xStar, xSeqOf, xCB, xCBN, xIf, xAnd, xOr, xNot, xtAnd, xtOr, xtNot, xtVal, xtTru, truD, xChain, xTup, xLst, xCall, xCall0, xFld, xOwnF, xMeth, xMeth0, xProp, xMake, xMakeS, xCMeth, xSl, xoNone, xoSome, xJoin, xSm, xFmt, xJs, xRev, xnSl, fAdd, nAdd, fSub, fMul, fMod, fPow, fFdiv, fNeg, fCmpI, fEq, fNe, fEqNil, fNeNil, fIs, fIsnt, DL.isNon, noRaw, fIn, fNotIn, fIx, fSl, fLen, fAbs, fMax, fMin, fInt, fStr, nList, fTuple, fAll, fAny, fSum, fRepr, fIsi, fIsO, fEqO, fNeO, sideOk, fInO, fNotInO, fIxO, fIxO0, fUnO, fBinO, fBinO0, fLenO, fStrO, fBoolO, fBool, asBl, xgName, xgNil, xgCons, xgTup, startD, startI, endK, endI, getV, setV, setVs, xmNil, xmVal, xmOwn, noV, List.length_cons, List.length_nil, Bool.not_true, Bool.not_false, xLc, xiLst, xiTup, xiRng1, xiRng2, xiStr, xiEnum, xiZip, xsFor, xsWhile, xtYes, ifB_tt, ifB_ff, kB, isIntD, isBoolD, isStrD, isTupD, isLstD, isDctD, xlStep, wipeD, List.map, fBinU, xDct0]; try simp only [eq_self_iff_true, true_and, and_true]); first | exact h | exact ⟨trivial, h⟩)
    · (dsimp only [xsSeq, xsNil, xsRet, xsRetN, xsDrop, xsSet, xsOwn, xsIf, xsFrz, xsApp, xsMany, xsAsg, xsAug, xsRaise, xsPut, xVar, xNow, xC, xList, xOp, xUn, xOpN, xNil, xCons, xStar, xSeqOf, xCB, xCBN, xIf, xAnd, xOr, xNot, xtAnd, xtOr, xtNot, xtVal, xtTru, truD, xChain, xTup, xLst, xCall, xCall0, xFld, xOwnF, xMeth, xMeth0, xProp, xMake, xMakeS, xCMeth, xSl, xoNone, xoSome, xJoin, xSm, xFmt, xJs, xRev, xnSl, fAdd, nAdd, fSub, fMul, fMod, fPow, fFdiv, fNeg, fCmpI, fEq, fNe, fEqNil, fNeNil, fIs, fIsnt, DL.isNon, noRaw, fIn, fNotIn, fIx, fSl, fLen, fAbs, fMax, fMin, fInt, fStr, nList, fTuple, fAll, fAny, fSum, fRepr, fIsi, fIsO, fEqO, fNeO, sideOk, fInO, fNotInO, fIxO, fIxO0, fUnO, fBinO, fBinO0, fLenO, fStrO, fBoolO, fBool, asBl, xgName, xgNil, xgCons, xgTup, startD, startI, endK, endI, getV, setV, setVs, xmNil, xmVal, xmOwn, noV, List.length_cons, List.length_nil, Bool.not_true, Bool.not_false, xLc, xiLst, xiTup, xiRng1, xiRng2, xiStr, xiEnum, xiZip, xsFor, xsWhile, xtYes, ifB_tt, ifB_ff, kB, isIntD, isBoolD, isStrD, isTupD, isLstD, isDctD, xlStep, wipeD, List.map, fBinU, xDct0]; try simp only [eq_self_iff_true, true_and, and_true])
      exact ⟨List.mem_singleton.mpr rfl, h⟩
/-- a set of spots known to be some -/
theorem make_snd (T : Txt K mg) {us : List Spt} {q : D → Prop} {e : Exc → Prop} (h : q (spsD T us)) : p_Sound [.tup (us.map spD)] (fun fd => starI 0 (p_Spots T) [.obj T.c_Sound fd] (fun fd => q (.obj T.c_Spots fd)) e) e :=
  ⟨Nat.zero_le _, fit_of (by show 1 ≤ 100000; decide), _, rfl, .inl ⟨us, rfl, h⟩⟩
abbrev p_within (T : Txt K mg) : DF := sp2 fun a b q e => ∃ us, a = spsD T us ∧ (∀ z ∈ us, okS z) ∧ us.length ≤ 1000 ∧ ((∃ zs, b = spsD T zs ∧ (∀ z ∈ zs, okS z) ∧ q (.bl (us.all fun z => decide (z ∈ zs)))) ∨ (kB b ∧ e (.ref T.c_InvalidOperation, [])))
theorem ok_Spots_within (T : Txt K mg) : FnOk P w K mg base (L2.CX P w) 16 T.a_Spots_within T.fd_Spots_within ["self", "other"] (toSp K (TB T) (p_within T)) := by
  have G_check_is_spots : FnOk P w K mg base (L2.CX P w) 13 T.a_check_is_spots T.fd_check_is_spots ["value"] (toSp K (TB T) (p_check T)) := ok_check_is_spots T
  refine okDX (n := 1) T.F_Spots_within sc_Spots_within rfl (fun ds q e h => sp2_len ds q e h) (fun cdv A outer s H E hr => (dss_cons (ds_expr (d_call (pe_call G_check_is_spots (hr.mono (by decide)) (by rfl) T.g_check_is_spots T.F_check_is_spots.kp T.b_check_is_spots .nil (passes_call (takes_of rfl rfl rfl rfl) (fun _ _ _ _ h => h)) (da_cons (d_var (pv 1)) da_nil))))
      (dss_one (ds_ret (d_callB (pe_callB (cr_all rfl) (by rfl) T.n_all (by decide +kernel) (das_cons (DN.s (d_lc (pe_lc (own := [("spot", 2)]) (g := (gName 2)) rfl sc_Spots_within.nd (dis_of (di_tup (d_fld (pe_fld (DE.s (d_var (pv 0))) rfl) T.cl_Spots T.nA_Spots_spots))) (blkOk_by (N := ["self", "other", "spot"]) (sc := defScope s_Spots_within) (by decide +kernel)) (fun _ _ _ _ _ => (pg_name (i := 2) sc_Spots_within.nd rfl (Or.inl rfl))) (fun _ _ _ _ _ => dts_nil) (fun _ _ _ _ _ => (d_cmp (show OpR _ (compareOp .In) (rInU K) from o_in (u65 hr)) f_in (DE.s (d_var (pv 2))) (DE.s (d_fld (pe_fld (DE.s (d_var (pv 1))) rfl) T.cl_Spots T.nA_Spots_spots)) (by rfl)))) (gd_name (by decide)))) das_nil)) f_all))))) ?_
  refine sp2_by fun a b q e ⟨us, ea, hu, h64, h⟩ => ?_
  subst ea
  rcases h with ⟨zs, rfl, hz, h⟩ | ⟨hb, h⟩
  · (dsimp only [xsSeq, xsNil, xsRet, xsRetN, xsDrop, xsSet, xsOwn, xsIf, xsFrz, xsApp, xsMany, xsAsg, xsAug, xsRaise, xsPut, xVar, xNow, xC, xList, xOp, xUn, xOpN, xNil, xCons, xStar, xSeqOf, xCB, xCBN, xIf, xAnd, xOr, xNot, xtAnd, xtOr, xtNot, xtVal, xtTru, truD, xChain, xTup, xLst, xCall, xCall0, xFld, xOwnF, xMeth, xMeth0, xProp, xMake, xMakeS, xCMeth, xSl, xoNone, xoSome, xJoin, xSm, xFmt, xJs, xRev, xnSl, fAdd, nAdd, fSub, fMul, fMod, fPow, fFdiv, fNeg, fCmpI, fEq, fNe, fEqNil, fNeNil, fIs, fIsnt, DL.isNon, noRaw, fIn, fNotIn, fIx, fSl, fLen, fAbs, fMax, fMin, fInt, fStr, nList, fTuple, fAll, fAny, fSum, fRepr, fIsi, fIsO, fEqO, fNeO, sideOk, fInO, fNotInO, fIxO, fIxO0, fUnO, fBinO, fBinO0, fLenO, fStrO, fBoolO, fBool, asBl, xgName, xgNil, xgCons, xgTup, startD, startI, endK, endI, getV, setV, setVs, xmNil, xmVal, xmOwn, noV, List.length_cons, List.length_nil, Bool.not_true, Bool.not_false, xLc, xiLst, xiTup, xiRng1, xiRng2, xiStr, xiEnum, xiZip, xsFor, xsWhile, xtYes, ifB_tt, ifB_ff, kB, isIntD, isBoolD, isStrD, isTupD, isLstD, isDctD, xlStep, wipeD, List.map, fBinU, xDct0]; try simp only [eq_self_iff_true, true_and, and_true])
    refine .inl ⟨⟨zs, rfl⟩, rfl, _, rfl, ?_⟩
    refine xl_all us spD (fun z => .bl (decide (z ∈ zs))) (by omega) (fun z hm yes no hy => ?_) ⟨us.map fun z => decide (z ∈ zs), by rw [List.map_map]; rfl, by rw [List.all_map]; exact h⟩
    (dsimp only [xsSeq, xsNil, xsRet, xsRetN, xsDrop, xsSet, xsOwn, xsIf, xsFrz, xsApp, xsMany, xsAsg, xsAug, xsRaise, xsPut, xVar, xNow, xC, xList, xOp, xUn, xOpN, xNil, xCons, xStar, xSeqOf, xCB, xCBN, xIf, xAnd, xOr, xNot, xtAnd, xtOr, xtNot, xtVal, xtTru, truD, xChain, xTup, xLst, xCall, xCall0, xFld, xOwnF, xMeth, xMeth0, xProp, xMake, xMakeS, xCMeth, xSl, xoNone, xoSome, xJoin, xSm, xFmt, xJs, xRev, xnSl, fAdd, nAdd, fSub, fMul, fMod, fPow, fFdiv, fNeg, fCmpI, fEq, fNe, fEqNil, fNeNil, fIs, fIsnt, DL.isNon, noRaw, fIn, fNotIn, fIx, fSl, fLen, fAbs, fMax, fMin, fInt, fStr, nList, fTuple, fAll, fAny, fSum, fRepr, fIsi, fIsO, fEqO, fNeO, sideOk, fInO, fNotInO, fIxO, fIxO0, fUnO, fBinO, fBinO0, fLenO, fStrO, fBoolO, fBool, asBl, xgName, xgNil, xgCons, xgTup, startD, startI, endK, endI, getV, setV, setVs, xmNil, xmVal, xmOwn, noV, List.length_cons, List.length_nil, Bool.not_true, Bool.not_false, xLc, xiLst, xiTup, xiRng1, xiRng2, xiStr, xiEnum, xiZip, xsFor, xsWhile, xtYes, ifB_tt, ifB_ff, kB, isIntD, isBoolD, isStrD, isTupD, isLstD, isDctD, xlStep, wipeD, List.map, fBinU, xDct0]; try simp only [eq_self_iff_true, true_and, and_true])
    exact ⟨rfl, _, rfl, (plain_sp (hu z hm)).mono (by decide), (plain_sps hz).mono (by decide), by rw [has_sp]; exact hy⟩
  · (dsimp only [xsSeq, xsNil, xsRet, xsRetN, xsDrop, xsSet, xsOwn, xsIf, xsFrz, xsApp, xsMany, xsAsg, xsAug, xsRaise, xsPut, xVar, xNow, xC, xList, xOp, xUn, xOpN, xNil, xCons, xStar, xSeqOf, xCB, xCBN, xIf, xAnd, xOr, xNot, xtAnd, xtOr, xtNot, xtVal, xtTru, truD, xChain, xTup, xLst, xCall, xCall0, xFld, xOwnF, xMeth, xMeth0, xProp, xMake, xMakeS, xCMeth, xSl, xoNone, xoSome, xJoin, xSm, xFmt, xJs, xRev, xnSl, fAdd, nAdd, fSub, fMul, fMod, fPow, fFdiv, fNeg, fCmpI, fEq, fNe, fEqNil, fNeNil, fIs, fIsnt, DL.isNon, noRaw, fIn, fNotIn, fIx, fSl, fLen, fAbs, fMax, fMin, fInt, fStr, nList, fTuple, fAll, fAny, fSum, fRepr, fIsi, fIsO, fEqO, fNeO, sideOk, fInO, fNotInO, fIxO, fIxO0, fUnO, fBinO, fBinO0, fLenO, fStrO, fBoolO, fBool, asBl, xgName, xgNil, xgCons, xgTup, startD, startI, endK, endI, getV, setV, setVs, xmNil, xmVal, xmOwn, noV, List.length_cons, List.length_nil, Bool.not_true, Bool.not_false, xLc, xiLst, xiTup, xiRng1, xiRng2, xiStr, xiEnum, xiZip, xsFor, xsWhile, xtYes, ifB_tt, ifB_ff, kB, isIntD, isBoolD, isStrD, isTupD, isLstD, isDctD, xlStep, wipeD, List.map, fBinU, xDct0]; try simp only [eq_self_iff_true, true_and, and_true])
    exact .inr ⟨hb, h⟩
abbrev p_or (T : Txt K mg) : DF := sp2 fun a b q e => ∃ us, a = spsD T us ∧ (∀ z ∈ us, okS z) ∧ us.length ≤ 30 ∧ ((∃ zs, b = spsD T zs ∧ (∀ z ∈ zs, okS z) ∧ zs.length ≤ 30 ∧ ∀ ws, Asc spP ws (us ++ zs) → q (spsD T ws)) ∨ (kB b ∧ e (.ref T.c_InvalidOperation, [])))
theorem ok_Spots_or (T : Txt K mg) : FnOk P w K mg base (L2.CX P w) 16 T.a_Spots_or T.fd_Spots_or ["self", "other"] (toSp K (TB T) (p_or T)) := by
  have G_check_is_spots : FnOk P w K mg base (L2.CX P w) 13 T.a_check_is_spots T.fd_check_is_spots ["value"] (toSp K (TB T) (p_check T)) := ok_check_is_spots T
  have G_Spots_init : FnA P w K mg base (L2.CX P w) 10 T.a_Spots_init (spStar K (TB T) T.c_Spots 0 (p_Spots T)) := ok_Spots_init T
  have G_Sound_init : FnOk P w K mg base (L2.CX P w) 1 T.a_Sound_init T.fd_Sound_init ["self", "worth"] (toSpI K (TB T) T.c_Sound p_Sound) := ok_Sound_init T
  refine okDX (n := 0) T.F_Spots_or sc_Spots_or rfl (fun ds q e h => sp2_len ds q e h) (fun cdv A outer s H E hr => (dss_cons (ds_expr (d_call (pe_call G_check_is_spots (hr.mono (by decide)) (by rfl) T.g_check_is_spots T.F_check_is_spots.kp T.b_check_is_spots .nil (passes_call (takes_of rfl rfl rfl rfl) (fun _ _ _ _ h => h)) (da_cons (d_var (pv 1)) da_nil))))
      (dss_one (ds_ret (d_makeA (pe_makeA (ks := []) (pe_glob (v := .ref T.c_Spots) rfl T.g_Spots rfl) T.M_Spots G_Spots_init (hr.mono (by decide)) (passes_call (takes_of rfl rfl rfl rfl) (fun _ _ _ _ h => h)) (da_cons (d_make (pe_make T.M_Sound G_Sound_init (hr.mono (by decide)) (by rfl) T.g_Sound T.b_Sound_init .nil (passes_call (takes_of rfl rfl rfl rfl) (fun _ _ _ _ h => h)) (da_cons (d_callB (pe_callTy call_tuple_of (by rfl) T.n_tuple (by decide +kernel) (das_cons (DN.s (d_sortSet (key := spK) rfl (enc := spL) spK_py spK_dep (pe_callB (NB.cr_sortN rfl hr.units) (by rfl) T.n_sorted (by decide +kernel) (pa_cons (pe_callTy (NB.cr_setN spK_inj rfl hr.units) (by rfl) T.n_set (by decide +kernel) (pa_cons (DN.s (d_lst (da_star (DE.s (d_fld (pe_fld (DE.s (d_var (pv 0))) rfl) T.cl_Spots T.nA_Spots_spots)) (da_star (DE.s (d_fld (pe_fld (DE.s (d_var (pv 1))) rfl) T.cl_Spots T.nA_Spots_spots)) da_nil)))) pa_nil)) pa_nil)))) das_nil)) f_tuple) da_nil))) da_nil) pk_nil)))))) ?_
  refine sp2_by fun a b q e ⟨us, ea, hu, h64, h⟩ => ?_
  subst ea
  rcases h with ⟨zs, rfl, hz, l64, h⟩ | ⟨hb, h⟩
  · (dsimp only [xsSeq, xsNil, xsRet, xsRetN, xsDrop, xsSet, xsOwn, xsIf, xsFrz, xsApp, xsMany, xsAsg, xsAug, xsRaise, xsPut, xVar, xNow, xC, xList, xOp, xUn, xOpN, xNil, xCons, xStar, xSeqOf, xCB, xCBN, xIf, xAnd, xOr, xNot, xtAnd, xtOr, xtNot, xtVal, xtTru, truD, xChain, xTup, xLst, xCall, xCall0, xFld, xOwnF, xMeth, xMeth0, xProp, xMake, xMakeS, xCMeth, xSl, xoNone, xoSome, xJoin, xSm, xFmt, xJs, xRev, xnSl, fAdd, nAdd, fSub, fMul, fMod, fPow, fFdiv, fNeg, fCmpI, fEq, fNe, fEqNil, fNeNil, fIs, fIsnt, DL.isNon, noRaw, fIn, fNotIn, fIx, fSl, fLen, fAbs, fMax, fMin, fInt, fStr, nList, fTuple, fAll, fAny, fSum, fRepr, fIsi, fIsO, fEqO, fNeO, sideOk, fInO, fNotInO, fIxO, fIxO0, fUnO, fBinO, fBinO0, fLenO, fStrO, fBoolO, fBool, asBl, xgName, xgNil, xgCons, xgTup, startD, startI, endK, endI, getV, setV, setVs, xmNil, xmVal, xmOwn, noV, List.length_cons, List.length_nil, Bool.not_true, Bool.not_false, xLc, xiLst, xiTup, xiRng1, xiRng2, xiStr, xiEnum, xiZip, xsFor, xsWhile, xtYes, ifB_tt, ifB_ff, kB, isIntD, isBoolD, isStrD, isTupD, isLstD, isDctD, xlStep, wipeD, List.map, fBinU, xDct0]; try simp only [eq_self_iff_true, true_and, and_true])
    refine .inl ⟨⟨zs, rfl⟩, rfl, _, rfl, rfl, _, rfl, by show fit _; exact fit_of (by simp only [List.length_append, List.length_map, List.length_nil]; omega), us ++ zs, .inl ?_, by rw [List.length_append]; omega, fun d hd d' hd' => ?_, fun vs _ => .inl fun d hd => ?_, fun vs hv => make_snd T (h vs hv)⟩
    · rw [List.map_append, List.append_nil]
      rfl
    · obtain ⟨x, _, rfl⟩ := List.mem_map.mp hd
      obtain ⟨y, _, rfl⟩ := List.mem_map.mp hd'
      exact alike_sp x y
    · obtain ⟨x, _, rfl⟩ := List.mem_map.mp hd
      exact ⟨_, _, rfl⟩
  · (dsimp only [xsSeq, xsNil, xsRet, xsRetN, xsDrop, xsSet, xsOwn, xsIf, xsFrz, xsApp, xsMany, xsAsg, xsAug, xsRaise, xsPut, xVar, xNow, xC, xList, xOp, xUn, xOpN, xNil, xCons, xStar, xSeqOf, xCB, xCBN, xIf, xAnd, xOr, xNot, xtAnd, xtOr, xtNot, xtVal, xtTru, truD, xChain, xTup, xLst, xCall, xCall0, xFld, xOwnF, xMeth, xMeth0, xProp, xMake, xMakeS, xCMeth, xSl, xoNone, xoSome, xJoin, xSm, xFmt, xJs, xRev, xnSl, fAdd, nAdd, fSub, fMul, fMod, fPow, fFdiv, fNeg, fCmpI, fEq, fNe, fEqNil, fNeNil, fIs, fIsnt, DL.isNon, noRaw, fIn, fNotIn, fIx, fSl, fLen, fAbs, fMax, fMin, fInt, fStr, nList, fTuple, fAll, fAny, fSum, fRepr, fIsi, fIsO, fEqO, fNeO, sideOk, fInO, fNotInO, fIxO, fIxO0, fUnO, fBinO, fBinO0, fLenO, fStrO, fBoolO, fBool, asBl, xgName, xgNil, xgCons, xgTup, startD, startI, endK, endI, getV, setV, setVs, xmNil, xmVal, xmOwn, noV, List.length_cons, List.length_nil, Bool.not_true, Bool.not_false, xLc, xiLst, xiTup, xiRng1, xiRng2, xiStr, xiEnum, xiZip, xsFor, xsWhile, xtYes, ifB_tt, ifB_ff, kB, isIntD, isBoolD, isStrD, isTupD, isLstD, isDctD, xlStep, wipeD, List.map, fBinU, xDct0]; try simp only [eq_self_iff_true, true_and, and_true])
    exact .inr ⟨hb, h⟩
abbrev p_and (T : Txt K mg) : DF := sp2 fun a b q e => ∃ us, a = spsD T us ∧ (∀ z ∈ us, okS z) ∧ us.length ≤ 1000 ∧ ((∃ zs, b = spsD T zs ∧ (∀ z ∈ zs, okS z) ∧ q (spsD T (us.filter fun z => decide (z ∈ zs)))) ∨ (kB b ∧ e (.ref T.c_InvalidOperation, [])))
theorem ok_Spots_and (T : Txt K mg) : FnOk P w K mg base (L2.CX P w) 16 T.a_Spots_and T.fd_Spots_and ["self", "other"] (toSp K (TB T) (p_and T)) := by
  have G_check_is_spots : FnOk P w K mg base (L2.CX P w) 13 T.a_check_is_spots T.fd_check_is_spots ["value"] (toSp K (TB T) (p_check T)) := ok_check_is_spots T
  have G_Spots_init : FnA P w K mg base (L2.CX P w) 10 T.a_Spots_init (spStar K (TB T) T.c_Spots 0 (p_Spots T)) := ok_Spots_init T
  have G_Sound_init : FnOk P w K mg base (L2.CX P w) 1 T.a_Sound_init T.fd_Sound_init ["self", "worth"] (toSpI K (TB T) T.c_Sound p_Sound) := ok_Sound_init T
  refine okDX (n := 1) T.F_Spots_and sc_Spots_and rfl (fun ds q e h => sp2_len ds q e h) (fun cdv A outer s H E hr => (dss_cons (ds_expr (d_call (pe_call G_check_is_spots (hr.mono (by decide)) (by rfl) T.g_check_is_spots T.F_check_is_spots.kp T.b_check_is_spots .nil (passes_call (takes_of rfl rfl rfl rfl) (fun _ _ _ _ h => h)) (da_cons (d_var (pv 1)) da_nil))))
      (dss_one (ds_ret (d_makeA (pe_makeA (ks := []) (pe_glob (v := .ref T.c_Spots) rfl T.g_Spots rfl) T.M_Spots G_Spots_init (hr.mono (by decide)) (passes_call (takes_of rfl rfl rfl rfl) (fun _ _ _ _ h => h)) (da_cons (d_make (pe_make T.M_Sound G_Sound_init (hr.mono (by decide)) (by rfl) T.g_Sound T.b_Sound_init .nil (passes_call (takes_of rfl rfl rfl rfl) (fun _ _ _ _ h => h)) (da_cons (d_callB (pe_callTy call_tuple_of (by rfl) T.n_tuple (by decide +kernel) (das_cons (DN.s (d_lc (pe_lc (own := [("spot", 2)]) (g := (gName 2)) rfl sc_Spots_and.nd (dis_of (di_tup (d_fld (pe_fld (DE.s (d_var (pv 0))) rfl) T.cl_Spots T.nA_Spots_spots))) (blkOk_by (N := ["self", "other", "spot"]) (sc := defScope s_Spots_and) (by decide +kernel)) (fun _ _ _ _ _ => (pg_name (i := 2) sc_Spots_and.nd rfl (Or.inl rfl))) (fun _ _ _ _ _ => (dts_one (dt_cmp (show OpR _ (compareOp .In) (rInU K) from o_in (u65 hr)) f_in (DE.s (d_var (pv 2))) (DE.s (d_fld (pe_fld (DE.s (d_var (pv 1))) rfl) T.cl_Spots T.nA_Spots_spots)) (by rfl)))) (fun _ _ _ _ _ => (d_var (pv 2)))) (gd_name (by decide)))) das_nil)) f_tuple) da_nil))) da_nil) pk_nil)))))) ?_
  refine sp2_by fun a b q e ⟨us, ea, hu, h64, h⟩ => ?_
  subst ea
  rcases h with ⟨zs, rfl, hz, h⟩ | ⟨hb, h⟩
  · (dsimp only [xsSeq, xsNil, xsRet, xsRetN, xsDrop, xsSet, xsOwn, xsIf, xsFrz, xsApp, xsMany, xsAsg, xsAug, xsRaise, xsPut, xVar, xNow, xC, xList, xOp, xUn, xOpN, xNil, xCons, xStar, xSeqOf, xCB, xCBN, xIf, xAnd, xOr, xNot, xtAnd, xtOr, xtNot, xtVal, xtTru, truD, xChain, xTup, xLst, xCall, xCall0, xFld, xOwnF, xMeth, xMeth0, xProp, xMake, xMakeS, xCMeth, xSl, xoNone, xoSome, xJoin, xSm, xFmt, xJs, xRev, xnSl, fAdd, nAdd, fSub, fMul, fMod, fPow, fFdiv, fNeg, fCmpI, fEq, fNe, fEqNil, fNeNil, fIs, fIsnt, DL.isNon, noRaw, fIn, fNotIn, fIx, fSl, fLen, fAbs, fMax, fMin, fInt, fStr, nList, fTuple, fAll, fAny, fSum, fRepr, fIsi, fIsO, fEqO, fNeO, sideOk, fInO, fNotInO, fIxO, fIxO0, fUnO, fBinO, fBinO0, fLenO, fStrO, fBoolO, fBool, asBl, xgName, xgNil, xgCons, xgTup, startD, startI, endK, endI, getV, setV, setVs, xmNil, xmVal, xmOwn, noV, List.length_cons, List.length_nil, Bool.not_true, Bool.not_false, xLc, xiLst, xiTup, xiRng1, xiRng2, xiStr, xiEnum, xiZip, xsFor, xsWhile, xtYes, ifB_tt, ifB_ff, kB, isIntD, isBoolD, isStrD, isTupD, isLstD, isDctD, xlStep, wipeD, List.map, fBinU, xDct0]; try simp only [eq_self_iff_true, true_and, and_true])
    refine .inl ⟨⟨zs, rfl⟩, rfl, _, rfl, xl_map us spD (fun z => decide (z ∈ zs)) spD (by omega) (fun z hm yes no hy hn => ?_) (make_snd T h)⟩
    (dsimp only [xsSeq, xsNil, xsRet, xsRetN, xsDrop, xsSet, xsOwn, xsIf, xsFrz, xsApp, xsMany, xsAsg, xsAug, xsRaise, xsPut, xVar, xNow, xC, xList, xOp, xUn, xOpN, xNil, xCons, xStar, xSeqOf, xCB, xCBN, xIf, xAnd, xOr, xNot, xtAnd, xtOr, xtNot, xtVal, xtTru, truD, xChain, xTup, xLst, xCall, xCall0, xFld, xOwnF, xMeth, xMeth0, xProp, xMake, xMakeS, xCMeth, xSl, xoNone, xoSome, xJoin, xSm, xFmt, xJs, xRev, xnSl, fAdd, nAdd, fSub, fMul, fMod, fPow, fFdiv, fNeg, fCmpI, fEq, fNe, fEqNil, fNeNil, fIs, fIsnt, DL.isNon, noRaw, fIn, fNotIn, fIx, fSl, fLen, fAbs, fMax, fMin, fInt, fStr, nList, fTuple, fAll, fAny, fSum, fRepr, fIsi, fIsO, fEqO, fNeO, sideOk, fInO, fNotInO, fIxO, fIxO0, fUnO, fBinO, fBinO0, fLenO, fStrO, fBoolO, fBool, asBl, xgName, xgNil, xgCons, xgTup, startD, startI, endK, endI, getV, setV, setVs, xmNil, xmVal, xmOwn, noV, List.length_cons, List.length_nil, Bool.not_true, Bool.not_false, xLc, xiLst, xiTup, xiRng1, xiRng2, xiStr, xiEnum, xiZip, xsFor, xsWhile, xtYes, ifB_tt, ifB_ff, kB, isIntD, isBoolD, isStrD, isTupD, isLstD, isDctD, xlStep, wipeD, List.map, fBinU, xDct0]; try simp only [eq_self_iff_true, true_and, and_true])
    exact ⟨rfl, _, rfl, (plain_sp (hu z hm)).mono (by decide), (plain_sps hz).mono (by decide), by rw [has_sp]; exact ifB_of hy hn⟩
  · (dsimp only [xsSeq, xsNil, xsRet, xsRetN, xsDrop, xsSet, xsOwn, xsIf, xsFrz, xsApp, xsMany, xsAsg, xsAug, xsRaise, xsPut, xVar, xNow, xC, xList, xOp, xUn, xOpN, xNil, xCons, xStar, xSeqOf, xCB, xCBN, xIf, xAnd, xOr, xNot, xtAnd, xtOr, xtNot, xtVal, xtTru, truD, xChain, xTup, xLst, xCall, xCall0, xFld, xOwnF, xMeth, xMeth0, xProp, xMake, xMakeS, xCMeth, xSl, xoNone, xoSome, xJoin, xSm, xFmt, xJs, xRev, xnSl, fAdd, nAdd, fSub, fMul, fMod, fPow, fFdiv, fNeg, fCmpI, fEq, fNe, fEqNil, fNeNil, fIs, fIsnt, DL.isNon, noRaw, fIn, fNotIn, fIx, fSl, fLen, fAbs, fMax, fMin, fInt, fStr, nList, fTuple, fAll, fAny, fSum, fRepr, fIsi, fIsO, fEqO, fNeO, sideOk, fInO, fNotInO, fIxO, fIxO0, fUnO, fBinO, fBinO0, fLenO, fStrO, fBoolO, fBool, asBl, xgName, xgNil, xgCons, xgTup, startD, startI, endK, endI, getV, setV, setVs, xmNil, xmVal, xmOwn, noV, List.length_cons, List.length_nil, Bool.not_true, Bool.not_false, xLc, xiLst, xiTup, xiRng1, xiRng2, xiStr, xiEnum, xiZip, xsFor, xsWhile, xtYes, ifB_tt, ifB_ff, kB, isIntD, isBoolD, isStrD, isTupD, isLstD, isDctD, xlStep, wipeD, List.map, fBinU, xDct0]; try simp only [eq_self_iff_true, true_and, and_true])
    exact .inr ⟨hb, h⟩
abbrev p_sub (T : Txt K mg) : DF := sp2 fun a b q e => ∃ us, a = spsD T us ∧ (∀ z ∈ us, okS z) ∧ us.length ≤ 1000 ∧ ((∃ zs, b = spsD T zs ∧ (∀ z ∈ zs, okS z) ∧ q (spsD T (us.filter fun z => !decide (z ∈ zs)))) ∨ (kB b ∧ e (.ref T.c_InvalidOperation, [])))
theorem ok_Spots_sub (T : Txt K mg) : FnOk P w K mg base (L2.CX P w) 16 T.a_Spots_sub T.fd_Spots_sub ["self", "other"] (toSp K (TB T) (p_sub T)) := by
  have G_check_is_spots : FnOk P w K mg base (L2.CX P w) 13 T.a_check_is_spots T.fd_check_is_spots ["value"] (toSp K (TB T) (p_check T)) := ok_check_is_spots T
  have G_Spots_init : FnA P w K mg base (L2.CX P w) 10 T.a_Spots_init (spStar K (TB T) T.c_Spots 0 (p_Spots T)) := ok_Spots_init T
  have G_Sound_init : FnOk P w K mg base (L2.CX P w) 1 T.a_Sound_init T.fd_Sound_init ["self", "worth"] (toSpI K (TB T) T.c_Sound p_Sound) := ok_Sound_init T
  refine okDX (n := 1) T.F_Spots_sub sc_Spots_sub rfl (fun ds q e h => sp2_len ds q e h) (fun cdv A outer s H E hr => (dss_cons (ds_expr (d_call (pe_call G_check_is_spots (hr.mono (by decide)) (by rfl) T.g_check_is_spots T.F_check_is_spots.kp T.b_check_is_spots .nil (passes_call (takes_of rfl rfl rfl rfl) (fun _ _ _ _ h => h)) (da_cons (d_var (pv 1)) da_nil))))
      (dss_one (ds_ret (d_makeA (pe_makeA (ks := []) (pe_glob (v := .ref T.c_Spots) rfl T.g_Spots rfl) T.M_Spots G_Spots_init (hr.mono (by decide)) (passes_call (takes_of rfl rfl rfl rfl) (fun _ _ _ _ h => h)) (da_cons (d_make (pe_make T.M_Sound G_Sound_init (hr.mono (by decide)) (by rfl) T.g_Sound T.b_Sound_init .nil (passes_call (takes_of rfl rfl rfl rfl) (fun _ _ _ _ h => h)) (da_cons (d_callB (pe_callTy call_tuple_of (by rfl) T.n_tuple (by decide +kernel) (das_cons (DN.s (d_lc (pe_lc (own := [("spot", 2)]) (g := (gName 2)) rfl sc_Spots_sub.nd (dis_of (di_tup (d_fld (pe_fld (DE.s (d_var (pv 0))) rfl) T.cl_Spots T.nA_Spots_spots))) (blkOk_by (N := ["self", "other", "spot"]) (sc := defScope s_Spots_sub) (by decide +kernel)) (fun _ _ _ _ _ => (pg_name (i := 2) sc_Spots_sub.nd rfl (Or.inl rfl))) (fun _ _ _ _ _ => (dts_one (dt_cmp (show OpR _ (compareOp .NotIn) (rNotInU K) from o_notIn (u65 hr)) f_notIn (DE.s (d_var (pv 2))) (DE.s (d_fld (pe_fld (DE.s (d_var (pv 1))) rfl) T.cl_Spots T.nA_Spots_spots)) (by rfl)))) (fun _ _ _ _ _ => (d_var (pv 2)))) (gd_name (by decide)))) das_nil)) f_tuple) da_nil))) da_nil) pk_nil)))))) ?_
  refine sp2_by fun a b q e ⟨us, ea, hu, h64, h⟩ => ?_
  subst ea
  rcases h with ⟨zs, rfl, hz, h⟩ | ⟨hb, h⟩
  · (dsimp only [xsSeq, xsNil, xsRet, xsRetN, xsDrop, xsSet, xsOwn, xsIf, xsFrz, xsApp, xsMany, xsAsg, xsAug, xsRaise, xsPut, xVar, xNow, xC, xList, xOp, xUn, xOpN, xNil, xCons, xStar, xSeqOf, xCB, xCBN, xIf, xAnd, xOr, xNot, xtAnd, xtOr, xtNot, xtVal, xtTru, truD, xChain, xTup, xLst, xCall, xCall0, xFld, xOwnF, xMeth, xMeth0, xProp, xMake, xMakeS, xCMeth, xSl, xoNone, xoSome, xJoin, xSm, xFmt, xJs, xRev, xnSl, fAdd, nAdd, fSub, fMul, fMod, fPow, fFdiv, fNeg, fCmpI, fEq, fNe, fEqNil, fNeNil, fIs, fIsnt, DL.isNon, noRaw, fIn, fNotIn, fIx, fSl, fLen, fAbs, fMax, fMin, fInt, fStr, nList, fTuple, fAll, fAny, fSum, fRepr, fIsi, fIsO, fEqO, fNeO, sideOk, fInO, fNotInO, fIxO, fIxO0, fUnO, fBinO, fBinO0, fLenO, fStrO, fBoolO, fBool, asBl, xgName, xgNil, xgCons, xgTup, startD, startI, endK, endI, getV, setV, setVs, xmNil, xmVal, xmOwn, noV, List.length_cons, List.length_nil, Bool.not_true, Bool.not_false, xLc, xiLst, xiTup, xiRng1, xiRng2, xiStr, xiEnum, xiZip, xsFor, xsWhile, xtYes, ifB_tt, ifB_ff, kB, isIntD, isBoolD, isStrD, isTupD, isLstD, isDctD, xlStep, wipeD, List.map, fBinU, xDct0]; try simp only [eq_self_iff_true, true_and, and_true])
    refine .inl ⟨⟨zs, rfl⟩, rfl, _, rfl, xl_map us spD (fun z => !decide (z ∈ zs)) spD (by omega) (fun z hm yes no hy hn => ?_) (make_snd T h)⟩
    (dsimp only [xsSeq, xsNil, xsRet, xsRetN, xsDrop, xsSet, xsOwn, xsIf, xsFrz, xsApp, xsMany, xsAsg, xsAug, xsRaise, xsPut, xVar, xNow, xC, xList, xOp, xUn, xOpN, xNil, xCons, xStar, xSeqOf, xCB, xCBN, xIf, xAnd, xOr, xNot, xtAnd, xtOr, xtNot, xtVal, xtTru, truD, xChain, xTup, xLst, xCall, xCall0, xFld, xOwnF, xMeth, xMeth0, xProp, xMake, xMakeS, xCMeth, xSl, xoNone, xoSome, xJoin, xSm, xFmt, xJs, xRev, xnSl, fAdd, nAdd, fSub, fMul, fMod, fPow, fFdiv, fNeg, fCmpI, fEq, fNe, fEqNil, fNeNil, fIs, fIsnt, DL.isNon, noRaw, fIn, fNotIn, fIx, fSl, fLen, fAbs, fMax, fMin, fInt, fStr, nList, fTuple, fAll, fAny, fSum, fRepr, fIsi, fIsO, fEqO, fNeO, sideOk, fInO, fNotInO, fIxO, fIxO0, fUnO, fBinO, fBinO0, fLenO, fStrO, fBoolO, fBool, asBl, xgName, xgNil, xgCons, xgTup, startD, startI, endK, endI, getV, setV, setVs, xmNil, xmVal, xmOwn, noV, List.length_cons, List.length_nil, Bool.not_true, Bool.not_false, xLc, xiLst, xiTup, xiRng1, xiRng2, xiStr, xiEnum, xiZip, xsFor, xsWhile, xtYes, ifB_tt, ifB_ff, kB, isIntD, isBoolD, isStrD, isTupD, isLstD, isDctD, xlStep, wipeD, List.map, fBinU, xDct0]; try simp only [eq_self_iff_true, true_and, and_true])
    exact ⟨rfl, _, rfl, (plain_sp (hu z hm)).mono (by decide), (plain_sps hz).mono (by decide), by rw [has_sp]; exact ifB_of hy hn⟩
  · (dsimp only [xsSeq, xsNil, xsRet, xsRetN, xsDrop, xsSet, xsOwn, xsIf, xsFrz, xsApp, xsMany, xsAsg, xsAug, xsRaise, xsPut, xVar, xNow, xC, xList, xOp, xUn, xOpN, xNil, xCons, xStar, xSeqOf, xCB, xCBN, xIf, xAnd, xOr, xNot, xtAnd, xtOr, xtNot, xtVal, xtTru, truD, xChain, xTup, xLst, xCall, xCall0, xFld, xOwnF, xMeth, xMeth0, xProp, xMake, xMakeS, xCMeth, xSl, xoNone, xoSome, xJoin, xSm, xFmt, xJs, xRev, xnSl, fAdd, nAdd, fSub, fMul, fMod, fPow, fFdiv, fNeg, fCmpI, fEq, fNe, fEqNil, fNeNil, fIs, fIsnt, DL.isNon, noRaw, fIn, fNotIn, fIx, fSl, fLen, fAbs, fMax, fMin, fInt, fStr, nList, fTuple, fAll, fAny, fSum, fRepr, fIsi, fIsO, fEqO, fNeO, sideOk, fInO, fNotInO, fIxO, fIxO0, fUnO, fBinO, fBinO0, fLenO, fStrO, fBoolO, fBool, asBl, xgName, xgNil, xgCons, xgTup, startD, startI, endK, endI, getV, setV, setVs, xmNil, xmVal, xmOwn, noV, List.length_cons, List.length_nil, Bool.not_true, Bool.not_false, xLc, xiLst, xiTup, xiRng1, xiRng2, xiStr, xiEnum, xiZip, xsFor, xsWhile, xtYes, ifB_tt, ifB_ff, kB, isIntD, isBoolD, isStrD, isTupD, isLstD, isDctD, xlStep, wipeD, List.map, fBinU, xDct0]; try simp only [eq_self_iff_true, true_and, and_true])
    exact .inr ⟨hb, h⟩
def spT (z : Spt) : Str := Str.empty ++ z.nm ++ " " ++ Str.ofString (toString z.one) ++ " " ++ Str.ofString (toString z.two)
theorem log_idx {i : Int} (h0 : 0 ≤ i) (h1 : i < 10 ^ 30) : i.natAbs.log2 < 1920 := by
  by_cases z : i.natAbs = 0
  · rw [z]
    decide
  · refine (Nat.log2_lt z).mpr (Nat.lt_trans (m := 10 ^ 30) ?_ (by decide +kernel))
    have e : (10 : Int) ^ 30 = ((10 ^ 30 : Nat) : Int) := by decide
    omega
theorem idx_len {i : Int} (h0 : 0 ≤ i) (h1 : i < 10 ^ 30) : (Str.ofString (toString i)).length ≤ 2000 := Nat.le_trans (PyProof.Rows.int_text_len_1921 (log_idx h0 h1)) (by decide)
/-- a spot whose numbers are small -/
def spOk (z : Spt) : Prop := okS z ∧ z.one < 10 ^ 30 ∧ z.two < 10 ^ 30
theorem spT_len {z : Spt} (h : spOk z) : (spT z).length ≤ 6000 := by
  obtain ⟨⟨h1, h2, h4⟩, h3, h5⟩ := h
  have l1 := name_len h1
  have l2 := idx_len h2 h3
  have l3 := idx_len h4 h5
  have c0 : (Str.empty : Str).length = 0 := rfl
  have c1 : (" " : Str).length = 1 := rfl
  unfold spT
  rw [Str.length_append, Str.length_append, Str.length_append, Str.length_append, Str.length_append]
  omega
abbrev p_text : DF := sp1 fun a q _ => ∃ z, a = spD z ∧ spOk z ∧ q (.str (spT z))
theorem ok_spot_text (T : Txt K mg) : FnOk P w K mg base CX0 1 T.a_spot_text T.fd_spot_text ["spot"] (toSp0 K (TB T) p_text) := by
  refine okD0 (n := 3) T.F_spot_text sc_spot_text rfl (fun ds q e h => sp1_len ds q e h) (fun cdv A outer s H E hr => (dss_cons (ds_asg (vs := [1, 2, 3]) (ps_asg (d_var (pv 0)) (pg_tup (n := 3) (by rfl) (pgs_cons (pg_name (i := 1) sc_spot_text.nd rfl (.inl rfl)) (pgs_cons (pg_name (i := 2) sc_spot_text.nd rfl (.inl rfl)) (pgs_cons (pg_name (i := 3) sc_spot_text.nd rfl (.inl rfl)) pgs_nil))))) (gd_tup (gd_cons (gd_name (by decide)) (gd_cons (gd_name (by decide)) (gd_cons (gd_name (by decide)) gd_nil)))))
      (dss_one (ds_ret (d_joined (DJ.cons (d_fmt (DE.s (d_var (pv 1)))) (DJ.cons d_str (DJ.cons (d_fmt (DE.s (d_var (pv 2)))) (DJ.cons d_str (DJ.cons (d_fmt (DE.s (d_var (pv 3)))) DJ.nil)))))))))) ?_
  refine sp1_by0 fun a q ⟨z, ea, hz, h⟩ => ?_
  subst ea
  (dsimp only [xsSeq, xsNil, xsRet, xsRetN, xsDrop, xsSet, xsOwn, xsIf, xsFrz, xsApp, xsMany, xsAsg, xsAug, xsRaise, xsPut, xVar, xNow, xC, xList, xOp, xUn, xOpN, xNil, xCons, xStar, xSeqOf, xCB, xCBN, xIf, xAnd, xOr, xNot, xtAnd, xtOr, xtNot, xtVal, xtTru, truD, xChain, xTup, xLst, xCall, xCall0, xFld, xOwnF, xMeth, xMeth0, xProp, xMake, xMakeS, xCMeth, xSl, xoNone, xoSome, xJoin, xSm, xFmt, xJs, xRev, xnSl, fAdd, nAdd, fSub, fMul, fMod, fPow, fFdiv, fNeg, fCmpI, fEq, fNe, fEqNil, fNeNil, fIs, fIsnt, DL.isNon, noRaw, fIn, fNotIn, fIx, fSl, fLen, fAbs, fMax, fMin, fInt, fStr, nList, fTuple, fAll, fAny, fSum, fRepr, fIsi, fIsO, fEqO, fNeO, sideOk, fInO, fNotInO, fIxO, fIxO0, fUnO, fBinO, fBinO0, fLenO, fStrO, fBoolO, fBool, asBl, xgName, xgNil, xgCons, xgTup, startD, startI, endK, endI, getV, setV, setVs, xmNil, xmVal, xmOwn, noV, List.length_cons, List.length_nil, Bool.not_true, Bool.not_false, xLc, xiLst, xiTup, xiRng1, xiRng2, xiStr, xiEnum, xiZip, xsFor, xsWhile, xtYes, ifB_tt, ifB_ff, kB, isIntD, isBoolD, isStrD, isTupD, isLstD, isDctD, xlStep, wipeD, List.map, fBinU, xDct0]; try simp only [eq_self_iff_true, true_and, and_true])
  have L := spT_len hz
  obtain ⟨⟨h1, h2, h4⟩, h3, h5⟩ := hz
  have f : ∀ u : Str, fit (Str.empty ++ z.nm ++ u).length → fit (Str.empty ++ z.nm).length := fun u h => by
    unfold fit at h ⊢
    rw [Str.length_append] at h
    omega
  have l1 := name_len h1
  have l2 := idx_len h2 h3
  have l3 := idx_len h4 h5
  have c0 : (Str.empty : Str).length = 0 := rfl
  have c1 : (" " : Str).length = 1 := rfl
  refine ⟨rfl, fit_of (by omega), fit_of ?_, fit_of ?_, log_idx h2 h3, fit_of ?_, fit_of ?_, log_idx h4 h5, fit_of ?_, h⟩
  all_goals
    simp only [Str.length_append]
    omega
def spsT (us : List Spt) : Str := Txt.join "" ["{", Txt.join ", " (us.map spT), "}"]
theorem join_sp {us : List Spt} (h : ∀ z ∈ us, spOk z) (h10 : us.length ≤ 10) : (Txt.join ", " (us.map spT)).length ≤ 70000 := by
  have a := join_le ", " (us.map spT)
  have b : ((us.map spT).map (·.length)).sum ≤ 6000 * us.length := by rw [List.map_map]; exact sum_le fun z hz => spT_len (h z hz)
  have c : (", " : Str).length = 2 := rfl
  rw [List.length_map, c] at a
  omega
abbrev p_str (T : Txt K mg) : DF := sp1 fun a q _ => ∃ us, a = spsD T us ∧ (∀ z ∈ us, spOk z) ∧ us.length ≤ 10 ∧ q (.str (spsT us))
theorem ok_Spots_str (T : Txt K mg) : FnOk P w K mg base CX0 4 T.a_Spots_str T.fd_Spots_str ["self"] (toSp0 K (TB T) (p_str T)) := by
  have G_spot_text : FnOk P w K mg base CX0 1 T.a_spot_text T.fd_spot_text ["spot"] (toSp0 K (TB T) p_text) := ok_spot_text T
  refine okD0 (n := 1) T.F_Spots_str sc_Spots_str rfl (fun ds q e h => sp1_len ds q e h) (fun cdv A outer s H E hr => (dss_one (ds_ret (d_join rfl (pe_join (DE.s d_str) (DN.s (d_lst (da_cons d_str (da_cons (d_join rfl (pe_join (DE.s d_str) (DN.s (d_lc (pe_lc (own := [("spot", 1)]) (g := (gName 1)) rfl sc_Spots_str.nd (dis_of (di_tup (d_fld (pe_fld (DE.s (d_var (pv 0))) rfl) T.cl_Spots T.nA_Spots_spots))) (blkOk_by (N := ["self", "spot"]) (sc := defScope s_Spots_str) (by decide +kernel)) (fun _ _ _ _ _ => (pg_name (i := 1) sc_Spots_str.nd rfl (Or.inl rfl))) (fun _ _ _ _ _ => dts_nil) (fun _ _ _ _ _ => (d_call0 (pe_call G_spot_text (hr.mono (by decide)) (by rfl) T.g_spot_text T.F_spot_text.kp T.b_spot_text .nil pass0 (da_cons (d_var (pv 1)) da_nil))))) (gd_name (by decide)))))) (da_cons d_str da_nil)))))))))) ?_
  refine sp1_by0 fun a q ⟨us, ea, hu, h10, h⟩ => ?_
  subst ea
  (dsimp only [xsSeq, xsNil, xsRet, xsRetN, xsDrop, xsSet, xsOwn, xsIf, xsFrz, xsApp, xsMany, xsAsg, xsAug, xsRaise, xsPut, xVar, xNow, xC, xList, xOp, xUn, xOpN, xNil, xCons, xStar, xSeqOf, xCB, xCBN, xIf, xAnd, xOr, xNot, xtAnd, xtOr, xtNot, xtVal, xtTru, truD, xChain, xTup, xLst, xCall, xCall0, xFld, xOwnF, xMeth, xMeth0, xProp, xMake, xMakeS, xCMeth, xSl, xoNone, xoSome, xJoin, xSm, xFmt, xJs, xRev, xnSl, fAdd, nAdd, fSub, fMul, fMod, fPow, fFdiv, fNeg, fCmpI, fEq, fNe, fEqNil, fNeNil, fIs, fIsnt, DL.isNon, noRaw, fIn, fNotIn, fIx, fSl, fLen, fAbs, fMax, fMin, fInt, fStr, nList, fTuple, fAll, fAny, fSum, fRepr, fIsi, fIsO, fEqO, fNeO, sideOk, fInO, fNotInO, fIxO, fIxO0, fUnO, fBinO, fBinO0, fLenO, fStrO, fBoolO, fBool, asBl, xgName, xgNil, xgCons, xgTup, startD, startI, endK, endI, getV, setV, setVs, xmNil, xmVal, xmOwn, noV, List.length_cons, List.length_nil, Bool.not_true, Bool.not_false, xLc, xiLst, xiTup, xiRng1, xiRng2, xiStr, xiEnum, xiZip, xsFor, xsWhile, xtYes, ifB_tt, ifB_ff, kB, isIntD, isBoolD, isStrD, isTupD, isLstD, isDctD, xlStep, wipeD, List.map, fBinU, xDct0]; try simp only [eq_self_iff_true, true_and, and_true])
  refine ⟨rfl, _, rfl, xl_all us spD (fun z => .str (spT z)) (by omega) (fun z hz yes no hy => ?_) ⟨us.map spT, .inl (by rw [List.map_map]; rfl), ?_, fit_of (by decide), ["{", Txt.join ", " (us.map spT), "}"], .inl rfl, ?_, h⟩⟩
  · (dsimp only [xsSeq, xsNil, xsRet, xsRetN, xsDrop, xsSet, xsOwn, xsIf, xsFrz, xsApp, xsMany, xsAsg, xsAug, xsRaise, xsPut, xVar, xNow, xC, xList, xOp, xUn, xOpN, xNil, xCons, xStar, xSeqOf, xCB, xCBN, xIf, xAnd, xOr, xNot, xtAnd, xtOr, xtNot, xtVal, xtTru, truD, xChain, xTup, xLst, xCall, xCall0, xFld, xOwnF, xMeth, xMeth0, xProp, xMake, xMakeS, xCMeth, xSl, xoNone, xoSome, xJoin, xSm, xFmt, xJs, xRev, xnSl, fAdd, nAdd, fSub, fMul, fMod, fPow, fFdiv, fNeg, fCmpI, fEq, fNe, fEqNil, fNeNil, fIs, fIsnt, DL.isNon, noRaw, fIn, fNotIn, fIx, fSl, fLen, fAbs, fMax, fMin, fInt, fStr, nList, fTuple, fAll, fAny, fSum, fRepr, fIsi, fIsO, fEqO, fNeO, sideOk, fInO, fNotInO, fIxO, fIxO0, fUnO, fBinO, fBinO0, fLenO, fStrO, fBoolO, fBool, asBl, xgName, xgNil, xgCons, xgTup, startD, startI, endK, endI, getV, setV, setVs, xmNil, xmVal, xmOwn, noV, List.length_cons, List.length_nil, Bool.not_true, Bool.not_false, xLc, xiLst, xiTup, xiRng1, xiRng2, xiStr, xiEnum, xiZip, xsFor, xsWhile, xtYes, ifB_tt, ifB_ff, kB, isIntD, isBoolD, isStrD, isTupD, isLstD, isDctD, xlStep, wipeD, List.map, fBinU, xDct0]; try simp only [eq_self_iff_true, true_and, and_true])
    exact ⟨z, rfl, hu z hz, hy⟩
  · have b : ((us.map spT).map (·.length)).sum ≤ 6000 * us.length := by rw [List.map_map]; exact sum_le fun z hz => spT_len (hu z hz)
    have c : (", " : Str).length = 2 := rfl
    rw [List.length_map, c]
    omega
  · have b := join_sp hu h10
    have c1 : ("{" : Str).length = 1 := rfl
    have c2 : ("}" : Str).length = 1 := rfl
    have c3 : ("" : Str).length = 0 := rfl
    simp only [List.map_cons, List.map_nil, List.sum_cons, List.sum_nil, List.length_cons, List.length_nil, c1, c2, c3]
    omega
end
-- SPLIT
section
variable {P : Program} {w : World} {K : PySem.W.Frag} {mg : Str → Option Value} {base : Heap}
/-! ### the dice -/
def sp_dice (K : PySem.W.Frag) : Sp := fun vs H Q _ => ∃ (a : Addr) (ns : List Int) (i : Int), vs = [.ref a, .int i] ∧ SqL K H a (ns.map V.int) ∧ 0 ≤ i ∧ ns.length ≤ 63 ∧ ∀ d H', H d = none → Same H H' → Dice H' d → Q (.ref d) H'
theorem pow_big : ((10 : Int) ^ (59 : Int).toNat) ^ (11 : Int).toNat < 2 ^ 2160 ∧ 0 < ((10 : Int) ^ (59 : Int).toNat) ^ (11 : Int).toNat := by decide +kernel
theorem dice_a {g : Int} (h0 : 0 ≤ g) (h1 : g < ((10 : Int) ^ (59 : Int).toNat) ^ (11 : Int).toNat) {m z : Int} (e : m = if z > 0 then z else 0) (hz : z = g - (10 : Int) ^ (18 : Int).toNat) : 0 ≤ m ∧ m.natAbs < 2 ^ 2200 := by
  have h2 : (0 : Int) ≤ (10 : Int) ^ (18 : Int).toNat := by decide +kernel
  have h3 := pow_big.1
  have h4 : 0 ≤ m ∧ m ≤ g := by
    rw [e]
    split <;> omega
  refine ⟨h4.1, ?_⟩
  have h5 : m < 2 ^ 2160 := Int.lt_of_le_of_lt (Int.le_trans h4.2 (Int.le_of_lt h1)) h3
  have h6 : m.natAbs < 2 ^ 2160 := by
    have e2 : ((2 : Int) ^ 2160) = ((2 ^ 2160 : Nat) : Int) := by norm_cast
    omega
  exact Nat.lt_of_lt_of_le h6 (Nat.pow_le_pow_right (by decide) (by decide))
theorem ok_dice (T : Txt K mg) : FnOk P w K mg base CX0 1 T.a_l_dice T.fd_l_dice ["_law_script", "_law_spot_here"] (sp_dice K) := by
  refine T.F_l_dice.ok sc_l_dice (fun vs H Q E h => ?_) (fun cdv A outer s H vs Q E hr h => ?_)
  · obtain ⟨a, ns, i, rfl, _⟩ := h
    rfl
  · obtain ⟨a, ns, i, rfl, hS, h0, h63, q⟩ := h
    refine ⟨_, (pss_cons (ps_set (i := 2) sc_l_dice.nd rfl (.inl rfl) (pe_ifB (pt_cmpR op_lt (pv 1) (pe_callB call_len_seq (by rfl) T.n_len (by decide +kernel) (pa_cons (pv 0) pa_nil)) (nomark _)) (pe_ix ix_list (pv 0) (pv 1) (fun _ _ => rfl)) (pe_op op_add (pe_op op_mul pe_int (pv 1)) pe_int)))
      (pss_cons (ps_set (i := 3) sc_l_dice.nd rfl (.inl rfl) (pe_op op_modB (pe_callTy call_int1 (by rfl) T.n_int (by decide +kernel) (pa_cons (pe_callB call_abs (by rfl) T.n_abs (by decide +kernel) (pa_cons (pv 2) pa_nil)) pa_nil)) (pe_op op_powW (pe_op op_pow pe_int pe_int) pe_int)))
      (pss_cons (ps_set (i := 4) sc_l_dice.nd rfl (.inl rfl) (pe_op op_add (pe_op op_add (pe_op op_add (pe_op op_mul (pv 3) pe_int) (pe_op op_mul pe_int (pv 1))) (pe_op op_mul pe_int (pe_callTy call_int1 (by rfl) T.n_int (by decide +kernel) (pa_cons (pe_cmpR op_lt (pv 2) pe_int (nomark _)) pa_nil)))) pe_int))
      (pss_one (ps_ret (pe_lst (pa_cons (pe_callB (call_max2 rfl) (by rfl) T.n_max (by decide +kernel) (pa_cons pe_int (pa_cons (pe_op op_sub (pv 3) (pe_op op_pow pe_int pe_int)) pa_nil))) (pa_cons (pe_op op_modB (pe_callTy call_int1 (by rfl) T.n_int (by decide +kernel) (pa_cons (pv 4) pa_nil)) pe_int) (pa_cons pe_int pa_nil))))))))), ?_⟩
    refine ⟨_, rfl, .ref a, rfl, a, ns.map V.int, rfl, .inl hS, i, ((ns.map V.int).length : Int), rfl, rfl, _, rfl, ?_⟩
    have cell : ∃ c : Int, (decide (i < ((ns.map V.int).length : Int)) = true → atI (ns.map V.int) i = some (.int c)) ∧ (decide (i < ((ns.map V.int).length : Int)) = false → c = 41 * i + 9) := by
      cases e : decide (i < ((ns.map V.int).length : Int)) with
      | true =>
        obtain ⟨v, ev, mv⟩ := at_lt h0 (of_decide_eq_true e)
        obtain ⟨c, _, rfl⟩ := List.mem_map.mp mv
        exact ⟨c, fun _ => ev, fun z => by cases z⟩
      | false => exact ⟨41 * i + 9, fun z => (by cases z), fun _ => rfl⟩
    obtain ⟨c, c1, c2⟩ := cell
    refine ⟨.int c, fun e => ⟨.ref a, rfl, .int i, rfl, a, _, i, .int c, rfl, rfl, hS, c1 e, rfl, rfl⟩, fun e => ⟨.int i, rfl, 41, i, rfl, rfl, .inl ⟨by decide, by decide⟩, 41 * i, 9, rfl, rfl, by rw [c2 e], rfl⟩, ?_⟩
    -- great
    refine ⟨_, rfl, c, rfl, .inl ⟨_, rfl, 10, 59, rfl, rfl, ⟨by decide, by decide, by decide⟩, _, 11, rfl, rfl, ⟨by decide, by decide +kernel⟩, _, _, rfl, rfl, pow_big.2, fun g g0 g1 _ => ?_⟩⟩
    -- blend
    refine ⟨_, rfl, g, _, rfl, rfl, .inr ⟨by decide, by decide⟩, _, rfl, 83, i, rfl, rfl, .inl ⟨by decide, by decide⟩, _, _, rfl, rfl, _, rfl, c, 0, rfl, rfl, .inr ⟨_, rfl, 19, _, rfl, rfl, .inl ⟨by decide, by decide⟩, _, _, rfl, rfl, _, _, rfl, rfl, ?_⟩⟩
    refine ⟨_, rfl, 10, 18, rfl, rfl, ⟨by decide, by decide, by decide⟩, g, _, rfl, rfl, 0, _, rfl, _, rfl, .inl ⟨_, rfl, _, _, rfl, rfl, by decide, fun b b0 b1 _ => ⟨by show 3 ≤ sizeLine; decide, fun p hp => ?_⟩⟩⟩
    exact q p _ hp (same_upd hp) ⟨_, b, 0, upd_same, dice_a g0 g1 rfl rfl⟩
/-- a roll -/
def sp_roll (K : PySem.W.Frag) : Sp := fun vs H Q _ => ∃ (d : Addr) (n : Int), vs = [.ref d, .int n] ∧ Dice H d ∧ 0 < n ∧ n.natAbs < 2 ^ 5000 ∧ ∀ r H', 0 ≤ r → r < n → Keep d H H' → Q (.int r) H'
theorem Keep.dice {d : Addr} {H : Hp} {a b c : Int} (h0 : 0 ≤ a) (h1 : a.natAbs < 2 ^ 2200) : Keep d H (upd H d (.lst [.int a, .int b, .int c])) :=
  ⟨fun b o hb e => by rw [upd_ne hb]; exact e, a, b, c, upd_same, h0, h1⟩
theorem ok_roll (T : Txt K mg) : FnOk P w K mg base CX0 1 T.a_l_roll T.fd_l_roll ["_law_dice_here", "_law_upto"] (sp_roll K) := by
  refine T.F_l_roll.ok sc_l_roll (fun vs H Q E h => ?_) (fun cdv A outer s H vs Q E hr h => ?_)
  · obtain ⟨d, n, rfl, _⟩ := h
    rfl
  · obtain ⟨d, n, rfl, ⟨a, b, c, hd, a0, a1⟩, n0, n1, q⟩ := h
    refine ⟨_, (pss_cons (ps_if (pt_cmpR op_gt (pe_ix ix_list (pv 0) pe_int (fun _ _ => rfl)) pe_int (nomark _)) (pss_cons (ps_set (i := 2) sc_l_roll.nd rfl (.inl rfl) (pe_op op_modB (pe_callTy call_int1 (by rfl) T.n_int (by decide +kernel) (pa_cons (pe_ix ix_list (pv 0) pe_int (fun _ _ => rfl)) pa_nil)) (pv 1)))
      (pss_cons (ps_asg (pe_op op_fdivW (pe_ix ix_list (pv 0) pe_int (fun _ _ => rfl)) (pv 1)) (pg_sub (pv 0) pe_int set_list))
      (pss_one (ps_ret (pv 2))))) pss_nil)
      (pss_cons (ps_asg (pe_op op_add (pe_ix ix_list (pv 0) pe_int (fun _ _ => rfl)) pe_int) (pg_sub (pv 0) pe_int set_list))
      (pss_cons (ps_set (i := 3) sc_l_roll.nd rfl (.inl rfl) (pe_op op_modB (pe_callTy call_int1 (by rfl) T.n_int (by decide +kernel) (pa_cons (pe_op op_add (pe_ix ix_list (pv 0) pe_int (fun _ _ => rfl)) (pe_op op_mul pe_int (pe_ix ix_list (pv 0) pe_int (fun _ _ => rfl)))) pa_nil)) pe_int))
      (pss_cons (ps_set (i := 4) sc_l_roll.nd rfl (.inl rfl) (pe_op op_add (pe_op op_mul (pe_op op_modB (pe_callTy call_int1 (by rfl) T.n_int (by decide +kernel) (pa_cons (pe_op op_mul (pv 3) (pv 3)) pa_nil)) pe_int) (pv 3)) (pe_op op_mul pe_int (pe_ix ix_list (pv 0) pe_int (fun _ _ => rfl)))))
      (pss_one (ps_ret (pe_op op_modB (pe_callTy call_int1 (by rfl) T.n_int (by decide +kernel) (pa_cons (pe_op op_fdiv (pe_op op_modB (pe_callTy call_int1 (by rfl) T.n_int (by decide +kernel) (pa_cons (pe_op op_add (pv 4) (pe_ix ix_list (pv 0) pe_int (fun _ _ => rfl))) pa_nil)) pe_int) pe_int) pa_nil)) (pv 1)))))))), ?_⟩
    have at0 : atI [V.int a, .int b, .int c] 0 = some (.int a) := rfl
    have at1 : atI [V.int a, .int b, .int c] 1 = some (.int b) := rfl
    have at2 : atI [V.int a, .int b, .int c] 2 = some (.int c) := rfl
    refine ⟨_, rfl, d, _, 0, .int a, rfl, rfl, .of hd, at0, a, 0, rfl, rfl, _, rfl, ite2 (fun e1 => ?_) (fun e1 => ?_)⟩
    · -- found
      refine ⟨_, rfl, d, _, 0, .int a, rfl, rfl, .of hd, at0, .inl ⟨a, rfl, _, rfl, a, n, rfl, rfl, n0, fun r r0 r1 _ => ?_⟩⟩
      refine ⟨_, rfl, d, _, 0, .int a, rfl, rfl, .of hd, at0, _, rfl, a, n, rfl, rfl, wide_div n0 n1 (by decide) (by decide), _, rfl, d, _, 0, 0, rfl, rfl, hd, rfl, ?_⟩
      refine ⟨_, rfl, q r _ r0 r1 ?_⟩
      have h1 : 0 ≤ a / n := Int.ediv_nonneg a0 (by omega)
      have h2 : a / n ≤ a := Int.ediv_le_self n a0
      exact Keep.dice h1 (by omega)
    · refine ⟨_, rfl, d, _, 2, .int c, rfl, rfl, .of hd, at2, c, 1, rfl, rfl, _, rfl, d, _, 2, 2, rfl, rfl, hd, rfl, ?_⟩
      generalize hH : upd H d (.lst ([V.int a, .int b, .int c].set 2 ((fun i j => V.int (i + j)) c 1))) = H1
      have k1 : Keep d H H1 := by
        rw [← hH]
        exact Keep.dice a0 a1
      have e2 : H1 d = some (.lst [.int a, .int b, .int (c + 1)]) := by
        rw [← hH]
        exact upd_same
      refine ⟨_, rfl, d, _, 1, .int b, rfl, rfl, .of e2, rfl, _, rfl, d, _, 2, .int (c + 1), rfl, rfl, .of e2, rfl, 961748941, _, rfl, rfl, .inl ⟨by decide, by decide⟩, _, _, rfl, rfl, .inl ⟨_, rfl, _, _, rfl, rfl, by decide, fun o o0 o1 _ => ?_⟩⟩
      refine ⟨_, rfl, _, rfl, o, o, rfl, rfl, .inl ⟨by omega, by omega⟩, .inl ⟨_, rfl, _, _, rfl, rfl, by decide, fun t t0 t1 _ => ?_⟩⟩
      refine ⟨_, rfl, t, o, rfl, rfl, .inl ⟨by omega, by omega⟩, _, rfl, d, _, 2, .int (c + 1), rfl, rfl, .of e2, rfl, 7919, _, rfl, rfl, .inl ⟨by decide, by decide⟩, _, _, rfl, rfl, ?_⟩
      exact ⟨_, rfl, _, rfl, d, _, 1, .int b, rfl, rfl, .of e2, rfl, _, _, rfl, rfl, .inl ⟨_, rfl, _, _, rfl, rfl, by decide, fun u u0 u1 _ => ⟨u, 128, rfl, rfl, ⟨by decide, by decide⟩, .inl ⟨_, rfl, _, rfl, _, n, rfl, rfl, n0, fun r r0 r1 _ => q r H1 r0 r1 k1⟩⟩⟩⟩
abbrev p_dice : DF := sp2 fun a b q _ => ∃ (ns : List Int) (i : Int), (a = .rdl (ns.map D.int) ∨ a = .lst (ns.map D.int)) ∧ b = .int i ∧ 0 ≤ i ∧ ns.length ≤ 63 ∧ q dice
theorem ints_rep {cw : CW} : ∀ {ns : List Int} {vs : List V}, RepL K cw vs (ns.map D.int) → vs = ns.map V.int
  | [], _, .nil => rfl
  | n :: ns, _, .cons (.int _) r => by rw [ints_rep r]; rfl
theorem okd_dice (T : Txt K mg) : FnOk P w K mg base CX0 1 T.a_l_dice T.fd_l_dice ["_law_script", "_law_spot_here"] (toSp0 K (TB T) p_dice) := (ok_dice T).imp fun vs H Q E ⟨W, ds, q, g, r, h, k, _⟩ => by
  obtain ⟨a, b, rfl⟩ : ∃ a b, ds = [a, b] := by
    unfold p_dice sp2 at h
    split at h
    · exact ⟨_, _, rfl⟩
    · exact h.elim
  obtain ⟨ns, i, ha, rfl, i0, n63, hq⟩ := h
  cases r with
  | cons ra r =>
    cases r with
    | cons rb r =>
      cases r
      cases rb
      have fin : ∀ d H', H d = none → Same H H' → Dice H' d → Q (.ref d) H' := fun d H' n s hd => by
        obtain ⟨x, r2⟩ := dice_new (K := K) g n s hd
        exact k _ _ _ _ x r2 hq
      rcases ha with rfl | rfl
      · obtain ⟨p, us, rfl, h1, r⟩ := ra.rdlAt g
        rw [ints_rep r] at h1
        exact ⟨p, ns, i, rfl, h1, i0, n63, fin⟩
      · obtain ⟨p, us, rfl, h1, r⟩ := (Seen.rep ra).lstAt g
        rw [ints_rep r] at h1
        exact ⟨p, ns, i, rfl, .of h1, i0, n63, fin⟩
abbrev p_roll : DF := sp2 fun a b q _ => ∃ n : Int, a = dice ∧ b = .int n ∧ 0 < n ∧ n.natAbs < 2 ^ 5000 ∧ ∀ r : Int, 0 ≤ r → r < n → q (.int r)
theorem okd_roll (T : Txt K mg) : FnOk P w K mg base CX0 1 T.a_l_roll T.fd_l_roll ["_law_dice_here", "_law_upto"] (toSp0 K (TB T) p_roll) := (ok_roll T).imp fun vs H Q E ⟨W, ds, q, g, r, h, k, _⟩ => by
  obtain ⟨a, b, rfl⟩ : ∃ a b, ds = [a, b] := by
    unfold p_roll sp2 at h
    split at h
    · exact ⟨_, _, rfl⟩
    · exact h.elim
  obtain ⟨n, rfl, rfl, n0, n1, hq⟩ := h
  cases r with
  | cons ra r =>
    cases r with
    | cons rb r =>
      cases r
      cases rb
      obtain ⟨d, rfl, hd, w⟩ := dice_at g ra
      exact ⟨d, n, rfl, hd, n0, n1, fun r H' r0 r1 kp => k _ _ _ _ (ext_keep g w hd kp) (.int r) (hq r r0 r1)⟩
theorem small_b {n : Nat} (h : n ≤ 1000) : ((n : Nat) : Int).natAbs < 2 ^ 5000 := Nat.lt_of_le_of_lt (show ((n : Nat) : Int).natAbs ≤ 2 ^ 10 by simp; omega) (Nat.pow_lt_pow_right (by decide) (by decide))
theorem small_i {i : Int} (h0 : 0 ≤ i) (h1 : i ≤ 1000000) : i.natAbs < 2 ^ 5000 := Nat.lt_of_le_of_lt (show i.natAbs ≤ 2 ^ 20 by omega) (Nat.pow_lt_pow_right (by decide) (by decide))
/-- one of the items -/
abbrev p_pick : DF := sp2 fun a b q _ => a = dice ∧ ((∃ xs : List D, (b = .lst xs ∨ b = .tup xs) ∧ 0 < xs.length ∧ xs.length ≤ 1000 ∧ ∀ x ∈ xs, q x) ∨ ∃ z : Str, b = .str z ∧ 0 < z.length ∧ z.length ≤ 1000 ∧ ∀ c ∈ z.cps.toList, q (.str ⟨#[c]⟩))
theorem ok_l_pick (T : Txt K mg) : FnOk P w K mg base CX0 4 T.a_l_pick T.fd_l_pick ["_law_dice_here", "_law_items"] (toSp0 K (TB T) p_pick) := by
  have G_l_roll : FnOk P w K mg base CX0 1 T.a_l_roll T.fd_l_roll ["_law_dice_here", "_law_upto"] (toSp0 K (TB T) p_roll) := okd_roll T
  refine okD0 (n := 0) T.F_l_pick sc_l_pick rfl (fun ds q e h => sp2_len ds q e h) (fun cdv A outer s H E hr => (dss_one (ds_ret (d_ix o_ix f_ix (DE.s (d_var (pv 1))) (DE.s (d_call0 (pe_call G_l_roll (hr.mono (by decide)) (by rfl) T.g_l_roll T.F_l_roll.kp T.b_l_roll .nil pass0 (da_cons (d_var (pv 0)) (da_cons (d_callB (pe_callB call_len (by rfl) T.n_len (by decide +kernel) (das_cons (DE.s (d_var (pv 1))) das_nil)) f_len) da_nil))))) (fun _ _ => rfl))))) ?_
  refine sp2_by0 fun a b q ⟨ea, h⟩ => ?_
  subst ea
  rcases h with ⟨xs, rfl | rfl, x0, x1, h⟩ | ⟨z, rfl, z0, z1, h⟩
  · (dsimp only [xsSeq, xsNil, xsRet, xsRetN, xsDrop, xsSet, xsOwn, xsIf, xsFrz, xsApp, xsMany, xsAsg, xsAug, xsRaise, xsPut, xVar, xNow, xC, xList, xOp, xUn, xOpN, xNil, xCons, xStar, xSeqOf, xCB, xCBN, xIf, xAnd, xOr, xNot, xtAnd, xtOr, xtNot, xtVal, xtTru, truD, xChain, xTup, xLst, xCall, xCall0, xFld, xOwnF, xMeth, xMeth0, xProp, xMake, xMakeS, xCMeth, xSl, xoNone, xoSome, xJoin, xSm, xFmt, xJs, xRev, xnSl, fAdd, nAdd, fSub, fMul, fMod, fPow, fFdiv, fNeg, fCmpI, fEq, fNe, fEqNil, fNeNil, fIs, fIsnt, DL.isNon, noRaw, fIn, fNotIn, fIx, fSl, fLen, fAbs, fMax, fMin, fInt, fStr, nList, fTuple, fAll, fAny, fSum, fRepr, fIsi, fIsO, fEqO, fNeO, sideOk, fInO, fNotInO, fIxO, fIxO0, fUnO, fBinO, fBinO0, fLenO, fStrO, fBoolO, fBool, asBl, xgName, xgNil, xgCons, xgTup, startD, startI, endK, endI, getV, setV, setVs, xmNil, xmVal, xmOwn, noV, List.length_cons, List.length_nil, Bool.not_true, Bool.not_false, xLc, xiLst, xiTup, xiRng1, xiRng2, xiStr, xiEnum, xiZip, xsFor, xsWhile, xtYes, ifB_tt, ifB_ff, kB, isIntD, isBoolD, isStrD, isTupD, isLstD, isDctD, xlStep, wipeD, List.map, fBinU, xDct0]; try simp only [eq_self_iff_true, true_and, and_true])
    refine ⟨_, rfl, rfl, by omega, small_b x1, fun r r0 r1 => ?_⟩
    obtain ⟨v, ev, mv⟩ := at_lt r0 r1
    exact ⟨v, ev, h v mv⟩
  · (dsimp only [xsSeq, xsNil, xsRet, xsRetN, xsDrop, xsSet, xsOwn, xsIf, xsFrz, xsApp, xsMany, xsAsg, xsAug, xsRaise, xsPut, xVar, xNow, xC, xList, xOp, xUn, xOpN, xNil, xCons, xStar, xSeqOf, xCB, xCBN, xIf, xAnd, xOr, xNot, xtAnd, xtOr, xtNot, xtVal, xtTru, truD, xChain, xTup, xLst, xCall, xCall0, xFld, xOwnF, xMeth, xMeth0, xProp, xMake, xMakeS, xCMeth, xSl, xoNone, xoSome, xJoin, xSm, xFmt, xJs, xRev, xnSl, fAdd, nAdd, fSub, fMul, fMod, fPow, fFdiv, fNeg, fCmpI, fEq, fNe, fEqNil, fNeNil, fIs, fIsnt, DL.isNon, noRaw, fIn, fNotIn, fIx, fSl, fLen, fAbs, fMax, fMin, fInt, fStr, nList, fTuple, fAll, fAny, fSum, fRepr, fIsi, fIsO, fEqO, fNeO, sideOk, fInO, fNotInO, fIxO, fIxO0, fUnO, fBinO, fBinO0, fLenO, fStrO, fBoolO, fBool, asBl, xgName, xgNil, xgCons, xgTup, startD, startI, endK, endI, getV, setV, setVs, xmNil, xmVal, xmOwn, noV, List.length_cons, List.length_nil, Bool.not_true, Bool.not_false, xLc, xiLst, xiTup, xiRng1, xiRng2, xiStr, xiEnum, xiZip, xsFor, xsWhile, xtYes, ifB_tt, ifB_ff, kB, isIntD, isBoolD, isStrD, isTupD, isLstD, isDctD, xlStep, wipeD, List.map, fBinU, xDct0]; try simp only [eq_self_iff_true, true_and, and_true])
    refine ⟨_, rfl, rfl, by omega, small_b x1, fun r r0 r1 => ?_⟩
    obtain ⟨v, ev, mv⟩ := at_lt r0 r1
    exact ⟨v, ev, h v mv⟩
  · (dsimp only [xsSeq, xsNil, xsRet, xsRetN, xsDrop, xsSet, xsOwn, xsIf, xsFrz, xsApp, xsMany, xsAsg, xsAug, xsRaise, xsPut, xVar, xNow, xC, xList, xOp, xUn, xOpN, xNil, xCons, xStar, xSeqOf, xCB, xCBN, xIf, xAnd, xOr, xNot, xtAnd, xtOr, xtNot, xtVal, xtTru, truD, xChain, xTup, xLst, xCall, xCall0, xFld, xOwnF, xMeth, xMeth0, xProp, xMake, xMakeS, xCMeth, xSl, xoNone, xoSome, xJoin, xSm, xFmt, xJs, xRev, xnSl, fAdd, nAdd, fSub, fMul, fMod, fPow, fFdiv, fNeg, fCmpI, fEq, fNe, fEqNil, fNeNil, fIs, fIsnt, DL.isNon, noRaw, fIn, fNotIn, fIx, fSl, fLen, fAbs, fMax, fMin, fInt, fStr, nList, fTuple, fAll, fAny, fSum, fRepr, fIsi, fIsO, fEqO, fNeO, sideOk, fInO, fNotInO, fIxO, fIxO0, fUnO, fBinO, fBinO0, fLenO, fStrO, fBoolO, fBool, asBl, xgName, xgNil, xgCons, xgTup, startD, startI, endK, endI, getV, setV, setVs, xmNil, xmVal, xmOwn, noV, List.length_cons, List.length_nil, Bool.not_true, Bool.not_false, xLc, xiLst, xiTup, xiRng1, xiRng2, xiStr, xiEnum, xiZip, xsFor, xsWhile, xtYes, ifB_tt, ifB_ff, kB, isIntD, isBoolD, isStrD, isTupD, isLstD, isDctD, xlStep, wipeD, List.map, fBinU, xDct0]; try simp only [eq_self_iff_true, true_and, and_true])
    refine ⟨fit_of (by omega), _, rfl, rfl, by omega, small_b z1, fun r r0 r1 => ?_⟩
    obtain ⟨c, ec, mc⟩ := at_lt (xs := z.cps.toList) r0 (by rw [Array.length_toList]; exact r1)
    exact ⟨fit_of (by omega), c, ec, h c mc⟩
theorem ABC26 : LET.cps.toList.length = 26 := by decide +kernel
/-- letters -/
theorem letters_of {z : Str} (h : ∀ c ∈ z.cps.toList, c ∈ LET.cps.toList) (h1 : 1 ≤ z.length) (h8 : z.length ≤ 8) : nameS z = true := by
  rw [nameS, decide_eq_true (by omega), decide_eq_true (by omega), Bool.true_and, Bool.true_and, List.all_eq_true]
  exact fun c hc => decide_eq_true (h c hc)
abbrev p_word : DF := sp1 fun a q _ => a = dice ∧ ∀ z : Str, nameS z = true → q (.str z)
theorem ok_l_word (T : Txt K mg) : FnOk P w K mg base CX0 4 T.a_l_word T.fd_l_word ["_law_dice_here"] (toSp0 K (TB T) p_word) := by
  have G_l_roll : FnOk P w K mg base CX0 1 T.a_l_roll T.fd_l_roll ["_law_dice_here", "_law_upto"] (toSp0 K (TB T) p_roll) := okd_roll T
  refine okD0 (n := 1) T.F_l_word sc_l_word rfl (fun ds q e h => sp1_len ds q e h) (fun cdv A outer s H E hr => (dss_one (ds_ret (d_join rfl (pe_join (DE.s d_str) (DN.s (d_lc (pe_lc (own := [("_law_turn", 1)]) (g := (gName 1)) rfl sc_l_word.nd (dis_of (di_rng1 (pi_range1 (by rfl) T.n_range (das_cons (DE.s (d_op o_add f_add (DE.s d_int) (DE.s (d_call0 (pe_call G_l_roll (hr.mono (by decide)) (by rfl) T.g_l_roll T.F_l_roll.kp T.b_l_roll .nil pass0 (da_cons (d_var (pv 0)) (da_cons d_int da_nil))))))) das_nil)))) (blkOk_by (N := ["_law_dice_here", "_law_turn"]) (sc := defScope s_l_word) (by decide +kernel)) (fun _ _ _ _ _ => (pg_name (i := 1) sc_l_word.nd rfl (Or.inl rfl))) (fun _ _ _ _ _ => dts_nil) (fun _ _ _ _ _ => (d_ix o_ix f_ix (DE.s d_str) (DE.s (d_call0 (pe_call G_l_roll (hr.mono (by decide)) (by rfl) T.g_l_roll T.F_l_roll.kp T.b_l_roll .nil pass0 (da_cons (d_var (pv 0)) (da_cons d_int da_nil))))) (fun _ _ => rfl)))) (gd_name (by decide))))))))) ?_
  refine sp1_by0 fun a q ⟨ea, h⟩ => ?_
  subst ea
  (dsimp only [xsSeq, xsNil, xsRet, xsRetN, xsDrop, xsSet, xsOwn, xsIf, xsFrz, xsApp, xsMany, xsAsg, xsAug, xsRaise, xsPut, xVar, xNow, xC, xList, xOp, xUn, xOpN, xNil, xCons, xStar, xSeqOf, xCB, xCBN, xIf, xAnd, xOr, xNot, xtAnd, xtOr, xtNot, xtVal, xtTru, truD, xChain, xTup, xLst, xCall, xCall0, xFld, xOwnF, xMeth, xMeth0, xProp, xMake, xMakeS, xCMeth, xSl, xoNone, xoSome, xJoin, xSm, xFmt, xJs, xRev, xnSl, fAdd, nAdd, fSub, fMul, fMod, fPow, fFdiv, fNeg, fCmpI, fEq, fNe, fEqNil, fNeNil, fIs, fIsnt, DL.isNon, noRaw, fIn, fNotIn, fIx, fSl, fLen, fAbs, fMax, fMin, fInt, fStr, nList, fTuple, fAll, fAny, fSum, fRepr, fIsi, fIsO, fEqO, fNeO, sideOk, fInO, fNotInO, fIxO, fIxO0, fUnO, fBinO, fBinO0, fLenO, fStrO, fBoolO, fBool, asBl, xgName, xgNil, xgCons, xgTup, startD, startI, endK, endI, getV, setV, setVs, xmNil, xmVal, xmOwn, noV, List.length_cons, List.length_nil, Bool.not_true, Bool.not_false, xLc, xiLst, xiTup, xiRng1, xiRng2, xiStr, xiEnum, xiZip, xsFor, xsWhile, xtYes, ifB_tt, ifB_ff, kB, isIntD, isBoolD, isStrD, isTupD, isLstD, isDctD, xlStep, wipeD, List.map, fBinU, xDct0]; try simp only [eq_self_iff_true, true_and, and_true])
  refine ⟨8, rfl, rfl, by decide, small_i (by decide) (by decide), fun n n0 n1 => ⟨⟨by omega, by omega⟩, xl_kind _ (fun c : Nat => .str ⟨#[c]⟩) (fun c => c ∈ LET.cps.toList) (by rw [rngD_len]; omega) (fun d hd yes no hy => ?_) fun cs l hc => ?_⟩⟩
  · (dsimp only [xsSeq, xsNil, xsRet, xsRetN, xsDrop, xsSet, xsOwn, xsIf, xsFrz, xsApp, xsMany, xsAsg, xsAug, xsRaise, xsPut, xVar, xNow, xC, xList, xOp, xUn, xOpN, xNil, xCons, xStar, xSeqOf, xCB, xCBN, xIf, xAnd, xOr, xNot, xtAnd, xtOr, xtNot, xtVal, xtTru, truD, xChain, xTup, xLst, xCall, xCall0, xFld, xOwnF, xMeth, xMeth0, xProp, xMake, xMakeS, xCMeth, xSl, xoNone, xoSome, xJoin, xSm, xFmt, xJs, xRev, xnSl, fAdd, nAdd, fSub, fMul, fMod, fPow, fFdiv, fNeg, fCmpI, fEq, fNe, fEqNil, fNeNil, fIs, fIsnt, DL.isNon, noRaw, fIn, fNotIn, fIx, fSl, fLen, fAbs, fMax, fMin, fInt, fStr, nList, fTuple, fAll, fAny, fSum, fRepr, fIsi, fIsO, fEqO, fNeO, sideOk, fInO, fNotInO, fIxO, fIxO0, fUnO, fBinO, fBinO0, fLenO, fStrO, fBoolO, fBool, asBl, xgName, xgNil, xgCons, xgTup, startD, startI, endK, endI, getV, setV, setVs, xmNil, xmVal, xmOwn, noV, List.length_cons, List.length_nil, Bool.not_true, Bool.not_false, xLc, xiLst, xiTup, xiRng1, xiRng2, xiStr, xiEnum, xiZip, xsFor, xsWhile, xtYes, ifB_tt, ifB_ff, kB, isIntD, isBoolD, isStrD, isTupD, isLstD, isDctD, xlStep, wipeD, List.map, fBinU, xDct0]; try simp only [eq_self_iff_true, true_and, and_true])
    refine ⟨26, rfl, rfl, by decide, small_i (by decide) (by decide), fun r r0 r1 => ?_⟩
    obtain ⟨c, ec, mc⟩ := at_lt (xs := LET.cps.toList) r0 (by rw [ABC26]; exact r1)
    exact ⟨fit_of (by decide +kernel), c, ec, hy c mc⟩
  · rw [rngD_len] at l
    have one : ∀ y ∈ cs.map fun c => (⟨#[c]⟩ : Str), y.length = 1 := fun y hy => by
      obtain ⟨c, _, rfl⟩ := List.mem_map.mp hy
      rfl
    have h1 := sum_ones _ one
    have h0 : Str.length "" = 0 := by decide +kernel
    have len : (Txt.join "" (cs.map fun c => (⟨#[c]⟩ : Str))).length = cs.length := by
      rw [join_len, h1, List.length_map]
    refine ⟨cs.map fun c => ⟨#[c]⟩, .inl (by rw [List.map_map]; rfl), by rw [h0, h1, List.length_map]; omega, h _ (letters_of (fun c m => ?_) (by omega) (by omega))⟩
    rw [join_cps] at m
    obtain ⟨l, hl, m⟩ := List.mem_flatten.mp m
    rw [List.map_map] at hl
    obtain ⟨c', hc', rfl⟩ := List.mem_map.mp hl
    have m : c ∈ (#[c'] : Array Nat).toList := m
    rw [List.mem_singleton.mp m]
    exact hc c' hc'
end
-- SPLIT
/-! ### the law's spots -/
section
variable {P : Program} {w : World} {K : PySem.W.Frag} {mg : Str → Option Value} {base : Heap}
abbrev p_index : DF := sp1 fun a q _ => a = dice ∧ ∀ i : Int, 0 ≤ i → i < 10 ^ 30 → q (.int i)
theorem ok_l_index (T : Txt K mg) : FnOk P w K mg base CX0 7 T.a_l_index T.fd_l_index ["_law_dice_here"] (toSp0 K (TB T) p_index) := by
  have G_l_roll : FnOk P w K mg base CX0 1 T.a_l_roll T.fd_l_roll ["_law_dice_here", "_law_upto"] (toSp0 K (TB T) p_roll) := okd_roll T
  have G_l_pick : FnOk P w K mg base CX0 4 T.a_l_pick T.fd_l_pick ["_law_dice_here", "_law_items"] (toSp0 K (TB T) p_pick) := ok_l_pick T
  refine okD0 (n := 0) T.F_l_index sc_l_index rfl (fun ds q e h => sp1_len ds q e h) (fun cdv A outer s H E hr => (dss_one (ds_ret (d_if (dt_cmp op_gt f_cmpI (DE.s (d_call0 (pe_call G_l_roll (hr.mono (by decide)) (by rfl) T.g_l_roll T.F_l_roll.kp T.b_l_roll .nil pass0 (da_cons (d_var (pv 0)) (da_cons d_int da_nil))))) (DE.s d_int) (nomark _)) (d_call0 (pe_call G_l_roll (hr.mono (by decide)) (by rfl) T.g_l_roll T.F_l_roll.kp T.b_l_roll .nil pass0 (da_cons (d_var (pv 0)) (da_cons d_int da_nil)))) (d_call0 (pe_call G_l_pick (hr.mono (by decide)) (by rfl) T.g_l_pick T.F_l_pick.kp T.b_l_pick .nil pass0 (da_cons (d_var (pv 0)) (da_cons (DN.e (d_lst (da_cons d_int (da_cons d_int (da_cons (d_op op_powW f_pow (DE.s d_int) (DE.s d_int)) (da_cons (d_op op_sub f_sub (DE.s (d_op op_powW f_pow (DE.s d_int) (DE.s d_int))) (DE.s d_int)) da_nil)))))) da_nil)))))))) ?_
  refine sp1_by0 fun a q ⟨ea, h⟩ => ?_
  subst ea
  (dsimp only [xsSeq, xsNil, xsRet, xsRetN, xsDrop, xsSet, xsOwn, xsIf, xsFrz, xsApp, xsMany, xsAsg, xsAug, xsRaise, xsPut, xVar, xNow, xC, xList, xOp, xUn, xOpN, xNil, xCons, xStar, xSeqOf, xCB, xCBN, xIf, xAnd, xOr, xNot, xtAnd, xtOr, xtNot, xtVal, xtTru, truD, xChain, xTup, xLst, xCall, xCall0, xFld, xOwnF, xMeth, xMeth0, xProp, xMake, xMakeS, xCMeth, xSl, xoNone, xoSome, xJoin, xSm, xFmt, xJs, xRev, xnSl, fAdd, nAdd, fSub, fMul, fMod, fPow, fFdiv, fNeg, fCmpI, fEq, fNe, fEqNil, fNeNil, fIs, fIsnt, DL.isNon, noRaw, fIn, fNotIn, fIx, fSl, fLen, fAbs, fMax, fMin, fInt, fStr, nList, fTuple, fAll, fAny, fSum, fRepr, fIsi, fIsO, fEqO, fNeO, sideOk, fInO, fNotInO, fIxO, fIxO0, fUnO, fBinO, fBinO0, fLenO, fStrO, fBoolO, fBool, asBl, xgName, xgNil, xgCons, xgTup, startD, startI, endK, endI, getV, setV, setVs, xmNil, xmVal, xmOwn, noV, List.length_cons, List.length_nil, Bool.not_true, Bool.not_false, xLc, xiLst, xiTup, xiRng1, xiRng2, xiStr, xiEnum, xiZip, xsFor, xsWhile, xtYes, ifB_tt, ifB_ff, kB, isIntD, isBoolD, isStrD, isTupD, isLstD, isDctD, xlStep, wipeD, List.map, fBinU, xDct0]; try simp only [eq_self_iff_true, true_and, and_true])
  refine ⟨6, rfl, rfl, by decide, small_i (by decide) (by decide), fun n n0 n1 => ifB_of (fun _ => ⟨3, rfl, rfl, by decide, small_i (by decide) (by decide), fun r r0 r1 => h r r0 (by omega)⟩) fun _ => ⟨⟨by decide, by decide⟩, ⟨by decide, by decide⟩, fit_of (by decide), rfl, .inl ⟨_, .inl rfl, by show 0 < 4; decide, by show 4 ≤ 1000; decide, fun x hx => ?_⟩⟩⟩
  simp only [List.mem_cons, List.not_mem_nil, or_false] at hx
  rcases hx with rfl | rfl | rfl | rfl
  · exact h _ (by decide +kernel) (by decide +kernel)
  · exact h _ (by decide +kernel) (by decide +kernel)
  · exact h _ (by decide +kernel) (by decide +kernel)
  · exact h _ (by decide +kernel) (by decide +kernel)
abbrev p_spot : DF := sp2 fun a b q _ => a = dice ∧ ∃ ws : List Str, b = .lst (ws.map D.str) ∧ 0 < ws.length ∧ ws.length ≤ 1000 ∧ (∀ z ∈ ws, nameS z = true) ∧ ∀ z, spOk z → q (spD z)
theorem ok_l_spot (T : Txt K mg) : FnOk P w K mg base CX0 10 T.a_l_spot T.fd_l_spot ["_law_dice_here", "_law_words"] (toSp0 K (TB T) p_spot) := by
  have G_l_pick : FnOk P w K mg base CX0 4 T.a_l_pick T.fd_l_pick ["_law_dice_here", "_law_items"] (toSp0 K (TB T) p_pick) := ok_l_pick T
  have G_l_index : FnOk P w K mg base CX0 7 T.a_l_index T.fd_l_index ["_law_dice_here"] (toSp0 K (TB T) p_index) := ok_l_index T
  refine okD0 (n := 0) T.F_l_spot sc_l_spot rfl (fun ds q e h => sp2_len ds q e h) (fun cdv A outer s H E hr => (dss_one (ds_ret (d_tup (da_cons (d_call0 (pe_call G_l_pick (hr.mono (by decide)) (by rfl) T.g_l_pick T.F_l_pick.kp T.b_l_pick .nil pass0 (da_cons (d_var (pv 0)) (da_cons (d_var (pv 1)) da_nil)))) (da_cons (d_call0 (pe_call G_l_index (hr.mono (by decide)) (by rfl) T.g_l_index T.F_l_index.kp T.b_l_index .nil pass0 (da_cons (d_var (pv 0)) da_nil))) (da_cons (d_call0 (pe_call G_l_index (hr.mono (by decide)) (by rfl) T.g_l_index T.F_l_index.kp T.b_l_index .nil pass0 (da_cons (d_var (pv 0)) da_nil))) da_nil))))))) ?_
  refine sp2_by0 fun a b q ⟨ea, ws, eb, w0, w1, hw, h⟩ => ?_
  subst ea
  subst eb
  (dsimp only [xsSeq, xsNil, xsRet, xsRetN, xsDrop, xsSet, xsOwn, xsIf, xsFrz, xsApp, xsMany, xsAsg, xsAug, xsRaise, xsPut, xVar, xNow, xC, xList, xOp, xUn, xOpN, xNil, xCons, xStar, xSeqOf, xCB, xCBN, xIf, xAnd, xOr, xNot, xtAnd, xtOr, xtNot, xtVal, xtTru, truD, xChain, xTup, xLst, xCall, xCall0, xFld, xOwnF, xMeth, xMeth0, xProp, xMake, xMakeS, xCMeth, xSl, xoNone, xoSome, xJoin, xSm, xFmt, xJs, xRev, xnSl, fAdd, nAdd, fSub, fMul, fMod, fPow, fFdiv, fNeg, fCmpI, fEq, fNe, fEqNil, fNeNil, fIs, fIsnt, DL.isNon, noRaw, fIn, fNotIn, fIx, fSl, fLen, fAbs, fMax, fMin, fInt, fStr, nList, fTuple, fAll, fAny, fSum, fRepr, fIsi, fIsO, fEqO, fNeO, sideOk, fInO, fNotInO, fIxO, fIxO0, fUnO, fBinO, fBinO0, fLenO, fStrO, fBoolO, fBool, asBl, xgName, xgNil, xgCons, xgTup, startD, startI, endK, endI, getV, setV, setVs, xmNil, xmVal, xmOwn, noV, List.length_cons, List.length_nil, Bool.not_true, Bool.not_false, xLc, xiLst, xiTup, xiRng1, xiRng2, xiStr, xiEnum, xiZip, xsFor, xsWhile, xtYes, ifB_tt, ifB_ff, kB, isIntD, isBoolD, isStrD, isTupD, isLstD, isDctD, xlStep, wipeD, List.map, fBinU, xDct0]; try simp only [eq_self_iff_true, true_and, and_true])
  refine ⟨rfl, .inl ⟨_, .inl rfl, by rw [List.length_map]; exact w0, by rw [List.length_map]; exact w1, fun x hx => ?_⟩⟩
  obtain ⟨z, hz, rfl⟩ := List.mem_map.mp hx
  exact ⟨rfl, fun i i0 i1 => ⟨rfl, fun j j0 j1 => ⟨fit_of (by decide), h ⟨z, i, j⟩ ⟨⟨hw z hz, i0, j0⟩, i1, j1⟩⟩⟩⟩
/-- us: the different ones of zs, ascending -/
abbrev p_dif : DF := sp1 fun a q _ => ∃ zs, a = .lst (zs.map spD) ∧ zs.length < 64 ∧ ∀ us, Asc spP us zs → q (.lst (us.map spD))
theorem ok_l_different (T : Txt K mg) : FnOk P w K mg base CX0 1 T.a_l_different T.fd_l_different ["_law_spots"] (toSp0 K (TB T) p_dif) := by
  refine okD0 (n := 0) T.F_l_different sc_l_different rfl (fun ds q e h => sp1_len ds q e h) (fun cdv A outer s H E hr => (dss_one (ds_ret (DN.e (d_sortSet (key := spK) rfl (enc := spL) spK_py spK_dep (pe_callB (NB.cr_sortN rfl hr.units) (by rfl) T.n_sorted (by decide +kernel) (pa_cons (pe_callTy (NB.cr_setN spK_inj rfl hr.units) (by rfl) T.n_set (by decide +kernel) (pa_cons (DE.s (d_var (pv 0))) pa_nil)) pa_nil))))))) ?_
  refine sp1_by0 fun a q ⟨zs, ea, l64, h⟩ => ?_
  subst ea
  (dsimp only [xsSeq, xsNil, xsRet, xsRetN, xsDrop, xsSet, xsOwn, xsIf, xsFrz, xsApp, xsMany, xsAsg, xsAug, xsRaise, xsPut, xVar, xNow, xC, xList, xOp, xUn, xOpN, xNil, xCons, xStar, xSeqOf, xCB, xCBN, xIf, xAnd, xOr, xNot, xtAnd, xtOr, xtNot, xtVal, xtTru, truD, xChain, xTup, xLst, xCall, xCall0, xFld, xOwnF, xMeth, xMeth0, xProp, xMake, xMakeS, xCMeth, xSl, xoNone, xoSome, xJoin, xSm, xFmt, xJs, xRev, xnSl, fAdd, nAdd, fSub, fMul, fMod, fPow, fFdiv, fNeg, fCmpI, fEq, fNe, fEqNil, fNeNil, fIs, fIsnt, DL.isNon, noRaw, fIn, fNotIn, fIx, fSl, fLen, fAbs, fMax, fMin, fInt, fStr, nList, fTuple, fAll, fAny, fSum, fRepr, fIsi, fIsO, fEqO, fNeO, sideOk, fInO, fNotInO, fIxO, fIxO0, fUnO, fBinO, fBinO0, fLenO, fStrO, fBoolO, fBool, asBl, xgName, xgNil, xgCons, xgTup, startD, startI, endK, endI, getV, setV, setVs, xmNil, xmVal, xmOwn, noV, List.length_cons, List.length_nil, Bool.not_true, Bool.not_false, xLc, xiLst, xiTup, xiRng1, xiRng2, xiStr, xiEnum, xiZip, xsFor, xsWhile, xtYes, ifB_tt, ifB_ff, kB, isIntD, isBoolD, isStrD, isTupD, isLstD, isDctD, xlStep, wipeD, List.map, fBinU, xDct0]; try simp only [eq_self_iff_true, true_and, and_true])
  refine ⟨zs, .inl rfl, l64, fun d hd d' hd' => ?_, fun vs _ => .inl fun d hd => ?_, h⟩
  · obtain ⟨x, _, rfl⟩ := List.mem_map.mp hd
    obtain ⟨y, _, rfl⟩ := List.mem_map.mp hd'
    exact alike_sp x y
  · obtain ⟨x, _, rfl⟩ := List.mem_map.mp hd
    exact ⟨_, _, rfl⟩
/-- a spot's text as the law builds it -/
def spU (z : Spt) : Str := ((((z.nm ++ (" " : Str)) ++ Str.ofString (toString z.one)) ++ (" " : Str)) ++ Str.ofString (toString z.two))
theorem spU_eq (z : Spt) : spU z = spT z := by
  unfold spU spT
  rw [Str.empty_append]
theorem low_name {z : Str} (h : nameS z = true) : Low z := by
  rw [nameS, Bool.and_eq_true, Bool.and_eq_true] at h
  intro c hc
  have a := of_decide_eq_true (List.all_eq_true.mp h.2 c hc)
  exact Nat.lt_trans (let_small c a) (by decide)
theorem low_sp {z : Spt} (h : spOk z) : Low (spT z) := ((((low_empty.app (low_name h.1.1)).app (low_of _)).app (low_of _)).app (low_of _)).app (low_of _)
theorem spsT_eq (zs : List Spt) : (("{" : Str) ++ Txt.join ", " (zs.map spT)) ++ ("}" : Str) = spsT zs := by
  unfold spsT
  generalize Txt.join ", " (zs.map spT) = J
  refine Str.ext' (Array.toList_inj.mp ?_)
  rw [join_cps]
  show (((Str.ofString "{").cps ++ J.cps) ++ (Str.ofString "}").cps).toList = _
  simp [Array.toList_append]
theorem shw_sp {z : Spt} (h : spOk z) : Shw 8000 1 (spD z) :=
  (shw_tup (shw_cons (shw_str (low_name h.1.1) (name_len h.1.1).2) (shw_cons (shw_idx h.1.2.1 h.2.1) (shw_cons (shw_idx h.1.2.2 h.2.2) shw_nil)))).more (by decide) (by decide)
def toldD (us : List Spt) : D := .lst [.tup (us.map spD), .int us.length, .bl (!us.isEmpty), .str (spsT us)]
theorem shw_told {us : List Spt} (h : ∀ z ∈ us, spOk z) (h10 : us.length ≤ 10) : okShow (toldD us) := by
  have j := join_sp h h10
  have c1 : ("{" : Str).length = 1 := rfl
  have c2 : ("}" : Str).length = 1 := rfl
  have l : (spsT us).length ≤ 80000 := by
    rw [← spsT_eq, Str.length_append, Str.length_append]
    omega
  have lo : Low (spsT us) := by
    rw [← spsT_eq]
    refine ((low_of _).app (low_join (low_of _) fun y hy => ?_)).app (low_of _)
    obtain ⟨z, hz, rfl⟩ := List.mem_map.mp hy
    exact low_sp (h z hz)
  have i : ((us.length : Nat) : Int).natAbs < 10 ^ 28 := Nat.lt_of_le_of_lt (show ((us.length : Nat) : Int).natAbs ≤ 10 by omega) (by decide)
  exact (shw_lst (shw_cons (shw_tup (shw_map fun z hz => shw_sp (h z hz))) (shw_cons (shw_int i) (shw_cons (shw_bl _) (shw_cons (shw_str lo l) shw_nil))))).ok (by omega) (by decide)
abbrev p_told (T : Txt K mg) : DF := sp2 fun a b q _ => ∃ us zs, a = spsD T us ∧ b = .lst (zs.map spD) ∧ (∀ z ∈ zs, spOk z) ∧ zs.length ≤ 20 ∧ us.length ≤ 10 ∧ Asc spP us zs ∧ q (.bl true)
theorem ok_l_is_told (T : Txt K mg) : FnG P w K mg base CX0 16 T.a_l_is_told T.fd_l_is_told ["_law_found", "_law_spots"] (toSp0 K (TB T) (p_told T)) := by
  have G_l_different : FnOk P w K mg base CX0 1 T.a_l_different T.fd_l_different ["_law_spots"] (toSp0 K (TB T) p_dif) := ok_l_different T
  have G_Spots_listed : FnOk P w K mg base CX0 1 T.a_Spots_listed T.fd_Spots_listed ["self"] (toSp0 K (TB T) (p_listed T)) := ok_Spots_listed T
  have G_Spots_len : FnOk P w K mg base CX0 1 T.a_Spots_len T.fd_Spots_len ["self"] (toSp0 K (TB T) (p_len T)) := ok_Spots_len T
  have G_Spots_bool : FnOk P w K mg base CX0 1 T.a_Spots_bool T.fd_Spots_bool ["self"] (toSp0 K (TB T) (p_bool T)) := ok_Spots_bool T
  have G_Spots_str : FnOk P w K mg base CX0 4 T.a_Spots_str T.fd_Spots_str ["self"] (toSp0 K (TB T) (p_str T)) := ok_Spots_str T
  have G_Spots_eq : FnOk P w K mg base CX0 13 T.a_Spots_eq T.fd_Spots_eq ["self", "other"] (toSp0 K (TB T) (p_eq T)) := ok_Spots_eq T
  have G_Spots_init : FnA P w K mg base (L2.CX P w) 10 T.a_Spots_init (spStar K (TB T) T.c_Spots 0 (p_Spots T)) := ok_Spots_init T
  have G_Spots_of : FnOk P w K mg base (L2.CX P w) 13 T.a_Spots_of T.fd_Spots_of ["cls", "spots"] (toSp K (TB T) (p_of T)) := ok_Spots_of T
  have G_Spots_contains : FnOk P w K mg base CX0 7 T.a_Spots_contains T.fd_Spots_contains ["self", "value"] (toSp0 K (TB T) (p_has T)) := ok_Spots_contains T
  refine okDG (n := 7) T.F_l_is_told sc_l_is_told rfl (fun ds q e h => sp2_len ds q e h) (fun cdv A outer s H E gu hr => (dss_cons (ds_if (dt_not (dt_val (DE.s (d_callB (pe_callB (show CallR _ (.builtin "isinstance") (rIsi K) from call_isi) (by rfl) T.n_isinstance (by decide +kernel) (das_cons (DE.s (d_var (pv 0))) (das_cons (DE.s (d_raw (pe_glob (v := .ref T.c_Spots) rfl T.g_Spots rfl))) das_nil))) (f_isO (cs := [])  T.is_Spots (fun n hn => (T.fo_Spots n hn).1)  (fun p m => (List.not_mem_nil m).elim)))) (by intro _; rfl))) (dss_one (ds_ret d_bl)) dss_nil)
      (dss_cons (ds_set (ps_set (i := 2) sc_l_is_told.nd rfl (.inl rfl) (d_call0 (pe_call G_l_different (hr.mono (by decide)) (by rfl) T.g_l_different T.F_l_different.kp T.b_l_different .nil pass0 (da_cons (d_var (pv 1)) da_nil)))))
      (dss_cons (ds_set (ps_set (i := 3) sc_l_is_told.nd rfl (.inl rfl) (d_op o_add f_add (DE.s (d_op o_add f_add (DE.s d_str) (DE.s (d_join rfl (pe_join (DE.s d_str) (DN.s (d_lc (pe_lc (own := [("_law_name", 5), ("_law_one", 6), ("_law_two", 7)]) (g := (gTup K 3 (gCons (gName 5) (gCons (gName 6) (gCons (gName 7) gNil))))) rfl sc_l_is_told.nd (dis_lst (DE.s (d_var (pv 2)))) (blkOk_by (N := ["_law_found", "_law_spots", "_law_due", "_law_text", "_law_told", "_law_name", "_law_one", "_law_two", "_law_spot_here"]) (sc := defScope s_l_is_told) (by decide +kernel)) (fun _ _ _ _ _ => (pg_tup (n := 3) (by rfl) (pgs_cons (pg_name (i := 5) sc_l_is_told.nd rfl (Or.inl rfl)) (pgs_cons (pg_name (i := 6) sc_l_is_told.nd rfl (Or.inl rfl)) (pgs_cons (pg_name (i := 7) sc_l_is_told.nd rfl (Or.inl rfl)) pgs_nil))))) (fun _ _ _ _ _ => dts_nil) (fun _ _ _ _ _ => (d_op o_add f_add (DE.s (d_op o_add f_add (DE.s (d_op o_add f_add (DE.s (d_op o_add f_add (DE.s (d_var (pv 5))) (DE.s d_str))) (DE.s (d_callB (pe_callTy call_str_int (by rfl) T.n_str (by decide +kernel) (das_cons (DE.s (d_var (pv 6))) das_nil)) f_str)))) (DE.s d_str))) (DE.s (d_callB (pe_callTy call_str_int (by rfl) T.n_str (by decide +kernel) (das_cons (DE.s (d_var (pv 7))) das_nil)) f_str))))) (gd_tup (gd_cons (gd_name (by decide)) (gd_cons (gd_name (by decide)) (gd_cons (gd_name (by decide)) gd_nil))))))))))) (DE.s d_str))))
      (dss_cons (ds_set (ps_set (i := 4) sc_l_is_told.nd rfl (.inl rfl) (DN.e (d_lst (da_cons (d_prop (pe_prop (d_var (pv 0)) T.cl_Spots T.p_Spots_listed G_Spots_listed (hr.mono (by decide)) T.b_Spots_listed .nil pass0 rfl)) (da_cons (d_callE (pe_callB (call_lenO G_Spots_len T.b_Spots_len pass0 (hr.mono (by decide)) ⟨T.m_Spots_len.1, T.m_Spots_len.2⟩) (by rfl) T.n_len (by decide +kernel) (da_cons (d_var (pv 0)) da_nil)) f_lenO) (da_cons (d_callE (pe_callTy (call_boolO G_Spots_bool T.b_Spots_bool pass0 (hr.mono (by decide)) ⟨T.m_Spots_bool.1, T.m_Spots_bool.2⟩) (by rfl) T.n_bool (by decide +kernel) (da_cons (d_var (pv 0)) da_nil)) f_boolO) (da_cons (d_callE (pe_callTy (call_strO G_Spots_str T.b_Spots_str pass0 (hr.mono (by decide)) ⟨T.m_Spots_str.1, T.m_Spots_str.2⟩) (by rfl) T.n_str (by decide +kernel) (da_cons (d_var (pv 0)) da_nil)) f_strO) da_nil))))))))
      (dss_cons (ds_if (dt_cmp (show OpR _ (compareOp .NotEq) (rNeU K) from o_ne hr.units) f_ne (DE.s (d_callB (pe_callB (show CallR _ (.builtin "repr") (rRepr K) from call_reprD (by exact gu) hr.units) (by rfl) T.n_repr (by decide +kernel) (das_cons (DE.s (d_var (pv 4))) das_nil)) f_repr)) (DE.s (d_callB (pe_callB (show CallR _ (.builtin "repr") (rRepr K) from call_reprD (by exact gu) hr.units) (by rfl) T.n_repr (by decide +kernel) (das_cons (DN.s (d_lst (da_cons (d_callB (pe_callTy call_tuple_of (by rfl) T.n_tuple (by decide +kernel) (das_cons (DE.s (d_var (pv 2))) das_nil)) f_tuple) (da_cons (d_callB (pe_callB call_len (by rfl) T.n_len (by decide +kernel) (das_cons (DE.s (d_var (pv 2))) das_nil)) f_len) (da_cons (d_cmp (show OpR _ (compareOp .NotEq) (rNeNil K) from op_neNil hr.units) f_neNil (DE.s (d_var (pv 2))) (DN.s (d_lst da_nil)) (nomark _)) (da_cons (d_var (pv 3)) da_nil)))))) das_nil)) f_repr)) (nomark _)) (dss_one (ds_ret d_bl)) dss_nil)
      (dss_one (ds_ret (d_and (DE.s (d_cmp (show OpR _ (compareOp .Eq) (rEqNil K) from op_eqNil hr.units) f_eqNil (DN.s (d_lc (pe_lc (own := [("_law_spot_here", 8)]) (g := (gName 8)) rfl sc_l_is_told.nd (dis_lst (DE.s (d_var (pv 2)))) (blkOk_by (N := ["_law_found", "_law_spots", "_law_due", "_law_text", "_law_told", "_law_name", "_law_one", "_law_two", "_law_spot_here"]) (sc := defScope s_l_is_told) (by decide +kernel)) (fun _ _ _ _ _ => (pg_name (i := 8) sc_l_is_told.nd rfl (Or.inl rfl))) (fun _ _ _ _ _ => (dts_one (dt_cmp (show OpR _ (compareOp .NotEq) (rNeU K) from o_ne hr.units) f_ne (DE.s (d_callB (pe_callB (show CallR _ (.builtin "repr") (rRepr K) from call_reprD (by exact gu) hr.units) (by rfl) T.n_repr (by decide +kernel) (das_cons (DE.s (d_cmpE (op_inO G_Spots_contains T.b_Spots_contains pass0 (hr.mono (by decide)) ⟨T.m_Spots_contains.1, T.m_Spots_contains.2⟩) f_inO (d_var (pv 8)) (d_var (pv 0)) (by rfl))) das_nil)) f_repr)) (DE.s d_str) (nomark _)))) (fun _ _ _ _ _ => (d_var (pv 8)))) (gd_name (by decide)))) (DN.s (d_lst da_nil)) (nomark _))) (d_one (d_cmpE (op_eqO G_Spots_eq (hr.mono (by decide)) T.eq_Spots T.b_Spots_eq pass0) (f_eqO (cs := [])  T.is_Spots (fun n hn => (T.fo_Spots n hn).2)  (fun B m => (List.not_mem_nil m).elim)) (d_var (pv 0)) (d_cmeth (ClX.pe_cmeth (pe_glob (v := .ref T.c_Spots) rfl T.g_Spots rfl) T.rd_Spots T.cm_Spots_of (G_Spots_of.raw T.b_Spots_of .nil) (hr.mono (by decide)) passL (da_cons (d_callB (pe_callTy call_tuple_of (by rfl) T.n_tuple (by decide +kernel) (das_cons (DN.s (d_rev (pe_revL (DE.s (d_var (pv 2)))))) das_nil)) f_tuple) da_nil)) (fun vs H Q h => by first | (show _ ∧ _; first | exact h | (rw [List.append_nil]; exact h)) | (show toSp _ _ _ (vs ++ []) H Q _; rw [List.append_nil]; exact h))) (nomark _)))))))))))) ?_
  refine sp2_by0 fun a b q ⟨us, zs, ea, eb, hz, l20, l10, hu, h⟩ => ?_
  subst ea
  subst eb
  (dsimp only [xsSeq, xsNil, xsRet, xsRetN, xsDrop, xsSet, xsOwn, xsIf, xsFrz, xsApp, xsMany, xsAsg, xsAug, xsRaise, xsPut, xVar, xNow, xC, xList, xOp, xUn, xOpN, xNil, xCons, xStar, xSeqOf, xCB, xCBN, xIf, xAnd, xOr, xNot, xtAnd, xtOr, xtNot, xtVal, xtTru, truD, xChain, xTup, xLst, xCall, xCall0, xFld, xOwnF, xMeth, xMeth0, xProp, xMake, xMakeS, xCMeth, xSl, xoNone, xoSome, xJoin, xSm, xFmt, xJs, xRev, xnSl, fAdd, nAdd, fSub, fMul, fMod, fPow, fFdiv, fNeg, fCmpI, fEq, fNe, fEqNil, fNeNil, fIs, fIsnt, DL.isNon, noRaw, fIn, fNotIn, fIx, fSl, fLen, fAbs, fMax, fMin, fInt, fStr, nList, fTuple, fAll, fAny, fSum, fRepr, fIsi, fIsO, fEqO, fNeO, sideOk, fInO, fNotInO, fIxO, fIxO0, fUnO, fBinO, fBinO0, fLenO, fStrO, fBoolO, fBool, asBl, xgName, xgNil, xgCons, xgTup, startD, startI, endK, endI, getV, setV, setVs, xmNil, xmVal, xmOwn, noV, List.length_cons, List.length_nil, Bool.not_true, Bool.not_false, xLc, xiLst, xiTup, xiRng1, xiRng2, xiStr, xiEnum, xiZip, xsFor, xsWhile, xtYes, ifB_tt, ifB_ff, kB, isIntD, isBoolD, isStrD, isTupD, isLstD, isDctD, xlStep, wipeD, List.map, fBinU, xDct0]; try simp only [eq_self_iff_true, true_and, and_true])
  have uz : ∀ z ∈ us, spOk z := fun z m => hz z ((hu.mem z).mp m)
  refine .inl ⟨rfl, zs, rfl, by omega, fun vs hv => ?_⟩
  obtain rfl : us = vs := hu.uniq sp_inj hv fun _ => Iff.rfl
  (dsimp only [xsSeq, xsNil, xsRet, xsRetN, xsDrop, xsSet, xsOwn, xsIf, xsFrz, xsApp, xsMany, xsAsg, xsAug, xsRaise, xsPut, xVar, xNow, xC, xList, xOp, xUn, xOpN, xNil, xCons, xStar, xSeqOf, xCB, xCBN, xIf, xAnd, xOr, xNot, xtAnd, xtOr, xtNot, xtVal, xtTru, truD, xChain, xTup, xLst, xCall, xCall0, xFld, xOwnF, xMeth, xMeth0, xProp, xMake, xMakeS, xCMeth, xSl, xoNone, xoSome, xJoin, xSm, xFmt, xJs, xRev, xnSl, fAdd, nAdd, fSub, fMul, fMod, fPow, fFdiv, fNeg, fCmpI, fEq, fNe, fEqNil, fNeNil, fIs, fIsnt, DL.isNon, noRaw, fIn, fNotIn, fIx, fSl, fLen, fAbs, fMax, fMin, fInt, fStr, nList, fTuple, fAll, fAny, fSum, fRepr, fIsi, fIsO, fEqO, fNeO, sideOk, fInO, fNotInO, fIxO, fIxO0, fUnO, fBinO, fBinO0, fLenO, fStrO, fBoolO, fBool, asBl, xgName, xgNil, xgCons, xgTup, startD, startI, endK, endI, getV, setV, setVs, xmNil, xmVal, xmOwn, noV, List.length_cons, List.length_nil, Bool.not_true, Bool.not_false, xLc, xiLst, xiTup, xiRng1, xiRng2, xiStr, xiEnum, xiZip, xsFor, xsWhile, xtYes, ifB_tt, ifB_ff, kB, isIntD, isBoolD, isStrD, isTupD, isLstD, isDctD, xlStep, wipeD, List.map, fBinU, xDct0]; try simp only [eq_self_iff_true, true_and, and_true])
  refine xl_all us spD (fun z => .str (spU z)) (by omega) (fun z m yes no hy => ?_) ⟨us.map spU, .inl (by rw [List.map_map]; rfl), ?_⟩
  · (dsimp only [xsSeq, xsNil, xsRet, xsRetN, xsDrop, xsSet, xsOwn, xsIf, xsFrz, xsApp, xsMany, xsAsg, xsAug, xsRaise, xsPut, xVar, xNow, xC, xList, xOp, xUn, xOpN, xNil, xCons, xStar, xSeqOf, xCB, xCBN, xIf, xAnd, xOr, xNot, xtAnd, xtOr, xtNot, xtVal, xtTru, truD, xChain, xTup, xLst, xCall, xCall0, xFld, xOwnF, xMeth, xMeth0, xProp, xMake, xMakeS, xCMeth, xSl, xoNone, xoSome, xJoin, xSm, xFmt, xJs, xRev, xnSl, fAdd, nAdd, fSub, fMul, fMod, fPow, fFdiv, fNeg, fCmpI, fEq, fNe, fEqNil, fNeNil, fIs, fIsnt, DL.isNon, noRaw, fIn, fNotIn, fIx, fSl, fLen, fAbs, fMax, fMin, fInt, fStr, nList, fTuple, fAll, fAny, fSum, fRepr, fIsi, fIsO, fEqO, fNeO, sideOk, fInO, fNotInO, fIxO, fIxO0, fUnO, fBinO, fBinO0, fLenO, fStrO, fBoolO, fBool, asBl, xgName, xgNil, xgCons, xgTup, startD, startI, endK, endI, getV, setV, setVs, xmNil, xmVal, xmOwn, noV, List.length_cons, List.length_nil, Bool.not_true, Bool.not_false, xLc, xiLst, xiTup, xiRng1, xiRng2, xiStr, xiEnum, xiZip, xsFor, xsWhile, xtYes, ifB_tt, ifB_ff, kB, isIntD, isBoolD, isStrD, isTupD, isLstD, isDctD, xlStep, wipeD, List.map, fBinU, xDct0]; try simp only [eq_self_iff_true, true_and, and_true])
    have L := spT_len (uz z m)
    rw [← spU_eq] at L
    obtain ⟨⟨h1, h2, h4⟩, h3, h5⟩ := uz z m
    have l1 := name_len h1
    have l2 := idx_len h2 h3
    have l3 := idx_len h4 h5
    have c1 : (" " : Str).length = 1 := rfl
    refine ⟨rfl, fit_of (by omega), log_idx h2 h3, fit_of ?_, fit_of ?_, log_idx h4 h5, fit_of ?_, hy⟩
    all_goals
      simp only [Str.length_append]
      omega
  · rw [show us.map spU = us.map spT from List.map_congr_left fun z _ => spU_eq z, spsT_eq]
    simp only [List.length_map, List.isEmpty_map]
    have j := join_sp uz l10
    have c0 : (", " : Str).length = 2 := rfl
    have c1 : ("{" : Str).length = 1 := rfl
    have c2 : ("}" : Str).length = 1 := rfl
    have b : ((us.map spT).map (·.length)).sum ≤ 6000 * us.length := by rw [List.map_map]; exact sum_le fun z hz => spT_len (uz z hz)
    refine ⟨by rw [c0]; omega, fit_of (by omega), fit_of (by rw [Str.length_append]; omega), rfl, us, rfl, rfl, us, rfl, by omega, by omega, rfl, us, rfl, rfl, us, rfl, uz, l10, fit_of (by decide), shw_told uz l10, fit_of (by decide), fit_of (by decide), shw_told uz l10, ifB_no (fun e => ?_) fun e => ?_⟩
    · rw [beq_self_eq_true] at e
      cases e
    · refine xl_map us spD (fun _ => false) spD (by omega) (fun z m yes no hy hn => ?_) ?_
      · (dsimp only [xsSeq, xsNil, xsRet, xsRetN, xsDrop, xsSet, xsOwn, xsIf, xsFrz, xsApp, xsMany, xsAsg, xsAug, xsRaise, xsPut, xVar, xNow, xC, xList, xOp, xUn, xOpN, xNil, xCons, xStar, xSeqOf, xCB, xCBN, xIf, xAnd, xOr, xNot, xtAnd, xtOr, xtNot, xtVal, xtTru, truD, xChain, xTup, xLst, xCall, xCall0, xFld, xOwnF, xMeth, xMeth0, xProp, xMake, xMakeS, xCMeth, xSl, xoNone, xoSome, xJoin, xSm, xFmt, xJs, xRev, xnSl, fAdd, nAdd, fSub, fMul, fMod, fPow, fFdiv, fNeg, fCmpI, fEq, fNe, fEqNil, fNeNil, fIs, fIsnt, DL.isNon, noRaw, fIn, fNotIn, fIx, fSl, fLen, fAbs, fMax, fMin, fInt, fStr, nList, fTuple, fAll, fAny, fSum, fRepr, fIsi, fIsO, fEqO, fNeO, sideOk, fInO, fNotInO, fIxO, fIxO0, fUnO, fBinO, fBinO0, fLenO, fStrO, fBoolO, fBool, asBl, xgName, xgNil, xgCons, xgTup, startD, startI, endK, endI, getV, setV, setVs, xmNil, xmVal, xmOwn, noV, List.length_cons, List.length_nil, Bool.not_true, Bool.not_false, xLc, xiLst, xiTup, xiRng1, xiRng2, xiStr, xiEnum, xiZip, xsFor, xsWhile, xtYes, ifB_tt, ifB_ff, kB, isIntD, isBoolD, isStrD, isTupD, isLstD, isDctD, xlStep, wipeD, List.map, fBinU, xDct0]; try simp only [eq_self_iff_true, true_and, and_true])
        refine ⟨rfl, us, rfl, askOk_sp (uz z m).1, fun y hy => (uz y hy).1, ?_⟩
        rw [isSpot_sp (uz z m).1, has_sp, decide_eq_true m]
        exact ⟨(shw_bl _).ok (by decide) (by decide), ifB_no (fun e => absurd e (by decide +kernel)) fun _ => hn rfl⟩
      · rw [show us.filter (fun _ => false) = [] from List.filter_eq_nil_iff.mpr fun _ _ => Bool.false_ne_true]
        refine ⟨fit_of (by decide), rfl, .inl ⟨_, rfl, ?_⟩⟩
        rw [← List.map_reverse]
        refine ask_sps T (fun z m => (uz z (List.mem_reverse.mp m)).1) (by rw [List.length_reverse]; omega) fun vs hv => ⟨rfl, .inl rfl, us, rfl, fun z m => (uz z m).1, .inl ⟨vs, rfl, fun z m => (uz z (List.mem_reverse.mp ((hv.mem z).mp m))).1, ?_⟩⟩
        have e : us = vs := hu.self.uniq sp_inj hv fun k => List.mem_reverse.symm
        rw [decide_eq_true e]
        exact h
end
-- SPLIT
/-! ### the law's signs -/
section
variable {P : Program} {w : World} {K : PySem.W.Frag} {mg : Str → Option Value} {base : Heap}
theorem plain_lsp {us : List Spt} (h : ∀ z ∈ us, okS z) : Plain 2 (.lst (us.map spD)) := by
  unfold Plain
  intro x hx
  obtain ⟨z, hz, rfl⟩ := List.mem_map.mp hx
  exact plain_sp (h z hz)
theorem all_emp {us vs xs ys : List Spt} (hu : ∀ k, k ∈ us ↔ k ∈ xs) (hv : ∀ k, k ∈ vs ↔ k ∈ ys) : (us.all fun z => decide (z ∈ vs)) = ((xs.filter fun z => !decide (z ∈ ys)).map spD).isEmpty := by
  rw [List.isEmpty_map, Bool.eq_iff_iff, List.all_eq_true, List.isEmpty_iff, List.filter_eq_nil_iff]
  constructor
  · intro h z m
    rw [decide_eq_true ((hv z).mp (of_decide_eq_true (h z ((hu z).mpr m))))]
    exact Bool.false_ne_true
  · intro h z m
    have k := h z ((hu z).mp m)
    rw [Bool.not_eq_true', Bool.not_eq_false, decide_eq_true_eq] at k
    exact decide_eq_true ((hv z).mpr k)
abbrev p_obo (T : Txt K mg) : DF := sp1 fun a q _ => ∃ zs, a = .lst (zs.map spD) ∧ (∀ z ∈ zs, okS z) ∧ zs.length < 64 ∧ ∀ us, Asc spP us zs → q (spsD T us)
theorem ok_l_one_by_one (T : Txt K mg) : FnOk P w K mg base (L2.CX P w) 16 T.a_l_one_by_one T.fd_l_one_by_one ["_law_spots"] (toSp K (TB T) (p_obo T)) := by
  have G_Spots_of : FnOk P w K mg base (L2.CX P w) 13 T.a_Spots_of T.fd_Spots_of ["cls", "spots"] (toSp K (TB T) (p_of T)) := ok_Spots_of T
  have G_Spots_init : FnA P w K mg base (L2.CX P w) 10 T.a_Spots_init (spStar K (TB T) T.c_Spots 0 (p_Spots T)) := ok_Spots_init T
  refine okDX (n := 0) T.F_l_one_by_one sc_l_one_by_one rfl (fun ds q e h => sp1_len ds q e h) (fun cdv A outer s H E hr => (dss_cons (ds_if (dt_cmp (show OpR _ (compareOp .Eq) (rEqU K) from o_eq hr.units) f_eq (DE.s (d_callB (pe_callB call_len (by rfl) T.n_len (by decide +kernel) (das_cons (DE.s (d_var (pv 0))) das_nil)) f_len)) (DE.s d_int) (nomark _)) (dss_one (ds_ret (d_make0A (pe_make0A (pe_glob (v := .ref T.c_Spots) rfl T.g_Spots rfl) T.M_Spots G_Spots_init (hr.mono (by decide)) (passes_call (takes_of rfl rfl rfl rfl) (fun _ _ _ _ h => h)))))) dss_nil)
      (dss_cons (ds_if (dt_cmp (show OpR _ (compareOp .Eq) (rEqU K) from o_eq hr.units) f_eq (DE.s (d_callB (pe_callB call_len (by rfl) T.n_len (by decide +kernel) (das_cons (DE.s (d_var (pv 0))) das_nil)) f_len)) (DE.s d_int) (nomark _)) (dss_one (ds_ret (d_makeA (pe_makeA (ks := []) (pe_glob (v := .ref T.c_Spots) rfl T.g_Spots rfl) T.M_Spots G_Spots_init (hr.mono (by decide)) (passes_call (takes_of rfl rfl rfl rfl) (fun _ _ _ _ h => h)) (da_cons (d_ix o_ix f_ix (DE.s (d_var (pv 0))) (DE.s d_int) (fun _ _ => rfl)) da_nil) pk_nil)))) dss_nil)
      (dss_cons (ds_if (dt_cmp (show OpR _ (compareOp .Eq) (rEqU K) from o_eq hr.units) f_eq (DE.s (d_callB (pe_callB call_len (by rfl) T.n_len (by decide +kernel) (das_cons (DE.s (d_var (pv 0))) das_nil)) f_len)) (DE.s d_int) (nomark _)) (dss_one (ds_ret (d_makeA (pe_makeA (ks := []) (pe_glob (v := .ref T.c_Spots) rfl T.g_Spots rfl) T.M_Spots G_Spots_init (hr.mono (by decide)) (passes_call (takes_of rfl rfl rfl rfl) (fun _ _ _ _ h => h)) (da_cons (d_ix o_ix f_ix (DE.s (d_var (pv 0))) (DE.s d_int) (fun _ _ => rfl)) (da_cons (d_ix o_ix f_ix (DE.s (d_var (pv 0))) (DE.s d_int) (fun _ _ => rfl)) da_nil)) pk_nil)))) dss_nil)
      (dss_cons (ds_if (dt_cmp (show OpR _ (compareOp .Eq) (rEqU K) from o_eq hr.units) f_eq (DE.s (d_callB (pe_callB call_len (by rfl) T.n_len (by decide +kernel) (das_cons (DE.s (d_var (pv 0))) das_nil)) f_len)) (DE.s d_int) (nomark _)) (dss_one (ds_ret (d_makeA (pe_makeA (ks := []) (pe_glob (v := .ref T.c_Spots) rfl T.g_Spots rfl) T.M_Spots G_Spots_init (hr.mono (by decide)) (passes_call (takes_of rfl rfl rfl rfl) (fun _ _ _ _ h => h)) (da_cons (d_ix o_ix f_ix (DE.s (d_var (pv 0))) (DE.s d_int) (fun _ _ => rfl)) (da_cons (d_ix o_ix f_ix (DE.s (d_var (pv 0))) (DE.s d_int) (fun _ _ => rfl)) (da_cons (d_ix o_ix f_ix (DE.s (d_var (pv 0))) (DE.s d_int) (fun _ _ => rfl)) da_nil))) pk_nil)))) dss_nil)
      (dss_one (ds_ret (d_cmeth (ClX.pe_cmeth (pe_glob (v := .ref T.c_Spots) rfl T.g_Spots rfl) T.rd_Spots T.cm_Spots_of (G_Spots_of.raw T.b_Spots_of .nil) (hr.mono (by decide)) (passes_call (takes_of rfl rfl rfl rfl) (fun _ _ _ _ h => h)) (da_cons (d_callB (pe_callTy call_tuple_of (by rfl) T.n_tuple (by decide +kernel) (das_cons (DE.s (d_var (pv 0))) das_nil)) f_tuple) da_nil)) (fun vs H Q h => by first | (show _ ∧ _; first | exact h | (rw [List.append_nil]; exact h)) | (show toSp _ _ _ (vs ++ []) H Q _; rw [List.append_nil]; exact h)))))))))) ?_
  refine sp1_by fun a q e ⟨zs, ea, hz, l64, h⟩ => ?_
  subst ea
  have fin : ∀ ys : List Spt, ys = zs → starI 0 (p_Spots T) (ys.map spD) (fun fd => q (.obj T.c_Spots fd)) e := fun ys e => by
    subst e
    exact ⟨Nat.zero_le _, fit_of (by rw [List.length_map]; omega), _, rfl, .inr (ask_sps T hz l64 h)⟩
  (dsimp only [xsSeq, xsNil, xsRet, xsRetN, xsDrop, xsSet, xsOwn, xsIf, xsFrz, xsApp, xsMany, xsAsg, xsAug, xsRaise, xsPut, xVar, xNow, xC, xList, xOp, xUn, xOpN, xNil, xCons, xStar, xSeqOf, xCB, xCBN, xIf, xAnd, xOr, xNot, xtAnd, xtOr, xtNot, xtVal, xtTru, truD, xChain, xTup, xLst, xCall, xCall0, xFld, xOwnF, xMeth, xMeth0, xProp, xMake, xMakeS, xCMeth, xSl, xoNone, xoSome, xJoin, xSm, xFmt, xJs, xRev, xnSl, fAdd, nAdd, fSub, fMul, fMod, fPow, fFdiv, fNeg, fCmpI, fEq, fNe, fEqNil, fNeNil, fIs, fIsnt, DL.isNon, noRaw, fIn, fNotIn, fIx, fSl, fLen, fAbs, fMax, fMin, fInt, fStr, nList, fTuple, fAll, fAny, fSum, fRepr, fIsi, fIsO, fEqO, fNeO, sideOk, fInO, fNotInO, fIxO, fIxO0, fUnO, fBinO, fBinO0, fLenO, fStrO, fBoolO, fBool, asBl, xgName, xgNil, xgCons, xgTup, startD, startI, endK, endI, getV, setV, setVs, xmNil, xmVal, xmOwn, noV, List.length_cons, List.length_nil, Bool.not_true, Bool.not_false, xLc, xiLst, xiTup, xiRng1, xiRng2, xiStr, xiEnum, xiZip, xsFor, xsWhile, xtYes, ifB_tt, ifB_ff, kB, isIntD, isBoolD, isStrD, isTupD, isLstD, isDctD, xlStep, wipeD, List.map, fBinU, xDct0]; try simp only [eq_self_iff_true, true_and, and_true])
  match zs, fin with
  | [], fin => exact fin _ rfl
  | [a], fin => exact ⟨_, rfl, fin _ rfl⟩
  | [a, b], fin => exact ⟨_, rfl, _, rfl, fin _ rfl⟩
  | [a, b, c], fin => exact ⟨_, rfl, _, rfl, _, rfl, fin _ rfl⟩
  | a :: b :: c :: d :: r, fin =>
    have no : ∀ n : Int, n < 4 → (((((a :: b :: c :: d :: r).map spD).length : Nat) : Int) == n) = false := fun n hn => by
      simp only [List.length_map, List.length_cons, beq_eq_false_iff_ne]
      omega
    rw [no 0 (by decide), no 1 (by decide), no 2 (by decide), no 3 (by decide)]
    exact ⟨rfl, .inl ⟨_, rfl, ask_sps T hz l64 h⟩⟩
abbrev p_signs (T : Txt K mg) : DF := sp4 fun a b c d q _ => ∃ us vs xs ys, a = spsD T us ∧ b = spsD T vs ∧ c = .lst (xs.map spD) ∧ d = .lst (ys.map spD) ∧ (∀ z ∈ xs, spOk z) ∧ (∀ z ∈ ys, spOk z) ∧ xs.length ≤ 5 ∧ ys.length ≤ 5 ∧ Asc spP us xs ∧ Asc spP vs ys ∧ q (.bl true)
theorem ok_l_signs_right (T : Txt K mg) : FnG P w K mg base CX0 19 T.a_l_signs_right T.fd_l_signs_right ["_law_one", "_law_two", "_law_first", "_law_second"] (toSp0 K (TB T) (p_signs T)) := by
  have G_Spots_or : FnOk P w K mg base (L2.CX P w) 16 T.a_Spots_or T.fd_Spots_or ["self", "other"] (toSp K (TB T) (p_or T)) := ok_Spots_or T
  have G_Spots_eq : FnOk P w K mg base CX0 13 T.a_Spots_eq T.fd_Spots_eq ["self", "other"] (toSp0 K (TB T) (p_eq T)) := ok_Spots_eq T
  have G_Spots_within : FnOk P w K mg base (L2.CX P w) 16 T.a_Spots_within T.fd_Spots_within ["self", "other"] (toSp K (TB T) (p_within T)) := ok_Spots_within T
  have G_l_different : FnOk P w K mg base CX0 1 T.a_l_different T.fd_l_different ["_law_spots"] (toSp0 K (TB T) p_dif) := ok_l_different T
  have G_l_is_told : FnG P w K mg base CX0 16 T.a_l_is_told T.fd_l_is_told ["_law_found", "_law_spots"] (toSp0 K (TB T) (p_told T)) := ok_l_is_told T
  have G_Spots_and : FnOk P w K mg base (L2.CX P w) 16 T.a_Spots_and T.fd_Spots_and ["self", "other"] (toSp K (TB T) (p_and T)) := ok_Spots_and T
  have G_Spots_sub : FnOk P w K mg base (L2.CX P w) 16 T.a_Spots_sub T.fd_Spots_sub ["self", "other"] (toSp K (TB T) (p_sub T)) := ok_Spots_sub T
  refine okDG (n := 7) T.F_l_signs_right sc_l_signs_right rfl (fun ds q e h => sp4_len ds q e h) (fun cdv A outer s H E gu hr => (dss_cons (ds_par (ps_par (i := 4) (j := 5) rfl sc_l_signs_right.nd rfl rfl (by decide) rfl rfl (dm_val (DN.e (d_lc (pe_lc (own := [("_law_spot_here", 10)]) (g := (gName 10)) rfl sc_l_signs_right.nd (dis_lst (DE.s (d_var (pv 2)))) (blkOk_by (N := ["_law_one", "_law_two", "_law_first", "_law_second", "_law_both", "_law_here", "_law_later", "_law_told", "_law_same", "_law_due", "_law_spot_here"]) (sc := defScope s_l_signs_right) (by decide +kernel)) (fun _ _ _ _ _ => (pg_name (i := 10) sc_l_signs_right.nd rfl (Or.inl rfl))) (fun _ _ _ _ _ => (dts_one (dt_cmp (show OpR _ (compareOp .In) (rInU K) from o_in (u65 hr)) f_in (DE.s (d_var (pv 10))) (DE.s (d_var (pv 3))) (by rfl)))) (fun _ _ _ _ _ => (d_var (pv 10)))) (gd_name (by decide)))) (dm_val (DN.e (d_lc (pe_lc (own := [("_law_spot_here", 10)]) (g := (gName 10)) rfl sc_l_signs_right.nd (dis_lst (DE.s (d_var (pv 2)))) (blkOk_by (N := ["_law_one", "_law_two", "_law_first", "_law_second", "_law_both", "_law_here", "_law_later", "_law_told", "_law_same", "_law_due", "_law_spot_here"]) (sc := defScope s_l_signs_right) (by decide +kernel)) (fun _ _ _ _ _ => (pg_name (i := 10) sc_l_signs_right.nd rfl (Or.inl rfl))) (fun _ _ _ _ _ => (dts_one (dt_cmp (show OpR _ (compareOp .NotIn) (rNotInU K) from o_notIn (u65 hr)) f_notIn (DE.s (d_var (pv 10))) (DE.s (d_var (pv 3))) (by rfl)))) (fun _ _ _ _ _ => (d_var (pv 10)))) (gd_name (by decide)))) dm_nil)) (by rfl)))
      (dss_cons (ds_if (PW.pt (dw_or (dt_not (dt_val (DE.s (d_call0 (pe_callG G_l_is_told (by exact gu) (hr.mono (by decide)) (by rfl) T.g_l_is_told T.F_l_is_told.kp T.b_l_is_told pass0 (da_cons (d_opE (op_binU G_Spots_or T.b_Spots_or passL (hr.mono (by decide)) T.sf_Spots ⟨T.m_Spots_or.1, T.m_Spots_or.2⟩ T.ro_Spots_or sign_or) (f_binU T.is_Spots) (d_var (pv 0)) (d_var (pv 1))) (da_cons (d_op o_add f_add (DE.s (d_var (pv 2))) (DE.s (d_var (pv 3)))) da_nil))))) (by intro _; rfl))) (dw_or1 (dt_not (dt_val (DE.s (d_call0 (pe_callG G_l_is_told (by exact gu) (hr.mono (by decide)) (by rfl) T.g_l_is_told T.F_l_is_told.kp T.b_l_is_told pass0 (da_cons (d_opE (op_binU G_Spots_and T.b_Spots_and passL (hr.mono (by decide)) T.sf_Spots ⟨T.m_Spots_and.1, T.m_Spots_and.2⟩ T.ro_Spots_and sign_and) (f_binU T.is_Spots) (d_var (pv 0)) (d_var (pv 1))) (da_cons (d_var (pv 4)) da_nil))))) (by intro _; rfl)))))) (dss_one (ds_ret d_bl)) dss_nil)
      (dss_cons (ds_if (PW.pt (dw_or (dt_not (dt_val (DE.s (d_call0 (pe_callG G_l_is_told (by exact gu) (hr.mono (by decide)) (by rfl) T.g_l_is_told T.F_l_is_told.kp T.b_l_is_told pass0 (da_cons (d_opE (op_binU G_Spots_sub T.b_Spots_sub passL (hr.mono (by decide)) T.sf_Spots ⟨T.m_Spots_sub.1, T.m_Spots_sub.2⟩ T.ro_Spots_sub sign_sub) (f_binU T.is_Spots) (d_var (pv 0)) (d_var (pv 1))) (da_cons (d_var (pv 5)) da_nil))))) (by intro _; rfl))) (dw_or (dt_not (dt_val (DE.s (d_call0 (pe_callG G_l_is_told (by exact gu) (hr.mono (by decide)) (by rfl) T.g_l_is_told T.F_l_is_told.kp T.b_l_is_told pass0 (da_cons (d_opE (op_binU G_Spots_sub T.b_Spots_sub passL (hr.mono (by decide)) T.sf_Spots ⟨T.m_Spots_sub.1, T.m_Spots_sub.2⟩ T.ro_Spots_sub sign_sub) (f_binU T.is_Spots) (d_var (pv 0)) (d_var (pv 0))) (da_cons (DN.e (d_lst da_nil)) da_nil))))) (by intro _; rfl))) (dw_or1 (dt_not (dt_val (DE.s (d_call0 (pe_callG G_l_is_told (by exact gu) (hr.mono (by decide)) (by rfl) T.g_l_is_told T.F_l_is_told.kp T.b_l_is_told pass0 (da_cons (d_opE (op_binU G_Spots_or T.b_Spots_or passL (hr.mono (by decide)) T.sf_Spots ⟨T.m_Spots_or.1, T.m_Spots_or.2⟩ T.ro_Spots_or sign_or) (f_binU T.is_Spots) (d_var (pv 1)) (d_var (pv 1))) (da_cons (d_var (pv 3)) da_nil))))) (by intro _; rfl))))))) (dss_one (ds_ret d_bl)) dss_nil)
      (dss_cons (ds_set (ps_set (i := 6) sc_l_signs_right.nd rfl (.inl rfl) (d_var (pv 0))))
      (dss_cons (ds_aug (ps_aug (i := 6) sc_l_signs_right.nd rfl (.inl rfl) (d_var (pv 1)) (ip_binU G_Spots_or T.b_Spots_or passL (hr.mono (by decide)) T.sf_Spots T.ni_Spots ⟨T.m_Spots_or.1, T.m_Spots_or.2⟩ T.ro_Spots_or sign_or)) (f_binU T.is_Spots))
      (dss_cons (ds_if (PW.pt (dw_or (dt_not (dt_val (DE.s (d_call0 (pe_callG G_l_is_told (by exact gu) (hr.mono (by decide)) (by rfl) T.g_l_is_told T.F_l_is_told.kp T.b_l_is_told pass0 (da_cons (d_var (pv 6)) (da_cons (d_op o_add f_add (DE.s (d_var (pv 2))) (DE.s (d_var (pv 3)))) da_nil))))) (by intro _; rfl))) (dw_or (dt_not (dt_val (DE.s (d_call0 (pe_callG G_l_is_told (by exact gu) (hr.mono (by decide)) (by rfl) T.g_l_is_told T.F_l_is_told.kp T.b_l_is_told pass0 (da_cons (d_var (pv 0)) (da_cons (d_var (pv 2)) da_nil))))) (by intro _; rfl))) (dw_or1 (dt_not (dt_val (DE.s (d_call0 (pe_callG G_l_is_told (by exact gu) (hr.mono (by decide)) (by rfl) T.g_l_is_told T.F_l_is_told.kp T.b_l_is_told pass0 (da_cons (d_var (pv 1)) (da_cons (d_var (pv 3)) da_nil))))) (by intro _; rfl))))))) (dss_one (ds_ret d_bl)) dss_nil)
      (dss_cons (ds_set (ps_set (i := 7) sc_l_signs_right.nd rfl (.inl rfl) (DN.e (d_lst (da_cons (d_meth (pe_meth (d_var (pv 0)) T.cl_Spots T.m_Spots_within G_Spots_within (hr.mono (by decide)) T.b_Spots_within .nil passL (da_cons (d_var (pv 1)) da_nil))) (da_cons (d_meth (pe_meth (d_var (pv 1)) T.cl_Spots T.m_Spots_within G_Spots_within (hr.mono (by decide)) T.b_Spots_within .nil passL (da_cons (d_var (pv 0)) da_nil))) (da_cons (d_cmpE (op_eqO G_Spots_eq (hr.mono (by decide)) T.eq_Spots T.b_Spots_eq pass0) (f_eqO (cs := [])  T.is_Spots (fun n hn => (T.fo_Spots n hn).2)  (fun B m => (List.not_mem_nil m).elim)) (d_var (pv 0)) (d_var (pv 1)) (nomark _)) (da_cons (d_cmpE (op_neO G_Spots_eq (hr.mono (by decide)) T.eq_Spots T.b_Spots_eq pass0) (f_neO (cs := [])  T.is_Spots (fun n hn => (T.fo_Spots n hn).2)  (fun B m => (List.not_mem_nil m).elim)) (d_var (pv 0)) (d_var (pv 1)) (nomark _)) (da_cons (d_meth (pe_meth (d_var (pv 0)) T.cl_Spots T.m_Spots_within G_Spots_within (hr.mono (by decide)) T.b_Spots_within .nil passL (da_cons (d_var (pv 0)) da_nil))) (da_cons (d_meth (pe_meth (d_opE (op_binU G_Spots_and T.b_Spots_and passL (hr.mono (by decide)) T.sf_Spots ⟨T.m_Spots_and.1, T.m_Spots_and.2⟩ T.ro_Spots_and sign_and) (f_binU T.is_Spots) (d_var (pv 0)) (d_var (pv 1))) T.cl_Spots T.m_Spots_within G_Spots_within (hr.mono (by decide)) T.b_Spots_within .nil passL (da_cons (d_var (pv 1)) da_nil))) da_nil))))))))))
      (dss_cons (ds_set (ps_set (i := 8) sc_l_signs_right.nd rfl (.inl rfl) (d_cmp (show OpR _ (compareOp .Eq) (rEqU K) from o_eq hr.units) f_eq (DE.s (d_call0 (pe_call G_l_different (hr.mono (by decide)) (by rfl) T.g_l_different T.F_l_different.kp T.b_l_different .nil pass0 (da_cons (d_var (pv 2)) da_nil)))) (DE.s (d_call0 (pe_call G_l_different (hr.mono (by decide)) (by rfl) T.g_l_different T.F_l_different.kp T.b_l_different .nil pass0 (da_cons (d_var (pv 3)) da_nil)))) (nomark _))))
      (dss_cons (ds_set (ps_set (i := 9) sc_l_signs_right.nd rfl (.inl rfl) (DN.e (d_lst (da_cons (d_cmp (show OpR _ (compareOp .Eq) (rEqNil K) from op_eqNil hr.units) f_eqNil (DE.s (d_var (pv 5))) (DN.s (d_lst da_nil)) (nomark _)) (da_cons (d_cmp (show OpR _ (compareOp .Eq) (rEqNil K) from op_eqNil hr.units) f_eqNil (DN.s (d_lc (pe_lc (own := [("_law_spot_here", 10)]) (g := (gName 10)) rfl sc_l_signs_right.nd (dis_lst (DE.s (d_var (pv 3)))) (blkOk_by (N := ["_law_one", "_law_two", "_law_first", "_law_second", "_law_both", "_law_here", "_law_later", "_law_told", "_law_same", "_law_due", "_law_spot_here"]) (sc := defScope s_l_signs_right) (by decide +kernel)) (fun _ _ _ _ _ => (pg_name (i := 10) sc_l_signs_right.nd rfl (Or.inl rfl))) (fun _ _ _ _ _ => (dts_one (dt_cmp (show OpR _ (compareOp .NotIn) (rNotInU K) from o_notIn (u65 hr)) f_notIn (DE.s (d_var (pv 10))) (DE.s (d_var (pv 2))) (by rfl)))) (fun _ _ _ _ _ => (d_var (pv 10)))) (gd_name (by decide)))) (DN.s (d_lst da_nil)) (nomark _)) (da_cons (d_var (pv 8)) (da_cons (d_not (DE.s (d_var (pv 8)))) (da_cons d_bl (da_cons d_bl da_nil))))))))))
      (dss_one (ds_ret (d_cmp (show OpR _ (compareOp .Eq) (rEqU K) from o_eq hr.units) f_eq (DE.s (d_callB (pe_callB (show CallR _ (.builtin "repr") (rRepr K) from call_reprD (by exact gu) hr.units) (by rfl) T.n_repr (by decide +kernel) (das_cons (DE.s (d_var (pv 7))) das_nil)) f_repr)) (DE.s (d_callB (pe_callB (show CallR _ (.builtin "repr") (rRepr K) from call_reprD (by exact gu) hr.units) (by rfl) T.n_repr (by decide +kernel) (das_cons (DE.s (d_var (pv 9))) das_nil)) f_repr)) (nomark _)))))))))))))) ?_
  refine sp4_by0 fun a b c d q ⟨us, vs, xs, ys, ea, eb, ec, ed, hx, hy, l1, l2, hu, hv, h⟩ => ?_
  subst ea
  subst eb
  subst ec
  subst ed
  (dsimp only [xsSeq, xsNil, xsRet, xsRetN, xsDrop, xsSet, xsOwn, xsIf, xsFrz, xsApp, xsMany, xsAsg, xsAug, xsRaise, xsPut, xVar, xNow, xC, xList, xOp, xUn, xOpN, xNil, xCons, xStar, xSeqOf, xCB, xCBN, xIf, xAnd, xOr, xNot, xtAnd, xtOr, xtNot, xtVal, xtTru, truD, xChain, xTup, xLst, xCall, xCall0, xFld, xOwnF, xMeth, xMeth0, xProp, xMake, xMakeS, xCMeth, xSl, xoNone, xoSome, xJoin, xSm, xFmt, xJs, xRev, xnSl, fAdd, nAdd, fSub, fMul, fMod, fPow, fFdiv, fNeg, fCmpI, fEq, fNe, fEqNil, fNeNil, fIs, fIsnt, DL.isNon, noRaw, fIn, fNotIn, fIx, fSl, fLen, fAbs, fMax, fMin, fInt, fStr, nList, fTuple, fAll, fAny, fSum, fRepr, fIsi, fIsO, fEqO, fNeO, sideOk, fInO, fNotInO, fIxO, fIxO0, fUnO, fBinO, fBinO0, fLenO, fStrO, fBoolO, fBool, asBl, xgName, xgNil, xgCons, xgTup, startD, startI, endK, endI, getV, setV, setVs, xmNil, xmVal, xmOwn, noV, List.length_cons, List.length_nil, Bool.not_true, Bool.not_false, xLc, xiLst, xiTup, xiRng1, xiRng2, xiStr, xiEnum, xiZip, xsFor, xsWhile, xtYes, ifB_tt, ifB_ff, kB, isIntD, isBoolD, isStrD, isTupD, isLstD, isDctD, xlStep, wipeD, List.map, fBinU, xDct0]; try simp only [eq_self_iff_true, true_and, and_true])
  have uz : ∀ z ∈ us, spOk z := fun z m => hx z ((hu.mem z).mp m)
  have vz : ∀ z ∈ vs, spOk z := fun z m => hy z ((hv.mem z).mp m)
  have uo : ∀ z ∈ us, okS z := fun z m => (uz z m).1
  have vo : ∀ z ∈ vs, okS z := fun z m => (vz z m).1
  have u5 := hu.len
  have v5 := hv.len
  have xyz : ∀ z ∈ xs ++ ys, spOk z := fun z m => (List.mem_append.mp m).elim (hx z) (hy z)
  have ev : ∀ z, decide (z ∈ vs) = decide (z ∈ ys) := fun z => decide_eq_decide.mpr (hv.mem z)
  have eu : ∀ z, decide (z ∈ us) = decide (z ∈ xs) := fun z => decide_eq_decide.mpr (hu.mem z)
  have cat : ∀ ws, Asc spP ws (us ++ vs) → Asc spP ws (xs ++ ys) ∧ ws.length ≤ 10 := fun ws hw => by
    have l := hw.len
    rw [List.length_append] at l
    exact ⟨hw.congr fun k => by rw [List.mem_append, List.mem_append, hu.mem, hv.mem], by omega⟩
  refine xl_map xs spD (fun z => decide (z ∈ ys)) spD (by omega) (fun z m yes no hyes hno => ?_) (xl_map xs spD (fun z => !decide (z ∈ ys)) spD (by omega) (fun z m yes no hyes hno => ?_) ?_)
  · (dsimp only [xsSeq, xsNil, xsRet, xsRetN, xsDrop, xsSet, xsOwn, xsIf, xsFrz, xsApp, xsMany, xsAsg, xsAug, xsRaise, xsPut, xVar, xNow, xC, xList, xOp, xUn, xOpN, xNil, xCons, xStar, xSeqOf, xCB, xCBN, xIf, xAnd, xOr, xNot, xtAnd, xtOr, xtNot, xtVal, xtTru, truD, xChain, xTup, xLst, xCall, xCall0, xFld, xOwnF, xMeth, xMeth0, xProp, xMake, xMakeS, xCMeth, xSl, xoNone, xoSome, xJoin, xSm, xFmt, xJs, xRev, xnSl, fAdd, nAdd, fSub, fMul, fMod, fPow, fFdiv, fNeg, fCmpI, fEq, fNe, fEqNil, fNeNil, fIs, fIsnt, DL.isNon, noRaw, fIn, fNotIn, fIx, fSl, fLen, fAbs, fMax, fMin, fInt, fStr, nList, fTuple, fAll, fAny, fSum, fRepr, fIsi, fIsO, fEqO, fNeO, sideOk, fInO, fNotInO, fIxO, fIxO0, fUnO, fBinO, fBinO0, fLenO, fStrO, fBoolO, fBool, asBl, xgName, xgNil, xgCons, xgTup, startD, startI, endK, endI, getV, setV, setVs, xmNil, xmVal, xmOwn, noV, List.length_cons, List.length_nil, Bool.not_true, Bool.not_false, xLc, xiLst, xiTup, xiRng1, xiRng2, xiStr, xiEnum, xiZip, xsFor, xsWhile, xtYes, ifB_tt, ifB_ff, kB, isIntD, isBoolD, isStrD, isTupD, isLstD, isDctD, xlStep, wipeD, List.map, fBinU, xDct0]; try simp only [eq_self_iff_true, true_and, and_true])
    exact ⟨(plain_sp (hx z m).1).mono (by decide), (plain_lsp fun z m => (hy z m).1).mono (by decide), by rw [has_sp]; exact ifB_of hyes hno⟩
  · (dsimp only [xsSeq, xsNil, xsRet, xsRetN, xsDrop, xsSet, xsOwn, xsIf, xsFrz, xsApp, xsMany, xsAsg, xsAug, xsRaise, xsPut, xVar, xNow, xC, xList, xOp, xUn, xOpN, xNil, xCons, xStar, xSeqOf, xCB, xCBN, xIf, xAnd, xOr, xNot, xtAnd, xtOr, xtNot, xtVal, xtTru, truD, xChain, xTup, xLst, xCall, xCall0, xFld, xOwnF, xMeth, xMeth0, xProp, xMake, xMakeS, xCMeth, xSl, xoNone, xoSome, xJoin, xSm, xFmt, xJs, xRev, xnSl, fAdd, nAdd, fSub, fMul, fMod, fPow, fFdiv, fNeg, fCmpI, fEq, fNe, fEqNil, fNeNil, fIs, fIsnt, DL.isNon, noRaw, fIn, fNotIn, fIx, fSl, fLen, fAbs, fMax, fMin, fInt, fStr, nList, fTuple, fAll, fAny, fSum, fRepr, fIsi, fIsO, fEqO, fNeO, sideOk, fInO, fNotInO, fIxO, fIxO0, fUnO, fBinO, fBinO0, fLenO, fStrO, fBoolO, fBool, asBl, xgName, xgNil, xgCons, xgTup, startD, startI, endK, endI, getV, setV, setVs, xmNil, xmVal, xmOwn, noV, List.length_cons, List.length_nil, Bool.not_true, Bool.not_false, xLc, xiLst, xiTup, xiRng1, xiRng2, xiStr, xiEnum, xiZip, xsFor, xsWhile, xtYes, ifB_tt, ifB_ff, kB, isIntD, isBoolD, isStrD, isTupD, isLstD, isDctD, xlStep, wipeD, List.map, fBinU, xDct0]; try simp only [eq_self_iff_true, true_and, and_true])
    exact ⟨(plain_sp (hx z m).1).mono (by decide), (plain_lsp fun z m => (hy z m).1).mono (by decide), by rw [has_sp]; exact ifB_of hyes hno⟩
  refine ⟨rfl, rfl, us, rfl, uo, by omega, .inl ⟨vs, rfl, vo, by omega, fun ws hw => ⟨trivial, fit_of (by simp only [List.length_map]; omega), ?_⟩⟩⟩
  rw [← List.map_append]
  refine ⟨ws, xs ++ ys, rfl, rfl, xyz, by rw [List.length_append]; omega, (cat ws hw).2, (cat ws hw).1, ?_⟩
  refine ⟨rfl, rfl, us, rfl, uo, by omega, .inl ⟨vs, rfl, vo, trivial, ?_⟩⟩
  have f1 : ∀ p : Spt → Bool, (xs.filter p).length ≤ 5 := fun p => Nat.le_trans (List.length_filter_le ..) l1
  have f2 : ∀ p : Spt → Bool, (us.filter p).length ≤ 10 := fun p => Nat.le_trans (List.length_filter_le ..) (by omega)
  refine ⟨_, _, rfl, rfl, fun z m => hx z (List.mem_filter.mp m).1, Nat.le_trans (f1 _) (by decide), f2 _, by simp only [ev]; exact hu.filter _, ?_⟩
  refine ⟨rfl, rfl, us, rfl, uo, by omega, .inl ⟨vs, rfl, vo, trivial, ?_⟩⟩
  refine ⟨_, _, rfl, rfl, fun z m => hx z (List.mem_filter.mp m).1, Nat.le_trans (f1 _) (by decide), f2 _, by simp only [ev]; exact hu.filter _, ?_⟩
  refine ⟨rfl, rfl, us, rfl, uo, by omega, .inl ⟨us, rfl, uo, trivial, fit_of (by decide), ?_⟩⟩
  have none0 : us.filter (fun z => !decide (z ∈ us)) = [] := List.filter_eq_nil_iff.mpr fun z m => by rw [decide_eq_true m]; exact Bool.false_ne_true
  rw [none0]
  refine ⟨([] : List Spt), ([] : List Spt), rfl, rfl, fun z m => (List.not_mem_nil m).elim, Nat.zero_le _, Nat.zero_le _, .nil, ?_⟩
  refine ⟨rfl, rfl, vs, rfl, vo, by omega, .inl ⟨vs, rfl, vo, by omega, fun ws2 hw2 => ⟨trivial, ?_⟩⟩⟩
  have hw3 : Asc spP ws2 ys := hw2.congr fun k => by rw [List.mem_append, or_self, hv.mem]
  have w5 := hw3.len
  refine ⟨ws2, ys, rfl, rfl, hy, by omega, by omega, hw3, ?_⟩
  refine ⟨rfl, rfl, us, rfl, uo, by omega, .inl ⟨vs, rfl, vo, by omega, fun wt ht => ⟨trivial, fit_of (by simp only [List.length_map]; omega), wt, xs ++ ys, rfl, rfl, xyz, by rw [List.length_append]; omega, (cat wt ht).2, (cat wt ht).1, ?_⟩⟩⟩
  refine ⟨us, xs, rfl, rfl, hx, by omega, by omega, hu, vs, ys, rfl, rfl, hy, by omega, by omega, hv, ?_⟩
  refine ⟨rfl, rfl, us, rfl, uo, by omega, .inl ⟨vs, rfl, vo, rfl, rfl, vs, rfl, vo, by omega, .inl ⟨us, rfl, uo, ?_⟩⟩⟩
  refine ⟨rfl, .inl rfl, us, rfl, uo, .inl ⟨vs, rfl, vo, rfl, .inl rfl, us, rfl, uo, .inl ⟨vs, rfl, vo, ?_⟩⟩⟩
  refine ⟨rfl, rfl, us, rfl, uo, by omega, .inl ⟨us, rfl, uo, ?_⟩⟩
  refine ⟨rfl, rfl, us, rfl, uo, by omega, .inl ⟨vs, rfl, vo, trivial, ?_⟩⟩
  have fo : ∀ z ∈ us.filter (fun z => decide (z ∈ vs)), okS z := fun z m => uo z (List.mem_filter.mp m).1
  refine ⟨rfl, rfl, _, rfl, fo, Nat.le_trans (f2 _) (by decide), .inl ⟨vs, rfl, vo, fit_of (by decide), xs, rfl, by omega, fun u2 hu2 => ⟨ys, rfl, by omega, fun v2 hv2 => ?_⟩⟩⟩
  obtain rfl : us = u2 := hu.uniq sp_inj hu2 fun _ => Iff.rfl
  obtain rfl : vs = v2 := hv.uniq sp_inj hv2 fun _ => Iff.rfl
  refine ⟨(plain_lsp uo).mono (by decide), (plain_lsp vo).mono (by decide), fit_of (by decide), xl_map ys spD (fun z => !decide (z ∈ xs)) spD (by omega) (fun z m yes no hyes hno => ?_) ?_⟩
  · (dsimp only [xsSeq, xsNil, xsRet, xsRetN, xsDrop, xsSet, xsOwn, xsIf, xsFrz, xsApp, xsMany, xsAsg, xsAug, xsRaise, xsPut, xVar, xNow, xC, xList, xOp, xUn, xOpN, xNil, xCons, xStar, xSeqOf, xCB, xCBN, xIf, xAnd, xOr, xNot, xtAnd, xtOr, xtNot, xtVal, xtTru, truD, xChain, xTup, xLst, xCall, xCall0, xFld, xOwnF, xMeth, xMeth0, xProp, xMake, xMakeS, xCMeth, xSl, xoNone, xoSome, xJoin, xSm, xFmt, xJs, xRev, xnSl, fAdd, nAdd, fSub, fMul, fMod, fPow, fFdiv, fNeg, fCmpI, fEq, fNe, fEqNil, fNeNil, fIs, fIsnt, DL.isNon, noRaw, fIn, fNotIn, fIx, fSl, fLen, fAbs, fMax, fMin, fInt, fStr, nList, fTuple, fAll, fAny, fSum, fRepr, fIsi, fIsO, fEqO, fNeO, sideOk, fInO, fNotInO, fIxO, fIxO0, fUnO, fBinO, fBinO0, fLenO, fStrO, fBoolO, fBool, asBl, xgName, xgNil, xgCons, xgTup, startD, startI, endK, endI, getV, setV, setVs, xmNil, xmVal, xmOwn, noV, List.length_cons, List.length_nil, Bool.not_true, Bool.not_false, xLc, xiLst, xiTup, xiRng1, xiRng2, xiStr, xiEnum, xiZip, xsFor, xsWhile, xtYes, ifB_tt, ifB_ff, kB, isIntD, isBoolD, isStrD, isTupD, isLstD, isDctD, xlStep, wipeD, List.map, fBinU, xDct0]; try simp only [eq_self_iff_true, true_and, and_true])
    exact ⟨(plain_sp (hy z m).1).mono (by decide), (plain_lsp fun z m => (hx z m).1).mono (by decide), by rw [has_sp]; exact ifB_of hyes hno⟩
  have six : ∀ b1 b2 b3 b4 b5 b6 : Bool, okShow (.lst [.bl b1, .bl b2, .bl b3, .bl b4, .bl b5, .bl b6]) := fun b1 b2 b3 b4 b5 b6 =>
    (shw_lst (shw_cons (shw_bl b1) (shw_cons (shw_bl b2) (shw_cons (shw_bl b3) (shw_cons (shw_bl b4) (shw_cons (shw_bl b5) (shw_cons (shw_bl b6) shw_nil))))))).ok (by decide) (by decide)
  refine ⟨fit_of (by decide), fit_of (by decide), six _ _ _ _ _ _, six _ _ _ _ _ _, ?_⟩
  have e1 := all_emp hu.mem hv.mem
  have e2 := all_emp hv.mem hu.mem
  have e3 : eqD (.lst (us.map spD)) (.lst (vs.map spD)) = decide (us = vs) := by rw [eqD, eqDs_map spD eq_sp]
  have e4 : (us.all fun z => decide (z ∈ us)) = true := List.all_eq_true.mpr fun z m => decide_eq_true m
  have e5 : ((us.filter fun z => decide (z ∈ vs)).all fun z => decide (z ∈ vs)) = true := List.all_eq_true.mpr fun z m => (List.mem_filter.mp m).2
  rw [e1, e2, e3, e4, e5, beq_self_eq_true]
  exact h
end
-- SPLIT
/-! ### what is refused -/
section
variable {P : Program} {w : World} {K : PySem.W.Frag} {mg : Str → Option Value} {base : Heap}
def ML_l_met {K : PySem.W.Frag} {mg : Str → Option Value} (T : Txt K mg) : List (Addr × V) := [(T.c_InvalidSpot, .str "spot"), (T.c_InvalidOperation, .str "operation")]
theorem met_l_met {X : Cx} {K : PySem.W.Frag} {mg : Str → Option Value} (T : Txt K mg) {g : Addr} {cdg : Value} {q : Str} (hK : X.K = K := by rfl) (hm : X.mg = mg := by rfl) : LamX.GivesTo X ["_law_call"] "_law_met" (defScope s_l_met) g cdg (defBody s_l_met) "_law_call" q (TTmet X.K (ML_l_met T) (.str "none")) := by
  subst hK
  subst hm
  exact met_mix rfl (by decide) (.cons rfl T.g_InvalidSpot (by decide) (fun _ => pe_str) (.cons rfl T.g_InvalidOperation (by decide) (fun _ => pe_str) .nil)) (fun _ => pe_str) (fun _ => rfl)
theorem noA {a b c : D} (h : nameD a = false) : isSpot (.tup [a, b, c]) = false := by
  show (nameD a && _) = false
  rw [h, Bool.false_and]
theorem noB {a b c : D} (h : idxD b = false) : isSpot (.tup [a, b, c]) = false := by
  show (nameD a && (idxD b && _)) = false
  rw [h, Bool.false_and, Bool.and_false]
theorem noC {a b c : D} (h : idxD c = false) : isSpot (.tup [a, b, c]) = false := by
  show (nameD a && (idxD b && idxD c)) = false
  rw [h, Bool.and_false, Bool.and_false]
theorem ask1 {a : D} (ha : kindD a) : askOk (.tup [a]) := fun y hy => by
  rw [List.mem_singleton.mp hy]
  exact ha
theorem ask2 {a b : D} (ha : kindD a) (hb : kindD b) : askOk (.tup [a, b]) := fun y hy => by
  simp only [List.mem_cons, List.not_mem_nil, or_false] at hy
  rcases hy with rfl | rfl
  · exact ha
  · exact hb
theorem ask3 {a b c : D} (ha : kindD a) (hb : kindD b) (hc : kindD c) : askOk (.tup [a, b, c]) := fun y hy => by
  simp only [List.mem_cons, List.not_mem_nil, or_false] at hy
  rcases hy with rfl | rfl | rfl
  · exact ha
  · exact hb
  · exact hc
theorem ask4 {a b c d : D} (ha : kindD a) (hb : kindD b) (hc : kindD c) (hd : kindD d) : askOk (.tup [a, b, c, d]) := fun y hy => by
  simp only [List.mem_cons, List.not_mem_nil, or_false] at hy
  rcases hy with rfl | rfl | rfl | rfl
  · exact ha
  · exact hb
  · exact hc
  · exact hd
abbrev p_odd : DF := sp2 fun a b q _ => a = dice ∧ ∃ z, b = spD z ∧ spOk z ∧ ∀ x, askOk x → isSpot x = false → q x
theorem ok_l_odd_spot (T : Txt K mg) : FnOk P w K mg base CX0 7 T.a_l_odd_spot T.fd_l_odd_spot ["_law_dice_here", "_law_spot_here"] (toSp0 K (TB T) p_odd) := by
  have G_l_pick : FnOk P w K mg base CX0 4 T.a_l_pick T.fd_l_pick ["_law_dice_here", "_law_items"] (toSp0 K (TB T) p_pick) := ok_l_pick T
  refine okD0 (n := 4) T.F_l_odd_spot sc_l_odd_spot rfl (fun ds q e h => sp2_len ds q e h) (fun cdv A outer s H E hr => (dss_cons (ds_asg (vs := [2, 3, 4]) (ps_asg (d_var (pv 1)) (pg_tup (n := 3) (by rfl) (pgs_cons (pg_name (i := 2) sc_l_odd_spot.nd rfl (.inl rfl)) (pgs_cons (pg_name (i := 3) sc_l_odd_spot.nd rfl (.inl rfl)) (pgs_cons (pg_name (i := 4) sc_l_odd_spot.nd rfl (.inl rfl)) pgs_nil))))) (gd_tup (gd_cons (gd_name (by decide)) (gd_cons (gd_name (by decide)) (gd_cons (gd_name (by decide)) gd_nil)))))
      (dss_cons (ds_set (ps_set (i := 5) sc_l_odd_spot.nd rfl (.inl rfl) (DN.e (d_lst (da_cons d_non (da_cons (d_tup da_nil) (da_cons (d_var (pv 2)) (da_cons (DN.e (d_callN (pe_callTy call_list_of (by rfl) T.n_list (by decide +kernel) (das_cons (DE.s (d_var (pv 1))) das_nil)) n_list)) (da_cons (d_tup (da_cons (d_var (pv 2)) (da_cons (d_var (pv 3)) da_nil))) (da_cons (d_op o_add f_add (DE.s (d_var (pv 1))) (DE.s (d_tup (da_cons d_int da_nil)))) (da_cons (d_tup (da_cons d_str (da_cons (d_var (pv 3)) (da_cons (d_var (pv 4)) da_nil)))) (da_cons (d_tup (da_cons d_str (da_cons (d_var (pv 3)) (da_cons (d_var (pv 4)) da_nil)))) (da_cons (d_tup (da_cons d_non (da_cons (d_var (pv 3)) (da_cons (d_var (pv 4)) da_nil)))) da_nil)))))))))))))
      (dss_cons (ds_set (ps_set (i := 5) sc_l_odd_spot.nd rfl (.inl rfl) (d_op o_add f_add (DE.s (d_var (pv 5))) (DN.s (d_lst (da_cons (d_tup (da_cons (d_var (pv 2)) (da_cons (d_op op_sub f_sub (DE.s d_int) (DE.s d_int)) (da_cons (d_var (pv 4)) da_nil)))) (da_cons (d_tup (da_cons (d_var (pv 2)) (da_cons (d_var (pv 3)) (da_cons (d_op op_sub f_sub (DE.s (d_op op_sub f_sub (DE.s d_int) (DE.s d_int))) (DE.s (d_var (pv 4)))) da_nil)))) (da_cons (d_tup (da_cons (d_var (pv 2)) (da_cons d_bl (da_cons (d_var (pv 4)) da_nil)))) (da_cons (d_tup (da_cons (d_var (pv 2)) (da_cons (d_var (pv 3)) (da_cons d_bl da_nil)))) (da_cons (d_tup (da_cons (d_var (pv 2)) (da_cons d_str (da_cons (d_var (pv 4)) da_nil)))) da_nil))))))))))
      (dss_cons (ds_set (ps_set (i := 5) sc_l_odd_spot.nd rfl (.inl rfl) (d_op o_add f_add (DE.s (d_var (pv 5))) (DN.s (d_lst (da_cons (d_tup (da_cons (d_var (pv 2)) (da_cons (d_var (pv 3)) (da_cons d_non da_nil)))) (da_cons (d_tup (da_cons (d_var (pv 3)) (da_cons (d_var (pv 2)) (da_cons (d_var (pv 4)) da_nil)))) (da_cons (d_tup (da_cons d_str (da_cons (d_var (pv 3)) (da_cons (d_var (pv 4)) da_nil)))) (da_cons (d_tup (da_cons (d_var (pv 2)) (da_cons (d_tup (da_cons (d_var (pv 3)) da_nil)) (da_cons (d_var (pv 4)) da_nil)))) (da_cons (d_tup (da_cons (d_var (pv 1)) da_nil)) da_nil))))))))))
      (dss_cons (ds_set (ps_set (i := 5) sc_l_odd_spot.nd rfl (.inl rfl) (d_op o_add f_add (DE.s (d_var (pv 5))) (DN.s (d_lst (da_cons (d_tup (da_cons d_str (da_cons (d_var (pv 3)) (da_cons (d_var (pv 4)) da_nil)))) (da_cons (d_tup (da_cons d_str (da_cons (d_var (pv 3)) (da_cons (d_var (pv 4)) da_nil)))) da_nil)))))))
      (dss_one (ds_ret (d_call0 (pe_call G_l_pick (hr.mono (by decide)) (by rfl) T.g_l_pick T.F_l_pick.kp T.b_l_pick .nil pass0 (da_cons (d_var (pv 0)) (da_cons (d_var (pv 5)) da_nil)))))))))))) ?_
  refine sp2_by0 fun a b q ⟨ea, z, eb, hz, h⟩ => ?_
  subst ea
  obtain ⟨n, i, j⟩ := z
  have eb : b = .tup [.str n, .int i, .int j] := eb
  subst eb
  (dsimp only [xsSeq, xsNil, xsRet, xsRetN, xsDrop, xsSet, xsOwn, xsIf, xsFrz, xsApp, xsMany, xsAsg, xsAug, xsRaise, xsPut, xVar, xNow, xC, xList, xOp, xUn, xOpN, xNil, xCons, xStar, xSeqOf, xCB, xCBN, xIf, xAnd, xOr, xNot, xtAnd, xtOr, xtNot, xtVal, xtTru, truD, xChain, xTup, xLst, xCall, xCall0, xFld, xOwnF, xMeth, xMeth0, xProp, xMake, xMakeS, xCMeth, xSl, xoNone, xoSome, xJoin, xSm, xFmt, xJs, xRev, xnSl, fAdd, nAdd, fSub, fMul, fMod, fPow, fFdiv, fNeg, fCmpI, fEq, fNe, fEqNil, fNeNil, fIs, fIsnt, DL.isNon, noRaw, fIn, fNotIn, fIx, fSl, fLen, fAbs, fMax, fMin, fInt, fStr, nList, fTuple, fAll, fAny, fSum, fRepr, fIsi, fIsO, fEqO, fNeO, sideOk, fInO, fNotInO, fIxO, fIxO0, fUnO, fBinO, fBinO0, fLenO, fStrO, fBoolO, fBool, asBl, xgName, xgNil, xgCons, xgTup, startD, startI, endK, endI, getV, setV, setVs, xmNil, xmVal, xmOwn, noV, List.length_cons, List.length_nil, Bool.not_true, Bool.not_false, xLc, xiLst, xiTup, xiRng1, xiRng2, xiStr, xiEnum, xiZip, xsFor, xsWhile, xtYes, ifB_tt, ifB_ff, kB, isIntD, isBoolD, isStrD, isTupD, isLstD, isDctD, xlStep, wipeD, List.map, fBinU, xDct0]; try simp only [eq_self_iff_true, true_and, and_true])
  have nl := name_len hz.1.1
  have kn : kindD (.str n) := fit_of (by have : n.length ≤ 8 := nl.2; omega)
  have ks : ∀ x : String, (Str.ofString x).length ≤ 100000 → kindD (.str (Str.ofString x)) := fun x h => fit_of h
  repeat refine ⟨fit_of (by first | decide | simp), ?_⟩
  refine ⟨rfl, .inl ⟨_, .inl rfl, by simp, by simp, fun x hx => ?_⟩⟩
  rw [List.mem_append, List.mem_append, List.mem_append] at hx
  rcases hx with ((hx | hx) | hx) | hx
  all_goals simp only [List.mem_cons, List.not_mem_nil, or_false] at hx
  · rcases hx with rfl | rfl | rfl | rfl | rfl | rfl | rfl | rfl | rfl
    · exact h _ trivial rfl
    · exact h _ (fun y hy => by cases hy) rfl
    · exact h _ trivial rfl
    · exact h _ trivial rfl
    · exact h _ (ask2 kn trivial) rfl
    · exact h _ (ask4 kn trivial trivial trivial) rfl
    · exact h _ (ask3 (ks "" (by decide +kernel)) trivial trivial) (noA (by decide +kernel))
    · exact h _ (ask3 (ks "A" (by decide +kernel)) trivial trivial) (noA (by decide +kernel))
    · exact h _ (ask3 trivial trivial trivial) (noA rfl)
  · rcases hx with rfl | rfl | rfl | rfl | rfl
    · exact h _ (ask3 kn trivial trivial) (noB (by decide))
    · exact h _ (ask3 kn trivial trivial) (noC (decide_eq_false (by have := hz.1.2.2; show ¬ (0 ≤ 0 - 1 - j); have : 0 ≤ j := this; omega)))
    · exact h _ (ask3 kn trivial trivial) (noB rfl)
    · exact h _ (ask3 kn trivial trivial) (noC rfl)
    · exact h _ (ask3 kn (ks "0" (by decide +kernel)) trivial) (noB rfl)
  · rcases hx with rfl | rfl | rfl | rfl | rfl
    · exact h _ (ask3 kn trivial trivial) (noC rfl)
    · exact h _ (ask3 trivial kn trivial) (noA rfl)
    · exact h _ (ask3 (ks "abcdefghi" (by decide +kernel)) trivial trivial) (noA (by decide +kernel))
    · exact h _ (ask3 kn trivial trivial) (noB rfl)
    · exact h _ (ask1 trivial) rfl
  · rcases hx with rfl | rfl
    · exact h _ (ask3 (ks "a1" (by decide +kernel)) trivial trivial) (noA (by decide +kernel))
    · exact h _ (ask3 (ks "a b" (by decide +kernel)) trivial trivial) (noA (by decide +kernel))
theorem ok_l_more (T : Txt K mg) : FnOk P w K mg base (L2.CX P w) 19 T.a_l_more T.fd_l_more ["_law_made", "_law_value"] (toSp K (TB T) (p_or T)) := by
  have G_Spots_or : FnOk P w K mg base (L2.CX P w) 16 T.a_Spots_or T.fd_Spots_or ["self", "other"] (toSp K (TB T) (p_or T)) := ok_Spots_or T
  refine okDX (n := 1) T.F_l_more sc_l_more rfl (fun ds q e h => sp2_len ds q e h) (fun cdv A outer s H E hr => (dss_cons (ds_set (ps_set (i := 2) sc_l_more.nd rfl (.inl rfl) (d_var (pv 0))))
      (dss_cons (ds_aug (ps_aug (i := 2) sc_l_more.nd rfl (.inl rfl) (d_var (pv 1)) (ip_binU G_Spots_or T.b_Spots_or (passes_call (takes_of rfl rfl rfl rfl) (fun _ _ _ _ h => h)) (hr.mono (by decide)) T.sf_Spots T.ni_Spots ⟨T.m_Spots_or.1, T.m_Spots_or.2⟩ T.ro_Spots_or sign_or)) (f_binU T.is_Spots))
      (dss_one (ds_ret (d_var (pv 2))))))) ?_
  refine sp2_by fun a b q e ⟨us, ea, hu, l, h⟩ => ?_
  subst ea
  rcases h with ⟨zs, rfl, hz, lz, h⟩ | ⟨hb, h⟩
  · (dsimp only [xsSeq, xsNil, xsRet, xsRetN, xsDrop, xsSet, xsOwn, xsIf, xsFrz, xsApp, xsMany, xsAsg, xsAug, xsRaise, xsPut, xVar, xNow, xC, xList, xOp, xUn, xOpN, xNil, xCons, xStar, xSeqOf, xCB, xCBN, xIf, xAnd, xOr, xNot, xtAnd, xtOr, xtNot, xtVal, xtTru, truD, xChain, xTup, xLst, xCall, xCall0, xFld, xOwnF, xMeth, xMeth0, xProp, xMake, xMakeS, xCMeth, xSl, xoNone, xoSome, xJoin, xSm, xFmt, xJs, xRev, xnSl, fAdd, nAdd, fSub, fMul, fMod, fPow, fFdiv, fNeg, fCmpI, fEq, fNe, fEqNil, fNeNil, fIs, fIsnt, DL.isNon, noRaw, fIn, fNotIn, fIx, fSl, fLen, fAbs, fMax, fMin, fInt, fStr, nList, fTuple, fAll, fAny, fSum, fRepr, fIsi, fIsO, fEqO, fNeO, sideOk, fInO, fNotInO, fIxO, fIxO0, fUnO, fBinO, fBinO0, fLenO, fStrO, fBoolO, fBool, asBl, xgName, xgNil, xgCons, xgTup, startD, startI, endK, endI, getV, setV, setVs, xmNil, xmVal, xmOwn, noV, List.length_cons, List.length_nil, Bool.not_true, Bool.not_false, xLc, xiLst, xiTup, xiRng1, xiRng2, xiStr, xiEnum, xiZip, xsFor, xsWhile, xtYes, ifB_tt, ifB_ff, kB, isIntD, isBoolD, isStrD, isTupD, isLstD, isDctD, xlStep, wipeD, List.map, fBinU, xDct0]; try simp only [eq_self_iff_true, true_and, and_true])
    exact ⟨rfl, rfl, us, rfl, hu, l, .inl ⟨zs, rfl, hz, lz, fun ws hw => ⟨trivial, h ws hw⟩⟩⟩
  · cases b with
    | _ => first | exact hb.elim | ((dsimp only [xsSeq, xsNil, xsRet, xsRetN, xsDrop, xsSet, xsOwn, xsIf, xsFrz, xsApp, xsMany, xsAsg, xsAug, xsRaise, xsPut, xVar, xNow, xC, xList, xOp, xUn, xOpN, xNil, xCons, xStar, xSeqOf, xCB, xCBN, xIf, xAnd, xOr, xNot, xtAnd, xtOr, xtNot, xtVal, xtTru, truD, xChain, xTup, xLst, xCall, xCall0, xFld, xOwnF, xMeth, xMeth0, xProp, xMake, xMakeS, xCMeth, xSl, xoNone, xoSome, xJoin, xSm, xFmt, xJs, xRev, xnSl, fAdd, nAdd, fSub, fMul, fMod, fPow, fFdiv, fNeg, fCmpI, fEq, fNe, fEqNil, fNeNil, fIs, fIsnt, DL.isNon, noRaw, fIn, fNotIn, fIx, fSl, fLen, fAbs, fMax, fMin, fInt, fStr, nList, fTuple, fAll, fAny, fSum, fRepr, fIsi, fIsO, fEqO, fNeO, sideOk, fInO, fNotInO, fIxO, fIxO0, fUnO, fBinO, fBinO0, fLenO, fStrO, fBoolO, fBool, asBl, xgName, xgNil, xgCons, xgTup, startD, startI, endK, endI, getV, setV, setVs, xmNil, xmVal, xmOwn, noV, List.length_cons, List.length_nil, Bool.not_true, Bool.not_false, xLc, xiLst, xiTup, xiRng1, xiRng2, xiStr, xiEnum, xiZip, xsFor, xsWhile, xtYes, ifB_tt, ifB_ff, kB, isIntD, isBoolD, isStrD, isTupD, isLstD, isDctD, xlStep, wipeD, List.map, fBinU, xDct0]; try simp only [eq_self_iff_true, true_and, and_true]); exact ⟨rfl, us, rfl, hu, l, .inr ⟨trivial, h⟩⟩)
end
-- SPLIT
section
variable {P : Program} {w : World} {K : PySem.W.Frag} {mg : Str → Option Value} {base : Heap}
theorem met_spot (T : Txt K mg) {q : D → Prop} (hq : q (.str "spot")) : metD (MT T) ((ML_l_met T).map fun m => (m.1, cD m.2)) q (.ref T.c_InvalidSpot, []) := ⟨true, by simp [MT], hq⟩
theorem met_op (T : Txt K mg) {q : D → Prop} (hq : q (.str "operation")) : metD (MT T) ((ML_l_met T).map fun m => (m.1, cD m.2)) q (.ref T.c_InvalidOperation, []) := ⟨false, by simp [MT], true, by simp [MT], hq⟩
abbrev p_refused (T : Txt K mg) : DF := sp4 fun a b c d q _ => a = dice ∧ ∃ (us zs : List Spt) (z : Spt), b = spsD T us ∧ c = .lst (zs.map spD) ∧ d = spD z ∧ (∀ z ∈ us, spOk z) ∧ (∀ z ∈ zs, spOk z) ∧ spOk z ∧ us.length ≤ 5 ∧ zs.length ≤ 5 ∧ q (.bl true)
theorem ok_l_refused (T : Txt K mg) (tb : ∀ q ∈ TQ T, LamX.TabB base mg q.2.1 q.2.2) : FnG P w K mg base CX0 25 T.a_l_refused T.fd_l_refused ["_law_dice_here", "_law_made", "_law_spots", "_law_spot_here"] (toSp0 K (TB T) (p_refused T)) := by
  have G_l_pick : FnOk P w K mg base CX0 4 T.a_l_pick T.fd_l_pick ["_law_dice_here", "_law_items"] (toSp0 K (TB T) p_pick) := ok_l_pick T
  have G_l_odd_spot : FnOk P w K mg base CX0 7 T.a_l_odd_spot T.fd_l_odd_spot ["_law_dice_here", "_law_spot_here"] (toSp0 K (TB T) p_odd) := ok_l_odd_spot T
  have G_l_roll : FnOk P w K mg base CX0 1 T.a_l_roll T.fd_l_roll ["_law_dice_here", "_law_upto"] (toSp0 K (TB T) p_roll) := okd_roll T
  have G_Spots_str : FnOk P w K mg base CX0 4 T.a_Spots_str T.fd_Spots_str ["self"] (toSp0 K (TB T) (p_str T)) := ok_Spots_str T
  have G_Spots_or : FnOk P w K mg base (L2.CX P w) 16 T.a_Spots_or T.fd_Spots_or ["self", "other"] (toSp K (TB T) (p_or T)) := ok_Spots_or T
  have G_Spots_and : FnOk P w K mg base (L2.CX P w) 16 T.a_Spots_and T.fd_Spots_and ["self", "other"] (toSp K (TB T) (p_and T)) := ok_Spots_and T
  have G_Spots_sub : FnOk P w K mg base (L2.CX P w) 16 T.a_Spots_sub T.fd_Spots_sub ["self", "other"] (toSp K (TB T) (p_sub T)) := ok_Spots_sub T
  have G_Spots_contains : FnOk P w K mg base CX0 7 T.a_Spots_contains T.fd_Spots_contains ["self", "value"] (toSp0 K (TB T) (p_has T)) := ok_Spots_contains T
  have G_Spots_eq : FnOk P w K mg base CX0 13 T.a_Spots_eq T.fd_Spots_eq ["self", "other"] (toSp0 K (TB T) (p_eq T)) := ok_Spots_eq T
  have G_Spots_of : FnOk P w K mg base (L2.CX P w) 13 T.a_Spots_of T.fd_Spots_of ["cls", "spots"] (toSp K (TB T) (p_of T)) := ok_Spots_of T
  have G_Spots_init : FnA P w K mg base (L2.CX P w) 10 T.a_Spots_init (spStar K (TB T) T.c_Spots 0 (p_Spots T)) := ok_Spots_init T
  have G_Spots_within : FnOk P w K mg base (L2.CX P w) 16 T.a_Spots_within T.fd_Spots_within ["self", "other"] (toSp K (TB T) (p_within T)) := ok_Spots_within T
  have G_l_more : FnOk P w K mg base (L2.CX P w) 19 T.a_l_more T.fd_l_more ["_law_made", "_law_value"] (toSp K (TB T) (p_or T)) := ok_l_more T
  refine okDGC (n := 6) T.FC_l_refused sc_l_refused rfl (fun ds q e h => sp4_len ds q e h) (fun A outer s H E gu hr => (dss_cons (ds_parN (is := [4, 5]) (ps_asg (pe_tup (dm_val (d_call0 (pe_call G_l_odd_spot (hr.mono (by decide)) (by rfl) T.g_l_odd_spot T.F_l_odd_spot.kp T.b_l_odd_spot .nil pass0 (da_cons (d_var (pv 0)) (da_cons (d_var (pv 3)) da_nil)))) (dm_val (d_call0 (pe_call G_l_roll (hr.mono (by decide)) (by rfl) T.g_l_roll T.F_l_roll.kp T.b_l_roll .nil pass0 (da_cons (d_var (pv 0)) (da_cons (d_op o_add f_add (DE.s (d_callB (pe_callB call_len (by rfl) T.n_len (by decide +kernel) (das_cons (DE.s (d_var (pv 2))) das_nil)) f_len)) (DE.s d_int)) da_nil)))) dm_nil))) (pg_tup (by rfl) (pgs_cons (pg_name (i := 4) sc_l_refused.nd rfl (.inr rfl)) (pgs_cons (pg_name (i := 5) sc_l_refused.nd rfl (.inl rfl)) pgs_nil)))) (by decide))
      (dss_cons (ds_set (ps_set (i := 6) sc_l_refused.nd rfl (.inr rfl) (d_op o_add f_add (DE.s (d_op o_add f_add (DE.s (d_sl (DE.s (d_var (pv 2))) do_none (do_some (DE.s (d_var (pv 5)))))) (DN.s (d_lst (da_cons (d_var (pv 4)) da_nil))))) (DE.s (d_sl (DE.s (d_var (pv 2))) (do_some (DE.s (d_var (pv 5)))) do_none)))))
      (dss_cons (ds_own (ps_set (i := 7) sc_l_refused.nd rfl (.inl rfl) (d_lst (da_cons (d_met (k := 21) (tab := MT T) (l := ML_l_met T) (v0 := .str "none") T.F_l_met sc_l_met T.b_l_met (fun _ => met_l_met T) T.g_l_met (tb _ (tbq_l_refused T)) (tbm_l_refused T) (tbu_l_refused T) (hr.mono (by decide)) (mt_ok T) (fun A outer s H E f c' hr => (d_cmeth (ClX.pe_cmeth (pe_glob (v := .ref T.c_Spots) rfl T.g_Spots rfl) T.rd_Spots T.cm_Spots_of (G_Spots_of.raw T.b_Spots_of .nil) (hr.mono (by decide)) (passes_call (takes_of rfl rfl rfl rfl) (fun _ _ _ _ h => h)) (da_cons (d_callB (pe_callTy call_tuple_of (by rfl) T.n_tuple (by decide +kernel) (das_cons (DE.s (d_var (pv 6))) das_nil)) f_tuple) da_nil)) (fun vs H Q h => by first | (show _ ∧ _; first | exact h | (rw [List.append_nil]; exact h)) | (show toSp _ _ _ (vs ++ []) H Q _; rw [List.append_nil]; exact h)))) (L := LamX.lamS_by (sc := defScope s_l_refused) (by decide +kernel))) da_nil))))
      (dss_cons (ds_app (pv 7) (d_met (k := 21) (tab := MT T) (l := ML_l_met T) (v0 := .str "none") T.F_l_met sc_l_met T.b_l_met (fun _ => met_l_met T) T.g_l_met (tb _ (tbq_l_refused T)) (tbm_l_refused T) (tbu_l_refused T) (hr.mono (by decide)) (mt_ok T) (fun A outer s H E f c' hr => (d_makeA (pe_makeA (ks := []) (pe_glob (v := .ref T.c_Spots) rfl T.g_Spots rfl) T.M_Spots G_Spots_init (hr.mono (by decide)) (passes_call (takes_of rfl rfl rfl rfl) (fun _ _ _ _ h => h)) (da_cons (d_var (pv 4)) da_nil) pk_nil))) (L := LamX.lamS_by (sc := defScope s_l_refused) (by decide +kernel))) (fun _ _ h1 h2 => pe_bm PySem.F.plainAttrs_list PySem.F.slot_list_append PySem.F.type_list_append mt_append h1 h2))
      (dss_cons (ds_app (pv 7) (d_met (k := 21) (tab := MT T) (l := ML_l_met T) (v0 := .str "none") T.F_l_met sc_l_met T.b_l_met (fun _ => met_l_met T) T.g_l_met (tb _ (tbq_l_refused T)) (tbm_l_refused T) (tbu_l_refused T) (hr.mono (by decide)) (mt_ok T) (fun A outer s H E f c' hr => (d_makeA (pe_makeA (ks := []) (pe_glob (v := .ref T.c_Spots) rfl T.g_Spots rfl) T.M_Spots G_Spots_init (hr.mono (by decide)) (passes_call (takes_of rfl rfl rfl rfl) (fun _ _ _ _ h => h)) (da_cons (d_var (pv 3)) (da_cons (d_var (pv 4)) da_nil)) pk_nil))) (L := LamX.lamS_by (sc := defScope s_l_refused) (by decide +kernel))) (fun _ _ h1 h2 => pe_bm PySem.F.plainAttrs_list PySem.F.slot_list_append PySem.F.type_list_append mt_append h1 h2))
      (dss_cons (ds_set (ps_set (i := 8) sc_l_refused.nd rfl (.inr rfl) (d_call0 (pe_call G_l_pick (hr.mono (by decide)) (by rfl) T.g_l_pick T.F_l_pick.kp T.b_l_pick .nil pass0 (da_cons (d_var (pv 0)) (da_cons (DN.e (d_lst (da_cons d_non (da_cons (DN.e (d_callN (pe_callTy call_list_of (by rfl) T.n_list (by decide +kernel) (das_cons (DE.s (d_var (pv 2))) das_nil)) n_list)) (da_cons (d_op o_add f_add (DE.s (d_var (pv 3))) (DE.s (d_tup (da_cons d_int da_nil)))) (da_cons d_str (da_cons d_int (da_cons d_dct0 (da_cons (d_var (pv 1)) da_nil))))))))) da_nil))))))
      (dss_cons (ds_app (pv 7) (d_met (k := 21) (tab := MT T) (l := ML_l_met T) (v0 := .str "none") T.F_l_met sc_l_met T.b_l_met (fun _ => met_l_met T) T.g_l_met (tb _ (tbq_l_refused T)) (tbm_l_refused T) (tbu_l_refused T) (hr.mono (by decide)) (mt_ok T) (fun A outer s H E f c' hr => (d_cmeth (ClX.pe_cmeth (pe_glob (v := .ref T.c_Spots) rfl T.g_Spots rfl) T.rd_Spots T.cm_Spots_of (G_Spots_of.raw T.b_Spots_of .nil) (hr.mono (by decide)) (passes_call (takes_of rfl rfl rfl rfl) (fun _ _ _ _ h => h)) (da_cons (d_var (pv 8)) da_nil)) (fun vs H Q h => by first | (show _ ∧ _; first | exact h | (rw [List.append_nil]; exact h)) | (show toSp _ _ _ (vs ++ []) H Q _; rw [List.append_nil]; exact h)))) (L := LamX.lamS_by (sc := defScope s_l_refused) (by decide +kernel))) (fun _ _ h1 h2 => pe_bm PySem.F.plainAttrs_list PySem.F.slot_list_append PySem.F.type_list_append mt_append h1 h2))
      (dss_cons (ds_set (ps_set (i := 9) sc_l_refused.nd rfl (.inr rfl) (d_call0 (pe_call G_l_pick (hr.mono (by decide)) (by rfl) T.g_l_pick T.F_l_pick.kp T.b_l_pick .nil pass0 (da_cons (d_var (pv 0)) (da_cons (DN.e (d_lst (da_cons d_non (da_cons (d_callB (pe_callTy call_tuple_of (by rfl) T.n_tuple (by decide +kernel) (das_cons (DE.s (d_var (pv 2))) das_nil)) f_tuple) (da_cons (DN.e (d_callN (pe_callTy call_list_of (by rfl) T.n_list (by decide +kernel) (das_cons (DE.s (d_var (pv 2))) das_nil)) n_list)) (da_cons (d_var (pv 3)) (da_cons (d_callE (pe_callTy (call_strO G_Spots_str T.b_Spots_str pass0 (hr.mono (by decide)) ⟨T.m_Spots_str.1, T.m_Spots_str.2⟩) (by rfl) T.n_str (by decide +kernel) (da_cons (d_var (pv 1)) da_nil)) f_strO) (da_cons d_int (da_cons d_bl (da_cons d_dct0 da_nil)))))))))) da_nil))))))
      (dss_cons (ds_app (pv 7) (d_met (k := 21) (tab := MT T) (l := ML_l_met T) (v0 := .str "none") T.F_l_met sc_l_met T.b_l_met (fun _ => met_l_met T) T.g_l_met (tb _ (tbq_l_refused T)) (tbm_l_refused T) (tbu_l_refused T) (hr.mono (by decide)) (mt_ok T) (fun A outer s H E f c' hr => (d_opE (op_binU G_Spots_or T.b_Spots_or (passes_call (takes_of rfl rfl rfl rfl) (fun _ _ _ _ h => h)) (hr.mono (by decide)) T.sf_Spots ⟨T.m_Spots_or.1, T.m_Spots_or.2⟩ T.ro_Spots_or sign_or) (f_binU T.is_Spots) (d_var (pv 1)) (d_var (pv 9)))) (L := LamX.lamS_by (sc := defScope s_l_refused) (by decide +kernel))) (fun _ _ h1 h2 => pe_bm PySem.F.plainAttrs_list PySem.F.slot_list_append PySem.F.type_list_append mt_append h1 h2))
      (dss_cons (ds_app (pv 7) (d_met (k := 21) (tab := MT T) (l := ML_l_met T) (v0 := .str "none") T.F_l_met sc_l_met T.b_l_met (fun _ => met_l_met T) T.g_l_met (tb _ (tbq_l_refused T)) (tbm_l_refused T) (tbu_l_refused T) (hr.mono (by decide)) (mt_ok T) (fun A outer s H E f c' hr => (d_opE (op_binU G_Spots_and T.b_Spots_and (passes_call (takes_of rfl rfl rfl rfl) (fun _ _ _ _ h => h)) (hr.mono (by decide)) T.sf_Spots ⟨T.m_Spots_and.1, T.m_Spots_and.2⟩ T.ro_Spots_and sign_and) (f_binU T.is_Spots) (d_var (pv 1)) (d_var (pv 9)))) (L := LamX.lamS_by (sc := defScope s_l_refused) (by decide +kernel))) (fun _ _ h1 h2 => pe_bm PySem.F.plainAttrs_list PySem.F.slot_list_append PySem.F.type_list_append mt_append h1 h2))
      (dss_cons (ds_app (pv 7) (d_met (k := 21) (tab := MT T) (l := ML_l_met T) (v0 := .str "none") T.F_l_met sc_l_met T.b_l_met (fun _ => met_l_met T) T.g_l_met (tb _ (tbq_l_refused T)) (tbm_l_refused T) (tbu_l_refused T) (hr.mono (by decide)) (mt_ok T) (fun A outer s H E f c' hr => (d_opE (op_binU G_Spots_sub T.b_Spots_sub (passes_call (takes_of rfl rfl rfl rfl) (fun _ _ _ _ h => h)) (hr.mono (by decide)) T.sf_Spots ⟨T.m_Spots_sub.1, T.m_Spots_sub.2⟩ T.ro_Spots_sub sign_sub) (f_binU T.is_Spots) (d_var (pv 1)) (d_var (pv 9)))) (L := LamX.lamS_by (sc := defScope s_l_refused) (by decide +kernel))) (fun _ _ h1 h2 => pe_bm PySem.F.plainAttrs_list PySem.F.slot_list_append PySem.F.type_list_append mt_append h1 h2))
      (dss_cons (ds_app (pv 7) (d_met (k := 21) (tab := MT T) (l := ML_l_met T) (v0 := .str "none") T.F_l_met sc_l_met T.b_l_met (fun _ => met_l_met T) T.g_l_met (tb _ (tbq_l_refused T)) (tbm_l_refused T) (tbu_l_refused T) (hr.mono (by decide)) (mt_ok T) (fun A outer s H E f c' hr => (d_meth (pe_meth (d_var (pv 1)) T.cl_Spots T.m_Spots_within G_Spots_within (hr.mono (by decide)) T.b_Spots_within .nil (passes_call (takes_of rfl rfl rfl rfl) (fun _ _ _ _ h => h)) (da_cons (d_var (pv 9)) da_nil)))) (L := LamX.lamS_by (sc := defScope s_l_refused) (by decide +kernel))) (fun _ _ h1 h2 => pe_bm PySem.F.plainAttrs_list PySem.F.slot_list_append PySem.F.type_list_append mt_append h1 h2))
      (dss_cons (ds_app (pv 7) (d_met (k := 21) (tab := MT T) (l := ML_l_met T) (v0 := .str "none") T.F_l_met sc_l_met T.b_l_met (fun _ => met_l_met T) T.g_l_met (tb _ (tbq_l_refused T)) (tbm_l_refused T) (tbu_l_refused T) (hr.mono (by decide)) (mt_ok T) (fun A outer s H E f c' hr => (d_call (pe_call G_l_more (hr.mono (by decide)) (by rfl) T.g_l_more T.F_l_more.kp T.b_l_more .nil (passes_call (takes_of rfl rfl rfl rfl) (fun _ _ _ _ h => h)) (da_cons (d_var (pv 1)) (da_cons (d_var (pv 9)) da_nil))))) (L := LamX.lamS_by (sc := defScope s_l_refused) (by decide +kernel))) (fun _ _ h1 h2 => pe_bm PySem.F.plainAttrs_list PySem.F.slot_list_append PySem.F.type_list_append mt_append h1 h2))
      (dss_cons (ds_if (dt_cmp (show OpR _ (compareOp .NotEq) (rNeU K) from o_ne hr.units) f_ne (d_now (pv 7)) (DE.s (d_op o_add f_add (DE.s (d_op o_mul f_mul (DN.s (d_lst (da_cons d_str da_nil))) (DE.s d_int))) (DE.s (d_op o_mul f_mul (DN.s (d_lst (da_cons d_str da_nil))) (DE.s d_int))))) (nomark _)) (dss_one (ds_ret d_bl)) dss_nil)
      (dss_one (ds_ret (d_cmp (show OpR _ (compareOp .Eq) (rEqU K) from o_eq hr.units) f_eq (DE.s (d_callB (pe_callB (show CallR _ (.builtin "repr") (rRepr K) from call_reprD (by exact gu) hr.units) (by rfl) T.n_repr (by decide +kernel) (das_cons (DN.s (d_lst (da_cons (d_cmpE (op_inO G_Spots_contains T.b_Spots_contains pass0 (hr.mono (by decide)) ⟨T.m_Spots_contains.1, T.m_Spots_contains.2⟩) f_inO (d_var (pv 4)) (d_var (pv 1)) (by rfl)) (da_cons (d_cmpE (op_eqO G_Spots_eq (hr.mono (by decide)) T.eq_Spots T.b_Spots_eq pass0) (f_eqO (cs := [])  T.is_Spots (fun n hn => (T.fo_Spots n hn).2)  (fun B m => (List.not_mem_nil m).elim)) (d_var (pv 1)) (d_var (pv 9)) (nomark _)) (da_cons (d_cmpE (op_neO G_Spots_eq (hr.mono (by decide)) T.eq_Spots T.b_Spots_eq pass0) (f_neO (cs := [])  T.is_Spots (fun n hn => (T.fo_Spots n hn).2)  (fun B m => (List.not_mem_nil m).elim)) (d_var (pv 1)) (d_var (pv 9)) (nomark _)) da_nil))))) das_nil)) f_repr)) (DE.s (d_callB (pe_callB (show CallR _ (.builtin "repr") (rRepr K) from call_reprD (by exact gu) hr.units) (by rfl) T.n_repr (by decide +kernel) (das_cons (DN.s (d_lst (da_cons d_bl (da_cons d_bl (da_cons d_bl da_nil))))) das_nil)) f_repr)) (nomark _))))))))))))))))))) ?_
  refine sp4_by0 fun a b c d q ⟨ea, us, zs, z, eb, ec, ed, hu, hz, hx, l1, l2, h⟩ => ?_
  subst ea
  subst eb
  subst ec
  subst ed
  (dsimp only [xsSeq, xsNil, xsRet, xsRetN, xsDrop, xsSet, xsOwn, xsIf, xsFrz, xsApp, xsMany, xsAsg, xsAug, xsRaise, xsPut, xVar, xNow, xC, xList, xOp, xUn, xOpN, xNil, xCons, xStar, xSeqOf, xCB, xCBN, xIf, xAnd, xOr, xNot, xtAnd, xtOr, xtNot, xtVal, xtTru, truD, xChain, xTup, xLst, xCall, xCall0, xFld, xOwnF, xMeth, xMeth0, xProp, xMake, xMakeS, xCMeth, xSl, xoNone, xoSome, xJoin, xSm, xFmt, xJs, xRev, xnSl, fAdd, nAdd, fSub, fMul, fMod, fPow, fFdiv, fNeg, fCmpI, fEq, fNe, fEqNil, fNeNil, fIs, fIsnt, DL.isNon, noRaw, fIn, fNotIn, fIx, fSl, fLen, fAbs, fMax, fMin, fInt, fStr, nList, fTuple, fAll, fAny, fSum, fRepr, fIsi, fIsO, fEqO, fNeO, sideOk, fInO, fNotInO, fIxO, fIxO0, fUnO, fBinO, fBinO0, fLenO, fStrO, fBoolO, fBool, asBl, xgName, xgNil, xgCons, xgTup, startD, startI, endK, endI, getV, setV, setVs, xmNil, xmVal, xmOwn, noV, List.length_cons, List.length_nil, Bool.not_true, Bool.not_false, xLc, xiLst, xiTup, xiRng1, xiRng2, xiStr, xiEnum, xiZip, xsFor, xsWhile, xtYes, ifB_tt, ifB_ff, kB, isIntD, isBoolD, isStrD, isTupD, isLstD, isDctD, xlStep, wipeD, List.map, fBinU, xDct0]; try simp only [eq_self_iff_true, true_and, and_true])
  have ho : ∀ z ∈ us, okS z := fun z m => (hu z m).1
  refine ⟨rfl, z, rfl, hx, fun x ax nx => ⟨_, rfl, rfl, by omega, small_i (by omega) (by rw [List.length_map]; omega), fun r r0 r1 => ?_⟩⟩
  obtain ⟨r, rfl⟩ := Int.eq_ofNat_of_zero_le r0
  dsimp only
  rw [cutD_take, cutD_drop]
  generalize eb : (zs.map spD).take r ++ [x] ++ (zs.map spD).drop r = bent
  have lb : bent.length = zs.length + 1 := by
    rw [← eb]
    simp only [List.length_append, List.length_take, List.length_drop, List.length_map, List.length_cons, List.length_nil]
    omega
  have mb : x ∈ bent := by
    rw [← eb]
    simp
  have ab : ∀ y ∈ bent, askOk y := fun y hy => by
    rw [← eb, List.mem_append, List.mem_append] at hy
    have sp : y ∈ zs.map spD → askOk y := fun m => by
      obtain ⟨u, mu, rfl⟩ := List.mem_map.mp m
      exact askOk_sp (hz u mu).1
    rcases hy with (hy | hy) | hy
    · exact sp (List.mem_of_mem_take hy)
    · rw [List.mem_singleton.mp hy]
      exact ax
    · exact sp (List.mem_of_mem_drop hy)
  refine ⟨fit_of (by decide), fit_of (by simp only [List.length_append, List.length_take, List.length_map, List.length_cons, List.length_nil]; omega), ?_⟩
  refine ⟨fit_of (by simp only [List.length_append, List.length_take, List.length_drop, List.length_map, List.length_cons, List.length_nil]; omega), met_step (.str "spot") ?_ fun q' hq => ?_⟩
  rotate_left
  · (dsimp only [xsSeq, xsNil, xsRet, xsRetN, xsDrop, xsSet, xsOwn, xsIf, xsFrz, xsApp, xsMany, xsAsg, xsAug, xsRaise, xsPut, xVar, xNow, xC, xList, xOp, xUn, xOpN, xNil, xCons, xStar, xSeqOf, xCB, xCBN, xIf, xAnd, xOr, xNot, xtAnd, xtOr, xtNot, xtVal, xtTru, truD, xChain, xTup, xLst, xCall, xCall0, xFld, xOwnF, xMeth, xMeth0, xProp, xMake, xMakeS, xCMeth, xSl, xoNone, xoSome, xJoin, xSm, xFmt, xJs, xRev, xnSl, fAdd, nAdd, fSub, fMul, fMod, fPow, fFdiv, fNeg, fCmpI, fEq, fNe, fEqNil, fNeNil, fIs, fIsnt, DL.isNon, noRaw, fIn, fNotIn, fIx, fSl, fLen, fAbs, fMax, fMin, fInt, fStr, nList, fTuple, fAll, fAny, fSum, fRepr, fIsi, fIsO, fEqO, fNeO, sideOk, fInO, fNotInO, fIxO, fIxO0, fUnO, fBinO, fBinO0, fLenO, fStrO, fBoolO, fBool, asBl, xgName, xgNil, xgCons, xgTup, startD, startI, endK, endI, getV, setV, setVs, xmNil, xmVal, xmOwn, noV, List.length_cons, List.length_nil, Bool.not_true, Bool.not_false, xLc, xiLst, xiTup, xiRng1, xiRng2, xiStr, xiEnum, xiZip, xsFor, xsWhile, xtYes, ifB_tt, ifB_ff, kB, isIntD, isBoolD, isStrD, isTupD, isLstD, isDctD, xlStep, wipeD, List.map, fBinU, xDct0]; try simp only [eq_self_iff_true, true_and, and_true])
    exact ⟨rfl, .inl ⟨bent, rfl, ask_bad T ab (by omega) mb nx (met_spot T hq)⟩⟩
  refine ⟨fit_of (by decide), met_step (.str "spot") ?_ fun q' hq => ?_⟩
  rotate_left
  · (dsimp only [xsSeq, xsNil, xsRet, xsRetN, xsDrop, xsSet, xsOwn, xsIf, xsFrz, xsApp, xsMany, xsAsg, xsAug, xsRaise, xsPut, xVar, xNow, xC, xList, xOp, xUn, xOpN, xNil, xCons, xStar, xSeqOf, xCB, xCBN, xIf, xAnd, xOr, xNot, xtAnd, xtOr, xtNot, xtVal, xtTru, truD, xChain, xTup, xLst, xCall, xCall0, xFld, xOwnF, xMeth, xMeth0, xProp, xMake, xMakeS, xCMeth, xSl, xoNone, xoSome, xJoin, xSm, xFmt, xJs, xRev, xnSl, fAdd, nAdd, fSub, fMul, fMod, fPow, fFdiv, fNeg, fCmpI, fEq, fNe, fEqNil, fNeNil, fIs, fIsnt, DL.isNon, noRaw, fIn, fNotIn, fIx, fSl, fLen, fAbs, fMax, fMin, fInt, fStr, nList, fTuple, fAll, fAny, fSum, fRepr, fIsi, fIsO, fEqO, fNeO, sideOk, fInO, fNotInO, fIxO, fIxO0, fUnO, fBinO, fBinO0, fLenO, fStrO, fBoolO, fBool, asBl, xgName, xgNil, xgCons, xgTup, startD, startI, endK, endI, getV, setV, setVs, xmNil, xmVal, xmOwn, noV, List.length_cons, List.length_nil, Bool.not_true, Bool.not_false, xLc, xiLst, xiTup, xiRng1, xiRng2, xiStr, xiEnum, xiZip, xsFor, xsWhile, xtYes, ifB_tt, ifB_ff, kB, isIntD, isBoolD, isStrD, isTupD, isLstD, isDctD, xlStep, wipeD, List.map, fBinU, xDct0]; try simp only [eq_self_iff_true, true_and, and_true])
    exact ⟨Nat.zero_le _, fit_of (by simp), _, rfl, .inr (ask_bad T (fun y hy => by rw [List.mem_singleton.mp hy]; exact ax) (by simp) (List.mem_singleton.mpr rfl) nx (met_spot T hq))⟩
  refine ⟨fit_of (by decide), met_step (.str "spot") ?_ fun q' hq => ?_⟩
  rotate_left
  · (dsimp only [xsSeq, xsNil, xsRet, xsRetN, xsDrop, xsSet, xsOwn, xsIf, xsFrz, xsApp, xsMany, xsAsg, xsAug, xsRaise, xsPut, xVar, xNow, xC, xList, xOp, xUn, xOpN, xNil, xCons, xStar, xSeqOf, xCB, xCBN, xIf, xAnd, xOr, xNot, xtAnd, xtOr, xtNot, xtVal, xtTru, truD, xChain, xTup, xLst, xCall, xCall0, xFld, xOwnF, xMeth, xMeth0, xProp, xMake, xMakeS, xCMeth, xSl, xoNone, xoSome, xJoin, xSm, xFmt, xJs, xRev, xnSl, fAdd, nAdd, fSub, fMul, fMod, fPow, fFdiv, fNeg, fCmpI, fEq, fNe, fEqNil, fNeNil, fIs, fIsnt, DL.isNon, noRaw, fIn, fNotIn, fIx, fSl, fLen, fAbs, fMax, fMin, fInt, fStr, nList, fTuple, fAll, fAny, fSum, fRepr, fIsi, fIsO, fEqO, fNeO, sideOk, fInO, fNotInO, fIxO, fIxO0, fUnO, fBinO, fBinO0, fLenO, fStrO, fBoolO, fBool, asBl, xgName, xgNil, xgCons, xgTup, startD, startI, endK, endI, getV, setV, setVs, xmNil, xmVal, xmOwn, noV, List.length_cons, List.length_nil, Bool.not_true, Bool.not_false, xLc, xiLst, xiTup, xiRng1, xiRng2, xiStr, xiEnum, xiZip, xsFor, xsWhile, xtYes, ifB_tt, ifB_ff, kB, isIntD, isBoolD, isStrD, isTupD, isLstD, isDctD, xlStep, wipeD, List.map, fBinU, xDct0]; try simp only [eq_self_iff_true, true_and, and_true])
    refine ⟨Nat.zero_le _, fit_of (by simp), _, rfl, .inr (ask_bad T (x := x) (fun y hy => ?_) (by simp) (by simp) nx (met_spot T hq))⟩
    simp only [List.drop_zero, List.mem_cons, List.not_mem_nil, or_false] at hy
    rcases hy with rfl | rfl
    · exact askOk_sp hx.1
    · exact ax
  -- no tuple of spots
  refine ⟨fit_of (by simp), fit_of (by decide), ?_⟩
  show fit _ ∧ _
  refine ⟨fit_of (by show 4 ≤ 100000; decide), fit_of (by decide), rfl, .inl ⟨_, .inl rfl, by simp, by simp, fun bad hb => met_step (.str "spot") ?_ fun q' hq => ?_⟩⟩
  rotate_left
  · (dsimp only [xsSeq, xsNil, xsRet, xsRetN, xsDrop, xsSet, xsOwn, xsIf, xsFrz, xsApp, xsMany, xsAsg, xsAug, xsRaise, xsPut, xVar, xNow, xC, xList, xOp, xUn, xOpN, xNil, xCons, xStar, xSeqOf, xCB, xCBN, xIf, xAnd, xOr, xNot, xtAnd, xtOr, xtNot, xtVal, xtTru, truD, xChain, xTup, xLst, xCall, xCall0, xFld, xOwnF, xMeth, xMeth0, xProp, xMake, xMakeS, xCMeth, xSl, xoNone, xoSome, xJoin, xSm, xFmt, xJs, xRev, xnSl, fAdd, nAdd, fSub, fMul, fMod, fPow, fFdiv, fNeg, fCmpI, fEq, fNe, fEqNil, fNeNil, fIs, fIsnt, DL.isNon, noRaw, fIn, fNotIn, fIx, fSl, fLen, fAbs, fMax, fMin, fInt, fStr, nList, fTuple, fAll, fAny, fSum, fRepr, fIsi, fIsO, fEqO, fNeO, sideOk, fInO, fNotInO, fIxO, fIxO0, fUnO, fBinO, fBinO0, fLenO, fStrO, fBoolO, fBool, asBl, xgName, xgNil, xgCons, xgTup, startD, startI, endK, endI, getV, setV, setVs, xmNil, xmVal, xmOwn, noV, List.length_cons, List.length_nil, Bool.not_true, Bool.not_false, xLc, xiLst, xiTup, xiRng1, xiRng2, xiStr, xiEnum, xiZip, xsFor, xsWhile, xtYes, ifB_tt, ifB_ff, kB, isIntD, isBoolD, isStrD, isTupD, isLstD, isDctD, xlStep, wipeD, List.map, fBinU, xDct0]; try simp only [eq_self_iff_true, true_and, and_true])
    simp only [List.mem_cons, List.not_mem_nil, or_false] at hb
    rcases hb with rfl | rfl | rfl | rfl | rfl | rfl | rfl
    · exact ⟨rfl, .inr ⟨.inl trivial, fun xs e => (by first | cases e | (unfold spsD at e; cases e)), met_spot T hq⟩⟩
    · exact ⟨rfl, .inr ⟨.inl trivial, fun xs e => (by first | cases e | (unfold spsD at e; cases e)), met_spot T hq⟩⟩
    · refine ⟨rfl, .inl ⟨_, rfl, ask_bad T (x := .str z.nm) (fun y hy => ?_) (by show 4 < 64; decide) (List.mem_cons_self ..) rfl (met_spot T hq)⟩⟩
      simp only [spL, List.cons_append, List.nil_append, List.mem_cons, List.not_mem_nil, or_false] at hy
      rcases hy with rfl | rfl | rfl | rfl <;> trivial
    · exact ⟨rfl, .inr ⟨.inl trivial, fun xs e => (by first | cases e | (unfold spsD at e; cases e)), met_spot T hq⟩⟩
    · exact ⟨rfl, .inr ⟨.inl trivial, fun xs e => (by first | cases e | (unfold spsD at e; cases e)), met_spot T hq⟩⟩
    · exact ⟨rfl, .inr ⟨.inl trivial, fun xs e => (by first | cases e | (unfold spsD at e; cases e)), met_spot T hq⟩⟩
    · exact ⟨rfl, .inr ⟨.inr ⟨us, rfl⟩, fun xs e => (by first | cases e | (unfold spsD at e; cases e)), met_spot T hq⟩⟩
  refine ⟨fit_of (by simp), rfl, us, rfl, hu, by omega, fit_of (by decide), rfl, .inl ⟨_, .inl rfl, by simp, by simp, fun off hf => ?_⟩⟩
  have kb : kB off := by
    simp only [List.mem_cons, List.not_mem_nil, or_false] at hf
    rcases hf with rfl | rfl | rfl | rfl | rfl | rfl | rfl | rfl <;> trivial
  refine met_step (.str "operation") ?_ fun q' hq => ?_
  rotate_left
  · (dsimp only [xsSeq, xsNil, xsRet, xsRetN, xsDrop, xsSet, xsOwn, xsIf, xsFrz, xsApp, xsMany, xsAsg, xsAug, xsRaise, xsPut, xVar, xNow, xC, xList, xOp, xUn, xOpN, xNil, xCons, xStar, xSeqOf, xCB, xCBN, xIf, xAnd, xOr, xNot, xtAnd, xtOr, xtNot, xtVal, xtTru, truD, xChain, xTup, xLst, xCall, xCall0, xFld, xOwnF, xMeth, xMeth0, xProp, xMake, xMakeS, xCMeth, xSl, xoNone, xoSome, xJoin, xSm, xFmt, xJs, xRev, xnSl, fAdd, nAdd, fSub, fMul, fMod, fPow, fFdiv, fNeg, fCmpI, fEq, fNe, fEqNil, fNeNil, fIs, fIsnt, DL.isNon, noRaw, fIn, fNotIn, fIx, fSl, fLen, fAbs, fMax, fMin, fInt, fStr, nList, fTuple, fAll, fAny, fSum, fRepr, fIsi, fIsO, fEqO, fNeO, sideOk, fInO, fNotInO, fIxO, fIxO0, fUnO, fBinO, fBinO0, fLenO, fStrO, fBoolO, fBool, asBl, xgName, xgNil, xgCons, xgTup, startD, startI, endK, endI, getV, setV, setVs, xmNil, xmVal, xmOwn, noV, List.length_cons, List.length_nil, Bool.not_true, Bool.not_false, xLc, xiLst, xiTup, xiRng1, xiRng2, xiStr, xiEnum, xiZip, xsFor, xsWhile, xtYes, ifB_tt, ifB_ff, kB, isIntD, isBoolD, isStrD, isTupD, isLstD, isDctD, xlStep, wipeD, List.map, fBinU, xDct0]; try simp only [eq_self_iff_true, true_and, and_true])
    exact ⟨rfl, off_kB _ kb, us, rfl, ho, by omega, .inr ⟨kb, met_op T hq⟩⟩
  refine ⟨fit_of (by simp), met_step (.str "operation") ?_ fun q' hq => ?_⟩
  rotate_left
  · (dsimp only [xsSeq, xsNil, xsRet, xsRetN, xsDrop, xsSet, xsOwn, xsIf, xsFrz, xsApp, xsMany, xsAsg, xsAug, xsRaise, xsPut, xVar, xNow, xC, xList, xOp, xUn, xOpN, xNil, xCons, xStar, xSeqOf, xCB, xCBN, xIf, xAnd, xOr, xNot, xtAnd, xtOr, xtNot, xtVal, xtTru, truD, xChain, xTup, xLst, xCall, xCall0, xFld, xOwnF, xMeth, xMeth0, xProp, xMake, xMakeS, xCMeth, xSl, xoNone, xoSome, xJoin, xSm, xFmt, xJs, xRev, xnSl, fAdd, nAdd, fSub, fMul, fMod, fPow, fFdiv, fNeg, fCmpI, fEq, fNe, fEqNil, fNeNil, fIs, fIsnt, DL.isNon, noRaw, fIn, fNotIn, fIx, fSl, fLen, fAbs, fMax, fMin, fInt, fStr, nList, fTuple, fAll, fAny, fSum, fRepr, fIsi, fIsO, fEqO, fNeO, sideOk, fInO, fNotInO, fIxO, fIxO0, fUnO, fBinO, fBinO0, fLenO, fStrO, fBoolO, fBool, asBl, xgName, xgNil, xgCons, xgTup, startD, startI, endK, endI, getV, setV, setVs, xmNil, xmVal, xmOwn, noV, List.length_cons, List.length_nil, Bool.not_true, Bool.not_false, xLc, xiLst, xiTup, xiRng1, xiRng2, xiStr, xiEnum, xiZip, xsFor, xsWhile, xtYes, ifB_tt, ifB_ff, kB, isIntD, isBoolD, isStrD, isTupD, isLstD, isDctD, xlStep, wipeD, List.map, fBinU, xDct0]; try simp only [eq_self_iff_true, true_and, and_true])
    exact ⟨rfl, off_kB _ kb, us, rfl, ho, by omega, .inr ⟨kb, met_op T hq⟩⟩
  refine ⟨fit_of (by simp), met_step (.str "operation") ?_ fun q' hq => ?_⟩
  rotate_left
  · (dsimp only [xsSeq, xsNil, xsRet, xsRetN, xsDrop, xsSet, xsOwn, xsIf, xsFrz, xsApp, xsMany, xsAsg, xsAug, xsRaise, xsPut, xVar, xNow, xC, xList, xOp, xUn, xOpN, xNil, xCons, xStar, xSeqOf, xCB, xCBN, xIf, xAnd, xOr, xNot, xtAnd, xtOr, xtNot, xtVal, xtTru, truD, xChain, xTup, xLst, xCall, xCall0, xFld, xOwnF, xMeth, xMeth0, xProp, xMake, xMakeS, xCMeth, xSl, xoNone, xoSome, xJoin, xSm, xFmt, xJs, xRev, xnSl, fAdd, nAdd, fSub, fMul, fMod, fPow, fFdiv, fNeg, fCmpI, fEq, fNe, fEqNil, fNeNil, fIs, fIsnt, DL.isNon, noRaw, fIn, fNotIn, fIx, fSl, fLen, fAbs, fMax, fMin, fInt, fStr, nList, fTuple, fAll, fAny, fSum, fRepr, fIsi, fIsO, fEqO, fNeO, sideOk, fInO, fNotInO, fIxO, fIxO0, fUnO, fBinO, fBinO0, fLenO, fStrO, fBoolO, fBool, asBl, xgName, xgNil, xgCons, xgTup, startD, startI, endK, endI, getV, setV, setVs, xmNil, xmVal, xmOwn, noV, List.length_cons, List.length_nil, Bool.not_true, Bool.not_false, xLc, xiLst, xiTup, xiRng1, xiRng2, xiStr, xiEnum, xiZip, xsFor, xsWhile, xtYes, ifB_tt, ifB_ff, kB, isIntD, isBoolD, isStrD, isTupD, isLstD, isDctD, xlStep, wipeD, List.map, fBinU, xDct0]; try simp only [eq_self_iff_true, true_and, and_true])
    exact ⟨rfl, off_kB _ kb, us, rfl, ho, by omega, .inr ⟨kb, met_op T hq⟩⟩
  refine ⟨fit_of (by simp), met_step (.str "operation") ?_ fun q' hq => ?_⟩
  rotate_left
  · (dsimp only [xsSeq, xsNil, xsRet, xsRetN, xsDrop, xsSet, xsOwn, xsIf, xsFrz, xsApp, xsMany, xsAsg, xsAug, xsRaise, xsPut, xVar, xNow, xC, xList, xOp, xUn, xOpN, xNil, xCons, xStar, xSeqOf, xCB, xCBN, xIf, xAnd, xOr, xNot, xtAnd, xtOr, xtNot, xtVal, xtTru, truD, xChain, xTup, xLst, xCall, xCall0, xFld, xOwnF, xMeth, xMeth0, xProp, xMake, xMakeS, xCMeth, xSl, xoNone, xoSome, xJoin, xSm, xFmt, xJs, xRev, xnSl, fAdd, nAdd, fSub, fMul, fMod, fPow, fFdiv, fNeg, fCmpI, fEq, fNe, fEqNil, fNeNil, fIs, fIsnt, DL.isNon, noRaw, fIn, fNotIn, fIx, fSl, fLen, fAbs, fMax, fMin, fInt, fStr, nList, fTuple, fAll, fAny, fSum, fRepr, fIsi, fIsO, fEqO, fNeO, sideOk, fInO, fNotInO, fIxO, fIxO0, fUnO, fBinO, fBinO0, fLenO, fStrO, fBoolO, fBool, asBl, xgName, xgNil, xgCons, xgTup, startD, startI, endK, endI, getV, setV, setVs, xmNil, xmVal, xmOwn, noV, List.length_cons, List.length_nil, Bool.not_true, Bool.not_false, xLc, xiLst, xiTup, xiRng1, xiRng2, xiStr, xiEnum, xiZip, xsFor, xsWhile, xtYes, ifB_tt, ifB_ff, kB, isIntD, isBoolD, isStrD, isTupD, isLstD, isDctD, xlStep, wipeD, List.map, fBinU, xDct0]; try simp only [eq_self_iff_true, true_and, and_true])
    exact ⟨rfl, rfl, us, rfl, ho, by omega, .inr ⟨kb, met_op T hq⟩⟩
  refine ⟨fit_of (by simp), met_step (.str "operation") ?_ fun q' hq => ?_⟩
  rotate_left
  · (dsimp only [xsSeq, xsNil, xsRet, xsRetN, xsDrop, xsSet, xsOwn, xsIf, xsFrz, xsApp, xsMany, xsAsg, xsAug, xsRaise, xsPut, xVar, xNow, xC, xList, xOp, xUn, xOpN, xNil, xCons, xStar, xSeqOf, xCB, xCBN, xIf, xAnd, xOr, xNot, xtAnd, xtOr, xtNot, xtVal, xtTru, truD, xChain, xTup, xLst, xCall, xCall0, xFld, xOwnF, xMeth, xMeth0, xProp, xMake, xMakeS, xCMeth, xSl, xoNone, xoSome, xJoin, xSm, xFmt, xJs, xRev, xnSl, fAdd, nAdd, fSub, fMul, fMod, fPow, fFdiv, fNeg, fCmpI, fEq, fNe, fEqNil, fNeNil, fIs, fIsnt, DL.isNon, noRaw, fIn, fNotIn, fIx, fSl, fLen, fAbs, fMax, fMin, fInt, fStr, nList, fTuple, fAll, fAny, fSum, fRepr, fIsi, fIsO, fEqO, fNeO, sideOk, fInO, fNotInO, fIxO, fIxO0, fUnO, fBinO, fBinO0, fLenO, fStrO, fBoolO, fBool, asBl, xgName, xgNil, xgCons, xgTup, startD, startI, endK, endI, getV, setV, setVs, xmNil, xmVal, xmOwn, noV, List.length_cons, List.length_nil, Bool.not_true, Bool.not_false, xLc, xiLst, xiTup, xiRng1, xiRng2, xiStr, xiEnum, xiZip, xsFor, xsWhile, xtYes, ifB_tt, ifB_ff, kB, isIntD, isBoolD, isStrD, isTupD, isLstD, isDctD, xlStep, wipeD, List.map, fBinU, xDct0]; try simp only [eq_self_iff_true, true_and, and_true])
    exact ⟨us, rfl, ho, by omega, .inr ⟨kb, met_op T hq⟩⟩
  clear G_l_pick G_l_odd_spot G_l_roll G_Spots_str G_Spots_or G_Spots_and G_Spots_sub G_Spots_contains G_Spots_eq G_Spots_of G_Spots_init G_Spots_within G_l_more
  have w9 : okD (.lst ((["spot", "spot", "spot", "spot", "operation", "operation", "operation", "operation", "operation"] : List Str).map D.str)) := plain_strs _ (by decide +kernel)
  have three : ∀ b1 b2 b3 : Bool, okShow (.lst [.bl b1, .bl b2, .bl b3]) := fun b1 b2 b3 => (shw_lst (shw_cons (shw_bl b1) (shw_cons (shw_bl b2) (shw_cons (shw_bl b3) shw_nil)))).ok (by decide) (by decide)
  refine ⟨fit_of (by simp), fit_of (by decide), ⟨by decide, by decide, fit_of (by decide)⟩, fit_of (by decide), ⟨by decide, by decide, fit_of (by decide)⟩, fit_of (by decide), w9, w9, ifB_no (fun e => absurd e (by decide +kernel)) fun _ => ⟨rfl, us, rfl, ax, ho, ?_⟩⟩
  rw [nx, Bool.false_and]
  refine ⟨rfl, side_kB _ kb, us, rfl, ho, .inr ⟨kb, rfl, side_kB _ kb, us, rfl, ho, .inr ⟨kb, fit_of (by decide), three _ _ _, fit_of (by decide), three _ _ _, ?_⟩⟩⟩
  rw [show (shownD (.lst [.bl false, .bl false, .bl (!false)]) == shownD (.lst [.bl false, .bl false, .bl true])) = true from beq_self_eq_true _]
  exact h
end
-- SPLIT
/-! ### one round of the law -/
section
variable {P : Program} {w : World} {K : PySem.W.Frag} {mg : Str → Option Value} {base : Heap}
abbrev p_right : DF := sp1 fun a q _ => a = dice ∧ q (.bl true)
theorem ok_l_right (T : Txt K mg) (tb : ∀ q ∈ TQ T, LamX.TabB base mg q.2.1 q.2.2) : FnG P w K mg base CX0 28 T.a_l_right T.fd_l_right ["_law_dice_here"] (toSp0 K (TB T) p_right) := by
  have G_l_spot : FnOk P w K mg base CX0 10 T.a_l_spot T.fd_l_spot ["_law_dice_here", "_law_words"] (toSp0 K (TB T) p_spot) := ok_l_spot T
  have G_l_word : FnOk P w K mg base CX0 4 T.a_l_word T.fd_l_word ["_law_dice_here"] (toSp0 K (TB T) p_word) := ok_l_word T
  have G_l_pick : FnOk P w K mg base CX0 4 T.a_l_pick T.fd_l_pick ["_law_dice_here", "_law_items"] (toSp0 K (TB T) p_pick) := ok_l_pick T
  have G_Spots_of : FnOk P w K mg base (L2.CX P w) 13 T.a_Spots_of T.fd_Spots_of ["cls", "spots"] (toSp K (TB T) (p_of T)) := ok_Spots_of T
  have G_l_one_by_one : FnOk P w K mg base (L2.CX P w) 16 T.a_l_one_by_one T.fd_l_one_by_one ["_law_spots"] (toSp K (TB T) (p_obo T)) := ok_l_one_by_one T
  have G_l_refused : FnG P w K mg base CX0 25 T.a_l_refused T.fd_l_refused ["_law_dice_here", "_law_made", "_law_spots", "_law_spot_here"] (toSp0 K (TB T) (p_refused T)) := ok_l_refused T tb
  have G_l_is_told : FnG P w K mg base CX0 16 T.a_l_is_told T.fd_l_is_told ["_law_found", "_law_spots"] (toSp0 K (TB T) (p_told T)) := ok_l_is_told T
  have G_Spots_init : FnA P w K mg base (L2.CX P w) 10 T.a_Spots_init (spStar K (TB T) T.c_Spots 0 (p_Spots T)) := ok_Spots_init T
  have G_l_signs_right : FnG P w K mg base CX0 19 T.a_l_signs_right T.fd_l_signs_right ["_law_one", "_law_two", "_law_first", "_law_second"] (toSp0 K (TB T) (p_signs T)) := ok_l_signs_right T
  have G_Spots_contains : FnOk P w K mg base CX0 7 T.a_Spots_contains T.fd_Spots_contains ["self", "value"] (toSp0 K (TB T) (p_has T)) := ok_Spots_contains T
  have G_l_roll : FnOk P w K mg base CX0 1 T.a_l_roll T.fd_l_roll ["_law_dice_here", "_law_upto"] (toSp0 K (TB T) p_roll) := okd_roll T
  refine okDG (n := 8) T.F_l_right sc_l_right rfl (fun ds q e h => sp1_len ds q e h) (fun cdv A outer s H E gu hr => (dss_cons (ds_set (ps_set (i := 1) sc_l_right.nd rfl (.inr rfl) (DN.e (d_lst (da_cons (d_call0 (pe_call G_l_word (hr.mono (by decide)) (by rfl) T.g_l_word T.F_l_word.kp T.b_l_word .nil pass0 (da_cons (d_var (pv 0)) da_nil))) (da_cons d_str (da_cons d_str (da_cons d_str (da_cons d_str da_nil)))))))))
      (dss_cons (ds_set (ps_set (i := 2) sc_l_right.nd rfl (.inr rfl) (DN.e (d_lc (pe_lc (own := [("_law_turn", 8)]) (g := (gName 8)) rfl sc_l_right.nd (dis_of (di_rng1 (pi_range1 (by rfl) T.n_range (das_cons (DE.s d_int) das_nil)))) (blkOk_by (N := ["_law_dice_here", "_law_words", "_law_some", "_law_first", "_law_second", "_law_one", "_law_two", "_law_spot_here", "_law_turn"]) (sc := defScope s_l_right) (by decide +kernel)) (fun _ _ _ _ _ => (pg_name (i := 8) sc_l_right.nd rfl (Or.inl rfl))) (fun _ _ _ _ _ => dts_nil) (fun _ _ _ _ _ => (d_call0 (pe_call G_l_spot (hr.mono (by decide)) (by rfl) T.g_l_spot T.F_l_spot.kp T.b_l_spot .nil pass0 (da_cons (d_var (pv 0)) (da_cons (d_var (pv 1)) da_nil)))))) (gd_name (by decide)))) (hs := sw_cell (show ((defScope s_l_right).names.lookup ("_law_some" : Str) == some NameKind.local) = false by decide +kernel))))
      (dss_cons (ds_setLc (ps_setLc (i := 3) (own := [("_law_turn", 8)]) (g := (gName 8)) rfl sc_l_right.nd rfl rfl (sw_true rfl rfl rfl (by decide +kernel)) (dis_of (di_rng1 (pi_range1 (by rfl) T.n_range (das_cons (DE.s (d_call0 (pe_call G_l_roll (hr.mono (by decide)) (by rfl) T.g_l_roll T.F_l_roll.kp T.b_l_roll .nil pass0 (da_cons (d_var (pv 0)) (da_cons d_int da_nil))))) das_nil)))) (blkOk_by (N := ["_law_dice_here", "_law_words", "_law_some", "_law_first", "_law_second", "_law_one", "_law_two", "_law_spot_here", "_law_turn"]) (sc := defScope s_l_right) (by decide +kernel)) (fun _ _ _ _ _ => (pg_name (i := 8) sc_l_right.nd rfl (Or.inl rfl))) (fun _ _ _ _ _ => dts_nil) (fun _ _ _ _ _ => (d_call0 (pe_call G_l_pick (hr.mono (by decide)) (by rfl) T.g_l_pick T.F_l_pick.kp T.b_l_pick .nil pass0 (da_cons (d_var (pv 0)) (da_cons (d_var (pv 2)) da_nil)))))) (gd_name (by decide)))
      (dss_cons (ds_setLc (ps_setLc (i := 4) (own := [("_law_turn", 8)]) (g := (gName 8)) rfl sc_l_right.nd rfl rfl (sw_true rfl rfl rfl (by decide +kernel)) (dis_of (di_rng1 (pi_range1 (by rfl) T.n_range (das_cons (DE.s (d_call0 (pe_call G_l_roll (hr.mono (by decide)) (by rfl) T.g_l_roll T.F_l_roll.kp T.b_l_roll .nil pass0 (da_cons (d_var (pv 0)) (da_cons d_int da_nil))))) das_nil)))) (blkOk_by (N := ["_law_dice_here", "_law_words", "_law_some", "_law_first", "_law_second", "_law_one", "_law_two", "_law_spot_here", "_law_turn"]) (sc := defScope s_l_right) (by decide +kernel)) (fun _ _ _ _ _ => (pg_name (i := 8) sc_l_right.nd rfl (Or.inl rfl))) (fun _ _ _ _ _ => dts_nil) (fun _ _ _ _ _ => (d_call0 (pe_call G_l_pick (hr.mono (by decide)) (by rfl) T.g_l_pick T.F_l_pick.kp T.b_l_pick .nil pass0 (da_cons (d_var (pv 0)) (da_cons (d_var (pv 2)) da_nil)))))) (gd_name (by decide)))
      (dss_cons (ds_par (ps_par (i := 5) (j := 6) rfl sc_l_right.nd rfl rfl (by decide) rfl rfl (dm_val (d_cmeth (ClX.pe_cmeth (pe_glob (v := .ref T.c_Spots) rfl T.g_Spots rfl) T.rd_Spots T.cm_Spots_of (G_Spots_of.raw T.b_Spots_of .nil) (hr.mono (by decide)) passL (da_cons (d_callB (pe_callTy call_tuple_of (by rfl) T.n_tuple (by decide +kernel) (das_cons (DE.s (d_var (pv 3))) das_nil)) f_tuple) da_nil)) (fun vs H Q h => by first | (show _ ∧ _; first | exact h | (rw [List.append_nil]; exact h)) | (show toSp _ _ _ (vs ++ []) H Q _; rw [List.append_nil]; exact h))) (dm_val (d_call (pe_call G_l_one_by_one (hr.mono (by decide)) (by rfl) T.g_l_one_by_one T.F_l_one_by_one.kp T.b_l_one_by_one .nil passL (da_cons (d_var (pv 4)) da_nil))) dm_nil)) (by rfl)))
      (dss_cons (ds_if (PW.pt (dw_or (dt_not (dt_val (DE.s (d_call0 (pe_callG G_l_is_told (by exact gu) (hr.mono (by decide)) (by rfl) T.g_l_is_told T.F_l_is_told.kp T.b_l_is_told pass0 (da_cons (d_var (pv 5)) (da_cons (d_var (pv 3)) da_nil))))) (by intro _; rfl))) (dw_or1 (dt_not (dt_val (DE.s (d_call0 (pe_callG G_l_is_told (by exact gu) (hr.mono (by decide)) (by rfl) T.g_l_is_told T.F_l_is_told.kp T.b_l_is_told pass0 (da_cons (d_var (pv 6)) (da_cons (d_var (pv 4)) da_nil))))) (by intro _; rfl)))))) (dss_one (ds_ret d_bl)) dss_nil)
      (dss_cons (ds_if (PW.pt (dw_or (dt_not (dt_val (DE.s (d_call0 (pe_callG G_l_signs_right (by exact gu) (hr.mono (by decide)) (by rfl) T.g_l_signs_right T.F_l_signs_right.kp T.b_l_signs_right pass0 (da_cons (d_var (pv 5)) (da_cons (d_var (pv 6)) (da_cons (d_var (pv 3)) (da_cons (d_var (pv 4)) da_nil))))))) (by intro _; rfl))) (dw_or1 (dt_not (dt_val (DE.s (d_call0 (pe_callG G_l_signs_right (by exact gu) (hr.mono (by decide)) (by rfl) T.g_l_signs_right T.F_l_signs_right.kp T.b_l_signs_right pass0 (da_cons (d_var (pv 6)) (da_cons (d_var (pv 5)) (da_cons (d_var (pv 4)) (da_cons (d_var (pv 3)) da_nil))))))) (by intro _; rfl)))))) (dss_one (ds_ret d_bl)) dss_nil)
      (dss_cons (ds_set (ps_set (i := 7) sc_l_right.nd rfl (.inl rfl) (d_call0 (pe_call G_l_spot (hr.mono (by decide)) (by rfl) T.g_l_spot T.F_l_spot.kp T.b_l_spot .nil pass0 (da_cons (d_var (pv 0)) (da_cons (d_var (pv 1)) da_nil))))))
      (dss_cons (ds_if (dt_cmp (show OpR _ (compareOp .NotEq) (rNeU K) from o_ne hr.units) f_ne (DE.s (d_callB (pe_callB (show CallR _ (.builtin "repr") (rRepr K) from call_reprD (by exact gu) hr.units) (by rfl) T.n_repr (by decide +kernel) (das_cons (DN.s (d_lst (da_cons (d_cmpE (op_inO G_Spots_contains T.b_Spots_contains pass0 (hr.mono (by decide)) ⟨T.m_Spots_contains.1, T.m_Spots_contains.2⟩) f_inO (d_var (pv 7)) (d_var (pv 5)) (by rfl)) (da_cons (d_cmpE (op_inO G_Spots_contains T.b_Spots_contains pass0 (hr.mono (by decide)) ⟨T.m_Spots_contains.1, T.m_Spots_contains.2⟩) f_inO (d_var (pv 7)) (d_var (pv 6)) (by rfl)) da_nil)))) das_nil)) f_repr)) (DE.s (d_callB (pe_callB (show CallR _ (.builtin "repr") (rRepr K) from call_reprD (by exact gu) hr.units) (by rfl) T.n_repr (by decide +kernel) (das_cons (DN.s (d_lst (da_cons (d_cmp (show OpR _ (compareOp .In) (rInU K) from o_in (u65 hr)) f_in (DE.s (d_var (pv 7))) (DE.s (d_var (pv 3))) (by rfl)) (da_cons (d_cmp (show OpR _ (compareOp .In) (rInU K) from o_in (u65 hr)) f_in (DE.s (d_var (pv 7))) (DE.s (d_var (pv 4))) (by rfl)) da_nil)))) das_nil)) f_repr)) (nomark _)) (dss_one (ds_ret d_bl)) dss_nil)
      (dss_one (ds_ret (d_and (DE.s (d_call0 (pe_callG G_l_refused (by exact gu) (hr.mono (by decide)) (by rfl) T.g_l_refused T.F_l_refused.kp T.b_l_refused pass0 (da_cons (d_var (pv 0)) (da_cons (d_var (pv 5)) (da_cons (d_var (pv 3)) (da_cons (d_var (pv 7)) da_nil))))))) (d_one (d_call0 (pe_callG G_l_is_told (by exact gu) (hr.mono (by decide)) (by rfl) T.g_l_is_told T.F_l_is_told.kp T.b_l_is_told pass0 (da_cons (d_var (pv 5)) (da_cons (d_var (pv 3)) da_nil)))))))))))))))))) ?_
  refine sp1_by0 fun a q ⟨ea, h⟩ => ?_
  subst ea
  (dsimp only [xsSeq, xsNil, xsRet, xsRetN, xsDrop, xsSet, xsOwn, xsIf, xsFrz, xsApp, xsMany, xsAsg, xsAug, xsRaise, xsPut, xVar, xNow, xC, xList, xOp, xUn, xOpN, xNil, xCons, xStar, xSeqOf, xCB, xCBN, xIf, xAnd, xOr, xNot, xtAnd, xtOr, xtNot, xtVal, xtTru, truD, xChain, xTup, xLst, xCall, xCall0, xFld, xOwnF, xMeth, xMeth0, xProp, xMake, xMakeS, xCMeth, xSl, xoNone, xoSome, xJoin, xSm, xFmt, xJs, xRev, xnSl, fAdd, nAdd, fSub, fMul, fMod, fPow, fFdiv, fNeg, fCmpI, fEq, fNe, fEqNil, fNeNil, fIs, fIsnt, DL.isNon, noRaw, fIn, fNotIn, fIx, fSl, fLen, fAbs, fMax, fMin, fInt, fStr, nList, fTuple, fAll, fAny, fSum, fRepr, fIsi, fIsO, fEqO, fNeO, sideOk, fInO, fNotInO, fIxO, fIxO0, fUnO, fBinO, fBinO0, fLenO, fStrO, fBoolO, fBool, asBl, xgName, xgNil, xgCons, xgTup, startD, startI, endK, endI, getV, setV, setVs, xmNil, xmVal, xmOwn, noV, List.length_cons, List.length_nil, Bool.not_true, Bool.not_false, xLc, xiLst, xiTup, xiRng1, xiRng2, xiStr, xiEnum, xiZip, xsFor, xsWhile, xtYes, ifB_tt, ifB_ff, kB, isIntD, isBoolD, isStrD, isTupD, isLstD, isDctD, xlStep, wipeD, List.map, fBinU, xDct0]; try simp only [eq_self_iff_true, true_and, and_true])
  refine ⟨rfl, fun w0 hw0 => ⟨fit_of (by decide), ⟨by decide, by decide⟩, ?_⟩⟩
  have hw : ∀ z ∈ ([w0, "a", "aa", "ab", "zzzzzzzz"] : List Str), nameS z = true := fun z m => by
    simp only [List.mem_cons, List.not_mem_nil, or_false] at m
    rcases m with rfl | rfl | rfl | rfl | rfl
    · exact hw0
    · decide +kernel
    · decide +kernel
    · decide +kernel
    · decide +kernel
  have spot : ∀ q' : D → Prop, (∀ z, spOk z → q' (spD z)) → p_spot [dice, .lst [.str w0, .str "a", .str "aa", .str "ab", .str "zzzzzzzz"]] q' NoX := fun q' h' => ⟨rfl, [w0, "a", "aa", "ab", "zzzzzzzz"], rfl, by simp, by simp, hw, h'⟩
  refine xl_kind _ spD spOk (by decide) (fun d hd yes no hy => ?_) fun ss ls os => ?_
  · (dsimp only [xsSeq, xsNil, xsRet, xsRetN, xsDrop, xsSet, xsOwn, xsIf, xsFrz, xsApp, xsMany, xsAsg, xsAug, xsRaise, xsPut, xVar, xNow, xC, xList, xOp, xUn, xOpN, xNil, xCons, xStar, xSeqOf, xCB, xCBN, xIf, xAnd, xOr, xNot, xtAnd, xtOr, xtNot, xtVal, xtTru, truD, xChain, xTup, xLst, xCall, xCall0, xFld, xOwnF, xMeth, xMeth0, xProp, xMake, xMakeS, xCMeth, xSl, xoNone, xoSome, xJoin, xSm, xFmt, xJs, xRev, xnSl, fAdd, nAdd, fSub, fMul, fMod, fPow, fFdiv, fNeg, fCmpI, fEq, fNe, fEqNil, fNeNil, fIs, fIsnt, DL.isNon, noRaw, fIn, fNotIn, fIx, fSl, fLen, fAbs, fMax, fMin, fInt, fStr, nList, fTuple, fAll, fAny, fSum, fRepr, fIsi, fIsO, fEqO, fNeO, sideOk, fInO, fNotInO, fIxO, fIxO0, fUnO, fBinO, fBinO0, fLenO, fStrO, fBoolO, fBool, asBl, xgName, xgNil, xgCons, xgTup, startD, startI, endK, endI, getV, setV, setVs, xmNil, xmVal, xmOwn, noV, List.length_cons, List.length_nil, Bool.not_true, Bool.not_false, xLc, xiLst, xiTup, xiRng1, xiRng2, xiStr, xiEnum, xiZip, xsFor, xsWhile, xtYes, ifB_tt, ifB_ff, kB, isIntD, isBoolD, isStrD, isTupD, isLstD, isDctD, xlStep, wipeD, List.map, fBinU, xDct0]; try simp only [eq_self_iff_true, true_and, and_true])
    exact spot _ hy
  have ls : ss.length = 5 := ls
  have pick : ∀ q' : D → Prop, (∀ z, spOk z → q' (spD z)) → p_pick [dice, .lst (ss.map spD)] q' NoX := fun q' h' => ⟨rfl, .inl ⟨_, .inl rfl, by rw [List.length_map, ls]; decide, by rw [List.length_map, ls]; decide, fun x hx => by
    obtain ⟨z, m, rfl⟩ := List.mem_map.mp hx
    exact h' z (os z m)⟩⟩
  refine ⟨6, rfl, rfl, by decide, small_i (by decide) (by decide), fun n n0 n1 => ⟨⟨by omega, by omega⟩, xl_kind _ spD spOk (by rw [rngD_len]; omega) (fun d hd yes no hy => ?_) fun xs lx ox => ?_⟩⟩
  · (dsimp only [xsSeq, xsNil, xsRet, xsRetN, xsDrop, xsSet, xsOwn, xsIf, xsFrz, xsApp, xsMany, xsAsg, xsAug, xsRaise, xsPut, xVar, xNow, xC, xList, xOp, xUn, xOpN, xNil, xCons, xStar, xSeqOf, xCB, xCBN, xIf, xAnd, xOr, xNot, xtAnd, xtOr, xtNot, xtVal, xtTru, truD, xChain, xTup, xLst, xCall, xCall0, xFld, xOwnF, xMeth, xMeth0, xProp, xMake, xMakeS, xCMeth, xSl, xoNone, xoSome, xJoin, xSm, xFmt, xJs, xRev, xnSl, fAdd, nAdd, fSub, fMul, fMod, fPow, fFdiv, fNeg, fCmpI, fEq, fNe, fEqNil, fNeNil, fIs, fIsnt, DL.isNon, noRaw, fIn, fNotIn, fIx, fSl, fLen, fAbs, fMax, fMin, fInt, fStr, nList, fTuple, fAll, fAny, fSum, fRepr, fIsi, fIsO, fEqO, fNeO, sideOk, fInO, fNotInO, fIxO, fIxO0, fUnO, fBinO, fBinO0, fLenO, fStrO, fBoolO, fBool, asBl, xgName, xgNil, xgCons, xgTup, startD, startI, endK, endI, getV, setV, setVs, xmNil, xmVal, xmOwn, noV, List.length_cons, List.length_nil, Bool.not_true, Bool.not_false, xLc, xiLst, xiTup, xiRng1, xiRng2, xiStr, xiEnum, xiZip, xsFor, xsWhile, xtYes, ifB_tt, ifB_ff, kB, isIntD, isBoolD, isStrD, isTupD, isLstD, isDctD, xlStep, wipeD, List.map, fBinU, xDct0]; try simp only [eq_self_iff_true, true_and, and_true])
    exact pick _ hy
  rw [rngD_len] at lx
  refine ⟨6, rfl, rfl, by decide, small_i (by decide) (by decide), fun m m0 m1 => ⟨⟨by omega, by omega⟩, xl_kind _ spD spOk (by rw [rngD_len]; omega) (fun d hd yes no hy => ?_) fun ys ly oy => ?_⟩⟩
  · (dsimp only [xsSeq, xsNil, xsRet, xsRetN, xsDrop, xsSet, xsOwn, xsIf, xsFrz, xsApp, xsMany, xsAsg, xsAug, xsRaise, xsPut, xVar, xNow, xC, xList, xOp, xUn, xOpN, xNil, xCons, xStar, xSeqOf, xCB, xCBN, xIf, xAnd, xOr, xNot, xtAnd, xtOr, xtNot, xtVal, xtTru, truD, xChain, xTup, xLst, xCall, xCall0, xFld, xOwnF, xMeth, xMeth0, xProp, xMake, xMakeS, xCMeth, xSl, xoNone, xoSome, xJoin, xSm, xFmt, xJs, xRev, xnSl, fAdd, nAdd, fSub, fMul, fMod, fPow, fFdiv, fNeg, fCmpI, fEq, fNe, fEqNil, fNeNil, fIs, fIsnt, DL.isNon, noRaw, fIn, fNotIn, fIx, fSl, fLen, fAbs, fMax, fMin, fInt, fStr, nList, fTuple, fAll, fAny, fSum, fRepr, fIsi, fIsO, fEqO, fNeO, sideOk, fInO, fNotInO, fIxO, fIxO0, fUnO, fBinO, fBinO0, fLenO, fStrO, fBoolO, fBool, asBl, xgName, xgNil, xgCons, xgTup, startD, startI, endK, endI, getV, setV, setVs, xmNil, xmVal, xmOwn, noV, List.length_cons, List.length_nil, Bool.not_true, Bool.not_false, xLc, xiLst, xiTup, xiRng1, xiRng2, xiStr, xiEnum, xiZip, xsFor, xsWhile, xtYes, ifB_tt, ifB_ff, kB, isIntD, isBoolD, isStrD, isTupD, isLstD, isDctD, xlStep, wipeD, List.map, fBinU, xDct0]; try simp only [eq_self_iff_true, true_and, and_true])
    exact pick _ hy
  rw [rngD_len] at ly
  refine ⟨rfl, .inl ⟨_, rfl, ask_sps T (fun z m => (ox z m).1) (by omega) fun us hu => ⟨ys, rfl, fun z m => (oy z m).1, by omega, fun vs hv => ?_⟩⟩⟩
  have u5 := hu.len
  have v5 := hv.len
  have uz : ∀ z ∈ us, spOk z := fun z m => ox z ((hu.mem z).mp m)
  have vz : ∀ z ∈ vs, spOk z := fun z m => oy z ((hv.mem z).mp m)
  refine ⟨us, xs, rfl, rfl, ox, by omega, by omega, hu, vs, ys, rfl, rfl, oy, by omega, by omega, hv, ?_⟩
  refine ⟨us, vs, xs, ys, rfl, rfl, rfl, rfl, ox, oy, by omega, by omega, hu, hv, vs, us, ys, xs, rfl, rfl, rfl, rfl, oy, ox, by omega, by omega, hv, hu, ?_⟩
  dsimp only
  refine ifB_no (fun e => nomatch e) fun _ => spot _ fun z hz => ⟨rfl, us, rfl, askOk_sp hz.1, fun z m => (uz z m).1, ?_⟩
  rw [isSpot_sp hz.1, has_sp, Bool.true_and]
  refine ⟨rfl, vs, rfl, askOk_sp hz.1, fun z m => (vz z m).1, ?_⟩
  rw [isSpot_sp hz.1, has_sp, Bool.true_and]
  have pz : okD (spD z) := (plain_sp hz.1).mono (by decide)
  have px : okD (.lst (xs.map spD)) := (plain_lsp fun z m => (ox z m).1).mono (by decide)
  have py : okD (.lst (ys.map spD)) := (plain_lsp fun z m => (oy z m).1).mono (by decide)
  have two : ∀ b1 b2 : Bool, okShow (.lst [.bl b1, .bl b2]) := fun b1 b2 => (shw_lst (shw_cons (shw_bl b1) (shw_cons (shw_bl b2) shw_nil))).ok (by decide) (by decide)
  refine ⟨fit_of (by decide), two _ _, pz, px, pz, py, fit_of (by decide), two _ _, ifB_no (fun e => ?_) fun _ => ?_⟩
  · rw [has_sp, has_sp, show decide (z ∈ us) = decide (z ∈ xs) from decide_eq_decide.mpr (hu.mem z), show decide (z ∈ vs) = decide (z ∈ ys) from decide_eq_decide.mpr (hv.mem z), beq_self_eq_true] at e
    cases e
  · exact ⟨rfl, us, xs, z, rfl, rfl, rfl, uz, ox, hz, by omega, by omega, us, xs, rfl, rfl, ox, by omega, by omega, hu, h⟩
end
-- SPLIT
/-! ### the law -/
section
variable {P : Program} {w : World} {K : PySem.W.Frag} {mg : Str → Option Value} {base : Heap}
def LAW4 : List Spt := [⟨"b", 0, 1⟩, ⟨"a", 10, 0⟩, ⟨"a", 9, 3⟩, ⟨"b", 0, 1⟩]
def LAW3 : List Spt := [⟨"a", 9, 3⟩, ⟨"a", 10, 0⟩, ⟨"b", 0, 1⟩]
theorem law4_ok : ∀ z ∈ LAW4, spOk z := fun z m => by
  simp only [LAW4, List.mem_cons, List.not_mem_nil, or_false] at m
  rcases m with rfl | rfl | rfl | rfl <;> exact ⟨⟨by decide +kernel, by decide, by decide⟩, by decide, by decide⟩
theorem law3_ok : ∀ z ∈ LAW3, spOk z := fun z m => by
  simp only [LAW3, List.mem_cons, List.not_mem_nil, or_false] at m
  rcases m with rfl | rfl | rfl <;> exact ⟨⟨by decide +kernel, by decide, by decide⟩, by decide, by decide⟩
theorem law3_asc : Asc spP LAW3 LAW4 := ⟨by decide +kernel, by decide +kernel, fun k => by
  simp only [LAW3, LAW4, List.mem_cons, List.not_mem_nil, or_false]
  constructor
  · rintro (rfl | rfl | rfl) <;> simp
  · rintro (rfl | rfl | rfl | rfl) <;> simp⟩
theorem law_told : okD (.lst [.str "{a 9 3, a 10 0, b 0 1}", .int 3, .str "{}", .bl false, .int 0, .bl false]) := by
  unfold okD Plain
  intro x hx
  simp only [List.mem_cons, List.not_mem_nil, or_false] at hx
  rcases hx with rfl | rfl | rfl | rfl | rfl | rfl <;> unfold Plain <;> first | trivial | decide +kernel
theorem ok_law (T : Txt K mg) (tb : ∀ q ∈ TQ T, LamX.TabB base mg q.2.1 q.2.2) : FnG P w K mg base CX0 31 T.a_law T.fd_law ["_law_script"] (toSp0 K (TB T) (p_lawOf 63)) := by
  have G_Spots_init : FnA P w K mg base (L2.CX P w) 10 T.a_Spots_init (spStar K (TB T) T.c_Spots 0 (p_Spots T)) := ok_Spots_init T
  have G_Spots_str : FnOk P w K mg base CX0 4 T.a_Spots_str T.fd_Spots_str ["self"] (toSp0 K (TB T) (p_str T)) := ok_Spots_str T
  have G_Spots_len : FnOk P w K mg base CX0 1 T.a_Spots_len T.fd_Spots_len ["self"] (toSp0 K (TB T) (p_len T)) := ok_Spots_len T
  have G_Spots_bool : FnOk P w K mg base CX0 1 T.a_Spots_bool T.fd_Spots_bool ["self"] (toSp0 K (TB T) (p_bool T)) := ok_Spots_bool T
  have G_Spots_contains : FnOk P w K mg base CX0 7 T.a_Spots_contains T.fd_Spots_contains ["self", "value"] (toSp0 K (TB T) (p_has T)) := ok_Spots_contains T
  have G_Spots_eq : FnOk P w K mg base CX0 13 T.a_Spots_eq T.fd_Spots_eq ["self", "other"] (toSp0 K (TB T) (p_eq T)) := ok_Spots_eq T
  have G_l_dice : FnOk P w K mg base CX0 1 T.a_l_dice T.fd_l_dice ["_law_script", "_law_spot_here"] (toSp0 K (TB T) p_dice) := okd_dice T
  have G_Spots_sub : FnOk P w K mg base (L2.CX P w) 16 T.a_Spots_sub T.fd_Spots_sub ["self", "other"] (toSp K (TB T) (p_sub T)) := ok_Spots_sub T
  have G_l_right : FnG P w K mg base CX0 28 T.a_l_right T.fd_l_right ["_law_dice_here"] (toSp0 K (TB T) p_right) := ok_l_right T tb
  refine okDG (n := 5) T.F_law sc_law rfl (fun ds q e h => sp1_len ds q e h) (fun cdv A outer s H E gu hr => (dss_cons (ds_for (vs := [1]) (ps_for PassesOwn.never rfl (di_rng1 (pi_range1 (by rfl) T.n_range (das_cons (DE.s (d_callB (pe_callB (call_max2 rfl) (by rfl) T.n_max (by decide +kernel) (das_cons (DE.s d_int) (das_cons (DE.s (d_callB (pe_callB (call_min2 rfl) (by rfl) T.n_min (by decide +kernel) (das_cons (DE.s d_int) (das_cons (DE.s (d_callB (pe_callB call_len (by rfl) T.n_len (by decide +kernel) (das_cons (DE.s (d_var (pv 0))) das_nil)) f_len)) das_nil))) f_min)) das_nil))) f_max)) das_nil))) (pg_name (i := 1) sc_law.nd rfl (.inl rfl)) (dss_cons (ds_set (ps_set (i := 2) sc_law.nd rfl (.inl rfl) (d_call0 (pe_call G_l_dice (hr.mono (by decide)) (by rfl) T.g_l_dice T.F_l_dice.kp T.b_l_dice .nil pass0 (da_cons (d_var (pv 0)) (da_cons (d_var (pv 1)) da_nil))))))
      (dss_one (ds_for (vs := [3]) (ps_for PassesOwn.never rfl (di_rng1 (pi_range1 (by rfl) T.n_range (das_cons (DE.s d_int) das_nil))) (pg_name (i := 3) sc_law.nd rfl (.inl rfl)) (dss_one (ds_if (dt_not (dt_val (DE.s (d_call0 (pe_callG G_l_right (by exact gu) (hr.mono (by decide)) (by rfl) T.g_l_right T.F_l_right.kp T.b_l_right pass0 (da_cons (d_var (pv 2)) da_nil)))) (by intro _; rfl))) (dss_one (ds_ret d_bl)) dss_nil))) (gd_name (by decide)))))) (gd_name (by decide)))
      (dss_cons (ds_set (ps_set (i := 4) sc_law.nd rfl (.inl rfl) (d_makeA (pe_makeA (ks := []) (pe_glob (v := .ref T.c_Spots) rfl T.g_Spots rfl) T.M_Spots G_Spots_init (hr.mono (by decide)) passL (da_cons (d_tup (da_cons d_str (da_cons d_int (da_cons d_int da_nil)))) (da_cons (d_tup (da_cons d_str (da_cons d_int (da_cons d_int da_nil)))) (da_cons (d_tup (da_cons d_str (da_cons d_int (da_cons d_int da_nil)))) (da_cons (d_tup (da_cons d_str (da_cons d_int (da_cons d_int da_nil)))) da_nil)))) pk_nil))))
      (dss_cons (ds_set (ps_set (i := 5) sc_law.nd rfl (.inl rfl) (DN.e (d_lst (da_cons (d_callE (pe_callTy (call_strO G_Spots_str T.b_Spots_str pass0 (hr.mono (by decide)) ⟨T.m_Spots_str.1, T.m_Spots_str.2⟩) (by rfl) T.n_str (by decide +kernel) (da_cons (d_var (pv 4)) da_nil)) f_strO) (da_cons (d_callE (pe_callB (call_lenO G_Spots_len T.b_Spots_len pass0 (hr.mono (by decide)) ⟨T.m_Spots_len.1, T.m_Spots_len.2⟩) (by rfl) T.n_len (by decide +kernel) (da_cons (d_var (pv 4)) da_nil)) f_lenO) (da_cons (d_callE (pe_callTy (call_strO G_Spots_str T.b_Spots_str pass0 (hr.mono (by decide)) ⟨T.m_Spots_str.1, T.m_Spots_str.2⟩) (by rfl) T.n_str (by decide +kernel) (da_cons (d_make0A (pe_make0A (pe_glob (v := .ref T.c_Spots) rfl T.g_Spots rfl) T.M_Spots G_Spots_init (hr.mono (by decide)) passL)) da_nil)) f_strO) (da_cons (d_callE (pe_callTy (call_boolO G_Spots_bool T.b_Spots_bool pass0 (hr.mono (by decide)) ⟨T.m_Spots_bool.1, T.m_Spots_bool.2⟩) (by rfl) T.n_bool (by decide +kernel) (da_cons (d_make0A (pe_make0A (pe_glob (v := .ref T.c_Spots) rfl T.g_Spots rfl) T.M_Spots G_Spots_init (hr.mono (by decide)) passL)) da_nil)) f_boolO) (da_cons (d_callE (pe_callB (call_lenO G_Spots_len T.b_Spots_len pass0 (hr.mono (by decide)) ⟨T.m_Spots_len.1, T.m_Spots_len.2⟩) (by rfl) T.n_len (by decide +kernel) (da_cons (d_make0A (pe_make0A (pe_glob (v := .ref T.c_Spots) rfl T.g_Spots rfl) T.M_Spots G_Spots_init (hr.mono (by decide)) passL)) da_nil)) f_lenO) (da_cons (d_cmpE (op_inO G_Spots_contains T.b_Spots_contains pass0 (hr.mono (by decide)) ⟨T.m_Spots_contains.1, T.m_Spots_contains.2⟩) f_inO (d_tup (da_cons d_str (da_cons d_bl (da_cons d_int da_nil)))) (d_makeA (pe_makeA (ks := []) (pe_glob (v := .ref T.c_Spots) rfl T.g_Spots rfl) T.M_Spots G_Spots_init (hr.mono (by decide)) passL (da_cons (d_tup (da_cons d_str (da_cons d_int (da_cons d_int da_nil)))) da_nil) pk_nil)) (by rfl)) da_nil))))))))))
      (dss_one (ds_ret (d_and (DE.s (d_cmp (show OpR _ (compareOp .Eq) (rEqU K) from o_eq hr.units) f_eq (DE.s (d_var (pv 5))) (DN.s (d_lst (da_cons d_str (da_cons d_int (da_cons d_str (da_cons d_bl (da_cons d_int (da_cons d_bl da_nil)))))))) (nomark _))) (d_and (DE.s (d_cmpE (op_eqO G_Spots_eq (hr.mono (by decide)) T.eq_Spots T.b_Spots_eq pass0) (f_eqO (cs := [])  T.is_Spots (fun n hn => (T.fo_Spots n hn).2)  (fun B m => (List.not_mem_nil m).elim)) (d_make0A (pe_make0A (pe_glob (v := .ref T.c_Spots) rfl T.g_Spots rfl) T.M_Spots G_Spots_init (hr.mono (by decide)) passL)) (d_opE (op_binU G_Spots_sub T.b_Spots_sub passL (hr.mono (by decide)) T.sf_Spots ⟨T.m_Spots_sub.1, T.m_Spots_sub.2⟩ T.ro_Spots_sub sign_sub) (f_binU T.is_Spots) (d_var (pv 4)) (d_var (pv 4))) (nomark _))) (d_one (d_cmpE (op_neO G_Spots_eq (hr.mono (by decide)) T.eq_Spots T.b_Spots_eq pass0) (f_neO (cs := [])  T.is_Spots (fun n hn => (T.fo_Spots n hn).2)  (fun B m => (List.not_mem_nil m).elim)) (d_var (pv 4)) (d_make0A (pe_make0A (pe_glob (v := .ref T.c_Spots) rfl T.g_Spots rfl) T.M_Spots G_Spots_init (hr.mono (by decide)) passL)) (nomark _))))))))))) ?_
  refine sp1_by0 fun a q ⟨ns, ea, l63, h⟩ => ?_
  subst ea
  (dsimp only [xsSeq, xsNil, xsRet, xsRetN, xsDrop, xsSet, xsOwn, xsIf, xsFrz, xsApp, xsMany, xsAsg, xsAug, xsRaise, xsPut, xVar, xNow, xC, xList, xOp, xUn, xOpN, xNil, xCons, xStar, xSeqOf, xCB, xCBN, xIf, xAnd, xOr, xNot, xtAnd, xtOr, xtNot, xtVal, xtTru, truD, xChain, xTup, xLst, xCall, xCall0, xFld, xOwnF, xMeth, xMeth0, xProp, xMake, xMakeS, xCMeth, xSl, xoNone, xoSome, xJoin, xSm, xFmt, xJs, xRev, xnSl, fAdd, nAdd, fSub, fMul, fMod, fPow, fFdiv, fNeg, fCmpI, fEq, fNe, fEqNil, fNeNil, fIs, fIsnt, DL.isNon, noRaw, fIn, fNotIn, fIx, fSl, fLen, fAbs, fMax, fMin, fInt, fStr, nList, fTuple, fAll, fAny, fSum, fRepr, fIsi, fIsO, fEqO, fNeO, sideOk, fInO, fNotInO, fIxO, fIxO0, fUnO, fBinO, fBinO0, fLenO, fStrO, fBoolO, fBool, asBl, xgName, xgNil, xgCons, xgTup, startD, startI, endK, endI, getV, setV, setVs, xmNil, xmVal, xmOwn, noV, List.length_cons, List.length_nil, Bool.not_true, Bool.not_false, xLc, xiLst, xiTup, xiRng1, xiRng2, xiStr, xiEnum, xiZip, xsFor, xsWhile, xtYes, ifB_tt, ifB_ff, kB, isIntD, isBoolD, isStrD, isTupD, isLstD, isDctD, xlStep, wipeD, List.map, fBinU, xDct0]; try simp only [eq_self_iff_true, true_and, and_true])
  have hN : ∃ N : Int, (if (if (((ns.map D.int).length : Nat) : Int) < 8 then (((ns.map D.int).length : Nat) : Int) else 8) > 1 then (if (((ns.map D.int).length : Nat) : Int) < 8 then (((ns.map D.int).length : Nat) : Int) else 8) else 1) = N ∧ 1 ≤ N ∧ N ≤ 8 := ⟨_, rfl, by split <;> omega, by split <;> (try split) <;> omega⟩
  obtain ⟨N, eN, n1, n8⟩ := hN
  rw [eN]
  refine ⟨⟨by omega, by omega⟩, fun _ ε => ∃ a b c, ε = [some (.val (.rdl (ns.map D.int))), a, b, c, none, none], ⟨_, _, _, rfl⟩, fun i d ε hd hI => ?_, fun ε hI => ?_⟩
  · obtain ⟨a, b, c, rfl⟩ := hI
    have id : d = .int (0 + (i : Int)) := by
      rw [rngD, List.getElem?_map] at hd
      obtain ⟨k, ek, rfl⟩ := Option.map_eq_some_iff.mp hd
      rw [List.getElem?_range (by
        have z := (List.getElem?_eq_some_iff.mp ek).1
        rw [List.length_range] at z
        exact z)] at ek
      cases ek
      rfl
    subst id
    refine ⟨ns, _, .inl rfl, rfl, by omega, l63, ⟨by decide, by decide⟩, fun _ ε => ∃ c, ε = [some (.val (.rdl (ns.map D.int))), some (.val (.int (0 + (i : Int)))), some (.val dice), c, none, none], ⟨_, rfl⟩, fun j d2 ε2 _ hI2 => ?_, fun ε2 hI2 => ?_⟩
    · obtain ⟨c2, rfl⟩ := hI2
      exact ⟨rfl, _, rfl⟩
    · obtain ⟨c2, rfl⟩ := hI2
      exact ⟨_, _, _, rfl⟩
  obtain ⟨a, b, c, rfl⟩ := hI
  refine ⟨fit_of (by decide), fit_of (by decide), fit_of (by decide), fit_of (by decide), ?_⟩
  have mk : ∀ (zs : List Spt) (q' : List (Str × D) → Prop), (∀ z ∈ zs, okS z) → zs.length < 64 → (∀ us, Asc spP us zs → q' (spF us)) → starI 0 (p_Spots T) (zs.map spD) q' NoX := fun zs q' h1 h2 h3 => ⟨Nat.zero_le _, fit_of (by rw [List.length_map]; omega), _, rfl, .inr (ask_sps T h1 h2 h3)⟩
  have mk0 : ∀ q' : List (Str × D) → Prop, q' (spF []) → starI 0 (p_Spots T) [] q' NoX := fun q' h3 => mk [] q' (fun z m => (List.not_mem_nil m).elim) (by decide) fun us hu => by
    rw [List.eq_nil_of_length_eq_zero (Nat.le_zero.mp hu.len)]
    exact h3
  refine mk LAW4 _ (fun z m => (law4_ok z m).1) (by decide) fun us hu => ?_
  obtain rfl : us = LAW3 := hu.uniq sp_inj law3_asc fun _ => Iff.rfl
  refine ⟨rfl, LAW3, rfl, law3_ok, by decide, rfl, LAW3, rfl, by decide, by decide, mk0 _ ⟨[], rfl, fun z m => (List.not_mem_nil m).elim, by decide, ?_⟩⟩
  refine mk0 _ ⟨[], rfl, mk0 _ ⟨[], rfl, by decide, by decide, fit_of (by decide), fit_of (by decide), ?_⟩⟩
  refine mk [⟨"a", 1, 0⟩] _ (fun z m => by rw [List.mem_singleton.mp m]; exact ⟨by decide +kernel, by decide, by decide⟩) (by decide) fun vs hv => ?_
  refine ⟨vs, rfl, ask3 (fit_of (by decide +kernel)) trivial trivial, fun z m => by rw [List.mem_singleton.mp ((hv.mem z).mp m)]; exact ⟨by decide +kernel, by decide, by decide⟩, ?_⟩
  rw [noB (show idxD (.bl true) = false from rfl), Bool.false_and]
  have e3 : spsT LAW3 = "{a 9 3, a 10 0, b 0 1}" := by decide +kernel
  have e0 : spsT [] = "{}" := by decide +kernel
  have o3 : ∀ z ∈ LAW3, okS z := fun z m => (law3_ok z m).1
  rw [e3, e0]
  refine ⟨fit_of (by decide), fit_of (by decide), law_told, law_told, ifB_t (by decide +kernel) (mk0 _ ?_)⟩
  refine ⟨rfl, rfl, LAW3, rfl, o3, by decide, .inl ⟨LAW3, rfl, o3, trivial, .inl rfl, [], rfl, fun z m => (List.not_mem_nil m).elim, .inl ⟨_, rfl, fun z m => o3 z (List.mem_filter.mp m).1, ?_⟩⟩⟩
  have eq0 : decide (([] : List Spt) = LAW3.filter fun z => !decide (z ∈ LAW3)) = true := by decide +kernel
  rw [eq0]
  refine mk0 _ ⟨rfl, .inl trivial, LAW3, rfl, o3, .inl ⟨[], rfl, fun z m => (List.not_mem_nil m).elim, ?_⟩⟩
  have ne : decide (LAW3 = []) = false := by decide +kernel
  rw [ne]
  exact h
end
-- SPLIT
def sp_law {K : PySem.W.Frag} {mg : Str → Option Value} (T : Txt K mg) : Sp := toSp0 K (TB T) (p_lawOf 63)
theorem told_law {K : PySem.W.Frag} {mg : Str → Option Value} (T : Txt K mg) {H : Hp} {a : Addr} {ns : List Int} (h_l_refused : H T.tp_l_refused = some (.tbl #[])) (hl : ns.length ≤ 63) (_ : ∀ z ∈ ns, Builtin.Int.intBits z ≤ 1048576) (hS : SqL K H a (ns.map V.int)) : sp_law T [.ref a] H (fun v _ => v = .bl true) (fun _ _ _ => False) :=
  told_of (fun p hp => by
    simp only [TB, List.mem_cons, List.not_mem_nil, or_false] at hp
    rcases hp with rfl
    · exact .nil h_l_refused) hl hS
set_option maxHeartbeats 0 in
theorem all_mk {l : PySem.W.OpenLaw} {w : World} {K : PySem.W.Frag} {h : Heap} {mg : Str → Option Value} {fa : Addr} {qq : Program} (X : K.In h) (G : h.Ns mainGlobals mg) (hfa : mg "law" = some (.ref fa))
    {C_Sound : Addr}
    {C_Spots : Addr}
    {MC_Spots : Value}
    {C_InvalidSpot : Addr}
    {C_InvalidOperation : Addr}
    {f1 : Addr}
    {od1 an1 : Option Addr}
    {sl1 : Array (Option Value)}
    {oc1 kV1 dc1 pm1 cd1 ct1 : Value}
    {f2 : Addr}
    {od2 an2 : Option Addr}
    {sl2 : Array (Option Value)}
    {oc2 kV2 dc2 pm2 cd2 ct2 : Value}
    {f3 : Addr}
    {od3 an3 : Option Addr}
    {sl3 : Array (Option Value)}
    {oc3 kV3 dc3 pm3 cd3 ct3 : Value}
    {p3 : Addr}
    {rs3 : List Value}
    {f4 : Addr}
    {od4 an4 : Option Addr}
    {sl4 : Array (Option Value)}
    {oc4 kV4 dc4 pm4 cd4 ct4 : Value}
    {p4 : Addr}
    {rs4 : List Value}
    {f5 : Addr}
    {od5 an5 : Option Addr}
    {sl5 : Array (Option Value)}
    {oc5 kV5 dc5 pm5 cd5 ct5 : Value}
    {f6 : Addr}
    {od6 an6 : Option Addr}
    {sl6 : Array (Option Value)}
    {oc6 kV6 dc6 pm6 cd6 ct6 : Value}
    {f7 : Addr}
    {od7 an7 : Option Addr}
    {sl7 : Array (Option Value)}
    {oc7 kV7 dc7 pm7 cd7 ct7 : Value}
    {f8 : Addr}
    {od8 an8 : Option Addr}
    {sl8 : Array (Option Value)}
    {oc8 kV8 dc8 pm8 cd8 ct8 : Value}
    {f9 : Addr}
    {od9 an9 : Option Addr}
    {sl9 : Array (Option Value)}
    {oc9 kV9 dc9 pm9 cd9 ct9 : Value}
    {f10 : Addr}
    {od10 an10 : Option Addr}
    {sl10 : Array (Option Value)}
    {oc10 kV10 dc10 pm10 cd10 ct10 : Value}
    {f11 : Addr}
    {od11 an11 : Option Addr}
    {sl11 : Array (Option Value)}
    {oc11 kV11 dc11 pm11 cd11 ct11 : Value}
    {f12 : Addr}
    {od12 an12 : Option Addr}
    {sl12 : Array (Option Value)}
    {oc12 kV12 dc12 pm12 cd12 ct12 : Value}
    {f13 : Addr}
    {od13 an13 : Option Addr}
    {sl13 : Array (Option Value)}
    {oc13 kV13 dc13 pm13 cd13 ct13 : Value}
    {f14 : Addr}
    {od14 an14 : Option Addr}
    {sl14 : Array (Option Value)}
    {oc14 kV14 dc14 pm14 cd14 ct14 : Value}
    {f15 : Addr}
    {od15 an15 : Option Addr}
    {sl15 : Array (Option Value)}
    {oc15 kV15 dc15 pm15 cd15 ct15 : Value}
    {f16 : Addr}
    {od16 an16 : Option Addr}
    {sl16 : Array (Option Value)}
    {oc16 kV16 dc16 pm16 cd16 ct16 : Value}
    {f17 : Addr}
    {od17 an17 : Option Addr}
    {sl17 : Array (Option Value)}
    {oc17 kV17 dc17 pm17 cd17 ct17 : Value}
    {f18 : Addr}
    {od18 an18 : Option Addr}
    {sl18 : Array (Option Value)}
    {oc18 kV18 dc18 pm18 cd18 ct18 : Value}
    {f19 : Addr}
    {od19 an19 : Option Addr}
    {sl19 : Array (Option Value)}
    {oc19 kV19 dc19 pm19 cd19 ct19 : Value}
    {f20 : Addr}
    {od20 an20 : Option Addr}
    {sl20 : Array (Option Value)}
    {oc20 kV20 dc20 pm20 cd20 ct20 : Value}
    {f21 : Addr}
    {od21 an21 : Option Addr}
    {sl21 : Array (Option Value)}
    {oc21 kV21 dc21 pm21 cd21 ct21 : Value}
    {f22 : Addr}
    {od22 an22 : Option Addr}
    {sl22 : Array (Option Value)}
    {oc22 kV22 dc22 pm22 cd22 ct22 : Value}
    {f23 : Addr}
    {od23 an23 : Option Addr}
    {sl23 : Array (Option Value)}
    {oc23 kV23 dc23 pm23 cd23 ct23 : Value}
    {f24 : Addr}
    {od24 an24 : Option Addr}
    {sl24 : Array (Option Value)}
    {oc24 kV24 dc24 pm24 cd24 ct24 : Value}
    {f25 : Addr}
    {od25 an25 : Option Addr}
    {sl25 : Array (Option Value)}
    {oc25 kV25 dc25 pm25 cd25 ct25 : Value}
    {f26 : Addr}
    {od26 an26 : Option Addr}
    {sl26 : Array (Option Value)}
    {oc26 kV26 dc26 pm26 cd26 ct26 : Value}
    {f27 : Addr}
    {od27 an27 : Option Addr}
    {sl27 : Array (Option Value)}
    {oc27 kV27 dc27 pm27 cd27 ct27 : Value}
    {f28 : Addr}
    {od28 an28 : Option Addr}
    {sl28 : Array (Option Value)}
    {oc28 kV28 dc28 pm28 cd28 ct28 : Value}
    {f29 : Addr}
    {od29 an29 : Option Addr}
    {sl29 : Array (Option Value)}
    {oc29 kV29 dc29 pm29 cd29 ct29 : Value}
    {f30 : Addr}
    {od30 an30 : Option Addr}
    {sl30 : Array (Option Value)}
    {oc30 kV30 dc30 pm30 cd30 ct30 : Value}
    {f31 : Addr}
    {od31 an31 : Option Addr}
    {sl31 : Array (Option Value)}
    {oc31 kV31 dc31 pm31 cd31 ct31 : Value}
    {f32 : Addr}
    {od32 an32 : Option Addr}
    {sl32 : Array (Option Value)}
    {oc32 kV32 dc32 pm32 cd32 ct32 : Value}
    {f33 : Addr}
    {od33 an33 : Option Addr}
    {sl33 : Array (Option Value)}
    {oc33 kV33 dc33 pm33 cd33 ct33 : Value}
    {f34 : Addr}
    {od34 an34 : Option Addr}
    {sl34 : Array (Option Value)}
    {oc34 kV34 dc34 pm34 ct34 : Value}
    {cb34 : Addr}
    {tp34 : Addr}
    {cx34 : Value}
    {cz34 : Option Addr}
    {cs34 : Array (Option Value)}
    {cw34 : Array Value}
    {f35 : Addr}
    {od35 an35 : Option Addr}
    {sl35 : Array (Option Value)}
    {oc35 kV35 dc35 pm35 cd35 ct35 : Value}
    {f36 : Addr}
    {od36 an36 : Option Addr}
    {sl36 : Array (Option Value)}
    {oc36 kV36 dc36 pm36 cd36 ct36 : Value}
    {t_LONGEST_NAME : Tok}
    {dd34 : DefRec}
    (aC_Sound : PySem.W.nsIn K mainGlobals "Sound" = some (some (.ref C_Sound)))
    (pg_Sound : PySem.W.plainGet K C_Sound Str.empty = true)
    (hd_Sound : PySem.W.hasDictIn K C_Sound = true)
    (po_Sound : PySem.W.plainOver K C_Sound = true)
    (sa_Sound : PySem.W.findIn K (.ref C_Sound) "__setattr__" = some (some (.builtin "object.__setattr__")))
    (kpC_Sound : PySem.W.keepIn K (.ref C_Sound) = true)
    (nA_Sound_worth : PySem.W.findIn K (.ref C_Sound) "worth" = some none)
    (aC_Spots : PySem.W.nsIn K mainGlobals "Spots" = some (some (.ref C_Spots)))
    (pg_Spots : PySem.W.plainGet K C_Spots Str.empty = true)
    (hd_Spots : PySem.W.hasDictIn K C_Spots = true)
    (po_Spots : PySem.W.plainOver K C_Spots = true)
    (sa_Spots : PySem.W.findIn K (.ref C_Spots) "__setattr__" = some (some (.builtin "object.__setattr__")))
    (kpC_Spots : PySem.W.keepIn K (.ref C_Spots) = true)
    (nA_Spots_spots : PySem.W.findIn K (.ref C_Spots) "_spots" = some none)
    (ty_Spots : PySem.W.typeIn K (.ref C_Spots) = some MC_Spots)
    (rr_Spots : PySem.W.readsIn K C_Spots MC_Spots = true)
    (ra_Spots : PySem.W.specialIn K (.ref C_Spots) "__getattribute__" = some (some (.builtin "type.__getattribute__")))
    (aC_InvalidSpot : PySem.W.nsIn K mainGlobals "InvalidSpot" = some (some (.ref C_InvalidSpot)))
    (x1_InvalidSpot : PySem.W.excIn K C_InvalidSpot [.type "ValueError", .type "Exception", .type "BaseException", .type "object"] "ValueError.__new__" = true)
    (kC1_InvalidSpot : PySem.W.keepIn K (.ref C_InvalidSpot) = true)
    (eb1_InvalidSpot : PySem.W.subIn K (.ref C_InvalidSpot) (.type "BaseException") = some true)
    (et1_InvalidSpot : PySem.W.typeIn K (.ref C_InvalidSpot) = some (.type "type"))
    (ec1_InvalidSpot : PySem.W.isClsIn K C_InvalidSpot = true)
    (es1_InvalidSpot : PySem.W.subIn K (.ref C_InvalidSpot) (.ref C_InvalidSpot) = some true)
    (aC_InvalidOperation : PySem.W.nsIn K mainGlobals "InvalidOperation" = some (some (.ref C_InvalidOperation)))
    (x1_InvalidOperation : PySem.W.excIn K C_InvalidOperation [.type "ValueError", .type "Exception", .type "BaseException", .type "object"] "ValueError.__new__" = true)
    (kC1_InvalidOperation : PySem.W.keepIn K (.ref C_InvalidOperation) = true)
    (eb1_InvalidOperation : PySem.W.subIn K (.ref C_InvalidOperation) (.type "BaseException") = some true)
    (et1_InvalidOperation : PySem.W.typeIn K (.ref C_InvalidOperation) = some (.type "type"))
    (ec1_InvalidOperation : PySem.W.isClsIn K C_InvalidOperation = true)
    (es1_InvalidOperation : PySem.W.subIn K (.ref C_InvalidOperation) (.ref C_InvalidOperation) = some true)
    (xs_InvalidSpot_InvalidOperation : PySem.W.subIn K (.ref C_InvalidSpot) (.ref C_InvalidOperation) = some false)
    (xs_InvalidOperation_InvalidSpot : PySem.W.subIn K (.ref C_InvalidOperation) (.ref C_InvalidSpot) = some false)
    (l1 : K.lookup f1 = some ⟨oc1, od1, .func (PySem.W.fnOf "__init__" "Sound.__init__" (defArgs s_Sound_init) (defBody s_Sound_init) (defScope s_Sound_init) .none kV1 dc1 pm1 an1 cd1 ct1), sl1⟩)
    (c1 : PySem.W.codeIn K cd1 "Sound.__init__" = true)
    (k1 : PySem.W.keepIn K (.ref f1) = true)
    (mk_Sound : PySem.W.makesIn K C_Sound = true)
    (a1 : PySem.W.findIn K (.ref C_Sound) "__init__" = some (some (.ref f1)))
    (i1 : PySem.W.isFn K (.ref f1) = true)
    (l2 : K.lookup f2 = some ⟨oc2, od2, .func (PySem.W.fnOf "__init__" "Spots.__init__" (defArgs s_Spots_init) (defBody s_Spots_init) (defScope s_Spots_init) .none kV2 dc2 pm2 an2 cd2 ct2), sl2⟩)
    (c2 : PySem.W.codeIn K cd2 "Spots.__init__" = true)
    (k2 : PySem.W.keepIn K (.ref f2) = true)
    (mk_Spots : PySem.W.makesIn K C_Spots = true)
    (a2 : PySem.W.findIn K (.ref C_Spots) "__init__" = some (some (.ref f2)))
    (i2 : PySem.W.isFn K (.ref f2) = true)
    (l3 : K.lookup f3 = some ⟨oc3, od3, .func (PySem.W.fnOf "of" "Spots.of" (defArgs s_Spots_of) (defBody s_Spots_of) (defScope s_Spots_of) .none kV3 dc3 pm3 an3 cd3 ct3), sl3⟩)
    (c3 : PySem.W.codeIn K cd3 "Spots.of" = true)
    (k3 : PySem.W.keepIn K (.ref f3) = true)
    (a3 : PySem.W.findCls K (.ref C_Spots) MC_Spots "of" = some (.get (.builtin "classmethod.__get__") (.ref p3) .none (.ref C_Spots)))
    (r3 : PySem.W.recIn K p3 "classmethod" = some (.ref f3 :: rs3))
    (h3 : PySem.W.fnIn K f3 = true)
    (l4 : K.lookup f4 = some ⟨oc4, od4, .func (PySem.W.fnOf "listed" "Spots.listed" (defArgs s_Spots_listed) (defBody s_Spots_listed) (defScope s_Spots_listed) .none kV4 dc4 pm4 an4 cd4 ct4), sl4⟩)
    (c4 : PySem.W.codeIn K cd4 "Spots.listed" = true)
    (k4 : PySem.W.keepIn K (.ref f4) = true)
    (a4 : PySem.W.findIn K (.ref C_Spots) "listed" = some (some (.ref p4)))
    (g4 : PySem.W.specialIn K (.ref p4) "__get__" = some (some (.builtin "property.__get__")))
    (t4 : PySem.W.takesIn K (.ref p4) = some true)
    (r4 : PySem.W.recIn K p4 "property" = some (.ref f4 :: rs4))
    (l5 : K.lookup f5 = some ⟨oc5, od5, .func (PySem.W.fnOf "within" "Spots.within" (defArgs s_Spots_within) (defBody s_Spots_within) (defScope s_Spots_within) .none kV5 dc5 pm5 an5 cd5 ct5), sl5⟩)
    (c5 : PySem.W.codeIn K cd5 "Spots.within" = true)
    (k5 : PySem.W.keepIn K (.ref f5) = true)
    (a5 : PySem.W.findIn K (.ref C_Spots) "within" = some (some (.ref f5)))
    (i5 : PySem.W.isFn K (.ref f5) = true)
    (l6 : K.lookup f6 = some ⟨oc6, od6, .func (PySem.W.fnOf "__or__" "Spots.__or__" (defArgs s_Spots_or) (defBody s_Spots_or) (defScope s_Spots_or) .none kV6 dc6 pm6 an6 cd6 ct6), sl6⟩)
    (c6 : PySem.W.codeIn K cd6 "Spots.__or__" = true)
    (k6 : PySem.W.keepIn K (.ref f6) = true)
    (a6 : PySem.W.findIn K (.ref C_Spots) "__or__" = some (some (.ref f6)))
    (i6 : PySem.W.isFn K (.ref f6) = true)
    (l7 : K.lookup f7 = some ⟨oc7, od7, .func (PySem.W.fnOf "__and__" "Spots.__and__" (defArgs s_Spots_and) (defBody s_Spots_and) (defScope s_Spots_and) .none kV7 dc7 pm7 an7 cd7 ct7), sl7⟩)
    (c7 : PySem.W.codeIn K cd7 "Spots.__and__" = true)
    (k7 : PySem.W.keepIn K (.ref f7) = true)
    (a7 : PySem.W.findIn K (.ref C_Spots) "__and__" = some (some (.ref f7)))
    (i7 : PySem.W.isFn K (.ref f7) = true)
    (l8 : K.lookup f8 = some ⟨oc8, od8, .func (PySem.W.fnOf "__sub__" "Spots.__sub__" (defArgs s_Spots_sub) (defBody s_Spots_sub) (defScope s_Spots_sub) .none kV8 dc8 pm8 an8 cd8 ct8), sl8⟩)
    (c8 : PySem.W.codeIn K cd8 "Spots.__sub__" = true)
    (k8 : PySem.W.keepIn K (.ref f8) = true)
    (a8 : PySem.W.findIn K (.ref C_Spots) "__sub__" = some (some (.ref f8)))
    (i8 : PySem.W.isFn K (.ref f8) = true)
    (l9 : K.lookup f9 = some ⟨oc9, od9, .func (PySem.W.fnOf "__len__" "Spots.__len__" (defArgs s_Spots_len) (defBody s_Spots_len) (defScope s_Spots_len) .none kV9 dc9 pm9 an9 cd9 ct9), sl9⟩)
    (c9 : PySem.W.codeIn K cd9 "Spots.__len__" = true)
    (k9 : PySem.W.keepIn K (.ref f9) = true)
    (a9 : PySem.W.findIn K (.ref C_Spots) "__len__" = some (some (.ref f9)))
    (i9 : PySem.W.isFn K (.ref f9) = true)
    (l10 : K.lookup f10 = some ⟨oc10, od10, .func (PySem.W.fnOf "__bool__" "Spots.__bool__" (defArgs s_Spots_bool) (defBody s_Spots_bool) (defScope s_Spots_bool) .none kV10 dc10 pm10 an10 cd10 ct10), sl10⟩)
    (c10 : PySem.W.codeIn K cd10 "Spots.__bool__" = true)
    (k10 : PySem.W.keepIn K (.ref f10) = true)
    (a10 : PySem.W.findIn K (.ref C_Spots) "__bool__" = some (some (.ref f10)))
    (i10 : PySem.W.isFn K (.ref f10) = true)
    (l11 : K.lookup f11 = some ⟨oc11, od11, .func (PySem.W.fnOf "__iter__" "Spots.__iter__" (defArgs s_Spots_iter) (defBody s_Spots_iter) (defScope s_Spots_iter) .none kV11 dc11 pm11 an11 cd11 ct11), sl11⟩)
    (c11 : PySem.W.codeIn K cd11 "Spots.__iter__" = true)
    (k11 : PySem.W.keepIn K (.ref f11) = true)
    (a11 : PySem.W.findIn K (.ref C_Spots) "__iter__" = some (some (.ref f11)))
    (i11 : PySem.W.isFn K (.ref f11) = true)
    (l12 : K.lookup f12 = some ⟨oc12, od12, .func (PySem.W.fnOf "__contains__" "Spots.__contains__" (defArgs s_Spots_contains) (defBody s_Spots_contains) (defScope s_Spots_contains) .none kV12 dc12 pm12 an12 cd12 ct12), sl12⟩)
    (c12 : PySem.W.codeIn K cd12 "Spots.__contains__" = true)
    (k12 : PySem.W.keepIn K (.ref f12) = true)
    (a12 : PySem.W.findIn K (.ref C_Spots) "__contains__" = some (some (.ref f12)))
    (i12 : PySem.W.isFn K (.ref f12) = true)
    (l13 : K.lookup f13 = some ⟨oc13, od13, .func (PySem.W.fnOf "__eq__" "Spots.__eq__" (defArgs s_Spots_eq) (defBody s_Spots_eq) (defScope s_Spots_eq) .none kV13 dc13 pm13 an13 cd13 ct13), sl13⟩)
    (c13 : PySem.W.codeIn K cd13 "Spots.__eq__" = true)
    (k13 : PySem.W.keepIn K (.ref f13) = true)
    (a13 : PySem.W.findIn K (.ref C_Spots) "__eq__" = some (some (.ref f13)))
    (i13 : PySem.W.isFn K (.ref f13) = true)
    (l14 : K.lookup f14 = some ⟨oc14, od14, .func (PySem.W.fnOf "__str__" "Spots.__str__" (defArgs s_Spots_str) (defBody s_Spots_str) (defScope s_Spots_str) .none kV14 dc14 pm14 an14 cd14 ct14), sl14⟩)
    (c14 : PySem.W.codeIn K cd14 "Spots.__str__" = true)
    (k14 : PySem.W.keepIn K (.ref f14) = true)
    (a14 : PySem.W.findIn K (.ref C_Spots) "__str__" = some (some (.ref f14)))
    (i14 : PySem.W.isFn K (.ref f14) = true)
    (l15 : K.lookup f15 = some ⟨oc15, od15, .func (PySem.W.fnOf "is_name" "is_name" (defArgs s_is_name) (defBody s_is_name) (defScope s_is_name) .none kV15 dc15 pm15 an15 cd15 ct15), sl15⟩)
    (c15 : PySem.W.codeIn K cd15 "is_name" = true)
    (k15 : PySem.W.keepIn K (.ref f15) = true)
    (a15 : PySem.W.nsIn K mainGlobals "is_name" = some (some (.ref f15)))
    (l16 : K.lookup f16 = some ⟨oc16, od16, .func (PySem.W.fnOf "is_whole" "is_whole" (defArgs s_is_whole) (defBody s_is_whole) (defScope s_is_whole) .none kV16 dc16 pm16 an16 cd16 ct16), sl16⟩)
    (c16 : PySem.W.codeIn K cd16 "is_whole" = true)
    (k16 : PySem.W.keepIn K (.ref f16) = true)
    (a16 : PySem.W.nsIn K mainGlobals "is_whole" = some (some (.ref f16)))
    (l17 : K.lookup f17 = some ⟨oc17, od17, .func (PySem.W.fnOf "_checked_spots" "_checked_spots" (defArgs s_checked_spots) (defBody s_checked_spots) (defScope s_checked_spots) .none kV17 dc17 pm17 an17 cd17 ct17), sl17⟩)
    (c17 : PySem.W.codeIn K cd17 "_checked_spots" = true)
    (k17 : PySem.W.keepIn K (.ref f17) = true)
    (a17 : PySem.W.nsIn K mainGlobals "_checked_spots" = some (some (.ref f17)))
    (l18 : K.lookup f18 = some ⟨oc18, od18, .func (PySem.W.fnOf "_is_spot" "_is_spot" (defArgs s_is_spot) (defBody s_is_spot) (defScope s_is_spot) .none kV18 dc18 pm18 an18 cd18 ct18), sl18⟩)
    (c18 : PySem.W.codeIn K cd18 "_is_spot" = true)
    (k18 : PySem.W.keepIn K (.ref f18) = true)
    (a18 : PySem.W.nsIn K mainGlobals "_is_spot" = some (some (.ref f18)))
    (l19 : K.lookup f19 = some ⟨oc19, od19, .func (PySem.W.fnOf "_check_is_spots" "_check_is_spots" (defArgs s_check_is_spots) (defBody s_check_is_spots) (defScope s_check_is_spots) .none kV19 dc19 pm19 an19 cd19 ct19), sl19⟩)
    (c19 : PySem.W.codeIn K cd19 "_check_is_spots" = true)
    (k19 : PySem.W.keepIn K (.ref f19) = true)
    (a19 : PySem.W.nsIn K mainGlobals "_check_is_spots" = some (some (.ref f19)))
    (l20 : K.lookup f20 = some ⟨oc20, od20, .func (PySem.W.fnOf "_spot_text" "_spot_text" (defArgs s_spot_text) (defBody s_spot_text) (defScope s_spot_text) .none kV20 dc20 pm20 an20 cd20 ct20), sl20⟩)
    (c20 : PySem.W.codeIn K cd20 "_spot_text" = true)
    (k20 : PySem.W.keepIn K (.ref f20) = true)
    (a20 : PySem.W.nsIn K mainGlobals "_spot_text" = some (some (.ref f20)))
    (l21 : K.lookup f21 = some ⟨oc21, od21, .func (PySem.W.fnOf "_law_dice" "_law_dice" (defArgs s_l_dice) (defBody s_l_dice) (defScope s_l_dice) .none kV21 dc21 pm21 an21 cd21 ct21), sl21⟩)
    (c21 : PySem.W.codeIn K cd21 "_law_dice" = true)
    (k21 : PySem.W.keepIn K (.ref f21) = true)
    (a21 : PySem.W.nsIn K mainGlobals "_law_dice" = some (some (.ref f21)))
    (l22 : K.lookup f22 = some ⟨oc22, od22, .func (PySem.W.fnOf "_law_roll" "_law_roll" (defArgs s_l_roll) (defBody s_l_roll) (defScope s_l_roll) .none kV22 dc22 pm22 an22 cd22 ct22), sl22⟩)
    (c22 : PySem.W.codeIn K cd22 "_law_roll" = true)
    (k22 : PySem.W.keepIn K (.ref f22) = true)
    (a22 : PySem.W.nsIn K mainGlobals "_law_roll" = some (some (.ref f22)))
    (l23 : K.lookup f23 = some ⟨oc23, od23, .func (PySem.W.fnOf "_law_pick" "_law_pick" (defArgs s_l_pick) (defBody s_l_pick) (defScope s_l_pick) .none kV23 dc23 pm23 an23 cd23 ct23), sl23⟩)
    (c23 : PySem.W.codeIn K cd23 "_law_pick" = true)
    (k23 : PySem.W.keepIn K (.ref f23) = true)
    (a23 : PySem.W.nsIn K mainGlobals "_law_pick" = some (some (.ref f23)))
    (l24 : K.lookup f24 = some ⟨oc24, od24, .func (PySem.W.fnOf "_law_word" "_law_word" (defArgs s_l_word) (defBody s_l_word) (defScope s_l_word) .none kV24 dc24 pm24 an24 cd24 ct24), sl24⟩)
    (c24 : PySem.W.codeIn K cd24 "_law_word" = true)
    (k24 : PySem.W.keepIn K (.ref f24) = true)
    (a24 : PySem.W.nsIn K mainGlobals "_law_word" = some (some (.ref f24)))
    (l25 : K.lookup f25 = some ⟨oc25, od25, .func (PySem.W.fnOf "_law_index" "_law_index" (defArgs s_l_index) (defBody s_l_index) (defScope s_l_index) .none kV25 dc25 pm25 an25 cd25 ct25), sl25⟩)
    (c25 : PySem.W.codeIn K cd25 "_law_index" = true)
    (k25 : PySem.W.keepIn K (.ref f25) = true)
    (a25 : PySem.W.nsIn K mainGlobals "_law_index" = some (some (.ref f25)))
    (l26 : K.lookup f26 = some ⟨oc26, od26, .func (PySem.W.fnOf "_law_spot" "_law_spot" (defArgs s_l_spot) (defBody s_l_spot) (defScope s_l_spot) .none kV26 dc26 pm26 an26 cd26 ct26), sl26⟩)
    (c26 : PySem.W.codeIn K cd26 "_law_spot" = true)
    (k26 : PySem.W.keepIn K (.ref f26) = true)
    (a26 : PySem.W.nsIn K mainGlobals "_law_spot" = some (some (.ref f26)))
    (l27 : K.lookup f27 = some ⟨oc27, od27, .func (PySem.W.fnOf "_law_different" "_law_different" (defArgs s_l_different) (defBody s_l_different) (defScope s_l_different) .none kV27 dc27 pm27 an27 cd27 ct27), sl27⟩)
    (c27 : PySem.W.codeIn K cd27 "_law_different" = true)
    (k27 : PySem.W.keepIn K (.ref f27) = true)
    (a27 : PySem.W.nsIn K mainGlobals "_law_different" = some (some (.ref f27)))
    (l28 : K.lookup f28 = some ⟨oc28, od28, .func (PySem.W.fnOf "_law_is_told" "_law_is_told" (defArgs s_l_is_told) (defBody s_l_is_told) (defScope s_l_is_told) .none kV28 dc28 pm28 an28 cd28 ct28), sl28⟩)
    (c28 : PySem.W.codeIn K cd28 "_law_is_told" = true)
    (k28 : PySem.W.keepIn K (.ref f28) = true)
    (a28 : PySem.W.nsIn K mainGlobals "_law_is_told" = some (some (.ref f28)))
    (l29 : K.lookup f29 = some ⟨oc29, od29, .func (PySem.W.fnOf "_law_one_by_one" "_law_one_by_one" (defArgs s_l_one_by_one) (defBody s_l_one_by_one) (defScope s_l_one_by_one) .none kV29 dc29 pm29 an29 cd29 ct29), sl29⟩)
    (c29 : PySem.W.codeIn K cd29 "_law_one_by_one" = true)
    (k29 : PySem.W.keepIn K (.ref f29) = true)
    (a29 : PySem.W.nsIn K mainGlobals "_law_one_by_one" = some (some (.ref f29)))
    (l30 : K.lookup f30 = some ⟨oc30, od30, .func (PySem.W.fnOf "_law_signs_right" "_law_signs_right" (defArgs s_l_signs_right) (defBody s_l_signs_right) (defScope s_l_signs_right) .none kV30 dc30 pm30 an30 cd30 ct30), sl30⟩)
    (c30 : PySem.W.codeIn K cd30 "_law_signs_right" = true)
    (k30 : PySem.W.keepIn K (.ref f30) = true)
    (a30 : PySem.W.nsIn K mainGlobals "_law_signs_right" = some (some (.ref f30)))
    (l31 : K.lookup f31 = some ⟨oc31, od31, .func (PySem.W.fnOf "_law_met" "_law_met" (defArgs s_l_met) (defBody s_l_met) (defScope s_l_met) .none kV31 dc31 pm31 an31 cd31 ct31), sl31⟩)
    (c31 : PySem.W.codeIn K cd31 "_law_met" = true)
    (k31 : PySem.W.keepIn K (.ref f31) = true)
    (a31 : PySem.W.nsIn K mainGlobals "_law_met" = some (some (.ref f31)))
    (l32 : K.lookup f32 = some ⟨oc32, od32, .func (PySem.W.fnOf "_law_odd_spot" "_law_odd_spot" (defArgs s_l_odd_spot) (defBody s_l_odd_spot) (defScope s_l_odd_spot) .none kV32 dc32 pm32 an32 cd32 ct32), sl32⟩)
    (c32 : PySem.W.codeIn K cd32 "_law_odd_spot" = true)
    (k32 : PySem.W.keepIn K (.ref f32) = true)
    (a32 : PySem.W.nsIn K mainGlobals "_law_odd_spot" = some (some (.ref f32)))
    (l33 : K.lookup f33 = some ⟨oc33, od33, .func (PySem.W.fnOf "_law_more" "_law_more" (defArgs s_l_more) (defBody s_l_more) (defScope s_l_more) .none kV33 dc33 pm33 an33 cd33 ct33), sl33⟩)
    (c33 : PySem.W.codeIn K cd33 "_law_more" = true)
    (k33 : PySem.W.keepIn K (.ref f33) = true)
    (a33 : PySem.W.nsIn K mainGlobals "_law_more" = some (some (.ref f33)))
    (l34 : K.lookup f34 = some ⟨oc34, od34, .func (PySem.W.fnOf "_law_refused" "_law_refused" (defArgs s_l_refused) (defBody s_l_refused) (defScope s_l_refused) .none kV34 dc34 pm34 an34 (.ref cb34) ct34), sl34⟩)
    (c34 : PySem.W.codeIn K (.ref cb34) "_law_refused" = true)
    (k34 : PySem.W.keepIn K (.ref f34) = true)
    (cl34 : K.lookup cb34 = some ⟨cx34, cz34, .fields cw34, cs34⟩)
    (cv34 : cw34[11]? = some (.ref tp34))
    (cn34 : K.lookup tp34 = none)
    (a34 : PySem.W.nsIn K mainGlobals "_law_refused" = some (some (.ref f34)))
    (l35 : K.lookup f35 = some ⟨oc35, od35, .func (PySem.W.fnOf "_law_right" "_law_right" (defArgs s_l_right) (defBody s_l_right) (defScope s_l_right) .none kV35 dc35 pm35 an35 cd35 ct35), sl35⟩)
    (c35 : PySem.W.codeIn K cd35 "_law_right" = true)
    (k35 : PySem.W.keepIn K (.ref f35) = true)
    (a35 : PySem.W.nsIn K mainGlobals "_law_right" = some (some (.ref f35)))
    (l36 : K.lookup f36 = some ⟨oc36, od36, .func (PySem.W.fnOf "law" "law" (defArgs s_law) (defBody s_law) (defScope s_law) .none kV36 dc36 pm36 an36 cd36 ct36), sl36⟩)
    (c36 : PySem.W.codeIn K cd36 "law" = true)
    (k36 : PySem.W.keepIn K (.ref f36) = true)
    (a36 : PySem.W.nsIn K mainGlobals "law" = some (some (.ref f36)))
    (ia_Sound : PySem.W.findIn K (.ref C_Sound) "__class__" = some (some (.builtin "object.__class__")))
    (ib_Sound : PySem.W.specialIn K (.builtin "object.__class__") "__get__" = some (some (.builtin "getset_descriptor.__get__")))
    (ic_Sound : PySem.W.takesIn K (.builtin "object.__class__") = some true)
    (id_Sound : PySem.W.mroIn K C_Sound (.type "object") = some true)
    (ko_Sound_NoneType : PySem.W.kitOne K (.type "NoneType") (.ref C_Sound) = some false)
    (ko_Sound_bool : PySem.W.kitOne K (.type "bool") (.ref C_Sound) = some false)
    (ko_Sound_int : PySem.W.kitOne K (.type "int") (.ref C_Sound) = some false)
    (ko_Sound_str : PySem.W.kitOne K (.type "str") (.ref C_Sound) = some false)
    (ko_Sound_list : PySem.W.kitOne K (.type "list") (.ref C_Sound) = some false)
    (ko_Sound_tuple : PySem.W.kitOne K (.type "tuple") (.ref C_Sound) = some false)
    (ko_Sound_dict : PySem.W.kitOne K (.type "dict") (.ref C_Sound) = some false)
    (nf_Sound_NoneType : PySem.W.notFirst K C_Sound (.type "NoneType") = true)
    (nf_Sound_bool : PySem.W.notFirst K C_Sound (.type "bool") = true)
    (nf_Sound_int : PySem.W.notFirst K C_Sound (.type "int") = true)
    (nf_Sound_str : PySem.W.notFirst K C_Sound (.type "str") = true)
    (nf_Sound_list : PySem.W.notFirst K C_Sound (.type "list") = true)
    (nf_Sound_tuple : PySem.W.notFirst K C_Sound (.type "tuple") = true)
    (nf_Sound_dict : PySem.W.notFirst K C_Sound (.type "dict") = true)
    (sf_Spots : PySem.W.selfFirst K C_Spots = true)
    (ni_Spots : Kit.noIp K C_Spots "__ior__" = true)
    (ro_Spots_or : PySem.W.findIn K (.ref C_Spots) "__ror__" = some none)
    (ro_Spots_and : PySem.W.findIn K (.ref C_Spots) "__rand__" = some none)
    (ro_Spots_sub : PySem.W.findIn K (.ref C_Spots) "__rsub__" = some none)
    (kk_Spots_tuple : PySem.W.kitOne K (.ref C_Spots) (.type "tuple") = some false)
    (ne_Spots : PySem.W.findIn K (.ref C_Spots) "__ne__" = some (some (.builtin "object.__ne__")))
    (ia_Spots : PySem.W.findIn K (.ref C_Spots) "__class__" = some (some (.builtin "object.__class__")))
    (ib_Spots : PySem.W.specialIn K (.builtin "object.__class__") "__get__" = some (some (.builtin "getset_descriptor.__get__")))
    (ic_Spots : PySem.W.takesIn K (.builtin "object.__class__") = some true)
    (id_Spots : PySem.W.mroIn K C_Spots (.type "object") = some true)
    (ko_Spots_NoneType : PySem.W.kitOne K (.type "NoneType") (.ref C_Spots) = some false)
    (ko_Spots_bool : PySem.W.kitOne K (.type "bool") (.ref C_Spots) = some false)
    (ko_Spots_int : PySem.W.kitOne K (.type "int") (.ref C_Spots) = some false)
    (ko_Spots_str : PySem.W.kitOne K (.type "str") (.ref C_Spots) = some false)
    (ko_Spots_list : PySem.W.kitOne K (.type "list") (.ref C_Spots) = some false)
    (ko_Spots_tuple : PySem.W.kitOne K (.type "tuple") (.ref C_Spots) = some false)
    (ko_Spots_dict : PySem.W.kitOne K (.type "dict") (.ref C_Spots) = some false)
    (nf_Spots_NoneType : PySem.W.notFirst K C_Spots (.type "NoneType") = true)
    (nf_Spots_bool : PySem.W.notFirst K C_Spots (.type "bool") = true)
    (nf_Spots_int : PySem.W.notFirst K C_Spots (.type "int") = true)
    (nf_Spots_str : PySem.W.notFirst K C_Spots (.type "str") = true)
    (nf_Spots_list : PySem.W.notFirst K C_Spots (.type "list") = true)
    (nf_Spots_tuple : PySem.W.notFirst K C_Spots (.type "tuple") = true)
    (nf_Spots_dict : PySem.W.notFirst K C_Spots (.type "dict") = true)
    (v_LONGEST_NAME : PySem.W.nsIn K mainGlobals "_LONGEST_NAME" = some (some (.int 8 t_LONGEST_NAME)))
    (z_isinstance : PySem.W.nsIn K mainGlobals "isinstance" = some none)
    (z_len : PySem.W.nsIn K mainGlobals "len" = some none)
    (z_classmethod : PySem.W.nsIn K mainGlobals "classmethod" = some none)
    (z_tuple : PySem.W.nsIn K mainGlobals "tuple" = some none)
    (z_property : PySem.W.nsIn K mainGlobals "property" = some none)
    (z_all : PySem.W.nsIn K mainGlobals "all" = some none)
    (z_sorted : PySem.W.nsIn K mainGlobals "sorted" = some none)
    (z_set : PySem.W.nsIn K mainGlobals "set" = some none)
    (z_bool : PySem.W.nsIn K mainGlobals "bool" = some none)
    (z_iter : PySem.W.nsIn K mainGlobals "iter" = some none)
    (z_str : PySem.W.nsIn K mainGlobals "str" = some none)
    (z_int : PySem.W.nsIn K mainGlobals "int" = some none)
    (z_max : PySem.W.nsIn K mainGlobals "max" = some none)
    (z_abs : PySem.W.nsIn K mainGlobals "abs" = some none)
    (z_range : PySem.W.nsIn K mainGlobals "range" = some none)
    (z_repr : PySem.W.nsIn K mainGlobals "repr" = some none)
    (z_list : PySem.W.nsIn K mainGlobals "list" = some none)
    (z_min : PySem.W.nsIn K mainGlobals "min" = some none)
    (cf34 : (recsOf qq).find? (fun e => e.name == ("_law_refused" : Str)) = some dd34) :
    Kit.LawT l w K 31 63 "_law_script" mg fa qq := by
  have e := hfa.symm.trans (PySem.W.mg_of X G a36)
  cases e
  let T : Txt K mg := {
    c_Sound := C_Sound,
    g_Sound := PySem.W.mg_of X G aC_Sound,
    cl_Sound := ⟨pg_Sound, hd_Sound, po_Sound, sa_Sound⟩,
    kC_Sound := kpC_Sound,
    nA_Sound_worth := nA_Sound_worth,
    c_Spots := C_Spots,
    g_Spots := PySem.W.mg_of X G aC_Spots,
    cl_Spots := ⟨pg_Spots, hd_Spots, po_Spots, sa_Spots⟩,
    kC_Spots := kpC_Spots,
    nA_Spots_spots := nA_Spots_spots,
    mc_Spots := MC_Spots,
    rd_Spots := ⟨rr_Spots, ra_Spots⟩,
    c_InvalidSpot := C_InvalidSpot,
    g_InvalidSpot := PySem.W.mg_of X G aC_InvalidSpot,
    x_InvalidSpot := x1_InvalidSpot,
    kC_InvalidSpot := kC1_InvalidSpot,
    eb_InvalidSpot := eb1_InvalidSpot,
    et_InvalidSpot := et1_InvalidSpot,
    ec_InvalidSpot := ec1_InvalidSpot,
    es_InvalidSpot := es1_InvalidSpot,
    c_InvalidOperation := C_InvalidOperation,
    g_InvalidOperation := PySem.W.mg_of X G aC_InvalidOperation,
    x_InvalidOperation := x1_InvalidOperation,
    kC_InvalidOperation := kC1_InvalidOperation,
    eb_InvalidOperation := eb1_InvalidOperation,
    et_InvalidOperation := et1_InvalidOperation,
    ec_InvalidOperation := ec1_InvalidOperation,
    es_InvalidOperation := es1_InvalidOperation,
    xs_InvalidSpot_InvalidOperation := xs_InvalidSpot_InvalidOperation,
    xs_InvalidOperation_InvalidSpot := xs_InvalidOperation_InvalidSpot,
    a_Sound_init := f1,
    fd_Sound_init := _,
    F_Sound_init := fun_mk (st := s_Sound_init) l1 c1 k1,
    b_Sound_init := (fun_mk (st := s_Sound_init) l1 c1 k1).binds (ps := ["self", "worth"]) fun _ _ _ _ _ _ us hl => match us, hl with | [_, _], _ => rfl,
    M_Sound := ⟨mk_Sound, a1, i1, kpC_Sound⟩,
    a_Spots_init := f2,
    fd_Spots_init := _,
    F_Spots_init := fun_mk (st := s_Spots_init) l2 c2 k2,
    M_Spots := ⟨mk_Spots, a2, i2, kpC_Spots⟩,
    a_Spots_of := f3,
    fd_Spots_of := _,
    F_Spots_of := fun_mk (st := s_Spots_of) l3 c3 k3,
    b_Spots_of := (fun_mk (st := s_Spots_of) l3 c3 k3).binds (ps := ["cls", "spots"]) fun _ _ _ _ _ _ us hl => match us, hl with | [_, _], _ => rfl,
    q_Spots_of := p3,
    cm_Spots_of := ⟨a3, ⟨_, r3⟩, h3⟩,
    a_Spots_listed := f4,
    fd_Spots_listed := _,
    F_Spots_listed := fun_mk (st := s_Spots_listed) l4 c4 k4,
    b_Spots_listed := (fun_mk (st := s_Spots_listed) l4 c4 k4).binds (ps := ["self"]) fun _ _ _ _ _ _ us hl => match us, hl with | [_], _ => rfl,
    q_Spots_listed := p4,
    p_Spots_listed := ⟨a4, g4, t4, _, r4⟩,
    a_Spots_within := f5,
    fd_Spots_within := _,
    F_Spots_within := fun_mk (st := s_Spots_within) l5 c5 k5,
    b_Spots_within := (fun_mk (st := s_Spots_within) l5 c5 k5).binds (ps := ["self", "other"]) fun _ _ _ _ _ _ us hl => match us, hl with | [_, _], _ => rfl,
    m_Spots_within := ⟨a5, i5, k5⟩,
    a_Spots_or := f6,
    fd_Spots_or := _,
    F_Spots_or := fun_mk (st := s_Spots_or) l6 c6 k6,
    b_Spots_or := (fun_mk (st := s_Spots_or) l6 c6 k6).binds (ps := ["self", "other"]) fun _ _ _ _ _ _ us hl => match us, hl with | [_, _], _ => rfl,
    m_Spots_or := ⟨a6, i6, k6⟩,
    a_Spots_and := f7,
    fd_Spots_and := _,
    F_Spots_and := fun_mk (st := s_Spots_and) l7 c7 k7,
    b_Spots_and := (fun_mk (st := s_Spots_and) l7 c7 k7).binds (ps := ["self", "other"]) fun _ _ _ _ _ _ us hl => match us, hl with | [_, _], _ => rfl,
    m_Spots_and := ⟨a7, i7, k7⟩,
    a_Spots_sub := f8,
    fd_Spots_sub := _,
    F_Spots_sub := fun_mk (st := s_Spots_sub) l8 c8 k8,
    b_Spots_sub := (fun_mk (st := s_Spots_sub) l8 c8 k8).binds (ps := ["self", "other"]) fun _ _ _ _ _ _ us hl => match us, hl with | [_, _], _ => rfl,
    m_Spots_sub := ⟨a8, i8, k8⟩,
    a_Spots_len := f9,
    fd_Spots_len := _,
    F_Spots_len := fun_mk (st := s_Spots_len) l9 c9 k9,
    b_Spots_len := (fun_mk (st := s_Spots_len) l9 c9 k9).binds (ps := ["self"]) fun _ _ _ _ _ _ us hl => match us, hl with | [_], _ => rfl,
    m_Spots_len := ⟨a9, i9, k9⟩,
    a_Spots_bool := f10,
    fd_Spots_bool := _,
    F_Spots_bool := fun_mk (st := s_Spots_bool) l10 c10 k10,
    b_Spots_bool := (fun_mk (st := s_Spots_bool) l10 c10 k10).binds (ps := ["self"]) fun _ _ _ _ _ _ us hl => match us, hl with | [_], _ => rfl,
    m_Spots_bool := ⟨a10, i10, k10⟩,
    a_Spots_iter := f11,
    fd_Spots_iter := _,
    F_Spots_iter := fun_mk (st := s_Spots_iter) l11 c11 k11,
    b_Spots_iter := (fun_mk (st := s_Spots_iter) l11 c11 k11).binds (ps := ["self"]) fun _ _ _ _ _ _ us hl => match us, hl with | [_], _ => rfl,
    m_Spots_iter := ⟨a11, i11, k11⟩,
    a_Spots_contains := f12,
    fd_Spots_contains := _,
    F_Spots_contains := fun_mk (st := s_Spots_contains) l12 c12 k12,
    b_Spots_contains := (fun_mk (st := s_Spots_contains) l12 c12 k12).binds (ps := ["self", "value"]) fun _ _ _ _ _ _ us hl => match us, hl with | [_, _], _ => rfl,
    m_Spots_contains := ⟨a12, i12, k12⟩,
    a_Spots_eq := f13,
    fd_Spots_eq := _,
    F_Spots_eq := fun_mk (st := s_Spots_eq) l13 c13 k13,
    b_Spots_eq := (fun_mk (st := s_Spots_eq) l13 c13 k13).binds (ps := ["self", "other"]) fun _ _ _ _ _ _ us hl => match us, hl with | [_, _], _ => rfl,
    m_Spots_eq := ⟨a13, i13, k13⟩,
    a_Spots_str := f14,
    fd_Spots_str := _,
    F_Spots_str := fun_mk (st := s_Spots_str) l14 c14 k14,
    b_Spots_str := (fun_mk (st := s_Spots_str) l14 c14 k14).binds (ps := ["self"]) fun _ _ _ _ _ _ us hl => match us, hl with | [_], _ => rfl,
    m_Spots_str := ⟨a14, i14, k14⟩,
    a_is_name := f15,
    fd_is_name := _,
    F_is_name := fun_mk (st := s_is_name) l15 c15 k15,
    b_is_name := (fun_mk (st := s_is_name) l15 c15 k15).binds (ps := ["value"]) fun _ _ _ _ _ _ us hl => match us, hl with | [_], _ => rfl,
    g_is_name := PySem.W.mg_of X G a15,
    a_is_whole := f16,
    fd_is_whole := _,
    F_is_whole := fun_mk (st := s_is_whole) l16 c16 k16,
    b_is_whole := (fun_mk (st := s_is_whole) l16 c16 k16).binds (ps := ["value"]) fun _ _ _ _ _ _ us hl => match us, hl with | [_], _ => rfl,
    g_is_whole := PySem.W.mg_of X G a16,
    a_checked_spots := f17,
    fd_checked_spots := _,
    F_checked_spots := fun_mk (st := s_checked_spots) l17 c17 k17,
    b_checked_spots := (fun_mk (st := s_checked_spots) l17 c17 k17).binds (ps := ["spots"]) fun _ _ _ _ _ _ us hl => match us, hl with | [_], _ => rfl,
    g_checked_spots := PySem.W.mg_of X G a17,
    a_is_spot := f18,
    fd_is_spot := _,
    F_is_spot := fun_mk (st := s_is_spot) l18 c18 k18,
    b_is_spot := (fun_mk (st := s_is_spot) l18 c18 k18).binds (ps := ["value"]) fun _ _ _ _ _ _ us hl => match us, hl with | [_], _ => rfl,
    g_is_spot := PySem.W.mg_of X G a18,
    a_check_is_spots := f19,
    fd_check_is_spots := _,
    F_check_is_spots := fun_mk (st := s_check_is_spots) l19 c19 k19,
    b_check_is_spots := (fun_mk (st := s_check_is_spots) l19 c19 k19).binds (ps := ["value"]) fun _ _ _ _ _ _ us hl => match us, hl with | [_], _ => rfl,
    g_check_is_spots := PySem.W.mg_of X G a19,
    a_spot_text := f20,
    fd_spot_text := _,
    F_spot_text := fun_mk (st := s_spot_text) l20 c20 k20,
    b_spot_text := (fun_mk (st := s_spot_text) l20 c20 k20).binds (ps := ["spot"]) fun _ _ _ _ _ _ us hl => match us, hl with | [_], _ => rfl,
    g_spot_text := PySem.W.mg_of X G a20,
    a_l_dice := f21,
    fd_l_dice := _,
    F_l_dice := fun_mk (st := s_l_dice) l21 c21 k21,
    b_l_dice := (fun_mk (st := s_l_dice) l21 c21 k21).binds (ps := ["_law_script", "_law_spot_here"]) fun _ _ _ _ _ _ us hl => match us, hl with | [_, _], _ => rfl,
    g_l_dice := PySem.W.mg_of X G a21,
    a_l_roll := f22,
    fd_l_roll := _,
    F_l_roll := fun_mk (st := s_l_roll) l22 c22 k22,
    b_l_roll := (fun_mk (st := s_l_roll) l22 c22 k22).binds (ps := ["_law_dice_here", "_law_upto"]) fun _ _ _ _ _ _ us hl => match us, hl with | [_, _], _ => rfl,
    g_l_roll := PySem.W.mg_of X G a22,
    a_l_pick := f23,
    fd_l_pick := _,
    F_l_pick := fun_mk (st := s_l_pick) l23 c23 k23,
    b_l_pick := (fun_mk (st := s_l_pick) l23 c23 k23).binds (ps := ["_law_dice_here", "_law_items"]) fun _ _ _ _ _ _ us hl => match us, hl with | [_, _], _ => rfl,
    g_l_pick := PySem.W.mg_of X G a23,
    a_l_word := f24,
    fd_l_word := _,
    F_l_word := fun_mk (st := s_l_word) l24 c24 k24,
    b_l_word := (fun_mk (st := s_l_word) l24 c24 k24).binds (ps := ["_law_dice_here"]) fun _ _ _ _ _ _ us hl => match us, hl with | [_], _ => rfl,
    g_l_word := PySem.W.mg_of X G a24,
    a_l_index := f25,
    fd_l_index := _,
    F_l_index := fun_mk (st := s_l_index) l25 c25 k25,
    b_l_index := (fun_mk (st := s_l_index) l25 c25 k25).binds (ps := ["_law_dice_here"]) fun _ _ _ _ _ _ us hl => match us, hl with | [_], _ => rfl,
    g_l_index := PySem.W.mg_of X G a25,
    a_l_spot := f26,
    fd_l_spot := _,
    F_l_spot := fun_mk (st := s_l_spot) l26 c26 k26,
    b_l_spot := (fun_mk (st := s_l_spot) l26 c26 k26).binds (ps := ["_law_dice_here", "_law_words"]) fun _ _ _ _ _ _ us hl => match us, hl with | [_, _], _ => rfl,
    g_l_spot := PySem.W.mg_of X G a26,
    a_l_different := f27,
    fd_l_different := _,
    F_l_different := fun_mk (st := s_l_different) l27 c27 k27,
    b_l_different := (fun_mk (st := s_l_different) l27 c27 k27).binds (ps := ["_law_spots"]) fun _ _ _ _ _ _ us hl => match us, hl with | [_], _ => rfl,
    g_l_different := PySem.W.mg_of X G a27,
    a_l_is_told := f28,
    fd_l_is_told := _,
    F_l_is_told := fun_mk (st := s_l_is_told) l28 c28 k28,
    b_l_is_told := (fun_mk (st := s_l_is_told) l28 c28 k28).binds (ps := ["_law_found", "_law_spots"]) fun _ _ _ _ _ _ us hl => match us, hl with | [_, _], _ => rfl,
    g_l_is_told := PySem.W.mg_of X G a28,
    a_l_one_by_one := f29,
    fd_l_one_by_one := _,
    F_l_one_by_one := fun_mk (st := s_l_one_by_one) l29 c29 k29,
    b_l_one_by_one := (fun_mk (st := s_l_one_by_one) l29 c29 k29).binds (ps := ["_law_spots"]) fun _ _ _ _ _ _ us hl => match us, hl with | [_], _ => rfl,
    g_l_one_by_one := PySem.W.mg_of X G a29,
    a_l_signs_right := f30,
    fd_l_signs_right := _,
    F_l_signs_right := fun_mk (st := s_l_signs_right) l30 c30 k30,
    b_l_signs_right := (fun_mk (st := s_l_signs_right) l30 c30 k30).binds (ps := ["_law_one", "_law_two", "_law_first", "_law_second"]) fun _ _ _ _ _ _ us hl => match us, hl with | [_, _, _, _], _ => rfl,
    g_l_signs_right := PySem.W.mg_of X G a30,
    a_l_met := f31,
    fd_l_met := _,
    F_l_met := fun_mk (st := s_l_met) l31 c31 k31,
    b_l_met := (fun_mk (st := s_l_met) l31 c31 k31).binds (ps := ["_law_call"]) fun _ _ _ _ _ _ us hl => match us, hl with | [_], _ => rfl,
    g_l_met := PySem.W.mg_of X G a31,
    a_l_odd_spot := f32,
    fd_l_odd_spot := _,
    F_l_odd_spot := fun_mk (st := s_l_odd_spot) l32 c32 k32,
    b_l_odd_spot := (fun_mk (st := s_l_odd_spot) l32 c32 k32).binds (ps := ["_law_dice_here", "_law_spot_here"]) fun _ _ _ _ _ _ us hl => match us, hl with | [_, _], _ => rfl,
    g_l_odd_spot := PySem.W.mg_of X G a32,
    a_l_more := f33,
    fd_l_more := _,
    F_l_more := fun_mk (st := s_l_more) l33 c33 k33,
    b_l_more := (fun_mk (st := s_l_more) l33 c33 k33).binds (ps := ["_law_made", "_law_value"]) fun _ _ _ _ _ _ us hl => match us, hl with | [_, _], _ => rfl,
    g_l_more := PySem.W.mg_of X G a33,
    a_l_refused := f34,
    fd_l_refused := _,
    F_l_refused := fun_mk (st := s_l_refused) l34 c34 k34,
    b_l_refused := (fun_mk (st := s_l_refused) l34 c34 k34).binds (ps := ["_law_dice_here", "_law_made", "_law_spots", "_law_spot_here"]) fun _ _ _ _ _ _ us hl => match us, hl with | [_, _, _, _], _ => rfl,
    cb_l_refused := cb34,
    tp_l_refused := tp34,
    FC_l_refused := ⟨oc34, od34, kV34, dc34, pm34, an34, ct34, sl34, rfl, l34, c34⟩,
    tn_l_refused := cn34,
    g_l_refused := PySem.W.mg_of X G a34,
    a_l_right := f35,
    fd_l_right := _,
    F_l_right := fun_mk (st := s_l_right) l35 c35 k35,
    b_l_right := (fun_mk (st := s_l_right) l35 c35 k35).binds (ps := ["_law_dice_here"]) fun _ _ _ _ _ _ us hl => match us, hl with | [_], _ => rfl,
    g_l_right := PySem.W.mg_of X G a35,
    a_law := fa,
    fd_law := _,
    F_law := fun_mk (st := s_law) l36 c36 k36,
    b_law := (fun_mk (st := s_law) l36 c36 k36).binds (ps := ["_law_script"]) fun _ _ _ _ _ _ us hl => match us, hl with | [_], _ => rfl,
    g_law := PySem.W.mg_of X G a36,
    is_Sound := ⟨⟨pg_Sound, hd_Sound, po_Sound, sa_Sound⟩, ia_Sound, ib_Sound, ic_Sound, id_Sound⟩,
    fo_Sound := fun n hn => by
      simp only [Kit.BT, List.mem_cons, List.not_mem_nil, or_false] at hn
      rcases hn with rfl | rfl | rfl | rfl | rfl | rfl | rfl
      · exact ⟨ko_Sound_NoneType, nf_Sound_NoneType⟩
      · exact ⟨ko_Sound_bool, nf_Sound_bool⟩
      · exact ⟨ko_Sound_int, nf_Sound_int⟩
      · exact ⟨ko_Sound_str, nf_Sound_str⟩
      · exact ⟨ko_Sound_list, nf_Sound_list⟩
      · exact ⟨ko_Sound_tuple, nf_Sound_tuple⟩
      · exact ⟨ko_Sound_dict, nf_Sound_dict⟩,
    sf_Spots := sf_Spots,
    ni_Spots := ni_Spots,
    ro_Spots_or := ro_Spots_or,
    ro_Spots_and := ro_Spots_and,
    ro_Spots_sub := ro_Spots_sub,
    kk_Spots_tuple := kk_Spots_tuple,
    eq_Spots := ⟨a13, i13, ne_Spots, po_Spots⟩,
    is_Spots := ⟨⟨pg_Spots, hd_Spots, po_Spots, sa_Spots⟩, ia_Spots, ib_Spots, ic_Spots, id_Spots⟩,
    fo_Spots := fun n hn => by
      simp only [Kit.BT, List.mem_cons, List.not_mem_nil, or_false] at hn
      rcases hn with rfl | rfl | rfl | rfl | rfl | rfl | rfl
      · exact ⟨ko_Spots_NoneType, nf_Spots_NoneType⟩
      · exact ⟨ko_Spots_bool, nf_Spots_bool⟩
      · exact ⟨ko_Spots_int, nf_Spots_int⟩
      · exact ⟨ko_Spots_str, nf_Spots_str⟩
      · exact ⟨ko_Spots_list, nf_Spots_list⟩
      · exact ⟨ko_Spots_tuple, nf_Spots_tuple⟩
      · exact ⟨ko_Spots_dict, nf_Spots_dict⟩,
    t_LONGEST_NAME := t_LONGEST_NAME,
    m_LONGEST_NAME := PySem.W.mg_of X G v_LONGEST_NAME,
    n_isinstance := PySem.W.mg_none_of X G z_isinstance,
    n_len := PySem.W.mg_none_of X G z_len,
    n_classmethod := PySem.W.mg_none_of X G z_classmethod,
    n_tuple := PySem.W.mg_none_of X G z_tuple,
    n_property := PySem.W.mg_none_of X G z_property,
    n_all := PySem.W.mg_none_of X G z_all,
    n_sorted := PySem.W.mg_none_of X G z_sorted,
    n_set := PySem.W.mg_none_of X G z_set,
    n_bool := PySem.W.mg_none_of X G z_bool,
    n_iter := PySem.W.mg_none_of X G z_iter,
    n_str := PySem.W.mg_none_of X G z_str,
    n_int := PySem.W.mg_none_of X G z_int,
    n_max := PySem.W.mg_none_of X G z_max,
    n_abs := PySem.W.mg_none_of X G z_abs,
    n_range := PySem.W.mg_none_of X G z_range,
    n_repr := PySem.W.mg_none_of X G z_repr,
    n_list := PySem.W.mg_none_of X G z_list,
    n_min := PySem.W.mg_none_of X G z_min }
  exact ⟨T.fd_law, [(("_law_refused" : Str), cb34, tp34)], sp_law T, fun q hq => by
    simp only [List.mem_cons, List.not_mem_nil, or_false] at hq
    rcases hq with rfl
    · exact ⟨⟨_, cf34⟩, Kit.tab_in a34 l34 rfl cl34 cv34, cn34⟩,
    fun s v => .of_eq rfl, fun H a ns hl hb hT hS => told_law T (hT (("_law_refused" : Str), cb34, tp34) (by simp)) hl hb hS, fun base _ _ tb => ok_law T tb⟩
end K26
open PySem PySem.W PyProof.Rows
set_option maxHeartbeats 0 in
theorem PySem.Challenge.cw_goneunseen_k26_spots_holds : PySem.Challenge.rw_goneunseen_k26_spots.Holds := by
  w_on; o_law; k_head; (case hw => w_witness2)
  k_fill
  refine Kit.walk_ofT (l := PySem.Challenge.rw_goneunseen_k26_spots) (n := 63) (k := 31) (x := "_law_script") rfl (by decide) rfl ⟨rfl, by decide, by decide⟩ (fun w h Y => by first | exact PySem.W.kIn_of Y | exact PySem.W.km_in_of Y) ?F
  case F =>
    intro w mg fa h KX G hmg
    refine' K26.all_mk KX G hmg ?aC_Sound ?pg_Sound ?hd_Sound ?po_Sound ?sa_Sound ?kpC_Sound ?nA_Sound_worth ?aC_Spots ?pg_Spots ?hd_Spots ?po_Spots ?sa_Spots ?kpC_Spots ?nA_Spots_spots ?ty_Spots ?rr_Spots ?ra_Spots ?aC_InvalidSpot ?x1_InvalidSpot ?kC1_InvalidSpot ?eb1_InvalidSpot ?et1_InvalidSpot ?ec1_InvalidSpot ?es1_InvalidSpot ?aC_InvalidOperation ?x1_InvalidOperation ?kC1_InvalidOperation ?eb1_InvalidOperation ?et1_InvalidOperation ?ec1_InvalidOperation ?es1_InvalidOperation ?xs_InvalidSpot_InvalidOperation ?xs_InvalidOperation_InvalidSpot ?l1 ?c1 ?k1 ?mk_Sound ?a1 ?i1 ?l2 ?c2 ?k2 ?mk_Spots ?a2 ?i2 ?l3 ?c3 ?k3 ?a3 ?r3 ?h3 ?l4 ?c4 ?k4 ?a4 ?g4 ?t4 ?r4 ?l5 ?c5 ?k5 ?a5 ?i5 ?l6 ?c6 ?k6 ?a6 ?i6 ?l7 ?c7 ?k7 ?a7 ?i7 ?l8 ?c8 ?k8 ?a8 ?i8 ?l9 ?c9 ?k9 ?a9 ?i9 ?l10 ?c10 ?k10 ?a10 ?i10 ?l11 ?c11 ?k11 ?a11 ?i11 ?l12 ?c12 ?k12 ?a12 ?i12 ?l13 ?c13 ?k13 ?a13 ?i13 ?l14 ?c14 ?k14 ?a14 ?i14 ?l15 ?c15 ?k15 ?a15 ?l16 ?c16 ?k16 ?a16 ?l17 ?c17 ?k17 ?a17 ?l18 ?c18 ?k18 ?a18 ?l19 ?c19 ?k19 ?a19 ?l20 ?c20 ?k20 ?a20 ?l21 ?c21 ?k21 ?a21 ?l22 ?c22 ?k22 ?a22 ?l23 ?c23 ?k23 ?a23 ?l24 ?c24 ?k24 ?a24 ?l25 ?c25 ?k25 ?a25 ?l26 ?c26 ?k26 ?a26 ?l27 ?c27 ?k27 ?a27 ?l28 ?c28 ?k28 ?a28 ?l29 ?c29 ?k29 ?a29 ?l30 ?c30 ?k30 ?a30 ?l31 ?c31 ?k31 ?a31 ?l32 ?c32 ?k32 ?a32 ?l33 ?c33 ?k33 ?a33 ?l34 ?c34 ?k34 ?cl34 ?cv34 ?cn34 ?a34 ?l35 ?c35 ?k35 ?a35 ?l36 ?c36 ?k36 ?a36 ?ia_Sound ?ib_Sound ?ic_Sound ?id_Sound ?ko_Sound_NoneType ?ko_Sound_bool ?ko_Sound_int ?ko_Sound_str ?ko_Sound_list ?ko_Sound_tuple ?ko_Sound_dict ?nf_Sound_NoneType ?nf_Sound_bool ?nf_Sound_int ?nf_Sound_str ?nf_Sound_list ?nf_Sound_tuple ?nf_Sound_dict ?sf_Spots ?ni_Spots ?ro_Spots_or ?ro_Spots_and ?ro_Spots_sub ?kk_Spots_tuple ?ne_Spots ?ia_Spots ?ib_Spots ?ic_Spots ?id_Spots ?ko_Spots_NoneType ?ko_Spots_bool ?ko_Spots_int ?ko_Spots_str ?ko_Spots_list ?ko_Spots_tuple ?ko_Spots_dict ?nf_Spots_NoneType ?nf_Spots_bool ?nf_Spots_int ?nf_Spots_str ?nf_Spots_list ?nf_Spots_tuple ?nf_Spots_dict ?v_LONGEST_NAME ?z_isinstance ?z_len ?z_classmethod ?z_tuple ?z_property ?z_all ?z_sorted ?z_set ?z_bool ?z_iter ?z_str ?z_int ?z_max ?z_abs ?z_range ?z_repr ?z_list ?z_min ?cf34
    (case aC_Sound => k_is); (case aC_Spots => k_is); (case aC_InvalidSpot => k_is); (case aC_InvalidOperation => k_is); (case a15 => k_is); (case a16 => k_is); (case a17 => k_is); (case a18 => k_is); (case a19 => k_is); (case a20 => k_is); (case a21 => k_is); (case a22 => k_is); (case a23 => k_is); (case a24 => k_is); (case a25 => k_is); (case a26 => k_is); (case a27 => k_is); (case a28 => k_is); (case a29 => k_is); (case a30 => k_is); (case a31 => k_is); (case a32 => k_is); (case a33 => k_is); (case a34 => k_is); (case a35 => k_is); (case a36 => k_is); (case v_LONGEST_NAME => k_is); (case z_isinstance => k_is); (case z_len => k_is); (case z_classmethod => k_is); (case z_tuple => k_is); (case z_property => k_is); (case z_all => k_is); (case z_sorted => k_is); (case z_set => k_is); (case z_bool => k_is); (case z_iter => k_is); (case z_str => k_is); (case z_int => k_is); (case z_max => k_is); (case z_abs => k_is); (case z_range => k_is); (case z_repr => k_is); (case z_list => k_is); (case z_min => k_is); (case ty_Spots => k_is); (case a1 => k_is); (case a2 => k_is); (case a3 => k_is); (case a4 => k_is); (case a5 => k_is); (case a6 => k_is); (case a7 => k_is); (case a8 => k_is); (case a9 => k_is); (case a10 => k_is); (case a11 => k_is); (case a12 => k_is); (case a13 => k_is); (case a14 => k_is); (case r3 => k_is); (case r4 => k_is); (case l1 => k_is); (case l2 => k_is); (case l3 => k_is); (case l4 => k_is); (case l5 => k_is); (case l6 => k_is); (case l7 => k_is); (case l8 => k_is); (case l9 => k_is); (case l10 => k_is); (case l11 => k_is); (case l12 => k_is); (case l13 => k_is); (case l14 => k_is); (case l15 => k_is); (case l16 => k_is); (case l17 => k_is); (case l18 => k_is); (case l19 => k_is); (case l20 => k_is); (case l21 => k_is); (case l22 => k_is); (case l23 => k_is); (case l24 => k_is); (case l25 => k_is); (case l26 => k_is); (case l27 => k_is); (case l28 => k_is); (case l29 => k_is); (case l30 => k_is); (case l31 => k_is); (case l32 => k_is); (case l33 => k_is); (case l34 => k_is); (case l35 => k_is); (case l36 => k_is); (case pg_Sound => k_is); (case hd_Sound => k_is); (case po_Sound => k_is); (case sa_Sound => k_is); (case kpC_Sound => k_is); (case nA_Sound_worth => k_is); (case pg_Spots => k_is); (case hd_Spots => k_is); (case po_Spots => k_is); (case sa_Spots => k_is); (case kpC_Spots => k_is); (case nA_Spots_spots => k_is); (case rr_Spots => k_is); (case ra_Spots => k_is); (case x1_InvalidSpot => k_exc); (case kC1_InvalidSpot => k_is); (case eb1_InvalidSpot => k_is); (case et1_InvalidSpot => k_is); (case ec1_InvalidSpot => k_is); (case es1_InvalidSpot => (first | rfl | k_is)); (case x1_InvalidOperation => k_exc); (case kC1_InvalidOperation => k_is); (case eb1_InvalidOperation => k_is); (case et1_InvalidOperation => k_is); (case ec1_InvalidOperation => k_is); (case es1_InvalidOperation => (first | rfl | k_is)); (case xs_InvalidSpot_InvalidOperation => (first | rfl | k_is)); (case xs_InvalidOperation_InvalidSpot => (first | rfl | k_is)); (case c1 => k_is); (case k1 => k_is); (case mk_Sound => k_is); (case i1 => k_is); (case c2 => k_is); (case k2 => k_is); (case mk_Spots => k_is); (case i2 => k_is); (case c3 => k_is); (case k3 => k_is); (case h3 => k_is); (case c4 => k_is); (case k4 => k_is); (case g4 => k_is); (case t4 => k_is); (case c5 => k_is); (case k5 => k_is); (case i5 => k_is); (case c6 => k_is); (case k6 => k_is); (case i6 => k_is); (case c7 => k_is); (case k7 => k_is); (case i7 => k_is); (case c8 => k_is); (case k8 => k_is); (case i8 => k_is); (case c9 => k_is); (case k9 => k_is); (case i9 => k_is); (case c10 => k_is); (case k10 => k_is); (case i10 => k_is); (case c11 => k_is); (case k11 => k_is); (case i11 => k_is); (case c12 => k_is); (case k12 => k_is); (case i12 => k_is); (case c13 => k_is); (case k13 => k_is); (case i13 => k_is); (case c14 => k_is); (case k14 => k_is); (case i14 => k_is); (case c15 => k_is); (case k15 => k_is); (case c16 => k_is); (case k16 => k_is); (case c17 => k_is); (case k17 => k_is); (case c18 => k_is); (case k18 => k_is); (case c19 => k_is); (case k19 => k_is); (case c20 => k_is); (case k20 => k_is); (case c21 => k_is); (case k21 => k_is); (case c22 => k_is); (case k22 => k_is); (case c23 => k_is); (case k23 => k_is); (case c24 => k_is); (case k24 => k_is); (case c25 => k_is); (case k25 => k_is); (case c26 => k_is); (case k26 => k_is); (case c27 => k_is); (case k27 => k_is); (case c28 => k_is); (case k28 => k_is); (case c29 => k_is); (case k29 => k_is); (case c30 => k_is); (case k30 => k_is); (case c31 => k_is); (case k31 => k_is); (case c32 => k_is); (case k32 => k_is); (case c33 => k_is); (case k33 => k_is); (case c34 => k_is); (case k34 => k_is); (case cl34 => k_is); (case cv34 => rfl); (case cn34 => kernel_rfl); (case c35 => k_is); (case k35 => k_is); (case c36 => k_is); (case k36 => k_is); (case ia_Sound => k_is); (case ib_Sound => k_is); (case ic_Sound => k_is); (case id_Sound => k_is); (case ko_Sound_NoneType => kit_is); (case ko_Sound_bool => kit_is); (case ko_Sound_int => kit_is); (case ko_Sound_str => kit_is); (case ko_Sound_list => kit_is); (case ko_Sound_tuple => kit_is); (case ko_Sound_dict => kit_is); (case nf_Sound_NoneType => k_is); (case nf_Sound_bool => k_is); (case nf_Sound_int => k_is); (case nf_Sound_str => k_is); (case nf_Sound_list => k_is); (case nf_Sound_tuple => k_is); (case nf_Sound_dict => k_is); (case sf_Spots => k_is); (case ni_Spots => kernel_rfl); (case ro_Spots_or => k_is); (case ro_Spots_and => k_is); (case ro_Spots_sub => k_is); (case kk_Spots_tuple => kit_is); (case ne_Spots => k_is); (case ia_Spots => k_is); (case ib_Spots => k_is); (case ic_Spots => k_is); (case id_Spots => k_is); (case ko_Spots_NoneType => kit_is); (case ko_Spots_bool => kit_is); (case ko_Spots_int => kit_is); (case ko_Spots_str => kit_is); (case ko_Spots_list => kit_is); (case ko_Spots_tuple => kit_is); (case ko_Spots_dict => kit_is); (case nf_Spots_NoneType => k_is); (case nf_Spots_bool => k_is); (case nf_Spots_int => k_is); (case nf_Spots_str => k_is); (case nf_Spots_list => k_is); (case nf_Spots_tuple => k_is); (case nf_Spots_dict => k_is); (case cf34 => rfl)