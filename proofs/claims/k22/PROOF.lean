import PyProof.Rows.All
import Wide.All
import OpenK.AllK
import Wide.FinOn
import HandS.ForMost
import HandS.IsInst
import HandS.Wide
import HandS.Style
import HandS.Walk
import HandS.Text
import HandS.StrMore
import HandS.Deep
import HandS.TupSets
import HandS.SetFor
import HandS.Strs
import HandS.OwnEq
import HandS.ClsMeth
import HandS.MakeKwOnly
import HandS.Property
import HandS.Conv
import HandS.TupAny
import HandS.Star
import HandS.Exc
import HandS.ExcOwn
import HandS.Lambda
import HandS.EndTab
import HandS.RaiseMore
import HandS.FStr
import HandS.WordsExc
import KE.KNest
import KE.KOpsOwn
import KE.KCallOwn
import PyProof.Rows.NestShow
import PyProof.EqAt
import KE.KIntText
import KE.SortData
import KE.KeyNested
import PySem.Challenge.RW_goneunseen_k22_places_made_and_told
set_option Elab.async false
set_option linter.all false
set_option maxRecDepth 100000
/-! ### of our own, for every law: what the dice are, what stays, a few rules -/
namespace Kit
open PySem PySem.Spec PyProof.Rows L2
/-- the dice: a list of three ints -/
def Dice (H : Hp) (d : Addr) : Prop := ∃ a b c : Int, H d = some (.lst [.int a, .int b, .int c]) ∧ 0 ≤ a ∧ a.natAbs < 2 ^ 2200
/-- all that stood stands, but for the dice -/
def Keep (d : Addr) (H H' : Hp) : Prop := (∀ b o, b ≠ d → H b = some o → H' b = some o) ∧ Dice H' d
theorem Keep.trans {d : Addr} {H H1 H2 : Hp} (a : Keep d H H1) (b : Keep d H1 H2) : Keep d H H2 :=
  ⟨fun x o hx h => b.1 x o hx (a.1 x o hx h), b.2⟩
theorem Keep.refl {d : Addr} {H : Hp} (h : Dice H d) : Keep d H H := ⟨fun _ _ _ h => h, h⟩
theorem Dice.same {d : Addr} {H H1 : Hp} (h : Dice H d) (s : Same H H1) : Dice H1 d := by
  obtain ⟨a, b, c, e, r⟩ := h
  exact ⟨a, b, c, s _ _ e, r⟩
theorem Keep.of_same {d : Addr} {H H1 : Hp} (s : Same H H1) (h : Dice H d) : Keep d H H1 := ⟨fun b o _ e => s b o e, h.same s⟩
theorem Keep.same {d : Addr} {H H1 H2 : Hp} (k : Keep d H H1) (s : Same H1 H2) : Keep d H H2 := k.trans (.of_same s k.2)
theorem same_upd {H : Hp} {p : Addr} {o : HO} (h : H p = none) : Same H (upd H p o) := fun b x e => by
  rw [upd_ne (ne_of_none e h)]
  exact e
theorem Dice.ne_of {d p : Addr} {H : Hp} (h : Dice H d) (n : H p = none) : p ≠ d := fun e => by
  obtain ⟨a, b, c, x, _⟩ := h
  rw [e, x] at n
  cases n
/-- a thing of our own is stored anew -/
theorem Keep.put {d p : Addr} {H H1 : Hp} {o : HO} (k : Keep d H H1) (n : H p = none) (hp : p ≠ d) : Keep d H (upd H1 p o) := by
  refine ⟨fun b x hb e => ?_, ?_⟩
  · rw [upd_ne (ne_of_none e n)]
    exact k.1 b x hb e
  · obtain ⟨a, b, c, e, r⟩ := k.2
    exact ⟨a, b, c, by rw [upd_ne (Ne.symm hp)]; exact e, r⟩
theorem Keep.lst {d p : Addr} {H H1 : Hp} {xs : List V} (k : Keep d H H1) (hp : p ≠ d) (h : H p = some (.lst xs)) : H1 p = some (.lst xs) := k.1 _ _ hp h
theorem Keep.some {d p : Addr} {H H1 : Hp} {o : HO} (k : Keep d H H1) (hp : p ≠ d) (h : H p = some o) : H1 p = some o := k.1 _ _ hp h

section
variable {X : Cx}
/-- a power whose size is known -/
theorem op_powW : OpR X (binaryOp .Pow) (rI (fun i j => 0 ≤ j ∧ (Builtin.Int.intBits i : Int) * j ≤ 2 ^ 27) fun i j => .int (i ^ j.toNat)) := opI fun _ _ _ _ _ _ _ hc q => pow_int hc.1 hc.2 q
def rEqNil (K : PySem.W.Frag) : R2 := fun x y H Q => ∃ p q xs, x = .ref p ∧ y = .ref q ∧ SqL K H p xs ∧ SqL K H q [] ∧ Q (.bl xs.isEmpty) H
/-- a list of anything == [] -/
theorem op_eqNil (hu : X.A.units + 64 < cLine) : OpR X (compareOp .Eq) (rEqNil X.K) := by
  intro pins s σ H x y v u Q I rx ry h
  obtain ⟨p, q, xs, rfl, rfl, hp, hq, k⟩ := h
  cases rx
  cases ry
  cases xs with
  | nil => exact op_eqD hu pins s σ H (.ref p) (.ref q) _ _ Q I rfl rfl ⟨.list [], .list [], .lst hp .nil, .lst hq .nil, rfl, rfl, k⟩
  | cons z zs =>
    obtain ⟨its, rv, hl, _⟩ := I.list hp
    obtain ⟨its2, rv2, hl2, _⟩ := I.list hq
    cases rv2
    cases rv with
    | cons r1 r2 =>
      refine SeqAt.eq_list_lengthsAt hl.isList hl2.isList ?_ (by omega) ⟨.bl _, H, I, rfl, k⟩
      simp

/-- a rest, told by its bounds -/
def rMod : R2 := fun x y H Q => ∃ i j : Int, x = .int i ∧ y = .int j ∧ 0 < j ∧ ∀ r : Int, 0 ≤ r → r < j → r = i % j → Q (.int r) H
theorem op_modB : OpR X (binaryOp .Mod) rMod := by
  intro pins s σ H x y v u Q I rx ry h
  obtain ⟨i, j, rfl, rfl, hj, q⟩ := h
  exact op_mod pins s σ H _ _ v u Q I rx ry ⟨i, j, rfl, rfl, hj, q (i % j) (Int.emod_nonneg _ (by omega)) (Int.emod_lt_of_pos _ hj) rfl⟩
/-- a or b, a and b of two truths, the second one leaving all as it is: one way -/
def tOrB (ta tb : TE) : TE := fun σ H Q => ta σ H fun x H1 => ∃ c d : Bool, x = .bl c ∧ (c = false → tb σ H1 fun y H2 => y = .bl d ∧ H2 = H1) ∧ Q (.bl (c || d)) H1
def tAndB (ta tb : TE) : TE := fun σ H Q => ta σ H fun x H1 => ∃ c d : Bool, x = .bl c ∧ (c = true → tb σ H1 fun y H2 => y = .bl d ∧ H2 = H1) ∧ Q (.bl (c && d)) H1
def tMono (ta : TE) : TE := fun σ H Q => ∃ R : VK, ta σ H R ∧ ∀ x H', R x H' → Q x H'
theorem pe_mono {a : Expr} {ta : TE} (ha : PE X a ta) : PE X a (tMono ta) := ⟨fun pins s σ H Q I h => by
  obtain ⟨R, h1, h2⟩ := h
  exact thn (ha.run pins s σ H R I h1) fun v s1 ⟨x, H1, I1, r1, q1⟩ => ⟨x, H1, I1, r1, h2 x H1 q1⟩⟩
theorem pe_orB {a b : Expr} {ta tb : TE} {pos : Pos} (ha : PE X a ta) (hb : PE X b tb) : PE X (.BoolOp .Or [a, b] pos) (tOrB ta tb) := ⟨fun pins s σ H Q I h => by
  refine (pe_or (pe_mono ha) (pe_one (pe_mono hb))).run pins s σ H Q I ⟨_, h, fun x H1 r => ?_⟩
  obtain ⟨c, d, rfl, hd, q⟩ := r
  refine ⟨c, rfl, ?_⟩
  cases c with
  | true => exact iteT q
  | false => exact iteF ⟨_, hd rfl, fun y H2 ⟨e1, e2⟩ => by rw [e1, e2]; exact q⟩⟩
theorem pe_andB {a b : Expr} {ta tb : TE} {pos : Pos} (ha : PE X a ta) (hb : PE X b tb) : PE X (.BoolOp .And [a, b] pos) (tAndB ta tb) := ⟨fun pins s σ H Q I h => by
  refine (pe_and (pe_mono ha) (pe_one (pe_mono hb))).run pins s σ H Q I ⟨_, h, fun x H1 r => ?_⟩
  obtain ⟨c, d, rfl, hd, q⟩ := r
  refine ⟨c, rfl, ?_⟩
  cases c with
  | true => exact iteT ⟨_, hd rfl, fun y H2 ⟨e1, e2⟩ => by rw [e1, e2]; exact q⟩
  | false => exact iteF q⟩
def tMonoT (t : TT) : TT := fun σ H Q => ∃ R : Bool → Hp → Prop, t σ H R ∧ ∀ c H', R c H' → Q c H'
theorem pt_mono {a : Expr} {t : TT} (ha : PT X a t) : PT X a (tMonoT t) := ⟨fun pins s σ H Q I h => by
  obtain ⟨R, h1, h2⟩ := h
  exact thn (ha.run pins s σ H R I h1) fun b s1 ⟨H1, I1, q1⟩ => ⟨H1, I1, h2 b H1 q1⟩⟩
/-- a if t else b, the ways leaving all as it is: one way -/
def tIfB (t : TT) (ta tb : TE) : TE := fun σ H Q => t σ H fun c H1 => ∃ v, (c = true → ta σ H1 fun y H2 => y = v ∧ H2 = H1) ∧ (c = false → tb σ H1 fun y H2 => y = v ∧ H2 = H1) ∧ Q v H1
theorem pe_ifB {c a b : Expr} {t : TT} {ta tb : TE} {pos : Pos} (hc : PT X c t) (ha : PE X a ta) (hb : PE X b tb) : PE X (.IfExp c a b pos) (tIfB t ta tb) := ⟨fun pins s σ H Q I h => by
  refine (pe_ifExp (pt_mono hc) (pe_mono ha) (pe_mono hb)).run pins s σ H Q I ⟨_, h, fun x H1 r => ?_⟩
  obtain ⟨v, h1, h2, q⟩ := r
  cases x with
  | true => exact iteT ⟨_, h1 rfl, fun y H2 ⟨e1, e2⟩ => by rw [e1, e2]; exact q⟩
  | false => exact iteF ⟨_, h2 rfl, fun y H2 ⟨e1, e2⟩ => by rw [e1, e2]; exact q⟩⟩
def rNeNil (K : PySem.W.Frag) : R2 := fun x y H Q => ∃ p q xs, x = .ref p ∧ y = .ref q ∧ SqL K H p xs ∧ SqL K H q [] ∧ Q (.bl (!xs.isEmpty)) H
/-- a list of anything != [] -/
theorem op_neNil (hu : X.A.units + 64 < cLine) : OpR X (compareOp .NotEq) (rNeNil X.K) := by
  intro pins s σ H x y v u Q I rx ry h
  obtain ⟨p, q, xs, rfl, rfl, hp, hq, k⟩ := h
  cases rx
  cases ry
  cases xs with
  | nil => exact op_neD hu pins s σ H (.ref p) (.ref q) _ _ Q I rfl rfl ⟨.list [], .list [], .lst hp .nil, .lst hq .nil, rfl, rfl, k⟩
  | cons z zs =>
    obtain ⟨its, rv, hl, _⟩ := I.list hp
    obtain ⟨its2, rv2, hl2, _⟩ := I.list hq
    cases rv2
    cases rv with
    | cons r1 r2 =>
      exact SeqAt.RcNeAt.lists_lengths hl.isList hl2.isList (by simp) (by omega) X.prog X.w X.xe _ ⟨.bl _, H, I, rfl, k⟩
end
/-- an item at a place that is there -/
theorem ixN_of {n : Nat} {i : Int} (h0 : 0 ≤ i) (h1 : i < n) : ixN n i = some i.toNat := by
  unfold ixN
  rw [if_pos h0, if_pos (by omega)]
theorem at_lt {α : Type} {xs : List α} {i : Int} (h0 : 0 ≤ i) (h1 : i < xs.length) : ∃ v, atI xs i = some v ∧ v ∈ xs := by
  have h : i.toNat < xs.length := by omega
  refine ⟨xs[i.toNat], ?_, List.getElem_mem h⟩
  unfold atI
  rw [ixN_of h0 h1]
  show xs[i.toNat]? = _
  exact List.getElem?_eq_getElem h
theorem sput {H H1 : Hp} {p : Addr} {o : HO} (s : Same H H1) (n : H p = none) : Same H (upd H1 p o) := fun b x e => by
  rw [upd_ne (ne_of_none e n)]
  exact s b x e
theorem snew {H H1 : Hp} {p : Addr} {o : HO} (s : Same H H1) (n : H1 p = none) : Same H (upd H1 p o) := s.trans (same_upd n)
theorem Keep.free {d p : Addr} {H H1 : Hp} (k : Keep d H H1) (n : H1 p = none) : H p = none := by
  cases e : H p with
  | none => rfl
  | some o =>
    by_cases hp : p = d
    · obtain ⟨a, b, c, x, _⟩ := k.2
      rw [hp, x] at n
      cases n
    · rw [k.1 _ _ hp e] at n
      cases n
/-- a comprehension whose test and element leave all as it stood (but for new things): what it makes -/
theorem lc_pure {α : Type} {J : It} {n : Nat} {G : Hp → Prop} {Y : Nat → Hp → V → Hp → Prop} (w : Walk J n G Y) {k : Nat} {tt : TT} {te : TE} {vs : List Nat} {σ : L2.St} {H : Hp} {D : Addr} {Qd : Hp → Prop}
    (hD : H D = none) (xs : List α) (val : α → V) (p : α → Bool) (f : α → V) (hn : xs.length = n) (hsz : n ≤ 1000) (hk : k ∈ vs)
    (hG : ∀ H1, Same H H1 → G H1) (hY : ∀ i H1 x H', Same H H1 → Y i H1 x H' → H' = H1 ∧ ∃ a, xs[i]? = some a ∧ x = val a)
    (ht : ∀ a H1, a ∈ xs → Same H H1 → ∀ Q : Bool → Hp → Prop, (∀ H2, Same H1 H2 → Q (p a) H2) → tt ((wipe σ vs).set k (some (val a))) H1 Q)
    (he : ∀ a H1, a ∈ xs → p a = true → Same H H1 → ∀ Q : VK, (∀ H2, Same H1 H2 → Q (f a) H2) → te ((wipe σ vs).set k (some (val a))) H1 Q)
    (hw : ∀ x, wipe ((wipe σ vs).set k (some x)) vs = wipe σ vs)
    (hd : ∀ H1, Same H H1 → H1 D = some (.lst ((xs.filter p).map f)) → Qd H1) :
    ∃ W : Nat → Nat → Hp → Prop, (∃ m, W 0 m (upd H D (.lst []))) ∧ ∀ i m H, W i m H →
      (J.stop i H ∧ Qd H) ∨ (J.go i H ∧ ∃ Nx : Hp → Prop, (∀ H', Nx H' → ∃ m', m' < m ∧ W (i + 1) m' H') ∧ ∀ x H', J.yld i H x H' → gName k x (wipe σ vs) H' fun σ2 H2 => wipe σ2 vs = wipe σ vs ∧ tt σ2 H2 fun b H3 =>
        if b = true then te σ2 H3 fun y H4 => ∃ acc, H4 D = some (.lst acc) ∧ acc.length < sizeLine ∧ Nx (upd H4 D (.lst (acc ++ [y]))) else Nx H3) := by
  have step : ∀ {i : Nat} {a : α}, xs[i]? = some a → (xs.take (i + 1)).filter p = (xs.take i).filter p ++ (if p a = true then [a] else []) := fun {i a} e => by
    rw [List.take_add_one, e, List.filter_append]
    show _ ++ List.filter p [a] = _
    rw [List.filter_cons]
    rfl
  refine lc_it w (g := gName k) (fun i H1 => Same H H1 ∧ H1 D = some (.lst (((xs.take i).filter p).map f))) ⟨same_upd hD, by rw [upd_same]; rfl⟩ (fun i H1 _ h => hG H1 h.1) (fun i x H1 H' hi h y => ?_) fun H1 h => hd H1 h.1 (by rw [h.2, List.take_of_length_le (by omega)])
  obtain ⟨s1, e1⟩ := h
  obtain ⟨rfl, a, ea, rfl⟩ := hY i H1 x H' s1 y
  have ma : a ∈ xs := List.mem_of_getElem? ea
  refine ⟨hw _, ht a _ ma s1 _ fun H2 s2 => ?_⟩
  cases hp : p a with
  | true =>
    refine iteT (he a H2 ma hp (s1.trans s2) _ fun H3 s3 => ⟨_, s3 _ _ (s2 _ _ e1), ?_, ?_⟩)
    · rw [List.length_map]
      exact Nat.lt_of_le_of_lt (Nat.le_trans (List.length_filter_le _ _) (List.length_take_le _ _)) (small1000 (by omega))
    · refine ⟨sput ((s1.trans s2).trans s3) hD, ?_⟩
      rw [upd_same, step ea, hp, if_pos rfl, List.map_append]
      rfl
  | false =>
    refine iteF ⟨s1.trans s2, ?_⟩
    rw [s2 _ _ e1, step ea, hp, if_neg Bool.false_ne_true, List.append_nil]
/-- .. for any target: st a is what stands in the slots behind it -/
theorem lc_pureG {α : Type} {J : It} {n : Nat} {G : Hp → Prop} {Y : Nat → Hp → V → Hp → Prop} (w : Walk J n G Y) {g : TG} {tt : TT} {te : TE} {vs : List Nat} {σ : L2.St} {H : Hp} {D : Addr} {Qd : Hp → Prop}
    (hD : H D = none) (xs : List α) (val : α → V) (st : α → L2.St) (p : α → Bool) (f : α → V) (hn : xs.length = n) (hsz : n ≤ 1000)
    (hG : ∀ H1, Same H H1 → G H1) (hY : ∀ i H1 x H', Same H H1 → Y i H1 x H' → H' = H1 ∧ ∃ a, xs[i]? = some a ∧ x = val a)
    (hg : ∀ a H1, a ∈ xs → Same H H1 → ∀ Q : L2.St → Hp → Prop, Q (st a) H1 → g (val a) (wipe σ vs) H1 Q)
    (ht : ∀ a H1, a ∈ xs → Same H H1 → ∀ Q : Bool → Hp → Prop, (∀ H2, Same H1 H2 → Q (p a) H2) → tt (st a) H1 Q)
    (he : ∀ a H1, a ∈ xs → p a = true → Same H H1 → ∀ Q : VK, (∀ H2, Same H1 H2 → Q (f a) H2) → te (st a) H1 Q)
    (hw : ∀ a, a ∈ xs → wipe (st a) vs = wipe σ vs)
    (hd : ∀ H1, Same H H1 → H1 D = some (.lst ((xs.filter p).map f)) → Qd H1) :
    ∃ W : Nat → Nat → Hp → Prop, (∃ m, W 0 m (upd H D (.lst []))) ∧ ∀ i m H, W i m H →
      (J.stop i H ∧ Qd H) ∨ (J.go i H ∧ ∃ Nx : Hp → Prop, (∀ H', Nx H' → ∃ m', m' < m ∧ W (i + 1) m' H') ∧ ∀ x H', J.yld i H x H' → g x (wipe σ vs) H' fun σ2 H2 => wipe σ2 vs = wipe σ vs ∧ tt σ2 H2 fun b H3 =>
        if b = true then te σ2 H3 fun y H4 => ∃ acc, H4 D = some (.lst acc) ∧ acc.length < sizeLine ∧ Nx (upd H4 D (.lst (acc ++ [y]))) else Nx H3) := by
  have step : ∀ {i : Nat} {a : α}, xs[i]? = some a → (xs.take (i + 1)).filter p = (xs.take i).filter p ++ (if p a = true then [a] else []) := fun {i a} e => by
    rw [List.take_add_one, e, List.filter_append]
    show _ ++ List.filter p [a] = _
    rw [List.filter_cons]
    rfl
  refine lc_it w (g := g) (fun i H1 => Same H H1 ∧ H1 D = some (.lst (((xs.take i).filter p).map f))) ⟨same_upd hD, by rw [upd_same]; rfl⟩ (fun i H1 _ h => hG H1 h.1) (fun i x H1 H' hi h y => ?_) fun H1 h => hd H1 h.1 (by rw [h.2, List.take_of_length_le (by omega)])
  obtain ⟨s1, e1⟩ := h
  obtain ⟨rfl, a, ea, rfl⟩ := hY i H1 x H' s1 y
  have ma : a ∈ xs := List.mem_of_getElem? ea
  refine hg a _ ma s1 _ ⟨hw a ma, ht a _ ma s1 _ fun H2 s2 => ?_⟩
  cases hp : p a with
  | true =>
    refine iteT (he a H2 ma hp (s1.trans s2) _ fun H3 s3 => ⟨_, s3 _ _ (s2 _ _ e1), ?_, ?_⟩)
    · rw [List.length_map]
      exact Nat.lt_of_le_of_lt (Nat.le_trans (List.length_filter_le _ _) (List.length_take_le _ _)) (small1000 (by omega))
    · refine ⟨sput ((s1.trans s2).trans s3) hD, ?_⟩
      rw [upd_same, step ea, hp, if_pos rfl, List.map_append]
      rfl
  | false =>
    refine iteF ⟨s1.trans s2, ?_⟩
    rw [s2 _ _ e1, step ea, hp, if_neg Bool.false_ne_true, List.append_nil]
theorem yesT {σ : L2.St} {H : Hp} {A B : Hp → Prop} (h : A H) : tYes σ H (fun b H3 => if b = true then A H3 else B H3) := show (if true = true then A H else B H) from iteT h
theorem joinL_nil : ∀ ps : List (List Nat), TL.joinL [] ps = ps.flatten
  | [] => rfl
  | [p] => by
    show p = _
    simp
  | p :: q :: r => by
    show p ++ ([] ++ TL.joinL [] (q :: r)) = _
    rw [List.nil_append, joinL_nil (q :: r), List.flatten_cons (l := p)]
theorem join_len (ys : List Str) : (Txt.join "" ys).length = (ys.map (·.length)).sum := by
  have e : (Txt.join "" ys).cps.toList = (ys.map TL.tl).flatten := by
    rw [TL.join_eq]
    have h := TL.tl_join "" ys
    rw [show TL.tl "" = [] by decide +kernel, joinL_nil] at h
    exact h
  have e2 := congrArg List.length e
  rw [Array.length_toList, List.length_flatten, List.map_map] at e2
  exact e2
theorem sum_ones : ∀ ys : List Str, (∀ y ∈ ys, y.length = 1) → (ys.map (·.length)).sum = ys.length
  | [], _ => rfl
  | y :: ys, h => by
    rw [List.map_cons, List.sum_cons, sum_ones ys fun z hz => h z (List.mem_cons_of_mem _ hz), h y (List.mem_cons_self ..), List.length_cons]
    omega
theorem filt_all {α : Type} (xs : List α) : xs.filter (fun _ => true) = xs := List.filter_eq_self.2 fun _ _ => rfl
theorem all_filt {α : Type} (p : α → Bool) : ∀ xs : List α, xs.all p = (xs.filter fun x => !p x).isEmpty
  | [] => rfl
  | x :: xs => by
    rw [List.all_cons, List.filter_cons]
    cases h : p x with
    | true =>
      rw [if_neg (by simp), Bool.true_and]
      exact all_filt p xs
    | false => simp
theorem abs_nat (i : Int) : (if i < 0 then -i else i) = ((i.natAbs : Nat) : Int) := by
  split <;> omega
theorem sz_of {n : Nat} (h : n ≤ 100000) : n ≤ sizeLine := Nat.le_trans h (by decide)
theorem nb {b : Bool} (h : (!b) = true) : b = false := by
  cases b with
  | false => rfl
  | true => cases h
theorem nnb {b : Bool} (h : ¬ (!b) = true) : b = true := by
  cases b with
  | true => rfl
  | false => exact absurd rfl h
theorem nt {b : Bool} (h : ¬ b = true) : b = false := by
  cases b with
  | false => rfl
  | true => exact absurd rfl h
/-- how long a number's text is -/
theorem numlen (m : Nat) : (Str.ofString (toString ((m : Nat) : Int))).length = (Nat.toDigits 10 m).length := by
  have e := congrArg List.length (PySem.W.KIN.signs_num m)
  rw [List.length_map, Array.length_toList] at e
  exact e
theorem numlen21 (m : Nat) : ((Str.ofString (toString ((m : Nat) : Int))).length < 21) ↔ m < 100000000000000000000 := by
  rw [numlen]
  have h := Nat.length_toDigits_le_iff (b := 10) (n := m) (k := 20) (by decide) (by decide)
  have e : (10 : Nat) ^ 20 = 100000000000000000000 := by decide
  rw [e] at h
  omega
end Kit
-- CUT
/-! ### of our own: sorted(x) of data, len(set(x)) of keys that are tuples of tuples, set(x) of ints -/
namespace Kit
open PySem PySem.Spec PyProof.Rows L2
/-- the heap behind the items xs laid into a new list -/
abbrev hpNew (h : Heap) (xs : List Value) : Heap := (h.push (seqObj "list" #[] 0)).update h.objs.size (Obj.mapSeq (· ++ xs.toArray))
section
variable {prog : Program} {w : World} {A : Around} {E : Value → Shared → Prop} {s : Shared}
/-- the items of a tuple, laid into a new list -/
theorem collect_tup {l : Addr} {xs : List Value} {R : List Value → Shared → Prop} (ht : s.heap.IsTuple l xs.toArray) (hz : xs.length ≤ sizeLine)
    (k : R xs { s with heap := hpNew s.heap xs }) : wpAny (model prog w) A (collect (.ref l)) R E s := by
  obtain ⟨ob, e1, e2, m, e3⟩ := id ht
  have new : (s.heap.push (seqObj "list" #[] 0)).get? s.heap.objs.size = some (seqObj "list" #[] 0) := Heap.get?_push_size _ rfl
  have old : (s.heap.push (seqObj "list" #[] 0)).get? l = some ob := Heap.get?_push_of_some _ e1
  have z0 : ((#[] : Array Value) ++ xs.toArray).size ≤ sizeLine + 1 := by
    rw [Array.size_append, List.size_toArray]
    simp only [List.size_toArray, List.length_nil]
    omega
  have fin : ((#[] : Array Value) ++ xs.toArray).toList = xs := by simp
  unfold collect
  refine wpAny_bind (wpAny_runValue (codeAny_builtin entry_proto_collect' ?_))
  show wpAny _ _ (newList [] >>= fun z => again (.builtin "list.__iadd__" ⟨[z, .ref l], []⟩)) _ _ s
  refine wpAny_bind (wpAny_newList (wpAny_pure (And.intro (Code.quiet_builtin _ (by decide +kernel)) (codeAny_builtin entry_list_iadd' ?_))))
  show wpAny _ _ (Builtin.List.listExtendWith (.ref s.heap.objs.size) (.ref l) (.ref s.heap.objs.size)) _ _ { s with heap := Heap.push s.heap (seqObj "list" #[] 0) }
  unfold Builtin.List.listExtendWith
  refine wpAny_bind (wpAny_typeOf (T := "tuple") (Exists.intro ob (And.intro old e2)) ?_)
  rw [if_pos (by simp)]
  refine wpAny_bind (listItems_at old e3 ?_)
  refine wpAny_bind (listItems_at (n := 0) (xs := #[]) new rfl ?_)
  rw [if_neg (by simp)]
  refine wpAny_bind (listUpdate_at (n := 0) (xs := #[]) new rfl ?_ (Nat.zero_le _) z0)
  refine wpAny_pure ?_
  refine wpAny_bind (wpAny_load (get?_update_seq new _) ?_)
  show wpAny _ _ (pure ((#[] : Array Value) ++ xs.toArray).toList) R E _
  rw [fin]
  exact wpAny_pure k
open PySem.Calls in
/-- sorted(x), x a tuple -/
theorem sorted_tup {l : Addr} {xs : List Value} {β : Type} {bs : List β} {enc : β → PyData} {R : Value → β → Prop} {Q : Value → Shared → Prop} (ht : s.heap.IsTuple l xs.toArray) (e : PySem.W.EachIs R xs bs) (er : PySem.W.EachIs (fun v b => ∃ as, Reads s.heap v (enc b) as) xs bs)
    (hal : PySem.W.AllAlike (bs.map enc)) (hk : PySem.W.Sortable (bs.map enc)) (hz : bs.length ≤ sizeLine) (hu : ∀ b ∈ bs, A.units + 2 + (enc b).depth < cLine)
    (q : ∀ out : List Value, PySem.W.EachIs R out (bs.mergeSort (PySem.W.dataLe false enc)) → Q (.ref (s.heap.objs.size + 1)) { s with heap := sortedAll s.heap xs out.toArray }) :
    wpAny (model prog w) A (call (.builtin "sorted") [.ref l]) Q E s := by
  have hz' : xs.length ≤ sizeLine := by
    rw [e.length]
    exact hz
  have size : (hpNew s.heap xs).objs.size = s.heap.objs.size + 1 := by
    rw [Heap.size_update, size_push']
  have er2 : PySem.W.EachIs (fun v b => ∃ as, Reads (PySem.W.sortingHeap (PySem.W.copyHeap s.heap xs) (s.heap.objs.size + 1) xs) v (enc b) as) xs bs :=
    er.mono fun _ _ ⟨as, r⟩ => ⟨as, PyProof.Rows.Reads.keeps (fun _ _ => PySem.W.sorting_copy_old) r⟩
  have S := PySem.W.SortsAt.data (prog := prog) (w := w) (A := A.in1.in1) (s := { s with heap := PySem.W.sortingHeap (PySem.W.copyHeap s.heap xs) (s.heap.objs.size + 1) xs }) (PySem.W.each_map (R := fun v d => ∃ as, Reads (PySem.W.sortingHeap (PySem.W.copyHeap s.heap xs) (s.heap.objs.size + 1) xs) v d as) enc er2) hal hk (PySem.W.bound_map (A := A.in1.in1) hu)
  refine call_function_entry kind_sorted plain_sorted entry_sorted (args_sorted1 _) ?_
  unfold Builtin.«sorted»
  refine wpAny_bind (m := checkCount "sorted" 1 1 _) (wpAny_pure ?_)
  refine wpAny_bind (collect_tup ht hz' ?_)
  refine wpAny_bind (wpAny_newList ?_ hz')
  rw [size]
  refine wpAny_bind (wpAny_holding (wpAny_call_entry slot_list_sort ⟨_, PySem.W.copyHeap_at s.heap xs, rfl⟩ entry_list_sort ?_ (args_list_sort _)))
  refine PySem.W.list_sort_vals (s := { s with heap := PySem.W.copyHeap s.heap xs }) (PySem.W.copyHeap_at s.heap xs) S hz' ⟨Value.none, rfl, ?_⟩
  exact wpAny_pure ⟨_, rfl, q _ (PySem.W.sortVals_data false e er2 hal)⟩
end
/-- sorted(xs) of a list whose items are data, alike: each item p.1 is the datum p.2 -/
def rSortX (K : PySem.W.Frag) : List V → Hp → VK → Prop := fun vs H Q => ∃ (a : Addr) (ps : List (V × PyData)), vs = [V.ref a] ∧ (SqL K H a (ps.map Prod.fst) ∨ SqT K H a (ps.map Prod.fst)) ∧
  (∀ p ∈ ps, Dp K H p.1 p.2 ∧ p.2.depth ≤ 60) ∧ PySem.W.AllAlike (ps.map Prod.snd) ∧ PySem.W.Sortable (ps.map Prod.snd) ∧
  ∀ l, H l = none → Q (.ref l) (upd H l (.lst ((ps.mergeSort (PySem.W.dataLe false Prod.snd)).map Prod.fst)))
theorem each_of {X : Cx} {pins : List (Addr × Obj)} {σ : L2.St} {H : Hp} {s : Shared} (I : Inv X pins σ H s) : ∀ {ps : List (V × PyData)} {us : List Value}, Vals (ps.map Prod.fst) us → (∀ p ∈ ps, Dp X.K H p.1 p.2 ∧ p.2.depth ≤ 60) →
    PySem.W.EachIs (fun (u : Value) (p : V × PyData) => RelV p.1 u) us ps ∧ PySem.W.EachIs (fun (u : Value) (p : V × PyData) => ∃ as, Reads s.heap u p.2 as) us ps
  | [], us, r, _ => by
    cases r
    exact ⟨.nil, .nil⟩
  | p :: ps, us, r, h => by
    cases r with
    | cons r1 r2 =>
      obtain ⟨a, b⟩ := each_of I r2 fun q hq => h q (List.mem_cons_of_mem _ hq)
      exact ⟨.cons r1 a, .cons (Dp.reads I _ _ _ (h p (List.mem_cons_self ..)).1 r1) b⟩
theorem vals_each : ∀ {ps : List (V × PyData)} {us : List Value}, PySem.W.EachIs (fun (u : Value) (p : V × PyData) => RelV p.1 u) us ps → Vals (ps.map Prod.fst) us
  | _, _, .nil => .nil
  | _, _, .cons h t => .cons h (vals_each t)
theorem cr_sortedX {X : Cx} (hu : X.A.units + 64 < cLine) : CallR X (.builtin "sorted") (rSortX X.K) := by
  intro pins s σ H vs us Q I r h
  obtain ⟨a, ps, rfl, hs, hd, hal, hk, q⟩ := h
  rw [Vals.ref1 r]
  have len : ∀ its : List Value, Vals (ps.map Prod.fst) its → ps.length ≤ sizeLine → ∀ out : List Value, PySem.W.EachIs (fun (u : Value) (p : V × PyData) => RelV p.1 u) out (ps.mergeSort (PySem.W.dataLe false Prod.snd)) →
      EP X pins σ Q (.ref (s.heap.objs.size + 1)) { s with heap := sortedAll s.heap its out.toArray } := fun its rv hz out eo => by
    obtain ⟨ep, he⟩ := PyProof.Rows.sortedAll_at s.heap its out.toArray
    have len : ((ps.mergeSort (PySem.W.dataLe false Prod.snd)).map Prod.fst).length ≤ sizeLine := by
      rw [List.length_map, List.length_mergeSort]
      exact hz
    exact ⟨.ref _, upd H (s.heap.objs.size + 1) (.lst ((ps.mergeSort (PySem.W.dataLe false Prod.snd)).map Prod.fst)), I.laid (t' := s.toks) (fun _ _ => PyProof.Rows.sortedAll_old) (Nat.le_succ _) ⟨len, out, ep, vals_each eo, he⟩, rfl, q _ (I.hok.fresh (Nat.le_succ _))⟩
  have room : ∀ p ∈ ps, X.A.units + 2 + p.2.depth < cLine := fun p hp => by
    have := (hd p hp).2
    omega
  rcases hs with hs | hs
  · obtain ⟨its, rv, hl, hz⟩ := I.list hs
    obtain ⟨e1, e2⟩ := each_of I rv hd
    rw [List.length_map] at hz
    exact PySem.W.sorted_data hl.isList e1 e2 hal hk hz room fun out _ eo => len its rv hz out eo
  · obtain ⟨its, rv, ht, hz⟩ := I.tuple hs
    obtain ⟨e1, e2⟩ := each_of I rv hd
    rw [List.length_map] at hz
    exact sorted_tup ht e1 e2 hal hk hz room fun out eo => len its rv hz out eo
end Kit
namespace NS
open PySem PySem.Spec PyProof.Rows L2
abbrev NK := NestedKey
section
variable {P : Program} {w : World} {A : Around} {E : Value → Shared → Prop} {s : Shared}
theorem each_in {h : Heap} {n : Nat} : ∀ {ks : List NK} {vs : List Value}, NestedAll h ks vs → NestedKey.depthAll ks ≤ n → ∀ v ∈ vs, ∃ k : NK, NestedIs h k v ∧ k.depth ≤ n
  | [], _, a, _, v, hv => by
    cases a
    cases hv
  | k :: ks, _, a, d, v, hv => by
    cases a with
    | cons a1 a2 =>
      simp only [NestedKey.depthAll] at d
      rcases List.mem_cons.mp hv with rfl | m
      · exact ⟨k, a1, by omega⟩
      · exact each_in a2 (by omega) v m
/-- a value that is a key is of no class statement -/
theorem no_cls : ∀ (n : Nat) (k : NK) (v : Value) (A : Around) (Q : Bool → Shared → Prop), NestedIs s.heap k v → k.depth ≤ n → Q false s → wpAny (model P w) A (ofAClassStatement n v) Q E s := by
  intro n
  induction n with
  | zero =>
    intro k v A Q hk hd q
    cases hk with
    | tup => exact absurd hd (by simp only [NestedKey.depth]; omega)
    | _ => exact wpAny_pure q
  | succ n ih =>
    intro k v A Q hk hd q
    cases hk with
    | @tup b o xs m ks e1 e2 e3 e4 =>
      simp only [NestedKey.depth] at hd
      have hT : s.TypeIs (.ref b) "tuple" := ⟨o, e1, e2⟩
      have items := each_in (n := n) e4 (by omega)
      unfold ofAClassStatement
      refine wpAny_bind (wpAny_typeOf hT ?_)
      dsimp only
      simp only [show ("tuple" == "tuple") = true from by decide, if_true]
      refine wpAny_bind (wpAny_pure ?_)
      simp only [Bool.not_true, Bool.false_eq_true, if_false]
      refine wpAny_bind (m := seqItems? (.ref b)) (wpAny_seqItems e1 e3 ?_)
      dsimp only
      refine wpAny_bind ?_
      rw [← Array.forIn_toList]
      refine wpAny_forIn_list _ (fun r st s' => (∀ v ∈ r, ∃ k : NK, NestedIs s.heap k v ∧ k.depth ≤ n) ∧ st.1 = none ∧ s' = s) _ (fun v r st s' hI => ?_) (fun st s' hI => ?_) _ _ ⟨items, rfl, rfl⟩
      · obtain ⟨h1, h2, rfl⟩ := hI
        obtain ⟨k, hk, hd2⟩ := h1 v (List.mem_cons_self ..)
        refine wpAny_bind (ih k v _ _ hk hd2 ?_)
        simp only [Bool.false_eq_true, if_false]
        exact wpAny_pure ⟨fun u hu => h1 u (List.mem_cons_of_mem _ hu), rfl, rfl⟩
      · obtain ⟨_, h2, rfl⟩ := hI
        obtain ⟨r1, r2⟩ := st
        dsimp only at h2
        subst h2
        exact wpAny_pure q
    | _ => exact wpAny_pure q
/-- whether a key's hash rests on its value: one or the other -/
theorem by_val : ∀ (n : Nat) (k : NK) (v : Value) (A : Around) (Q : Bool → Shared → Prop), NestedIs s.heap k v → k.depth ≤ n → (∀ b, Q b s) → wpAny (model P w) A (hashByValue n v) Q E s := by
  intro n
  induction n with
  | zero =>
    intro k v A Q hk hd q
    cases hk with
    | tup => exact absurd hd (by simp only [NestedKey.depth]; omega)
    | _ => exact wpAny_pure (q _)
  | succ n ih =>
    intro k v A Q hk hd q
    cases hk with
    | @tup b o xs m ks e1 e2 e3 e4 =>
      simp only [NestedKey.depth] at hd
      have hT : s.TypeIs (.ref b) "tuple" := ⟨o, e1, e2⟩
      have items := each_in (n := n) e4 (by omega)
      unfold hashByValue
      refine wpAny_bind (wpAny_specialOf hT F.slot_tuple_hash.lookup ?_)
      dsimp only
      refine wpAny_bind (m := seqItems? (.ref b)) (wpAny_seqItems e1 e3 ?_)
      dsimp only [Option.getD]
      refine wpAny_bind ?_
      rw [← Array.forIn_toList]
      refine wpAny_forIn_list _ (fun r st s' => (∀ v ∈ r, ∃ k : NK, NestedIs s.heap k v ∧ k.depth ≤ n) ∧ s' = s) _ (fun v r st s' hI => ?_) (fun st s' hI => ?_) _ _ ⟨items, rfl⟩
      · obtain ⟨h1, rfl⟩ := hI
        obtain ⟨k, hk, hd2⟩ := h1 v (List.mem_cons_self ..)
        refine wpAny_bind (ih k v _ _ hk hd2 fun b => ?_)
        cases b with
        | false => exact wpAny_pure (wpAny_pure (q _))
        | true => exact wpAny_pure ⟨fun u hu => h1 u (List.mem_cons_of_mem _ hu), rfl⟩
      · obtain ⟨_, rfl⟩ := hI
        obtain ⟨r1, r2⟩ := st
        cases r1 with
        | none => exact wpAny_pure (q _)
        | some c => exact wpAny_pure (q _)
    | _ => exact wpAny_pure (q _)
/-- a tuple that is the key k -/
abbrev IsN (h : Heap) (k : NK) (b : Addr) : Prop := NestedIs h k (.ref b) ∧ k.depth ≤ 8
/-- a search among keys shows nothing -/
theorem unseen {k : NK} {b : Addr} {Q : Bool → Shared → Prop} (hk : IsN s.heap k b) {ys : List Value} (hy : ∀ y ∈ ys, ∃ k' c, y = Value.ref c ∧ IsN s.heap k' c) (q : Q false s) : wpAny (model P w) A (searchCouldBeSeen (.ref b) ys) Q E s := by
  unfold searchCouldBeSeen
  refine wpAny_bind ?_
  refine wpAny_forIn_list _ (fun r st s' => (∀ y ∈ r, ∃ k' c, y = Value.ref c ∧ IsN s.heap k' c) ∧ st.1 = none ∧ s' = s) _ (fun v r st s' hI => ?_) (fun st s' hI => ?_) _ _ ⟨hy, rfl, rfl⟩
  · obtain ⟨h1, h2, rfl⟩ := hI
    have h3 : ∀ y ∈ r, ∃ k' c, y = Value.ref c ∧ IsN s'.heap k' c := fun u hu => h1 u (List.mem_cons_of_mem _ hu)
    obtain ⟨k', c, rfl, hc⟩ := h1 v (List.mem_cons_self ..)
    dsimp only
    by_cases hv : (b == c || (carriedByValue (.ref b) && carriedByValue (.ref c))) = true
    · rw [if_pos hv]
      exact wpAny_pure ⟨h3, rfl, rfl⟩
    · rw [if_neg hv]
      refine wpAny_bind (quiet_key k _ 8 s' hk.1 hk.2 _ _ _ ?_)
      refine wpAny_bind (quiet_key k' _ 8 s' hc.1 hc.2 _ _ _ ?_)
      refine wpAny_bind (no_cls 8 k _ _ _ hk.1 hk.2 ?_)
      refine wpAny_bind (no_cls 8 k' _ _ _ hc.1 hc.2 ?_)
      exact wpAny_pure ⟨h3, rfl, rfl⟩
  · obtain ⟨_, h2, rfl⟩ := hI
    obtain ⟨r1, r2⟩ := st
    dsimp only at h2
    subst h2
    exact wpAny_pure q
end
end NS
namespace NS
open PySem PySem.Spec PyProof.Rows L2
/-- a set of at most four such keys, in its first table -/
structure NSet (w : World) (h : Heap) (a : Addr) (L : List (Addr × NK)) (es : Array (Int × Value)) (ep : Nat) (t : SetTable) : Prop where
  at_ : ∃ ob, h.get? a = some ob ∧ ob.ExactSet ∧ ob.data = .set es ep t
  its : es.toList = L.map fun p => (p.2.hash w, Value.ref p.1)
  tab : TabOk t (L.map fun p => p.2.hash w)
  one : (L.map Prod.snd).Nodup
  key : ∀ p ∈ L, IsN h p.2 p.1
  led : w.params.followText "set-order" = true ∨ t.led = true
  m7 : t.mask = 7
  few : L.length ≤ 4
section
variable {P : Program} {w : World} {A : Around} {E : Value → Shared → Prop} {s : Shared} {a : Addr} {L : List (Addr × NK)} {es : Array (Int × Value)} {ep : Nat} {t : SetTable}
theorem NSet.size (R : NSet w s.heap a L es ep t) : es.size = L.length := by
  have e := congrArg List.length R.its
  rwa [Array.length_toList, List.length_map] at e
theorem NSet.fits (R : NSet w s.heap a L es ep t) : t.fits es.size = true := by
  have z := R.tab.sz
  have f := R.few
  have m := R.m7
  rw [List.length_map] at z
  unfold SetTable.fits SetTable.fill
  rw [R.tab.dm, R.size, z, m]
  simp
  omega
theorem NSet.at' (R : NSet w s.heap a L es ep t) {i : Nat} {p : Addr × NK} (e : L[i]? = some p) : es[i]? = some (p.2.hash w, Value.ref p.1) := by
  rw [← Array.getElem?_toList, R.its, List.getElem?_map, e]
  rfl
/-- the search from its c-th step on: way K is the first empty slot -/
theorem NSet.from (R : NSet w s.heap a L es ep t) {x : Addr} {k : NK} (hx : IsN s.heap k x) (hu : A.units + 8 < cLine) {K : Nat} (kf : K < 10 * SetTable.turns t.mask)
    (k1 : way t.mask (k.hash w) K ∉ t.place.toList) (k2 : ∀ c, c < K → way t.mask (k.hash w) c ∈ t.place.toList) {Q : SetFound → Shared → Prop}
    (yes : k ∈ L.map Prod.snd → Q (.there none) s) (no : k ∉ L.map Prod.snd → Q (.free (way t.mask (k.hash w) K) false) s) :
    ∀ (f c : Nat) (st : Option SetTable.Probe), st.getD (t.probeStart (k.hash w)) = nth t.mask (runAt t.mask (SetTable.bits (k.hash w) % (t.mask + 1)) (SetTable.bits (k.hash w))) c → c ≤ K → K - c < f →
      (∀ (i : Nat) p, L[i]? = some p → p.2 = k → ∃ d, c ≤ d ∧ d < K ∧ t.place.toList[i]? = some (way t.mask (k.hash w) d)) →
      wpAny (model P w) A (setSearchFrom a (.ref x) (k.hash w) true f st) Q E s := by
  intro f
  induction f with
  | zero =>
    intro c st _ _ z _
    exact absurd z (Nat.not_lt_zero _)
  | succ f ih =>
    intro c st est hcK hf hre
    obtain ⟨ob, e1, e2, e3⟩ := R.at_
    generalize hg : runAt t.mask (SetTable.bits (k.hash w) % (t.mask + 1)) (SetTable.bits (k.hash w)) = g at est
    have wy : ∀ c, way t.mask (k.hash w) c = (nth t.mask g c).j := fun c => by rw [← hg]
    have nod : ∀ (n : Nat) (p : SetTable.Probe), p.dummy = none → (nth t.mask p n).dummy = none := by
      intro n
      induction n with
      | zero => exact fun p z => z
      | succ n jh =>
        intro p z
        refine jh _ ?_
        unfold adv
        split <;> exact z
    have gap : ¬ t.gaveWay = true := by
      unfold SetTable.gaveWay
      rw [mask_odd R.tab.mok]
      decide
    have same : t.sameMemory t.moves t.mask = some true := by
      unfold SetTable.sameMemory
      rw [if_pos (beq_self_eq_true _)]
    rw [setSearchFrom_succ]
    refine wpAny_bind (wpAny_setState_of e1 e3 R.fits ?_)
    dsimp only
    refine wp_if_neg gap ?_
    try refine wpAny_bind (wpAny_pure ?_)
    have shift : ∀ q, (nth t.mask (nth t.mask g c) q).j = way t.mask (k.hash w) (c + q) := fun q => by rw [wy, nth_add]
    have hash : ∀ (i : Nat) p, L[i]? = some p → (fun i => (es[i]?.map (·.1)).getD 0) i = p.2.hash w := fun i p e => by
      show (es[i]?.map (·.1)).getD 0 = _
      rw [R.at' e]
      rfl
    have spec := go_spec t R.tab.ris R.tab.dm (fun i => (es[i]?.map (·.1)).getD 0) (k.hash w) (10 * SetTable.turns t.mask) (K - c) (nth t.mask g c) (nod c g (by rw [← hg]; rfl)) (by omega)
      (fun q z => by rw [shift]; exact k2 _ (by omega)) (by rw [shift, Nat.add_sub_cancel' hcK]; exact k1)
    rcases spec with ⟨q, i, q1, q2, q3, q4, q5⟩ | ⟨q4, q5⟩
    · rw [shift] at q2
      have e4 : t.probe (fun i => (es[i]?.map (·.1)).getD 0) (k.hash w) (st.getD (t.probeStart (k.hash w))) = some (.candidate (way t.mask (k.hash w) (c + q)) i (nth t.mask g (c + (q + 1)))) := by
        rw [est, ← shift, nth_add]
        exact q5
      rw [e4]
      dsimp only
      have il : i < L.length := by
        have z1 := (List.getElem?_eq_some_iff.mp q2).1
        have z2 := R.tab.sz
        rw [List.length_map] at z2
        rw [Array.length_toList] at z1
        omega
      obtain ⟨p, ep'⟩ : ∃ p, L[i]? = some p := ⟨_, List.getElem?_eq_getElem il⟩
      have pm : p ∈ L := List.mem_of_getElem? ep'
      have pk := R.key p pm
      have live := slot_live R.tab.ris q2
      have go : wpAny (model P w) A (searchRest a (.ref x) (k.hash w) true f es t (way t.mask (k.hash w) (c + q)) i (nth t.mask g (c + (q + 1)))) Q E s := by
        unfold searchRest
        rw [R.at' ep']
        dsimp only
        refine wpAny_bind (wpAny_holding ?_)
        refine (nestedKind P w).eqBool (show A.units + 8 < cLine from hu) pk hx ?_
        refine wpAny_bind (wpAny_setState_of e1 e3 R.fits ?_)
        dsimp only
        by_cases hpk : p.2 = k
        · refine wp_if_pos (by simp [hpk]) ?_
          exact wpAny_pure (yes (List.mem_map.mpr ⟨p, pm, hpk⟩))
        · refine wp_if_neg (by simp [hpk]) ?_
          try refine wpAny_bind (wpAny_pure ?_)
          rw [same]
          dsimp only
          simp only [if_true, live, R.at' ep']
          refine wpAny_bind (wpAny_isSame_ref_self (wpAny_bind (wpAny_pure ?_)))
          simp only [if_true]
          refine wp_if_neg (by simp [hpk]) ?_
          refine ih (c + (q + 1)) _ (by rw [hg]; rfl) (by omega) (by omega) fun i0 p0 h0 hk0 => ?_
          obtain ⟨d, d1, d2, d3⟩ := hre i0 p0 h0 hk0
          refine ⟨d, ?_, d2, d3⟩
          rcases Nat.lt_trichotomy d (c + q) with z | z | z
          · refine absurd ?_ (q4 (d - c) i0 (by omega) ?_)
            · exact (hash i0 p0 h0).trans (congrArg (NestedKey.hash w) hk0)
            · rw [shift, Nat.add_sub_cancel' d1]
              exact d3
          · rw [z] at d3
            have l2 := slot_live R.tab.ris d3
            rw [live] at l2
            injection l2 with l2
            rw [← l2, ep'] at h0
            exact absurd ((congrArg Prod.snd (Option.some.inj h0)).trans hk0) hpk
          · omega
      by_cases hl : t.led = true
      · refine wp_if_neg (by simp [hl]) ?_
        try refine wpAny_bind (wpAny_pure ?_)
        exact go
      · refine wp_if_pos (by simp [hl]) ?_
        refine wpAny_bind (unseen hx (fun y hy => ?_) ?_)
        · obtain ⟨e, he, rfl⟩ := List.mem_map.mp hy
          have m1 : e ∈ es := by
            have z := Array.mem_toList_iff.mp he
            exact (Array.mem_filter.mp z).1
          have m2 := Array.mem_toList_iff.mpr m1
          rw [R.its] at m2
          obtain ⟨p2, hp2, rfl⟩ := List.mem_map.mp m2
          exact ⟨p2.2, p2.1, rfl, R.key p2 hp2⟩
        · refine wp_if_neg (by decide) ?_
          try refine wpAny_bind (wpAny_pure ?_)
          exact go
    · have e4 : t.probe (fun i => (es[i]?.map (·.1)).getD 0) (k.hash w) (st.getD (t.probeStart (k.hash w))) = some (.empty (way t.mask (k.hash w) K) none) := by
        have z := shift (K - c)
        rw [Nat.add_sub_cancel' hcK] at z
        rw [est, ← z]
        exact q5
      rw [e4]
      dsimp only
      refine wpAny_pure (no fun m => ?_)
      obtain ⟨p0, h0, hk0⟩ := List.mem_map.mp m
      obtain ⟨i0, hi0⟩ := List.getElem?_of_mem h0
      obtain ⟨d, d1, d2, d3⟩ := hre i0 p0 hi0 hk0
      refine absurd ?_ (q4 (d - c) i0 (by omega) ?_)
      · exact (hash i0 p0 hi0).trans (congrArg (NestedKey.hash w) hk0)
      · rw [shift, Nat.add_sub_cancel' d1]
        exact d3
/-- the search as adding asks for it -/
theorem NSet.search (R : NSet w s.heap a L es ep t) {x : Addr} {k : NK} (hx : IsN s.heap k x) (hu : A.units + 8 < cLine) {Q : SetFound → Shared → Prop} (yes : k ∈ L.map Prod.snd → Q (.there none) s)
    (no : ∀ K, k ∉ L.map Prod.snd → way t.mask (k.hash w) K ∉ t.place.toList → (∀ c, c < K → way t.mask (k.hash w) c ∈ t.place.toList) → Q (.free (way t.mask (k.hash w) K) false) s) :
    wpAny (model P w) A (setSearch a (.ref x) (k.hash w) true) Q E s := by
  have f := R.few
  have m := R.m7
  obtain ⟨K, kf, k1, k2⟩ := R.tab.first (by rw [List.length_map, m]; omega) (k.hash w)
  have kb : K < 100000 := by
    have z : 10 * SetTable.turns t.mask ≤ 1420 := by
      rw [m]
      decide
    omega
  unfold setSearch
  refine R.from hx hu kf k1 k2 yes (fun n => no K n k1 k2) 100000 0 none rfl (Nat.zero_le _) (by omega) fun i p e hp => ?_
  have e1 : (L.map fun p => p.2.hash w)[i]? = some (k.hash w) := by
    rw [List.getElem?_map, e, ← hp]
    rfl
  have il : i < t.place.toList.length := by
    have z1 := (List.getElem?_eq_some_iff.mp e).1
    have z2 := R.tab.sz
    rw [List.length_map] at z2
    rw [Array.length_toList]
    omega
  have hj := List.getElem?_eq_getElem il
  obtain ⟨c, c1, c2⟩ := R.tab.before k1 e1 hj
  exact ⟨c, Nat.zero_le _, c1, by rw [hj, c2]⟩
end
end NS
namespace NS
open PySem PySem.Spec PyProof.Rows L2
section
variable {P : Program} {w : World} {A : Around} {E : Value → Shared → Prop} {s : Shared} {a : Addr} {L : List (Addr × NK)} {es : Array (Int × Value)} {ep : Nat} {t : SetTable}
/-- no tuple is the set -/
theorem isN_but {h h' : Heap} {k : NK} {a b : Addr} {ob : Obj} {es : Array (Int × Value)} {ep : Nat} {t : SetTable} (hb : IsN h k b) (ho : h.get? a = some ob) (hd : ob.data = .set es ep t) (hs : Heap.SameBut a h h') : IsN h' k b := by
  refine ⟨NestedIs.at (fun c oc xs n hc hc2 => ?_) k _ hb.1, hb.2⟩
  have ne : c ≠ a := fun z => by
    subst z
    cases hc.symm.trans ho
    rw [hd] at hc2
    cases hc2
  exact (hs.2 c ne).trans hc
theorem isN_keep {h h' : Heap} {k : NK} {b : Addr} (hb : IsN h k b) (hk : ∀ c o, h.get? c = some o → h'.get? c = some o) : IsN h' k b := ⟨NestedIs.at (fun c o _ _ e _ => hk c o e) k _ hb.1, hb.2⟩
theorem perm_put {α : Type} (l : List α) (n : Nat) (x : α) : (l.take n ++ x :: l.drop n).Perm (x :: l) := by
  have z := List.perm_middle (a := x) (l₁ := l.take n) (l₂ := l.drop n)
  rwa [List.take_append_drop] at z
theorem tab_plain {t : SetTable} {hs : List Int} (T : TabOk t hs) (b : Bool) : TabOk (if b = true then t else { t with plain := false }) hs := by
  cases b with
  | true => exact T
  | false => exact ⟨T.ris, T.dm, T.sz, T.mok, T.bd, T.reach⟩
set_option maxHeartbeats 1600000 in
/-- one more key -/
theorem NSet.add (R : NSet w s.heap a L es ep t) {x : Addr} {k : NK} (hx : IsN s.heap k x) (hu : A.units + 8 < cLine) (h4 : L.length + 1 ≤ 4) {Q : Bool → Shared → Prop}
    (q : ∀ b h' L' es' ep' t', Heap.SameBut a s.heap h' → NSet w h' a L' es' ep' t' → (k ∈ L.map Prod.snd → L' = L) → (k ∉ L.map Prod.snd → L'.Perm ((x, k) :: L)) → Q b { s with heap := h' }) :
    wpAny (model P w) A (setAddHashed a (.ref x) (k.hash w)) Q E s := by
  obtain ⟨ob, e1, e2, e3⟩ := R.at_
  have sz := R.size
  unfold setAddHashed
  refine wpAny_holding ?_
  rw [show (100000 : Nat) = 99999 + 1 from rfl, setAddHashedIn_succ]
  refine wpAny_bind (wpAny_setState_of e1 e3 R.fits ?_)
  dsimp only
  refine wp_if_neg (by simp [byScan, Value.scannable]) ?_
  try refine wpAny_bind (wpAny_pure ?_)
  refine wpAny_bind (R.search hx hu (fun m => ?_) fun K m k1 k2 => ?_)
  · dsimp only
    exact wpAny_pure (q false s.heap L es ep t (Heap.SameBut.refl a s.heap) R (fun _ => rfl) fun z => absurd m z)
  · dsimp only
    refine wpAny_bind (wpAny_setState_of e1 e3 R.fits ?_)
    dsimp only
    obtain ⟨p1, p2, p3, p4, p5, p6, p7, p8, p9⟩ := R.tab.put k1 k2
    generalize hp : t.put (way t.mask (k.hash w) K) = pt at p1 p3 p4 p5 p6 p7 p8 p9 ⊢
    obtain ⟨t1, n⟩ := pt
    dsimp only at p1 p3 p4 p5 p6 p7 p8 p9 ⊢
    subst p1
    generalize SetTable.below t.place (way t.mask (k.hash w) K) = n at p2 p3 ⊢
    have its : (SetTable.insertAt es n (k.hash w, Value.ref x)).toList = (L.take n ++ (x, k) :: L.drop n).map fun p => (p.2.hash w, Value.ref p.1) := by
      rw [SetTable.toList_insertAt, R.its, List.map_append, List.map_cons, List.map_take, List.map_drop]
    have tb : (L.take n ++ (x, k) :: L.drop n).map (fun p => p.2.hash w) = (L.map fun p => p.2.hash w).take n ++ k.hash w :: (L.map fun p => p.2.hash w).drop n := by
      rw [List.map_append, List.map_cons, List.map_take, List.map_drop]
    rw [← tb] at p3
    have pm := perm_put L n (x, k)
    have ln : (L.take n ++ (x, k) :: L.drop n).length = L.length + 1 := pm.length_eq
    have nd : ((L.take n ++ (x, k) :: L.drop n).map Prod.snd).Nodup := (pm.map Prod.snd).nodup_iff.mpr (List.nodup_cons.mpr ⟨m, R.one⟩)
    have ez : (SetTable.insertAt es n (k.hash w, Value.ref x)).size = L.length + 1 := by
      have z := congrArg List.length its
      rwa [Array.length_toList, List.length_map, ln] at z
    generalize SetTable.insertAt es n (k.hash w, Value.ref x) = es1 at its ez ⊢
    generalize L.take n ++ (x, k) :: L.drop n = L1 at pm ln p3 nd its
    have fin : ∀ b : Bool, wpAny (model P w) A (do
        storeSet a es1 (if b = true then t1 else { t1 with plain := false })
        if (!false && (if b = true then t1 else { t1 with plain := false }).tooFull) = true then setRelay a (SetTable.grown (es.size + 1))
        return true) Q E s := fun b => by
      have T := tab_plain p3 b
      have m7 : (if b = true then t1 else { t1 with plain := false }).mask = 7 := by
        rw [← R.m7, ← p4]
        cases b <;> rfl
      have ld : w.params.followText "set-order" = true ∨ (if b = true then t1 else { t1 with plain := false }).led = true := by
        have z := R.led
        rw [← p5] at z
        cases b <;> exact z
      have fl : (if b = true then t1 else { t1 with plain := false }).fill = L.length + 1 := by
        rw [List.length_map] at p9
        rw [← p9]
        cases b <;> rfl
      generalize (if b = true then t1 else { t1 with plain := false }) = t2 at T m7 ld fl ⊢
      refine wpAny_bind (wpAny_storeSet_of e1 e3 ?_ (by rw [ez, sizeLine_eq]; omega))
      have sb : Heap.SameBut a s.heap (s.heap.update a (Obj.putSet es1 t2)) := Heap.SameBut.update ..
      have at1 := store_at (es' := es1) (t' := t2) e1 e3
      generalize s.heap.update a (Obj.putSet es1 t2) = h1 at sb at1 ⊢
      have nf : t2.tooFull = false := by
        unfold SetTable.tooFull
        rw [fl, m7]
        exact decide_eq_false (by omega)
      rw [nf]
      refine wp_if_neg (by decide) ?_
      try refine wpAny_bind (wpAny_pure ?_)
      refine wpAny_pure (q true h1 L1 es1 (ep + 1) t2 sb ⟨⟨_, at1, ⟨e2.1, e2.2.1, e2.2.2⟩, rfl⟩, its, T, nd, fun p hp => ?_, ld, m7, by omega⟩ (fun z => absurd z m) fun _ => pm)
      rcases List.mem_cons.mp (pm.mem_iff.mp hp) with rfl | z
      · exact isN_but hx e1 e3 sb
      · exact isN_but (R.key p z) e1 e3 sb
    by_cases hpl : t1.plain = true
    · rw [if_pos hpl]
      exact wpAny_bind (by_val 8 k _ _ _ hx.1 hx.2 fin)
    · rw [if_neg hpl]
      exact wpAny_bind (wpAny_pure (fin true))
end
end NS
namespace NS
open PySem PySem.Spec PyProof.Rows L2
/-- what the set has of the first i items -/
structure Has (ks : List (Addr × NK)) (i : Nat) (L : List (Addr × NK)) : Prop where
  len : L.length ≤ i
  all : ∀ p ∈ ks.take i, p.2 ∈ L.map Prod.snd
  sub : ∀ p ∈ L, p ∈ ks.take i
theorem take_one {α : Type} {l : List α} {i : Nat} {x : α} (e : l[i]? = some x) : l.take (i + 1) = l.take i ++ [x] := by
  rw [List.take_add_one, e]
  rfl
theorem Has.step {ks L L' : List (Addr × NK)} {i : Nat} {x : Addr × NK} (g : Has ks i L) (e : ks[i]? = some x) (c1 : x.2 ∈ L.map Prod.snd → L' = L) (c2 : x.2 ∉ L.map Prod.snd → L'.Perm (x :: L)) : Has ks (i + 1) L' := by
  by_cases m : x.2 ∈ L.map Prod.snd
  · rw [c1 m]
    refine ⟨Nat.le_succ_of_le g.len, fun p hp => ?_, fun p hp => ?_⟩
    · rw [take_one e] at hp
      rcases List.mem_append.mp hp with z | z
      · exact g.all p z
      · rw [List.mem_singleton.mp z]
        exact m
    · rw [take_one e]
      exact List.mem_append_left _ (g.sub p hp)
  · have pm := c2 m
    refine ⟨?_, fun p hp => ?_, fun p hp => ?_⟩
    · rw [pm.length_eq]
      exact Nat.succ_le_succ g.len
    · rw [(pm.map Prod.snd).mem_iff]
      rw [take_one e] at hp
      rcases List.mem_append.mp hp with z | z
      · exact List.mem_cons_of_mem _ (g.all p z)
      · rw [List.mem_singleton.mp z]
        exact List.mem_cons_self ..
    · rw [take_one e]
      rcases List.mem_cons.mp (pm.mem_iff.mp hp) with z | z
      · rw [z]
        exact List.mem_append_right _ (List.mem_singleton.mpr rfl)
      · exact List.mem_append_left _ (g.sub p z)
theorem perm_of_sub {α : Type} [DecidableEq α] : ∀ (xs ys : List α), xs.Nodup → (∀ x ∈ xs, x ∈ ys) → ys.length ≤ xs.length → xs.Perm ys
  | [], ys, _, _, h => by
    rw [List.eq_nil_of_length_eq_zero (Nat.le_zero.mp h)]
  | x :: xs, ys, nd, h, l => by
    have hx := h x (List.mem_cons_self ..)
    obtain ⟨n1, n2⟩ := List.nodup_cons.mp nd
    have le := List.length_erase_of_mem hx
    have l2 := List.length_pos_of_mem hx
    rw [List.length_cons] at l
    refine ((perm_of_sub xs (ys.erase x) n2 (fun y hy => ?_) (by omega)).cons x).trans (List.perm_cons_erase hx).symm
    have ne : y ≠ x := fun z => n1 (by rw [← z]; exact hy)
    exact (List.mem_erase_of_ne ne).mpr (h y (List.mem_cons_of_mem _ hy))
/-- as many keys as items exactly if no two items are one key -/
theorem Has.size {ks L : List (Addr × NK)} (g : Has ks ks.length L) (nd : (L.map Prod.snd).Nodup) : decide (L.length = ks.length) = decide ((ks.map Prod.snd).Nodup) := by
  have s1 : ∀ k ∈ L.map Prod.snd, k ∈ ks.map Prod.snd := fun k hk => by
    obtain ⟨p, hp, rfl⟩ := List.mem_map.mp hk
    exact List.mem_map.mpr ⟨p, List.mem_of_mem_take (g.sub p hp), rfl⟩
  have s2 : ∀ k ∈ ks.map Prod.snd, k ∈ L.map Prod.snd := fun k hk => by
    obtain ⟨p, hp, rfl⟩ := List.mem_map.mp hk
    exact g.all p (by rw [List.take_length]; exact hp)
  refine decide_eq_decide.mpr ⟨fun e => ?_, fun n2 => ?_⟩
  · have pm := perm_of_sub _ _ nd s1 (by rw [List.length_map, List.length_map, e]; exact Nat.le_refl _)
    exact pm.nodup_iff.mp nd
  · have pm : (L.map Prod.snd).Perm (ks.map Prod.snd) := (List.perm_ext_iff_of_nodup nd n2).mpr fun k => ⟨s1 k, s2 k⟩
    have z := pm.length_eq
    rwa [List.length_map, List.length_map] at z
section
variable {P : Program} {w : World} {A : Around} {E : Value → Shared → Prop} {s : Shared}
/-- set.update's turns -/
theorem set_turns {I S : Addr} {fp wr : List Addr} {G : Array GenState → Array GenState → Prop} {n : Nat} {Pv : Nat → Value → Prop} {St : Nat → Shared → Prop} {R : Result → Shared → Prop} (W : WalksS P w A.in1 I fp wr G n Pv St)
    (sf : S ∉ fp) (ks : List (Addr × NK)) (hn : n = ks.length) (h4 : ks.length ≤ 4) (val : ∀ i v, Pv i v → ∃ p, ks[i]? = some p ∧ v = .ref p.1) (h0 : Heap) (hk : ∀ p ∈ ks, IsN h0 p.2 p.1)
    (s0 : h0.get? S = none) (w0 : ∀ b ∈ wr, h0.get? b = none) (hu : A.in1.units + 8 < cLine) :
    ∀ (m i : Nat) (s : Shared), n - i = m → i ≤ n → St i s → (∀ b o, h0.get? b = some o → s.heap.get? b = some o) → (∃ L es ep t, NSet w s.heap S L es ep t ∧ Has ks i L) →
      (∀ s' L es ep t, Moved (S :: wr) G s s' → NSet w s'.heap S L es ep t → Has ks n L → (∀ b o, h0.get? b = some o → s'.heap.get? b = some o) → R (.ok (.ret .none)) s') →
      codeAny (model P w) A (.builtin "set.update.loop" ⟨[.ref S, .ref I], []⟩) R s := by
  have sw : S ∉ wr := fun z => sf (W.sub _ z)
  have into : ∀ b ∈ wr, b ∈ S :: wr := fun b hb => List.mem_cons_of_mem _ hb
  have stay : ∀ {s s' : Shared}, Moved wr G s s' → (∀ b o, h0.get? b = some o → s.heap.get? b = some o) → ∀ b o, h0.get? b = some o → s'.heap.get? b = some o := fun mv k b o e =>
    mv.heap b o (fun z => by rw [w0 b z] at e; cases e) (k b o e)
  have setStay : ∀ {h h' : Heap} {L : List (Addr × NK)} {es : Array (Int × Value)} {ep : Nat} {t : SetTable} {i : Nat}, NSet w h S L es ep t → Has ks i L → (∀ o, h.get? S = some o → h'.get? S = some o) → (∀ b o, h0.get? b = some o → h'.get? b = some o) → NSet w h' S L es ep t := fun R g e1 e2 => by
    obtain ⟨ob, a1, a2⟩ := R.at_
    exact ⟨⟨ob, e1 ob a1, a2⟩, R.its, R.tab, R.one, fun p hp => isN_keep (hk p (List.mem_of_mem_take (g.sub p hp))) e2, R.led, R.m7, R.few⟩
  intro m
  induction m with
  | zero =>
    intro i s hm hi st kp ⟨L, es, ep, t, hS, g⟩ fin
    obtain rfl : i = n := by omega
    refine codeAny_builtin F.entry_set_update_loop ?_
    rw [Around.under_plainId F.plain_set_update_loop _]
    refine wpAny_bind (m := pyNext (.ref I)) (W.done s _ _ st fun s' mv => ?_)
    have k2 := stay mv kp
    exact wpAny_pure (fin s' L es ep t (mv.mono into) (setStay hS g (fun o e => mv.heap S o sw e) k2) g k2)
  | succ m ih =>
    intro i s hm hi st kp ⟨L, es, ep, t, hS, g⟩ fin
    have lt : i < n := by omega
    refine codeAny_builtin F.entry_set_update_loop ?_
    rw [Around.under_plainId F.plain_set_update_loop _]
    refine wpAny_bind (m := pyNext (.ref I)) (W.item i s _ _ lt st fun v s' hv st' mv => ?_)
    obtain ⟨p, hp, rfl⟩ := val i v hv
    have k2 := stay mv kp
    have hS2 := setStay hS g (fun o e => mv.heap S o sw e) k2
    have hx : IsN s'.heap p.2 p.1 := isN_keep (hk p (List.mem_of_getElem? hp)) k2
    show wpAny _ A.in1 (holding [Value.ref p.1] (setAdd S (.ref p.1)) >>= _) _ _ s'
    refine wpAny_bind (wpAny_holding ?_)
    unfold setAdd
    refine wpAny_holding (wpAny_bind ?_)
    refine (nestedKind P w).pyHash (show A.in1.units + 8 < cLine from hu) hx ?_
    refine NSet.add (s := { s' with toks := s'.toks + p.2.draws }) hS2 hx hu (by have := g.len; omega) fun b h' L' es' ep' t' sb R2 c1 c2 => ?_
    have k3 : ∀ b o, h0.get? b = some o → h'.get? b = some o := fun b o e => (sb.2 b fun z => by rw [z, s0] at e; cases e).trans (k2 b o e)
    refine wpAny_pure ⟨plainId_quiet F.plain_set_update_loop _, ih (i + 1) _ (by omega) lt (W.frame _ s' _ _ st' (Nat.le_add_right _ _) fun b hb o e => ?_) k3 ⟨L', es', ep', t', R2, g.step hp c1 c2⟩ fun s2 L2 es2 ep2 t2 mv2 R3 g3 k4 => ?_⟩
    · exact (sb.2 b fun z => sf (z ▸ hb)).trans e
    · refine fin s2 L2 es2 ep2 t2 (Moved.trans W.gtrans ((mv.mono into).then_heap (Nat.le_add_right _ _) fun b o hb e => ?_) mv2) R3 g3 k4
      exact (sb.2 b fun z => hb (z ▸ List.mem_cons_self ..)).trans e
end
end NS
namespace NS
open PySem PySem.Spec PyProof.Rows L2
section
variable {P : Program} {w : World} {A : Around} {E : Value → Shared → Prop} {s : Shared}
/-- an empty set, as it is made -/
abbrev fresh (w : World) : Obj := { cls := .type "set", dict := none, data := .set #[] 0 (.fresh 0 0 (!w.params.followText "set-order")) }
theorem NSet.fresh {h : Heap} {a : Addr} (e : h.get? a = some (fresh w)) : NSet w h a [] #[] 0 (.fresh 0 0 (!w.params.followText "set-order")) := by
  refine ⟨⟨_, e, ⟨rfl, rfl, rfl⟩, rfl⟩, rfl, ⟨List.Pairwise.nil, rfl, rfl, .inl rfl, fun x hx => ?_, fun i h j hi => ?_⟩, List.nodup_nil, fun p hp => ?_, ?_, rfl, Nat.zero_le _⟩
  · cases hx
  · cases hi
  · cases hp
  · show w.params.followText "set-order" = true ∨ (!w.params.followText "set-order") = true
    cases w.params.followText "set-order" with
    | true => exact .inl rfl
    | false => exact .inr rfl
/-- set(x) made: the keys of a tuple's items -/
def Made (w : World) (s : Shared) (ks : List (Addr × NK)) (r : Value) (s' : Shared) : Prop := ∃ h' tk L es ep t, r = .ref s.heap.objs.size ∧ s' = { s with heap := h', toks := tk } ∧ NSet w h' s.heap.objs.size L es ep t ∧ Has ks ks.length L ∧ ∀ b o, s.heap.get? b = some o → h'.get? b = some o
set_option maxHeartbeats 3200000 in
theorem set_tup {l : Addr} {items : Array Value} (ks : List (Addr × NK)) {Q : Value → Shared → Prop} (calm : A.handled = none) (hl : s.heap.IsTuple l items) (hit : items.toList = ks.map fun p => Value.ref p.1)
    (hk : ∀ p ∈ ks, IsN s.heap p.2 p.1) (h4 : ks.length ≤ 4) (hu : A.units + 20 < cLine) (q : ∀ r s', Made w s ks r s' → Q r s') : wpAny (model P w) A (call (.type "set") [.ref l]) Q E s := by
  have size : items.size = ks.length := by
    have z := congrArg List.length hit
    rwa [Array.length_toList, List.length_map] at z
  obtain ⟨c, tl, hmro⟩ := F.called_set.mro
  have hmade := F.called_set.made
  have hsub := F.called_set.sub
  refine wpAny_call (codeAny_of_tree ?_)
  show wpAny _ _ (callAny (.type "set") _) _ _ _
  refine wpAny_pure (And.intro (Code.quiet_builtin _ (by decide +kernel)) (codeAny_builtin F.entry_type_call ?_))
  rw [Around.under_plain (weight_type_call_type "set" [.ref l] []) rfl]
  have h1 := F.called_set.notType
  have h2 := F.called_set.canCreate
  have hct := F.typeCall_set_1 (.ref l)
  repeat (any_goals (first | assumption | wp_step))
  refine codeAny_mono (code_set_led1 (.ref l) (E := E) (Q₁ := fun ob s1 => ob = .ref s.heap.objs.size ∧ s1 = { s with heap := s.heap.push (NS.fresh w) }) ⟨rfl, rfl⟩) fun r s1 hr => ?_
  cases r with
  | error e => exact hr
  | ok fl =>
    cases fl with
    | ret ob =>
      obtain ⟨rfl, rfl⟩ := hr
      have new : (s.heap.push (NS.fresh w)).get? s.heap.objs.size = some (NS.fresh w) := Heap.get?_push_size _ rfl
      have hT : Shared.TypeIs { s with heap := s.heap.push (NS.fresh w) } (.ref s.heap.objs.size) "set" := ⟨_, new, rfl⟩
      have hli := F.called_set.init.lookup
      have hbi := F.called_set.init.bind (.ref s.heap.objs.size)
      repeat (any_goals (first | assumption | wp_step))
      refine codeAny_mono (codeAny_call_builtin (R := wants (fun r s2 => r = .none ∧ Made w s ks (.ref s.heap.objs.size) s2) E) F.called_set.init.plain F.entry_set_init (check_set_init_1 hT ?_)) fun r2 s2 hr2 => ?_
      · obtain ⟨ol, b1, b2, n, b3⟩ := hl
        have zl : l < s.heap.objs.size := Heap.lt_size b1
        obtain ⟨oc, odi, oda, osl⟩ := ol
        simp only at b2 b3
        subst b2; subst b3
        have old : (s.heap.push (NS.fresh w)).get? l = some { cls := .type "tuple", dict := odi, data := .seq items n, slots := osl } := Heap.get?_push_of_some _ b1
        have n1 := F.sub_tuple_set
        have n2 := F.sub_tuple_frozenset
        have n3 : (Value.type "tuple" == Value.type "dict") = false := by decide
        have hl1 : (s.heap.push (NS.fresh w)).IsTuple l items := ⟨_, old, rfl, n, rfl⟩
        unfold Builtin.«set.__init__» noKeywords Builtin.Frozenset.updateFrom
        generalize hPI : pyIter = PI
        wp_walk
        subst hPI
        refine wpAny_pyIter_tuple hl1 (wpAny_bind (wpAny_runValue ?_))
        have calm3 : A.in1.in1.in1.handled = none := by simp [calm]
        have sz1 : (s.heap.push (NS.fresh w)).objs.size = s.heap.objs.size + 1 := Heap.size_push ..
        have ne1 : l ≠ (s.heap.push (NS.fresh w)).objs.size := by
          rw [sz1]
          exact Nat.ne_of_lt (Nat.lt_succ_of_lt zl)
        have ne2 : s.heap.objs.size ∉ [(s.heap.push (NS.fresh w)).objs.size, l] := by
          rw [sz1]
          intro z
          simp only [List.mem_cons, List.not_mem_nil, or_false] at z
          rcases z with z | z
          · exact Nat.ne_of_lt (Nat.lt_succ_self _) z
          · exact Nat.ne_of_gt zl z
        have val : ∀ (i : Nat) (v : Value), items[i]? = some v → ∃ p, ks[i]? = some p ∧ v = .ref p.1 := fun i v hv => by
          rw [← Array.getElem?_toList, hit, List.getElem?_map] at hv
          obtain ⟨p, e, rfl⟩ := Option.map_eq_some_iff.mp hv
          exact ⟨p, e, rfl⟩
        have noneAt : ∀ b, s.heap.objs.size ≤ b → s.heap.get? b = none := fun b hb => Heap.get?_none_of_le hb
        refine set_turns ((Walks.tuple calm3 _ l ne1 items).toS) ne2 ks size h4 val s.heap hk (noneAt _ (Nat.le_refl _)) (fun b hb => noneAt b ?_) (by show A.in1.in1.in1.units + 8 < cLine; simp only [Around.in1]; omega) (items.size - 0) 0 _ (by omega) (Nat.zero_le _)
          ⟨⟨_, Heap.get?_push_size _ rfl, rfl, rfl⟩, hl1.push _⟩ (fun b o e => Heap.get?_push_of_some _ (Heap.get?_push_of_some _ e)) ⟨[], #[], 0, _, NSet.fresh (Heap.get?_push_of_some _ new), ⟨Nat.le_refl _, fun p hp => ?_, fun p hp => ?_⟩⟩ fun s3 L es ep t mv R g kp => ?_
        · rw [List.mem_singleton.mp hb, sz1]
          omega
        · cases hp
        · cases hp
        · obtain ⟨h3, g3, d3, tk3, os3⟩ := s3
          have eg : g3 = s.gens := mv.gens
          have ed : d3 = s.drawn := mv.drawn
          have eo : os3 = s.os := mv.os
          subst eg; subst ed; subst eo
          rw [size] at g
          exact wpAny_pure (wpAny_pure ⟨rfl, h3, tk3, L, es, ep, t, rfl, rfl, R, g, kp⟩)
      · cases r2 with
        | error e => exact hr2
        | ok fl2 =>
          cases fl2 with
          | ret r =>
            obtain ⟨rfl, hm⟩ := hr2
            repeat (any_goals (first | assumption | wp_step))
            exact q _ _ hm
          | _ => exact hr2.elim
    | _ => exact hr.elim
end
end NS
namespace NS
open PySem PySem.Spec PyProof.Rows L2
mutual
theorem of_reads {h : Heap} : ∀ (k : NK) (v : Value) (as : List Addr), Reads h v k.data as → NestedIs h k v
  | .none, _, _, r => by
    cases r
    exact .none
  | .num i, _, _, r => by
    cases r
    exact .int _ _
  | .text x, _, _, r => by
    cases r
    exact .text _ _
  | .tup ks, _, _, r => by
    cases r with
    | tuple e1 e2 e3 e4 => exact .tup e1 e2 e3 (all_of_reads ks _ _ e4)
theorem all_of_reads {h : Heap} : ∀ (ks : List NK) (vs : List Value) (as : List Addr), ReadsAll h vs (NestedKey.datas ks) as → NestedAll h ks vs
  | [], _, _, r => by
    cases r
    exact .nil
  | k :: ks, _, _, r => by
    cases r with
    | cons r1 r2 => exact .cons (of_reads k _ _ r1) (all_of_reads ks _ _ r2)
end
section
variable {X : Cx}
/-- len(set(x)), x a tuple of keys: all of them exactly if no two are one -/
def tLenSetN (K : PySem.W.Frag) (ta : TE) : TE := fun σ H Q => ta σ H fun x H1 => ∃ (l : Addr) (ks : List (Addr × NK)), x = V.ref l ∧ SqT K H1 l (ks.map fun p => V.ref p.1) ∧ (∀ p ∈ ks, Dp K H1 (.ref p.1) p.2.data ∧ p.2.depth ≤ 8) ∧ ks.length ≤ 4 ∧
  ∀ n : Nat, decide (n = ks.length) = decide ((ks.map Prod.snd).Nodup) → Q (.int n) H1
theorem refs_eq : ∀ {ks : List (Addr × NK)} {us : List Value}, Vals (ks.map fun p => V.ref p.1) us → us = ks.map fun p => Value.ref p.1
  | [], _, r => by
    cases r
    rfl
  | p :: ks, _, r => by
    cases r with
    | cons r1 r2 =>
      rw [refs_eq r2, show _ = Value.ref p.1 from r1]
      rfl
theorem pe_lenSetN {a : Expr} {ta : TE} {p p2 q pos : Pos} (hc : X.calm = true) (hu : X.A.units + 64 < cLine) (hg : Gl X "len") (hm : X.mg "len" = none) (hg2 : Gl X "set") (hm2 : X.mg "set" = none) (ha : PE X a ta)
    (na : starEach [a] X.env = (false, eval a X.env) :: starEach [] X.env := by rfl) : PE X (.Call (.Name "len" p) [.Call (.Name "set" p2) [a] [] q] [] pos) (tLenSetN X.K ta) := by
  refine ⟨fun pins s σ H Q I h => Call_ (ld_blt I hg hm PySem.boot_len ?_)⟩
  refine PyProof.Rows.callWith_builtin1 (PyProof.Rows.args_cons ?_ rfl) rfl rfl
  refine Call_ (ld_blt I hg2 hm2 PyProof.Rows.boot_set (PyProof.Rows.callWith_type1 (PyProof.Rows.args_cons (thn (ha.run pins s σ H _ I h) fun v s1 ⟨x, H1, I1, r1, q1⟩ => PyProof.Rows.args_nil ?_) na) na rfl))
  obtain ⟨l, ks, rfl, ht, hk, h4, q1⟩ := q1
  cases r1
  obtain ⟨its, rv, tp, hz⟩ := I1.tuple ht
  refine set_tup (P := X.prog) (w := X.w) ks (I1.ok.hd hc) tp (by simpa using refs_eq rv) (fun p hp => ?_) h4 (by omega) fun r s2 hm => ?_
  · obtain ⟨d1, d2⟩ := hk p hp
    obtain ⟨as, rd⟩ := Dp.reads I1 _ _ (Value.ref p.1) d1 rfl
    exact ⟨of_reads _ _ _ rd, d2⟩
  · obtain ⟨h', tk, L, es, ep, t, rfl, rfl, R, g, kp⟩ := hm
    refine PyProof.Rows.args_nil ?_
    obtain ⟨ob, e1, e2, e3⟩ := R.at_
    have I2 : Inv X pins σ H1 { s1 with heap := h', toks := tk } := I1.kept kp
    have sz := NSet.size (s := { s1 with heap := h', toks := tk }) R
    refine call_len_set (s := { s1 with heap := h', toks := tk }) e1 e2 e3 (NSet.fits (s := { s1 with heap := h', toks := tk }) R) (by have := R.few; omega) ⟨.int L.length, H1, I2.tok _, ⟨_, by rw [sz]⟩, q1 _ (g.size R.one)⟩
end
end NS
namespace NS
open PySem PySem.Spec PyProof.Rows L2
section
variable {X : Cx}
/-- set(x), x a tuple of ints -/
def rSetTI (K : PySem.W.Frag) (w : World) : List V → Hp → VK → Prop := fun vs H Q => ∃ (p : Addr) (ns : List Int), vs = [V.ref p] ∧ SqT K H p (ns.map V.int) ∧ ns.length ≤ 1000 ∧
  ∀ a c, H a = none → c ≤ ns.length → Q (.ref a) (upd H a (SetO w a (fun j => decide (j ∈ ns)) c))
theorem cr_setTI (hc : X.calm = true) : CallR X (.type "set") (rSetTI X.K X.w) := by
  intro pins s σ H vs us Q I r h
  obtain ⟨p, ns, rfl, ht, hz, q⟩ := h
  rw [Vals.ref1 r]
  obtain ⟨its, rv, tp, _⟩ := I.tuple ht
  refine call_set_tupI (P := X.prog) (w := X.w) ns (I.ok.hd hc) tp (by simpa using rv.ints) (by unfold scanBound; omega) fun h' tk c R hle kp => ?_
  exact ⟨.ref s.heap.objs.size, upd H s.heap.objs.size (SetO X.w s.heap.objs.size (fun j => decide (j ∈ ns)) c), I.laid (t' := tk) kp (Nat.le_refl _) (setO_new R), rfl, q _ c (I.hok.fresh (Nat.le_refl _)) hle⟩
end
/-- list(value) == sorted(set(value)) -/
theorem asc_iff {ns ms : List Int} (h1 : ms.Pairwise (· < ·)) (h2 : ∀ k : Int, k ∈ ms ↔ k ∈ ns) : decide (ns = ms) = decide (ns.Pairwise (· < ·)) := by
  refine decide_eq_decide.mpr ⟨fun e => e ▸ h1, fun h => ?_⟩
  have n1 : ms.Nodup := h1.imp fun a b => by
    subst b
    omega
  have n2 : ns.Nodup := h.imp fun a b => by
    subst b
    omega
  have pm : ns.Perm ms := (List.perm_ext_iff_of_nodup n2 n1).mpr fun k => (h2 k).symm
  exact pm.eq_of_pairwise (fun a b _ _ x y => by omega) h h1
end NS
-- CUT
/-! ### of our own: == and != by an own __eq__, static methods -/
namespace Kit
open PySem PySem.Spec PyProof.Rows L2
/-- == of the class at C is the def at f, != is object's -/
structure EqC (K : PySem.W.Frag) (C f : Addr) : Prop where
  eq : PySem.W.findIn K (.ref C) "__eq__" = some (some (.ref f))
  fn : PySem.W.isFn K (.ref f) = true
  ne : PySem.W.findIn K (.ref C) "__ne__" = some (some (.builtin "object.__ne__"))
  po : PySem.W.plainOver K C = true
/-- a statement's end, told once -/
def tMonoS (t : TS) : TS := fun D σ H => ∃ R : L2.St → Hp → Prop, t { D with nx := R } σ H ∧ ∀ σ' H', R σ' H' → D.nx σ' H'
theorem ps_mono {X : Cx} {st : Stmt} {t : TS} (h : PS X st t) : PS X st (tMonoS t) := ⟨fun pins s σ H D I q => by
  obtain ⟨R, h1, h2⟩ := q
  refine thn (h.run pins s σ H _ I h1) fun f s' z => ?_
  cases f with
  | next =>
    obtain ⟨σ', H', I', r⟩ := z
    exact ⟨σ', H', I', h2 σ' H' r⟩
  | _ => exact z⟩
theorem u65 {A : Around} {k : Nat} (hr : Room k A) : A.units + 65 < cLine := by
  have := hr.un
  omega
/-- the types of values that are no instances of own classes -/
def BT : List String := ["NoneType", "bool", "int", "str", "list", "tuple", "dict"]
/-- instances of C are asked what they are -/
structure IsC (K : PySem.W.Frag) (C : Addr) : Prop where
  cl : Cls K C
  ca : PySem.W.findIn K (.ref C) "__class__" = some (some (.builtin "object.__class__"))
  cg : PySem.W.specialIn K (.builtin "object.__class__") "__get__" = some (some (.builtin "getset_descriptor.__get__"))
  ct : PySem.W.takesIn K (.builtin "object.__class__") = some true
  cm : PySem.W.mroIn K C (.type "object") = some true
theorem IsC.ty {K : PySem.W.Frag} {H : Hp} {a C dx : Addr} {fs : List (Str × V)} (i : IsC K C) (e : H a = some (.ins C dx fs)) : TyX K H (.ref a) (.ref C) := .base (.ins e i.cl i.ca i.cg i.ct i.cm)
theorem nf_self {K : PySem.W.Frag} {C : Addr} : PySem.W.notFirst K C (.ref C) = true := by
  unfold PySem.W.notFirst
  rw [beq_self_eq_true]
  rfl
theorem ko_self {K : PySem.W.Frag} {C : Addr} : PySem.W.kitOne K (.ref C) (.ref C) = some true := by
  unfold PySem.W.kitOne
  rw [if_pos (beq_self_eq_true _)]
theorem ne_bind (v : Value) : bindSpecial (.builtin "object.__ne__") v = pure (.builtin "object.__ne__", [v]) :=
  (Slot.of (T := "object") (name := "__ne__") (owner := "object") (n := "__ne__") (by rw [typeLookup_type, builtinLookup_eq_fast]; kernel_rfl) (by decide +kernel) (by decide +kernel) (by decide +kernel)
    (.inl (by decide +kernel)) (by rw [isSubtype_type]; kernel_rfl)).bind v
theorem ne_entry : entryFor table "object.__ne__" = some Builtin.«object.__ne__» := entryFor_of_tree (by kernel_rfl)
theorem ne_args (u v : Value) : argsOk "object.__ne__" ⟨[u, v], []⟩ := by
  unfold argsOk
  kernel_rfl
section
variable {prog : Program} {w : World} {A : Around} {E : Value → Shared → Prop} {s : Shared} {K : PySem.W.Frag} {x C f : Addr} {ox : Obj} {od : Option Obj} {u tu : Value}
theorem inst_top {M : Model} (k : K.In s.heap) (I : PySem.W.InstAt s.heap x ox C od) (po : PySem.W.plainOver K C = true) : PySem.W.Looks M s.heap (isInstance (.ref x) (.type "object")) true := by
  obtain ⟨cd, hc, ho⟩ := PySem.W.any_some po
  have ne : cd.mro.isEmpty = false := by
    cases z : cd.mro with
    | nil =>
      rw [z] at ho
      cases ho
    | cons _ _ => rfl
  refine I.type.andThen (PySem.W.looks_mroIn k ?_)
  unfold PySem.W.mroIn
  rw [hc, Option.bind_some, if_neg (by rw [ne]; decide), PySem.W.only_has ho]
/-- a special method that is object's own: how it is called -/
theorem slot_of {M : Model} {name : Str} {i : String} {args : List Value} {Q : Option Value → Shared → Prop} (k : K.In s.heap) (I : PySem.W.InstAt s.heap x ox C od) (hs : PySem.W.findIn K (.ref C) name = some (some (.builtin i)))
    (hb : ∀ v, bindSpecial (.builtin i) v = pure (.builtin i, [v])) (h : wpAny M A (call (.builtin i) (.ref x :: args)) (fun v => Q (some v)) E s) : wpAny M A (callSpecialIfBound? (.ref x) name args) Q E s := by
  have fin : wpAny M A (call (.builtin i) ([.ref x] ++ args) >>= fun v => pure (some v)) Q E s := wpAny_bind (wpAny_mono h (fun v s' z => wpAny_pure z) fun _ _ z => z)
  simp only [callSpecialIfBound?, bindSpecialIfBound?, hb]
  refine wpAny_holding (wpAny_bind (wpAny_bind (wpAny_bind (I.type.here ((PySem.W.looks_findIn k hs).here ?_)))))
  refine wpAny_bind (wpAny_askSetting (wpAny_ite ?_))
  split
  · exact wpAny_bind (by rw [hb]; exact wpAny_pure (wpAny_pure (by exact fin)))
  · exact wpAny_tryCatch (wpAny_bind (by rw [hb]; exact wpAny_pure (wpAny_pure (by exact fin))))
/-- x != y, x an instance with an own == -/
theorem ne_own {h0 : Heap} {L : Addr} {m : Str → Option Value} {Q : Value → Shared → Prop} (hu : A.units + 1 < cLine) (F : Fr h0 L s.heap m) (k0 : K.In h0) (I : PySem.W.InstAt s.heap x ox C od) (ht : PySem.W.Looks (model prog w) s.heap (typeOf u) tu)
    (hn : PySem.W.notFirst K C tu = true) (e : EqC K C f) (h : wpAny (model prog w) A.in1 (call (.ref f) [.ref x, u]) (fun v s' => ∃ b, v = .bool b ∧ Q (.bool (!b)) s') E s) :
    wpAny (model prog w) A (richCompare .NotEq (.ref x) u) Q E s := by
  have k : K.In s.heap := k0.keeps F.keep
  have one : wpAny (model prog w) A (tryCompare (.ref x) "__ne__" u) (fun r s' => ∃ v, r = some v ∧ Q v s') E s := by
    unfold tryCompare
    refine wpAny_bind (slot_of k I e.ne ne_bind (wpAny_call (codeAny_call_builtin (by decide +kernel) ne_entry ?_)))
    refine @PySem.W.check_slot (model prog w) A.in1 _ s "object.__ne__" "object" "__ne__" (.ref x) [u] [] _ (by decide +kernel) (by decide +kernel) (inst_top k I e.po) (ne_args _ _) ?_
    unfold Builtin.«object.__ne__»
    refine wpAny_bind (m := slotArgs "__ne__" 1 ⟨[.ref x, u], []⟩) (wpAny_pure ?_)
    refine wpAny_bind (wpAny_cRoomFor hu ?_)
    refine wpAny_bind (PySem.W.ifBound_K k I e.eq e.fn (wpAny_mono h (fun v s' z => ?_) fun _ _ z => z))
    obtain ⟨b, rfl, q⟩ := z
    exact wpAny_bind (wpAny_truthy_bool (wpAny_pure (wpAny_pure ⟨_, rfl, q⟩)))
  unfold richCompare
  simp only [oneThing_ref]
  refine wpAny_holding (wpAny_bind (wpAny_cRoomFor (by omega) ?_))
  refine wpAny_bind (I.type.here (wpAny_bind (ht.here ?_)))
  have go : wpAny (model prog w) A (tryCompare (.ref x) (cmpInfo .NotEq).2.1 u) (fun r s' => ∃ v, r = some v ∧ Q v s') E s := one
  split
  · rename_i q
    have z : PySem.W.subIn K tu (.ref C) = some false := by
      rcases Bool.or_eq_true_iff.mp hn with z | z
      · rw [beq_iff_eq.mp z] at q
        simp at q
      · exact beq_iff_eq.mp z
    refine wpAny_bind ((PySem.W.looks_subIn k z).here ?_)
    simp only [Bool.false_eq_true, if_false]
    refine wpAny_bind (wpAny_mono go (fun r s' z => ?_) fun _ _ z => z)
    obtain ⟨v, rfl, hq⟩ := z
    exact wpAny_pure hq
  · refine wpAny_bind (wpAny_pure ?_)
    simp only [Bool.false_eq_true, if_false]
    refine wpAny_bind (wpAny_mono go (fun r s' z => ?_) fun _ _ z => z)
    obtain ⟨v, rfl, hq⟩ := z
    exact wpAny_pure hq
end
/-- x == y: the promise sp of the own == at x, y -/
def rEqO (K : PySem.W.Frag) (C : Addr) (sp : Sp) (E : XK) : R2 := fun x y H Q => ∃ a dx fs tu, x = .ref a ∧ H a = some (.ins C dx fs) ∧ TyX K H y tu ∧ PySem.W.notFirst K C tu = true ∧ sp [x, y] H (fun v H' => ∃ b, v = .bl b ∧ Q v H') E
def rNeO (K : PySem.W.Frag) (C : Addr) (sp : Sp) (E : XK) : R2 := fun x y H Q => ∃ a dx fs tu, x = .ref a ∧ H a = some (.ins C dx fs) ∧ TyX K H y tu ∧ PySem.W.notFirst K C tu = true ∧ sp [x, y] H (fun v H' => ∃ b, v = .bl b ∧ Q (.bl (!b)) H') E
section
variable {X : Cx} {CX : CXT} {n : Nat} {C f : Addr} {fd : FuncData} {ps : List Str} {sp : Sp} {E : XK}
theorem run_in {A : Around} {pins : List (Addr × Obj)} {σ : L2.St} {H : Hp} {s : Shared} {Q : VK} {us : List Value} {vs : List V} (F : FnOk X.prog X.w X.K X.mg X.base CX n f fd ps sp) (hr : Room n A) (hf : A.frames = some X.stack) (hb : Binds X.K fd ps []) (hx : Passes CX X E)
    (I : Inv X pins σ H s) (r : Vals vs us) (h : sp vs H Q E) : wpAny (model X.prog X.w) A (call (.ref f) us) (EP X pins σ Q) X.xe s := by
  have e := I.env0
  have e0 : Env0 X.prog X.w X.K X.mg X.base A X.stack s H := ⟨hf, e.mod, e.bs, e.bsz, e.funs, e.frf, e.hok, e.bare⟩
  have len : us.length = ps.length := by
    rw [← r.length]
    exact F.len _ _ _ _ h
  have b := hb s us I.kIn (by rw [List.append_nil]; exact len)
  rw [List.append_nil] at b
  refine wpAny_call (codeAny_mono (F.run A X.stack s H ⟨us, []⟩ us vs Q E hr e0 b r h) fun r s' hq => ?_)
  cases r with
  | error e => exact hx pins σ H s e s' I hq
  | ok fl =>
    cases fl with
    | ret u => exact I.after hq
    | _ => exact False.elim hq
theorem op_eqO (F : FnOk X.prog X.w X.K X.mg X.base CX n f fd ps sp) (hr : Room (n + 1) X.A) (e : EqC X.K C f) (hb : Binds X.K fd ps []) (hx : Passes CX X E) : OpR X (compareOp .Eq) (rEqO X.K C sp E) := by
  intro pins s σ H x y v u Q I rx ry h
  obtain ⟨a, dx, fs, tu, rfl, ha, ty, nf, hsp⟩ := h
  cases rx
  obtain ⟨P, Z, hP, _⟩ := kit_of I ry ty
  obtain ⟨mA, J, _⟩ := ins_get I.hok ha
  obtain ⟨od, J, _⟩ := J.look
  obtain ⟨m, hF⟩ := I.fr
  show wpAny (model X.prog X.w) X.A (richCompare .Eq (.ref a) u) (EP X pins σ Q) X.xe s
  refine PySem.W.cmp_K (op := .Eq) (tb := tu) hr.units0 hF I.ok.mod.kin J (Z.ty _ _ I.kIn hP) nf e.eq e.fn ?_
  refine wpAny_mono (run_in F (hr.mono (Nat.le_succ n)) I.ok.frames hb hx I (vs := [.ref a, y]) (.cons rfl (.cons ry .nil)) hsp) (fun r s' z => ?_) fun _ _ z => z
  obtain ⟨v, H', I', rv, b, rfl, q⟩ := z
  cases rv
  exact ⟨.bl b, H', I', rfl, q⟩
theorem op_neO (F : FnOk X.prog X.w X.K X.mg X.base CX n f fd ps sp) (hr : Room (n + 1) X.A) (e : EqC X.K C f) (hb : Binds X.K fd ps []) (hx : Passes CX X E) : OpR X (compareOp .NotEq) (rNeO X.K C sp E) := by
  intro pins s σ H x y v u Q I rx ry h
  obtain ⟨a, dx, fs, tu, rfl, ha, ty, nf, hsp⟩ := h
  cases rx
  obtain ⟨P, Z, hP, _⟩ := kit_of I ry ty
  obtain ⟨mA, J, _⟩ := ins_get I.hok ha
  obtain ⟨od, J, _⟩ := J.look
  obtain ⟨m, hF⟩ := I.fr
  show wpAny (model X.prog X.w) X.A (richCompare .NotEq (.ref a) u) (EP X pins σ Q) X.xe s
  refine ne_own (by have := hr.units; omega) hF I.ok.mod.kin J (Z.ty _ _ I.kIn hP) nf e ?_
  refine wpAny_mono (run_in F hr.in1 I.ok.frames hb hx I (vs := [.ref a, y]) (.cons rfl (.cons ry .nil)) hsp) (fun r s' z => ?_) fun _ _ z => z
  obtain ⟨v, H', I', rv, b, rfl, q⟩ := z
  cases rv
  exact ⟨b, rfl, .bl (!b), H', I', rfl, q⟩
end
end Kit
namespace Kit
open PySem PySem.Spec PyProof.Rows L2
/-- C.m is a staticmethod: its record at p, its def at g -/
structure SMet (K : PySem.W.Frag) (C : Addr) (mc : Value) (m : Str) (p g : Addr) : Prop where
  find : PySem.W.findCls K (.ref C) mc m = some (.get (.builtin "staticmethod.__get__") (.ref p) .none (.ref C))
  rcd : ∃ rest, PySem.W.recIn K p "staticmethod" = some (.ref g :: rest)
  hand : PySem.W.handedIn (.ref g) = true
section
variable {X : Cx} {CX : CXT} {k : Nat} {C p g : Addr} {mc : Value} {fd : FuncData} {ps : List Str} {sp : Sp} {E : XK} {o e : Expr} {es : List Expr} {m : Str} {pos apos : Pos} {ta : TE} {t : TA} {pl : Sem Bool}
/-- e.m(..), e the class at C -/
def tSMeth (C : Addr) (sp : Sp) (E : XK) (ta : TE) (t : TA) : TE := fun σ H Q => ta σ H fun x H1 => x = .ref C ∧ t σ H1 fun vs H2 => sp vs H2 Q E
theorem pe_smeth (he : PE X o ta) (r : ClX.CRead X.K C mc) (c : SMet X.K C mc m p g) (F : FnOk X.prog X.w X.K X.mg X.base CX k g fd ps sp) (hr : Room k X.A) (hk : PySem.W.keepIn X.K (.ref g) = true) (hb : Binds X.K fd ps []) (hx : Passes CX X E) (ha : PA X (e :: es) t)
    (hst : starEach (e :: es) X.env = (false, eval e X.env) :: starEach es X.env := by rfl) (hpl : (backTo pos (starEach es X.env)).any (·.1) = false := by rfl)
    (ht : eval (.Call (.Attribute o m apos) (e :: es) [] pos) X.env = (do
      let ov ← eval o X.env
      standAt apos.atName
      let (f, first) ← holding [ov] (getMethod ov m pl)
      callWith pos f first (backTo pos (starEach (e :: es) X.env)) (backToKw pos (keywordEach [] X.env))) := by rfl) :
    PE X (.Call (.Attribute o m apos) (e :: es) [] pos) (tSMeth C sp E ta t) := by
  refine ⟨fun pins s σ H Q I h => ?_⟩
  refine PySem.W.methodCall_KW (pl := pl) (thn (he.run pins s σ H _ I h) fun u s1 ⟨x, H1, I1, rx, ex, q⟩ => ?_) ht
  subst ex
  obtain rfl : u = Value.ref C := rx
  obtain ⟨rest, hp⟩ := c.rcd
  refine PySem.W.method_cls I1.kIn r.ga (PySem.W.cls_bind I1.kIn r.rd c.find (wpAny_call (PySem.W.sm_get (s := { s1 with toks := s1.toks + 1 }) I1.kIn hp (PySem.W.handed_on c.hand ?_))))
  have I2 := I1.tok (s1.toks + 1)
  refine PySem.W.callWith_K (h₀ := X.base) I2.ok.mod.kin hk (thn (ha.run pos pins _ σ H1 _ I2 q) fun us s3 ⟨vs, H2, I3, rv, q2⟩ => ⟨I3.kIn, ?_⟩) hst hpl
  exact run_in F hr I3.ok.frames hb hx I3 rv q2
end
end Kit
-- CUT
/-! ### of our own: what a table is, as data -/
namespace Kit
open PySem PySem.Spec PyProof.Rows L2
/-- tuples stay -/
def Mv (K : PySem.W.Frag) (H H' : Hp) : Prop := ∀ a xs, SqT K H a xs → SqT K H' a xs
theorem Mv.refl {K : PySem.W.Frag} (H : Hp) : Mv K H H := fun _ _ h => h
theorem Mv.trans {K : PySem.W.Frag} {H H1 H2 : Hp} (a : Mv K H H1) (b : Mv K H1 H2) : Mv K H H2 := fun p xs h => b p xs (a p xs h)
theorem mv_but {K : PySem.W.Frag} {H H' : Hp} {d : Addr} (k : ∀ b o, b ≠ d → H b = some o → H' b = some o) (n : ∀ xs, ¬ Rd H d (.tup xs)) : Mv K H H' := fun a xs h => by
  rcases h with h | h
  · have ne : a ≠ d := fun e => n xs (e ▸ h)
    rcases h with h | ⟨o, h⟩
    · exact .inl (.inl (k _ _ ne h))
    · exact .inl (.inr ⟨o, k _ _ ne h⟩)
  · exact .inr h
theorem mv_same {K : PySem.W.Frag} {H H' : Hp} (s : Same H H') : Mv K H H' := fun a xs h => by
  rcases h with (h | ⟨o, h⟩) | h
  · exact .inl (.inl (s _ _ h))
  · exact .inl (.inr ⟨o, s _ _ h⟩)
  · exact .inr h
theorem mv_keep {K : PySem.W.Frag} {H H' : Hp} {d : Addr} (k : Keep d H H') (hd : Dice H d) : Mv K H H' := mv_but k.1 fun xs h => by
  obtain ⟨a, b, c, e, _⟩ := hd
  rcases h with h | ⟨o, h⟩
  · rw [e] at h
    cases h
  · rw [e] at h
    cases h
mutual
/-- data without lists -/
def flat : PyData → Bool
  | .none => true
  | .bool _ => true
  | .int _ => true
  | .str _ => true
  | .tuple ds => flats ds
  | .list _ => false
  | .dict _ => false
def flats : List PyData → Bool
  | [] => true
  | d :: ds => flat d && flats ds
end
mutual
theorem dp_mv {K : PySem.W.Frag} {H H' : Hp} (m : Mv K H H') : ∀ (d : PyData) (v : V), flat d = true → Dp K H v d → Dp K H' v d
  | .none, _, _, h => by
    cases h
    exact .non
  | .bool b, _, _, h => by
    cases h
    exact .bl b
  | .int i, _, _, h => by
    cases h
    exact .int i
  | .str x, _, _, h => by
    cases h
    exact .str x
  | .tuple ds, _, f, h => by
    cases h with
    | tup e a => exact .tup (m _ _ e) (dps_mv m ds _ (by rwa [flat] at f) a)
  | .list _, _, f, _ => by
    rw [flat] at f
    cases f
  | .dict _, _, f, _ => by
    rw [flat] at f
    cases f
theorem dps_mv {K : PySem.W.Frag} {H H' : Hp} (m : Mv K H H') : ∀ (ds : List PyData) (vs : List V), flats ds = true → DpAll K H vs ds → DpAll K H' vs ds
  | [], _, _, h => by
    cases h
    exact .nil
  | d :: ds, _, f, h => by
    rw [flats, Bool.and_eq_true] at f
    cases h with
    | cons h1 h2 => exact .cons (dp_mv m d _ f.1 h1) (dps_mv m ds _ f.2 h2)
end
/-- a reference: its columns, its name -/
abbrev Rf := List Int × Str
def intsD (ns : List Int) : PyData := .tuple (ns.map PyData.int)
def refD (r : Rf) : PyData := .tuple [intsD r.1, .str r.2]
def refK (r : Rf) : NestedKey := .tup [.tup (r.1.map NestedKey.num), .text r.2]
def keyD : Option (List Int) → PyData
  | none => .none
  | some c => intsD c
theorem flats_ints : ∀ ns : List Int, flats (ns.map PyData.int) = true
  | [] => by simp [flats]
  | n :: ns => by simp [flats, flat, flats_ints ns]
theorem flat_ints (ns : List Int) : flat (intsD ns) = true := by
  unfold intsD
  rw [flat]
  exact flats_ints ns
theorem flat_ref (r : Rf) : flat (refD r) = true := by
  unfold refD
  rw [flat, flats, flat_ints]
  simp [flats, flat]
theorem flat_key (k : Option (List Int)) : flat (keyD k) = true := by
  cases k with
  | none => simp [keyD, flat]
  | some c => exact flat_ints c
theorem flats_map {α : Type} (f : α → PyData) (h : ∀ a, flat (f a) = true) : ∀ xs : List α, flats (xs.map f) = true
  | [] => by simp [flats]
  | x :: xs => by simp [flats, h x, flats_map f h xs]
theorem flat_refs (rs : List Rf) : flat (.tuple (rs.map refD)) = true := by
  rw [flat]
  exact flats_map refD flat_ref rs
/-! two such data are equal -/
theorem eqvAll_ints : ∀ xs ys : List Int, PyData.eqvAll (xs.map PyData.int) (ys.map PyData.int) = decide (xs = ys)
  | [], [] => by simp [PyData.eqvAll]
  | [], _ :: _ => by simp [PyData.eqvAll]
  | _ :: _, [] => by simp [PyData.eqvAll]
  | x :: xs, y :: ys => by
    rw [List.map_cons, List.map_cons, PyData.eqvAll, eqvAll_ints xs ys, PyData.eqv]
    by_cases a : x = y <;> by_cases b : xs = ys <;> simp [a, b]
theorem eqv_ints (xs ys : List Int) : PyData.eqv (intsD xs) (intsD ys) = decide (xs = ys) := by
  unfold intsD
  rw [PyData.eqv, eqvAll_ints]
theorem eqv_ref (a b : Rf) : PyData.eqv (refD a) (refD b) = decide (a = b) := by
  unfold refD
  rw [PyData.eqv, PyData.eqvAll, PyData.eqvAll, PyData.eqvAll, eqv_ints, PyData.eqv, Bool.and_true]
  obtain ⟨a1, a2⟩ := a
  obtain ⟨b1, b2⟩ := b
  by_cases x : a1 = b1 <;> by_cases y : a2 = b2 <;> simp [x, y]
theorem eqvAll_map {α : Type} [DecidableEq α] (f : α → PyData) (h : ∀ a b, PyData.eqv (f a) (f b) = decide (a = b)) : ∀ xs ys : List α, PyData.eqvAll (xs.map f) (ys.map f) = decide (xs = ys)
  | [], [] => by simp [PyData.eqvAll]
  | [], _ :: _ => by simp [PyData.eqvAll]
  | _ :: _, [] => by simp [PyData.eqvAll]
  | x :: xs, y :: ys => by
    rw [List.map_cons, List.map_cons, PyData.eqvAll, eqvAll_map f h xs ys, h]
    by_cases a : x = y <;> by_cases b : xs = ys <;> simp [a, b]
theorem eqv_refs (xs ys : List Rf) : PyData.eqv (.tuple (xs.map refD)) (.tuple (ys.map refD)) = decide (xs = ys) := by
  rw [PyData.eqv, eqvAll_map refD eqv_ref]
theorem eqv_refsL (xs ys : List Rf) : PyData.eqv (.list (xs.map refD)) (.list (ys.map refD)) = decide (xs = ys) := by
  rw [PyData.eqv, eqvAll_map refD eqv_ref]
theorem eqv_key (a b : Option (List Int)) : PyData.eqv (keyD a) (keyD b) = decide (a = b) := by
  cases a with
  | none =>
    cases b with
    | none => simp [keyD, PyData.eqv]
    | some c => simp [keyD, intsD, PyData.eqv]
  | some c =>
    cases b with
    | none => simp [keyD, intsD, PyData.eqv]
    | some e =>
      show PyData.eqv (intsD c) (intsD e) = _
      rw [eqv_ints]
      simp
/-! how deep -/
theorem depth_ints (ns : List Int) : (intsD ns).depth = 1 := by
  unfold intsD
  rw [PyData.depth, PySem.W.depth_ints]
theorem depth_ref (r : Rf) : (refD r).depth = 2 := by
  unfold refD
  simp [PyData.depth, PyData.depthAll, depth_ints]
theorem depth_refs : ∀ rs : List Rf, PyData.depthAll (rs.map refD) ≤ 2
  | [] => by simp [PyData.depthAll]
  | r :: rs => by
    have a := depth_ref r
    have b := depth_refs rs
    rw [List.map_cons, PyData.depthAll]
    omega
theorem lays_ints : ∀ ns : List Int, PyData.canLayAll0 (ns.map PyData.int) = true
  | [] => by simp [PyData.canLayAll0]
  | n :: ns => by simp [PyData.canLayAll0, PyData.canLay0, lays_ints ns]
theorem lay_ints (ns : List Int) : (intsD ns).canLay0 = true := by
  unfold intsD
  rw [PyData.canLay0]
  exact lays_ints ns
theorem lay_ref {r : Rf} (h : PyData.strOk r.2 = true) : (refD r).canLay0 = true := by
  unfold refD
  simp [PyData.canLay0, PyData.canLayAll0, lay_ints, h]
theorem lays_refs : ∀ {rs : List Rf}, (∀ r ∈ rs, PyData.strOk r.2 = true) → PyData.canLayAll0 (rs.map refD) = true
  | [], _ => by simp [PyData.canLayAll0]
  | r :: rs, h => by simp [PyData.canLayAll0, lay_ref (h r (List.mem_cons_self ..)), lays_refs fun q hq => h q (List.mem_cons_of_mem _ hq)]
theorem shaped_of {d : PyData} (a : d.canLay0 = true) (b : d.depth ≤ 64) : SeqAt.shaped d = true := by
  show (d.canLay0 && decide (d.depth ≤ 64)) = true
  rw [a, decide_eq_true b]
  rfl
theorem sh_ints (ns : List Int) : SeqAt.shaped (intsD ns) = true := shaped_of (lay_ints ns) (by rw [depth_ints]; decide)
theorem shL_ints (ns : List Int) : SeqAt.shaped (.list (ns.map PyData.int)) = true := by
  refine shaped_of (by rw [PyData.canLay0]; exact lays_ints ns) ?_
  rw [PyData.depth, PySem.W.depth_ints]
  decide
theorem dps_ints {K : PySem.W.Frag} {H : Hp} : ∀ ns : List Int, DpAll K H (ns.map V.int) (ns.map PyData.int)
  | [] => .nil
  | n :: ns => .cons (.int n) (dps_ints ns)
theorem sh_ref {r : Rf} (h : PyData.strOk r.2 = true) : SeqAt.shaped (refD r) = true := shaped_of (lay_ref h) (by rw [depth_ref]; decide)
theorem sh_refs {rs : List Rf} (h : ∀ r ∈ rs, PyData.strOk r.2 = true) : SeqAt.shaped (.tuple (rs.map refD)) = true := by
  have d := depth_refs rs
  refine shaped_of (by rw [PyData.canLay0]; exact lays_refs h) ?_
  rw [PyData.depth]
  omega
theorem sh_refsL {rs : List Rf} (h : ∀ r ∈ rs, PyData.strOk r.2 = true) : SeqAt.shaped (.list (rs.map refD)) = true := by
  have d := depth_refs rs
  refine shaped_of (by rw [PyData.canLay0]; exact lays_refs h) ?_
  rw [PyData.depth]
  omega
theorem sh_key (k : Option (List Int)) : SeqAt.shaped (keyD k) = true := by
  cases k with
  | none => rfl
  | some c => exact sh_ints c
/-! as keys of a set -/
theorem data_nums : ∀ ns : List Int, NestedKey.datas (ns.map NestedKey.num) = ns.map PyData.int
  | [] => by simp [NestedKey.datas]
  | n :: ns => by simp [NestedKey.datas, NestedKey.data, data_nums ns]
theorem data_refK (r : Rf) : (refK r).data = refD r := by
  unfold refK refD intsD
  simp [NestedKey.data, NestedKey.datas, data_nums]
theorem depth_nums : ∀ ns : List Int, NestedKey.depthAll (ns.map NestedKey.num) = 0
  | [] => by simp [NestedKey.depthAll]
  | n :: ns => by simp [NestedKey.depthAll, NestedKey.depth, depth_nums ns]
theorem depth_refK (r : Rf) : (refK r).depth ≤ 8 := by
  unfold refK
  simp [NestedKey.depth, NestedKey.depthAll, depth_nums]
theorem refK_inj {a b : Rf} (h : refK a = refK b) : a = b := by
  unfold refK at h
  injection h with h
  injection h with h1 h2
  injection h1 with h1
  injection h2 with h2 _
  injection h2 with h2
  have e : a.1 = b.1 := List.map_inj_right (f := NestedKey.num) (fun x y z => by injection z) |>.mp h1
  exact Prod.ext e h2
theorem nodup_refK {rs : List Rf} (h : rs.Nodup) : (rs.map refK).Nodup := List.pairwise_map.mpr (h.imp fun ne e => ne (refK_inj e))
/-! sorted -/
theorem alike_refs (a b : Rf) : PySem.W.alike (refD a) (refD b) = true := by
  unfold refD intsD
  simp [PySem.W.alike, PySem.W.alikeAll, PySem.W.alike_ints]
/-- the references ascending -/
noncomputable def sortR (rs : List Rf) : List Rf := rs.mergeSort (PySem.W.dataLe false refD)
theorem lt_ref (a b : Rf) : PySem.W.dataLt (refD a) (refD b) = if a.1 = b.1 then decide (a.2.cps.toList < b.2.cps.toList) else decide (a.1 < b.1) := by
  have e1 : PySem.W.alike (intsD a.1) (intsD b.1) = true := by
    unfold intsD
    simp [PySem.W.alike, PySem.W.alike_ints]
  unfold refD
  rw [PySem.W.dataLt_pair e1 (by simp [PySem.W.alike]), eqv_ints, PySem.W.dataLt_str]
  have e2 : PySem.W.dataLt (intsD a.1) (intsD b.1) = decide (a.1 < b.1) := by
    unfold intsD
    rw [PySem.W.dataLt_tuple]
    exact PySem.W.dataLt_ints a.1 b.1
  rw [e2]
  by_cases h : a.1 = b.1
  · rw [if_pos h, if_pos (decide_eq_true h)]
    by_cases h2 : a.2 = b.2
    · rw [if_pos (by rw [h2, PyData.eqv]; exact beq_self_eq_true _), h2]
      exact (decide_eq_false (List.lt_irrefl _)).symm
    · rw [if_neg (by rw [PyData.eqv]; simpa using h2)]
  · rw [if_neg h, if_neg (by simpa using h)]
def refLe (a b : Rf) : Prop := a.1 < b.1 ∨ (a.1 = b.1 ∧ a.2.cps.toList ≤ b.2.cps.toList)
theorem le_ref (a b : Rf) : PySem.W.dataLe false refD a b = true ↔ refLe a b := by
  show (!PySem.W.dataLt (refD b) (refD a)) = true ↔ _
  rw [lt_ref]
  unfold refLe
  by_cases h : b.1 = a.1
  · rw [if_pos h, Bool.not_eq_true', decide_eq_false_iff_not, List.not_lt]
    constructor
    · exact fun z => .inr ⟨h.symm, z⟩
    · rintro (z | ⟨_, z⟩)
      · rw [h] at z
        exact absurd z (List.lt_irrefl _)
      · exact z
  · rw [if_neg h, Bool.not_eq_true', decide_eq_false_iff_not, List.not_lt]
    constructor
    · intro z
      rcases List.le_iff_lt_or_eq.mp z with z | z
      · exact .inl z
      · exact absurd z.symm h
    · rintro (z | ⟨z, _⟩)
      · exact List.le_of_lt z
      · exact absurd z.symm h
theorem refLe_trans (a b c : Rf) (h1 : PySem.W.dataLe false refD a b = true) (h2 : PySem.W.dataLe false refD b c = true) : PySem.W.dataLe false refD a c = true := by
  rw [le_ref] at h1 h2 ⊢
  rcases h1 with h1 | ⟨h1, k1⟩
  · rcases h2 with h2 | ⟨h2, k2⟩
    · exact .inl (List.lt_trans h1 h2)
    · exact .inl (h2 ▸ h1)
  · rcases h2 with h2 | ⟨h2, k2⟩
    · exact .inl (h1 ▸ h2)
    · exact .inr ⟨h1.trans h2, List.le_trans k1 k2⟩
theorem refLe_total (a b : Rf) : (PySem.W.dataLe false refD a b || PySem.W.dataLe false refD b a) = true := by
  rw [Bool.or_eq_true, le_ref, le_ref]
  unfold refLe
  rcases List.le_total a.1 b.1 with h | h
  · rcases List.le_iff_lt_or_eq.mp h with h | h
    · exact .inl (.inl h)
    · rcases List.le_total a.2.cps.toList b.2.cps.toList with k | k
      · exact .inl (.inr ⟨h, k⟩)
      · exact .inr (.inr ⟨h.symm, k⟩)
  · rcases List.le_iff_lt_or_eq.mp h with h | h
    · exact .inr (.inl h)
    · rcases List.le_total a.2.cps.toList b.2.cps.toList with k | k
      · exact .inl (.inr ⟨h.symm, k⟩)
      · exact .inr (.inr ⟨h, k⟩)
theorem refLe_anti {a b : Rf} (h1 : PySem.W.dataLe false refD a b = true) (h2 : PySem.W.dataLe false refD b a = true) : a = b := by
  rw [le_ref] at h1 h2
  rcases h1 with h1 | ⟨h1, k1⟩
  · rcases h2 with h2 | ⟨h2, k2⟩
    · exact absurd (List.lt_trans h1 h2) (List.lt_irrefl _)
    · rw [h2] at h1
      exact absurd h1 (List.lt_irrefl _)
  · rcases h2 with h2 | ⟨h2, k2⟩
    · rw [h1] at h2
      exact absurd h2 (List.lt_irrefl _)
    · exact Prod.ext h1 (PySem.W.str_of_cps (List.le_antisymm k1 k2))
theorem sortR_perm (rs : List Rf) : (sortR rs).Perm rs := List.mergeSort_perm _ _
theorem sortR_asc (rs : List Rf) : (sortR rs).Pairwise fun a b => PySem.W.dataLe false refD a b = true := List.pairwise_mergeSort refLe_trans refLe_total rs
theorem sortR_eq {rs qs : List Rf} (h : rs.Perm qs) : sortR rs = sortR qs :=
  ((sortR_perm rs).trans (h.trans (sortR_perm qs).symm)).eq_of_pairwise (fun a b _ _ x y => refLe_anti x y) (sortR_asc rs) (sortR_asc qs)
theorem sortR_idem (rs : List Rf) : sortR (sortR rs) = sortR rs := sortR_eq (sortR_perm rs)
theorem putF_new {f : Str} {v : V} : ∀ {fs : List (Str × V)} (ns : List Str), fs.map Prod.fst = ns → ns.all (fun g => !decide (g = f)) = true → putF f v fs = fs ++ [(f, v)]
  | [], _, _, _ => rfl
  | (g, x) :: r, _, rfl, h => by
    rw [List.map_cons, List.all_cons, Bool.and_eq_true] at h
    have ne : ¬ g = f := of_decide_eq_false (by simpa using h.1)
    unfold putF
    rw [if_neg ne, putF_new (r.map Prod.fst) rfl h.2]
    rfl
theorem put4 (a b c d : V) : putF "_scope" d (putF "_key" c (putF "_width" b (putF "_name" a []))) = [(("_name" : Str), a), ("_width", b), ("_key", c), ("_scope", d)] := by
  rw [putF_new (fs := []) [] rfl rfl, putF_new (fs := [] ++ [_]) ["_name"] rfl (by decide +kernel), putF_new (fs := ([] ++ [_]) ++ [_]) ["_name", "_width"] rfl (by decide +kernel), putF_new (fs := (([] ++ [_]) ++ [_]) ++ [_]) ["_name", "_width", "_key"] rfl (by decide +kernel)]
  rfl
theorem put5 (a b c d e : V) : putF "_refers" e [(("_name" : Str), a), ("_width", b), ("_key", c), ("_scope", d)] = [(("_name" : Str), a), ("_width", b), ("_key", c), ("_scope", d), ("_refers", e)] := by
  rw [putF_new ["_name", "_width", "_key", "_scope"] rfl (by decide +kernel)]
  rfl
/-- a table's parts -/
structure Parts where
  nm : Str
  wd : Int
  key : Option (List Int)
  sc : Str
  refs : List Rf
deriving DecidableEq
def tabF (nm : Str) (wd : Int) (kv : V) (sc : Str) (rv : V) : List (Str × V) := [("_name", .str nm), ("_width", .int wd), ("_key", kv), ("_scope", .str sc), ("_refers", rv)]
/-- at v stands a table with these parts -/
def TabAt (K : PySem.W.Frag) (C : Addr) (H : Hp) (v : V) (p : Parts) : Prop := ∃ a dx kv rv, v = .ref a ∧ H a = some (.ins C dx (tabF p.nm p.wd kv p.sc rv)) ∧ Dp K H kv (keyD p.key) ∧ Dp K H rv (.tuple (p.refs.map refD))
theorem TabAt.same {K : PySem.W.Frag} {C : Addr} {H H' : Hp} {v : V} {p : Parts} (t : TabAt K C H v p) (s : Same H H') : TabAt K C H' v p := by
  obtain ⟨a, dx, kv, rv, e, ea, hk, hr⟩ := t
  exact ⟨a, dx, kv, rv, e, s _ _ ea, dp_mv (mv_same s) _ _ (flat_key _) hk, dp_mv (mv_same s) _ _ (flat_refs _) hr⟩
theorem TabAt.keep {K : PySem.W.Frag} {C : Addr} {H H' : Hp} {v : V} {p : Parts} {d : Addr} (t : TabAt K C H v p) (k : Keep d H H') (hd : Dice H d) : TabAt K C H' v p := by
  obtain ⟨a, dx, kv, rv, e, ea, hk, hr⟩ := t
  have ne : a ≠ d := fun z => by
    obtain ⟨x, y, c, e2, _⟩ := hd
    rw [z, e2] at ea
    cases ea
  exact ⟨a, dx, kv, rv, e, k.1 _ _ ne ea, dp_mv (mv_keep k hd) _ _ (flat_key _) hk, dp_mv (mv_keep k hd) _ _ (flat_refs _) hr⟩
end Kit
-- CUT
/-! ### of our own: defs with *args and one keyword-only parameter, classmethods, classes in a local name; calls of them with stars and keywords -/
namespace Kit
open PySem PySem.Spec PyProof.Rows L2 StX ClX
/-- positional values, keyword values -/
abbrev SpA := List V → List (Str × V) → Hp → VK → XK → Prop
def FnA (P : Program) (w : World) (K : PySem.W.Frag) (mg : Str → Option Value) (base : Heap) (CX : CXT) (k : Nat) (f : Addr) (sp : SpA) : Prop :=
  ∀ (A : Around) (outer : List Env) (s : Shared) (H : Hp) (ks : List Str) (us ws : List Value) (vs zs : List V) (Q : VK) (E : XK), Room k A → Env0 P w K mg base A outer s H → Vals vs us → Vals zs ws → zs.length = ks.length → sp vs (ks.zip zs) H Q E →
    codeAny (model P w) A (.call (.ref f) ⟨us, ks.zip ws⟩) (CR CX outer P w H s Q E) s
/-- the one keyword-only parameter q, its default d: what it is -/
def KwOne (q : Str) (d : V) (kws : List (Str × V)) (z : V) : Prop := (kws = [] ∧ z = d) ∨ kws = [(q, z)]
theorem kw_one {q : Str} {d z : V} {kws : List (Str × V)} {ks : List Str} {zs : List V} {ws : List Value} (h : KwOne q d kws z) (e : kws = ks.zip zs) (r : Vals zs ws) (l : zs.length = ks.length) : (ks = [] ∧ ws = [] ∧ zs = [] ∧ z = d) ∨ ∃ u, ks = [q] ∧ ws = [u] ∧ zs = [z] ∧ RelV z u := by
  subst e
  cases r with
  | nil =>
    cases ks with
    | nil =>
      rcases h with ⟨_, e⟩ | e
      · exact .inl ⟨rfl, rfl, rfl, e⟩
      · cases e
    | cons _ _ => cases l
  | cons a r =>
    cases ks with
    | nil => cases l
    | cons k0 ks =>
      rcases h with ⟨e, _⟩ | e
      · cases e
      · rw [List.zip_cons_cons] at e
        injection e with e1 e2
        injection e1 with e3 e4
        subst e3 e4
        cases r with
        | nil =>
          cases ks with
          | nil => exact .inr ⟨_, rfl, rfl, rfl, a⟩
          | cons _ _ => cases l
        | cons _ _ =>
          cases ks with
          | nil => cases l
          | cons _ _ => cases e2
section
variable {CX : CXT} {P : Program} {w : World} {K : PySem.W.Frag} {mg : Str → Option Value} {base : Heap} {k n : Nat} {f : Addr} {x qual : Str} {params : Arguments} {body : List Stmt} {scope : Scope} {N ps : List Str} {sp : Sp} {fd : FuncData} {q pv : Str} {dq : V}
/-- def f(a, .., *v, q = d) -/
theorem fn_starK1 (F : FunD K x qual params body scope [] [(q, dq)] f fd) (S : FnScope N (ps ++ [q, pv]) scope) (hCX : CXUp CX)
    (hb0 : ∀ (D : Addr) (doc pm : Value) (an : Option Addr) (cdv ct : Value) (us rest : List Value) (u : Value), us.length = ps.length → ∃ (β γ : Type) (k1 : Option Value → Sem β) (k2 : β → Sem γ) (k3 : γ → Sem (List (Str × Value))) (a : β),
      bindArgs (PySem.W.fnOf x qual params body scope .none (.ref D) doc pm an cdv ct) ⟨us ++ rest, []⟩ = ((nsGet D q >>= k1) >>= k2) >>= k3 ∧ k1 (some u) = pure a ∧ (k2 a >>= k3) = (newTuple rest >>= fun t => pure (ps.zip us ++ [(q, u), (pv, t)])))
    (hb1 : ∀ (D : Addr) (doc pm : Value) (an : Option Addr) (cdv ct : Value) (us rest : List Value) (u : Value), us.length = ps.length →
      bindArgs (PySem.W.fnOf x qual params body scope .none (.ref D) doc pm an cdv ct) ⟨us ++ rest, [(q, u)]⟩ = (newTuple rest >>= fun t => pure (ps.zip us ++ [(q, u), (pv, t)])))
    (hbody : ∀ (cdv : Value) (A : Around) (outer : List Env) (s : Shared) (H : Hp) (vs : List V) (Q : VK) (E : XK), Room k (A.deeper (envOfC qual scope s.heap.objs.size f cdv)) → sp vs H Q E →
      ∃ t, PSs (cxOf CX P w K mg base N qual scope f cdv A outer s H E) body t ∧ t { nx := fun _ H' => Q .non H', rt := Q } (start N vs) H) :
    FnA P w K mg base CX (k + 1) f (fun vs kws H Q E => ∃ ws rest z, vs = ws ++ rest ∧ ws.length = ps.length ∧ rest.length ≤ sizeLine ∧ KwOne q dq kws z ∧ ∀ p, H p = Option.none → sp (ws ++ [z, V.ref p]) (upd H p (.tup rest)) Q E) := by
  intro A outer s H ks us wz vs zs Q E hr e0 r rz lz hsp
  obtain ⟨oc, od, dV, kV, doc, pm, an, cdv, ct, osl, rfl, lk, hcd, hD, hK⟩ := F.ex
  rcases hD with ⟨_, rfl⟩ | ⟨e, _⟩
  · rcases hK with e | ⟨D, rfl, hq⟩
    · cases e
    · obtain ⟨u0, hu0, ru0⟩ := hq (q, dq) (List.mem_cons_self ..)
      obtain ⟨wv, rest, z, ev, hl, hz, ko, hq⟩ := hsp
      subst ev
      obtain ⟨u1, u2, eu, r1, r2⟩ := vals_split r
      subst eu
      have hn : H s.heap.objs.size = Option.none := e0.hok.fresh (Nat.le_refl _)
      have hl1 : u1.length = ps.length := by rw [← r1.length]; exact hl
      have hl2 : u2.length ≤ sizeLine := by rw [← r2.length]; exact hz
      have new : ObjOk P w (upd H s.heap.objs.size (.tup rest)) (s.heap.push ({ cls := .type "tuple", data := .seq u2.toArray } : Obj)) s.heap.objs.size (.tup rest) := ⟨hz, u2, r2, ⟨_, Heap.get?_push_size _ rfl, rfl, _, rfl⟩⟩
      have un := un_laid (fs := frs outer) (s := s) (o := ({ cls := .type "tuple", data := .seq u2.toArray } : Obj)) (u := .tup rest) hn
      have fin : ∀ (u : Value) (rq : RelV z u) (A' : Around) (Ex : Value → Shared → Prop) (Q' : List (Str × Value) → Shared → Prop),
          (∀ (s2 : Shared) (H2 : Hp) (xs : List V) (us : List Value), Env0 P w K mg base A outer s2 H2 → Un (frs outer) [] H H2 s.heap s2.heap → s2.os = s.os → (∀ e s', CX outer H2 s2 E e s' → CX outer H s E e s') → Vals xs us → xs.length = (ps ++ [q, pv]).length → (∃ p, H p = Option.none ∧ xs = wv ++ [z, V.ref p] ∧ H2 = upd H p (.tup rest)) → Q' ((ps ++ [q, pv]).zip us) s2) →
          wpAny (model P w) A' (newTuple u2 >>= fun t => pure (ps.zip u1 ++ [(q, u), (pv, t)])) Q' Ex s := fun u rq A' Ex Q' h => by
        refine wpAny_bind (wpAny_newTuple (wpAny_pure ?_) hl2)
        have zz := h _ _ (wv ++ [z, V.ref s.heap.objs.size]) (u1 ++ [u, Value.ref s.heap.objs.size]) (env0_laid e0 new) un rfl (fun e s' => hCX outer s H _ _ E e s' un (fun b o q => Heap.get?_push_of_some _ q) rfl) (r1.append (.cons rq (.cons rfl .nil)))
          (by rw [List.length_append, List.length_append, hl] <;> rfl) ⟨_, hn, rfl, rfl⟩
        rw [List.zip_append hl1.symm] at zz
        exact zz
      refine run_bnd lk hcd S hr e0 (G := fun xs H2 => ∃ p, H p = Option.none ∧ xs = wv ++ [z, V.ref p] ∧ H2 = upd H p (.tup rest)) (fun A' Ex Q' h => ?_) fun s2 H2 xs ⟨p, hp, ex, eH⟩ hr' => ?_
      · rcases kw_one ko rfl rz lz with ⟨rfl, rfl, rfl, rfl⟩ | ⟨u, rfl, rfl, rfl, ru⟩
        · obtain ⟨β, γ, k1, k2, k3, a, e1, e2, e3⟩ := hb0 D doc pm an cdv ct u1 u2 u0 hl1
          show wpAny _ _ (bindArgs _ ⟨u1 ++ u2, []⟩) _ _ _
          rw [e1, bind_assoc, bind_assoc]
          have KI : K.In s.heap := e0.mod.kin.keeps fun b o e => (e0.bs b o e).1
          refine wpAny_bind ((PySem.W.looks_nsIn KI hu0).here ?_)
          rw [e2, pure_bind, e3]
          exact fin u0 ru0 A' Ex Q' h
        · show wpAny _ _ (bindArgs _ ⟨u1 ++ u2, [(q, u)]⟩) _ _ _
          rw [hb1 D doc pm an cdv ct u1 u2 u hl1]
          exact fin u ru A' Ex Q' h
      · subst ex eH
        exact hbody cdv A outer s2 _ _ Q E hr' (hq p hp)
  · exact absurd rfl e
/-- def f(a, .., *, q = d) -/
theorem fn_K1 (F : FnOk P w K mg base CX k f fd ps sp) {g0 g1 : List Value → List Value → List Value} (b0 : KBn K fd ps n [] g0 fun vs _ => vs ++ [dq]) (b1 : KBn K fd ps n [q] g1 fun vs zs => vs ++ zs) :
    FnA P w K mg base CX k f (fun vs kws H Q E => ∃ z, vs.length = n ∧ KwOne q dq kws z ∧ sp (vs ++ [z]) H Q E) := by
  intro A outer s H ks us wz vs zs Q E hr e0 r rz lz ⟨z, hl, ko, hsp⟩
  have KI : K.In s.heap := e0.mod.kin.keeps fun b o e => (e0.bs b o e).1
  have hu : us.length = n := by rw [← r.length]; exact hl
  rcases kw_one ko rfl rz lz with ⟨rfl, rfl, rfl, rfl⟩ | ⟨u, rfl, rfl, rfl, ru⟩
  · exact F.run A outer s H ⟨us, _⟩ (g0 us []) _ Q E hr e0 (b0.to s us [] KI hu rfl) (b0.rel r .nil) hsp
  · exact F.run A outer s H ⟨us, _⟩ (g1 us [u]) _ Q E hr e0 (b1.to s us [u] KI hu rfl) (b1.rel r (.cons ru .nil)) hsp
end
section
open PySem.W
variable {M : Model} {A : Around} {E : Value → Shared → Prop} {s : Shared} {env : Env} {pos : Pos} {f : Value} {first : List Value} {Q : Value → Shared → Prop} {e : Expr} {rest : List Expr} {kws : List Keyword}
theorem callA_of {P : Heap → Prop} (hk : ∀ h, P h → ∃ k, (k = Keeper.frame ∨ k = Keeper.machine ∨ k = Keeper.boundFrame) ∧ Looks M h (keeperOf f) k) (hall : (backToKw pos (keywordEach kws env)).all (·.1.isSome) = true)
    (h : wpAny M A (spliced (backTo pos (starEach (e :: rest) env))) (fun vs s₁ => wpAny M A (evalAll ((backToKw pos (keywordEach kws env)).map (·.2)))
      (fun ks s₂ => P s₂.heap ∧ wpAny M A (call f (first ++ vs) (((backToKw pos (keywordEach kws env)).filterMap (·.1)).zip ks)) Q E s₂) E s₁) E s)
    (he : starEach (e :: rest) env = (false, eval e env) :: starEach rest env) : wpAny M A (callWith pos f first (backTo pos (starEach (e :: rest) env)) (backToKw pos (keywordEach kws env))) Q E s := by
  have z : wpAny M A (evalArgs f true (backTo pos (starEach (e :: rest) env)) (backToKw pos (keywordEach kws env))) (fun a s₁ => P s₁.heap ∧ wpAny M A (call f (first ++ a.pos) a.kw) Q E s₁) E s := evalArgs_kw2 hall h he
  unfold callWith
  refine wpAny_bind (wpAny_holding (wpAny_mono z (fun a s₁ h₁ => wpAny_bind (wpAny_standAt ?_)) fun _ _ x => x))
  obtain ⟨k, hk', L⟩ := hk _ h₁.1
  refine wpAny_bind (L.here ?_)
  have tail : ∀ {t : Sem Value}, wpAny M A t Q E s₁ → wpAny M A (t >>= fun r => holding [r] point >>= fun _ => pure r) Q E s₁ :=
    fun ht => wpAny_bind (wpAny_mono ht (fun r s₂ hr => wpAny_bind (wpAny_holding (wpAny_point (wpAny_pure hr)))) fun _ _ x => x)
  have marked (mk : Value) : wpAny M A (callMarked mk f (first ++ a.pos) a.kw) Q E s₁ := by unfold callMarked; exact Calls.wpAny_keep h₁.2
  generalize ((backTo pos (starEach (e :: rest) env)).any (·.1) || (backToKw pos (keywordEach kws env)).any (·.1.isNone)) = st
  cases st <;> rcases hk' with rfl | rfl | rfl <;> dsimp only <;> first | exact tail h₁.2 | exact tail (marked _) | exact tail (wpAny_operating h₁.2) | (split <;> first | exact tail h₁.2 | exact tail (marked _))
end
/-- C(e, .., *y, .., k = v), the class by any expression that is a name -/
def tMakeA (C : Addr) (ks : List Str) (sp : SpA) (E : XK) (tc : TE) (t tk : TA) : TE := fun σ H Q => tc σ H fun y H0 => y = .ref C ∧ t σ H0 fun vs H1 => tk σ H1 fun zs H2 => zs.length = ks.length ∧ ∀ x dx, H2 x = Option.none → H2 dx = Option.none → dx ≠ x →
  sp (.ref x :: vs) (ks.zip zs) (upd (upd H2 dx (.own x)) x (.ins C dx [])) (fun v H3 => v = .non ∧ Q (.ref x) H3) E
/-- e.m(..), e the class at C, m a classmethod -/
def tCMethA (C : Addr) (ks : List Str) (sp : SpA) (E : XK) (ta : TE) (t tk : TA) : TE := fun σ H Q => ta σ H fun x H1 => x = .ref C ∧ t σ H1 fun vs H2 => tk σ H2 fun zs H3 => zs.length = ks.length ∧ sp (.ref C :: vs) (ks.zip zs) H3 Q E
section
variable {X : Cx} {CX : CXT} {k : Nat} {f g C p : Addr} {mc : Value} {ks : List Str} {sp : SpA} {E : XK} {x m : Str} {ps pos apos : Pos} {o e : Expr} {es : List Expr} {kws : List Keyword} {tc ta : TE} {t tk : TA} {pl : Sem Bool}
theorem run_makeA {pins : List (Addr × Obj)} {σ : L2.St} {H : Hp} {s : Shared} {Q : VK} {us ws : List Value} {vs zs : List V} (M : Mk X.K C f) (F : FnA X.prog X.w X.K X.mg X.base CX k f sp) (hr : Room (k + 1) X.A) (hx : Passes CX X E)
    (I : Inv X pins σ H s) (r : Vals vs us) (rz : Vals zs ws) (l2 : zs.length = ks.length)
    (h : ∀ x dx, H x = Option.none → H dx = Option.none → dx ≠ x → sp (.ref x :: vs) (ks.zip zs) (upd (upd H dx (.own x)) x (.ins C dx [])) (fun v H2 => v = .non ∧ Q (.ref x) H2) E) :
    wpAny (model X.prog X.w) X.A (call (.ref C) us (ks.zip ws)) (EP X pins σ Q) X.xe s := by
  have hq := h (s.heap.objs.size + 1) s.heap.objs.size (I.hok.fresh (Nat.le_succ _)) (I.hok.fresh (Nat.le_refl _)) (Nat.ne_of_lt (Nat.lt_succ_self _))
  have I2 := Inv.made (C := C) I
  have r1 : Vals (V.ref (s.heap.objs.size + 1) :: vs) (Value.ref (s.heap.objs.size + 1) :: us) := .cons rfl r
  refine wpAny_call (make_map (f := f) I.kIn M.makes M.init (beq_iff_eq.mp M.fn) (codeAny_mono (F _ X.stack _ _ ks (Value.ref (s.heap.objs.size + 1) :: us) ws _ zs _ E (hr.make C us (ks.zip ws))
    (I2.env0.make C us (ks.zip ws)) r1 rz l2 hq) fun r s' hq' => ?_))
  cases r with
  | error e => exact hx pins σ _ _ e s' I2 hq'
  | ok fl =>
    cases fl with
    | ret u =>
      obtain ⟨v, H', I3, rv, ev, q3⟩ := I2.after hq'
      subst ev
      exact ⟨rv, ⟨V.ref (s.heap.objs.size + 1), H', I3, rfl, q3⟩⟩
    | next => exact False.elim hq'
    | brk => exact False.elim hq'
    | cont => exact False.elim hq'
theorem pe_makeA (hc : PE X (.Name x ps) tc) (M : Mk X.K C f) (F : FnA X.prog X.w X.K X.mg X.base CX k f sp) (hr : Room (k + 1) X.A) (hx : Passes CX X E) (ha : PA X (e :: es) t) (hkw : PK X kws tk)
    (hall : (backToKw pos (keywordEach kws X.env)).all (·.1.isSome) = true := by rfl) (hks : (backToKw pos (keywordEach kws X.env)).filterMap (·.1) = ks := by rfl)
    (he : starEach (e :: es) X.env = (false, eval e X.env) :: starEach es X.env := by rfl) : PE X (.Call (.Name x ps) (e :: es) kws pos) (tMakeA C ks sp E tc t tk) := by
  refine ⟨fun pins s σ H Q I h => ?_⟩
  refine wpAny_Call_Name_kw (thn (hc.run pins s σ H _ I h) fun u s0 ⟨y, H0, I0, ry, ey, q0⟩ => ?_)
  subst ey
  obtain rfl : u = Value.ref C := ry
  refine callA_of (P := fun h => X.K.In h) (PySem.W.keeps_K M.kp) hall (thn (ha.run pos pins s0 σ H0 _ I0 q0) fun us s1 ⟨vs, H1, I1, r, q⟩ => ?_) he
  refine thn (hkw.run pos pins s1 σ H1 _ I1 q) fun ws s2 ⟨zs, H2, I2, rz, l2, q2⟩ => ⟨I2.kIn, ?_⟩
  rw [hks]
  exact run_makeA M F hr hx I2 r rz l2 q2
/-- the call of a bound method's record, with keywords -/
theorem run_cmA {q : Addr} {pins : List (Addr × Obj)} {σ : L2.St} {H : Hp} {s : Shared} {Q : VK} {us ws : List Value} {vs zs : List V} (F : FnA X.prog X.w X.K X.mg X.base CX k g sp) (hr : Room k X.A) (hx : Passes CX X E) (I : Inv X ((q, PySem.W.methodObj (.ref g) (.ref C)) :: pins) σ H s)
    (r : Vals vs us) (rz : Vals zs ws) (l2 : zs.length = ks.length) (h : sp (.ref C :: vs) (ks.zip zs) H Q E) : wpAny (model X.prog X.w) X.A (call (.ref q) us (ks.zip ws)) (EP X pins σ Q) X.xe s := by
  refine wpAny_call (PySem.W.method_call (pin_at I) (codeAny_mono (F X.A X.stack s H ks (.ref C :: us) ws (.ref C :: vs) zs Q E hr I.env0 (.cons rfl r) rz l2 h) fun z s' q1 => ?_))
  cases z with
  | error u => exact hx pins σ H s u s' (unpin I) q1
  | ok fl =>
    cases fl with
    | ret u => exact (unpin I).after q1
    | _ => exact False.elim q1
theorem pe_cmethA (he : PE X o ta) (r : CRead X.K C mc) (c : CMet X.K C mc m p g) (F : FnA X.prog X.w X.K X.mg X.base CX k g sp) (hr : Room k X.A) (hx : Passes CX X E) (ha : PA X (e :: es) t) (hkw : PK X kws tk)
    (hall : (backToKw pos (keywordEach kws X.env)).all (·.1.isSome) = true := by rfl) (hks : (backToKw pos (keywordEach kws X.env)).filterMap (·.1) = ks := by rfl)
    (hst : starEach (e :: es) X.env = (false, eval e X.env) :: starEach es X.env := by rfl)
    (ht : eval (.Call (.Attribute o m apos) (e :: es) kws pos) X.env = (do
      let ov ← eval o X.env
      standAt apos.atName
      let (f, first) ← holding [ov] (getMethod ov m pl)
      callWith pos f first (backTo pos (starEach (e :: es) X.env)) (backToKw pos (keywordEach kws X.env))) := by rfl) :
    PE X (.Call (.Attribute o m apos) (e :: es) kws pos) (tCMethA C ks sp E ta t tk) := by
  refine ⟨fun pins s σ H Q I h => ?_⟩
  refine PySem.W.methodCall_KW (pl := pl) (thn (he.run pins s σ H _ I h) fun u s1 ⟨x, H1, I1, rx, ex, q⟩ => ?_) ht
  subst ex
  obtain rfl : u = Value.ref C := rx
  refine getmethcm_ok I1 r c fun s2 I2 => ?_
  refine callA_of (P := fun h => PySem.W.MethP X.K s1.heap.objs.size g (.ref C) h) (PySem.W.keeps_M c.fi) hall (thn (ha.run pos _ s2 σ H1 _ I2 q) fun us s3 ⟨vs, H2, I3, rv, q2⟩ => ?_) hst
  refine thn (hkw.run pos _ s3 σ H2 _ I3 q2) fun ws s4 ⟨zs, H3, I4, rz, l2, q3⟩ => ⟨⟨pin_at I4, I4.kIn⟩, ?_⟩
  rw [hks]
  exact run_cmA F hr hx I4 rv rz l2 q3
end
end Kit
-- CUT
/-! ### of our own: set(x) of texts; sorted of such a set -/
namespace TXS
open PySem PySem.Spec PyProof.Rows L2
/-- the text of a member -/
def txt (e : Int × Value) : Str := match e.2 with
  | .str k _ => k
  | _ => Str.empty
def Member (w : World) (e : Int × Value) : Prop := ∃ k tk, e.2 = Value.str k tk ∧ e.1 = hashStr w k
/-- a set of texts, its table as it stands -/
structure Laid (w : World) (h : Heap) (a : Addr) (S : Str → Bool) (n : Nat) (o : Obj) (es : Array (Int × Value)) (ep : Nat) (t : SetTable) : Prop where
  ob : h.get? a = some o
  ex : o.ExactSet
  dt : o.data = .set es ep t
  mem : ∀ e ∈ es.toList, Member w e
  one : (es.toList.map txt).Nodup
  is : ∀ k, S k = true ↔ k ∈ es.toList.map txt
  few : es.size < scanBound
  fit : t.fits es.size = true
  num : es.size = n
  ris : Ris t.place.toList
  led : w.params.followText "set-order" = true ∨ t.led = true
def TxtR (w : World) (h : Heap) (a : Addr) (S : Str → Bool) (n : Nat) : Prop := ∃ o es ep t, Laid w h a S n o es ep t
section
variable {P : Program} {w : World} {h h' : Heap} {a : Addr} {S : Str → Bool} {n : Nat}
theorem TxtR.at (R : TxtR w h a S n) (k : ∀ o, h.get? a = some o → h'.get? a = some o) : TxtR w h' a S n := by
  obtain ⟨o, es, ep, t, L⟩ := R
  exact ⟨o, es, ep, t, { L with ob := k o L.ob }⟩
theorem TxtR.congr {S' : Str → Bool} (R : TxtR w h a S n) (e : ∀ k, S' k = S k) : TxtR w h a S' n := by
  rw [show S' = S from funext e]
  exact R
theorem member_elems {l : List (Int × Value)} (g : ∀ e ∈ l, Member w e) : ElemsOf (PySem.strKind P w) l := fun e he => by
  obtain ⟨k, tk, h1, h2⟩ := g e he
  refine ⟨⟨k, ?_, h2⟩, by rw [h1] <;> rfl⟩
  rw [h1]
  show ((k == k) = true)
  exact beq_self_eq_true k
theorem member_is {e : Int × Value} (g : Member w e) (k : Str) : (PySem.strKind P w).is k e.2 = true ↔ txt e = k := by
  obtain ⟨k0, tk, h1, _⟩ := g
  unfold txt
  rw [h1]
  show ((k0 == k) = true) ↔ k0 = k
  exact beq_iff_eq
theorem member_at {l : List (Int × Value)} (g : ∀ e ∈ l, Member w e) (k : Str) : k ∈ l.map txt ↔ ∃ e ∈ l, (PySem.strKind P w).is k e.2 = true := by
  rw [List.mem_map]
  exact ⟨fun ⟨e, he, q⟩ => ⟨e, he, (member_is (g e he) k).2 q⟩, fun ⟨e, he, q⟩ => ⟨e, he, (member_is (g e he) k).1 q⟩⟩
end
section
variable {P : Program} {w : World} {A : Around} {E : Value → Shared → Prop} {s : Shared} {a : Addr} {S : Str → Bool} {n : Nat}
/-- what is stored behind the search: the table with its new member, perhaps laid anew -/
theorem put_back {g : Bool → Sem Unit} (hg : ∀ (b : Bool) (s₁ : Shared) (Q' : Unit → Shared → Prop), Q' () s₁ → wpAny (model P w) A (g b) Q' E s₁) {o : Obj} {es0 : Array (Int × Value)} {ep0 : Nat} {t0 : SetTable} (ho : s.heap.get? a = some o) (hex : o.ExactSet) (hd : o.data = .set es0 ep0 t0)
    {es : Array (Int × Value)} {t : SetTable} {S' : Str → Bool} (mem : ∀ e ∈ es.toList, Member w e) (one : (es.toList.map txt).Nodup) (is : ∀ k, S' k = true ↔ k ∈ es.toList.map txt) (few : es.size < scanBound) (fit : t.fits es.size = true) (ris : Ris t.place.toList)
    (led : w.params.followText "set-order" = true ∨ t.led = true) {wd : Bool} {R : Option Bool → Shared → Prop} (hR : ∀ h', Heap.SameBut a s.heap h' → TxtR w h' a S' es.size → R (some true) { s with heap := h' }) :
    wpAny (model P w) A (do
        storeSet a es t
        if (!wd && t.tooFull) = true then do
            g (relayAll t es (SetTable.grown es.size)).2.2
            storeSet a (relayAll t es (SetTable.grown es.size)).1 (relayAll t es (SetTable.grown es.size)).2.1
            pure (some true)
          else pure (some true)) R E s := by
  have o1 := L2.store_at (es' := es) (t' := t) ho hd
  have sb1 := Heap.SameBut.update s.heap a (Obj.putSet es t)
  refine wpAny_bind (wpAny_storeSet_of ho hd ?_ (fits_of_scanBound few))
  generalize s.heap.update a (Obj.putSet es t) = h1 at o1 sb1 ⊢
  split
  · have pm := relayAll_perm t es (SetTable.grown es.size)
    have fit2 := relayAll_fits t es (SetTable.grown es.size)
    have ris2 := relayAll_ris t es (SetTable.grown es.size)
    have led2 := relayAll_led t es (SetTable.grown es.size)
    generalize relayAll t es (SetTable.grown es.size) = Z at pm fit2 ris2 led2 ⊢
    obtain ⟨es2, t2, gave⟩ := Z
    dsimp only at pm fit2 ris2 led2 ⊢
    have num : es2.size = es.size := by
      have z := pm.length_eq
      rwa [Array.length_toList, Array.length_toList] at z
    have few2 : es2.size < scanBound := by
      rw [num]
      exact few
    refine wpAny_bind (hg _ _ _ ?_)
    refine wpAny_bind (wpAny_storeSet_of o1 rfl ?_ (fits_of_scanBound few2))
    have o2 := L2.store_at (es' := es2) (t' := t2) o1 rfl
    refine wpAny_pure (hR _ (sb1.trans (Heap.SameBut.update h1 a _)) ⟨_, es2, _, t2, ⟨o2, hex, rfl, fun e he => mem e (pm.mem_iff.mp he), (pm.map txt).nodup_iff.mpr one, fun k => (is k).trans (pm.map txt).mem_iff.symm, few2, fit2, num, ris2, ?_⟩⟩)
    rw [led2]
    exact led
  · exact wpAny_pure (hR _ sb1 ⟨_, es, _, t, ⟨o1, hex, rfl, mem, one, is, few, fit, rfl, ris, led⟩⟩)
/-- one more text -/
theorem add {k : Str} {tk : Tok} {Q : Bool → Shared → Prop} (R : TxtR w s.heap a S n) (room : n + 1 < scanBound)
    (hQ : ∀ b h', Heap.SameBut a s.heap h' → TxtR w h' a (fun j => S j || decide (j = k)) (if S k = true then n else n + 1) → Q b { s with heap := h' }) :
    wpAny (model P w) A (setAddHashed a (.str k tk) (hashStr w k)) Q E s := by
  obtain ⟨o, es, ep, t, L⟩ := R
  have is : (PySem.strKind P w).is k (.str k tk) = true := by
    show ((k == k) = true)
    exact beq_self_eq_true k
  have sc : (Value.str k tk).scannable = true := rfl
  have el : ElemsOf (PySem.strKind P w) es.toList := member_elems L.mem
  unfold setAddHashed setAddHashedIn
  refine wpAny_holding (wpAny_bind (wpAny_setState_of L.ob L.dt L.fit ?_))
  dsimp only
  rw [byScan_of sc L.few el]
  simp only [↓reduceIte]
  unfold setAddByScan
  refine wpAny_bind ?_
  refine wpAny_bind (wpAny_rule ?_)
  show wpAny _ _ (setScan a (.str k tk) ((PySem.strKind P w).hash k) true es >>= _) _ _ _
  refine wpAny_bind (wpAny_setScan_of is L.ob L.dt L.fit el ?_)
  cases hf : List.findIdx? (fun e => (PySem.strKind P w).is k e.2) es.toList with
  | some j =>
    dsimp only
    obtain ⟨hj, pj, _⟩ := List.findIdx?_eq_some_iff_getElem.mp hf
    have there : S k = true := (L.is k).2 ((member_at (P := P) L.mem k).2 ⟨es.toList[j], List.getElem_mem hj, pj⟩)
    refine wpAny_pure (wpAny_pure (hQ _ s.heap (Heap.SameBut.refl a s.heap) ?_))
    rw [if_pos there]
    refine TxtR.congr ⟨o, es, ep, t, L⟩ fun i => ?_
    by_cases e : i = k
    · rw [e, there, Bool.true_or]
    · rw [decide_eq_false e, Bool.or_false]
  | none =>
    dsimp only
    have off : k ∉ es.toList.map txt := fun z => by
      obtain ⟨e, he, q⟩ := (member_at (P := P) L.mem k).1 z
      have c := List.findIdx?_eq_none_iff.mp hf e he
      rw [q] at c
      cases c
    have away : S k = false := by
      cases q : S k with
      | false => rfl
      | true => exact absurd ((L.is k).1 q) off
    have quiet : ∀ (b : Bool) {s₁ : Shared} {Q' : Unit → Shared → Prop}, Q' () s₁ → wpAny (model P w) A (match b with | true => rule "set.scan.the-table-gave-way" | false => pure ()) Q' E s₁ := fun b s₁ Q' q => by
      cases b
      · exact wpAny_pure q
      · exact wpAny_rule q
    have pm := layNew_perm t es (hashStr w k) (.str k tk)
    have fit := layNew_fits t es (hashStr w k) (.str k tk)
    have ris := layNew_ris t es (hashStr w k) (.str k tk) L.ris
    have led := layNew_led t es (hashStr w k) (.str k tk)
    generalize layNew t es (hashStr w k) (.str k tk) = Z at pm fit ris led ⊢
    obtain ⟨es1, t1, wd, gave⟩ := Z
    dsimp only at pm fit ris led ⊢
    rw [Array.toList_push] at pm
    have pc : es1.toList.Perm ((hashStr w k, Value.str k tk) :: es.toList) := pm.trans (List.perm_append_singleton _ _)
    have pk : (es1.toList.map txt).Perm (k :: es.toList.map txt) := pc.map txt
    have mem : ∀ e ∈ es1.toList, Member w e := fun e he => by
      rcases List.mem_cons.mp (pc.mem_iff.mp he) with z | z
      · rw [z]
        exact ⟨k, tk, rfl, rfl⟩
      · exact L.mem e z
    have one : (es1.toList.map txt).Nodup := pk.nodup_iff.mpr (List.nodup_cons.mpr ⟨off, L.one⟩)
    have iss : ∀ i, (S i || decide (i = k)) = true ↔ i ∈ es1.toList.map txt := fun i => by
      rw [Bool.or_eq_true, decide_eq_true_eq, L.is i, pk.mem_iff, List.mem_cons]
      exact Or.comm
    have num : es1.size = n + 1 := by
      have z := pc.length_eq
      rwa [List.length_cons, Array.length_toList, Array.length_toList, L.num] at z
    have few : es1.size < scanBound := by
      rw [num]
      exact room
    have ledd : w.params.followText "set-order" = true ∨ t1.led = true := by
      rw [led]
      exact L.led
    have fin : ∀ h', Heap.SameBut a s.heap h' → TxtR w h' a (fun j => S j || decide (j = k)) es1.size → Q true { s with heap := h' } := fun h' sb r => by
      have z := hQ true h' sb
      rw [away] at z
      rw [num] at r
      exact z r
    refine wpAny_bind (quiet _ ?_)
    split
    · refine wpAny_bind ?_
      rw [hashByValue_scannable 8 sc]
      refine wpAny_pure ?_
      refine put_back (fun b s₁ Q' q => by cases b <;> first | exact wpAny_pure q | exact wpAny_rule q) L.ob L.ex L.dt mem one iss few ?_ ?_ ?_ fun h' sb r => by
        dsimp only
        exact wpAny_pure (fin h' sb r)
      · first | (split <;> first | exact fit | exact SetTable.fits_plain_off fit) | exact fit
      · first | (split <;> exact ris) | exact ris
      · first | (split <;> exact ledd) | exact ledd
    · refine wpAny_bind (wpAny_pure ?_)
      simp only [↓reduceIte]
      exact put_back (fun b s₁ Q' q => by cases b <;> first | exact wpAny_pure q | exact wpAny_rule q) L.ob L.ex L.dt mem one iss few fit ris ledd fun h' sb r => by
        dsimp only
        exact wpAny_pure (fin h' sb r)
/-- a new set -/
theorem fresh {h : Heap} {zs : List Str} (ho : h.get? a = some { cls := .type "set", dict := none, data := .set #[] 0 (.fresh 0 0 (!w.params.followText "set-order")) }) : TxtR w h a (fun j => decide (j ∈ zs.take 0)) 0 :=
  ⟨_, #[], 0, _, ⟨ho, ⟨rfl, rfl, rfl⟩, rfl, (fun e he => by simp at he), (by simp), (fun k => by simp), (by decide), (by rfl), rfl, List.Pairwise.nil, by
    show _ ∨ (!w.params.followText "set-order") = true
    cases w.params.followText "set-order"
    · exact .inr rfl
    · exact .inl rfl⟩⟩
/-- the set takes in what a walk gives -/
theorem takes_in {I : Addr} {fp wr : List Addr} {G : Array GenState → Array GenState → Prop} {m : Nat} {Pv : Nat → Value → Prop} {St : Nat → Shared → Prop} {R : Result → Shared → Prop} (W : WalksS P w A.in1 I fp wr G m Pv St) (a : Addr) (hf : a ∉ fp) (zs : List Str) (hm : m = zs.length)
    (hb : zs.length + 1 < scanBound) (hv : ∀ i v, Pv i v → ∃ k tk, zs[i]? = some k ∧ v = .str k tk) :
    ∀ (f i : Nat) (s : Shared), m - i = f → i ≤ m → St i s → (∃ c, c ≤ i ∧ TxtR w s.heap a (fun j => decide (j ∈ zs.take i)) c) →
      (∀ s' c, Moved (a :: wr) G s s' → c ≤ m → TxtR w s'.heap a (fun j => decide (j ∈ zs)) c → R (.ok (.ret .none)) s') → codeAny (model P w) A (.builtin "set.update.loop" ⟨[.ref a, .ref I], []⟩) R s := by
  have nw : a ∉ wr := fun z => hf (W.sub _ z)
  have more : ∀ b ∈ wr, b ∈ a :: wr := fun b hb => List.mem_cons_of_mem _ hb
  intro f
  induction f with
  | zero =>
    intro i s ef hi st ⟨c, hc, R0⟩ hR
    obtain rfl : i = m := by omega
    refine codeAny_builtin F.entry_set_update_loop ?_
    rw [Around.under_plainId F.plain_set_update_loop _]
    show wpAny _ A.in1 (pyNext (.ref I) >>= _) _ _ s
    refine wpAny_bind (W.done s _ _ st fun s' mv => ?_)
    show wpAny _ A.in1 (ret Value.none) _ _ s'
    rw [List.take_of_length_le (Nat.le_of_eq hm.symm)] at R0
    exact wpAny_pure (hR s' c (mv.mono more) hc (R0.at fun o e => mv.heap a o nw e))
  | succ f ih =>
    intro i s ef hi st ⟨c, hc, R0⟩ hR
    have lt : i < m := by omega
    refine codeAny_builtin F.entry_set_update_loop ?_
    rw [Around.under_plainId F.plain_set_update_loop _]
    show wpAny _ A.in1 (pyNext (.ref I) >>= _) _ _ s
    refine wpAny_bind (W.item i s _ _ lt st fun v s' pv st' mv => ?_)
    obtain ⟨z, tk, hz, rfl⟩ := hv i v pv
    have R1 : TxtR w s'.heap a (fun j => decide (j ∈ zs.take i)) c := R0.at fun o e => mv.heap a o nw e
    show wpAny _ A.in1 (holding [Value.str z tk] (setAdd a (.str z tk)) >>= _) _ _ s'
    refine wpAny_bind (wpAny_holding ?_)
    unfold setAdd
    refine wpAny_holding ?_
    refine wpAny_bind ((PySem.strKind P w).pyHash (k := z) (show ((z == z) = true) from beq_self_eq_true z) ?_)
    refine add (s := { s' with toks := s'.toks + 1 }) R1 (by omega) fun b h' sb R2 => ?_
    have R3 : TxtR w h' a (fun j => decide (j ∈ zs.take (i + 1))) (if decide (z ∈ zs.take i) = true then c else c + 1) := R2.congr fun j => by
      rw [List.take_add_one, hz]
      simp [List.mem_append]
    have le : (if decide (z ∈ zs.take i) = true then c else c + 1) ≤ i + 1 := by
      split <;> omega
    refine wpAny_pure ⟨plainId_quiet F.plain_set_update_loop _, ih (i + 1) _ (by omega) lt (W.frame _ s' _ _ st' (Nat.le_succ _) fun b hb o e => ?_) ⟨_, le, R3⟩ fun s'' c2 mv2 c2m R4 => ?_⟩
    · exact (sb.2 b fun z : b = a => hf (by rw [← z]; exact hb)).trans e
    · refine hR s'' c2 (Moved.trans W.gtrans ((mv.mono more).then_heap (Nat.le_succ _) fun b o hb e => ?_) mv2) c2m R4
      exact (sb.2 b fun z : b = a => hb (by rw [z]; exact List.mem_cons_self)).trans e
/-- what set(x) leaves -/
def Made (w : World) (s : Shared) (zs : List Str) (r : Value) (s' : Shared) : Prop := ∃ h' tk c, r = .ref s.heap.objs.size ∧ s' = { s with heap := h', toks := tk } ∧ TxtR w h' s.heap.objs.size (fun j => decide (j ∈ zs)) c ∧ c ≤ zs.length ∧ ∀ b o, s.heap.get? b = some o → h'.get? b = some o
abbrev empty (w : World) : Obj := { cls := .type "set", dict := none, data := .set #[] 0 (.fresh 0 0 (!w.params.followText "set-order")) }
theorem strs_at : ∀ {vs : List Value} {zs : List Str} {i : Nat} {v : Value}, StrsAre vs zs → vs[i]? = some v → ∃ k tk, zs[i]? = some k ∧ v = .str k tk
  | _, _, i, _, .nil, e => by simp at e
  | _, _, 0, _, .cons k tk r, e => by
    simp at e
    exact ⟨k, tk, rfl, e.symm⟩
  | _, _, i + 1, _, .cons k tk r, e => by
    simp at e
    obtain ⟨k', tk', e1, e2⟩ := strs_at r e
    exact ⟨k', tk', by simpa using e1, e2⟩
set_option maxHeartbeats 3200000 in
/-- set(x), x a tuple of texts -/
theorem set_tuple {l : Addr} {items : Array Value} (zs : List Str) {Q : Value → Shared → Prop} (calm : A.handled = none) (hl : s.heap.IsTuple l items) (hit : StrsAre items.toList zs) (hb : zs.length + 1 < scanBound) (q : ∀ r s', Made w s zs r s' → Q r s') :
    wpAny (model P w) A (call (.type "set") [.ref l]) Q E s := by
  have size : items.size = zs.length := by
    have z := hit.length
    rwa [Array.length_toList] at z
  obtain ⟨c, tl, hmro⟩ := F.called_set.mro
  have hmade := F.called_set.made
  have hsub := F.called_set.sub
  refine wpAny_call (codeAny_of_tree ?_)
  show wpAny _ _ (callAny (.type "set") _) _ _ _
  refine wpAny_pure (And.intro (Code.quiet_builtin _ (by decide +kernel)) (codeAny_builtin F.entry_type_call ?_))
  rw [Around.under_plain (weight_type_call_type "set" [.ref l] []) rfl]
  have h1 := F.called_set.notType
  have h2 := F.called_set.canCreate
  have hct := F.typeCall_set_1 (.ref l)
  repeat (any_goals (first | assumption | wp_step))
  refine codeAny_mono (code_set_led1 (.ref l) (E := E) (Q₁ := fun ob s1 => ob = .ref s.heap.objs.size ∧ s1 = { s with heap := s.heap.push (empty w) }) ⟨rfl, rfl⟩) fun r s1 hr => ?_
  cases r with
  | error e => exact hr
  | ok fl =>
    cases fl with
    | ret ob =>
      obtain ⟨rfl, rfl⟩ := hr
      have new : (s.heap.push (empty w)).get? s.heap.objs.size = some (empty w) := Heap.get?_push_size _ rfl
      have hT : Shared.TypeIs { s with heap := s.heap.push (empty w) } (.ref s.heap.objs.size) "set" := ⟨_, new, rfl⟩
      have hli := F.called_set.init.lookup
      have hbi := F.called_set.init.bind (.ref s.heap.objs.size)
      repeat (any_goals (first | assumption | wp_step))
      refine codeAny_mono (codeAny_call_builtin (R := wants (fun r s2 => r = .none ∧ Made w s zs (.ref s.heap.objs.size) s2) E) F.called_set.init.plain F.entry_set_init (check_set_init_1 hT ?_)) fun r2 s2 hr2 => ?_
      · obtain ⟨ol, b1, b2, n, b3⟩ := hl
        have zl : l < s.heap.objs.size := Heap.lt_size b1
        obtain ⟨oc, odi, oda, osl⟩ := ol
        simp only at b2 b3
        subst b2; subst b3
        have old : (s.heap.push (empty w)).get? l = some { cls := .type "tuple", dict := odi, data := .seq items n, slots := osl } := Heap.get?_push_of_some _ b1
        have n1 := F.sub_tuple_set
        have n2 := F.sub_tuple_frozenset
        have n3 : (Value.type "tuple" == Value.type "dict") = false := by decide
        have hl1 : (s.heap.push (empty w)).IsTuple l items := ⟨_, old, rfl, n, rfl⟩
        unfold Builtin.«set.__init__» noKeywords Builtin.Frozenset.updateFrom
        generalize hPI : pyIter = PI
        wp_walk
        subst hPI
        refine wpAny_pyIter_tuple hl1 (wpAny_bind (wpAny_runValue ?_))
        have calm3 : A.in1.in1.in1.handled = none := by simp [calm]
        have sz1 : (s.heap.push (empty w)).objs.size = s.heap.objs.size + 1 := Heap.size_push ..
        have ne1 : l ≠ (s.heap.push (empty w)).objs.size := by
          rw [sz1]
          exact Nat.ne_of_lt (Nat.lt_succ_of_lt zl)
        have ne2 : s.heap.objs.size ∉ [(s.heap.push (empty w)).objs.size, l] := by
          rw [sz1]
          intro z
          simp only [List.mem_cons, List.not_mem_nil, or_false] at z
          rcases z with z | z
          · exact Nat.ne_of_lt (Nat.lt_succ_self _) z
          · exact Nat.ne_of_gt zl z
        have val : ∀ (i : Nat) (v : Value), items[i]? = some v → ∃ k tk, zs[i]? = some k ∧ v = .str k tk := fun i v hv => by
          rw [← Array.getElem?_toList] at hv
          exact strs_at hit hv
        refine takes_in ((Walks.tuple calm3 _ l ne1 items).toS) s.heap.objs.size ne2 zs size hb val (items.size - 0) 0 _ (by omega) (Nat.zero_le _)
          ⟨⟨_, Heap.get?_push_size _ rfl, rfl, rfl⟩, hl1.push _⟩ ⟨0, Nat.le_refl 0, fresh (Heap.get?_push_of_some _ new)⟩ fun s3 c mv le R => ?_
        obtain ⟨h3, g3, d3, tk3, os3⟩ := s3
        have eg : g3 = s.gens := mv.gens
        have ed : d3 = s.drawn := mv.drawn
        have eo : os3 = s.os := mv.os
        subst eg; subst ed; subst eo
        rw [size] at le
        refine wpAny_pure (wpAny_pure ⟨rfl, h3, tk3, c, rfl, rfl, R, le, fun b o e => ?_⟩)
        have z0 := Heap.lt_size e
        refine mv.heap b o (fun z => ?_) (Heap.get?_push_of_some _ (Heap.get?_push_of_some _ e))
        simp only [List.mem_cons, List.not_mem_nil, or_false] at z
        rcases z with z | z
        · exact absurd z (Nat.ne_of_lt z0)
        · rw [sz1] at z
          exact absurd z (Nat.ne_of_lt (Nat.lt_succ_of_lt z0))
      · cases r2 with
        | error e => exact hr2
        | ok fl2 =>
          cases fl2 with
          | ret r =>
            obtain ⟨rfl, hm⟩ := hr2
            repeat (any_goals (first | assumption | wp_step))
            exact q _ _ hm
          | _ => exact hr2.elim
    | _ => exact hr.elim
set_option maxHeartbeats 3200000 in
/-- set(x), x a list of texts -/
theorem set_list {l : Addr} {items : Array Value} (zs : List Str) {Q : Value → Shared → Prop} (calm : A.handled = none) (hl : s.heap.IsList l items) (hit : StrsAre items.toList zs) (hb : zs.length + 1 < scanBound) (q : ∀ r s', Made w s zs r s' → Q r s') :
    wpAny (model P w) A (call (.type "set") [.ref l]) Q E s := by
  have size : items.size = zs.length := by
    have z := hit.length
    rwa [Array.length_toList] at z
  obtain ⟨c, tl, hmro⟩ := F.called_set.mro
  have hmade := F.called_set.made
  have hsub := F.called_set.sub
  refine wpAny_call (codeAny_of_tree ?_)
  show wpAny _ _ (callAny (.type "set") _) _ _ _
  refine wpAny_pure (And.intro (Code.quiet_builtin _ (by decide +kernel)) (codeAny_builtin F.entry_type_call ?_))
  rw [Around.under_plain (weight_type_call_type "set" [.ref l] []) rfl]
  have h1 := F.called_set.notType
  have h2 := F.called_set.canCreate
  have hct := F.typeCall_set_1 (.ref l)
  repeat (any_goals (first | assumption | wp_step))
  refine codeAny_mono (code_set_led1 (.ref l) (E := E) (Q₁ := fun ob s1 => ob = .ref s.heap.objs.size ∧ s1 = { s with heap := s.heap.push (empty w) }) ⟨rfl, rfl⟩) fun r s1 hr => ?_
  cases r with
  | error e => exact hr
  | ok fl =>
    cases fl with
    | ret ob =>
      obtain ⟨rfl, rfl⟩ := hr
      have new : (s.heap.push (empty w)).get? s.heap.objs.size = some (empty w) := Heap.get?_push_size _ rfl
      have hT : Shared.TypeIs { s with heap := s.heap.push (empty w) } (.ref s.heap.objs.size) "set" := ⟨_, new, rfl⟩
      have hli := F.called_set.init.lookup
      have hbi := F.called_set.init.bind (.ref s.heap.objs.size)
      repeat (any_goals (first | assumption | wp_step))
      refine codeAny_mono (codeAny_call_builtin (R := wants (fun r s2 => r = .none ∧ Made w s zs (.ref s.heap.objs.size) s2) E) F.called_set.init.plain F.entry_set_init (check_set_init_1 hT ?_)) fun r2 s2 hr2 => ?_
      · obtain ⟨ol, b1, b2, n, b3⟩ := hl
        have zl : l < s.heap.objs.size := Heap.lt_size b1
        obtain ⟨oc, odi, oda, osl⟩ := ol
        simp only at b2 b3
        subst b2; subst b3
        have old : (s.heap.push (empty w)).get? l = some { cls := .type "list", dict := odi, data := .seq items n, slots := osl } := Heap.get?_push_of_some _ b1
        have n1 := F.sub_list_set
        have n2 := F.sub_list_frozenset
        have n3 : (Value.type "list" == Value.type "dict") = false := by decide
        have hl1 : (s.heap.push (empty w)).IsList l items := ⟨_, old, rfl, n, rfl⟩
        unfold Builtin.«set.__init__» noKeywords Builtin.Frozenset.updateFrom
        generalize hPI : pyIter = PI
        wp_walk
        subst hPI
        refine wpAny_pyIter_list hl1 (wpAny_bind (wpAny_runValue ?_))
        have calm3 : A.in1.in1.in1.handled = none := by simp [calm]
        have sz1 : (s.heap.push (empty w)).objs.size = s.heap.objs.size + 1 := Heap.size_push ..
        have ne1 : l ≠ (s.heap.push (empty w)).objs.size := by
          rw [sz1]
          exact Nat.ne_of_lt (Nat.lt_succ_of_lt zl)
        have ne2 : s.heap.objs.size ∉ [(s.heap.push (empty w)).objs.size, l] := by
          rw [sz1]
          intro z
          simp only [List.mem_cons, List.not_mem_nil, or_false] at z
          rcases z with z | z
          · exact Nat.ne_of_lt (Nat.lt_succ_self _) z
          · exact Nat.ne_of_gt zl z
        have val : ∀ (i : Nat) (v : Value), items[i]? = some v → ∃ k tk, zs[i]? = some k ∧ v = .str k tk := fun i v hv => by
          rw [← Array.getElem?_toList] at hv
          exact strs_at hit hv
        refine takes_in ((Walks.list calm3 _ l ne1 items).toS) s.heap.objs.size ne2 zs size hb val (items.size - 0) 0 _ (by omega) (Nat.zero_le _)
          ⟨⟨_, Heap.get?_push_size _ rfl, rfl, rfl⟩, hl1.push _⟩ ⟨0, Nat.le_refl 0, fresh (Heap.get?_push_of_some _ new)⟩ fun s3 c mv le R => ?_
        obtain ⟨h3, g3, d3, tk3, os3⟩ := s3
        have eg : g3 = s.gens := mv.gens
        have ed : d3 = s.drawn := mv.drawn
        have eo : os3 = s.os := mv.os
        subst eg; subst ed; subst eo
        rw [size] at le
        refine wpAny_pure (wpAny_pure ⟨rfl, h3, tk3, c, rfl, rfl, R, le, fun b o e => ?_⟩)
        have z0 := Heap.lt_size e
        refine mv.heap b o (fun z => ?_) (Heap.get?_push_of_some _ (Heap.get?_push_of_some _ e))
        simp only [List.mem_cons, List.not_mem_nil, or_false] at z
        rcases z with z | z
        · exact absurd z (Nat.ne_of_lt z0)
        · rw [sz1] at z
          exact absurd z (Nat.ne_of_lt (Nat.lt_succ_of_lt z0))
      · cases r2 with
        | error e => exact hr2
        | ok fl2 =>
          cases fl2 with
          | ret r =>
            obtain ⟨rfl, hm⟩ := hr2
            repeat (any_goals (first | assumption | wp_step))
            exact q _ _ hm
          | _ => exact hr2.elim
    | _ => exact hr.elim
end
end TXS
-- CUT
/-! ### of our own: the rules for sets of texts -/
namespace TXS
open PySem PySem.Spec PyProof.Rows L2
section
variable {P : Program} {w : World} {A : Around} {E : Value → Shared → Prop} {s : Shared} {a : Addr} {S : Str → Bool} {n : Nat}
theorem strs_of : ∀ {vs : List Value}, (∀ v ∈ vs, ∃ k tk, v = Value.str k tk) → StrsAre vs (vs.map strOf)
  | [], _ => .nil
  | v :: vs, h => by
    obtain ⟨k, tk, rfl⟩ := h v (List.mem_cons_self ..)
    exact .cons k tk (strs_of fun u hu => h u (List.mem_cons_of_mem _ hu))
/-- sorted(x), x such a set -/
theorem sorted_txt {Q : Value → Shared → Prop} (R : TxtR w s.heap a S n) (calm : A.handled = none) (h64 : n < 64)
    (hQ : ∀ s' p (out : Array Value) (c : Nat) (zs : List Str), (∀ b o, s.heap.get? b = some o → s'.heap.get? b = some o) → s'.gens = s.gens → s'.os = s.os → s.heap.objs.size ≤ p →
      s'.heap.get? p = some (seqObj "list" out c) → StrsAre out.toList zs → sortedS zs = true → zs.Nodup → (∀ k, k ∈ zs ↔ S k = true) → zs.length = n → Q (.ref p) s') : wpAny (model P w) A (call (.builtin "sorted") [.ref a]) Q E s := by
  obtain ⟨o, es, ep, t, L⟩ := R
  refine Calls.call_function_entry kind_sorted plain_sorted entry_sorted (args_sorted1 _) ?_
  unfold Builtin.«sorted»
  refine wpAny_bind (m := checkCount "sorted" 1 1 _) (wpAny_pure ?_)
  refine wpAny_bind (collect_set (A := A.in1) calm ⟨o, L.ob, L.ex.1, L.dt⟩ L.fit L.few L.ris L.led fun s1 vs k1 hz g1 o1 pm => ?_)
  have len : vs.length = n := by
    rw [pm.length_eq, List.length_map, Array.length_toList]
    exact L.num
  have all : StrsAre vs (vs.map strOf) := strs_of fun v hv => by
    obtain ⟨e, he, rfl⟩ := List.mem_map.mp (pm.mem_iff.mp hv)
    obtain ⟨k, tk, h1, _⟩ := L.mem e he
    exact ⟨k, tk, h1⟩
  have pk : (vs.map strOf).Perm (es.toList.map txt) := by
    have z := pm.map strOf
    rw [List.map_map] at z
    exact z
  refine wpAny_bind (wpAny_newList ?_ (by rw [len, sizeLine_eq]; omega))
  have new : (s1.heap.push (seqObj "list" vs.toArray 0)).get? s1.heap.objs.size = some (seqObj "list" vs.toArray 0) := Heap.get?_push_size _ rfl
  refine wpAny_bind (wpAny_holding (wpAny_call_entry slot_list_sort ⟨_, new, rfl⟩ entry_list_sort (list_sort_treeK strKind_oneLt new all.keysOf (fun v₁ v₂ rest e => keyKind_strs (by rw [← e]; exact all)) (by rw [len]; exact h64) fun st' a1 a2 => ⟨_, rfl, ?_⟩) (args_list_sort _)))
  obtain ⟨zs, b1, b2, b3⟩ := sorted_out_str all a1 a2
  generalize ((arrOf st').map (·.2)) = out at b1 ⊢
  obtain ⟨c, hc⟩ := sortedHeap_at (vs := vs) (out := out) new
  have pn : zs.Perm (es.toList.map txt) := b2.trans pk
  refine wpAny_pure ⟨_, rfl, hQ _ s1.heap.objs.size out c zs (fun b u e => ?_) g1 o1 hz hc b1 b3 (pn.nodup_iff.mpr L.one) (fun k => by rw [pn.mem_iff, ← L.is k]) ?_⟩
  · have z := k1 b u e
    have lt := Heap.lt_size z
    show (sortedHeap (s1.heap.push (seqObj "list" vs.toArray 0)) s1.heap.objs.size vs out).get? b = some u
    rw [sortedHeap_old (Nat.ne_of_lt lt) (by rw [size_push']; exact Nat.lt_succ_of_lt lt)]
    exact Heap.get?_push_of_some _ z
  · exact (pn.length_eq.trans (by rw [List.length_map, Array.length_toList])).trans L.num
end
/-- a set of texts in the model's heap -/
def TxtO (w : World) (a : Addr) (S : Str → Bool) (n : Nat) : HO := .ext fun h => TxtR w h a S n
section
variable {X : Cx}
theorem txtO_new {w : World} {P : Program} {H : Hp} {h : Heap} {a : Addr} {S : Str → Bool} {n : Nat} (R : TxtR w h a S n) : ObjOk P w H h a (TxtO w a S n) := by
  obtain ⟨o, es, ep, t, L⟩ := id R
  exact ⟨R, ⟨o, L.ob⟩, fun h1 h2 p k => TxtR.at p k⟩
theorem txtO_get {pins : List (Addr × Obj)} {σ : L2.St} {H : Hp} {s : Shared} {a : Addr} {S : Str → Bool} {n : Nat} (I : Inv X pins σ H s) (ha : H a = some (TxtO X.w a S n)) : TxtR X.w s.heap a S n := (I.hok a _ ha).1
/-- set(x), x a tuple or a list of texts -/
def rSetS (K : PySem.W.Frag) (w : World) : List V → Hp → VK → Prop := fun vs H Q => ∃ (p : Addr) (zs : List Str), vs = [V.ref p] ∧ (SqT K H p (zs.map V.str) ∨ SqL K H p (zs.map V.str)) ∧ zs.length ≤ 1000 ∧
  ∀ a c, H a = none → c ≤ zs.length → Q (.ref a) (upd H a (TxtO w a (fun j => decide (j ∈ zs)) c))
theorem cr_setS (hc : X.calm = true) : CallR X (.type "set") (rSetS X.K X.w) := by
  intro pins s σ H vs us Q I r h
  obtain ⟨p, zs, rfl, ht, hz, q⟩ := h
  rw [Vals.ref1 r]
  have room : zs.length + 1 < scanBound := by
    unfold scanBound
    omega
  have fin : ∀ (r : Value) (s' : Shared), Made X.w s zs r s' → EP X pins σ Q r s' := fun r s' m => by
    obtain ⟨h', tk, c, rfl, rfl, R, le, kp⟩ := m
    exact ⟨.ref s.heap.objs.size, upd H s.heap.objs.size (TxtO X.w s.heap.objs.size (fun j => decide (j ∈ zs)) c), I.laid (t' := tk) kp (Nat.le_refl _) (txtO_new R), rfl, q _ c (I.hok.fresh (Nat.le_refl _)) le⟩
  rcases ht with ht | ht
  · obtain ⟨its, rv, tp, _⟩ := I.tuple ht
    exact set_tuple (P := X.prog) (w := X.w) zs (I.ok.hd hc) tp (by simpa using rv.strs) room fin
  · obtain ⟨its, rv, tp, _⟩ := I.list ht
    exact set_list (P := X.prog) (w := X.w) zs (I.ok.hd hc) tp.isList (by simpa using rv.strs) room fin
/-- sorted(x), x a set of texts -/
def rSortedTx (w : World) : List V → Hp → VK → Prop := fun vs H Q => ∃ (a : Addr) (S : Str → Bool) (n : Nat), vs = [V.ref a] ∧ H a = some (TxtO w a S n) ∧ n < 64 ∧
  ∀ (zs : List Str) (p : Addr), sortedS zs = true → zs.Nodup → (∀ k, k ∈ zs ↔ S k = true) → zs.length = n → H p = none → Q (.ref p) (upd H p (.lst (zs.map V.str)))
theorem cr_sortedTx (hc : X.calm = true) : CallR X (.builtin "sorted") (rSortedTx X.w) := by
  intro pins s σ H vs us Q I r h
  obtain ⟨a, S, n, rfl, ha, h64, q⟩ := h
  have R := txtO_get I ha
  rw [Vals.ref1 r]
  refine sorted_txt R (I.ok.hd hc) h64 fun s' p out c zs k g o hp hg hi hs hd hm hl => ?_
  have len : (zs.map V.str).length ≤ sizeLine := by
    rw [List.length_map, hl, sizeLine_eq]
    omega
  have hn : H p = none := I.hok.fresh hp
  have J : Inv X pins σ (upd H p (.lst (zs.map V.str))) { s with heap := s'.heap, gens := s'.gens, drawn := s'.drawn, toks := s'.toks } :=
    I.call (ch := []) (Un.laid k hp hn) (I.hok.laid k hp ⟨len, out.toList, c, vals_of_strs hi, hg⟩) (by rw [g]; exact I.bare) (fun _ z => nomatch z)
  have e : s' = { s with heap := s'.heap, gens := s'.gens, drawn := s'.drawn, toks := s'.toks } := by
    obtain ⟨_, _, _, _, _⟩ := s'
    cases o
    rfl
  rw [e]
  exact ⟨.ref p, _, J, rfl, q zs p hs hd hm hl hn⟩
end
end TXS
/-! the sorted texts of a set are one list -/
namespace TXS
open PySem PySem.Spec PyProof.Rows L2
theorem le_of_no {a b : Str} (h : ltCps b.cps.toList a.cps.toList = false) : a.cps.toList ≤ b.cps.toList := by
  rw [ltCps_eq, decide_eq_false_iff_not] at h
  exact List.not_lt.mp h
theorem rising_all : ∀ (p : Str) (l : List Str), risingS p l = true → (p :: l).Pairwise fun a b => a.cps.toList ≤ b.cps.toList
  | p, [], _ => by simp
  | p, x :: r, h => by
    have h' : (!ltCps x.cps.toList p.cps.toList && risingS x r) = true := h
    rw [Bool.and_eq_true, Bool.not_eq_true'] at h'
    have z := rising_all x r h'.2
    have le := le_of_no h'.1
    refine List.pairwise_cons.mpr ⟨fun y hy => ?_, z⟩
    rcases List.mem_cons.mp hy with rfl | m
    · exact le
    · exact List.le_trans le ((List.pairwise_cons.mp z).1 y m)
theorem sorted_all : ∀ {l : List Str}, sortedS l = true → l.Pairwise fun a b => a.cps.toList ≤ b.cps.toList
  | [], _ => List.Pairwise.nil
  | x :: r, h => rising_all x r h
theorem uniq {xs ys : List Str} (h1 : sortedS xs = true) (h2 : sortedS ys = true) (n1 : xs.Nodup) (n2 : ys.Nodup) (h : ∀ k, k ∈ xs ↔ k ∈ ys) : xs = ys := by
  have pm : xs.Perm ys := (List.perm_ext_iff_of_nodup n1 n2).mpr h
  refine pm.eq_of_pairwise (fun a b _ _ x y => ?_) (sorted_all h1) (sorted_all h2)
  have z := List.le_antisymm x y
  exact Str.ext' (Array.toList_inj.mp z)
end TXS
-- CUT
/-! ### of our own: what an own class's methods answer for len, bool, in, [ ], str and the signs -/
namespace Kit
open PySem PySem.Spec PyProof.Rows L2
/-- the class at C has the def at f under the special name m -/
structure OwnM (K : PySem.W.Frag) (C : Addr) (m : Str) (f : Addr) : Prop where
  at_ : PySem.W.findIn K (.ref C) m = some (some (.ref f))
  fn : PySem.W.isFn K (.ref f) = true
/-- an instance of the class at C -/
def InsAt (H : Hp) (C a : Addr) : Prop := ∃ dx fs, H a = some (.ins C dx fs)
section
variable {X : Cx} {CX : CXT} {n : Nat} {C f : Addr} {fd : FuncData} {ps : List Str} {sp : Sp} {E : XK}
/-- what stands around an instance at a call of its method -/
theorem ins_here {pins : List (Addr × Obj)} {σ : L2.St} {H : Hp} {s : Shared} {a : Addr} (I : Inv X pins σ H s) (h : InsAt H C a) : ∃ (L : Addr) (m : Str → Option Value) (ox : Obj) (od : Option Obj), Fr X.base L s.heap m ∧ PySem.W.InstAt s.heap a ox C od := by
  obtain ⟨dx, fs, e⟩ := h
  obtain ⟨mA, J, _⟩ := ins_get I.hok e
  obtain ⟨od, J, _⟩ := J.look
  obtain ⟨m, hF⟩ := I.fr
  exact ⟨_, m, _, _, hF, J⟩
variable (F : FnOk X.prog X.w X.K X.mg X.base CX n f fd ps sp) (hb : Binds X.K fd ps []) (hx : Passes CX X E)
include F hb hx
/-- len(a) -/
def rLenO (C : Addr) (sp : Sp) (E : XK) : List V → Hp → VK → Prop := fun xs H Q => ∃ a, xs = [.ref a] ∧ InsAt H C a ∧ sp [.ref a] H (fun v H' => ∃ i : Int, v = .int i ∧ 0 ≤ i ∧ i < 2 ^ 63 ∧ Q (.int i) H') E
theorem call_lenO (hr : Room (n + 1) X.A) (o : OwnM X.K C "__len__" f) : CallR X (.builtin "len") (rLenO C sp E) := by
  intro pins s σ H xs us Q I r h
  obtain ⟨a, rfl, ha, q⟩ := h
  obtain ⟨u, rfl, ru⟩ := vals1 r
  cases ru
  obtain ⟨L, m, ox, od, hF, J⟩ := ins_here I ha
  refine PySem.W.len_K hF I.ok.mod.kin J o.at_ o.fn (wpAny_mono (run_in F hr.in1 I.ok.frames hb hx I (vs := [.ref a]) (.cons rfl .nil) q) (fun z s' y => ?_) fun _ _ y => y)
  obtain ⟨v, H', I', rv, i, rfl, i0, i1, q1⟩ := y
  obtain ⟨t, rfl⟩ := rv
  exact ⟨⟨i0, i1⟩, .int i, H', I'.tok _, ⟨_, rfl⟩, q1⟩
/-- x in a, x not in a -/
def rInO (C : Addr) (sp : Sp) (E : XK) : R2 := fun x y H Q => ∃ a, y = .ref a ∧ InsAt H C a ∧ sp [.ref a, x] H (fun v H' => ∃ b, v = .bl b ∧ Q (.bl b) H') E
def rNotInO (C : Addr) (sp : Sp) (E : XK) : R2 := fun x y H Q => ∃ a, y = .ref a ∧ InsAt H C a ∧ sp [.ref a, x] H (fun v H' => ∃ b, v = .bl b ∧ Q (.bl (!b)) H') E
theorem op_inO (hr : Room n X.A) (o : OwnM X.K C "__contains__" f) : OpR X (compareOp .In) (rInO C sp E) := by
  intro pins s σ H x y v u Q I rx ry h
  obtain ⟨a, rfl, ha, q⟩ := h
  cases ry
  obtain ⟨L, m, ox, od, hF, J⟩ := ins_here I ha
  refine PySem.W.in_K hF I.ok.mod.kin J o.at_ o.fn (wpAny_mono (run_in F hr I.ok.frames hb hx I (vs := [.ref a, x]) (.cons rfl (.cons rx .nil)) q) (fun z s' y => ?_) fun _ _ y => y)
  obtain ⟨v, H', I', rv, b, rfl, q1⟩ := y
  cases rv
  exact wpAny_truthy_bool ⟨.bl b, H', I', rfl, q1⟩
theorem op_notInO (hr : Room n X.A) (o : OwnM X.K C "__contains__" f) : OpR X (compareOp .NotIn) (rNotInO C sp E) := by
  intro pins s σ H x y v u Q I rx ry h
  obtain ⟨a, rfl, ha, q⟩ := h
  cases ry
  obtain ⟨L, m, ox, od, hF, J⟩ := ins_here I ha
  refine PySem.W.notIn_K hF I.ok.mod.kin J o.at_ o.fn (wpAny_mono (run_in F hr I.ok.frames hb hx I (vs := [.ref a, x]) (.cons rfl (.cons rx .nil)) q) (fun z s' y => ?_) fun _ _ y => y)
  obtain ⟨v, H', I', rv, b, rfl, q1⟩ := y
  cases rv
  exact wpAny_truthy_bool ⟨.bl (!b), H', I', rfl, q1⟩
/-- a[x] -/
def rIxO (C : Addr) (sp : Sp) (E : XK) : R2 := fun x y H Q => ∃ a, x = .ref a ∧ InsAt H C a ∧ sp [.ref a, y] H Q E
/-- a's own truth, told as a value -/
def rTruO (C : Addr) (sp : Sp) (E : XK) : V → Hp → (Bool → Hp → Prop) → Prop := fun x H Q => ∃ a, x = .ref a ∧ InsAt H C a ∧ sp [.ref a] H (fun v H' => ∃ b, v = .bl b ∧ Q b H') E
theorem truO (hr : Room n X.A) (o : OwnM X.K C "__bool__" f) : TruR X (rTruO C sp E) := by
  intro pins s σ H x v Q I rx h
  obtain ⟨a, rfl, ha, q⟩ := h
  cases rx
  obtain ⟨L, m, ox, od, hF, J⟩ := ins_here I ha
  refine PySem.W.truthy_K hF I.ok.mod.kin J o.at_ o.fn (wpAny_mono (run_in F hr I.ok.frames hb hx I (vs := [.ref a]) (.cons rfl .nil) q) (fun z s' y => ?_) fun _ _ y => y)
  obtain ⟨v, H', I', rv, b, rfl, q1⟩ := y
  cases rv
  exact ⟨H', I', q1⟩
/-- if a -/
theorem pt_truO {e : Expr} {te : TE} (hr : Room n X.A) (o : OwnM X.K C "__bool__" f) (he : PE X e te) (ht : ∀ whole, isTrue e X.env whole = (do let v ← whole; standAt e.pos; holding [v] (truthy v))) : PT X e (fun σ H Q => te σ H fun x H' => rTruO C sp E x H' Q) :=
  ⟨fun pins s σ H Q I h => isTrue_plain (thn (he.run pins s σ H _ I h) fun v s1 ⟨x, H1, I1, r1, q1⟩ => truO F hb hx hr o pins s1 σ H1 x v Q I1 r1 q1) (ht _)⟩
/-- e[k], e an instance -/
theorem pe_ixO {a b : Expr} {pos : Pos} {ta tb : TE} (hr : Room (n + 1) X.A) (o : OwnM X.K C "__getitem__" f) (fn : PySem.W.fnIn X.K f = true) (ha : PE X a ta) (hbb : PE X b tb)
    (hs : ∀ v u, subscripted b true v u = runValue (.builtin "lifetime.subscript" ⟨[v, u], []⟩) := by intro _ _; rfl) : PE X (.Subscript a b pos) (tOp (rIxO C sp E) ta tb) := by
  refine ⟨fun pins s σ H Q I h => Subscript_ (binT ha hbb I h fun v u s2 x y H2 I2 rx ry q => ?_)⟩
  obtain ⟨c, rfl, hc, q⟩ := q
  cases rx
  obtain ⟨L, m, ox, od, hF, J⟩ := ins_here I2 hc
  exact PySem.W.sub_K hF I2.ok.mod.kin J o.at_ fn o.fn (run_in F hr.in1 I2.ok.frames hb hx I2 (vs := [.ref c, y]) (.cons rfl (.cons ry .nil)) q) (hs _ _)
/-- str(a) -/
def rStrO (C : Addr) (sp : Sp) (E : XK) : List V → Hp → VK → Prop := fun xs H Q => ∃ a, xs = [.ref a] ∧ InsAt H C a ∧ sp [.ref a] H (fun v H' => ∃ z, v = .str z ∧ Q (.str z) H') E
theorem call_strO (hr : Room (n + 2) X.A) (o : OwnM X.K C "__str__" f) : CallR X (.type "str") (rStrO C sp E) := by
  intro pins s σ H xs us Q I r h
  obtain ⟨a, rfl, ha, q⟩ := h
  obtain ⟨u, rfl, ru⟩ := vals1 r
  cases ru
  obtain ⟨L, m, ox, od, hF, J⟩ := ins_here I ha
  refine PySem.W.kso_call (by have := hr.un; show X.A.units + 1 + 1 < cLine; omega) I.kIn J o.at_ o.fn (wpAny_mono (run_in F hr.in1.in1 I.ok.frames hb hx I (vs := [.ref a]) (.cons rfl .nil) q) (fun z s' y => ?_) fun _ _ y => y)
  obtain ⟨v, H', I', rv, z, rfl, q1⟩ := y
  obtain ⟨t, rfl⟩ := rv
  exact ⟨.str z, H', I', ⟨_, rfl⟩, q1⟩
/-- -a, +a, ~a -/
def rUnO (C : Addr) (sp : Sp) (E : XK) : V → Hp → VK → Prop := fun x H Q => ∃ a, x = .ref a ∧ InsAt H C a ∧ sp [.ref a] H Q E
theorem un_negO (hr : Room n X.A) (o : OwnM X.K C "__neg__" f) : UnR X (unaryOp .USub) (rUnO C sp E) := by
  intro pins s σ H x v Q I rx h
  obtain ⟨a, rfl, ha, q⟩ := h
  cases rx
  obtain ⟨L, m, ox, od, hF, J⟩ := ins_here I ha
  exact PySem.W.ksp_neg hF I.ok.mod.kin J o.at_ o.fn (run_in F hr I.ok.frames hb hx I (vs := [.ref a]) (.cons rfl .nil) q)
theorem un_posO (hr : Room n X.A) (o : OwnM X.K C "__pos__" f) : UnR X (unaryOp .UAdd) (rUnO C sp E) := by
  intro pins s σ H x v Q I rx h
  obtain ⟨a, rfl, ha, q⟩ := h
  cases rx
  obtain ⟨L, m, ox, od, hF, J⟩ := ins_here I ha
  exact PySem.W.ksp_pos hF I.ok.mod.kin J o.at_ o.fn (run_in F hr I.ok.frames hb hx I (vs := [.ref a]) (.cons rfl .nil) q)
theorem un_invO (hr : Room n X.A) (o : OwnM X.K C "__invert__" f) : UnR X (unaryOp .Invert) (rUnO C sp E) := by
  intro pins s σ H x v Q I rx h
  obtain ⟨a, rfl, ha, q⟩ := h
  cases rx
  obtain ⟨L, m, ox, od, hF, J⟩ := ins_here I ha
  exact PySem.W.ksp_inv hF I.ok.mod.kin J o.at_ o.fn (run_in F hr I.ok.frames hb hx I (vs := [.ref a]) (.cons rfl .nil) q)
/-- a op b, both of the class -/
def rBinO (K : PySem.W.Frag) (C : Addr) (sp : Sp) (E : XK) : R2 := fun x y H Q => ∃ a b, x = .ref a ∧ y = .ref b ∧ InsAt H C a ∧ TyX K H (.ref b) (.ref C) ∧ sp [x, y] H (fun v H' => ∃ z, v = .ref z ∧ Q v H') E
theorem op_binO {op : Operator} (hr : Room n X.A) (first : PySem.W.selfFirst X.K C = true) (o : OwnM X.K C (PySem.dunder op.info.2) f) : OpR X (binaryOp op) (rBinO X.K C sp E) := by
  intro pins s σ H x y v u Q I rx ry h
  obtain ⟨a, b, rfl, rfl, ha, ty, q⟩ := h
  obtain ⟨P, Z, hP, _⟩ := kit_of I ry ty
  cases rx
  obtain ⟨L, m, ox, od, hF, J⟩ := ins_here I ha
  refine PySem.W.binop_K hF I.ok.mod.kin J (Z.ty _ _ I.kIn hP) first o.at_ o.fn (wpAny_mono (run_in F hr I.ok.frames hb hx I (vs := [.ref a, .ref b]) (.cons rfl (.cons ry .nil)) q) (fun z s' y => ?_) fun _ _ y => y)
  obtain ⟨v, H', I', rv, z, rfl, q1⟩ := y
  cases rv
  exact ⟨.ref z, H', I', rfl, q1⟩
end
end Kit
-- CUT
-- CUT
/-! ### of our own: repr of data; defs that know that nothing else is being shown -/
namespace Kit
open PySem PySem.Spec PyProof.Rows L2
/-- what a def promises where no text of a thing is on its way -/
structure FnG (P : Program) (w : World) (K : PySem.W.Frag) (mg : Str → Option Value) (base : Heap) (CX : CXT) (k : Nat) (g : Addr) (gd : FuncData) (ps : List Str) (sp : Sp) : Prop where
  many : ∀ vs H Q E, sp vs H Q E → vs.length = ps.length
  goes : ∀ (A : Around) (out : List Env) (s : Shared) (H : Hp) (args : Args) (us : List Value) (vs : List V) (Q : VK) (E : XK), A.guards = some [] → Room k A → Env0 P w K mg base A out s H → BindsTo s gd args (ps.zip us) → Vals vs us → sp vs H Q E → codeAny (model P w) A (.call (.ref g) args) (CR CX out P w H s Q E) s
section
variable {P : Program} {w : World} {K : PySem.W.Frag} {mg : Str → Option Value} {base : Heap} {CX : CXT} {k j : Nat} {g : Addr} {gd : FuncData} {ps : List Str} {sp : Sp}
theorem FnG.of (F : FnOk P w K mg base CX k g gd ps sp) : FnG P w K mg base CX k g gd ps sp := ⟨F.len, fun A out s H args us vs Q E _ r e b v h => F.run A out s H args us vs Q E r e b v h⟩
/-- a def's body, told by its rules -/
theorem okG {x qual : Str} {st : Stmt} {N : List Str} (F : Fun K x qual st g gd) (S : FnScope N ps (defScope st)) (many : ∀ vs H Q E, sp vs H Q E → vs.length = ps.length)
    (body : ∀ (cdv : Value) (A : Around) (out : List Env) (s : Shared) (H : Hp) (vs : List V) (Q : VK) (E : XK), A.guards = some [] → Room k (A.deeper (envOfC qual (defScope st) s.heap.objs.size g cdv)) → sp vs H Q E →
      ∃ t, PSs (cxOf CX0 P w K mg base N qual (defScope st) g cdv A out s H E).nox (defBody st) t ∧ t { nx := fun _ H' => Q .non H', rt := Q } (start N vs) H) : FnG P w K mg base CX0 (k + 1) g gd ps sp := by
  obtain ⟨oc, od, kV, doc, pm, an, cdv, ct, sl, rfl, lk, hc⟩ := F.ex
  refine ⟨many, fun A out s H args us vs Q E gu r e b v h => ?_⟩
  refine LamX.run_ofS lk hc S r e b v (many _ _ _ _ h) fun r2 => ?_
  obtain ⟨t, h1, h2⟩ := body cdv A out s H vs Q E gu r2 h
  exact ⟨t, h1.nox, h2⟩
end
section
variable {X : Cx} {CX : CXT} {k : Nat} {g : Addr} {gd : FuncData} {ps : List Str} {sp : Sp} {E : XK} {x : Str} {p pos : Pos} {e : Expr} {es : List Expr} {t : TA}
theorem runG {pins : List (Addr × Obj)} {σ : L2.St} {H : Hp} {s : Shared} {Q : VK} {us : List Value} {vs : List V} (F : FnG X.prog X.w X.K X.mg X.base CX k g gd ps sp) (gu : X.A.guards = some []) (hr : Room k X.A) (hb : Binds X.K gd ps []) (hx : Passes CX X E)
    (I : Inv X pins σ H s) (r : Vals vs us) (h : sp vs H Q E) : wpAny (model X.prog X.w) X.A (call (.ref g) us) (EP X pins σ Q) X.xe s := by
  have many : us.length = ps.length := by
    rw [← r.length]
    exact F.many _ _ _ _ h
  have b := hb s us I.kIn (by rw [List.append_nil]; exact many)
  rw [List.append_nil] at b
  refine wpAny_call (codeAny_mono (F.goes X.A X.stack s H ⟨us, []⟩ us vs Q E gu hr I.env0 b r h) fun z s' q => ?_)
  cases z with
  | error u => exact hx pins σ H s u s' I q
  | ok fl =>
    cases fl with
    | ret u => exact I.after q
    | _ => exact False.elim q
/-- g(e, ..) -/
theorem pe_callG (F : FnG X.prog X.w X.K X.mg X.base CX k g gd ps sp) (gu : X.A.guards = some []) (hr : Room k X.A) (hg : Gl X x) (hm : X.mg x = some (.ref g)) (hk : PySem.W.keepIn X.K (.ref g) = true) (hb : Binds X.K gd ps []) (hx : Passes CX X E) (ha : PA X (e :: es) t)
    (nd : (x == ("__debug__" : Str)) = false := by decide) (hs : starEach (e :: es) X.env = (false, eval e X.env) :: starEach es X.env := by rfl) (np : (backTo pos (starEach es X.env)).any (·.1) = false := by rfl) : PE X (.Call (.Name x p) (e :: es) [] pos) (tCall sp [] E t) := by
  refine ⟨fun pins s σ H Q I h => wpAny_Call_Name_kw (ld_glob I hg hm ?_ nd)⟩
  refine PySem.W.callWith_K (h₀ := X.base) I.ok.mod.kin hk (thn (ha.run pos pins s σ H _ I h) fun us s1 ⟨vs, H1, I1, r, q⟩ => ⟨I1.kIn, ?_⟩) hs np
  have q1 : sp (vs ++ []) H1 Q E := q
  rw [List.append_nil] at q1
  exact runG F gu hr hb hx I1 r q1
/-- repr(e) of data -/
def rRepr (K : PySem.W.Frag) : List V → Hp → VK → Prop := fun xs H Q => ∃ v d, xs = [v] ∧ Dp K H v d ∧ d.showable = true ∧ d.hasDict = false ∧ d.depth ≤ 30 ∧ d.shown.length ≤ sizeLine ∧ Q (.str d.shown) H
theorem call_reprD (gu : X.A.guards = some []) (hu : X.A.units + 64 < cLine) : CallR X (.builtin "repr") (rRepr X.K) := by
  intro pins s σ H xs us Q I r h
  obtain ⟨v, d, rfl, hd, sh, nd, dp, sz, q⟩ := h
  cases r with
  | cons rv rn =>
    cases rn
    obtain ⟨as, rd⟩ := Dp.reads I d v _ hd rv
    have fin : ∀ (h' : Heap) (u tk : Tok), (∀ b o, s.heap.get? b = some o → h'.get? b = some o) → EP X pins σ Q (.str d.shown u) { s with heap := h', toks := tk } := fun h' u tk hk => ⟨.str d.shown, H, I.kept hk, ⟨u, rfl⟩, q⟩
    cases hD : isDisplay d with
    | true =>
      obtain ⟨a, rfl⟩ := isRef_of_reads rd hD
      exact repr_of_reads' rd sh (PyData.noDict_hsm nd) gu (by omega) (fun _ _ e => e) fin sz
    | false =>
      cases rd with
      | none => exact PySem.P.repr_of_none (fin _ _ _ fun _ _ e => e)
      | bool b => exact PySem.P.repr_of_bool (fin _ _ _ fun _ _ e => e)
      | int i t =>
        rw [PyData.showable] at sh
        exact PySem.P.repr_of_int (of_decide_eq_true sh) (fin _ _ _ fun _ _ e => e)
      | str x t => exact PySem.P.repr_of_str (fin _ _ _ fun _ _ e => e) (by rw [PyData.shown] at sz; exact sz)
      | list => cases hD
      | tuple => cases hD
      | dict => rw [PyData.hasDict] at nd; cases nd
end
/-- the law's def is called, the tables of code objects being empty: its promise, where no text of a thing is on its way -/
theorem script_of_law {K : PySem.W.Frag} {a : Addr} {us : List Value} {ns : List Int} (n : ns.length ≤ sizeLine) (e : Vals (ns.map V.int) us) {hp : Heap} (ea : hp.get? a = some { cls := .type "list", data := .seq us.toArray }) (KX : K.In hp) (T : List Addr) (eT : ∀ b ∈ T, hp.get? b = some { cls := .none, data := .fields #[] })
    (P : Program) (w : World) : ∃ H : Hp, (∀ b ∈ T, H b = some (.tbl #[])) ∧ (∀ b o, H b = some o → b ∈ T ∨ (b = a ∧ K.lookup a = none ∧ ∃ ob, o = .frz ob (.lst (ns.map V.int)))) ∧ SqL K H a (ns.map V.int) ∧ HOk P w H hp := by
  have ne : a ∉ T := fun m => by
    have z := eT a m
    rw [ea] at z
    have z2 := congrArg Obj.data (Option.some.inj z)
    cases z2
  have sz : us.toArray.size ≤ sizeLine := by
    rw [List.size_toArray, ← e.length, List.length_map]
    exact n
  cases kl : K.lookup a with
  | some o =>
    have z := KX a o kl
    rw [ea] at z
    cases z
    refine ⟨fun b => if b ∈ T then some (.tbl #[]) else none, fun b m => if_pos m, fun b o z => ?_, .inr ⟨_, us.toArray, _, kl, rfl, rfl, rfl, sz, by simpa using e⟩, fun b o z => ?_⟩
    · by_cases m : b ∈ T
      · exact .inl m
      · have z2 := (if_neg m).symm.trans z
        cases z2
    · by_cases m : b ∈ T
      · have z2 := (if_pos m).symm.trans z
        cases z2
        exact eT b m
      · have z2 := (if_neg m).symm.trans z
        cases z2
  | none =>
    have off : ∀ {b : Addr}, b = a → ¬ b ∈ T := fun z m => ne (z ▸ m)
    refine ⟨fun b => if b ∈ T then some (.tbl #[]) else if b = a then some (.frz { cls := .type "list", data := .seq us.toArray } (.lst (ns.map V.int))) else none, fun b m => if_pos m, fun b o z => ?_, .inl (.inr ⟨_, (if_neg ne).trans (if_pos rfl)⟩), fun b o z => ?_⟩
    · by_cases m : b ∈ T
      · exact .inl m
      · have z2 := (if_neg m).symm.trans z
        by_cases q : b = a
        · have z3 := (if_pos q).symm.trans z2
          cases z3
          exact .inr ⟨q, rfl, _, rfl⟩
        · have z3 := (if_neg q).symm.trans z2
          cases z3
    · by_cases m : b ∈ T
      · have z2 := (if_pos m).symm.trans z
        cases z2
        exact eT b m
      · have z2 := (if_neg m).symm.trans z
        by_cases q : b = a
        · have z3 := (if_pos q).symm.trans z2
          cases z3
          rw [q]
          exact ⟨ea, by rw [List.length_map]; exact n, us, _, e, ea⟩
        · have z3 := (if_neg q).symm.trans z2
          cases z3
/-- the state at the law's call -/
theorem env_of_law {P : Program} {w : World} {K : PySem.W.Frag} {mg mb : Str → Option Value} {a : Addr} {us : List Value} {ns : List Int} {s : Shared} {H : Hp} {cs : List (Addr × Addr)} (KX : K.In s.heap) (gl : s.heap.Ns mainGlobals mg) (bl : s.heap.Ns builtinsNs mb) (bb : ∀ y : Str, y ≠ "__name__" → mb y = bootBuiltins y)
    (lim : s.heap.NoLimit) (ge : s.gens = #[]) (ea : s.heap.get? a = some { cls := .type "list", data := .seq us.toArray }) (eT : ∀ q ∈ cs, s.heap.get? q.2 = some { cls := .none, data := .fields #[] }) (kT : ∀ q ∈ cs, K.lookup q.2 = none) (ch : ∀ q ∈ cs, PySem.W.CodeHd s.heap q.1 q.2)
    (bm : ∃ (z : Addr) (ob : Obj), mg "__builtins__" = some (.ref z) ∧ z ≠ builtinsNs ∧ s.heap.get? z = some ob ∧ ob.cls = .type "module" ∧ ob.dict = some builtinsNs ∧ ob.data = .plain)
    (hO : ∀ b o, H b = some o → b ∈ cs.map (·.2) ∨ (b = a ∧ K.lookup a = none ∧ ∃ ob, o = .frz ob (.lst (ns.map V.int)))) (ok : HOk P w H s.heap) :
    K.In (hidT s.heap H) ∧ (hidT s.heap H).Ns mainGlobals mg ∧ (∀ q ∈ cs, LamX.TabB (hidT s.heap H) mg q.1 q.2) ∧ Env0 P w K mg (hidT s.heap H) callerA [] s H := by
  -- what is neither a list nor an empty table is not told
  have free : ∀ {b : Addr} {o : Obj}, s.heap.get? b = some o → (∀ xs n, o.data ≠ .seq xs n) → o.data ≠ .fields #[] → H b = none := fun {b o} e n1 n2 => by
    cases z : H b with
    | none => rfl
    | some u =>
      rcases hO b u z with m | ⟨rfl, _⟩
      · obtain ⟨q, mq, rfl⟩ := List.mem_map.mp m
        rw [eT q mq] at e
        cases e
        exact absurd rfl n2
      · rw [ea] at e
        cases e
        exact absurd rfl (n1 _ _)
  have dict : ∀ {b : Addr} {f : Str → Option Value}, s.heap.Ns b f → (hidT s.heap H).Ns b f := fun {b f} ⟨o, es, ep, e, d, r⟩ => ⟨o, es, ep, hidT_get e (free e (fun xs n z => by rw [d] at z; cases z) fun z => by rw [d] at z; cases z), d, r⟩
  have kin : K.In (hidT s.heap H) := fun b o e => hidT_get (KX b o e) (by
    cases z : H b with
    | none => rfl
    | some u =>
      rcases hO b u z with m | ⟨rfl, kn, _⟩
      · obtain ⟨q, mq, rfl⟩ := List.mem_map.mp m
        rw [kT q mq] at e
        cases e
      · rw [kn] at e
        cases e)
  refine ⟨kin, dict gl, fun q mq => ?_, rfl, ⟨kin, dict gl, ⟨mb, dict bl, bb⟩, ?_⟩, fun b o e => of_hidT e, Nat.le_of_eq (hidT_size _ _), trivial, (fun b m => by
    have m2 : b ∈ ([] : List Addr) := m
    cases m2), ok, .of_eq ge⟩
  · have tq := eT q mq
    refine ⟨?_, ?_, fun z => ?_⟩
    · obtain ⟨o, fs, file, tf, fl, tg, inF, tx, tt, e1, rest⟩ := ch q mq
      have rest2 := rest
      obtain ⟨_, r2, r3, _⟩ := rest2
      refine ⟨o, fs, file, tf, fl, tg, inF, tx, tt, hidT_get e1 (free e1 (fun xs n z => ?_) fun z => ?_), rest⟩
      · rw [r2] at z
        cases z
      · rw [r2] at z
        cases z
        simp at r3
    · obtain ⟨z, ob, b1, b2, b3, b4, b5, b6⟩ := bm
      refine ⟨z, ob, b1, b2, fun y => ?_, fun y => ?_, hidT_get b3 (free b3 (fun xs n y => ?_) fun y => ?_), b4, b5, b6⟩
      · obtain ⟨o, es, ep, e, d, _⟩ := gl
        rw [y, e] at b3
        cases b3
        rw [d] at b6
        cases b6
      · rw [y, tq] at b3
        cases b3
        cases b6
      · rw [b6] at y
        cases y
      · rw [b6] at y
        cases y
    · obtain ⟨o, es, ep, e, d, _⟩ := gl
      rw [z, tq] at e
      cases e
      cases d
  · obtain ⟨f, h1, h2⟩ := lim
    exact ⟨f, dict h1, h2⟩
/-- the law's call ends and gives True -/
theorem ends_of_law {P : Program} {w : World} {K : PySem.W.Frag} {CX : CXT} {a : Addr} {ns : List Int} {s : Shared} {H : Hp} {cs : List (Addr × Addr)} (eT : ∀ q ∈ cs, s.heap.get? q.2 = some { cls := .none, data := .fields #[] }) (ch : ∀ q ∈ cs, PySem.W.CodeHd s.heap q.1 q.2)
    (hT : ∀ b ∈ cs.map (·.2), H b = some (.tbl #[])) (hO : ∀ b o, H b = some o → b ∈ cs.map (·.2) ∨ (b = a ∧ K.lookup a = none ∧ ∃ ob, o = .frz ob (.lst (ns.map V.int)))) (ok : HOk P w H s.heap) (noE : ∀ e s', CX [] H s (fun _ _ _ => False) e s' → False) :
    ∀ r s', CR CX [] P w H s (fun v _ => v = .bl true) (fun _ _ _ => False) r s' → r = .ok (.ret (.bool true)) ∧ OldK s.heap s'.heap ∧ s'.os = s.os ∧ AllBare s'.gens := fun r s' z => by
  match r, z with
  | .error e, z => exact (noE e s' z).elim
  | .ok (.ret u), z =>
    obtain ⟨v, H', os, bare, un, ok2, rv, rfl⟩ := z
    obtain rfl : u = Value.bool true := rv
    have stays : ∀ {b : Addr} {o : Obj}, b ∉ cs.map (·.2) → s.heap.get? b = some o → s'.heap.get? b = some o := fun {b o} nb e => by
      cases q : H b with
      | none => exact un.keep b o e q (fun m => by
          have m2 : b ∈ ([] : List Addr) := m
          cases m2) (by simp)
      | some u =>
        rcases hO b u q with m | ⟨_, _, ob, rfl⟩
        · exact absurd m nb
        · have y := (ok b _ q).1
          rw [e] at y
          cases y
          exact (ok2 b _ (un.frzs b _ _ q)).1
    have more : ∀ q ∈ cs, ∃ m : Array Value, s'.heap.get? q.2 = some { cls := .none, data := .fields m } := fun q mq => by
      obtain ⟨m, y⟩ := un.tbls q.2 #[] (hT _ (List.mem_map.mpr ⟨q, mq, rfl⟩))
      exact ⟨_, ok2 q.2 _ y⟩
    refine ⟨rfl, ⟨fun b o e => ?_, fun b o e => ?_⟩, os, bare⟩
    · by_cases m : b ∈ cs.map (·.2)
      · obtain ⟨q, mq, rfl⟩ := List.mem_map.mp m
        obtain ⟨m, y⟩ := more q mq
        have t := eT q mq
        rw [t] at e
        cases e
        exact .inr (.inl ⟨((ch q mq).tab t).isCodeTable, rfl, #[], m, rfl, by rw [Array.empty_append]; exact y⟩)
      · exact .inl (stays m e)
    · by_cases m : b ∈ cs.map (·.2)
      · obtain ⟨q, mq, rfl⟩ := List.mem_map.mp m
        exact ⟨_, (more q mq).choose_spec⟩
      · exact ⟨o, stays m e⟩
  | .ok .next, z => exact False.elim z
  | .ok .brk, z => exact False.elim z
  | .ok .cont, z => exact False.elim z
/-- the end of a row whose law's def is told by FnG: a law's own tables of code objects are empty at its call -/
def LawG (l : PySem.W.OpenLaw) (w : World) (K : PySem.W.Frag) (k n : Nat) (x : Str) (mg : Str → Option Value) (fa : Addr) (hp : Heap) : Prop :=
  ∃ (fd : FuncData) (cs : List (Addr × Addr)) (sp : Sp), (∀ q ∈ cs, hp.get? q.2 = some { cls := .none, data := .fields #[] }) ∧ (∀ q ∈ cs, K.lookup q.2 = none) ∧ (∀ q ∈ cs, PySem.W.CodeHd hp q.1 q.2) ∧ (∀ (s : Shared) (u : Value), BindsTo s fd ⟨[u], []⟩ [(x, u)]) ∧
    (∀ (H : Hp) (a : Addr) (ns : List Int), ns.length ≤ n → (∀ z ∈ ns, Builtin.Int.intBits z ≤ 1048576) → (∀ q ∈ cs, H q.2 = some (.tbl #[])) → SqL K H a (ns.map V.int) → sp [.ref a] H (fun v _ => v = .bl true) fun _ _ _ => False) ∧
    ∀ base : Heap, K.In base → base.Ns mainGlobals mg → (∀ q ∈ cs, LamX.TabB base mg q.1 q.2) → FnG l.prog w K mg base CX0 k fa fd [x] sp
theorem walk_ofG {l : PySem.W.OpenLaw} {n k : Nat} {q : Program} {loose : List Str} {XP : (Str → Option Value) → Heap → Prop} {YP : World → Heap → Prop} {d : DefRec} {K : Params → PySem.W.Frag} {x : Str} (most : l.most = some n) (small : n ≤ sizeLine) (nodef : d.params.defaults = []) (room : Room k callerA)
    (inK : ∀ (w : World) (h : Heap), YP w h → (K w.params).In h) (F : ∀ (w : World) (mg : Str → Option Value) (fa : Addr) (h : Heap), YP w h → (K w.params).In h → h.Ns mainGlobals mg → mg d.name = some (.ref fa) → LawG l w (K w.params) k n x mg fa h) :
    PySem.W.WalkO q loose XP YP l.row.toRowW d [] (fun f vs => PySem.call f vs) := by
  refine Att.attach_callB most nodef fun w s0 s1 mg mb fa o pm cd doc a us ns G Y ho hd hcd hmg ea hi len bits ge => ?_
  obtain ⟨fd, cs, sp, eT, kT, ch, bind, told, prom⟩ := F w mg fa _ Y (inK w _ Y) G.T.g hmg
  obtain ⟨H, hT, hO, hS, ok⟩ := script_of_law (P := l.prog) (w := w) (Nat.le_trans len small) (vals_ints hi) ea (inK w _ Y) (cs.map (·.2)) (fun b m => by
    obtain ⟨q, mq, rfl⟩ := List.mem_map.mp m
    exact eT q mq)
  obtain ⟨kin, ns1, tb, e0⟩ := env_of_law (inK w _ Y) G.T.g G.T.b G.T.builtins G.T.nolimit ge ea eT kT ch G.T.bmain hO ok
  exact codeAny_mono ((prom _ kin ns1 tb).goes callerA [] s1 H ⟨[.ref a], []⟩ [.ref a] [.ref a] _ _ rfl room e0 (bind s1 _) (.cons rfl .nil) (told H a ns len bits (fun q mq => hT _ (List.mem_map.mpr ⟨q, mq, rfl⟩)) hS)) (ends_of_law eT ch hT hO ok fun e s' z => z.elim)
end Kit
-- CUT
-- CUT
/-! ### of our own: defs that hand lambdas to another def; the end of a row with tables of code objects -/
namespace Kit
open PySem PySem.Spec PyProof.Rows L2
/-- a def whose code object stands at c -/
structure FunC (K : PySem.W.Frag) (x qual : Str) (st : Stmt) (g : Addr) (gd : FuncData) (c : Addr) : Prop where
  ex : ∃ (oc : Value) (od : Option Addr) (kV doc pm : Value) (an : Option Addr) (ct : Value) (sl : Array (Option Value)),
    gd = PySem.W.fnOf x qual (defArgs st) (defBody st) (defScope st) .none kV doc pm an (.ref c) ct ∧ K.lookup g = some ⟨oc, od, .func gd, sl⟩ ∧ PySem.W.codeIn K (.ref c) qual = true
section
variable {P : Program} {w : World} {K : PySem.W.Frag} {mg : Str → Option Value} {base : Heap} {k : Nat} {g : Addr} {gd : FuncData} {ps : List Str} {sp : Sp}
/-- a def's body, told by its rules, its code object known -/
theorem okGC {x qual : Str} {st : Stmt} {N : List Str} {c : Addr} (F : FunC K x qual st g gd c) (S : FnScope N ps (defScope st)) (many : ∀ vs H Q E, sp vs H Q E → vs.length = ps.length)
    (body : ∀ (A : Around) (out : List Env) (s : Shared) (H : Hp) (vs : List V) (Q : VK) (E : XK), A.guards = some [] → Room k (A.deeper (envOfC qual (defScope st) s.heap.objs.size g (.ref c))) → sp vs H Q E →
      ∃ t, PSs (cxOf CX0 P w K mg base N qual (defScope st) g (.ref c) A out s H E).nox (defBody st) t ∧ t { nx := fun _ H' => Q .non H', rt := Q } (start N vs) H) : FnG P w K mg base CX0 (k + 1) g gd ps sp := by
  obtain ⟨oc, od, kV, doc, pm, an, ct, sl, rfl, lk, hc⟩ := F.ex
  refine ⟨many, fun A out s H args us vs Q E gu r e b v h => ?_⟩
  refine LamX.run_ofS lk hc S r e b v (many _ _ _ _ h) fun r2 => ?_
  obtain ⟨t, h1, h2⟩ := body A out s H vs Q E gu r2 h
  exact ⟨t, h1.nox, h2⟩
end
/-! what stands when tables of code objects grow -/
theorem codeO_lst {c : Addr} {q : Str} {o : HO} (h : ∀ p, o ≠ .ext p) : LamX.CodeO c q ≠ o := fun z => h _ z.symm
/-- all but the dice at d and the tables of code objects stands -/
def KeepN (d : Addr) (H H' : Hp) : Prop := (∀ b o, b ≠ d → (∀ ps, o ≠ .tbl ps) → H b = some o → H' b = some o) ∧ Dice H' d
theorem KeepN.refl {d : Addr} {H : Hp} (h : Dice H d) : KeepN d H H := ⟨fun _ _ _ _ e => e, h⟩
theorem KeepN.trans {d : Addr} {H H1 H2 : Hp} (a : KeepN d H H1) (b : KeepN d H1 H2) : KeepN d H H2 := ⟨fun x o hx hn e => b.1 x o hx hn (a.1 x o hx hn e), b.2⟩
theorem KeepN.of {d : Addr} {H H1 : Hp} (k : Keep d H H1) : KeepN d H H1 := ⟨fun b o hb _ e => k.1 b o hb e, k.2⟩
theorem Dice.ext {d : Addr} {H H1 : Hp} (h : Dice H d) (e : LamX.ExtN H H1) : Dice H1 d := by
  obtain ⟨a, b, c, x, r⟩ := h
  exact ⟨a, b, c, e _ _ x (fun _ z => by cases z), r⟩
theorem KeepN.ext {d : Addr} {H H1 : Hp} (h : Dice H d) (e : LamX.ExtN H H1) : KeepN d H H1 := ⟨fun b o _ hn x => e b o x hn, h.ext e⟩
theorem ext_same {H H1 : Hp} (s : Same H H1) : LamX.ExtN H H1 := fun b o e _ => s b o e
theorem tabs_keep {T : List (Addr × Str)} {d : Addr} {H H1 : Hp} (t : LamX.Tabs T H) (k : Keep d H H1) (hd : Dice H d) : LamX.Tabs T H1 := fun p hp => by
  obtain ⟨ps, h1, h2, h3⟩ := t p hp
  obtain ⟨a, b, c, e0, _⟩ := hd
  refine ⟨ps, k.1 _ _ (fun z => by rw [z, e0] at h1; cases h1) h1, h2, fun pos cv hc => ?_⟩
  obtain ⟨c, e1, e2⟩ := h3 pos cv hc
  refine ⟨c, e1, k.1 _ _ (fun z => ?_) e2⟩
  rw [z, e0] at e2
  injection e2 with e2
  unfold LamX.CodeO at e2
  cases e2
theorem mv_ext {K : PySem.W.Frag} {H H' : Hp} (s : LamX.ExtN H H') : Mv K H H' := fun a xs h => by
  rcases h with (h | ⟨o, h⟩) | h
  · exact .inl (.inl (s _ _ h (fun _ z => by cases z)))
  · exact .inl (.inr ⟨o, s _ _ h (fun _ z => by cases z)⟩)
  · exact .inr h
theorem mv_keepN {K : PySem.W.Frag} {H H' : Hp} {d : Addr} (k : KeepN d H H') (hd : Dice H d) : Mv K H H' := fun a xs h => by
  obtain ⟨x, y, z, e0, _⟩ := hd
  rcases h with (h | ⟨o, h⟩) | h
  · exact .inl (.inl (k.1 _ _ (fun z => by rw [z, e0] at h; cases h) (fun _ z => by cases z) h))
  · exact .inl (.inr ⟨o, k.1 _ _ (fun z => by rw [z, e0] at h; cases h) (fun _ z => by cases z) h⟩)
  · exact .inr h
/-! a lambda without parameters handed to a def that catches one error -/
/-- try: a() / except e: return True // return False -/
def TTmet (K : PySem.W.Frag) (C : Addr) : (XK → Hp → VK → Prop) → Hp → VK → Prop := fun tl H Q =>
  tl (fun cls _ H' => ∃ b, PySem.W.exmOne K cls (.ref C) = some b ∧ (b = true → Q (.bl true) H') ∧ (b = false → False)) H (fun _ H' => Q (.bl false) H')
theorem exm_self {K : PySem.W.Frag} {C : Addr} (h1 : PySem.W.subIn K (.ref C) (.type "BaseException") = some true) (h2 : PySem.W.isClsIn K C = true) (ht : PySem.W.typeIn K (.ref C) = some (.type "type")) (h4 : PySem.W.subIn K (.ref C) (.ref C) = some true) : PySem.W.exmOne K (.ref C) (.ref C) = some true := by
  have e1 : (PySem.W.subIn K (.ref C) (.type "BaseException") == some true) = true := by rw [h1] <;> rfl
  have e2 : ((PySem.W.clsIn K C).isSome && PySem.W.typeIn K (.ref C) == some (.type "type")) = true := by
    unfold PySem.W.isClsIn at h2
    rw [h2, ht] <;> rfl
  show (if (PySem.W.subIn K (.ref C) (.type "BaseException") == some true) = true then (if ((PySem.W.clsIn K C).isSome && PySem.W.typeIn K (.ref C) == some (.type "type")) = true then PySem.W.subIn K (.ref C) (.ref C) else none) else none) = some true
  rw [if_pos e1, if_pos e2]
  exact h4
section
variable {X : Cx}
theorem met_gives {Ng : List Str} {x a e q : Str} {sg : Scope} {g C : Addr} {cdg : Value} {bg : List Stmt} {p1 p2 p3 p4 p5 p6 p7 p8 p9 p10 : Pos}
    (eb : bg = [.Try [.Expr (.Call (.Name a p1) [] [] p2) p3] [.ExceptHandler (some (.Name e p4)) none [.Return (some (.Constant (.bool true) 0 p5)) p6] p7] [] [] p8, .Return (some (.Constant (.bool false) 0 p9)) p10])
    (hge : sg.names.lookup e = some .globalImplicit) (hme : X.mg e = some (.ref C)) (hde : (e == ("__debug__" : Str)) = false) (h0 : ∀ f : Addr, (L2.start Ng [V.ref f])[0]? = some (some (V.ref f))) : LamX.GivesTo X Ng x sg g cdg bg a q (TTmet X.K C) := by
  intro f c' s H Q tl act hc h
  subst eb
  have hgl : Gl (cxOf C8.CX0 X.prog X.w X.K X.mg X.base Ng x sg g cdg X.A X.stack s H C8.E0).nox e := hge
  refine ⟨_, pss_cons (ps_try_only (X := (cxOf C8.CX0 X.prog X.w X.K X.mg X.base Ng x sg g cdg X.A X.stack s H C8.E0).nox) (c := .ref C)
      (tb := fun W D σ H => ∃ Ech : XK, (∀ cls d σ' H', Ech cls d H' → W cls d σ' H') ∧ σ[0]? = some (some (.ref f)) ∧ H c' = some (LamX.CodeO c' q) ∧ tl Ech H fun _ H' => D.nx σ H')
      rfl rfl ⟨hgl, hde, .inl hme⟩ LamX.takes0 (fun W pn xe tk _ => ?_) (fun a oe cls d pn _ _ => pss_one (ps_ret pe_bl))) (pss_one (ps_ret pe_bl)), ?_⟩
  · refine ⟨fun pins s' σ H' D I h' => ?_⟩
    obtain ⟨Ech, hW, h1, h2, h3⟩ := h'
    exact (pss_one (ps_expr (pos := p3) (act W pn xe Ech p1 p2 tk hW))).run pins s' σ H' D I ⟨h1, h2, h3⟩
  · exact ⟨fun cls _ H' => ∃ b, PySem.W.exmOne X.K cls (.ref C) = some b ∧ (b = true → Q (.bl true) H') ∧ (b = false → False), fun cls d σ' H' ⟨b, e1, e2, e3⟩ => ⟨b, e1, fun hb a _ => e2 hb, fun hb => e3 hb⟩, h0 f, hc, h⟩
/-- x(lambda: body), x told by Fun -/
theorem pe_lamF {TT : (XK → Hp → VK → Prop) → Hp → VK → Prop} {x a q : Str} {g c P : Addr} {k : Nat} {st : Stmt} {gd : FuncData} {Ng : List Str} {params : Arguments} {body : Expr} {scope : Scope} {t : XK → TE} {p lpos pos : Pos} (F : Fun X.K x x st g gd) (Sg : FnScope Ng [a] (defScope st)) (hb : L2.Binds X.K gd [a] [])
    (hG : ∀ cdg, LamX.GivesTo X Ng x (defScope st) g cdg (defBody st) a (X.env.qual ++ "<lambda>") TT) (hm : X.mg x = some (.ref g)) (TB : LamX.TabB X.base X.mg c P) (hr : Room (k + 2) X.A)
    (hbody : ∀ (A : Around) (outer : List Env) (s : Shared) (H : Hp) (E : XK) (f c' : Addr), Room k (A.deeper (LamX.lamEnv X scope s.heap.objs.size f c')) → PE (LamX.lamCx X A outer s H E scope f c') body (t E))
    (hcode : X.env.code = .ref c := by rfl) (hq : X.env.qual ++ "<lambda>" = q := by rfl) (L : LamX.LamS X.env.scope scope := by exact LamX.lamS_by (by decide +kernel)) (hdef : defaultsOf params X.env = ([], []) := by rfl)
    (hbind : ∀ (q : Str) (cl : List (Str × Addr)) (pm cv ctv : Value), bindArgs (PySem.W.kla_fn "<lambda>" q params body scope cl pm cv ctv) ⟨[], []⟩ = pure [] := by intros; rfl) (hNg : Ng[0]? = some a := by rfl) (hva : Vis (defScope st) a := by first | exact Or.inl rfl | exact Or.inr (Or.inl rfl)) (hg : Gl X x := by rfl)
    (hdb : (x == ("__debug__" : Str)) = false := by decide) (hd : (a == ("__debug__" : Str)) = false := by decide) (hcd : (a == ("__classdict__" : Str)) = false := by decide) :
    PE X (.Call (.Name x p) [.Lambda params body scope lpos] [] pos) (LamX.tLam [(P, q)] TT t) := by
  subst hq
  obtain ⟨oc, od, kV, doc, pm, an, cdv, ct, sl, rfl, lk, hc⟩ := F.ex
  exact LamX.pe_lamcall hg hm F.kp lk hc hb Sg hNg hva (hG cdv) TB hcode (List.mem_singleton.mpr rfl) (fun p hp _ => by rw [List.mem_singleton.mp hp]) hr L hdef hbind hbody hdb hd hcd
end
/-! the end of a row -/
/-- what is known of the law at its call; cs: the defs that make lambdas, their code objects and tables -/
def LawT (l : PySem.W.OpenLaw) (w : World) (K : PySem.W.Frag) (k n : Nat) (x : Str) (mg : Str → Option Value) (fa : Addr) (p : Program) : Prop :=
  ∃ (fd : FuncData) (cs : List (Str × Addr × Addr)) (sp : Sp), (∀ q ∈ cs, (∃ d, (recsOf p).find? (fun e => e.name == q.1) = some d) ∧ PySem.W.tabIn K q.1 = some q.2 ∧ K.lookup q.2.2 = none) ∧ (∀ (s : Shared) (u : Value), BindsTo s fd ⟨[u], []⟩ [(x, u)]) ∧
    (∀ (H : Hp) (a : Addr) (ns : List Int), ns.length ≤ n → (∀ z ∈ ns, Builtin.Int.intBits z ≤ 1048576) → (∀ q ∈ cs, H q.2.2 = some (.tbl #[])) → SqL K H a (ns.map V.int) → sp [.ref a] H (fun v _ => v = .bl true) fun _ _ _ => False) ∧
    ∀ base : Heap, K.In base → base.Ns mainGlobals mg → (∀ q ∈ cs, LamX.TabB base mg q.2.1 q.2.2) → FnG l.prog w K mg base CX0 k fa fd [x] sp
theorem walk_ofT {l : PySem.W.OpenLaw} {n k : Nat} {q : Program} {loose : List Str} {XP : (Str → Option Value) → Heap → Prop} {YP : World → Heap → Prop} {d : DefRec} {K : Params → PySem.W.Frag} {x : Str} (most : l.most = some n) (small : n ≤ sizeLine) (nodef : d.params.defaults = []) (room : Room k callerA)
    (inK : ∀ (w : World) (h : Heap), YP w h → (K w.params).In h) (F : ∀ (w : World) (mg : Str → Option Value) (fa : Addr) (h : Heap), (K w.params).In h → h.Ns mainGlobals mg → mg d.name = some (.ref fa) → LawT l w (K w.params) k n x mg fa q) :
    PySem.W.WalkO q loose XP YP l.row.toRowW d [] (fun f vs => PySem.call f vs) := by
  refine Att.attach_callB most nodef fun w s0 s1 mg mb fa o pm cd doc a us ns G Y ho hd hcd hmg ea hi len bits ge => ?_
  obtain ⟨fd, cs, sp, tabs, bind, told, prom⟩ := F w mg fa _ (inK w _ Y) G.T.g hmg
  have tt : ∀ e ∈ cs.map (·.2), PySem.W.CodeHd s1.heap e.1 e.2 ∧ s1.heap.get? e.2 = some { cls := .none, data := .fields #[] } ∧ (K w.params).lookup e.2 = none := fun e he => by
    obtain ⟨e, me, rfl⟩ := List.mem_map.mp he
    obtain ⟨⟨d, h1⟩, h2, h3⟩ := tabs e me
    obtain ⟨z1, z2⟩ := PySem.W.tab_of G.T (inK w _ Y) h1 h2
    exact ⟨z1, z2, h3⟩
  obtain ⟨H, hT, hO, hS, ok⟩ := script_of_law (P := l.prog) (w := w) (Nat.le_trans len small) (vals_ints hi) ea (inK w _ Y) ((cs.map (·.2)).map (·.2)) (fun b m => by
    obtain ⟨e, me, rfl⟩ := List.mem_map.mp m
    exact (tt e me).2.1)
  obtain ⟨kin, ns1, tb, e0⟩ := env_of_law (cs := cs.map (·.2)) (inK w _ Y) G.T.g G.T.b G.T.builtins G.T.nolimit ge ea (fun e me => (tt e me).2.1) (fun e me => (tt e me).2.2) (fun e me => (tt e me).1) G.T.bmain hO ok
  exact codeAny_mono ((prom _ kin ns1 fun e me => tb _ (List.mem_map.mpr ⟨e, me, rfl⟩)).goes callerA [] s1 H ⟨[.ref a], []⟩ [.ref a] [.ref a] _ _ rfl room e0 (bind s1 _) (.cons rfl .nil)
    (told H a ns len bits (fun e me => hT _ (List.mem_map.mpr ⟨e.2, List.mem_map.mpr ⟨e, me, rfl⟩, rfl⟩)) hS)) (ends_of_law (fun e me => (tt e me).2.1) (fun e me => (tt e me).1) hT hO ok fun e s' z => z.elim)
/-- where a def's table of code objects stands -/
theorem tab_in {K : PySem.W.Frag} {x : Str} {f c P : Addr} {oc cc : Value} {od dc : Option Addr} {fd : FuncData} {sl scl : Array (Option Value)} {vs : Array Value} (h1 : PySem.W.nsIn K mainGlobals x = some (some (.ref f))) (h2 : K.lookup f = some ⟨oc, od, .func fd, sl⟩) (h3 : fd.code = .ref c)
    (h4 : K.lookup c = some ⟨cc, dc, .fields vs, scl⟩) (h5 : vs[11]? = some (.ref P)) : PySem.W.tabIn K x = some (c, P) := by
  unfold PySem.W.tabIn
  rw [h1]
  simp only [h2, h3, h4, h5]
end Kit
-- CUT
/-! ### of our own: how long the text of data is -/
namespace Kit
open PySem PySem.Spec PyProof.Rows L2
/-- every sign is a code point -/
def Low (z : Str) : Prop := ∀ c ∈ z.cps.toList, c < 16 ^ 8
theorem low_of (s : String) : Low (Str.ofString s) := by
  intro c hc
  have e : (Str.ofString s).cps.toList = s.toList.map fun x => x.toNat := by
    rw [Str.ofString_eq_toList]
  rw [e] at hc
  obtain ⟨x, _, rfl⟩ := List.mem_map.mp hc
  have z := x.val.toNat_lt
  exact Nat.lt_of_lt_of_le z (by decide)
theorem Low.app {a b : Str} (x : Low a) (y : Low b) : Low (a ++ b) := fun c hc => by
  rw [Str.cps_append, Array.toList_append, List.mem_append] at hc
  exact hc.elim (x c) (y c)
theorem low_empty : Low Str.empty := fun c hc => by cases hc
theorem mem_joinL {sep : List Nat} {c : Nat} : ∀ {ps : List (List Nat)}, c ∈ TL.joinL sep ps → c ∈ sep ∨ ∃ p ∈ ps, c ∈ p
  | [], h => by cases h
  | [p], h => .inr ⟨p, List.mem_cons_self .., h⟩
  | p :: q :: r, h => by
    have h' : c ∈ p ++ (sep ++ TL.joinL sep (q :: r)) := h
    rw [List.mem_append, List.mem_append] at h'
    rcases h' with h' | h' | h'
    · exact .inr ⟨p, List.mem_cons_self .., h'⟩
    · exact .inl h'
    · rcases mem_joinL h' with z | ⟨x, hx, z⟩
      · exact .inl z
      · exact .inr ⟨x, List.mem_cons_of_mem _ hx, z⟩
theorem low_join {sep : Str} {ys : List Str} (a : Low sep) (b : ∀ y ∈ ys, Low y) : Low (Txt.join sep ys) := fun c hc => by
  have h := TL.tl_join sep ys
  have e : (Txt.join sep ys).cps.toList = TL.joinL (TL.tl sep) (ys.map TL.tl) := by
    rw [TL.join_eq]
    exact h
  rw [e] at hc
  rcases mem_joinL hc with z | ⟨p, hp, z⟩
  · exact a c z
  · obtain ⟨y, hy, rfl⟩ := List.mem_map.mp hp
    exact b y hy c z
/-- data whose text is no longer than so much -/
structure Brief (n : Nat) (d : PyData) : Prop where
  sh : d.showable = true
  nd : d.hasDict = false
  lv : d.leavesShort 30 = true
  wt : d.weight ≤ n
structure BriefAll (n : Nat) (ds : List PyData) : Prop where
  sh : PyData.showableAll ds = true
  nd : PyData.hasDictAll ds = false
  lv : PyData.leavesShortAll 30 ds = true
  wt : PyData.weightAll ds ≤ n
theorem BriefAll.nil : BriefAll 0 [] := ⟨by rw [PyData.showableAll], by rw [PyData.hasDictAll], by rw [PyData.leavesShortAll], by rw [PyData.weightAll] <;> exact Nat.le_refl 0⟩
theorem BriefAll.cons {n m : Nat} {d : PyData} {ds : List PyData} (a : Brief n d) (b : BriefAll m ds) : BriefAll (n + 1 + m) (d :: ds) :=
  ⟨by rw [PyData.showableAll, a.sh, b.sh] <;> rfl, by rw [PyData.hasDictAll, a.nd, b.nd] <;> rfl, by rw [PyData.leavesShortAll, a.lv, b.lv] <;> rfl, by
    rw [PyData.weightAll]
    have := a.wt
    have := b.wt
    omega⟩
theorem BriefAll.list {n : Nat} {ds : List PyData} (a : BriefAll n ds) : Brief n (.list ds) := ⟨by rw [PyData.showable]; exact a.sh, by rw [PyData.hasDict]; exact a.nd, by rw [PyData.leavesShort]; exact a.lv, by rw [PyData.weight]; exact a.wt⟩
theorem BriefAll.tuple {n : Nat} {ds : List PyData} (a : BriefAll n ds) : Brief n (.tuple ds) := ⟨by rw [PyData.showable]; exact a.sh, by rw [PyData.hasDict]; exact a.nd, by rw [PyData.leavesShort]; exact a.lv, by rw [PyData.weight]; exact a.wt⟩
theorem BriefAll.map {α : Type} {f : α → PyData} {k : Nat} : ∀ {xs : List α}, (∀ x ∈ xs, Brief k (f x)) → BriefAll ((k + 1) * xs.length) (xs.map f)
  | [], _ => .nil
  | x :: xs, h => by
    have z := BriefAll.cons (h x (List.mem_cons_self ..)) (BriefAll.map fun y hy => h y (List.mem_cons_of_mem _ hy))
    have e : k + 1 + (k + 1) * xs.length = (k + 1) * (x :: xs).length := by
      rw [List.length_cons, Nat.mul_succ]
      omega
    rw [e] at z
    exact z
theorem brief_str {n : Nat} {z : Str} (a : Low z) (b : z.length ≤ n) : Brief n (.str z) := ⟨by rw [PyData.showable], by rw [PyData.hasDict], by rw [PyData.leavesShort, List.all_eq_true]; exact fun c hc => decide_eq_true (a c hc), by rw [PyData.weight]; exact b⟩
theorem brief_bool (b : Bool) : Brief 0 (.bool b) := ⟨by rw [PyData.showable], by rw [PyData.hasDict], by rw [PyData.leavesShort], by rw [PyData.weight] <;> exact Nat.le_refl 0⟩
theorem brief_non : Brief 0 .none := ⟨by rw [PyData.showable], by rw [PyData.hasDict], by rw [PyData.leavesShort], by rw [PyData.weight] <;> exact Nat.le_refl 0⟩
theorem brief_int {i : Int} (h : i.natAbs < 10 ^ 28) : Brief 100 (.int i) := by
  have lg : i.natAbs.log2 < 94 := by
    by_cases z : i.natAbs = 0
    · rw [z]
      decide
    · exact (Nat.log2_lt z).mpr (Nat.lt_trans h (by decide +kernel))
  refine ⟨by rw [PyData.showable]; exact decide_eq_true (by omega), by rw [PyData.hasDict], ?_, ?_⟩
  · rw [PyData.leavesShort]
    refine decide_eq_true ?_
    have z := int_text_length_le10 (a := i) (k := 28) (by decide) h
    show (Str.ofString (toString i)).length ≤ 30
    have e : (Str.ofString (toString i)).length = (toString i).length := by
      rw [Str.ofString_eq_toList]
      show (((toString i).toList.map Char.toNat).toArray).size = _
      rw [List.size_toArray, List.length_map]
      exact String.length_toList
    rw [e]
    omega
  · rw [PyData.weight]
    split <;> omega
theorem Brief.more {n m : Nat} {d : PyData} (a : Brief n d) (h : n ≤ m) : Brief m d := ⟨a.sh, a.nd, a.lv, Nat.le_trans a.wt h⟩
theorem Brief.len {n : Nat} {d : PyData} (a : Brief n d) (h : n ≤ 400000) : d.shown.length ≤ sizeLine := by
  have z := PyData.shown_le 30 (by decide) d a.lv
  have w := a.wt
  have e := Nat.mul_le_mul_left 32 (Nat.le_trans w h)
  rw [sizeLine_eq]
  omega
end Kit
/-! ### of our own: slices and sums of tuples, told in one way (HandS.TupAny) -/
namespace Kit
open PySem PySem.Spec PyProof.Rows L2
section
variable {K : PySem.W.Frag} {H : Hp}
theorem sl_step {t : Addr} {xs : List V} {lo hi : Option Int} {Q : VK} (h : SqT K H t xs) (k : ∀ u H', Same H H' → SqT K H' u (cutV xs lo hi) → Q (.ref u) H') : rSlA K (.ref t) lo hi H Q := by
  refine ⟨t, xs, rfl, h, fun e => k t H (.refl H) ?_, fun _ p n => k p _ (same_upd n) (.of upd_same)⟩
  unfold cutV
  rw [e.1, e.2, List.drop_zero, Nat.sub_zero, List.take_length]
  exact h
theorem cat_step {t u : Addr} {xs ys : List V} {Q : VK} (h1 : SqT K H t xs) (h2 : SqT K H u ys) (z : xs.length + ys.length ≤ 1000) (k : ∀ v H', Same H H' → SqT K H' v (xs ++ ys) → Q (.ref v) H') : rCatA K (.ref t) (.ref u) H Q := by
  refine ⟨t, u, xs, ys, rfl, rfl, h1, h2, sz_of (by omega), fun e => k u H (.refl H) ?_, fun _ e => k t H (.refl H) ?_, fun _ _ p n => k p _ (same_upd n) (.of upd_same)⟩
  · subst e
    exact h2
  · subst e
    rw [List.append_nil]
    exact h1
theorem cut_take {xs : List V} {n : Nat} (h : n ≤ xs.length) : cutV xs none (some (n : Int)) = xs.take n := by
  unfold cutV
  rw [HT.sIx_none, HT.sIx_nat, List.drop_zero, Nat.sub_zero, Nat.min_eq_left h]
theorem cut_drop {xs : List V} {n : Nat} (h : n ≤ xs.length) : cutV xs (some (n : Int)) none = xs.drop n := by
  unfold cutV
  rw [HT.sIx_none, HT.sIx_nat, Nat.min_eq_left h]
  exact List.take_of_length_le (by rw [List.length_drop]; exact Nat.le_refl _)
end
end Kit
-- HEAD namespace K22
-- HEAD open PySem PySem.Spec PyProof.Rows L2 Kit StX TXS
-- FOOT end K22
namespace K22
open PySem PySem.Spec PyProof.Rows L2 Kit StX TXS
def topS (i : Nat) : Stmt := PySem.Challenge.pw_goneunseen_k22_places_made_and_told.main.body.getD i (.Pass ⟨0, 0, 0, 0⟩)
abbrev s_Sound_init : Stmt := inClass (topS 1) 0
theorem sc_Sound_init : FnScope ["self", "worth"] ["self", "worth"] (defScope s_Sound_init) := ⟨rfl, rfl, rfl, by decide +kernel, rfl, by decide +kernel, by decide +kernel⟩
abbrev s_Place_init : Stmt := inClass (topS 15) 0
theorem sc_Place_init : FnScope ["self", "source", "filtered", "terms"] ["self", "source", "filtered", "terms"] (defScope s_Place_init) := ⟨rfl, rfl, rfl, by decide +kernel, rfl, by decide +kernel, by decide +kernel⟩
abbrev s_Place_of : Stmt := inClass (topS 15) 1
theorem sc_Place_of : FnScope ["cls", "source", "terms", "filtered"] ["cls", "source", "terms", "filtered"] (defScope s_Place_of) := ⟨rfl, rfl, rfl, by decide +kernel, rfl, by decide +kernel, by decide +kernel⟩
abbrev s_Place_source : Stmt := inClass (topS 15) 2
theorem sc_Place_source : FnScope ["self"] ["self"] (defScope s_Place_source) := ⟨rfl, rfl, rfl, by decide +kernel, rfl, by decide +kernel, by decide +kernel⟩
abbrev s_Place_terms : Stmt := inClass (topS 15) 3
theorem sc_Place_terms : FnScope ["self"] ["self"] (defScope s_Place_terms) := ⟨rfl, rfl, rfl, by decide +kernel, rfl, by decide +kernel, by decide +kernel⟩
abbrev s_Place_filtered : Stmt := inClass (topS 15) 4
theorem sc_Place_filtered : FnScope ["self"] ["self"] (defScope s_Place_filtered) := ⟨rfl, rfl, rfl, by decide +kernel, rfl, by decide +kernel, by decide +kernel⟩
abbrev s_Place_variables : Stmt := inClass (topS 15) 5
theorem sc_Place_variables : FnScope ["self", "term"] ["self"] (defScope s_Place_variables) := ⟨rfl, rfl, rfl, by decide +kernel, rfl, by decide +kernel, by decide +kernel⟩
abbrev s_Place_pos : Stmt := inClass (topS 15) 6
theorem sc_Place_pos : FnScope ["self"] ["self"] (defScope s_Place_pos) := ⟨rfl, rfl, rfl, by decide +kernel, rfl, by decide +kernel, by decide +kernel⟩
abbrev s_Place_neg : Stmt := inClass (topS 15) 7
theorem sc_Place_neg : FnScope ["self"] ["self"] (defScope s_Place_neg) := ⟨rfl, rfl, rfl, by decide +kernel, rfl, by decide +kernel, by decide +kernel⟩
abbrev s_Place_invert : Stmt := inClass (topS 15) 8
theorem sc_Place_invert : FnScope ["self"] ["self"] (defScope s_Place_invert) := ⟨rfl, rfl, rfl, by decide +kernel, rfl, by decide +kernel, by decide +kernel⟩
abbrev s_Place_len : Stmt := inClass (topS 15) 9
theorem sc_Place_len : FnScope ["self"] ["self"] (defScope s_Place_len) := ⟨rfl, rfl, rfl, by decide +kernel, rfl, by decide +kernel, by decide +kernel⟩
abbrev s_Place_eq : Stmt := inClass (topS 15) 10
theorem sc_Place_eq : FnScope ["self", "other"] ["self", "other"] (defScope s_Place_eq) := ⟨rfl, rfl, rfl, by decide +kernel, rfl, by decide +kernel, by decide +kernel⟩
abbrev s_Place_str : Stmt := inClass (topS 15) 11
theorem sc_Place_str : FnScope ["self"] ["self"] (defScope s_Place_str) := ⟨rfl, rfl, rfl, by decide +kernel, rfl, by decide +kernel, by decide +kernel⟩
abbrev s_is_name : Stmt := topS 9
theorem sc_is_name : FnScope ["value"] ["value"] (defScope s_is_name) := ⟨rfl, rfl, rfl, by decide +kernel, rfl, by decide +kernel, by decide +kernel⟩
abbrev s_is_whole : Stmt := topS 10
theorem sc_is_whole : FnScope ["value"] ["value"] (defScope s_is_whole) := ⟨rfl, rfl, rfl, by decide +kernel, rfl, by decide +kernel, by decide +kernel⟩
abbrev s_is_integer : Stmt := topS 11
theorem sc_is_integer : FnScope ["value"] ["value"] (defScope s_is_integer) := ⟨rfl, rfl, rfl, by decide +kernel, rfl, by decide +kernel, by decide +kernel⟩
abbrev s_is_term : Stmt := topS 12
theorem sc_is_term : FnScope ["value"] ["value"] (defScope s_is_term) := ⟨rfl, rfl, rfl, by decide +kernel, rfl, by decide +kernel, by decide +kernel⟩
abbrev s_place_with : Stmt := topS 16
theorem sc_place_with : FnScope ["source", "terms", "mark"] ["source", "terms", "mark"] (defScope s_place_with) := ⟨rfl, rfl, rfl, by decide +kernel, rfl, by decide +kernel, by decide +kernel⟩
abbrev s_sign : Stmt := topS 17
theorem sc_sign : FnScope ["filtered"] ["filtered"] (defScope s_sign) := ⟨rfl, rfl, rfl, by decide +kernel, rfl, by decide +kernel, by decide +kernel⟩
abbrev s_terms_text : Stmt := topS 18
theorem sc_terms_text : FnScope ["terms", "term"] ["terms"] (defScope s_terms_text) := ⟨rfl, rfl, rfl, by decide +kernel, rfl, by decide +kernel, by decide +kernel⟩
abbrev s_check_parts : Stmt := topS 19
theorem sc_check_parts : FnScope ["source", "terms", "filtered", "term"] ["source", "terms", "filtered"] (defScope s_check_parts) := ⟨rfl, rfl, rfl, by decide +kernel, rfl, by decide +kernel, by decide +kernel⟩
abbrev s_l_dice : Stmt := topS 21
theorem sc_l_dice : FnScope ["_law_script", "_law_spot", "_law_cell", "_law_great", "_law_blend"] ["_law_script", "_law_spot"] (defScope s_l_dice) := ⟨rfl, rfl, rfl, by decide +kernel, rfl, by decide +kernel, by decide +kernel⟩
abbrev s_l_roll : Stmt := topS 22
theorem sc_l_roll : FnScope ["_law_dice_here", "_law_upto", "_law_found", "_law_one", "_law_two"] ["_law_dice_here", "_law_upto"] (defScope s_l_roll) := ⟨rfl, rfl, rfl, by decide +kernel, rfl, by decide +kernel, by decide +kernel⟩
abbrev s_l_pick : Stmt := topS 23
theorem sc_l_pick : FnScope ["_law_dice_here", "_law_items"] ["_law_dice_here", "_law_items"] (defScope s_l_pick) := ⟨rfl, rfl, rfl, by decide +kernel, rfl, by decide +kernel, by decide +kernel⟩
abbrev s_l_word : Stmt := topS 24
theorem sc_l_word : FnScope ["_law_dice_here", "_law_turn"] ["_law_dice_here"] (defScope s_l_word) := ⟨rfl, rfl, rfl, by decide +kernel, rfl, by decide +kernel, by decide +kernel⟩
abbrev s_l_integer : Stmt := topS 25
theorem sc_l_integer : FnScope ["_law_dice_here"] ["_law_dice_here"] (defScope s_l_integer) := ⟨rfl, rfl, rfl, by decide +kernel, rfl, by decide +kernel, by decide +kernel⟩
abbrev s_l_own_term : Stmt := topS 26
theorem sc_l_own_term : FnScope ["_law_dice_here", "_law_way"] ["_law_dice_here"] (defScope s_l_own_term) := ⟨rfl, rfl, rfl, by decide +kernel, rfl, by decide +kernel, by decide +kernel⟩
abbrev s_l_one_by_one : Stmt := topS 27
theorem sc_l_one_by_one : FnScope ["_law_source", "_law_terms", "_law_marked"] ["_law_source", "_law_terms", "_law_marked"] (defScope s_l_one_by_one) := ⟨rfl, rfl, rfl, by decide +kernel, rfl, by decide +kernel, by decide +kernel⟩
abbrev s_l_is_told : Stmt := topS 28
theorem sc_l_is_told : FnScope ["_law_place", "_law_source", "_law_terms", "_law_marked", "_law_names", "_law_text", "_law_told", "_law_term"] ["_law_place", "_law_source", "_law_terms", "_law_marked"] (defScope s_l_is_told) := ⟨rfl, rfl, rfl, by decide +kernel, rfl, by decide +kernel, by decide +kernel⟩
abbrev s_l_signs_right : Stmt := topS 29
theorem sc_l_signs_right : FnScope ["_law_place", "_law_source", "_law_terms", "_law_marked", "_law_some", "_law_told", "_law_one", "_law_due"] ["_law_place", "_law_source", "_law_terms", "_law_marked"] (defScope s_l_signs_right) := ⟨rfl, rfl, rfl, by decide +kernel, rfl, by decide +kernel, by decide +kernel⟩
abbrev s_l_bent : Stmt := topS 30
theorem sc_l_bent : FnScope ["_law_dice_here", "_law_source", "_law_terms", "_law_way", "_law_at"] ["_law_dice_here", "_law_source", "_law_terms"] (defScope s_l_bent) := ⟨rfl, rfl, rfl, by decide +kernel, rfl, by decide +kernel, by decide +kernel⟩
abbrev s_l_equal_right : Stmt := topS 31
theorem sc_l_equal_right : FnScope ["_law_dice_here", "_law_place", "_law_source", "_law_terms", "_law_marked", "_law_turn", "_law_bent_here", "_law_other", "_law_due", "_law_odd", "_law_value"] ["_law_dice_here", "_law_place", "_law_source", "_law_terms", "_law_marked"] (defScope s_l_equal_right) := ⟨rfl, rfl, rfl, by decide +kernel, rfl, by decide +kernel, by decide +kernel⟩
abbrev s_l_met : Stmt := topS 32
theorem sc_l_met : FnScope ["_law_call"] ["_law_call"] (defScope s_l_met) := ⟨rfl, rfl, rfl, by decide +kernel, rfl, by decide +kernel, by decide +kernel⟩
abbrev s_l_refused : Stmt := topS 33
theorem sc_l_refused : FnScope ["_law_dice_here", "_law_source", "_law_terms", "_law_off", "_law_odd", "_law_much", "_law_at", "_law_bad", "_law_told", "_law_none"] ["_law_dice_here", "_law_source", "_law_terms"] (defScope s_l_refused) := ⟨rfl, rfl, rfl, by decide +kernel, rfl, by decide +kernel, by decide +kernel⟩
abbrev s_l_right : Stmt := topS 34
theorem sc_l_right : FnScope ["_law_dice_here", "_law_source", "_law_terms", "_law_marked", "_law_one", "_law_other", "_law_turn"] ["_law_dice_here"] (defScope s_l_right) := ⟨rfl, rfl, rfl, by decide +kernel, rfl, by decide +kernel, by decide +kernel⟩
abbrev s_law : Stmt := topS 35
theorem sc_law : FnScope ["_law_script", "_law_spot", "_law_dice_here", "_law_turn", "_law_place", "_law_told"] ["_law_script"] (defScope s_law) := ⟨rfl, rfl, rfl, by decide +kernel, rfl, by decide +kernel, by decide +kernel⟩
structure Txt (K : PySem.W.Frag) (mg : Str → Option Value) where
  c_Sound : Addr
  g_Sound : mg "Sound" = some (.ref c_Sound)
  cl_Sound : Cls K c_Sound
  kC_Sound : PySem.W.keepIn K (.ref c_Sound) = true
  nA_Sound_worth : NoAttr K c_Sound "worth"
  c_Place : Addr
  g_Place : mg "Place" = some (.ref c_Place)
  cl_Place : Cls K c_Place
  kC_Place : PySem.W.keepIn K (.ref c_Place) = true
  nA_Place_source : NoAttr K c_Place "_source"
  nA_Place_terms : NoAttr K c_Place "_terms"
  nA_Place_filtered : NoAttr K c_Place "_filtered"
  mc_Place : Value
  rd_Place : ClX.CRead K c_Place mc_Place
  c_InvalidPlace : Addr
  g_InvalidPlace : mg "InvalidPlace" = some (.ref c_InvalidPlace)
  x_InvalidPlace : PySem.W.excIn K c_InvalidPlace [.type "ValueError", .type "Exception", .type "BaseException", .type "object"] "ValueError.__new__" = true
  kC_InvalidPlace : PySem.W.keepIn K (.ref c_InvalidPlace) = true
  eb_InvalidPlace : PySem.W.subIn K (.ref c_InvalidPlace) (.type "BaseException") = some true
  et_InvalidPlace : PySem.W.typeIn K (.ref c_InvalidPlace) = some (.type "type")
  ec_InvalidPlace : PySem.W.isClsIn K c_InvalidPlace = true
  es_InvalidPlace : PySem.W.subIn K (.ref c_InvalidPlace) (.ref c_InvalidPlace) = some true
  a_Sound_init : Addr
  fd_Sound_init : FuncData
  F_Sound_init : Fun K "__init__" "Sound.__init__" s_Sound_init a_Sound_init fd_Sound_init
  b_Sound_init : Binds K fd_Sound_init ["self", "worth"] []
  M_Sound : Mk K c_Sound a_Sound_init
  a_Place_init : Addr
  fd_Place_init : FuncData
  F_Place_init : FunD K "__init__" "Place.__init__" (defArgs s_Place_init) (defBody s_Place_init) (defScope s_Place_init) [] [("filtered", .bl false)] a_Place_init fd_Place_init
  M_Place : Mk K c_Place a_Place_init
  a_Place_of : Addr
  fd_Place_of : FuncData
  F_Place_of : FunD K "of" "Place.of" (defArgs s_Place_of) (defBody s_Place_of) (defScope s_Place_of) [] [("filtered", .bl false)] a_Place_of fd_Place_of
  q_Place_of : Addr
  cm_Place_of : ClX.CMet K c_Place mc_Place "of" q_Place_of a_Place_of
  a_Place_source : Addr
  fd_Place_source : FuncData
  F_Place_source : Fun K "source" "Place.source" s_Place_source a_Place_source fd_Place_source
  b_Place_source : Binds K fd_Place_source ["self"] []
  q_Place_source : Addr
  p_Place_source : PropOf K c_Place "source" q_Place_source a_Place_source
  a_Place_terms : Addr
  fd_Place_terms : FuncData
  F_Place_terms : Fun K "terms" "Place.terms" s_Place_terms a_Place_terms fd_Place_terms
  b_Place_terms : Binds K fd_Place_terms ["self"] []
  q_Place_terms : Addr
  p_Place_terms : PropOf K c_Place "terms" q_Place_terms a_Place_terms
  a_Place_filtered : Addr
  fd_Place_filtered : FuncData
  F_Place_filtered : Fun K "filtered" "Place.filtered" s_Place_filtered a_Place_filtered fd_Place_filtered
  b_Place_filtered : Binds K fd_Place_filtered ["self"] []
  q_Place_filtered : Addr
  p_Place_filtered : PropOf K c_Place "filtered" q_Place_filtered a_Place_filtered
  a_Place_variables : Addr
  fd_Place_variables : FuncData
  F_Place_variables : Fun K "variables" "Place.variables" s_Place_variables a_Place_variables fd_Place_variables
  b_Place_variables : Binds K fd_Place_variables ["self"] []
  q_Place_variables : Addr
  p_Place_variables : PropOf K c_Place "variables" q_Place_variables a_Place_variables
  a_Place_pos : Addr
  fd_Place_pos : FuncData
  F_Place_pos : Fun K "__pos__" "Place.__pos__" s_Place_pos a_Place_pos fd_Place_pos
  b_Place_pos : Binds K fd_Place_pos ["self"] []
  m_Place_pos : Meth K c_Place "__pos__" a_Place_pos
  a_Place_neg : Addr
  fd_Place_neg : FuncData
  F_Place_neg : Fun K "__neg__" "Place.__neg__" s_Place_neg a_Place_neg fd_Place_neg
  b_Place_neg : Binds K fd_Place_neg ["self"] []
  m_Place_neg : Meth K c_Place "__neg__" a_Place_neg
  a_Place_invert : Addr
  fd_Place_invert : FuncData
  F_Place_invert : Fun K "__invert__" "Place.__invert__" s_Place_invert a_Place_invert fd_Place_invert
  b_Place_invert : Binds K fd_Place_invert ["self"] []
  m_Place_invert : Meth K c_Place "__invert__" a_Place_invert
  a_Place_len : Addr
  fd_Place_len : FuncData
  F_Place_len : Fun K "__len__" "Place.__len__" s_Place_len a_Place_len fd_Place_len
  b_Place_len : Binds K fd_Place_len ["self"] []
  m_Place_len : Meth K c_Place "__len__" a_Place_len
  a_Place_eq : Addr
  fd_Place_eq : FuncData
  F_Place_eq : Fun K "__eq__" "Place.__eq__" s_Place_eq a_Place_eq fd_Place_eq
  b_Place_eq : Binds K fd_Place_eq ["self", "other"] []
  m_Place_eq : Meth K c_Place "__eq__" a_Place_eq
  a_Place_str : Addr
  fd_Place_str : FuncData
  F_Place_str : Fun K "__str__" "Place.__str__" s_Place_str a_Place_str fd_Place_str
  b_Place_str : Binds K fd_Place_str ["self"] []
  m_Place_str : Meth K c_Place "__str__" a_Place_str
  a_is_name : Addr
  fd_is_name : FuncData
  F_is_name : Fun K "is_name" "is_name" s_is_name a_is_name fd_is_name
  b_is_name : Binds K fd_is_name ["value"] []
  g_is_name : mg "is_name" = some (.ref a_is_name)
  a_is_whole : Addr
  fd_is_whole : FuncData
  F_is_whole : Fun K "is_whole" "is_whole" s_is_whole a_is_whole fd_is_whole
  b_is_whole : Binds K fd_is_whole ["value"] []
  g_is_whole : mg "is_whole" = some (.ref a_is_whole)
  a_is_integer : Addr
  fd_is_integer : FuncData
  F_is_integer : Fun K "is_integer" "is_integer" s_is_integer a_is_integer fd_is_integer
  b_is_integer : Binds K fd_is_integer ["value"] []
  g_is_integer : mg "is_integer" = some (.ref a_is_integer)
  a_is_term : Addr
  fd_is_term : FuncData
  F_is_term : Fun K "is_term" "is_term" s_is_term a_is_term fd_is_term
  b_is_term : Binds K fd_is_term ["value"] []
  g_is_term : mg "is_term" = some (.ref a_is_term)
  a_place_with : Addr
  fd_place_with : FuncData
  F_place_with : Fun K "_place_with" "_place_with" s_place_with a_place_with fd_place_with
  b_place_with : Binds K fd_place_with ["source", "terms", "mark"] []
  g_place_with : mg "_place_with" = some (.ref a_place_with)
  a_sign : Addr
  fd_sign : FuncData
  F_sign : Fun K "_sign" "_sign" s_sign a_sign fd_sign
  b_sign : Binds K fd_sign ["filtered"] []
  g_sign : mg "_sign" = some (.ref a_sign)
  a_terms_text : Addr
  fd_terms_text : FuncData
  F_terms_text : Fun K "_terms_text" "_terms_text" s_terms_text a_terms_text fd_terms_text
  b_terms_text : Binds K fd_terms_text ["terms"] []
  g_terms_text : mg "_terms_text" = some (.ref a_terms_text)
  a_check_parts : Addr
  fd_check_parts : FuncData
  F_check_parts : Fun K "_check_parts" "_check_parts" s_check_parts a_check_parts fd_check_parts
  b_check_parts : Binds K fd_check_parts ["source", "terms", "filtered"] []
  g_check_parts : mg "_check_parts" = some (.ref a_check_parts)
  a_l_dice : Addr
  fd_l_dice : FuncData
  F_l_dice : Fun K "_law_dice" "_law_dice" s_l_dice a_l_dice fd_l_dice
  b_l_dice : Binds K fd_l_dice ["_law_script", "_law_spot"] []
  g_l_dice : mg "_law_dice" = some (.ref a_l_dice)
  a_l_roll : Addr
  fd_l_roll : FuncData
  F_l_roll : Fun K "_law_roll" "_law_roll" s_l_roll a_l_roll fd_l_roll
  b_l_roll : Binds K fd_l_roll ["_law_dice_here", "_law_upto"] []
  g_l_roll : mg "_law_roll" = some (.ref a_l_roll)
  a_l_pick : Addr
  fd_l_pick : FuncData
  F_l_pick : Fun K "_law_pick" "_law_pick" s_l_pick a_l_pick fd_l_pick
  b_l_pick : Binds K fd_l_pick ["_law_dice_here", "_law_items"] []
  g_l_pick : mg "_law_pick" = some (.ref a_l_pick)
  a_l_word : Addr
  fd_l_word : FuncData
  F_l_word : Fun K "_law_word" "_law_word" s_l_word a_l_word fd_l_word
  b_l_word : Binds K fd_l_word ["_law_dice_here"] []
  g_l_word : mg "_law_word" = some (.ref a_l_word)
  a_l_integer : Addr
  fd_l_integer : FuncData
  F_l_integer : Fun K "_law_integer" "_law_integer" s_l_integer a_l_integer fd_l_integer
  b_l_integer : Binds K fd_l_integer ["_law_dice_here"] []
  g_l_integer : mg "_law_integer" = some (.ref a_l_integer)
  a_l_own_term : Addr
  fd_l_own_term : FuncData
  F_l_own_term : Fun K "_law_own_term" "_law_own_term" s_l_own_term a_l_own_term fd_l_own_term
  b_l_own_term : Binds K fd_l_own_term ["_law_dice_here"] []
  g_l_own_term : mg "_law_own_term" = some (.ref a_l_own_term)
  a_l_one_by_one : Addr
  fd_l_one_by_one : FuncData
  F_l_one_by_one : Fun K "_law_one_by_one" "_law_one_by_one" s_l_one_by_one a_l_one_by_one fd_l_one_by_one
  b_l_one_by_one : Binds K fd_l_one_by_one ["_law_source", "_law_terms", "_law_marked"] []
  g_l_one_by_one : mg "_law_one_by_one" = some (.ref a_l_one_by_one)
  a_l_is_told : Addr
  fd_l_is_told : FuncData
  F_l_is_told : Fun K "_law_is_told" "_law_is_told" s_l_is_told a_l_is_told fd_l_is_told
  b_l_is_told : Binds K fd_l_is_told ["_law_place", "_law_source", "_law_terms", "_law_marked"] []
  g_l_is_told : mg "_law_is_told" = some (.ref a_l_is_told)
  a_l_signs_right : Addr
  fd_l_signs_right : FuncData
  F_l_signs_right : Fun K "_law_signs_right" "_law_signs_right" s_l_signs_right a_l_signs_right fd_l_signs_right
  b_l_signs_right : Binds K fd_l_signs_right ["_law_place", "_law_source", "_law_terms", "_law_marked"] []
  g_l_signs_right : mg "_law_signs_right" = some (.ref a_l_signs_right)
  a_l_bent : Addr
  fd_l_bent : FuncData
  F_l_bent : Fun K "_law_bent" "_law_bent" s_l_bent a_l_bent fd_l_bent
  b_l_bent : Binds K fd_l_bent ["_law_dice_here", "_law_source", "_law_terms"] []
  g_l_bent : mg "_law_bent" = some (.ref a_l_bent)
  a_l_equal_right : Addr
  fd_l_equal_right : FuncData
  F_l_equal_right : Fun K "_law_equal_right" "_law_equal_right" s_l_equal_right a_l_equal_right fd_l_equal_right
  b_l_equal_right : Binds K fd_l_equal_right ["_law_dice_here", "_law_place", "_law_source", "_law_terms", "_law_marked"] []
  g_l_equal_right : mg "_law_equal_right" = some (.ref a_l_equal_right)
  a_l_met : Addr
  fd_l_met : FuncData
  F_l_met : Fun K "_law_met" "_law_met" s_l_met a_l_met fd_l_met
  b_l_met : Binds K fd_l_met ["_law_call"] []
  g_l_met : mg "_law_met" = some (.ref a_l_met)
  a_l_refused : Addr
  fd_l_refused : FuncData
  F_l_refused : Fun K "_law_refused" "_law_refused" s_l_refused a_l_refused fd_l_refused
  b_l_refused : Binds K fd_l_refused ["_law_dice_here", "_law_source", "_law_terms"] []
  cb_l_refused : Addr
  tp_l_refused : Addr
  FC_l_refused : Kit.FunC K "_law_refused" "_law_refused" s_l_refused a_l_refused fd_l_refused cb_l_refused
  tn_l_refused : K.lookup tp_l_refused = none
  g_l_refused : mg "_law_refused" = some (.ref a_l_refused)
  a_l_right : Addr
  fd_l_right : FuncData
  F_l_right : Fun K "_law_right" "_law_right" s_l_right a_l_right fd_l_right
  b_l_right : Binds K fd_l_right ["_law_dice_here"] []
  g_l_right : mg "_law_right" = some (.ref a_l_right)
  a_law : Addr
  fd_law : FuncData
  F_law : Fun K "law" "law" s_law a_law fd_law
  b_law : Binds K fd_law ["_law_script"] []
  g_law : mg "law" = some (.ref a_law)
  is_Sound : Kit.IsC K c_Sound
  fo_Sound : ∀ n ∈ Kit.BT, PySem.W.kitOne K (.type n) (.ref c_Sound) = some false ∧ PySem.W.notFirst K c_Sound (.type n) = true
  eq_Place : Kit.EqC K c_Place a_Place_eq
  is_Place : Kit.IsC K c_Place
  fo_Place : ∀ n ∈ Kit.BT, PySem.W.kitOne K (.type n) (.ref c_Place) = some false ∧ PySem.W.notFirst K c_Place (.type n) = true
  t_LONGEST_NAME : Tok
  m_LONGEST_NAME : mg "_LONGEST_NAME" = some (.int 8 t_LONGEST_NAME)
  t_TOO_GREAT : Tok
  m_TOO_GREAT : mg "_TOO_GREAT" = some (.int 100000000000000000000 t_TOO_GREAT)
  t_TOO_SMALL : Tok
  m_TOO_SMALL : mg "_TOO_SMALL" = some (.int (-100000000000000000000) t_TOO_SMALL)
  t_MOST_TERMS : Tok
  m_MOST_TERMS : mg "_MOST_TERMS" = some (.int 4 t_MOST_TERMS)
  n_isinstance : mg "isinstance" = none
  n_classmethod : mg "classmethod" = none
  n_tuple : mg "tuple" = none
  n_property : mg "property" = none
  n_sorted : mg "sorted" = none
  n_set : mg "set" = none
  n_str : mg "str" = none
  n_len : mg "len" = none
  n_int : mg "int" = none
  n_bool : mg "bool" = none
  n_all : mg "all" = none
  n_max : mg "max" = none
  n_abs : mg "abs" = none
  n_range : mg "range" = none
  n_repr : mg "repr" = none
  n_list : mg "list" = none
  n_min : mg "min" = none
-- SPLIT
/-! ### what is worth what -/
def LET : Str := "abcdefghijklmnopqrstuvwxyz"
def nameB : V → Bool
  | .str z => decide (1 ≤ (z.length : Int)) && decide ((z.length : Int) ≤ 8) && z.cps.toList.all fun c => decide (c ∈ LET.cps.toList)
  | _ => false
def wholeB : V → Bool
  | .int _ => true
  | _ => false
def intB : V → Bool
  | .int i => decide (-100000000000000000000 < i) && decide (i < 100000000000000000000)
  | _ => false
def rowL (xs : List V) : Bool := decide (1 ≤ (xs.length : Int)) && decide ((xs.length : Int) ≤ 4) && xs.all intB
/-- an item of a tuple -/
inductive Item (H : Hp) : V → Prop where
  | non : Item H .non
  | bl (b : Bool) : Item H (.bl b)
  | int (i : Int) (h : i.natAbs < 10 ^ 45) : Item H (.int i)
  | str (z : Str) : Item H (.str z)
  | lst {a : Addr} {xs : List V} (e : H a = some (.lst xs)) : Item H (.ref a)
  | tup {a : Addr} {xs : List V} (e : H a = some (.tup xs)) : Item H (.ref a)
  | dK {a : Addr} {kvs : List (Key × V)} (e : H a = some (.dK kvs)) : Item H (.ref a)
/-- a value that is asked of -/
inductive Good (H : Hp) : V → Prop where
  | non : Good H .non
  | bl (b : Bool) : Good H (.bl b)
  | int (i : Int) (h : i.natAbs < 10 ^ 45) : Good H (.int i)
  | str (z : Str) (h : z.length ≤ 1000) : Good H (.str z)
  | lst {a : Addr} {xs : List V} (e : H a = some (.lst xs)) : Good H (.ref a)
  | tup {a : Addr} {xs : List V} (e : H a = some (.tup xs)) (h : ∀ x ∈ xs, Item H x) : Good H (.ref a)
  | dK {a : Addr} {kvs : List (Key × V)} (e : H a = some (.dK kvs)) : Good H (.ref a)
theorem nameB_str (z : Str) : nameB (.str z) = (decide (1 ≤ (z.length : Int)) && decide ((z.length : Int) ≤ 8) && z.cps.toList.all fun c => decide (c ∈ LET.cps.toList)) := rfl
theorem intB_int (i : Int) : intB (.int i) = (decide (-100000000000000000000 < i) && decide (i < 100000000000000000000)) := rfl
theorem Good.item {H : Hp} {v : V} (g : Good H v) : Item H v := by
  cases g with
  | non => exact .non
  | bl b => exact .bl b
  | int i h => exact .int i h
  | str z h => exact .str z
  | lst e => exact .lst e
  | tup e h => exact .tup e
  | dK e => exact .dK e
theorem Item.same {H H1 : Hp} {v : V} (s : Same H H1) (g : Item H v) : Item H1 v := by
  cases g with
  | non => exact .non
  | bl b => exact .bl b
  | int i h => exact .int i h
  | str z => exact .str z
  | lst e => exact .lst (s _ _ e)
  | tup e => exact .tup (s _ _ e)
  | dK e => exact .dK (s _ _ e)
theorem Good.same {H H1 : Hp} {v : V} (s : Same H H1) (g : Good H v) : Good H1 v := by
  cases g with
  | non => exact .non
  | bl b => exact .bl b
  | int i h => exact .int i h
  | str z h => exact .str z h
  | lst e => exact .lst (s _ _ e)
  | tup e h => exact .tup (s _ _ e) fun x hx => (h x hx).same s
  | dK e => exact .dK (s _ _ e)
theorem Item.keep {d : Addr} {H H1 : Hp} {v : V} (k : Keep d H H1) (hd : Dice H d) (g : Item H v) : Item H1 v := by
  obtain ⟨a, b, c, e0, _⟩ := hd
  obtain ⟨a1, b1, c1, e1, _⟩ := k.2
  cases g with
  | non => exact .non
  | bl b => exact .bl b
  | int i h => exact .int i h
  | str z => exact .str z
  | @lst x xs e =>
    by_cases hx : x = d
    · subst hx
      exact .lst e1
    · exact .lst (k.1 _ _ hx e)
  | tup e => exact .tup (k.1 _ _ (fun z => by rw [z, e0] at e; cases e) e)
  | dK e => exact .dK (k.1 _ _ (fun z => by rw [z, e0] at e; cases e) e)
theorem Good.keep {d : Addr} {H H1 : Hp} {v : V} (k : Keep d H H1) (hd : Dice H d) (g : Good H v) : Good H1 v := by
  obtain ⟨a, b, c, e0, _⟩ := id hd
  obtain ⟨a1, b1, c1, e1, _⟩ := k.2
  cases g with
  | non => exact .non
  | bl b => exact .bl b
  | int i h => exact .int i h
  | str z h => exact .str z h
  | @lst x xs e =>
    by_cases hx : x = d
    · subst hx
      exact .lst e1
    · exact .lst (k.1 _ _ hx e)
  | tup e h => exact .tup (k.1 _ _ (fun z => by rw [z, e0] at e; cases e) e) fun x hx => (h x hx).keep k hd
  | dK e => exact .dK (k.1 _ _ (fun z => by rw [z, e0] at e; cases e) e)
/-- whether what stands there is a row -/
def rowB (H : Hp) : V → Bool
  | .ref a => match H a with
    | some (.tup xs) => rowL xs
    | _ => false
  | _ => false
def isiB : V → Bool
  | .int _ => true
  | .bl _ => true
  | _ => false
def isbB : V → Bool
  | .bl _ => true
  | _ => false
def issB : V → Bool
  | .str _ => true
  | _ => false
def tupB (H : Hp) : V → Bool
  | .ref a => match H a with
    | some (.tup _) => true
    | _ => false
  | _ => false
theorem ty_int {K : PySem.W.Frag} {H : Hp} {v : V} (g : Item H v) : ∃ t, TyX K H v t ∧ PySem.W.kitOne K t (.type "int") = some (isiB v) := by
  cases g with
  | non  => exact ⟨_, .base .non, kit_ty (r := false) (by decide +kernel)⟩
  | bl b => exact ⟨_, .base (.bl b), kit_ty (r := true) (by decide +kernel)⟩
  | int i h => exact ⟨_, .base (.int i), kit_ty (r := true) (by decide +kernel)⟩
  | str z => exact ⟨_, .base (.str z), kit_ty (r := false) (by decide +kernel)⟩
  | lst e => exact ⟨_, .base (.lst e), kit_ty (r := false) (by decide +kernel)⟩
  | tup e => exact ⟨_, .base (.tup e), kit_ty (r := false) (by decide +kernel)⟩
  | dK e => exact ⟨_, .base (.dK e), kit_ty (r := false) (by decide +kernel)⟩
theorem ty_bool {K : PySem.W.Frag} {H : Hp} {v : V} (g : Item H v) : ∃ t, TyX K H v t ∧ PySem.W.kitOne K t (.type "bool") = some (isbB v) := by
  cases g with
  | non  => exact ⟨_, .base .non, kit_ty (r := false) (by decide +kernel)⟩
  | bl b => exact ⟨_, .base (.bl b), kit_ty (r := true) (by decide +kernel)⟩
  | int i h => exact ⟨_, .base (.int i), kit_ty (r := false) (by decide +kernel)⟩
  | str z => exact ⟨_, .base (.str z), kit_ty (r := false) (by decide +kernel)⟩
  | lst e => exact ⟨_, .base (.lst e), kit_ty (r := false) (by decide +kernel)⟩
  | tup e => exact ⟨_, .base (.tup e), kit_ty (r := false) (by decide +kernel)⟩
  | dK e => exact ⟨_, .base (.dK e), kit_ty (r := false) (by decide +kernel)⟩
theorem ty_str {K : PySem.W.Frag} {H : Hp} {v : V} (g : Item H v) : ∃ t, TyX K H v t ∧ PySem.W.kitOne K t (.type "str") = some (issB v) := by
  cases g with
  | non  => exact ⟨_, .base .non, kit_ty (r := false) (by decide +kernel)⟩
  | bl b => exact ⟨_, .base (.bl b), kit_ty (r := false) (by decide +kernel)⟩
  | int i h => exact ⟨_, .base (.int i), kit_ty (r := false) (by decide +kernel)⟩
  | str z => exact ⟨_, .base (.str z), kit_ty (r := true) (by decide +kernel)⟩
  | lst e => exact ⟨_, .base (.lst e), kit_ty (r := false) (by decide +kernel)⟩
  | tup e => exact ⟨_, .base (.tup e), kit_ty (r := false) (by decide +kernel)⟩
  | dK e => exact ⟨_, .base (.dK e), kit_ty (r := false) (by decide +kernel)⟩
theorem ty_tuple {K : PySem.W.Frag} {H : Hp} {v : V} (g : Item H v) : ∃ t, TyX K H v t ∧ PySem.W.kitOne K t (.type "tuple") = some (tupB H v) := by
  cases g with
  | non  => exact ⟨_, .base .non, kit_ty (r := false) (by decide +kernel)⟩
  | bl b => exact ⟨_, .base (.bl b), kit_ty (r := false) (by decide +kernel)⟩
  | int i h => exact ⟨_, .base (.int i), kit_ty (r := false) (by decide +kernel)⟩
  | str z => exact ⟨_, .base (.str z), kit_ty (r := false) (by decide +kernel)⟩
  | lst e => exact ⟨_, .base (.lst e), by simp only [tupB, e]; exact kit_ty (r := false) (by decide +kernel)⟩
  | tup e => exact ⟨_, .base (.tup e), by simp only [tupB, e]; exact kit_ty (r := true) (by decide +kernel)⟩
  | dK e => exact ⟨_, .base (.dK e), by simp only [tupB, e]; exact kit_ty (r := false) (by decide +kernel)⟩
theorem names_ok : (LET.cps.toList.all fun c => decide (c < 0x110000)) = true := by decide +kernel
theorem name_str {z : Str} (h : nameB (.str z) = true) : PyData.strOk z = true := by
  rw [nameB_str, Bool.and_eq_true, Bool.and_eq_true] at h
  unfold PyData.strOk
  rw [← Array.all_toList, List.all_eq_true]
  intro c hc
  have a := of_decide_eq_true (List.all_eq_true.mp h.2 c hc)
  exact List.all_eq_true.mp names_ok c a
theorem name_len {z : Str} (h : nameB (.str z) = true) : z.length ≤ 1000 := by
  rw [nameB_str, Bool.and_eq_true, Bool.and_eq_true] at h
  have a := of_decide_eq_true h.1.2
  omega
theorem sqt_ty {K : PySem.W.Frag} {H : Hp} {a : Addr} {xs : List V} (h : SqT K H a xs) : TyX K H (.ref a) (.type "tuple") := by
  rcases h with (h | ⟨o, h⟩) | ⟨o, its, n, h1, h2, _⟩
  · exact .base (.tup h)
  · exact .fTuple h
  · exact .kTuple h1 h2
theorem kit_tt {K : PySem.W.Frag} : PySem.W.kitOne K (.type "tuple") (.type "tuple") = some true := kit_ty (by decide +kernel)
section
variable {P : Program} {w : World} {K : PySem.W.Frag} {mg : Str → Option Value} {base : Heap}
/-! ### the program's defs -/
/-- letters alone, told by the three methods of strings -/
theorem let_low : ∀ c, c < 128 → (PySem.Unicode.isAlpha c && !(PySem.Unicode.isUpper c || PySem.Unicode.isTitle c)) = decide (c ∈ LET.cps.toList) := by decide +kernel
theorem let_small : ∀ c ∈ LET.cps.toList, c < 128 := by decide +kernel
theorem low_low : ∀ c ∈ LET.cps.toList, PySem.Unicode.isLower c = true := by decide +kernel
theorem nameB_met {z : Str} (h1 : 1 ≤ z.length) (h8 : z.length ≤ 8) : nameB (.str z) = (Txt.isascii z && Txt.isalpha z && Txt.islower z) := by
  rw [nameB_str, decide_eq_true (show 1 ≤ (z.length : Int) by omega), decide_eq_true (show (z.length : Int) ≤ 8 by omega), Bool.true_and, Bool.true_and]
  show _ = (z.cps.all (fun c => decide (c < 128)) && (decide (z.length > 0) && z.cps.all PySem.Unicode.isAlpha) && (z.cps.any PySem.Unicode.isLower && !z.cps.any fun c => PySem.Unicode.isUpper c || PySem.Unicode.isTitle c))
  rw [decide_eq_true (show z.length > 0 by omega), Bool.true_and, ← Array.all_toList, ← Array.all_toList, ← Array.any_toList, ← Array.any_toList, Bool.eq_iff_iff]
  simp only [Bool.and_eq_true, List.all_eq_true, Bool.not_eq_true', List.any_eq_false, List.any_eq_true, decide_eq_true_eq]
  constructor
  · intro h
    have h0 : ∀ c ∈ z.cps.toList, (PySem.Unicode.isAlpha c && !(PySem.Unicode.isUpper c || PySem.Unicode.isTitle c)) = true := fun c hc => by
      rw [let_low c (let_small c (h c hc))]
      exact decide_eq_true (h c hc)
    refine ⟨⟨fun c hc => let_small c (h c hc), fun c hc => (Bool.and_eq_true _ _ ▸ h0 c hc).1⟩, ?_, fun c hc => ?_⟩
    · have hz : 0 < z.cps.toList.length := by
        rw [Array.length_toList]
        exact h1
      exact ⟨z.cps.toList[0], List.getElem_mem hz, low_low _ (h _ (List.getElem_mem hz))⟩
    · have k := h0 c hc
      rw [Bool.and_eq_true] at k
      have k2 := nb k.2
      rw [k2]
      exact Bool.false_ne_true
  · rintro ⟨⟨h1, h2⟩, _, h3⟩ c hc
    have k := let_low c (h1 c hc)
    have k3 : (PySem.Unicode.isUpper c || PySem.Unicode.isTitle c) = false := nt (h3 c hc)
    rw [h2 c hc, k3] at k
    exact of_decide_eq_true k.symm
def sp_is_name (K : PySem.W.Frag) : Sp := fun vs H Q _ => ∃ v, vs = [v] ∧ Good H v ∧ ∀ H', Same H H' → Q (.bl (nameB v)) H'
theorem ok_is_name (T : Txt K mg) : FnOk P w K mg base CX0 1 T.a_is_name T.fd_is_name ["value"] (sp_is_name K) := by
  refine T.F_is_name.ok sc_is_name (fun vs H Q E h => ?_) (fun cdv A outer s H vs Q E hr h => ?_)
  · obtain ⟨v, rfl, _⟩ := h
    rfl
  · obtain ⟨v, rfl, hv, q⟩ := h
    refine ⟨_, (pss_cons (ps_if (PW.pt (pw_or (pt_not (pt_val (pe_callB call_isi (by rfl) T.n_isinstance (by decide +kernel) (pa_cons (pv 0) (pa_cons (pe_bltn (v := .ty "str") (by rfl) T.n_str (by decide +kernel) rfl) pa_nil))))) (pw_or1 (pt_not (pt_chain op_le op_le pe_int (pe_callB call_len_str (by rfl) T.n_len (by decide +kernel) (pa_cons (pv 0) pa_nil)) (pe_glob (v := .int 8) rfl T.m_LONGEST_NAME ⟨_, rfl⟩)))))) (pss_one (ps_ret pe_bl)) pss_nil)
      (pss_one (ps_ret (pe_and (pe_bm0 PySem.F.plainAttrs_str PySem.F.slot_str_isascii PySem.F.type_str_isascii mt_isascii (pv 0)) (pe_and (pe_bm0 PySem.F.plainAttrs_str PySem.F.slot_str_isalpha PySem.F.type_str_isalpha mt_isalpha (pv 0)) (pe_one (pe_bm0 PySem.F.plainAttrs_str PySem.F.slot_str_islower PySem.F.type_str_islower mt_islower (pv 0)))))))), ?_⟩
    obtain ⟨t, ht, hk⟩ := ty_str (K := K) hv.item
    refine ⟨v, rfl, v, .ty "str", t, _, _, rfl, .ty "str", ht, hk, _, rfl, ?_⟩
    cases hv with
    | str z hz =>
      refine iteF ⟨.str z, rfl, z, rfl, sz_of (by omega), 1, (z.length : Int), rfl, rfl, _, rfl, ite2 (fun e1 => ?_) (fun e1 => ?_)⟩
      · refine ⟨_, _, rfl, rfl, _, rfl, ite2 (fun e2 => ?_) (fun e2 => ?_)⟩
        · have n : nameB (.str z) = false := by
            have e3 : decide ((z.length : Int) ≤ 8) = false := nb e2
            rw [nameB_str, e3, Bool.and_false, Bool.false_and]
          have r := q H (.refl H)
          rw [n] at r
          exact r
        · have h1 : 1 ≤ (z.length : Int) := of_decide_eq_true e1
          have h8 : (z.length : Int) ≤ 8 := of_decide_eq_true (nnb e2)
          have r := q H (.refl H)
          rw [nameB_met (by omega) (by omega)] at r
          refine ⟨.str z, rfl, rfl, z, rfl, rfl, trivial, _, rfl, ite2 (fun e3 => ?_) (fun e3 => ?_)⟩
          · rw [e3, Bool.true_and] at r
            refine ⟨.str z, rfl, rfl, z, rfl, rfl, trivial, _, rfl, ite2 (fun e4 => ?_) (fun e4 => ?_)⟩
            · rw [e4, Bool.true_and] at r
              exact ⟨.str z, rfl, rfl, z, rfl, rfl, trivial, r⟩
            · have e5 : Txt.isalpha z = false := nt e4
              rw [e5, Bool.false_and] at r
              exact r
          · have e5 : Txt.isascii z = false := nt e3
            rw [e5, Bool.false_and, Bool.false_and] at r
            exact r
      · refine ⟨_, rfl, iteT ?_⟩
        have n : nameB (.str z) = false := by
          have e3 : decide (1 ≤ (z.length : Int)) = false := nt e1
          rw [nameB_str, e3]
          rfl
        have r := q H (.refl H)
        rw [n] at r
        exact r
    | _ => exact iteT (q H (.refl H))
def sp_is_whole (K : PySem.W.Frag) : Sp := fun vs H Q _ => ∃ v, vs = [v] ∧ Item H v ∧ Q (.bl (wholeB v)) H
theorem ok_is_whole (T : Txt K mg) : FnOk P w K mg base CX0 1 T.a_is_whole T.fd_is_whole ["value"] (sp_is_whole K) := by
  refine T.F_is_whole.ok sc_is_whole (fun vs H Q E h => ?_) (fun cdv A outer s H vs Q E hr h => ?_)
  · obtain ⟨v, rfl, _⟩ := h
    rfl
  · obtain ⟨v, rfl, hv, q⟩ := h
    refine ⟨_, (pss_one (ps_ret (pe_and (pe_callB call_isi (by rfl) T.n_isinstance (by decide +kernel) (pa_cons (pv 0) (pa_cons (pe_bltn (v := .ty "int") (by rfl) T.n_int (by decide +kernel) rfl) pa_nil))) (pe_one (pe_not (pe_callB call_isi (by rfl) T.n_isinstance (by decide +kernel) (pa_cons (pv 0) (pa_cons (pe_bltn (v := .ty "bool") (by rfl) T.n_bool (by decide +kernel) rfl) pa_nil)))))))), ?_⟩
    obtain ⟨t, ht, hk⟩ := ty_int (K := K) hv
    obtain ⟨t2, ht2, hk2⟩ := ty_bool (K := K) hv
    refine ⟨v, rfl, v, .ty "int", t, _, _, rfl, .ty "int", ht, hk, _, rfl, ?_⟩
    cases hv with
    | int i hi => exact iteT ⟨.int i, rfl, .int i, .ty "bool", t2, _, _, rfl, .ty "bool", ht2, hk2, _, rfl, q⟩
    | bl b => exact iteT ⟨.bl b, rfl, .bl b, .ty "bool", t2, _, _, rfl, .ty "bool", ht2, hk2, _, rfl, q⟩
    | _ => exact iteF q
def sp_is_wholeI (K : PySem.W.Frag) : Sp := fun vs H Q _ => ∃ i : Int, vs = [.int i] ∧ Q (.bl true) H
theorem ok_is_wholeI (T : Txt K mg) : FnOk P w K mg base CX0 1 T.a_is_whole T.fd_is_whole ["value"] (sp_is_wholeI K) := by
  refine T.F_is_whole.ok sc_is_whole (fun vs H Q E h => ?_) (fun cdv A outer s H vs Q E hr h => ?_)
  · obtain ⟨i, rfl, _⟩ := h
    rfl
  · obtain ⟨i, rfl, q⟩ := h
    refine ⟨_, (pss_one (ps_ret (pe_and (pe_callB call_isi (by rfl) T.n_isinstance (by decide +kernel) (pa_cons (pv 0) (pa_cons (pe_bltn (v := .ty "int") (by rfl) T.n_int (by decide +kernel) rfl) pa_nil))) (pe_one (pe_not (pe_callB call_isi (by rfl) T.n_isinstance (by decide +kernel) (pa_cons (pv 0) (pa_cons (pe_bltn (v := .ty "bool") (by rfl) T.n_bool (by decide +kernel) rfl) pa_nil)))))))), ?_⟩
    have t1 : TyX K H (.int i) (.type "int") := .base (.int i)
    exact ⟨.int i, rfl, .int i, .ty "int", _, _, true, rfl, .ty "int", t1, kit_ty (by decide +kernel), _, rfl, iteT ⟨.int i, rfl, .int i, .ty "bool", _, _, false, rfl, .ty "bool", t1, kit_ty (by decide +kernel), _, rfl, q⟩⟩
theorem rowB_of {H : Hp} {a : Addr} {xs : List V} (e : H a = some (.tup xs)) : rowB H (.ref a) = rowL xs := by
  unfold rowB
  simp only [e]
end
section
variable {P : Program} {w : World} {K : PySem.W.Frag} {mg : Str → Option Value} {base : Heap}
def sp_is_integer (K : PySem.W.Frag) : Sp := fun vs H Q _ => ∃ v, vs = [v] ∧ Item H v ∧ Q (.bl (intB v)) H
theorem ok_is_integer (T : Txt K mg) : FnOk P w K mg base CX0 2 T.a_is_integer T.fd_is_integer ["value"] (sp_is_integer K) := by
  have G_is_whole : FnOk P w K mg base CX0 1 T.a_is_whole T.fd_is_whole ["value"] (sp_is_whole K) := ok_is_whole T
  refine T.F_is_integer.ok sc_is_integer (fun vs H Q E h => ?_) (fun cdv A outer s H vs Q E hr h => ?_)
  · obtain ⟨v, rfl, _⟩ := h
    rfl
  · obtain ⟨v, rfl, hv, q⟩ := h
    refine ⟨_, (pss_one (ps_ret (pe_and (pe_call G_is_whole (hr.mono (by decide)) (by rfl) T.g_is_whole T.F_is_whole.kp T.b_is_whole .nil pass0 (pa_cons (pv 0) pa_nil)) (pe_one (pe_chain op_lt op_lt (pe_glob (v := .int (-100000000000000000000)) rfl T.m_TOO_SMALL ⟨_, rfl⟩) (pv 0) (pe_glob (v := .int 100000000000000000000) rfl T.m_TOO_GREAT ⟨_, rfl⟩)))))), ?_⟩
    refine ⟨v, rfl, v, rfl, hv, _, rfl, ?_⟩
    cases hv with
    | int i hi =>
      refine iteT ⟨.int i, rfl, _, _, rfl, rfl, _, rfl, ite2 (fun e1 => ?_) (fun e1 => ?_)⟩
      · refine ⟨_, _, rfl, rfl, ?_⟩
        have n : intB (.int i) = decide (i < 100000000000000000000) := by
          rw [intB_int, e1, Bool.true_and]
        rw [n] at q
        exact q
      · have n : intB (.int i) = false := by
          have e3 : decide (-100000000000000000000 < i) = false := nt e1
          rw [intB_int, e3, Bool.false_and]
        rw [n] at q
        exact q
    | _ => exact iteF q
end
section
variable {P : Program} {w : World} {K : PySem.W.Frag} {mg : Str → Option Value} {base : Heap}
def sp_is_term (K : PySem.W.Frag) : Sp := fun vs H Q _ => ∃ v, vs = [v] ∧ Good H v ∧ ∀ H', Same H H' → Q (.bl (intB v || nameB v)) H'
theorem ok_is_term (T : Txt K mg) : FnOk P w K mg base CX0 3 T.a_is_term T.fd_is_term ["value"] (sp_is_term K) := by
  have G_is_integer : FnOk P w K mg base CX0 2 T.a_is_integer T.fd_is_integer ["value"] (sp_is_integer K) := ok_is_integer T
  have G_is_name : FnOk P w K mg base CX0 1 T.a_is_name T.fd_is_name ["value"] (sp_is_name K) := ok_is_name T
  refine T.F_is_term.ok sc_is_term (fun vs H Q E h => ?_) (fun cdv A outer s H vs Q E hr h => ?_)
  · obtain ⟨v, rfl, _⟩ := h
    rfl
  · obtain ⟨v, rfl, hv, q⟩ := h
    refine ⟨_, (pss_one (ps_ret (pe_or (pe_call G_is_integer (hr.mono (by decide)) (by rfl) T.g_is_integer T.F_is_integer.kp T.b_is_integer .nil pass0 (pa_cons (pv 0) pa_nil)) (pe_one (pe_call G_is_name (hr.mono (by decide)) (by rfl) T.g_is_name T.F_is_name.kp T.b_is_name .nil pass0 (pa_cons (pv 0) pa_nil)))))), ?_⟩
    refine ⟨v, rfl, v, rfl, hv.item, _, rfl, ite2 (fun e1 => ?_) (fun e1 => ?_)⟩
    · have r := q H (.refl H)
      rw [e1, Bool.true_or] at r
      exact r
    · refine ⟨v, rfl, v, rfl, hv, fun H1 s => ?_⟩
      have r := q H1 s
      have e2 : intB v = false := nt e1
      rw [e2, Bool.false_or] at r
      exact r
end
-- SPLIT
/-! ### the program's places -/
/-- what a tuple's items are as terms -/
def termB (v : V) : Bool := intB v || nameB v
def termsB (xs : List V) : Bool := decide (1 ≤ (xs.length : Int)) && decide ((xs.length : Int) ≤ 4) && xs.all termB
def plcF (src : V) (t : Addr) (m : V) : List (Str × V) := [("_source", src), ("_terms", .ref t), ("_filtered", m)]
/-- all that stood stands, but for x -/
def But (x : Addr) (H H' : Hp) : Prop := ∀ b o, b ≠ x → H b = some o → H' b = some o
theorem But.upd {x : Addr} {H : Hp} {o : HO} : But x H (upd H x o) := fun b y ne e => by
  rw [upd_ne ne]
  exact e
theorem But.same {x : Addr} {H H1 H2 : Hp} (b : But x H H1) (s : Same H1 H2) : But x H H2 := fun a o ne e => s a o (b a o ne e)
theorem Item.but {x C dx : Addr} {fs : List (Str × V)} {H H1 : Hp} {v : V} (k : But x H H1) (hx : H x = some (.ins C dx fs)) (g : Item H v) : Item H1 v := by
  cases g with
  | non => exact .non
  | bl b => exact .bl b
  | int i h => exact .int i h
  | str z => exact .str z
  | lst e => exact .lst (k _ _ (fun z => by rw [z, hx] at e; cases e) e)
  | tup e => exact .tup (k _ _ (fun z => by rw [z, hx] at e; cases e) e)
  | dK e => exact .dK (k _ _ (fun z => by rw [z, hx] at e; cases e) e)
theorem Good.but {x C dx : Addr} {fs : List (Str × V)} {H H1 : Hp} {v : V} (k : But x H H1) (hx : H x = some (.ins C dx fs)) (g : Good H v) : Good H1 v := by
  cases g with
  | non => exact .non
  | bl b => exact .bl b
  | int i h => exact .int i h
  | str z h => exact .str z h
  | lst e => exact .lst (k _ _ (fun z => by rw [z, hx] at e; cases e) e)
  | tup e h => exact .tup (k _ _ (fun z => by rw [z, hx] at e; cases e) e) fun y hy => (h y hy).but k hx
  | dK e => exact .dK (k _ _ (fun z => by rw [z, hx] at e; cases e) e)
theorem mv_ins {K : PySem.W.Frag} {x C dx : Addr} {fs : List (Str × V)} {H H1 : Hp} (k : But x H H1) (hx : H x = some (.ins C dx fs)) : Mv K H H1 := mv_but k fun xs h => by
  rcases h with h | ⟨o, h⟩
  · rw [hx] at h
    cases h
  · rw [hx] at h
    cases h
theorem item_bt {K : PySem.W.Frag} {H : Hp} {v : V} (g : Item H v) : ∃ n, n ∈ BT ∧ TyX K H v (.type n) := by
  cases g with
  | non => exact ⟨"NoneType", by decide, .base .non⟩
  | bl b => exact ⟨"bool", by decide, .base (.bl b)⟩
  | int i h => exact ⟨"int", by decide, .base (.int i)⟩
  | str z => exact ⟨"str", by decide, .base (.str z)⟩
  | lst e => exact ⟨"list", by decide, .base (.lst e)⟩
  | tup e => exact ⟨"tuple", by decide, .base (.tup e)⟩
  | dK e => exact ⟨"dict", by decide, .base (.dK e)⟩
section
variable {P : Program} {w : World} {K : PySem.W.Frag} {mg : Str → Option Value} {base : Heap}
/-- what stands for what was checked before -/
def SndV (C : Addr) (H : Hp) (v m : V) : Prop := ∃ s ds, v = .ref s ∧ H s = some (.ins C ds [("worth", m)])
theorem SndV.but {C x D dx : Addr} {H H1 : Hp} {v m : V} (h : SndV C H v m) (k : But x H H1) (hx : H x = some (.ins D dx [])) : SndV C H1 v m := by
  obtain ⟨s, ds, rfl, e⟩ := h
  exact ⟨s, ds, rfl, k _ _ (fun z => by rw [z, hx] at e; cases e) e⟩
theorem SndV.same {C : Addr} {H H1 : Hp} {v m : V} (h : SndV C H v m) (k : Same H H1) : SndV C H1 v m := by
  obtain ⟨s, ds, rfl, e⟩ := h
  exact ⟨s, ds, rfl, k _ _ e⟩
def sp_snd (T : Txt K mg) : Sp := fun vs H Q _ => ∃ (x dx : Addr) (m : V), vs = [.ref x, m] ∧ H x = some (.ins T.c_Sound dx []) ∧ Q .non (upd H x (.ins T.c_Sound dx [("worth", m)]))
theorem ok_snd (T : Txt K mg) : FnOk P w K mg base CX0 1 T.a_Sound_init T.fd_Sound_init ["self", "worth"] (sp_snd T) := by
  refine T.F_Sound_init.ok sc_Sound_init (fun vs H Q E h => ?_) (fun cdv A outer s H vs Q E hr h => ?_)
  · obtain ⟨x, dx, m, rfl, _⟩ := h
    rfl
  · obtain ⟨x, dx, m, rfl, hx, q⟩ := h
    exact ⟨_, (pss_one (ps_fld (pv 0) (pv 1) rfl)), m, rfl, .ref x, rfl, x, T.c_Sound, dx, _, rfl, hx, T.cl_Sound, T.nA_Sound_worth, show 0 < 1000 by decide, q⟩
/-- what a place is made of, looked at -/
def sp_chk (T : Txt K mg) : Sp := fun vs H Q E => ∃ (src flt : V) (t : Addr) (xs : List V), vs = [src, .ref t, flt] ∧ SqT K H t xs ∧ Good H src ∧ Good H flt ∧ (∀ y ∈ xs, Good H y) ∧
  ((nameB src && termsB xs && isbB flt) = true → ∀ H', Same H H' → Q .non H') ∧ ((nameB src && termsB xs && isbB flt) = false → ∀ H', Same H H' → E (.ref T.c_InvalidPlace) none H')
theorem ok_chk (T : Txt K mg) : FnOk P w K mg base (L2.CX P w) 4 T.a_check_parts T.fd_check_parts ["source", "terms", "filtered"] (sp_chk T) := by
  have G_is_name : FnOk P w K mg base CX0 1 T.a_is_name T.fd_is_name ["value"] (sp_is_name K) := ok_is_name T
  have G_is_term : FnOk P w K mg base CX0 3 T.a_is_term T.fd_is_term ["value"] (sp_is_term K) := ok_is_term T
  refine T.F_check_parts.okX sc_check_parts (fun vs H Q E h => ?_) (fun cdv A outer s H vs Q E hr h => ?_)
  · obtain ⟨src, flt, t, xs, rfl, _⟩ := h
    rfl
  · obtain ⟨src, flt, t, xs, rfl, ht, g1, g2, g3, yes, no⟩ := h
    refine ⟨_, (pss_cons (ps_if (pt_not (pt_val (pe_call G_is_name (hr.mono (by decide)) (by rfl) T.g_is_name T.F_is_name.kp T.b_is_name .nil pass0 (pa_cons (pv 0) pa_nil)))) (pss_one (ps_raise rfl (takes_of rfl rfl rfl rfl) (pmk_own PySem.F.excBase_ValueError T.x_InvalidPlace T.g_InvalidPlace T.kC_InvalidPlace (raises_own T.eb_InvalidPlace T.et_InvalidPlace) (by exact rfl)))) pss_nil)
      (pss_cons (ps_if (pt_mono (PW.pt (pw_or (pt_not (pt_chain op_le op_le pe_int (pe_callB call_len_seq (by rfl) T.n_len (by decide +kernel) (pa_cons (pv 1) pa_nil)) (pe_glob (v := .int 4) rfl T.m_MOST_TERMS ⟨_, rfl⟩))) (pw_or1 (pt_not (pt_val (pe_callB (cr_all rfl) (by rfl) T.n_all (by decide +kernel) (pa_cons (pe_lc (own := [("term", 3)]) (g := gName 3) (tt := tYes) rfl sc_check_parts.nd (pi_tup (pv 1)) (blkOk_by (N := ["source", "terms", "filtered", "term"]) (sc := defScope s_check_parts) (by decide +kernel)) (fun _ _ _ _ _ => pg_name (i := 3) sc_check_parts.nd rfl (Or.inl rfl)) (fun _ _ _ _ _ => pts_nil) (fun _ _ _ _ _ => (pe_call G_is_term (hr.mono (by decide)) (by rfl) T.g_is_term T.F_is_term.kp T.b_is_term .nil pass0 (pa_cons (pv 3) pa_nil)))) pa_nil)))))))) (pss_one (ps_raise rfl (takes_of rfl rfl rfl rfl) (pmk_own PySem.F.excBase_ValueError T.x_InvalidPlace T.g_InvalidPlace T.kC_InvalidPlace (raises_own T.eb_InvalidPlace T.et_InvalidPlace) (by exact rfl)))) pss_nil)
      (pss_one (ps_if (pt_not (pt_val (pe_callB call_isi (by rfl) T.n_isinstance (by decide +kernel) (pa_cons (pv 2) (pa_cons (pe_bltn (v := .ty "bool") (by rfl) T.n_bool (by decide +kernel) rfl) pa_nil))))) (pss_one (ps_raise rfl (takes_of rfl rfl rfl rfl) (pmk_own PySem.F.excBase_ValueError T.x_InvalidPlace T.g_InvalidPlace T.kC_InvalidPlace (raises_own T.eb_InvalidPlace T.et_InvalidPlace) (by exact rfl)))) pss_nil)))), ?_⟩
    refine ⟨src, rfl, src, rfl, g1, fun H1 s1 => ⟨_, rfl, ite2 (fun e1 => ?_) (fun e1 => ?_)⟩⟩
    · exact no (by rw [nb e1, Bool.false_and, Bool.false_and]) H1 s1
    rw [nnb e1, Bool.true_and] at yes no
    have t1 := mv_same s1 _ _ ht
    refine ⟨fun c H' => c = (!termsB xs) ∧ Same H1 H', ?_, fun c H2 hc => ?_⟩
    · refine ⟨.ref t, rfl, t, xs, rfl, .inr t1, 1, (xs.length : Int), rfl, rfl, _, rfl, ite2 (fun e2 => ?_) (fun e2 => ?_)⟩
      · refine ⟨_, _, rfl, rfl, _, rfl, ite2 (fun e3 => ?_) (fun e3 => ?_)⟩
        · have e4 : decide ((xs.length : Int) ≤ 4) = false := nb e3
          refine ⟨?_, .refl _⟩
          unfold termsB
          rw [e4, Bool.and_false, Bool.false_and]
          rfl
        · have e4 : decide ((xs.length : Int) ≤ 4) = true := nnb e3
          have e5 : (xs.length : Int) ≤ 4 := of_decide_eq_true e4
          refine ⟨.ref t, rfl, t, rfl, ⟨_, t1⟩, fun D hD => lc_pure (walk_tup (xs := xs)) hD xs id (fun _ => true) (fun x => .bl (termB x)) rfl (by omega) (by decide) (fun H1 s => mv_same s _ _ t1) (fun i H1 x H' s y => ?_)
            (fun c H1 hc s Q h => h H1 (.refl H1)) (fun c H1 hc _ s Q h => ?_) (fun x => rfl) (fun H3 s e => ⟨D, xs.map termB, rfl, .of ?_, ?_⟩)⟩
          · obtain ⟨rfl, hc⟩ := y
            exact ⟨rfl, x, hc, rfl⟩
          · exact ⟨c, rfl, c, rfl, (g3 c hc).same (s1.trans s), fun H2 s2 => h H2 s2⟩
          · rw [e, filt_all, List.map_map]
            rfl
          · refine ⟨_, rfl, ?_, s⟩
            unfold termsB
            have e6 : decide (1 ≤ (xs.length : Int)) = true := e2
            rw [e6, e4, Bool.true_and, Bool.true_and, List.all_map]
            rfl
      · have e3 : decide (1 ≤ (xs.length : Int)) = false := nt e2
        refine ⟨_, rfl, iteT ⟨?_, .refl _⟩⟩
        unfold termsB
        rw [e3, Bool.false_and, Bool.false_and]
        rfl
    obtain ⟨rfl, s2⟩ := hc
    have s3 := s1.trans s2
    refine ite2 (fun e2 => ?_) (fun e2 => ?_)
    · exact no (by rw [nb e2, Bool.false_and]) H2 s3
    rw [nnb e2, Bool.true_and] at yes no
    obtain ⟨ft, f1, f2⟩ := ty_bool (K := K) (g2.same s3).item
    exact ⟨flt, rfl, flt, .ty "bool", ft, _, _, rfl, .ty "bool", f1, f2, _, rfl, ite2 (fun e3 => no (nb e3) H2 s3) (fun e3 => yes (nnb e3) H2 s3)⟩
/-- a place made, or refused -/
def sp_pl (T : Txt K mg) : Sp := fun vs H Q E => ∃ (x dx : Addr) (src flt : V) (t : Addr) (xs : List V), vs = [.ref x, src, flt, .ref t] ∧ H x = some (.ins T.c_Place dx []) ∧ SqT K H t xs ∧
  ((∃ m, SndV T.c_Sound H flt m ∧ ∀ H', But x H H' → H' x = some (.ins T.c_Place dx (plcF src t m)) → Q .non H') ∨
   (Good H src ∧ Good H flt ∧ (∀ y ∈ xs, Good H y) ∧
    ((nameB src && termsB xs && isbB flt) = true → ∀ H', But x H H' → H' x = some (.ins T.c_Place dx (plcF src t flt)) → Q .non H') ∧
    ((nameB src && termsB xs && isbB flt) = false → ∀ H', But x H H' → E (.ref T.c_InvalidPlace) none H')))
theorem ok_pl (T : Txt K mg) : FnA P w K mg base (L2.CX P w) 6 T.a_Place_init (fun vs kws H Q E => ∃ ws rest z, vs = ws ++ rest ∧ ws.length = ["self", "source"].length ∧ rest.length ≤ sizeLine ∧ KwOne "filtered" (.bl false) kws z ∧ ∀ p, H p = Option.none → sp_pl T (ws ++ [z, V.ref p]) (upd H p (.tup rest)) Q E) := by
  have G_check_parts : FnOk P w K mg base (L2.CX P w) 4 T.a_check_parts T.fd_check_parts ["source", "terms", "filtered"] (sp_chk T) := ok_chk T
  refine fn_starK1 (ps := ["self", "source"]) T.F_Place_init sc_Place_init cxUp ?_ ?_ (fun cdv A outer s H vs Q E hr h => ?_)
  · intro D doc pm an cdv ct us rest u hl
    match us, hl with
    | [a, b], _ =>
      cases rest with
      | nil => exact ⟨_, _, _, _, _, _, rfl, rfl, rfl⟩
      | cons r rs => exact ⟨_, _, _, _, _, _, rfl, rfl, rfl⟩
  · intro D doc pm an cdv ct us rest u hl
    match us, hl with
    | [a, b], _ =>
      cases rest with
      | nil => rfl
      | cons r rs => rfl
  · obtain ⟨x, dx, src, flt, t, xs, rfl, hx, ht, h⟩ := h
    refine ⟨_, (pss_cons (ps_fld (pv 0) (pv 1) rfl)
      (pss_cons (ps_fld (pv 0) (pv 3) rfl)
      (pss_one (ps_if (pt_val (pe_callB call_isi (by rfl) T.n_isinstance (by decide +kernel) (pa_cons (pv 2) (pa_cons (pe_glob (v := .ref T.c_Sound) rfl T.g_Sound rfl) pa_nil)))) (pss_one (ps_fld (pv 0) (pe_fld (pv 2) rfl) rfl)) (pss_cons (ps_fld (pv 0) (pv 2) rfl)
      (pss_one (ps_expr (pe_call G_check_parts (hr.mono (by decide)) (by rfl) T.g_check_parts T.F_check_parts.kp T.b_check_parts .nil (passes_call (takes_of rfl rfl rfl rfl) (fun _ _ _ _ h => h)) (pa_cons (pv 1) (pa_cons (pv 3) (pa_cons (pv 2) pa_nil))))))))))), ?_⟩
    refine ⟨src, rfl, .ref x, rfl, x, T.c_Place, dx, _, rfl, hx, T.cl_Place, T.nA_Place_source, show 0 < 1000 by decide, ?_⟩
    refine ⟨.ref t, rfl, .ref x, rfl, x, T.c_Place, dx, _, rfl, upd_same, T.cl_Place, T.nA_Place_terms, show 1 < 1000 by decide, ?_⟩
    rw [upd_upd]
    rcases h with ⟨m, sm, q⟩ | ⟨g1, g2, g3, yes, no⟩
    · obtain ⟨s, ds, rfl, es⟩ := sm
      have ne : s ≠ x := fun z => by
        rw [z, hx] at es
        injection es with es
        injection es with _ _ e3
        cases e3
      have e1 : (upd H x (.ins T.c_Place dx [("_source", src), ("_terms", .ref t)])) s = some (.ins T.c_Sound ds [("worth", m)]) := by
        rw [upd_ne ne]
        exact es
      refine ⟨.ref s, rfl, .ref s, .ref T.c_Sound, _, _, true, rfl, .own _, T.is_Sound.ty e1, ko_self, _, rfl, iteT ?_⟩
      refine ⟨.ref s, rfl, s, T.c_Sound, ds, _, _, rfl, e1, T.cl_Sound, T.nA_Sound_worth, rfl, .ref x, rfl, x, T.c_Place, dx, _, rfl, upd_same, T.cl_Place, T.nA_Place_filtered, show 2 < 1000 by decide, ?_⟩
      rw [upd_upd]
      exact q _ .upd upd_same
    · obtain ⟨n, hn, ty⟩ := item_bt (K := K) (Item.but (H1 := upd H x (.ins T.c_Place dx [("_source", src), ("_terms", .ref t)])) .upd hx g2.item)
      refine ⟨flt, rfl, flt, .ref T.c_Sound, _, _, false, rfl, .own _, ty, (T.fo_Sound n hn).1, _, rfl, iteF ?_⟩
      refine ⟨flt, rfl, .ref x, rfl, x, T.c_Place, dx, _, rfl, upd_same, T.cl_Place, T.nA_Place_filtered, show 2 < 1000 by decide, ?_⟩
      rw [upd_upd]
      have bu : But x H (upd H x (.ins T.c_Place dx (plcF src t flt))) := .upd
      exact ⟨src, rfl, .ref t, rfl, flt, rfl, src, flt, t, xs, rfl, mv_ins bu hx _ _ ht, g1.but bu hx, g2.but bu hx, fun y hy => (g3 y hy).but bu hx, fun ok H' s => yes ok H' (bu.same s) (s _ _ upd_same), fun n H' s => no n H' (bu.same s)⟩
/-- a place as it stands -/
def PlV (K : PySem.W.Frag) (C : Addr) (H : Hp) (x : Addr) (src : V) (xs : List V) (flt : V) : Prop := ∃ dx t, H x = some (.ins C dx (plcF src t flt)) ∧ SqT K H t xs
theorem PlV.same {C : Addr} {H H' : Hp} {x : Addr} {src flt : V} {xs : List V} (h : PlV K C H x src xs flt) (s : Same H H') : PlV K C H' x src xs flt := by
  obtain ⟨dx, t, e, ht⟩ := h
  exact ⟨dx, t, s _ _ e, mv_same s _ _ ht⟩
/-- what is told behind the making of a place -/
def MadeP (T : Txt K mg) (H : Hp) (src : V) (xs : List V) (flt : V) (Q : VK) (E : XK) : Prop :=
  ((nameB src && termsB xs && isbB flt) = true → ∀ x H', H x = Option.none → Same H H' → PlV K T.c_Place H' x src xs flt → Q (.ref x) H') ∧ ((nameB src && termsB xs && isbB flt) = false → ∀ H', Same H H' → E (.ref T.c_InvalidPlace) none H')
abbrev sp_plA (T : Txt K mg) : SpA := fun vs kws H Q E => ∃ ws rest z, vs = ws ++ rest ∧ ws.length = ["self", "source"].length ∧ rest.length ≤ sizeLine ∧ KwOne "filtered" (.bl false) kws z ∧ ∀ p, H p = Option.none → sp_pl T (ws ++ [z, V.ref p]) (upd H p (.tup rest)) Q E
theorem make_pl (T : Txt K mg) {H : Hp} {src flt : V} {xs : List V} {kws : List (Str × V)} {Q : VK} {E : XK} (g1 : Good H src) (g2 : Good H flt) (g3 : ∀ y ∈ xs, Good H y) (hl : xs.length ≤ sizeLine) (ko : KwOne "filtered" (.bl false) kws flt) (m : MadeP T H src xs flt Q E) :
    ∀ x dx, H x = Option.none → H dx = Option.none → dx ≠ x → sp_plA T (.ref x :: src :: xs) kws (upd (upd H dx (.own x)) x (.ins T.c_Place dx [])) (fun v H2 => v = .non ∧ Q (.ref x) H2) E := by
  intro x dx hx hdx ne
  have s0 : Same H (upd (upd H dx (.own x)) x (.ins T.c_Place dx [])) := snew (snew (.refl _) hdx) (by rw [upd_ne (Ne.symm ne)]; exact hx)
  have e0 : (upd (upd H dx (.own x)) x (.ins T.c_Place dx [])) x = some (.ins T.c_Place dx []) := upd_same
  generalize upd (upd H dx (.own x)) x (.ins T.c_Place dx []) = H1 at s0 e0 ⊢
  refine ⟨[.ref x, src], xs, flt, rfl, rfl, hl, ko, fun p hp => ?_⟩
  have s1 := snew (o := .tup xs) s0 hp
  have e1 : (upd H1 p (.tup xs)) x = some (.ins T.c_Place dx []) := by
    rw [upd_ne (ne_of_none e0 hp)]
    exact e0
  have e2 : (upd H1 p (.tup xs)) p = some (.tup xs) := upd_same
  have np : p ≠ x := fun z => by
    rw [z, e0] at hp
    cases hp
  generalize upd H1 p (.tup xs) = H2 at s1 e1 e2 ⊢
  have nx : ∀ {b : Addr} {o : HO}, H b = some o → b ≠ x := fun e z => by
    rw [z, hx] at e
    cases e
  exact ⟨x, dx, src, flt, p, xs, rfl, e1, .of e2, .inr ⟨g1.same s1, g2.same s1, fun y hy => (g3 y hy).same s1, fun ok H' k e3 => ⟨rfl, m.1 ok x H' hx (fun b o e => k b o (nx e) (s1 b o e)) ⟨dx, p, e3, .of (k p _ np e2)⟩⟩, fun no H' k => m.2 no H' fun b o e => k b o (nx e) (s1 b o e)⟩⟩
/-- .. of what was checked -/
theorem make_pls (T : Txt K mg) {H : Hp} {src flt m : V} {xs : List V} {kws : List (Str × V)} {Q : VK} {E : XK} (g : SndV T.c_Sound H flt m) (hl : xs.length ≤ sizeLine) (ko : KwOne "filtered" (.bl false) kws flt)
    (q : ∀ x H', H x = Option.none → Same H H' → PlV K T.c_Place H' x src xs m → Q (.ref x) H') :
    ∀ x dx, H x = Option.none → H dx = Option.none → dx ≠ x → sp_plA T (.ref x :: src :: (xs ++ [])) kws (upd (upd H dx (.own x)) x (.ins T.c_Place dx [])) (fun v H2 => v = .non ∧ Q (.ref x) H2) E := by
  intro x dx hx hdx ne
  rw [List.append_nil]
  have s0 : Same H (upd (upd H dx (.own x)) x (.ins T.c_Place dx [])) := snew (snew (.refl _) hdx) (by rw [upd_ne (Ne.symm ne)]; exact hx)
  have e0 : (upd (upd H dx (.own x)) x (.ins T.c_Place dx [])) x = some (.ins T.c_Place dx []) := upd_same
  generalize upd (upd H dx (.own x)) x (.ins T.c_Place dx []) = H1 at s0 e0 ⊢
  refine ⟨[.ref x, src], xs, flt, rfl, rfl, hl, ko, fun p hp => ?_⟩
  have s1 := snew (o := .tup xs) s0 hp
  have e1 : (upd H1 p (.tup xs)) x = some (.ins T.c_Place dx []) := by
    rw [upd_ne (ne_of_none e0 hp)]
    exact e0
  have e2 : (upd H1 p (.tup xs)) p = some (.tup xs) := upd_same
  have np : p ≠ x := fun z => by
    rw [z, e0] at hp
    cases hp
  generalize upd H1 p (.tup xs) = H2 at s1 e1 e2 ⊢
  have nx : ∀ {b : Addr} {o : HO}, H b = some o → b ≠ x := fun e z => by
    rw [z, hx] at e
    cases e
  exact ⟨x, dx, src, flt, p, xs, rfl, e1, .of e2, .inl ⟨m, g.same s1, fun H' k e3 => ⟨rfl, q x H' hx (fun b o e => k b o (nx e) (s1 b o e)) ⟨dx, p, e3, .of (k p _ np e2)⟩⟩⟩⟩
/-- Place.of -/
def sp_of (T : Txt K mg) : Sp := fun vs H Q E => ∃ (src tv flt : V), vs = [.ref T.c_Place, src, tv, flt] ∧ Good H src ∧ Good H flt ∧
  ((∃ t xs, tv = .ref t ∧ SqT K H t xs ∧ (∀ y ∈ xs, Good H y) ∧ xs.length ≤ sizeLine ∧ MadeP T H src xs flt Q E) ∨ (Good H tv ∧ tupB H tv = false ∧ E (.ref T.c_InvalidPlace) none H))
theorem ok_of0 (T : Txt K mg) : FnOk P w K mg base (L2.CX P w) 8 T.a_Place_of T.fd_Place_of ["cls", "source", "terms", "filtered"] (sp_of T) := by
  have G_Place_init : FnA P w K mg base (L2.CX P w) 6 T.a_Place_init (sp_plA T) := ok_pl T
  refine T.F_Place_of.ok sc_Place_of (fun vs H Q E h => ?_) (fun cdv A outer s H vs Q E hr h => ?_)
  · obtain ⟨src, tv, flt, rfl, _⟩ := h
    rfl
  · obtain ⟨src, tv, flt, rfl, g1, g2, h⟩ := h
    refine ⟨_, (pss_cons (ps_if (pt_not (pt_val (pe_callB call_isi (by rfl) T.n_isinstance (by decide +kernel) (pa_cons (pv 2) (pa_cons (pe_bltn (v := .ty "tuple") (by rfl) T.n_tuple (by decide +kernel) rfl) pa_nil))))) (pss_one (ps_raise rfl (takes_of rfl rfl rfl rfl) (pmk_own PySem.F.excBase_ValueError T.x_InvalidPlace T.g_InvalidPlace T.kC_InvalidPlace (raises_own T.eb_InvalidPlace T.et_InvalidPlace) (by exact rfl)))) pss_nil)
      (pss_one (ps_ret (pe_makeA (ks := ["filtered"]) (pv 0) T.M_Place G_Place_init (hr.mono (by decide)) (passes_call (takes_of rfl rfl rfl rfl) (fun _ _ _ _ h => h)) (pa_cons (pv 1) (pa_star (pv 2) pa_nil)) (pk_cons (pv 3) pk_nil))))), ?_⟩
    rcases h with ⟨t, xs, rfl, ht, g3, hl, m⟩ | ⟨g, e, no⟩
    · refine ⟨.ref t, rfl, .ref t, .ty "tuple", _, _, true, rfl, .ty "tuple", sqt_ty ht, kit_tt, _, rfl, iteF ?_⟩
      refine ⟨_, rfl, rfl, src, rfl, .ref t, rfl, t, xs, rfl, .inl ht, flt, rfl, rfl, ?_⟩
      have z := make_pl T g1 g2 g3 hl (kws := [("filtered", flt)]) (.inr rfl) m
      rw [← List.append_nil xs] at z
      exact z
    · obtain ⟨ft, f1, f2⟩ := ty_tuple (K := K) g.item
      rw [e] at f2
      exact ⟨tv, rfl, tv, .ty "tuple", ft, _, false, rfl, .ty "tuple", f1, f2, _, rfl, iteT no⟩
theorem ok_of (T : Txt K mg) : FnA P w K mg base (L2.CX P w) 8 T.a_Place_of (fun vs kws H Q E => ∃ z, vs.length = 3 ∧ KwOne "filtered" (.bl false) kws z ∧ sp_of T (vs ++ [z]) H Q E) := by
  obtain ⟨mv0, b0⟩ := T.F_Place_of.kbinds0 (ps := ["cls", "source", "terms", "filtered"]) 3 [] [("filtered", .bl false)] (fun us mv ws => us ++ mv) (by simp) (fun q hq => hq) (fun r1 r2 r3 => r1.append r2) (fun D doc pm an cdv ct us mv ws h1 h2 h3 => by
    match us, mv, ws, h1, h2, h3 with
    | [a, b, c], [d], [], _, _, _ => exact ⟨_, _, _, _, _, _, rfl, rfl, rfl⟩)
  obtain ⟨mv1, b1⟩ := T.F_Place_of.kbinds0 (ps := ["cls", "source", "terms", "filtered"]) 3 ["filtered"] [] (fun us mv ws => us ++ ws) (by simp) (fun q hq => by cases hq) (fun r1 r2 r3 => r1.append r3) (fun D doc pm an cdv ct us mv ws h1 h2 h3 => by
    match us, mv, ws, h1, h2, h3 with
    | [a, b, c], [], [d], _, _, _ => exact rfl)
  exact fn_K1 (ok_of0 T) b0 b1
end
-- SPLIT
/-! ### the program's places, asked -/
/-- str(x) of a number or a text -/
theorem call_str_any {X : Cx} : CallR X (.type "str") (fun xs H Q => (∃ i, xs = [.int i] ∧ i.natAbs.log2 < 1920 ∧ Q (.str (toString i)) H) ∨ ∃ a, xs = [.str a] ∧ Q (.str a) H) := by
  intro pins s σ H xs us Q I r h
  rcases h with h | h
  · exact call_str_int pins s σ H xs us Q I r h
  · exact SkE.call_str_str pins s σ H xs us Q I r h
def strV : V → Str
  | .str z => z
  | _ => Str.empty
/-- a term as a text, as data -/
def termS : V → Str
  | .int i => toString i
  | .str z => z
  | _ => Str.empty
def termD : V → PyData
  | .int i => .int i
  | .str z => .str z
  | _ => .none
theorem term_cases {v : V} (h : termB v = true) : (∃ i : Int, v = .int i ∧ i.natAbs < 10 ^ 20) ∨ ∃ z, v = .str z ∧ nameB (.str z) = true := by
  unfold termB at h
  cases v with
  | int i =>
    refine .inl ⟨i, rfl, ?_⟩
    have z : intB (.int i) = true := by
      rw [Bool.or_eq_true] at h
      rcases h with h | h
      · exact h
      · cases h
    rw [intB_int, Bool.and_eq_true, decide_eq_true_eq, decide_eq_true_eq] at z
    omega
  | str z => exact .inr ⟨z, rfl, by simpa [intB] using h⟩
  | _ => cases h
theorem names_strs : ∀ xs : List V, xs.filter nameB = ((xs.filter nameB).map strV).map V.str
  | [] => rfl
  | x :: xs => by
    rw [List.filter_cons]
    by_cases h : nameB x = true
    · rw [if_pos h, List.map_cons, List.map_cons, ← names_strs xs]
      cases x with
      | str z => rfl
      | _ => cases h
    · rw [if_neg h]
      exact names_strs xs
theorem dps_terms {K : PySem.W.Frag} {H : Hp} : ∀ {xs : List V}, xs.all termB = true → DpAll K H xs (xs.map termD)
  | [], _ => .nil
  | x :: xs, h => by
    rw [List.all_cons, Bool.and_eq_true] at h
    refine .cons ?_ (dps_terms h.2)
    rcases term_cases h.1 with ⟨i, rfl, _⟩ | ⟨z, rfl, _⟩
    · exact .int _
    · exact .str _
section
variable {P : Program} {w : World} {K : PySem.W.Frag} {mg : Str → Option Value} {base : Heap}
def sp_src (T : Txt K mg) : Sp := fun vs H Q _ => ∃ (a : Addr) (src flt : V) (xs : List V), vs = [.ref a] ∧ PlV K T.c_Place H a src xs flt ∧ Q src H
theorem ok_src (T : Txt K mg) : FnOk P w K mg base CX0 1 T.a_Place_source T.fd_Place_source ["self"] (sp_src T) := by
  refine T.F_Place_source.ok sc_Place_source (fun vs H Q E h => ?_) (fun cdv A outer s H vs Q E hr h => ?_)
  · obtain ⟨a, src, flt, xs, rfl, _⟩ := h
    rfl
  · obtain ⟨a, src, flt, xs, rfl, ⟨dx, t, ea, ht⟩, q⟩ := h
    exact ⟨_, (pss_one (ps_ret (pe_fld (pv 0) rfl))), .ref a, rfl, a, T.c_Place, dx, _, _, rfl, ea, T.cl_Place, T.nA_Place_source, rfl, q⟩
def sp_trm (T : Txt K mg) : Sp := fun vs H Q _ => ∃ (a : Addr) (src flt : V) (xs : List V), vs = [.ref a] ∧ PlV K T.c_Place H a src xs flt ∧ ∀ t, SqT K H t xs → Q (.ref t) H
theorem ok_trm (T : Txt K mg) : FnOk P w K mg base CX0 1 T.a_Place_terms T.fd_Place_terms ["self"] (sp_trm T) := by
  refine T.F_Place_terms.ok sc_Place_terms (fun vs H Q E h => ?_) (fun cdv A outer s H vs Q E hr h => ?_)
  · obtain ⟨a, src, flt, xs, rfl, _⟩ := h
    rfl
  · obtain ⟨a, src, flt, xs, rfl, ⟨dx, t, ea, ht⟩, q⟩ := h
    exact ⟨_, (pss_one (ps_ret (pe_fld (pv 0) rfl))), .ref a, rfl, a, T.c_Place, dx, _, _, rfl, ea, T.cl_Place, T.nA_Place_terms, rfl, q t ht⟩
def sp_flt (T : Txt K mg) : Sp := fun vs H Q _ => ∃ (a : Addr) (src flt : V) (xs : List V), vs = [.ref a] ∧ PlV K T.c_Place H a src xs flt ∧ Q flt H
theorem ok_flt (T : Txt K mg) : FnOk P w K mg base CX0 1 T.a_Place_filtered T.fd_Place_filtered ["self"] (sp_flt T) := by
  refine T.F_Place_filtered.ok sc_Place_filtered (fun vs H Q E h => ?_) (fun cdv A outer s H vs Q E hr h => ?_)
  · obtain ⟨a, src, flt, xs, rfl, _⟩ := h
    rfl
  · obtain ⟨a, src, flt, xs, rfl, ⟨dx, t, ea, ht⟩, q⟩ := h
    exact ⟨_, (pss_one (ps_ret (pe_fld (pv 0) rfl))), .ref a, rfl, a, T.c_Place, dx, _, _, rfl, ea, T.cl_Place, T.nA_Place_filtered, rfl, q⟩
def sp_plen (T : Txt K mg) : Sp := fun vs H Q _ => ∃ (a : Addr) (src flt : V) (xs : List V), vs = [.ref a] ∧ PlV K T.c_Place H a src xs flt ∧ Q (.int (xs.length : Int)) H
theorem ok_plen (T : Txt K mg) : FnOk P w K mg base CX0 1 T.a_Place_len T.fd_Place_len ["self"] (sp_plen T) := by
  refine T.F_Place_len.ok sc_Place_len (fun vs H Q E h => ?_) (fun cdv A outer s H vs Q E hr h => ?_)
  · obtain ⟨a, src, flt, xs, rfl, _⟩ := h
    rfl
  · obtain ⟨a, src, flt, xs, rfl, ⟨dx, t, ea, ht⟩, q⟩ := h
    exact ⟨_, (pss_one (ps_ret (pe_callB call_len_seq (by rfl) T.n_len (by decide +kernel) (pa_cons (pe_fld (pv 0) rfl) pa_nil)))), .ref a, rfl, a, T.c_Place, dx, _, _, rfl, ea, T.cl_Place, T.nA_Place_terms, rfl, t, xs, rfl, .inr ht, q⟩
/-- + - ~ : a new place, its mark told -/
def sp_sgn (T : Txt K mg) (f : V → V) : Sp := fun vs H Q _ => ∃ (a : Addr) (src : V) (m : Bool) (xs : List V), vs = [.ref a] ∧ PlV K T.c_Place H a src xs (.bl m) ∧ nameB src = true ∧ termsB xs = true ∧ Good H src ∧ (∀ y ∈ xs, Good H y) ∧
  ∀ x H', H x = Option.none → Same H H' → PlV K T.c_Place H' x src xs (f (.bl m)) → Q (.ref x) H'
theorem terms_len {xs : List V} (h : termsB xs = true) : xs.length ≤ 4 := by
  unfold termsB at h
  rw [Bool.and_eq_true, Bool.and_eq_true] at h
  have z := of_decide_eq_true h.1.2
  omega
theorem free_of {H H' : Hp} {x : Addr} (s : Same H H') (n : H' x = none) : H x = none := by
  cases e : H x with
  | none => rfl
  | some o =>
    rw [s _ _ e] at n
    cases n
theorem sound_new (C : Addr) {H : Hp} {s ds : Addr} (m : V) (hs : H s = none) (hds : H ds = none) (ne : ds ≠ s) : ∃ H1, upd (upd (upd H ds (.own s)) s (.ins C ds [])) s (.ins C ds [("worth", m)]) = H1 ∧ Same H H1 ∧ SndV C H1 (.ref s) m := by
  refine ⟨_, rfl, ?_, s, ds, rfl, upd_same⟩
  rw [upd_upd]
  exact snew (snew (.refl _) hds) (by rw [upd_ne (Ne.symm ne)]; exact hs)
def sp_pw (T : Txt K mg) : Sp := fun vs H Q _ => ∃ (src : V) (t : Addr) (xs : List V) (v m : V), vs = [src, .ref t, v] ∧ SqT K H t xs ∧ xs.length ≤ sizeLine ∧ SndV T.c_Sound H v m ∧ ∀ x H', H x = Option.none → Same H H' → PlV K T.c_Place H' x src xs m → Q (.ref x) H'
theorem ok_pw (T : Txt K mg) : FnOk P w K mg base CX0 8 T.a_place_with T.fd_place_with ["source", "terms", "mark"] (sp_pw T) := by
  have G_Place_init : FnA P w K mg base (L2.CX P w) 6 T.a_Place_init (sp_plA T) := ok_pl T
  refine T.F_place_with.ok sc_place_with (fun vs H Q E h => ?_) (fun cdv A outer s H vs Q E hr h => ?_)
  · obtain ⟨src, t, xs, v, m, rfl, _⟩ := h
    rfl
  · obtain ⟨src, t, xs, v, m, rfl, ht, hl, g, q⟩ := h
    refine ⟨_, (pss_one (ps_ret (pe_makeA (ks := ["filtered"]) (pe_glob (v := .ref T.c_Place) rfl T.g_Place rfl) T.M_Place G_Place_init (hr.mono (by decide)) passL (pa_cons (pv 0) (pa_star (pv 1) pa_nil)) (pk_cons (pv 2) pk_nil)))), ?_⟩
    exact ⟨rfl, src, rfl, .ref t, rfl, t, xs, rfl, .inl ht, v, rfl, rfl, make_pls T g hl (.inr rfl) q⟩
theorem pw_go (T : Txt K mg) {H : Hp} {src m : V} {xs : List V} {t s ds : Addr} {Q : VK} {E : XK} (ht : SqT K H t xs) (h2 : termsB xs = true) (hs : H s = none) (hds : H ds = none) (ne : ds ≠ s) (q : ∀ x H', H x = Option.none → Same H H' → PlV K T.c_Place H' x src xs m → Q (.ref x) H') :
    sp_pw T [src, .ref t, .ref s] (upd (upd (upd H ds (.own s)) s (.ins T.c_Sound ds [])) s (.ins T.c_Sound ds [("worth", m)])) Q E := by
  obtain ⟨H1, e1, s1, g⟩ := sound_new T.c_Sound m hs hds ne
  rw [e1]
  exact ⟨src, t, xs, .ref s, m, rfl, mv_same s1 _ _ ht, sz_of (Nat.le_trans (terms_len h2) (by decide)), g, fun x H' nx s2 p => q x H' (free_of s1 nx) (s1.trans s2) p⟩
theorem ok_pos (T : Txt K mg) : FnOk P w K mg base CX0 9 T.a_Place_pos T.fd_Place_pos ["self"] (sp_sgn T fun _ => .bl true) := by
  have G_place_with : FnOk P w K mg base CX0 8 T.a_place_with T.fd_place_with ["source", "terms", "mark"] (sp_pw T) := ok_pw T
  have G_Sound_init : FnOk P w K mg base CX0 1 T.a_Sound_init T.fd_Sound_init ["self", "worth"] (sp_snd T) := ok_snd T
  refine T.F_Place_pos.ok sc_Place_pos (fun vs H Q E h => ?_) (fun cdv A outer s H vs Q E hr h => ?_)
  · obtain ⟨a, src, m, xs, rfl, _⟩ := h
    rfl
  · obtain ⟨a, src, m, xs, rfl, ⟨dx, t, ea, ht⟩, h1, h2, g1, g3, q⟩ := h
    refine ⟨_, (pss_one (ps_ret (pe_call G_place_with (hr.mono (by decide)) (by rfl) T.g_place_with T.F_place_with.kp T.b_place_with .nil pass0 (pa_cons (pe_fld (pv 0) rfl) (pa_cons (pe_fld (pv 0) rfl) (pa_cons (pe_make T.M_Sound G_Sound_init (hr.mono (by decide)) (by rfl) T.g_Sound T.b_Sound_init .nil pass0 (pa_cons pe_bl pa_nil)) pa_nil)))))), ?_⟩
    exact ⟨.ref a, rfl, a, T.c_Place, dx, _, _, rfl, ea, T.cl_Place, T.nA_Place_source, rfl, .ref a, rfl, a, T.c_Place, dx, _, _, rfl, ea, T.cl_Place, T.nA_Place_terms, rfl, fun s ds hs hds ne => ⟨s, ds, .bl true, rfl, upd_same, rfl, pw_go (E := fun _ _ _ => False) T ht h2 hs hds ne q⟩⟩
theorem ok_neg (T : Txt K mg) : FnOk P w K mg base CX0 9 T.a_Place_neg T.fd_Place_neg ["self"] (sp_sgn T fun _ => .bl false) := by
  have G_place_with : FnOk P w K mg base CX0 8 T.a_place_with T.fd_place_with ["source", "terms", "mark"] (sp_pw T) := ok_pw T
  have G_Sound_init : FnOk P w K mg base CX0 1 T.a_Sound_init T.fd_Sound_init ["self", "worth"] (sp_snd T) := ok_snd T
  refine T.F_Place_neg.ok sc_Place_neg (fun vs H Q E h => ?_) (fun cdv A outer s H vs Q E hr h => ?_)
  · obtain ⟨a, src, m, xs, rfl, _⟩ := h
    rfl
  · obtain ⟨a, src, m, xs, rfl, ⟨dx, t, ea, ht⟩, h1, h2, g1, g3, q⟩ := h
    refine ⟨_, (pss_one (ps_ret (pe_call G_place_with (hr.mono (by decide)) (by rfl) T.g_place_with T.F_place_with.kp T.b_place_with .nil pass0 (pa_cons (pe_fld (pv 0) rfl) (pa_cons (pe_fld (pv 0) rfl) (pa_cons (pe_make T.M_Sound G_Sound_init (hr.mono (by decide)) (by rfl) T.g_Sound T.b_Sound_init .nil pass0 (pa_cons pe_bl pa_nil)) pa_nil)))))), ?_⟩
    exact ⟨.ref a, rfl, a, T.c_Place, dx, _, _, rfl, ea, T.cl_Place, T.nA_Place_source, rfl, .ref a, rfl, a, T.c_Place, dx, _, _, rfl, ea, T.cl_Place, T.nA_Place_terms, rfl, fun s ds hs hds ne => ⟨s, ds, .bl false, rfl, upd_same, rfl, pw_go (E := fun _ _ _ => False) T ht h2 hs hds ne q⟩⟩
def notV : V → V
  | .bl b => .bl (!b)
  | v => v
theorem ok_inv (T : Txt K mg) : FnOk P w K mg base CX0 9 T.a_Place_invert T.fd_Place_invert ["self"] (sp_sgn T notV) := by
  have G_place_with : FnOk P w K mg base CX0 8 T.a_place_with T.fd_place_with ["source", "terms", "mark"] (sp_pw T) := ok_pw T
  have G_Sound_init : FnOk P w K mg base CX0 1 T.a_Sound_init T.fd_Sound_init ["self", "worth"] (sp_snd T) := ok_snd T
  refine T.F_Place_invert.ok sc_Place_invert (fun vs H Q E h => ?_) (fun cdv A outer s H vs Q E hr h => ?_)
  · obtain ⟨a, src, m, xs, rfl, _⟩ := h
    rfl
  · obtain ⟨a, src, m, xs, rfl, ⟨dx, t, ea, ht⟩, h1, h2, g1, g3, q⟩ := h
    refine ⟨_, (pss_one (ps_ret (pe_call G_place_with (hr.mono (by decide)) (by rfl) T.g_place_with T.F_place_with.kp T.b_place_with .nil pass0 (pa_cons (pe_fld (pv 0) rfl) (pa_cons (pe_fld (pv 0) rfl) (pa_cons (pe_make T.M_Sound G_Sound_init (hr.mono (by decide)) (by rfl) T.g_Sound T.b_Sound_init .nil pass0 (pa_cons (pe_not (pe_fld (pv 0) rfl)) pa_nil)) pa_nil)))))), ?_⟩
    exact ⟨.ref a, rfl, a, T.c_Place, dx, _, _, rfl, ea, T.cl_Place, T.nA_Place_source, rfl, .ref a, rfl, a, T.c_Place, dx, _, _, rfl, ea, T.cl_Place, T.nA_Place_terms, rfl, .ref a, rfl, a, T.c_Place, dx, _, _, rfl, ea, T.cl_Place, T.nA_Place_filtered, rfl, m, rfl, fun s ds hs hds ne => ⟨s, ds, .bl (!m), rfl, upd_same, rfl, pw_go (E := fun _ _ _ => False) T ht h2 hs hds ne q⟩⟩
/-- variables -/
theorem strs_names : ∀ {xs : List V}, xs.all termB = true → xs.filter issB = xs.filter nameB
  | [], _ => rfl
  | x :: xs, h => by
    rw [List.all_cons, Bool.and_eq_true] at h
    have z : issB x = nameB x := by
      rcases term_cases h.1 with ⟨i, rfl, _⟩ | ⟨s, rfl, n⟩
      · rfl
      · exact n.symm
    rw [List.filter_cons, List.filter_cons, z, strs_names h.2]
def sp_vrs (T : Txt K mg) : Sp := fun vs H Q _ => ∃ (a : Addr) (src flt : V) (xs : List V), vs = [.ref a] ∧ PlV K T.c_Place H a src xs flt ∧ termsB xs = true ∧ (∀ y ∈ xs, Good H y) ∧
  ∀ (t : Addr) (zs : List Str) H', Same H H' → H' t = some (.tup (zs.map V.str)) → PyProof.Rows.sortedS zs = true → zs.Nodup → (∀ k, k ∈ zs ↔ k ∈ (xs.filter nameB).map strV) → Q (.ref t) H'
theorem ok_vrs (T : Txt K mg) : FnOk P w K mg base CX0 3 T.a_Place_variables T.fd_Place_variables ["self"] (sp_vrs T) := by
  refine T.F_Place_variables.ok sc_Place_variables (fun vs H Q E h => ?_) (fun cdv A outer s H vs Q E hr h => ?_)
  · obtain ⟨a, src, flt, xs, rfl, _⟩ := h
    rfl
  · obtain ⟨a, src, flt, xs, rfl, ⟨dx, t, ea, ht⟩, h2, g3, q⟩ := h
    have h4 := terms_len h2
    have ta : xs.all termB = true := by
      unfold termsB at h2
      rw [Bool.and_eq_true] at h2
      exact h2.2
    refine ⟨_, (pss_one (ps_ret (pe_callTy call_tuple_of (by rfl) T.n_tuple (by decide +kernel) (pa_cons (pe_callB (cr_sortedTx rfl) (by rfl) T.n_sorted (by decide +kernel) (pa_cons (pe_callTy (cr_setS rfl) (by rfl) T.n_set (by decide +kernel) (pa_cons (pe_lc (own := [("term", 1)]) (g := gName 1) (tt := _) rfl sc_Place_variables.nd (pi_tup (pe_fld (pv 0) rfl)) (blkOk_by (N := ["self", "term"]) (sc := defScope s_Place_variables) (by decide +kernel)) (fun _ _ _ _ _ => pg_name (i := 1) sc_Place_variables.nd rfl (Or.inl rfl)) (fun _ _ _ _ _ => (pts_one (pt_val (pe_callB (call_isi : CallR _ (.builtin "isinstance") (rIsi K)) (by rfl) T.n_isinstance (by decide +kernel) (pa_cons (pv 1) (pa_cons (pe_bltn (v := .ty "str") (by rfl) T.n_str (by decide +kernel) rfl) pa_nil)))))) (fun _ _ _ _ _ => (pv 1))) pa_nil)) pa_nil)) pa_nil)))), ?_⟩
    refine ⟨.ref a, rfl, a, T.c_Place, dx, _, _, rfl, ea, T.cl_Place, T.nA_Place_terms, rfl, t, rfl, ⟨_, ht⟩, fun D hD => lc_pure (walk_tup (xs := xs)) hD xs id issB (fun x => x) rfl (by omega) (by decide) (fun H1 s => mv_same s _ _ ht) (fun i H1 x H' s y => ?_)
      (fun c H1 hc s Q h => ?_) (fun c H1 hc _ s Q h => ?_) (fun x => rfl) (fun H1 s e => ?_)⟩
    · obtain ⟨rfl, hc⟩ := y
      exact ⟨rfl, x, hc, rfl⟩
    · obtain ⟨ct, c1, c2⟩ := ty_str (K := K) ((g3 c hc).same s).item
      exact ⟨c, rfl, c, .ty "str", ct, _, _, rfl, .ty "str", c1, c2, _, rfl, h H1 (.refl H1)⟩
    · exact ⟨c, rfl, h H1 (.refl H1)⟩
    · rw [List.map_id', strs_names ta] at e
      rw [names_strs xs] at e
      have len : ((xs.filter nameB).map strV).length ≤ 4 := by
        rw [List.length_map]
        exact Nat.le_trans (List.length_filter_le _ _) h4
      refine ⟨D, (xs.filter nameB).map strV, rfl, .inr (.of e), by omega, fun b c hb hc => ?_⟩
      have s2 := snew (o := TxtO w b (fun j => decide (j ∈ (xs.filter nameB).map strV)) c) s hb
      refine ⟨b, _, c, rfl, upd_same, by omega, fun zs p h1 h2 h3 h5 hp => ?_⟩
      have s3 := snew (o := .lst (zs.map V.str)) s2 hp
      refine ⟨p, _, rfl, .inl ⟨.of upd_same, fun l hl => ?_⟩⟩
      exact q l zs _ (snew (o := .tup (zs.map V.str)) s3 hl) upd_same h1 h2 fun k => by rw [h3 k, decide_eq_true_eq]
/-- == -/
def sp_peq (T : Txt K mg) : Sp := fun vs H Q _ => ∃ (a : Addr) (y : V) (src : Str) (m : Bool) (xs : List V), vs = [.ref a, y] ∧ PlV K T.c_Place H a (.str src) xs (.bl m) ∧ termsB xs = true ∧
  ((∃ b src' m' xs', y = .ref b ∧ PlV K T.c_Place H b (.str src') xs' (.bl m') ∧ termsB xs' = true ∧ Q (.bl (decide (src = src') && decide (xs = xs') && decide (m = m'))) H) ∨ (∃ n, n ∈ BT ∧ TyX K H y (.type n) ∧ Q (.bl false) H))
theorem terms_all {xs : List V} (h : termsB xs = true) : xs.all termB = true := by
  unfold termsB at h
  rw [Bool.and_eq_true] at h
  exact h.2
theorem dec_beq {α : Type} [DecidableEq α] (a b : α) : decide (a = b) = (a == b) := by
  by_cases h : a = b
  · rw [decide_eq_true h, h, beq_self_eq_true]
  · rw [decide_eq_false h, beq_eq_false_iff_ne.mpr h]
theorem eqv_term {x y : V} (hx : termB x = true) (hy : termB y = true) : PyData.eqv (termD x) (termD y) = decide (x = y) := by
  rcases term_cases hx with ⟨i, rfl, _⟩ | ⟨z, rfl, _⟩
  · rcases term_cases hy with ⟨j, rfl, _⟩ | ⟨z', rfl, _⟩
    · simp [termD, PyData.eqv, dec_beq]
    · simp [termD, PyData.eqv]
  · rcases term_cases hy with ⟨j, rfl, _⟩ | ⟨z', rfl, _⟩
    · simp [termD, PyData.eqv]
    · simp [termD, PyData.eqv, dec_beq]
theorem eqv_terms : ∀ {xs ys : List V}, xs.all termB = true → ys.all termB = true → PyData.eqvAll (xs.map termD) (ys.map termD) = decide (xs = ys)
  | [], [], _, _ => by simp [PyData.eqvAll]
  | [], y :: ys, _, _ => by simp [PyData.eqvAll]
  | x :: xs, [], _, _ => by simp [PyData.eqvAll]
  | x :: xs, y :: ys, hx, hy => by
    rw [List.all_cons, Bool.and_eq_true] at hx hy
    rw [List.map_cons, List.map_cons, PyData.eqvAll, eqv_term hx.1 hy.1, eqv_terms hx.2 hy.2]
    simp [List.cons.injEq]
theorem lays_terms : ∀ {xs : List V}, xs.all termB = true → PyData.canLayAll0 (xs.map termD) = true
  | [], _ => by simp [PyData.canLayAll0]
  | x :: xs, h => by
    rw [List.all_cons, Bool.and_eq_true] at h
    have z := lays_terms h.2
    rcases term_cases h.1 with ⟨i, rfl, _⟩ | ⟨z', rfl, hz⟩
    · simp [PyData.canLayAll0, PyData.canLay0, termD, z]
    · simp [PyData.canLayAll0, PyData.canLay0, termD, z, name_str hz]
theorem depth_terms : ∀ {xs : List V}, xs.all termB = true → PyData.depthAll (xs.map termD) ≤ 1
  | [], _ => by simp [PyData.depthAll]
  | x :: xs, h => by
    rw [List.all_cons, Bool.and_eq_true] at h
    have z := depth_terms h.2
    rw [List.map_cons, PyData.depthAll]
    rcases term_cases h.1 with ⟨i, rfl, _⟩ | ⟨z', rfl, hz⟩
    · simp [PyData.depth, termD, z]
    · simp [PyData.depth, termD, z]
theorem sh_terms {xs : List V} (h : xs.all termB = true) : SeqAt.shaped (.tuple (xs.map termD)) = true := by
  have d := depth_terms h
  refine shaped_of (by rw [PyData.canLay0]; exact lays_terms h) ?_
  rw [PyData.depth]
  omega
theorem ok_peq (T : Txt K mg) : FnOk P w K mg base CX0 1 T.a_Place_eq T.fd_Place_eq ["self", "other"] (sp_peq T) := by
  refine T.F_Place_eq.ok sc_Place_eq (fun vs H Q E h => ?_) (fun cdv A outer s H vs Q E hr h => ?_)
  · obtain ⟨a, y, src, m, xs, rfl, _⟩ := h
    rfl
  · obtain ⟨a, y, src, m, xs, rfl, ⟨dx, t, ea, ht⟩, k1, h⟩ := h
    refine ⟨_, (pss_one (ps_ret (pe_and (pe_callB call_isi (by rfl) T.n_isinstance (by decide +kernel) (pa_cons (pv 1) (pa_cons (pe_glob (v := .ref T.c_Place) rfl T.g_Place rfl) pa_nil))) (pe_and (pe_cmpR op_eq (pe_fld (pv 0) rfl) (pe_fld (pv 1) rfl) (nomark _)) (pe_and (pe_cmpR (op_eqD hr.units) (pe_fld (pv 0) rfl) (pe_fld (pv 1) rfl) (nomark _)) (pe_one (pe_cmpR op_eq (pe_fld (pv 0) rfl) (pe_fld (pv 1) rfl) (nomark _)))))))), ?_⟩
    rcases h with ⟨b, src', m', xs', rfl, ⟨dy, u, eb, hu⟩, k2, q⟩ | ⟨n, hn, ty, q⟩
    · refine ⟨.ref b, rfl, .ref b, .ref T.c_Place, _, _, true, rfl, .own _, T.is_Place.ty eb, ko_self, _, rfl, iteT ?_⟩
      have t1 := terms_all k1
      have t2 := terms_all k2
      have vd : decide (V.str src = V.str src') = decide (src = src') := decide_eq_decide.mpr ⟨fun z => by injection z, fun z => by rw [z]⟩
      have vb : decide (m = m') = decide (V.bl m = V.bl m') := decide_eq_decide.mpr ⟨fun z => by rw [z], fun z => by injection z⟩
      refine ⟨.ref a, rfl, a, T.c_Place, dx, _, _, rfl, ea, T.cl_Place, T.nA_Place_source, rfl, .ref b, rfl, b, T.c_Place, dy, _, _, rfl, eb, T.cl_Place, T.nA_Place_source, rfl, rfl, _, rfl, ite2 (fun e1 => ?_) (fun e1 => ?_)⟩
      · have vs : decide (src = src') = true := by
          rw [← vd]
          exact e1
        have q' := q
        refine ⟨.ref a, rfl, a, T.c_Place, dx, _, _, rfl, ea, T.cl_Place, T.nA_Place_terms, rfl, .ref b, rfl, b, T.c_Place, dy, _, _, rfl, eb, T.cl_Place, T.nA_Place_terms, rfl, _, _, .tup ht (dps_terms t1), .tup hu (dps_terms t2), sh_terms t1, sh_terms t2, _, rfl, ite2 (fun e2 => ?_) (fun e2 => ?_)⟩
        · refine ⟨.ref a, rfl, a, T.c_Place, dx, _, _, rfl, ea, T.cl_Place, T.nA_Place_filtered, rfl, .ref b, rfl, b, T.c_Place, dy, _, _, rfl, eb, T.cl_Place, T.nA_Place_filtered, rfl, rfl, ?_⟩
          rw [PyData.eqv, eqv_terms t1 t2] at e2
          rw [vs, e2, vb, Bool.true_and, Bool.true_and] at q'
          exact q'
        · have e3 := nt e2
          rw [PyData.eqv, eqv_terms t1 t2] at e3
          rw [e3, Bool.and_false, Bool.false_and] at q'
          exact q'
      · have e3 : decide (src = src') = false := by
          rw [← vd]
          exact nt e1
        rw [e3, Bool.false_and, Bool.false_and] at q
        exact q
    · exact ⟨y, rfl, y, .ref T.c_Place, _, _, false, rfl, .own _, ty, (T.fo_Place n hn).1, _, rfl, iteF q⟩
/-- the terms' text -/
def termsS (xs : List V) : Str := Txt.join ", " (xs.map termS)
def sp_sign (K : PySem.W.Frag) : Sp := fun vs H Q _ => ∃ m : Bool, vs = [.bl m] ∧ Q (.str (if m = true then "+" else "")) H
theorem ok_sign (T : Txt K mg) : FnOk P w K mg base CX0 1 T.a_sign T.fd_sign ["filtered"] (sp_sign K) := by
  refine T.F_sign.ok sc_sign (fun vs H Q E h => ?_) (fun cdv A outer s H vs Q E hr h => ?_)
  · obtain ⟨m, rfl, _⟩ := h
    rfl
  · obtain ⟨m, rfl, q⟩ := h
    refine ⟨_, (pss_one (ps_ret (pe_ifExp (pt_val (pv 0)) pe_str pe_str))), ?_⟩
    refine ⟨_, rfl, m, rfl, ?_⟩
    cases m with
    | true => exact q
    | false => exact q
theorem log_small {i : Int} (h : i.natAbs < 10 ^ 20) : i.natAbs.log2 < 1920 := by
  by_cases z : i.natAbs = 0
  · rw [z]
    decide
  · exact (Nat.log2_lt z).mpr (Nat.lt_trans h (by decide +kernel))
theorem termS_len {v : V} (h : termB v = true) : (termS v).length ≤ 2000 := by
  rcases term_cases h with ⟨i, rfl, hi⟩ | ⟨z, rfl, hz⟩
  · exact Nat.le_trans (PyProof.Rows.int_text_len_1921 (log_small hi)) (by decide)
  · exact Nat.le_trans (name_len hz) (by decide)
theorem sum_len : ∀ {xs : List V}, xs.all termB = true → ((xs.map termS).map (·.length)).sum ≤ 2000 * xs.length
  | [], _ => by simp
  | x :: xs, h => by
    rw [List.all_cons, Bool.and_eq_true] at h
    have a := termS_len h.1
    have b := sum_len h.2
    simp only [List.map_cons, List.sum_cons, List.length_cons] at b ⊢
    omega
def sp_tmt (K : PySem.W.Frag) : Sp := fun vs H Q _ => ∃ (t : Addr) (xs : List V), vs = [.ref t] ∧ SqT K H t xs ∧ termsB xs = true ∧ ∀ H', Same H H' → Q (.str (termsS xs)) H'
theorem ok_tmt (T : Txt K mg) : FnOk P w K mg base CX0 1 T.a_terms_text T.fd_terms_text ["terms"] (sp_tmt K) := by
  refine T.F_terms_text.ok sc_terms_text (fun vs H Q E h => ?_) (fun cdv A outer s H vs Q E hr h => ?_)
  · obtain ⟨t, xs, rfl, _⟩ := h
    rfl
  · obtain ⟨t, xs, rfl, ht, ok, q⟩ := h
    have h4 := terms_len ok
    have ta := terms_all ok
    refine ⟨_, (pss_one (ps_ret (pe_join pe_str (pe_lc (own := [("term", 1)]) (g := gName 1) (tt := tYes) rfl sc_terms_text.nd (pi_tup (pv 0)) (blkOk_by (N := ["terms", "term"]) (sc := defScope s_terms_text) (by decide +kernel)) (fun _ _ _ _ _ => pg_name (i := 1) sc_terms_text.nd rfl (Or.inl rfl)) (fun _ _ _ _ _ => pts_nil) (fun _ _ _ _ _ => (pe_callTy call_str_any (by rfl) T.n_str (by decide +kernel) (pa_cons (pv 1) pa_nil))))))), ?_⟩
    refine ⟨⟨_, rfl⟩, .ref t, rfl, t, rfl, ⟨_, ht⟩, fun D hD => lc_pure (walk_tup (xs := xs)) hD xs id (fun _ => true) (fun x => .str (termS x)) rfl (by omega) (by decide) (fun H1 s => mv_same s _ _ ht) (fun i H1 x H' s y => ?_)
      (fun c H1 hc s Q h => h H1 (.refl H1)) (fun c H1 hc _ s Q h => ?_) (fun x => rfl) (fun H1 s e => ?_)⟩
    · obtain ⟨rfl, hc⟩ := y
      exact ⟨rfl, x, hc, rfl⟩
    · rcases term_cases (List.all_eq_true.mp ta c hc) with ⟨i, rfl, hi⟩ | ⟨z, rfl, hz⟩
      · exact ⟨.int i, rfl, .inl ⟨i, rfl, log_small hi, h H1 (.refl H1)⟩⟩
      · exact ⟨.str z, rfl, .inr ⟨z, rfl, h H1 (.refl H1)⟩⟩
    · rw [filt_all] at e
      have b := sum_len ta
      refine ⟨", ", D, xs.map termS, rfl, rfl, .inl (.of ?_), ?_, q H1 s⟩
      · rw [e, List.map_map]
        rfl
      · rw [List.length_map]
        have c : (", " : Str).length = 2 := rfl
        rw [c]
        omega
theorem joinL_len (sep : List Nat) : ∀ ps : List (List Nat), (TL.joinL sep ps).length ≤ (ps.map List.length).sum + ps.length * sep.length
  | [] => Nat.zero_le _
  | [p] => by
    show p.length ≤ _
    simp
  | p :: q :: r => by
    have z := joinL_len sep (q :: r)
    show (p ++ (sep ++ TL.joinL sep (q :: r))).length ≤ _
    rw [List.length_append, List.length_append, List.map_cons, List.sum_cons, List.length_cons, Nat.succ_mul]
    omega
theorem join_le (sep : Str) (ys : List Str) : (Txt.join sep ys).length ≤ (ys.map (·.length)).sum + ys.length * sep.length := by
  have z := joinL_len (TL.tl sep) (ys.map TL.tl)
  have h := TL.tl_join sep ys
  have e : (Txt.join sep ys).length = (TL.joinL (TL.tl sep) (ys.map TL.tl)).length := by
    rw [TL.join_eq, ← h]
    rfl
  rw [e]
  rw [List.map_map, List.length_map] at z
  exact z
theorem termsS_len {xs : List V} (h : termsB xs = true) : (termsS xs).length ≤ 9000 := by
  have a := join_le ", " (xs.map termS)
  have b := sum_len (terms_all h)
  have c : (", " : Str).length = 2 := rfl
  have d := terms_len h
  unfold termsS
  rw [List.length_map, c] at a
  omega
/-- a place's text -/
def placeS (src : Str) (xs : List V) (m : Bool) : Str := (((((Str.empty ++ (if m = true then ("+" : Str) else ("" : Str))) ++ src) ++ ("(" : Str)) ++ termsS xs) ++ (")" : Str))
def sp_pstr (T : Txt K mg) : Sp := fun vs H Q _ => ∃ (a : Addr) (src : Str) (m : Bool) (xs : List V), vs = [.ref a] ∧ PlV K T.c_Place H a (.str src) xs (.bl m) ∧ nameB (.str src) = true ∧ termsB xs = true ∧ ∀ H', Same H H' → Q (.str (placeS src xs m)) H'
theorem ok_pstr (T : Txt K mg) : FnOk P w K mg base CX0 2 T.a_Place_str T.fd_Place_str ["self"] (sp_pstr T) := by
  have G_sign : FnOk P w K mg base CX0 1 T.a_sign T.fd_sign ["filtered"] (sp_sign K) := ok_sign T
  have G_terms_text : FnOk P w K mg base CX0 1 T.a_terms_text T.fd_terms_text ["terms"] (sp_tmt K) := ok_tmt T
  refine T.F_Place_str.ok sc_Place_str (fun vs H Q E h => ?_) (fun cdv A outer s H vs Q E hr h => ?_)
  · obtain ⟨a, src, m, xs, rfl, _⟩ := h
    rfl
  · obtain ⟨a, src, m, xs, rfl, ⟨dx, t, ea, ht⟩, h1, h2, q⟩ := h
    refine ⟨_, (pss_one (ps_ret (pe_joined (PJ.cons (pe_fmt (pe_call G_sign (hr.mono (by decide)) (by rfl) T.g_sign T.F_sign.kp T.b_sign .nil pass0 (pa_cons (pe_fld (pv 0) rfl) pa_nil))) (PJ.cons (pe_fmt (pe_fld (pv 0) rfl)) (PJ.cons pe_str (PJ.cons (pe_fmt (pe_call G_terms_text (hr.mono (by decide)) (by rfl) T.g_terms_text T.F_terms_text.kp T.b_terms_text .nil pass0 (pa_cons (pe_fld (pv 0) rfl) pa_nil))) (PJ.cons pe_str PJ.nil)))))))), ?_⟩
    have l0 : (if m = true then ("+" : Str) else "").length ≤ 1 := by
      cases m
      · exact Nat.zero_le _
      · exact Nat.le_refl _
    have l1 := name_len h1
    have l2 := termsS_len h2
    have c1 : ("(" : Str).length = 1 := rfl
    have c2 : (")" : Str).length = 1 := rfl
    have c0 : (Str.empty : Str).length = 0 := rfl
    refine ⟨.ref a, rfl, a, T.c_Place, dx, _, _, rfl, ea, T.cl_Place, T.nA_Place_filtered, rfl, m, rfl, .inl ⟨_, rfl, sz_of (by omega), _, rfl, sz_of (by rw [Str.length_append]; omega), ?_⟩⟩
    refine ⟨.ref a, rfl, a, T.c_Place, dx, _, _, rfl, ea, T.cl_Place, T.nA_Place_source, rfl, .inl ⟨_, rfl, sz_of (by omega), _, rfl, sz_of (by rw [Str.length_append, Str.length_append]; omega), ?_⟩⟩
    refine ⟨_, rfl, sz_of (by rw [Str.length_append, Str.length_append, Str.length_append]; omega), ?_⟩
    refine ⟨.ref a, rfl, a, T.c_Place, dx, _, _, rfl, ea, T.cl_Place, T.nA_Place_terms, rfl, t, xs, rfl, ht, h2, fun H1 s => .inl ⟨_, rfl, sz_of (by omega), _, rfl, sz_of (by rw [Str.length_append, Str.length_append, Str.length_append, Str.length_append]; omega), ?_⟩⟩
    refine ⟨_, rfl, sz_of (by rw [Str.length_append, Str.length_append, Str.length_append, Str.length_append, Str.length_append]; omega), ?_⟩
    exact q H1 s
end
-- SPLIT
section
variable {P : Program} {w : World} {K : PySem.W.Frag} {mg : Str → Option Value} {base : Heap}
/-! ### the dice -/
def sp_dice (K : PySem.W.Frag) : Sp := fun vs H Q _ => ∃ (a : Addr) (ns : List Int) (i : Int), vs = [.ref a, .int i] ∧ SqL K H a (ns.map V.int) ∧ 0 ≤ i ∧ ns.length ≤ 63 ∧ ∀ d H', H d = none → Same H H' → Dice H' d → Q (.ref d) H'
theorem pow_big : ((10 : Int) ^ (59 : Int).toNat) ^ (11 : Int).toNat < 2 ^ 2160 ∧ 0 < ((10 : Int) ^ (59 : Int).toNat) ^ (11 : Int).toNat := by decide +kernel
theorem dice_a {g : Int} (h0 : 0 ≤ g) (h1 : g < ((10 : Int) ^ (59 : Int).toNat) ^ (11 : Int).toNat) {m z : Int} (e : m = if z > 0 then z else 0) (hz : z = g - (10 : Int) ^ (18 : Int).toNat) : 0 ≤ m ∧ m.natAbs < 2 ^ 2200 := by
  have h2 : (0 : Int) ≤ (10 : Int) ^ (18 : Int).toNat := by decide +kernel
  have h3 := pow_big.1
  have h4 : 0 ≤ m ∧ m ≤ g := by
    rw [e]
    split <;> omega
  refine ⟨h4.1, ?_⟩
  have h5 : m < 2 ^ 2160 := Int.lt_of_le_of_lt (Int.le_trans h4.2 (Int.le_of_lt h1)) h3
  have h6 : m.natAbs < 2 ^ 2160 := by
    have e2 : ((2 : Int) ^ 2160) = ((2 ^ 2160 : Nat) : Int) := by norm_cast
    omega
  exact Nat.lt_of_lt_of_le h6 (Nat.pow_le_pow_right (by decide) (by decide))
theorem ok_dice (T : Txt K mg) : FnOk P w K mg base CX0 1 T.a_l_dice T.fd_l_dice ["_law_script", "_law_spot"] (sp_dice K) := by
  refine T.F_l_dice.ok sc_l_dice (fun vs H Q E h => ?_) (fun cdv A outer s H vs Q E hr h => ?_)
  · obtain ⟨a, ns, i, rfl, _⟩ := h
    rfl
  · obtain ⟨a, ns, i, rfl, hS, h0, h63, q⟩ := h
    refine ⟨_, (pss_cons (ps_set (i := 2) sc_l_dice.nd rfl (.inl rfl) (pe_ifB (pt_cmpR op_lt (pv 1) (pe_callB call_len_seq (by rfl) T.n_len (by decide +kernel) (pa_cons (pv 0) pa_nil)) (nomark _)) (pe_ix ix_list (pv 0) (pv 1) (fun _ _ => rfl)) (pe_op op_add (pe_op op_mul pe_int (pv 1)) pe_int)))
      (pss_cons (ps_set (i := 3) sc_l_dice.nd rfl (.inl rfl) (pe_op op_modB (pe_callTy call_int1 (by rfl) T.n_int (by decide +kernel) (pa_cons (pe_callB call_abs (by rfl) T.n_abs (by decide +kernel) (pa_cons (pv 2) pa_nil)) pa_nil)) (pe_op op_powW (pe_op op_pow pe_int pe_int) pe_int)))
      (pss_cons (ps_set (i := 4) sc_l_dice.nd rfl (.inl rfl) (pe_op op_add (pe_op op_add (pe_op op_add (pe_op op_mul (pv 3) pe_int) (pe_op op_mul pe_int (pv 1))) (pe_op op_mul pe_int (pe_callTy call_int1 (by rfl) T.n_int (by decide +kernel) (pa_cons (pe_cmpR op_lt (pv 2) pe_int (nomark _)) pa_nil)))) pe_int))
      (pss_one (ps_ret (pe_lst (pa_cons (pe_callB (call_max2 rfl) (by rfl) T.n_max (by decide +kernel) (pa_cons pe_int (pa_cons (pe_op op_sub (pv 3) (pe_op op_pow pe_int pe_int)) pa_nil))) (pa_cons (pe_op op_modB (pe_callTy call_int1 (by rfl) T.n_int (by decide +kernel) (pa_cons (pv 4) pa_nil)) pe_int) (pa_cons pe_int pa_nil))))))))), ?_⟩
    refine ⟨_, rfl, .ref a, rfl, a, ns.map V.int, rfl, .inl hS, i, ((ns.map V.int).length : Int), rfl, rfl, _, rfl, ?_⟩
    have cell : ∃ c : Int, (decide (i < ((ns.map V.int).length : Int)) = true → atI (ns.map V.int) i = some (.int c)) ∧ (decide (i < ((ns.map V.int).length : Int)) = false → c = 41 * i + 9) := by
      cases e : decide (i < ((ns.map V.int).length : Int)) with
      | true =>
        obtain ⟨v, ev, mv⟩ := at_lt h0 (of_decide_eq_true e)
        obtain ⟨c, _, rfl⟩ := List.mem_map.mp mv
        exact ⟨c, fun _ => ev, fun z => by cases z⟩
      | false => exact ⟨41 * i + 9, fun z => (by cases z), fun _ => rfl⟩
    obtain ⟨c, c1, c2⟩ := cell
    refine ⟨.int c, fun e => ⟨.ref a, rfl, .int i, rfl, a, _, i, .int c, rfl, rfl, hS, c1 e, rfl, rfl⟩, fun e => ⟨.int i, rfl, 41, i, rfl, rfl, .inl ⟨by decide, by decide⟩, 41 * i, 9, rfl, rfl, by rw [c2 e], rfl⟩, ?_⟩
    -- great
    refine ⟨_, rfl, c, rfl, .inl ⟨_, rfl, 10, 59, rfl, rfl, ⟨by decide, by decide, by decide⟩, _, 11, rfl, rfl, ⟨by decide, by decide +kernel⟩, _, _, rfl, rfl, pow_big.2, fun g g0 g1 _ => ?_⟩⟩
    -- blend
    refine ⟨_, rfl, g, _, rfl, rfl, .inr ⟨by decide, by decide⟩, _, rfl, 83, i, rfl, rfl, .inl ⟨by decide, by decide⟩, _, _, rfl, rfl, _, rfl, c, 0, rfl, rfl, .inr ⟨_, rfl, 19, _, rfl, rfl, .inl ⟨by decide, by decide⟩, _, _, rfl, rfl, _, _, rfl, rfl, ?_⟩⟩
    refine ⟨_, rfl, 10, 18, rfl, rfl, ⟨by decide, by decide, by decide⟩, g, _, rfl, rfl, 0, _, rfl, _, rfl, .inl ⟨_, rfl, _, _, rfl, rfl, by decide, fun b b0 b1 _ => ⟨by show 3 ≤ sizeLine; decide, fun p hp => ?_⟩⟩⟩
    exact q p _ hp (same_upd hp) ⟨_, b, 0, upd_same, dice_a g0 g1 rfl rfl⟩
/-- a roll -/
def sp_roll (K : PySem.W.Frag) : Sp := fun vs H Q _ => ∃ (d : Addr) (n : Int), vs = [.ref d, .int n] ∧ Dice H d ∧ 0 < n ∧ n.natAbs < 2 ^ 5000 ∧ ∀ r H', 0 ≤ r → r < n → Keep d H H' → Q (.int r) H'
theorem Keep.dice {d : Addr} {H : Hp} {a b c : Int} (h0 : 0 ≤ a) (h1 : a.natAbs < 2 ^ 2200) : Keep d H (upd H d (.lst [.int a, .int b, .int c])) :=
  ⟨fun b o hb e => by rw [upd_ne hb]; exact e, a, b, c, upd_same, h0, h1⟩
theorem ok_roll (T : Txt K mg) : FnOk P w K mg base CX0 1 T.a_l_roll T.fd_l_roll ["_law_dice_here", "_law_upto"] (sp_roll K) := by
  refine T.F_l_roll.ok sc_l_roll (fun vs H Q E h => ?_) (fun cdv A outer s H vs Q E hr h => ?_)
  · obtain ⟨d, n, rfl, _⟩ := h
    rfl
  · obtain ⟨d, n, rfl, ⟨a, b, c, hd, a0, a1⟩, n0, n1, q⟩ := h
    refine ⟨_, (pss_cons (ps_if (pt_cmpR op_gt (pe_ix ix_list (pv 0) pe_int (fun _ _ => rfl)) pe_int (nomark _)) (pss_cons (ps_set (i := 2) sc_l_roll.nd rfl (.inl rfl) (pe_op op_modB (pe_callTy call_int1 (by rfl) T.n_int (by decide +kernel) (pa_cons (pe_ix ix_list (pv 0) pe_int (fun _ _ => rfl)) pa_nil)) (pv 1)))
      (pss_cons (ps_asg (pe_op op_fdivW (pe_ix ix_list (pv 0) pe_int (fun _ _ => rfl)) (pv 1)) (pg_sub (pv 0) pe_int set_list))
      (pss_one (ps_ret (pv 2))))) pss_nil)
      (pss_cons (ps_asg (pe_op op_add (pe_ix ix_list (pv 0) pe_int (fun _ _ => rfl)) pe_int) (pg_sub (pv 0) pe_int set_list))
      (pss_cons (ps_set (i := 3) sc_l_roll.nd rfl (.inl rfl) (pe_op op_modB (pe_callTy call_int1 (by rfl) T.n_int (by decide +kernel) (pa_cons (pe_op op_add (pe_ix ix_list (pv 0) pe_int (fun _ _ => rfl)) (pe_op op_mul pe_int (pe_ix ix_list (pv 0) pe_int (fun _ _ => rfl)))) pa_nil)) pe_int))
      (pss_cons (ps_set (i := 4) sc_l_roll.nd rfl (.inl rfl) (pe_op op_add (pe_op op_mul (pe_op op_modB (pe_callTy call_int1 (by rfl) T.n_int (by decide +kernel) (pa_cons (pe_op op_mul (pv 3) (pv 3)) pa_nil)) pe_int) (pv 3)) (pe_op op_mul pe_int (pe_ix ix_list (pv 0) pe_int (fun _ _ => rfl)))))
      (pss_one (ps_ret (pe_op op_modB (pe_callTy call_int1 (by rfl) T.n_int (by decide +kernel) (pa_cons (pe_op op_fdiv (pe_op op_modB (pe_callTy call_int1 (by rfl) T.n_int (by decide +kernel) (pa_cons (pe_op op_add (pv 4) (pe_ix ix_list (pv 0) pe_int (fun _ _ => rfl))) pa_nil)) pe_int) pe_int) pa_nil)) (pv 1)))))))), ?_⟩
    have at0 : atI [V.int a, .int b, .int c] 0 = some (.int a) := rfl
    have at1 : atI [V.int a, .int b, .int c] 1 = some (.int b) := rfl
    have at2 : atI [V.int a, .int b, .int c] 2 = some (.int c) := rfl
    refine ⟨_, rfl, d, _, 0, .int a, rfl, rfl, .of hd, at0, a, 0, rfl, rfl, _, rfl, ite2 (fun e1 => ?_) (fun e1 => ?_)⟩
    · -- found
      refine ⟨_, rfl, d, _, 0, .int a, rfl, rfl, .of hd, at0, .inl ⟨a, rfl, _, rfl, a, n, rfl, rfl, n0, fun r r0 r1 _ => ?_⟩⟩
      refine ⟨_, rfl, d, _, 0, .int a, rfl, rfl, .of hd, at0, _, rfl, a, n, rfl, rfl, wide_div n0 n1 (by decide) (by decide), _, rfl, d, _, 0, 0, rfl, rfl, hd, rfl, ?_⟩
      refine ⟨_, rfl, q r _ r0 r1 ?_⟩
      have h1 : 0 ≤ a / n := Int.ediv_nonneg a0 (by omega)
      have h2 : a / n ≤ a := Int.ediv_le_self n a0
      exact Keep.dice h1 (by omega)
    · refine ⟨_, rfl, d, _, 2, .int c, rfl, rfl, .of hd, at2, c, 1, rfl, rfl, _, rfl, d, _, 2, 2, rfl, rfl, hd, rfl, ?_⟩
      generalize hH : upd H d (.lst ([V.int a, .int b, .int c].set 2 ((fun i j => V.int (i + j)) c 1))) = H1
      have k1 : Keep d H H1 := by
        rw [← hH]
        exact Keep.dice a0 a1
      have e2 : H1 d = some (.lst [.int a, .int b, .int (c + 1)]) := by
        rw [← hH]
        exact upd_same
      refine ⟨_, rfl, d, _, 1, .int b, rfl, rfl, .of e2, rfl, _, rfl, d, _, 2, .int (c + 1), rfl, rfl, .of e2, rfl, 961748941, _, rfl, rfl, .inl ⟨by decide, by decide⟩, _, _, rfl, rfl, .inl ⟨_, rfl, _, _, rfl, rfl, by decide, fun o o0 o1 _ => ?_⟩⟩
      refine ⟨_, rfl, _, rfl, o, o, rfl, rfl, .inl ⟨by omega, by omega⟩, .inl ⟨_, rfl, _, _, rfl, rfl, by decide, fun t t0 t1 _ => ?_⟩⟩
      refine ⟨_, rfl, t, o, rfl, rfl, .inl ⟨by omega, by omega⟩, _, rfl, d, _, 2, .int (c + 1), rfl, rfl, .of e2, rfl, 7919, _, rfl, rfl, .inl ⟨by decide, by decide⟩, _, _, rfl, rfl, ?_⟩
      exact ⟨_, rfl, _, rfl, d, _, 1, .int b, rfl, rfl, .of e2, rfl, _, _, rfl, rfl, .inl ⟨_, rfl, _, _, rfl, rfl, by decide, fun u u0 u1 _ => ⟨u, 128, rfl, rfl, ⟨by decide, by decide⟩, .inl ⟨_, rfl, _, rfl, _, n, rfl, rfl, n0, fun r r0 r1 _ => q r H1 r0 r1 k1⟩⟩⟩⟩
/-- one of a list's items | a sign of a text -/
def sp_pickL (K : PySem.W.Frag) : Sp := fun vs H Q _ => ∃ (d p : Addr) (xs : List V), vs = [.ref d, .ref p] ∧ Dice H d ∧ p ≠ d ∧ H p = some (.lst xs) ∧ 0 < xs.length ∧ xs.length ≤ 1000 ∧ ∀ v H', v ∈ xs → Keep d H H' → Q v H'
def sp_pickS (K : PySem.W.Frag) : Sp := fun vs H Q _ => ∃ (d : Addr) (z : Str), vs = [.ref d, .str z] ∧ Dice H d ∧ 0 < z.length ∧ z.length ≤ 1000 ∧ ∀ c H', Keep d H H' → Q (.str ⟨#[c]⟩) H'
theorem small_b {n : Nat} (h : n ≤ 1000) : ((n : Nat) : Int).natAbs < 2 ^ 5000 := Nat.lt_of_le_of_lt (show ((n : Nat) : Int).natAbs ≤ 2 ^ 10 by simp; omega) (Nat.pow_lt_pow_right (by decide) (by decide))
theorem ok_pickL (T : Txt K mg) : FnOk P w K mg base CX0 2 T.a_l_pick T.fd_l_pick ["_law_dice_here", "_law_items"] (sp_pickL K) := by
  have G_l_roll : FnOk P w K mg base CX0 1 T.a_l_roll T.fd_l_roll ["_law_dice_here", "_law_upto"] (sp_roll K) := ok_roll T
  refine T.F_l_pick.ok sc_l_pick (fun vs H Q E h => ?_) (fun cdv A outer s H vs Q E hr h => ?_)
  · obtain ⟨d, p, xs, rfl, _⟩ := h
    rfl
  · obtain ⟨d, p, xs, rfl, hd, hp, e, x0, x1, q⟩ := h
    refine ⟨_, (pss_one (ps_ret (pe_ix ix_seq (pv 1) (pe_call G_l_roll (hr.mono (by decide)) (by rfl) T.g_l_roll T.F_l_roll.kp T.b_l_roll .nil pass0 (pa_cons (pv 0) (pa_cons (pe_callB call_len (by rfl) T.n_len (by decide +kernel) (pa_cons (pv 1) pa_nil)) pa_nil))) (fun _ _ => rfl)))), ?_⟩
    refine ⟨_, rfl, _, rfl, _, rfl, .ref p, xs.length, rfl, .inl ⟨xs, .of e, rfl⟩, d, xs.length, rfl, hd, by omega, small_b x1, fun r H1 r0 r1 k => ?_⟩
    obtain ⟨v, ev, mv⟩ := at_lt r0 r1
    exact .inl ⟨p, xs, r, v, rfl, rfl, .of (k.some hp e), ev, q v H1 mv k⟩
theorem ok_pickS (T : Txt K mg) : FnOk P w K mg base CX0 2 T.a_l_pick T.fd_l_pick ["_law_dice_here", "_law_items"] (sp_pickS K) := by
  have G_l_roll : FnOk P w K mg base CX0 1 T.a_l_roll T.fd_l_roll ["_law_dice_here", "_law_upto"] (sp_roll K) := ok_roll T
  refine T.F_l_pick.ok sc_l_pick (fun vs H Q E h => ?_) (fun cdv A outer s H vs Q E hr h => ?_)
  · obtain ⟨d, z, rfl, _⟩ := h
    rfl
  · obtain ⟨d, z, rfl, hd, x0, x1, q⟩ := h
    refine ⟨_, (pss_one (ps_ret (pe_ix ix_seq (pv 1) (pe_call G_l_roll (hr.mono (by decide)) (by rfl) T.g_l_roll T.F_l_roll.kp T.b_l_roll .nil pass0 (pa_cons (pv 0) (pa_cons (pe_callB call_len (by rfl) T.n_len (by decide +kernel) (pa_cons (pv 1) pa_nil)) pa_nil))) (fun _ _ => rfl)))), ?_⟩
    refine ⟨_, rfl, _, rfl, _, rfl, .str z, z.length, rfl, ⟨sz_of (by omega), rfl⟩, d, z.length, rfl, hd, by omega, small_b x1, fun r H1 r0 r1 k => ?_⟩
    obtain ⟨c, ec, mc⟩ := at_lt (xs := z.cps.toList) r0 (by rw [Array.length_toList]; exact r1)
    exact .inr (.inr ⟨z, r, c, rfl, rfl, sz_of (by omega), ec, q c H1 k⟩)
end
-- SPLIT
/-! ### what is drawn -/
section
variable {P : Program} {w : World} {K : PySem.W.Frag} {mg : Str → Option Value} {base : Heap}
/-- a new list; all else but the dice stands -/
def NewL (K : PySem.W.Frag) (d : Addr) (H H' : Hp) (l : Addr) (ys : List V) : Prop := H l = none ∧ l ≠ d ∧ Keep d H H' ∧ H' l = some (.lst ys)
theorem perm_ix {α : Type} {l : List α} {k : Nat} (h : k < l.length) : (l[k] :: l.eraseIdx k).Perm l := by
  have e : l = l.take k ++ l[k] :: l.drop (k + 1) := by
    rw [← List.drop_eq_getElem_cons h, List.take_append_drop]
  have z := (List.perm_middle (a := l[k]) (l₁ := l.take k) (l₂ := l.drop (k + 1))).symm
  rw [← e] at z
  rw [List.eraseIdx_eq_take_drop_succ]
  exact z
theorem small_i {i : Int} (h0 : 0 ≤ i) (h1 : i ≤ 1000000) : i.natAbs < 2 ^ 5000 := Nat.lt_of_le_of_lt (show i.natAbs ≤ 2 ^ 20 by omega) (Nat.pow_lt_pow_right (by decide) (by decide))
theorem perm_map {α β : Type} {f : α → β} : ∀ {xs : List α} {ys : List β}, ys.Perm (xs.map f) → ∃ zs : List α, zs.Perm xs ∧ ys = zs.map f := fun {xs ys} h => by
  generalize e : xs.map f = us at h
  induction h generalizing xs with
  | nil => exact ⟨[], by rw [List.map_eq_nil_iff.mp e], rfl⟩
  | cons x _ ih =>
    cases xs with
    | nil => cases e
    | cons y xs =>
      rw [List.map_cons] at e
      injection e with e1 e2
      obtain ⟨zs, h1, h2⟩ := ih e2
      exact ⟨y :: zs, h1.cons y, by rw [List.map_cons, e1, h2]⟩
  | swap x y l =>
    match xs, e with
    | a :: b :: xs, e =>
      rw [List.map_cons, List.map_cons] at e
      injection e with e1 e2
      injection e2 with e2 e3
      exact ⟨b :: a :: xs, .swap a b xs, by rw [List.map_cons, List.map_cons, e1, e2, e3]⟩
  | trans _ _ ih1 ih2 =>
    obtain ⟨zs, h1, h2⟩ := ih2 e
    obtain ⟨us, h3, h4⟩ := ih1 h2.symm
    exact ⟨us, h3.trans h1, h4⟩
/-- a comprehension over range(n) whose element only reads -/
theorem lc_rng {n k : Nat} {te : TE} {vs : List Nat} {σ : L2.St} {H : Hp} {D : Addr} {Qd : Hp → Prop} (hD : H D = none) (f : Nat → V) (hz : n ≤ 1000) (he : ∀ (i : Nat) (H1 : Hp), i < n → Same H H1 → ∀ Q : VK, (∀ H2, Same H1 H2 → Q (f i) H2) → te ((wipe σ vs).set k (some (.int (0 + (i : Nat))))) H1 Q)
    (hw : ∀ x, wipe ((wipe σ vs).set k (some x)) vs = wipe σ vs) (hd : ∀ H1, Same H H1 → H1 D = some (.lst ((List.range n).map f)) → Qd H1) :
    ∃ W : Nat → Nat → Hp → Prop, (∃ m, W 0 m (upd H D (.lst []))) ∧ ∀ i m H, W i m H →
      ((Itr 0 n).stop i H ∧ Qd H) ∨ ((Itr 0 n).go i H ∧ ∃ Nx : Hp → Prop, (∀ H', Nx H' → ∃ m', m' < m ∧ W (i + 1) m' H') ∧ ∀ x H', (Itr 0 n).yld i H x H' → gName k x (wipe σ vs) H' fun σ2 H2 => wipe σ2 vs = wipe σ vs ∧ tYes σ2 H2 fun b H3 =>
        if b = true then te σ2 H3 fun y H4 => ∃ acc, H4 D = some (.lst acc) ∧ acc.length < sizeLine ∧ Nx (upd H4 D (.lst (acc ++ [y]))) else Nx H3) := by
  refine lc_range (lo := 0) (n := n) (g := gName k) (fun i H1 => Same H H1 ∧ H1 D = some (.lst ((List.range i).map f))) ⟨same_upd hD, upd_same⟩ (fun i H1 hi h => ?_) fun H1 h => hd H1 h.1 h.2
  obtain ⟨s1, e1⟩ := h
  refine ⟨hw _, yesT (he i H1 hi s1 _ fun H2 s2 => ⟨_, s2 _ _ e1, ?_, sput (s1.trans s2) hD, ?_⟩)⟩
  · rw [List.length_map, List.length_range]
    exact small1000 (by omega)
  · rw [upd_same, List.range_succ, List.map_append]
    rfl
theorem seq_ix {i : Int} {n : Nat} (h0 : 0 ≤ i) (h1 : i < n) : seqIndex? i n = some i.toNat := by
  unfold seqIndex?
  simp
  omega
theorem cut_to {xs : List V} {n : Int} (h : 0 ≤ n) : cutV xs none (some n) = xs.take n.toNat := by
  have e : HT.sIx xs.length xs.length (some n) = min n.toNat xs.length := by
    show (if n < 0 then (n + (xs.length : Int)).toNat else min n.toNat xs.length) = _
    rw [if_neg (by omega)]
  unfold cutV
  rw [e, HT.sIx_none, List.drop_zero, Nat.sub_zero]
  rcases Nat.le_total n.toNat xs.length with z | z
  · rw [Nat.min_eq_left z]
  · rw [Nat.min_eq_right z, List.take_of_length_le z, List.take_of_length_le (Nat.le_refl _)]
/-- letters -/
theorem letters_of {z : Str} (h : ∀ c ∈ z.cps.toList, c ∈ LET.cps.toList) (h1 : 1 ≤ z.length) (h8 : z.length ≤ 8) : nameB (.str z) = true := by
  rw [nameB_str, decide_eq_true (by omega), decide_eq_true (by omega), Bool.true_and, Bool.true_and, List.all_eq_true]
  exact fun c hc => decide_eq_true (h c hc)
theorem join_cps (ys : List Str) : (Txt.join "" ys).cps.toList = (ys.map fun y => y.cps.toList).flatten := by
  have h := TL.tl_join "" ys
  rw [show TL.tl "" = [] by decide +kernel, joinL_nil] at h
  rw [TL.join_eq]
  exact h
theorem ABC26 : LET.cps.toList.length = 26 := by decide +kernel
def sp_word (K : PySem.W.Frag) : Sp := fun vs H Q _ => ∃ d : Addr, vs = [.ref d] ∧ Dice H d ∧ ∀ (z : Str) (H' : Hp), nameB (.str z) = true → Keep d H H' → Q (.str z) H'
theorem ok_word (T : Txt K mg) : FnOk P w K mg base CX0 2 T.a_l_word T.fd_l_word ["_law_dice_here"] (sp_word K) := by
  have G_l_roll : FnOk P w K mg base CX0 1 T.a_l_roll T.fd_l_roll ["_law_dice_here", "_law_upto"] (sp_roll K) := ok_roll T
  refine T.F_l_word.ok sc_l_word (fun vs H Q E h => ?_) (fun cdv A outer s H vs Q E hr h => ?_)
  · obtain ⟨d, rfl, _⟩ := h
    rfl
  · obtain ⟨d, rfl, hd, q⟩ := h
    refine ⟨_, (pss_one (ps_ret (pe_join pe_str (pe_lc (own := [("_law_turn", 1)]) (g := gName 1) (tt := tYes) rfl sc_l_word.nd (pi_range1 (by rfl) T.n_range (pa_cons (pe_op op_add pe_int (pe_call G_l_roll (hr.mono (by decide)) (by rfl) T.g_l_roll T.F_l_roll.kp T.b_l_roll .nil pass0 (pa_cons (pv 0) (pa_cons pe_int pa_nil)))) pa_nil)) (blkOk_by (N := ["_law_dice_here", "_law_turn"]) (sc := defScope s_l_word) (by decide +kernel)) (fun _ _ _ _ _ => pg_name (i := 1) sc_l_word.nd rfl (Or.inl rfl)) (fun _ _ _ _ _ => pts_nil) (fun _ _ _ _ _ => (pe_ix ix_str pe_str (pe_call G_l_roll (hr.mono (by decide)) (by rfl) T.g_l_roll T.F_l_roll.kp T.b_l_roll .nil pass0 (pa_cons (pv 0) (pa_cons pe_int pa_nil))) (fun _ _ => rfl))))))), ?_⟩
    refine ⟨⟨_, rfl⟩, .ref d, rfl, d, 8, rfl, hd, by decide, small_i (by decide) (by decide), fun n H1 n0 n1 k1 => ⟨1, n, rfl, rfl, 1 + n, rfl, by omega, by omega, fun D hD => ?_⟩⟩
    have nD : H D = none := k1.free hD
    have Dd : D ≠ d := hd.ne_of nD
    refine lc_range (lo := 0) (n := (1 + n).toNat) (fun i H2 => Keep d H H2 ∧ ∃ ys : List Str, H2 D = some (.lst (ys.map V.str)) ∧ ys.length = i ∧ ∀ y ∈ ys, ∃ c ∈ LET.cps.toList, y = ⟨#[c]⟩) ⟨k1.put nD Dd, [], upd_same, rfl, by simp⟩ (fun i H2 hi h2 => ?_) (fun H2 h2 => ?_)
    · obtain ⟨k2, ys, e2, l2, y2⟩ := h2
      refine ⟨rfl, yesT ⟨.ref d, rfl, d, 26, rfl, k2.2, by decide, small_i (by decide) (by decide), fun r H3 r0 r1 k3 => ?_⟩⟩
      obtain ⟨c, ec, mc⟩ := at_lt (xs := LET.cps.toList) r0 (by rw [ABC26]; exact r1)
      refine ⟨LET, r, c, rfl, rfl, by decide +kernel, ec, _, k3.some Dd e2, ?_, (k2.trans k3).put nD Dd, ys ++ [⟨#[c]⟩], ?_, ?_, ?_⟩
      · rw [List.length_map]
        exact small1000 (by omega)
      · rw [upd_same, List.map_append]
        rfl
      · rw [List.length_append, l2]
        rfl
      · intro y hy
        rcases List.mem_append.mp hy with h | h
        · exact y2 y h
        · rw [List.mem_singleton.mp h]
          exact ⟨c, mc, rfl⟩
    · obtain ⟨k2, ys, e2, l2, y2⟩ := h2
      have one : ∀ y ∈ ys, y.length = 1 := fun y hy => by
        obtain ⟨c, _, rfl⟩ := y2 y hy
        rfl
      have h1 := sum_ones ys one
      have h0 : Str.length "" = 0 := by decide +kernel
      have len : (Txt.join "" ys).length = ys.length := by
        rw [join_len]
        exact h1
      refine ⟨_, D, ys, rfl, rfl, .inl (.of e2), by rw [h0, h1]; omega, q _ _ (letters_of (fun c hc => ?_) (by omega) (by omega)) k2⟩
      rw [join_cps] at hc
      obtain ⟨l, hl, hc⟩ := List.mem_flatten.mp hc
      obtain ⟨y, hy, rfl⟩ := List.mem_map.mp hl
      obtain ⟨c', hc', rfl⟩ := y2 y hy
      rw [List.mem_singleton.mp hc]
      exact hc'
def WORDS : List Str := ["a", "aa", "ab", "all", "b", "gone", "if", "item", "key", "living", "refers", "self", "without", "zzzzzzzz"]
theorem words_ok : (WORDS.all fun z => nameB (.str z)) = true := by decide +kernel
end
-- SPLIT
/-! ### the law's terms -/
section
variable {P : Program} {w : World} {K : PySem.W.Frag} {mg : Str → Option Value} {base : Heap}
def sp_integer (K : PySem.W.Frag) : Sp := fun vs H Q _ => ∃ d : Addr, vs = [.ref d] ∧ Dice H d ∧ ∀ (i : Int) (H' : Hp), intB (.int i) = true → Keep d H H' → Q (.int i) H'
theorem ok_integer (T : Txt K mg) : FnOk P w K mg base CX0 3 T.a_l_integer T.fd_l_integer ["_law_dice_here"] (sp_integer K) := by
  have G_l_roll : FnOk P w K mg base CX0 1 T.a_l_roll T.fd_l_roll ["_law_dice_here", "_law_upto"] (sp_roll K) := ok_roll T
  have G_l_pick : FnOk P w K mg base CX0 2 T.a_l_pick T.fd_l_pick ["_law_dice_here", "_law_items"] (sp_pickL K) := ok_pickL T
  refine T.F_l_integer.ok sc_l_integer (fun vs H Q E h => ?_) (fun cdv A outer s H vs Q E hr h => ?_)
  · obtain ⟨d, rfl, _⟩ := h
    rfl
  · obtain ⟨d, rfl, hd, q⟩ := h
    refine ⟨_, (pss_cons (ps_if (pt_cmpR op_eq (pe_call G_l_roll (hr.mono (by decide)) (by rfl) T.g_l_roll T.F_l_roll.kp T.b_l_roll .nil pass0 (pa_cons (pv 0) (pa_cons pe_int pa_nil))) pe_int (nomark _)) (pss_one (ps_ret (pe_call G_l_pick (hr.mono (by decide)) (by rfl) T.g_l_pick T.F_l_pick.kp T.b_l_pick .nil pass0 (pa_cons (pv 0) (pa_cons (pe_lst (pa_cons pe_int (pa_cons pe_int (pa_cons (pe_op op_sub pe_int pe_int) (pa_cons (pe_op op_sub (pe_op op_pow pe_int pe_int) pe_int) (pa_cons (pe_op op_sub pe_int (pe_op op_pow pe_int pe_int)) pa_nil)))))) pa_nil))))) pss_nil)
      (pss_one (ps_ret (pe_op op_sub (pe_op op_add (pe_call G_l_roll (hr.mono (by decide)) (by rfl) T.g_l_roll T.F_l_roll.kp T.b_l_roll .nil pass0 (pa_cons (pv 0) (pa_cons (pe_op op_sub (pe_op op_mul pe_int (pe_op op_pow pe_int pe_int)) pe_int) pa_nil))) pe_int) (pe_op op_pow pe_int pe_int))))), ?_⟩
    refine ⟨.ref d, rfl, d, 2, rfl, hd, by decide, small_i (by decide) (by decide), fun n H1 n0 n1 k1 => ⟨rfl, _, rfl, ite2 (fun _ => ?_) (fun _ => ?_)⟩⟩
    · refine ⟨.ref d, rfl, 0, 7, rfl, rfl, 10, 20, rfl, rfl, ⟨by decide, by decide, by decide⟩, _, 1, rfl, rfl, 10, 20, rfl, rfl, ⟨by decide, by decide, by decide⟩, 1, _, rfl, rfl, by show 5 ≤ sizeLine; decide, fun p hp => ?_⟩
      have pd : p ≠ d := k1.2.ne_of hp
      have k2 : Keep d H1 (upd H1 p (.lst [.int 0, .int 7, .int (0 - 7), .int (10 ^ (20 : Int).toNat - 1), .int (1 - 10 ^ (20 : Int).toNat)])) := .of_same (same_upd hp) k1.2
      refine ⟨d, p, _, rfl, k2.2, pd, upd_same, by show 0 < 5; decide, by show 5 ≤ 1000; decide, fun v H2 hv k3 => ?_⟩
      have k := k1.trans (k2.trans k3)
      simp only [List.mem_cons, List.not_mem_nil, or_false] at hv
      rcases hv with rfl | rfl | rfl | rfl | rfl
      · exact q _ H2 (by decide +kernel) k
      · exact q _ H2 (by decide +kernel) k
      · exact q _ H2 (by decide +kernel) k
      · exact q _ H2 (by decide +kernel) k
      · exact q _ H2 (by decide +kernel) k
    · have e20 : (10 : Int) ^ (20 : Int).toNat = 100000000000000000000 := by decide +kernel
      refine ⟨.ref d, rfl, 10, 20, rfl, rfl, ⟨by decide, by decide, by decide⟩, 2, _, rfl, rfl, .inl ⟨by decide, by decide⟩, _, 1, rfl, rfl, ?_⟩
      rw [e20]
      refine ⟨d, _, rfl, k1.2, by decide, Nat.lt_of_lt_of_le (show _ < 2 ^ 80 by decide) (Nat.pow_le_pow_right (by decide) (by decide)), fun r H2 r0 r1 k2 => ?_⟩
      refine ⟨r, 1, rfl, rfl, 10, 20, rfl, rfl, ⟨by decide, by decide, by decide⟩, _, _, rfl, rfl, ?_⟩
      rw [e20]
      refine q _ H2 ?_ (k1.trans k2)
      rw [intB_int, Bool.and_eq_true, decide_eq_true_eq, decide_eq_true_eq]
      omega
/-- a term: a number or a name -/
def sp_own (K : PySem.W.Frag) : Sp := fun vs H Q _ => ∃ d : Addr, vs = [.ref d] ∧ Dice H d ∧ ∀ (v : V) (H' : Hp), termB v = true → Keep d H H' → Q v H'
theorem ok_own (T : Txt K mg) : FnOk P w K mg base CX0 4 T.a_l_own_term T.fd_l_own_term ["_law_dice_here"] (sp_own K) := by
  have G_l_roll : FnOk P w K mg base CX0 1 T.a_l_roll T.fd_l_roll ["_law_dice_here", "_law_upto"] (sp_roll K) := ok_roll T
  have G_l_integer : FnOk P w K mg base CX0 3 T.a_l_integer T.fd_l_integer ["_law_dice_here"] (sp_integer K) := ok_integer T
  have G_l_word : FnOk P w K mg base CX0 2 T.a_l_word T.fd_l_word ["_law_dice_here"] (sp_word K) := ok_word T
  have G_l_pick : FnOk P w K mg base CX0 2 T.a_l_pick T.fd_l_pick ["_law_dice_here", "_law_items"] (sp_pickL K) := ok_pickL T
  refine T.F_l_own_term.ok sc_l_own_term (fun vs H Q E h => ?_) (fun cdv A outer s H vs Q E hr h => ?_)
  · obtain ⟨d, rfl, _⟩ := h
    rfl
  · obtain ⟨d, rfl, hd, q⟩ := h
    refine ⟨_, (pss_cons (ps_set (i := 1) sc_l_own_term.nd rfl (.inl rfl) (pe_call G_l_roll (hr.mono (by decide)) (by rfl) T.g_l_roll T.F_l_roll.kp T.b_l_roll .nil pass0 (pa_cons (pv 0) (pa_cons pe_int pa_nil))))
      (pss_cons (ps_if (pt_cmpR op_eq (pv 1) pe_int (nomark _)) (pss_one (ps_ret (pe_call G_l_integer (hr.mono (by decide)) (by rfl) T.g_l_integer T.F_l_integer.kp T.b_l_integer .nil pass0 (pa_cons (pv 0) pa_nil)))) pss_nil)
      (pss_one (ps_ret (pe_ifExp (pt_cmpR op_eq (pv 1) pe_int (nomark _)) (pe_call G_l_word (hr.mono (by decide)) (by rfl) T.g_l_word T.F_l_word.kp T.b_l_word .nil pass0 (pa_cons (pv 0) pa_nil)) (pe_call G_l_pick (hr.mono (by decide)) (by rfl) T.g_l_pick T.F_l_pick.kp T.b_l_pick .nil pass0 (pa_cons (pv 0) (pa_cons (pe_lst (pa_cons pe_str (pa_cons pe_str (pa_cons pe_str (pa_cons pe_str pa_nil))))) pa_nil)))))))), ?_⟩
    refine ⟨.ref d, rfl, d, 3, rfl, hd, by decide, small_i (by decide) (by decide), fun n H1 n0 n1 k1 => ⟨_, rfl, rfl, _, rfl, ite2 (fun _ => ?_) (fun _ => ?_)⟩⟩
    · refine ⟨.ref d, rfl, d, rfl, k1.2, fun i H2 hi k2 => q _ H2 ?_ (k1.trans k2)⟩
      unfold termB
      rw [hi, Bool.true_or]
    · refine ⟨_, rfl, rfl, _, rfl, ite2 (fun _ => ?_) (fun _ => ?_)⟩
      · refine ⟨.ref d, rfl, d, rfl, k1.2, fun z H2 hz k2 => q _ H2 ?_ (k1.trans k2)⟩
        unfold termB
        rw [hz, Bool.or_true]
      · refine ⟨.ref d, rfl, by show 4 ≤ sizeLine; decide, fun p hp => ?_⟩
        have pd : p ≠ d := k1.2.ne_of hp
        have k2 : Keep d H1 (upd H1 p (.lst [.str "x", .str "y", .str "if", .str "zzzzzzzz"])) := .of_same (same_upd hp) k1.2
        refine ⟨d, p, _, rfl, k2.2, pd, upd_same, by show 0 < 4; decide, by show 4 ≤ 1000; decide, fun v H2 hv k3 => ?_⟩
        have k := k1.trans (k2.trans k3)
        simp only [List.mem_cons, List.not_mem_nil, or_false] at hv
        rcases hv with rfl | rfl | rfl | rfl
        · exact q _ H2 (by decide +kernel) k
        · exact q _ H2 (by decide +kernel) k
        · exact q _ H2 (by decide +kernel) k
        · exact q _ H2 (by decide +kernel) k
theorem four {α : Type} : ∀ {xs : List α}, 1 ≤ xs.length → xs.length ≤ 4 → (∃ a, xs = [a]) ∨ (∃ a b, xs = [a, b]) ∨ (∃ a b c, xs = [a, b, c]) ∨ ∃ a b c d, xs = [a, b, c, d]
  | [a], _, _ => .inl ⟨a, rfl⟩
  | [a, b], _, _ => .inr (.inl ⟨a, b, rfl⟩)
  | [a, b, c], _, _ => .inr (.inr (.inl ⟨a, b, c, rfl⟩))
  | [a, b, c, d], _, _ => .inr (.inr (.inr ⟨a, b, c, d, rfl⟩))
  | a :: b :: c :: d :: e :: xs, _, h => absurd h (by simp only [List.length_cons]; omega)
/-- a place made of single terms -/
def sp_obo (T : Txt K mg) : Sp := fun vs H Q E => ∃ (src : V) (t : Addr) (xs : List V) (m : Bool), vs = [src, .ref t, .bl m] ∧ SqT K H t xs ∧ 1 ≤ xs.length ∧ xs.length ≤ 4 ∧ Good H src ∧ (∀ y ∈ xs, Good H y) ∧ MadeP T H src xs (.bl m) Q E
theorem ok_obo (T : Txt K mg) : FnOk P w K mg base (L2.CX P w) 8 T.a_l_one_by_one T.fd_l_one_by_one ["_law_source", "_law_terms", "_law_marked"] (sp_obo T) := by
  have G_Place_init : FnA P w K mg base (L2.CX P w) 6 T.a_Place_init (sp_plA T) := ok_pl T
  refine T.F_l_one_by_one.okX sc_l_one_by_one (fun vs H Q E h => ?_) (fun cdv A outer s H vs Q E hr h => ?_)
  · obtain ⟨src, t, xs, m, rfl, _⟩ := h
    rfl
  · obtain ⟨src, t, xs, m, rfl, ht, x1, x4, g1, g3, q⟩ := h
    refine ⟨_, (pss_cons (ps_if (pt_cmpR op_eq (pe_callB call_len_seq (by rfl) T.n_len (by decide +kernel) (pa_cons (pv 1) pa_nil)) pe_int (nomark _)) (pss_one (ps_ret (pe_makeA (ks := ["filtered"]) (pe_glob (v := .ref T.c_Place) rfl T.g_Place rfl) T.M_Place G_Place_init (hr.mono (by decide)) (passes_call (takes_of rfl rfl rfl rfl) (fun _ _ _ _ h => h)) (pa_cons (pv 0) (pa_cons (pe_ix ix_tup (pv 1) pe_int (fun _ _ => rfl)) pa_nil)) (pk_cons (pv 2) pk_nil)))) pss_nil)
      (pss_cons (ps_if (pt_cmpR op_eq (pe_callB call_len_seq (by rfl) T.n_len (by decide +kernel) (pa_cons (pv 1) pa_nil)) pe_int (nomark _)) (pss_one (ps_ret (pe_makeA (ks := ["filtered"]) (pe_glob (v := .ref T.c_Place) rfl T.g_Place rfl) T.M_Place G_Place_init (hr.mono (by decide)) (passes_call (takes_of rfl rfl rfl rfl) (fun _ _ _ _ h => h)) (pa_cons (pv 0) (pa_cons (pe_ix ix_tup (pv 1) pe_int (fun _ _ => rfl)) (pa_cons (pe_ix ix_tup (pv 1) pe_int (fun _ _ => rfl)) pa_nil))) (pk_cons (pv 2) pk_nil)))) pss_nil)
      (pss_cons (ps_if (pt_cmpR op_eq (pe_callB call_len_seq (by rfl) T.n_len (by decide +kernel) (pa_cons (pv 1) pa_nil)) pe_int (nomark _)) (pss_one (ps_ret (pe_makeA (ks := ["filtered"]) (pe_glob (v := .ref T.c_Place) rfl T.g_Place rfl) T.M_Place G_Place_init (hr.mono (by decide)) (passes_call (takes_of rfl rfl rfl rfl) (fun _ _ _ _ h => h)) (pa_cons (pv 0) (pa_cons (pe_ix ix_tup (pv 1) pe_int (fun _ _ => rfl)) (pa_cons (pe_ix ix_tup (pv 1) pe_int (fun _ _ => rfl)) (pa_cons (pe_ix ix_tup (pv 1) pe_int (fun _ _ => rfl)) pa_nil)))) (pk_cons (pv 2) pk_nil)))) pss_nil)
      (pss_one (ps_ret (pe_makeA (ks := ["filtered"]) (pe_glob (v := .ref T.c_Place) rfl T.g_Place rfl) T.M_Place G_Place_init (hr.mono (by decide)) (passes_call (takes_of rfl rfl rfl rfl) (fun _ _ _ _ h => h)) (pa_cons (pv 0) (pa_cons (pe_ix ix_tup (pv 1) pe_int (fun _ _ => rfl)) (pa_cons (pe_ix ix_tup (pv 1) pe_int (fun _ _ => rfl)) (pa_cons (pe_ix ix_tup (pv 1) pe_int (fun _ _ => rfl)) (pa_cons (pe_ix ix_tup (pv 1) pe_int (fun _ _ => rfl)) pa_nil))))) (pk_cons (pv 2) pk_nil))))))), ?_⟩
    have l4 : xs.length ≤ sizeLine := sz_of (Nat.le_trans x4 (by decide))
    have fin := make_pl T (kws := [("filtered", .bl m)]) g1 (.bl m) g3 l4 (.inr rfl) q
    rcases four x1 x4 with ⟨a, rfl⟩ | ⟨a, b, rfl⟩ | ⟨a, b, c, rfl⟩ | ⟨a, b, c, e, rfl⟩
    · exact ⟨.ref t, rfl, t, _, rfl, .inr ht, rfl, _, rfl, iteT ⟨rfl, src, rfl, .ref t, rfl, t, _, 0, a, rfl, rfl, ht, rfl, .bl m, rfl, rfl, fin⟩⟩
    · exact ⟨.ref t, rfl, t, _, rfl, .inr ht, rfl, _, rfl, iteF ⟨.ref t, rfl, t, _, rfl, .inr ht, rfl, _, rfl, iteT ⟨rfl, src, rfl, .ref t, rfl, t, _, 0, a, rfl, rfl, ht, rfl, .ref t, rfl, t, _, 1, b, rfl, rfl, ht, rfl, .bl m, rfl, rfl, fin⟩⟩⟩
    · exact ⟨.ref t, rfl, t, _, rfl, .inr ht, rfl, _, rfl, iteF ⟨.ref t, rfl, t, _, rfl, .inr ht, rfl, _, rfl, iteF ⟨.ref t, rfl, t, _, rfl, .inr ht, rfl, _, rfl, iteT ⟨rfl, src, rfl, .ref t, rfl, t, _, 0, a, rfl, rfl, ht, rfl, .ref t, rfl, t, _, 1, b, rfl, rfl, ht, rfl, .ref t, rfl, t, _, 2, c, rfl, rfl, ht, rfl, .bl m, rfl, rfl, fin⟩⟩⟩⟩
    · exact ⟨.ref t, rfl, t, _, rfl, .inr ht, rfl, _, rfl, iteF ⟨.ref t, rfl, t, _, rfl, .inr ht, rfl, _, rfl, iteF ⟨.ref t, rfl, t, _, rfl, .inr ht, rfl, _, rfl, iteF ⟨rfl, src, rfl, .ref t, rfl, t, _, 0, a, rfl, rfl, ht, rfl, .ref t, rfl, t, _, 1, b, rfl, rfl, ht, rfl, .ref t, rfl, t, _, 2, c, rfl, rfl, ht, rfl, .ref t, rfl, t, _, 3, e, rfl, rfl, ht, rfl, .bl m, rfl, rfl, fin⟩⟩⟩⟩
end
-- SPLIT
/-! ### what the law tells of a place -/
theorem iss_term {v : V} (h : termB v = true) : issB v = nameB v := by
  rcases term_cases h with ⟨i, rfl, _⟩ | ⟨z, rfl, hz⟩
  · rfl
  · rw [hz]
    rfl
/-- what is told of a place, as data -/
def toldD (src : Str) (xs : List V) (m : Bool) (zs : List Str) : PyData := .list [.str src, .tuple (xs.map termD), .bool m, .tuple (zs.map PyData.str), .int xs.length, .str (placeS src xs m)]
theorem dps_strs {K : PySem.W.Frag} {H : Hp} : ∀ zs : List Str, DpAll K H (zs.map V.str) (zs.map PyData.str)
  | [] => .nil
  | z :: zs => .cons (.str z) (dps_strs zs)
theorem low_name {z : Str} (h : nameB (.str z) = true) : Low z := by
  rw [nameB_str, Bool.and_eq_true, Bool.and_eq_true] at h
  intro c hc
  have a := of_decide_eq_true (List.all_eq_true.mp h.2 c hc)
  exact Nat.lt_trans (let_small c a) (by decide)
theorem low_term {v : V} (h : termB v = true) : Low (termS v) := by
  rcases term_cases h with ⟨i, rfl, _⟩ | ⟨z, rfl, hz⟩
  · exact low_of _
  · exact low_name hz
theorem low_terms {xs : List V} (h : termsB xs = true) : Low (termsS xs) := low_join (low_of _) fun y hy => by
  obtain ⟨v, hv, rfl⟩ := List.mem_map.mp hy
  exact low_term (List.all_eq_true.mp (terms_all h) v hv)
theorem low_place {src : Str} {xs : List V} {m : Bool} (h1 : nameB (.str src) = true) (h2 : termsB xs = true) : Low (placeS src xs m) := by
  refine ((((low_empty.app ?_).app (low_name h1)).app (low_of _)).app (low_terms h2)).app (low_of _)
  cases m
  · exact low_of _
  · exact low_of _
theorem place_len {src : Str} {xs : List V} {m : Bool} (h1 : nameB (.str src) = true) (h2 : termsB xs = true) : (placeS src xs m).length ≤ 20000 := by
  have l0 : (if m = true then ("+" : Str) else ("" : Str)).length ≤ 1 := by
    cases m
    · exact Nat.zero_le _
    · exact Nat.le_refl _
  have l1 := name_len h1
  have l2 := termsS_len h2
  have c1 : ("(" : Str).length = 1 := rfl
  have c2 : (")" : Str).length = 1 := rfl
  have c0 : (Str.empty : Str).length = 0 := rfl
  unfold placeS
  rw [Str.length_append, Str.length_append, Str.length_append, Str.length_append, Str.length_append]
  omega
theorem brief_term {v : V} (h : termB v = true) : Brief 1000 (termD v) := by
  rcases term_cases h with ⟨i, rfl, hi⟩ | ⟨z, rfl, hz⟩
  · exact (brief_int (Nat.lt_trans hi (by decide))).more (by decide)
  · exact brief_str (low_name hz) (name_len hz)
theorem brief_told {src : Str} {xs : List V} {m : Bool} {zs : List Str} (h1 : nameB (.str src) = true) (h2 : termsB xs = true) (hz : ∀ z ∈ zs, nameB (.str z) = true) (z4 : zs.length ≤ 4) : Brief 100000 (toldD src xs m zs) := by
  have x4 := terms_len h2
  have b1 : BriefAll ((1000 + 1) * xs.length) (xs.map termD) := .map fun v hv => brief_term (List.all_eq_true.mp (terms_all h2) v hv)
  have b2 : BriefAll ((1000 + 1) * zs.length) (zs.map PyData.str) := .map fun z h => brief_str (low_name (hz z h)) (name_len (hz z h))
  have b := BriefAll.list (.cons (brief_str (low_name h1) (name_len h1)) (.cons b1.tuple (.cons (brief_bool m) (.cons b2.tuple (.cons (brief_int (i := (xs.length : Int)) (by
    have e : (xs.length : Int).natAbs = xs.length := rfl
    rw [e]
    exact Nat.lt_of_le_of_lt x4 (by decide))) (.cons (brief_str (low_place (m := m) h1 h2) (place_len h1 h2)) .nil))))))
  exact b.more (by omega)
theorem depth_told {src : Str} {xs : List V} {m : Bool} {zs : List Str} (h2 : termsB xs = true) : (toldD src xs m zs).depth ≤ 30 := by
  have d := depth_terms (terms_all h2)
  have e : ∀ zs : List Str, PyData.depthAll (zs.map PyData.str) ≤ 1 := fun zs => by
    induction zs with
    | nil => simp [PyData.depthAll]
    | cons z zs ih =>
      rw [List.map_cons, PyData.depthAll, PyData.depth]
      omega
  have e' := e zs
  unfold toldD
  simp only [PyData.depth, PyData.depthAll]
  omega
theorem names_in {xs : List V} {k : Str} (h : k ∈ (xs.filter nameB).map strV) : nameB (.str k) = true := by
  obtain ⟨v, hv, rfl⟩ := List.mem_map.mp h
  obtain ⟨_, z⟩ := List.mem_filter.mp hv
  cases v with
  | str z' => exact z
  | _ => cases z
section
variable {P : Program} {w : World} {K : PySem.W.Frag} {mg : Str → Option Value} {base : Heap}
def sp_told (T : Txt K mg) : Sp := fun vs H Q _ => ∃ (a : Addr) (src : Str) (t : Addr) (xs : List V) (m : Bool), vs = [.ref a, .str src, .ref t, .bl m] ∧ PlV K T.c_Place H a (.str src) xs (.bl m) ∧ nameB (.str src) = true ∧ termsB xs = true ∧ (∀ y ∈ xs, Good H y) ∧ SqT K H t xs ∧ ∀ H', Same H H' → Q (.bl true) H'
theorem ok_told (T : Txt K mg) : FnG P w K mg base CX0 5 T.a_l_is_told T.fd_l_is_told ["_law_place", "_law_source", "_law_terms", "_law_marked"] (sp_told T) := by
  have G_Place_source : FnOk P w K mg base CX0 1 T.a_Place_source T.fd_Place_source ["self"] (sp_src T) := ok_src T
  have G_Place_terms : FnOk P w K mg base CX0 1 T.a_Place_terms T.fd_Place_terms ["self"] (sp_trm T) := ok_trm T
  have G_Place_filtered : FnOk P w K mg base CX0 1 T.a_Place_filtered T.fd_Place_filtered ["self"] (sp_flt T) := ok_flt T
  have G_Place_variables : FnOk P w K mg base CX0 3 T.a_Place_variables T.fd_Place_variables ["self"] (sp_vrs T) := ok_vrs T
  have G_Place_len : FnOk P w K mg base CX0 1 T.a_Place_len T.fd_Place_len ["self"] (sp_plen T) := ok_plen T
  have G_Place_str : FnOk P w K mg base CX0 2 T.a_Place_str T.fd_Place_str ["self"] (sp_pstr T) := ok_pstr T
  refine okG T.F_l_is_told sc_l_is_told (fun vs H Q E h => ?_) (fun cdv A outer s H vs Q E gu hr h => ?_)
  · obtain ⟨a, src, t, xs, m, rfl, _⟩ := h
    rfl
  · obtain ⟨a, src, t, xs, m, rfl, pl, h1, h2, g3, ht, q⟩ := h
    refine ⟨_, (pss_cons (ps_if (pt_not (pt_val (pe_callB call_isi (by rfl) T.n_isinstance (by decide +kernel) (pa_cons (pv 0) (pa_cons (pe_glob (v := .ref T.c_Place) rfl T.g_Place rfl) pa_nil))))) (pss_one (ps_ret pe_bl)) pss_nil)
      (pss_cons (ps_set (i := 4) sc_l_is_told.nd rfl (.inl rfl) (pe_callB (cr_sortedTx rfl) (by rfl) T.n_sorted (by decide +kernel) (pa_cons (pe_callTy (cr_setS rfl) (by rfl) T.n_set (by decide +kernel) (pa_cons (pe_lc (own := [("_law_term", 7)]) (g := gName 7) (tt := _) rfl sc_l_is_told.nd (pi_tup (pv 2)) (blkOk_by (N := ["_law_place", "_law_source", "_law_terms", "_law_marked", "_law_names", "_law_text", "_law_told", "_law_term"]) (sc := defScope s_l_is_told) (by decide +kernel)) (fun _ _ _ _ _ => pg_name (i := 7) sc_l_is_told.nd rfl (Or.inl rfl)) (fun _ _ _ _ _ => (pts_one (pt_val (pe_callB (call_isi : CallR _ (.builtin "isinstance") (rIsi K)) (by rfl) T.n_isinstance (by decide +kernel) (pa_cons (pv 7) (pa_cons (pe_bltn (v := .ty "str") (by rfl) T.n_str (by decide +kernel) rfl) pa_nil)))))) (fun _ _ _ _ _ => (pv 7))) pa_nil)) pa_nil)))
      (pss_cons (ps_set (i := 5) sc_l_is_told.nd rfl (.inl rfl) (pe_op op_add_str (pe_op op_add_str (pe_op op_add_str (pv 1) pe_str) (pe_join pe_str (pe_lc (own := [("_law_term", 7)]) (g := gName 7) (tt := tYes) rfl sc_l_is_told.nd (pi_tup (pv 2)) (blkOk_by (N := ["_law_place", "_law_source", "_law_terms", "_law_marked", "_law_names", "_law_text", "_law_told", "_law_term"]) (sc := defScope s_l_is_told) (by decide +kernel)) (fun _ _ _ _ _ => pg_name (i := 7) sc_l_is_told.nd rfl (Or.inl rfl)) (fun _ _ _ _ _ => pts_nil) (fun _ _ _ _ _ => (pe_callTy call_str_any (by rfl) T.n_str (by decide +kernel) (pa_cons (pv 7) pa_nil)))))) pe_str))
      (pss_cons (ps_set (i := 6) sc_l_is_told.nd rfl (.inl rfl) (pe_lst (pa_cons (pe_prop (pv 0) T.cl_Place T.p_Place_source G_Place_source (hr.mono (by decide)) T.b_Place_source .nil pass0 rfl) (pa_cons (pe_prop (pv 0) T.cl_Place T.p_Place_terms G_Place_terms (hr.mono (by decide)) T.b_Place_terms .nil pass0 rfl) (pa_cons (pe_prop (pv 0) T.cl_Place T.p_Place_filtered G_Place_filtered (hr.mono (by decide)) T.b_Place_filtered .nil pass0 rfl) (pa_cons (pe_prop (pv 0) T.cl_Place T.p_Place_variables G_Place_variables (hr.mono (by decide)) T.b_Place_variables .nil pass0 rfl) (pa_cons (pe_callB (call_lenO G_Place_len T.b_Place_len pass0 (hr.mono (by decide)) ⟨T.m_Place_len.1, T.m_Place_len.2⟩) (by rfl) T.n_len (by decide +kernel) (pa_cons (pv 0) pa_nil)) (pa_cons (pe_callTy (call_strO G_Place_str T.b_Place_str pass0 (hr.mono (by decide)) ⟨T.m_Place_str.1, T.m_Place_str.2⟩) (by rfl) T.n_str (by decide +kernel) (pa_cons (pv 0) pa_nil)) pa_nil))))))))
      (pss_one (ps_ret (pe_cmpR op_eq (pe_callB (call_reprD (by exact gu) hr.units) (by rfl) T.n_repr (by decide +kernel) (pa_cons (pv 6) pa_nil)) (pe_callB (call_reprD (by exact gu) hr.units) (by rfl) T.n_repr (by decide +kernel) (pa_cons (pe_lst (pa_cons (pv 1) (pa_cons (pv 2) (pa_cons (pv 3) (pa_cons (pe_callTy call_tuple_of (by rfl) T.n_tuple (by decide +kernel) (pa_cons (pv 4) pa_nil)) (pa_cons (pe_callB call_len_seq (by rfl) T.n_len (by decide +kernel) (pa_cons (pv 2) pa_nil)) (pa_cons (pe_ifExp (pt_val (pv 3)) (pe_op op_add_str pe_str (pv 5)) (pv 5)) pa_nil))))))) pa_nil)) (nomark _)))))))), ?_⟩
    obtain ⟨dx, tp, ea, htp⟩ := pl
    refine ⟨.ref a, rfl, .ref a, .ref T.c_Place, _, _, true, rfl, .own _, T.is_Place.ty ea, ko_self, _, rfl, iteF ?_⟩
    have x4 := terms_len h2
    have ta := terms_all h2
    have z4 : ((xs.filter nameB).map strV).length ≤ 4 := by
      rw [List.length_map]
      exact Nat.le_trans (List.length_filter_le _ _) x4
    refine ⟨.ref t, rfl, t, rfl, ⟨_, ht⟩, fun D hD => lc_pure (walk_tup (xs := xs)) hD xs id nameB (fun x => x) rfl (by omega) (by decide) (fun H1 s => mv_same s _ _ ht) (fun i H1 x H' s y => ?_)
      (fun c H1 hc s Q h => ?_) (fun c H1 hc _ s Q h => ?_) (fun x => rfl) (fun H1 s1 e => ?_)⟩
    · obtain ⟨rfl, hc⟩ := y
      exact ⟨rfl, x, hc, rfl⟩
    · obtain ⟨ft, f1, f2⟩ := ty_str (K := K) ((g3 c hc).same s).item
      rw [iss_term (List.all_eq_true.mp ta c hc)] at f2
      exact ⟨c, rfl, c, .ty "str", ft, _, _, rfl, .ty "str", f1, f2, _, rfl, h H1 (.refl H1)⟩
    · exact ⟨c, rfl, h H1 (.refl H1)⟩
    rw [List.map_id', names_strs xs] at e
    refine ⟨D, (xs.filter nameB).map strV, rfl, .inr (.of e), by omega, fun b c hb hc => ?_⟩
    have s2 := snew (o := TxtO w b (fun j => decide (j ∈ (xs.filter nameB).map strV)) c) s1 hb
    refine ⟨b, _, c, rfl, upd_same, by omega, fun zs p k1 k2 k3 k4 hp => ?_⟩
    have s3 := snew (o := .lst (zs.map V.str)) s2 hp
    have e3 : (upd (upd H1 b (TxtO w b (fun j => decide (j ∈ (xs.filter nameB).map strV)) c)) p (.lst (zs.map V.str))) p = some (.lst (zs.map V.str)) := upd_same
    have k3' : ∀ k, k ∈ zs ↔ k ∈ (xs.filter nameB).map strV := fun k => by rw [k3 k, decide_eq_true_eq]
    have z4' : zs.length ≤ 4 := by omega
    -- the text
    have l1 := name_len h1
    have l2 := termsS_len h2
    have c1 : ("(" : Str).length = 1 := rfl
    have c2 : (")" : Str).length = 1 := rfl
    have ht3 := mv_same s3 _ _ ht
    refine ⟨.str src, rfl, src, "(", rfl, rfl, sz_of (by rw [c1]; omega), ⟨_, rfl⟩, .ref t, rfl, t, rfl, ⟨_, ht3⟩, fun D2 hD2 => lc_pure (walk_tup (xs := xs)) hD2 xs id (fun _ => true) (fun x => .str (termS x)) rfl (by omega) (by decide) (fun H1 s => mv_same s _ _ ht3) (fun i H1 x H' s y => ?_)
      (fun c H1 hc s Q h => h H1 (.refl H1)) (fun c H1 hc _ s Q h => ?_) (fun x => rfl) (fun H4 s4 e4 => ?_)⟩
    · obtain ⟨rfl, hc⟩ := y
      exact ⟨rfl, x, hc, rfl⟩
    · rcases term_cases (List.all_eq_true.mp ta c hc) with ⟨i, rfl, hi⟩ | ⟨z, rfl, hz⟩
      · exact ⟨.int i, rfl, .inl ⟨i, rfl, log_small hi, h H1 (.refl H1)⟩⟩
      · exact ⟨.str z, rfl, .inr ⟨z, rfl, h H1 (.refl H1)⟩⟩
    rw [filt_all] at e4
    have sm := sum_len ta
    refine ⟨", ", D2, xs.map termS, rfl, rfl, .inl (.of (by rw [e4, List.map_map]; rfl)), ?_, ?_⟩
    · rw [List.length_map]
      have c : (", " : Str).length = 2 := rfl
      rw [c]
      omega
    have s5 := s3.trans s4
    have e5 := s4 _ _ e3
    have lj : (Txt.join ", " (xs.map termS)).length ≤ 9000 := l2
    refine ⟨_, _, rfl, rfl, sz_of (by rw [Str.length_append]; omega), _, ")", rfl, rfl, sz_of (by rw [Str.length_append, Str.length_append]; omega), ?_⟩
    -- what the place tells
    have ea5 := s5 _ _ ea
    have pl5 : PlV K T.c_Place H4 a (.str src) xs (.bl m) := ⟨dx, tp, ea5, mv_same s5 _ _ htp⟩
    have g5 : ∀ y ∈ xs, Good H4 y := fun y hy => (g3 y hy).same s5
    refine ⟨.ref a, rfl, a, dx, _, rfl, ea5, a, .str src, .bl m, xs, rfl, pl5, ?_⟩
    refine ⟨.ref a, rfl, a, dx, _, rfl, ea5, a, .str src, .bl m, xs, rfl, pl5, fun tq htq => ?_⟩
    refine ⟨.ref a, rfl, a, dx, _, rfl, ea5, a, .str src, .bl m, xs, rfl, pl5, ?_⟩
    refine ⟨.ref a, rfl, a, dx, _, rfl, ea5, a, .str src, .bl m, xs, rfl, pl5, h2, g5, fun tv ys H6 s6 e6 m1 m2 m3 => ?_⟩
    have eq : ys = zs := uniq m1 k1 m2 k2 fun k => by rw [m3 k, k3' k]
    subst eq
    have ea6 := s6 _ _ ea5
    have pl6 := pl5.same s6
    refine ⟨.ref a, rfl, a, rfl, ⟨dx, _, ea6⟩, a, .str src, .bl m, xs, rfl, pl6, (xs.length : Int), rfl, by omega, by omega, ?_⟩
    refine ⟨.ref a, rfl, a, rfl, ⟨dx, _, ea6⟩, a, src, m, xs, rfl, pl6, h1, h2, fun H7 s7 => ⟨_, rfl, by show 6 ≤ sizeLine; decide, fun l hl => ?_⟩⟩
    have s67 := s6.trans s7
    have s57 := s5.trans s67
    have s8 : Same H7 (upd H7 l (.lst [.str src, .ref tq, .bl m, .ref tv, .int xs.length, .str (placeS src xs m)])) := same_upd hl
    have zn : ∀ z ∈ ys, nameB (.str z) = true := fun z hz => names_in ((k3' z).mp hz)
    have br := brief_told (m := m) h1 h2 zn z4'
    have dt := depth_told (src := src) (m := m) (zs := ys) h2
    have dps : ∀ {H' : Hp} {u v : Addr}, SqT K H' u xs → SqT K H' v (ys.map V.str) → DpAll K H' [.str src, .ref u, .bl m, .ref v, .int xs.length, .str (placeS src xs m)] [.str src, .tuple (xs.map termD), .bool m, .tuple (ys.map PyData.str), .int xs.length, .str (placeS src xs m)] := fun hu hv =>
      .cons (.str _) (.cons (.tup hu (dps_terms ta)) (.cons (.bl _) (.cons (.tup hv (dps_strs ys)) (.cons (.int _) (.cons (.str _) .nil)))))
    have tq8 : SqT K (upd H7 l (.lst [.str src, .ref tq, .bl m, .ref tv, .int xs.length, .str (placeS src xs m)])) tq xs := mv_same (s67.trans s8) _ _ htq
    have tv8 : SqT K (upd H7 l (.lst [.str src, .ref tq, .bl m, .ref tv, .int xs.length, .str (placeS src xs m)])) tv (ys.map V.str) := mv_same s8 _ _ (.of (s7 _ _ e6))
    refine ⟨.ref l, rfl, .ref l, toldD src xs m ys, rfl, .lst (.of upd_same) (dps tq8 tv8), br.sh, br.nd, dt, br.len (by decide), ?_⟩
    have s58 := s57.trans s8
    have e58 := (s67.trans s8) _ _ e5
    refine ⟨.str src, rfl, .ref t, rfl, .bl m, rfl, .ref p, rfl, p, _, rfl, .inl ⟨.of e58, fun u hu => ?_⟩⟩
    have s9 := snew (o := .tup (ys.map V.str)) s58 hu
    refine ⟨.ref t, rfl, t, xs, rfl, .inr (mv_same s9 _ _ ht), ?_⟩
    have lt : (src ++ ("(" : Str) ++ Txt.join ", " (xs.map termS) ++ (")" : Str)).length ≤ 20000 := by
      rw [Str.length_append, Str.length_append, Str.length_append]
      omega
    have zp : m = true → ("+" : Str) ++ (src ++ ("(" : Str) ++ Txt.join ", " (xs.map termS) ++ (")" : Str)) = placeS src xs m := fun em => by
      rw [em]
      unfold placeS termsS
      rw [if_pos rfl, Str.empty_append]
      simp only [Str.append_assoc]
    have zn' : ¬ m = true → (src ++ ("(" : Str) ++ Txt.join ", " (xs.map termS) ++ (")" : Str)) = placeS src xs m := fun em => by
      unfold placeS termsS
      rw [if_neg em, Str.empty_append]
      have e : (("" : Str) ++ src) = src := Str.empty_append src
      rw [e]
    generalize (src ++ ("(" : Str) ++ Txt.join ", " (xs.map termS) ++ (")" : Str)) = tx at lt zp zn' ⊢
    have cp : ("+" : Str).length = 1 := rfl
    have tt9 : ∀ {H' : Hp}, Same H H' → SqT K H' t xs := fun s => mv_same s _ _ ht
    refine ⟨.bl m, rfl, m, rfl, ite2 (fun em => ⟨.str tx, rfl, "+", tx, rfl, rfl, sz_of (by omega), by show 6 ≤ sizeLine; decide, fun l2 hl2 => ?_⟩) (fun em => ⟨_, rfl, by show 6 ≤ sizeLine; decide, fun l2 hl2 => ?_⟩)⟩
    · rw [zp em]
      have s10 := snew (o := .lst [.str src, .ref t, .bl m, .ref u, .int xs.length, .str (placeS src xs m)]) s9 hl2
      refine ⟨_, toldD src xs m ys, rfl, .lst (.of upd_same) (dps (tt9 s10) (.of ?_)), br.sh, br.nd, dt, br.len (by decide), rfl, ?_⟩
      · exact same_upd hl2 _ _ upd_same
      · rw [decide_eq_true rfl]
        exact q _ s10
    · rw [zn' em]
      have s10 := snew (o := .lst [.str src, .ref t, .bl m, .ref u, .int xs.length, .str (placeS src xs m)]) s9 hl2
      refine ⟨_, toldD src xs m ys, rfl, .lst (.of upd_same) (dps (tt9 s10) (.of ?_)), br.sh, br.nd, dt, br.len (by decide), rfl, ?_⟩
      · exact same_upd hl2 _ _ upd_same
      · rw [decide_eq_true rfl]
        exact q _ s10
end
-- SPLIT
/-! ### the signs -/
section
variable {P : Program} {w : World} {K : PySem.W.Frag} {mg : Str → Option Value} {base : Heap}
def sp_sgr (T : Txt K mg) : Sp := fun vs H Q _ => ∃ (a : Addr) (src : Str) (t : Addr) (xs : List V) (m : Bool), vs = [.ref a, .str src, .ref t, .bl m] ∧ PlV K T.c_Place H a (.str src) xs (.bl m) ∧ nameB (.str src) = true ∧ termsB xs = true ∧ (∀ y ∈ xs, Good H y) ∧ SqT K H t xs ∧ ∀ H', Same H H' → Q (.bl true) H'
theorem un_step (T : Txt K mg) {f : V → V} {H : Hp} {a : Addr} {src : Str} {xs : List V} {m : Bool} {Q : VK} {E : XK} (pl : PlV K T.c_Place H a (.str src) xs (.bl m)) (h1 : nameB (.str src) = true) (h2 : termsB xs = true) (g3 : ∀ y ∈ xs, Good H y)
    (k : ∀ x H', Same H H' → PlV K T.c_Place H' x (.str src) xs (f (.bl m)) → Q (.ref x) H') : rUnO T.c_Place (sp_sgn T f) E (.ref a) H Q := by
  obtain ⟨dx, t, ea, ht⟩ := id pl
  exact ⟨a, rfl, ⟨dx, _, ea⟩, a, .str src, m, xs, rfl, pl, h1, h2, .str src (name_len h1), g3, fun x H' _ s p => k x H' s p⟩
/-- a pair: a place and its mark -/
def Sg (T : Txt K mg) (src : Str) (xs : List V) (H : Hp) (q : Addr × Addr × Bool) : Prop := H q.1 = some (.tup [.ref q.2.1, .bl q.2.2]) ∧ PlV K T.c_Place H q.2.1 (.str src) xs (.bl q.2.2)
theorem Sg.same {T : Txt K mg} {src : Str} {xs : List V} {H H' : Hp} {q : Addr × Addr × Bool} (g : Sg T src xs H q) (s : Same H H') : Sg T src xs H' q := ⟨s _ _ g.1, g.2.same s⟩
/-- .. laid -/
theorem laid (T : Txt K mg) {H : Hp} {src : Str} {xs : List V} {x l : Addr} {b : Bool} (p : PlV K T.c_Place H x (.str src) xs (.bl b)) (n : H l = none) : ∃ H', upd H l (.tup [.ref x, .bl b]) = H' ∧ Same H H' ∧ Sg T src xs H' (l, x, b) :=
  ⟨_, rfl, same_upd n, upd_same, p.same (same_upd n)⟩
theorem dec3 {b m : Bool} {src : Str} {xs : List V} : (decide (src = src) && decide (xs = xs) && decide (b = m)) = (b == m) := by
  rw [decide_eq_true rfl, decide_eq_true rfl, Bool.true_and, Bool.true_and]
  cases b
  · cases m <;> rfl
  · cases m <;> rfl
/-- two places of the same source and terms: == -/
theorem eq_step (T : Txt K mg) {H : Hp} {x a : Addr} {src : Str} {xs : List V} {b m : Bool} {Q : VK} {E : XK} (p : PlV K T.c_Place H x (.str src) xs (.bl b)) (pl : PlV K T.c_Place H a (.str src) xs (.bl m)) (h2 : termsB xs = true) (k : Q (.bl (b == m)) H) : rEqO K T.c_Place (sp_peq T) E (.ref x) (.ref a) H Q := by
  obtain ⟨dx, t, ex, ht⟩ := id p
  obtain ⟨da, u, ea, hu⟩ := id pl
  refine ⟨x, _, _, .ref T.c_Place, rfl, ex, T.is_Place.ty ea, nf_self, x, .ref a, src, b, xs, rfl, p, h2, .inl ⟨a, src, m, xs, rfl, pl, h2, _, rfl, ?_⟩⟩
  rw [dec3]
  exact k
theorem ne_step (T : Txt K mg) {H : Hp} {x a : Addr} {src : Str} {xs : List V} {b m : Bool} {Q : VK} {E : XK} (p : PlV K T.c_Place H x (.str src) xs (.bl b)) (pl : PlV K T.c_Place H a (.str src) xs (.bl m)) (h2 : termsB xs = true) (k : Q (.bl (!(b == m))) H) : rNeO K T.c_Place (sp_peq T) E (.ref x) (.ref a) H Q := by
  obtain ⟨dx, t, ex, ht⟩ := id p
  obtain ⟨da, u, ea, hu⟩ := id pl
  refine ⟨x, _, _, .ref T.c_Place, rfl, ex, T.is_Place.ty ea, nf_self, x, .ref a, src, b, xs, rfl, p, h2, .inl ⟨a, src, m, xs, rfl, pl, h2, _, rfl, ?_⟩⟩
  rw [dec3]
  exact k
def sgA (m : Bool) : List Bool := [true == m, false == m, (!m) == m, !((!m) == m), m == m]
def sgB (m : Bool) : List Bool := [m, !m, false, true, true]
theorem dps_bools {K : PySem.W.Frag} {H : Hp} : ∀ bs : List Bool, DpAll K H (bs.map V.bl) (bs.map PyData.bool)
  | [] => .nil
  | b :: bs => .cons (.bl b) (dps_bools bs)
theorem sgAB (m : Bool) : sgA m = sgB m := by
  cases m
  · rfl
  · rfl
theorem sh_bools (m : Bool) : SeqAt.shaped (.list ((sgB m).map PyData.bool)) = true := by
  cases m
  · decide +kernel
  · decide +kernel
theorem eqv_bools (m : Bool) : PyData.eqv (.list ((sgB m).map PyData.bool)) (.list ((sgB m).map PyData.bool)) = true := by
  cases m
  · decide +kernel
  · decide +kernel
theorem ok_sgr (T : Txt K mg) : FnG P w K mg base CX0 11 T.a_l_signs_right T.fd_l_signs_right ["_law_place", "_law_source", "_law_terms", "_law_marked"] (sp_sgr T) := by
  have G_l_is_told : FnG P w K mg base CX0 5 T.a_l_is_told T.fd_l_is_told ["_law_place", "_law_source", "_law_terms", "_law_marked"] (sp_told T) := ok_told T
  have G_Place_pos : FnOk P w K mg base CX0 9 T.a_Place_pos T.fd_Place_pos ["self"] (sp_sgn T fun _ => .bl true) := ok_pos T
  have G_Place_neg : FnOk P w K mg base CX0 9 T.a_Place_neg T.fd_Place_neg ["self"] (sp_sgn T fun _ => .bl false) := ok_neg T
  have G_Place_invert : FnOk P w K mg base CX0 9 T.a_Place_invert T.fd_Place_invert ["self"] (sp_sgn T notV) := ok_inv T
  have G_Place_eq : FnOk P w K mg base CX0 1 T.a_Place_eq T.fd_Place_eq ["self", "other"] (sp_peq T) := ok_peq T
  refine okG T.F_l_signs_right sc_l_signs_right (fun vs H Q E h => ?_) (fun cdv A outer s H vs Q E gu hr h => ?_)
  · obtain ⟨a, src, t, xs, m, rfl, _⟩ := h
    rfl
  · obtain ⟨a, src, t, xs, m, rfl, pl, h1, h2, g3, ht, q⟩ := h
    refine ⟨_, (pss_cons (ps_set (i := 4) sc_l_signs_right.nd rfl (.inl rfl) (pe_lst (pa_cons (pe_tup (pa_cons (pe_un (un_posO G_Place_pos T.b_Place_pos pass0 (hr.mono (by decide)) ⟨T.m_Place_pos.1, T.m_Place_pos.2⟩) (pv 0)) (pa_cons pe_bl pa_nil))) (pa_cons (pe_tup (pa_cons (pe_un (un_negO G_Place_neg T.b_Place_neg pass0 (hr.mono (by decide)) ⟨T.m_Place_neg.1, T.m_Place_neg.2⟩) (pv 0)) (pa_cons pe_bl pa_nil))) (pa_cons (pe_tup (pa_cons (pe_un (un_invO G_Place_invert T.b_Place_invert pass0 (hr.mono (by decide)) ⟨T.m_Place_invert.1, T.m_Place_invert.2⟩) (pv 0)) (pa_cons (pe_not (pv 3)) pa_nil))) pa_nil)))))
      (pss_cons (ps_set (i := 4) sc_l_signs_right.nd rfl (.inl rfl) (pe_op op_cat (pv 4) (pe_lst (pa_cons (pe_tup (pa_cons (pe_un (un_invO G_Place_invert T.b_Place_invert pass0 (hr.mono (by decide)) ⟨T.m_Place_invert.1, T.m_Place_invert.2⟩) (pe_un (un_invO G_Place_invert T.b_Place_invert pass0 (hr.mono (by decide)) ⟨T.m_Place_invert.1, T.m_Place_invert.2⟩) (pv 0))) (pa_cons (pv 3) pa_nil))) (pa_cons (pe_tup (pa_cons (pe_un (un_posO G_Place_pos T.b_Place_pos pass0 (hr.mono (by decide)) ⟨T.m_Place_pos.1, T.m_Place_pos.2⟩) (pe_un (un_negO G_Place_neg T.b_Place_neg pass0 (hr.mono (by decide)) ⟨T.m_Place_neg.1, T.m_Place_neg.2⟩) (pv 0))) (pa_cons pe_bl pa_nil))) (pa_cons (pe_tup (pa_cons (pe_un (un_negO G_Place_neg T.b_Place_neg pass0 (hr.mono (by decide)) ⟨T.m_Place_neg.1, T.m_Place_neg.2⟩) (pe_un (un_invO G_Place_invert T.b_Place_invert pass0 (hr.mono (by decide)) ⟨T.m_Place_invert.1, T.m_Place_invert.2⟩) (pe_un (un_posO G_Place_pos T.b_Place_pos pass0 (hr.mono (by decide)) ⟨T.m_Place_pos.1, T.m_Place_pos.2⟩) (pv 0)))) (pa_cons pe_bl pa_nil))) pa_nil))))))
      (pss_cons (ps_if (pt_cmpR (op_neNil hr.units) (pe_lc (own := [("_law_one", 6), ("_law_due", 7)]) (g := gTup K 2 (gCons (gName 6) (gCons (gName 7) gNil))) (tt := _) rfl sc_l_signs_right.nd (pi_list (pv 4)) (blkOk_by (N := ["_law_place", "_law_source", "_law_terms", "_law_marked", "_law_some", "_law_told", "_law_one", "_law_due"]) (sc := defScope s_l_signs_right) (by decide +kernel)) (fun _ _ _ _ _ => pg_tup rfl (pgs_cons (pg_name (i := 6) sc_l_signs_right.nd rfl (Or.inl rfl)) (pgs_cons (pg_name (i := 7) sc_l_signs_right.nd rfl (Or.inl rfl)) pgs_nil))) (fun _ _ _ _ _ => (pts_one (pt_not (pt_val (pe_callG G_l_is_told (by exact gu) (hr.mono (by decide)) (by rfl) T.g_l_is_told T.F_l_is_told.kp T.b_l_is_told pass0 (pa_cons (pv 6) (pa_cons (pv 1) (pa_cons (pv 2) (pa_cons (pv 7) pa_nil))))))))) (fun _ _ _ _ _ => (pv 6))) (pe_lst pa_nil) (nomark _)) (pss_one (ps_ret pe_bl)) pss_nil)
      (pss_cons (ps_set (i := 5) sc_l_signs_right.nd rfl (.inl rfl) (pe_lst (pa_cons (pe_cmpR (op_eqO G_Place_eq (hr.mono (by decide)) T.eq_Place T.b_Place_eq pass0) (pe_un (un_posO G_Place_pos T.b_Place_pos pass0 (hr.mono (by decide)) ⟨T.m_Place_pos.1, T.m_Place_pos.2⟩) (pv 0)) (pv 0) (nomark _)) (pa_cons (pe_cmpR (op_eqO G_Place_eq (hr.mono (by decide)) T.eq_Place T.b_Place_eq pass0) (pe_un (un_negO G_Place_neg T.b_Place_neg pass0 (hr.mono (by decide)) ⟨T.m_Place_neg.1, T.m_Place_neg.2⟩) (pv 0)) (pv 0) (nomark _)) (pa_cons (pe_cmpR (op_eqO G_Place_eq (hr.mono (by decide)) T.eq_Place T.b_Place_eq pass0) (pe_un (un_invO G_Place_invert T.b_Place_invert pass0 (hr.mono (by decide)) ⟨T.m_Place_invert.1, T.m_Place_invert.2⟩) (pv 0)) (pv 0) (nomark _)) (pa_cons (pe_cmpR (op_neO G_Place_eq (hr.mono (by decide)) T.eq_Place T.b_Place_eq pass0) (pe_un (un_invO G_Place_invert T.b_Place_invert pass0 (hr.mono (by decide)) ⟨T.m_Place_invert.1, T.m_Place_invert.2⟩) (pv 0)) (pv 0) (nomark _)) (pa_cons (pe_cmpR (op_eqO G_Place_eq (hr.mono (by decide)) T.eq_Place T.b_Place_eq pass0) (pe_un (un_invO G_Place_invert T.b_Place_invert pass0 (hr.mono (by decide)) ⟨T.m_Place_invert.1, T.m_Place_invert.2⟩) (pe_un (un_invO G_Place_invert T.b_Place_invert pass0 (hr.mono (by decide)) ⟨T.m_Place_invert.1, T.m_Place_invert.2⟩) (pv 0))) (pv 0) (nomark _)) pa_nil)))))))
      (pss_one (ps_ret (pe_and (pe_cmpR (op_eqD hr.units) (pv 5) (pe_lst (pa_cons (pv 3) (pa_cons (pe_not (pv 3)) (pa_cons pe_bl (pa_cons pe_bl (pa_cons pe_bl pa_nil)))))) (nomark _)) (pe_one (pe_callG G_l_is_told (by exact gu) (hr.mono (by decide)) (by rfl) T.g_l_is_told T.F_l_is_told.kp T.b_l_is_told pass0 (pa_cons (pv 0) (pa_cons (pv 1) (pa_cons (pv 2) (pa_cons (pv 3) pa_nil))))))))))))), ?_⟩
    have gs : ∀ {H' : Hp}, Same H H' → ∀ y ∈ xs, Good H' y := fun s y hy => (g3 y hy).same s
    refine ⟨.ref a, rfl, un_step T pl h1 h2 g3 fun x1 H1 s1 p1 => ⟨by show 2 ≤ sizeLine; decide, fun l1 nl1 => ?_⟩⟩
    obtain ⟨H2, eH2, s2, q1⟩ := laid T p1 nl1
    rw [eH2]
    have s2 := s1.trans s2
    refine ⟨.ref a, rfl, un_step T (pl.same s2) h1 h2 (gs s2) fun x2 H3 s3 p2 => ⟨by show 2 ≤ sizeLine; decide, fun l2 nl2 => ?_⟩⟩
    obtain ⟨H4, eH4, s4, q2⟩ := laid T p2 nl2
    rw [eH4]
    have q1 := q1.same (s3.trans s4)
    have s4 := (s2.trans s3).trans s4
    refine ⟨.ref a, rfl, un_step T (pl.same s4) h1 h2 (gs s4) fun x3 H5 s5 p3 => ⟨.bl m, rfl, m, rfl, ⟨by show 2 ≤ sizeLine; decide, fun l3 nl3 => ?_⟩⟩⟩
    obtain ⟨H6, eH6, s6, q3⟩ := laid T (show PlV K T.c_Place _ x3 (.str src) xs (.bl (!m)) from p3) nl3
    rw [eH6]
    have q1 := q1.same (s5.trans s6)
    have q2 := q2.same (s5.trans s6)
    have s6 := (s4.trans s5).trans s6
    refine ⟨by show 3 ≤ sizeLine; decide, fun L nL => ?_⟩
    have s7 := snew (o := .lst [.ref l1, .ref l2, .ref l3]) s6 nL
    have eL : (upd H6 L (.lst [.ref l1, .ref l2, .ref l3])) L = some (.lst [.ref l1, .ref l2, .ref l3]) := upd_same
    have q1 := q1.same (same_upd (o := .lst [.ref l1, .ref l2, .ref l3]) nL)
    have q2 := q2.same (same_upd (o := .lst [.ref l1, .ref l2, .ref l3]) nL)
    have q3 := q3.same (same_upd (o := .lst [.ref l1, .ref l2, .ref l3]) nL)
    generalize upd H6 L (.lst [.ref l1, .ref l2, .ref l3]) = H7 at s7 eL q1 q2 q3 ⊢
    have nn : notV (.bl (!m)) = .bl m := by
      cases m
      · rfl
      · rfl
    refine ⟨.ref L, rfl, .ref a, rfl, un_step T (pl.same s7) h1 h2 (gs s7) fun y1 H8 s8 r1 => un_step T (m := !m) r1 h1 h2 (gs (s7.trans s8)) fun x4 H9 s9 p4 => ⟨.bl m, rfl, ⟨by show 2 ≤ sizeLine; decide, fun l4 nl4 => ?_⟩⟩⟩
    have p4 : PlV K T.c_Place H9 x4 (.str src) xs (.bl m) := by rw [← nn]; exact p4
    obtain ⟨HA, eHA, sA, q4⟩ := laid T p4 nl4
    rw [eHA]
    have t1 := (s8.trans s9).trans sA
    have sA := s7.trans t1
    refine ⟨.ref a, rfl, un_step T (pl.same sA) h1 h2 (gs sA) fun y2 HB sB r2 => un_step T (m := false) r2 h1 h2 (gs (sA.trans sB)) fun x5 HC sC p5 => ⟨by show 2 ≤ sizeLine; decide, fun l5 nl5 => ?_⟩⟩
    obtain ⟨HD, eHD, sD, q5⟩ := laid T p5 nl5
    rw [eHD]
    have t2 := (sB.trans sC).trans sD
    have q4 := q4.same t2
    have sD := sA.trans t2
    refine ⟨.ref a, rfl, un_step T (pl.same sD) h1 h2 (gs sD) fun y3 HE sE r3 => un_step T (m := true) r3 h1 h2 (gs (sD.trans sE)) fun y4 HF sF r4 => un_step T (m := false) r4 h1 h2 (gs ((sD.trans sE).trans sF)) fun x6 HG sG p6 => ⟨by show 2 ≤ sizeLine; decide, fun l6 nl6 => ?_⟩⟩
    obtain ⟨HH, eHH, sH, q6⟩ := laid T p6 nl6
    rw [eHH]
    have t3 := ((sE.trans sF).trans sG).trans sH
    have q4 := q4.same t3
    have q5 := q5.same t3
    have sH := sD.trans t3
    have t4 := (t1.trans t2).trans t3
    have q1 := q1.same t4
    have q2 := q2.same t4
    have q3 := q3.same t4
    have eL := t4 _ _ eL
    refine ⟨by show 3 ≤ sizeLine; decide, fun M nM => ?_⟩
    have sM := snew (o := .lst [.ref l4, .ref l5, .ref l6]) sH nM
    have eM : (upd HH M (.lst [.ref l4, .ref l5, .ref l6])) M = some (.lst [.ref l4, .ref l5, .ref l6]) := upd_same
    have mm : Same HH (upd HH M (.lst [.ref l4, .ref l5, .ref l6])) := same_upd nM
    generalize upd HH M (.lst [.ref l4, .ref l5, .ref l6]) = HM at sM eM mm ⊢
    refine ⟨L, M, _, _, rfl, rfl, mm _ _ eL, eM, by show 6 ≤ sizeLine; decide, fun N nN => ?_⟩
    have sN := snew (o := .lst [.ref l1, .ref l2, .ref l3, .ref l4, .ref l5, .ref l6]) sM nN
    have mn : Same HH (upd HM N (.lst [.ref l1, .ref l2, .ref l3, .ref l4, .ref l5, .ref l6])) := mm.trans (same_upd nN)
    obtain ⟨ts, hts⟩ : ∃ ts : List (Addr × Addr × Bool), ts = [(l1, x1, true), (l2, x2, false), (l3, x3, !m), (l4, x4, m), (l5, x5, true), (l6, x6, false)] := ⟨_, rfl⟩
    have all : ∀ q ∈ ts, Sg T src xs (upd HM N (.lst [.ref l1, .ref l2, .ref l3, .ref l4, .ref l5, .ref l6])) q := fun q hq => by
      rw [hts] at hq
      simp only [List.mem_cons, List.not_mem_nil, or_false] at hq
      rcases hq with rfl | rfl | rfl | rfl | rfl | rfl
      · exact q1.same mn
      · exact q2.same mn
      · exact q3.same mn
      · exact q4.same mn
      · exact q5.same mn
      · exact q6.same mn
    have eN : (upd HM N (.lst [.ref l1, .ref l2, .ref l3, .ref l4, .ref l5, .ref l6])) N = some (.lst (ts.map fun q => V.ref q.1)) := by
      rw [hts]
      exact upd_same
    have len : ts.length = 6 := by
      rw [hts]
      rfl
    show tSeq _ _ _ _ (upd HM N (.lst [.ref l1, .ref l2, .ref l3, .ref l4, .ref l5, .ref l6]))
    generalize upd HM N (.lst [.ref l1, .ref l2, .ref l3, .ref l4, .ref l5, .ref l6]) = HN at sN eN all ⊢
    refine ⟨.ref N, rfl, N, rfl, ⟨_, .of eN⟩, fun D hD => lc_pureG (walk_list (xs := ts.map fun q => V.ref q.1)) hD ts (fun q => .ref q.1) (fun q => ((wipe _ _).set 6 (some (.ref q.2.1))).set 7 (some (.bl q.2.2))) (fun _ => false) (fun q => .ref q.2.1) (by rw [List.length_map]) (by rw [List.length_map]; omega)
      (fun H1 s => .of (s _ _ eN)) (fun i H1 x H' s y => ?_) (fun q H1 hq s Q h => ⟨q.1, _, rfl, .of (s _ _ (all q hq).1), rfl, _, _, rfl, _, _, rfl, rfl, h⟩)
      (fun q H1 hq s Q h => ⟨.ref q.2.1, rfl, .str src, rfl, .ref t, rfl, .bl q.2.2, rfl, q.2.1, src, t, xs, q.2.2, rfl, (all q hq).2.same s, h1, h2, gs (sN.trans s), mv_same (sN.trans s) _ _ ht, fun H2 s2 => ⟨_, rfl, h H2 s2⟩⟩)
      (fun q H1 hq z => by cases z) (fun q _ => rfl) (fun H1 s e => ?_)⟩
    · obtain ⟨rfl, hc⟩ := y
      rw [List.getElem?_map] at hc
      obtain ⟨q, e1, e2⟩ := Option.map_eq_some_iff.mp hc
      exact ⟨rfl, q, e1, e2.symm⟩
    have e0 : H1 D = some (.lst []) := by
      have z : ts.filter (fun _ => false) = [] := List.filter_eq_nil_iff.mpr fun _ _ => Bool.false_ne_true
      rw [z] at e
      exact e
    refine ⟨Nat.zero_le _, fun Z nZ => ⟨D, Z, [], rfl, rfl, .of (same_upd nZ _ _ e0), .of upd_same, _, rfl, iteF ?_⟩⟩
    have sZ := snew (o := .lst []) (sN.trans s) nZ
    generalize upd H1 Z (.lst []) = HZ at sZ ⊢
    have pa : ∀ {H' : Hp}, Same H H' → PlV K T.c_Place H' a (.str src) xs (.bl m) := fun s => pl.same s
    refine ⟨.ref a, rfl, un_step T (pa sZ) h1 h2 (gs sZ) fun z1 G1 g1 w1 => ⟨.ref a, rfl, eq_step T (b := true) w1 (pa (sZ.trans g1)) h2 ?_⟩⟩
    have c1 := sZ.trans g1
    refine ⟨.ref a, rfl, un_step T (pa c1) h1 h2 (gs c1) fun z2 G2 g2 w2 => ⟨.ref a, rfl, eq_step T (b := false) w2 (pa (c1.trans g2)) h2 ?_⟩⟩
    have c2 := c1.trans g2
    refine ⟨.ref a, rfl, un_step T (pa c2) h1 h2 (gs c2) fun z3 G3 g3' w3 => ⟨.ref a, rfl, eq_step T (b := !m) w3 (pa (c2.trans g3')) h2 ?_⟩⟩
    have c3 := c2.trans g3'
    refine ⟨.ref a, rfl, un_step T (pa c3) h1 h2 (gs c3) fun z4 G4 g4 w4 => ⟨.ref a, rfl, ne_step T (b := !m) w4 (pa (c3.trans g4)) h2 ?_⟩⟩
    have c4 := c3.trans g4
    refine ⟨.ref a, rfl, un_step T (pa c4) h1 h2 (gs c4) fun z5 G5 g5 w5 => un_step T (m := !m) w5 h1 h2 (gs (c4.trans g5)) fun z6 G6 g6 w6 => ⟨.ref a, rfl, eq_step T (b := m) (by rw [← nn]; exact w6) (pa ((c4.trans g5).trans g6)) h2 ?_⟩⟩
    have c6 := (c4.trans g5).trans g6
    refine ⟨by show 5 ≤ sizeLine; decide, fun R nR => ?_⟩
    have cR := snew (o := .lst [.bl (true == m), .bl (false == m), .bl ((!m) == m), .bl (!((!m) == m)), .bl (m == m)]) c6 nR
    have eR : (upd G6 R (.lst [.bl (true == m), .bl (false == m), .bl ((!m) == m), .bl (!((!m) == m)), .bl (m == m)])) R = some (.lst ((sgB m).map V.bl)) := by
      rw [← sgAB m]
      exact upd_same
    generalize upd G6 R (.lst [.bl (true == m), .bl (false == m), .bl ((!m) == m), .bl (!((!m) == m)), .bl (m == m)]) = HR at cR eR ⊢
    refine ⟨.ref R, rfl, .bl m, rfl, .bl m, rfl, m, rfl, by show 5 ≤ sizeLine; decide, fun S nS => ?_⟩
    have cS := snew (o := .lst ((sgB m).map V.bl)) cR nS
    refine ⟨_, _, .lst (.of (same_upd nS _ _ eR)) (dps_bools _), .lst (.of upd_same) (dps_bools (sgB m)), sh_bools m, sh_bools m, ?_⟩
    rw [eqv_bools]
    exact ⟨_, rfl, iteT ⟨.ref a, rfl, .str src, rfl, .ref t, rfl, .bl m, rfl, a, src, t, xs, m, rfl, pa cS, h1, h2, gs cS, mv_same cS _ _ ht, fun H' s => q H' (cS.trans s)⟩⟩
end
-- SPLIT
/-! ### a place bent -/
section
variable {P : Program} {w : World} {K : PySem.W.Frag} {mg : Str → Option Value} {base : Heap}
theorem sl_stepN {K : PySem.W.Frag} {H : Hp} {σ : L2.St} {t : Addr} {xs : List V} {lo : Option Int} {Q : VK} (h : SqT K H t xs) (k : ∀ u H', Same H H' → SqT K H' u (cutV xs lo none) → Q (.ref u) H') : tNoPart σ H (fun hi H3 => rSlA K (.ref t) lo hi H3 Q) := sl_step h k
theorem terms_of {ys : List V} (a : 1 ≤ ys.length) (b : ys.length ≤ 4) (c : ∀ y ∈ ys, termB y = true) : termsB ys = true := by
  unfold termsB
  rw [decide_eq_true (by omega), decide_eq_true (by omega), Bool.true_and, Bool.true_and, List.all_eq_true]
  exact c
theorem terms_mem {xs : List V} (h : termsB xs = true) : ∀ y ∈ xs, termB y = true := List.all_eq_true.mp (terms_all h)
def sp_bent (K : PySem.W.Frag) : Sp := fun vs H Q _ => ∃ (d : Addr) (src : Str) (t : Addr) (xs : List V), vs = [.ref d, .str src, .ref t] ∧ Dice H d ∧ SqT K H t xs ∧ nameB (.str src) = true ∧ termsB xs = true ∧
  ∀ (p u : Addr) (src' : Str) (ys : List V) (H' : Hp), Keep d H H' → H' p = some (.tup [.str src', .ref u]) → SqT K H' u ys → nameB (.str src') = true → termsB ys = true → Q (.ref p) H'
theorem ok_bent (T : Txt K mg) : FnOk P w K mg base CX0 5 T.a_l_bent T.fd_l_bent ["_law_dice_here", "_law_source", "_law_terms"] (sp_bent K) := by
  have G_l_roll : FnOk P w K mg base CX0 1 T.a_l_roll T.fd_l_roll ["_law_dice_here", "_law_upto"] (sp_roll K) := ok_roll T
  have G_l_word : FnOk P w K mg base CX0 2 T.a_l_word T.fd_l_word ["_law_dice_here"] (sp_word K) := ok_word T
  have G_l_own_term : FnOk P w K mg base CX0 4 T.a_l_own_term T.fd_l_own_term ["_law_dice_here"] (sp_own K) := ok_own T
  refine T.F_l_bent.ok sc_l_bent (fun vs H Q E h => ?_) (fun cdv A outer s H vs Q E hr h => ?_)
  · obtain ⟨d, src, t, xs, rfl, _⟩ := h
    rfl
  · obtain ⟨d, src, t, xs, rfl, hd, ht, h1, h2, q⟩ := h
    refine ⟨_, (pss_cons (ps_par (i := 3) (j := 4) rfl sc_l_bent.nd rfl rfl (by decide) rfl rfl (pa_cons (pe_call G_l_roll (hr.mono (by decide)) (by rfl) T.g_l_roll T.F_l_roll.kp T.b_l_roll .nil pass0 (pa_cons (pv 0) (pa_cons pe_int pa_nil))) (pa_cons (pe_call G_l_roll (hr.mono (by decide)) (by rfl) T.g_l_roll T.F_l_roll.kp T.b_l_roll .nil pass0 (pa_cons (pv 0) (pa_cons (pe_callB call_len_seq (by rfl) T.n_len (by decide +kernel) (pa_cons (pv 2) pa_nil)) pa_nil))) pa_nil)) (by rfl))
      (pss_cons (ps_if (pt_cmpR op_eq (pv 3) pe_int (nomark _)) (pss_one (ps_ret (pe_tup (pa_cons (pe_call G_l_word (hr.mono (by decide)) (by rfl) T.g_l_word T.F_l_word.kp T.b_l_word .nil pass0 (pa_cons (pv 0) pa_nil)) (pa_cons (pv 2) pa_nil))))) pss_nil)
      (pss_cons (ps_if (pt_mono (PW.pt (pw_and (pt_cmpR op_eq (pv 3) pe_int (nomark _)) (pw_and1 (pt_cmpR op_gt (pe_callB call_len_seq (by rfl) T.n_len (by decide +kernel) (pa_cons (pv 2) pa_nil)) pe_int (nomark _)))))) (pss_one (ps_ret (pe_tup (pa_cons (pv 1) (pa_cons (pe_op op_catA (pe_slice sl_tupA (pv 2) po_none (po_some (pv 4))) (pe_slice sl_tupA (pv 2) (po_some (pe_op op_add (pv 4) pe_int)) po_none)) pa_nil))))) pss_nil)
      (pss_cons (ps_if (pt_mono (PW.pt (pw_and (pt_cmpR op_eq (pv 3) pe_int (nomark _)) (pw_and1 (pt_cmpR op_lt (pe_callB call_len_seq (by rfl) T.n_len (by decide +kernel) (pa_cons (pv 2) pa_nil)) pe_int (nomark _)))))) (pss_one (ps_ret (pe_tup (pa_cons (pv 1) (pa_cons (pe_op op_catA (pe_op op_catA (pe_slice sl_tupA (pv 2) po_none (po_some (pv 4))) (pe_tup (pa_cons (pe_call G_l_own_term (hr.mono (by decide)) (by rfl) T.g_l_own_term T.F_l_own_term.kp T.b_l_own_term .nil pass0 (pa_cons (pv 0) pa_nil)) pa_nil))) (pe_slice sl_tupA (pv 2) (po_some (pv 4)) po_none)) pa_nil))))) pss_nil)
      (pss_one (ps_ret (pe_tup (pa_cons (pv 1) (pa_cons (pe_op op_catA (pe_op op_catA (pe_slice sl_tupA (pv 2) po_none (po_some (pv 4))) (pe_tup (pa_cons (pe_call G_l_own_term (hr.mono (by decide)) (by rfl) T.g_l_own_term T.F_l_own_term.kp T.b_l_own_term .nil pass0 (pa_cons (pv 0) pa_nil)) pa_nil))) (pe_slice sl_tupA (pv 2) (po_some (pe_op op_add (pv 4) pe_int)) po_none)) pa_nil))))))))), ?_⟩
    have x4 := terms_len h2
    have x1 : 1 ≤ xs.length := by
      have z := h2
      unfold termsB at z
      rw [Bool.and_eq_true, Bool.and_eq_true] at z
      have y := of_decide_eq_true z.1.1
      omega
    have tm := terms_mem h2
    have mv : ∀ {H' : Hp}, Keep d H H' → SqT K H' t xs := fun k => mv_keep k hd _ _ ht
    refine ⟨.ref d, rfl, d, 4, rfl, hd, by decide, small_i (by decide) (by decide), fun n H1 n0 n1 k1 => ⟨.ref d, rfl, .ref t, rfl, t, xs, rfl, .inr (mv k1), d, (xs.length : Int), rfl, k1.2, by omega, small_i (by omega) (by omega), fun a H2 a0 a1 k2' => ⟨_, _, rfl, ?_⟩⟩⟩
    have k2 := k1.trans k2'
    obtain ⟨a, rfl⟩ : ∃ b : Nat, a = (b : Int) := ⟨a.toNat, by omega⟩
    have al : a < xs.length := by omega
    refine ⟨_, rfl, rfl, _, rfl, ite2 (fun _ => ?_) (fun _ => ?_)⟩
    · refine ⟨.ref d, rfl, d, rfl, k2.2, fun z H3 hz k3 => ⟨.ref t, rfl, by show 2 ≤ sizeLine; decide, fun p np => ?_⟩⟩
      have k4 := (k2.trans k3).same (same_upd (o := .tup [.str z, .ref t]) np)
      exact q p t z xs _ k4 upd_same (mv k4) hz h2
    refine ⟨fun c H' => H' = H2 ∧ (c = true → 1 < xs.length), ?_, fun c H3 hc => ?_⟩
    · refine ⟨_, rfl, rfl, _, rfl, ite2 (fun _ => ?_) (fun _ => ⟨rfl, fun z => by cases z⟩)⟩
      exact ⟨.ref t, rfl, t, xs, rfl, .inr (mv k2), (xs.length : Int), 1, rfl, rfl, _, rfl, rfl, fun z => by
        have y := of_decide_eq_true z
        omega⟩
    obtain ⟨rfl, hc⟩ := hc
    have tk := cut_take (xs := xs) (n := a) (Nat.le_of_lt al)
    have dr := cut_drop (xs := xs) (n := a) (Nat.le_of_lt al)
    have dr1 : cutV xs (some ((a : Int) + 1)) none = xs.drop (a + 1) := cut_drop (xs := xs) (n := a + 1) al
    refine ite2 (fun ec => ?_) (fun _ => ?_)
    · have l2 := hc ec
      refine ⟨.str src, rfl, .ref t, rfl, .int a, rfl, (a : Int), rfl, sl_step (mv k2) fun u H4 s4 hu => ⟨.ref t, rfl, .int a, rfl, (a : Int), 1, rfl, rfl, _, rfl, sl_stepN (mv (k2.same s4)) fun v H5 s5 hv => cat_step (mv_same s5 _ _ hu) hv ?_ fun z H6 s6 hz => ⟨by show 2 ≤ sizeLine; decide, fun p np => ?_⟩⟩⟩
      · rw [tk, dr1, List.length_take, List.length_drop]
        omega
      · rw [tk, dr1] at hz
        have k6 := (((k2.same s4).same s5).same s6).same (same_upd (o := .tup [.str src, .ref z]) np)
        refine q p z src _ _ k6 upd_same (mv_same (same_upd np) _ _ hz) h1 (terms_of ?_ ?_ fun y hy => ?_)
        · rw [List.length_append, List.length_take, List.length_drop]
          omega
        · rw [List.length_append, List.length_take, List.length_drop]
          omega
        · rcases List.mem_append.mp hy with m | m
          · exact tm y (List.mem_of_mem_take m)
          · exact tm y (List.mem_of_mem_drop m)
    refine ⟨fun c H' => H' = H3 ∧ (c = true → xs.length < 4), ?_, fun c H4 hc => ?_⟩
    · refine ⟨_, rfl, rfl, _, rfl, ite2 (fun _ => ?_) (fun _ => ⟨rfl, fun z => by cases z⟩)⟩
      exact ⟨.ref t, rfl, t, xs, rfl, .inr (mv k2), (xs.length : Int), 4, rfl, rfl, _, rfl, rfl, fun z => by
        have y := of_decide_eq_true z
        omega⟩
    obtain ⟨rfl, hc⟩ := hc
    refine ite2 (fun ec => ?_) (fun _ => ?_)
    · have l3 := hc ec
      refine ⟨.str src, rfl, .ref t, rfl, .int a, rfl, (a : Int), rfl, sl_step (mv k2) fun u H4 s4 hu => ⟨.ref d, rfl, d, rfl, (k2.same s4).2, fun v H5 hv k5 => ⟨by show 1 ≤ sizeLine; decide, fun o no => ?_⟩⟩⟩
      have so := same_upd (o := .tup [v]) no
      have ko := ((k2.same s4).trans k5).same so
      refine cat_step (mv_same so _ _ (mv_keep k5 (k2.same s4).2 _ _ hu)) (ys := [v]) (.of upd_same) ?_ fun z H6 s6 hz => ⟨.ref t, rfl, .int a, rfl, (a : Int), rfl, sl_stepN (mv (ko.same s6)) fun y H7 s7 hy => cat_step (mv_same s7 _ _ hz) hy ?_ fun e H8 s8 he => ⟨by show 2 ≤ sizeLine; decide, fun p np => ?_⟩⟩
      · rw [tk, List.length_take, List.length_singleton]
        omega
      · rw [tk, dr, List.length_append, List.length_take, List.length_singleton, List.length_drop]
        omega
      · rw [tk, dr] at he
        have k8 := (((ko.same s6).same s7).same s8).same (same_upd (o := .tup [.str src, .ref e]) np)
        refine q p e src _ _ k8 upd_same (mv_same (same_upd np) _ _ he) h1 (terms_of ?_ ?_ fun y hy => ?_)
        · rw [List.length_append, List.length_append, List.length_take, List.length_singleton, List.length_drop]
          omega
        · rw [List.length_append, List.length_append, List.length_take, List.length_singleton, List.length_drop]
          omega
        · rcases List.mem_append.mp hy with m | m
          · rcases List.mem_append.mp m with m | m
            · exact tm y (List.mem_of_mem_take m)
            · rw [List.mem_singleton.mp m]
              exact hv
          · exact tm y (List.mem_of_mem_drop m)
    · skip
      refine ⟨.str src, rfl, .ref t, rfl, .int a, rfl, (a : Int), rfl, sl_step (mv k2) fun u H4 s4 hu => ⟨.ref d, rfl, d, rfl, (k2.same s4).2, fun v H5 hv k5 => ⟨by show 1 ≤ sizeLine; decide, fun o no => ?_⟩⟩⟩
      have so := same_upd (o := .tup [v]) no
      have ko := ((k2.same s4).trans k5).same so
      refine cat_step (mv_same so _ _ (mv_keep k5 (k2.same s4).2 _ _ hu)) (ys := [v]) (.of upd_same) ?_ fun z H6 s6 hz => ⟨.ref t, rfl, .int a, rfl, (a : Int), 1, rfl, rfl, _, rfl, sl_stepN (mv (ko.same s6)) fun y H7 s7 hy => cat_step (mv_same s7 _ _ hz) hy ?_ fun e H8 s8 he => ⟨by show 2 ≤ sizeLine; decide, fun p np => ?_⟩⟩
      · rw [tk, List.length_take, List.length_singleton]
        omega
      · rw [tk, dr1, List.length_append, List.length_take, List.length_singleton, List.length_drop]
        omega
      · rw [tk, dr1] at he
        have k8 := (((ko.same s6).same s7).same s8).same (same_upd (o := .tup [.str src, .ref e]) np)
        refine q p e src _ _ k8 upd_same (mv_same (same_upd np) _ _ he) h1 (terms_of ?_ ?_ fun y hy => ?_)
        · rw [List.length_append, List.length_append, List.length_take, List.length_singleton, List.length_drop]
          omega
        · rw [List.length_append, List.length_append, List.length_take, List.length_singleton, List.length_drop]
          omega
        · rcases List.mem_append.mp hy with m | m
          · rcases List.mem_append.mp m with m | m
            · exact tm y (List.mem_of_mem_take m)
            · rw [List.mem_singleton.mp m]
              exact hv
          · exact tm y (List.mem_of_mem_drop m)
end
-- SPLIT
/-! ### equal ones -/
section
variable {P : Program} {w : World} {K : PySem.W.Frag} {mg : Str → Option Value} {base : Heap}
theorem PlV.keep {C : Addr} {d : Addr} {H H' : Hp} {x : Addr} {src flt : V} {xs : List V} (h : PlV K C H x src xs flt) (k : Keep d H H') (hd : Dice H d) : PlV K C H' x src xs flt := by
  obtain ⟨dx, t, e, ht⟩ := h
  refine ⟨dx, t, k.1 _ _ (fun z => ?_) e, mv_keep k hd _ _ ht⟩
  obtain ⟨a, b, c, e0, _⟩ := hd
  rw [z, e0] at e
  cases e
theorem good_term {H : Hp} {v : V} (h : termB v = true) : Good H v := by
  rcases term_cases h with ⟨i, rfl, hi⟩ | ⟨z, rfl, hz⟩
  · exact .int i (Nat.lt_trans hi (by decide +kernel))
  · exact .str z (name_len hz)
theorem made_of (T : Txt K mg) {H : Hp} {src flt : V} {xs : List V} {Q : VK} {E : XK} (h1 : nameB src = true) (h2 : termsB xs = true) (h3 : isbB flt = true) (q : ∀ x H', H x = Option.none → Same H H' → PlV K T.c_Place H' x src xs flt → Q (.ref x) H') : MadeP T H src xs flt Q E :=
  ⟨fun _ => q, fun no => by
    rw [h1, h2, h3] at no
    cases no⟩
/-- == of two places -/
def samB (src src' : Str) (xs xs' : List V) (b m : Bool) : Bool := decide (src = src') && decide (xs = xs') && decide (b = m)
theorem eqP_step (T : Txt K mg) {H : Hp} {x a : Addr} {src src' : Str} {xs xs' : List V} {b m : Bool} {Q : VK} {E : XK} (p : PlV K T.c_Place H x (.str src) xs (.bl b)) (pl : PlV K T.c_Place H a (.str src') xs' (.bl m)) (h2 : termsB xs = true) (h3 : termsB xs' = true) (k : Q (.bl (samB src src' xs xs' b m)) H) :
    rEqO K T.c_Place (sp_peq T) E (.ref x) (.ref a) H Q := by
  obtain ⟨dx, t, ex, ht⟩ := id p
  obtain ⟨da, u, ea, hu⟩ := id pl
  exact ⟨x, _, _, .ref T.c_Place, rfl, ex, T.is_Place.ty ea, nf_self, x, .ref a, src, b, xs, rfl, p, h2, .inl ⟨a, src', m, xs', rfl, pl, h3, _, rfl, k⟩⟩
theorem neP_step (T : Txt K mg) {H : Hp} {x a : Addr} {src src' : Str} {xs xs' : List V} {b m : Bool} {Q : VK} {E : XK} (p : PlV K T.c_Place H x (.str src) xs (.bl b)) (pl : PlV K T.c_Place H a (.str src') xs' (.bl m)) (h2 : termsB xs = true) (h3 : termsB xs' = true) (k : Q (.bl (!samB src src' xs xs' b m)) H) :
    rNeO K T.c_Place (sp_peq T) E (.ref x) (.ref a) H Q := by
  obtain ⟨dx, t, ex, ht⟩ := id p
  obtain ⟨da, u, ea, hu⟩ := id pl
  exact ⟨x, _, _, .ref T.c_Place, rfl, ex, T.is_Place.ty ea, nf_self, x, .ref a, src, b, xs, rfl, p, h2, .inl ⟨a, src', m, xs', rfl, pl, h3, _, rfl, k⟩⟩
/-- == of a place and what is none -/
theorem eqB_step (T : Txt K mg) {H : Hp} {x : Addr} {src : Str} {xs : List V} {b : Bool} {y : V} {n : String} {Q : VK} {E : XK} (p : PlV K T.c_Place H x (.str src) xs (.bl b)) (h2 : termsB xs = true) (hn : n ∈ BT) (ty : TyX K H y (.type n)) (k : Q (.bl false) H) :
    rEqO K T.c_Place (sp_peq T) E (.ref x) y H Q := by
  obtain ⟨dx, t, ex, ht⟩ := id p
  exact ⟨x, _, _, .type n, rfl, ex, ty, (T.fo_Place n hn).2, x, y, src, b, xs, rfl, p, h2, .inr ⟨n, hn, ty, _, rfl, k⟩⟩
theorem samB_comm {src src' : Str} {xs xs' : List V} {m : Bool} : samB src' src xs' xs m m = samB src src' xs xs' m m := by
  unfold samB
  rw [decide_eq_decide.mpr (show src' = src ↔ src = src' from ⟨Eq.symm, Eq.symm⟩), decide_eq_decide.mpr (show xs' = xs ↔ xs = xs' from ⟨Eq.symm, Eq.symm⟩)]
def pairD (src : Str) (xs : List V) : PyData := .tuple [.str src, .tuple (xs.map termD)]
theorem pair_eq {src src' : Str} {xs xs' : List V} {m : Bool} (h2 : termsB xs = true) (h3 : termsB xs' = true) : PyData.eqv (pairD src xs) (pairD src' xs') = samB src src' xs xs' m m := by
  unfold pairD samB
  rw [PyData.eqv, PyData.eqvAll, PyData.eqvAll, PyData.eqvAll, PyData.eqv, PyData.eqv, eqv_terms (terms_all h2) (terms_all h3), decide_eq_true (rfl : m = m), Bool.and_true, Bool.and_true, ← dec_beq]
theorem sh_pair {src : Str} {xs : List V} (h1 : nameB (.str src) = true) (h2 : termsB xs = true) : SeqAt.shaped (pairD src xs) = true := by
  have d := depth_terms (terms_all h2)
  refine shaped_of ?_ ?_
  · unfold pairD
    simp [PyData.canLay0, PyData.canLayAll0, name_str h1, lays_terms (terms_all h2)]
  · unfold pairD
    simp only [PyData.depth, PyData.depthAll]
    omega
theorem brief_bools (b c e : Bool) : Brief 20 (.list [.bool b, .bool c, .bool e]) := by
  have o : ∀ x : Bool, Brief 1 (.bool x) := fun x => by
    cases x
    · exact ⟨by decide +kernel, by decide +kernel, by decide +kernel, by decide +kernel⟩
    · exact ⟨by decide +kernel, by decide +kernel, by decide +kernel, by decide +kernel⟩
  exact (BriefAll.list (.cons (o b) (.cons (o c) (.cons (o e) .nil)))).more (by decide)
theorem dpt (b c e : Bool) : (PyData.list [.bool b, .bool c, .bool e]).depth ≤ 30 := by
  simp [PyData.depth, PyData.depthAll]
def sp_eqr (T : Txt K mg) : Sp := fun vs H Q _ => ∃ (d a : Addr) (src : Str) (t : Addr) (xs : List V) (m : Bool), vs = [.ref d, .ref a, .str src, .ref t, .bl m] ∧ Dice H d ∧ PlV K T.c_Place H a (.str src) xs (.bl m) ∧ nameB (.str src) = true ∧ termsB xs = true ∧ SqT K H t xs ∧ ∀ H', Keep d H H' → Q (.bl true) H'
theorem ok_eqr (T : Txt K mg) : FnG P w K mg base CX0 10 T.a_l_equal_right T.fd_l_equal_right ["_law_dice_here", "_law_place", "_law_source", "_law_terms", "_law_marked"] (sp_eqr T) := by
  have G_l_bent : FnOk P w K mg base CX0 5 T.a_l_bent T.fd_l_bent ["_law_dice_here", "_law_source", "_law_terms"] (sp_bent K) := ok_bent T
  have G_Place_of : FnA P w K mg base (L2.CX P w) 8 T.a_Place_of (fun vs kws H Q E => ∃ z, vs.length = 3 ∧ KwOne "filtered" (.bl false) kws z ∧ sp_of T (vs ++ [z]) H Q E) := ok_of T
  have G_Place_eq : FnOk P w K mg base CX0 1 T.a_Place_eq T.fd_Place_eq ["self", "other"] (sp_peq T) := ok_peq T
  have G_Place_str : FnOk P w K mg base CX0 2 T.a_Place_str T.fd_Place_str ["self"] (sp_pstr T) := ok_pstr T
  refine okG T.F_l_equal_right sc_l_equal_right (fun vs H Q E h => ?_) (fun cdv A outer s H vs Q E gu hr h => ?_)
  · obtain ⟨d, a, src, t, xs, m, rfl, _⟩ := h
    rfl
  · obtain ⟨d, a, src, t, xs, m, rfl, hd, pl, h1, h2, ht, q⟩ := h
    refine ⟨_, (pss_cons (ps_for PassesOwn.never rfl (pi_range1 (by rfl) T.n_range (pa_cons pe_int pa_nil)) (pg_name (i := 5) sc_l_equal_right.nd rfl (.inl rfl)) (pss_cons (ps_set (i := 6) sc_l_equal_right.nd rfl (.inl rfl) (pe_call G_l_bent (hr.mono (by decide)) (by rfl) T.g_l_bent T.F_l_bent.kp T.b_l_bent .nil pass0 (pa_cons (pv 0) (pa_cons (pv 2) (pa_cons (pv 3) pa_nil)))))
      (pss_cons (ps_set (i := 7) sc_l_equal_right.nd rfl (.inl rfl) (pe_cmethA (ks := ["filtered"]) (pe_glob (v := .ref T.c_Place) rfl T.g_Place rfl) T.rd_Place T.cm_Place_of G_Place_of (hr.mono (by decide)) passL (pa_cons (pe_ix ix_tup (pv 6) pe_int (fun _ _ => rfl)) (pa_cons (pe_ix ix_tup (pv 6) pe_int (fun _ _ => rfl)) pa_nil)) (pk_cons (pv 4) pk_nil)))
      (pss_cons (ps_set (i := 8) sc_l_equal_right.nd rfl (.inl rfl) (pe_cmpR (op_eqD hr.units) (pv 6) (pe_tup (pa_cons (pv 2) (pa_cons (pv 3) pa_nil))) (nomark _)))
      (pss_one (ps_if (pt_cmpR op_ne (pe_callB (call_reprD (by exact gu) hr.units) (by rfl) T.n_repr (by decide +kernel) (pa_cons (pe_lst (pa_cons (pe_cmpR (op_eqO G_Place_eq (hr.mono (by decide)) T.eq_Place T.b_Place_eq pass0) (pv 1) (pv 7) (nomark _)) (pa_cons (pe_cmpR (op_eqO G_Place_eq (hr.mono (by decide)) T.eq_Place T.b_Place_eq pass0) (pv 7) (pv 1) (nomark _)) (pa_cons (pe_cmpR (op_neO G_Place_eq (hr.mono (by decide)) T.eq_Place T.b_Place_eq pass0) (pv 1) (pv 7) (nomark _)) pa_nil)))) pa_nil)) (pe_callB (call_reprD (by exact gu) hr.units) (by rfl) T.n_repr (by decide +kernel) (pa_cons (pe_lst (pa_cons (pv 8) (pa_cons (pv 8) (pa_cons (pe_not (pv 8)) pa_nil)))) pa_nil)) (nomark _)) (pss_one (ps_ret pe_bl)) pss_nil))))))
      (pss_cons (ps_set (i := 9) sc_l_equal_right.nd rfl (.inl rfl) (pe_lst (pa_cons pe_non (pa_cons (pv 2) (pa_cons (pv 3) (pa_cons (pe_tup (pa_cons (pv 2) (pa_cons (pv 3) pa_nil))) (pa_cons (pe_tup (pa_cons (pv 2) (pa_cons (pv 3) (pa_cons (pv 4) pa_nil)))) (pa_cons (pe_callTy (call_strO G_Place_str T.b_Place_str pass0 (hr.mono (by decide)) ⟨T.m_Place_str.1, T.m_Place_str.2⟩) (by rfl) T.n_str (by decide +kernel) (pa_cons (pv 1) pa_nil)) (pa_cons pe_int (pa_cons (pe_lst pa_nil) (pa_cons pe_dnewK pa_nil)))))))))))
      (pss_one (ps_ret (pe_cmpR (op_eqNil hr.units) (pe_lc (own := [("_law_value", 10)]) (g := gName 10) (tt := _) rfl sc_l_equal_right.nd (pi_list (pv 9)) (blkOk_by (N := ["_law_dice_here", "_law_place", "_law_source", "_law_terms", "_law_marked", "_law_turn", "_law_bent_here", "_law_other", "_law_due", "_law_odd", "_law_value"]) (sc := defScope s_l_equal_right) (by decide +kernel)) (fun _ _ _ _ _ => pg_name (i := 10) sc_l_equal_right.nd rfl (Or.inl rfl)) (fun _ _ _ _ _ => (pts_one (pt_cmpR (op_eqO (E := fun _ _ _ => False) G_Place_eq (hr.mono (by decide)) T.eq_Place T.b_Place_eq pass0 : OpR _ (compareOp .Eq) (rEqO K T.c_Place (sp_peq T) fun _ _ _ => False)) (pv 1) (pv 10) (nomark _)))) (fun _ _ _ _ _ => (pv 10))) (pe_lst pa_nil) (nomark _)))))), ?_⟩
    refine ⟨3, rfl, by decide, by decide, for_range (lo := 0) (n := 3) (fun i σ H1 => Keep d H H1 ∧ ∃ y1 y2 y3 y4 y5 y6, σ = [some (.ref d), some (.ref a), some (.str src), some (.ref t), some (.bl m), y1, y2, y3, y4, y5, y6]) ⟨.refl hd, _, _, _, _, _, _, rfl⟩ (fun i σ H1 hi h => ?_) (fun σ H1 h => ?_)⟩
    · obtain ⟨k1, y1, y2, y3, y4, y5, y6, rfl⟩ := h
      have t1 := mv_keep k1 hd _ _ ht
      refine ⟨.ref d, rfl, .str src, rfl, .ref t, rfl, d, src, t, xs, rfl, k1.2, t1, h1, h2, fun p u src' ys H2 k2 ep hu n1 n2 => ?_⟩
      refine ⟨rfl, .ref p, rfl, p, _, 0, .str src', rfl, rfl, .of ep, rfl, .ref p, rfl, p, _, 1, .ref u, rfl, rfl, .of ep, rfl, .bl m, rfl, rfl, ?_⟩
      refine ⟨.bl m, rfl, .inr rfl, .str src', .ref u, .bl m, rfl, .str src' (name_len n1), .bl m, .inl ⟨u, ys, rfl, hu, fun y hy => good_term (terms_mem n2 y hy), sz_of (Nat.le_trans (terms_len n2) (by decide)), made_of T n1 n2 rfl fun b H3 _ s3 pb => ?_⟩⟩
      have pa := ((pl.keep k1 hd).keep k2 k1.2).same s3
      have t3 := mv_same s3 _ _ (mv_keep k2 k1.2 _ _ t1)
      have u3 := mv_same s3 _ _ hu
      have k3 := (k1.trans k2).same s3
      refine ⟨.ref p, rfl, .str src, rfl, .ref t, rfl, by show 2 ≤ sizeLine; decide, fun g ng => ?_⟩
      have sg := same_upd (o := .tup [.str src, .ref t]) ng
      refine ⟨pairD src' ys, pairD src xs, .tup (.of (sg _ _ (s3 _ _ ep))) (.cons (.str _) (.cons (.tup (mv_same sg _ _ u3) (dps_terms (terms_all n2))) .nil)), .tup (.of upd_same) (.cons (.str _) (.cons (.tup (mv_same sg _ _ t3) (dps_terms (terms_all h2))) .nil)), sh_pair n1 n2, sh_pair h1 h2, ?_⟩
      rw [pair_eq (m := m) n2 h2]
      have pa := pa.same sg
      have pb := pb.same sg
      have k4 := k3.same sg
      generalize upd H3 g (.tup [.str src, .ref t]) = H4 at pa pb k4 ⊢
      refine ⟨.ref a, rfl, .ref b, rfl, eqP_step T pa pb h2 n2 ⟨.ref b, rfl, .ref a, rfl, eqP_step T pb pa n2 h2 ⟨.ref a, rfl, .ref b, rfl, neP_step T pa pb h2 n2 ⟨by show 3 ≤ sizeLine; decide, fun l nl => ?_⟩⟩⟩⟩
      rw [samB_comm (src := src) (src' := src') (xs := xs) (xs' := ys)]
      generalize samB src src' xs ys m m = c
      have br := brief_bools c c (!c)
      refine ⟨.ref l, _, rfl, .lst (.of upd_same) (.cons (.bl _) (.cons (.bl _) (.cons (.bl _) .nil))), br.sh, br.nd, dpt c c (!c), br.len (by decide), ?_⟩
      have sl := same_upd (o := .lst [.bl c, .bl c, .bl (!c)]) nl
      refine ⟨.bl c, rfl, .bl c, rfl, .bl c, rfl, c, rfl, by show 3 ≤ sizeLine; decide, fun l2 nl2 => ?_⟩
      refine ⟨.ref l2, _, rfl, .lst (.of upd_same) (.cons (.bl _) (.cons (.bl _) (.cons (.bl _) .nil))), br.sh, br.nd, dpt c c (!c), br.len (by decide), rfl, _, rfl, ite2 (fun z => ?_) (fun _ => ?_)⟩
      · rw [decide_eq_true rfl] at z
        cases z
      · exact ⟨k4.same (sl.trans (same_upd nl2)), _, _, _, _, _, _, rfl⟩
    · obtain ⟨k1, y1, y2, y3, y4, y5, y6, rfl⟩ := h
      have pa := pl.keep k1 hd
      have t1 := mv_keep k1 hd _ _ ht
      refine ⟨.str src, rfl, .ref t, rfl, .str src, rfl, .ref t, rfl, by show 2 ≤ sizeLine; decide, fun p1 n1 => ?_⟩
      have s1 := same_upd (o := .tup [.str src, .ref t]) n1
      have e1 : (upd H1 p1 (.tup [.str src, .ref t])) p1 = some (.tup [.str src, .ref t]) := upd_same
      generalize upd H1 p1 (.tup [.str src, .ref t]) = H2 at s1 e1 ⊢
      refine ⟨.str src, rfl, .ref t, rfl, .bl m, rfl, by show 3 ≤ sizeLine; decide, fun p2 n2 => ?_⟩
      have s2 := same_upd (o := .tup [.str src, .ref t, .bl m]) n2
      have e2 : (upd H2 p2 (.tup [.str src, .ref t, .bl m])) p2 = some (.tup [.str src, .ref t, .bl m]) := upd_same
      generalize upd H2 p2 (.tup [.str src, .ref t, .bl m]) = H3 at s2 e2 ⊢
      have pa3 := (pa.same s1).same s2
      obtain ⟨dx, tq, ea, htq⟩ := id pa3
      refine ⟨.ref a, rfl, a, rfl, ⟨dx, _, ea⟩, a, src, m, xs, rfl, pa3, h1, h2, fun H4 s4 => ⟨_, rfl, Nat.zero_le _, fun p3 n3 => ?_⟩⟩
      have s5 := same_upd (o := .lst []) n3
      have e3 : (upd H4 p3 (.lst [])) p3 = some (.lst []) := upd_same
      generalize upd H4 p3 (.lst []) = H5 at s5 e3 ⊢
      refine fun p4 n4 => ⟨by show 9 ≤ sizeLine; decide, fun L nL => ?_⟩
      have s6 := same_upd (o := .dK []) n4
      have e4 : (upd H5 p4 (.dK [])) p4 = some (.dK []) := upd_same
      generalize upd H5 p4 (.dK []) = H6 at s6 e4 nL ⊢
      obtain ⟨odd, eo⟩ : ∃ odd : List V, odd = [.non, .str src, .ref t, .ref p1, .ref p2, .str (placeS src xs m), .int 0, .ref p3, .ref p4] := ⟨_, rfl⟩
      have s36 := (s4.trans s5).trans s6
      have s26 := s2.trans s36
      have s16 := s1.trans s26
      have bts : ∀ v ∈ odd, ∀ {H' : Hp}, Same H6 H' → ∃ n, n ∈ BT ∧ TyX K H' v (.type n) := fun v hv {H'} s => by
        rw [eo] at hv
        simp only [List.mem_cons, List.not_mem_nil, or_false] at hv
        rcases hv with rfl | rfl | rfl | rfl | rfl | rfl | rfl | rfl | rfl
        · exact item_bt .non
        · exact item_bt (.str _)
        · exact ⟨"tuple", by decide, sqt_ty (mv_same (s16.trans s) _ _ t1)⟩
        · exact item_bt (.tup (s _ _ (s26 _ _ e1)))
        · exact item_bt (.tup (s _ _ (s36 _ _ e2)))
        · exact item_bt (.str _)
        · exact item_bt (.int 0 (by decide))
        · exact item_bt (.lst (s _ _ (s6 _ _ e3)))
        · exact item_bt (.dK (s _ _ e4))
      have len : odd.length = 9 := by
        rw [eo]
        rfl
      have sL := same_upd (o := .lst odd) nL
      have eL : (upd H6 L (.lst odd)) L = some (.lst odd) := upd_same
      rw [← eo]
      have pa7 := (pa.same s16).same sL
      have k7 := (k1.same s16).same sL
      generalize upd H6 L (.lst odd) = H7 at sL eL pa7 k7 ⊢
      refine ⟨.ref L, rfl, L, rfl, ⟨_, .of eL⟩, fun D hD => lc_pure (walk_list (xs := odd)) hD odd id (fun _ => false) (fun x => x) rfl (by omega) (by decide) (fun H8 s => .of (s _ _ eL)) (fun i H8 x H' s y => ?_)
        (fun v H8 hv s Q h => ?_) (fun v H8 hv z s Q h => by cases z) (fun x => rfl) (fun H8 s e => ?_)⟩
      · obtain ⟨rfl, hc⟩ := y
        exact ⟨rfl, x, hc, rfl⟩
      · obtain ⟨n, hn, ty⟩ := bts v hv (sL.trans s)
        exact ⟨.ref a, rfl, v, rfl, eqB_step T (pa7.same s) h2 hn ty ⟨_, rfl, h H8 (.refl H8)⟩⟩
      have e0 : H8 D = some (.lst []) := by
        have z : odd.filter (fun _ => false) = [] := List.filter_eq_nil_iff.mpr fun _ _ => Bool.false_ne_true
        rw [z] at e
        exact e
      refine ⟨Nat.zero_le _, fun Z nZ => ⟨D, Z, [], rfl, rfl, .of (same_upd nZ _ _ e0), .of upd_same, q _ ((k7.same s).same (same_upd nZ))⟩⟩
end
-- SPLIT
/-! ### what makes no place -/
section
variable {P : Program} {w : World} {K : PySem.W.Frag} {mg : Str → Option Value} {base : Heap}
theorem Item.ext {H H1 : Hp} {v : V} (s : LamX.ExtN H H1) (g : Item H v) : Item H1 v := by
  cases g with
  | non => exact .non
  | bl b => exact .bl b
  | int i h => exact .int i h
  | str z => exact .str z
  | lst e => exact .lst (s _ _ e (fun _ z => by cases z))
  | tup e => exact .tup (s _ _ e (fun _ z => by cases z))
  | dK e => exact .dK (s _ _ e (fun _ z => by cases z))
theorem Good.ext {H H1 : Hp} {v : V} (s : LamX.ExtN H H1) (g : Good H v) : Good H1 v := by
  cases g with
  | non => exact .non
  | bl b => exact .bl b
  | int i h => exact .int i h
  | str z h => exact .str z h
  | lst e => exact .lst (s _ _ e (fun _ z => by cases z))
  | tup e h => exact .tup (s _ _ e (fun _ z => by cases z)) fun x hx => (h x hx).ext s
  | dK e => exact .dK (s _ _ e (fun _ z => by cases z))
/-- what is no tuple, or the empty one -/
inductive NotT (K : PySem.W.Frag) (H : Hp) : V → Prop where
  | non : NotT K H .non
  | int (i : Int) (h : i.natAbs < 10 ^ 45) : NotT K H (.int i)
  | str (z : Str) (h : z.length ≤ 1000) : NotT K H (.str z)
  | lst {a : Addr} {xs : List V} (e : H a = some (.lst xs)) : NotT K H (.ref a)
  | dK {a : Addr} {kvs : List (Key × V)} (e : H a = some (.dK kvs)) : NotT K H (.ref a)
  | tup {a : Addr} (e : SqT K H a []) : NotT K H (.ref a)
theorem NotT.ext {H H1 : Hp} {v : V} (s : LamX.ExtN H H1) (g : NotT K H v) : NotT K H1 v := by
  cases g with
  | non => exact .non
  | int i h => exact .int i h
  | str z h => exact .str z h
  | lst e => exact .lst (s _ _ e (fun _ z => by cases z))
  | dK e => exact .dK (s _ _ e (fun _ z => by cases z))
  | tup e => exact .tup (mv_ext s _ _ e)
theorem NotT.keep {d : Addr} {H H1 : Hp} {v : V} (k : Keep d H H1) (hd : Dice H d) (g : NotT K H v) : NotT K H1 v := by
  obtain ⟨a, b, c, e0, _⟩ := id hd
  obtain ⟨a1, b1, c1, e1, _⟩ := k.2
  cases g with
  | non => exact .non
  | int i h => exact .int i h
  | str z h => exact .str z h
  | @lst x xs e =>
    by_cases hx : x = d
    · subst hx
      exact .lst e1
    · exact .lst (k.1 _ _ hx e)
  | dK e => exact .dK (k.1 _ _ (fun z => by rw [z, e0] at e; cases e) e)
  | tup e => exact .tup (mv_keep k hd _ _ e)
/-- what stands while the lambdas are called -/
structure Stand (K : PySem.W.Frag) (T1 : List (Addr × Str)) (H0 : Hp) (d t u : Addr) (xs ys : List V) (off much : V) (H : Hp) : Prop where
  kn : KeepN d H0 H
  tabs : LamX.Tabs T1 H
  ht : SqT K H t xs
  hu : SqT K H u ys
  go : Good H off
  gm : Good H much
  gy : ∀ y ∈ ys, Good H y
theorem Stand.ext {T1 : List (Addr × Str)} {H0 H H1 : Hp} {d t u : Addr} {xs ys : List V} {off much : V} (S : Stand K T1 H0 d t u xs ys off much H) (e : LamX.ExtN H H1) (tb : LamX.Tabs T1 H1) : Stand K T1 H0 d t u xs ys off much H1 :=
  ⟨S.kn.trans (.ext S.kn.2 e), tb, mv_ext e _ _ S.ht, mv_ext e _ _ S.hu, S.go.ext e, S.gm.ext e, fun y hy => (S.gy y hy).ext e⟩
theorem Stand.same {T1 : List (Addr × Str)} {H0 H H1 : Hp} {d t u : Addr} {xs ys : List V} {off much : V} (S : Stand K T1 H0 d t u xs ys off much H) (s : Same H H1) : Stand K T1 H0 d t u xs ys off much H1 := S.ext (ext_same s) (S.tabs.ext s)
theorem Stand.keep {T1 : List (Addr × Str)} {H0 H H1 : Hp} {d t u : Addr} {xs ys : List V} {off much : V} (S : Stand K T1 H0 d t u xs ys off much H) (k : Keep d H H1) : Stand K T1 H0 d t u xs ys off much H1 :=
  ⟨S.kn.trans (.of k), tabs_keep S.tabs k S.kn.2, mv_keep k S.kn.2 _ _ S.ht, mv_keep k S.kn.2 _ _ S.hu, S.go.keep k S.kn.2, S.gm.keep k S.kn.2, fun y hy => (S.gy y hy).keep k S.kn.2⟩
/-- the error that the lambda lets out is caught -/
theorem hit (T : Txt K mg) {R : Hp → Prop} {H : Hp} (h : R H) : ∃ b, PySem.W.exmOne K (.ref T.c_InvalidPlace) (.ref T.c_InvalidPlace) = some b ∧ (b = true → R H) ∧ (b = false → False) :=
  ⟨true, exm_self T.eb_InvalidPlace T.ec_InvalidPlace T.et_InvalidPlace T.es_InvalidPlace, fun _ => h, fun z => by cases z⟩
theorem made_no (T : Txt K mg) {H : Hp} {src flt : V} {xs : List V} {Q : VK} {E : XK} (n : (nameB src && termsB xs && isbB flt) = false) (e : ∀ H', Same H H' → E (.ref T.c_InvalidPlace) none H') : MadeP T H src xs flt Q E :=
  ⟨fun y => absurd (n.symm.trans y) (by decide), fun _ => e⟩
theorem of_no (T : Txt K mg) {H : Hp} {src flt : V} {t : Addr} {xs : List V} {Q : VK} {E : XK} (g1 : Good H src) (g2 : Good H flt) (ht : SqT K H t xs) (g3 : ∀ y ∈ xs, Good H y) (hl : xs.length ≤ 1000) (n : (nameB src && termsB xs && isbB flt) = false) (e : ∀ H', Same H H' → E (.ref T.c_InvalidPlace) none H') :
    sp_of T [.ref T.c_Place, src, .ref t, flt] H Q E := ⟨src, .ref t, flt, rfl, g1, g2, .inl ⟨t, xs, rfl, ht, g3, sz_of (by omega), made_no T n e⟩⟩
theorem make_no (T : Txt K mg) {H : Hp} {src flt : V} {xs : List V} {kws : List (Str × V)} {R : Addr → VK} {E : XK} (g1 : Good H src) (g2 : Good H flt) (g3 : ∀ y ∈ xs, Good H y) (hl : xs.length ≤ sizeLine) (ko : KwOne "filtered" (.bl false) kws flt)
    (n : (nameB src && termsB xs && isbB flt) = false) (e : ∀ H', Same H H' → E (.ref T.c_InvalidPlace) none H') :
    ∀ x dx, H x = Option.none → H dx = Option.none → dx ≠ x → sp_plA T (.ref x :: src :: xs) kws (upd (upd H dx (.own x)) x (.ins T.c_Place dx [])) (R x) E := by
  intro x dx hx hdx ne
  have s0 : Same H (upd (upd H dx (.own x)) x (.ins T.c_Place dx [])) := snew (snew (.refl _) hdx) (by rw [upd_ne (Ne.symm ne)]; exact hx)
  have e0 : (upd (upd H dx (.own x)) x (.ins T.c_Place dx [])) x = some (.ins T.c_Place dx []) := upd_same
  generalize upd (upd H dx (.own x)) x (.ins T.c_Place dx []) = H1 at s0 e0 ⊢
  refine ⟨[.ref x, src], xs, flt, rfl, rfl, hl, ko, fun p hp => ?_⟩
  have s1 := snew (o := .tup xs) s0 hp
  have e1 : (upd H1 p (.tup xs)) x = some (.ins T.c_Place dx []) := by
    rw [upd_ne (ne_of_none e0 hp)]
    exact e0
  have e2 : (upd H1 p (.tup xs)) p = some (.tup xs) := upd_same
  generalize upd H1 p (.tup xs) = H2 at s1 e1 e2 ⊢
  have nx : ∀ {b : Addr} {o : HO}, H b = some o → b ≠ x := fun e z => by
    rw [z, hx] at e
    cases e
  exact ⟨x, dx, src, flt, p, xs, rfl, e1, .of e2, .inr ⟨g1.same s1, g2.same s1, fun y hy => (g3 y hy).same s1, fun ok => absurd (n.symm.trans ok) (by decide), fun _ H' k => e H' fun b o e => k b o (nx e) (s1 b o e)⟩⟩
theorem off_and {a b c : Bool} (h : a = false) : (a && b && c) = false := by rw [h]; rfl
theorem bad_and {a b c : Bool} (h : b = false) : (a && b && c) = false := by rw [h, Bool.and_false]; rfl
theorem much_and {a b c : Bool} (h : c = false) : (a && b && c) = false := by rw [h, Bool.and_false]
theorem bad_terms {xs : List V} {v : V} (m : v ∈ xs) (h : termB v = false) : termsB xs = false := by
  unfold termsB
  have z : xs.all termB = false := List.all_eq_false.mpr ⟨v, m, by rw [h]; exact Bool.false_ne_true⟩
  rw [z, Bool.and_false]
theorem off_ok {H : Hp} {p1 p2 : Addr} {v : V} (e1 : H p1 = some (.tup [.str "a"])) (e2 : H p2 = some (.lst [])) (h : v ∈ [V.str "", .str "abcdefghi", .str "Ab", .str "a b", .str "a1", .str "_", .str "+a", .non, .int 5, .ref p1, .ref p2, .bl true]) : Good H v ∧ nameB v = false := by
  simp only [List.mem_cons, List.not_mem_nil, or_false] at h
  rcases h with rfl | rfl | rfl | rfl | rfl | rfl | rfl | rfl | rfl | rfl | rfl | rfl
  · exact ⟨.str _ (by decide), by decide +kernel⟩
  · exact ⟨.str _ (by decide), by decide +kernel⟩
  · exact ⟨.str _ (by decide), by decide +kernel⟩
  · exact ⟨.str _ (by decide), by decide +kernel⟩
  · exact ⟨.str _ (by decide), by decide +kernel⟩
  · exact ⟨.str _ (by decide), by decide +kernel⟩
  · exact ⟨.str _ (by decide), by decide +kernel⟩
  · exact ⟨.non, rfl⟩
  · exact ⟨.int _ (by decide), rfl⟩
  · exact ⟨.tup e1 fun x hx => by rw [List.mem_singleton.mp hx]; exact .str _, rfl⟩
  · exact ⟨.lst e2, rfl⟩
  · exact ⟨.bl _, rfl⟩
theorem odd_ok {H : Hp} {p1 p2 p3 : Addr} {v : V} (e1 : H p1 = some (.tup [.int 1])) (e2 : H p2 = some (.lst [])) (e3 : H p3 = some (.dK [])) (h : v ∈ [V.non, .bl true, .bl false, .int (10 ^ (20 : Int).toNat), .int (0 - 10 ^ (20 : Int).toNat), .int (10 ^ (39 : Int).toNat), .str "", .str "A", .str "a ", .str "abcdefghi", .ref p1, .ref p2, .ref p3]) : Good H v ∧ termB v = false := by
  simp only [List.mem_cons, List.not_mem_nil, or_false] at h
  rcases h with rfl | rfl | rfl | rfl | rfl | rfl | rfl | rfl | rfl | rfl | rfl | rfl | rfl
  · exact ⟨.non, rfl⟩
  · exact ⟨.bl _, rfl⟩
  · exact ⟨.bl _, rfl⟩
  · exact ⟨.int _ (by decide +kernel), by decide +kernel⟩
  · exact ⟨.int _ (by decide +kernel), by decide +kernel⟩
  · exact ⟨.int _ (by decide +kernel), by decide +kernel⟩
  · exact ⟨.str _ (by decide), by decide +kernel⟩
  · exact ⟨.str _ (by decide), by decide +kernel⟩
  · exact ⟨.str _ (by decide), by decide +kernel⟩
  · exact ⟨.str _ (by decide), by decide +kernel⟩
  · exact ⟨.tup e1 fun x hx => by rw [List.mem_singleton.mp hx]; exact .int _ (by decide), rfl⟩
  · exact ⟨.lst e2, rfl⟩
  · exact ⟨.dK e3, rfl⟩
theorem much_ok {H : Hp} {p1 p2 : Addr} {v : V} (e1 : H p1 = some (.tup [])) (e2 : H p2 = some (.lst [.bl true])) (h : v ∈ [V.non, .int 0, .int 1, .str "", .str "yes", .ref p1, .ref p2]) : Good H v ∧ isbB v = false := by
  simp only [List.mem_cons, List.not_mem_nil, or_false] at h
  rcases h with rfl | rfl | rfl | rfl | rfl | rfl | rfl
  · exact ⟨.non, rfl⟩
  · exact ⟨.int _ (by decide), rfl⟩
  · exact ⟨.int _ (by decide), rfl⟩
  · exact ⟨.str _ (by decide), rfl⟩
  · exact ⟨.str _ (by decide), rfl⟩
  · exact ⟨.tup e1 (fun x hx => by cases hx), rfl⟩
  · exact ⟨.lst e2, rfl⟩
theorem none_ok {H : Hp} {p1 p2 p3 : Addr} {xs : List V} {v : V} (e1 : H p1 = some (.lst xs)) (e2 : H p2 = some (.tup [])) (e3 : H p3 = some (.dK [])) (h : v ∈ [V.non, .ref p1, .str "x", .int 5, .ref p2, .ref p3, .str "xy"]) : NotT K H v := by
  simp only [List.mem_cons, List.not_mem_nil, or_false] at h
  rcases h with rfl | rfl | rfl | rfl | rfl | rfl | rfl
  · exact .non
  · exact .lst e1
  · exact .str _ (by decide)
  · exact .int _ (by decide)
  · exact .tup (.of e2)
  · exact .dK e3
  · exact .str _ (by decide)
/-- a list that is not of before is stored anew -/
theorem Stand.app {T1 : List (Addr × Str)} {H0 H : Hp} {d t u l : Addr} {xs ys zs zs' : List V} {off much : V} (S : Stand K T1 H0 d t u xs ys off much H) (n : ∀ o, (∀ ps, o ≠ .tbl ps) → H0 l ≠ some o) (dn : l ≠ d) (e : H l = some (.lst zs)) : Stand K T1 H0 d t u xs ys off much (upd H l (.lst zs')) := by
  have mv : Mv K H (upd H l (.lst zs')) := mv_but (d := l) (fun b o ne e => by rw [upd_ne ne]; exact e) fun ws h => by
    rcases h with h | ⟨o, h⟩
    · rw [e] at h
      cases h
    · rw [e] at h
      cases h
  have it : ∀ {v : V}, Item H v → Item (upd H l (.lst zs')) v := fun {v} g => by
    cases g with
    | non => exact .non
    | bl b => exact .bl b
    | int i h => exact .int i h
    | str z => exact .str z
    | @lst a ws e2 =>
      by_cases z : a = l
      · rw [z]
        exact .lst upd_same
      · exact .lst (by rw [upd_ne z]; exact e2)
    | tup e2 => exact .tup (by rw [upd_ne fun z => by rw [z, e] at e2; cases e2]; exact e2)
    | dK e2 => exact .dK (by rw [upd_ne fun z => by rw [z, e] at e2; cases e2]; exact e2)
  have gd : ∀ {v : V}, Good H v → Good (upd H l (.lst zs')) v := fun {v} g => by
    cases g with
    | non => exact .non
    | bl b => exact .bl b
    | int i h => exact .int i h
    | str z h => exact .str z h
    | @lst a ws e2 =>
      by_cases z : a = l
      · rw [z]
        exact .lst upd_same
      · exact .lst (by rw [upd_ne z]; exact e2)
    | tup e2 h => exact .tup (by rw [upd_ne fun z => by rw [z, e] at e2; cases e2]; exact e2) fun x hx => it (h x hx)
    | dK e2 => exact .dK (by rw [upd_ne fun z => by rw [z, e] at e2; cases e2]; exact e2)
  refine ⟨⟨fun b o hb hn eb => ?_, ?_⟩, fun p hp => ?_, mv _ _ S.ht, mv _ _ S.hu, gd S.go, gd S.gm, fun y hy => gd (S.gy y hy)⟩
  · rw [upd_ne fun z => n o hn (by rw [← z]; exact eb)]
    exact S.kn.1 b o hb hn eb
  · obtain ⟨a, b, c, e0, r⟩ := S.kn.2
    exact ⟨a, b, c, by rw [upd_ne (Ne.symm dn)]; exact e0, r⟩
  · obtain ⟨ps, h1, h2, h3⟩ := S.tabs p hp
    refine ⟨ps, by rw [upd_ne fun z => by rw [z, e] at h1; cases h1]; exact h1, h2, fun pos cv hc => ?_⟩
    obtain ⟨c, e1, e2⟩ := h3 pos cv hc
    refine ⟨c, e1, ?_⟩
    rw [upd_ne fun z => by
      rw [z, e] at e2
      injection e2 with e2
      unfold LamX.CodeO at e2
      cases e2]
    exact e2
theorem NotT.app {H : Hp} {l : Addr} {zs zs' : List V} {v : V} (g : NotT K H v) (e : H l = some (.lst zs)) : NotT K (upd H l (.lst zs')) v := by
  have mv : Mv K H (upd H l (.lst zs')) := mv_but (d := l) (fun b o ne e => by rw [upd_ne ne]; exact e) fun ws h => by
    rcases h with h | ⟨o, h⟩
    · rw [e] at h
      cases h
    · rw [e] at h
      cases h
  cases g with
  | non => exact .non
  | int i h => exact .int i h
  | str z h => exact .str z h
  | @lst a ws e2 =>
    by_cases z : a = l
    · rw [z]
      exact .lst upd_same
    · exact .lst (by rw [upd_ne z]; exact e2)
  | dK e2 => exact .dK (by rw [upd_ne fun z => by rw [z, e] at e2; cases e2]; exact e2)
  | tup e2 => exact .tup (mv _ _ e2)
theorem Stand.fresh {T1 : List (Addr × Str)} {H0 H : Hp} {d t u l : Addr} {xs ys : List V} {off much : V} (S : Stand K T1 H0 d t u xs ys off much H) (n : H l = none) : (∀ o, (∀ ps, o ≠ .tbl ps) → H0 l ≠ some o) ∧ l ≠ d := by
  have ld : l ≠ d := S.kn.2.ne_of n
  refine ⟨fun o hn e => ?_, ld⟩
  rw [S.kn.1 _ _ ld hn e] at n
  cases n
theorem of_none (T : Txt K mg) {H : Hp} {src v : V} {Q : VK} {E : XK} (g1 : Good H src) (h : NotT K H v) (e : ∀ H', Same H H' → E (.ref T.c_InvalidPlace) none H') : sp_of T [.ref T.c_Place, src, v, .bl false] H Q E := by
  cases h with
  | non => exact ⟨src, _, _, rfl, g1, .bl _, .inr ⟨.non, rfl, e _ (.refl _)⟩⟩
  | int i z => exact ⟨src, _, _, rfl, g1, .bl _, .inr ⟨.int i z, rfl, e _ (.refl _)⟩⟩
  | str x z => exact ⟨src, _, _, rfl, g1, .bl _, .inr ⟨.str x z, rfl, e _ (.refl _)⟩⟩
  | lst z => exact ⟨src, _, _, rfl, g1, .bl _, .inr ⟨.lst z, by simp only [tupB, z], e _ (.refl _)⟩⟩
  | dK z => exact ⟨src, _, _, rfl, g1, .bl _, .inr ⟨.dK z, by simp only [tupB, z], e _ (.refl _)⟩⟩
  | tup z => exact of_no T g1 (.bl _) z (fun y hy => by cases hy) (by decide) (bad_and rfl) e
theorem five : ∀ y ∈ [V.int 1, .int 2, .int 3, .int 4, .int 5], ∀ {H : Hp}, Good H y := fun y hy {H} => by
  simp only [List.mem_cons, List.not_mem_nil, or_false] at hy
  rcases hy with rfl | rfl | rfl | rfl | rfl
  · exact .int _ (by decide)
  · exact .int _ (by decide)
  · exact .int _ (by decide)
  · exact .int _ (by decide)
  · exact .int _ (by decide)
theorem five' : ∀ y ∈ [V.int 1, .int 2, .int 3, .int 4, .str "x"], ∀ {H : Hp}, Good H y := fun y hy {H} => by
  simp only [List.mem_cons, List.not_mem_nil, or_false] at hy
  rcases hy with rfl | rfl | rfl | rfl | rfl
  · exact .int _ (by decide)
  · exact .int _ (by decide)
  · exact .int _ (by decide)
  · exact .int _ (by decide)
  · exact .str _ (by decide)
def T0 (T : Txt K mg) : List (Addr × Str) := [(T.tp_l_refused, Str.ofString "_law_refused" ++ ".<locals>." ++ "<lambda>")]
def sp_ref (T : Txt K mg) : Sp := fun vs H Q _ => ∃ (d : Addr) (src : Str) (t : Addr) (xs : List V), vs = [.ref d, .str src, .ref t] ∧ Dice H d ∧ LamX.Tabs (T0 T) H ∧ nameB (.str src) = true ∧ termsB xs = true ∧ SqT K H t xs ∧ ∀ H', KeepN d H H' → LamX.Tabs (T0 T) H' → Q (.bl true) H'
set_option maxHeartbeats 4000000 in
theorem ok_ref (T : Txt K mg) (tb_l_refused : LamX.TabB base mg T.cb_l_refused T.tp_l_refused) : FnG P w K mg base CX0 12 T.a_l_refused T.fd_l_refused ["_law_dice_here", "_law_source", "_law_terms"] (sp_ref T) := by
  have G_l_roll : FnOk P w K mg base CX0 1 T.a_l_roll T.fd_l_roll ["_law_dice_here", "_law_upto"] (sp_roll K) := ok_roll T
  have G_l_pick : FnOk P w K mg base CX0 2 T.a_l_pick T.fd_l_pick ["_law_dice_here", "_law_items"] (sp_pickL K) := ok_pickL T
  have G_Place_of : FnA P w K mg base (L2.CX P w) 8 T.a_Place_of (fun vs kws H Q E => ∃ z, vs.length = 3 ∧ KwOne "filtered" (.bl false) kws z ∧ sp_of T (vs ++ [z]) H Q E) := ok_of T
  have G_Place_init : FnA P w K mg base (L2.CX P w) 6 T.a_Place_init (sp_plA T) := ok_pl T
  have G_l_one_by_one : FnOk P w K mg base (L2.CX P w) 8 T.a_l_one_by_one T.fd_l_one_by_one ["_law_source", "_law_terms", "_law_marked"] (sp_obo T) := ok_obo T
  refine okGC T.FC_l_refused sc_l_refused (fun vs H Q E h => ?_) (fun A outer s H vs Q E gu hr h => ?_)
  · obtain ⟨d, src, t, xs, rfl, _⟩ := h
    rfl
  · obtain ⟨d, src, t, xs, rfl, hd, tb, h1, h2, ht, q⟩ := h
    refine ⟨_, (pss_cons (ps_set (i := 3) sc_l_refused.nd rfl (.inr rfl) (pe_call G_l_pick (hr.mono (by decide)) (by rfl) T.g_l_pick T.F_l_pick.kp T.b_l_pick .nil pass0 (pa_cons (pv 0) (pa_cons (pe_lst (pa_cons pe_str (pa_cons pe_str (pa_cons pe_str (pa_cons pe_str (pa_cons pe_str (pa_cons pe_str (pa_cons pe_str (pa_cons pe_non (pa_cons pe_int (pa_cons (pe_tup (pa_cons pe_str pa_nil)) (pa_cons (pe_lst pa_nil) (pa_cons pe_bl pa_nil))))))))))))) pa_nil))))
      (pss_cons (ps_set (i := 4) sc_l_refused.nd rfl (.inl rfl) (pe_lst (pa_cons pe_non (pa_cons pe_bl (pa_cons pe_bl (pa_cons (pe_op op_pow pe_int pe_int) (pa_cons (pe_op op_sub pe_int (pe_op op_pow pe_int pe_int)) (pa_cons (pe_op op_pow pe_int pe_int) (pa_cons pe_str (pa_cons pe_str (pa_cons pe_str (pa_cons pe_str (pa_cons (pe_tup (pa_cons pe_int pa_nil)) (pa_cons (pe_lst pa_nil) (pa_cons pe_dnewK pa_nil)))))))))))))))
      (pss_cons (ps_set (i := 4) sc_l_refused.nd rfl (.inl rfl) (pe_call G_l_pick (hr.mono (by decide)) (by rfl) T.g_l_pick T.F_l_pick.kp T.b_l_pick .nil pass0 (pa_cons (pv 0) (pa_cons (pv 4) pa_nil))))
      (pss_cons (ps_set (i := 5) sc_l_refused.nd rfl (.inr rfl) (pe_call G_l_pick (hr.mono (by decide)) (by rfl) T.g_l_pick T.F_l_pick.kp T.b_l_pick .nil pass0 (pa_cons (pv 0) (pa_cons (pe_lst (pa_cons pe_non (pa_cons pe_int (pa_cons pe_int (pa_cons pe_str (pa_cons pe_str (pa_cons (pe_tup pa_nil) (pa_cons (pe_lst (pa_cons pe_bl pa_nil)) pa_nil)))))))) pa_nil))))
      (pss_cons (ps_set (i := 6) sc_l_refused.nd rfl (.inl rfl) (pe_call G_l_roll (hr.mono (by decide)) (by rfl) T.g_l_roll T.F_l_roll.kp T.b_l_roll .nil pass0 (pa_cons (pv 0) (pa_cons (pe_callB call_len_seq (by rfl) T.n_len (by decide +kernel) (pa_cons (pv 2) pa_nil)) pa_nil))))
      (pss_cons (ps_set (i := 7) sc_l_refused.nd rfl (.inr rfl) (pe_op op_catA (pe_op op_catA (pe_slice sl_tupA (pv 2) po_none (po_some (pv 6))) (pe_tup (pa_cons (pv 4) pa_nil))) (pe_slice sl_tupA (pv 2) (po_some (pe_op op_add (pv 6) pe_int)) po_none)))
      (pss_cons (ps_set (i := 8) sc_l_refused.nd rfl (.inl rfl) (pe_lst (pa_cons (pe_lamF (k := 9) T.F_l_met sc_l_met T.b_l_met (fun _ => met_gives (by rfl) (by rfl) T.g_InvalidPlace (by decide) (fun _ => rfl)) T.g_l_met tb_l_refused (hr.mono (by decide)) (fun A outer s H E f c' hr => (pe_cmethA (ks := []) (pe_glob (v := .ref T.c_Place) rfl T.g_Place rfl) T.rd_Place T.cm_Place_of G_Place_of (hr.mono (by decide)) (passes_call (takes_of rfl rfl rfl rfl) (fun _ _ _ _ h => h)) (pa_cons (pv 3) (pa_cons (pv 2) pa_nil)) pk_nil)) (L := LamX.lamS_by (sc := defScope s_l_refused) (by decide +kernel))) pa_nil)))
      (pss_cons (ps_expr (pe_bm PySem.F.plainAttrs_list PySem.F.slot_list_append PySem.F.type_list_append mt_append (pv 8) (pa_cons (pe_lamF (k := 9) T.F_l_met sc_l_met T.b_l_met (fun _ => met_gives (by rfl) (by rfl) T.g_InvalidPlace (by decide) (fun _ => rfl)) T.g_l_met tb_l_refused (hr.mono (by decide)) (fun A outer s H E f c' hr => (pe_cmethA (ks := ["filtered"]) (pe_glob (v := .ref T.c_Place) rfl T.g_Place rfl) T.rd_Place T.cm_Place_of G_Place_of (hr.mono (by decide)) (passes_call (takes_of rfl rfl rfl rfl) (fun _ _ _ _ h => h)) (pa_cons (pv 1) (pa_cons (pv 7) pa_nil)) (pk_cons pe_bl pk_nil))) (L := LamX.lamS_by (sc := defScope s_l_refused) (by decide +kernel))) pa_nil)))
      (pss_cons (ps_expr (pe_bm PySem.F.plainAttrs_list PySem.F.slot_list_append PySem.F.type_list_append mt_append (pv 8) (pa_cons (pe_lamF (k := 9) T.F_l_met sc_l_met T.b_l_met (fun _ => met_gives (by rfl) (by rfl) T.g_InvalidPlace (by decide) (fun _ => rfl)) T.g_l_met tb_l_refused (hr.mono (by decide)) (fun A outer s H E f c' hr => (pe_cmethA (ks := ["filtered"]) (pe_glob (v := .ref T.c_Place) rfl T.g_Place rfl) T.rd_Place T.cm_Place_of G_Place_of (hr.mono (by decide)) (passes_call (takes_of rfl rfl rfl rfl) (fun _ _ _ _ h => h)) (pa_cons (pv 1) (pa_cons (pv 2) pa_nil)) (pk_cons (pv 5) pk_nil))) (L := LamX.lamS_by (sc := defScope s_l_refused) (by decide +kernel))) pa_nil)))
      (pss_cons (ps_expr (pe_bm PySem.F.plainAttrs_list PySem.F.slot_list_append PySem.F.type_list_append mt_append (pv 8) (pa_cons (pe_lamF (k := 9) T.F_l_met sc_l_met T.b_l_met (fun _ => met_gives (by rfl) (by rfl) T.g_InvalidPlace (by decide) (fun _ => rfl)) T.g_l_met tb_l_refused (hr.mono (by decide)) (fun A outer s H E f c' hr => (pe_cmethA (ks := []) (pe_glob (v := .ref T.c_Place) rfl T.g_Place rfl) T.rd_Place T.cm_Place_of G_Place_of (hr.mono (by decide)) (passes_call (takes_of rfl rfl rfl rfl) (fun _ _ _ _ h => h)) (pa_cons (pv 3) (pa_cons (pv 7) pa_nil)) pk_nil)) (L := LamX.lamS_by (sc := defScope s_l_refused) (by decide +kernel))) pa_nil)))
      (pss_cons (ps_expr (pe_bm PySem.F.plainAttrs_list PySem.F.slot_list_append PySem.F.type_list_append mt_append (pv 8) (pa_cons (pe_lamF (k := 9) T.F_l_met sc_l_met T.b_l_met (fun _ => met_gives (by rfl) (by rfl) T.g_InvalidPlace (by decide) (fun _ => rfl)) T.g_l_met tb_l_refused (hr.mono (by decide)) (fun A outer s H E f c' hr => (pe_call G_l_one_by_one (hr.mono (by decide)) (by rfl) T.g_l_one_by_one T.F_l_one_by_one.kp T.b_l_one_by_one .nil (passes_call (takes_of rfl rfl rfl rfl) (fun _ _ _ _ h => h)) (pa_cons (pv 3) (pa_cons (pv 2) (pa_cons pe_bl pa_nil))))) (L := LamX.lamS_by (sc := defScope s_l_refused) (by decide +kernel))) pa_nil)))
      (pss_cons (ps_expr (pe_bm PySem.F.plainAttrs_list PySem.F.slot_list_append PySem.F.type_list_append mt_append (pv 8) (pa_cons (pe_lamF (k := 9) T.F_l_met sc_l_met T.b_l_met (fun _ => met_gives (by rfl) (by rfl) T.g_InvalidPlace (by decide) (fun _ => rfl)) T.g_l_met tb_l_refused (hr.mono (by decide)) (fun A outer s H E f c' hr => (pe_makeA (ks := []) (pe_glob (v := .ref T.c_Place) rfl T.g_Place rfl) T.M_Place G_Place_init (hr.mono (by decide)) (passes_call (takes_of rfl rfl rfl rfl) (fun _ _ _ _ h => h)) (pa_cons (pv 1) pa_nil) pk_nil)) (L := LamX.lamS_by (sc := defScope s_l_refused) (by decide +kernel))) pa_nil)))
      (pss_cons (ps_set (i := 8) sc_l_refused.nd rfl (.inl rfl) (pe_op op_cat (pv 8) (pe_lst (pa_cons (pe_lamF (k := 9) T.F_l_met sc_l_met T.b_l_met (fun _ => met_gives (by rfl) (by rfl) T.g_InvalidPlace (by decide) (fun _ => rfl)) T.g_l_met tb_l_refused (hr.mono (by decide)) (fun A outer s H E f c' hr => (pe_call G_l_one_by_one (hr.mono (by decide)) (by rfl) T.g_l_one_by_one T.F_l_one_by_one.kp T.b_l_one_by_one .nil (passes_call (takes_of rfl rfl rfl rfl) (fun _ _ _ _ h => h)) (pa_cons (pv 1) (pa_cons (pv 7) (pa_cons pe_bl pa_nil))))) (L := LamX.lamS_by (sc := defScope s_l_refused) (by decide +kernel))) pa_nil))))
      (pss_cons (ps_set (i := 8) sc_l_refused.nd rfl (.inl rfl) (pe_op op_cat (pv 8) (pe_lst (pa_cons (pe_lamF (k := 9) T.F_l_met sc_l_met T.b_l_met (fun _ => met_gives (by rfl) (by rfl) T.g_InvalidPlace (by decide) (fun _ => rfl)) T.g_l_met tb_l_refused (hr.mono (by decide)) (fun A outer s H E f c' hr => (pe_makeA (ks := []) (pe_glob (v := .ref T.c_Place) rfl T.g_Place rfl) T.M_Place G_Place_init (hr.mono (by decide)) (passes_call (takes_of rfl rfl rfl rfl) (fun _ _ _ _ h => h)) (pa_cons (pv 1) (pa_cons pe_int (pa_cons pe_int (pa_cons pe_int (pa_cons pe_int (pa_cons pe_int pa_nil)))))) pk_nil)) (L := LamX.lamS_by (sc := defScope s_l_refused) (by decide +kernel))) pa_nil))))
      (pss_cons (ps_set (i := 9) sc_l_refused.nd rfl (.inr rfl) (pe_call G_l_pick (hr.mono (by decide)) (by rfl) T.g_l_pick T.F_l_pick.kp T.b_l_pick .nil pass0 (pa_cons (pv 0) (pa_cons (pe_lst (pa_cons pe_non (pa_cons (pe_callTy call_list_of (by rfl) T.n_list (by decide +kernel) (pa_cons (pv 2) pa_nil)) (pa_cons pe_str (pa_cons pe_int (pa_cons (pe_tup pa_nil) (pa_cons pe_dnewK (pa_cons pe_str pa_nil)))))))) pa_nil))))
      (pss_cons (ps_expr (pe_bm PySem.F.plainAttrs_list PySem.F.slot_list_append PySem.F.type_list_append mt_append (pv 8) (pa_cons (pe_lamF (k := 9) T.F_l_met sc_l_met T.b_l_met (fun _ => met_gives (by rfl) (by rfl) T.g_InvalidPlace (by decide) (fun _ => rfl)) T.g_l_met tb_l_refused (hr.mono (by decide)) (fun A outer s H E f c' hr => (pe_cmethA (ks := []) (pe_glob (v := .ref T.c_Place) rfl T.g_Place rfl) T.rd_Place T.cm_Place_of G_Place_of (hr.mono (by decide)) (passes_call (takes_of rfl rfl rfl rfl) (fun _ _ _ _ h => h)) (pa_cons (pv 1) (pa_cons (pe_tup (pa_cons pe_int (pa_cons pe_int (pa_cons pe_int (pa_cons pe_int (pa_cons pe_str pa_nil)))))) pa_nil)) pk_nil)) (L := LamX.lamS_by (sc := defScope s_l_refused) (by decide +kernel))) pa_nil)))
      (pss_cons (ps_expr (pe_bm PySem.F.plainAttrs_list PySem.F.slot_list_append PySem.F.type_list_append mt_append (pv 8) (pa_cons (pe_lamF (k := 9) T.F_l_met sc_l_met T.b_l_met (fun _ => met_gives (by rfl) (by rfl) T.g_InvalidPlace (by decide) (fun _ => rfl)) T.g_l_met tb_l_refused (hr.mono (by decide)) (fun A outer s H E f c' hr => (pe_cmethA (ks := []) (pe_glob (v := .ref T.c_Place) rfl T.g_Place rfl) T.rd_Place T.cm_Place_of G_Place_of (hr.mono (by decide)) (passes_call (takes_of rfl rfl rfl rfl) (fun _ _ _ _ h => h)) (pa_cons (pv 1) (pa_cons (pv 9) pa_nil)) pk_nil)) (L := LamX.lamS_by (sc := defScope s_l_refused) (by decide +kernel))) pa_nil)))
      (pss_one (ps_ret (pe_and (pe_cmpR (op_eqD hr.units) (pv 8) (pe_op op_rep (pe_lst (pa_cons pe_bl pa_nil)) pe_int) (nomark _)) (pe_one (pe_not (pe_lamF (k := 9) T.F_l_met sc_l_met T.b_l_met (fun _ => met_gives (by rfl) (by rfl) T.g_InvalidPlace (by decide) (fun _ => rfl)) T.g_l_met tb_l_refused (hr.mono (by decide)) (fun A outer s H E f c' hr => (pe_cmethA (ks := []) (pe_glob (v := .ref T.c_Place) rfl T.g_Place rfl) T.rd_Place T.cm_Place_of G_Place_of (hr.mono (by decide)) (passes_call (takes_of rfl rfl rfl rfl) (fun _ _ _ _ h => h)) (pa_cons (pv 1) (pa_cons (pv 2) pa_nil)) pk_nil)) (L := LamX.lamS_by (sc := defScope s_l_refused) (by decide +kernel))))))))))))))))))))))))), ?_⟩
    have x4 := terms_len h2
    have x1l : 1 ≤ xs.length := by
      have z := h2
      unfold termsB at z
      rw [Bool.and_eq_true, Bool.and_eq_true] at z
      have y := of_decide_eq_true z.1.1
      omega
    -- a name that is none
    refine ⟨.ref d, rfl, by show 1 ≤ sizeLine; decide, fun p1 n1 => ⟨Nat.zero_le _, fun p2 n2 => ⟨by show 12 ≤ sizeLine; decide, fun l1 m1 => ?_⟩⟩⟩
    have s1 := same_upd (o := .tup [.str "a"]) n1
    have e1 : (upd H p1 (.tup [.str "a"])) p1 = some (.tup [.str "a"]) := upd_same
    generalize upd H p1 (.tup [.str "a"]) = H1 at s1 e1 n2 m1 ⊢
    have s2 := same_upd (o := .lst []) n2
    have e2 : (upd H1 p2 (.lst [])) p2 = some (.lst []) := upd_same
    generalize upd H1 p2 (.lst []) = H2 at s2 e2 m1 ⊢
    have s3 := same_upd (o := .lst [V.str "", .str "abcdefghi", .str "Ab", .str "a b", .str "a1", .str "_", .str "+a", .non, .int 5, .ref p1, .ref p2, .bl true]) m1
    have d3 := hd.same ((s1.trans s2).trans s3)
    refine ⟨d, l1, _, rfl, d3, (hd.same (s1.trans s2)).ne_of m1, upd_same, by show 0 < 12; decide, by show 12 ≤ 1000; decide, fun off H3 mo k3 => ?_⟩
    obtain ⟨go, no⟩ := off_ok (s3 _ _ (s2 _ _ e1)) (s3 _ _ e2) mo
    have go := go.keep k3 d3
    have k3 := (Keep.of_same ((s1.trans s2).trans s3) hd).trans k3
    clear s1 s2 s3 e1 e2 n1 n2 m1 mo d3
    -- a term that is none
    refine ⟨10, 20, rfl, rfl, ⟨by decide, by decide, by decide⟩, 10, 20, rfl, rfl, ⟨by decide, by decide, by decide⟩, 0, _, rfl, rfl, 10, 39, rfl, rfl, ⟨by decide, by decide, by decide⟩, by show 1 ≤ sizeLine; decide, fun p1 n1 => ⟨Nat.zero_le _, fun p2 n2 p3 n3 => ⟨by show 13 ≤ sizeLine; decide, fun l1 m1 => ?_⟩⟩⟩
    have s1 := same_upd (o := .tup [.int 1]) n1
    have e1 : (upd H3 p1 (.tup [.int 1])) p1 = some (.tup [.int 1]) := upd_same
    generalize upd H3 p1 (.tup [.int 1]) = H4 at s1 e1 n2 n3 m1 ⊢
    have s2 := same_upd (o := .lst []) n2
    have e2 : (upd H4 p2 (.lst [])) p2 = some (.lst []) := upd_same
    generalize upd H4 p2 (.lst []) = H5 at s2 e2 n3 m1 ⊢
    have s3 := same_upd (o := .dK []) n3
    have e3 : (upd H5 p3 (.dK [])) p3 = some (.dK []) := upd_same
    generalize upd H5 p3 (.dK []) = H6 at s3 e3 m1 ⊢
    have s13 := (s1.trans s2).trans s3
    have d6 := k3.2.same s13
    refine ⟨.ref d, rfl, .ref l1, rfl, ?_⟩
    have s4 := same_upd (o := .lst [V.non, .bl true, .bl false, .int (10 ^ (20 : Int).toNat), .int (0 - 10 ^ (20 : Int).toNat), .int (10 ^ (39 : Int).toNat), .str "", .str "A", .str "a ", .str "abcdefghi", .ref p1, .ref p2, .ref p3]) m1
    have d7 := d6.same s4
    refine ⟨d, l1, _, rfl, d7, d6.ne_of m1, upd_same, by show 0 < 13; decide, by show 13 ≤ 1000; decide, fun odd H7 mo k4 => ?_⟩
    obtain ⟨gd, nd⟩ := odd_ok (s4 _ _ (s3 _ _ (s2 _ _ e1))) (s4 _ _ (s3 _ _ e2)) (s4 _ _ e3) mo
    have gd := gd.keep k4 d7
    have go := (go.same (s13.trans s4)).keep k4 d7
    have k7 := (k3.same (s13.trans s4)).trans k4
    clear s1 s2 s3 s4 s13 e1 e2 e3 n1 n2 n3 m1 mo d6 d7 k4 k3
    -- a mark that is none
    refine ⟨.ref d, rfl, Nat.zero_le _, fun p1 n1 => ⟨by show 1 ≤ sizeLine; decide, fun p2 n2 => ⟨by show 7 ≤ sizeLine; decide, fun l1 m1 => ?_⟩⟩⟩
    have s1 := same_upd (o := .tup []) n1
    have e1 : (upd H7 p1 (.tup [])) p1 = some (.tup []) := upd_same
    generalize upd H7 p1 (.tup []) = H8 at s1 e1 n2 m1 ⊢
    have s2 := same_upd (o := .lst [.bl true]) n2
    have e2 : (upd H8 p2 (.lst [.bl true])) p2 = some (.lst [.bl true]) := upd_same
    generalize upd H8 p2 (.lst [.bl true]) = H9 at s2 e2 m1 ⊢
    have s3 := same_upd (o := .lst [V.non, .int 0, .int 1, .str "", .str "yes", .ref p1, .ref p2]) m1
    have s13 := (s1.trans s2).trans s3
    have d9 := k7.2.same s13
    refine ⟨d, l1, _, rfl, d9, (k7.2.same (s1.trans s2)).ne_of m1, upd_same, by show 0 < 7; decide, by show 7 ≤ 1000; decide, fun much H10 mo k4 => ?_⟩
    obtain ⟨gm, nm⟩ := much_ok (s3 _ _ (s2 _ _ e1)) (s3 _ _ e2) mo
    have gm := gm.keep k4 d9
    have gd := (gd.same s13).keep k4 d9
    have go := (go.same s13).keep k4 d9
    have k10 := (k7.same s13).trans k4
    clear s1 s2 s3 s13 e1 e2 n1 n2 m1 mo d9 k4 k7
    -- where
    refine ⟨.ref d, rfl, .ref t, rfl, t, xs, rfl, .inr (mv_keep k10 hd _ _ ht), d, (xs.length : Int), rfl, k10.2, by omega, small_i (by omega) (by omega), fun a H11 a0 a1 k11 => ?_⟩
    have gm := gm.keep k11 k10.2
    have gd := gd.keep k11 k10.2
    have go := go.keep k11 k10.2
    have k := k10.trans k11
    clear k11 k10
    obtain ⟨a, rfl⟩ : ∃ b : Nat, a = (b : Int) := ⟨a.toNat, by omega⟩
    have al : a < xs.length := by omega
    have tk := cut_take (xs := xs) (n := a) (Nat.le_of_lt al)
    have dr1 : cutV xs (some ((a : Int) + 1)) none = xs.drop (a + 1) := cut_drop (xs := xs) (n := a + 1) al
    have mt := mv_keep (K := K) k hd _ _ ht
    refine ⟨.ref t, rfl, .int a, rfl, (a : Int), rfl, sl_step mt fun u H12 s12 hu => ⟨odd, rfl, by show 1 ≤ sizeLine; decide, fun o no' => ?_⟩⟩
    have so := same_upd (o := .tup [odd]) no'
    have k13 := (k.same s12).same so
    refine cat_step (mv_same so _ _ hu) (ys := [odd]) (.of upd_same) ?_ fun z H14 s14 hz => ⟨.ref t, rfl, .int a, rfl, (a : Int), 1, rfl, rfl, _, rfl, sl_stepN (mv_keep (k13.same s14) hd _ _ ht) fun y H15 s15 hy => cat_step (mv_same s15 _ _ hz) hy ?_ fun e H16 s16 he => ?_⟩
    · rw [tk, List.length_take, List.length_singleton]
      omega
    · rw [tk, dr1, List.length_append, List.length_take, List.length_singleton, List.length_drop]
      omega
    rw [tk, dr1] at he
    have s1216 := (((s12.trans so).trans s14).trans s15).trans s16
    have k16 := k.same s1216
    obtain ⟨ys, ey⟩ : ∃ ys, ys = xs.take a ++ [odd] ++ xs.drop (a + 1) := ⟨_, rfl⟩
    rw [← ey] at he
    have yl : ys.length = xs.length := by
      rw [ey, List.length_append, List.length_append, List.length_take, List.length_singleton, List.length_drop]
      omega
    have yb : termsB ys = false := bad_terms (v := odd) (by rw [ey]; simp) nd
    have tm := terms_mem h2
    have S : Stand K (T0 T) H d t e xs ys off much H16 := by
      refine ⟨.of k16, tabs_keep tb k16 hd, mv_keep k16 hd _ _ ht, he, go.same s1216, gm.same s1216, fun y hy => ?_⟩
      rw [ey] at hy
      rcases List.mem_append.mp hy with m | m
      · rcases List.mem_append.mp m with m | m
        · exact good_term (tm y (List.mem_of_mem_take m))
        · rw [List.mem_singleton.mp m]
          exact gd.same s1216
      · exact good_term (tm y (List.mem_of_mem_drop m))
    clear s12 so k13 s14 s15 s16 s1216 k16 he hz hy mt k hu no' gd go gm
    have gx : ∀ {H' : Hp}, ∀ y ∈ xs, Good H' y := fun y hy => good_term (tm y hy)
    have g1 : ∀ {H' : Hp}, Good H' (.str src) := .str src (name_len h1)
    -- 1
    refine ⟨S.tabs, fun Ha x1 t1 => ?_⟩
    have S := S.ext x1 t1
    refine ⟨rfl, off, rfl, .ref t, rfl, rfl, .bl false, rfl, .inl ⟨rfl, rfl⟩, of_no T S.go (.bl _) S.ht gx (by omega) (off_and no) fun Hb s => hit T ⟨by show 1 ≤ sizeLine; decide, fun l nl => ?_⟩⟩
    have S := S.same s
    obtain ⟨fr, ld⟩ := S.fresh nl
    have S := S.same (same_upd (o := .lst [.bl true]) nl)
    have el : (upd Hb l (.lst [.bl true])) l = some (.lst [.bl true]) := upd_same
    clear s x1 t1 nl
    generalize upd Hb l (.lst [.bl true]) = Hc at S el ⊢
    -- 2
    refine ⟨.ref l, rfl, .inl ⟨rfl, _, .of el⟩, S.tabs, fun Ha x1 t1 => ?_⟩
    have S := S.ext x1 t1
    have el := x1 _ _ el (fun _ z => by cases z)
    refine ⟨rfl, .str src, rfl, .ref e, rfl, rfl, .bl true, rfl, .inr rfl, of_no T g1 (.bl _) S.hu S.gy (by omega) (bad_and yb) fun Hb s => hit T ⟨l, _, .bl true, rfl, rfl, s _ _ el, by decide, ?_⟩⟩
    have S := (S.same s).app (zs' := [.bl true, .bl true]) fr ld (s _ _ el)
    have el : (upd Hb l (.lst [.bl true, .bl true])) l = some (.lst [.bl true, .bl true]) := upd_same
    show tSeq _ _ _ _ (upd Hb l (.lst [.bl true, .bl true]))
    clear s x1 t1
    generalize upd Hb l (.lst [.bl true, .bl true]) = Hc at S el ⊢
    -- 3
    refine ⟨.ref l, rfl, .inl ⟨rfl, _, .of el⟩, S.tabs, fun Ha x1 t1 => ?_⟩
    have S := S.ext x1 t1
    have el := x1 _ _ el (fun _ z => by cases z)
    refine ⟨rfl, .str src, rfl, .ref t, rfl, much, rfl, rfl, much, rfl, .inr rfl, of_no T g1 S.gm S.ht gx (by omega) (much_and nm) fun Hb s => hit T ⟨l, _, .bl true, rfl, rfl, s _ _ el, by decide, ?_⟩⟩
    have S := (S.same s).app (zs' := [.bl true, .bl true, .bl true]) fr ld (s _ _ el)
    have el : (upd Hb l (.lst [.bl true, .bl true, .bl true])) l = some (.lst [.bl true, .bl true, .bl true]) := upd_same
    show tSeq _ _ _ _ (upd Hb l (.lst [.bl true, .bl true, .bl true]))
    clear s x1 t1
    generalize upd Hb l (.lst [.bl true, .bl true, .bl true]) = Hc at S el ⊢
    -- 4
    refine ⟨.ref l, rfl, .inl ⟨rfl, _, .of el⟩, S.tabs, fun Ha x1 t1 => ?_⟩
    have S := S.ext x1 t1
    have el := x1 _ _ el (fun _ z => by cases z)
    refine ⟨rfl, off, rfl, .ref e, rfl, rfl, .bl false, rfl, .inl ⟨rfl, rfl⟩, of_no T S.go (.bl _) S.hu S.gy (by omega) (off_and no) fun Hb s => hit T ⟨l, _, .bl true, rfl, rfl, s _ _ el, by decide, ?_⟩⟩
    have S := (S.same s).app (zs' := [.bl true, .bl true, .bl true, .bl true]) fr ld (s _ _ el)
    have el : (upd Hb l (.lst [.bl true, .bl true, .bl true, .bl true])) l = some (.lst [.bl true, .bl true, .bl true, .bl true]) := upd_same
    show tSeq _ _ _ _ (upd Hb l (.lst [.bl true, .bl true, .bl true, .bl true]))
    clear s x1 t1
    generalize upd Hb l (.lst [.bl true, .bl true, .bl true, .bl true]) = Hc at S el ⊢
    -- 5
    refine ⟨.ref l, rfl, .inl ⟨rfl, _, .of el⟩, S.tabs, fun Ha x1 t1 => ?_⟩
    have S := S.ext x1 t1
    have el := x1 _ _ el (fun _ z => by cases z)
    refine ⟨off, rfl, .ref t, rfl, off, t, xs, true, rfl, S.ht, x1l, x4, S.go, gx, made_no T (off_and no) fun Hb s => hit T ⟨l, _, .bl true, rfl, rfl, s _ _ el, by decide, ?_⟩⟩
    have S := (S.same s).app (zs' := [.bl true, .bl true, .bl true, .bl true, .bl true]) fr ld (s _ _ el)
    have el : (upd Hb l (.lst [.bl true, .bl true, .bl true, .bl true, .bl true])) l = some (.lst [.bl true, .bl true, .bl true, .bl true, .bl true]) := upd_same
    show tSeq _ _ _ _ (upd Hb l (.lst [.bl true, .bl true, .bl true, .bl true, .bl true]))
    clear s x1 t1
    generalize upd Hb l (.lst [.bl true, .bl true, .bl true, .bl true, .bl true]) = Hc at S el ⊢
    -- 6
    refine ⟨.ref l, rfl, .inl ⟨rfl, _, .of el⟩, S.tabs, fun Ha x1 t1 => ?_⟩
    have S := S.ext x1 t1
    have el := x1 _ _ el (fun _ z => by cases z)
    refine ⟨rfl, .str src, rfl, rfl, make_no T (xs := []) g1 (.bl false) (fun y hy => by cases hy) (Nat.zero_le _) (.inl ⟨rfl, rfl⟩) (bad_and rfl) fun Hb s => hit T ⟨l, _, .bl true, rfl, rfl, s _ _ el, by decide, ?_⟩⟩
    have S := (S.same s).app (zs' := [.bl true, .bl true, .bl true, .bl true, .bl true, .bl true]) fr ld (s _ _ el)
    have el : (upd Hb l (.lst [.bl true, .bl true, .bl true, .bl true, .bl true, .bl true])) l = some (.lst [.bl true, .bl true, .bl true, .bl true, .bl true, .bl true]) := upd_same
    show tSeq _ _ _ _ (upd Hb l (.lst [.bl true, .bl true, .bl true, .bl true, .bl true, .bl true]))
    clear s x1 t1
    generalize upd Hb l (.lst [.bl true, .bl true, .bl true, .bl true, .bl true, .bl true]) = Hc at S el ⊢
    -- 7
    refine ⟨.ref l, rfl, S.tabs, fun Ha x1 t1 => ?_⟩
    have S := S.ext x1 t1
    have el := x1 _ _ el (fun _ z => by cases z)
    refine ⟨.str src, rfl, .ref e, rfl, .str src, e, ys, false, rfl, S.hu, by omega, by omega, g1, S.gy, ?_⟩
    refine made_no T (bad_and yb) fun Hb s => hit T ⟨by show 1 ≤ sizeLine; decide, fun m nm' => ?_⟩
    have S := (S.same s).same (same_upd (o := .lst [.bl true]) nm')
    have el := same_upd (o := .lst [.bl true]) nm' _ _ (s _ _ el)
    have em : (upd Hb m (.lst [.bl true])) m = some (.lst [.bl true]) := upd_same
    clear s x1 t1 nm' fr ld
    generalize upd Hb m (.lst [.bl true]) = Hc at S el em ⊢
    refine ⟨l, m, _, _, rfl, rfl, el, em, by show 7 ≤ sizeLine; decide, fun l2 nl2 => ?_⟩
    have S := S.same (same_upd (o := .lst [.bl true, .bl true, .bl true, .bl true, .bl true, .bl true, .bl true]) nl2)
    have el : (upd Hc l2 (.lst [.bl true, .bl true, .bl true, .bl true, .bl true, .bl true, .bl true])) l2 = some (.lst [.bl true, .bl true, .bl true, .bl true, .bl true, .bl true, .bl true]) := upd_same
    show tSeq _ _ _ _ (upd Hc l2 (.lst [.bl true, .bl true, .bl true, .bl true, .bl true, .bl true, .bl true]))
    clear em nl2
    generalize upd Hc l2 (.lst [.bl true, .bl true, .bl true, .bl true, .bl true, .bl true, .bl true]) = Hd at S el ⊢
    -- 8
    refine ⟨.ref l2, rfl, S.tabs, fun Ha x1 t1 => ?_⟩
    have S := S.ext x1 t1
    have el := x1 _ _ el (fun _ z => by cases z)
    refine ⟨rfl, .str src, rfl, rfl, make_no T (xs := [.int 1, .int 2, .int 3, .int 4, .int 5]) g1 (.bl false) (fun y hy => five y hy) (by show 5 ≤ sizeLine; decide) (.inl ⟨rfl, rfl⟩) (bad_and (by decide +kernel)) fun Hb s => hit T ⟨by show 1 ≤ sizeLine; decide, fun m nm' => ?_⟩⟩
    have S := (S.same s).same (same_upd (o := .lst [.bl true]) nm')
    have el := same_upd (o := .lst [.bl true]) nm' _ _ (s _ _ el)
    have em : (upd Hb m (.lst [.bl true])) m = some (.lst [.bl true]) := upd_same
    clear s x1 t1 nm'
    generalize upd Hb m (.lst [.bl true]) = Hc at S el em ⊢
    refine ⟨l2, m, _, _, rfl, rfl, el, em, by show 8 ≤ sizeLine; decide, fun l3 nl3 => ?_⟩
    obtain ⟨fr, ld⟩ := S.fresh nl3
    have S := S.same (same_upd (o := .lst [.bl true, .bl true, .bl true, .bl true, .bl true, .bl true, .bl true, .bl true]) nl3)
    have el : (upd Hc l3 (.lst [.bl true, .bl true, .bl true, .bl true, .bl true, .bl true, .bl true, .bl true])) l3 = some (.lst [.bl true, .bl true, .bl true, .bl true, .bl true, .bl true, .bl true, .bl true]) := upd_same
    show tSeq _ _ _ _ (upd Hc l3 (.lst [.bl true, .bl true, .bl true, .bl true, .bl true, .bl true, .bl true, .bl true]))
    clear em nl3
    generalize upd Hc l3 (.lst [.bl true, .bl true, .bl true, .bl true, .bl true, .bl true, .bl true, .bl true]) = Hd at S el ⊢
    -- what is no tuple
    refine ⟨.ref d, rfl, .ref t, rfl, t, xs, rfl, .inr S.ht, fun p1 n1 => ⟨Nat.zero_le _, fun p2 n2 p3 n3 => ⟨by show 7 ≤ sizeLine; decide, fun l1 m1 => ?_⟩⟩⟩
    have s1 := same_upd (o := .lst xs) n1
    have e1 : (upd Hd p1 (.lst xs)) p1 = some (.lst xs) := upd_same
    generalize upd Hd p1 (.lst xs) = He at s1 e1 n2 n3 m1 ⊢
    have s2 := same_upd (o := .tup []) n2
    have e2 : (upd He p2 (.tup [])) p2 = some (.tup []) := upd_same
    generalize upd He p2 (.tup []) = Hf at s2 e2 n3 m1 ⊢
    have s3 := same_upd (o := .dK []) n3
    have e3 : (upd Hf p3 (.dK [])) p3 = some (.dK []) := upd_same
    generalize upd Hf p3 (.dK []) = Hg at s3 e3 m1 ⊢
    have s4 := same_upd (o := .lst [V.non, .ref p1, .str "x", .int 5, .ref p2, .ref p3, .str "xy"]) m1
    have s14 := (s1.trans s2).trans s3
    have S := S.same s14
    have ld1 := (S.fresh m1).2
    have S := S.same s4
    refine ⟨d, l1, _, rfl, S.kn.2, ld1, upd_same, by show 0 < 7; decide, by show 7 ≤ 1000; decide, fun none' Hh mo k5 => ?_⟩
    have nn := (none_ok (K := K) (s4 _ _ (s3 _ _ (s2 _ _ e1))) (s4 _ _ (s3 _ _ e2)) (s4 _ _ e3) mo).keep k5 S.kn.2
    have el := k5.1 _ _ ld ((s14.trans s4) _ _ el)
    have S := S.keep k5
    clear s1 s2 s3 s4 s14 e1 e2 e3 n1 n2 n3 m1 mo k5 ld1
    -- 9
    refine ⟨.ref l3, rfl, .inl ⟨rfl, _, .of el⟩, S.tabs, fun Ha x1 t1 => ?_⟩
    have S := S.ext x1 t1
    have el := x1 _ _ el (fun _ z => by cases z)
    have nn := nn.ext x1
    refine ⟨rfl, .str src, rfl, by show 5 ≤ sizeLine; decide, fun p np => ?_⟩
    have sp := same_upd (o := .tup [.int 1, .int 2, .int 3, .int 4, .str "x"]) np
    refine ⟨rfl, .bl false, rfl, .inl ⟨rfl, rfl⟩, of_no T g1 (.bl _) (.of upd_same) (fun y hy => five' y hy) (by decide) (bad_and (by decide +kernel)) fun Hb s => hit T ⟨l3, _, .bl true, rfl, rfl, s _ _ (sp _ _ el), by decide, ?_⟩⟩
    have S := ((S.same sp).same s).app (zs' := [.bl true, .bl true, .bl true, .bl true, .bl true, .bl true, .bl true, .bl true, .bl true]) fr ld (s _ _ (sp _ _ el))
    have nn' : NotT K (upd Hb l3 (.lst [.bl true, .bl true, .bl true, .bl true, .bl true, .bl true, .bl true, .bl true, .bl true])) none' := (nn.ext (ext_same (sp.trans s))).app (s _ _ (sp _ _ el))
    have el : (upd Hb l3 (.lst [.bl true, .bl true, .bl true, .bl true, .bl true, .bl true, .bl true, .bl true, .bl true])) l3 = some (.lst [.bl true, .bl true, .bl true, .bl true, .bl true, .bl true, .bl true, .bl true, .bl true]) := upd_same
    show tSeq _ _ _ _ (upd Hb l3 (.lst [.bl true, .bl true, .bl true, .bl true, .bl true, .bl true, .bl true, .bl true, .bl true]))
    clear s x1 t1 sp np nn
    generalize upd Hb l3 (.lst [.bl true, .bl true, .bl true, .bl true, .bl true, .bl true, .bl true, .bl true, .bl true]) = Hc at S el nn' ⊢
    -- 10
    refine ⟨.ref l3, rfl, .inl ⟨rfl, _, .of el⟩, S.tabs, fun Ha x1 t1 => ?_⟩
    have S := S.ext x1 t1
    have el := x1 _ _ el (fun _ z => by cases z)
    have nn := nn'.ext x1
    refine ⟨rfl, .str src, rfl, none', rfl, rfl, .bl false, rfl, .inl ⟨rfl, rfl⟩, of_none T g1 nn fun Hb s => hit T ⟨l3, _, .bl true, rfl, rfl, s _ _ el, by decide, ?_⟩⟩
    have S := (S.same s).app (zs' := [.bl true, .bl true, .bl true, .bl true, .bl true, .bl true, .bl true, .bl true, .bl true, .bl true]) fr ld (s _ _ el)
    have el : (upd Hb l3 (.lst [.bl true, .bl true, .bl true, .bl true, .bl true, .bl true, .bl true, .bl true, .bl true, .bl true])) l3 = some (.lst [.bl true, .bl true, .bl true, .bl true, .bl true, .bl true, .bl true, .bl true, .bl true, .bl true]) := upd_same
    show tSeq _ _ _ _ (upd Hb l3 (.lst [.bl true, .bl true, .bl true, .bl true, .bl true, .bl true, .bl true, .bl true, .bl true, .bl true]))
    clear s x1 t1 nn nn'
    generalize upd Hb l3 (.lst [.bl true, .bl true, .bl true, .bl true, .bl true, .bl true, .bl true, .bl true, .bl true, .bl true]) = Hc at S el ⊢
    -- all of them
    refine ⟨.ref l3, rfl, by show 1 ≤ sizeLine; decide, fun m nm' => ?_⟩
    have sm := same_upd (o := .lst [.bl true]) nm'
    have em : (upd Hc m (.lst [.bl true])) m = some (.lst [.bl true]) := upd_same
    have S := S.same sm
    have el := sm _ _ el
    clear nm' sm
    generalize upd Hc m (.lst [.bl true]) = Hd at S el em ⊢
    refine ⟨m, 10, _, rfl, rfl, em, by decide, by decide, by decide, fun r nr => ?_⟩
    have sr := same_upd (o := .lst (List.replicate (10 : Int).toNat [V.bl true]).flatten) nr
    have S := S.same sr
    refine ⟨_, _, .lst (.of (sr _ _ el)) (dps_bools (List.replicate 10 true)), .lst (.of upd_same) (dps_bools (List.replicate 10 true)), by decide +kernel, by decide +kernel, _, rfl, ?_⟩
    have ev : PyData.eqv (.list ((List.replicate 10 true).map PyData.bool)) (.list ((List.replicate 10 true).map PyData.bool)) = true := by decide +kernel
    rw [ev]
    refine iteT ⟨S.tabs, fun Ha x1 t1 => ?_⟩
    have S := S.ext x1 t1
    refine ⟨rfl, .str src, rfl, .ref t, rfl, rfl, .bl false, rfl, .inl ⟨rfl, rfl⟩, .str src, .ref t, .bl false, rfl, g1, .bl _, .inl ⟨t, xs, rfl, S.ht, gx, sz_of (by omega), made_of T h1 h2 rfl fun x Hb _ s _ => ?_⟩⟩
    have S := S.same s
    exact ⟨false, rfl, q _ S.kn S.tabs⟩
end
-- SPLIT
/-! ### all of one cell -/
section
variable {P : Program} {w : World} {K : PySem.W.Frag} {mg : Str → Option Value} {base : Heap}
def sp_right (T : Txt K mg) : Sp := fun vs H Q _ => ∃ d : Addr, vs = [.ref d] ∧ Dice H d ∧ LamX.Tabs (T0 T) H ∧ ∀ H', KeepN d H H' → LamX.Tabs (T0 T) H' → Q (.bl true) H'
theorem ok_right (T : Txt K mg) (tb_l_refused : LamX.TabB base mg T.cb_l_refused T.tp_l_refused) : FnG P w K mg base CX0 13 T.a_l_right T.fd_l_right ["_law_dice_here"] (sp_right T) := by
  have G_l_roll : FnOk P w K mg base CX0 1 T.a_l_roll T.fd_l_roll ["_law_dice_here", "_law_upto"] (sp_roll K) := ok_roll T
  have G_l_pick : FnOk P w K mg base CX0 2 T.a_l_pick T.fd_l_pick ["_law_dice_here", "_law_items"] (sp_pickL K) := ok_pickL T
  have G_l_word : FnOk P w K mg base CX0 2 T.a_l_word T.fd_l_word ["_law_dice_here"] (sp_word K) := ok_word T
  have G_l_own_term : FnOk P w K mg base CX0 4 T.a_l_own_term T.fd_l_own_term ["_law_dice_here"] (sp_own K) := ok_own T
  have G_Place_of : FnA P w K mg base (L2.CX P w) 8 T.a_Place_of (fun vs kws H Q E => ∃ z, vs.length = 3 ∧ KwOne "filtered" (.bl false) kws z ∧ sp_of T (vs ++ [z]) H Q E) := ok_of T
  have G_l_one_by_one : FnOk P w K mg base (L2.CX P w) 8 T.a_l_one_by_one T.fd_l_one_by_one ["_law_source", "_law_terms", "_law_marked"] (sp_obo T) := ok_obo T
  have G_l_is_told : FnG P w K mg base CX0 5 T.a_l_is_told T.fd_l_is_told ["_law_place", "_law_source", "_law_terms", "_law_marked"] (sp_told T) := ok_told T
  have G_Place_eq : FnOk P w K mg base CX0 1 T.a_Place_eq T.fd_Place_eq ["self", "other"] (sp_peq T) := ok_peq T
  have G_l_signs_right : FnG P w K mg base CX0 11 T.a_l_signs_right T.fd_l_signs_right ["_law_place", "_law_source", "_law_terms", "_law_marked"] (sp_sgr T) := ok_sgr T
  have G_l_equal_right : FnG P w K mg base CX0 10 T.a_l_equal_right T.fd_l_equal_right ["_law_dice_here", "_law_place", "_law_source", "_law_terms", "_law_marked"] (sp_eqr T) := ok_eqr T
  have G_l_refused : FnG P w K mg base CX0 12 T.a_l_refused T.fd_l_refused ["_law_dice_here", "_law_source", "_law_terms"] (sp_ref T) := ok_ref T tb_l_refused
  refine okG T.F_l_right sc_l_right (fun vs H Q E h => ?_) (fun cdv A outer s H vs Q E gu hr h => ?_)
  · obtain ⟨d, rfl, _⟩ := h
    rfl
  · obtain ⟨d, rfl, hd, tb, q⟩ := h
    refine ⟨_, (pss_cons (ps_set (i := 1) sc_l_right.nd rfl (.inl rfl) (pe_mono (pe_ifExp (pt_cmpR op_eq (pe_call G_l_roll (hr.mono (by decide)) (by rfl) T.g_l_roll T.F_l_roll.kp T.b_l_roll .nil pass0 (pa_cons (pv 0) (pa_cons pe_int pa_nil))) pe_int (nomark _)) (pe_call G_l_word (hr.mono (by decide)) (by rfl) T.g_l_word T.F_l_word.kp T.b_l_word .nil pass0 (pa_cons (pv 0) pa_nil)) (pe_call G_l_pick (hr.mono (by decide)) (by rfl) T.g_l_pick T.F_l_pick.kp T.b_l_pick .nil pass0 (pa_cons (pv 0) (pa_cons (pe_lst (pa_cons pe_str (pa_cons pe_str (pa_cons pe_str pa_nil)))) pa_nil))))))
      (pss_cons (ps_set (i := 2) sc_l_right.nd rfl (.inl rfl) (pe_callTy call_tuple_of (by rfl) T.n_tuple (by decide +kernel) (pa_cons (pe_lc (own := [("_law_turn", 6)]) (g := gName 6) (tt := tYes) rfl sc_l_right.nd (pi_range1 (by rfl) T.n_range (pa_cons (pe_op op_add pe_int (pe_call G_l_roll (hr.mono (by decide)) (by rfl) T.g_l_roll T.F_l_roll.kp T.b_l_roll .nil pass0 (pa_cons (pv 0) (pa_cons pe_int pa_nil)))) pa_nil)) (blkOk_by (N := ["_law_dice_here", "_law_source", "_law_terms", "_law_marked", "_law_one", "_law_other", "_law_turn"]) (sc := defScope s_l_right) (by decide +kernel)) (fun _ _ _ _ _ => pg_name (i := 6) sc_l_right.nd rfl (Or.inl rfl)) (fun _ _ _ _ _ => pts_nil) (fun _ _ _ _ _ => (pe_call G_l_own_term (hr.mono (by decide)) (by rfl) T.g_l_own_term T.F_l_own_term.kp T.b_l_own_term .nil pass0 (pa_cons (pv 0) pa_nil)))) pa_nil)))
      (pss_cons (ps_set (i := 3) sc_l_right.nd rfl (.inl rfl) (pe_cmpR op_eq (pe_call G_l_roll (hr.mono (by decide)) (by rfl) T.g_l_roll T.F_l_roll.kp T.b_l_roll .nil pass0 (pa_cons (pv 0) (pa_cons pe_int pa_nil))) pe_int (nomark _)))
      (pss_cons (ps_par (i := 4) (j := 5) rfl sc_l_right.nd rfl rfl (by decide) rfl rfl (pa_cons (pe_call G_l_one_by_one (hr.mono (by decide)) (by rfl) T.g_l_one_by_one T.F_l_one_by_one.kp T.b_l_one_by_one .nil passL (pa_cons (pv 1) (pa_cons (pv 2) (pa_cons (pv 3) pa_nil)))) (pa_cons (pe_cmethA (ks := ["filtered"]) (pe_glob (v := .ref T.c_Place) rfl T.g_Place rfl) T.rd_Place T.cm_Place_of G_Place_of (hr.mono (by decide)) passL (pa_cons (pv 1) (pa_cons (pv 2) pa_nil)) (pk_cons (pv 3) pk_nil)) pa_nil)) (by rfl))
      (pss_cons (ps_if (PW.pt (pw_or (pt_not (pt_val (pe_callG G_l_is_told (by exact gu) (hr.mono (by decide)) (by rfl) T.g_l_is_told T.F_l_is_told.kp T.b_l_is_told pass0 (pa_cons (pv 4) (pa_cons (pv 1) (pa_cons (pv 2) (pa_cons (pv 3) pa_nil))))))) (pw_or (pt_not (pt_val (pe_callG G_l_is_told (by exact gu) (hr.mono (by decide)) (by rfl) T.g_l_is_told T.F_l_is_told.kp T.b_l_is_told pass0 (pa_cons (pv 5) (pa_cons (pv 1) (pa_cons (pv 2) (pa_cons (pv 3) pa_nil))))))) (pw_or1 (pt_cmpR (op_neO G_Place_eq (hr.mono (by decide)) T.eq_Place T.b_Place_eq pass0) (pv 4) (pv 5) (nomark _)))))) (pss_one (ps_ret pe_bl)) pss_nil)
      (pss_cons (ps_if (pt_not (pt_val (pe_callG G_l_is_told (by exact gu) (hr.mono (by decide)) (by rfl) T.g_l_is_told T.F_l_is_told.kp T.b_l_is_told pass0 (pa_cons (pe_cmethA (ks := []) (pe_glob (v := .ref T.c_Place) rfl T.g_Place rfl) T.rd_Place T.cm_Place_of G_Place_of (hr.mono (by decide)) passL (pa_cons (pv 1) (pa_cons (pv 2) pa_nil)) pk_nil) (pa_cons (pv 1) (pa_cons (pv 2) (pa_cons pe_bl pa_nil))))))) (pss_one (ps_ret pe_bl)) pss_nil)
      (pss_cons (ps_if (PW.pt (pw_or (pt_not (pt_val (pe_callG G_l_signs_right (by exact gu) (hr.mono (by decide)) (by rfl) T.g_l_signs_right T.F_l_signs_right.kp T.b_l_signs_right pass0 (pa_cons (pv 4) (pa_cons (pv 1) (pa_cons (pv 2) (pa_cons (pv 3) pa_nil))))))) (pw_or1 (pt_not (pt_val (pe_callG G_l_equal_right (by exact gu) (hr.mono (by decide)) (by rfl) T.g_l_equal_right T.F_l_equal_right.kp T.b_l_equal_right pass0 (pa_cons (pv 0) (pa_cons (pv 5) (pa_cons (pv 1) (pa_cons (pv 2) (pa_cons (pv 3) pa_nil))))))))))) (pss_one (ps_ret pe_bl)) pss_nil)
      (pss_one (ps_ret (pe_and (pe_callG G_l_refused (by exact gu) (hr.mono (by decide)) (by rfl) T.g_l_refused T.F_l_refused.kp T.b_l_refused pass0 (pa_cons (pv 0) (pa_cons (pv 1) (pa_cons (pv 2) pa_nil)))) (pe_one (pe_callG G_l_is_told (by exact gu) (hr.mono (by decide)) (by rfl) T.g_l_is_told T.F_l_is_told.kp T.b_l_is_told pass0 (pa_cons (pv 4) (pa_cons (pv 1) (pa_cons (pv 2) (pa_cons (pv 3) pa_nil)))))))))))))))), ?_⟩
    refine ⟨fun x H' => ∃ z, x = .str z ∧ nameB (.str z) = true ∧ Keep d H H', ?_, fun x H1 h1 => ?_⟩
    · refine ⟨.ref d, rfl, d, 2, rfl, hd, by decide, small_i (by decide) (by decide), fun n H1 n0 n1 k1 => ⟨rfl, _, rfl, ite2 (fun _ => ?_) (fun _ => ?_)⟩⟩
      · exact ⟨.ref d, rfl, d, rfl, k1.2, fun z H2 hz k2 => ⟨z, rfl, hz, k1.trans k2⟩⟩
      · refine ⟨.ref d, rfl, by show 3 ≤ sizeLine; decide, fun p hp => ?_⟩
        have pd : p ≠ d := k1.2.ne_of hp
        have k2 : Keep d H1 (upd H1 p (.lst [.str "a", .str "order", .str "zzzzzzzz"])) := .of_same (same_upd hp) k1.2
        refine ⟨d, p, _, rfl, k2.2, pd, upd_same, by show 0 < 3; decide, by show 3 ≤ 1000; decide, fun v H2 hv k3 => ?_⟩
        have k := k1.trans (k2.trans k3)
        simp only [List.mem_cons, List.not_mem_nil, or_false] at hv
        rcases hv with rfl | rfl | rfl
        · exact ⟨_, rfl, by decide +kernel, k⟩
        · exact ⟨_, rfl, by decide +kernel, k⟩
        · exact ⟨_, rfl, by decide +kernel, k⟩
    obtain ⟨src, rfl, hn, k1⟩ := h1
    have t1 := tabs_keep tb k1 hd
    refine ⟨.ref d, rfl, d, 4, rfl, k1.2, by decide, small_i (by decide) (by decide), fun n H2 n0 n1 k2 => ⟨1, n, rfl, rfl, 1 + n, rfl, by omega, by omega, fun D hD => ?_⟩⟩
    have Dd : D ≠ d := k2.2.ne_of hD
    refine lc_range (lo := 0) (n := (1 + n).toNat) (fun i H3 => Keep d H2 H3 ∧ ∃ ys : List V, H3 D = some (.lst ys) ∧ ys.length = i ∧ ∀ y ∈ ys, termB y = true) ⟨(Keep.refl k2.2).put hD Dd, [], upd_same, rfl, by simp⟩ (fun i H3 hi h2 => ?_) (fun H3 h2 => ?_)
    · obtain ⟨k3, ys, e3, l3, y3⟩ := h2
      refine ⟨rfl, yesT ⟨.ref d, rfl, d, rfl, k3.2, fun v H4 hv k4 => ?_⟩⟩
      refine ⟨_, k4.some Dd e3, small1000 (by omega), (k3.trans k4).put hD Dd, ys ++ [v], upd_same, by rw [List.length_append, l3]; rfl, fun y hy => ?_⟩
      rcases List.mem_append.mp hy with h | h
      · exact y3 y h
      · rw [List.mem_singleton.mp h]
        exact hv
    obtain ⟨k3, xs, e3, l3, y3⟩ := h2
    refine ⟨D, _, rfl, .inl ⟨.of e3, fun t nt => ?_⟩⟩
    have k4 := ((k1.trans k2).trans k3).same (same_upd (o := .tup xs) nt)
    have ht : SqT K (upd H3 t (.tup xs)) t xs := .of upd_same
    generalize upd H3 t (.tup xs) = H4 at k4 ht ⊢
    have h2 : termsB xs = true := terms_of (by omega) (by omega) y3
    have gx : ∀ {H' : Hp}, ∀ y ∈ xs, Good H' y := fun y hy => good_term (y3 y hy)
    have gs : ∀ {H' : Hp}, Good H' (.str src) := .str src (name_len hn)
    refine ⟨.ref d, rfl, d, 2, rfl, k4.2, by decide, small_i (by decide) (by decide), fun n2 H5 _ _ k5 => ⟨rfl, ?_⟩⟩
    generalize decide (V.int n2 = V.int 0) = m
    have ht := mv_keep k5 k4.2 _ _ ht
    have k := k4.trans k5
    have tb5 := tabs_keep tb k hd
    clear k1 k2 k3 k4 k5 t1 e3 nt hD
    -- two places
    refine ⟨.str src, rfl, .ref t, rfl, .bl m, rfl, .str src, t, xs, m, rfl, ht, by omega, by omega, gs, gx, made_of T hn h2 rfl fun a H6 _ s6 pa => ?_⟩
    have ht := mv_same s6 _ _ ht
    refine ⟨rfl, .str src, rfl, .ref t, rfl, .bl m, rfl, rfl, .bl m, rfl, .inr rfl, .str src, .ref t, .bl m, rfl, gs, .bl m, .inl ⟨t, xs, rfl, ht, gx, sz_of (by omega), made_of T hn h2 rfl fun b H7 _ s7 pb => ⟨_, _, rfl, ?_⟩⟩⟩
    have pa := pa.same s7
    have ht := mv_same s7 _ _ ht
    have k := (k.same s6).same s7
    have tb7 := (tb5.ext s6).ext s7
    clear tb5 s6 s7
    refine ⟨.ref a, rfl, .str src, rfl, .ref t, rfl, .bl m, rfl, a, src, t, xs, m, rfl, pa, hn, h2, gx, ht, fun H8 s8 => ⟨_, rfl, iteF ?_⟩⟩
    have pa := pa.same s8
    have pb := pb.same s8
    have ht := mv_same s8 _ _ ht
    refine ⟨.ref b, rfl, .str src, rfl, .ref t, rfl, .bl m, rfl, b, src, t, xs, m, rfl, pb, hn, h2, gx, ht, fun H9 s9 => ⟨_, rfl, iteF ?_⟩⟩
    have pa := pa.same s9
    have pb := pb.same s9
    have ht := mv_same s9 _ _ ht
    refine ⟨.ref a, rfl, .ref b, rfl, neP_step T pa pb h2 h2 ⟨_, rfl, ?_⟩⟩
    have sm : samB src src xs xs m m = true := by
      unfold samB
      rw [decide_eq_true rfl, decide_eq_true rfl, decide_eq_true rfl]
      rfl
    rw [sm]
    refine iteF ?_
    have k := (k.same s8).same s9
    have tb9 := (tb7.ext s8).ext s9
    clear tb7 s8 s9
    -- without a mark
    refine ⟨rfl, .str src, rfl, .ref t, rfl, rfl, .bl false, rfl, .inl ⟨rfl, rfl⟩, .str src, .ref t, .bl false, rfl, gs, .bl _, .inl ⟨t, xs, rfl, ht, gx, sz_of (by omega), made_of T hn h2 rfl fun c H10 _ s10 pc => ?_⟩⟩
    have ht := mv_same s10 _ _ ht
    refine ⟨.str src, rfl, .ref t, rfl, c, src, t, xs, false, rfl, pc, hn, h2, gx, ht, fun H11 s11 => ⟨_, rfl, iteF ?_⟩⟩
    have ht := mv_same s11 _ _ ht
    have s := s10.trans s11
    have pa := pa.same s
    have pb := pb.same s
    have k := k.same s
    have tb11 := tb9.ext s
    clear tb9 s10 s11 s
    -- signs, equal ones
    refine ⟨.ref a, rfl, .str src, rfl, .ref t, rfl, .bl m, rfl, a, src, t, xs, m, rfl, pa, hn, h2, gx, ht, fun H12 s12 => ⟨_, rfl, iteF ?_⟩⟩
    have ht := mv_same s12 _ _ ht
    have pa := pa.same s12
    have pb := pb.same s12
    have k := k.same s12
    have tb12 := tb11.ext s12
    clear tb11 s12
    refine ⟨.ref d, rfl, .ref b, rfl, .str src, rfl, .ref t, rfl, .bl m, rfl, d, b, src, t, xs, m, rfl, k.2, pb, hn, h2, ht, fun H13 k13 => ⟨_, rfl, iteF ?_⟩⟩
    have ht := mv_keep k13 k.2 _ _ ht
    have pa := pa.keep k13 k.2
    have tb13 := tabs_keep tb12 k13 k.2
    have k := k.trans k13
    clear tb12 k13
    -- what makes no place
    refine ⟨.ref d, rfl, .str src, rfl, .ref t, rfl, d, src, t, xs, rfl, k.2, tb13, hn, h2, ht, fun H14 k14 tb14 => ⟨_, rfl, iteT ?_⟩⟩
    have ht := mv_keepN k14 k.2 _ _ ht
    have pa : PlV K T.c_Place H14 a (.str src) xs (.bl m) := by
      obtain ⟨dx, u, e, hu⟩ := pa
      refine ⟨dx, u, k14.1 _ _ (fun z => ?_) (fun _ z => by cases z) e, mv_keepN k14 k.2 _ _ hu⟩
      obtain ⟨a, b, c, e0, _⟩ := k.2
      rw [z, e0] at e
      cases e
    exact ⟨.ref a, rfl, .str src, rfl, .ref t, rfl, .bl m, rfl, a, src, t, xs, m, rfl, pa, hn, h2, gx, ht, fun H15 s15 => q _ ((KeepN.of k).trans (k14.trans (.ext k14.2 (ext_same s15)))) (tb14.ext s15)⟩
end
-- SPLIT
/-! ### the law -/
section
variable {P : Program} {w : World} {K : PySem.W.Frag} {mg : Str → Option Value} {base : Heap}
theorem make_new (T : Txt K mg) {H : Hp} {src flt : V} {xs : List V} {kws : List (Str × V)} {R : Addr → VK} {E : XK} (g1 : Good H src) (g2 : Good H flt) (g3 : ∀ y ∈ xs, Good H y) (hl : xs.length ≤ sizeLine) (ko : KwOne "filtered" (.bl false) kws flt)
    (n : (nameB src && termsB xs && isbB flt) = true) (q : ∀ x H', H x = Option.none → Same H H' → PlV K T.c_Place H' x src xs flt → R x .non H') :
    ∀ x dx, H x = Option.none → H dx = Option.none → dx ≠ x → sp_plA T (.ref x :: src :: xs) kws (upd (upd H dx (.own x)) x (.ins T.c_Place dx [])) (R x) E := by
  intro x dx hx hdx ne
  have s0 : Same H (upd (upd H dx (.own x)) x (.ins T.c_Place dx [])) := snew (snew (.refl _) hdx) (by rw [upd_ne (Ne.symm ne)]; exact hx)
  have e0 : (upd (upd H dx (.own x)) x (.ins T.c_Place dx [])) x = some (.ins T.c_Place dx []) := upd_same
  generalize upd (upd H dx (.own x)) x (.ins T.c_Place dx []) = H1 at s0 e0 ⊢
  refine ⟨[.ref x, src], xs, flt, rfl, rfl, hl, ko, fun p hp => ?_⟩
  have s1 := snew (o := .tup xs) s0 hp
  have e1 : (upd H1 p (.tup xs)) x = some (.ins T.c_Place dx []) := by
    rw [upd_ne (ne_of_none e0 hp)]
    exact e0
  have e2 : (upd H1 p (.tup xs)) p = some (.tup xs) := upd_same
  have np : p ≠ x := fun z => by
    rw [z, e0] at hp
    cases hp
  generalize upd H1 p (.tup xs) = H2 at s1 e1 e2 ⊢
  have nx : ∀ {b : Addr} {o : HO}, H b = some o → b ≠ x := fun e z => by
    rw [z, hx] at e
    cases e
  exact ⟨x, dx, src, flt, p, xs, rfl, e1, .of e2, .inr ⟨g1.same s1, g2.same s1, fun y hy => (g3 y hy).same s1, fun _ H' k e3 => q x H' hx (fun b o e => k b o (nx e) (s1 b o e)) ⟨dx, p, e3, .of (k p _ np e2)⟩, fun no => absurd (n.symm.trans no) (by decide)⟩⟩
/-- a place of terms that are right -/
theorem make_go (T : Txt K mg) {H : Hp} {src : Str} {xs : List V} {R : Addr → VK} {E : XK} (h1 : nameB (.str src) = true) (h2 : termsB xs = true) (q : ∀ x H', Same H H' → PlV K T.c_Place H' x (.str src) xs (.bl false) → R x .non H') :
    ∀ x dx, H x = Option.none → H dx = Option.none → dx ≠ x → sp_plA T (.ref x :: .str src :: xs) [] (upd (upd H dx (.own x)) x (.ins T.c_Place dx [])) (R x) E :=
  make_new T (.str src (name_len h1)) (.bl false) (fun y hy => good_term (terms_mem h2 y hy)) (sz_of (Nat.le_trans (terms_len h2) (by decide))) (.inl ⟨rfl, rfl⟩) (by rw [h1, h2]; rfl) fun x H' _ s p => q x H' s p
theorem sqL_keepN {d a : Addr} {H1 H2 H3 : Hp} {xs : List V} (h : SqL K H1 a xs) (n : H1 d = none) (s : Same H1 H2) (k : KeepN d H2 H3) : SqL K H3 a xs := by
  rcases h with (h | ⟨o, h⟩) | h
  · exact .inl (.inl (k.1 _ _ (fun z => by rw [z, n] at h; cases h) (fun _ z => by cases z) (s _ _ h)))
  · exact .inl (.inr ⟨o, k.1 _ _ (fun z => by rw [z, n] at h; cases h) (fun _ z => by cases z) (s _ _ h)⟩)
  · exact .inr h
def sp_law (T : Txt K mg) : Sp := fun vs H Q _ => ∃ (a : Addr) (ns : List Int), vs = [.ref a] ∧ SqL K H a (ns.map V.int) ∧ ns.length ≤ 63 ∧ LamX.Tabs (T0 T) H ∧ ∀ H', Q (.bl true) H'
theorem told_law (T : Txt K mg) {H : Hp} {a : Addr} {ns : List Int} (h : H T.tp_l_refused = some (.tbl #[])) (hl : ns.length ≤ 63) (_ : ∀ z ∈ ns, Builtin.Int.intBits z ≤ 1048576) (hS : SqL K H a (ns.map V.int)) : sp_law T [.ref a] H (fun v _ => v = .bl true) (fun _ _ _ => False) :=
  ⟨a, ns, rfl, hS, hl, fun p hp => by rw [List.mem_singleton.mp hp]; exact .nil h, fun _ => rfl⟩
set_option maxHeartbeats 4000000 in
theorem ok_law (T : Txt K mg) (tb_l_refused : LamX.TabB base mg T.cb_l_refused T.tp_l_refused) : FnG P w K mg base CX0 14 T.a_law T.fd_law ["_law_script"] (sp_law T) := by
  have G_l_dice : FnOk P w K mg base CX0 1 T.a_l_dice T.fd_l_dice ["_law_script", "_law_spot"] (sp_dice K) := ok_dice T
  have G_l_right : FnG P w K mg base CX0 13 T.a_l_right T.fd_l_right ["_law_dice_here"] (sp_right T) := ok_right T tb_l_refused
  have G_Place_init : FnA P w K mg base (L2.CX P w) 6 T.a_Place_init (sp_plA T) := ok_pl T
  have G_Place_eq : FnOk P w K mg base CX0 1 T.a_Place_eq T.fd_Place_eq ["self", "other"] (sp_peq T) := ok_peq T
  have G_Place_str : FnOk P w K mg base CX0 2 T.a_Place_str T.fd_Place_str ["self"] (sp_pstr T) := ok_pstr T
  have G_Place_len : FnOk P w K mg base CX0 1 T.a_Place_len T.fd_Place_len ["self"] (sp_plen T) := ok_plen T
  have G_Place_filtered : FnOk P w K mg base CX0 1 T.a_Place_filtered T.fd_Place_filtered ["self"] (sp_flt T) := ok_flt T
  have G_Place_variables : FnOk P w K mg base CX0 3 T.a_Place_variables T.fd_Place_variables ["self"] (sp_vrs T) := ok_vrs T
  have G_Place_pos : FnOk P w K mg base CX0 9 T.a_Place_pos T.fd_Place_pos ["self"] (sp_sgn T fun _ => .bl true) := ok_pos T
  have G_Place_invert : FnOk P w K mg base CX0 9 T.a_Place_invert T.fd_Place_invert ["self"] (sp_sgn T notV) := ok_inv T
  refine okG T.F_law sc_law (fun vs H Q E h => ?_) (fun cdv A outer s H vs Q E gu hr h => ?_)
  · obtain ⟨a, ns, rfl, _⟩ := h
    rfl
  · obtain ⟨a, ns, rfl, hS, h63, tb, q⟩ := h
    refine ⟨_, (pss_cons (ps_for PassesOwn.never rfl (pi_range1 (by rfl) T.n_range (pa_cons (pe_callB (call_max2 rfl) (by rfl) T.n_max (by decide +kernel) (pa_cons pe_int (pa_cons (pe_callB (call_min2 rfl) (by rfl) T.n_min (by decide +kernel) (pa_cons pe_int (pa_cons (pe_callB call_len_seq (by rfl) T.n_len (by decide +kernel) (pa_cons (pv 0) pa_nil)) pa_nil))) pa_nil))) pa_nil)) (pg_name (i := 1) sc_law.nd rfl (.inl rfl)) (pss_cons (ps_set (i := 2) sc_law.nd rfl (.inl rfl) (pe_call G_l_dice (hr.mono (by decide)) (by rfl) T.g_l_dice T.F_l_dice.kp T.b_l_dice .nil pass0 (pa_cons (pv 0) (pa_cons (pv 1) pa_nil))))
      (pss_one (ps_for PassesOwn.never rfl (pi_range1 (by rfl) T.n_range (pa_cons pe_int pa_nil)) (pg_name (i := 3) sc_law.nd rfl (.inl rfl)) (pss_one (ps_if (pt_not (pt_val (pe_callG G_l_right (by exact gu) (hr.mono (by decide)) (by rfl) T.g_l_right T.F_l_right.kp T.b_l_right pass0 (pa_cons (pv 2) pa_nil)))) (pss_one (ps_ret pe_bl)) pss_nil))))))
      (pss_cons (ps_set (i := 4) sc_law.nd rfl (.inl rfl) (pe_makeA (ks := []) (pe_glob (v := .ref T.c_Place) rfl T.g_Place rfl) T.M_Place G_Place_init (hr.mono (by decide)) passL (pa_cons pe_str (pa_cons pe_str (pa_cons pe_int (pa_cons pe_str pa_nil)))) pk_nil))
      (pss_cons (ps_set (i := 5) sc_law.nd rfl (.inl rfl) (pe_lst (pa_cons (pe_callTy (call_strO G_Place_str T.b_Place_str pass0 (hr.mono (by decide)) ⟨T.m_Place_str.1, T.m_Place_str.2⟩) (by rfl) T.n_str (by decide +kernel) (pa_cons (pv 4) pa_nil)) (pa_cons (pe_callTy (call_strO G_Place_str T.b_Place_str pass0 (hr.mono (by decide)) ⟨T.m_Place_str.1, T.m_Place_str.2⟩) (by rfl) T.n_str (by decide +kernel) (pa_cons (pe_un (un_posO G_Place_pos T.b_Place_pos pass0 (hr.mono (by decide)) ⟨T.m_Place_pos.1, T.m_Place_pos.2⟩) (pv 4)) pa_nil)) (pa_cons (pe_prop (pv 4) T.cl_Place T.p_Place_variables G_Place_variables (hr.mono (by decide)) T.b_Place_variables .nil pass0 rfl) (pa_cons (pe_prop (pv 4) T.cl_Place T.p_Place_filtered G_Place_filtered (hr.mono (by decide)) T.b_Place_filtered .nil pass0 rfl) (pa_cons (pe_prop (pe_un (un_posO G_Place_pos T.b_Place_pos pass0 (hr.mono (by decide)) ⟨T.m_Place_pos.1, T.m_Place_pos.2⟩) (pv 4)) T.cl_Place T.p_Place_filtered G_Place_filtered (hr.mono (by decide)) T.b_Place_filtered .nil pass0 rfl) (pa_cons (pe_callB (call_lenO G_Place_len T.b_Place_len pass0 (hr.mono (by decide)) ⟨T.m_Place_len.1, T.m_Place_len.2⟩) (by rfl) T.n_len (by decide +kernel) (pa_cons (pe_un (un_invO G_Place_invert T.b_Place_invert pass0 (hr.mono (by decide)) ⟨T.m_Place_invert.1, T.m_Place_invert.2⟩) (pv 4)) pa_nil)) pa_nil))))))))
      (pss_cons (ps_if (pt_cmpR (op_neD hr.units) (pv 5) (pe_lst (pa_cons pe_str (pa_cons pe_str (pa_cons (pe_tup (pa_cons pe_str pa_nil)) (pa_cons pe_bl (pa_cons pe_bl (pa_cons pe_int pa_nil))))))) (nomark _)) (pss_one (ps_ret pe_bl)) pss_nil)
      (pss_cons (ps_set (i := 5) sc_law.nd rfl (.inl rfl) (pe_lst (pa_cons (pe_cmpR (op_eqO G_Place_eq (hr.mono (by decide)) T.eq_Place T.b_Place_eq pass0) (pv 4) (pe_makeA (ks := []) (pe_glob (v := .ref T.c_Place) rfl T.g_Place rfl) T.M_Place G_Place_init (hr.mono (by decide)) passL (pa_cons pe_str (pa_cons pe_str (pa_cons pe_int (pa_cons pe_str pa_nil)))) pk_nil) (nomark _)) (pa_cons (pe_cmpR (op_eqO G_Place_eq (hr.mono (by decide)) T.eq_Place T.b_Place_eq pass0) (pv 4) (pe_makeA (ks := []) (pe_glob (v := .ref T.c_Place) rfl T.g_Place rfl) T.M_Place G_Place_init (hr.mono (by decide)) passL (pa_cons pe_str (pa_cons pe_str (pa_cons pe_int (pa_cons pe_str pa_nil)))) pk_nil) (nomark _)) pa_nil))))
      (pss_cons (ps_set (i := 5) sc_law.nd rfl (.inl rfl) (pe_op op_cat (pv 5) (pe_lst (pa_cons (pe_cmpR (op_eqO G_Place_eq (hr.mono (by decide)) T.eq_Place T.b_Place_eq pass0) (pv 4) (pe_makeA (ks := []) (pe_glob (v := .ref T.c_Place) rfl T.g_Place rfl) T.M_Place G_Place_init (hr.mono (by decide)) passL (pa_cons pe_str (pa_cons pe_str (pa_cons pe_int (pa_cons pe_str pa_nil)))) pk_nil) (nomark _)) (pa_cons (pe_cmpR (op_eqO G_Place_eq (hr.mono (by decide)) T.eq_Place T.b_Place_eq pass0) (pe_makeA (ks := []) (pe_glob (v := .ref T.c_Place) rfl T.g_Place rfl) T.M_Place G_Place_init (hr.mono (by decide)) passL (pa_cons pe_str (pa_cons pe_int pa_nil)) pk_nil) (pe_makeA (ks := []) (pe_glob (v := .ref T.c_Place) rfl T.g_Place rfl) T.M_Place G_Place_init (hr.mono (by decide)) passL (pa_cons pe_str (pa_cons pe_str pa_nil)) pk_nil) (nomark _)) pa_nil)))))
      (pss_cons (ps_set (i := 5) sc_law.nd rfl (.inl rfl) (pe_op op_cat (pv 5) (pe_lst (pa_cons (pe_callTy (call_strO G_Place_str T.b_Place_str pass0 (hr.mono (by decide)) ⟨T.m_Place_str.1, T.m_Place_str.2⟩) (by rfl) T.n_str (by decide +kernel) (pa_cons (pe_makeA (ks := []) (pe_glob (v := .ref T.c_Place) rfl T.g_Place rfl) T.M_Place G_Place_init (hr.mono (by decide)) passL (pa_cons pe_str (pa_cons (pe_op op_sub pe_int pe_int) pa_nil)) pk_nil) pa_nil)) (pa_cons (pe_prop (pe_makeA (ks := []) (pe_glob (v := .ref T.c_Place) rfl T.g_Place rfl) T.M_Place G_Place_init (hr.mono (by decide)) passL (pa_cons pe_str (pa_cons pe_str (pa_cons pe_str pa_nil))) pk_nil) T.cl_Place T.p_Place_variables G_Place_variables (hr.mono (by decide)) T.b_Place_variables .nil pass0 rfl) pa_nil)))))
      (pss_one (ps_ret (pe_cmpR (op_eqD hr.units) (pv 5) (pe_lst (pa_cons pe_bl (pa_cons pe_bl (pa_cons pe_bl (pa_cons pe_bl (pa_cons pe_str (pa_cons (pe_tup (pa_cons pe_str (pa_cons pe_str pa_nil))) pa_nil))))))) (nomark _))))))))))), ?_⟩
    refine ⟨.ref a, rfl, a, ns.map V.int, rfl, .inl hS, 6, _, rfl, 1, _, rfl, ?_⟩
    generalize hm : (if (if ((ns.map V.int).length : Int) < 6 then ((ns.map V.int).length : Int) else 6) > 1 then (if ((ns.map V.int).length : Int) < 6 then ((ns.map V.int).length : Int) else 6) else 1) = m
    have m0 : 0 ≤ m ∧ m ≤ 6 := by
      rw [← hm]
      repeat' split
      all_goals omega
    refine ⟨m, rfl, by omega, by omega, for_range (lo := 0) (n := m.toNat) (fun i σ H1 => (∃ y1 y2 y3, σ = [some (.ref a), y1, y2, y3, none, none]) ∧ SqL K H1 a (ns.map V.int) ∧ LamX.Tabs (T0 T) H1) ⟨⟨none, none, none, rfl⟩, hS, tb⟩ (fun i σ H1 hi h => ?_) (fun σ H1 h => ?_)⟩
    · obtain ⟨⟨y1, y2, y3, rfl⟩, hS1, tb1⟩ := h
      refine ⟨_, rfl, _, rfl, a, ns, 0 + i, rfl, hS1, by omega, h63, fun d H2 hd s2 dd => ?_⟩
      refine ⟨3, rfl, by decide, by decide, for_range (lo := 0) (n := 3) (fun j σ H3 => (∃ y3, σ = [some (.ref a), some (.int (0 + i)), some (.ref d), y3, none, none]) ∧ KeepN d H2 H3 ∧ LamX.Tabs (T0 T) H3) ⟨⟨_, rfl⟩, .refl dd, tb1.ext s2⟩ (fun j σ H3 hj h => ?_) (fun σ H3 h => ?_)⟩
      · obtain ⟨⟨z3, rfl⟩, k3, tb3⟩ := h
        exact ⟨_, rfl, d, rfl, k3.2, tb3, fun H4 k4 tb4 => ⟨_, rfl, iteF ⟨⟨_, rfl⟩, k3.trans k4, tb4⟩⟩⟩
      · obtain ⟨⟨z3, rfl⟩, k3, tb3⟩ := h
        exact ⟨⟨_, _, _, rfl⟩, sqL_keepN hS1 hd s2 k3, tb3⟩
    · obtain ⟨⟨y1, y2, y3, rfl⟩, hS1, tb1⟩ := h
      refine ⟨rfl, rfl, make_go T (xs := [.str "o", .int 5, .str "o"]) (by decide +kernel) (by decide +kernel) fun a H2 s2 pa => ⟨rfl, ?_⟩⟩
      obtain ⟨xs, ex⟩ : ∃ xs : List V, xs = [.str "o", .int 5, .str "o"] := ⟨_, rfl⟩
      rw [← ex] at pa
      have h1 : nameB (.str "order") = true := by decide +kernel
      have h2 : termsB xs = true := by
        rw [ex]
        decide +kernel
      have gx : ∀ {H' : Hp}, ∀ y ∈ xs, Good H' y := fun y hy => good_term (terms_mem h2 y hy)
      have ins : ∀ {H' : Hp} {b : Addr} {src : V} {zs : List V} {f : V}, PlV K T.c_Place H' b src zs f → InsAt H' T.c_Place b := fun p => by
        obtain ⟨dx, t, e, _⟩ := p
        exact ⟨dx, _, e⟩
      -- what it tells
      refine ⟨.ref a, rfl, a, rfl, ins pa, a, "order", false, xs, rfl, pa, h1, h2, fun H3 s3 => ⟨_, rfl, ?_⟩⟩
      have pa := pa.same s3
      refine ⟨.ref a, rfl, un_step T pa h1 h2 gx fun x H4 s4 px => ⟨x, rfl, ins px, x, "order", true, xs, rfl, px, h1, h2, fun H5 s5 => ⟨_, rfl, ?_⟩⟩⟩
      have pa := (pa.same s4).same s5
      obtain ⟨dx, t, ea, _⟩ := id pa
      refine ⟨.ref a, rfl, a, dx, _, rfl, ea, a, .str "order", .bl false, xs, rfl, pa, h2, gx, fun tv zs H6 s6 ev m1 m2 m3 => ?_⟩
      have ez : zs = [("o" : Str)] := uniq m1 (by decide +kernel) m2 (by decide) fun k => by
        rw [m3 k, ex, show (([V.str "o", .int 5, .str "o"] : List V).filter nameB).map strV = [("o" : Str), "o"] by decide +kernel]
        simp
      rw [ez] at ev
      have pa := pa.same s6
      have ea := s6 _ _ ea
      refine ⟨.ref a, rfl, a, dx, _, rfl, ea, a, .str "order", .bl false, xs, rfl, pa, ?_⟩
      refine ⟨.ref a, rfl, un_step T pa h1 h2 gx fun x H7 s7 px => ?_⟩
      have pa := pa.same s7
      have ev := s7 _ _ ev
      obtain ⟨dy, u, ey, hu⟩ := id px
      refine ⟨x, dy, _, rfl, ey, x, .str "order", .bl true, xs, rfl, px, ?_⟩
      refine ⟨.ref a, rfl, un_step T pa h1 h2 gx fun y H8 s8 py => ⟨y, rfl, ins py, y, .str "order", _, xs, rfl, py, (xs.length : Int), rfl, by omega, by rw [ex]; decide, ?_⟩⟩
      have pa := pa.same s8
      have ev := s8 _ _ ev
      refine ⟨by show 6 ≤ sizeLine; decide, fun l nl => ?_⟩
      clear px py ea ey hu s3 s4 s5 s6 s7 s8 m1 m2 m3
      rw [ex, show placeS "order" [.str "o", .int 5, .str "o"] false = ("order(o, 5, o)" : Str) by decide +kernel, show placeS "order" [.str "o", .int 5, .str "o"] true = ("+order(o, 5, o)" : Str) by decide +kernel]
      obtain ⟨L, eL⟩ : ∃ L : List V, L = [.str "order(o, 5, o)", .str "+order(o, 5, o)", .ref tv, .bl false, .bl true, .int 3] := ⟨_, rfl⟩
      show tSeq _ _ _ _ (upd H8 l (.lst [.str "order(o, 5, o)", .str "+order(o, 5, o)", .ref tv, .bl false, .bl true, .int 3]))
      have sl := same_upd (o := .lst [V.str "order(o, 5, o)", .str "+order(o, 5, o)", .ref tv, .bl false, .bl true, .int 3]) nl
      have el : (upd H8 l (.lst [V.str "order(o, 5, o)", .str "+order(o, 5, o)", .ref tv, .bl false, .bl true, .int 3])) l = some (.lst [V.str "order(o, 5, o)", .str "+order(o, 5, o)", .ref tv, .bl false, .bl true, .int 3]) := upd_same
      have pa := pa.same sl
      have ev := sl _ _ ev
      clear sl nl eL L
      generalize upd H8 l (.lst [V.str "order(o, 5, o)", .str "+order(o, 5, o)", .ref tv, .bl false, .bl true, .int 3]) = H9 at pa ev el ⊢
      refine ⟨.ref l, rfl, by show 1 ≤ sizeLine; decide, fun p np => ⟨by show 6 ≤ sizeLine; decide, fun l2 nl2 => ?_⟩⟩
      have sp := same_upd (o := .tup [V.str "o"]) np
      have s2' := same_upd (o := .lst [V.str "order(o, 5, o)", .str "+order(o, 5, o)", .ref p, .bl false, .bl true, .int 3]) nl2
      have st := sp.trans s2'
      refine ⟨.list [.str "order(o, 5, o)", .str "+order(o, 5, o)", .tuple [.str "o"], .bool false, .bool true, .int 3], .list [.str "order(o, 5, o)", .str "+order(o, 5, o)", .tuple [.str "o"], .bool false, .bool true, .int 3],
        .lst (.of (st _ _ el)) (.cons (.str _) (.cons (.str _) (.cons (.tup (.of (st _ _ ev)) (.cons (.str _) .nil)) (.cons (.bl _) (.cons (.bl _) (.cons (.int _) .nil)))))),
        .lst (.of upd_same) (.cons (.str _) (.cons (.str _) (.cons (.tup (.of (s2' _ _ upd_same)) (.cons (.str _) .nil)) (.cons (.bl _) (.cons (.bl _) (.cons (.int _) .nil)))))), by decide +kernel, by decide +kernel, _, rfl, ?_⟩
      rw [show PyData.eqv (.list [.str "order(o, 5, o)", .str "+order(o, 5, o)", .tuple [.str "o"], .bool false, .bool true, .int 3]) (.list [.str "order(o, 5, o)", .str "+order(o, 5, o)", .tuple [.str "o"], .bool false, .bool true, .int 3]) = true by decide +kernel]
      refine iteF ?_
      have pa := pa.same st
      clear ev el sp s2' st np
      generalize upd (upd H9 p (.tup [V.str "o"])) l2 (.lst [V.str "order(o, 5, o)", .str "+order(o, 5, o)", .ref p, .bl false, .bl true, .int 3]) = H10 at pa ⊢
      -- others
      refine ⟨.ref a, rfl, rfl, rfl, make_go T (xs := [.str "o", .int 5, .str "p"]) (by decide +kernel) (by decide +kernel) fun b Ha sa pb => ⟨rfl, eqP_step T (pa.same sa) pb h2 (by decide +kernel) ?_⟩⟩
      have pa := pa.same sa
      clear sa pb
      refine ⟨.ref a, rfl, rfl, rfl, make_go T (xs := [.str "p", .int 5, .str "p"]) (by decide +kernel) (by decide +kernel) fun b Hb sb pb => ⟨rfl, eqP_step T (pa.same sb) pb h2 (by decide +kernel) ⟨by show 2 ≤ sizeLine; decide, fun l3 nl3 => ?_⟩⟩⟩
      have pa := pa.same sb
      clear sb pb
      rw [ex, show samB "order" "order" [.str "o", .int 5, .str "o"] [.str "o", .int 5, .str "p"] false false = false by decide +kernel, show samB "order" "order" [.str "o", .int 5, .str "o"] [.str "p", .int 5, .str "p"] false false = false by decide +kernel]
      have pa := pa.same (same_upd (o := .lst [.bl false, .bl false]) nl3)
      have e3 : (upd Hb l3 (.lst [.bl false, .bl false])) l3 = some (.lst [.bl false, .bl false]) := upd_same
      show tSeq _ _ _ _ (upd Hb l3 (.lst [.bl false, .bl false]))
      clear nl3
      generalize upd Hb l3 (.lst [.bl false, .bl false]) = Hc at pa e3 ⊢
      refine ⟨.ref l3, rfl, .ref a, rfl, rfl, rfl, make_go T (xs := [.str "o", .int 5, .str "o"]) (by decide +kernel) (by decide +kernel) fun b Hd sd pb => ⟨rfl, eqP_step T (pa.same sd) pb h2 (by decide +kernel) ?_⟩⟩
      have e3 := sd _ _ e3
      clear sd pb pa
      refine ⟨rfl, rfl, make_go T (xs := [.int 1]) (by decide +kernel) (by decide +kernel) fun b He se pb => ⟨rfl, rfl, rfl, make_go T (xs := [.str "x"]) (by decide +kernel) (by decide +kernel) fun c Hf sf pc => ⟨rfl, eqP_step T (pb.same sf) pc (by decide +kernel) (by decide +kernel) ⟨by show 2 ≤ sizeLine; decide, fun l4 nl4 => ?_⟩⟩⟩⟩
      rw [ex, show samB "order" "orders" [.str "o", .int 5, .str "o"] [.str "o", .int 5, .str "o"] false false = false by decide +kernel, show samB "a" "a" [.int 1] [.str "x"] false false = false by decide +kernel]
      have e3 := same_upd (o := .lst [.bl false, .bl false]) nl4 _ _ (sf _ _ (se _ _ e3))
      have e4 : (upd Hf l4 (.lst [.bl false, .bl false])) l4 = some (.lst [.bl false, .bl false]) := upd_same
      clear nl4 sf se pb pc
      generalize upd Hf l4 (.lst [.bl false, .bl false]) = Hg at e3 e4 ⊢
      refine ⟨l3, l4, _, _, rfl, rfl, e3, e4, by show 4 ≤ sizeLine; decide, fun l5 nl5 => ?_⟩
      have e5 : (upd Hg l5 (.lst [.bl false, .bl false, .bl false, .bl false])) l5 = some (.lst [.bl false, .bl false, .bl false, .bl false]) := upd_same
      show tSeq _ _ _ _ (upd Hg l5 (.lst [.bl false, .bl false, .bl false, .bl false]))
      clear nl5 e3 e4
      generalize upd Hg l5 (.lst [.bl false, .bl false, .bl false, .bl false]) = Hh at e5 ⊢
      refine ⟨.ref l5, rfl, rfl, 0, 1, rfl, rfl, rfl, make_go T (xs := [.int (0 - 1)]) (by decide +kernel) (by decide +kernel) fun b Hi si pb => ⟨rfl, b, rfl, ins pb, b, "a", false, _, rfl, pb, by decide +kernel, by decide +kernel, fun Hj sj => ⟨_, rfl, ?_⟩⟩⟩
      have e5 := sj _ _ (si _ _ e5)
      clear si sj pb
      refine ⟨rfl, rfl, make_go T (xs := [.str "b", .str "a"]) (by decide +kernel) (by decide +kernel) fun b Hk sk pb => ⟨rfl, ?_⟩⟩
      obtain ⟨db, u, eb, _⟩ := id pb
      refine ⟨b, db, _, rfl, eb, b, .str "a", .bl false, _, rfl, pb, by decide +kernel, fun y hy => good_term (terms_mem (xs := [.str "b", .str "a"]) (by decide +kernel) y hy), fun tw zs2 Hl sl ew m1 m2 m3 => ?_⟩
      have ez2 : zs2 = [("a" : Str), "b"] := uniq m1 (by decide +kernel) m2 (by decide) fun k => by
        rw [m3 k, show (([V.str "b", .str "a"] : List V).filter nameB).map strV = [("b" : Str), "a"] by decide +kernel]
        simp only [List.mem_cons, List.not_mem_nil, or_false]
        exact Or.comm
      rw [ez2] at ew
      have e5 := sl _ _ (sk _ _ e5)
      refine ⟨by show 2 ≤ sizeLine; decide, fun l6 nl6 => ?_⟩
      rw [show placeS "a" [.int (0 - 1)] false = ("a(-1)" : Str) by decide +kernel]
      have s6 := same_upd (o := .lst [.str "a(-1)", .ref tw]) nl6
      have e5 := s6 _ _ e5
      have ew := s6 _ _ ew
      have e6 : (upd Hl l6 (.lst [.str "a(-1)", .ref tw])) l6 = some (.lst [.str "a(-1)", .ref tw]) := upd_same
      clear s6 nl6 sl sk eb pb m1 m2 m3
      generalize upd Hl l6 (.lst [.str "a(-1)", .ref tw]) = Hm at e5 e6 ew ⊢
      refine ⟨l5, l6, _, _, rfl, rfl, e5, e6, by show 6 ≤ sizeLine; decide, fun l7 nl7 => ?_⟩
      have ew := same_upd (o := .lst [.bl false, .bl false, .bl false, .bl false, .str "a(-1)", .ref tw]) nl7 _ _ ew
      have e7 : (upd Hm l7 (.lst [.bl false, .bl false, .bl false, .bl false, .str "a(-1)", .ref tw])) l7 = some (.lst [.bl false, .bl false, .bl false, .bl false, .str "a(-1)", .ref tw]) := upd_same
      show tSeq _ _ _ _ (upd Hm l7 (.lst [.bl false, .bl false, .bl false, .bl false, .str "a(-1)", .ref tw]))
      clear nl7 e5 e6
      generalize upd Hm l7 (.lst [.bl false, .bl false, .bl false, .bl false, .str "a(-1)", .ref tw]) = Hn at ew e7 ⊢
      refine ⟨.ref l7, rfl, by show 2 ≤ sizeLine; decide, fun p np => ⟨by show 6 ≤ sizeLine; decide, fun l8 nl8 => ?_⟩⟩
      have sp := same_upd (o := .tup [V.str "a", .str "b"]) np
      have s8 := same_upd (o := .lst [V.bl false, .bl false, .bl false, .bl false, .str "a(-1)", .ref p]) nl8
      have st := sp.trans s8
      refine ⟨.list [.bool false, .bool false, .bool false, .bool false, .str "a(-1)", .tuple [.str "a", .str "b"]], .list [.bool false, .bool false, .bool false, .bool false, .str "a(-1)", .tuple [.str "a", .str "b"]],
        .lst (.of (st _ _ e7)) (.cons (.bl _) (.cons (.bl _) (.cons (.bl _) (.cons (.bl _) (.cons (.str _) (.cons (.tup (.of (st _ _ ew)) (.cons (.str _) (.cons (.str _) .nil))) .nil)))))),
        .lst (.of upd_same) (.cons (.bl _) (.cons (.bl _) (.cons (.bl _) (.cons (.bl _) (.cons (.str _) (.cons (.tup (.of (s8 _ _ upd_same)) (.cons (.str _) (.cons (.str _) .nil))) .nil)))))), by decide +kernel, by decide +kernel, ?_⟩
      rw [show PyData.eqv (.list [.bool false, .bool false, .bool false, .bool false, .str "a(-1)", .tuple [.str "a", .str "b"]]) (.list [.bool false, .bool false, .bool false, .bool false, .str "a(-1)", .tuple [.str "a", .str "b"]]) = true by decide +kernel]
      exact q _
end
-- SPLIT
set_option maxHeartbeats 0 in
theorem all_mk {l : PySem.W.OpenLaw} {w : World} {K : PySem.W.Frag} {h : Heap} {mg : Str → Option Value} {fa : Addr} {qq : Program} (X : K.In h) (G : h.Ns mainGlobals mg) (hfa : mg "law" = some (.ref fa))
    {C_Sound : Addr}
    {C_Place : Addr}
    {MC_Place : Value}
    {C_InvalidPlace : Addr}
    {f1 : Addr}
    {od1 an1 : Option Addr}
    {sl1 : Array (Option Value)}
    {oc1 kV1 dc1 pm1 cd1 ct1 : Value}
    {f2 : Addr}
    {od2 an2 : Option Addr}
    {sl2 : Array (Option Value)}
    {oc2 dc2 pm2 cd2 ct2 : Value}
    {kD2 : Addr}
    {f3 : Addr}
    {od3 an3 : Option Addr}
    {sl3 : Array (Option Value)}
    {oc3 dc3 pm3 cd3 ct3 : Value}
    {kD3 : Addr}
    {p3 : Addr}
    {rs3 : List Value}
    {f4 : Addr}
    {od4 an4 : Option Addr}
    {sl4 : Array (Option Value)}
    {oc4 kV4 dc4 pm4 cd4 ct4 : Value}
    {p4 : Addr}
    {rs4 : List Value}
    {f5 : Addr}
    {od5 an5 : Option Addr}
    {sl5 : Array (Option Value)}
    {oc5 kV5 dc5 pm5 cd5 ct5 : Value}
    {p5 : Addr}
    {rs5 : List Value}
    {f6 : Addr}
    {od6 an6 : Option Addr}
    {sl6 : Array (Option Value)}
    {oc6 kV6 dc6 pm6 cd6 ct6 : Value}
    {p6 : Addr}
    {rs6 : List Value}
    {f7 : Addr}
    {od7 an7 : Option Addr}
    {sl7 : Array (Option Value)}
    {oc7 kV7 dc7 pm7 cd7 ct7 : Value}
    {p7 : Addr}
    {rs7 : List Value}
    {f8 : Addr}
    {od8 an8 : Option Addr}
    {sl8 : Array (Option Value)}
    {oc8 kV8 dc8 pm8 cd8 ct8 : Value}
    {f9 : Addr}
    {od9 an9 : Option Addr}
    {sl9 : Array (Option Value)}
    {oc9 kV9 dc9 pm9 cd9 ct9 : Value}
    {f10 : Addr}
    {od10 an10 : Option Addr}
    {sl10 : Array (Option Value)}
    {oc10 kV10 dc10 pm10 cd10 ct10 : Value}
    {f11 : Addr}
    {od11 an11 : Option Addr}
    {sl11 : Array (Option Value)}
    {oc11 kV11 dc11 pm11 cd11 ct11 : Value}
    {f12 : Addr}
    {od12 an12 : Option Addr}
    {sl12 : Array (Option Value)}
    {oc12 kV12 dc12 pm12 cd12 ct12 : Value}
    {f13 : Addr}
    {od13 an13 : Option Addr}
    {sl13 : Array (Option Value)}
    {oc13 kV13 dc13 pm13 cd13 ct13 : Value}
    {f14 : Addr}
    {od14 an14 : Option Addr}
    {sl14 : Array (Option Value)}
    {oc14 kV14 dc14 pm14 cd14 ct14 : Value}
    {f15 : Addr}
    {od15 an15 : Option Addr}
    {sl15 : Array (Option Value)}
    {oc15 kV15 dc15 pm15 cd15 ct15 : Value}
    {f16 : Addr}
    {od16 an16 : Option Addr}
    {sl16 : Array (Option Value)}
    {oc16 kV16 dc16 pm16 cd16 ct16 : Value}
    {f17 : Addr}
    {od17 an17 : Option Addr}
    {sl17 : Array (Option Value)}
    {oc17 kV17 dc17 pm17 cd17 ct17 : Value}
    {f18 : Addr}
    {od18 an18 : Option Addr}
    {sl18 : Array (Option Value)}
    {oc18 kV18 dc18 pm18 cd18 ct18 : Value}
    {f19 : Addr}
    {od19 an19 : Option Addr}
    {sl19 : Array (Option Value)}
    {oc19 kV19 dc19 pm19 cd19 ct19 : Value}
    {f20 : Addr}
    {od20 an20 : Option Addr}
    {sl20 : Array (Option Value)}
    {oc20 kV20 dc20 pm20 cd20 ct20 : Value}
    {f21 : Addr}
    {od21 an21 : Option Addr}
    {sl21 : Array (Option Value)}
    {oc21 kV21 dc21 pm21 cd21 ct21 : Value}
    {f22 : Addr}
    {od22 an22 : Option Addr}
    {sl22 : Array (Option Value)}
    {oc22 kV22 dc22 pm22 cd22 ct22 : Value}
    {f23 : Addr}
    {od23 an23 : Option Addr}
    {sl23 : Array (Option Value)}
    {oc23 kV23 dc23 pm23 cd23 ct23 : Value}
    {f24 : Addr}
    {od24 an24 : Option Addr}
    {sl24 : Array (Option Value)}
    {oc24 kV24 dc24 pm24 cd24 ct24 : Value}
    {f25 : Addr}
    {od25 an25 : Option Addr}
    {sl25 : Array (Option Value)}
    {oc25 kV25 dc25 pm25 cd25 ct25 : Value}
    {f26 : Addr}
    {od26 an26 : Option Addr}
    {sl26 : Array (Option Value)}
    {oc26 kV26 dc26 pm26 cd26 ct26 : Value}
    {f27 : Addr}
    {od27 an27 : Option Addr}
    {sl27 : Array (Option Value)}
    {oc27 kV27 dc27 pm27 cd27 ct27 : Value}
    {f28 : Addr}
    {od28 an28 : Option Addr}
    {sl28 : Array (Option Value)}
    {oc28 kV28 dc28 pm28 cd28 ct28 : Value}
    {f29 : Addr}
    {od29 an29 : Option Addr}
    {sl29 : Array (Option Value)}
    {oc29 kV29 dc29 pm29 cd29 ct29 : Value}
    {f30 : Addr}
    {od30 an30 : Option Addr}
    {sl30 : Array (Option Value)}
    {oc30 kV30 dc30 pm30 cd30 ct30 : Value}
    {f31 : Addr}
    {od31 an31 : Option Addr}
    {sl31 : Array (Option Value)}
    {oc31 kV31 dc31 pm31 cd31 ct31 : Value}
    {f32 : Addr}
    {od32 an32 : Option Addr}
    {sl32 : Array (Option Value)}
    {oc32 kV32 dc32 pm32 cd32 ct32 : Value}
    {f33 : Addr}
    {od33 an33 : Option Addr}
    {sl33 : Array (Option Value)}
    {oc33 kV33 dc33 pm33 cd33 ct33 : Value}
    {f34 : Addr}
    {od34 an34 : Option Addr}
    {sl34 : Array (Option Value)}
    {oc34 kV34 dc34 pm34 ct34 : Value}
    {cb34 : Addr}
    {tp34 : Addr}
    {cx34 : Value}
    {cz34 : Option Addr}
    {cs34 : Array (Option Value)}
    {cw34 : Array Value}
    {f35 : Addr}
    {od35 an35 : Option Addr}
    {sl35 : Array (Option Value)}
    {oc35 kV35 dc35 pm35 cd35 ct35 : Value}
    {f36 : Addr}
    {od36 an36 : Option Addr}
    {sl36 : Array (Option Value)}
    {oc36 kV36 dc36 pm36 cd36 ct36 : Value}
    {t_LONGEST_NAME : Tok}
    {t_TOO_GREAT : Tok}
    {t_TOO_SMALL : Tok}
    {t_MOST_TERMS : Tok}
    {dd34 : DefRec}
    (aC_Sound : PySem.W.nsIn K mainGlobals "Sound" = some (some (.ref C_Sound)))
    (pg_Sound : PySem.W.plainGet K C_Sound Str.empty = true)
    (hd_Sound : PySem.W.hasDictIn K C_Sound = true)
    (po_Sound : PySem.W.plainOver K C_Sound = true)
    (sa_Sound : PySem.W.findIn K (.ref C_Sound) "__setattr__" = some (some (.builtin "object.__setattr__")))
    (kpC_Sound : PySem.W.keepIn K (.ref C_Sound) = true)
    (nA_Sound_worth : PySem.W.findIn K (.ref C_Sound) "worth" = some none)
    (aC_Place : PySem.W.nsIn K mainGlobals "Place" = some (some (.ref C_Place)))
    (pg_Place : PySem.W.plainGet K C_Place Str.empty = true)
    (hd_Place : PySem.W.hasDictIn K C_Place = true)
    (po_Place : PySem.W.plainOver K C_Place = true)
    (sa_Place : PySem.W.findIn K (.ref C_Place) "__setattr__" = some (some (.builtin "object.__setattr__")))
    (kpC_Place : PySem.W.keepIn K (.ref C_Place) = true)
    (nA_Place_source : PySem.W.findIn K (.ref C_Place) "_source" = some none)
    (nA_Place_terms : PySem.W.findIn K (.ref C_Place) "_terms" = some none)
    (nA_Place_filtered : PySem.W.findIn K (.ref C_Place) "_filtered" = some none)
    (ty_Place : PySem.W.typeIn K (.ref C_Place) = some MC_Place)
    (rr_Place : PySem.W.readsIn K C_Place MC_Place = true)
    (ra_Place : PySem.W.specialIn K (.ref C_Place) "__getattribute__" = some (some (.builtin "type.__getattribute__")))
    (aC_InvalidPlace : PySem.W.nsIn K mainGlobals "InvalidPlace" = some (some (.ref C_InvalidPlace)))
    (x1_InvalidPlace : PySem.W.excIn K C_InvalidPlace [.type "ValueError", .type "Exception", .type "BaseException", .type "object"] "ValueError.__new__" = true)
    (kC1_InvalidPlace : PySem.W.keepIn K (.ref C_InvalidPlace) = true)
    (eb1_InvalidPlace : PySem.W.subIn K (.ref C_InvalidPlace) (.type "BaseException") = some true)
    (et1_InvalidPlace : PySem.W.typeIn K (.ref C_InvalidPlace) = some (.type "type"))
    (ec1_InvalidPlace : PySem.W.isClsIn K C_InvalidPlace = true)
    (es1_InvalidPlace : PySem.W.subIn K (.ref C_InvalidPlace) (.ref C_InvalidPlace) = some true)
    (l1 : K.lookup f1 = some ⟨oc1, od1, .func (PySem.W.fnOf "__init__" "Sound.__init__" (defArgs s_Sound_init) (defBody s_Sound_init) (defScope s_Sound_init) .none kV1 dc1 pm1 an1 cd1 ct1), sl1⟩)
    (c1 : PySem.W.codeIn K cd1 "Sound.__init__" = true)
    (k1 : PySem.W.keepIn K (.ref f1) = true)
    (mk_Sound : PySem.W.makesIn K C_Sound = true)
    (a1 : PySem.W.findIn K (.ref C_Sound) "__init__" = some (some (.ref f1)))
    (i1 : PySem.W.isFn K (.ref f1) = true)
    (l2 : K.lookup f2 = some ⟨oc2, od2, .func (PySem.W.fnOf "__init__" "Place.__init__" (defArgs s_Place_init) (defBody s_Place_init) (defScope s_Place_init) .none (.ref kD2) dc2 pm2 an2 cd2 ct2), sl2⟩)
    (c2 : PySem.W.codeIn K cd2 "Place.__init__" = true)
    (k2 : PySem.W.keepIn K (.ref f2) = true)
    (kd2_0 : PySem.W.nsIn K kD2 "filtered" = some (some (.bool false)))
    (mk_Place : PySem.W.makesIn K C_Place = true)
    (a2 : PySem.W.findIn K (.ref C_Place) "__init__" = some (some (.ref f2)))
    (i2 : PySem.W.isFn K (.ref f2) = true)
    (l3 : K.lookup f3 = some ⟨oc3, od3, .func (PySem.W.fnOf "of" "Place.of" (defArgs s_Place_of) (defBody s_Place_of) (defScope s_Place_of) .none (.ref kD3) dc3 pm3 an3 cd3 ct3), sl3⟩)
    (c3 : PySem.W.codeIn K cd3 "Place.of" = true)
    (k3 : PySem.W.keepIn K (.ref f3) = true)
    (kd3_0 : PySem.W.nsIn K kD3 "filtered" = some (some (.bool false)))
    (a3 : PySem.W.findCls K (.ref C_Place) MC_Place "of" = some (.get (.builtin "classmethod.__get__") (.ref p3) .none (.ref C_Place)))
    (r3 : PySem.W.recIn K p3 "classmethod" = some (.ref f3 :: rs3))
    (h3 : PySem.W.fnIn K f3 = true)
    (l4 : K.lookup f4 = some ⟨oc4, od4, .func (PySem.W.fnOf "source" "Place.source" (defArgs s_Place_source) (defBody s_Place_source) (defScope s_Place_source) .none kV4 dc4 pm4 an4 cd4 ct4), sl4⟩)
    (c4 : PySem.W.codeIn K cd4 "Place.source" = true)
    (k4 : PySem.W.keepIn K (.ref f4) = true)
    (a4 : PySem.W.findIn K (.ref C_Place) "source" = some (some (.ref p4)))
    (g4 : PySem.W.specialIn K (.ref p4) "__get__" = some (some (.builtin "property.__get__")))
    (t4 : PySem.W.takesIn K (.ref p4) = some true)
    (r4 : PySem.W.recIn K p4 "property" = some (.ref f4 :: rs4))
    (l5 : K.lookup f5 = some ⟨oc5, od5, .func (PySem.W.fnOf "terms" "Place.terms" (defArgs s_Place_terms) (defBody s_Place_terms) (defScope s_Place_terms) .none kV5 dc5 pm5 an5 cd5 ct5), sl5⟩)
    (c5 : PySem.W.codeIn K cd5 "Place.terms" = true)
    (k5 : PySem.W.keepIn K (.ref f5) = true)
    (a5 : PySem.W.findIn K (.ref C_Place) "terms" = some (some (.ref p5)))
    (g5 : PySem.W.specialIn K (.ref p5) "__get__" = some (some (.builtin "property.__get__")))
    (t5 : PySem.W.takesIn K (.ref p5) = some true)
    (r5 : PySem.W.recIn K p5 "property" = some (.ref f5 :: rs5))
    (l6 : K.lookup f6 = some ⟨oc6, od6, .func (PySem.W.fnOf "filtered" "Place.filtered" (defArgs s_Place_filtered) (defBody s_Place_filtered) (defScope s_Place_filtered) .none kV6 dc6 pm6 an6 cd6 ct6), sl6⟩)
    (c6 : PySem.W.codeIn K cd6 "Place.filtered" = true)
    (k6 : PySem.W.keepIn K (.ref f6) = true)
    (a6 : PySem.W.findIn K (.ref C_Place) "filtered" = some (some (.ref p6)))
    (g6 : PySem.W.specialIn K (.ref p6) "__get__" = some (some (.builtin "property.__get__")))
    (t6 : PySem.W.takesIn K (.ref p6) = some true)
    (r6 : PySem.W.recIn K p6 "property" = some (.ref f6 :: rs6))
    (l7 : K.lookup f7 = some ⟨oc7, od7, .func (PySem.W.fnOf "variables" "Place.variables" (defArgs s_Place_variables) (defBody s_Place_variables) (defScope s_Place_variables) .none kV7 dc7 pm7 an7 cd7 ct7), sl7⟩)
    (c7 : PySem.W.codeIn K cd7 "Place.variables" = true)
    (k7 : PySem.W.keepIn K (.ref f7) = true)
    (a7 : PySem.W.findIn K (.ref C_Place) "variables" = some (some (.ref p7)))
    (g7 : PySem.W.specialIn K (.ref p7) "__get__" = some (some (.builtin "property.__get__")))
    (t7 : PySem.W.takesIn K (.ref p7) = some true)
    (r7 : PySem.W.recIn K p7 "property" = some (.ref f7 :: rs7))
    (l8 : K.lookup f8 = some ⟨oc8, od8, .func (PySem.W.fnOf "__pos__" "Place.__pos__" (defArgs s_Place_pos) (defBody s_Place_pos) (defScope s_Place_pos) .none kV8 dc8 pm8 an8 cd8 ct8), sl8⟩)
    (c8 : PySem.W.codeIn K cd8 "Place.__pos__" = true)
    (k8 : PySem.W.keepIn K (.ref f8) = true)
    (a8 : PySem.W.findIn K (.ref C_Place) "__pos__" = some (some (.ref f8)))
    (i8 : PySem.W.isFn K (.ref f8) = true)
    (l9 : K.lookup f9 = some ⟨oc9, od9, .func (PySem.W.fnOf "__neg__" "Place.__neg__" (defArgs s_Place_neg) (defBody s_Place_neg) (defScope s_Place_neg) .none kV9 dc9 pm9 an9 cd9 ct9), sl9⟩)
    (c9 : PySem.W.codeIn K cd9 "Place.__neg__" = true)
    (k9 : PySem.W.keepIn K (.ref f9) = true)
    (a9 : PySem.W.findIn K (.ref C_Place) "__neg__" = some (some (.ref f9)))
    (i9 : PySem.W.isFn K (.ref f9) = true)
    (l10 : K.lookup f10 = some ⟨oc10, od10, .func (PySem.W.fnOf "__invert__" "Place.__invert__" (defArgs s_Place_invert) (defBody s_Place_invert) (defScope s_Place_invert) .none kV10 dc10 pm10 an10 cd10 ct10), sl10⟩)
    (c10 : PySem.W.codeIn K cd10 "Place.__invert__" = true)
    (k10 : PySem.W.keepIn K (.ref f10) = true)
    (a10 : PySem.W.findIn K (.ref C_Place) "__invert__" = some (some (.ref f10)))
    (i10 : PySem.W.isFn K (.ref f10) = true)
    (l11 : K.lookup f11 = some ⟨oc11, od11, .func (PySem.W.fnOf "__len__" "Place.__len__" (defArgs s_Place_len) (defBody s_Place_len) (defScope s_Place_len) .none kV11 dc11 pm11 an11 cd11 ct11), sl11⟩)
    (c11 : PySem.W.codeIn K cd11 "Place.__len__" = true)
    (k11 : PySem.W.keepIn K (.ref f11) = true)
    (a11 : PySem.W.findIn K (.ref C_Place) "__len__" = some (some (.ref f11)))
    (i11 : PySem.W.isFn K (.ref f11) = true)
    (l12 : K.lookup f12 = some ⟨oc12, od12, .func (PySem.W.fnOf "__eq__" "Place.__eq__" (defArgs s_Place_eq) (defBody s_Place_eq) (defScope s_Place_eq) .none kV12 dc12 pm12 an12 cd12 ct12), sl12⟩)
    (c12 : PySem.W.codeIn K cd12 "Place.__eq__" = true)
    (k12 : PySem.W.keepIn K (.ref f12) = true)
    (a12 : PySem.W.findIn K (.ref C_Place) "__eq__" = some (some (.ref f12)))
    (i12 : PySem.W.isFn K (.ref f12) = true)
    (l13 : K.lookup f13 = some ⟨oc13, od13, .func (PySem.W.fnOf "__str__" "Place.__str__" (defArgs s_Place_str) (defBody s_Place_str) (defScope s_Place_str) .none kV13 dc13 pm13 an13 cd13 ct13), sl13⟩)
    (c13 : PySem.W.codeIn K cd13 "Place.__str__" = true)
    (k13 : PySem.W.keepIn K (.ref f13) = true)
    (a13 : PySem.W.findIn K (.ref C_Place) "__str__" = some (some (.ref f13)))
    (i13 : PySem.W.isFn K (.ref f13) = true)
    (l14 : K.lookup f14 = some ⟨oc14, od14, .func (PySem.W.fnOf "is_name" "is_name" (defArgs s_is_name) (defBody s_is_name) (defScope s_is_name) .none kV14 dc14 pm14 an14 cd14 ct14), sl14⟩)
    (c14 : PySem.W.codeIn K cd14 "is_name" = true)
    (k14 : PySem.W.keepIn K (.ref f14) = true)
    (a14 : PySem.W.nsIn K mainGlobals "is_name" = some (some (.ref f14)))
    (l15 : K.lookup f15 = some ⟨oc15, od15, .func (PySem.W.fnOf "is_whole" "is_whole" (defArgs s_is_whole) (defBody s_is_whole) (defScope s_is_whole) .none kV15 dc15 pm15 an15 cd15 ct15), sl15⟩)
    (c15 : PySem.W.codeIn K cd15 "is_whole" = true)
    (k15 : PySem.W.keepIn K (.ref f15) = true)
    (a15 : PySem.W.nsIn K mainGlobals "is_whole" = some (some (.ref f15)))
    (l16 : K.lookup f16 = some ⟨oc16, od16, .func (PySem.W.fnOf "is_integer" "is_integer" (defArgs s_is_integer) (defBody s_is_integer) (defScope s_is_integer) .none kV16 dc16 pm16 an16 cd16 ct16), sl16⟩)
    (c16 : PySem.W.codeIn K cd16 "is_integer" = true)
    (k16 : PySem.W.keepIn K (.ref f16) = true)
    (a16 : PySem.W.nsIn K mainGlobals "is_integer" = some (some (.ref f16)))
    (l17 : K.lookup f17 = some ⟨oc17, od17, .func (PySem.W.fnOf "is_term" "is_term" (defArgs s_is_term) (defBody s_is_term) (defScope s_is_term) .none kV17 dc17 pm17 an17 cd17 ct17), sl17⟩)
    (c17 : PySem.W.codeIn K cd17 "is_term" = true)
    (k17 : PySem.W.keepIn K (.ref f17) = true)
    (a17 : PySem.W.nsIn K mainGlobals "is_term" = some (some (.ref f17)))
    (l18 : K.lookup f18 = some ⟨oc18, od18, .func (PySem.W.fnOf "_place_with" "_place_with" (defArgs s_place_with) (defBody s_place_with) (defScope s_place_with) .none kV18 dc18 pm18 an18 cd18 ct18), sl18⟩)
    (c18 : PySem.W.codeIn K cd18 "_place_with" = true)
    (k18 : PySem.W.keepIn K (.ref f18) = true)
    (a18 : PySem.W.nsIn K mainGlobals "_place_with" = some (some (.ref f18)))
    (l19 : K.lookup f19 = some ⟨oc19, od19, .func (PySem.W.fnOf "_sign" "_sign" (defArgs s_sign) (defBody s_sign) (defScope s_sign) .none kV19 dc19 pm19 an19 cd19 ct19), sl19⟩)
    (c19 : PySem.W.codeIn K cd19 "_sign" = true)
    (k19 : PySem.W.keepIn K (.ref f19) = true)
    (a19 : PySem.W.nsIn K mainGlobals "_sign" = some (some (.ref f19)))
    (l20 : K.lookup f20 = some ⟨oc20, od20, .func (PySem.W.fnOf "_terms_text" "_terms_text" (defArgs s_terms_text) (defBody s_terms_text) (defScope s_terms_text) .none kV20 dc20 pm20 an20 cd20 ct20), sl20⟩)
    (c20 : PySem.W.codeIn K cd20 "_terms_text" = true)
    (k20 : PySem.W.keepIn K (.ref f20) = true)
    (a20 : PySem.W.nsIn K mainGlobals "_terms_text" = some (some (.ref f20)))
    (l21 : K.lookup f21 = some ⟨oc21, od21, .func (PySem.W.fnOf "_check_parts" "_check_parts" (defArgs s_check_parts) (defBody s_check_parts) (defScope s_check_parts) .none kV21 dc21 pm21 an21 cd21 ct21), sl21⟩)
    (c21 : PySem.W.codeIn K cd21 "_check_parts" = true)
    (k21 : PySem.W.keepIn K (.ref f21) = true)
    (a21 : PySem.W.nsIn K mainGlobals "_check_parts" = some (some (.ref f21)))
    (l22 : K.lookup f22 = some ⟨oc22, od22, .func (PySem.W.fnOf "_law_dice" "_law_dice" (defArgs s_l_dice) (defBody s_l_dice) (defScope s_l_dice) .none kV22 dc22 pm22 an22 cd22 ct22), sl22⟩)
    (c22 : PySem.W.codeIn K cd22 "_law_dice" = true)
    (k22 : PySem.W.keepIn K (.ref f22) = true)
    (a22 : PySem.W.nsIn K mainGlobals "_law_dice" = some (some (.ref f22)))
    (l23 : K.lookup f23 = some ⟨oc23, od23, .func (PySem.W.fnOf "_law_roll" "_law_roll" (defArgs s_l_roll) (defBody s_l_roll) (defScope s_l_roll) .none kV23 dc23 pm23 an23 cd23 ct23), sl23⟩)
    (c23 : PySem.W.codeIn K cd23 "_law_roll" = true)
    (k23 : PySem.W.keepIn K (.ref f23) = true)
    (a23 : PySem.W.nsIn K mainGlobals "_law_roll" = some (some (.ref f23)))
    (l24 : K.lookup f24 = some ⟨oc24, od24, .func (PySem.W.fnOf "_law_pick" "_law_pick" (defArgs s_l_pick) (defBody s_l_pick) (defScope s_l_pick) .none kV24 dc24 pm24 an24 cd24 ct24), sl24⟩)
    (c24 : PySem.W.codeIn K cd24 "_law_pick" = true)
    (k24 : PySem.W.keepIn K (.ref f24) = true)
    (a24 : PySem.W.nsIn K mainGlobals "_law_pick" = some (some (.ref f24)))
    (l25 : K.lookup f25 = some ⟨oc25, od25, .func (PySem.W.fnOf "_law_word" "_law_word" (defArgs s_l_word) (defBody s_l_word) (defScope s_l_word) .none kV25 dc25 pm25 an25 cd25 ct25), sl25⟩)
    (c25 : PySem.W.codeIn K cd25 "_law_word" = true)
    (k25 : PySem.W.keepIn K (.ref f25) = true)
    (a25 : PySem.W.nsIn K mainGlobals "_law_word" = some (some (.ref f25)))
    (l26 : K.lookup f26 = some ⟨oc26, od26, .func (PySem.W.fnOf "_law_integer" "_law_integer" (defArgs s_l_integer) (defBody s_l_integer) (defScope s_l_integer) .none kV26 dc26 pm26 an26 cd26 ct26), sl26⟩)
    (c26 : PySem.W.codeIn K cd26 "_law_integer" = true)
    (k26 : PySem.W.keepIn K (.ref f26) = true)
    (a26 : PySem.W.nsIn K mainGlobals "_law_integer" = some (some (.ref f26)))
    (l27 : K.lookup f27 = some ⟨oc27, od27, .func (PySem.W.fnOf "_law_own_term" "_law_own_term" (defArgs s_l_own_term) (defBody s_l_own_term) (defScope s_l_own_term) .none kV27 dc27 pm27 an27 cd27 ct27), sl27⟩)
    (c27 : PySem.W.codeIn K cd27 "_law_own_term" = true)
    (k27 : PySem.W.keepIn K (.ref f27) = true)
    (a27 : PySem.W.nsIn K mainGlobals "_law_own_term" = some (some (.ref f27)))
    (l28 : K.lookup f28 = some ⟨oc28, od28, .func (PySem.W.fnOf "_law_one_by_one" "_law_one_by_one" (defArgs s_l_one_by_one) (defBody s_l_one_by_one) (defScope s_l_one_by_one) .none kV28 dc28 pm28 an28 cd28 ct28), sl28⟩)
    (c28 : PySem.W.codeIn K cd28 "_law_one_by_one" = true)
    (k28 : PySem.W.keepIn K (.ref f28) = true)
    (a28 : PySem.W.nsIn K mainGlobals "_law_one_by_one" = some (some (.ref f28)))
    (l29 : K.lookup f29 = some ⟨oc29, od29, .func (PySem.W.fnOf "_law_is_told" "_law_is_told" (defArgs s_l_is_told) (defBody s_l_is_told) (defScope s_l_is_told) .none kV29 dc29 pm29 an29 cd29 ct29), sl29⟩)
    (c29 : PySem.W.codeIn K cd29 "_law_is_told" = true)
    (k29 : PySem.W.keepIn K (.ref f29) = true)
    (a29 : PySem.W.nsIn K mainGlobals "_law_is_told" = some (some (.ref f29)))
    (l30 : K.lookup f30 = some ⟨oc30, od30, .func (PySem.W.fnOf "_law_signs_right" "_law_signs_right" (defArgs s_l_signs_right) (defBody s_l_signs_right) (defScope s_l_signs_right) .none kV30 dc30 pm30 an30 cd30 ct30), sl30⟩)
    (c30 : PySem.W.codeIn K cd30 "_law_signs_right" = true)
    (k30 : PySem.W.keepIn K (.ref f30) = true)
    (a30 : PySem.W.nsIn K mainGlobals "_law_signs_right" = some (some (.ref f30)))
    (l31 : K.lookup f31 = some ⟨oc31, od31, .func (PySem.W.fnOf "_law_bent" "_law_bent" (defArgs s_l_bent) (defBody s_l_bent) (defScope s_l_bent) .none kV31 dc31 pm31 an31 cd31 ct31), sl31⟩)
    (c31 : PySem.W.codeIn K cd31 "_law_bent" = true)
    (k31 : PySem.W.keepIn K (.ref f31) = true)
    (a31 : PySem.W.nsIn K mainGlobals "_law_bent" = some (some (.ref f31)))
    (l32 : K.lookup f32 = some ⟨oc32, od32, .func (PySem.W.fnOf "_law_equal_right" "_law_equal_right" (defArgs s_l_equal_right) (defBody s_l_equal_right) (defScope s_l_equal_right) .none kV32 dc32 pm32 an32 cd32 ct32), sl32⟩)
    (c32 : PySem.W.codeIn K cd32 "_law_equal_right" = true)
    (k32 : PySem.W.keepIn K (.ref f32) = true)
    (a32 : PySem.W.nsIn K mainGlobals "_law_equal_right" = some (some (.ref f32)))
    (l33 : K.lookup f33 = some ⟨oc33, od33, .func (PySem.W.fnOf "_law_met" "_law_met" (defArgs s_l_met) (defBody s_l_met) (defScope s_l_met) .none kV33 dc33 pm33 an33 cd33 ct33), sl33⟩)
    (c33 : PySem.W.codeIn K cd33 "_law_met" = true)
    (k33 : PySem.W.keepIn K (.ref f33) = true)
    (a33 : PySem.W.nsIn K mainGlobals "_law_met" = some (some (.ref f33)))
    (l34 : K.lookup f34 = some ⟨oc34, od34, .func (PySem.W.fnOf "_law_refused" "_law_refused" (defArgs s_l_refused) (defBody s_l_refused) (defScope s_l_refused) .none kV34 dc34 pm34 an34 (.ref cb34) ct34), sl34⟩)
    (c34 : PySem.W.codeIn K (.ref cb34) "_law_refused" = true)
    (k34 : PySem.W.keepIn K (.ref f34) = true)
    (cl34 : K.lookup cb34 = some ⟨cx34, cz34, .fields cw34, cs34⟩)
    (cv34 : cw34[11]? = some (.ref tp34))
    (cn34 : K.lookup tp34 = none)
    (a34 : PySem.W.nsIn K mainGlobals "_law_refused" = some (some (.ref f34)))
    (l35 : K.lookup f35 = some ⟨oc35, od35, .func (PySem.W.fnOf "_law_right" "_law_right" (defArgs s_l_right) (defBody s_l_right) (defScope s_l_right) .none kV35 dc35 pm35 an35 cd35 ct35), sl35⟩)
    (c35 : PySem.W.codeIn K cd35 "_law_right" = true)
    (k35 : PySem.W.keepIn K (.ref f35) = true)
    (a35 : PySem.W.nsIn K mainGlobals "_law_right" = some (some (.ref f35)))
    (l36 : K.lookup f36 = some ⟨oc36, od36, .func (PySem.W.fnOf "law" "law" (defArgs s_law) (defBody s_law) (defScope s_law) .none kV36 dc36 pm36 an36 cd36 ct36), sl36⟩)
    (c36 : PySem.W.codeIn K cd36 "law" = true)
    (k36 : PySem.W.keepIn K (.ref f36) = true)
    (a36 : PySem.W.nsIn K mainGlobals "law" = some (some (.ref f36)))
    (ia_Sound : PySem.W.findIn K (.ref C_Sound) "__class__" = some (some (.builtin "object.__class__")))
    (ib_Sound : PySem.W.specialIn K (.builtin "object.__class__") "__get__" = some (some (.builtin "getset_descriptor.__get__")))
    (ic_Sound : PySem.W.takesIn K (.builtin "object.__class__") = some true)
    (id_Sound : PySem.W.mroIn K C_Sound (.type "object") = some true)
    (ko_Sound_NoneType : PySem.W.kitOne K (.type "NoneType") (.ref C_Sound) = some false)
    (ko_Sound_bool : PySem.W.kitOne K (.type "bool") (.ref C_Sound) = some false)
    (ko_Sound_int : PySem.W.kitOne K (.type "int") (.ref C_Sound) = some false)
    (ko_Sound_str : PySem.W.kitOne K (.type "str") (.ref C_Sound) = some false)
    (ko_Sound_list : PySem.W.kitOne K (.type "list") (.ref C_Sound) = some false)
    (ko_Sound_tuple : PySem.W.kitOne K (.type "tuple") (.ref C_Sound) = some false)
    (ko_Sound_dict : PySem.W.kitOne K (.type "dict") (.ref C_Sound) = some false)
    (nf_Sound_NoneType : PySem.W.notFirst K C_Sound (.type "NoneType") = true)
    (nf_Sound_bool : PySem.W.notFirst K C_Sound (.type "bool") = true)
    (nf_Sound_int : PySem.W.notFirst K C_Sound (.type "int") = true)
    (nf_Sound_str : PySem.W.notFirst K C_Sound (.type "str") = true)
    (nf_Sound_list : PySem.W.notFirst K C_Sound (.type "list") = true)
    (nf_Sound_tuple : PySem.W.notFirst K C_Sound (.type "tuple") = true)
    (nf_Sound_dict : PySem.W.notFirst K C_Sound (.type "dict") = true)
    (ne_Place : PySem.W.findIn K (.ref C_Place) "__ne__" = some (some (.builtin "object.__ne__")))
    (ia_Place : PySem.W.findIn K (.ref C_Place) "__class__" = some (some (.builtin "object.__class__")))
    (ib_Place : PySem.W.specialIn K (.builtin "object.__class__") "__get__" = some (some (.builtin "getset_descriptor.__get__")))
    (ic_Place : PySem.W.takesIn K (.builtin "object.__class__") = some true)
    (id_Place : PySem.W.mroIn K C_Place (.type "object") = some true)
    (ko_Place_NoneType : PySem.W.kitOne K (.type "NoneType") (.ref C_Place) = some false)
    (ko_Place_bool : PySem.W.kitOne K (.type "bool") (.ref C_Place) = some false)
    (ko_Place_int : PySem.W.kitOne K (.type "int") (.ref C_Place) = some false)
    (ko_Place_str : PySem.W.kitOne K (.type "str") (.ref C_Place) = some false)
    (ko_Place_list : PySem.W.kitOne K (.type "list") (.ref C_Place) = some false)
    (ko_Place_tuple : PySem.W.kitOne K (.type "tuple") (.ref C_Place) = some false)
    (ko_Place_dict : PySem.W.kitOne K (.type "dict") (.ref C_Place) = some false)
    (nf_Place_NoneType : PySem.W.notFirst K C_Place (.type "NoneType") = true)
    (nf_Place_bool : PySem.W.notFirst K C_Place (.type "bool") = true)
    (nf_Place_int : PySem.W.notFirst K C_Place (.type "int") = true)
    (nf_Place_str : PySem.W.notFirst K C_Place (.type "str") = true)
    (nf_Place_list : PySem.W.notFirst K C_Place (.type "list") = true)
    (nf_Place_tuple : PySem.W.notFirst K C_Place (.type "tuple") = true)
    (nf_Place_dict : PySem.W.notFirst K C_Place (.type "dict") = true)
    (v_LONGEST_NAME : PySem.W.nsIn K mainGlobals "_LONGEST_NAME" = some (some (.int 8 t_LONGEST_NAME)))
    (v_TOO_GREAT : PySem.W.nsIn K mainGlobals "_TOO_GREAT" = some (some (.int 100000000000000000000 t_TOO_GREAT)))
    (v_TOO_SMALL : PySem.W.nsIn K mainGlobals "_TOO_SMALL" = some (some (.int (-100000000000000000000) t_TOO_SMALL)))
    (v_MOST_TERMS : PySem.W.nsIn K mainGlobals "_MOST_TERMS" = some (some (.int 4 t_MOST_TERMS)))
    (z_isinstance : PySem.W.nsIn K mainGlobals "isinstance" = some none)
    (z_classmethod : PySem.W.nsIn K mainGlobals "classmethod" = some none)
    (z_tuple : PySem.W.nsIn K mainGlobals "tuple" = some none)
    (z_property : PySem.W.nsIn K mainGlobals "property" = some none)
    (z_sorted : PySem.W.nsIn K mainGlobals "sorted" = some none)
    (z_set : PySem.W.nsIn K mainGlobals "set" = some none)
    (z_str : PySem.W.nsIn K mainGlobals "str" = some none)
    (z_len : PySem.W.nsIn K mainGlobals "len" = some none)
    (z_int : PySem.W.nsIn K mainGlobals "int" = some none)
    (z_bool : PySem.W.nsIn K mainGlobals "bool" = some none)
    (z_all : PySem.W.nsIn K mainGlobals "all" = some none)
    (z_max : PySem.W.nsIn K mainGlobals "max" = some none)
    (z_abs : PySem.W.nsIn K mainGlobals "abs" = some none)
    (z_range : PySem.W.nsIn K mainGlobals "range" = some none)
    (z_repr : PySem.W.nsIn K mainGlobals "repr" = some none)
    (z_list : PySem.W.nsIn K mainGlobals "list" = some none)
    (z_min : PySem.W.nsIn K mainGlobals "min" = some none)
    (cf34 : (recsOf qq).find? (fun e => e.name == ("_law_refused" : Str)) = some dd34) :
    Kit.LawT l w K 14 63 "_law_script" mg fa qq := by
  have e := hfa.symm.trans (PySem.W.mg_of X G a36)
  cases e
  let T : Txt K mg := {
    c_Sound := C_Sound,
    g_Sound := PySem.W.mg_of X G aC_Sound,
    cl_Sound := ⟨pg_Sound, hd_Sound, po_Sound, sa_Sound⟩,
    kC_Sound := kpC_Sound,
    nA_Sound_worth := nA_Sound_worth,
    c_Place := C_Place,
    g_Place := PySem.W.mg_of X G aC_Place,
    cl_Place := ⟨pg_Place, hd_Place, po_Place, sa_Place⟩,
    kC_Place := kpC_Place,
    nA_Place_source := nA_Place_source,
    nA_Place_terms := nA_Place_terms,
    nA_Place_filtered := nA_Place_filtered,
    mc_Place := MC_Place,
    rd_Place := ⟨rr_Place, ra_Place⟩,
    c_InvalidPlace := C_InvalidPlace,
    g_InvalidPlace := PySem.W.mg_of X G aC_InvalidPlace,
    x_InvalidPlace := x1_InvalidPlace,
    kC_InvalidPlace := kC1_InvalidPlace,
    eb_InvalidPlace := eb1_InvalidPlace,
    et_InvalidPlace := et1_InvalidPlace,
    ec_InvalidPlace := ec1_InvalidPlace,
    es_InvalidPlace := es1_InvalidPlace,
    a_Sound_init := f1,
    fd_Sound_init := _,
    F_Sound_init := fun_mk (st := s_Sound_init) l1 c1 k1,
    b_Sound_init := (fun_mk (st := s_Sound_init) l1 c1 k1).binds (ps := ["self", "worth"]) fun _ _ _ _ _ _ us hl => match us, hl with | [_, _], _ => rfl,
    M_Sound := ⟨mk_Sound, a1, i1, kpC_Sound⟩,
    a_Place_init := f2,
    fd_Place_init := _,
    F_Place_init := ⟨⟨oc2, od2, .none, .ref kD2, dc2, pm2, an2, cd2, ct2, sl2, rfl, l2, c2, .inl ⟨rfl, rfl⟩, .inr ⟨kD2, rfl, fun q hq => by
      simp only [List.mem_cons, List.not_mem_nil, or_false] at hq
      rcases hq with rfl
      · exact ⟨_, kd2_0, rfl⟩⟩⟩, k2⟩,
    M_Place := ⟨mk_Place, a2, i2, kpC_Place⟩,
    a_Place_of := f3,
    fd_Place_of := _,
    F_Place_of := ⟨⟨oc3, od3, .none, .ref kD3, dc3, pm3, an3, cd3, ct3, sl3, rfl, l3, c3, .inl ⟨rfl, rfl⟩, .inr ⟨kD3, rfl, fun q hq => by
      simp only [List.mem_cons, List.not_mem_nil, or_false] at hq
      rcases hq with rfl
      · exact ⟨_, kd3_0, rfl⟩⟩⟩, k3⟩,
    q_Place_of := p3,
    cm_Place_of := ⟨a3, ⟨_, r3⟩, h3⟩,
    a_Place_source := f4,
    fd_Place_source := _,
    F_Place_source := fun_mk (st := s_Place_source) l4 c4 k4,
    b_Place_source := (fun_mk (st := s_Place_source) l4 c4 k4).binds (ps := ["self"]) fun _ _ _ _ _ _ us hl => match us, hl with | [_], _ => rfl,
    q_Place_source := p4,
    p_Place_source := ⟨a4, g4, t4, _, r4⟩,
    a_Place_terms := f5,
    fd_Place_terms := _,
    F_Place_terms := fun_mk (st := s_Place_terms) l5 c5 k5,
    b_Place_terms := (fun_mk (st := s_Place_terms) l5 c5 k5).binds (ps := ["self"]) fun _ _ _ _ _ _ us hl => match us, hl with | [_], _ => rfl,
    q_Place_terms := p5,
    p_Place_terms := ⟨a5, g5, t5, _, r5⟩,
    a_Place_filtered := f6,
    fd_Place_filtered := _,
    F_Place_filtered := fun_mk (st := s_Place_filtered) l6 c6 k6,
    b_Place_filtered := (fun_mk (st := s_Place_filtered) l6 c6 k6).binds (ps := ["self"]) fun _ _ _ _ _ _ us hl => match us, hl with | [_], _ => rfl,
    q_Place_filtered := p6,
    p_Place_filtered := ⟨a6, g6, t6, _, r6⟩,
    a_Place_variables := f7,
    fd_Place_variables := _,
    F_Place_variables := fun_mk (st := s_Place_variables) l7 c7 k7,
    b_Place_variables := (fun_mk (st := s_Place_variables) l7 c7 k7).binds (ps := ["self"]) fun _ _ _ _ _ _ us hl => match us, hl with | [_], _ => rfl,
    q_Place_variables := p7,
    p_Place_variables := ⟨a7, g7, t7, _, r7⟩,
    a_Place_pos := f8,
    fd_Place_pos := _,
    F_Place_pos := fun_mk (st := s_Place_pos) l8 c8 k8,
    b_Place_pos := (fun_mk (st := s_Place_pos) l8 c8 k8).binds (ps := ["self"]) fun _ _ _ _ _ _ us hl => match us, hl with | [_], _ => rfl,
    m_Place_pos := ⟨a8, i8, k8⟩,
    a_Place_neg := f9,
    fd_Place_neg := _,
    F_Place_neg := fun_mk (st := s_Place_neg) l9 c9 k9,
    b_Place_neg := (fun_mk (st := s_Place_neg) l9 c9 k9).binds (ps := ["self"]) fun _ _ _ _ _ _ us hl => match us, hl with | [_], _ => rfl,
    m_Place_neg := ⟨a9, i9, k9⟩,
    a_Place_invert := f10,
    fd_Place_invert := _,
    F_Place_invert := fun_mk (st := s_Place_invert) l10 c10 k10,
    b_Place_invert := (fun_mk (st := s_Place_invert) l10 c10 k10).binds (ps := ["self"]) fun _ _ _ _ _ _ us hl => match us, hl with | [_], _ => rfl,
    m_Place_invert := ⟨a10, i10, k10⟩,
    a_Place_len := f11,
    fd_Place_len := _,
    F_Place_len := fun_mk (st := s_Place_len) l11 c11 k11,
    b_Place_len := (fun_mk (st := s_Place_len) l11 c11 k11).binds (ps := ["self"]) fun _ _ _ _ _ _ us hl => match us, hl with | [_], _ => rfl,
    m_Place_len := ⟨a11, i11, k11⟩,
    a_Place_eq := f12,
    fd_Place_eq := _,
    F_Place_eq := fun_mk (st := s_Place_eq) l12 c12 k12,
    b_Place_eq := (fun_mk (st := s_Place_eq) l12 c12 k12).binds (ps := ["self", "other"]) fun _ _ _ _ _ _ us hl => match us, hl with | [_, _], _ => rfl,
    m_Place_eq := ⟨a12, i12, k12⟩,
    a_Place_str := f13,
    fd_Place_str := _,
    F_Place_str := fun_mk (st := s_Place_str) l13 c13 k13,
    b_Place_str := (fun_mk (st := s_Place_str) l13 c13 k13).binds (ps := ["self"]) fun _ _ _ _ _ _ us hl => match us, hl with | [_], _ => rfl,
    m_Place_str := ⟨a13, i13, k13⟩,
    a_is_name := f14,
    fd_is_name := _,
    F_is_name := fun_mk (st := s_is_name) l14 c14 k14,
    b_is_name := (fun_mk (st := s_is_name) l14 c14 k14).binds (ps := ["value"]) fun _ _ _ _ _ _ us hl => match us, hl with | [_], _ => rfl,
    g_is_name := PySem.W.mg_of X G a14,
    a_is_whole := f15,
    fd_is_whole := _,
    F_is_whole := fun_mk (st := s_is_whole) l15 c15 k15,
    b_is_whole := (fun_mk (st := s_is_whole) l15 c15 k15).binds (ps := ["value"]) fun _ _ _ _ _ _ us hl => match us, hl with | [_], _ => rfl,
    g_is_whole := PySem.W.mg_of X G a15,
    a_is_integer := f16,
    fd_is_integer := _,
    F_is_integer := fun_mk (st := s_is_integer) l16 c16 k16,
    b_is_integer := (fun_mk (st := s_is_integer) l16 c16 k16).binds (ps := ["value"]) fun _ _ _ _ _ _ us hl => match us, hl with | [_], _ => rfl,
    g_is_integer := PySem.W.mg_of X G a16,
    a_is_term := f17,
    fd_is_term := _,
    F_is_term := fun_mk (st := s_is_term) l17 c17 k17,
    b_is_term := (fun_mk (st := s_is_term) l17 c17 k17).binds (ps := ["value"]) fun _ _ _ _ _ _ us hl => match us, hl with | [_], _ => rfl,
    g_is_term := PySem.W.mg_of X G a17,
    a_place_with := f18,
    fd_place_with := _,
    F_place_with := fun_mk (st := s_place_with) l18 c18 k18,
    b_place_with := (fun_mk (st := s_place_with) l18 c18 k18).binds (ps := ["source", "terms", "mark"]) fun _ _ _ _ _ _ us hl => match us, hl with | [_, _, _], _ => rfl,
    g_place_with := PySem.W.mg_of X G a18,
    a_sign := f19,
    fd_sign := _,
    F_sign := fun_mk (st := s_sign) l19 c19 k19,
    b_sign := (fun_mk (st := s_sign) l19 c19 k19).binds (ps := ["filtered"]) fun _ _ _ _ _ _ us hl => match us, hl with | [_], _ => rfl,
    g_sign := PySem.W.mg_of X G a19,
    a_terms_text := f20,
    fd_terms_text := _,
    F_terms_text := fun_mk (st := s_terms_text) l20 c20 k20,
    b_terms_text := (fun_mk (st := s_terms_text) l20 c20 k20).binds (ps := ["terms"]) fun _ _ _ _ _ _ us hl => match us, hl with | [_], _ => rfl,
    g_terms_text := PySem.W.mg_of X G a20,
    a_check_parts := f21,
    fd_check_parts := _,
    F_check_parts := fun_mk (st := s_check_parts) l21 c21 k21,
    b_check_parts := (fun_mk (st := s_check_parts) l21 c21 k21).binds (ps := ["source", "terms", "filtered"]) fun _ _ _ _ _ _ us hl => match us, hl with | [_, _, _], _ => rfl,
    g_check_parts := PySem.W.mg_of X G a21,
    a_l_dice := f22,
    fd_l_dice := _,
    F_l_dice := fun_mk (st := s_l_dice) l22 c22 k22,
    b_l_dice := (fun_mk (st := s_l_dice) l22 c22 k22).binds (ps := ["_law_script", "_law_spot"]) fun _ _ _ _ _ _ us hl => match us, hl with | [_, _], _ => rfl,
    g_l_dice := PySem.W.mg_of X G a22,
    a_l_roll := f23,
    fd_l_roll := _,
    F_l_roll := fun_mk (st := s_l_roll) l23 c23 k23,
    b_l_roll := (fun_mk (st := s_l_roll) l23 c23 k23).binds (ps := ["_law_dice_here", "_law_upto"]) fun _ _ _ _ _ _ us hl => match us, hl with | [_, _], _ => rfl,
    g_l_roll := PySem.W.mg_of X G a23,
    a_l_pick := f24,
    fd_l_pick := _,
    F_l_pick := fun_mk (st := s_l_pick) l24 c24 k24,
    b_l_pick := (fun_mk (st := s_l_pick) l24 c24 k24).binds (ps := ["_law_dice_here", "_law_items"]) fun _ _ _ _ _ _ us hl => match us, hl with | [_, _], _ => rfl,
    g_l_pick := PySem.W.mg_of X G a24,
    a_l_word := f25,
    fd_l_word := _,
    F_l_word := fun_mk (st := s_l_word) l25 c25 k25,
    b_l_word := (fun_mk (st := s_l_word) l25 c25 k25).binds (ps := ["_law_dice_here"]) fun _ _ _ _ _ _ us hl => match us, hl with | [_], _ => rfl,
    g_l_word := PySem.W.mg_of X G a25,
    a_l_integer := f26,
    fd_l_integer := _,
    F_l_integer := fun_mk (st := s_l_integer) l26 c26 k26,
    b_l_integer := (fun_mk (st := s_l_integer) l26 c26 k26).binds (ps := ["_law_dice_here"]) fun _ _ _ _ _ _ us hl => match us, hl with | [_], _ => rfl,
    g_l_integer := PySem.W.mg_of X G a26,
    a_l_own_term := f27,
    fd_l_own_term := _,
    F_l_own_term := fun_mk (st := s_l_own_term) l27 c27 k27,
    b_l_own_term := (fun_mk (st := s_l_own_term) l27 c27 k27).binds (ps := ["_law_dice_here"]) fun _ _ _ _ _ _ us hl => match us, hl with | [_], _ => rfl,
    g_l_own_term := PySem.W.mg_of X G a27,
    a_l_one_by_one := f28,
    fd_l_one_by_one := _,
    F_l_one_by_one := fun_mk (st := s_l_one_by_one) l28 c28 k28,
    b_l_one_by_one := (fun_mk (st := s_l_one_by_one) l28 c28 k28).binds (ps := ["_law_source", "_law_terms", "_law_marked"]) fun _ _ _ _ _ _ us hl => match us, hl with | [_, _, _], _ => rfl,
    g_l_one_by_one := PySem.W.mg_of X G a28,
    a_l_is_told := f29,
    fd_l_is_told := _,
    F_l_is_told := fun_mk (st := s_l_is_told) l29 c29 k29,
    b_l_is_told := (fun_mk (st := s_l_is_told) l29 c29 k29).binds (ps := ["_law_place", "_law_source", "_law_terms", "_law_marked"]) fun _ _ _ _ _ _ us hl => match us, hl with | [_, _, _, _], _ => rfl,
    g_l_is_told := PySem.W.mg_of X G a29,
    a_l_signs_right := f30,
    fd_l_signs_right := _,
    F_l_signs_right := fun_mk (st := s_l_signs_right) l30 c30 k30,
    b_l_signs_right := (fun_mk (st := s_l_signs_right) l30 c30 k30).binds (ps := ["_law_place", "_law_source", "_law_terms", "_law_marked"]) fun _ _ _ _ _ _ us hl => match us, hl with | [_, _, _, _], _ => rfl,
    g_l_signs_right := PySem.W.mg_of X G a30,
    a_l_bent := f31,
    fd_l_bent := _,
    F_l_bent := fun_mk (st := s_l_bent) l31 c31 k31,
    b_l_bent := (fun_mk (st := s_l_bent) l31 c31 k31).binds (ps := ["_law_dice_here", "_law_source", "_law_terms"]) fun _ _ _ _ _ _ us hl => match us, hl with | [_, _, _], _ => rfl,
    g_l_bent := PySem.W.mg_of X G a31,
    a_l_equal_right := f32,
    fd_l_equal_right := _,
    F_l_equal_right := fun_mk (st := s_l_equal_right) l32 c32 k32,
    b_l_equal_right := (fun_mk (st := s_l_equal_right) l32 c32 k32).binds (ps := ["_law_dice_here", "_law_place", "_law_source", "_law_terms", "_law_marked"]) fun _ _ _ _ _ _ us hl => match us, hl with | [_, _, _, _, _], _ => rfl,
    g_l_equal_right := PySem.W.mg_of X G a32,
    a_l_met := f33,
    fd_l_met := _,
    F_l_met := fun_mk (st := s_l_met) l33 c33 k33,
    b_l_met := (fun_mk (st := s_l_met) l33 c33 k33).binds (ps := ["_law_call"]) fun _ _ _ _ _ _ us hl => match us, hl with | [_], _ => rfl,
    g_l_met := PySem.W.mg_of X G a33,
    a_l_refused := f34,
    fd_l_refused := _,
    F_l_refused := fun_mk (st := s_l_refused) l34 c34 k34,
    b_l_refused := (fun_mk (st := s_l_refused) l34 c34 k34).binds (ps := ["_law_dice_here", "_law_source", "_law_terms"]) fun _ _ _ _ _ _ us hl => match us, hl with | [_, _, _], _ => rfl,
    cb_l_refused := cb34,
    tp_l_refused := tp34,
    FC_l_refused := ⟨oc34, od34, kV34, dc34, pm34, an34, ct34, sl34, rfl, l34, c34⟩,
    tn_l_refused := cn34,
    g_l_refused := PySem.W.mg_of X G a34,
    a_l_right := f35,
    fd_l_right := _,
    F_l_right := fun_mk (st := s_l_right) l35 c35 k35,
    b_l_right := (fun_mk (st := s_l_right) l35 c35 k35).binds (ps := ["_law_dice_here"]) fun _ _ _ _ _ _ us hl => match us, hl with | [_], _ => rfl,
    g_l_right := PySem.W.mg_of X G a35,
    a_law := fa,
    fd_law := _,
    F_law := fun_mk (st := s_law) l36 c36 k36,
    b_law := (fun_mk (st := s_law) l36 c36 k36).binds (ps := ["_law_script"]) fun _ _ _ _ _ _ us hl => match us, hl with | [_], _ => rfl,
    g_law := PySem.W.mg_of X G a36,
    is_Sound := ⟨⟨pg_Sound, hd_Sound, po_Sound, sa_Sound⟩, ia_Sound, ib_Sound, ic_Sound, id_Sound⟩,
    fo_Sound := fun n hn => by
      simp only [Kit.BT, List.mem_cons, List.not_mem_nil, or_false] at hn
      rcases hn with rfl | rfl | rfl | rfl | rfl | rfl | rfl
      · exact ⟨ko_Sound_NoneType, nf_Sound_NoneType⟩
      · exact ⟨ko_Sound_bool, nf_Sound_bool⟩
      · exact ⟨ko_Sound_int, nf_Sound_int⟩
      · exact ⟨ko_Sound_str, nf_Sound_str⟩
      · exact ⟨ko_Sound_list, nf_Sound_list⟩
      · exact ⟨ko_Sound_tuple, nf_Sound_tuple⟩
      · exact ⟨ko_Sound_dict, nf_Sound_dict⟩,
    eq_Place := ⟨a12, i12, ne_Place, po_Place⟩,
    is_Place := ⟨⟨pg_Place, hd_Place, po_Place, sa_Place⟩, ia_Place, ib_Place, ic_Place, id_Place⟩,
    fo_Place := fun n hn => by
      simp only [Kit.BT, List.mem_cons, List.not_mem_nil, or_false] at hn
      rcases hn with rfl | rfl | rfl | rfl | rfl | rfl | rfl
      · exact ⟨ko_Place_NoneType, nf_Place_NoneType⟩
      · exact ⟨ko_Place_bool, nf_Place_bool⟩
      · exact ⟨ko_Place_int, nf_Place_int⟩
      · exact ⟨ko_Place_str, nf_Place_str⟩
      · exact ⟨ko_Place_list, nf_Place_list⟩
      · exact ⟨ko_Place_tuple, nf_Place_tuple⟩
      · exact ⟨ko_Place_dict, nf_Place_dict⟩,
    t_LONGEST_NAME := t_LONGEST_NAME,
    m_LONGEST_NAME := PySem.W.mg_of X G v_LONGEST_NAME,
    t_TOO_GREAT := t_TOO_GREAT,
    m_TOO_GREAT := PySem.W.mg_of X G v_TOO_GREAT,
    t_TOO_SMALL := t_TOO_SMALL,
    m_TOO_SMALL := PySem.W.mg_of X G v_TOO_SMALL,
    t_MOST_TERMS := t_MOST_TERMS,
    m_MOST_TERMS := PySem.W.mg_of X G v_MOST_TERMS,
    n_isinstance := PySem.W.mg_none_of X G z_isinstance,
    n_classmethod := PySem.W.mg_none_of X G z_classmethod,
    n_tuple := PySem.W.mg_none_of X G z_tuple,
    n_property := PySem.W.mg_none_of X G z_property,
    n_sorted := PySem.W.mg_none_of X G z_sorted,
    n_set := PySem.W.mg_none_of X G z_set,
    n_str := PySem.W.mg_none_of X G z_str,
    n_len := PySem.W.mg_none_of X G z_len,
    n_int := PySem.W.mg_none_of X G z_int,
    n_bool := PySem.W.mg_none_of X G z_bool,
    n_all := PySem.W.mg_none_of X G z_all,
    n_max := PySem.W.mg_none_of X G z_max,
    n_abs := PySem.W.mg_none_of X G z_abs,
    n_range := PySem.W.mg_none_of X G z_range,
    n_repr := PySem.W.mg_none_of X G z_repr,
    n_list := PySem.W.mg_none_of X G z_list,
    n_min := PySem.W.mg_none_of X G z_min }
  exact ⟨T.fd_law, [(("_law_refused" : Str), cb34, tp34)], sp_law T, fun q hq => by
    simp only [List.mem_cons, List.not_mem_nil, or_false] at hq
    rcases hq with rfl
    · exact ⟨⟨_, cf34⟩, Kit.tab_in a34 l34 rfl cl34 cv34, cn34⟩,
    fun s v => .of_eq rfl, fun H a ns hl hb hT hS => told_law T (hT (("_law_refused" : Str), cb34, tp34) (by simp)) hl hb hS, fun base _ _ tb => ok_law T (tb (("_law_refused" : Str), cb34, tp34) (by simp))⟩
end K22
open PySem PySem.W PyProof.Rows
set_option maxHeartbeats 0 in
theorem PySem.Challenge.cw_goneunseen_k22_places_made_and_told_holds : PySem.Challenge.rw_goneunseen_k22_places_made_and_told.Holds := by
  w_on; o_law; k_head; (case hw => w_witness2)
  k_fill
  refine Kit.walk_ofT (l := PySem.Challenge.rw_goneunseen_k22_places_made_and_told) (n := 63) (k := 14) (x := "_law_script") rfl (by decide) rfl ⟨rfl, by decide, by decide⟩ (fun w h Y => by first | exact PySem.W.kIn_of Y | exact PySem.W.km_in_of Y) ?F
  case F =>
    intro w mg fa h KX G hmg
    refine' K22.all_mk KX G hmg ?aC_Sound ?pg_Sound ?hd_Sound ?po_Sound ?sa_Sound ?kpC_Sound ?nA_Sound_worth ?aC_Place ?pg_Place ?hd_Place ?po_Place ?sa_Place ?kpC_Place ?nA_Place_source ?nA_Place_terms ?nA_Place_filtered ?ty_Place ?rr_Place ?ra_Place ?aC_InvalidPlace ?x1_InvalidPlace ?kC1_InvalidPlace ?eb1_InvalidPlace ?et1_InvalidPlace ?ec1_InvalidPlace ?es1_InvalidPlace ?l1 ?c1 ?k1 ?mk_Sound ?a1 ?i1 ?l2 ?c2 ?k2 ?kd2_0 ?mk_Place ?a2 ?i2 ?l3 ?c3 ?k3 ?kd3_0 ?a3 ?r3 ?h3 ?l4 ?c4 ?k4 ?a4 ?g4 ?t4 ?r4 ?l5 ?c5 ?k5 ?a5 ?g5 ?t5 ?r5 ?l6 ?c6 ?k6 ?a6 ?g6 ?t6 ?r6 ?l7 ?c7 ?k7 ?a7 ?g7 ?t7 ?r7 ?l8 ?c8 ?k8 ?a8 ?i8 ?l9 ?c9 ?k9 ?a9 ?i9 ?l10 ?c10 ?k10 ?a10 ?i10 ?l11 ?c11 ?k11 ?a11 ?i11 ?l12 ?c12 ?k12 ?a12 ?i12 ?l13 ?c13 ?k13 ?a13 ?i13 ?l14 ?c14 ?k14 ?a14 ?l15 ?c15 ?k15 ?a15 ?l16 ?c16 ?k16 ?a16 ?l17 ?c17 ?k17 ?a17 ?l18 ?c18 ?k18 ?a18 ?l19 ?c19 ?k19 ?a19 ?l20 ?c20 ?k20 ?a20 ?l21 ?c21 ?k21 ?a21 ?l22 ?c22 ?k22 ?a22 ?l23 ?c23 ?k23 ?a23 ?l24 ?c24 ?k24 ?a24 ?l25 ?c25 ?k25 ?a25 ?l26 ?c26 ?k26 ?a26 ?l27 ?c27 ?k27 ?a27 ?l28 ?c28 ?k28 ?a28 ?l29 ?c29 ?k29 ?a29 ?l30 ?c30 ?k30 ?a30 ?l31 ?c31 ?k31 ?a31 ?l32 ?c32 ?k32 ?a32 ?l33 ?c33 ?k33 ?a33 ?l34 ?c34 ?k34 ?cl34 ?cv34 ?cn34 ?a34 ?l35 ?c35 ?k35 ?a35 ?l36 ?c36 ?k36 ?a36 ?ia_Sound ?ib_Sound ?ic_Sound ?id_Sound ?ko_Sound_NoneType ?ko_Sound_bool ?ko_Sound_int ?ko_Sound_str ?ko_Sound_list ?ko_Sound_tuple ?ko_Sound_dict ?nf_Sound_NoneType ?nf_Sound_bool ?nf_Sound_int ?nf_Sound_str ?nf_Sound_list ?nf_Sound_tuple ?nf_Sound_dict ?ne_Place ?ia_Place ?ib_Place ?ic_Place ?id_Place ?ko_Place_NoneType ?ko_Place_bool ?ko_Place_int ?ko_Place_str ?ko_Place_list ?ko_Place_tuple ?ko_Place_dict ?nf_Place_NoneType ?nf_Place_bool ?nf_Place_int ?nf_Place_str ?nf_Place_list ?nf_Place_tuple ?nf_Place_dict ?v_LONGEST_NAME ?v_TOO_GREAT ?v_TOO_SMALL ?v_MOST_TERMS ?z_isinstance ?z_classmethod ?z_tuple ?z_property ?z_sorted ?z_set ?z_str ?z_len ?z_int ?z_bool ?z_all ?z_max ?z_abs ?z_range ?z_repr ?z_list ?z_min ?cf34
    (case aC_Sound => k_is); (case aC_Place => k_is); (case aC_InvalidPlace => k_is); (case a14 => k_is); (case a15 => k_is); (case a16 => k_is); (case a17 => k_is); (case a18 => k_is); (case a19 => k_is); (case a20 => k_is); (case a21 => k_is); (case a22 => k_is); (case a23 => k_is); (case a24 => k_is); (case a25 => k_is); (case a26 => k_is); (case a27 => k_is); (case a28 => k_is); (case a29 => k_is); (case a30 => k_is); (case a31 => k_is); (case a32 => k_is); (case a33 => k_is); (case a34 => k_is); (case a35 => k_is); (case a36 => k_is); (case v_LONGEST_NAME => k_is); (case v_TOO_GREAT => k_is); (case v_TOO_SMALL => k_is); (case v_MOST_TERMS => k_is); (case z_isinstance => k_is); (case z_classmethod => k_is); (case z_tuple => k_is); (case z_property => k_is); (case z_sorted => k_is); (case z_set => k_is); (case z_str => k_is); (case z_len => k_is); (case z_int => k_is); (case z_bool => k_is); (case z_all => k_is); (case z_max => k_is); (case z_abs => k_is); (case z_range => k_is); (case z_repr => k_is); (case z_list => k_is); (case z_min => k_is); (case ty_Place => k_is); (case a1 => k_is); (case a2 => k_is); (case a3 => k_is); (case a4 => k_is); (case a5 => k_is); (case a6 => k_is); (case a7 => k_is); (case a8 => k_is); (case a9 => k_is); (case a10 => k_is); (case a11 => k_is); (case a12 => k_is); (case a13 => k_is); (case r3 => k_is); (case r4 => k_is); (case r5 => k_is); (case r6 => k_is); (case r7 => k_is); (case l1 => k_is); (case l2 => k_is); (case l3 => k_is); (case l4 => k_is); (case l5 => k_is); (case l6 => k_is); (case l7 => k_is); (case l8 => k_is); (case l9 => k_is); (case l10 => k_is); (case l11 => k_is); (case l12 => k_is); (case l13 => k_is); (case l14 => k_is); (case l15 => k_is); (case l16 => k_is); (case l17 => k_is); (case l18 => k_is); (case l19 => k_is); (case l20 => k_is); (case l21 => k_is); (case l22 => k_is); (case l23 => k_is); (case l24 => k_is); (case l25 => k_is); (case l26 => k_is); (case l27 => k_is); (case l28 => k_is); (case l29 => k_is); (case l30 => k_is); (case l31 => k_is); (case l32 => k_is); (case l33 => k_is); (case l34 => k_is); (case l35 => k_is); (case l36 => k_is); (case kd2_0 => k_is); (case kd3_0 => k_is); (case pg_Sound => k_is); (case hd_Sound => k_is); (case po_Sound => k_is); (case sa_Sound => k_is); (case kpC_Sound => k_is); (case nA_Sound_worth => k_is); (case pg_Place => k_is); (case hd_Place => k_is); (case po_Place => k_is); (case sa_Place => k_is); (case kpC_Place => k_is); (case nA_Place_source => k_is); (case nA_Place_terms => k_is); (case nA_Place_filtered => k_is); (case rr_Place => k_is); (case ra_Place => k_is); (case x1_InvalidPlace => k_exc); (case kC1_InvalidPlace => k_is); (case eb1_InvalidPlace => k_is); (case et1_InvalidPlace => k_is); (case ec1_InvalidPlace => k_is); (case es1_InvalidPlace => (first | rfl | k_is)); (case c1 => k_is); (case k1 => k_is); (case mk_Sound => k_is); (case i1 => k_is); (case c2 => k_is); (case k2 => k_is); (case mk_Place => k_is); (case i2 => k_is); (case c3 => k_is); (case k3 => k_is); (case h3 => k_is); (case c4 => k_is); (case k4 => k_is); (case g4 => k_is); (case t4 => k_is); (case c5 => k_is); (case k5 => k_is); (case g5 => k_is); (case t5 => k_is); (case c6 => k_is); (case k6 => k_is); (case g6 => k_is); (case t6 => k_is); (case c7 => k_is); (case k7 => k_is); (case g7 => k_is); (case t7 => k_is); (case c8 => k_is); (case k8 => k_is); (case i8 => k_is); (case c9 => k_is); (case k9 => k_is); (case i9 => k_is); (case c10 => k_is); (case k10 => k_is); (case i10 => k_is); (case c11 => k_is); (case k11 => k_is); (case i11 => k_is); (case c12 => k_is); (case k12 => k_is); (case i12 => k_is); (case c13 => k_is); (case k13 => k_is); (case i13 => k_is); (case c14 => k_is); (case k14 => k_is); (case c15 => k_is); (case k15 => k_is); (case c16 => k_is); (case k16 => k_is); (case c17 => k_is); (case k17 => k_is); (case c18 => k_is); (case k18 => k_is); (case c19 => k_is); (case k19 => k_is); (case c20 => k_is); (case k20 => k_is); (case c21 => k_is); (case k21 => k_is); (case c22 => k_is); (case k22 => k_is); (case c23 => k_is); (case k23 => k_is); (case c24 => k_is); (case k24 => k_is); (case c25 => k_is); (case k25 => k_is); (case c26 => k_is); (case k26 => k_is); (case c27 => k_is); (case k27 => k_is); (case c28 => k_is); (case k28 => k_is); (case c29 => k_is); (case k29 => k_is); (case c30 => k_is); (case k30 => k_is); (case c31 => k_is); (case k31 => k_is); (case c32 => k_is); (case k32 => k_is); (case c33 => k_is); (case k33 => k_is); (case c34 => k_is); (case k34 => k_is); (case cl34 => k_is); (case cv34 => rfl); (case cn34 => kernel_rfl); (case c35 => k_is); (case k35 => k_is); (case c36 => k_is); (case k36 => k_is); (case ia_Sound => k_is); (case ib_Sound => k_is); (case ic_Sound => k_is); (case id_Sound => k_is); (case ko_Sound_NoneType => kit_is); (case ko_Sound_bool => kit_is); (case ko_Sound_int => kit_is); (case ko_Sound_str => kit_is); (case ko_Sound_list => kit_is); (case ko_Sound_tuple => kit_is); (case ko_Sound_dict => kit_is); (case nf_Sound_NoneType => k_is); (case nf_Sound_bool => k_is); (case nf_Sound_int => k_is); (case nf_Sound_str => k_is); (case nf_Sound_list => k_is); (case nf_Sound_tuple => k_is); (case nf_Sound_dict => k_is); (case ne_Place => k_is); (case ia_Place => k_is); (case ib_Place => k_is); (case ic_Place => k_is); (case id_Place => k_is); (case ko_Place_NoneType => kit_is); (case ko_Place_bool => kit_is); (case ko_Place_int => kit_is); (case ko_Place_str => kit_is); (case ko_Place_list => kit_is); (case ko_Place_tuple => kit_is); (case ko_Place_dict => kit_is); (case nf_Place_NoneType => k_is); (case nf_Place_bool => k_is); (case nf_Place_int => k_is); (case nf_Place_str => k_is); (case nf_Place_list => k_is); (case nf_Place_tuple => k_is); (case nf_Place_dict => k_is); (case cf34 => rfl)