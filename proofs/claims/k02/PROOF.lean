import PyProof.Rows.All
import Wide.All
import OpenK.AllK
import Wide.FinOn
import HandS.ForMost
import HandS.IsInst
import HandS.Wide
import HandS.Style
import HandS.Walk
import HandS.Text
import HandS.StrMore
import HandS.Deep
import HandS.TupSets
import HandS.SetFor
import HandS.Strs
import HandS.OwnEq
import HandS.ClsMeth
import HandS.MakeKwOnly
import HandS.Property
import HandS.Conv
import PyProof.EqAt
import KE.KIntText
import KE.SortData
import KE.KeyNested
import PySem.Challenge.RW_goneunseen_k02_tables_made_and_asked
set_option Elab.async false
set_option linter.all false
set_option maxRecDepth 100000
/-! ### of our own, for every law: what the dice are, what stays, a few rules -/
namespace Kit
open PySem PySem.Spec PyProof.Rows L2
/-- the dice: a list of three ints -/
def Dice (H : Hp) (d : Addr) : Prop := ∃ a b c : Int, H d = some (.lst [.int a, .int b, .int c]) ∧ 0 ≤ a ∧ a.natAbs < 2 ^ 2200
/-- all that stood stands, but for the dice -/
def Keep (d : Addr) (H H' : Hp) : Prop := (∀ b o, b ≠ d → H b = some o → H' b = some o) ∧ Dice H' d
theorem Keep.trans {d : Addr} {H H1 H2 : Hp} (a : Keep d H H1) (b : Keep d H1 H2) : Keep d H H2 :=
  ⟨fun x o hx h => b.1 x o hx (a.1 x o hx h), b.2⟩
theorem Keep.refl {d : Addr} {H : Hp} (h : Dice H d) : Keep d H H := ⟨fun _ _ _ h => h, h⟩
theorem Dice.same {d : Addr} {H H1 : Hp} (h : Dice H d) (s : Same H H1) : Dice H1 d := by
  obtain ⟨a, b, c, e, r⟩ := h
  exact ⟨a, b, c, s _ _ e, r⟩
theorem Keep.of_same {d : Addr} {H H1 : Hp} (s : Same H H1) (h : Dice H d) : Keep d H H1 := ⟨fun b o _ e => s b o e, h.same s⟩
theorem Keep.same {d : Addr} {H H1 H2 : Hp} (k : Keep d H H1) (s : Same H1 H2) : Keep d H H2 := k.trans (.of_same s k.2)
theorem same_upd {H : Hp} {p : Addr} {o : HO} (h : H p = none) : Same H (upd H p o) := fun b x e => by
  rw [upd_ne (ne_of_none e h)]
  exact e
theorem Dice.ne_of {d p : Addr} {H : Hp} (h : Dice H d) (n : H p = none) : p ≠ d := fun e => by
  obtain ⟨a, b, c, x, _⟩ := h
  rw [e, x] at n
  cases n
/-- a thing of our own is stored anew -/
theorem Keep.put {d p : Addr} {H H1 : Hp} {o : HO} (k : Keep d H H1) (n : H p = none) (hp : p ≠ d) : Keep d H (upd H1 p o) := by
  refine ⟨fun b x hb e => ?_, ?_⟩
  · rw [upd_ne (ne_of_none e n)]
    exact k.1 b x hb e
  · obtain ⟨a, b, c, e, r⟩ := k.2
    exact ⟨a, b, c, by rw [upd_ne (Ne.symm hp)]; exact e, r⟩
theorem Keep.lst {d p : Addr} {H H1 : Hp} {xs : List V} (k : Keep d H H1) (hp : p ≠ d) (h : H p = some (.lst xs)) : H1 p = some (.lst xs) := k.1 _ _ hp h
theorem Keep.some {d p : Addr} {H H1 : Hp} {o : HO} (k : Keep d H H1) (hp : p ≠ d) (h : H p = some o) : H1 p = some o := k.1 _ _ hp h

section
variable {X : Cx}
/-- a power whose size is known -/
theorem op_powW : OpR X (binaryOp .Pow) (rI (fun i j => 0 ≤ j ∧ (Builtin.Int.intBits i : Int) * j ≤ 2 ^ 27) fun i j => .int (i ^ j.toNat)) := opI fun _ _ _ _ _ _ _ hc q => pow_int hc.1 hc.2 q
def rEqNil (K : PySem.W.Frag) : R2 := fun x y H Q => ∃ p q xs, x = .ref p ∧ y = .ref q ∧ SqL K H p xs ∧ SqL K H q [] ∧ Q (.bl xs.isEmpty) H
/-- a list of anything == [] -/
theorem op_eqNil (hu : X.A.units + 64 < cLine) : OpR X (compareOp .Eq) (rEqNil X.K) := by
  intro pins s σ H x y v u Q I rx ry h
  obtain ⟨p, q, xs, rfl, rfl, hp, hq, k⟩ := h
  cases rx
  cases ry
  cases xs with
  | nil => exact op_eqD hu pins s σ H (.ref p) (.ref q) _ _ Q I rfl rfl ⟨.list [], .list [], .lst hp .nil, .lst hq .nil, rfl, rfl, k⟩
  | cons z zs =>
    obtain ⟨its, rv, hl, _⟩ := I.list hp
    obtain ⟨its2, rv2, hl2, _⟩ := I.list hq
    cases rv2
    cases rv with
    | cons r1 r2 =>
      refine SeqAt.eq_list_lengthsAt hl.isList hl2.isList ?_ (by omega) ⟨.bl _, H, I, rfl, k⟩
      simp

/-- a rest, told by its bounds -/
def rMod : R2 := fun x y H Q => ∃ i j : Int, x = .int i ∧ y = .int j ∧ 0 < j ∧ ∀ r : Int, 0 ≤ r → r < j → r = i % j → Q (.int r) H
theorem op_modB : OpR X (binaryOp .Mod) rMod := by
  intro pins s σ H x y v u Q I rx ry h
  obtain ⟨i, j, rfl, rfl, hj, q⟩ := h
  exact op_mod pins s σ H _ _ v u Q I rx ry ⟨i, j, rfl, rfl, hj, q (i % j) (Int.emod_nonneg _ (by omega)) (Int.emod_lt_of_pos _ hj) rfl⟩
/-- a or b, a and b of two truths, the second one leaving all as it is: one way -/
def tOrB (ta tb : TE) : TE := fun σ H Q => ta σ H fun x H1 => ∃ c d : Bool, x = .bl c ∧ (c = false → tb σ H1 fun y H2 => y = .bl d ∧ H2 = H1) ∧ Q (.bl (c || d)) H1
def tAndB (ta tb : TE) : TE := fun σ H Q => ta σ H fun x H1 => ∃ c d : Bool, x = .bl c ∧ (c = true → tb σ H1 fun y H2 => y = .bl d ∧ H2 = H1) ∧ Q (.bl (c && d)) H1
def tMono (ta : TE) : TE := fun σ H Q => ∃ R : VK, ta σ H R ∧ ∀ x H', R x H' → Q x H'
theorem pe_mono {a : Expr} {ta : TE} (ha : PE X a ta) : PE X a (tMono ta) := ⟨fun pins s σ H Q I h => by
  obtain ⟨R, h1, h2⟩ := h
  exact thn (ha.run pins s σ H R I h1) fun v s1 ⟨x, H1, I1, r1, q1⟩ => ⟨x, H1, I1, r1, h2 x H1 q1⟩⟩
theorem pe_orB {a b : Expr} {ta tb : TE} {pos : Pos} (ha : PE X a ta) (hb : PE X b tb) : PE X (.BoolOp .Or [a, b] pos) (tOrB ta tb) := ⟨fun pins s σ H Q I h => by
  refine (pe_or (pe_mono ha) (pe_one (pe_mono hb))).run pins s σ H Q I ⟨_, h, fun x H1 r => ?_⟩
  obtain ⟨c, d, rfl, hd, q⟩ := r
  refine ⟨c, rfl, ?_⟩
  cases c with
  | true => exact iteT q
  | false => exact iteF ⟨_, hd rfl, fun y H2 ⟨e1, e2⟩ => by rw [e1, e2]; exact q⟩⟩
theorem pe_andB {a b : Expr} {ta tb : TE} {pos : Pos} (ha : PE X a ta) (hb : PE X b tb) : PE X (.BoolOp .And [a, b] pos) (tAndB ta tb) := ⟨fun pins s σ H Q I h => by
  refine (pe_and (pe_mono ha) (pe_one (pe_mono hb))).run pins s σ H Q I ⟨_, h, fun x H1 r => ?_⟩
  obtain ⟨c, d, rfl, hd, q⟩ := r
  refine ⟨c, rfl, ?_⟩
  cases c with
  | true => exact iteT ⟨_, hd rfl, fun y H2 ⟨e1, e2⟩ => by rw [e1, e2]; exact q⟩
  | false => exact iteF q⟩
def tMonoT (t : TT) : TT := fun σ H Q => ∃ R : Bool → Hp → Prop, t σ H R ∧ ∀ c H', R c H' → Q c H'
theorem pt_mono {a : Expr} {t : TT} (ha : PT X a t) : PT X a (tMonoT t) := ⟨fun pins s σ H Q I h => by
  obtain ⟨R, h1, h2⟩ := h
  exact thn (ha.run pins s σ H R I h1) fun b s1 ⟨H1, I1, q1⟩ => ⟨H1, I1, h2 b H1 q1⟩⟩
/-- a if t else b, the ways leaving all as it is: one way -/
def tIfB (t : TT) (ta tb : TE) : TE := fun σ H Q => t σ H fun c H1 => ∃ v, (c = true → ta σ H1 fun y H2 => y = v ∧ H2 = H1) ∧ (c = false → tb σ H1 fun y H2 => y = v ∧ H2 = H1) ∧ Q v H1
theorem pe_ifB {c a b : Expr} {t : TT} {ta tb : TE} {pos : Pos} (hc : PT X c t) (ha : PE X a ta) (hb : PE X b tb) : PE X (.IfExp c a b pos) (tIfB t ta tb) := ⟨fun pins s σ H Q I h => by
  refine (pe_ifExp (pt_mono hc) (pe_mono ha) (pe_mono hb)).run pins s σ H Q I ⟨_, h, fun x H1 r => ?_⟩
  obtain ⟨v, h1, h2, q⟩ := r
  cases x with
  | true => exact iteT ⟨_, h1 rfl, fun y H2 ⟨e1, e2⟩ => by rw [e1, e2]; exact q⟩
  | false => exact iteF ⟨_, h2 rfl, fun y H2 ⟨e1, e2⟩ => by rw [e1, e2]; exact q⟩⟩
def rNeNil (K : PySem.W.Frag) : R2 := fun x y H Q => ∃ p q xs, x = .ref p ∧ y = .ref q ∧ SqL K H p xs ∧ SqL K H q [] ∧ Q (.bl (!xs.isEmpty)) H
/-- a list of anything != [] -/
theorem op_neNil (hu : X.A.units + 64 < cLine) : OpR X (compareOp .NotEq) (rNeNil X.K) := by
  intro pins s σ H x y v u Q I rx ry h
  obtain ⟨p, q, xs, rfl, rfl, hp, hq, k⟩ := h
  cases rx
  cases ry
  cases xs with
  | nil => exact op_neD hu pins s σ H (.ref p) (.ref q) _ _ Q I rfl rfl ⟨.list [], .list [], .lst hp .nil, .lst hq .nil, rfl, rfl, k⟩
  | cons z zs =>
    obtain ⟨its, rv, hl, _⟩ := I.list hp
    obtain ⟨its2, rv2, hl2, _⟩ := I.list hq
    cases rv2
    cases rv with
    | cons r1 r2 =>
      exact SeqAt.RcNeAt.lists_lengths hl.isList hl2.isList (by simp) (by omega) X.prog X.w X.xe _ ⟨.bl _, H, I, rfl, k⟩
end
/-- an item at a place that is there -/
theorem ixN_of {n : Nat} {i : Int} (h0 : 0 ≤ i) (h1 : i < n) : ixN n i = some i.toNat := by
  unfold ixN
  rw [if_pos h0, if_pos (by omega)]
theorem at_lt {α : Type} {xs : List α} {i : Int} (h0 : 0 ≤ i) (h1 : i < xs.length) : ∃ v, atI xs i = some v ∧ v ∈ xs := by
  have h : i.toNat < xs.length := by omega
  refine ⟨xs[i.toNat], ?_, List.getElem_mem h⟩
  unfold atI
  rw [ixN_of h0 h1]
  show xs[i.toNat]? = _
  exact List.getElem?_eq_getElem h
theorem sput {H H1 : Hp} {p : Addr} {o : HO} (s : Same H H1) (n : H p = none) : Same H (upd H1 p o) := fun b x e => by
  rw [upd_ne (ne_of_none e n)]
  exact s b x e
theorem snew {H H1 : Hp} {p : Addr} {o : HO} (s : Same H H1) (n : H1 p = none) : Same H (upd H1 p o) := s.trans (same_upd n)
theorem Keep.free {d p : Addr} {H H1 : Hp} (k : Keep d H H1) (n : H1 p = none) : H p = none := by
  cases e : H p with
  | none => rfl
  | some o =>
    by_cases hp : p = d
    · obtain ⟨a, b, c, x, _⟩ := k.2
      rw [hp, x] at n
      cases n
    · rw [k.1 _ _ hp e] at n
      cases n
/-- a comprehension whose test and element leave all as it stood (but for new things): what it makes -/
theorem lc_pure {α : Type} {J : It} {n : Nat} {G : Hp → Prop} {Y : Nat → Hp → V → Hp → Prop} (w : Walk J n G Y) {k : Nat} {tt : TT} {te : TE} {vs : List Nat} {σ : L2.St} {H : Hp} {D : Addr} {Qd : Hp → Prop}
    (hD : H D = none) (xs : List α) (val : α → V) (p : α → Bool) (f : α → V) (hn : xs.length = n) (hsz : n ≤ 1000) (hk : k ∈ vs)
    (hG : ∀ H1, Same H H1 → G H1) (hY : ∀ i H1 x H', Same H H1 → Y i H1 x H' → H' = H1 ∧ ∃ a, xs[i]? = some a ∧ x = val a)
    (ht : ∀ a H1, a ∈ xs → Same H H1 → ∀ Q : Bool → Hp → Prop, (∀ H2, Same H1 H2 → Q (p a) H2) → tt ((wipe σ vs).set k (some (val a))) H1 Q)
    (he : ∀ a H1, a ∈ xs → p a = true → Same H H1 → ∀ Q : VK, (∀ H2, Same H1 H2 → Q (f a) H2) → te ((wipe σ vs).set k (some (val a))) H1 Q)
    (hw : ∀ x, wipe ((wipe σ vs).set k (some x)) vs = wipe σ vs)
    (hd : ∀ H1, Same H H1 → H1 D = some (.lst ((xs.filter p).map f)) → Qd H1) :
    ∃ W : Nat → Nat → Hp → Prop, (∃ m, W 0 m (upd H D (.lst []))) ∧ ∀ i m H, W i m H →
      (J.stop i H ∧ Qd H) ∨ (J.go i H ∧ ∃ Nx : Hp → Prop, (∀ H', Nx H' → ∃ m', m' < m ∧ W (i + 1) m' H') ∧ ∀ x H', J.yld i H x H' → gName k x (wipe σ vs) H' fun σ2 H2 => wipe σ2 vs = wipe σ vs ∧ tt σ2 H2 fun b H3 =>
        if b = true then te σ2 H3 fun y H4 => ∃ acc, H4 D = some (.lst acc) ∧ acc.length < sizeLine ∧ Nx (upd H4 D (.lst (acc ++ [y]))) else Nx H3) := by
  have step : ∀ {i : Nat} {a : α}, xs[i]? = some a → (xs.take (i + 1)).filter p = (xs.take i).filter p ++ (if p a = true then [a] else []) := fun {i a} e => by
    rw [List.take_add_one, e, List.filter_append]
    show _ ++ List.filter p [a] = _
    rw [List.filter_cons]
    rfl
  refine lc_it w (g := gName k) (fun i H1 => Same H H1 ∧ H1 D = some (.lst (((xs.take i).filter p).map f))) ⟨same_upd hD, by rw [upd_same]; rfl⟩ (fun i H1 _ h => hG H1 h.1) (fun i x H1 H' hi h y => ?_) fun H1 h => hd H1 h.1 (by rw [h.2, List.take_of_length_le (by omega)])
  obtain ⟨s1, e1⟩ := h
  obtain ⟨rfl, a, ea, rfl⟩ := hY i H1 x H' s1 y
  have ma : a ∈ xs := List.mem_of_getElem? ea
  refine ⟨hw _, ht a _ ma s1 _ fun H2 s2 => ?_⟩
  cases hp : p a with
  | true =>
    refine iteT (he a H2 ma hp (s1.trans s2) _ fun H3 s3 => ⟨_, s3 _ _ (s2 _ _ e1), ?_, ?_⟩)
    · rw [List.length_map]
      exact Nat.lt_of_le_of_lt (Nat.le_trans (List.length_filter_le _ _) (List.length_take_le _ _)) (small1000 (by omega))
    · refine ⟨sput ((s1.trans s2).trans s3) hD, ?_⟩
      rw [upd_same, step ea, hp, if_pos rfl, List.map_append]
      rfl
  | false =>
    refine iteF ⟨s1.trans s2, ?_⟩
    rw [s2 _ _ e1, step ea, hp, if_neg Bool.false_ne_true, List.append_nil]
theorem yesT {σ : L2.St} {H : Hp} {A B : Hp → Prop} (h : A H) : tYes σ H (fun b H3 => if b = true then A H3 else B H3) := show (if true = true then A H else B H) from iteT h
theorem joinL_nil : ∀ ps : List (List Nat), TL.joinL [] ps = ps.flatten
  | [] => rfl
  | [p] => by
    show p = _
    simp
  | p :: q :: r => by
    show p ++ ([] ++ TL.joinL [] (q :: r)) = _
    rw [List.nil_append, joinL_nil (q :: r), List.flatten_cons (l := p)]
theorem join_len (ys : List Str) : (Txt.join "" ys).length = (ys.map (·.length)).sum := by
  have e : (Txt.join "" ys).cps.toList = (ys.map TL.tl).flatten := by
    rw [TL.join_eq]
    have h := TL.tl_join "" ys
    rw [show TL.tl "" = [] by decide +kernel, joinL_nil] at h
    exact h
  have e2 := congrArg List.length e
  rw [Array.length_toList, List.length_flatten, List.map_map] at e2
  exact e2
theorem sum_ones : ∀ ys : List Str, (∀ y ∈ ys, y.length = 1) → (ys.map (·.length)).sum = ys.length
  | [], _ => rfl
  | y :: ys, h => by
    rw [List.map_cons, List.sum_cons, sum_ones ys fun z hz => h z (List.mem_cons_of_mem _ hz), h y (List.mem_cons_self ..), List.length_cons]
    omega
theorem filt_all {α : Type} (xs : List α) : xs.filter (fun _ => true) = xs := List.filter_eq_self.2 fun _ _ => rfl
theorem all_filt {α : Type} (p : α → Bool) : ∀ xs : List α, xs.all p = (xs.filter fun x => !p x).isEmpty
  | [] => rfl
  | x :: xs => by
    rw [List.all_cons, List.filter_cons]
    cases h : p x with
    | true =>
      rw [if_neg (by simp), Bool.true_and]
      exact all_filt p xs
    | false => simp
theorem abs_nat (i : Int) : (if i < 0 then -i else i) = ((i.natAbs : Nat) : Int) := by
  split <;> omega
theorem sz_of {n : Nat} (h : n ≤ 100000) : n ≤ sizeLine := Nat.le_trans h (by decide)
theorem nb {b : Bool} (h : (!b) = true) : b = false := by
  cases b with
  | false => rfl
  | true => cases h
theorem nnb {b : Bool} (h : ¬ (!b) = true) : b = true := by
  cases b with
  | true => rfl
  | false => exact absurd rfl h
theorem nt {b : Bool} (h : ¬ b = true) : b = false := by
  cases b with
  | false => rfl
  | true => exact absurd rfl h
/-- how long a number's text is -/
theorem numlen (m : Nat) : (Str.ofString (toString ((m : Nat) : Int))).length = (Nat.toDigits 10 m).length := by
  have e := congrArg List.length (PySem.W.KIN.signs_num m)
  rw [List.length_map, Array.length_toList] at e
  exact e
theorem numlen21 (m : Nat) : ((Str.ofString (toString ((m : Nat) : Int))).length < 21) ↔ m < 100000000000000000000 := by
  rw [numlen]
  have h := Nat.length_toDigits_le_iff (b := 10) (n := m) (k := 20) (by decide) (by decide)
  have e : (10 : Nat) ^ 20 = 100000000000000000000 := by decide
  rw [e] at h
  omega
end Kit
-- CUT
/-! ### of our own: sorted(x) of data, len(set(x)) of keys that are tuples of tuples, set(x) of ints -/
namespace Kit
open PySem PySem.Spec PyProof.Rows L2
/-- the heap behind the items xs laid into a new list -/
abbrev hpNew (h : Heap) (xs : List Value) : Heap := (h.push (seqObj "list" #[] 0)).update h.objs.size (Obj.mapSeq (· ++ xs.toArray))
section
variable {prog : Program} {w : World} {A : Around} {E : Value → Shared → Prop} {s : Shared}
/-- the items of a tuple, laid into a new list -/
theorem collect_tup {l : Addr} {xs : List Value} {R : List Value → Shared → Prop} (ht : s.heap.IsTuple l xs.toArray) (hz : xs.length ≤ sizeLine)
    (k : R xs { s with heap := hpNew s.heap xs }) : wpAny (model prog w) A (collect (.ref l)) R E s := by
  obtain ⟨ob, e1, e2, m, e3⟩ := id ht
  have new : (s.heap.push (seqObj "list" #[] 0)).get? s.heap.objs.size = some (seqObj "list" #[] 0) := Heap.get?_push_size _ rfl
  have old : (s.heap.push (seqObj "list" #[] 0)).get? l = some ob := Heap.get?_push_of_some _ e1
  have z0 : ((#[] : Array Value) ++ xs.toArray).size ≤ sizeLine + 1 := by
    rw [Array.size_append, List.size_toArray]
    simp only [List.size_toArray, List.length_nil]
    omega
  have fin : ((#[] : Array Value) ++ xs.toArray).toList = xs := by simp
  unfold collect
  refine wpAny_bind (wpAny_runValue (codeAny_builtin entry_proto_collect' ?_))
  show wpAny _ _ (newList [] >>= fun z => again (.builtin "list.__iadd__" ⟨[z, .ref l], []⟩)) _ _ s
  refine wpAny_bind (wpAny_newList (wpAny_pure (And.intro (Code.quiet_builtin _ (by decide +kernel)) (codeAny_builtin entry_list_iadd' ?_))))
  show wpAny _ _ (Builtin.List.listExtendWith (.ref s.heap.objs.size) (.ref l) (.ref s.heap.objs.size)) _ _ { s with heap := Heap.push s.heap (seqObj "list" #[] 0) }
  unfold Builtin.List.listExtendWith
  refine wpAny_bind (wpAny_typeOf (T := "tuple") (Exists.intro ob (And.intro old e2)) ?_)
  rw [if_pos (by simp)]
  refine wpAny_bind (listItems_at old e3 ?_)
  refine wpAny_bind (listItems_at (n := 0) (xs := #[]) new rfl ?_)
  rw [if_neg (by simp)]
  refine wpAny_bind (listUpdate_at (n := 0) (xs := #[]) new rfl ?_ (Nat.zero_le _) z0)
  refine wpAny_pure ?_
  refine wpAny_bind (wpAny_load (get?_update_seq new _) ?_)
  show wpAny _ _ (pure ((#[] : Array Value) ++ xs.toArray).toList) R E _
  rw [fin]
  exact wpAny_pure k
open PySem.Calls in
/-- sorted(x), x a tuple -/
theorem sorted_tup {l : Addr} {xs : List Value} {β : Type} {bs : List β} {enc : β → PyData} {R : Value → β → Prop} {Q : Value → Shared → Prop} (ht : s.heap.IsTuple l xs.toArray) (e : PySem.W.EachIs R xs bs) (er : PySem.W.EachIs (fun v b => ∃ as, Reads s.heap v (enc b) as) xs bs)
    (hal : PySem.W.AllAlike (bs.map enc)) (hk : PySem.W.Sortable (bs.map enc)) (hz : bs.length ≤ sizeLine) (hu : ∀ b ∈ bs, A.units + 2 + (enc b).depth < cLine)
    (q : ∀ out : List Value, PySem.W.EachIs R out (bs.mergeSort (PySem.W.dataLe false enc)) → Q (.ref (s.heap.objs.size + 1)) { s with heap := sortedAll s.heap xs out.toArray }) :
    wpAny (model prog w) A (call (.builtin "sorted") [.ref l]) Q E s := by
  have hz' : xs.length ≤ sizeLine := by
    rw [e.length]
    exact hz
  have size : (hpNew s.heap xs).objs.size = s.heap.objs.size + 1 := by
    rw [Heap.size_update, size_push']
  have er2 : PySem.W.EachIs (fun v b => ∃ as, Reads (PySem.W.sortingHeap (PySem.W.copyHeap s.heap xs) (s.heap.objs.size + 1) xs) v (enc b) as) xs bs :=
    er.mono fun _ _ ⟨as, r⟩ => ⟨as, PyProof.Rows.Reads.keeps (fun _ _ => PySem.W.sorting_copy_old) r⟩
  have S := PySem.W.SortsAt.data (prog := prog) (w := w) (A := A.in1.in1) (s := { s with heap := PySem.W.sortingHeap (PySem.W.copyHeap s.heap xs) (s.heap.objs.size + 1) xs }) (PySem.W.each_map (R := fun v d => ∃ as, Reads (PySem.W.sortingHeap (PySem.W.copyHeap s.heap xs) (s.heap.objs.size + 1) xs) v d as) enc er2) hal hk (PySem.W.bound_map (A := A.in1.in1) hu)
  refine call_function_entry kind_sorted plain_sorted entry_sorted (args_sorted1 _) ?_
  unfold Builtin.«sorted»
  refine wpAny_bind (m := checkCount "sorted" 1 1 _) (wpAny_pure ?_)
  refine wpAny_bind (collect_tup ht hz' ?_)
  refine wpAny_bind (wpAny_newList ?_ hz')
  rw [size]
  refine wpAny_bind (wpAny_holding (wpAny_call_entry slot_list_sort ⟨_, PySem.W.copyHeap_at s.heap xs, rfl⟩ entry_list_sort ?_ (args_list_sort _)))
  refine PySem.W.list_sort_vals (s := { s with heap := PySem.W.copyHeap s.heap xs }) (PySem.W.copyHeap_at s.heap xs) S hz' ⟨Value.none, rfl, ?_⟩
  exact wpAny_pure ⟨_, rfl, q _ (PySem.W.sortVals_data false e er2 hal)⟩
end
/-- sorted(xs) of a list whose items are data, alike: each item p.1 is the datum p.2 -/
def rSortX (K : PySem.W.Frag) : List V → Hp → VK → Prop := fun vs H Q => ∃ (a : Addr) (ps : List (V × PyData)), vs = [V.ref a] ∧ (SqL K H a (ps.map Prod.fst) ∨ SqT K H a (ps.map Prod.fst)) ∧
  (∀ p ∈ ps, Dp K H p.1 p.2 ∧ p.2.depth ≤ 60) ∧ PySem.W.AllAlike (ps.map Prod.snd) ∧ PySem.W.Sortable (ps.map Prod.snd) ∧
  ∀ l, H l = none → Q (.ref l) (upd H l (.lst ((ps.mergeSort (PySem.W.dataLe false Prod.snd)).map Prod.fst)))
theorem each_of {X : Cx} {pins : List (Addr × Obj)} {σ : L2.St} {H : Hp} {s : Shared} (I : Inv X pins σ H s) : ∀ {ps : List (V × PyData)} {us : List Value}, Vals (ps.map Prod.fst) us → (∀ p ∈ ps, Dp X.K H p.1 p.2 ∧ p.2.depth ≤ 60) →
    PySem.W.EachIs (fun (u : Value) (p : V × PyData) => RelV p.1 u) us ps ∧ PySem.W.EachIs (fun (u : Value) (p : V × PyData) => ∃ as, Reads s.heap u p.2 as) us ps
  | [], us, r, _ => by
    cases r
    exact ⟨.nil, .nil⟩
  | p :: ps, us, r, h => by
    cases r with
    | cons r1 r2 =>
      obtain ⟨a, b⟩ := each_of I r2 fun q hq => h q (List.mem_cons_of_mem _ hq)
      exact ⟨.cons r1 a, .cons (Dp.reads I _ _ _ (h p (List.mem_cons_self ..)).1 r1) b⟩
theorem vals_each : ∀ {ps : List (V × PyData)} {us : List Value}, PySem.W.EachIs (fun (u : Value) (p : V × PyData) => RelV p.1 u) us ps → Vals (ps.map Prod.fst) us
  | _, _, .nil => .nil
  | _, _, .cons h t => .cons h (vals_each t)
theorem cr_sortedX {X : Cx} (hu : X.A.units + 64 < cLine) : CallR X (.builtin "sorted") (rSortX X.K) := by
  intro pins s σ H vs us Q I r h
  obtain ⟨a, ps, rfl, hs, hd, hal, hk, q⟩ := h
  rw [Vals.ref1 r]
  have len : ∀ its : List Value, Vals (ps.map Prod.fst) its → ps.length ≤ sizeLine → ∀ out : List Value, PySem.W.EachIs (fun (u : Value) (p : V × PyData) => RelV p.1 u) out (ps.mergeSort (PySem.W.dataLe false Prod.snd)) →
      EP X pins σ Q (.ref (s.heap.objs.size + 1)) { s with heap := sortedAll s.heap its out.toArray } := fun its rv hz out eo => by
    obtain ⟨ep, he⟩ := PyProof.Rows.sortedAll_at s.heap its out.toArray
    have len : ((ps.mergeSort (PySem.W.dataLe false Prod.snd)).map Prod.fst).length ≤ sizeLine := by
      rw [List.length_map, List.length_mergeSort]
      exact hz
    exact ⟨.ref _, upd H (s.heap.objs.size + 1) (.lst ((ps.mergeSort (PySem.W.dataLe false Prod.snd)).map Prod.fst)), I.laid (t' := s.toks) (fun _ _ => PyProof.Rows.sortedAll_old) (Nat.le_succ _) ⟨len, out, ep, vals_each eo, he⟩, rfl, q _ (I.hok.fresh (Nat.le_succ _))⟩
  have room : ∀ p ∈ ps, X.A.units + 2 + p.2.depth < cLine := fun p hp => by
    have := (hd p hp).2
    omega
  rcases hs with hs | hs
  · obtain ⟨its, rv, hl, hz⟩ := I.list hs
    obtain ⟨e1, e2⟩ := each_of I rv hd
    rw [List.length_map] at hz
    exact PySem.W.sorted_data hl.isList e1 e2 hal hk hz room fun out _ eo => len its rv hz out eo
  · obtain ⟨its, rv, ht, hz⟩ := I.tuple hs
    obtain ⟨e1, e2⟩ := each_of I rv hd
    rw [List.length_map] at hz
    exact sorted_tup ht e1 e2 hal hk hz room fun out eo => len its rv hz out eo
end Kit
namespace NS
open PySem PySem.Spec PyProof.Rows L2
abbrev NK := NestedKey
section
variable {P : Program} {w : World} {A : Around} {E : Value → Shared → Prop} {s : Shared}
theorem each_in {h : Heap} {n : Nat} : ∀ {ks : List NK} {vs : List Value}, NestedAll h ks vs → NestedKey.depthAll ks ≤ n → ∀ v ∈ vs, ∃ k : NK, NestedIs h k v ∧ k.depth ≤ n
  | [], _, a, _, v, hv => by
    cases a
    cases hv
  | k :: ks, _, a, d, v, hv => by
    cases a with
    | cons a1 a2 =>
      simp only [NestedKey.depthAll] at d
      rcases List.mem_cons.mp hv with rfl | m
      · exact ⟨k, a1, by omega⟩
      · exact each_in a2 (by omega) v m
/-- a value that is a key is of no class statement -/
theorem no_cls : ∀ (n : Nat) (k : NK) (v : Value) (A : Around) (Q : Bool → Shared → Prop), NestedIs s.heap k v → k.depth ≤ n → Q false s → wpAny (model P w) A (ofAClassStatement n v) Q E s := by
  intro n
  induction n with
  | zero =>
    intro k v A Q hk hd q
    cases hk with
    | tup => exact absurd hd (by simp only [NestedKey.depth]; omega)
    | _ => exact wpAny_pure q
  | succ n ih =>
    intro k v A Q hk hd q
    cases hk with
    | @tup b o xs m ks e1 e2 e3 e4 =>
      simp only [NestedKey.depth] at hd
      have hT : s.TypeIs (.ref b) "tuple" := ⟨o, e1, e2⟩
      have items := each_in (n := n) e4 (by omega)
      unfold ofAClassStatement
      refine wpAny_bind (wpAny_typeOf hT ?_)
      dsimp only
      simp only [show ("tuple" == "tuple") = true from by decide, if_true]
      refine wpAny_bind (wpAny_pure ?_)
      simp only [Bool.not_true, Bool.false_eq_true, if_false]
      refine wpAny_bind (m := seqItems? (.ref b)) (wpAny_seqItems e1 e3 ?_)
      dsimp only
      refine wpAny_bind ?_
      rw [← Array.forIn_toList]
      refine wpAny_forIn_list _ (fun r st s' => (∀ v ∈ r, ∃ k : NK, NestedIs s.heap k v ∧ k.depth ≤ n) ∧ st.1 = none ∧ s' = s) _ (fun v r st s' hI => ?_) (fun st s' hI => ?_) _ _ ⟨items, rfl, rfl⟩
      · obtain ⟨h1, h2, rfl⟩ := hI
        obtain ⟨k, hk, hd2⟩ := h1 v (List.mem_cons_self ..)
        refine wpAny_bind (ih k v _ _ hk hd2 ?_)
        simp only [Bool.false_eq_true, if_false]
        exact wpAny_pure ⟨fun u hu => h1 u (List.mem_cons_of_mem _ hu), rfl, rfl⟩
      · obtain ⟨_, h2, rfl⟩ := hI
        obtain ⟨r1, r2⟩ := st
        dsimp only at h2
        subst h2
        exact wpAny_pure q
    | _ => exact wpAny_pure q
/-- whether a key's hash rests on its value: one or the other -/
theorem by_val : ∀ (n : Nat) (k : NK) (v : Value) (A : Around) (Q : Bool → Shared → Prop), NestedIs s.heap k v → k.depth ≤ n → (∀ b, Q b s) → wpAny (model P w) A (hashByValue n v) Q E s := by
  intro n
  induction n with
  | zero =>
    intro k v A Q hk hd q
    cases hk with
    | tup => exact absurd hd (by simp only [NestedKey.depth]; omega)
    | _ => exact wpAny_pure (q _)
  | succ n ih =>
    intro k v A Q hk hd q
    cases hk with
    | @tup b o xs m ks e1 e2 e3 e4 =>
      simp only [NestedKey.depth] at hd
      have hT : s.TypeIs (.ref b) "tuple" := ⟨o, e1, e2⟩
      have items := each_in (n := n) e4 (by omega)
      unfold hashByValue
      refine wpAny_bind (wpAny_specialOf hT F.slot_tuple_hash.lookup ?_)
      dsimp only
      refine wpAny_bind (m := seqItems? (.ref b)) (wpAny_seqItems e1 e3 ?_)
      dsimp only [Option.getD]
      refine wpAny_bind ?_
      rw [← Array.forIn_toList]
      refine wpAny_forIn_list _ (fun r st s' => (∀ v ∈ r, ∃ k : NK, NestedIs s.heap k v ∧ k.depth ≤ n) ∧ s' = s) _ (fun v r st s' hI => ?_) (fun st s' hI => ?_) _ _ ⟨items, rfl⟩
      · obtain ⟨h1, rfl⟩ := hI
        obtain ⟨k, hk, hd2⟩ := h1 v (List.mem_cons_self ..)
        refine wpAny_bind (ih k v _ _ hk hd2 fun b => ?_)
        cases b with
        | false => exact wpAny_pure (wpAny_pure (q _))
        | true => exact wpAny_pure ⟨fun u hu => h1 u (List.mem_cons_of_mem _ hu), rfl⟩
      · obtain ⟨_, rfl⟩ := hI
        obtain ⟨r1, r2⟩ := st
        cases r1 with
        | none => exact wpAny_pure (q _)
        | some c => exact wpAny_pure (q _)
    | _ => exact wpAny_pure (q _)
/-- a tuple that is the key k -/
abbrev IsN (h : Heap) (k : NK) (b : Addr) : Prop := NestedIs h k (.ref b) ∧ k.depth ≤ 8
/-- a search among keys shows nothing -/
theorem unseen {k : NK} {b : Addr} {Q : Bool → Shared → Prop} (hk : IsN s.heap k b) {ys : List Value} (hy : ∀ y ∈ ys, ∃ k' c, y = Value.ref c ∧ IsN s.heap k' c) (q : Q false s) : wpAny (model P w) A (searchCouldBeSeen (.ref b) ys) Q E s := by
  unfold searchCouldBeSeen
  refine wpAny_bind ?_
  refine wpAny_forIn_list _ (fun r st s' => (∀ y ∈ r, ∃ k' c, y = Value.ref c ∧ IsN s.heap k' c) ∧ st.1 = none ∧ s' = s) _ (fun v r st s' hI => ?_) (fun st s' hI => ?_) _ _ ⟨hy, rfl, rfl⟩
  · obtain ⟨h1, h2, rfl⟩ := hI
    have h3 : ∀ y ∈ r, ∃ k' c, y = Value.ref c ∧ IsN s'.heap k' c := fun u hu => h1 u (List.mem_cons_of_mem _ hu)
    obtain ⟨k', c, rfl, hc⟩ := h1 v (List.mem_cons_self ..)
    dsimp only
    by_cases hv : (b == c || (carriedByValue (.ref b) && carriedByValue (.ref c))) = true
    · rw [if_pos hv]
      exact wpAny_pure ⟨h3, rfl, rfl⟩
    · rw [if_neg hv]
      refine wpAny_bind (quiet_key k _ 8 s' hk.1 hk.2 _ _ _ ?_)
      refine wpAny_bind (quiet_key k' _ 8 s' hc.1 hc.2 _ _ _ ?_)
      refine wpAny_bind (no_cls 8 k _ _ _ hk.1 hk.2 ?_)
      refine wpAny_bind (no_cls 8 k' _ _ _ hc.1 hc.2 ?_)
      exact wpAny_pure ⟨h3, rfl, rfl⟩
  · obtain ⟨_, h2, rfl⟩ := hI
    obtain ⟨r1, r2⟩ := st
    dsimp only at h2
    subst h2
    exact wpAny_pure q
end
end NS
namespace NS
open PySem PySem.Spec PyProof.Rows L2
/-- a set of at most four such keys, in its first table -/
structure NSet (w : World) (h : Heap) (a : Addr) (L : List (Addr × NK)) (es : Array (Int × Value)) (ep : Nat) (t : SetTable) : Prop where
  at_ : ∃ ob, h.get? a = some ob ∧ ob.ExactSet ∧ ob.data = .set es ep t
  its : es.toList = L.map fun p => (p.2.hash w, Value.ref p.1)
  tab : TabOk t (L.map fun p => p.2.hash w)
  one : (L.map Prod.snd).Nodup
  key : ∀ p ∈ L, IsN h p.2 p.1
  led : w.params.followText "set-order" = true ∨ t.led = true
  m7 : t.mask = 7
  few : L.length ≤ 4
section
variable {P : Program} {w : World} {A : Around} {E : Value → Shared → Prop} {s : Shared} {a : Addr} {L : List (Addr × NK)} {es : Array (Int × Value)} {ep : Nat} {t : SetTable}
theorem NSet.size (R : NSet w s.heap a L es ep t) : es.size = L.length := by
  have e := congrArg List.length R.its
  rwa [Array.length_toList, List.length_map] at e
theorem NSet.fits (R : NSet w s.heap a L es ep t) : t.fits es.size = true := by
  have z := R.tab.sz
  have f := R.few
  have m := R.m7
  rw [List.length_map] at z
  unfold SetTable.fits SetTable.fill
  rw [R.tab.dm, R.size, z, m]
  simp
  omega
theorem NSet.at' (R : NSet w s.heap a L es ep t) {i : Nat} {p : Addr × NK} (e : L[i]? = some p) : es[i]? = some (p.2.hash w, Value.ref p.1) := by
  rw [← Array.getElem?_toList, R.its, List.getElem?_map, e]
  rfl
/-- the search from its c-th step on: way K is the first empty slot -/
theorem NSet.from (R : NSet w s.heap a L es ep t) {x : Addr} {k : NK} (hx : IsN s.heap k x) (hu : A.units + 8 < cLine) {K : Nat} (kf : K < 10 * SetTable.turns t.mask)
    (k1 : way t.mask (k.hash w) K ∉ t.place.toList) (k2 : ∀ c, c < K → way t.mask (k.hash w) c ∈ t.place.toList) {Q : SetFound → Shared → Prop}
    (yes : k ∈ L.map Prod.snd → Q (.there none) s) (no : k ∉ L.map Prod.snd → Q (.free (way t.mask (k.hash w) K) false) s) :
    ∀ (f c : Nat) (st : Option SetTable.Probe), st.getD (t.probeStart (k.hash w)) = nth t.mask (runAt t.mask (SetTable.bits (k.hash w) % (t.mask + 1)) (SetTable.bits (k.hash w))) c → c ≤ K → K - c < f →
      (∀ (i : Nat) p, L[i]? = some p → p.2 = k → ∃ d, c ≤ d ∧ d < K ∧ t.place.toList[i]? = some (way t.mask (k.hash w) d)) →
      wpAny (model P w) A (setSearchFrom a (.ref x) (k.hash w) true f st) Q E s := by
  intro f
  induction f with
  | zero =>
    intro c st _ _ z _
    exact absurd z (Nat.not_lt_zero _)
  | succ f ih =>
    intro c st est hcK hf hre
    obtain ⟨ob, e1, e2, e3⟩ := R.at_
    generalize hg : runAt t.mask (SetTable.bits (k.hash w) % (t.mask + 1)) (SetTable.bits (k.hash w)) = g at est
    have wy : ∀ c, way t.mask (k.hash w) c = (nth t.mask g c).j := fun c => by rw [← hg]
    have nod : ∀ (n : Nat) (p : SetTable.Probe), p.dummy = none → (nth t.mask p n).dummy = none := by
      intro n
      induction n with
      | zero => exact fun p z => z
      | succ n jh =>
        intro p z
        refine jh _ ?_
        unfold adv
        split <;> exact z
    have gap : ¬ t.gaveWay = true := by
      unfold SetTable.gaveWay
      rw [mask_odd R.tab.mok]
      decide
    have same : t.sameMemory t.moves t.mask = some true := by
      unfold SetTable.sameMemory
      rw [if_pos (beq_self_eq_true _)]
    rw [setSearchFrom_succ]
    refine wpAny_bind (wpAny_setState_of e1 e3 R.fits ?_)
    dsimp only
    refine wp_if_neg gap ?_
    try refine wpAny_bind (wpAny_pure ?_)
    have shift : ∀ q, (nth t.mask (nth t.mask g c) q).j = way t.mask (k.hash w) (c + q) := fun q => by rw [wy, nth_add]
    have hash : ∀ (i : Nat) p, L[i]? = some p → (fun i => (es[i]?.map (·.1)).getD 0) i = p.2.hash w := fun i p e => by
      show (es[i]?.map (·.1)).getD 0 = _
      rw [R.at' e]
      rfl
    have spec := go_spec t R.tab.ris R.tab.dm (fun i => (es[i]?.map (·.1)).getD 0) (k.hash w) (10 * SetTable.turns t.mask) (K - c) (nth t.mask g c) (nod c g (by rw [← hg]; rfl)) (by omega)
      (fun q z => by rw [shift]; exact k2 _ (by omega)) (by rw [shift, Nat.add_sub_cancel' hcK]; exact k1)
    rcases spec with ⟨q, i, q1, q2, q3, q4, q5⟩ | ⟨q4, q5⟩
    · rw [shift] at q2
      have e4 : t.probe (fun i => (es[i]?.map (·.1)).getD 0) (k.hash w) (st.getD (t.probeStart (k.hash w))) = some (.candidate (way t.mask (k.hash w) (c + q)) i (nth t.mask g (c + (q + 1)))) := by
        rw [est, ← shift, nth_add]
        exact q5
      rw [e4]
      dsimp only
      have il : i < L.length := by
        have z1 := (List.getElem?_eq_some_iff.mp q2).1
        have z2 := R.tab.sz
        rw [List.length_map] at z2
        rw [Array.length_toList] at z1
        omega
      obtain ⟨p, ep'⟩ : ∃ p, L[i]? = some p := ⟨_, List.getElem?_eq_getElem il⟩
      have pm : p ∈ L := List.mem_of_getElem? ep'
      have pk := R.key p pm
      have live := slot_live R.tab.ris q2
      have go : wpAny (model P w) A (searchRest a (.ref x) (k.hash w) true f es t (way t.mask (k.hash w) (c + q)) i (nth t.mask g (c + (q + 1)))) Q E s := by
        unfold searchRest
        rw [R.at' ep']
        dsimp only
        refine wpAny_bind (wpAny_holding ?_)
        refine (nestedKind P w).eqBool (show A.units + 8 < cLine from hu) pk hx ?_
        refine wpAny_bind (wpAny_setState_of e1 e3 R.fits ?_)
        dsimp only
        by_cases hpk : p.2 = k
        · refine wp_if_pos (by simp [hpk]) ?_
          exact wpAny_pure (yes (List.mem_map.mpr ⟨p, pm, hpk⟩))
        · refine wp_if_neg (by simp [hpk]) ?_
          try refine wpAny_bind (wpAny_pure ?_)
          rw [same]
          dsimp only
          simp only [if_true, live, R.at' ep']
          refine wpAny_bind (wpAny_isSame_ref_self (wpAny_bind (wpAny_pure ?_)))
          simp only [if_true]
          refine wp_if_neg (by simp [hpk]) ?_
          refine ih (c + (q + 1)) _ (by rw [hg]; rfl) (by omega) (by omega) fun i0 p0 h0 hk0 => ?_
          obtain ⟨d, d1, d2, d3⟩ := hre i0 p0 h0 hk0
          refine ⟨d, ?_, d2, d3⟩
          rcases Nat.lt_trichotomy d (c + q) with z | z | z
          · refine absurd ?_ (q4 (d - c) i0 (by omega) ?_)
            · exact (hash i0 p0 h0).trans (congrArg (NestedKey.hash w) hk0)
            · rw [shift, Nat.add_sub_cancel' d1]
              exact d3
          · rw [z] at d3
            have l2 := slot_live R.tab.ris d3
            rw [live] at l2
            injection l2 with l2
            rw [← l2, ep'] at h0
            exact absurd ((congrArg Prod.snd (Option.some.inj h0)).trans hk0) hpk
          · omega
      by_cases hl : t.led = true
      · refine wp_if_neg (by simp [hl]) ?_
        try refine wpAny_bind (wpAny_pure ?_)
        exact go
      · refine wp_if_pos (by simp [hl]) ?_
        refine wpAny_bind (unseen hx (fun y hy => ?_) ?_)
        · obtain ⟨e, he, rfl⟩ := List.mem_map.mp hy
          have m1 : e ∈ es := by
            have z := Array.mem_toList_iff.mp he
            exact (Array.mem_filter.mp z).1
          have m2 := Array.mem_toList_iff.mpr m1
          rw [R.its] at m2
          obtain ⟨p2, hp2, rfl⟩ := List.mem_map.mp m2
          exact ⟨p2.2, p2.1, rfl, R.key p2 hp2⟩
        · refine wp_if_neg (by decide) ?_
          try refine wpAny_bind (wpAny_pure ?_)
          exact go
    · have e4 : t.probe (fun i => (es[i]?.map (·.1)).getD 0) (k.hash w) (st.getD (t.probeStart (k.hash w))) = some (.empty (way t.mask (k.hash w) K) none) := by
        have z := shift (K - c)
        rw [Nat.add_sub_cancel' hcK] at z
        rw [est, ← z]
        exact q5
      rw [e4]
      dsimp only
      refine wpAny_pure (no fun m => ?_)
      obtain ⟨p0, h0, hk0⟩ := List.mem_map.mp m
      obtain ⟨i0, hi0⟩ := List.getElem?_of_mem h0
      obtain ⟨d, d1, d2, d3⟩ := hre i0 p0 hi0 hk0
      refine absurd ?_ (q4 (d - c) i0 (by omega) ?_)
      · exact (hash i0 p0 hi0).trans (congrArg (NestedKey.hash w) hk0)
      · rw [shift, Nat.add_sub_cancel' d1]
        exact d3
/-- the search as adding asks for it -/
theorem NSet.search (R : NSet w s.heap a L es ep t) {x : Addr} {k : NK} (hx : IsN s.heap k x) (hu : A.units + 8 < cLine) {Q : SetFound → Shared → Prop} (yes : k ∈ L.map Prod.snd → Q (.there none) s)
    (no : ∀ K, k ∉ L.map Prod.snd → way t.mask (k.hash w) K ∉ t.place.toList → (∀ c, c < K → way t.mask (k.hash w) c ∈ t.place.toList) → Q (.free (way t.mask (k.hash w) K) false) s) :
    wpAny (model P w) A (setSearch a (.ref x) (k.hash w) true) Q E s := by
  have f := R.few
  have m := R.m7
  obtain ⟨K, kf, k1, k2⟩ := R.tab.first (by rw [List.length_map, m]; omega) (k.hash w)
  have kb : K < 100000 := by
    have z : 10 * SetTable.turns t.mask ≤ 1420 := by
      rw [m]
      decide
    omega
  unfold setSearch
  refine R.from hx hu kf k1 k2 yes (fun n => no K n k1 k2) 100000 0 none rfl (Nat.zero_le _) (by omega) fun i p e hp => ?_
  have e1 : (L.map fun p => p.2.hash w)[i]? = some (k.hash w) := by
    rw [List.getElem?_map, e, ← hp]
    rfl
  have il : i < t.place.toList.length := by
    have z1 := (List.getElem?_eq_some_iff.mp e).1
    have z2 := R.tab.sz
    rw [List.length_map] at z2
    rw [Array.length_toList]
    omega
  have hj := List.getElem?_eq_getElem il
  obtain ⟨c, c1, c2⟩ := R.tab.before k1 e1 hj
  exact ⟨c, Nat.zero_le _, c1, by rw [hj, c2]⟩
end
end NS
namespace NS
open PySem PySem.Spec PyProof.Rows L2
section
variable {P : Program} {w : World} {A : Around} {E : Value → Shared → Prop} {s : Shared} {a : Addr} {L : List (Addr × NK)} {es : Array (Int × Value)} {ep : Nat} {t : SetTable}
/-- no tuple is the set -/
theorem isN_but {h h' : Heap} {k : NK} {a b : Addr} {ob : Obj} {es : Array (Int × Value)} {ep : Nat} {t : SetTable} (hb : IsN h k b) (ho : h.get? a = some ob) (hd : ob.data = .set es ep t) (hs : Heap.SameBut a h h') : IsN h' k b := by
  refine ⟨NestedIs.at (fun c oc xs n hc hc2 => ?_) k _ hb.1, hb.2⟩
  have ne : c ≠ a := fun z => by
    subst z
    cases hc.symm.trans ho
    rw [hd] at hc2
    cases hc2
  exact (hs.2 c ne).trans hc
theorem isN_keep {h h' : Heap} {k : NK} {b : Addr} (hb : IsN h k b) (hk : ∀ c o, h.get? c = some o → h'.get? c = some o) : IsN h' k b := ⟨NestedIs.at (fun c o _ _ e _ => hk c o e) k _ hb.1, hb.2⟩
theorem perm_put {α : Type} (l : List α) (n : Nat) (x : α) : (l.take n ++ x :: l.drop n).Perm (x :: l) := by
  have z := List.perm_middle (a := x) (l₁ := l.take n) (l₂ := l.drop n)
  rwa [List.take_append_drop] at z
theorem tab_plain {t : SetTable} {hs : List Int} (T : TabOk t hs) (b : Bool) : TabOk (if b = true then t else { t with plain := false }) hs := by
  cases b with
  | true => exact T
  | false => exact ⟨T.ris, T.dm, T.sz, T.mok, T.bd, T.reach⟩
set_option maxHeartbeats 1600000 in
/-- one more key -/
theorem NSet.add (R : NSet w s.heap a L es ep t) {x : Addr} {k : NK} (hx : IsN s.heap k x) (hu : A.units + 8 < cLine) (h4 : L.length + 1 ≤ 4) {Q : Bool → Shared → Prop}
    (q : ∀ b h' L' es' ep' t', Heap.SameBut a s.heap h' → NSet w h' a L' es' ep' t' → (k ∈ L.map Prod.snd → L' = L) → (k ∉ L.map Prod.snd → L'.Perm ((x, k) :: L)) → Q b { s with heap := h' }) :
    wpAny (model P w) A (setAddHashed a (.ref x) (k.hash w)) Q E s := by
  obtain ⟨ob, e1, e2, e3⟩ := R.at_
  have sz := R.size
  unfold setAddHashed
  refine wpAny_holding ?_
  rw [show (100000 : Nat) = 99999 + 1 from rfl, setAddHashedIn_succ]
  refine wpAny_bind (wpAny_setState_of e1 e3 R.fits ?_)
  dsimp only
  refine wp_if_neg (by simp [byScan, Value.scannable]) ?_
  try refine wpAny_bind (wpAny_pure ?_)
  refine wpAny_bind (R.search hx hu (fun m => ?_) fun K m k1 k2 => ?_)
  · dsimp only
    exact wpAny_pure (q false s.heap L es ep t (Heap.SameBut.refl a s.heap) R (fun _ => rfl) fun z => absurd m z)
  · dsimp only
    refine wpAny_bind (wpAny_setState_of e1 e3 R.fits ?_)
    dsimp only
    obtain ⟨p1, p2, p3, p4, p5, p6, p7, p8, p9⟩ := R.tab.put k1 k2
    generalize hp : t.put (way t.mask (k.hash w) K) = pt at p1 p3 p4 p5 p6 p7 p8 p9 ⊢
    obtain ⟨t1, n⟩ := pt
    dsimp only at p1 p3 p4 p5 p6 p7 p8 p9 ⊢
    subst p1
    generalize SetTable.below t.place (way t.mask (k.hash w) K) = n at p2 p3 ⊢
    have its : (SetTable.insertAt es n (k.hash w, Value.ref x)).toList = (L.take n ++ (x, k) :: L.drop n).map fun p => (p.2.hash w, Value.ref p.1) := by
      rw [SetTable.toList_insertAt, R.its, List.map_append, List.map_cons, List.map_take, List.map_drop]
    have tb : (L.take n ++ (x, k) :: L.drop n).map (fun p => p.2.hash w) = (L.map fun p => p.2.hash w).take n ++ k.hash w :: (L.map fun p => p.2.hash w).drop n := by
      rw [List.map_append, List.map_cons, List.map_take, List.map_drop]
    rw [← tb] at p3
    have pm := perm_put L n (x, k)
    have ln : (L.take n ++ (x, k) :: L.drop n).length = L.length + 1 := pm.length_eq
    have nd : ((L.take n ++ (x, k) :: L.drop n).map Prod.snd).Nodup := (pm.map Prod.snd).nodup_iff.mpr (List.nodup_cons.mpr ⟨m, R.one⟩)
    have ez : (SetTable.insertAt es n (k.hash w, Value.ref x)).size = L.length + 1 := by
      have z := congrArg List.length its
      rwa [Array.length_toList, List.length_map, ln] at z
    generalize SetTable.insertAt es n (k.hash w, Value.ref x) = es1 at its ez ⊢
    generalize L.take n ++ (x, k) :: L.drop n = L1 at pm ln p3 nd its
    have fin : ∀ b : Bool, wpAny (model P w) A (do
        storeSet a es1 (if b = true then t1 else { t1 with plain := false })
        if (!false && (if b = true then t1 else { t1 with plain := false }).tooFull) = true then setRelay a (SetTable.grown (es.size + 1))
        return true) Q E s := fun b => by
      have T := tab_plain p3 b
      have m7 : (if b = true then t1 else { t1 with plain := false }).mask = 7 := by
        rw [← R.m7, ← p4]
        cases b <;> rfl
      have ld : w.params.followText "set-order" = true ∨ (if b = true then t1 else { t1 with plain := false }).led = true := by
        have z := R.led
        rw [← p5] at z
        cases b <;> exact z
      have fl : (if b = true then t1 else { t1 with plain := false }).fill = L.length + 1 := by
        rw [List.length_map] at p9
        rw [← p9]
        cases b <;> rfl
      generalize (if b = true then t1 else { t1 with plain := false }) = t2 at T m7 ld fl ⊢
      refine wpAny_bind (wpAny_storeSet_of e1 e3 ?_ (by rw [ez, sizeLine_eq]; omega))
      have sb : Heap.SameBut a s.heap (s.heap.update a (Obj.putSet es1 t2)) := Heap.SameBut.update ..
      have at1 := store_at (es' := es1) (t' := t2) e1 e3
      generalize s.heap.update a (Obj.putSet es1 t2) = h1 at sb at1 ⊢
      have nf : t2.tooFull = false := by
        unfold SetTable.tooFull
        rw [fl, m7]
        exact decide_eq_false (by omega)
      rw [nf]
      refine wp_if_neg (by decide) ?_
      try refine wpAny_bind (wpAny_pure ?_)
      refine wpAny_pure (q true h1 L1 es1 (ep + 1) t2 sb ⟨⟨_, at1, ⟨e2.1, e2.2.1, e2.2.2⟩, rfl⟩, its, T, nd, fun p hp => ?_, ld, m7, by omega⟩ (fun z => absurd z m) fun _ => pm)
      rcases List.mem_cons.mp (pm.mem_iff.mp hp) with rfl | z
      · exact isN_but hx e1 e3 sb
      · exact isN_but (R.key p z) e1 e3 sb
    by_cases hpl : t1.plain = true
    · rw [if_pos hpl]
      exact wpAny_bind (by_val 8 k _ _ _ hx.1 hx.2 fin)
    · rw [if_neg hpl]
      exact wpAny_bind (wpAny_pure (fin true))
end
end NS
namespace NS
open PySem PySem.Spec PyProof.Rows L2
/-- what the set has of the first i items -/
structure Has (ks : List (Addr × NK)) (i : Nat) (L : List (Addr × NK)) : Prop where
  len : L.length ≤ i
  all : ∀ p ∈ ks.take i, p.2 ∈ L.map Prod.snd
  sub : ∀ p ∈ L, p ∈ ks.take i
theorem take_one {α : Type} {l : List α} {i : Nat} {x : α} (e : l[i]? = some x) : l.take (i + 1) = l.take i ++ [x] := by
  rw [List.take_add_one, e]
  rfl
theorem Has.step {ks L L' : List (Addr × NK)} {i : Nat} {x : Addr × NK} (g : Has ks i L) (e : ks[i]? = some x) (c1 : x.2 ∈ L.map Prod.snd → L' = L) (c2 : x.2 ∉ L.map Prod.snd → L'.Perm (x :: L)) : Has ks (i + 1) L' := by
  by_cases m : x.2 ∈ L.map Prod.snd
  · rw [c1 m]
    refine ⟨Nat.le_succ_of_le g.len, fun p hp => ?_, fun p hp => ?_⟩
    · rw [take_one e] at hp
      rcases List.mem_append.mp hp with z | z
      · exact g.all p z
      · rw [List.mem_singleton.mp z]
        exact m
    · rw [take_one e]
      exact List.mem_append_left _ (g.sub p hp)
  · have pm := c2 m
    refine ⟨?_, fun p hp => ?_, fun p hp => ?_⟩
    · rw [pm.length_eq]
      exact Nat.succ_le_succ g.len
    · rw [(pm.map Prod.snd).mem_iff]
      rw [take_one e] at hp
      rcases List.mem_append.mp hp with z | z
      · exact List.mem_cons_of_mem _ (g.all p z)
      · rw [List.mem_singleton.mp z]
        exact List.mem_cons_self ..
    · rw [take_one e]
      rcases List.mem_cons.mp (pm.mem_iff.mp hp) with z | z
      · rw [z]
        exact List.mem_append_right _ (List.mem_singleton.mpr rfl)
      · exact List.mem_append_left _ (g.sub p z)
theorem perm_of_sub {α : Type} [DecidableEq α] : ∀ (xs ys : List α), xs.Nodup → (∀ x ∈ xs, x ∈ ys) → ys.length ≤ xs.length → xs.Perm ys
  | [], ys, _, _, h => by
    rw [List.eq_nil_of_length_eq_zero (Nat.le_zero.mp h)]
  | x :: xs, ys, nd, h, l => by
    have hx := h x (List.mem_cons_self ..)
    obtain ⟨n1, n2⟩ := List.nodup_cons.mp nd
    have le := List.length_erase_of_mem hx
    have l2 := List.length_pos_of_mem hx
    rw [List.length_cons] at l
    refine ((perm_of_sub xs (ys.erase x) n2 (fun y hy => ?_) (by omega)).cons x).trans (List.perm_cons_erase hx).symm
    have ne : y ≠ x := fun z => n1 (by rw [← z]; exact hy)
    exact (List.mem_erase_of_ne ne).mpr (h y (List.mem_cons_of_mem _ hy))
/-- as many keys as items exactly if no two items are one key -/
theorem Has.size {ks L : List (Addr × NK)} (g : Has ks ks.length L) (nd : (L.map Prod.snd).Nodup) : decide (L.length = ks.length) = decide ((ks.map Prod.snd).Nodup) := by
  have s1 : ∀ k ∈ L.map Prod.snd, k ∈ ks.map Prod.snd := fun k hk => by
    obtain ⟨p, hp, rfl⟩ := List.mem_map.mp hk
    exact List.mem_map.mpr ⟨p, List.mem_of_mem_take (g.sub p hp), rfl⟩
  have s2 : ∀ k ∈ ks.map Prod.snd, k ∈ L.map Prod.snd := fun k hk => by
    obtain ⟨p, hp, rfl⟩ := List.mem_map.mp hk
    exact g.all p (by rw [List.take_length]; exact hp)
  refine decide_eq_decide.mpr ⟨fun e => ?_, fun n2 => ?_⟩
  · have pm := perm_of_sub _ _ nd s1 (by rw [List.length_map, List.length_map, e]; exact Nat.le_refl _)
    exact pm.nodup_iff.mp nd
  · have pm : (L.map Prod.snd).Perm (ks.map Prod.snd) := (List.perm_ext_iff_of_nodup nd n2).mpr fun k => ⟨s1 k, s2 k⟩
    have z := pm.length_eq
    rwa [List.length_map, List.length_map] at z
section
variable {P : Program} {w : World} {A : Around} {E : Value → Shared → Prop} {s : Shared}
/-- set.update's turns -/
theorem set_turns {I S : Addr} {fp wr : List Addr} {G : Array GenState → Array GenState → Prop} {n : Nat} {Pv : Nat → Value → Prop} {St : Nat → Shared → Prop} {R : Result → Shared → Prop} (W : WalksS P w A.in1 I fp wr G n Pv St)
    (sf : S ∉ fp) (ks : List (Addr × NK)) (hn : n = ks.length) (h4 : ks.length ≤ 4) (val : ∀ i v, Pv i v → ∃ p, ks[i]? = some p ∧ v = .ref p.1) (h0 : Heap) (hk : ∀ p ∈ ks, IsN h0 p.2 p.1)
    (s0 : h0.get? S = none) (w0 : ∀ b ∈ wr, h0.get? b = none) (hu : A.in1.units + 8 < cLine) :
    ∀ (m i : Nat) (s : Shared), n - i = m → i ≤ n → St i s → (∀ b o, h0.get? b = some o → s.heap.get? b = some o) → (∃ L es ep t, NSet w s.heap S L es ep t ∧ Has ks i L) →
      (∀ s' L es ep t, Moved (S :: wr) G s s' → NSet w s'.heap S L es ep t → Has ks n L → (∀ b o, h0.get? b = some o → s'.heap.get? b = some o) → R (.ok (.ret .none)) s') →
      codeAny (model P w) A (.builtin "set.update.loop" ⟨[.ref S, .ref I], []⟩) R s := by
  have sw : S ∉ wr := fun z => sf (W.sub _ z)
  have into : ∀ b ∈ wr, b ∈ S :: wr := fun b hb => List.mem_cons_of_mem _ hb
  have stay : ∀ {s s' : Shared}, Moved wr G s s' → (∀ b o, h0.get? b = some o → s.heap.get? b = some o) → ∀ b o, h0.get? b = some o → s'.heap.get? b = some o := fun mv k b o e =>
    mv.heap b o (fun z => by rw [w0 b z] at e; cases e) (k b o e)
  have setStay : ∀ {h h' : Heap} {L : List (Addr × NK)} {es : Array (Int × Value)} {ep : Nat} {t : SetTable} {i : Nat}, NSet w h S L es ep t → Has ks i L → (∀ o, h.get? S = some o → h'.get? S = some o) → (∀ b o, h0.get? b = some o → h'.get? b = some o) → NSet w h' S L es ep t := fun R g e1 e2 => by
    obtain ⟨ob, a1, a2⟩ := R.at_
    exact ⟨⟨ob, e1 ob a1, a2⟩, R.its, R.tab, R.one, fun p hp => isN_keep (hk p (List.mem_of_mem_take (g.sub p hp))) e2, R.led, R.m7, R.few⟩
  intro m
  induction m with
  | zero =>
    intro i s hm hi st kp ⟨L, es, ep, t, hS, g⟩ fin
    obtain rfl : i = n := by omega
    refine codeAny_builtin F.entry_set_update_loop ?_
    rw [Around.under_plainId F.plain_set_update_loop _]
    refine wpAny_bind (m := pyNext (.ref I)) (W.done s _ _ st fun s' mv => ?_)
    have k2 := stay mv kp
    exact wpAny_pure (fin s' L es ep t (mv.mono into) (setStay hS g (fun o e => mv.heap S o sw e) k2) g k2)
  | succ m ih =>
    intro i s hm hi st kp ⟨L, es, ep, t, hS, g⟩ fin
    have lt : i < n := by omega
    refine codeAny_builtin F.entry_set_update_loop ?_
    rw [Around.under_plainId F.plain_set_update_loop _]
    refine wpAny_bind (m := pyNext (.ref I)) (W.item i s _ _ lt st fun v s' hv st' mv => ?_)
    obtain ⟨p, hp, rfl⟩ := val i v hv
    have k2 := stay mv kp
    have hS2 := setStay hS g (fun o e => mv.heap S o sw e) k2
    have hx : IsN s'.heap p.2 p.1 := isN_keep (hk p (List.mem_of_getElem? hp)) k2
    show wpAny _ A.in1 (holding [Value.ref p.1] (setAdd S (.ref p.1)) >>= _) _ _ s'
    refine wpAny_bind (wpAny_holding ?_)
    unfold setAdd
    refine wpAny_holding (wpAny_bind ?_)
    refine (nestedKind P w).pyHash (show A.in1.units + 8 < cLine from hu) hx ?_
    refine NSet.add (s := { s' with toks := s'.toks + p.2.draws }) hS2 hx hu (by have := g.len; omega) fun b h' L' es' ep' t' sb R2 c1 c2 => ?_
    have k3 : ∀ b o, h0.get? b = some o → h'.get? b = some o := fun b o e => (sb.2 b fun z => by rw [z, s0] at e; cases e).trans (k2 b o e)
    refine wpAny_pure ⟨plainId_quiet F.plain_set_update_loop _, ih (i + 1) _ (by omega) lt (W.frame _ s' _ _ st' (Nat.le_add_right _ _) fun b hb o e => ?_) k3 ⟨L', es', ep', t', R2, g.step hp c1 c2⟩ fun s2 L2 es2 ep2 t2 mv2 R3 g3 k4 => ?_⟩
    · exact (sb.2 b fun z => sf (z ▸ hb)).trans e
    · refine fin s2 L2 es2 ep2 t2 (Moved.trans W.gtrans ((mv.mono into).then_heap (Nat.le_add_right _ _) fun b o hb e => ?_) mv2) R3 g3 k4
      exact (sb.2 b fun z => hb (z ▸ List.mem_cons_self ..)).trans e
end
end NS
namespace NS
open PySem PySem.Spec PyProof.Rows L2
section
variable {P : Program} {w : World} {A : Around} {E : Value → Shared → Prop} {s : Shared}
/-- an empty set, as it is made -/
abbrev fresh (w : World) : Obj := { cls := .type "set", dict := none, data := .set #[] 0 (.fresh 0 0 (!w.params.followText "set-order")) }
theorem NSet.fresh {h : Heap} {a : Addr} (e : h.get? a = some (fresh w)) : NSet w h a [] #[] 0 (.fresh 0 0 (!w.params.followText "set-order")) := by
  refine ⟨⟨_, e, ⟨rfl, rfl, rfl⟩, rfl⟩, rfl, ⟨List.Pairwise.nil, rfl, rfl, .inl rfl, fun x hx => ?_, fun i h j hi => ?_⟩, List.nodup_nil, fun p hp => ?_, ?_, rfl, Nat.zero_le _⟩
  · cases hx
  · cases hi
  · cases hp
  · show w.params.followText "set-order" = true ∨ (!w.params.followText "set-order") = true
    cases w.params.followText "set-order" with
    | true => exact .inl rfl
    | false => exact .inr rfl
/-- set(x) made: the keys of a tuple's items -/
def Made (w : World) (s : Shared) (ks : List (Addr × NK)) (r : Value) (s' : Shared) : Prop := ∃ h' tk L es ep t, r = .ref s.heap.objs.size ∧ s' = { s with heap := h', toks := tk } ∧ NSet w h' s.heap.objs.size L es ep t ∧ Has ks ks.length L ∧ ∀ b o, s.heap.get? b = some o → h'.get? b = some o
set_option maxHeartbeats 3200000 in
theorem set_tup {l : Addr} {items : Array Value} (ks : List (Addr × NK)) {Q : Value → Shared → Prop} (calm : A.handled = none) (hl : s.heap.IsTuple l items) (hit : items.toList = ks.map fun p => Value.ref p.1)
    (hk : ∀ p ∈ ks, IsN s.heap p.2 p.1) (h4 : ks.length ≤ 4) (hu : A.units + 20 < cLine) (q : ∀ r s', Made w s ks r s' → Q r s') : wpAny (model P w) A (call (.type "set") [.ref l]) Q E s := by
  have size : items.size = ks.length := by
    have z := congrArg List.length hit
    rwa [Array.length_toList, List.length_map] at z
  obtain ⟨c, tl, hmro⟩ := F.called_set.mro
  have hmade := F.called_set.made
  have hsub := F.called_set.sub
  refine wpAny_call (codeAny_of_tree ?_)
  show wpAny _ _ (callAny (.type "set") _) _ _ _
  refine wpAny_pure (And.intro (Code.quiet_builtin _ (by decide +kernel)) (codeAny_builtin F.entry_type_call ?_))
  rw [Around.under_plain (weight_type_call_type "set" [.ref l] []) rfl]
  have h1 := F.called_set.notType
  have h2 := F.called_set.canCreate
  have hct := F.typeCall_set_1 (.ref l)
  repeat (any_goals (first | assumption | wp_step))
  refine codeAny_mono (code_set_led1 (.ref l) (E := E) (Q₁ := fun ob s1 => ob = .ref s.heap.objs.size ∧ s1 = { s with heap := s.heap.push (NS.fresh w) }) ⟨rfl, rfl⟩) fun r s1 hr => ?_
  cases r with
  | error e => exact hr
  | ok fl =>
    cases fl with
    | ret ob =>
      obtain ⟨rfl, rfl⟩ := hr
      have new : (s.heap.push (NS.fresh w)).get? s.heap.objs.size = some (NS.fresh w) := Heap.get?_push_size _ rfl
      have hT : Shared.TypeIs { s with heap := s.heap.push (NS.fresh w) } (.ref s.heap.objs.size) "set" := ⟨_, new, rfl⟩
      have hli := F.called_set.init.lookup
      have hbi := F.called_set.init.bind (.ref s.heap.objs.size)
      repeat (any_goals (first | assumption | wp_step))
      refine codeAny_mono (codeAny_call_builtin (R := wants (fun r s2 => r = .none ∧ Made w s ks (.ref s.heap.objs.size) s2) E) F.called_set.init.plain F.entry_set_init (check_set_init_1 hT ?_)) fun r2 s2 hr2 => ?_
      · obtain ⟨ol, b1, b2, n, b3⟩ := hl
        have zl : l < s.heap.objs.size := Heap.lt_size b1
        obtain ⟨oc, odi, oda, osl⟩ := ol
        simp only at b2 b3
        subst b2; subst b3
        have old : (s.heap.push (NS.fresh w)).get? l = some { cls := .type "tuple", dict := odi, data := .seq items n, slots := osl } := Heap.get?_push_of_some _ b1
        have n1 := F.sub_tuple_set
        have n2 := F.sub_tuple_frozenset
        have n3 : (Value.type "tuple" == Value.type "dict") = false := by decide
        have hl1 : (s.heap.push (NS.fresh w)).IsTuple l items := ⟨_, old, rfl, n, rfl⟩
        unfold Builtin.«set.__init__» noKeywords Builtin.Frozenset.updateFrom
        generalize hPI : pyIter = PI
        wp_walk
        subst hPI
        refine wpAny_pyIter_tuple hl1 (wpAny_bind (wpAny_runValue ?_))
        have calm3 : A.in1.in1.in1.handled = none := by simp [calm]
        have sz1 : (s.heap.push (NS.fresh w)).objs.size = s.heap.objs.size + 1 := Heap.size_push ..
        have ne1 : l ≠ (s.heap.push (NS.fresh w)).objs.size := by
          rw [sz1]
          exact Nat.ne_of_lt (Nat.lt_succ_of_lt zl)
        have ne2 : s.heap.objs.size ∉ [(s.heap.push (NS.fresh w)).objs.size, l] := by
          rw [sz1]
          intro z
          simp only [List.mem_cons, List.not_mem_nil, or_false] at z
          rcases z with z | z
          · exact Nat.ne_of_lt (Nat.lt_succ_self _) z
          · exact Nat.ne_of_gt zl z
        have val : ∀ (i : Nat) (v : Value), items[i]? = some v → ∃ p, ks[i]? = some p ∧ v = .ref p.1 := fun i v hv => by
          rw [← Array.getElem?_toList, hit, List.getElem?_map] at hv
          obtain ⟨p, e, rfl⟩ := Option.map_eq_some_iff.mp hv
          exact ⟨p, e, rfl⟩
        have noneAt : ∀ b, s.heap.objs.size ≤ b → s.heap.get? b = none := fun b hb => Heap.get?_none_of_le hb
        refine set_turns ((Walks.tuple calm3 _ l ne1 items).toS) ne2 ks size h4 val s.heap hk (noneAt _ (Nat.le_refl _)) (fun b hb => noneAt b ?_) (by show A.in1.in1.in1.units + 8 < cLine; simp only [Around.in1]; omega) (items.size - 0) 0 _ (by omega) (Nat.zero_le _)
          ⟨⟨_, Heap.get?_push_size _ rfl, rfl, rfl⟩, hl1.push _⟩ (fun b o e => Heap.get?_push_of_some _ (Heap.get?_push_of_some _ e)) ⟨[], #[], 0, _, NSet.fresh (Heap.get?_push_of_some _ new), ⟨Nat.le_refl _, fun p hp => ?_, fun p hp => ?_⟩⟩ fun s3 L es ep t mv R g kp => ?_
        · rw [List.mem_singleton.mp hb, sz1]
          omega
        · cases hp
        · cases hp
        · obtain ⟨h3, g3, d3, tk3, os3⟩ := s3
          have eg : g3 = s.gens := mv.gens
          have ed : d3 = s.drawn := mv.drawn
          have eo : os3 = s.os := mv.os
          subst eg; subst ed; subst eo
          rw [size] at g
          exact wpAny_pure (wpAny_pure ⟨rfl, h3, tk3, L, es, ep, t, rfl, rfl, R, g, kp⟩)
      · cases r2 with
        | error e => exact hr2
        | ok fl2 =>
          cases fl2 with
          | ret r =>
            obtain ⟨rfl, hm⟩ := hr2
            repeat (any_goals (first | assumption | wp_step))
            exact q _ _ hm
          | _ => exact hr2.elim
    | _ => exact hr.elim
end
end NS
namespace NS
open PySem PySem.Spec PyProof.Rows L2
mutual
theorem of_reads {h : Heap} : ∀ (k : NK) (v : Value) (as : List Addr), Reads h v k.data as → NestedIs h k v
  | .none, _, _, r => by
    cases r
    exact .none
  | .num i, _, _, r => by
    cases r
    exact .int _ _
  | .text x, _, _, r => by
    cases r
    exact .text _ _
  | .tup ks, _, _, r => by
    cases r with
    | tuple e1 e2 e3 e4 => exact .tup e1 e2 e3 (all_of_reads ks _ _ e4)
theorem all_of_reads {h : Heap} : ∀ (ks : List NK) (vs : List Value) (as : List Addr), ReadsAll h vs (NestedKey.datas ks) as → NestedAll h ks vs
  | [], _, _, r => by
    cases r
    exact .nil
  | k :: ks, _, _, r => by
    cases r with
    | cons r1 r2 => exact .cons (of_reads k _ _ r1) (all_of_reads ks _ _ r2)
end
section
variable {X : Cx}
/-- len(set(x)), x a tuple of keys: all of them exactly if no two are one -/
def tLenSetN (K : PySem.W.Frag) (ta : TE) : TE := fun σ H Q => ta σ H fun x H1 => ∃ (l : Addr) (ks : List (Addr × NK)), x = V.ref l ∧ SqT K H1 l (ks.map fun p => V.ref p.1) ∧ (∀ p ∈ ks, Dp K H1 (.ref p.1) p.2.data ∧ p.2.depth ≤ 8) ∧ ks.length ≤ 4 ∧
  ∀ n : Nat, decide (n = ks.length) = decide ((ks.map Prod.snd).Nodup) → Q (.int n) H1
theorem refs_eq : ∀ {ks : List (Addr × NK)} {us : List Value}, Vals (ks.map fun p => V.ref p.1) us → us = ks.map fun p => Value.ref p.1
  | [], _, r => by
    cases r
    rfl
  | p :: ks, _, r => by
    cases r with
    | cons r1 r2 =>
      rw [refs_eq r2, show _ = Value.ref p.1 from r1]
      rfl
theorem pe_lenSetN {a : Expr} {ta : TE} {p p2 q pos : Pos} (hc : X.calm = true) (hu : X.A.units + 64 < cLine) (hg : Gl X "len") (hm : X.mg "len" = none) (hg2 : Gl X "set") (hm2 : X.mg "set" = none) (ha : PE X a ta)
    (na : starEach [a] X.env = (false, eval a X.env) :: starEach [] X.env := by rfl) : PE X (.Call (.Name "len" p) [.Call (.Name "set" p2) [a] [] q] [] pos) (tLenSetN X.K ta) := by
  refine ⟨fun pins s σ H Q I h => Call_ (ld_blt I hg hm PySem.boot_len ?_)⟩
  refine PyProof.Rows.callWith_builtin1 (PyProof.Rows.args_cons ?_ rfl) rfl rfl
  refine Call_ (ld_blt I hg2 hm2 PyProof.Rows.boot_set (PyProof.Rows.callWith_type1 (PyProof.Rows.args_cons (thn (ha.run pins s σ H _ I h) fun v s1 ⟨x, H1, I1, r1, q1⟩ => PyProof.Rows.args_nil ?_) na) na rfl))
  obtain ⟨l, ks, rfl, ht, hk, h4, q1⟩ := q1
  cases r1
  obtain ⟨its, rv, tp, hz⟩ := I1.tuple ht
  refine set_tup (P := X.prog) (w := X.w) ks (I1.ok.hd hc) tp (by simpa using refs_eq rv) (fun p hp => ?_) h4 (by omega) fun r s2 hm => ?_
  · obtain ⟨d1, d2⟩ := hk p hp
    obtain ⟨as, rd⟩ := Dp.reads I1 _ _ (Value.ref p.1) d1 rfl
    exact ⟨of_reads _ _ _ rd, d2⟩
  · obtain ⟨h', tk, L, es, ep, t, rfl, rfl, R, g, kp⟩ := hm
    refine PyProof.Rows.args_nil ?_
    obtain ⟨ob, e1, e2, e3⟩ := R.at_
    have I2 : Inv X pins σ H1 { s1 with heap := h', toks := tk } := I1.kept kp
    have sz := NSet.size (s := { s1 with heap := h', toks := tk }) R
    refine call_len_set (s := { s1 with heap := h', toks := tk }) e1 e2 e3 (NSet.fits (s := { s1 with heap := h', toks := tk }) R) (by have := R.few; omega) ⟨.int L.length, H1, I2.tok _, ⟨_, by rw [sz]⟩, q1 _ (g.size R.one)⟩
end
end NS
namespace NS
open PySem PySem.Spec PyProof.Rows L2
section
variable {X : Cx}
/-- set(x), x a tuple of ints -/
def rSetTI (K : PySem.W.Frag) (w : World) : List V → Hp → VK → Prop := fun vs H Q => ∃ (p : Addr) (ns : List Int), vs = [V.ref p] ∧ SqT K H p (ns.map V.int) ∧ ns.length ≤ 1000 ∧
  ∀ a c, H a = none → c ≤ ns.length → Q (.ref a) (upd H a (SetO w a (fun j => decide (j ∈ ns)) c))
theorem cr_setTI (hc : X.calm = true) : CallR X (.type "set") (rSetTI X.K X.w) := by
  intro pins s σ H vs us Q I r h
  obtain ⟨p, ns, rfl, ht, hz, q⟩ := h
  rw [Vals.ref1 r]
  obtain ⟨its, rv, tp, _⟩ := I.tuple ht
  refine call_set_tupI (P := X.prog) (w := X.w) ns (I.ok.hd hc) tp (by simpa using rv.ints) (by unfold scanBound; omega) fun h' tk c R hle kp => ?_
  exact ⟨.ref s.heap.objs.size, upd H s.heap.objs.size (SetO X.w s.heap.objs.size (fun j => decide (j ∈ ns)) c), I.laid (t' := tk) kp (Nat.le_refl _) (setO_new R), rfl, q _ c (I.hok.fresh (Nat.le_refl _)) hle⟩
end
/-- list(value) == sorted(set(value)) -/
theorem asc_iff {ns ms : List Int} (h1 : ms.Pairwise (· < ·)) (h2 : ∀ k : Int, k ∈ ms ↔ k ∈ ns) : decide (ns = ms) = decide (ns.Pairwise (· < ·)) := by
  refine decide_eq_decide.mpr ⟨fun e => e ▸ h1, fun h => ?_⟩
  have n1 : ms.Nodup := h1.imp fun a b => by
    subst b
    omega
  have n2 : ns.Nodup := h.imp fun a b => by
    subst b
    omega
  have pm : ns.Perm ms := (List.perm_ext_iff_of_nodup n2 n1).mpr fun k => (h2 k).symm
  exact pm.eq_of_pairwise (fun a b _ _ x y => by omega) h h1
end NS
-- CUT
/-! ### of our own: == and != by an own __eq__, static methods -/
namespace Kit
open PySem PySem.Spec PyProof.Rows L2
/-- == of the class at C is the def at f, != is object's -/
structure EqC (K : PySem.W.Frag) (C f : Addr) : Prop where
  eq : PySem.W.findIn K (.ref C) "__eq__" = some (some (.ref f))
  fn : PySem.W.isFn K (.ref f) = true
  ne : PySem.W.findIn K (.ref C) "__ne__" = some (some (.builtin "object.__ne__"))
  po : PySem.W.plainOver K C = true
/-- a statement's end, told once -/
def tMonoS (t : TS) : TS := fun D σ H => ∃ R : L2.St → Hp → Prop, t { D with nx := R } σ H ∧ ∀ σ' H', R σ' H' → D.nx σ' H'
theorem ps_mono {X : Cx} {st : Stmt} {t : TS} (h : PS X st t) : PS X st (tMonoS t) := ⟨fun pins s σ H D I q => by
  obtain ⟨R, h1, h2⟩ := q
  refine thn (h.run pins s σ H _ I h1) fun f s' z => ?_
  cases f with
  | next =>
    obtain ⟨σ', H', I', r⟩ := z
    exact ⟨σ', H', I', h2 σ' H' r⟩
  | _ => exact z⟩
theorem u65 {A : Around} {k : Nat} (hr : Room k A) : A.units + 65 < cLine := by
  have := hr.un
  omega
/-- the types of values that are no instances of own classes -/
def BT : List String := ["NoneType", "bool", "int", "str", "list", "tuple", "dict"]
/-- instances of C are asked what they are -/
structure IsC (K : PySem.W.Frag) (C : Addr) : Prop where
  cl : Cls K C
  ca : PySem.W.findIn K (.ref C) "__class__" = some (some (.builtin "object.__class__"))
  cg : PySem.W.specialIn K (.builtin "object.__class__") "__get__" = some (some (.builtin "getset_descriptor.__get__"))
  ct : PySem.W.takesIn K (.builtin "object.__class__") = some true
  cm : PySem.W.mroIn K C (.type "object") = some true
theorem IsC.ty {K : PySem.W.Frag} {H : Hp} {a C dx : Addr} {fs : List (Str × V)} (i : IsC K C) (e : H a = some (.ins C dx fs)) : TyX K H (.ref a) (.ref C) := .base (.ins e i.cl i.ca i.cg i.ct i.cm)
theorem nf_self {K : PySem.W.Frag} {C : Addr} : PySem.W.notFirst K C (.ref C) = true := by
  unfold PySem.W.notFirst
  rw [beq_self_eq_true]
  rfl
theorem ko_self {K : PySem.W.Frag} {C : Addr} : PySem.W.kitOne K (.ref C) (.ref C) = some true := by
  unfold PySem.W.kitOne
  rw [if_pos (beq_self_eq_true _)]
theorem ne_bind (v : Value) : bindSpecial (.builtin "object.__ne__") v = pure (.builtin "object.__ne__", [v]) :=
  (Slot.of (T := "object") (name := "__ne__") (owner := "object") (n := "__ne__") (by rw [typeLookup_type, builtinLookup_eq_fast]; kernel_rfl) (by decide +kernel) (by decide +kernel) (by decide +kernel)
    (.inl (by decide +kernel)) (by rw [isSubtype_type]; kernel_rfl)).bind v
theorem ne_entry : entryFor table "object.__ne__" = some Builtin.«object.__ne__» := entryFor_of_tree (by kernel_rfl)
theorem ne_args (u v : Value) : argsOk "object.__ne__" ⟨[u, v], []⟩ := by
  unfold argsOk
  kernel_rfl
section
variable {prog : Program} {w : World} {A : Around} {E : Value → Shared → Prop} {s : Shared} {K : PySem.W.Frag} {x C f : Addr} {ox : Obj} {od : Option Obj} {u tu : Value}
theorem inst_top {M : Model} (k : K.In s.heap) (I : PySem.W.InstAt s.heap x ox C od) (po : PySem.W.plainOver K C = true) : PySem.W.Looks M s.heap (isInstance (.ref x) (.type "object")) true := by
  obtain ⟨cd, hc, ho⟩ := PySem.W.any_some po
  have ne : cd.mro.isEmpty = false := by
    cases z : cd.mro with
    | nil =>
      rw [z] at ho
      cases ho
    | cons _ _ => rfl
  refine I.type.andThen (PySem.W.looks_mroIn k ?_)
  unfold PySem.W.mroIn
  rw [hc, Option.bind_some, if_neg (by rw [ne]; decide), PySem.W.only_has ho]
/-- a special method that is object's own: how it is called -/
theorem slot_of {M : Model} {name : Str} {i : String} {args : List Value} {Q : Option Value → Shared → Prop} (k : K.In s.heap) (I : PySem.W.InstAt s.heap x ox C od) (hs : PySem.W.findIn K (.ref C) name = some (some (.builtin i)))
    (hb : ∀ v, bindSpecial (.builtin i) v = pure (.builtin i, [v])) (h : wpAny M A (call (.builtin i) (.ref x :: args)) (fun v => Q (some v)) E s) : wpAny M A (callSpecialIfBound? (.ref x) name args) Q E s := by
  have fin : wpAny M A (call (.builtin i) ([.ref x] ++ args) >>= fun v => pure (some v)) Q E s := wpAny_bind (wpAny_mono h (fun v s' z => wpAny_pure z) fun _ _ z => z)
  simp only [callSpecialIfBound?, bindSpecialIfBound?, hb]
  refine wpAny_holding (wpAny_bind (wpAny_bind (wpAny_bind (I.type.here ((PySem.W.looks_findIn k hs).here ?_)))))
  refine wpAny_bind (wpAny_askSetting (wpAny_ite ?_))
  split
  · exact wpAny_bind (by rw [hb]; exact wpAny_pure (wpAny_pure (by exact fin)))
  · exact wpAny_tryCatch (wpAny_bind (by rw [hb]; exact wpAny_pure (wpAny_pure (by exact fin))))
/-- x != y, x an instance with an own == -/
theorem ne_own {h0 : Heap} {L : Addr} {m : Str → Option Value} {Q : Value → Shared → Prop} (hu : A.units + 1 < cLine) (F : Fr h0 L s.heap m) (k0 : K.In h0) (I : PySem.W.InstAt s.heap x ox C od) (ht : PySem.W.Looks (model prog w) s.heap (typeOf u) tu)
    (hn : PySem.W.notFirst K C tu = true) (e : EqC K C f) (h : wpAny (model prog w) A.in1 (call (.ref f) [.ref x, u]) (fun v s' => ∃ b, v = .bool b ∧ Q (.bool (!b)) s') E s) :
    wpAny (model prog w) A (richCompare .NotEq (.ref x) u) Q E s := by
  have k : K.In s.heap := k0.keeps F.keep
  have one : wpAny (model prog w) A (tryCompare (.ref x) "__ne__" u) (fun r s' => ∃ v, r = some v ∧ Q v s') E s := by
    unfold tryCompare
    refine wpAny_bind (slot_of k I e.ne ne_bind (wpAny_call (codeAny_call_builtin (by decide +kernel) ne_entry ?_)))
    refine @PySem.W.check_slot (model prog w) A.in1 _ s "object.__ne__" "object" "__ne__" (.ref x) [u] [] _ (by decide +kernel) (by decide +kernel) (inst_top k I e.po) (ne_args _ _) ?_
    unfold Builtin.«object.__ne__»
    refine wpAny_bind (m := slotArgs "__ne__" 1 ⟨[.ref x, u], []⟩) (wpAny_pure ?_)
    refine wpAny_bind (wpAny_cRoomFor hu ?_)
    refine wpAny_bind (PySem.W.ifBound_K k I e.eq e.fn (wpAny_mono h (fun v s' z => ?_) fun _ _ z => z))
    obtain ⟨b, rfl, q⟩ := z
    exact wpAny_bind (wpAny_truthy_bool (wpAny_pure (wpAny_pure ⟨_, rfl, q⟩)))
  unfold richCompare
  simp only [oneThing_ref]
  refine wpAny_holding (wpAny_bind (wpAny_cRoomFor (by omega) ?_))
  refine wpAny_bind (I.type.here (wpAny_bind (ht.here ?_)))
  have go : wpAny (model prog w) A (tryCompare (.ref x) (cmpInfo .NotEq).2.1 u) (fun r s' => ∃ v, r = some v ∧ Q v s') E s := one
  split
  · rename_i q
    have z : PySem.W.subIn K tu (.ref C) = some false := by
      rcases Bool.or_eq_true_iff.mp hn with z | z
      · rw [beq_iff_eq.mp z] at q
        simp at q
      · exact beq_iff_eq.mp z
    refine wpAny_bind ((PySem.W.looks_subIn k z).here ?_)
    simp only [Bool.false_eq_true, if_false]
    refine wpAny_bind (wpAny_mono go (fun r s' z => ?_) fun _ _ z => z)
    obtain ⟨v, rfl, hq⟩ := z
    exact wpAny_pure hq
  · refine wpAny_bind (wpAny_pure ?_)
    simp only [Bool.false_eq_true, if_false]
    refine wpAny_bind (wpAny_mono go (fun r s' z => ?_) fun _ _ z => z)
    obtain ⟨v, rfl, hq⟩ := z
    exact wpAny_pure hq
end
/-- x == y: the promise sp of the own == at x, y -/
def rEqO (K : PySem.W.Frag) (C : Addr) (sp : Sp) (E : XK) : R2 := fun x y H Q => ∃ a dx fs tu, x = .ref a ∧ H a = some (.ins C dx fs) ∧ TyX K H y tu ∧ PySem.W.notFirst K C tu = true ∧ sp [x, y] H (fun v H' => ∃ b, v = .bl b ∧ Q v H') E
def rNeO (K : PySem.W.Frag) (C : Addr) (sp : Sp) (E : XK) : R2 := fun x y H Q => ∃ a dx fs tu, x = .ref a ∧ H a = some (.ins C dx fs) ∧ TyX K H y tu ∧ PySem.W.notFirst K C tu = true ∧ sp [x, y] H (fun v H' => ∃ b, v = .bl b ∧ Q (.bl (!b)) H') E
section
variable {X : Cx} {CX : CXT} {n : Nat} {C f : Addr} {fd : FuncData} {ps : List Str} {sp : Sp} {E : XK}
theorem run_in {A : Around} {pins : List (Addr × Obj)} {σ : L2.St} {H : Hp} {s : Shared} {Q : VK} {us : List Value} {vs : List V} (F : FnOk X.prog X.w X.K X.mg X.base CX n f fd ps sp) (hr : Room n A) (hf : A.frames = some X.stack) (hb : Binds X.K fd ps []) (hx : Passes CX X E)
    (I : Inv X pins σ H s) (r : Vals vs us) (h : sp vs H Q E) : wpAny (model X.prog X.w) A (call (.ref f) us) (EP X pins σ Q) X.xe s := by
  have e := I.env0
  have e0 : Env0 X.prog X.w X.K X.mg X.base A X.stack s H := ⟨hf, e.mod, e.bs, e.bsz, e.funs, e.frf, e.hok, e.bare⟩
  have len : us.length = ps.length := by
    rw [← r.length]
    exact F.len _ _ _ _ h
  have b := hb s us I.kIn (by rw [List.append_nil]; exact len)
  rw [List.append_nil] at b
  refine wpAny_call (codeAny_mono (F.run A X.stack s H ⟨us, []⟩ us vs Q E hr e0 b r h) fun r s' hq => ?_)
  cases r with
  | error e => exact hx pins σ H s e s' I hq
  | ok fl =>
    cases fl with
    | ret u => exact I.after hq
    | _ => exact False.elim hq
theorem op_eqO (F : FnOk X.prog X.w X.K X.mg X.base CX n f fd ps sp) (hr : Room (n + 1) X.A) (e : EqC X.K C f) (hb : Binds X.K fd ps []) (hx : Passes CX X E) : OpR X (compareOp .Eq) (rEqO X.K C sp E) := by
  intro pins s σ H x y v u Q I rx ry h
  obtain ⟨a, dx, fs, tu, rfl, ha, ty, nf, hsp⟩ := h
  cases rx
  obtain ⟨P, Z, hP, _⟩ := kit_of I ry ty
  obtain ⟨mA, J, _⟩ := ins_get I.hok ha
  obtain ⟨od, J, _⟩ := J.look
  obtain ⟨m, hF⟩ := I.fr
  show wpAny (model X.prog X.w) X.A (richCompare .Eq (.ref a) u) (EP X pins σ Q) X.xe s
  refine PySem.W.cmp_K (op := .Eq) (tb := tu) hr.units0 hF I.ok.mod.kin J (Z.ty _ _ I.kIn hP) nf e.eq e.fn ?_
  refine wpAny_mono (run_in F (hr.mono (Nat.le_succ n)) I.ok.frames hb hx I (vs := [.ref a, y]) (.cons rfl (.cons ry .nil)) hsp) (fun r s' z => ?_) fun _ _ z => z
  obtain ⟨v, H', I', rv, b, rfl, q⟩ := z
  cases rv
  exact ⟨.bl b, H', I', rfl, q⟩
theorem op_neO (F : FnOk X.prog X.w X.K X.mg X.base CX n f fd ps sp) (hr : Room (n + 1) X.A) (e : EqC X.K C f) (hb : Binds X.K fd ps []) (hx : Passes CX X E) : OpR X (compareOp .NotEq) (rNeO X.K C sp E) := by
  intro pins s σ H x y v u Q I rx ry h
  obtain ⟨a, dx, fs, tu, rfl, ha, ty, nf, hsp⟩ := h
  cases rx
  obtain ⟨P, Z, hP, _⟩ := kit_of I ry ty
  obtain ⟨mA, J, _⟩ := ins_get I.hok ha
  obtain ⟨od, J, _⟩ := J.look
  obtain ⟨m, hF⟩ := I.fr
  show wpAny (model X.prog X.w) X.A (richCompare .NotEq (.ref a) u) (EP X pins σ Q) X.xe s
  refine ne_own (by have := hr.units; omega) hF I.ok.mod.kin J (Z.ty _ _ I.kIn hP) nf e ?_
  refine wpAny_mono (run_in F hr.in1 I.ok.frames hb hx I (vs := [.ref a, y]) (.cons rfl (.cons ry .nil)) hsp) (fun r s' z => ?_) fun _ _ z => z
  obtain ⟨v, H', I', rv, b, rfl, q⟩ := z
  cases rv
  exact ⟨b, rfl, .bl (!b), H', I', rfl, q⟩
end
end Kit
namespace Kit
open PySem PySem.Spec PyProof.Rows L2
/-- C.m is a staticmethod: its record at p, its def at g -/
structure SMet (K : PySem.W.Frag) (C : Addr) (mc : Value) (m : Str) (p g : Addr) : Prop where
  find : PySem.W.findCls K (.ref C) mc m = some (.get (.builtin "staticmethod.__get__") (.ref p) .none (.ref C))
  rcd : ∃ rest, PySem.W.recIn K p "staticmethod" = some (.ref g :: rest)
  hand : PySem.W.handedIn (.ref g) = true
section
variable {X : Cx} {CX : CXT} {k : Nat} {C p g : Addr} {mc : Value} {fd : FuncData} {ps : List Str} {sp : Sp} {E : XK} {o e : Expr} {es : List Expr} {m : Str} {pos apos : Pos} {ta : TE} {t : TA} {pl : Sem Bool}
/-- e.m(..), e the class at C -/
def tSMeth (C : Addr) (sp : Sp) (E : XK) (ta : TE) (t : TA) : TE := fun σ H Q => ta σ H fun x H1 => x = .ref C ∧ t σ H1 fun vs H2 => sp vs H2 Q E
theorem pe_smeth (he : PE X o ta) (r : ClX.CRead X.K C mc) (c : SMet X.K C mc m p g) (F : FnOk X.prog X.w X.K X.mg X.base CX k g fd ps sp) (hr : Room k X.A) (hk : PySem.W.keepIn X.K (.ref g) = true) (hb : Binds X.K fd ps []) (hx : Passes CX X E) (ha : PA X (e :: es) t)
    (hst : starEach (e :: es) X.env = (false, eval e X.env) :: starEach es X.env := by rfl) (hpl : (backTo pos (starEach es X.env)).any (·.1) = false := by rfl)
    (ht : eval (.Call (.Attribute o m apos) (e :: es) [] pos) X.env = (do
      let ov ← eval o X.env
      standAt apos.atName
      let (f, first) ← holding [ov] (getMethod ov m pl)
      callWith pos f first (backTo pos (starEach (e :: es) X.env)) (backToKw pos (keywordEach [] X.env))) := by rfl) :
    PE X (.Call (.Attribute o m apos) (e :: es) [] pos) (tSMeth C sp E ta t) := by
  refine ⟨fun pins s σ H Q I h => ?_⟩
  refine PySem.W.methodCall_KW (pl := pl) (thn (he.run pins s σ H _ I h) fun u s1 ⟨x, H1, I1, rx, ex, q⟩ => ?_) ht
  subst ex
  obtain rfl : u = Value.ref C := rx
  obtain ⟨rest, hp⟩ := c.rcd
  refine PySem.W.method_cls I1.kIn r.ga (PySem.W.cls_bind I1.kIn r.rd c.find (wpAny_call (PySem.W.sm_get (s := { s1 with toks := s1.toks + 1 }) I1.kIn hp (PySem.W.handed_on c.hand ?_))))
  have I2 := I1.tok (s1.toks + 1)
  refine PySem.W.callWith_K (h₀ := X.base) I2.ok.mod.kin hk (thn (ha.run pos pins _ σ H1 _ I2 q) fun us s3 ⟨vs, H2, I3, rv, q2⟩ => ⟨I3.kIn, ?_⟩) hst hpl
  exact run_in F hr I3.ok.frames hb hx I3 rv q2
end
end Kit
-- CUT
/-! ### of our own: what a table is, as data -/
namespace Kit
open PySem PySem.Spec PyProof.Rows L2
/-- tuples stay -/
def Mv (K : PySem.W.Frag) (H H' : Hp) : Prop := ∀ a xs, SqT K H a xs → SqT K H' a xs
theorem Mv.refl {K : PySem.W.Frag} (H : Hp) : Mv K H H := fun _ _ h => h
theorem Mv.trans {K : PySem.W.Frag} {H H1 H2 : Hp} (a : Mv K H H1) (b : Mv K H1 H2) : Mv K H H2 := fun p xs h => b p xs (a p xs h)
theorem mv_but {K : PySem.W.Frag} {H H' : Hp} {d : Addr} (k : ∀ b o, b ≠ d → H b = some o → H' b = some o) (n : ∀ xs, ¬ Rd H d (.tup xs)) : Mv K H H' := fun a xs h => by
  rcases h with h | h
  · have ne : a ≠ d := fun e => n xs (e ▸ h)
    rcases h with h | ⟨o, h⟩
    · exact .inl (.inl (k _ _ ne h))
    · exact .inl (.inr ⟨o, k _ _ ne h⟩)
  · exact .inr h
theorem mv_same {K : PySem.W.Frag} {H H' : Hp} (s : Same H H') : Mv K H H' := fun a xs h => by
  rcases h with (h | ⟨o, h⟩) | h
  · exact .inl (.inl (s _ _ h))
  · exact .inl (.inr ⟨o, s _ _ h⟩)
  · exact .inr h
theorem mv_keep {K : PySem.W.Frag} {H H' : Hp} {d : Addr} (k : Keep d H H') (hd : Dice H d) : Mv K H H' := mv_but k.1 fun xs h => by
  obtain ⟨a, b, c, e, _⟩ := hd
  rcases h with h | ⟨o, h⟩
  · rw [e] at h
    cases h
  · rw [e] at h
    cases h
mutual
/-- data without lists -/
def flat : PyData → Bool
  | .none => true
  | .bool _ => true
  | .int _ => true
  | .str _ => true
  | .tuple ds => flats ds
  | .list _ => false
  | .dict _ => false
def flats : List PyData → Bool
  | [] => true
  | d :: ds => flat d && flats ds
end
mutual
theorem dp_mv {K : PySem.W.Frag} {H H' : Hp} (m : Mv K H H') : ∀ (d : PyData) (v : V), flat d = true → Dp K H v d → Dp K H' v d
  | .none, _, _, h => by
    cases h
    exact .non
  | .bool b, _, _, h => by
    cases h
    exact .bl b
  | .int i, _, _, h => by
    cases h
    exact .int i
  | .str x, _, _, h => by
    cases h
    exact .str x
  | .tuple ds, _, f, h => by
    cases h with
    | tup e a => exact .tup (m _ _ e) (dps_mv m ds _ (by rwa [flat] at f) a)
  | .list _, _, f, _ => by
    rw [flat] at f
    cases f
  | .dict _, _, f, _ => by
    rw [flat] at f
    cases f
theorem dps_mv {K : PySem.W.Frag} {H H' : Hp} (m : Mv K H H') : ∀ (ds : List PyData) (vs : List V), flats ds = true → DpAll K H vs ds → DpAll K H' vs ds
  | [], _, _, h => by
    cases h
    exact .nil
  | d :: ds, _, f, h => by
    rw [flats, Bool.and_eq_true] at f
    cases h with
    | cons h1 h2 => exact .cons (dp_mv m d _ f.1 h1) (dps_mv m ds _ f.2 h2)
end
/-- a reference: its columns, its name -/
abbrev Rf := List Int × Str
def intsD (ns : List Int) : PyData := .tuple (ns.map PyData.int)
def refD (r : Rf) : PyData := .tuple [intsD r.1, .str r.2]
def refK (r : Rf) : NestedKey := .tup [.tup (r.1.map NestedKey.num), .text r.2]
def keyD : Option (List Int) → PyData
  | none => .none
  | some c => intsD c
theorem flats_ints : ∀ ns : List Int, flats (ns.map PyData.int) = true
  | [] => by simp [flats]
  | n :: ns => by simp [flats, flat, flats_ints ns]
theorem flat_ints (ns : List Int) : flat (intsD ns) = true := by
  unfold intsD
  rw [flat]
  exact flats_ints ns
theorem flat_ref (r : Rf) : flat (refD r) = true := by
  unfold refD
  rw [flat, flats, flat_ints]
  simp [flats, flat]
theorem flat_key (k : Option (List Int)) : flat (keyD k) = true := by
  cases k with
  | none => simp [keyD, flat]
  | some c => exact flat_ints c
theorem flats_map {α : Type} (f : α → PyData) (h : ∀ a, flat (f a) = true) : ∀ xs : List α, flats (xs.map f) = true
  | [] => by simp [flats]
  | x :: xs => by simp [flats, h x, flats_map f h xs]
theorem flat_refs (rs : List Rf) : flat (.tuple (rs.map refD)) = true := by
  rw [flat]
  exact flats_map refD flat_ref rs
/-! two such data are equal -/
theorem eqvAll_ints : ∀ xs ys : List Int, PyData.eqvAll (xs.map PyData.int) (ys.map PyData.int) = decide (xs = ys)
  | [], [] => by simp [PyData.eqvAll]
  | [], _ :: _ => by simp [PyData.eqvAll]
  | _ :: _, [] => by simp [PyData.eqvAll]
  | x :: xs, y :: ys => by
    rw [List.map_cons, List.map_cons, PyData.eqvAll, eqvAll_ints xs ys, PyData.eqv]
    by_cases a : x = y <;> by_cases b : xs = ys <;> simp [a, b]
theorem eqv_ints (xs ys : List Int) : PyData.eqv (intsD xs) (intsD ys) = decide (xs = ys) := by
  unfold intsD
  rw [PyData.eqv, eqvAll_ints]
theorem eqv_ref (a b : Rf) : PyData.eqv (refD a) (refD b) = decide (a = b) := by
  unfold refD
  rw [PyData.eqv, PyData.eqvAll, PyData.eqvAll, PyData.eqvAll, eqv_ints, PyData.eqv, Bool.and_true]
  obtain ⟨a1, a2⟩ := a
  obtain ⟨b1, b2⟩ := b
  by_cases x : a1 = b1 <;> by_cases y : a2 = b2 <;> simp [x, y]
theorem eqvAll_map {α : Type} [DecidableEq α] (f : α → PyData) (h : ∀ a b, PyData.eqv (f a) (f b) = decide (a = b)) : ∀ xs ys : List α, PyData.eqvAll (xs.map f) (ys.map f) = decide (xs = ys)
  | [], [] => by simp [PyData.eqvAll]
  | [], _ :: _ => by simp [PyData.eqvAll]
  | _ :: _, [] => by simp [PyData.eqvAll]
  | x :: xs, y :: ys => by
    rw [List.map_cons, List.map_cons, PyData.eqvAll, eqvAll_map f h xs ys, h]
    by_cases a : x = y <;> by_cases b : xs = ys <;> simp [a, b]
theorem eqv_refs (xs ys : List Rf) : PyData.eqv (.tuple (xs.map refD)) (.tuple (ys.map refD)) = decide (xs = ys) := by
  rw [PyData.eqv, eqvAll_map refD eqv_ref]
theorem eqv_refsL (xs ys : List Rf) : PyData.eqv (.list (xs.map refD)) (.list (ys.map refD)) = decide (xs = ys) := by
  rw [PyData.eqv, eqvAll_map refD eqv_ref]
theorem eqv_key (a b : Option (List Int)) : PyData.eqv (keyD a) (keyD b) = decide (a = b) := by
  cases a with
  | none =>
    cases b with
    | none => simp [keyD, PyData.eqv]
    | some c => simp [keyD, intsD, PyData.eqv]
  | some c =>
    cases b with
    | none => simp [keyD, intsD, PyData.eqv]
    | some e =>
      show PyData.eqv (intsD c) (intsD e) = _
      rw [eqv_ints]
      simp
/-! how deep -/
theorem depth_ints (ns : List Int) : (intsD ns).depth = 1 := by
  unfold intsD
  rw [PyData.depth, PySem.W.depth_ints]
theorem depth_ref (r : Rf) : (refD r).depth = 2 := by
  unfold refD
  simp [PyData.depth, PyData.depthAll, depth_ints]
theorem depth_refs : ∀ rs : List Rf, PyData.depthAll (rs.map refD) ≤ 2
  | [] => by simp [PyData.depthAll]
  | r :: rs => by
    have a := depth_ref r
    have b := depth_refs rs
    rw [List.map_cons, PyData.depthAll]
    omega
theorem lays_ints : ∀ ns : List Int, PyData.canLayAll0 (ns.map PyData.int) = true
  | [] => by simp [PyData.canLayAll0]
  | n :: ns => by simp [PyData.canLayAll0, PyData.canLay0, lays_ints ns]
theorem lay_ints (ns : List Int) : (intsD ns).canLay0 = true := by
  unfold intsD
  rw [PyData.canLay0]
  exact lays_ints ns
theorem lay_ref {r : Rf} (h : PyData.strOk r.2 = true) : (refD r).canLay0 = true := by
  unfold refD
  simp [PyData.canLay0, PyData.canLayAll0, lay_ints, h]
theorem lays_refs : ∀ {rs : List Rf}, (∀ r ∈ rs, PyData.strOk r.2 = true) → PyData.canLayAll0 (rs.map refD) = true
  | [], _ => by simp [PyData.canLayAll0]
  | r :: rs, h => by simp [PyData.canLayAll0, lay_ref (h r (List.mem_cons_self ..)), lays_refs fun q hq => h q (List.mem_cons_of_mem _ hq)]
theorem shaped_of {d : PyData} (a : d.canLay0 = true) (b : d.depth ≤ 64) : SeqAt.shaped d = true := by
  show (d.canLay0 && decide (d.depth ≤ 64)) = true
  rw [a, decide_eq_true b]
  rfl
theorem sh_ints (ns : List Int) : SeqAt.shaped (intsD ns) = true := shaped_of (lay_ints ns) (by rw [depth_ints]; decide)
theorem shL_ints (ns : List Int) : SeqAt.shaped (.list (ns.map PyData.int)) = true := by
  refine shaped_of (by rw [PyData.canLay0]; exact lays_ints ns) ?_
  rw [PyData.depth, PySem.W.depth_ints]
  decide
theorem dps_ints {K : PySem.W.Frag} {H : Hp} : ∀ ns : List Int, DpAll K H (ns.map V.int) (ns.map PyData.int)
  | [] => .nil
  | n :: ns => .cons (.int n) (dps_ints ns)
theorem sh_ref {r : Rf} (h : PyData.strOk r.2 = true) : SeqAt.shaped (refD r) = true := shaped_of (lay_ref h) (by rw [depth_ref]; decide)
theorem sh_refs {rs : List Rf} (h : ∀ r ∈ rs, PyData.strOk r.2 = true) : SeqAt.shaped (.tuple (rs.map refD)) = true := by
  have d := depth_refs rs
  refine shaped_of (by rw [PyData.canLay0]; exact lays_refs h) ?_
  rw [PyData.depth]
  omega
theorem sh_refsL {rs : List Rf} (h : ∀ r ∈ rs, PyData.strOk r.2 = true) : SeqAt.shaped (.list (rs.map refD)) = true := by
  have d := depth_refs rs
  refine shaped_of (by rw [PyData.canLay0]; exact lays_refs h) ?_
  rw [PyData.depth]
  omega
theorem sh_key (k : Option (List Int)) : SeqAt.shaped (keyD k) = true := by
  cases k with
  | none => rfl
  | some c => exact sh_ints c
/-! as keys of a set -/
theorem data_nums : ∀ ns : List Int, NestedKey.datas (ns.map NestedKey.num) = ns.map PyData.int
  | [] => by simp [NestedKey.datas]
  | n :: ns => by simp [NestedKey.datas, NestedKey.data, data_nums ns]
theorem data_refK (r : Rf) : (refK r).data = refD r := by
  unfold refK refD intsD
  simp [NestedKey.data, NestedKey.datas, data_nums]
theorem depth_nums : ∀ ns : List Int, NestedKey.depthAll (ns.map NestedKey.num) = 0
  | [] => by simp [NestedKey.depthAll]
  | n :: ns => by simp [NestedKey.depthAll, NestedKey.depth, depth_nums ns]
theorem depth_refK (r : Rf) : (refK r).depth ≤ 8 := by
  unfold refK
  simp [NestedKey.depth, NestedKey.depthAll, depth_nums]
theorem refK_inj {a b : Rf} (h : refK a = refK b) : a = b := by
  unfold refK at h
  injection h with h
  injection h with h1 h2
  injection h1 with h1
  injection h2 with h2 _
  injection h2 with h2
  have e : a.1 = b.1 := List.map_inj_right (f := NestedKey.num) (fun x y z => by injection z) |>.mp h1
  exact Prod.ext e h2
theorem nodup_refK {rs : List Rf} (h : rs.Nodup) : (rs.map refK).Nodup := List.pairwise_map.mpr (h.imp fun ne e => ne (refK_inj e))
/-! sorted -/
theorem alike_refs (a b : Rf) : PySem.W.alike (refD a) (refD b) = true := by
  unfold refD intsD
  simp [PySem.W.alike, PySem.W.alikeAll, PySem.W.alike_ints]
/-- the references ascending -/
noncomputable def sortR (rs : List Rf) : List Rf := rs.mergeSort (PySem.W.dataLe false refD)
theorem lt_ref (a b : Rf) : PySem.W.dataLt (refD a) (refD b) = if a.1 = b.1 then decide (a.2.cps.toList < b.2.cps.toList) else decide (a.1 < b.1) := by
  have e1 : PySem.W.alike (intsD a.1) (intsD b.1) = true := by
    unfold intsD
    simp [PySem.W.alike, PySem.W.alike_ints]
  unfold refD
  rw [PySem.W.dataLt_pair e1 (by simp [PySem.W.alike]), eqv_ints, PySem.W.dataLt_str]
  have e2 : PySem.W.dataLt (intsD a.1) (intsD b.1) = decide (a.1 < b.1) := by
    unfold intsD
    rw [PySem.W.dataLt_tuple]
    exact PySem.W.dataLt_ints a.1 b.1
  rw [e2]
  by_cases h : a.1 = b.1
  · rw [if_pos h, if_pos (decide_eq_true h)]
    by_cases h2 : a.2 = b.2
    · rw [if_pos (by rw [h2, PyData.eqv]; exact beq_self_eq_true _), h2]
      exact (decide_eq_false (List.lt_irrefl _)).symm
    · rw [if_neg (by rw [PyData.eqv]; simpa using h2)]
  · rw [if_neg h, if_neg (by simpa using h)]
def refLe (a b : Rf) : Prop := a.1 < b.1 ∨ (a.1 = b.1 ∧ a.2.cps.toList ≤ b.2.cps.toList)
theorem le_ref (a b : Rf) : PySem.W.dataLe false refD a b = true ↔ refLe a b := by
  show (!PySem.W.dataLt (refD b) (refD a)) = true ↔ _
  rw [lt_ref]
  unfold refLe
  by_cases h : b.1 = a.1
  · rw [if_pos h, Bool.not_eq_true', decide_eq_false_iff_not, List.not_lt]
    constructor
    · exact fun z => .inr ⟨h.symm, z⟩
    · rintro (z | ⟨_, z⟩)
      · rw [h] at z
        exact absurd z (List.lt_irrefl _)
      · exact z
  · rw [if_neg h, Bool.not_eq_true', decide_eq_false_iff_not, List.not_lt]
    constructor
    · intro z
      rcases List.le_iff_lt_or_eq.mp z with z | z
      · exact .inl z
      · exact absurd z.symm h
    · rintro (z | ⟨z, _⟩)
      · exact List.le_of_lt z
      · exact absurd z.symm h
theorem refLe_trans (a b c : Rf) (h1 : PySem.W.dataLe false refD a b = true) (h2 : PySem.W.dataLe false refD b c = true) : PySem.W.dataLe false refD a c = true := by
  rw [le_ref] at h1 h2 ⊢
  rcases h1 with h1 | ⟨h1, k1⟩
  · rcases h2 with h2 | ⟨h2, k2⟩
    · exact .inl (List.lt_trans h1 h2)
    · exact .inl (h2 ▸ h1)
  · rcases h2 with h2 | ⟨h2, k2⟩
    · exact .inl (h1 ▸ h2)
    · exact .inr ⟨h1.trans h2, List.le_trans k1 k2⟩
theorem refLe_total (a b : Rf) : (PySem.W.dataLe false refD a b || PySem.W.dataLe false refD b a) = true := by
  rw [Bool.or_eq_true, le_ref, le_ref]
  unfold refLe
  rcases List.le_total a.1 b.1 with h | h
  · rcases List.le_iff_lt_or_eq.mp h with h | h
    · exact .inl (.inl h)
    · rcases List.le_total a.2.cps.toList b.2.cps.toList with k | k
      · exact .inl (.inr ⟨h, k⟩)
      · exact .inr (.inr ⟨h.symm, k⟩)
  · rcases List.le_iff_lt_or_eq.mp h with h | h
    · exact .inr (.inl h)
    · rcases List.le_total a.2.cps.toList b.2.cps.toList with k | k
      · exact .inl (.inr ⟨h.symm, k⟩)
      · exact .inr (.inr ⟨h, k⟩)
theorem refLe_anti {a b : Rf} (h1 : PySem.W.dataLe false refD a b = true) (h2 : PySem.W.dataLe false refD b a = true) : a = b := by
  rw [le_ref] at h1 h2
  rcases h1 with h1 | ⟨h1, k1⟩
  · rcases h2 with h2 | ⟨h2, k2⟩
    · exact absurd (List.lt_trans h1 h2) (List.lt_irrefl _)
    · rw [h2] at h1
      exact absurd h1 (List.lt_irrefl _)
  · rcases h2 with h2 | ⟨h2, k2⟩
    · rw [h1] at h2
      exact absurd h2 (List.lt_irrefl _)
    · exact Prod.ext h1 (PySem.W.str_of_cps (List.le_antisymm k1 k2))
theorem sortR_perm (rs : List Rf) : (sortR rs).Perm rs := List.mergeSort_perm _ _
theorem sortR_asc (rs : List Rf) : (sortR rs).Pairwise fun a b => PySem.W.dataLe false refD a b = true := List.pairwise_mergeSort refLe_trans refLe_total rs
theorem sortR_eq {rs qs : List Rf} (h : rs.Perm qs) : sortR rs = sortR qs :=
  ((sortR_perm rs).trans (h.trans (sortR_perm qs).symm)).eq_of_pairwise (fun a b _ _ x y => refLe_anti x y) (sortR_asc rs) (sortR_asc qs)
theorem sortR_idem (rs : List Rf) : sortR (sortR rs) = sortR rs := sortR_eq (sortR_perm rs)
theorem putF_new {f : Str} {v : V} : ∀ {fs : List (Str × V)} (ns : List Str), fs.map Prod.fst = ns → ns.all (fun g => !decide (g = f)) = true → putF f v fs = fs ++ [(f, v)]
  | [], _, _, _ => rfl
  | (g, x) :: r, _, rfl, h => by
    rw [List.map_cons, List.all_cons, Bool.and_eq_true] at h
    have ne : ¬ g = f := of_decide_eq_false (by simpa using h.1)
    unfold putF
    rw [if_neg ne, putF_new (r.map Prod.fst) rfl h.2]
    rfl
theorem put4 (a b c d : V) : putF "_scope" d (putF "_key" c (putF "_width" b (putF "_name" a []))) = [(("_name" : Str), a), ("_width", b), ("_key", c), ("_scope", d)] := by
  rw [putF_new (fs := []) [] rfl rfl, putF_new (fs := [] ++ [_]) ["_name"] rfl (by decide +kernel), putF_new (fs := ([] ++ [_]) ++ [_]) ["_name", "_width"] rfl (by decide +kernel), putF_new (fs := (([] ++ [_]) ++ [_]) ++ [_]) ["_name", "_width", "_key"] rfl (by decide +kernel)]
  rfl
theorem put5 (a b c d e : V) : putF "_refers" e [(("_name" : Str), a), ("_width", b), ("_key", c), ("_scope", d)] = [(("_name" : Str), a), ("_width", b), ("_key", c), ("_scope", d), ("_refers", e)] := by
  rw [putF_new ["_name", "_width", "_key", "_scope"] rfl (by decide +kernel)]
  rfl
/-- a table's parts -/
structure Parts where
  nm : Str
  wd : Int
  key : Option (List Int)
  sc : Str
  refs : List Rf
deriving DecidableEq
def tabF (nm : Str) (wd : Int) (kv : V) (sc : Str) (rv : V) : List (Str × V) := [("_name", .str nm), ("_width", .int wd), ("_key", kv), ("_scope", .str sc), ("_refers", rv)]
/-- at v stands a table with these parts -/
def TabAt (K : PySem.W.Frag) (C : Addr) (H : Hp) (v : V) (p : Parts) : Prop := ∃ a dx kv rv, v = .ref a ∧ H a = some (.ins C dx (tabF p.nm p.wd kv p.sc rv)) ∧ Dp K H kv (keyD p.key) ∧ Dp K H rv (.tuple (p.refs.map refD))
theorem TabAt.same {K : PySem.W.Frag} {C : Addr} {H H' : Hp} {v : V} {p : Parts} (t : TabAt K C H v p) (s : Same H H') : TabAt K C H' v p := by
  obtain ⟨a, dx, kv, rv, e, ea, hk, hr⟩ := t
  exact ⟨a, dx, kv, rv, e, s _ _ ea, dp_mv (mv_same s) _ _ (flat_key _) hk, dp_mv (mv_same s) _ _ (flat_refs _) hr⟩
theorem TabAt.keep {K : PySem.W.Frag} {C : Addr} {H H' : Hp} {v : V} {p : Parts} {d : Addr} (t : TabAt K C H v p) (k : Keep d H H') (hd : Dice H d) : TabAt K C H' v p := by
  obtain ⟨a, dx, kv, rv, e, ea, hk, hr⟩ := t
  have ne : a ≠ d := fun z => by
    obtain ⟨x, y, c, e2, _⟩ := hd
    rw [z, e2] at ea
    cases ea
  exact ⟨a, dx, kv, rv, e, k.1 _ _ ne ea, dp_mv (mv_keep k hd) _ _ (flat_key _) hk, dp_mv (mv_keep k hd) _ _ (flat_refs _) hr⟩
end Kit
-- CUT
-- HEAD namespace K02
-- HEAD open PySem PySem.Spec PyProof.Rows L2 Kit
-- FOOT end K02
namespace K02
open PySem PySem.Spec PyProof.Rows L2 Kit
def topS (i : Nat) : Stmt := PySem.Challenge.pw_goneunseen_k02_tables_made_and_asked.main.body.getD i (.Pass ⟨0, 0, 0, 0⟩)
abbrev s_Table_init : Stmt := inClass (topS 18) 1
theorem sc_Table_init : FnScope ["self", "name", "width", "key", "scope", "refers"] ["self", "name", "width", "key", "scope", "refers"] (defScope s_Table_init) := ⟨rfl, rfl, rfl, by decide +kernel, rfl, by decide +kernel, by decide +kernel⟩
abbrev s_Table_name : Stmt := inClass (topS 18) 2
theorem sc_Table_name : FnScope ["self"] ["self"] (defScope s_Table_name) := ⟨rfl, rfl, rfl, by decide +kernel, rfl, by decide +kernel, by decide +kernel⟩
abbrev s_Table_width : Stmt := inClass (topS 18) 3
theorem sc_Table_width : FnScope ["self"] ["self"] (defScope s_Table_width) := ⟨rfl, rfl, rfl, by decide +kernel, rfl, by decide +kernel, by decide +kernel⟩
abbrev s_Table_key : Stmt := inClass (topS 18) 4
theorem sc_Table_key : FnScope ["self"] ["self"] (defScope s_Table_key) := ⟨rfl, rfl, rfl, by decide +kernel, rfl, by decide +kernel, by decide +kernel⟩
abbrev s_Table_scope : Stmt := inClass (topS 18) 5
theorem sc_Table_scope : FnScope ["self"] ["self"] (defScope s_Table_scope) := ⟨rfl, rfl, rfl, by decide +kernel, rfl, by decide +kernel, by decide +kernel⟩
abbrev s_Table_refers : Stmt := inClass (topS 18) 6
theorem sc_Table_refers : FnScope ["self"] ["self"] (defScope s_Table_refers) := ⟨rfl, rfl, rfl, by decide +kernel, rfl, by decide +kernel, by decide +kernel⟩
abbrev s_Table_key_of : Stmt := inClass (topS 18) 7
theorem sc_Table_key_of : FnScope ["self", "row"] ["self", "row"] (defScope s_Table_key_of) := ⟨rfl, rfl, rfl, by decide +kernel, rfl, by decide +kernel, by decide +kernel⟩
abbrev s_Table_told : Stmt := inClass (topS 18) 8
theorem sc_Table_told : FnScope ["self", "row", "index"] ["self", "row", "index"] (defScope s_Table_told) := ⟨rfl, rfl, rfl, by decide +kernel, rfl, by decide +kernel, by decide +kernel⟩
abbrev s_Table_is_key : Stmt := inClass (topS 18) 9
theorem sc_Table_is_key : FnScope ["value", "width"] ["value", "width"] (defScope s_Table_is_key) := ⟨rfl, rfl, rfl, by decide +kernel, rfl, by decide +kernel, by decide +kernel⟩
abbrev s_Table_eq : Stmt := inClass (topS 18) 10
theorem sc_Table_eq : FnScope ["self", "other"] ["self", "other"] (defScope s_Table_eq) := ⟨rfl, rfl, rfl, by decide +kernel, rfl, by decide +kernel, by decide +kernel⟩
abbrev s_Table_check_row : Stmt := inClass (topS 18) 11
theorem sc_Table_check_row : FnScope ["self", "row"] ["self", "row"] (defScope s_Table_check_row) := ⟨rfl, rfl, rfl, by decide +kernel, rfl, by decide +kernel, by decide +kernel⟩
abbrev s_is_name : Stmt := topS 11
theorem sc_is_name : FnScope ["value"] ["value"] (defScope s_is_name) := ⟨rfl, rfl, rfl, by decide +kernel, rfl, by decide +kernel, by decide +kernel⟩
abbrev s_is_whole : Stmt := topS 12
theorem sc_is_whole : FnScope ["value"] ["value"] (defScope s_is_whole) := ⟨rfl, rfl, rfl, by decide +kernel, rfl, by decide +kernel, by decide +kernel⟩
abbrev s_is_row : Stmt := topS 13
theorem sc_is_row : FnScope ["value", "part"] ["value"] (defScope s_is_row) := ⟨rfl, rfl, rfl, by decide +kernel, rfl, by decide +kernel, by decide +kernel⟩
abbrev s_is_row_of : Stmt := topS 14
theorem sc_is_row_of : FnScope ["value", "width"] ["value", "width"] (defScope s_is_row_of) := ⟨rfl, rfl, rfl, by decide +kernel, rfl, by decide +kernel, by decide +kernel⟩
abbrev s_picked : Stmt := topS 19
theorem sc_picked : FnScope ["row", "columns", "column"] ["row", "columns"] (defScope s_picked) := ⟨rfl, rfl, rfl, by decide +kernel, rfl, by decide +kernel, by decide +kernel⟩
abbrev s_is_width : Stmt := topS 20
theorem sc_is_width : FnScope ["value"] ["value"] (defScope s_is_width) := ⟨rfl, rfl, rfl, by decide +kernel, rfl, by decide +kernel, by decide +kernel⟩
abbrev s_are_columns : Stmt := topS 21
theorem sc_are_columns : FnScope ["value", "width", "column"] ["value", "width"] (defScope s_are_columns) := ⟨rfl, rfl, rfl, by decide +kernel, rfl, by decide +kernel, by decide +kernel⟩
abbrev s_is_ascending : Stmt := topS 22
theorem sc_is_ascending : FnScope ["value", "width"] ["value", "width"] (defScope s_is_ascending) := ⟨rfl, rfl, rfl, by decide +kernel, rfl, by decide +kernel, by decide +kernel⟩
abbrev s_is_reference : Stmt := topS 23
theorem sc_is_reference : FnScope ["value", "width"] ["value", "width"] (defScope s_is_reference) := ⟨rfl, rfl, rfl, by decide +kernel, rfl, by decide +kernel, by decide +kernel⟩
abbrev s_are_references : Stmt := topS 24
theorem sc_are_references : FnScope ["value", "width", "pair"] ["value", "width"] (defScope s_are_references) := ⟨rfl, rfl, rfl, by decide +kernel, rfl, by decide +kernel, by decide +kernel⟩
abbrev s_l_dice : Stmt := topS 26
theorem sc_l_dice : FnScope ["_law_script", "_law_spot", "_law_cell", "_law_great", "_law_blend"] ["_law_script", "_law_spot"] (defScope s_l_dice) := ⟨rfl, rfl, rfl, by decide +kernel, rfl, by decide +kernel, by decide +kernel⟩
abbrev s_l_roll : Stmt := topS 27
theorem sc_l_roll : FnScope ["_law_dice_here", "_law_upto", "_law_found", "_law_one", "_law_two"] ["_law_dice_here", "_law_upto"] (defScope s_l_roll) := ⟨rfl, rfl, rfl, by decide +kernel, rfl, by decide +kernel, by decide +kernel⟩
abbrev s_l_pick : Stmt := topS 28
theorem sc_l_pick : FnScope ["_law_dice_here", "_law_items"] ["_law_dice_here", "_law_items"] (defScope s_l_pick) := ⟨rfl, rfl, rfl, by decide +kernel, rfl, by decide +kernel, by decide +kernel⟩
abbrev s_l_mixed : Stmt := topS 29
theorem sc_l_mixed : FnScope ["_law_dice_here", "_law_items", "_law_left", "_law_found"] ["_law_dice_here", "_law_items"] (defScope s_l_mixed) := ⟨rfl, rfl, rfl, by decide +kernel, rfl, by decide +kernel, by decide +kernel⟩
abbrev s_l_some : Stmt := topS 30
theorem sc_l_some : FnScope ["_law_dice_here", "_law_items", "_law_least", "_law_most", "_law_low", "_law_high"] ["_law_dice_here", "_law_items", "_law_least", "_law_most"] (defScope s_l_some) := ⟨rfl, rfl, rfl, by decide +kernel, rfl, by decide +kernel, by decide +kernel⟩
abbrev s_l_word : Stmt := topS 31
theorem sc_l_word : FnScope ["_law_dice_here", "_law_turn"] ["_law_dice_here"] (defScope s_l_word) := ⟨rfl, rfl, rfl, by decide +kernel, rfl, by decide +kernel, by decide +kernel⟩
abbrev s_l_words : Stmt := topS 32
theorem sc_l_words : FnScope ["_law_dice_here", "_law_upto", "_law_some_here"] ["_law_dice_here", "_law_upto"] (defScope s_l_words) := ⟨rfl, rfl, rfl, by decide +kernel, rfl, by decide +kernel, by decide +kernel⟩
abbrev s_l_pool : Stmt := topS 33
theorem sc_l_pool : FnScope ["_law_dice_here", "_law_lots", "_law_way", "_law_number"] ["_law_dice_here", "_law_lots"] (defScope s_l_pool) := ⟨rfl, rfl, rfl, by decide +kernel, rfl, by decide +kernel, by decide +kernel⟩
abbrev s_l_columns : Stmt := topS 34
theorem sc_l_columns : FnScope ["_law_dice_here", "_law_width", "_law_most", "_law_turn"] ["_law_dice_here", "_law_width", "_law_most"] (defScope s_l_columns) := ⟨rfl, rfl, rfl, by decide +kernel, rfl, by decide +kernel, by decide +kernel⟩
abbrev s_l_parts : Stmt := topS 35
theorem sc_l_parts : FnScope ["_law_dice_here", "_law_width", "_law_own", "_law_reach", "_law_links", "_law_words_here", "_law_turn", "_law_one"] ["_law_dice_here"] (defScope s_l_parts) := ⟨rfl, rfl, rfl, by decide +kernel, rfl, by decide +kernel, by decide +kernel⟩
abbrev s_l_made : Stmt := topS 36
theorem sc_l_made : FnScope ["_law_parts_here"] ["_law_parts_here"] (defScope s_l_made) := ⟨rfl, rfl, rfl, by decide +kernel, rfl, by decide +kernel, by decide +kernel⟩
abbrev s_l_shows : Stmt := topS 37
theorem sc_l_shows : FnScope ["_law_table", "_law_parts_here", "_law_told"] ["_law_table", "_law_parts_here"] (defScope s_l_shows) := ⟨rfl, rfl, rfl, by decide +kernel, rfl, by decide +kernel, by decide +kernel⟩
abbrev s_l_rows_right : Stmt := topS 38
theorem sc_l_rows_right : FnScope ["_law_dice_here", "_law_table", "_law_parts_here", "_law_pool_here", "_law_turn", "_law_row", "_law_due", "_law_at", "_law_link", "_law_column"] ["_law_dice_here", "_law_table", "_law_parts_here", "_law_pool_here"] (defScope s_l_rows_right) := ⟨rfl, rfl, rfl, by decide +kernel, rfl, by decide +kernel, by decide +kernel⟩
abbrev s_l_changed : Stmt := topS 39
theorem sc_l_changed : FnScope ["_law_dice_here", "_law_parts_here", "_law_found", "_law_way", "_law_own", "_law_one", "_law_left", "_law_word_here", "_law_link"] ["_law_dice_here", "_law_parts_here"] (defScope s_l_changed) := ⟨rfl, rfl, rfl, by decide +kernel, rfl, by decide +kernel, by decide +kernel⟩
abbrev s_l_like_key : Stmt := topS 40
theorem sc_l_like_key : FnScope ["_law_value", "_law_width", "_law_least", "_law_one"] ["_law_value", "_law_width"] (defScope s_l_like_key) := ⟨rfl, rfl, rfl, by decide +kernel, rfl, by decide +kernel, by decide +kernel⟩
abbrev s_l_keys_right : Stmt := topS 41
theorem sc_l_keys_right : FnScope ["_law_dice_here", "_law_width", "_law_some_here", "_law_value", "_law_told", "_law_due", "_law_turn"] ["_law_dice_here"] (defScope s_l_keys_right) := ⟨rfl, rfl, rfl, by decide +kernel, rfl, by decide +kernel, by decide +kernel⟩
abbrev s_l_right : Stmt := topS 42
theorem sc_l_right : FnScope ["_law_dice_here", "_law_parts_here", "_law_pool_here", "_law_table", "_law_again", "_law_other", "_law_is_same"] ["_law_dice_here"] (defScope s_l_right) := ⟨rfl, rfl, rfl, by decide +kernel, rfl, by decide +kernel, by decide +kernel⟩
abbrev s_law : Stmt := topS 43
theorem sc_law : FnScope ["_law_script", "_law_spot", "_law_plain", "_law_wide", "_law_told", "_law_firm", "_law_at"] ["_law_script"] (defScope s_law) := ⟨rfl, rfl, rfl, by decide +kernel, rfl, by decide +kernel, by decide +kernel⟩
structure Txt (K : PySem.W.Frag) (mg : Str → Option Value) where
  c_Table : Addr
  g_Table : mg "Table" = some (.ref c_Table)
  cl_Table : Cls K c_Table
  kC_Table : PySem.W.keepIn K (.ref c_Table) = true
  nA_Table_name : NoAttr K c_Table "_name"
  nA_Table_width : NoAttr K c_Table "_width"
  nA_Table_key : NoAttr K c_Table "_key"
  nA_Table_scope : NoAttr K c_Table "_scope"
  nA_Table_refers : NoAttr K c_Table "_refers"
  mc_Table : Value
  rd_Table : ClX.CRead K c_Table mc_Table
  t_Table_MAX_WIDTH : Tok
  v_Table_MAX_WIDTH : PySem.W.findCls K (.ref c_Table) mc_Table "MAX_WIDTH" = some (.val (.int 4 t_Table_MAX_WIDTH))
  a_Table_init : Addr
  fd_Table_init : FuncData
  e_Table_init : Addr
  z_Table_init : SqT K (fun _ => none) e_Table_init []
  tk_Table_init_scope : Tok
  F_Table_init : FunD K "__init__" "Table.__init__" (defArgs s_Table_init) (defBody s_Table_init) (defScope s_Table_init) [] [("key", .non), ("scope", .str "living"), ("refers", .ref e_Table_init)] a_Table_init fd_Table_init
  M_Table : Mk K c_Table a_Table_init
  a_Table_name : Addr
  fd_Table_name : FuncData
  F_Table_name : Fun K "name" "Table.name" s_Table_name a_Table_name fd_Table_name
  b_Table_name : Binds K fd_Table_name ["self"] []
  q_Table_name : Addr
  p_Table_name : PropOf K c_Table "name" q_Table_name a_Table_name
  a_Table_width : Addr
  fd_Table_width : FuncData
  F_Table_width : Fun K "width" "Table.width" s_Table_width a_Table_width fd_Table_width
  b_Table_width : Binds K fd_Table_width ["self"] []
  q_Table_width : Addr
  p_Table_width : PropOf K c_Table "width" q_Table_width a_Table_width
  a_Table_key : Addr
  fd_Table_key : FuncData
  F_Table_key : Fun K "key" "Table.key" s_Table_key a_Table_key fd_Table_key
  b_Table_key : Binds K fd_Table_key ["self"] []
  q_Table_key : Addr
  p_Table_key : PropOf K c_Table "key" q_Table_key a_Table_key
  a_Table_scope : Addr
  fd_Table_scope : FuncData
  F_Table_scope : Fun K "scope" "Table.scope" s_Table_scope a_Table_scope fd_Table_scope
  b_Table_scope : Binds K fd_Table_scope ["self"] []
  q_Table_scope : Addr
  p_Table_scope : PropOf K c_Table "scope" q_Table_scope a_Table_scope
  a_Table_refers : Addr
  fd_Table_refers : FuncData
  F_Table_refers : Fun K "refers" "Table.refers" s_Table_refers a_Table_refers fd_Table_refers
  b_Table_refers : Binds K fd_Table_refers ["self"] []
  q_Table_refers : Addr
  p_Table_refers : PropOf K c_Table "refers" q_Table_refers a_Table_refers
  a_Table_key_of : Addr
  fd_Table_key_of : FuncData
  F_Table_key_of : Fun K "key_of" "Table.key_of" s_Table_key_of a_Table_key_of fd_Table_key_of
  b_Table_key_of : Binds K fd_Table_key_of ["self", "row"] []
  m_Table_key_of : Meth K c_Table "key_of" a_Table_key_of
  a_Table_told : Addr
  fd_Table_told : FuncData
  F_Table_told : Fun K "told" "Table.told" s_Table_told a_Table_told fd_Table_told
  b_Table_told : Binds K fd_Table_told ["self", "row", "index"] []
  m_Table_told : Meth K c_Table "told" a_Table_told
  a_Table_is_key : Addr
  fd_Table_is_key : FuncData
  F_Table_is_key : Fun K "is_key" "Table.is_key" s_Table_is_key a_Table_is_key fd_Table_is_key
  b_Table_is_key : Binds K fd_Table_is_key ["value", "width"] []
  q_Table_is_key : Addr
  s_Table_is_key : Kit.SMet K c_Table mc_Table "is_key" q_Table_is_key a_Table_is_key
  a_Table_eq : Addr
  fd_Table_eq : FuncData
  F_Table_eq : Fun K "__eq__" "Table.__eq__" s_Table_eq a_Table_eq fd_Table_eq
  b_Table_eq : Binds K fd_Table_eq ["self", "other"] []
  m_Table_eq : Meth K c_Table "__eq__" a_Table_eq
  a_Table_check_row : Addr
  fd_Table_check_row : FuncData
  F_Table_check_row : Fun K "_check_row" "Table._check_row" s_Table_check_row a_Table_check_row fd_Table_check_row
  b_Table_check_row : Binds K fd_Table_check_row ["self", "row"] []
  m_Table_check_row : Meth K c_Table "_check_row" a_Table_check_row
  a_is_name : Addr
  fd_is_name : FuncData
  F_is_name : Fun K "is_name" "is_name" s_is_name a_is_name fd_is_name
  b_is_name : Binds K fd_is_name ["value"] []
  g_is_name : mg "is_name" = some (.ref a_is_name)
  a_is_whole : Addr
  fd_is_whole : FuncData
  F_is_whole : Fun K "is_whole" "is_whole" s_is_whole a_is_whole fd_is_whole
  b_is_whole : Binds K fd_is_whole ["value"] []
  g_is_whole : mg "is_whole" = some (.ref a_is_whole)
  a_is_row : Addr
  fd_is_row : FuncData
  F_is_row : Fun K "is_row" "is_row" s_is_row a_is_row fd_is_row
  b_is_row : Binds K fd_is_row ["value"] []
  g_is_row : mg "is_row" = some (.ref a_is_row)
  a_is_row_of : Addr
  fd_is_row_of : FuncData
  F_is_row_of : Fun K "is_row_of" "is_row_of" s_is_row_of a_is_row_of fd_is_row_of
  b_is_row_of : Binds K fd_is_row_of ["value", "width"] []
  g_is_row_of : mg "is_row_of" = some (.ref a_is_row_of)
  a_picked : Addr
  fd_picked : FuncData
  F_picked : Fun K "picked" "picked" s_picked a_picked fd_picked
  b_picked : Binds K fd_picked ["row", "columns"] []
  g_picked : mg "picked" = some (.ref a_picked)
  a_is_width : Addr
  fd_is_width : FuncData
  F_is_width : Fun K "_is_width" "_is_width" s_is_width a_is_width fd_is_width
  b_is_width : Binds K fd_is_width ["value"] []
  g_is_width : mg "_is_width" = some (.ref a_is_width)
  a_are_columns : Addr
  fd_are_columns : FuncData
  F_are_columns : Fun K "_are_columns" "_are_columns" s_are_columns a_are_columns fd_are_columns
  b_are_columns : Binds K fd_are_columns ["value", "width"] []
  g_are_columns : mg "_are_columns" = some (.ref a_are_columns)
  a_is_ascending : Addr
  fd_is_ascending : FuncData
  F_is_ascending : Fun K "_is_ascending" "_is_ascending" s_is_ascending a_is_ascending fd_is_ascending
  b_is_ascending : Binds K fd_is_ascending ["value", "width"] []
  g_is_ascending : mg "_is_ascending" = some (.ref a_is_ascending)
  a_is_reference : Addr
  fd_is_reference : FuncData
  F_is_reference : Fun K "_is_reference" "_is_reference" s_is_reference a_is_reference fd_is_reference
  b_is_reference : Binds K fd_is_reference ["value", "width"] []
  g_is_reference : mg "_is_reference" = some (.ref a_is_reference)
  a_are_references : Addr
  fd_are_references : FuncData
  F_are_references : Fun K "_are_references" "_are_references" s_are_references a_are_references fd_are_references
  b_are_references : Binds K fd_are_references ["value", "width"] []
  g_are_references : mg "_are_references" = some (.ref a_are_references)
  a_l_dice : Addr
  fd_l_dice : FuncData
  F_l_dice : Fun K "_law_dice" "_law_dice" s_l_dice a_l_dice fd_l_dice
  b_l_dice : Binds K fd_l_dice ["_law_script", "_law_spot"] []
  g_l_dice : mg "_law_dice" = some (.ref a_l_dice)
  a_l_roll : Addr
  fd_l_roll : FuncData
  F_l_roll : Fun K "_law_roll" "_law_roll" s_l_roll a_l_roll fd_l_roll
  b_l_roll : Binds K fd_l_roll ["_law_dice_here", "_law_upto"] []
  g_l_roll : mg "_law_roll" = some (.ref a_l_roll)
  a_l_pick : Addr
  fd_l_pick : FuncData
  F_l_pick : Fun K "_law_pick" "_law_pick" s_l_pick a_l_pick fd_l_pick
  b_l_pick : Binds K fd_l_pick ["_law_dice_here", "_law_items"] []
  g_l_pick : mg "_law_pick" = some (.ref a_l_pick)
  a_l_mixed : Addr
  fd_l_mixed : FuncData
  F_l_mixed : Fun K "_law_mixed" "_law_mixed" s_l_mixed a_l_mixed fd_l_mixed
  b_l_mixed : Binds K fd_l_mixed ["_law_dice_here", "_law_items"] []
  g_l_mixed : mg "_law_mixed" = some (.ref a_l_mixed)
  a_l_some : Addr
  fd_l_some : FuncData
  F_l_some : Fun K "_law_some" "_law_some" s_l_some a_l_some fd_l_some
  b_l_some : Binds K fd_l_some ["_law_dice_here", "_law_items", "_law_least", "_law_most"] []
  g_l_some : mg "_law_some" = some (.ref a_l_some)
  a_l_word : Addr
  fd_l_word : FuncData
  F_l_word : Fun K "_law_word" "_law_word" s_l_word a_l_word fd_l_word
  b_l_word : Binds K fd_l_word ["_law_dice_here"] []
  g_l_word : mg "_law_word" = some (.ref a_l_word)
  a_l_words : Addr
  fd_l_words : FuncData
  F_l_words : Fun K "_law_words" "_law_words" s_l_words a_l_words fd_l_words
  b_l_words : Binds K fd_l_words ["_law_dice_here", "_law_upto"] []
  g_l_words : mg "_law_words" = some (.ref a_l_words)
  a_l_pool : Addr
  fd_l_pool : FuncData
  F_l_pool : Fun K "_law_pool" "_law_pool" s_l_pool a_l_pool fd_l_pool
  b_l_pool : Binds K fd_l_pool ["_law_dice_here", "_law_lots"] []
  g_l_pool : mg "_law_pool" = some (.ref a_l_pool)
  a_l_columns : Addr
  fd_l_columns : FuncData
  F_l_columns : Fun K "_law_columns" "_law_columns" s_l_columns a_l_columns fd_l_columns
  b_l_columns : Binds K fd_l_columns ["_law_dice_here", "_law_width", "_law_most"] []
  g_l_columns : mg "_law_columns" = some (.ref a_l_columns)
  a_l_parts : Addr
  fd_l_parts : FuncData
  F_l_parts : Fun K "_law_parts" "_law_parts" s_l_parts a_l_parts fd_l_parts
  b_l_parts : Binds K fd_l_parts ["_law_dice_here"] []
  g_l_parts : mg "_law_parts" = some (.ref a_l_parts)
  a_l_made : Addr
  fd_l_made : FuncData
  F_l_made : Fun K "_law_made" "_law_made" s_l_made a_l_made fd_l_made
  b_l_made : Binds K fd_l_made ["_law_parts_here"] []
  g_l_made : mg "_law_made" = some (.ref a_l_made)
  a_l_shows : Addr
  fd_l_shows : FuncData
  F_l_shows : Fun K "_law_shows" "_law_shows" s_l_shows a_l_shows fd_l_shows
  b_l_shows : Binds K fd_l_shows ["_law_table", "_law_parts_here"] []
  g_l_shows : mg "_law_shows" = some (.ref a_l_shows)
  a_l_rows_right : Addr
  fd_l_rows_right : FuncData
  F_l_rows_right : Fun K "_law_rows_right" "_law_rows_right" s_l_rows_right a_l_rows_right fd_l_rows_right
  b_l_rows_right : Binds K fd_l_rows_right ["_law_dice_here", "_law_table", "_law_parts_here", "_law_pool_here"] []
  g_l_rows_right : mg "_law_rows_right" = some (.ref a_l_rows_right)
  a_l_changed : Addr
  fd_l_changed : FuncData
  F_l_changed : Fun K "_law_changed" "_law_changed" s_l_changed a_l_changed fd_l_changed
  b_l_changed : Binds K fd_l_changed ["_law_dice_here", "_law_parts_here"] []
  g_l_changed : mg "_law_changed" = some (.ref a_l_changed)
  a_l_like_key : Addr
  fd_l_like_key : FuncData
  F_l_like_key : Fun K "_law_like_key" "_law_like_key" s_l_like_key a_l_like_key fd_l_like_key
  b_l_like_key : Binds K fd_l_like_key ["_law_value", "_law_width"] []
  g_l_like_key : mg "_law_like_key" = some (.ref a_l_like_key)
  a_l_keys_right : Addr
  fd_l_keys_right : FuncData
  F_l_keys_right : Fun K "_law_keys_right" "_law_keys_right" s_l_keys_right a_l_keys_right fd_l_keys_right
  b_l_keys_right : Binds K fd_l_keys_right ["_law_dice_here"] []
  g_l_keys_right : mg "_law_keys_right" = some (.ref a_l_keys_right)
  a_l_right : Addr
  fd_l_right : FuncData
  F_l_right : Fun K "_law_right" "_law_right" s_l_right a_l_right fd_l_right
  b_l_right : Binds K fd_l_right ["_law_dice_here"] []
  g_l_right : mg "_law_right" = some (.ref a_l_right)
  a_law : Addr
  fd_law : FuncData
  F_law : Fun K "law" "law" s_law a_law fd_law
  b_law : Binds K fd_law ["_law_script"] []
  g_law : mg "law" = some (.ref a_law)
  eq_Table : Kit.EqC K c_Table a_Table_eq
  is_Table : Kit.IsC K c_Table
  fo_Table : ∀ n ∈ Kit.BT, PySem.W.kitOne K (.type n) (.ref c_Table) = some false ∧ PySem.W.notFirst K c_Table (.type n) = true
  t_LONGEST_NAME : Tok
  m_LONGEST_NAME : mg "_LONGEST_NAME" = some (.int 8 t_LONGEST_NAME)
  t_TOO_GREAT : Tok
  m_TOO_GREAT : mg "_TOO_GREAT" = some (.int 100000000000000000000 t_TOO_GREAT)
  t_TOO_SMALL : Tok
  m_TOO_SMALL : mg "_TOO_SMALL" = some (.int (-100000000000000000000) t_TOO_SMALL)
  t_WIDEST_ROW : Tok
  m_WIDEST_ROW : mg "_WIDEST_ROW" = some (.int 4 t_WIDEST_ROW)
  t_MOST_COLUMNS : Tok
  m_MOST_COLUMNS : mg "_MOST_COLUMNS" = some (.int 4 t_MOST_COLUMNS)
  t_MOST_REFERENCES : Tok
  m_MOST_REFERENCES : mg "_MOST_REFERENCES" = some (.int 4 t_MOST_REFERENCES)
  n_super : mg "super" = none
  n_tuple : mg "tuple" = none
  n_sorted : mg "sorted" = none
  n_property : mg "property" = none
  n_len : mg "len" = none
  n_staticmethod : mg "staticmethod" = none
  n_isinstance : mg "isinstance" = none
  n_str : mg "str" = none
  n_int : mg "int" = none
  n_bool : mg "bool" = none
  n_all : mg "all" = none
  n_list : mg "list" = none
  n_set : mg "set" = none
  n_max : mg "max" = none
  n_abs : mg "abs" = none
  n_min : mg "min" = none
  n_range : mg "range" = none
  n_enumerate : mg "enumerate" = none
-- SPLIT
/-! ### what is worth what -/
def LET : Str := "abcdefghijklmnopqrstuvwxyz"
def nameB : V → Bool
  | .str z => decide (1 ≤ (z.length : Int)) && decide ((z.length : Int) ≤ 8) && z.cps.toList.all fun c => decide (c ∈ LET.cps.toList)
  | _ => false
def wholeB : V → Bool
  | .int _ => true
  | _ => false
def intB : V → Bool
  | .int i => decide (-100000000000000000000 < i) && decide (i < 100000000000000000000)
  | _ => false
def rowL (xs : List V) : Bool := decide (1 ≤ (xs.length : Int)) && decide ((xs.length : Int) ≤ 4) && xs.all intB
/-- an item of a tuple -/
inductive Item (H : Hp) : V → Prop where
  | non : Item H .non
  | bl (b : Bool) : Item H (.bl b)
  | int (i : Int) (h : i.natAbs < 10 ^ 45) : Item H (.int i)
  | str (z : Str) : Item H (.str z)
  | lst {a : Addr} {xs : List V} (e : H a = some (.lst xs)) : Item H (.ref a)
  | tup {a : Addr} {xs : List V} (e : H a = some (.tup xs)) : Item H (.ref a)
  | dK {a : Addr} {kvs : List (Key × V)} (e : H a = some (.dK kvs)) : Item H (.ref a)
/-- a value that is asked of -/
inductive Good (H : Hp) : V → Prop where
  | non : Good H .non
  | bl (b : Bool) : Good H (.bl b)
  | int (i : Int) (h : i.natAbs < 10 ^ 45) : Good H (.int i)
  | str (z : Str) (h : z.length ≤ 1000) : Good H (.str z)
  | lst {a : Addr} {xs : List V} (e : H a = some (.lst xs)) : Good H (.ref a)
  | tup {a : Addr} {xs : List V} (e : H a = some (.tup xs)) (h : ∀ x ∈ xs, Item H x) : Good H (.ref a)
  | dK {a : Addr} {kvs : List (Key × V)} (e : H a = some (.dK kvs)) : Good H (.ref a)
theorem nameB_str (z : Str) : nameB (.str z) = (decide (1 ≤ (z.length : Int)) && decide ((z.length : Int) ≤ 8) && z.cps.toList.all fun c => decide (c ∈ LET.cps.toList)) := rfl
theorem intB_int (i : Int) : intB (.int i) = (decide (-100000000000000000000 < i) && decide (i < 100000000000000000000)) := rfl
theorem Good.item {H : Hp} {v : V} (g : Good H v) : Item H v := by
  cases g with
  | non => exact .non
  | bl b => exact .bl b
  | int i h => exact .int i h
  | str z h => exact .str z
  | lst e => exact .lst e
  | tup e h => exact .tup e
  | dK e => exact .dK e
theorem Item.same {H H1 : Hp} {v : V} (s : Same H H1) (g : Item H v) : Item H1 v := by
  cases g with
  | non => exact .non
  | bl b => exact .bl b
  | int i h => exact .int i h
  | str z => exact .str z
  | lst e => exact .lst (s _ _ e)
  | tup e => exact .tup (s _ _ e)
  | dK e => exact .dK (s _ _ e)
theorem Good.same {H H1 : Hp} {v : V} (s : Same H H1) (g : Good H v) : Good H1 v := by
  cases g with
  | non => exact .non
  | bl b => exact .bl b
  | int i h => exact .int i h
  | str z h => exact .str z h
  | lst e => exact .lst (s _ _ e)
  | tup e h => exact .tup (s _ _ e) fun x hx => (h x hx).same s
  | dK e => exact .dK (s _ _ e)
theorem Item.keep {d : Addr} {H H1 : Hp} {v : V} (k : Keep d H H1) (hd : Dice H d) (g : Item H v) : Item H1 v := by
  obtain ⟨a, b, c, e0, _⟩ := hd
  obtain ⟨a1, b1, c1, e1, _⟩ := k.2
  cases g with
  | non => exact .non
  | bl b => exact .bl b
  | int i h => exact .int i h
  | str z => exact .str z
  | @lst x xs e =>
    by_cases hx : x = d
    · subst hx
      exact .lst e1
    · exact .lst (k.1 _ _ hx e)
  | tup e => exact .tup (k.1 _ _ (fun z => by rw [z, e0] at e; cases e) e)
  | dK e => exact .dK (k.1 _ _ (fun z => by rw [z, e0] at e; cases e) e)
theorem Good.keep {d : Addr} {H H1 : Hp} {v : V} (k : Keep d H H1) (hd : Dice H d) (g : Good H v) : Good H1 v := by
  obtain ⟨a, b, c, e0, _⟩ := id hd
  obtain ⟨a1, b1, c1, e1, _⟩ := k.2
  cases g with
  | non => exact .non
  | bl b => exact .bl b
  | int i h => exact .int i h
  | str z h => exact .str z h
  | @lst x xs e =>
    by_cases hx : x = d
    · subst hx
      exact .lst e1
    · exact .lst (k.1 _ _ hx e)
  | tup e h => exact .tup (k.1 _ _ (fun z => by rw [z, e0] at e; cases e) e) fun x hx => (h x hx).keep k hd
  | dK e => exact .dK (k.1 _ _ (fun z => by rw [z, e0] at e; cases e) e)
/-- whether what stands there is a row -/
def rowB (H : Hp) : V → Bool
  | .ref a => match H a with
    | some (.tup xs) => rowL xs
    | _ => false
  | _ => false
def isiB : V → Bool
  | .int _ => true
  | .bl _ => true
  | _ => false
def isbB : V → Bool
  | .bl _ => true
  | _ => false
def issB : V → Bool
  | .str _ => true
  | _ => false
def tupB (H : Hp) : V → Bool
  | .ref a => match H a with
    | some (.tup _) => true
    | _ => false
  | _ => false
theorem ty_int {K : PySem.W.Frag} {H : Hp} {v : V} (g : Item H v) : ∃ t, TyX K H v t ∧ PySem.W.kitOne K t (.type "int") = some (isiB v) := by
  cases g with
  | non  => exact ⟨_, .base .non, kit_ty (r := false) (by decide +kernel)⟩
  | bl b => exact ⟨_, .base (.bl b), kit_ty (r := true) (by decide +kernel)⟩
  | int i h => exact ⟨_, .base (.int i), kit_ty (r := true) (by decide +kernel)⟩
  | str z => exact ⟨_, .base (.str z), kit_ty (r := false) (by decide +kernel)⟩
  | lst e => exact ⟨_, .base (.lst e), kit_ty (r := false) (by decide +kernel)⟩
  | tup e => exact ⟨_, .base (.tup e), kit_ty (r := false) (by decide +kernel)⟩
  | dK e => exact ⟨_, .base (.dK e), kit_ty (r := false) (by decide +kernel)⟩
theorem ty_bool {K : PySem.W.Frag} {H : Hp} {v : V} (g : Item H v) : ∃ t, TyX K H v t ∧ PySem.W.kitOne K t (.type "bool") = some (isbB v) := by
  cases g with
  | non  => exact ⟨_, .base .non, kit_ty (r := false) (by decide +kernel)⟩
  | bl b => exact ⟨_, .base (.bl b), kit_ty (r := true) (by decide +kernel)⟩
  | int i h => exact ⟨_, .base (.int i), kit_ty (r := false) (by decide +kernel)⟩
  | str z => exact ⟨_, .base (.str z), kit_ty (r := false) (by decide +kernel)⟩
  | lst e => exact ⟨_, .base (.lst e), kit_ty (r := false) (by decide +kernel)⟩
  | tup e => exact ⟨_, .base (.tup e), kit_ty (r := false) (by decide +kernel)⟩
  | dK e => exact ⟨_, .base (.dK e), kit_ty (r := false) (by decide +kernel)⟩
theorem ty_str {K : PySem.W.Frag} {H : Hp} {v : V} (g : Item H v) : ∃ t, TyX K H v t ∧ PySem.W.kitOne K t (.type "str") = some (issB v) := by
  cases g with
  | non  => exact ⟨_, .base .non, kit_ty (r := false) (by decide +kernel)⟩
  | bl b => exact ⟨_, .base (.bl b), kit_ty (r := false) (by decide +kernel)⟩
  | int i h => exact ⟨_, .base (.int i), kit_ty (r := false) (by decide +kernel)⟩
  | str z => exact ⟨_, .base (.str z), kit_ty (r := true) (by decide +kernel)⟩
  | lst e => exact ⟨_, .base (.lst e), kit_ty (r := false) (by decide +kernel)⟩
  | tup e => exact ⟨_, .base (.tup e), kit_ty (r := false) (by decide +kernel)⟩
  | dK e => exact ⟨_, .base (.dK e), kit_ty (r := false) (by decide +kernel)⟩
theorem ty_tuple {K : PySem.W.Frag} {H : Hp} {v : V} (g : Item H v) : ∃ t, TyX K H v t ∧ PySem.W.kitOne K t (.type "tuple") = some (tupB H v) := by
  cases g with
  | non  => exact ⟨_, .base .non, kit_ty (r := false) (by decide +kernel)⟩
  | bl b => exact ⟨_, .base (.bl b), kit_ty (r := false) (by decide +kernel)⟩
  | int i h => exact ⟨_, .base (.int i), kit_ty (r := false) (by decide +kernel)⟩
  | str z => exact ⟨_, .base (.str z), kit_ty (r := false) (by decide +kernel)⟩
  | lst e => exact ⟨_, .base (.lst e), by simp only [tupB, e]; exact kit_ty (r := false) (by decide +kernel)⟩
  | tup e => exact ⟨_, .base (.tup e), by simp only [tupB, e]; exact kit_ty (r := true) (by decide +kernel)⟩
  | dK e => exact ⟨_, .base (.dK e), by simp only [tupB, e]; exact kit_ty (r := false) (by decide +kernel)⟩
section
variable {P : Program} {w : World} {K : PySem.W.Frag} {mg : Str → Option Value} {base : Heap}
/-! ### the program's defs -/
/-- letters alone, told by the three methods of strings -/
theorem let_low : ∀ c, c < 128 → (PySem.Unicode.isAlpha c && !(PySem.Unicode.isUpper c || PySem.Unicode.isTitle c)) = decide (c ∈ LET.cps.toList) := by decide +kernel
theorem let_small : ∀ c ∈ LET.cps.toList, c < 128 := by decide +kernel
theorem low_low : ∀ c ∈ LET.cps.toList, PySem.Unicode.isLower c = true := by decide +kernel
theorem nameB_met {z : Str} (h1 : 1 ≤ z.length) (h8 : z.length ≤ 8) : nameB (.str z) = (Txt.isascii z && Txt.isalpha z && Txt.islower z) := by
  rw [nameB_str, decide_eq_true (show 1 ≤ (z.length : Int) by omega), decide_eq_true (show (z.length : Int) ≤ 8 by omega), Bool.true_and, Bool.true_and]
  show _ = (z.cps.all (fun c => decide (c < 128)) && (decide (z.length > 0) && z.cps.all PySem.Unicode.isAlpha) && (z.cps.any PySem.Unicode.isLower && !z.cps.any fun c => PySem.Unicode.isUpper c || PySem.Unicode.isTitle c))
  rw [decide_eq_true (show z.length > 0 by omega), Bool.true_and, ← Array.all_toList, ← Array.all_toList, ← Array.any_toList, ← Array.any_toList, Bool.eq_iff_iff]
  simp only [Bool.and_eq_true, List.all_eq_true, Bool.not_eq_true', List.any_eq_false, List.any_eq_true, decide_eq_true_eq]
  constructor
  · intro h
    have h0 : ∀ c ∈ z.cps.toList, (PySem.Unicode.isAlpha c && !(PySem.Unicode.isUpper c || PySem.Unicode.isTitle c)) = true := fun c hc => by
      rw [let_low c (let_small c (h c hc))]
      exact decide_eq_true (h c hc)
    refine ⟨⟨fun c hc => let_small c (h c hc), fun c hc => (Bool.and_eq_true _ _ ▸ h0 c hc).1⟩, ?_, fun c hc => ?_⟩
    · have hz : 0 < z.cps.toList.length := by
        rw [Array.length_toList]
        exact h1
      exact ⟨z.cps.toList[0], List.getElem_mem hz, low_low _ (h _ (List.getElem_mem hz))⟩
    · have k := h0 c hc
      rw [Bool.and_eq_true] at k
      have k2 := nb k.2
      rw [k2]
      exact Bool.false_ne_true
  · rintro ⟨⟨h1, h2⟩, _, h3⟩ c hc
    have k := let_low c (h1 c hc)
    have k3 : (PySem.Unicode.isUpper c || PySem.Unicode.isTitle c) = false := nt (h3 c hc)
    rw [h2 c hc, k3] at k
    exact of_decide_eq_true k.symm
def sp_is_name (K : PySem.W.Frag) : Sp := fun vs H Q _ => ∃ v, vs = [v] ∧ Good H v ∧ ∀ H', Same H H' → Q (.bl (nameB v)) H'
theorem ok_is_name (T : Txt K mg) : FnOk P w K mg base CX0 1 T.a_is_name T.fd_is_name ["value"] (sp_is_name K) := by
  refine T.F_is_name.ok sc_is_name (fun vs H Q E h => ?_) (fun cdv A outer s H vs Q E hr h => ?_)
  · obtain ⟨v, rfl, _⟩ := h
    rfl
  · obtain ⟨v, rfl, hv, q⟩ := h
    refine ⟨_, (pss_cons (ps_if (PW.pt (pw_or (pt_not (pt_val (pe_callB call_isi (by rfl) T.n_isinstance (by decide +kernel) (pa_cons (pv 0) (pa_cons (pe_bltn (v := .ty "str") (by rfl) T.n_str (by decide +kernel) rfl) pa_nil))))) (pw_or1 (pt_not (pt_chain op_le op_le pe_int (pe_callB call_len_str (by rfl) T.n_len (by decide +kernel) (pa_cons (pv 0) pa_nil)) (pe_glob (v := .int 8) rfl T.m_LONGEST_NAME ⟨_, rfl⟩)))))) (pss_one (ps_ret pe_bl)) pss_nil)
      (pss_one (ps_ret (pe_and (pe_bm0 PySem.F.plainAttrs_str PySem.F.slot_str_isascii PySem.F.type_str_isascii mt_isascii (pv 0)) (pe_and (pe_bm0 PySem.F.plainAttrs_str PySem.F.slot_str_isalpha PySem.F.type_str_isalpha mt_isalpha (pv 0)) (pe_one (pe_bm0 PySem.F.plainAttrs_str PySem.F.slot_str_islower PySem.F.type_str_islower mt_islower (pv 0)))))))), ?_⟩
    obtain ⟨t, ht, hk⟩ := ty_str (K := K) hv.item
    refine ⟨v, rfl, v, .ty "str", t, _, _, rfl, .ty "str", ht, hk, _, rfl, ?_⟩
    cases hv with
    | str z hz =>
      refine iteF ⟨.str z, rfl, z, rfl, sz_of (by omega), 1, (z.length : Int), rfl, rfl, _, rfl, ite2 (fun e1 => ?_) (fun e1 => ?_)⟩
      · refine ⟨_, _, rfl, rfl, _, rfl, ite2 (fun e2 => ?_) (fun e2 => ?_)⟩
        · have n : nameB (.str z) = false := by
            have e3 : decide ((z.length : Int) ≤ 8) = false := nb e2
            rw [nameB_str, e3, Bool.and_false, Bool.false_and]
          have r := q H (.refl H)
          rw [n] at r
          exact r
        · have h1 : 1 ≤ (z.length : Int) := of_decide_eq_true e1
          have h8 : (z.length : Int) ≤ 8 := of_decide_eq_true (nnb e2)
          have r := q H (.refl H)
          rw [nameB_met (by omega) (by omega)] at r
          refine ⟨.str z, rfl, rfl, z, rfl, rfl, trivial, _, rfl, ite2 (fun e3 => ?_) (fun e3 => ?_)⟩
          · rw [e3, Bool.true_and] at r
            refine ⟨.str z, rfl, rfl, z, rfl, rfl, trivial, _, rfl, ite2 (fun e4 => ?_) (fun e4 => ?_)⟩
            · rw [e4, Bool.true_and] at r
              exact ⟨.str z, rfl, rfl, z, rfl, rfl, trivial, r⟩
            · have e5 : Txt.isalpha z = false := nt e4
              rw [e5, Bool.false_and] at r
              exact r
          · have e5 : Txt.isascii z = false := nt e3
            rw [e5, Bool.false_and, Bool.false_and] at r
            exact r
      · refine ⟨_, rfl, iteT ?_⟩
        have n : nameB (.str z) = false := by
          have e3 : decide (1 ≤ (z.length : Int)) = false := nt e1
          rw [nameB_str, e3]
          rfl
        have r := q H (.refl H)
        rw [n] at r
        exact r
    | _ => exact iteT (q H (.refl H))
def sp_is_whole (K : PySem.W.Frag) : Sp := fun vs H Q _ => ∃ v, vs = [v] ∧ Item H v ∧ Q (.bl (wholeB v)) H
theorem ok_is_whole (T : Txt K mg) : FnOk P w K mg base CX0 1 T.a_is_whole T.fd_is_whole ["value"] (sp_is_whole K) := by
  refine T.F_is_whole.ok sc_is_whole (fun vs H Q E h => ?_) (fun cdv A outer s H vs Q E hr h => ?_)
  · obtain ⟨v, rfl, _⟩ := h
    rfl
  · obtain ⟨v, rfl, hv, q⟩ := h
    refine ⟨_, (pss_one (ps_ret (pe_and (pe_callB call_isi (by rfl) T.n_isinstance (by decide +kernel) (pa_cons (pv 0) (pa_cons (pe_bltn (v := .ty "int") (by rfl) T.n_int (by decide +kernel) rfl) pa_nil))) (pe_one (pe_not (pe_callB call_isi (by rfl) T.n_isinstance (by decide +kernel) (pa_cons (pv 0) (pa_cons (pe_bltn (v := .ty "bool") (by rfl) T.n_bool (by decide +kernel) rfl) pa_nil)))))))), ?_⟩
    obtain ⟨t, ht, hk⟩ := ty_int (K := K) hv
    obtain ⟨t2, ht2, hk2⟩ := ty_bool (K := K) hv
    refine ⟨v, rfl, v, .ty "int", t, _, _, rfl, .ty "int", ht, hk, _, rfl, ?_⟩
    cases hv with
    | int i hi => exact iteT ⟨.int i, rfl, .int i, .ty "bool", t2, _, _, rfl, .ty "bool", ht2, hk2, _, rfl, q⟩
    | bl b => exact iteT ⟨.bl b, rfl, .bl b, .ty "bool", t2, _, _, rfl, .ty "bool", ht2, hk2, _, rfl, q⟩
    | _ => exact iteF q
def sp_is_wholeI (K : PySem.W.Frag) : Sp := fun vs H Q _ => ∃ i : Int, vs = [.int i] ∧ Q (.bl true) H
theorem ok_is_wholeI (T : Txt K mg) : FnOk P w K mg base CX0 1 T.a_is_whole T.fd_is_whole ["value"] (sp_is_wholeI K) := by
  refine T.F_is_whole.ok sc_is_whole (fun vs H Q E h => ?_) (fun cdv A outer s H vs Q E hr h => ?_)
  · obtain ⟨i, rfl, _⟩ := h
    rfl
  · obtain ⟨i, rfl, q⟩ := h
    refine ⟨_, (pss_one (ps_ret (pe_and (pe_callB call_isi (by rfl) T.n_isinstance (by decide +kernel) (pa_cons (pv 0) (pa_cons (pe_bltn (v := .ty "int") (by rfl) T.n_int (by decide +kernel) rfl) pa_nil))) (pe_one (pe_not (pe_callB call_isi (by rfl) T.n_isinstance (by decide +kernel) (pa_cons (pv 0) (pa_cons (pe_bltn (v := .ty "bool") (by rfl) T.n_bool (by decide +kernel) rfl) pa_nil)))))))), ?_⟩
    have t1 : TyX K H (.int i) (.type "int") := .base (.int i)
    exact ⟨.int i, rfl, .int i, .ty "int", _, _, true, rfl, .ty "int", t1, kit_ty (by decide +kernel), _, rfl, iteT ⟨.int i, rfl, .int i, .ty "bool", _, _, false, rfl, .ty "bool", t1, kit_ty (by decide +kernel), _, rfl, q⟩⟩
theorem rowB_of {H : Hp} {a : Addr} {xs : List V} (e : H a = some (.tup xs)) : rowB H (.ref a) = rowL xs := by
  unfold rowB
  simp only [e]
/-- what is asked of a row, by the one who goes through it -/
def sp_is_row (K : PySem.W.Frag) : Sp := fun vs H Q _ => ∃ v, vs = [v] ∧ Good H v ∧ ∀ H', Same H H' → Q (.bl (rowB H v)) H'
theorem ok_is_row (T : Txt K mg) : FnOk P w K mg base CX0 3 T.a_is_row T.fd_is_row ["value"] (sp_is_row K) := by
  refine T.F_is_row.ok sc_is_row (fun vs H Q E h => ?_) (fun cdv A outer s H vs Q E hr h => ?_)
  · obtain ⟨v, rfl, _⟩ := h
    rfl
  · obtain ⟨v, rfl, hv, q⟩ := h
    refine ⟨_, (pss_cons (ps_if (PW.pt (pw_or (pt_not (pt_val (pe_callB call_isi (by rfl) T.n_isinstance (by decide +kernel) (pa_cons (pv 0) (pa_cons (pe_bltn (v := .ty "tuple") (by rfl) T.n_tuple (by decide +kernel) rfl) pa_nil))))) (pw_or1 (pt_not (pt_chain op_le op_le pe_int (pe_callB call_len_seq (by rfl) T.n_len (by decide +kernel) (pa_cons (pv 0) pa_nil)) (pe_glob (v := .int 4) rfl T.m_WIDEST_ROW ⟨_, rfl⟩)))))) (pss_one (ps_ret pe_bl)) pss_nil)
      (pss_cons (ps_for PassesOwn.never rfl (pi_tup (pv 0)) (pg_name (i := 1) sc_is_row.nd rfl (.inl rfl)) (pss_one (ps_if (PW.pt (pw_or (pt_not (pt_val (pe_callB call_isi (by rfl) T.n_isinstance (by decide +kernel) (pa_cons (pv 1) (pa_cons (pe_bltn (v := .ty "int") (by rfl) T.n_int (by decide +kernel) rfl) pa_nil))))) (pw_or (pt_val (pe_callB call_isi (by rfl) T.n_isinstance (by decide +kernel) (pa_cons (pv 1) (pa_cons (pe_bltn (v := .ty "bool") (by rfl) T.n_bool (by decide +kernel) rfl) pa_nil)))) (pw_or1 (pt_not (pt_chain op_lt op_lt (pe_glob (v := .int (-100000000000000000000)) rfl T.m_TOO_SMALL ⟨_, rfl⟩) (pv 1) (pe_glob (v := .int 100000000000000000000) rfl T.m_TOO_GREAT ⟨_, rfl⟩))))))) (pss_one (ps_ret pe_bl)) pss_nil)))
      (pss_one (ps_ret pe_bl)))), ?_⟩
    obtain ⟨t, ht, hk⟩ := ty_tuple (K := K) hv.item
    refine ⟨v, rfl, v, .ty "tuple", t, _, _, rfl, .ty "tuple", ht, hk, _, rfl, ?_⟩
    cases hv with
    | @tup a xs ea hx =>
      have nr := rowB_of ea
      have tb : tupB H (.ref a) = true := by
        unfold tupB
        simp only [ea]
      rw [tb]
      refine iteF ⟨.ref a, rfl, a, xs, rfl, .inr (.of ea), 1, (xs.length : Int), rfl, rfl, _, rfl, ite2 (fun e1 => ?_) (fun e1 => ?_)⟩
      · refine ⟨_, _, rfl, rfl, _, rfl, ite2 (fun e2 => ?_) (fun e2 => ?_)⟩
        · have e3 : decide ((xs.length : Int) ≤ 4) = false := nb e2
          have r := q H (.refl H)
          rw [nr] at r
          unfold rowL at r
          rw [e3, Bool.and_false, Bool.false_and] at r
          exact r
        · have e3 : decide ((xs.length : Int) ≤ 4) = true := nnb e2
          have r := q H (.refl H)
          rw [nr] at r
          unfold rowL at r
          rw [e1, e3, Bool.true_and, Bool.true_and] at r
          refine ⟨.ref a, rfl, a, rfl, ⟨_, .of ea⟩, for_tup (K := K) (a := a) (xs := xs) (fun i σ H1 => H1 = H ∧ (xs.take i).all intB = true ∧ ∃ y, σ = [some (.ref a), y]) ⟨rfl, rfl, _, rfl⟩ (fun i σ H1 _ h => by rw [h.1]; exact .of ea) (fun i x σ H1 ex h => ?_) (fun σ H1 h => ?_)⟩
          · obtain ⟨rfl, ha, y, rfl⟩ := h
            have mx := List.mem_of_getElem? ex
            have hxx := hx x mx
            have st : (xs.take (i + 1)).all intB = ((xs.take i).all intB && intB x) := by
              rw [List.take_add_one, ex, List.all_append]
              simp
            have no : intB x = false → Q (.bl false) H1 := fun e => by
              have e9 : xs.all intB = false := by
                rw [List.all_eq_false]
                exact ⟨x, mx, by rw [e]; exact Bool.false_ne_true⟩
              rw [e9] at r
              exact r
            obtain ⟨t, ht, hk⟩ := ty_int (K := K) hxx
            obtain ⟨t2, ht2, hk2⟩ := ty_bool (K := K) hxx
            refine ⟨x, rfl, x, .ty "int", t, _, _, rfl, .ty "int", ht, hk, _, rfl, ?_⟩
            cases x with
            | int j =>
              refine iteF ⟨.int j, rfl, .int j, .ty "bool", t2, _, _, rfl, .ty "bool", ht2, hk2, _, rfl, iteF ⟨.int j, rfl, _, _, rfl, rfl, _, rfl, ite2 (fun c1 => ?_) (fun c1 => ?_)⟩⟩
              · refine ⟨_, _, rfl, rfl, _, rfl, ite2 (fun c2 => ?_) (fun c2 => ?_)⟩
                · refine no ?_
                  rw [intB_int, c1, Bool.true_and]
                  exact nb c2
                · refine ⟨rfl, ?_, _, rfl⟩
                  rw [st, ha, Bool.true_and, intB_int, c1, Bool.true_and]
                  exact nnb c2
              · refine ⟨_, rfl, iteT (no ?_)⟩
                have c3 : decide (-100000000000000000000 < j) = false := nt c1
                rw [intB_int, c3, Bool.false_and]
            | bl b => exact iteF ⟨.bl b, rfl, .bl b, .ty "bool", t2, _, _, rfl, .ty "bool", ht2, hk2, _, rfl, iteT (no rfl)⟩
            | _ => exact iteT (no rfl)
          · obtain ⟨rfl, ha, y, rfl⟩ := h
            rw [List.take_length] at ha
            rw [ha] at r
            exact r
      · refine ⟨_, rfl, iteT ?_⟩
        have e3 : decide (1 ≤ (xs.length : Int)) = false := nt e1
        have r := q H (.refl H)
        rw [nr] at r
        unfold rowL at r
        rw [e3, Bool.false_and, Bool.false_and] at r
        exact r
    | @lst a xs e =>
      have tb : tupB H (.ref a) = false := by
        unfold tupB
        simp only [e]
      rw [tb]
      have r := q H (.refl H)
      unfold rowB at r
      simp only [e] at r
      exact iteT r
    | @dK a xs e =>
      have tb : tupB H (.ref a) = false := by
        unfold tupB
        simp only [e]
      rw [tb]
      have r := q H (.refl H)
      unfold rowB at r
      simp only [e] at r
      exact iteT r
    | _ => exact iteT (q H (.refl H))
end
-- SPLIT
/-! ### the program's tables -/
theorem names_ok : (LET.cps.toList.all fun c => decide (c < 0x110000)) = true := by decide +kernel
theorem name_str {z : Str} (h : nameB (.str z) = true) : PyData.strOk z = true := by
  rw [nameB_str, Bool.and_eq_true, Bool.and_eq_true] at h
  unfold PyData.strOk
  rw [← Array.all_toList, List.all_eq_true]
  intro c hc
  have a := of_decide_eq_true (List.all_eq_true.mp h.2 c hc)
  exact List.all_eq_true.mp names_ok c a
theorem name_len {z : Str} (h : nameB (.str z) = true) : z.length ≤ 1000 := by
  rw [nameB_str, Bool.and_eq_true, Bool.and_eq_true] at h
  have a := of_decide_eq_true h.1.2
  omega
theorem sqt_ty {K : PySem.W.Frag} {H : Hp} {a : Addr} {xs : List V} (h : SqT K H a xs) : TyX K H (.ref a) (.type "tuple") := by
  rcases h with (h | ⟨o, h⟩) | ⟨o, its, n, h1, h2, _⟩
  · exact .base (.tup h)
  · exact .fTuple h
  · exact .kTuple h1 h2
theorem kit_tt {K : PySem.W.Frag} : PySem.W.kitOne K (.type "tuple") (.type "tuple") = some true := kit_ty (by decide +kernel)
/-- a column of a table of the width w; a tuple of them -/
def colB (w : Int) : V → Bool
  | .int i => decide (0 ≤ i) && decide (i < w)
  | _ => false
def colsL (w : Int) (xs : List V) : Bool := decide (1 ≤ (xs.length : Int)) && decide ((xs.length : Int) ≤ 4) && xs.all (colB w)
def intOf : V → Int
  | .int i => i
  | _ => 0
/-- .. ascending -/
def ascL (w : Int) (xs : List V) : Bool := colsL w xs && decide ((xs.map intOf).Pairwise (· < ·))
def keyOk (w : Int) (c : List Int) : Prop := ascL w (c.map V.int) = true
def refOk (w : Int) (r : Rf) : Prop := colsL w (r.1.map V.int) = true ∧ nameB (.str r.2) = true
theorem ints_of : ∀ {xs : List V} {w : Int}, xs.all (colB w) = true → xs = (xs.map intOf).map V.int
  | [], _, _ => rfl
  | x :: xs, w, h => by
    rw [List.all_cons, Bool.and_eq_true] at h
    rw [List.map_cons, List.map_cons, ← ints_of h.2]
    cases x with
    | int i => rfl
    | _ => exact absurd h.1 Bool.false_ne_true
structure POk (p : Parts) : Prop where
  nm : nameB (.str p.nm) = true
  w1 : 1 ≤ p.wd
  w4 : p.wd ≤ 4
  key : ∀ c, p.key = some c → keyOk p.wd c
  sc : p.sc = "living" ∨ p.sc = "all" ∧ p.key ≠ none
  r4 : p.refs.length ≤ 4
  rk : ∀ r ∈ p.refs, refOk p.wd r
  nd : p.refs.Nodup
/-- a tuple's items | a value that is no tuple -/
def TupOr (K : PySem.W.Frag) (H : Hp) (v : V) (A : List V → Prop) (B : Prop) : Prop := (∃ a xs, v = .ref a ∧ SqT K H a xs ∧ (∀ x ∈ xs, Item H x) ∧ A xs) ∨ (Good H v ∧ tupB H v = false ∧ B)
section
variable {P : Program} {w : World} {K : PySem.W.Frag} {mg : Str → Option Value} {base : Heap}
/-- isinstance(v, tuple) -/
theorem tupOr_ty {H : Hp} {v : V} {A : List V → Prop} {B : Prop} (h : TupOr K H v A B) : ∃ t b, TyX K H v t ∧ PySem.W.kitOne K t (.type "tuple") = some b ∧ ((b = true ∧ ∃ a xs, v = .ref a ∧ SqT K H a xs ∧ (∀ x ∈ xs, Item H x) ∧ A xs) ∨ (b = false ∧ B)) := by
  rcases h with ⟨a, xs, rfl, ht, hi, hA⟩ | ⟨g, e, hB⟩
  · exact ⟨_, true, sqt_ty ht, kit_tt, .inl ⟨rfl, a, xs, rfl, ht, hi, hA⟩⟩
  · obtain ⟨t, ht, hk⟩ := ty_tuple (K := K) g.item
    rw [e] at hk
    exact ⟨t, false, ht, hk, .inr ⟨rfl, hB⟩⟩
def sp_is_width (K : PySem.W.Frag) : Sp := fun vs H Q _ => ∃ i : Int, vs = [.int i] ∧ Q (.bl (decide (1 ≤ i) && decide (i ≤ 4))) H
theorem ok_is_width (T : Txt K mg) : FnOk P w K mg base CX0 2 T.a_is_width T.fd_is_width ["value"] (sp_is_width K) := by
  have G_is_whole : FnOk P w K mg base CX0 1 T.a_is_whole T.fd_is_whole ["value"] (sp_is_wholeI K) := ok_is_wholeI T
  refine T.F_is_width.ok sc_is_width (fun vs H Q E h => ?_) (fun cdv A outer s H vs Q E hr h => ?_)
  · obtain ⟨i, rfl, _⟩ := h
    rfl
  · obtain ⟨i, rfl, q⟩ := h
    refine ⟨_, (pss_one (ps_ret (pe_and (pe_call G_is_whole (hr.mono (by decide)) (by rfl) T.g_is_whole T.F_is_whole.kp T.b_is_whole .nil pass0 (pa_cons (pv 0) pa_nil)) (pe_one (pe_chain op_le op_le pe_int (pv 0) (ClX.pe_cval (pe_glob (v := .ref T.c_Table) rfl T.g_Table rfl))))))), ?_⟩
    refine ⟨.int i, rfl, i, rfl, _, rfl, iteT ⟨.int i, rfl, 1, i, rfl, rfl, _, rfl, ite2 (fun e1 => ?_) (fun e1 => ?_)⟩⟩
    · rw [e1, Bool.true_and] at q
      exact ⟨T.c_Table, T.mc_Table, .int 4, _, rfl, T.rd_Table, ⟨T.v_Table_MAX_WIDTH, _, rfl⟩, i, 4, rfl, rfl, q⟩
    · have e2 : decide (1 ≤ i) = false := nt e1
      rw [e2, Bool.false_and] at q
      exact q
def sp_are_columns (K : PySem.W.Frag) : Sp := fun vs H Q _ => ∃ (v : V) (n : Int), vs = [v, .int n] ∧ TupOr K H v (fun xs => ∀ H', Same H H' → Q (.bl (colsL n xs)) H') (Q (.bl false) H)
theorem ok_are_columns (T : Txt K mg) : FnOk P w K mg base CX0 2 T.a_are_columns T.fd_are_columns ["value", "width"] (sp_are_columns K) := by
  have G_is_whole : FnOk P w K mg base CX0 1 T.a_is_whole T.fd_is_whole ["value"] (sp_is_whole K) := ok_is_whole T
  refine T.F_are_columns.ok sc_are_columns (fun vs H Q E h => ?_) (fun cdv A outer s H vs Q E hr h => ?_)
  · obtain ⟨v, n, rfl, _⟩ := h
    rfl
  · obtain ⟨v, n, rfl, hv⟩ := h
    refine ⟨_, (pss_cons (ps_if (PW.pt (pw_or (pt_not (pt_val (pe_callB call_isi (by rfl) T.n_isinstance (by decide +kernel) (pa_cons (pv 0) (pa_cons (pe_bltn (v := .ty "tuple") (by rfl) T.n_tuple (by decide +kernel) rfl) pa_nil))))) (pw_or1 (pt_not (pt_chain op_le op_le pe_int (pe_callB call_len_seq (by rfl) T.n_len (by decide +kernel) (pa_cons (pv 0) pa_nil)) (pe_glob (v := .int 4) rfl T.m_MOST_COLUMNS ⟨_, rfl⟩)))))) (pss_one (ps_ret pe_bl)) pss_nil)
      (pss_one (ps_ret (pe_callB (cr_all rfl) (by rfl) T.n_all (by decide +kernel) (pa_cons (pe_lc (own := [("column", 2)]) (g := gName 2) (tt := tYes) rfl sc_are_columns.nd (pi_tup (pv 0)) (blkOk_by (N := ["value", "width", "column"]) (sc := defScope s_are_columns) (by decide +kernel)) (fun _ _ _ _ _ => pg_name (i := 2) sc_are_columns.nd rfl (Or.inl rfl)) (fun _ _ _ _ _ => pts_nil) (fun _ _ _ _ _ => (pe_and (pe_call G_is_whole (hr.mono (by decide)) (by rfl) T.g_is_whole T.F_is_whole.kp T.b_is_whole .nil pass0 (pa_cons (pv 2) pa_nil)) (pe_one (pe_chain op_le op_lt pe_int (pv 2) (pv 1)))))) pa_nil))))), ?_⟩
    obtain ⟨t, b, ht, hk, hb⟩ := tupOr_ty hv
    refine ⟨v, rfl, v, .ty "tuple", t, _, b, rfl, .ty "tuple", ht, hk, _, rfl, ?_⟩
    rcases hb with ⟨rfl, a, xs, rfl, hs, hi, q⟩ | ⟨rfl, q⟩
    · refine iteF ⟨.ref a, rfl, a, xs, rfl, .inr hs, 1, (xs.length : Int), rfl, rfl, _, rfl, ite2 (fun e1 => ?_) (fun e1 => ?_)⟩
      · refine ⟨_, _, rfl, rfl, _, rfl, ite2 (fun e2 => ?_) (fun e2 => ?_)⟩
        · have e3 : decide ((xs.length : Int) ≤ 4) = false := nb e2
          have r := q H (.refl H)
          unfold colsL at r
          rw [e3, Bool.and_false, Bool.false_and] at r
          exact r
        · have e3 : decide ((xs.length : Int) ≤ 4) = true := nnb e2
          have e4 : (xs.length : Int) ≤ 4 := of_decide_eq_true e3
          refine ⟨.ref a, rfl, a, rfl, ⟨_, hs⟩, fun D hD => lc_pure (walk_tup (xs := xs)) hD xs id (fun _ => true) (fun x => .bl (colB n x)) rfl (by omega) (by decide) (fun H1 s => mv_same s _ _ hs) (fun i H1 x H' s y => ?_)
            (fun c H1 hc s Q h => h H1 (.refl H1)) (fun c H1 hc _ s Q h => ?_) (fun x => rfl) (fun H1 s e => ⟨D, xs.map (colB n), rfl, .of ?_, ?_⟩)⟩
          · obtain ⟨rfl, hc⟩ := y
            exact ⟨rfl, x, hc, rfl⟩
          · have r := h H1 (.refl H1)
            refine ⟨c, rfl, c, rfl, (hi c hc).same s, _, rfl, ?_⟩
            cases c with
            | int i =>
              refine iteT ⟨.int i, rfl, 0, i, rfl, rfl, _, rfl, ite2 (fun f1 => ?_) (fun f1 => ?_)⟩
              · have r2 : Q (.bl (decide (0 ≤ i) && decide (i < n))) H1 := r
                rw [f1, Bool.true_and] at r2
                exact ⟨_, rfl, i, n, rfl, rfl, r2⟩
              · have r2 : Q (.bl (decide (0 ≤ i) && decide (i < n))) H1 := r
                have f2 : decide (0 ≤ i) = false := nt f1
                rw [f2, Bool.false_and] at r2
                exact r2
            | _ => exact iteF r
          · rw [e, filt_all, List.map_map]
            rfl
          · have r := q H1 s
            unfold colsL at r
            rw [e1, e3, Bool.true_and, Bool.true_and] at r
            rw [List.all_map]
            exact r
      · refine ⟨_, rfl, iteT ?_⟩
        have e3 : decide (1 ≤ (xs.length : Int)) = false := nt e1
        have r := q H (.refl H)
        unfold colsL at r
        rw [e3, Bool.false_and, Bool.false_and] at r
        exact r
    · exact iteT q
def sp_is_ascending (K : PySem.W.Frag) : Sp := fun vs H Q _ => ∃ (v : V) (n : Int), vs = [v, .int n] ∧ TupOr K H v (fun xs => ∀ H', Same H H' → Q (.bl (ascL n xs)) H') (Q (.bl false) H)
theorem ok_is_ascending (T : Txt K mg) : FnOk P w K mg base CX0 3 T.a_is_ascending T.fd_is_ascending ["value", "width"] (sp_is_ascending K) := by
  have G_are_columns : FnOk P w K mg base CX0 2 T.a_are_columns T.fd_are_columns ["value", "width"] (sp_are_columns K) := ok_are_columns T
  refine T.F_is_ascending.ok sc_is_ascending (fun vs H Q E h => ?_) (fun cdv A outer s H vs Q E hr h => ?_)
  · obtain ⟨v, n, rfl, _⟩ := h
    rfl
  · obtain ⟨v, n, rfl, hv⟩ := h
    refine ⟨_, (pss_one (ps_ret (pe_and (pe_call G_are_columns (hr.mono (by decide)) (by rfl) T.g_are_columns T.F_are_columns.kp T.b_are_columns .nil pass0 (pa_cons (pv 0) (pa_cons (pv 1) pa_nil))) (pe_one (pe_cmpR (op_eqD hr.units) (pe_callTy call_list_of (by rfl) T.n_list (by decide +kernel) (pa_cons (pv 0) pa_nil)) (pe_callB (cr_sortedSet rfl) (by rfl) T.n_sorted (by decide +kernel) (pa_cons (pe_callTy (NS.cr_setTI rfl) (by rfl) T.n_set (by decide +kernel) (pa_cons (pv 0) pa_nil)) pa_nil)) (nomark _)))))), ?_⟩
    refine ⟨v, rfl, .int n, rfl, v, n, rfl, ?_⟩
    rcases hv with ⟨a, xs, rfl, hs, hi, q⟩ | ⟨g, e, q⟩
    · refine .inl ⟨a, xs, rfl, hs, hi, fun H1 s1 => ⟨_, rfl, ite2 (fun e1 => ?_) (fun e1 => ?_)⟩⟩
      · have e2 : colsL n xs = true := e1
        have e3 := e2
        unfold colsL at e3
        rw [Bool.and_eq_true, Bool.and_eq_true] at e3
        have l4 : (xs.length : Int) ≤ 4 := of_decide_eq_true e3.1.2
        have ex := ints_of e3.2
        have e5 : ascL n xs = decide ((xs.map intOf).Pairwise (· < ·)) := by
          unfold ascL
          rw [e2, Bool.true_and]
        rw [e5] at q
        generalize xs.map intOf = ns at ex q
        subst ex
        rw [List.length_map] at l4
        have hs1 := mv_same s1 _ _ hs
        refine ⟨.ref a, rfl, a, _, rfl, .inr hs1, fun l hl => ?_⟩
        have s2 : Same H1 (upd H1 l (.lst (ns.map V.int))) := same_upd hl
        refine ⟨.ref a, rfl, a, ns, rfl, mv_same s2 _ _ hs1, by omega, fun S c hS hc => ?_⟩
        have s3 := snew (o := SetO w S (fun j => decide (j ∈ ns)) c) s2 hS
        refine ⟨S, fun j => decide (j ∈ ns), c, rfl, upd_same, by omega, fun ms p h1 h2 h3 hp => ?_⟩
        have s4 := snew (o := .lst (ms.map V.int)) s3 hp
        refine ⟨.list (ns.map PyData.int), .list (ms.map PyData.int), .lst (.of (snew (snew (Same.refl _) hS) hp _ _ upd_same)) (dps_ints ns), .lst (.of upd_same) (dps_ints ms), shL_ints ns, shL_ints ms, ?_⟩
        have e6 : PyData.eqv (.list (ns.map PyData.int)) (.list (ms.map PyData.int)) = decide (ns.Pairwise (· < ·)) := by
          rw [PyData.eqv, eqvAll_ints]
          exact NS.asc_iff h1 fun k => by
            rw [h2 k, decide_eq_true_eq]
        rw [e6]
        exact q _ (s1.trans s4)
      · have e2 : colsL n xs = false := nt e1
        have r := q H1 s1
        unfold ascL at r
        rw [e2, Bool.false_and] at r
        exact r
    · exact .inr ⟨g, e, _, rfl, iteF q⟩
end
-- SPLIT
section
variable {P : Program} {w : World} {K : PySem.W.Frag} {mg : Str → Option Value} {base : Heap}
theorem dps_ints_inv {K : PySem.W.Frag} {H : Hp} : ∀ {ns : List Int} {ys : List V}, DpAll K H ys (ns.map PyData.int) → ys = ns.map V.int
  | [], _, h => by
    cases h
    rfl
  | n :: ns, _, h => by
    cases h with
    | cons h1 h2 =>
      cases h1
      rw [dps_ints_inv h2]
      rfl
theorem ints_inv {K : PySem.W.Frag} {H : Hp} {v : V} {ns : List Int} (h : Dp K H v (intsD ns)) : ∃ a, v = .ref a ∧ SqT K H a (ns.map V.int) := by
  unfold intsD at h
  cases h with
  | tup e a =>
    rw [dps_ints_inv a] at e
    exact ⟨_, rfl, e⟩
theorem ref_inv {K : PySem.W.Frag} {H : Hp} {v : V} {r : Rf} (h : Dp K H v (refD r)) : ∃ p q, v = .ref p ∧ SqT K H p [.ref q, .str r.2] ∧ SqT K H q (r.1.map V.int) := by
  unfold refD at h
  cases h with
  | tup e a =>
    cases a with
    | cons a1 a2 =>
      cases a2 with
      | cons a2 a3 =>
        cases a3
        cases a2
        obtain ⟨q, rfl, hq⟩ := ints_inv a1
        exact ⟨_, q, rfl, e, hq⟩
theorem refs_inv {K : PySem.W.Frag} {H : Hp} : ∀ {rs : List Rf} {ys : List V}, DpAll K H ys (rs.map refD) → ∃ ks : List (Addr × Rf), ys = ks.map (fun x => V.ref x.1) ∧ ks.map Prod.snd = rs ∧ ∀ x ∈ ks, Dp K H (.ref x.1) (refD x.2)
  | [], _, h => by
    cases h
    exact ⟨[], rfl, rfl, fun x hx => by cases hx⟩
  | r :: rs, _, h => by
    cases h with
    | cons h1 h2 =>
      obtain ⟨ks, rfl, e, hk⟩ := refs_inv h2
      obtain ⟨p, q, rfl, _⟩ := ref_inv h1
      refine ⟨(p, r) :: ks, rfl, by rw [List.map_cons, e], fun x hx => ?_⟩
      rcases List.mem_cons.mp hx with rfl | hx
      · exact h1
      · exact hk x hx
theorem item_ints {H : Hp} {w : Int} {ns : List Int} (h : colsL w (ns.map V.int) = true) (hw : w ≤ 4) : ∀ x ∈ ns.map V.int, Item H x := fun x hx => by
  unfold colsL at h
  rw [Bool.and_eq_true] at h
  have a := List.all_eq_true.mp h.2 x hx
  obtain ⟨i, _, rfl⟩ := List.mem_map.mp hx
  have b : (decide (0 ≤ i) && decide (i < w)) = true := a
  rw [Bool.and_eq_true, decide_eq_true_eq, decide_eq_true_eq] at b
  refine .int i ?_
  have c : i.natAbs < 4 := by omega
  exact Nat.lt_trans c (by decide)
theorem asc_cols {w : Int} {xs : List V} (h : ascL w xs = true) : colsL w xs = true := by
  unfold ascL at h
  rw [Bool.and_eq_true] at h
  exact h.1
def sp_is_reference (K : PySem.W.Frag) : Sp := fun vs H Q _ => ∃ (v : V) (n : Int) (r : Rf), vs = [v, .int n] ∧ Dp K H v (refD r) ∧ refOk n r ∧ n ≤ 4 ∧ ∀ H', Same H H' → Q (.bl true) H'
theorem ok_is_reference (T : Txt K mg) : FnOk P w K mg base CX0 3 T.a_is_reference T.fd_is_reference ["value", "width"] (sp_is_reference K) := by
  have G_are_columns : FnOk P w K mg base CX0 2 T.a_are_columns T.fd_are_columns ["value", "width"] (sp_are_columns K) := ok_are_columns T
  have G_is_name : FnOk P w K mg base CX0 1 T.a_is_name T.fd_is_name ["value"] (sp_is_name K) := ok_is_name T
  refine T.F_is_reference.ok sc_is_reference (fun vs H Q E h => ?_) (fun cdv A outer s H vs Q E hr h => ?_)
  · obtain ⟨v, n, r, rfl, _⟩ := h
    rfl
  · obtain ⟨v, n, r, rfl, hv, ok, h4, q⟩ := h
    refine ⟨_, (pss_one (ps_ret (pe_and (pe_callB call_isi (by rfl) T.n_isinstance (by decide +kernel) (pa_cons (pv 0) (pa_cons (pe_bltn (v := .ty "tuple") (by rfl) T.n_tuple (by decide +kernel) rfl) pa_nil))) (pe_and (pe_cmpR op_eq (pe_callB call_len_seq (by rfl) T.n_len (by decide +kernel) (pa_cons (pv 0) pa_nil)) pe_int (nomark _)) (pe_and (pe_call G_are_columns (hr.mono (by decide)) (by rfl) T.g_are_columns T.F_are_columns.kp T.b_are_columns .nil pass0 (pa_cons (pe_ix ix_tup (pv 0) pe_int (fun _ _ => rfl)) (pa_cons (pv 1) pa_nil))) (pe_one (pe_call G_is_name (hr.mono (by decide)) (by rfl) T.g_is_name T.F_is_name.kp T.b_is_name .nil pass0 (pa_cons (pe_ix ix_tup (pv 0) pe_int (fun _ _ => rfl)) pa_nil)))))))), ?_⟩
    obtain ⟨p, c, rfl, hp, hc⟩ := ref_inv hv
    refine ⟨.ref p, rfl, .ref p, .ty "tuple", _, _, true, rfl, .ty "tuple", sqt_ty hp, kit_tt, _, rfl, iteT ⟨.ref p, rfl, p, _, rfl, .inr hp, rfl, _, rfl, iteT ⟨.ref p, rfl, p, _, 0, .ref c, rfl, rfl, hp, rfl, .int n, rfl, .ref c, n, rfl, ?_⟩⟩⟩
    refine .inl ⟨c, _, rfl, hc, item_ints ok.1 h4, fun H1 s1 => ⟨_, rfl, ?_⟩⟩
    rw [ok.1]
    refine iteT ⟨.ref p, rfl, p, _, 1, .str r.2, rfl, rfl, mv_same s1 _ _ hp, rfl, .str r.2, rfl, .str _ (name_len ok.2), fun H2 s2 => ?_⟩
    rw [ok.2]
    exact q _ (s1.trans s2)
/-- the references of a table, as they are passed -/
def RefsAt (K : PySem.W.Frag) (H : Hp) (v : V) (rs : List Rf) : Prop := ∃ (p : Addr) (ks : List (Addr × Rf)), v = .ref p ∧ SqT K H p (ks.map fun x => V.ref x.1) ∧ ks.map Prod.snd = rs ∧ ∀ x ∈ ks, Dp K H (.ref x.1) (refD x.2)
theorem RefsAt.same {K : PySem.W.Frag} {H H' : Hp} {v : V} {rs : List Rf} (h : RefsAt K H v rs) (m : Mv K H H') : RefsAt K H' v rs := by
  obtain ⟨p, ks, e, hp, hk, hd⟩ := h
  exact ⟨p, ks, e, m _ _ hp, hk, fun x hx => dp_mv m _ _ (flat_ref _) (hd x hx)⟩
theorem dp_refs {K : PySem.W.Frag} {H : Hp} : ∀ {ks : List (Addr × Rf)}, (∀ x ∈ ks, Dp K H (.ref x.1) (refD x.2)) → DpAll K H (ks.map fun x => V.ref x.1) ((ks.map Prod.snd).map refD)
  | [], _ => .nil
  | k :: ks, h => .cons (h k (List.mem_cons_self ..)) (dp_refs fun x hx => h x (List.mem_cons_of_mem _ hx))
theorem RefsAt.dp {K : PySem.W.Frag} {H : Hp} {v : V} {rs : List Rf} (h : RefsAt K H v rs) : Dp K H v (.tuple (rs.map refD)) := by
  obtain ⟨p, ks, rfl, hp, rfl, hd⟩ := h
  exact .tup hp (dp_refs hd)
theorem RefsAt.of_dp {K : PySem.W.Frag} {H : Hp} {v : V} {rs : List Rf} (h : Dp K H v (.tuple (rs.map refD))) : RefsAt K H v rs := by
  cases h with
  | tup e a =>
    obtain ⟨ks, rfl, hk, hd⟩ := refs_inv a
    exact ⟨_, ks, rfl, e, hk, hd⟩
/-- the items in the order of their data -/
theorem sort_ks (ks : List (Addr × Rf)) : ∃ ks' : List (Addr × Rf), ((ks.map fun x => (V.ref x.1, refD x.2)).mergeSort (PySem.W.dataLe false Prod.snd)).map Prod.fst = ks'.map (fun x => V.ref x.1) ∧ ks'.map Prod.snd = sortR (ks.map Prod.snd) ∧ ks'.Perm ks := by
  refine ⟨ks.mergeSort fun a b => PySem.W.dataLe false refD a.2 b.2, ?_, ?_, List.mergeSort_perm _ _⟩
  · rw [← List.map_mergeSort (r := fun a b => PySem.W.dataLe false refD a.2 b.2) (f := fun x : Addr × Rf => (V.ref x.1, refD x.2)) (fun a _ b _ => rfl), List.map_map]
    rfl
  · unfold sortR
    exact List.map_mergeSort (f := Prod.snd) fun a _ b _ => rfl
/-- the items of ks, for sorted -/
theorem sort_pre {K : PySem.W.Frag} {H : Hp} {ks : List (Addr × Rf)} (hd : ∀ x ∈ ks, Dp K H (.ref x.1) (refD x.2)) : (∀ p ∈ ks.map fun x => (V.ref x.1, refD x.2), Dp K H p.1 p.2 ∧ p.2.depth ≤ 60) ∧
    PySem.W.AllAlike ((ks.map fun x => (V.ref x.1, refD x.2)).map Prod.snd) ∧ PySem.W.Sortable ((ks.map fun x => (V.ref x.1, refD x.2)).map Prod.snd) := by
  have e : (ks.map fun x => (V.ref x.1, refD x.2)).map Prod.snd = (ks.map Prod.snd).map refD := by
    rw [List.map_map, List.map_map]
    rfl
  refine ⟨fun p hp => ?_, ?_, ?_⟩
  · obtain ⟨x, hx, rfl⟩ := List.mem_map.mp hp
    exact ⟨hd x hx, by rw [depth_ref]; decide⟩
  · rw [e]
    exact PySem.W.AllAlike.of alike_refs
  · rw [e]
    exact PySem.W.Sortable.tuples fun r => ⟨_, _, rfl⟩
def sp_are_references (K : PySem.W.Frag) : Sp := fun vs H Q _ => ∃ (v : V) (n : Int) (rs : List Rf), vs = [v, .int n] ∧ RefsAt K H v rs ∧ (∀ r ∈ rs, refOk n r) ∧ n ≤ 4 ∧ rs.length ≤ 4 ∧ rs.Nodup ∧ ∀ H', Same H H' → Q (.bl true) H'
theorem ok_are_references (T : Txt K mg) : FnOk P w K mg base CX0 4 T.a_are_references T.fd_are_references ["value", "width"] (sp_are_references K) := by
  have G_is_reference : FnOk P w K mg base CX0 3 T.a_is_reference T.fd_is_reference ["value", "width"] (sp_is_reference K) := ok_is_reference T
  refine T.F_are_references.ok sc_are_references (fun vs H Q E h => ?_) (fun cdv A outer s H vs Q E hr h => ?_)
  · obtain ⟨v, n, rs, rfl, _⟩ := h
    rfl
  · obtain ⟨v, n, rs, rfl, ⟨p, ks, rfl, hp, hk, hd⟩, ok, h4, l4, nd, q⟩ := h
    refine ⟨_, (pss_cons (ps_if (PW.pt (pw_or (pt_not (pt_val (pe_callB call_isi (by rfl) T.n_isinstance (by decide +kernel) (pa_cons (pv 0) (pa_cons (pe_bltn (v := .ty "tuple") (by rfl) T.n_tuple (by decide +kernel) rfl) pa_nil))))) (pw_or1 (pt_cmpR op_gt (pe_callB call_len_seq (by rfl) T.n_len (by decide +kernel) (pa_cons (pv 0) pa_nil)) (pe_glob (v := .int 4) rfl T.m_MOST_REFERENCES ⟨_, rfl⟩) (nomark _))))) (pss_one (ps_ret pe_bl)) pss_nil)
      (pss_one (ps_ret (pe_and (pe_callB (cr_all rfl) (by rfl) T.n_all (by decide +kernel) (pa_cons (pe_lc (own := [("pair", 2)]) (g := gName 2) (tt := tYes) rfl sc_are_references.nd (pi_tup (pv 0)) (blkOk_by (N := ["value", "width", "pair"]) (sc := defScope s_are_references) (by decide +kernel)) (fun _ _ _ _ _ => pg_name (i := 2) sc_are_references.nd rfl (Or.inl rfl)) (fun _ _ _ _ _ => pts_nil) (fun _ _ _ _ _ => (pe_call G_is_reference (hr.mono (by decide)) (by rfl) T.g_is_reference T.F_is_reference.kp T.b_is_reference .nil pass0 (pa_cons (pv 2) (pa_cons (pv 1) pa_nil))))) pa_nil)) (pe_one (pe_cmpR op_eq (NS.pe_lenSetN rfl hr.units (by rfl) T.n_len (by rfl) T.n_set (pv 0)) (pe_callB call_len_seq (by rfl) T.n_len (by decide +kernel) (pa_cons (pv 0) pa_nil)) (nomark _))))))), ?_⟩
    have lk : ks.length = rs.length := by rw [← hk, List.length_map]
    refine ⟨.ref p, rfl, .ref p, .ty "tuple", _, _, true, rfl, .ty "tuple", sqt_ty hp, kit_tt, _, rfl, iteF ⟨.ref p, rfl, p, _, rfl, .inr hp, _, 4, rfl, rfl, _, rfl, ?_⟩⟩
    rw [List.length_map, decide_eq_false (by omega)]
    refine iteF ⟨.ref p, rfl, p, rfl, ⟨_, hp⟩, fun D hD => lc_pure (walk_tup (xs := ks.map fun x : Addr × Rf => V.ref x.1)) hD ks (fun x : Addr × Rf => V.ref x.1) (fun _ => true) (fun _ => .bl true) (by rw [List.length_map]) (by rw [List.length_map]; omega) (by decide) (fun H1 s => mv_same s _ _ hp) (fun i H1 x H' s y => ?_)
      (fun c H1 hc s Q h => h H1 (.refl H1)) (fun c H1 hc _ s Q h => ?_) (fun x => rfl) (fun H1 s e => ⟨D, ks.map fun _ => true, rfl, .of ?_, _, rfl, ?_⟩)⟩
    · obtain ⟨rfl, hc⟩ := y
      rw [List.getElem?_map] at hc
      obtain ⟨c, e, rfl⟩ := Option.map_eq_some_iff.mp hc
      exact ⟨rfl, c, e, rfl⟩
    · exact ⟨_, rfl, .int n, rfl, _, n, c.2, rfl, dp_mv (mv_same s) _ _ (flat_ref _) (hd c hc), ok _ (hk ▸ List.mem_map_of_mem hc), h4, h⟩
    · rw [e, filt_all, List.map_map]
      rfl
    · have all : (ks.map fun _ => true).all id = true := by
        rw [List.all_map]
        exact List.all_eq_true.mpr fun _ _ => rfl
      rw [all]
      refine iteT ⟨.ref p, rfl, p, ks.map fun x => (x.1, refK x.2), rfl, ?_, fun x hx => ?_, by rw [List.length_map]; omega, fun m hm => ⟨.ref p, rfl, p, _, rfl, .inr (mv_same s _ _ hp), ?_⟩⟩
      · rw [List.map_map]
        exact mv_same s _ _ hp
      · obtain ⟨y, hy, rfl⟩ := List.mem_map.mp hx
        rw [data_refK]
        exact ⟨dp_mv (mv_same s) _ _ (flat_ref _) (hd y hy), depth_refK _⟩
      · have n2 : ((ks.map fun x => (x.1, refK x.2)).map Prod.snd).Nodup := by
          rw [List.map_map]
          have z := nodup_refK (hk ▸ nd)
          rw [List.map_map] at z
          exact z
        rw [decide_eq_true n2, List.length_map] at hm
        have e2 := of_decide_eq_true hm
        rw [List.length_map, e2]
        refine ⟨rfl, ?_⟩
        have r := q H1 s
        rw [show decide (V.int (ks.length : Nat) = V.int (ks.length : Nat)) = true from decide_eq_true rfl]
        exact r
end
-- SPLIT
/-! making one -/
section
variable {P : Program} {w : World} {K : PySem.W.Frag} {mg : Str → Option Value} {base : Heap}
def sp_init (T : Txt K mg) : Sp := fun vs H Q _ => ∃ (x dx : Addr) (p : Parts) (kv rv : V), vs = [.ref x, .str p.nm, .int p.wd, kv, .str p.sc, rv] ∧ H x = some (.ins T.c_Table dx []) ∧ Dp K H kv (keyD p.key) ∧ RefsAt K H rv p.refs ∧ POk p ∧
  ∀ H', (∀ b o, b ≠ x → H b = some o → H' b = some o) → TabAt K T.c_Table H' (.ref x) { p with refs := sortR p.refs } → Q .non H'
theorem ok_init (T : Txt K mg) : FnOk P w K mg base CX0 5 T.a_Table_init T.fd_Table_init ["self", "name", "width", "key", "scope", "refers"] (sp_init T) := by
  have G_is_name : FnOk P w K mg base CX0 1 T.a_is_name T.fd_is_name ["value"] (sp_is_name K) := ok_is_name T
  have G_is_width : FnOk P w K mg base CX0 2 T.a_is_width T.fd_is_width ["value"] (sp_is_width K) := ok_is_width T
  have G_is_ascending : FnOk P w K mg base CX0 3 T.a_is_ascending T.fd_is_ascending ["value", "width"] (sp_is_ascending K) := ok_is_ascending T
  have G_are_references : FnOk P w K mg base CX0 4 T.a_are_references T.fd_are_references ["value", "width"] (sp_are_references K) := ok_are_references T
  refine T.F_Table_init.ok sc_Table_init (fun vs H Q E h => ?_) (fun cdv A outer s H vs Q E hr h => ?_)
  · obtain ⟨x, dx, p, kv, rv, rfl, _⟩ := h
    rfl
  · obtain ⟨x, dx, p, kv, rv, rfl, hx, hk, hR, ok, q⟩ := h
    refine ⟨_, (pss_cons (ps_if (pt_not (pt_val (pe_call G_is_name (hr.mono (by decide)) (by rfl) T.g_is_name T.F_is_name.kp T.b_is_name .nil pass0 (pa_cons (pv 1) pa_nil)))) (pss_one ps_never) pss_nil)
      (pss_cons (ps_if (pt_not (pt_val (pe_call G_is_width (hr.mono (by decide)) (by rfl) T.g_is_width T.F_is_width.kp T.b_is_width .nil pass0 (pa_cons (pv 2) pa_nil)))) (pss_one ps_never) pss_nil)
      (pss_cons (ps_if (pt_mono (PW.pt (pw_and (pt_cmpR op_notN (pv 3) pe_non (nomark _)) (pw_and1 (pt_not (pt_val (pe_call G_is_ascending (hr.mono (by decide)) (by rfl) T.g_is_ascending T.F_is_ascending.kp T.b_is_ascending .nil pass0 (pa_cons (pv 3) (pa_cons (pv 2) pa_nil))))))))) (pss_one ps_never) pss_nil)
      (pss_cons (ps_if (pt_mono (PW.pt (pw_and (pt_cmpR op_ne (pv 4) pe_str (nomark _)) (pw_and1 (PW.pt (pw_or (pt_cmpR op_ne (pv 4) pe_str (nomark _)) (pw_or1 (pt_cmpR op_isN (pv 3) pe_non (nomark _))))))))) (pss_one ps_never) pss_nil)
      (pss_cons (ps_if (pt_not (pt_val (pe_call G_are_references (hr.mono (by decide)) (by rfl) T.g_are_references T.F_are_references.kp T.b_are_references .nil pass0 (pa_cons (pv 5) (pa_cons (pv 2) pa_nil))))) (pss_one ps_never) pss_nil)
      (pss_cons (ps_fld (pv 0) (pv 1) rfl)
      (pss_cons (ps_fld (pv 0) (pv 2) rfl)
      (pss_cons (ps_fld (pv 0) (pv 3) rfl)
      (pss_cons (ps_fld (pv 0) (pv 4) rfl)
      (pss_one (ps_fld (pv 0) (pe_callTy call_tuple_of (by rfl) T.n_tuple (by decide +kernel) (pa_cons (pe_callB (cr_sortedX hr.units) (by rfl) T.n_sorted (by decide +kernel) (pa_cons (pv 5) pa_nil)) pa_nil)) rfl))))))))))), ?_⟩
    refine ⟨.str p.nm, rfl, .str p.nm, rfl, .str _ (name_len ok.nm), fun H1 s1 => ?_⟩
    rw [ok.nm]
    refine ⟨_, rfl, iteF ⟨.int p.wd, rfl, p.wd, rfl, ?_⟩⟩
    rw [decide_eq_true ok.w1, decide_eq_true ok.w4]
    refine ⟨_, rfl, iteF ?_⟩
    -- the key
    refine ⟨fun c H' => c = false ∧ Same H1 H', ?_, fun c H2 hc => ?_⟩
    · cases hkey : p.key with
      | none =>
        rw [hkey] at hk
        cases hk
        exact ⟨.non, rfl, rfl, _, rfl, iteF ⟨rfl, .refl _⟩⟩
      | some c =>
        have ka := ok.key c hkey
        rw [hkey] at hk
        obtain ⟨a, rfl, ha⟩ := ints_inv hk
        refine ⟨.ref a, rfl, rfl, _, rfl, iteT ⟨.ref a, rfl, .int p.wd, rfl, .ref a, p.wd, rfl, .inl ⟨a, _, rfl, mv_same s1 _ _ ha, item_ints (asc_cols ka) ok.w4, fun H2 s2 => ?_⟩⟩⟩
        rw [show ascL p.wd (c.map V.int) = true from ka]
        exact ⟨_, rfl, rfl, s2⟩
    obtain ⟨rfl, s2⟩ := hc
    refine iteF ⟨fun c H' => c = false ∧ H' = H2, ?_, fun c H3 hc => ?_⟩
    · rcases ok.sc with e | ⟨e, hn⟩
      · rw [e]
        exact ⟨_, rfl, rfl, _, rfl, iteF ⟨rfl, rfl⟩⟩
      · rw [e]
        refine ⟨_, rfl, rfl, _, rfl, iteT ⟨_, rfl, rfl, _, rfl, iteF ⟨kv, rfl, rfl, _, rfl, ?_, rfl⟩⟩⟩
        cases hkey : p.key with
        | none => exact absurd hkey hn
        | some c =>
          rw [hkey] at hk
          obtain ⟨a, rfl, ha⟩ := ints_inv hk
          rfl
    obtain ⟨rfl, rfl⟩ := hc
    have s12 := s1.trans s2
    refine iteF ⟨rv, rfl, .int p.wd, rfl, rv, p.wd, p.refs, rfl, hR.same (mv_same s12), ok.rk, ok.w4, ok.r4, ok.nd, fun H4 s4 => ⟨_, rfl, iteF ?_⟩⟩
    have s14 := s12.trans s4
    have x4 := s14 _ _ hx
    -- the attributes
    refine ⟨_, rfl, .ref x, rfl, x, T.c_Table, dx, _, rfl, x4, T.cl_Table, T.nA_Table_name, show 0 < 1000 by decide, ?_⟩
    refine ⟨_, rfl, .ref x, rfl, x, T.c_Table, dx, _, rfl, upd_same, T.cl_Table, T.nA_Table_width, show 1 < 1000 by decide, ?_⟩
    refine ⟨kv, rfl, .ref x, rfl, x, T.c_Table, dx, _, rfl, upd_same, T.cl_Table, T.nA_Table_key, show 2 < 1000 by decide, ?_⟩
    refine ⟨_, rfl, .ref x, rfl, x, T.c_Table, dx, _, rfl, upd_same, T.cl_Table, T.nA_Table_scope, show 3 < 1000 by decide, ?_⟩
    rw [upd_upd, upd_upd, upd_upd, put4]
    have f4 : ∀ b o, b ≠ x → H b = some o → (upd H4 x (.ins T.c_Table dx [("_name", .str p.nm), ("_width", .int p.wd), ("_key", kv), ("_scope", .str p.sc)])) b = some o := fun b o ne e => by
      rw [upd_ne ne]
      exact s14 b o e
    have x5 : (upd H4 x (.ins T.c_Table dx [("_name", .str p.nm), ("_width", .int p.wd), ("_key", kv), ("_scope", .str p.sc)])) x = some (.ins T.c_Table dx [("_name", .str p.nm), ("_width", .int p.wd), ("_key", kv), ("_scope", .str p.sc)]) := upd_same
    generalize upd H4 x (.ins T.c_Table dx [("_name", .str p.nm), ("_width", .int p.wd), ("_key", kv), ("_scope", .str p.sc)]) = H5 at f4 x5 ⊢
    have nx : ∀ xs, ¬ Rd H x (.tup xs) := fun xs z => by
      rcases z with z | ⟨o, z⟩
      · rw [hx] at z
        cases z
      · rw [hx] at z
        cases z
    have m5 : Mv K H H5 := mv_but f4 nx
    obtain ⟨rp, ks, rfl, hp, hks, hd⟩ := hR.same m5
    obtain ⟨z1, z2, z3⟩ := sort_pre hd
    obtain ⟨ks', k1, k2, k3⟩ := sort_ks ks
    refine ⟨.ref rp, rfl, rp, _, rfl, .inr (by rw [List.map_map]; exact hp), z1, z2, z3, fun l hl => ?_⟩
    rw [k1]
    refine ⟨l, _, rfl, .inl ⟨.of upd_same, fun t ht => ?_⟩⟩
    have s6 : Same H5 (upd H5 l (.lst (ks'.map fun x => V.ref x.1))) := same_upd hl
    have s7 := snew (o := .tup (ks'.map fun x => V.ref x.1)) s6 ht
    have e7 : (upd (upd H5 l (.lst (ks'.map fun x => V.ref x.1))) t (.tup (ks'.map fun x => V.ref x.1))) t = some (.tup (ks'.map fun x => V.ref x.1)) := upd_same
    generalize upd (upd H5 l (.lst (ks'.map fun x => V.ref x.1))) t (.tup (ks'.map fun x => V.ref x.1)) = H7 at s7 e7 ⊢
    have x7 := s7 _ _ x5
    refine ⟨.ref x, rfl, x, T.c_Table, dx, _, rfl, x7, T.cl_Table, T.nA_Table_refers, show 4 < 1000 by decide, ?_⟩
    rw [put5]
    have m8 : Mv K H7 (upd H7 x (.ins T.c_Table dx (tabF p.nm p.wd kv p.sc (.ref t)))) := mv_but (d := x) (fun b o ne e => by rw [upd_ne ne]; exact e) fun xs z => by
      rcases z with z | ⟨o, z⟩
      · rw [x7] at z
        cases z
      · rw [x7] at z
        cases z
    refine q (upd H7 x (.ins T.c_Table dx (tabF p.nm p.wd kv p.sc (.ref t)))) (fun b o ne e => ?_) ⟨x, dx, kv, .ref t, rfl, upd_same, dp_mv (m5.trans ((mv_same s7).trans m8)) _ _ (flat_key _) hk, ?_⟩
    · rw [upd_ne ne]
      exact s7 _ _ (f4 b o ne e)
    · show Dp K _ (.ref t) (.tuple ((sortR p.refs).map refD))
      refine RefsAt.dp ⟨t, ks', rfl, m8 _ _ (.of e7), by rw [k2, hks], fun y hy => ?_⟩
      exact dp_mv ((mv_same s7).trans m8) _ _ (flat_ref _) (hd y (k3.mem_iff.mp hy))
end
-- SPLIT
/-! what a table tells -/
section
variable {P : Program} {w : World} {K : PySem.W.Frag} {mg : Str → Option Value} {base : Heap}
theorem fld_at {p : Parts} {kv rv : V} {f : Str} {v : V} (h : (tabF p.nm p.wd kv p.sc rv).lookup f = some v) : (tabF p.nm p.wd kv p.sc rv).lookup f = some v := h
def sp_name (T : Txt K mg) : Sp := fun vs H Q _ => ∃ (v : V) (p : Parts), vs = [v] ∧ TabAt K T.c_Table H v p ∧ Q (.str p.nm) H
theorem ok_name (T : Txt K mg) : FnOk P w K mg base CX0 1 T.a_Table_name T.fd_Table_name ["self"] (sp_name T) := by
  refine T.F_Table_name.ok sc_Table_name (fun vs H Q E h => ?_) (fun cdv A outer s H vs Q E hr h => ?_)
  · obtain ⟨v, p, rfl, _⟩ := h
    rfl
  · obtain ⟨v, p, rfl, ⟨a, dx, kv, rv, rfl, ea, hk, hv⟩, q⟩ := h
    exact ⟨_, (pss_one (ps_ret (pe_fld (pv 0) rfl))), .ref a, rfl, a, T.c_Table, dx, _, _, rfl, ea, T.cl_Table, T.nA_Table_name, rfl, q⟩
def sp_width (T : Txt K mg) : Sp := fun vs H Q _ => ∃ (v : V) (p : Parts), vs = [v] ∧ TabAt K T.c_Table H v p ∧ Q (.int p.wd) H
theorem ok_width (T : Txt K mg) : FnOk P w K mg base CX0 1 T.a_Table_width T.fd_Table_width ["self"] (sp_width T) := by
  refine T.F_Table_width.ok sc_Table_width (fun vs H Q E h => ?_) (fun cdv A outer s H vs Q E hr h => ?_)
  · obtain ⟨v, p, rfl, _⟩ := h
    rfl
  · obtain ⟨v, p, rfl, ⟨a, dx, kv, rv, rfl, ea, hk, hv⟩, q⟩ := h
    exact ⟨_, (pss_one (ps_ret (pe_fld (pv 0) rfl))), .ref a, rfl, a, T.c_Table, dx, _, _, rfl, ea, T.cl_Table, T.nA_Table_width, rfl, q⟩
def sp_key (T : Txt K mg) : Sp := fun vs H Q _ => ∃ (v : V) (p : Parts), vs = [v] ∧ TabAt K T.c_Table H v p ∧ ∀ kv, Dp K H kv (keyD p.key) → Q kv H
theorem ok_key (T : Txt K mg) : FnOk P w K mg base CX0 1 T.a_Table_key T.fd_Table_key ["self"] (sp_key T) := by
  refine T.F_Table_key.ok sc_Table_key (fun vs H Q E h => ?_) (fun cdv A outer s H vs Q E hr h => ?_)
  · obtain ⟨v, p, rfl, _⟩ := h
    rfl
  · obtain ⟨v, p, rfl, ⟨a, dx, kv, rv, rfl, ea, hk, hv⟩, q⟩ := h
    exact ⟨_, (pss_one (ps_ret (pe_fld (pv 0) rfl))), .ref a, rfl, a, T.c_Table, dx, _, _, rfl, ea, T.cl_Table, T.nA_Table_key, rfl, q kv hk⟩
def sp_scope (T : Txt K mg) : Sp := fun vs H Q _ => ∃ (v : V) (p : Parts), vs = [v] ∧ TabAt K T.c_Table H v p ∧ Q (.str p.sc) H
theorem ok_scope (T : Txt K mg) : FnOk P w K mg base CX0 1 T.a_Table_scope T.fd_Table_scope ["self"] (sp_scope T) := by
  refine T.F_Table_scope.ok sc_Table_scope (fun vs H Q E h => ?_) (fun cdv A outer s H vs Q E hr h => ?_)
  · obtain ⟨v, p, rfl, _⟩ := h
    rfl
  · obtain ⟨v, p, rfl, ⟨a, dx, kv, rv, rfl, ea, hk, hv⟩, q⟩ := h
    exact ⟨_, (pss_one (ps_ret (pe_fld (pv 0) rfl))), .ref a, rfl, a, T.c_Table, dx, _, _, rfl, ea, T.cl_Table, T.nA_Table_scope, rfl, q⟩
def sp_refers (T : Txt K mg) : Sp := fun vs H Q _ => ∃ (v : V) (p : Parts), vs = [v] ∧ TabAt K T.c_Table H v p ∧ ∀ rv, Dp K H rv (.tuple (p.refs.map refD)) → Q rv H
theorem ok_refers (T : Txt K mg) : FnOk P w K mg base CX0 1 T.a_Table_refers T.fd_Table_refers ["self"] (sp_refers T) := by
  refine T.F_Table_refers.ok sc_Table_refers (fun vs H Q E h => ?_) (fun cdv A outer s H vs Q E hr h => ?_)
  · obtain ⟨v, p, rfl, _⟩ := h
    rfl
  · obtain ⟨v, p, rfl, ⟨a, dx, kv, rv, rfl, ea, hk, hv⟩, q⟩ := h
    exact ⟨_, (pss_one (ps_ret (pe_fld (pv 0) rfl))), .ref a, rfl, a, T.c_Table, dx, _, _, rfl, ea, T.cl_Table, T.nA_Table_refers, rfl, q rv hv⟩
/-- a row: the ints of a tuple -/
def RowAt (H : Hp) (v : V) (ns : List Int) : Prop := ∃ a, v = .ref a ∧ H a = some (.tup (ns.map V.int))
/-- integers of at most twenty digits, one to four -/
def rowOk (w : Int) (ns : List Int) : Prop := (ns.length : Int) = w ∧ 1 ≤ w ∧ w ≤ 4 ∧ ∀ i ∈ ns, intB (.int i) = true
theorem RowAt.same {H H' : Hp} {v : V} {ns : List Int} (r : RowAt H v ns) (s : Same H H') : RowAt H' v ns := by
  obtain ⟨a, e, ea⟩ := r
  exact ⟨a, e, s _ _ ea⟩
theorem small_int {i : Int} (h : intB (.int i) = true) : i.natAbs < 10 ^ 45 := by
  rw [intB_int, Bool.and_eq_true, decide_eq_true_eq, decide_eq_true_eq] at h
  have a : i.natAbs < 100000000000000000000 := by omega
  exact Nat.lt_trans a (by decide)
theorem row_good {H : Hp} {v : V} {w : Int} {ns : List Int} (r : RowAt H v ns) (ok : rowOk w ns) : Good H v ∧ rowB H v = true := by
  obtain ⟨a, rfl, ea⟩ := r
  obtain ⟨e1, w1, w4, hi⟩ := ok
  refine ⟨.tup ea fun x hx => ?_, ?_⟩
  · obtain ⟨i, mi, rfl⟩ := List.mem_map.mp hx
    exact .int i (small_int (hi i mi))
  · rw [rowB_of ea]
    unfold rowL
    rw [List.length_map, decide_eq_true (by omega), decide_eq_true (by omega), Bool.true_and, Bool.true_and, List.all_map, List.all_eq_true]
    exact fun i mi => hi i mi
def sp_is_row_of (K : PySem.W.Frag) : Sp := fun vs H Q _ => ∃ (v : V) (n : Int) (ns : List Int), vs = [v, .int n] ∧ RowAt H v ns ∧ rowOk n ns ∧ ∀ H', Same H H' → Q (.bl true) H'
theorem ok_is_row_of (T : Txt K mg) : FnOk P w K mg base CX0 4 T.a_is_row_of T.fd_is_row_of ["value", "width"] (sp_is_row_of K) := by
  have G_is_row : FnOk P w K mg base CX0 3 T.a_is_row T.fd_is_row ["value"] (sp_is_row K) := ok_is_row T
  refine T.F_is_row_of.ok sc_is_row_of (fun vs H Q E h => ?_) (fun cdv A outer s H vs Q E hr h => ?_)
  · obtain ⟨v, n, ns, rfl, _⟩ := h
    rfl
  · obtain ⟨v, n, ns, rfl, hr0, ok, q⟩ := h
    refine ⟨_, (pss_one (ps_ret (pe_and (pe_call G_is_row (hr.mono (by decide)) (by rfl) T.g_is_row T.F_is_row.kp T.b_is_row .nil pass0 (pa_cons (pv 0) pa_nil)) (pe_one (pe_cmpR op_eq (pe_callB call_len_seq (by rfl) T.n_len (by decide +kernel) (pa_cons (pv 0) pa_nil)) (pv 1) (nomark _)))))), ?_⟩
    obtain ⟨g, rb⟩ := row_good hr0 ok
    refine ⟨v, rfl, v, rfl, g, fun H1 s1 => ?_⟩
    rw [rb]
    obtain ⟨a, rfl, ea⟩ := hr0
    refine ⟨_, rfl, iteT ⟨.ref a, rfl, a, _, rfl, .inr (.of (s1 _ _ ea)), .int n, rfl, rfl, ?_⟩⟩
    rw [List.length_map, ok.1, decide_eq_true rfl]
    exact q H1 s1
def sp_check (T : Txt K mg) : Sp := fun vs H Q _ => ∃ (x v : V) (p : Parts) (ns : List Int), vs = [x, v] ∧ TabAt K T.c_Table H x p ∧ RowAt H v ns ∧ rowOk p.wd ns ∧ ∀ H', Same H H' → Q .non H'
theorem ok_check (T : Txt K mg) : FnOk P w K mg base CX0 5 T.a_Table_check_row T.fd_Table_check_row ["self", "row"] (sp_check T) := by
  have G_is_row_of : FnOk P w K mg base CX0 4 T.a_is_row_of T.fd_is_row_of ["value", "width"] (sp_is_row_of K) := ok_is_row_of T
  refine T.F_Table_check_row.ok sc_Table_check_row (fun vs H Q E h => ?_) (fun cdv A outer s H vs Q E hr h => ?_)
  · obtain ⟨x, v, p, ns, rfl, _⟩ := h
    rfl
  · obtain ⟨x, v, p, ns, rfl, ⟨a, dx, kv, rv, rfl, ea, hk, hv⟩, hr0, ok, q⟩ := h
    refine ⟨_, (pss_one (ps_if (pt_not (pt_val (pe_call G_is_row_of (hr.mono (by decide)) (by rfl) T.g_is_row_of T.F_is_row_of.kp T.b_is_row_of .nil pass0 (pa_cons (pv 1) (pa_cons (pe_fld (pv 0) rfl) pa_nil))))) (pss_one ps_never) pss_nil)), ?_⟩
    exact ⟨v, rfl, .ref a, rfl, a, T.c_Table, dx, _, _, rfl, ea, T.cl_Table, T.nA_Table_width, rfl, v, p.wd, ns, rfl, hr0, ok, fun H1 s1 => ⟨_, rfl, iteF (q H1 s1)⟩⟩
/-- what a row has in these columns -/
def pk (ns cs : List Int) : List Int := cs.map fun c => ns.getD c.toNat 0
def sp_picked (K : PySem.W.Frag) : Sp := fun vs H Q _ => ∃ (v u : V) (ns cs : List Int) (a c : Addr), vs = [.ref a, .ref c] ∧ SqT K H a (ns.map V.int) ∧ SqT K H c (cs.map V.int) ∧ (∀ i ∈ cs, 0 ≤ i ∧ i < ns.length) ∧ cs.length ≤ 4 ∧ ∀ t H', Same H H' → H' t = some (.tup ((pk ns cs).map V.int)) → Q (.ref t) H'
theorem ok_picked (T : Txt K mg) : FnOk P w K mg base CX0 1 T.a_picked T.fd_picked ["row", "columns"] (sp_picked K) := by
  refine T.F_picked.ok sc_picked (fun vs H Q E h => ?_) (fun cdv A outer s H vs Q E hr h => ?_)
  · obtain ⟨v, u, ns, cs, a, c, rfl, _⟩ := h
    rfl
  · obtain ⟨v, u, ns, cs, a, c, rfl, ha, hc, hi, l4, q⟩ := h
    refine ⟨_, (pss_cons (ps_if (pt_cmpR op_eq (pe_callB call_len_seq (by rfl) T.n_len (by decide +kernel) (pa_cons (pv 1) pa_nil)) pe_int (nomark _)) (pss_one (ps_ret (pe_tup (pa_cons (pe_ix ix_tup (pv 0) (pe_ix ix_tup (pv 1) pe_int (fun _ _ => rfl)) (fun _ _ => rfl)) pa_nil)))) pss_nil)
      (pss_one (ps_ret (pe_callTy call_tuple_of (by rfl) T.n_tuple (by decide +kernel) (pa_cons (pe_lc (own := [("column", 2)]) (g := gName 2) (tt := tYes) rfl sc_picked.nd (pi_tup (pv 1)) (blkOk_by (N := ["row", "columns", "column"]) (sc := defScope s_picked) (by decide +kernel)) (fun _ _ _ _ _ => pg_name (i := 2) sc_picked.nd rfl (Or.inl rfl)) (fun _ _ _ _ _ => pts_nil) (fun _ _ _ _ _ => (pe_ix (ix_tup : IxR _ (rIxT K)) (pv 0) (pv 2) (fun _ _ => rfl)))) pa_nil))))), ?_⟩
    have at_of : ∀ i : Int, 0 ≤ i → i < ns.length → atI (ns.map V.int) i = some (.int (ns.getD i.toNat 0)) := fun i i0 i1 => by
      unfold atI
      rw [List.length_map, ixN_of i0 i1]
      show (ns.map V.int)[i.toNat]? = _
      have il : i.toNat < ns.length := by omega
      rw [List.getElem?_map, List.getElem?_eq_getElem il, List.getD_eq_getElem?_getD, List.getElem?_eq_getElem il]
      rfl
    refine ⟨.ref c, rfl, c, cs.map V.int, rfl, .inr hc, rfl, _, rfl, ite2 (fun c1 => ?_) (fun c1 => ?_)⟩
    · have c2 : cs.length = 1 := by
        have c3 : V.int ((cs.map V.int).length : Int) = V.int 1 := of_decide_eq_true c1
        rw [List.length_map] at c3
        injection c3
        omega
      obtain ⟨i, e1⟩ := List.length_eq_one_iff.mp c2
      have ht : SqT K H c [.int i] := by
        rw [e1] at hc
        exact hc
      obtain ⟨i0, i1⟩ := hi i (by rw [e1]; exact List.mem_cons_self ..)
      refine ⟨.ref a, rfl, .ref c, rfl, c, [.int i], 0, .int i, rfl, rfl, ht, rfl, a, _, i, .int (ns.getD i.toNat 0), rfl, rfl, ha, at_of i i0 i1, ?_⟩
      refine ⟨by show 1 ≤ sizeLine; decide, fun t ht => q t _ (same_upd ht) ?_⟩
      rw [e1]
      exact upd_same
    refine ⟨.ref c, rfl, c, rfl, ⟨_, hc⟩, fun D hD => lc_pure (walk_tup (xs := cs.map V.int)) hD cs V.int (fun _ => true) (fun i => .int (ns.getD i.toNat 0)) (by rw [List.length_map]) (by rw [List.length_map]; omega) (by decide) (fun H1 s => mv_same s _ _ hc) (fun i H1 x H' s y => ?_)
      (fun i H1 hi s Q h => h H1 (.refl H1)) (fun i H1 mi _ s Q h => ?_) (fun x => rfl) (fun H1 s e => ?_)⟩
    · obtain ⟨rfl, hx⟩ := y
      rw [List.getElem?_map] at hx
      obtain ⟨j, e, rfl⟩ := Option.map_eq_some_iff.mp hx
      exact ⟨rfl, j, e, rfl⟩
    · obtain ⟨i0, i1⟩ := hi i mi
      exact ⟨.ref a, rfl, .int i, rfl, a, _, i, .int (ns.getD i.toNat 0), rfl, rfl, mv_same s _ _ ha, at_of i i0 i1, h H1 (.refl H1)⟩
    · rw [filt_all] at e
      refine ⟨D, _, rfl, .inl ⟨.of e, fun t ht => ?_⟩⟩
      refine q t _ (s.trans (same_upd ht)) ?_
      rw [upd_same]
      unfold pk
      rw [List.map_map]
      rfl
theorem cols_in {w : Int} {cs : List Int} (h : colsL w (cs.map V.int) = true) : (∀ i ∈ cs, 0 ≤ i ∧ i < w) ∧ cs.length ≤ 4 := by
  unfold colsL at h
  rw [Bool.and_eq_true, Bool.and_eq_true, List.length_map, decide_eq_true_eq, decide_eq_true_eq] at h
  refine ⟨fun i hi => ?_, by omega⟩
  have a := List.all_eq_true.mp h.2 (.int i) (List.mem_map_of_mem hi)
  have b : (decide (0 ≤ i) && decide (i < w)) = true := a
  rwa [Bool.and_eq_true, decide_eq_true_eq, decide_eq_true_eq] at b
def sp_key_of (T : Txt K mg) : Sp := fun vs H Q _ => ∃ (x v : V) (p : Parts) (ns cs : List Int), vs = [x, v] ∧ TabAt K T.c_Table H x p ∧ RowAt H v ns ∧ rowOk p.wd ns ∧ p.key = some cs ∧ keyOk p.wd cs ∧ ∀ t H', Same H H' → H' t = some (.tup ((pk ns cs).map V.int)) → Q (.ref t) H'
theorem ok_key_of (T : Txt K mg) : FnOk P w K mg base CX0 6 T.a_Table_key_of T.fd_Table_key_of ["self", "row"] (sp_key_of T) := by
  have G_Table_check_row : FnOk P w K mg base CX0 5 T.a_Table_check_row T.fd_Table_check_row ["self", "row"] (sp_check T) := ok_check T
  have G_picked : FnOk P w K mg base CX0 1 T.a_picked T.fd_picked ["row", "columns"] (sp_picked K) := ok_picked T
  refine T.F_Table_key_of.ok sc_Table_key_of (fun vs H Q E h => ?_) (fun cdv A outer s H vs Q E hr h => ?_)
  · obtain ⟨x, v, p, ns, cs, rfl, _⟩ := h
    rfl
  · obtain ⟨x, v, p, ns, cs, rfl, ht, hr0, ok, ek, ko, q⟩ := h
    refine ⟨_, (pss_cons (ps_expr (pe_meth (pv 0) T.cl_Table T.m_Table_check_row G_Table_check_row (hr.mono (by decide)) T.b_Table_check_row .nil pass0 (pa_cons (pv 1) pa_nil)))
      (pss_cons (ps_if (pt_cmpR op_isN (pe_fld (pv 0) rfl) pe_non (nomark _)) (pss_one ps_never) pss_nil)
      (pss_one (ps_ret (pe_call G_picked (hr.mono (by decide)) (by rfl) T.g_picked T.F_picked.kp T.b_picked .nil pass0 (pa_cons (pv 1) (pa_cons (pe_fld (pv 0) rfl) pa_nil))))))), ?_⟩
    obtain ⟨a, dx, kv, rv, rfl, ea, hk, hv⟩ := id ht
    rw [ek] at hk
    obtain ⟨c, rfl, hc⟩ := ints_inv hk
    refine ⟨.ref a, rfl, a, dx, _, rfl, ea, rfl, v, rfl, .ref a, v, p, ns, rfl, ht, hr0, ok, fun H1 s1 => ?_⟩
    obtain ⟨r, rfl, er⟩ := hr0
    refine ⟨.ref a, rfl, a, T.c_Table, dx, _, _, rfl, s1 _ _ ea, T.cl_Table, T.nA_Table_key, rfl, rfl, _, rfl, iteF ?_⟩
    obtain ⟨ci, c4⟩ := cols_in (asc_cols ko)
    refine ⟨.ref r, rfl, .ref a, rfl, a, T.c_Table, dx, _, _, rfl, s1 _ _ ea, T.cl_Table, T.nA_Table_key, rfl, ?_⟩
    refine ⟨.non, .non, ns, cs, r, c, rfl, .of (s1 _ _ er), mv_same s1 _ _ hc, fun i hi => ?_, c4, fun t H2 s2 e2 => q t H2 (s1.trans s2) e2⟩
    have b := ci i hi
    have e := ok.1
    omega
def sp_told (T : Txt K mg) : Sp := fun vs H Q _ => ∃ (x v : V) (p : Parts) (ns : List Int) (i : Int) (r : Rf), vs = [x, v, .int i] ∧ TabAt K T.c_Table H x p ∧ RowAt H v ns ∧ rowOk p.wd ns ∧ 0 ≤ i ∧ p.refs[i.toNat]? = some r ∧ refOk p.wd r ∧
  ∀ t H', Same H H' → H' t = some (.tup ((pk ns r.1).map V.int)) → Q (.ref t) H'
theorem ok_told (T : Txt K mg) : FnOk P w K mg base CX0 6 T.a_Table_told T.fd_Table_told ["self", "row", "index"] (sp_told T) := by
  have G_Table_check_row : FnOk P w K mg base CX0 5 T.a_Table_check_row T.fd_Table_check_row ["self", "row"] (sp_check T) := ok_check T
  have G_is_whole : FnOk P w K mg base CX0 1 T.a_is_whole T.fd_is_whole ["value"] (sp_is_wholeI K) := ok_is_wholeI T
  have G_picked : FnOk P w K mg base CX0 1 T.a_picked T.fd_picked ["row", "columns"] (sp_picked K) := ok_picked T
  refine T.F_Table_told.ok sc_Table_told (fun vs H Q E h => ?_) (fun cdv A outer s H vs Q E hr h => ?_)
  · obtain ⟨x, v, p, ns, i, r, rfl, _⟩ := h
    rfl
  · obtain ⟨x, v, p, ns, i, r, rfl, ht, hr0, ok, i0, hi, ro, q⟩ := h
    refine ⟨_, (pss_cons (ps_expr (pe_meth (pv 0) T.cl_Table T.m_Table_check_row G_Table_check_row (hr.mono (by decide)) T.b_Table_check_row .nil pass0 (pa_cons (pv 1) pa_nil)))
      (pss_cons (ps_if (PW.pt (pw_or (pt_not (pt_val (pe_call G_is_whole (hr.mono (by decide)) (by rfl) T.g_is_whole T.F_is_whole.kp T.b_is_whole .nil pass0 (pa_cons (pv 2) pa_nil)))) (pw_or1 (pt_not (pt_chain op_le op_lt pe_int (pv 2) (pe_callB call_len_seq (by rfl) T.n_len (by decide +kernel) (pa_cons (pe_fld (pv 0) rfl) pa_nil))))))) (pss_one ps_never) pss_nil)
      (pss_one (ps_ret (pe_call G_picked (hr.mono (by decide)) (by rfl) T.g_picked T.F_picked.kp T.b_picked .nil pass0 (pa_cons (pv 1) (pa_cons (pe_ix ix_tup (pe_ix ix_tup (pe_fld (pv 0) rfl) (pv 2) (fun _ _ => rfl)) pe_int (fun _ _ => rfl)) pa_nil))))))), ?_⟩
    obtain ⟨a, dx, kv, rv, rfl, ea, hk, hv⟩ := id ht
    refine ⟨.ref a, rfl, a, dx, _, rfl, ea, rfl, v, rfl, .ref a, v, p, ns, rfl, ht, hr0, ok, fun H1 s1 => ?_⟩
    obtain ⟨rp, ks, rfl, hp, hks, hd⟩ := (RefsAt.of_dp hv).same (mv_same s1)
    obtain ⟨b, rfl, er⟩ := hr0
    have e1 := s1 _ _ ea
    have lk : ks.length = p.refs.length := by rw [← hks, List.length_map]
    have il : i.toNat < p.refs.length := (List.getElem?_eq_some_iff.mp hi).1
    obtain ⟨k, ek⟩ : ∃ k, ks[i.toNat]? = some k := ⟨_, List.getElem?_eq_getElem (by omega)⟩
    have e2 : k.2 = r := by
      rw [← hks, List.getElem?_map, ek] at hi
      exact Option.some.inj hi
    have e3 : atI (ks.map fun x => V.ref x.1) i = some (.ref k.1) := by
      unfold atI
      rw [List.length_map, ixN_of i0 (by omega)]
      show (ks.map fun x => V.ref x.1)[i.toNat]? = _
      rw [List.getElem?_map, ek]
      rfl
    obtain ⟨u, c, e4, hu, hc⟩ := ref_inv (hd k (List.mem_of_getElem? ek))
    cases e4
    rw [e2] at hu hc
    refine ⟨.int i, rfl, i, rfl, _, rfl, iteF ⟨.int i, rfl, 0, i, rfl, rfl, _, rfl, ?_⟩⟩
    rw [decide_eq_true i0]
    refine iteT ⟨.ref a, rfl, a, T.c_Table, dx, _, _, rfl, e1, T.cl_Table, T.nA_Table_refers, rfl, rp, _, rfl, .inr hp, _, _, rfl, rfl, _, rfl, ?_⟩
    rw [List.length_map, decide_eq_true (show i < (ks.length : Nat) by omega)]
    refine iteF ⟨.ref b, rfl, .ref a, rfl, a, T.c_Table, dx, _, _, rfl, e1, T.cl_Table, T.nA_Table_refers, rfl, .int i, rfl, rp, _, i, .ref k.1, rfl, rfl, hp, e3, k.1, _, 0, .ref c, rfl, rfl, hu, rfl, ?_⟩
    obtain ⟨ci, c4⟩ := cols_in ro.1
    refine ⟨.non, .non, ns, r.1, b, c, rfl, .of (s1 _ _ er), hc, fun j hj => ?_, c4, fun t H2 s2 e5 => q t H2 (s1.trans s2) e5⟩
    have z := ci j hj
    have e := ok.1
    omega
def sp_is_key (K : PySem.W.Frag) : Sp := fun vs H Q _ => ∃ (v : V) (n : Int), vs = [v, .int n] ∧ 1 ≤ n ∧ n ≤ 4 ∧ TupOr K H v (fun xs => ∀ H', Same H H' → Q (.bl (ascL n xs)) H') (Q (.bl false) H)
theorem ok_is_key (T : Txt K mg) : FnOk P w K mg base CX0 4 T.a_Table_is_key T.fd_Table_is_key ["value", "width"] (sp_is_key K) := by
  have G_is_width : FnOk P w K mg base CX0 2 T.a_is_width T.fd_is_width ["value"] (sp_is_width K) := ok_is_width T
  have G_is_ascending : FnOk P w K mg base CX0 3 T.a_is_ascending T.fd_is_ascending ["value", "width"] (sp_is_ascending K) := ok_is_ascending T
  refine T.F_Table_is_key.ok sc_Table_is_key (fun vs H Q E h => ?_) (fun cdv A outer s H vs Q E hr h => ?_)
  · obtain ⟨v, n, rfl, _⟩ := h
    rfl
  · obtain ⟨v, n, rfl, n1, n4, hv⟩ := h
    refine ⟨_, (pss_cons (ps_if (pt_not (pt_val (pe_call G_is_width (hr.mono (by decide)) (by rfl) T.g_is_width T.F_is_width.kp T.b_is_width .nil pass0 (pa_cons (pv 1) pa_nil)))) (pss_one ps_never) pss_nil)
      (pss_one (ps_ret (pe_call G_is_ascending (hr.mono (by decide)) (by rfl) T.g_is_ascending T.F_is_ascending.kp T.b_is_ascending .nil pass0 (pa_cons (pv 0) (pa_cons (pv 1) pa_nil)))))), ?_⟩
    refine ⟨.int n, rfl, n, rfl, ?_⟩
    rw [decide_eq_true n1, decide_eq_true n4]
    exact ⟨_, rfl, iteF ⟨v, rfl, .int n, rfl, v, n, rfl, hv⟩⟩
def sp_eq (T : Txt K mg) : Sp := fun vs H Q _ => ∃ (x y : V) (p : Parts), vs = [x, y] ∧ TabAt K T.c_Table H x p ∧ PyData.strOk p.nm = true ∧ (∀ r ∈ p.refs, PyData.strOk r.2 = true) ∧
  ((∃ p' : Parts, TabAt K T.c_Table H y p' ∧ (∀ r ∈ p'.refs, PyData.strOk r.2 = true) ∧ Q (.bl (decide (p = p'))) H) ∨ (∃ n, n ∈ BT ∧ TyX K H y (.type n) ∧ Q (.bl false) H))
theorem ok_eq (T : Txt K mg) : FnOk P w K mg base CX0 1 T.a_Table_eq T.fd_Table_eq ["self", "other"] (sp_eq T) := by
  refine T.F_Table_eq.ok sc_Table_eq (fun vs H Q E h => ?_) (fun cdv A outer s H vs Q E hr h => ?_)
  · obtain ⟨x, y, p, rfl, _⟩ := h
    rfl
  · obtain ⟨x, y, p, rfl, ⟨a, dx, kv, rv, rfl, ea, hk, hv⟩, so, ro, h⟩ := h
    refine ⟨_, (pss_one (ps_ret (pe_and (pe_callB call_isi (by rfl) T.n_isinstance (by decide +kernel) (pa_cons (pv 1) (pa_cons (pe_glob (v := .ref T.c_Table) rfl T.g_Table rfl) pa_nil))) (pe_and (pe_cmpR op_eq (pe_fld (pv 0) rfl) (pe_fld (pv 1) rfl) (nomark _)) (pe_and (pe_cmpR op_eq (pe_fld (pv 0) rfl) (pe_fld (pv 1) rfl) (nomark _)) (pe_and (pe_cmpR (op_eqD hr.units) (pe_fld (pv 0) rfl) (pe_fld (pv 1) rfl) (nomark _)) (pe_and (pe_cmpR op_eq (pe_fld (pv 0) rfl) (pe_fld (pv 1) rfl) (nomark _)) (pe_one (pe_cmpR (op_eqD hr.units) (pe_fld (pv 0) rfl) (pe_fld (pv 1) rfl) (nomark _)))))))))), ?_⟩
    rcases h with ⟨p', ⟨b, dy, kw, rw', rfl, eb, hk', hv'⟩, ro', q⟩ | ⟨n, hn, ty, q⟩
    · refine ⟨.ref b, rfl, .ref b, .ref T.c_Table, _, _, true, rfl, .own _, T.is_Table.ty eb, ko_self, _, rfl, iteT ?_⟩
      have no : ∀ c : Bool, c = false → (p = p' → c = true) → Q (.bl c) H := fun c hc hp => by
        have e : decide (p = p') = false := decide_eq_false fun z => by rw [hp z] at hc; cases hc
        rw [hc, ← e]
        exact q
      refine ⟨.ref a, rfl, a, T.c_Table, dx, _, _, rfl, ea, T.cl_Table, T.nA_Table_name, rfl, .ref b, rfl, b, T.c_Table, dy, _, _, rfl, eb, T.cl_Table, T.nA_Table_name, rfl, rfl, _, rfl, ite2 (fun e1 => ?_) (fun e1 => no false rfl fun z => absurd (by rw [z]; exact decide_eq_true rfl) e1)⟩
      refine ⟨.ref a, rfl, a, T.c_Table, dx, _, _, rfl, ea, T.cl_Table, T.nA_Table_width, rfl, .ref b, rfl, b, T.c_Table, dy, _, _, rfl, eb, T.cl_Table, T.nA_Table_width, rfl, rfl, _, rfl, ite2 (fun e2 => ?_) (fun e2 => no false rfl fun z => absurd (by rw [z]; exact decide_eq_true rfl) e2)⟩
      refine ⟨.ref a, rfl, a, T.c_Table, dx, _, _, rfl, ea, T.cl_Table, T.nA_Table_key, rfl, .ref b, rfl, b, T.c_Table, dy, _, _, rfl, eb, T.cl_Table, T.nA_Table_key, rfl, keyD p.key, keyD p'.key, hk, hk', sh_key _, sh_key _, _, rfl, ite2 (fun e3 => ?_) (fun e3 => no false rfl fun z => absurd (by rw [z, eqv_key]; exact decide_eq_true rfl) e3)⟩
      refine ⟨.ref a, rfl, a, T.c_Table, dx, _, _, rfl, ea, T.cl_Table, T.nA_Table_scope, rfl, .ref b, rfl, b, T.c_Table, dy, _, _, rfl, eb, T.cl_Table, T.nA_Table_scope, rfl, rfl, _, rfl, ite2 (fun e4 => ?_) (fun e4 => no false rfl fun z => absurd (by rw [z]; exact decide_eq_true rfl) e4)⟩
      refine ⟨.ref a, rfl, a, T.c_Table, dx, _, _, rfl, ea, T.cl_Table, T.nA_Table_refers, rfl, .ref b, rfl, b, T.c_Table, dy, _, _, rfl, eb, T.cl_Table, T.nA_Table_refers, rfl, _, _, hv, hv', sh_refs ro, sh_refs ro', ?_⟩
      rw [eqv_refs]
      have f1 : p.nm = p'.nm := by
        have z := of_decide_eq_true e1
        injection z
      have f2 : p.wd = p'.wd := by
        have z := of_decide_eq_true e2
        injection z
      have f3 : p.key = p'.key := by
        rw [eqv_key] at e3
        exact of_decide_eq_true e3
      have f4 : p.sc = p'.sc := by
        have z := of_decide_eq_true e4
        injection z
      have e5 : decide (p.refs = p'.refs) = decide (p = p') := decide_eq_decide.mpr ⟨fun z => by
        obtain ⟨a1, a2, a3, a4, a5⟩ := p
        obtain ⟨b1, b2, b3, b4, b5⟩ := p'
        dsimp only at f1 f2 f3 f4 z
        rw [f1, f2, f3, f4, z], fun z => by rw [z]⟩
      rw [e5]
      exact q
    · refine ⟨y, rfl, y, .ref T.c_Table, _, _, false, rfl, .own _, ty, (T.fo_Table n hn).1, _, rfl, iteF q⟩
end
-- SPLIT
section
variable {P : Program} {w : World} {K : PySem.W.Frag} {mg : Str → Option Value} {base : Heap}
/-! ### the dice -/
def sp_dice (K : PySem.W.Frag) : Sp := fun vs H Q _ => ∃ (a : Addr) (ns : List Int) (i : Int), vs = [.ref a, .int i] ∧ SqL K H a (ns.map V.int) ∧ 0 ≤ i ∧ ns.length ≤ 63 ∧ ∀ d H', H d = none → Same H H' → Dice H' d → Q (.ref d) H'
theorem pow_big : ((10 : Int) ^ (59 : Int).toNat) ^ (11 : Int).toNat < 2 ^ 2160 ∧ 0 < ((10 : Int) ^ (59 : Int).toNat) ^ (11 : Int).toNat := by decide +kernel
theorem dice_a {g : Int} (h0 : 0 ≤ g) (h1 : g < ((10 : Int) ^ (59 : Int).toNat) ^ (11 : Int).toNat) {m z : Int} (e : m = if z > 0 then z else 0) (hz : z = g - (10 : Int) ^ (18 : Int).toNat) : 0 ≤ m ∧ m.natAbs < 2 ^ 2200 := by
  have h2 : (0 : Int) ≤ (10 : Int) ^ (18 : Int).toNat := by decide +kernel
  have h3 := pow_big.1
  have h4 : 0 ≤ m ∧ m ≤ g := by
    rw [e]
    split <;> omega
  refine ⟨h4.1, ?_⟩
  have h5 : m < 2 ^ 2160 := Int.lt_of_le_of_lt (Int.le_trans h4.2 (Int.le_of_lt h1)) h3
  have h6 : m.natAbs < 2 ^ 2160 := by
    have e2 : ((2 : Int) ^ 2160) = ((2 ^ 2160 : Nat) : Int) := by norm_cast
    omega
  exact Nat.lt_of_lt_of_le h6 (Nat.pow_le_pow_right (by decide) (by decide))
theorem ok_dice (T : Txt K mg) : FnOk P w K mg base CX0 1 T.a_l_dice T.fd_l_dice ["_law_script", "_law_spot"] (sp_dice K) := by
  refine T.F_l_dice.ok sc_l_dice (fun vs H Q E h => ?_) (fun cdv A outer s H vs Q E hr h => ?_)
  · obtain ⟨a, ns, i, rfl, _⟩ := h
    rfl
  · obtain ⟨a, ns, i, rfl, hS, h0, h63, q⟩ := h
    refine ⟨_, (pss_cons (ps_set (i := 2) sc_l_dice.nd rfl (.inl rfl) (pe_ifB (pt_cmpR op_lt (pv 1) (pe_callB call_len_seq (by rfl) T.n_len (by decide +kernel) (pa_cons (pv 0) pa_nil)) (nomark _)) (pe_ix ix_list (pv 0) (pv 1) (fun _ _ => rfl)) (pe_op op_add (pe_op op_mul pe_int (pv 1)) pe_int)))
      (pss_cons (ps_set (i := 3) sc_l_dice.nd rfl (.inl rfl) (pe_op op_modB (pe_callTy call_int1 (by rfl) T.n_int (by decide +kernel) (pa_cons (pe_callB call_abs (by rfl) T.n_abs (by decide +kernel) (pa_cons (pv 2) pa_nil)) pa_nil)) (pe_op op_powW (pe_op op_pow pe_int pe_int) pe_int)))
      (pss_cons (ps_set (i := 4) sc_l_dice.nd rfl (.inl rfl) (pe_op op_add (pe_op op_add (pe_op op_add (pe_op op_mul (pv 3) pe_int) (pe_op op_mul pe_int (pv 1))) (pe_op op_mul pe_int (pe_callTy call_int1 (by rfl) T.n_int (by decide +kernel) (pa_cons (pe_cmpR op_lt (pv 2) pe_int (nomark _)) pa_nil)))) pe_int))
      (pss_one (ps_ret (pe_lst (pa_cons (pe_callB (call_max2 rfl) (by rfl) T.n_max (by decide +kernel) (pa_cons pe_int (pa_cons (pe_op op_sub (pv 3) (pe_op op_pow pe_int pe_int)) pa_nil))) (pa_cons (pe_op op_modB (pe_callTy call_int1 (by rfl) T.n_int (by decide +kernel) (pa_cons (pv 4) pa_nil)) pe_int) (pa_cons pe_int pa_nil))))))))), ?_⟩
    refine ⟨_, rfl, .ref a, rfl, a, ns.map V.int, rfl, .inl hS, i, ((ns.map V.int).length : Int), rfl, rfl, _, rfl, ?_⟩
    have cell : ∃ c : Int, (decide (i < ((ns.map V.int).length : Int)) = true → atI (ns.map V.int) i = some (.int c)) ∧ (decide (i < ((ns.map V.int).length : Int)) = false → c = 41 * i + 9) := by
      cases e : decide (i < ((ns.map V.int).length : Int)) with
      | true =>
        obtain ⟨v, ev, mv⟩ := at_lt h0 (of_decide_eq_true e)
        obtain ⟨c, _, rfl⟩ := List.mem_map.mp mv
        exact ⟨c, fun _ => ev, fun z => by cases z⟩
      | false => exact ⟨41 * i + 9, fun z => (by cases z), fun _ => rfl⟩
    obtain ⟨c, c1, c2⟩ := cell
    refine ⟨.int c, fun e => ⟨.ref a, rfl, .int i, rfl, a, _, i, .int c, rfl, rfl, hS, c1 e, rfl, rfl⟩, fun e => ⟨.int i, rfl, 41, i, rfl, rfl, .inl ⟨by decide, by decide⟩, 41 * i, 9, rfl, rfl, by rw [c2 e], rfl⟩, ?_⟩
    -- great
    refine ⟨_, rfl, c, rfl, .inl ⟨_, rfl, 10, 59, rfl, rfl, ⟨by decide, by decide, by decide⟩, _, 11, rfl, rfl, ⟨by decide, by decide +kernel⟩, _, _, rfl, rfl, pow_big.2, fun g g0 g1 _ => ?_⟩⟩
    -- blend
    refine ⟨_, rfl, g, _, rfl, rfl, .inr ⟨by decide, by decide⟩, _, rfl, 83, i, rfl, rfl, .inl ⟨by decide, by decide⟩, _, _, rfl, rfl, _, rfl, c, 0, rfl, rfl, .inr ⟨_, rfl, 19, _, rfl, rfl, .inl ⟨by decide, by decide⟩, _, _, rfl, rfl, _, _, rfl, rfl, ?_⟩⟩
    refine ⟨_, rfl, 10, 18, rfl, rfl, ⟨by decide, by decide, by decide⟩, g, _, rfl, rfl, 0, _, rfl, _, rfl, .inl ⟨_, rfl, _, _, rfl, rfl, by decide, fun b b0 b1 _ => ⟨by show 3 ≤ sizeLine; decide, fun p hp => ?_⟩⟩⟩
    exact q p _ hp (same_upd hp) ⟨_, b, 0, upd_same, dice_a g0 g1 rfl rfl⟩
/-- a roll -/
def sp_roll (K : PySem.W.Frag) : Sp := fun vs H Q _ => ∃ (d : Addr) (n : Int), vs = [.ref d, .int n] ∧ Dice H d ∧ 0 < n ∧ n.natAbs < 2 ^ 5000 ∧ ∀ r H', 0 ≤ r → r < n → Keep d H H' → Q (.int r) H'
theorem Keep.dice {d : Addr} {H : Hp} {a b c : Int} (h0 : 0 ≤ a) (h1 : a.natAbs < 2 ^ 2200) : Keep d H (upd H d (.lst [.int a, .int b, .int c])) :=
  ⟨fun b o hb e => by rw [upd_ne hb]; exact e, a, b, c, upd_same, h0, h1⟩
theorem ok_roll (T : Txt K mg) : FnOk P w K mg base CX0 1 T.a_l_roll T.fd_l_roll ["_law_dice_here", "_law_upto"] (sp_roll K) := by
  refine T.F_l_roll.ok sc_l_roll (fun vs H Q E h => ?_) (fun cdv A outer s H vs Q E hr h => ?_)
  · obtain ⟨d, n, rfl, _⟩ := h
    rfl
  · obtain ⟨d, n, rfl, ⟨a, b, c, hd, a0, a1⟩, n0, n1, q⟩ := h
    refine ⟨_, (pss_cons (ps_if (pt_cmpR op_gt (pe_ix ix_list (pv 0) pe_int (fun _ _ => rfl)) pe_int (nomark _)) (pss_cons (ps_set (i := 2) sc_l_roll.nd rfl (.inl rfl) (pe_op op_modB (pe_callTy call_int1 (by rfl) T.n_int (by decide +kernel) (pa_cons (pe_ix ix_list (pv 0) pe_int (fun _ _ => rfl)) pa_nil)) (pv 1)))
      (pss_cons (ps_asg (pe_op op_fdivW (pe_ix ix_list (pv 0) pe_int (fun _ _ => rfl)) (pv 1)) (pg_sub (pv 0) pe_int set_list))
      (pss_one (ps_ret (pv 2))))) pss_nil)
      (pss_cons (ps_asg (pe_op op_add (pe_ix ix_list (pv 0) pe_int (fun _ _ => rfl)) pe_int) (pg_sub (pv 0) pe_int set_list))
      (pss_cons (ps_set (i := 3) sc_l_roll.nd rfl (.inl rfl) (pe_op op_modB (pe_callTy call_int1 (by rfl) T.n_int (by decide +kernel) (pa_cons (pe_op op_add (pe_ix ix_list (pv 0) pe_int (fun _ _ => rfl)) (pe_op op_mul pe_int (pe_ix ix_list (pv 0) pe_int (fun _ _ => rfl)))) pa_nil)) pe_int))
      (pss_cons (ps_set (i := 4) sc_l_roll.nd rfl (.inl rfl) (pe_op op_add (pe_op op_mul (pe_op op_modB (pe_callTy call_int1 (by rfl) T.n_int (by decide +kernel) (pa_cons (pe_op op_mul (pv 3) (pv 3)) pa_nil)) pe_int) (pv 3)) (pe_op op_mul pe_int (pe_ix ix_list (pv 0) pe_int (fun _ _ => rfl)))))
      (pss_one (ps_ret (pe_op op_modB (pe_callTy call_int1 (by rfl) T.n_int (by decide +kernel) (pa_cons (pe_op op_fdiv (pe_op op_modB (pe_callTy call_int1 (by rfl) T.n_int (by decide +kernel) (pa_cons (pe_op op_add (pv 4) (pe_ix ix_list (pv 0) pe_int (fun _ _ => rfl))) pa_nil)) pe_int) pe_int) pa_nil)) (pv 1)))))))), ?_⟩
    have at0 : atI [V.int a, .int b, .int c] 0 = some (.int a) := rfl
    have at1 : atI [V.int a, .int b, .int c] 1 = some (.int b) := rfl
    have at2 : atI [V.int a, .int b, .int c] 2 = some (.int c) := rfl
    refine ⟨_, rfl, d, _, 0, .int a, rfl, rfl, .of hd, at0, a, 0, rfl, rfl, _, rfl, ite2 (fun e1 => ?_) (fun e1 => ?_)⟩
    · -- found
      refine ⟨_, rfl, d, _, 0, .int a, rfl, rfl, .of hd, at0, .inl ⟨a, rfl, _, rfl, a, n, rfl, rfl, n0, fun r r0 r1 _ => ?_⟩⟩
      refine ⟨_, rfl, d, _, 0, .int a, rfl, rfl, .of hd, at0, _, rfl, a, n, rfl, rfl, wide_div n0 n1 (by decide) (by decide), _, rfl, d, _, 0, 0, rfl, rfl, hd, rfl, ?_⟩
      refine ⟨_, rfl, q r _ r0 r1 ?_⟩
      have h1 : 0 ≤ a / n := Int.ediv_nonneg a0 (by omega)
      have h2 : a / n ≤ a := Int.ediv_le_self n a0
      exact Keep.dice h1 (by omega)
    · refine ⟨_, rfl, d, _, 2, .int c, rfl, rfl, .of hd, at2, c, 1, rfl, rfl, _, rfl, d, _, 2, 2, rfl, rfl, hd, rfl, ?_⟩
      generalize hH : upd H d (.lst ([V.int a, .int b, .int c].set 2 ((fun i j => V.int (i + j)) c 1))) = H1
      have k1 : Keep d H H1 := by
        rw [← hH]
        exact Keep.dice a0 a1
      have e2 : H1 d = some (.lst [.int a, .int b, .int (c + 1)]) := by
        rw [← hH]
        exact upd_same
      refine ⟨_, rfl, d, _, 1, .int b, rfl, rfl, .of e2, rfl, _, rfl, d, _, 2, .int (c + 1), rfl, rfl, .of e2, rfl, 961748941, _, rfl, rfl, .inl ⟨by decide, by decide⟩, _, _, rfl, rfl, .inl ⟨_, rfl, _, _, rfl, rfl, by decide, fun o o0 o1 _ => ?_⟩⟩
      refine ⟨_, rfl, _, rfl, o, o, rfl, rfl, .inl ⟨by omega, by omega⟩, .inl ⟨_, rfl, _, _, rfl, rfl, by decide, fun t t0 t1 _ => ?_⟩⟩
      refine ⟨_, rfl, t, o, rfl, rfl, .inl ⟨by omega, by omega⟩, _, rfl, d, _, 2, .int (c + 1), rfl, rfl, .of e2, rfl, 7919, _, rfl, rfl, .inl ⟨by decide, by decide⟩, _, _, rfl, rfl, ?_⟩
      exact ⟨_, rfl, _, rfl, d, _, 1, .int b, rfl, rfl, .of e2, rfl, _, _, rfl, rfl, .inl ⟨_, rfl, _, _, rfl, rfl, by decide, fun u u0 u1 _ => ⟨u, 128, rfl, rfl, ⟨by decide, by decide⟩, .inl ⟨_, rfl, _, rfl, _, n, rfl, rfl, n0, fun r r0 r1 _ => q r H1 r0 r1 k1⟩⟩⟩⟩
/-- one of a list's items | a sign of a text -/
def sp_pickL (K : PySem.W.Frag) : Sp := fun vs H Q _ => ∃ (d p : Addr) (xs : List V), vs = [.ref d, .ref p] ∧ Dice H d ∧ p ≠ d ∧ H p = some (.lst xs) ∧ 0 < xs.length ∧ xs.length ≤ 1000 ∧ ∀ v H', v ∈ xs → Keep d H H' → Q v H'
def sp_pickS (K : PySem.W.Frag) : Sp := fun vs H Q _ => ∃ (d : Addr) (z : Str), vs = [.ref d, .str z] ∧ Dice H d ∧ 0 < z.length ∧ z.length ≤ 1000 ∧ ∀ c H', Keep d H H' → Q (.str ⟨#[c]⟩) H'
theorem small_b {n : Nat} (h : n ≤ 1000) : ((n : Nat) : Int).natAbs < 2 ^ 5000 := Nat.lt_of_le_of_lt (show ((n : Nat) : Int).natAbs ≤ 2 ^ 10 by simp; omega) (Nat.pow_lt_pow_right (by decide) (by decide))
theorem ok_pickL (T : Txt K mg) : FnOk P w K mg base CX0 2 T.a_l_pick T.fd_l_pick ["_law_dice_here", "_law_items"] (sp_pickL K) := by
  have G_l_roll : FnOk P w K mg base CX0 1 T.a_l_roll T.fd_l_roll ["_law_dice_here", "_law_upto"] (sp_roll K) := ok_roll T
  refine T.F_l_pick.ok sc_l_pick (fun vs H Q E h => ?_) (fun cdv A outer s H vs Q E hr h => ?_)
  · obtain ⟨d, p, xs, rfl, _⟩ := h
    rfl
  · obtain ⟨d, p, xs, rfl, hd, hp, e, x0, x1, q⟩ := h
    refine ⟨_, (pss_one (ps_ret (pe_ix ix_seq (pv 1) (pe_call G_l_roll (hr.mono (by decide)) (by rfl) T.g_l_roll T.F_l_roll.kp T.b_l_roll .nil pass0 (pa_cons (pv 0) (pa_cons (pe_callB call_len (by rfl) T.n_len (by decide +kernel) (pa_cons (pv 1) pa_nil)) pa_nil))) (fun _ _ => rfl)))), ?_⟩
    refine ⟨_, rfl, _, rfl, _, rfl, .ref p, xs.length, rfl, .inl ⟨xs, .of e, rfl⟩, d, xs.length, rfl, hd, by omega, small_b x1, fun r H1 r0 r1 k => ?_⟩
    obtain ⟨v, ev, mv⟩ := at_lt r0 r1
    exact .inl ⟨p, xs, r, v, rfl, rfl, .of (k.some hp e), ev, q v H1 mv k⟩
theorem ok_pickS (T : Txt K mg) : FnOk P w K mg base CX0 2 T.a_l_pick T.fd_l_pick ["_law_dice_here", "_law_items"] (sp_pickS K) := by
  have G_l_roll : FnOk P w K mg base CX0 1 T.a_l_roll T.fd_l_roll ["_law_dice_here", "_law_upto"] (sp_roll K) := ok_roll T
  refine T.F_l_pick.ok sc_l_pick (fun vs H Q E h => ?_) (fun cdv A outer s H vs Q E hr h => ?_)
  · obtain ⟨d, z, rfl, _⟩ := h
    rfl
  · obtain ⟨d, z, rfl, hd, x0, x1, q⟩ := h
    refine ⟨_, (pss_one (ps_ret (pe_ix ix_seq (pv 1) (pe_call G_l_roll (hr.mono (by decide)) (by rfl) T.g_l_roll T.F_l_roll.kp T.b_l_roll .nil pass0 (pa_cons (pv 0) (pa_cons (pe_callB call_len (by rfl) T.n_len (by decide +kernel) (pa_cons (pv 1) pa_nil)) pa_nil))) (fun _ _ => rfl)))), ?_⟩
    refine ⟨_, rfl, _, rfl, _, rfl, .str z, z.length, rfl, ⟨sz_of (by omega), rfl⟩, d, z.length, rfl, hd, by omega, small_b x1, fun r H1 r0 r1 k => ?_⟩
    obtain ⟨c, ec, mc⟩ := at_lt (xs := z.cps.toList) r0 (by rw [Array.length_toList]; exact r1)
    exact .inr (.inr ⟨z, r, c, rfl, rfl, sz_of (by omega), ec, q c H1 k⟩)
end
-- SPLIT
/-! ### what is drawn -/
section
variable {P : Program} {w : World} {K : PySem.W.Frag} {mg : Str → Option Value} {base : Heap}
/-- a new list; all else but the dice stands -/
def NewL (K : PySem.W.Frag) (d : Addr) (H H' : Hp) (l : Addr) (ys : List V) : Prop := H l = none ∧ l ≠ d ∧ Keep d H H' ∧ H' l = some (.lst ys)
theorem perm_ix {α : Type} {l : List α} {k : Nat} (h : k < l.length) : (l[k] :: l.eraseIdx k).Perm l := by
  have e : l = l.take k ++ l[k] :: l.drop (k + 1) := by
    rw [← List.drop_eq_getElem_cons h, List.take_append_drop]
  have z := (List.perm_middle (a := l[k]) (l₁ := l.take k) (l₂ := l.drop (k + 1))).symm
  rw [← e] at z
  rw [List.eraseIdx_eq_take_drop_succ]
  exact z
theorem small_i {i : Int} (h0 : 0 ≤ i) (h1 : i ≤ 1000000) : i.natAbs < 2 ^ 5000 := Nat.lt_of_le_of_lt (show i.natAbs ≤ 2 ^ 20 by omega) (Nat.pow_lt_pow_right (by decide) (by decide))
theorem perm_map {α β : Type} {f : α → β} : ∀ {xs : List α} {ys : List β}, ys.Perm (xs.map f) → ∃ zs : List α, zs.Perm xs ∧ ys = zs.map f := fun {xs ys} h => by
  generalize e : xs.map f = us at h
  induction h generalizing xs with
  | nil => exact ⟨[], by rw [List.map_eq_nil_iff.mp e], rfl⟩
  | cons x _ ih =>
    cases xs with
    | nil => cases e
    | cons y xs =>
      rw [List.map_cons] at e
      injection e with e1 e2
      obtain ⟨zs, h1, h2⟩ := ih e2
      exact ⟨y :: zs, h1.cons y, by rw [List.map_cons, e1, h2]⟩
  | swap x y l =>
    match xs, e with
    | a :: b :: xs, e =>
      rw [List.map_cons, List.map_cons] at e
      injection e with e1 e2
      injection e2 with e2 e3
      exact ⟨b :: a :: xs, .swap a b xs, by rw [List.map_cons, List.map_cons, e1, e2, e3]⟩
  | trans _ _ ih1 ih2 =>
    obtain ⟨zs, h1, h2⟩ := ih2 e
    obtain ⟨us, h3, h4⟩ := ih1 h2.symm
    exact ⟨us, h3.trans h1, h4⟩
/-- a comprehension over range(n) whose element only reads -/
theorem lc_rng {n k : Nat} {te : TE} {vs : List Nat} {σ : L2.St} {H : Hp} {D : Addr} {Qd : Hp → Prop} (hD : H D = none) (f : Nat → V) (hz : n ≤ 1000) (he : ∀ (i : Nat) (H1 : Hp), i < n → Same H H1 → ∀ Q : VK, (∀ H2, Same H1 H2 → Q (f i) H2) → te ((wipe σ vs).set k (some (.int (0 + (i : Nat))))) H1 Q)
    (hw : ∀ x, wipe ((wipe σ vs).set k (some x)) vs = wipe σ vs) (hd : ∀ H1, Same H H1 → H1 D = some (.lst ((List.range n).map f)) → Qd H1) :
    ∃ W : Nat → Nat → Hp → Prop, (∃ m, W 0 m (upd H D (.lst []))) ∧ ∀ i m H, W i m H →
      ((Itr 0 n).stop i H ∧ Qd H) ∨ ((Itr 0 n).go i H ∧ ∃ Nx : Hp → Prop, (∀ H', Nx H' → ∃ m', m' < m ∧ W (i + 1) m' H') ∧ ∀ x H', (Itr 0 n).yld i H x H' → gName k x (wipe σ vs) H' fun σ2 H2 => wipe σ2 vs = wipe σ vs ∧ tYes σ2 H2 fun b H3 =>
        if b = true then te σ2 H3 fun y H4 => ∃ acc, H4 D = some (.lst acc) ∧ acc.length < sizeLine ∧ Nx (upd H4 D (.lst (acc ++ [y]))) else Nx H3) := by
  refine lc_range (lo := 0) (n := n) (g := gName k) (fun i H1 => Same H H1 ∧ H1 D = some (.lst ((List.range i).map f))) ⟨same_upd hD, upd_same⟩ (fun i H1 hi h => ?_) fun H1 h => hd H1 h.1 h.2
  obtain ⟨s1, e1⟩ := h
  refine ⟨hw _, yesT (he i H1 hi s1 _ fun H2 s2 => ⟨_, s2 _ _ e1, ?_, sput (s1.trans s2) hD, ?_⟩)⟩
  · rw [List.length_map, List.length_range]
    exact small1000 (by omega)
  · rw [upd_same, List.range_succ, List.map_append]
    rfl
theorem seq_ix {i : Int} {n : Nat} (h0 : 0 ≤ i) (h1 : i < n) : seqIndex? i n = some i.toNat := by
  unfold seqIndex?
  simp
  omega
def sp_mixed (K : PySem.W.Frag) : Sp := fun vs H Q _ => ∃ (d p : Addr) (xs : List V), vs = [.ref d, .ref p] ∧ Dice H d ∧ SqL K H p xs ∧ xs.length ≤ 1000 ∧ ∀ (l : Addr) (ys : List V) (H' : Hp), ys.Perm xs → NewL K d H H' l ys → Q (.ref l) H'
theorem ok_mixed (T : Txt K mg) : FnOk P w K mg base CX0 2 T.a_l_mixed T.fd_l_mixed ["_law_dice_here", "_law_items"] (sp_mixed K) := by
  have G_l_roll : FnOk P w K mg base CX0 1 T.a_l_roll T.fd_l_roll ["_law_dice_here", "_law_upto"] (sp_roll K) := ok_roll T
  refine T.F_l_mixed.ok sc_l_mixed (fun vs H Q E h => ?_) (fun cdv A outer s H vs Q E hr h => ?_)
  · obtain ⟨d, p, xs, rfl, _⟩ := h
    rfl
  · obtain ⟨d, p, xs, rfl, hd, hx, h1, q⟩ := h
    refine ⟨_, (pss_cons (ps_par (i := 2) (j := 3) rfl sc_l_mixed.nd rfl rfl (by decide) rfl rfl (pa_cons (pe_callTy call_list_of (by rfl) T.n_list (by decide +kernel) (pa_cons (pv 1) pa_nil)) (pa_cons (pe_lst pa_nil) pa_nil)) (by rfl))
      (pss_cons (ps_while PassesOwn.never (pt_cmpR (op_neNil hr.units) (pv 2) (pe_lst pa_nil) (nomark _)) (pss_one (ps_expr (pe_bm PySem.F.plainAttrs_list PySem.F.slot_list_append PySem.F.type_list_append mt_append (pv 3) (pa_cons (pe_bm PySem.F.plainAttrs_list PySem.F.slot_list_pop PySem.F.type_list_pop mt_popAt (pv 2) (pa_cons (pe_call G_l_roll (hr.mono (by decide)) (by rfl) T.g_l_roll T.F_l_roll.kp T.b_l_roll .nil pass0 (pa_cons (pv 0) (pa_cons (pe_callB call_len_seq (by rfl) T.n_len (by decide +kernel) (pa_cons (pv 2) pa_nil)) pa_nil))) pa_nil)) pa_nil)))))
      (pss_one (ps_ret (pv 3))))), ?_⟩
    refine ⟨.ref p, rfl, p, xs, rfl, .inl hx, fun l hl => ⟨Nat.zero_le _, fun f hf => ⟨_, _, rfl, ?_⟩⟩⟩
    have ld : l ≠ d := hd.ne_of hl
    have s1 : Same H (upd H l (.lst xs)) := same_upd hl
    have fd : f ≠ d := (hd.same s1).ne_of hf
    have fl : f ≠ l := fun e => by
      rw [e, upd_same] at hf
      cases hf
    have s2 : Same H (upd (upd H l (.lst xs)) f (.lst [])) := snew s1 hf
    have nf : H f = none := by
      rw [upd_ne fl] at hf
      exact hf
    refine ⟨fun m σ H1 => ∃ (as bs : List V) , σ = [some (.ref d), some (.ref p), some (.ref l), some (.ref f)] ∧ m = as.length ∧ Keep d H H1 ∧ H1 l = some (.lst as) ∧ H1 f = some (.lst bs) ∧ (bs ++ as).Perm xs, ⟨xs.length, xs, [], rfl, rfl, .of_same s2 hd, ?_, upd_same, List.Perm.refl _⟩, fun m σ H1 h => ?_⟩
    · rw [upd_ne (Ne.symm fl), upd_same]
    · obtain ⟨as, bs, rfl, rfl, k1, e1, e2, pm⟩ := h
      refine ⟨.ref l, rfl, Nat.zero_le _, fun z hz => ?_⟩
      have s3 : Same H1 (upd H1 z (.lst [])) := same_upd hz
      refine ⟨l, z, as, rfl, rfl, .of (s3 _ _ e1), .of upd_same, ?_⟩
      cases as with
      | nil =>
        rw [List.append_nil] at pm
        exact ⟨_, rfl, iteF ⟨.ref f, rfl, q f bs _ pm ⟨nf, fd, k1.same s3, s3 _ _ e2⟩⟩⟩
      | cons a0 as0 =>
        refine ⟨_, rfl, iteT ⟨fun σ' H' => ∃ m', m' < (a0 :: as0).length ∧ ∃ (as bs : List V) , σ' = [some (.ref d), some (.ref p), some (.ref l), some (.ref f)] ∧ m' = as.length ∧ Keep d H H' ∧ H' l = some (.lst as) ∧ H' f = some (.lst bs) ∧ (bs ++ as).Perm xs, fun σ' H' h => h, ?_⟩⟩
        have k3 := k1.same s3
        have f3 := s3 _ _ e2
        have l3 := s3 _ _ e1
        generalize upd H1 z (.lst []) = H3 at k3 f3 l3 ⊢
        generalize has : a0 :: as0 = as at l3 pm ⊢
        have as1 : 0 < as.length := by
          rw [← has]
          exact Nat.succ_pos _
        have as2 : as.length ≤ 1000 := by
          have z := pm.length_eq
          rw [List.length_append] at z
          omega
        have bs2 : bs.length ≤ 1000 := by
          have z := pm.length_eq
          rw [List.length_append] at z
          omega
        refine ⟨.ref f, rfl, .inl ⟨rfl, _, .of f3⟩, .ref l, rfl, .inl ⟨rfl, _, .of l3⟩, _, rfl, .ref l, rfl, l, as, rfl, .inl (.of l3), d, as.length, rfl, k3.2, by omega, small_b as2, fun r H4 r0 r1 k4 => ?_⟩
        have f4 := k4.some fd f3
        have l4 := k4.some ld l3
        have rk : r.toNat < as.length := by omega
        refine ⟨l, as, r, r.toNat, as[r.toNat], rfl, rfl, l4, by omega, by omega, seq_ix r0 r1, List.getElem?_eq_getElem rk, ?_⟩
        refine ⟨f, bs, as[r.toNat], rfl, rfl, by rw [upd_ne fl]; exact f4, small1000 bs2, ?_⟩
        refine ⟨(as.eraseIdx r.toNat).length, by rw [List.length_eraseIdx_of_lt rk]; omega, as.eraseIdx r.toNat, bs ++ [as[r.toNat]], rfl, rfl, ((k3.trans k4).put hl ld).put nf fd, ?_, upd_same, ?_⟩
        · rw [upd_ne (Ne.symm fl), upd_same]
        · have z := perm_ix rk
          refine List.Perm.trans ?_ pm
          rw [List.append_assoc]
          exact List.Perm.append_left bs z
theorem cut_to {xs : List V} {n : Int} (h : 0 ≤ n) : cutV xs none (some n) = xs.take n.toNat := by
  have e : HT.sIx xs.length xs.length (some n) = min n.toNat xs.length := by
    show (if n < 0 then (n + (xs.length : Int)).toNat else min n.toNat xs.length) = _
    rw [if_neg (by omega)]
  unfold cutV
  rw [e, HT.sIx_none, List.drop_zero, Nat.sub_zero]
  rcases Nat.le_total n.toNat xs.length with z | z
  · rw [Nat.min_eq_left z]
  · rw [Nat.min_eq_right z, List.take_of_length_le z, List.take_of_length_le (Nat.le_refl _)]
def sp_some (K : PySem.W.Frag) : Sp := fun vs H Q _ => ∃ (d p : Addr) (xs : List V) (a b : Int), vs = [.ref d, .ref p, .int a, .int b] ∧ Dice H d ∧ SqL K H p xs ∧ xs.length ≤ 1000 ∧ 0 ≤ a ∧ a ≤ b ∧ p ≠ d ∧
  ∀ (l : Addr) (ys : List V) (n : Nat) (H' : Hp), ys.Perm xs → min a xs.length ≤ (n : Nat) → (n : Int) ≤ b → n ≤ xs.length → NewL K d H H' l (ys.take n) → Q (.ref l) H'
theorem ok_some (T : Txt K mg) : FnOk P w K mg base CX0 3 T.a_l_some T.fd_l_some ["_law_dice_here", "_law_items", "_law_least", "_law_most"] (sp_some K) := by
  have G_l_roll : FnOk P w K mg base CX0 1 T.a_l_roll T.fd_l_roll ["_law_dice_here", "_law_upto"] (sp_roll K) := ok_roll T
  have G_l_mixed : FnOk P w K mg base CX0 2 T.a_l_mixed T.fd_l_mixed ["_law_dice_here", "_law_items"] (sp_mixed K) := ok_mixed T
  refine T.F_l_some.ok sc_l_some (fun vs H Q E h => ?_) (fun cdv A outer s H vs Q E hr h => ?_)
  · obtain ⟨d, p, xs, a, b, rfl, _⟩ := h
    rfl
  · obtain ⟨d, p, xs, a, b, rfl, hd, hx, h1, a0, ab, pd, q⟩ := h
    refine ⟨_, (pss_cons (ps_par (i := 4) (j := 5) rfl sc_l_some.nd rfl rfl (by decide) rfl rfl (pa_cons (pe_callB (call_min2 rfl) (by rfl) T.n_min (by decide +kernel) (pa_cons (pv 2) (pa_cons (pe_callB call_len_seq (by rfl) T.n_len (by decide +kernel) (pa_cons (pv 1) pa_nil)) pa_nil))) (pa_cons (pe_callB (call_min2 rfl) (by rfl) T.n_min (by decide +kernel) (pa_cons (pv 3) (pa_cons (pe_callB call_len_seq (by rfl) T.n_len (by decide +kernel) (pa_cons (pv 1) pa_nil)) pa_nil))) pa_nil)) (by rfl))
      (pss_one (ps_ret (pe_slice sl_list (pe_call G_l_mixed (hr.mono (by decide)) (by rfl) T.g_l_mixed T.F_l_mixed.kp T.b_l_mixed .nil pass0 (pa_cons (pv 0) (pa_cons (pv 1) pa_nil))) po_none (po_some (pe_op op_add (pv 4) (pe_call G_l_roll (hr.mono (by decide)) (by rfl) T.g_l_roll T.F_l_roll.kp T.b_l_roll .nil pass0 (pa_cons (pv 0) (pa_cons (pe_op op_add (pe_op op_sub (pv 5) (pv 4)) pe_int) pa_nil))))))))), ?_⟩
    refine ⟨.int a, rfl, .ref p, rfl, p, xs, rfl, .inl hx, a, xs.length, rfl, .int b, rfl, .ref p, rfl, p, xs, rfl, .inl hx, b, xs.length, rfl, _, _, rfl, ?_⟩
    generalize hlo : (if (xs.length : Int) < a then (xs.length : Int) else a) = lo
    generalize hhi : (if (xs.length : Int) < b then (xs.length : Int) else b) = hi
    have lo0 : lo = min a xs.length := by
      rw [← hlo]
      split <;> omega
    have hi0 : hi = min b xs.length := by
      rw [← hhi]
      split <;> omega
    refine ⟨.ref d, rfl, .ref p, rfl, d, p, xs, rfl, hd, hx, h1, fun l ys H1 pm nl => ?_⟩
    obtain ⟨n1, n2, k1, e1⟩ := nl
    refine ⟨_, rfl, .ref d, rfl, _, rfl, _, rfl, _, _, rfl, rfl, _, _, rfl, rfl, d, hi - lo + 1, rfl, k1.2, by omega, small_i (by omega) (by omega), fun r H2 r0 r1 k2 => ⟨_, _, rfl, rfl, _, rfl, l, ys, rfl, .of (k2.some n2 e1), fun m hm => ?_⟩⟩
    have k3 := k1.trans k2
    rw [cut_to (by omega)]
    refine q m ys (lo + r).toNat _ pm (by omega) (by omega) (by omega) ⟨k3.free hm, k3.2.ne_of hm, k3.same (same_upd hm), upd_same⟩
/-- letters -/
theorem letters_of {z : Str} (h : ∀ c ∈ z.cps.toList, c ∈ LET.cps.toList) (h1 : 1 ≤ z.length) (h8 : z.length ≤ 8) : nameB (.str z) = true := by
  rw [nameB_str, decide_eq_true (by omega), decide_eq_true (by omega), Bool.true_and, Bool.true_and, List.all_eq_true]
  exact fun c hc => decide_eq_true (h c hc)
theorem join_cps (ys : List Str) : (Txt.join "" ys).cps.toList = (ys.map fun y => y.cps.toList).flatten := by
  have h := TL.tl_join "" ys
  rw [show TL.tl "" = [] by decide +kernel, joinL_nil] at h
  rw [TL.join_eq]
  exact h
theorem ABC26 : LET.cps.toList.length = 26 := by decide +kernel
def sp_word (K : PySem.W.Frag) : Sp := fun vs H Q _ => ∃ d : Addr, vs = [.ref d] ∧ Dice H d ∧ ∀ (z : Str) (H' : Hp), nameB (.str z) = true → Keep d H H' → Q (.str z) H'
theorem ok_word (T : Txt K mg) : FnOk P w K mg base CX0 2 T.a_l_word T.fd_l_word ["_law_dice_here"] (sp_word K) := by
  have G_l_roll : FnOk P w K mg base CX0 1 T.a_l_roll T.fd_l_roll ["_law_dice_here", "_law_upto"] (sp_roll K) := ok_roll T
  refine T.F_l_word.ok sc_l_word (fun vs H Q E h => ?_) (fun cdv A outer s H vs Q E hr h => ?_)
  · obtain ⟨d, rfl, _⟩ := h
    rfl
  · obtain ⟨d, rfl, hd, q⟩ := h
    refine ⟨_, (pss_one (ps_ret (pe_join pe_str (pe_lc (own := [("_law_turn", 1)]) (g := gName 1) (tt := tYes) rfl sc_l_word.nd (pi_range1 (by rfl) T.n_range (pa_cons (pe_op op_add pe_int (pe_call G_l_roll (hr.mono (by decide)) (by rfl) T.g_l_roll T.F_l_roll.kp T.b_l_roll .nil pass0 (pa_cons (pv 0) (pa_cons pe_int pa_nil)))) pa_nil)) (blkOk_by (N := ["_law_dice_here", "_law_turn"]) (sc := defScope s_l_word) (by decide +kernel)) (fun _ _ _ _ _ => pg_name (i := 1) sc_l_word.nd rfl (Or.inl rfl)) (fun _ _ _ _ _ => pts_nil) (fun _ _ _ _ _ => (pe_ix ix_str pe_str (pe_call G_l_roll (hr.mono (by decide)) (by rfl) T.g_l_roll T.F_l_roll.kp T.b_l_roll .nil pass0 (pa_cons (pv 0) (pa_cons pe_int pa_nil))) (fun _ _ => rfl))))))), ?_⟩
    refine ⟨⟨_, rfl⟩, .ref d, rfl, d, 8, rfl, hd, by decide, small_i (by decide) (by decide), fun n H1 n0 n1 k1 => ⟨1, n, rfl, rfl, 1 + n, rfl, by omega, by omega, fun D hD => ?_⟩⟩
    have nD : H D = none := k1.free hD
    have Dd : D ≠ d := hd.ne_of nD
    refine lc_range (lo := 0) (n := (1 + n).toNat) (fun i H2 => Keep d H H2 ∧ ∃ ys : List Str, H2 D = some (.lst (ys.map V.str)) ∧ ys.length = i ∧ ∀ y ∈ ys, ∃ c ∈ LET.cps.toList, y = ⟨#[c]⟩) ⟨k1.put nD Dd, [], upd_same, rfl, by simp⟩ (fun i H2 hi h2 => ?_) (fun H2 h2 => ?_)
    · obtain ⟨k2, ys, e2, l2, y2⟩ := h2
      refine ⟨rfl, yesT ⟨.ref d, rfl, d, 26, rfl, k2.2, by decide, small_i (by decide) (by decide), fun r H3 r0 r1 k3 => ?_⟩⟩
      obtain ⟨c, ec, mc⟩ := at_lt (xs := LET.cps.toList) r0 (by rw [ABC26]; exact r1)
      refine ⟨LET, r, c, rfl, rfl, by decide +kernel, ec, _, k3.some Dd e2, ?_, (k2.trans k3).put nD Dd, ys ++ [⟨#[c]⟩], ?_, ?_, ?_⟩
      · rw [List.length_map]
        exact small1000 (by omega)
      · rw [upd_same, List.map_append]
        rfl
      · rw [List.length_append, l2]
        rfl
      · intro y hy
        rcases List.mem_append.mp hy with h | h
        · exact y2 y h
        · rw [List.mem_singleton.mp h]
          exact ⟨c, mc, rfl⟩
    · obtain ⟨k2, ys, e2, l2, y2⟩ := h2
      have one : ∀ y ∈ ys, y.length = 1 := fun y hy => by
        obtain ⟨c, _, rfl⟩ := y2 y hy
        rfl
      have h1 := sum_ones ys one
      have h0 : Str.length "" = 0 := by decide +kernel
      have len : (Txt.join "" ys).length = ys.length := by
        rw [join_len]
        exact h1
      refine ⟨_, D, ys, rfl, rfl, .inl (.of e2), by rw [h0, h1]; omega, q _ _ (letters_of (fun c hc => ?_) (by omega) (by omega)) k2⟩
      rw [join_cps] at hc
      obtain ⟨l, hl, hc⟩ := List.mem_flatten.mp hc
      obtain ⟨y, hy, rfl⟩ := List.mem_map.mp hl
      obtain ⟨c', hc', rfl⟩ := y2 y hy
      rw [List.mem_singleton.mp hc]
      exact hc'
def WORDS : List Str := ["a", "aa", "ab", "all", "b", "gone", "if", "item", "key", "living", "refers", "self", "without", "zzzzzzzz"]
theorem words_ok : (WORDS.all fun z => nameB (.str z)) = true := by decide +kernel
def sp_words (K : PySem.W.Frag) : Sp := fun vs H Q _ => ∃ (d : Addr) (n : Int), vs = [.ref d, .int n] ∧ Dice H d ∧ 0 ≤ n ∧ n ≤ 14 ∧ ∀ (l : Addr) (ws : List Str) (H' : Hp), ws.length = n.toNat → (∀ z ∈ ws, nameB (.str z) = true) → NewL K d H H' l (ws.map V.str) → Q (.ref l) H'
theorem ok_words (T : Txt K mg) : FnOk P w K mg base CX0 3 T.a_l_words T.fd_l_words ["_law_dice_here", "_law_upto"] (sp_words K) := by
  have G_l_mixed : FnOk P w K mg base CX0 2 T.a_l_mixed T.fd_l_mixed ["_law_dice_here", "_law_items"] (sp_mixed K) := ok_mixed T
  refine T.F_l_words.ok sc_l_words (fun vs H Q E h => ?_) (fun cdv A outer s H vs Q E hr h => ?_)
  · obtain ⟨d, n, rfl, _⟩ := h
    rfl
  · obtain ⟨d, n, rfl, hd, n0, n1, q⟩ := h
    refine ⟨_, (pss_cons (ps_set (i := 2) sc_l_words.nd rfl (.inl rfl) (pe_lst (pa_cons pe_str (pa_cons pe_str (pa_cons pe_str (pa_cons pe_str (pa_cons pe_str (pa_cons pe_str (pa_cons pe_str (pa_cons pe_str (pa_cons pe_str (pa_cons pe_str (pa_cons pe_str (pa_cons pe_str (pa_cons pe_str (pa_cons pe_str pa_nil))))))))))))))))
      (pss_one (ps_ret (pe_slice sl_list (pe_call G_l_mixed (hr.mono (by decide)) (by rfl) T.g_l_mixed T.F_l_mixed.kp T.b_l_mixed .nil pass0 (pa_cons (pv 0) (pa_cons (pv 2) pa_nil))) po_none (po_some (pv 1)))))), ?_⟩
    refine ⟨by show 14 ≤ sizeLine; decide, fun p hp => ?_⟩
    refine ⟨.ref d, rfl, .ref p, rfl, d, p, WORDS.map V.str, rfl, hd.same (same_upd hp), .of upd_same, by show 14 ≤ 1000; decide, fun l ys H2 pm nl => ⟨_, rfl, n, rfl, l, ys, rfl, .of nl.2.2.2, fun m hm => ?_⟩⟩
    obtain ⟨m1, m2, k1, e1⟩ := nl
    rw [cut_to n0]
    obtain ⟨ws, hw, rfl⟩ : ∃ ws : List Str, ws.Perm WORDS ∧ ys = ws.map V.str := perm_map pm
    have kk : Keep d H H2 := (Keep.of_same (same_upd hp) hd).trans k1
    have len : ws.length = 14 := hw.length_eq
    refine q m (ws.take n.toNat) _ (by rw [List.length_take, len]; omega) (fun z hz => ?_) ⟨kk.free hm, kk.2.ne_of hm, kk.same (same_upd hm), by rw [upd_same, List.map_take]⟩
    exact List.all_eq_true.mp words_ok z (hw.mem_iff.mp (List.mem_of_mem_take hz))
/-- four integers -/
def sp_pool (K : PySem.W.Frag) : Sp := fun vs H Q _ => ∃ d : Addr, vs = [.ref d, .int 4] ∧ Dice H d ∧ ∀ (l : Addr) (ns : List Int) (H' : Hp), ns.length = 4 → (∀ i ∈ ns, intB (.int i) = true) → NewL K d H H' l (ns.map V.int) → Q (.ref l) H'
theorem ok_pool (T : Txt K mg) : FnOk P w K mg base CX0 2 T.a_l_pool T.fd_l_pool ["_law_dice_here", "_law_lots"] (sp_pool K) := by
  have G_l_roll : FnOk P w K mg base CX0 1 T.a_l_roll T.fd_l_roll ["_law_dice_here", "_law_upto"] (sp_roll K) := ok_roll T
  refine T.F_l_pool.ok sc_l_pool (fun vs H Q E h => ?_) (fun cdv A outer s H vs Q E hr h => ?_)
  · obtain ⟨d, rfl, _⟩ := h
    rfl
  · obtain ⟨d, rfl, hd, q⟩ := h
    refine ⟨_, (pss_cons (ps_set (i := 2) sc_l_pool.nd rfl (.inl rfl) (pe_call G_l_roll (hr.mono (by decide)) (by rfl) T.g_l_roll T.F_l_roll.kp T.b_l_roll .nil pass0 (pa_cons (pv 0) (pa_cons pe_int pa_nil))))
      (pss_cons (ps_if (pt_cmpR op_eq (pv 2) pe_int (nomark _)) (pss_one (ps_ret (pe_lc (own := [("_law_number", 3)]) (g := gName 3) (tt := tYes) rfl sc_l_pool.nd (pi_range1 (by rfl) T.n_range (pa_cons (pv 1) pa_nil)) (blkOk_by (N := ["_law_dice_here", "_law_lots", "_law_way", "_law_number"]) (sc := defScope s_l_pool) (by decide +kernel)) (fun _ _ _ _ _ => pg_name (i := 3) sc_l_pool.nd rfl (Or.inl rfl)) (fun _ _ _ _ _ => pts_nil) (fun _ _ _ _ _ => (pe_op op_sub (pe_op op_sub pe_int pe_int) (pv 3)))))) pss_nil)
      (pss_cons (ps_if (pt_cmpR op_eq (pv 2) pe_int (nomark _)) (pss_one (ps_ret (pe_lc (own := [("_law_number", 3)]) (g := gName 3) (tt := tYes) rfl sc_l_pool.nd (pi_range1 (by rfl) T.n_range (pa_cons (pv 1) pa_nil)) (blkOk_by (N := ["_law_dice_here", "_law_lots", "_law_way", "_law_number"]) (sc := defScope s_l_pool) (by decide +kernel)) (fun _ _ _ _ _ => pg_name (i := 3) sc_l_pool.nd rfl (Or.inl rfl)) (fun _ _ _ _ _ => pts_nil) (fun _ _ _ _ _ => (pe_op op_sub (pe_op op_sub (pe_op op_pow pe_int pe_int) pe_int) (pv 3)))))) pss_nil)
      (pss_cons (ps_if (pt_cmpR op_eq (pv 2) pe_int (nomark _)) (pss_one (ps_ret (pe_slice sl_list (pe_lst (pa_cons pe_int (pa_cons (pe_op op_sub pe_int pe_int) (pa_cons (pe_op op_sub (pe_op op_pow pe_int pe_int) pe_int) (pa_cons (pe_op op_sub pe_int (pe_op op_pow pe_int pe_int)) pa_nil))))) po_none (po_some (pv 1))))) pss_nil)
      (pss_one (ps_ret (pe_listRg rfl (by rfl) T.n_list (prg_1 (by rfl) T.n_range (pv 1))))))))), ?_⟩
    refine ⟨.ref d, rfl, d, 5, rfl, hd, by decide, small_i (by decide) (by decide), fun n H1 n0 n1 k1 => ?_⟩
    have fin : ∀ (l : Addr) (H2 : Hp) (ns : List Int), H1 l = none → Same H1 H2 → H2 l = some (.lst (ns.map V.int)) → ns.length = 4 → (∀ i ∈ ns, intB (.int i) = true) → Q (.ref l) H2 := fun l H2 ns hl s2 e2 l4 ok =>
      q l ns H2 l4 ok ⟨k1.free hl, k1.2.ne_of hl, k1.same s2, e2⟩
    refine ⟨_, rfl, rfl, _, rfl, ite2 (fun _ => ?_) (fun _ => ?_)⟩
    · refine ⟨_, rfl, 4, rfl, by decide, by decide, fun D hD => lc_rng hD (fun i => .int (0 - 1 - (0 + (i : Nat)))) (by decide) (fun i H2 hi s2 Q h => ⟨0, 1, rfl, rfl, _, rfl, _, _, rfl, rfl, h H2 (.refl _)⟩) (fun x => rfl) fun H2 s2 e2 => ?_⟩
      exact fin D H2 [-1, -2, -3, -4] hD s2 (e2.trans (congrArg (fun z => some (HO.lst z)) (by decide +kernel))) rfl (by decide +kernel)
    refine ⟨_, rfl, rfl, _, rfl, ite2 (fun _ => ?_) (fun _ => ?_)⟩
    · refine ⟨_, rfl, 4, rfl, by decide, by decide, fun D hD => lc_rng hD (fun i => .int (10 ^ (20 : Int).toNat - 1 - (0 + (i : Nat)))) (by decide) (fun i H2 hi s2 Q h => ⟨10, 20, rfl, rfl, ⟨by decide, by decide, by decide⟩, _, _, rfl, rfl, _, rfl, _, _, rfl, rfl, h H2 (.refl _)⟩) (fun x => rfl) fun H2 s2 e2 => ?_⟩
      exact fin D H2 [10 ^ 20 - 1, 10 ^ 20 - 2, 10 ^ 20 - 3, 10 ^ 20 - 4] hD s2 (e2.trans (congrArg (fun z => some (HO.lst z)) (by decide +kernel))) rfl (by decide +kernel)
    refine ⟨_, rfl, rfl, _, rfl, ite2 (fun _ => ?_) (fun _ => ?_)⟩
    · refine ⟨0, 1, rfl, rfl, 10, 20, rfl, rfl, ⟨by decide, by decide, by decide⟩, _, 1, rfl, rfl, 10, 20, rfl, rfl, ⟨by decide, by decide, by decide⟩, 1, _, rfl, rfl, by show 4 ≤ sizeLine; decide, fun p hp => ⟨_, rfl, 4, rfl, p, _, rfl, .of upd_same, fun l hl => ?_⟩⟩
      refine fin l _ [0, -1, 10 ^ 20 - 1, 1 - 10 ^ 20] ((same_upd hp).free hl) (snew (same_upd hp) hl) upd_same rfl (by decide +kernel)
    · refine ⟨.int 4, rfl, 4, rfl, RgOk.of_le (by decide) (by decide) (by decide) (by decide), fun l hl => ?_⟩
      exact fin l _ [0, 1, 2, 3] hl (same_upd hl) upd_same rfl (by decide +kernel)
/-- columns: one to so many -/
def sp_columns (K : PySem.W.Frag) : Sp := fun vs H Q _ => ∃ (d : Addr) (n m : Int), vs = [.ref d, .int n, .int m] ∧ Dice H d ∧ 1 ≤ n ∧ n ≤ 4 ∧ 1 ≤ m ∧ m ≤ 4 ∧ ∀ (t : Addr) (cs : List Int) (H' : Hp), colsL n (cs.map V.int) = true → Keep d H H' → H' t = some (.tup (cs.map V.int)) → Q (.ref t) H'
theorem ok_columns (T : Txt K mg) : FnOk P w K mg base CX0 2 T.a_l_columns T.fd_l_columns ["_law_dice_here", "_law_width", "_law_most"] (sp_columns K) := by
  have G_l_roll : FnOk P w K mg base CX0 1 T.a_l_roll T.fd_l_roll ["_law_dice_here", "_law_upto"] (sp_roll K) := ok_roll T
  refine T.F_l_columns.ok sc_l_columns (fun vs H Q E h => ?_) (fun cdv A outer s H vs Q E hr h => ?_)
  · obtain ⟨d, n, m, rfl, _⟩ := h
    rfl
  · obtain ⟨d, n, m, rfl, hd, n1, n4, m1, m4, q⟩ := h
    refine ⟨_, (pss_one (ps_ret (pe_callTy call_tuple_of (by rfl) T.n_tuple (by decide +kernel) (pa_cons (pe_lc (own := [("_law_turn", 3)]) (g := gName 3) (tt := tYes) rfl sc_l_columns.nd (pi_range1 (by rfl) T.n_range (pa_cons (pe_op op_add pe_int (pe_call G_l_roll (hr.mono (by decide)) (by rfl) T.g_l_roll T.F_l_roll.kp T.b_l_roll .nil pass0 (pa_cons (pv 0) (pa_cons (pv 2) pa_nil)))) pa_nil)) (blkOk_by (N := ["_law_dice_here", "_law_width", "_law_most", "_law_turn"]) (sc := defScope s_l_columns) (by decide +kernel)) (fun _ _ _ _ _ => pg_name (i := 3) sc_l_columns.nd rfl (Or.inl rfl)) (fun _ _ _ _ _ => pts_nil) (fun _ _ _ _ _ => (pe_call G_l_roll (hr.mono (by decide)) (by rfl) T.g_l_roll T.F_l_roll.kp T.b_l_roll .nil pass0 (pa_cons (pv 0) (pa_cons (pv 1) pa_nil))))) pa_nil)))), ?_⟩
    refine ⟨.ref d, rfl, .int m, rfl, d, m, rfl, hd, by omega, small_i (by omega) (by omega), fun r H1 r0 r1 k1 => ⟨1, r, rfl, rfl, 1 + r, rfl, by omega, by omega, fun D hD => ?_⟩⟩
    have nD : H D = none := k1.free hD
    have Dd : D ≠ d := hd.ne_of nD
    refine lc_range (lo := 0) (n := (1 + r).toNat) (fun i H2 => Keep d H H2 ∧ ∃ cs : List Int, H2 D = some (.lst (cs.map V.int)) ∧ cs.length = i ∧ ∀ c ∈ cs, 0 ≤ c ∧ c < n) ⟨k1.put nD Dd, [], upd_same, rfl, by simp⟩ (fun i H2 hi h2 => ?_) (fun H2 h2 => ?_)
    · obtain ⟨k2, cs, e2, l2, c2⟩ := h2
      refine ⟨rfl, yesT ⟨.ref d, rfl, .int n, rfl, d, n, rfl, k2.2, by omega, small_i (by omega) (by omega), fun c H3 c0 c1 k3 => ?_⟩⟩
      refine ⟨_, k3.some Dd e2, ?_, (k2.trans k3).put nD Dd, cs ++ [c], ?_, ?_, ?_⟩
      · rw [List.length_map]
        exact small1000 (by omega)
      · rw [upd_same, List.map_append]
        rfl
      · rw [List.length_append, l2]
        rfl
      · intro y hy
        rcases List.mem_append.mp hy with h | h
        · exact c2 y h
        · rw [List.mem_singleton.mp h]
          exact ⟨c0, c1⟩
    · obtain ⟨k2, cs, e2, l2, c2⟩ := h2
      refine ⟨D, _, rfl, .inl ⟨.of e2, fun t ht => q t cs _ ?_ (k2.same (same_upd ht)) upd_same⟩⟩
      unfold colsL
      rw [List.length_map, decide_eq_true (by omega), decide_eq_true (by omega), Bool.true_and, Bool.true_and, List.all_map, List.all_eq_true]
      intro c hc
      obtain ⟨c0, c1⟩ := c2 c hc
      show (decide (0 ≤ c) && decide (c < n)) = true
      rw [decide_eq_true c0, decide_eq_true c1]
      rfl
end
-- SPLIT
section
variable {P : Program} {w : World} {K : PySem.W.Frag} {mg : Str → Option Value} {base : Heap}
/-- a list of a table's parts -/
def PartsAt (K : PySem.W.Frag) (d : Addr) (H : Hp) (v : V) (p : Parts) : Prop := ∃ (a lr : Addr) (kv : V) (ks : List (Addr × Rf)), v = .ref a ∧ a ≠ d ∧ lr ≠ d ∧ H a = some (.lst [.str p.nm, .int p.wd, kv, .str p.sc, .ref lr]) ∧
  H lr = some (.lst (ks.map fun x => V.ref x.1)) ∧ ks.map Prod.snd = p.refs ∧ (∀ x ∈ ks, Dp K H (.ref x.1) (refD x.2)) ∧ Dp K H kv (keyD p.key)
theorem PartsAt.keep {K : PySem.W.Frag} {d : Addr} {H H' : Hp} {v : V} {p : Parts} (h : PartsAt K d H v p) (k : Keep d H H') (hd : Dice H d) : PartsAt K d H' v p := by
  obtain ⟨a, lr, kv, ks, e, ad, ld, ea, el, hk, hr, hq⟩ := h
  have m : Mv K H H' := mv_keep k hd
  exact ⟨a, lr, kv, ks, e, ad, ld, k.1 _ _ ad ea, k.1 _ _ ld el, hk, fun x hx => dp_mv m _ _ (flat_ref _) (hr x hx), dp_mv m _ _ (flat_key _) hq⟩
theorem asc_of_sorted {ns ms : List Int} {w : Int} (nd : ns.Nodup) (pm : ms.Perm ns) (so : ms.Pairwise (· ≤ ·)) (l1 : 1 ≤ ns.length) (l4 : ns.length ≤ 4) (hw : ∀ i ∈ ns, 0 ≤ i ∧ i < w) : keyOk w ms := by
  have len := pm.length_eq
  have nd2 : ms.Nodup := pm.nodup_iff.mpr nd
  have lt : ms.Pairwise (· < ·) := (so.and nd2).imp fun h => by
    obtain ⟨a, b⟩ := h
    omega
  unfold keyOk ascL colsL
  rw [List.length_map, decide_eq_true (by omega), decide_eq_true (by omega), Bool.true_and, Bool.true_and, List.all_map, List.map_map, Bool.and_eq_true, List.all_eq_true]
  refine ⟨fun i hi => ?_, ?_⟩
  · obtain ⟨a, b⟩ := hw i (pm.mem_iff.mp hi)
    show (decide (0 ≤ i) && decide (i < w)) = true
    rw [decide_eq_true a, decide_eq_true b]
    rfl
  · have e : ms.map (intOf ∘ V.int) = ms := by
      rw [show (intOf ∘ V.int) = id from rfl, List.map_id]
    rw [e]
    exact decide_eq_true lt
theorem rg_map (n : Int) : rgV 0 n = ((List.range n.toNat).map fun i : Nat => (i : Int)).map V.int := by
  unfold rgV
  rw [List.map_map, Int.sub_zero]
  exact List.map_congr_left fun i _ => by
    show V.int (0 + (i : Int)) = V.int (i : Int)
    rw [Int.zero_add]
/-- some columns, ascending: a key -/
theorem key_some {n : Int} {ys : List V} {m : Nat} (n4 : n ≤ 4) (pm : ys.Perm (rgV 0 n)) (m1 : 1 ≤ m) (m4 : (m : Int) ≤ 4) (mz : m ≤ (rgV 0 n).length) : ∃ ns : List Int, ys.take m = ns.map V.int ∧ ns.length = m ∧ ∀ ms : List Int, ms.Perm ns → ms.Pairwise (· ≤ ·) → keyOk n ms := by
  rw [rg_map] at pm mz
  obtain ⟨zs, hz, rfl⟩ := perm_map pm
  refine ⟨zs.take m, by rw [List.map_take], ?_, fun ms h1 h2 => ?_⟩
  · rw [List.length_map] at mz
    rw [List.length_take, hz.length_eq]
    omega
  · have nd : ((List.range n.toNat).map fun i : Nat => (i : Int)).Nodup := List.pairwise_map.mpr (List.nodup_range.imp fun h e => h (by omega))
    have len : (zs.take m).length = m := by
      rw [List.length_map] at mz
      rw [List.length_take, hz.length_eq]
      omega
    refine asc_of_sorted ((hz.nodup_iff.mpr nd).sublist (List.take_sublist m zs)) h1 h2 (by omega) (by omega) fun i hi => ?_
    obtain ⟨j, hj, rfl⟩ := List.mem_map.mp (hz.mem_iff.mp (List.mem_of_mem_take hi))
    have z := List.mem_range.mp hj
    omega
theorem any_refs (r : Rf) : ∀ rs : List Rf, ((rs.map refD).any fun z => PyData.eqv z (refD r)) = decide (r ∈ rs)
  | [] => by simp
  | x :: xs => by
    rw [List.map_cons, List.any_cons, any_refs r xs, eqv_ref]
    by_cases a : x = r
    · simp [a]
    · by_cases b : r ∈ xs <;> simp [a, b, Ne.symm a]
def sp_parts (K : PySem.W.Frag) : Sp := fun vs H Q _ => ∃ d : Addr, vs = [.ref d] ∧ Dice H d ∧ ∀ (v : V) (p : Parts) (H' : Hp), POk p → PartsAt K d H' v p → Keep d H H' → Q v H'
theorem ok_parts (T : Txt K mg) : FnOk P w K mg base CX0 4 T.a_l_parts T.fd_l_parts ["_law_dice_here"] (sp_parts K) := by
  have G_l_roll : FnOk P w K mg base CX0 1 T.a_l_roll T.fd_l_roll ["_law_dice_here", "_law_upto"] (sp_roll K) := ok_roll T
  have G_l_some : FnOk P w K mg base CX0 3 T.a_l_some T.fd_l_some ["_law_dice_here", "_law_items", "_law_least", "_law_most"] (sp_some K) := ok_some T
  have G_l_pick : FnOk P w K mg base CX0 2 T.a_l_pick T.fd_l_pick ["_law_dice_here", "_law_items"] (sp_pickL K) := ok_pickL T
  have G_l_words : FnOk P w K mg base CX0 3 T.a_l_words T.fd_l_words ["_law_dice_here", "_law_upto"] (sp_words K) := ok_words T
  have G_l_columns : FnOk P w K mg base CX0 2 T.a_l_columns T.fd_l_columns ["_law_dice_here", "_law_width", "_law_most"] (sp_columns K) := ok_columns T
  have G_l_word : FnOk P w K mg base CX0 2 T.a_l_word T.fd_l_word ["_law_dice_here"] (sp_word K) := ok_word T
  have G_l_mixed : FnOk P w K mg base CX0 2 T.a_l_mixed T.fd_l_mixed ["_law_dice_here", "_law_items"] (sp_mixed K) := ok_mixed T
  refine T.F_l_parts.ok sc_l_parts (fun vs H Q E h => ?_) (fun cdv A outer s H vs Q E hr h => ?_)
  · obtain ⟨d, rfl, _⟩ := h
    rfl
  · obtain ⟨d, rfl, hd, q⟩ := h
    refine ⟨_, (pss_cons (ps_asg (pe_tup (pa_cons (pe_op op_add pe_int (pe_call G_l_roll (hr.mono (by decide)) (by rfl) T.g_l_roll T.F_l_roll.kp T.b_l_roll .nil pass0 (pa_cons (pv 0) (pa_cons pe_int pa_nil)))) (pa_cons pe_non (pa_cons pe_str (pa_cons (pe_lst pa_nil) pa_nil))))) (pg_tup (by rfl) (pgs_cons (pg_name (i := 1) sc_l_parts.nd rfl (.inl rfl)) (pgs_cons (pg_name (i := 2) sc_l_parts.nd rfl (.inl rfl)) (pgs_cons (pg_name (i := 3) sc_l_parts.nd rfl (.inl rfl)) (pgs_cons (pg_name (i := 4) sc_l_parts.nd rfl (.inl rfl)) pgs_nil))))))
      (pss_cons (ps_mono (ps_if (pt_cmpR op_gt (pe_call G_l_roll (hr.mono (by decide)) (by rfl) T.g_l_roll T.F_l_roll.kp T.b_l_roll .nil pass0 (pa_cons (pv 0) (pa_cons pe_int pa_nil))) pe_int (nomark _)) (pss_one (ps_par (i := 2) (j := 3) rfl sc_l_parts.nd rfl rfl (by decide) rfl rfl (pa_cons (pe_callTy call_tuple_of (by rfl) T.n_tuple (by decide +kernel) (pa_cons (pe_callB cr_sorted (by rfl) T.n_sorted (by decide +kernel) (pa_cons (pe_call G_l_some (hr.mono (by decide)) (by rfl) T.g_l_some T.F_l_some.kp T.b_l_some .nil pass0 (pa_cons (pv 0) (pa_cons (pe_listRg rfl (by rfl) T.n_list (prg_1 (by rfl) T.n_range (pv 1))) (pa_cons pe_int (pa_cons pe_int pa_nil))))) pa_nil)) pa_nil)) (pa_cons (pe_call G_l_pick (hr.mono (by decide)) (by rfl) T.g_l_pick T.F_l_pick.kp T.b_l_pick .nil pass0 (pa_cons (pv 0) (pa_cons (pe_lst (pa_cons pe_str (pa_cons pe_str pa_nil))) pa_nil))) pa_nil)) (by rfl))) pss_nil))
      (pss_cons (ps_set (i := 5) sc_l_parts.nd rfl (.inl rfl) (pe_call G_l_words (hr.mono (by decide)) (by rfl) T.g_l_words T.F_l_words.kp T.b_l_words .nil pass0 (pa_cons (pv 0) (pa_cons pe_int pa_nil))))
      (pss_cons (ps_for PassesOwn.never rfl (pi_range1 (by rfl) T.n_range (pa_cons (pe_call G_l_roll (hr.mono (by decide)) (by rfl) T.g_l_roll T.F_l_roll.kp T.b_l_roll .nil pass0 (pa_cons (pv 0) (pa_cons pe_int pa_nil))) pa_nil)) (pg_name (i := 6) sc_l_parts.nd rfl (.inl rfl)) (pss_cons (ps_set (i := 7) sc_l_parts.nd rfl (.inl rfl) (pe_tup (pa_cons (pe_call G_l_columns (hr.mono (by decide)) (by rfl) T.g_l_columns T.F_l_columns.kp T.b_l_columns .nil pass0 (pa_cons (pv 0) (pa_cons (pv 1) (pa_cons pe_int pa_nil)))) (pa_cons (pe_call G_l_pick (hr.mono (by decide)) (by rfl) T.g_l_pick T.F_l_pick.kp T.b_l_pick .nil pass0 (pa_cons (pv 0) (pa_cons (pv 5) pa_nil))) pa_nil))))
      (pss_one (ps_if (pt_cmpR (op_notInD (u65 hr)) (pv 7) (pv 4) (by rfl)) (pss_one (ps_expr (pe_bm PySem.F.plainAttrs_list PySem.F.slot_list_append PySem.F.type_list_append mt_append (pv 4) (pa_cons (pv 7) pa_nil)))) pss_nil))))
      (pss_one (ps_ret (pe_lst (pa_cons (pe_call G_l_pick (hr.mono (by decide)) (by rfl) T.g_l_pick T.F_l_pick.kp T.b_l_pick .nil pass0 (pa_cons (pv 0) (pa_cons (pe_lst (pa_cons (pe_ix ix_list (pv 5) pe_int (fun _ _ => rfl)) (pa_cons (pe_call G_l_word (hr.mono (by decide)) (by rfl) T.g_l_word T.F_l_word.kp T.b_l_word .nil pass0 (pa_cons (pv 0) pa_nil)) pa_nil))) pa_nil))) (pa_cons (pv 1) (pa_cons (pv 2) (pa_cons (pv 3) (pa_cons (pe_call G_l_mixed (hr.mono (by decide)) (by rfl) T.g_l_mixed T.F_l_mixed.kp T.b_l_mixed .nil pass0 (pa_cons (pv 0) (pa_cons (pv 4) pa_nil))) pa_nil)))))))))))), ?_⟩
    refine ⟨.ref d, rfl, d, 4, rfl, hd, by decide, small_i (by decide) (by decide), fun n H1 n0 n1 k1 => ⟨1, n, rfl, rfl, ?_⟩⟩
    refine ⟨Nat.zero_le _, fun l hl => ⟨by show 4 ≤ sizeLine; decide, fun t ht => ?_⟩⟩
    have ld : l ≠ d := k1.2.ne_of hl
    have k2 : Keep d H (upd H1 l (.lst [])) := k1.same (same_upd hl)
    have e2 : (upd H1 l (.lst [])) l = some (.lst []) := upd_same
    have l0 : H l = none := k1.free hl
    generalize upd H1 l (.lst []) = H2 at k2 e2 ht ⊢
    have k3 := k2.same (same_upd (o := .tup [V.int (1 + n), .non, .str "living", .ref l]) ht)
    have e3 := (same_upd (o := .tup [V.int (1 + n), .non, .str "living", .ref l]) ht) _ _ e2
    have t3 : (upd H2 t (.tup [V.int (1 + n), .non, .str "living", .ref l])) t = some (.tup [V.int (1 + n), .non, .str "living", .ref l]) := upd_same
    refine ⟨t, _, rfl, .of t3, rfl, _, _, rfl, _, _, rfl, _, _, rfl, _, _, rfl, rfl, ?_⟩
    generalize upd H2 t (.tup [V.int (1 + n), .non, .str "living", .ref l]) = B at k3 e3 ⊢
    have dB := k3.2
    -- the key
    refine ⟨fun σ' H' => ∃ (kv : V) (key : Option (List Int)) (sc : Str), σ' = [some (.ref d), some (.int (1 + n)), some kv, some (.str sc), some (.ref l), none, none, none] ∧ Keep d B H' ∧ Dp K H' kv (keyD key) ∧
      (∀ c, key = some c → keyOk (1 + n) c) ∧ (sc = "living" ∨ sc = "all" ∧ key ≠ none), ?_, fun σ' H5 h5 => ?_⟩
    · refine ⟨.ref d, rfl, d, 4, rfl, dB, by decide, small_i (by decide) (by decide), fun r H4 r0 r1 k4 => ⟨r, 0, rfl, rfl, _, rfl, ite2 (fun c1 => ?_) (fun c1 => ?_)⟩⟩
      · refine ⟨.ref d, rfl, .int (1 + n), rfl, 1 + n, rfl, RgOk.of_le (by decide) (by omega) (by decide) (by omega), fun p hp => ?_⟩
        have k5 := k4.same (same_upd (o := .lst (rgV 0 (1 + n))) hp)
        have len : (rgV 0 (1 + n)).length = (1 + n).toNat := by
          rw [rgV_length, Int.sub_zero]
        refine ⟨d, p, _, 1, 4, rfl, k5.2, .of upd_same, by omega, by decide, by decide, k4.2.ne_of hp, fun lz ys m H6 pm m1 m4 mz nl => ?_⟩
        have m2 : 1 ≤ m := by omega
        obtain ⟨ns, e1, e2, e3⟩ := key_some (n := 1 + n) (by omega) pm m2 m4 mz
        rw [e1] at nl
        refine ⟨lz, ns, rfl, .of nl.2.2.2, by omega, fun ms q pm2 so hq => ⟨q, _, rfl, .inl ⟨.of upd_same, fun t2 ht2 => ?_⟩⟩⟩
        have k7 := (k5.trans nl.2.2.1).same (same_upd (o := .lst (ms.map V.int)) hq)
        have k8 := k7.same (same_upd (o := .tup (ms.map V.int)) ht2)
        have e8 : (upd (upd H6 q (.lst (ms.map V.int))) t2 (.tup (ms.map V.int))) t2 = some (.tup (ms.map V.int)) := upd_same
        generalize upd (upd H6 q (.lst (ms.map V.int))) t2 (.tup (ms.map V.int)) = H8 at k8 e8 ⊢
        refine ⟨.ref d, rfl, by show 2 ≤ sizeLine; decide, fun pz hz => ?_⟩
        have k9 := k8.same (same_upd (o := .lst [.str "living", .str "all"]) hz)
        refine ⟨d, pz, _, rfl, k9.2, k8.2.ne_of hz, upd_same, by decide, by decide, fun v H9 mv kz => ⟨_, _, rfl, ?_⟩⟩
        have k10 := k9.trans kz
        have e10 : SqT K H9 t2 (ms.map V.int) := mv_keep kz k9.2 _ _ (mv_same (same_upd hz) _ _ (.of e8))
        have ok := e3 ms pm2 so
        have dp : Dp K H9 (.ref t2) (keyD (some ms)) := .tup e10 (dps_ints ms)
        have kk : ∀ c, some ms = some c → keyOk (1 + n) c := fun c e => by
          cases e
          exact ok
        simp only [List.mem_cons, List.not_mem_nil, or_false] at mv
        rcases mv with rfl | rfl
        · exact ⟨_, some ms, _, rfl, k10, dp, kk, .inl rfl⟩
        · exact ⟨_, some ms, _, rfl, k10, dp, kk, .inr ⟨rfl, fun e => by cases e⟩⟩
      · exact ⟨_, none, _, rfl, k4, .non, fun c e => (by cases e), .inl rfl⟩
    · obtain ⟨kv, key, sc, rfl, k5, dk, ok, so⟩ := h5
      refine ⟨.ref d, rfl, d, 3, rfl, k5.2, by decide, by decide, fun wl ws H6 wn wok nl => ?_⟩
      obtain ⟨w1, w2, k6, e6⟩ := nl
      have kw := k5.trans k6
      have lB := kw.1 _ _ ld e3
      refine ⟨.ref d, rfl, d, 5, rfl, k6.2, by decide, small_i (by decide) (by decide), fun r H7 r0 r1 k7 => ⟨r, rfl, by omega, by omega, ?_⟩⟩
      have wl7 := k7.some w2 e6
      have l7 := k7.some ld lB
      have k17 := kw.trans k7
      have dk7 : Dp K H7 kv (keyD key) := dp_mv ((mv_keep k6 k5.2).trans (mv_keep k7 k6.2)) _ _ (flat_key _) dk
      refine for_range (lo := 0) (n := r.toNat) (fun i σ H1 => ∃ (y1 y2 : Option V) (ks : List (Addr × Rf)), σ = [some (.ref d), some (.int (1 + n)), some kv, some (.str sc), some (.ref l), some (.ref wl), y1, y2] ∧ Dice H1 d ∧
        (∀ b o, b ≠ d → b ≠ l → H7 b = some o → H1 b = some o) ∧ H1 l = some (.lst (ks.map fun x => V.ref x.1)) ∧ ks.length ≤ i ∧ (∀ x ∈ ks, Dp K H1 (.ref x.1) (refD x.2)) ∧ (∀ x ∈ ks, refOk (1 + n) x.2) ∧ (ks.map Prod.snd).Nodup)
        ⟨none, none, [], rfl, k7.2, fun b o _ _ e => e, l7, Nat.zero_le _, fun x hx => (by cases hx), fun x hx => (by cases hx), List.nodup_nil⟩ (fun i σ H8 hi h => ?_) (fun σ H8 h => ?_)
      · obtain ⟨y1, y2, ks, rfl, d8, b8, l8, n8, r8, o8, u8⟩ := h
        have wl8 : H8 wl = some (.lst (ws.map V.str)) := b8 _ _ w2 (fun e => by rw [e, l7] at wl7; rw [e] at w1; exact absurd (k5.1 _ _ ld e3) (by rw [w1]; exact fun z => by cases z)) wl7
        refine ⟨.ref d, rfl, .int (1 + n), rfl, d, 1 + n, 4, rfl, d8, by omega, by omega, by decide, by decide, fun tc cs H9 cok k9 ec => ?_⟩
        have wl9 := k9.some w2 wl8
        refine ⟨.ref d, rfl, .ref wl, rfl, d, wl, _, rfl, k9.2, w2, wl9, by rw [List.length_map, wn]; decide, by rw [List.length_map, wn]; decide, fun v H10 mv k10 => ⟨by show 2 ≤ sizeLine; decide, fun t ht => ?_⟩⟩
        obtain ⟨z, mz, rfl⟩ := List.mem_map.mp mv
        have zok := wok z mz
        have kk := (k9.trans k10).same (same_upd (o := .tup [.ref tc, .str z]) ht)
        have et : (upd H10 t (.tup [.ref tc, .str z])) t = some (.tup [.ref tc, .str z]) := upd_same
        have ec2 : SqT K (upd H10 t (.tup [.ref tc, .str z])) tc (cs.map V.int) := mv_same (same_upd ht) _ _ (mv_keep k10 k9.2 _ _ (.of ec))
        generalize upd H10 t (.tup [.ref tc, .str z]) = H11 at kk et ec2 ⊢
        have l11 := kk.some ld l8
        have r11 : ∀ x ∈ ks, Dp K H11 (.ref x.1) (refD x.2) := fun x hx => dp_mv (mv_keep kk d8) _ _ (flat_ref _) (r8 x hx)
        have dt : Dp K H11 (.ref t) (refD (cs, z)) := .tup (.of et) (.cons (.tup ec2 (dps_ints cs)) (.cons (.str z) .nil))
        have sok : ∀ r ∈ ks.map Prod.snd, PyData.strOk r.2 = true := fun r hr => by
          obtain ⟨x, hx, rfl⟩ := List.mem_map.mp hr
          exact name_str (o8 x hx).2
        refine ⟨.ref t, rfl, .ref l, rfl, refD (cs, z), _, dt, .lst (.of l11) (dp_refs r11), sh_ref (name_str zok), sh_refsL sok, _, rfl, ?_⟩
        rw [any_refs]
        by_cases hm : (cs, z) ∈ ks.map Prod.snd
        · rw [decide_eq_true hm]
          exact iteF ⟨_, _, ks, rfl, kk.2, fun b o bd bl e => kk.1 _ _ bd (b8 b o bd bl e), l11, by omega, r11, o8, u8⟩
        · rw [decide_eq_false hm]
          refine iteT ⟨.ref l, rfl, .inl ⟨rfl, _, .of l11⟩, .ref t, rfl, l, _, .ref t, rfl, rfl, l11, by rw [List.length_map]; exact small1000 (by omega), ?_⟩
          have m12 : Mv K H11 (upd H11 l (.lst (ks.map (fun x => V.ref x.1) ++ [.ref t]))) := mv_but (d := l) (fun b o ne e => by rw [upd_ne ne]; exact e) fun xs h => by
            rcases h with h | ⟨o, h⟩
            · rw [l11] at h
              cases h
            · rw [l11] at h
              cases h
          refine ⟨_, _, ks ++ [(t, (cs, z))], rfl, ?_, fun b o bd bl e => ?_, ?_, ?_, fun x hx => ?_, fun x hx => ?_, ?_⟩
          · obtain ⟨a1, a2, a3, a4, a5⟩ := kk.2
            exact ⟨a1, a2, a3, by rw [upd_ne (Ne.symm ld)]; exact a4, a5⟩
          · rw [upd_ne bl]
            exact kk.1 _ _ bd (b8 b o bd bl e)
          · rw [upd_same, List.map_append]
            rfl
          · rw [List.length_append]
            show ks.length + 1 ≤ i + 1
            omega
          · rcases List.mem_append.mp hx with hx | hx
            · exact dp_mv m12 _ _ (flat_ref _) (r11 x hx)
            · rw [List.mem_singleton.mp hx]
              exact dp_mv m12 _ _ (flat_ref _) dt
          · rcases List.mem_append.mp hx with hx | hx
            · exact o8 x hx
            · rw [List.mem_singleton.mp hx]
              exact ⟨cok, zok⟩
          · rw [List.map_append]
            exact List.nodup_append.mpr ⟨u8, List.pairwise_singleton .., fun a ha b hb e => hm (by
              have e2 : a = (cs, z) := e.trans (List.mem_singleton.mp hb)
              rw [← e2]
              exact ha)⟩
      · obtain ⟨y1, y2, ks, rfl, d8, b8, l8, n8, r8, o8, u8⟩ := h
        have wl8 : H8 wl = some (.lst (ws.map V.str)) := b8 _ _ w2 (fun e => by rw [e] at w1; exact absurd (k5.1 _ _ ld e3) (by rw [w1]; exact fun z => by cases z)) wl7
        have kH : Keep d H H8 := ⟨fun b o bd e => b8 b o bd (fun z => by rw [z, l0] at e; cases e) ((k3.trans k17).1 b o bd e), d8⟩
        have m8 : Mv K H7 H8 := fun a xs hx => by
          rcases hx with hx | hx
          · have g : ∀ o, H7 a = some o → (o = .tup xs ∨ ∃ ob, o = .frz ob (.tup xs)) → H8 a = some o := fun o e ho => b8 a o (fun z => by
              obtain ⟨x1, x2, x3, x4, _⟩ := k7.2
              rw [z, x4] at e
              cases e
              rcases ho with ho | ⟨_, ho⟩ <;> cases ho) (fun z => by
              rw [z, l7] at e
              cases e
              rcases ho with ho | ⟨_, ho⟩ <;> cases ho) e
            rcases hx with hx | ⟨o, hx⟩
            · exact .inl (.inl (g _ hx (.inl rfl)))
            · exact .inl (.inr ⟨o, g _ hx (.inr ⟨o, rfl⟩)⟩)
          · exact .inr hx
        obtain ⟨z0, ez, mz⟩ : ∃ z0, atI (ws.map V.str) 0 = some (.str z0) ∧ z0 ∈ ws := by
          obtain ⟨v, ev, mv⟩ := at_lt (xs := ws.map V.str) (i := 0) (by decide) (by rw [List.length_map, wn]; decide)
          obtain ⟨z0, mz, rfl⟩ := List.mem_map.mp mv
          exact ⟨z0, ev, mz⟩
        refine ⟨.ref d, rfl, .ref wl, rfl, wl, _, 0, _, rfl, rfl, .of wl8, ez, .ref d, rfl, d, rfl, d8, fun z1 H9 z1ok k9 => ⟨by show 2 ≤ sizeLine; decide, fun pl hpl => ?_⟩⟩
        have k10 := k9.same (same_upd (o := .lst [.str z0, .str z1]) hpl)
        refine ⟨d, pl, _, rfl, k10.2, k9.2.ne_of hpl, upd_same, show 0 < 2 by decide, show 2 ≤ 1000 by decide, fun v H11 mv k11 => ?_⟩
        have k8 := k10.trans k11
        have l11 := k8.some ld l8
        refine ⟨_, rfl, _, rfl, _, rfl, .ref d, rfl, .ref l, rfl, d, l, _, rfl, k8.2, .of l11, by rw [List.length_map]; omega, fun lm ys H12 pm nl => ⟨by show 5 ≤ sizeLine; decide, fun pa hpa => ?_⟩⟩
        obtain ⟨m1, m2, k12, e12⟩ := nl
        obtain ⟨ks', pk', rfl⟩ := perm_map pm
        have kA := k8.trans k12
        obtain ⟨zv, rfl, zok⟩ : ∃ zv, v = .str zv ∧ nameB (.str zv) = true := by
          simp only [List.mem_cons, List.not_mem_nil, or_false] at mv
          rcases mv with rfl | rfl
          · exact ⟨_, rfl, wok z0 mz⟩
          · exact ⟨_, rfl, z1ok⟩
        have kz : Keep d H8 (upd H12 pa (.lst [.str zv, .int (1 + n), kv, .str sc, .ref lm])) := kA.same (same_upd hpa)
        have mvz := mv_keep (K := K) kz d8
        have lk := pk'.length_eq
        refine q (.ref pa) ⟨zv, 1 + n, key, sc, ks'.map Prod.snd⟩ _ ⟨zok, by show 1 ≤ 1 + n; omega, by show 1 + n ≤ 4; omega, ok, so, by show (ks'.map Prod.snd).length ≤ 4; rw [List.length_map]; omega, fun r hr => ?_, (pk'.map Prod.snd).nodup_iff.mpr u8⟩ ⟨pa, lm, kv, ks', rfl, kA.2.ne_of hpa, m2, upd_same, ?_, rfl, fun x hx => ?_, ?_⟩ (kH.trans kz)
        · obtain ⟨x, hx, rfl⟩ := List.mem_map.mp hr
          exact o8 x (pk'.mem_iff.mp hx)
        · exact (same_upd hpa) _ _ e12
        · exact dp_mv mvz _ _ (flat_ref _) (r8 x (pk'.mem_iff.mp hx))
        · exact dp_mv (m8.trans mvz) _ _ (flat_key _) dk7
end
-- SPLIT
section
variable {P : Program} {w : World} {K : PySem.W.Frag} {mg : Str → Option Value} {base : Heap}
def sp_made (T : Txt K mg) : Sp := fun vs H Q _ => ∃ (v : V) (d : Addr) (p : Parts), vs = [v] ∧ PartsAt K d H v p ∧ POk p ∧ ∀ (t : V) (H' : Hp), Same H H' → TabAt K T.c_Table H' t { p with refs := sortR p.refs } → Q t H'
theorem ok_made (T : Txt K mg) : FnOk P w K mg base CX0 7 T.a_l_made T.fd_l_made ["_law_parts_here"] (sp_made T) := by
  have G_Table_init : FnOk P w K mg base CX0 5 T.a_Table_init T.fd_Table_init ["self", "name", "width", "key", "scope", "refers"] (sp_init T) := ok_init T
  obtain ⟨mv0, kb_Table_init_2_key_scope_refers⟩ := T.F_Table_init.kbinds0 (ps := ["self", "name", "width", "key", "scope", "refers"]) 3 ["key", "scope", "refers"] [] (fun us mv ws => us ++ ws) (fun e => by cases e) (fun q hq => by cases hq) (fun r1 _ r3 => r1.append r3)
    (fun D doc pm an cdv ct us mv ws l1 l2 l3 => match us, mv, ws, l1, l2, l3 with | [_, _, _], [], [_, _, _], _, _, _ => rfl)
  refine T.F_l_made.ok sc_l_made (fun vs H Q E h => ?_) (fun cdv A outer s H vs Q E hr h => ?_)
  · obtain ⟨v, d, p, rfl, _⟩ := h
    rfl
  · obtain ⟨v, d, p, rfl, hp, ok, q⟩ := h
    refine ⟨_, (pss_one (ps_ret (pe_makeK T.M_Table G_Table_init (hr.mono (by decide)) (by rfl) T.g_Table kb_Table_init_2_key_scope_refers pass0 (pa_cons (pe_ix ix_list (pv 0) pe_int (fun _ _ => rfl)) (pa_cons (pe_ix ix_list (pv 0) pe_int (fun _ _ => rfl)) pa_nil)) (pk_cons (pe_ix ix_list (pv 0) pe_int (fun _ _ => rfl)) (pk_cons (pe_ix ix_list (pv 0) pe_int (fun _ _ => rfl)) (pk_cons (pe_callTy call_tuple_of (by rfl) T.n_tuple (by decide +kernel) (pa_cons (pe_ix ix_list (pv 0) pe_int (fun _ _ => rfl)) pa_nil)) pk_nil)))))), ?_⟩
    obtain ⟨a, lr, kv, ks, rfl, ad, ld, ea, el, hk, hr0, hq⟩ := hp
    refine ⟨.ref a, rfl, a, _, 0, .str p.nm, rfl, rfl, .of ea, rfl, .ref a, rfl, a, _, 1, .int p.wd, rfl, rfl, .of ea, rfl, ?_⟩
    refine ⟨.ref a, rfl, a, _, 2, kv, rfl, rfl, .of ea, rfl, .ref a, rfl, a, _, 3, .str p.sc, rfl, rfl, .of ea, rfl, .ref a, rfl, a, _, 4, .ref lr, rfl, rfl, .of ea, rfl, lr, _, rfl, .inl ⟨.of el, fun t ht => ?_⟩⟩
    have s1 : Same H (upd H t (.tup (ks.map fun x => V.ref x.1))) := same_upd ht
    have e1 : (upd H t (.tup (ks.map fun x => V.ref x.1))) t = some (.tup (ks.map fun x => V.ref x.1)) := upd_same
    generalize upd H t (.tup (ks.map fun x => V.ref x.1)) = H1 at s1 e1 ⊢
    refine ⟨rfl, rfl, fun x dx hx hdx ne => ?_⟩
    have s2 : Same H1 (upd (upd H1 dx (.own x)) x (.ins T.c_Table dx [])) := snew (same_upd hdx) (by rw [upd_ne (Ne.symm ne)]; exact hx)
    have m := mv_same (K := K) (s1.trans s2)
    refine ⟨x, dx, p, kv, .ref t, rfl, upd_same, dp_mv m _ _ (flat_key _) hq, ⟨t, ks, rfl, mv_same s2 _ _ (.of e1), hk, fun y hy => dp_mv m _ _ (flat_ref _) (hr0 y hy)⟩, ok, fun H3 k3 tb => ⟨rfl, q _ H3 (fun b o e => ?_) tb⟩⟩
    have f1 := s1 _ _ e
    exact k3 b o (ne_of_none f1 hx) (s2 _ _ f1)
/-- the data of a list of parts, their references sorted and behind -/
noncomputable def partsD (p : Parts) : List PyData := [.str p.nm, .int p.wd, keyD p.key, .str p.sc, .tuple ((sortR p.refs).map refD)]
theorem sc_ok {p : Parts} (ok : POk p) : PyData.strOk p.sc = true := by
  rcases ok.sc with e | ⟨e, _⟩
  · rw [e]
    decide +kernel
  · rw [e]
    decide +kernel
theorem refs_str {p : Parts} (ok : POk p) : ∀ r ∈ p.refs, PyData.strOk r.2 = true := fun r hr => name_str (ok.rk r hr).2
theorem sort_str {p : Parts} (ok : POk p) : ∀ r ∈ sortR p.refs, PyData.strOk r.2 = true := fun r hr => refs_str ok r ((sortR_perm _).mem_iff.mp hr)
theorem key_lay (k : Option (List Int)) : (keyD k).canLay0 = true ∧ (keyD k).depth ≤ 1 := by
  cases k with
  | none => simp [keyD, PyData.canLay0, PyData.depth]
  | some c => exact ⟨lay_ints c, by rw [keyD, depth_ints]; exact Nat.le_refl _⟩
theorem sh_partsD {p : Parts} (ok : POk p) : SeqAt.shaped (.list (partsD p)) = true := by
  obtain ⟨k1, k2⟩ := key_lay p.key
  have a := lays_refs (sort_str ok)
  have b := depth_refs (sortR p.refs)
  refine shaped_of ?_ ?_
  · simp [partsD, PyData.canLay0, PyData.canLayAll0, name_str ok.nm, sc_ok ok, k1, a]
  · simp only [partsD, PyData.depth, PyData.depthAll]
    omega
theorem eqv_partsD (p q : Parts) : PyData.eqv (.list (partsD p)) (.list (partsD q)) = decide (({ p with refs := sortR p.refs } : Parts) = { q with refs := sortR q.refs }) := by
  unfold partsD
  simp only [PyData.eqv, PyData.eqvAll, eqv_key, Bool.and_true]
  have z := eqv_refs (sortR p.refs) (sortR q.refs)
  simp only [PyData.eqv] at z
  rw [z]
  by_cases a : p.nm = q.nm <;> by_cases b : p.wd = q.wd <;> by_cases c : p.key = q.key <;> by_cases e : p.sc = q.sc <;> by_cases f : sortR p.refs = sortR q.refs <;> simp [a, b, c, e, f]
theorem cut4 (a b c d e : V) : cutV [a, b, c, d, e] none (some 4) = [a, b, c, d] := by
  rw [cut_to (by decide)]
  rfl
def sp_shows (T : Txt K mg) : Sp := fun vs H Q _ => ∃ (t v : V) (d : Addr) (p : Parts), vs = [t, v] ∧ TabAt K T.c_Table H t { p with refs := sortR p.refs } ∧ PartsAt K d H v p ∧ POk p ∧ ∀ H', Same H H' → Q (.bl true) H'
theorem ok_shows (T : Txt K mg) : FnOk P w K mg base CX0 3 T.a_l_shows T.fd_l_shows ["_law_table", "_law_parts_here"] (sp_shows T) := by
  have G_Table_name : FnOk P w K mg base CX0 1 T.a_Table_name T.fd_Table_name ["self"] (sp_name T) := ok_name T
  have G_Table_width : FnOk P w K mg base CX0 1 T.a_Table_width T.fd_Table_width ["self"] (sp_width T) := ok_width T
  have G_Table_key : FnOk P w K mg base CX0 1 T.a_Table_key T.fd_Table_key ["self"] (sp_key T) := ok_key T
  have G_Table_scope : FnOk P w K mg base CX0 1 T.a_Table_scope T.fd_Table_scope ["self"] (sp_scope T) := ok_scope T
  have G_Table_refers : FnOk P w K mg base CX0 1 T.a_Table_refers T.fd_Table_refers ["self"] (sp_refers T) := ok_refers T
  refine T.F_l_shows.ok sc_l_shows (fun vs H Q E h => ?_) (fun cdv A outer s H vs Q E hr h => ?_)
  · obtain ⟨t, v, d, p, rfl, _⟩ := h
    rfl
  · obtain ⟨t, v, d, p, rfl, ht, hp, ok, q⟩ := h
    refine ⟨_, (pss_cons (ps_set (i := 2) sc_l_shows.nd rfl (.inl rfl) (pe_lst (pa_cons (pe_prop (pv 0) T.cl_Table T.p_Table_name G_Table_name (hr.mono (by decide)) T.b_Table_name .nil pass0 rfl) (pa_cons (pe_prop (pv 0) T.cl_Table T.p_Table_width G_Table_width (hr.mono (by decide)) T.b_Table_width .nil pass0 rfl) (pa_cons (pe_prop (pv 0) T.cl_Table T.p_Table_key G_Table_key (hr.mono (by decide)) T.b_Table_key .nil pass0 rfl) (pa_cons (pe_prop (pv 0) T.cl_Table T.p_Table_scope G_Table_scope (hr.mono (by decide)) T.b_Table_scope .nil pass0 rfl) (pa_cons (pe_prop (pv 0) T.cl_Table T.p_Table_refers G_Table_refers (hr.mono (by decide)) T.b_Table_refers .nil pass0 rfl) pa_nil)))))))
      (pss_one (ps_ret (pe_cmpR (op_eqD hr.units) (pv 2) (pe_op op_cat (pe_slice sl_list (pv 1) po_none (po_some pe_int)) (pe_lst (pa_cons (pe_callTy call_tuple_of (by rfl) T.n_tuple (by decide +kernel) (pa_cons (pe_callB (cr_sortedX hr.units) (by rfl) T.n_sorted (by decide +kernel) (pa_cons (pe_ix ix_list (pv 1) pe_int (fun _ _ => rfl)) pa_nil)) pa_nil)) pa_nil))) (nomark _))))), ?_⟩
    obtain ⟨a, dx, kw, rw0, rfl, et, _⟩ := id ht
    obtain ⟨b, lr, kv, ks, rfl, ad, ld, eb, el, hk, hr0, hq⟩ := hp
    have et2 := et
    refine ⟨.ref a, rfl, a, dx, _, rfl, et, _, _, rfl, ht, .ref a, rfl, a, dx, _, rfl, et, _, _, rfl, ht, .ref a, rfl, a, dx, _, rfl, et, _, _, rfl, ht, fun k1 dk1 => ?_⟩
    refine ⟨.ref a, rfl, a, dx, _, rfl, et, _, _, rfl, ht, .ref a, rfl, a, dx, _, rfl, et, _, _, rfl, ht, fun r1 dr1 => ⟨by show 5 ≤ sizeLine; decide, fun p1 h1 => ?_⟩⟩
    generalize hH1 : upd H p1 (.lst [.str p.nm, .int p.wd, k1, .str p.sc, r1]) = H1
    have s1 : Same H H1 := by
      rw [← hH1]
      exact same_upd h1
    have e1 : H1 p1 = some (.lst [.str p.nm, .int p.wd, k1, .str p.sc, r1]) := by
      rw [← hH1]
      exact upd_same
    refine ⟨.ref p1, rfl, .ref b, rfl, 4, rfl, b, _, rfl, .of (s1 _ _ eb), fun p2 h2 => ?_⟩
    rw [cut4]
    generalize hH2 : upd H1 p2 (.lst [.str p.nm, .int p.wd, kv, .str p.sc]) = H2
    have s2 : Same H1 H2 := by
      rw [← hH2]
      exact same_upd h2
    have e2 : H2 p2 = some (.lst [.str p.nm, .int p.wd, kv, .str p.sc]) := by
      rw [← hH2]
      exact upd_same
    have s02 := s1.trans s2
    have m2 := mv_same (K := K) s02
    obtain ⟨z1, z2, z3⟩ := sort_pre (K := K) (H := H2) (ks := ks) fun x hx => dp_mv m2 _ _ (flat_ref _) (hr0 x hx)
    obtain ⟨ks', c1, c2, c3⟩ := sort_ks ks
    refine ⟨.ref b, rfl, b, _, 4, .ref lr, rfl, rfl, .of (s02 _ _ eb), rfl, lr, _, rfl, .inl (by rw [List.map_map]; exact .of (s02 _ _ el)), z1, z2, z3, fun l hl => ?_⟩
    rw [c1]
    generalize hH3 : upd H2 l (.lst (ks'.map fun x => V.ref x.1)) = H3
    have s3 : Same H2 H3 := by
      rw [← hH3]
      exact same_upd hl
    have e3 : H3 l = some (.lst (ks'.map fun x => V.ref x.1)) := by
      rw [← hH3]
      exact upd_same
    refine ⟨l, _, rfl, .inl ⟨.of e3, fun t ht2 => ?_⟩⟩
    generalize hH4 : upd H3 t (.tup (ks'.map fun x => V.ref x.1)) = H4
    have s4 : Same H3 H4 := by
      rw [← hH4]
      exact same_upd ht2
    have e4 : H4 t = some (.tup (ks'.map fun x => V.ref x.1)) := by
      rw [← hH4]
      exact upd_same
    refine ⟨by show 1 ≤ sizeLine; decide, fun p3 h3 => ?_⟩
    generalize hH5 : upd H4 p3 (.lst [.ref t]) = H5
    have s5 : Same H4 H5 := by
      rw [← hH5]
      exact same_upd h3
    have e5 : H5 p3 = some (.lst [.ref t]) := by
      rw [← hH5]
      exact upd_same
    have s25 := (s3.trans s4).trans s5
    refine ⟨p2, p3, _, _, rfl, rfl, s25 _ _ e2, e5, by show 5 ≤ sizeLine; decide, fun p4 h4 => ?_⟩
    have s6 := same_upd (o := .lst ([.str p.nm, .int p.wd, kv, .str p.sc] ++ [.ref t])) h4
    have e6 : (upd H5 p4 (.lst ([.str p.nm, .int p.wd, kv, .str p.sc] ++ [.ref t]))) p4 = some (.lst ([.str p.nm, .int p.wd, kv, .str p.sc] ++ [.ref t])) := upd_same
    generalize upd H5 p4 (.lst ([.str p.nm, .int p.wd, kv, .str p.sc] ++ [.ref t])) = H6 at s6 e6 ⊢
    have s16 := (s2.trans s25).trans s6
    have m6 := mv_same (K := K) (s1.trans s16)
    have d1 : Dp K H6 (.ref p1) (.list (partsD p)) := .lst (.of (s16 _ _ e1)) (.cons (.str _) (.cons (.int _) (.cons (dp_mv m6 _ _ (flat_key _) dk1) (.cons (.str _) (.cons (dp_mv m6 _ _ (flat_refs _) dr1) .nil)))))
    have dt : Dp K H6 (.ref t) (.tuple ((sortR p.refs).map refD)) := by
      rw [← hk, ← c2]
      exact .tup (.of ((s5.trans s6) _ _ e4)) (dp_refs fun x hx => dp_mv m6 _ _ (flat_ref _) (hr0 x (c3.mem_iff.mp hx)))
    have d2 : Dp K H6 (.ref p4) (.list (partsD p)) := .lst (.of e6) (.cons (.str _) (.cons (.int _) (.cons (dp_mv m6 _ _ (flat_key _) hq) (.cons (.str _) (.cons dt .nil)))))
    refine ⟨_, _, d1, d2, sh_partsD ok, sh_partsD ok, ?_⟩
    rw [eqv_partsD, decide_eq_true rfl]
    exact q _ (s1.trans s16)
end
-- SPLIT
section
variable {P : Program} {w : World} {K : PySem.W.Frag} {mg : Str → Option Value} {base : Heap}
def goL (n : Int) : Int → List V → Bool
  | _, [] => true
  | l, .int i :: xs => decide (l < i) && decide (i < n) && goL n i xs
  | _, _ :: _ => false
def likeL (n : Int) (xs : List V) : Bool := !xs.isEmpty && goL n (-1) xs
theorem goL_ints {n : Int} : ∀ (l : Int) (xs : List V), -1 ≤ l → goL n l xs = (xs.all (colB n) && decide ((l :: xs.map intOf).Pairwise (· < ·)))
  | l, [], _ => by simp [goL]
  | l, x :: xs, h => by
    cases x with
    | int i =>
      have e : goL n l (.int i :: xs) = (decide (l < i) && decide (i < n) && goL n i xs) := rfl
      rw [e, List.all_cons, List.map_cons]
      have c : colB n (.int i) = (decide (0 ≤ i) && decide (i < n)) := rfl
      rw [c]
      by_cases li : l < i
      · have i0 : 0 ≤ i := by omega
        rw [goL_ints i xs (by omega), decide_eq_true li, decide_eq_true i0, Bool.true_and, ← Bool.and_assoc]
        congr 1
        refine decide_eq_decide.mpr ⟨fun z => ?_, fun z => (List.pairwise_cons.mp z).2⟩
        refine List.pairwise_cons.mpr ⟨fun y hy => ?_, z⟩
        rcases List.mem_cons.mp hy with hy | hy
        · rw [hy]
          exact li
        · have a := (List.pairwise_cons.mp z).1 y hy
          omega
      · rw [decide_eq_false li, Bool.false_and, Bool.false_and]
        have e2 : decide ((l :: intOf (.int i) :: xs.map intOf).Pairwise (· < ·)) = false := decide_eq_false fun z => li ((List.pairwise_cons.mp z).1 i (List.mem_cons_self ..))
        rw [e2, Bool.and_false]
    | _ => simp [goL, colB]
theorem likeL_asc {n : Int} (h4 : n ≤ 4) (xs : List V) : likeL n xs = ascL n xs := by
  unfold likeL ascL colsL
  rw [goL_ints (-1) xs (Int.le_refl _)]
  cases hc : xs.all (colB n) with
  | false => simp
  | true =>
    have ex := ints_of hc
    generalize xs.map intOf = ns at ex ⊢
    subst ex
    rw [List.length_map, Bool.true_and, Bool.and_true]
    have col : ∀ i ∈ ns, 0 ≤ i ∧ i < n := fun i hi => by
      have a := List.all_eq_true.mp hc (.int i) (List.mem_map_of_mem hi)
      have b : (decide (0 ≤ i) && decide (i < n)) = true := a
      rwa [Bool.and_eq_true, decide_eq_true_eq, decide_eq_true_eq] at b
    have e1 : decide (((-1 : Int) :: ns).Pairwise (· < ·)) = decide (ns.Pairwise (· < ·)) := decide_eq_decide.mpr ⟨fun z => (List.pairwise_cons.mp z).2, fun z => List.pairwise_cons.mpr ⟨fun y hy => by have := (col y hy).1; omega, z⟩⟩
    rw [e1]
    have e2 : ns.Pairwise (· < ·) → ns.length ≤ n.toNat := fun z => by
      have nd : ns.Nodup := z.imp fun h e => by omega
      have sub : ∀ i ∈ ns, i ∈ (List.range n.toNat).map fun j : Nat => (j : Int) := fun i hi => by
        obtain ⟨a, b⟩ := col i hi
        exact List.mem_map.mpr ⟨i.toNat, List.mem_range.mpr (by omega), by omega⟩
      have z := nd.length_le_of_subset sub
      rwa [List.length_map, List.length_range] at z
    cases ns with
    | nil => simp
    | cons a ns =>
      rw [show decide (1 ≤ ((a :: ns).length : Int)) = true from decide_eq_true (by rw [List.length_cons]; omega)]
      by_cases hp : (a :: ns).Pairwise (· < ·)
      · have z := e2 hp
        rw [decide_eq_true hp, decide_eq_true (show ((a :: ns).length : Int) ≤ 4 by omega)]
        rfl
      · rw [decide_eq_false hp, Bool.and_false, Bool.and_false]
def sp_like_key (K : PySem.W.Frag) : Sp := fun vs H Q _ => ∃ (v : V) (n : Int), vs = [v, .int n] ∧ TupOr K H v (fun xs => Q (.bl (likeL n xs)) H) (Q (.bl false) H)
theorem ok_like_key (T : Txt K mg) : FnOk P w K mg base CX0 1 T.a_l_like_key T.fd_l_like_key ["_law_value", "_law_width"] (sp_like_key K) := by
  refine T.F_l_like_key.ok sc_l_like_key (fun vs H Q E h => ?_) (fun cdv A outer s H vs Q E hr h => ?_)
  · obtain ⟨v, n, rfl, _⟩ := h
    rfl
  · obtain ⟨v, n, rfl, hv⟩ := h
    refine ⟨_, (pss_cons (ps_if (PW.pt (pw_or (pt_not (pt_val (pe_callB call_isi (by rfl) T.n_isinstance (by decide +kernel) (pa_cons (pv 0) (pa_cons (pe_bltn (v := .ty "tuple") (by rfl) T.n_tuple (by decide +kernel) rfl) pa_nil))))) (pw_or1 (pt_cmpR op_lt (pe_callB call_len_seq (by rfl) T.n_len (by decide +kernel) (pa_cons (pv 0) pa_nil)) pe_int (nomark _))))) (pss_one (ps_ret pe_bl)) pss_nil)
      (pss_cons (ps_set (i := 2) sc_l_like_key.nd rfl (.inl rfl) (pe_un un_neg pe_int))
      (pss_cons (ps_for PassesOwn.never rfl (pi_tup (pv 0)) (pg_name (i := 3) sc_l_like_key.nd rfl (.inl rfl)) (pss_cons (ps_if (PW.pt (pw_or (pt_not (pt_val (pe_callB call_isi (by rfl) T.n_isinstance (by decide +kernel) (pa_cons (pv 3) (pa_cons (pe_bltn (v := .ty "int") (by rfl) T.n_int (by decide +kernel) rfl) pa_nil))))) (pw_or (pt_val (pe_callB call_isi (by rfl) T.n_isinstance (by decide +kernel) (pa_cons (pv 3) (pa_cons (pe_bltn (v := .ty "bool") (by rfl) T.n_bool (by decide +kernel) rfl) pa_nil)))) (pw_or (pt_cmpR op_le (pv 3) (pv 2) (nomark _)) (pw_or1 (pt_cmpR op_ge (pv 3) (pv 1) (nomark _))))))) (pss_one (ps_ret pe_bl)) pss_nil)
      (pss_one (ps_set (i := 2) sc_l_like_key.nd rfl (.inl rfl) (pv 3)))))
      (pss_one (ps_ret pe_bl))))), ?_⟩
    obtain ⟨t, b, ht, hk, hb⟩ := tupOr_ty hv
    refine ⟨v, rfl, v, .ty "tuple", t, _, b, rfl, .ty "tuple", ht, hk, _, rfl, ?_⟩
    rcases hb with ⟨rfl, a, xs, rfl, hs, hi, q⟩ | ⟨rfl, q⟩
    · refine iteF ⟨.ref a, rfl, a, xs, rfl, .inr hs, _, _, rfl, rfl, _, rfl, ite2 (fun e1 => ?_) (fun e1 => ?_)⟩
      · have e2 : xs = [] := by
          have z := of_decide_eq_true e1
          exact List.eq_nil_of_length_eq_zero (by omega)
        rw [e2] at q
        exact q
      · have ne : xs ≠ [] := fun e => by
          rw [e] at e1
          exact e1 (by decide)
        have e2 : likeL n xs = goL n (-1) xs := by
          unfold likeL
          cases xs with
          | nil => exact absurd rfl ne
          | cons => rfl
        rw [e2] at q
        refine ⟨1, rfl, .ref a, rfl, a, rfl, ⟨_, hs⟩, for_it (walk_tup (xs := xs)) (fun i σ H1 => H1 = H ∧ ∃ (l : Int) (y : Option V), σ = [some (.ref a), some (.int n), some (.int l), y] ∧ goL n (-1) xs = goL n l (xs.drop i)) ⟨rfl, -1, none, rfl, rfl⟩ (fun i σ H1 _ h => by rw [h.1]; exact hs) (fun i x σ H1 H2 il h y => ?_) (fun σ H1 h => ?_)⟩
        · obtain ⟨rfl, l, y0, rfl, eg⟩ := h
          obtain ⟨rfl, ex⟩ := y
          have ed : xs.drop i = x :: xs.drop (i + 1) := by
            obtain ⟨z, e⟩ := List.getElem?_eq_some_iff.mp ex
            rw [List.drop_eq_getElem_cons z, e]
          rw [ed] at eg
          have hx := hi x (List.mem_of_getElem? ex)
          obtain ⟨t1, ty1, kt1⟩ := ty_int (K := K) hx
          obtain ⟨t2, ty2, kt2⟩ := ty_bool (K := K) hx
          refine ⟨x, rfl, x, .ty "int", t1, _, _, rfl, .ty "int", ty1, kt1, _, rfl, ?_⟩
          have no : goL n (-1) xs = false → Q (.bl false) H2 := fun e => by
            rw [e] at q
            exact q
          cases hx with
          | int j hj =>
            refine iteF ⟨.int j, rfl, .int j, .ty "bool", t2, _, _, rfl, .ty "bool", ty2, kt2, _, rfl, iteF ⟨.int j, rfl, .int l, rfl, j, l, rfl, rfl, _, rfl, ite2 (fun c1 => ?_) (fun c1 => ?_)⟩⟩
            · refine iteT (no ?_)
              have z := of_decide_eq_true c1
              rw [eg]
              show (decide (l < j) && decide (j < n) && goL n j _) = false
              rw [decide_eq_false (by omega)]
              rfl
            · have z : ¬ j ≤ l := of_decide_eq_false (nt c1)
              refine ⟨.int j, rfl, .int n, rfl, j, n, rfl, rfl, _, rfl, ite2 (fun c2 => ?_) (fun c2 => ?_)⟩
              · refine no ?_
                have z2 := of_decide_eq_true c2
                rw [eg]
                show (decide (l < j) && decide (j < n) && goL n j _) = false
                rw [decide_eq_false (show ¬ j < n by omega), Bool.and_false, Bool.false_and]
              · have z2 : ¬ n ≤ j := of_decide_eq_false (nt c2)
                refine ⟨_, rfl, rfl, j, _, rfl, ?_⟩
                rw [eg]
                show (decide (l < j) && decide (j < n) && goL n j _) = _
                rw [decide_eq_true (show l < j by omega), decide_eq_true (show j < n by omega)]
                rfl
          | bl b =>
            refine iteF ⟨.bl b, rfl, .bl b, .ty "bool", t2, _, _, rfl, .ty "bool", ty2, kt2, _, rfl, iteT (iteT (no ?_))⟩
            rw [eg]
            rfl
          | _ =>
            refine iteT (iteT (no ?_))
            rw [eg]
            rfl
        · obtain ⟨rfl, l, y0, rfl, eg⟩ := h
          rw [List.drop_length] at eg
          rw [eg] at q
          exact q
    · exact iteT q
end
-- SPLIT
section
variable {P : Program} {w : World} {K : PySem.W.Frag} {mg : Str → Option Value} {base : Heap}
theorem good_or {K : PySem.W.Frag} {H : Hp} {v : V} {A : List V → Prop} {B : Prop} (g : Good H v) (ha : ∀ a xs, v = .ref a → H a = some (.tup xs) → A xs) (hb : tupB H v = false → B) : TupOr K H v A B := by
  cases g with
  | tup e h => exact .inl ⟨_, _, rfl, .of e, h, ha _ _ rfl e⟩
  | @lst a xs e =>
    have z : tupB H (.ref a) = false := by
      unfold tupB
      simp only [e]
    exact .inr ⟨.lst e, z, hb z⟩
  | @dK a xs e =>
    have z : tupB H (.ref a) = false := by
      unfold tupB
      simp only [e]
    exact .inr ⟨.dK e, z, hb z⟩
  | non => exact .inr ⟨.non, rfl, hb rfl⟩
  | bl b => exact .inr ⟨.bl b, rfl, hb rfl⟩
  | int i h => exact .inr ⟨.int i h, rfl, hb rfl⟩
  | str z h => exact .inr ⟨.str z h, rfl, hb rfl⟩
/-- whether a value is a possible key -/
def isKeyB (H : Hp) (n : Int) : V → Bool
  | .ref a => match H a with
    | some (.tup xs) => ascL n xs
    | _ => false
  | _ => false
theorem isKey_tup {H : Hp} {n : Int} {a : Addr} {xs : List V} (e : H a = some (.tup xs)) : isKeyB H n (.ref a) = ascL n xs := by
  unfold isKeyB
  simp only [e]
theorem isKey_no {H : Hp} {n : Int} {v : V} (e : tupB H v = false) : isKeyB H n v = false := by
  cases v with
  | ref a =>
    unfold tupB at e
    unfold isKeyB
    cases h : H a with
    | none => simp only [h]
    | some o =>
      cases o with
      | tup xs =>
        simp only [h] at e
        cases e
      | _ => simp only [h]
  | _ => rfl
theorem Item.put {H : Hp} {v : V} {p : Addr} {xs ys : List V} (g : Item H v) (e : H p = some (.lst xs)) : Item (upd H p (.lst ys)) v := by
  cases g with
  | non => exact .non
  | bl b => exact .bl b
  | int i h => exact .int i h
  | str z => exact .str z
  | @lst a zs ea =>
    by_cases h : a = p
    · rw [h]
      exact .lst upd_same
    · exact .lst (by rw [upd_ne h]; exact ea)
  | tup ea => exact .tup (by rw [upd_ne (fun h => by rw [h, e] at ea; cases ea)]; exact ea)
  | dK ea => exact .dK (by rw [upd_ne (fun h => by rw [h, e] at ea; cases ea)]; exact ea)
theorem Good.put {H : Hp} {v : V} {p : Addr} {xs ys : List V} (g : Good H v) (e : H p = some (.lst xs)) : Good (upd H p (.lst ys)) v := by
  cases g with
  | non => exact .non
  | bl b => exact .bl b
  | int i h => exact .int i h
  | str z h => exact .str z h
  | @lst a zs ea =>
    by_cases h : a = p
    · rw [h]
      exact .lst upd_same
    · exact .lst (by rw [upd_ne h]; exact ea)
  | tup ea hx => exact .tup (by rw [upd_ne (fun h => by rw [h, e] at ea; cases ea)]; exact ea) fun x m => (hx x m).put e
  | dK ea => exact .dK (by rw [upd_ne (fun h => by rw [h, e] at ea; cases ea)]; exact ea)
/-- a list of good values at p, all else but the dice as in H0 -/
structure SL (d p : Addr) (H0 H : Hp) (L : List V) : Prop where
  keep : Keep d H0 H
  at_ : H p = some (.lst L)
  good : ∀ v ∈ L, Good H v
theorem SL.go {d p : Addr} {H0 H H' : Hp} {L : List V} (s : SL d p H0 H L) (k : Keep d H H') (pd : p ≠ d) : SL d p H0 H' L :=
  ⟨s.keep.trans k, k.1 _ _ pd s.at_, fun v hv => (s.good v hv).keep k s.keep.2⟩
theorem SL.app {d p : Addr} {H0 H : Hp} {L : List V} {v : V} (s : SL d p H0 H L) (pd : p ≠ d) (p0 : H0 p = none) (g : Good H v) : SL d p H0 (upd H p (.lst (L ++ [v]))) (L ++ [v]) :=
  ⟨s.keep.put p0 pd, upd_same, fun x hx => by
    rcases List.mem_append.mp hx with hx | hx
    · exact (s.good x hx).put s.at_
    · rw [List.mem_singleton.mp hx]
      exact g.put s.at_⟩
theorem good_small {H : Hp} {t : Addr} {cs : List Int} (e : H t = some (.tup (cs.map V.int))) (h : ∀ c ∈ cs, -5 ≤ c ∧ c < 5) : Good H (.ref t) := .tup e fun x hx => by
  obtain ⟨c, hc, rfl⟩ := List.mem_map.mp hx
  obtain ⟨a, b⟩ := h c hc
  exact .int c (Nat.lt_of_le_of_lt (show c.natAbs ≤ 5 by omega) (by decide))
/-- some of range(n) -/
theorem take_small {n : Int} {ys : List V} {m : Nat} (n5 : n ≤ 5) (pm : ys.Perm (rgV 0 n)) : ∃ cs : List Int, ys.take m = cs.map V.int ∧ ∀ c ∈ cs, -5 ≤ c ∧ c < 5 := by
  rw [rg_map] at pm
  obtain ⟨zs, hz, rfl⟩ := perm_map pm
  refine ⟨zs.take m, by rw [List.map_take], fun c hc => ?_⟩
  obtain ⟨j, hj, rfl⟩ := List.mem_map.mp (hz.mem_iff.mp (List.mem_of_mem_take hc))
  have z := List.mem_range.mp hj
  omega
def sp_keys_right (K : PySem.W.Frag) : Sp := fun vs H Q _ => ∃ d : Addr, vs = [.ref d] ∧ Dice H d ∧ ∀ H', Keep d H H' → Q (.bl true) H'
theorem ok_keys_right (T : Txt K mg) : FnOk P w K mg base CX0 6 T.a_l_keys_right T.fd_l_keys_right ["_law_dice_here"] (sp_keys_right K) := by
  have G_l_roll : FnOk P w K mg base CX0 1 T.a_l_roll T.fd_l_roll ["_law_dice_here", "_law_upto"] (sp_roll K) := ok_roll T
  have G_l_some : FnOk P w K mg base CX0 3 T.a_l_some T.fd_l_some ["_law_dice_here", "_law_items", "_law_least", "_law_most"] (sp_some K) := ok_some T
  have G_l_like_key : FnOk P w K mg base CX0 1 T.a_l_like_key T.fd_l_like_key ["_law_value", "_law_width"] (sp_like_key K) := ok_like_key T
  have G_Table_is_key : FnOk P w K mg base CX0 4 T.a_Table_is_key T.fd_Table_is_key ["value", "width"] (sp_is_key K) := ok_is_key T
  refine T.F_l_keys_right.ok sc_l_keys_right (fun vs H Q E h => ?_) (fun cdv A outer s H vs Q E hr h => ?_)
  · obtain ⟨d, rfl, _⟩ := h
    rfl
  · obtain ⟨d, rfl, hd, q⟩ := h
    refine ⟨_, (pss_cons (ps_par (i := 1) (j := 2) rfl sc_l_keys_right.nd rfl rfl (by decide) rfl rfl (pa_cons (pe_op op_add pe_int (pe_call G_l_roll (hr.mono (by decide)) (by rfl) T.g_l_roll T.F_l_roll.kp T.b_l_roll .nil pass0 (pa_cons (pv 0) (pa_cons pe_int pa_nil)))) (pa_cons (pe_lst (pa_cons pe_non (pa_cons pe_int (pa_cons pe_str (pa_cons (pe_lst (pa_cons pe_int pa_nil)) (pa_cons pe_dnewK (pa_cons (pe_tup pa_nil) (pa_cons (pe_tup (pa_cons pe_bl pa_nil)) (pa_cons (pe_tup (pa_cons pe_str pa_nil)) (pa_cons (pe_tup (pa_cons (pe_tup (pa_cons pe_int pa_nil)) pa_nil)) (pa_cons (pe_tup (pa_cons (pe_op op_pow pe_int pe_int) pa_nil)) pa_nil))))))))))) pa_nil)) (by rfl))
      (pss_cons (ps_set (i := 2) sc_l_keys_right.nd rfl (.inl rfl) (pe_op op_cat (pv 2) (pe_lst (pa_cons (pe_tup (pa_cons (pe_un un_neg pe_int) (pa_cons pe_int pa_nil))) (pa_cons (pe_tup (pa_cons pe_int (pa_cons pe_int pa_nil))) pa_nil)))))
      (pss_cons (ps_expr (pe_bm PySem.F.plainAttrs_list PySem.F.slot_list_append PySem.F.type_list_append mt_append (pv 2) (pa_cons (pe_callTy call_tuple_of (by rfl) T.n_tuple (by decide +kernel) (pa_cons (pe_lc (own := [("_law_turn", 6)]) (g := gName 6) (tt := tYes) rfl sc_l_keys_right.nd (pi_range1 (by rfl) T.n_range (pa_cons (pe_call G_l_roll (hr.mono (by decide)) (by rfl) T.g_l_roll T.F_l_roll.kp T.b_l_roll .nil pass0 (pa_cons (pv 0) (pa_cons pe_int pa_nil))) pa_nil)) (blkOk_by (N := ["_law_dice_here", "_law_width", "_law_some_here", "_law_value", "_law_told", "_law_due", "_law_turn"]) (sc := defScope s_l_keys_right) (by decide +kernel)) (fun _ _ _ _ _ => pg_name (i := 6) sc_l_keys_right.nd rfl (Or.inl rfl)) (fun _ _ _ _ _ => pts_nil) (fun _ _ _ _ _ => (pe_call G_l_roll (hr.mono (by decide)) (by rfl) T.g_l_roll T.F_l_roll.kp T.b_l_roll .nil pass0 (pa_cons (pv 0) (pa_cons pe_int pa_nil))))) pa_nil)) pa_nil)))
      (pss_cons (ps_expr (pe_bm PySem.F.plainAttrs_list PySem.F.slot_list_append PySem.F.type_list_append mt_append (pv 2) (pa_cons (pe_callTy call_tuple_of (by rfl) T.n_tuple (by decide +kernel) (pa_cons (pe_call G_l_some (hr.mono (by decide)) (by rfl) T.g_l_some T.F_l_some.kp T.b_l_some .nil pass0 (pa_cons (pv 0) (pa_cons (pe_listRg rfl (by rfl) T.n_list (prg_1 (by rfl) T.n_range (pv 1))) (pa_cons pe_int (pa_cons pe_int pa_nil))))) pa_nil)) pa_nil)))
      (pss_cons (ps_expr (pe_bm PySem.F.plainAttrs_list PySem.F.slot_list_append PySem.F.type_list_append mt_append (pv 2) (pa_cons (pe_callTy call_tuple_of (by rfl) T.n_tuple (by decide +kernel) (pa_cons (pe_callB cr_sorted (by rfl) T.n_sorted (by decide +kernel) (pa_cons (pe_call G_l_some (hr.mono (by decide)) (by rfl) T.g_l_some T.F_l_some.kp T.b_l_some .nil pass0 (pa_cons (pv 0) (pa_cons (pe_listRg rfl (by rfl) T.n_list (prg_1 (by rfl) T.n_range pe_int)) (pa_cons pe_int (pa_cons pe_int pa_nil))))) pa_nil)) pa_nil)) pa_nil)))
      (pss_cons (ps_for PassesOwn.never rfl (pi_list (pv 2)) (pg_name (i := 3) sc_l_keys_right.nd rfl (.inl rfl)) (pss_cons (ps_mono (ps_par (i := 4) (j := 5) rfl sc_l_keys_right.nd rfl rfl (by decide) rfl rfl (pa_cons (pe_smeth (pe_glob (v := .ref T.c_Table) rfl T.g_Table rfl) T.rd_Table T.s_Table_is_key G_Table_is_key (hr.mono (by decide)) T.F_Table_is_key.kp T.b_Table_is_key pass0 (pa_cons (pv 3) (pa_cons (pv 1) pa_nil))) (pa_cons (pe_call G_l_like_key (hr.mono (by decide)) (by rfl) T.g_l_like_key T.F_l_like_key.kp T.b_l_like_key .nil pass0 (pa_cons (pv 3) (pa_cons (pv 1) pa_nil))) pa_nil)) (by rfl)))
      (pss_one (ps_if (pt_cmpR (op_neD hr.units) (pe_lst (pa_cons (pe_cmpR op_isBl (pv 4) pe_bl (nomark _)) (pa_cons (pe_cmpR op_isBl (pv 4) pe_bl (nomark _)) pa_nil))) (pe_lst (pa_cons (pv 5) (pa_cons (pe_not (pv 5)) pa_nil))) (nomark _)) (pss_one (ps_ret pe_bl)) pss_nil))))
      (pss_one (ps_ret pe_bl)))))))), ?_⟩
    refine ⟨.ref d, rfl, d, 4, rfl, hd, by decide, small_i (by decide) (by decide), fun n H1 n0 n1 k1 => ⟨1, n, rfl, rfl, ?_⟩⟩
    refine ⟨by show 1 ≤ sizeLine; decide, fun p1 h1 => ?_⟩
    generalize hA1 : upd H1 p1 (.lst [.int 0]) = A1
    have s1 : Same H1 A1 := by
      rw [← hA1]
      exact same_upd h1
    have f1 : A1 p1 = some (.lst [.int 0]) := by
      rw [← hA1]
      exact upd_same
    refine fun p2 h2 => ?_
    generalize hA2 : upd A1 p2 (.dK []) = A2
    have s2 : Same A1 A2 := by
      rw [← hA2]
      exact same_upd h2
    have f2 : A2 p2 = some (.dK []) := by
      rw [← hA2]
      exact upd_same
    refine ⟨Nat.zero_le _, fun p3 h3 => ?_⟩
    generalize hA3 : upd A2 p3 (.tup []) = A3
    have s3 : Same A2 A3 := by
      rw [← hA3]
      exact same_upd h3
    have f3 : A3 p3 = some (.tup []) := by
      rw [← hA3]
      exact upd_same
    refine ⟨by show 1 ≤ sizeLine; decide, fun p4 h4 => ?_⟩
    generalize hA4 : upd A3 p4 (.tup [.bl true]) = A4
    have s4 : Same A3 A4 := by
      rw [← hA4]
      exact same_upd h4
    have f4 : A4 p4 = some (.tup [.bl true]) := by
      rw [← hA4]
      exact upd_same
    refine ⟨by show 1 ≤ sizeLine; decide, fun p5 h5 => ?_⟩
    generalize hA5 : upd A4 p5 (.tup [.str "0"]) = A5
    have s5 : Same A4 A5 := by
      rw [← hA5]
      exact same_upd h5
    have f5 : A5 p5 = some (.tup [.str "0"]) := by
      rw [← hA5]
      exact upd_same
    refine ⟨by show 1 ≤ sizeLine; decide, fun p6 h6 => ?_⟩
    generalize hA6 : upd A5 p6 (.tup [.int 0]) = A6
    have s6 : Same A5 A6 := by
      rw [← hA6]
      exact same_upd h6
    have f6 : A6 p6 = some (.tup [.int 0]) := by
      rw [← hA6]
      exact upd_same
    refine ⟨by show 1 ≤ sizeLine; decide, fun p7 h7 => ?_⟩
    generalize hA7 : upd A6 p7 (.tup [.ref p6]) = A7
    have s7 : Same A6 A7 := by
      rw [← hA7]
      exact same_upd h7
    have f7 : A7 p7 = some (.tup [.ref p6]) := by
      rw [← hA7]
      exact upd_same
    refine ⟨10, 39, rfl, rfl, ⟨by decide, by decide, by decide⟩, by show 1 ≤ sizeLine; decide, fun p8 h8 => ?_⟩
    generalize hA8 : upd A7 p8 (.tup [(fun i j : Int => V.int (i ^ j.toNat)) 10 39]) = A8
    have s8 : Same A7 A8 := by
      rw [← hA8]
      exact same_upd h8
    have f8 : A8 p8 = some (.tup [(fun i j : Int => V.int (i ^ j.toNat)) 10 39]) := by
      rw [← hA8]
      exact upd_same
    refine ⟨by show 10 ≤ sizeLine; decide, fun p9 h9 => ?_⟩
    generalize hA9 : upd A8 p9 (.lst [.non, .int 0, .str "a", .ref p1, .ref p2, .ref p3, .ref p4, .ref p5, .ref p7, .ref p8]) = A9
    have s9 : Same A8 A9 := by
      rw [← hA9]
      exact same_upd h9
    have f9 : A9 p9 = some (.lst [.non, .int 0, .str "a", .ref p1, .ref p2, .ref p3, .ref p4, .ref p5, .ref p7, .ref p8]) := by
      rw [← hA9]
      exact upd_same
    refine ⟨_, _, rfl, ?_⟩
    refine ⟨_, rfl, 1, rfl, by show 2 ≤ sizeLine; decide, fun q1 g1 => ?_⟩
    generalize hB1 : upd A9 q1 (.tup [(fun i : Int => V.int (-i)) 1, .int 0]) = B1
    have t1 : Same A9 B1 := by
      rw [← hB1]
      exact same_upd g1
    have c1 : B1 q1 = some (.tup [(fun i : Int => V.int (-i)) 1, .int 0]) := by
      rw [← hB1]
      exact upd_same
    refine ⟨by show 2 ≤ sizeLine; decide, fun q2 g2 => ?_⟩
    generalize hB2 : upd B1 q2 (.tup [.int 0, .int 0]) = B2
    have t2 : Same B1 B2 := by
      rw [← hB2]
      exact same_upd g2
    have c2 : B2 q2 = some (.tup [.int 0, .int 0]) := by
      rw [← hB2]
      exact upd_same
    refine ⟨by show 2 ≤ sizeLine; decide, fun q3 g3 => ?_⟩
    generalize hB3 : upd B2 q3 (.lst [.ref q1, .ref q2]) = B3
    have t3 : Same B2 B3 := by
      rw [← hB3]
      exact same_upd g3
    have c3 : B3 q3 = some (.lst [.ref q1, .ref q2]) := by
      rw [← hB3]
      exact upd_same
    refine ⟨p9, q3, _, _, rfl, rfl, ((t1.trans t2).trans t3) _ _ f9, c3, by show 12 ≤ sizeLine; decide, fun p11 h11 => ?_⟩
    have u3 := t3
    have u2 := t2.trans u3
    have u1 := t1.trans u2
    have v9 := s9.trans u1
    have v8 := s8.trans v9
    have v7 := s7.trans v8
    have v6 := s6.trans v7
    have v5 := s5.trans v6
    have v4 := s4.trans v5
    have v3 := s3.trans v4
    have v2 := s2.trans v3
    have v1 := s1.trans v2
    have kB := k1.same v1
    have pd : p11 ≠ d := kB.2.ne_of h11
    have p0 : H p11 = none := kB.free h11
    have w := same_upd (o := .lst ([.non, .int 0, .str "a", .ref p1, .ref p2, .ref p3, .ref p4, .ref p5, .ref p7, .ref p8] ++ [.ref q1, .ref q2])) h11
    have sl : SL d p11 H (upd B3 p11 (.lst ([.non, .int 0, .str "a", .ref p1, .ref p2, .ref p3, .ref p4, .ref p5, .ref p7, .ref p8] ++ [.ref q1, .ref q2]))) ([.non, .int 0, .str "a", .ref p1, .ref p2, .ref p3, .ref p4, .ref p5, .ref p7, .ref p8] ++ [.ref q1, .ref q2]) := by
      refine ⟨kB.same w, upd_same, fun x hx => Good.same w ?_⟩
      simp only [List.mem_append, List.mem_cons, List.not_mem_nil, or_false] at hx
      rcases hx with (rfl | rfl | rfl | rfl | rfl | rfl | rfl | rfl | rfl | rfl) | (rfl | rfl)
      · exact .non
      · exact .int 0 (by decide)
      · exact .str _ (by decide +kernel)
      · exact .lst (v2 _ _ f1)
      · exact .dK (v3 _ _ f2)
      · exact .tup (v4 _ _ f3) fun x hx => by cases hx
      · exact .tup (v5 _ _ f4) fun x hx => by
          rw [List.mem_singleton.mp hx]
          exact .bl _
      · exact .tup (v6 _ _ f5) fun x hx => by
          rw [List.mem_singleton.mp hx]
          exact .str _
      · exact .tup (v8 _ _ f7) fun x hx => by
          rw [List.mem_singleton.mp hx]
          exact .tup (v7 _ _ f6)
      · exact .tup (v9 _ _ f8) fun x hx => by
          rw [List.mem_singleton.mp hx]
          exact .int _ (by decide +kernel)
      · exact good_small (cs := [-1, 0]) (u2 _ _ c1) (by decide)
      · exact good_small (cs := [0, 0]) (u3 _ _ c2) (by decide)
    generalize hL : ([V.non, .int 0, .str "a", .ref p1, .ref p2, .ref p3, .ref p4, .ref p5, .ref p7, .ref p8] ++ [V.ref q1, .ref q2]) = L at sl
    have lL : L.length = 12 := by
      rw [← hL]
      rfl
    generalize upd B3 p11 (.lst L) = C1 at sl
    -- a drawn tuple
    refine ⟨.ref p11, rfl, .inl ⟨rfl, _, .of sl.at_⟩, .ref d, rfl, d, 5, rfl, sl.keep.2, by decide, small_i (by decide) (by decide), fun r C2 r0 r1 e2 => ⟨r, rfl, by omega, by omega, fun D hD => ?_⟩⟩
    have sl2 := sl.go e2 pd
    have nD : C1 D = none := e2.free hD
    have Dd : D ≠ d := sl.keep.2.ne_of nD
    refine lc_range (lo := 0) (n := r.toNat) (fun i H2 => Keep d C1 H2 ∧ ∃ cs : List Int, H2 D = some (.lst (cs.map V.int)) ∧ cs.length = i ∧ ∀ c ∈ cs, -5 ≤ c ∧ c < 5) ⟨e2.put nD Dd, [], upd_same, rfl, by simp⟩ (fun i H2 hi h2 => ?_) (fun H2 h2 => ?_)
    · obtain ⟨k2, cs, e2, l2, cc⟩ := h2
      refine ⟨rfl, yesT ⟨.ref d, rfl, d, 5, rfl, k2.2, by decide, small_i (by decide) (by decide), fun c H3 c0 c1 k3 => ?_⟩⟩
      refine ⟨_, k3.some Dd e2, ?_, (k2.trans k3).put nD Dd, cs ++ [c], ?_, ?_, ?_⟩
      · rw [List.length_map]
        exact small1000 (by omega)
      · rw [upd_same, List.map_append]
        rfl
      · rw [List.length_append, l2]
        rfl
      · intro y hy
        rcases List.mem_append.mp hy with h | h
        · exact cc y h
        · rw [List.mem_singleton.mp h]
          omega
    obtain ⟨k2, cs, e3, l2, cc⟩ := h2
    refine ⟨D, _, rfl, .inl ⟨.of e3, fun t ht => ?_⟩⟩
    have sl3 := sl.go (k2.same (same_upd (o := .tup (cs.map V.int)) ht)) pd
    refine ⟨p11, L, .ref t, rfl, rfl, sl3.at_, by rw [lL]; exact small1000 (by decide), ?_⟩
    have sl4 := sl3.app pd p0 (good_small upd_same cc)
    generalize upd (upd H2 t (.tup (cs.map V.int))) p11 (.lst (L ++ [.ref t])) = C3 at sl4
    have lM : (L ++ [V.ref t]).length = 13 := by
      rw [List.length_append, lL]
      rfl
    generalize L ++ [V.ref t] = M at sl4 lM
    -- some columns
    refine ⟨.ref p11, rfl, .inl ⟨rfl, _, .of sl4.at_⟩, .ref d, rfl, .int (1 + n), rfl, 1 + n, rfl, RgOk.of_le (by decide) (by omega) (by decide) (by omega), fun pr hpr => ?_⟩
    have sl5 := sl4.go (.of_same (same_upd (o := .lst (rgV 0 (1 + n))) hpr) sl4.keep.2) pd
    have len : (rgV 0 (1 + n)).length = (1 + n).toNat := by
      rw [rgV_length, Int.sub_zero]
    refine ⟨d, pr, _, 1, 4, rfl, sl5.keep.2, .of upd_same, by omega, by decide, by decide, sl4.keep.2.ne_of hpr, fun lz ys m C5 pm m1 m4 mz nl => ?_⟩
    obtain ⟨cs2, e5, cc2⟩ := take_small (m := m) (by omega) pm
    rw [e5] at nl
    have sl6 := sl5.go nl.2.2.1 pd
    refine ⟨lz, _, rfl, .inl ⟨.of nl.2.2.2, fun t2 ht2 => ?_⟩⟩
    have sl7 := sl6.go (.of_same (same_upd (o := .tup (cs2.map V.int)) ht2) sl6.keep.2) pd
    refine ⟨p11, M, .ref t2, rfl, rfl, sl7.at_, by rw [lM]; exact small1000 (by decide), ?_⟩
    have sl8 := sl7.app pd p0 (good_small upd_same cc2)
    generalize upd (upd C5 t2 (.tup (cs2.map V.int))) p11 (.lst (M ++ [.ref t2])) = C6 at sl8
    have lN : (M ++ [V.ref t2]).length = 14 := by
      rw [List.length_append, lM]
      rfl
    generalize M ++ [V.ref t2] = N at sl8 lN
    -- some of range(5), ascending
    refine ⟨.ref p11, rfl, .inl ⟨rfl, _, .of sl8.at_⟩, .ref d, rfl, 5, rfl, RgOk.of_le (by decide) (by decide) (by decide) (by decide), fun pr2 hpr2 => ?_⟩
    have sl9 := sl8.go (.of_same (same_upd (o := .lst (rgV 0 5)) hpr2) sl8.keep.2) pd
    refine ⟨d, pr2, _, 1, 4, rfl, sl9.keep.2, .of upd_same, by rw [rgV_length]; decide, by decide, by decide, sl8.keep.2.ne_of hpr2, fun lz2 ys2 mm C7 pm2 mm1 mm4 mmz nl2 => ?_⟩
    obtain ⟨cs3, e7, cc3⟩ := take_small (m := mm) (by decide) pm2
    have l3 : cs3.length ≤ 5 := by
      have a := congrArg List.length e7
      rw [List.length_map, List.length_take, pm2.length_eq, rgV_length] at a
      omega
    rw [e7] at nl2
    have sla := sl9.go nl2.2.2.1 pd
    refine ⟨lz2, cs3, rfl, .of nl2.2.2.2, by omega, fun ms lq pm3 so hlq => ⟨lq, _, rfl, .inl ⟨.of upd_same, fun t3 ht3 => ?_⟩⟩⟩
    have slb := sla.go ((Keep.of_same (same_upd (o := .lst (ms.map V.int)) hlq) sla.keep.2).same (same_upd (o := .tup (ms.map V.int)) ht3)) pd
    refine ⟨p11, N, .ref t3, rfl, rfl, slb.at_, by rw [lN]; exact small1000 (by decide), ?_⟩
    have slc := slb.app pd p0 (good_small upd_same fun c hc => cc3 c (pm3.mem_iff.mp hc))
    generalize upd (upd (upd C7 lq (.lst (ms.map V.int))) t3 (.tup (ms.map V.int))) p11 (.lst (N ++ [.ref t3])) = C8 at slc
    have lO : (N ++ [V.ref t3]).length = 15 := by
      rw [List.length_append, lN]
      rfl
    generalize N ++ [V.ref t3] = O at slc lO
    -- each of them
    have w4 : 1 + n ≤ 4 := by omega
    refine ⟨.ref p11, rfl, p11, rfl, ⟨_, .of slc.at_⟩, for_it (walk_list (xs := O)) (fun i σ H1 => Same C8 H1 ∧ ∃ y1 y2 y3 y4, σ = [some (.ref d), some (.int (1 + n)), some (.ref p11), y1, y2, y3, y4]) ⟨.refl _, _, _, _, _, rfl⟩ (fun i σ H1 _ h => .of (h.1 _ _ slc.at_)) (fun i x σ H1 H2 il h y => ?_) (fun σ H1 h => ?_)⟩
    · obtain ⟨sm, y1, y2, y3, y4, rfl⟩ := h
      obtain ⟨rfl, ex⟩ := y
      have gx := (slc.good x (List.mem_of_getElem? ex)).same sm
      refine ⟨fun σ' H' => ∃ b : Bool, σ' = [some (.ref d), some (.int (1 + n)), some (.ref p11), some x, some (.bl b), some (.bl b), y4] ∧ Same C8 H', ⟨rfl, x, rfl, .int (1 + n), rfl, x, 1 + n, rfl, by omega, w4, good_or gx (fun a xs ev ea H3 s3 => ?_) (fun eb => ?_)⟩, fun σ' H3 h3 => ?_⟩
      · subst ev
        refine ⟨.ref a, rfl, .int (1 + n), rfl, .ref a, 1 + n, rfl, .inl ?_⟩
        cases gx with
        | lst z =>
          rw [z] at ea
          cases ea
        | dK z =>
          rw [z] at ea
          cases ea
        | tup z hz =>
          rw [z] at ea
          cases ea
          refine ⟨a, xs, rfl, .of (s3 _ _ z), fun y hy => (hz y hy).same s3, _, _, rfl, ascL (1 + n) xs, ?_, sm.trans s3⟩
          rw [likeL_asc w4]
          rfl
      · refine ⟨x, rfl, .int (1 + n), rfl, x, 1 + n, rfl, .inr ⟨gx, eb, _, _, rfl, false, rfl, sm⟩⟩
      · obtain ⟨b, rfl, s3⟩ := h3
        refine ⟨_, rfl, b, true, rfl, rfl, _, rfl, b, false, rfl, rfl, by show 2 ≤ sizeLine; decide, fun z1 hz1 => ?_⟩
        have s4 := s3.trans (same_upd (o := .lst [.bl (decide (b = true)), .bl (decide (b = false))]) hz1)
        refine ⟨_, rfl, _, rfl, _, rfl, by show 2 ≤ sizeLine; decide, fun z2 hz2 => ?_⟩
        have s5 := s4.trans (same_upd (o := .lst [.bl b, .bl (!b)]) hz2)
        have e1 := same_upd (o := .lst [.bl b, .bl (!b)]) hz2 z1 _ upd_same
        refine ⟨.list [.bool (decide (b = true)), .bool (decide (b = false))], .list [.bool b, .bool (!b)], .lst (.of e1) (.cons (.bl _) (.cons (.bl _) .nil)), .lst (.of upd_same) (.cons (.bl _) (.cons (.bl _) .nil)), rfl, rfl, _, rfl, ?_⟩
        have ev : PyData.eqv (.list [.bool (decide (b = true)), .bool (decide (b = false))]) (.list [.bool b, .bool (!b)]) = true := by
          cases b <;> simp [PyData.eqv, PyData.eqvAll]
        rw [ev]
        exact iteF ⟨s5, _, _, _, _, rfl⟩
    · obtain ⟨sm, y1, y2, y3, y4, rfl⟩ := h
      exact q _ (slc.keep.same sm)
end
-- SPLIT
section
variable {P : Program} {w : World} {K : PySem.W.Frag} {mg : Str → Option Value} {base : Heap}
/-- the columns of a row, as a comprehension tells them -/
theorem lc_cols {a c : Addr} {ns cs : List Int} {H : Hp} (ha : SqT K H a (ns.map V.int)) (hc : SqT K H c (cs.map V.int)) (hi : ∀ i ∈ cs, 0 ≤ i ∧ i < ns.length) (l4 : cs.length ≤ 1000) {k : Nat} {te : TE} {vs : List Nat} {σ : L2.St} {D : Addr} {Qd : Hp → Prop} (hD : H D = none) (hk : k ∈ vs)
    (he : ∀ (i : Int) (H1 : Hp), Same H H1 → atI (ns.map V.int) i = some (.int (ns.getD i.toNat 0)) → ∀ Q : VK, Q (.int (ns.getD i.toNat 0)) H1 → te ((wipe σ vs).set k (some (.int i))) H1 Q)
    (hw : ∀ x, wipe ((wipe σ vs).set k (some x)) vs = wipe σ vs) (hd : ∀ H1, Same H H1 → H1 D = some (.lst ((pk ns cs).map V.int)) → Qd H1) :
    ∃ W : Nat → Nat → Hp → Prop, (∃ m, W 0 m (upd H D (.lst []))) ∧ ∀ i m H, W i m H →
      ((Itt K c).stop i H ∧ Qd H) ∨ ((Itt K c).go i H ∧ ∃ Nx : Hp → Prop, (∀ H', Nx H' → ∃ m', m' < m ∧ W (i + 1) m' H') ∧ ∀ x H', (Itt K c).yld i H x H' → gName k x (wipe σ vs) H' fun σ2 H2 => wipe σ2 vs = wipe σ vs ∧ tYes σ2 H2 fun b H3 =>
        if b = true then te σ2 H3 fun y H4 => ∃ acc, H4 D = some (.lst acc) ∧ acc.length < sizeLine ∧ Nx (upd H4 D (.lst (acc ++ [y]))) else Nx H3) := by
  refine lc_pure (walk_tup (xs := cs.map V.int)) hD cs V.int (fun _ => true) (fun i => .int (ns.getD i.toNat 0)) (by rw [List.length_map]) (by rw [List.length_map]; omega) hk (fun H1 s => mv_same s _ _ hc) (fun i H1 x H' s y => ?_)
    (fun i H1 hi s Q h => h H1 (.refl H1)) (fun i H1 mi _ s Q h => he i H1 s ?_ Q (h H1 (.refl H1))) hw (fun H1 s e => hd H1 s ?_)
  · obtain ⟨rfl, hx⟩ := y
    rw [List.getElem?_map] at hx
    obtain ⟨j, e, rfl⟩ := Option.map_eq_some_iff.mp hx
    exact ⟨rfl, j, e, rfl⟩
  · obtain ⟨i0, i1⟩ := hi i mi
    unfold atI
    rw [List.length_map, ixN_of i0 i1]
    show (ns.map V.int)[i.toNat]? = _
    have il : i.toNat < ns.length := by omega
    rw [List.getElem?_map, List.getElem?_eq_getElem il, List.getD_eq_getElem?_getD, List.getElem?_eq_getElem il]
    rfl
  · rw [filt_all] at e
    rw [e]
    unfold pk
    rw [List.map_map]
    rfl
def dueL (p : Parts) (rs : List Int) : List Int := match p.key with
  | none => []
  | some cs => pk rs cs
def sp_rows_right (T : Txt K mg) : Sp := fun vs H Q _ => ∃ (d pl : Addr) (t v : V) (p : Parts) (ns : List Int), vs = [.ref d, t, v, .ref pl] ∧ Dice H d ∧ pl ≠ d ∧ H pl = some (.lst (ns.map V.int)) ∧ ns.length = 4 ∧ (∀ i ∈ ns, intB (.int i) = true) ∧
  TabAt K T.c_Table H t { p with refs := sortR p.refs } ∧ PartsAt K d H v p ∧ POk p ∧ ∀ H', Keep d H H' → Q (.bl true) H'
theorem ok_rows_right (T : Txt K mg) : FnOk P w K mg base CX0 7 T.a_l_rows_right T.fd_l_rows_right ["_law_dice_here", "_law_table", "_law_parts_here", "_law_pool_here"] (sp_rows_right T) := by
  have G_l_pick : FnOk P w K mg base CX0 2 T.a_l_pick T.fd_l_pick ["_law_dice_here", "_law_items"] (sp_pickL K) := ok_pickL T
  have G_Table_key_of : FnOk P w K mg base CX0 6 T.a_Table_key_of T.fd_Table_key_of ["self", "row"] (sp_key_of T) := ok_key_of T
  have G_Table_told : FnOk P w K mg base CX0 6 T.a_Table_told T.fd_Table_told ["self", "row", "index"] (sp_told T) := ok_told T
  refine T.F_l_rows_right.ok sc_l_rows_right (fun vs H Q E h => ?_) (fun cdv A outer s H vs Q E hr h => ?_)
  · obtain ⟨d, pl, t, v, p, ns, rfl, _⟩ := h
    rfl
  · obtain ⟨d, pl, t, v, p, ns, rfl, hd, pd, epl, n4, nok, ht, hp, ok, q⟩ := h
    obtain ⟨a, lr, kv, ks, rfl, ad, ld, ea, el, hk, hr0, hq⟩ := hp
    obtain ⟨ta, dx, kw, rw0, rfl, eta, hk2, hr2⟩ := id ht
    refine ⟨_, (pss_cons (ps_for PassesOwn.never rfl (pi_range1 (by rfl) T.n_range (pa_cons pe_int pa_nil)) (pg_name (i := 4) sc_l_rows_right.nd rfl (.inl rfl)) (pss_cons (ps_set (i := 5) sc_l_rows_right.nd rfl (.inr rfl) (pe_callTy call_tuple_of (by rfl) T.n_tuple (by decide +kernel) (pa_cons (pe_lc (own := [("_law_column", 9)]) (g := gName 9) (tt := tYes) rfl sc_l_rows_right.nd (pi_range1 (by rfl) T.n_range (pa_cons (pe_ix ix_list (pv 2) pe_int (fun _ _ => rfl)) pa_nil)) (blkOk_by (N := ["_law_dice_here", "_law_table", "_law_parts_here", "_law_pool_here", "_law_turn", "_law_row", "_law_due", "_law_at", "_law_link", "_law_column"]) (sc := defScope s_l_rows_right) (by decide +kernel)) (fun _ _ _ _ _ => pg_name (i := 9) sc_l_rows_right.nd rfl (Or.inl rfl)) (fun _ _ _ _ _ => pts_nil) (fun _ _ _ _ _ => (pe_call G_l_pick (hr.mono (by decide)) (by rfl) T.g_l_pick T.F_l_pick.kp T.b_l_pick .nil pass0 (pa_cons (pv 0) (pa_cons (pv 3) pa_nil))))) pa_nil)))
      (pss_cons (ps_set (i := 6) sc_l_rows_right.nd rfl (.inl rfl) (pe_mono (pe_ifExp (pt_cmpR op_notN (pe_ix ix_list (pv 2) pe_int (fun _ _ => rfl)) pe_non (nomark _)) (pe_callTy call_tuple_of (by rfl) T.n_tuple (by decide +kernel) (pa_cons (pe_lc (own := [("_law_column", 9)]) (g := gName 9) (tt := tYes) rfl sc_l_rows_right.nd (pi_tup (pe_ix ix_list (pv 2) pe_int (fun _ _ => rfl))) (blkOk_by (N := ["_law_dice_here", "_law_table", "_law_parts_here", "_law_pool_here", "_law_turn", "_law_row", "_law_due", "_law_at", "_law_link", "_law_column"]) (sc := defScope s_l_rows_right) (by decide +kernel)) (fun _ _ _ _ _ => pg_name (i := 9) sc_l_rows_right.nd rfl (Or.inl rfl)) (fun _ _ _ _ _ => pts_nil) (fun _ _ _ _ _ => (pe_ix (ix_tup : IxR _ (rIxT K)) (pv 5) (pv 9) (fun _ _ => rfl)))) pa_nil)) (pe_tup pa_nil))))
      (pss_cons (ps_if (pt_mono (PW.pt (pw_and (pt_cmpR op_notN (pe_ix ix_list (pv 2) pe_int (fun _ _ => rfl)) pe_non (nomark _)) (pw_and1 (pt_cmpR (op_neD hr.units) (pe_meth (pv 1) T.cl_Table T.m_Table_key_of G_Table_key_of (hr.mono (by decide)) T.b_Table_key_of .nil pass0 (pa_cons (pv 5) pa_nil)) (pv 6) (nomark _)))))) (pss_one (ps_ret pe_bl)) pss_nil)
      (pss_one (ps_for PassesOwn.never rfl (pi_enum (by rfl) T.n_enumerate (pa_cons (pe_callB (cr_sortedX hr.units) (by rfl) T.n_sorted (by decide +kernel) (pa_cons (pe_ix ix_list (pv 2) pe_int (fun _ _ => rfl)) pa_nil)) pa_nil)) (pg_tup (by rfl) (pgs_cons (pg_name (i := 7) sc_l_rows_right.nd rfl (.inl rfl)) (pgs_cons (pg_name (i := 8) sc_l_rows_right.nd rfl (.inl rfl)) pgs_nil))) (pss_one (ps_if (pt_cmpR (op_neD hr.units) (pe_meth (pv 1) T.cl_Table T.m_Table_told G_Table_told (hr.mono (by decide)) T.b_Table_told .nil pass0 (pa_cons (pv 5) (pa_cons (pv 7) pa_nil))) (pe_callTy call_tuple_of (by rfl) T.n_tuple (by decide +kernel) (pa_cons (pe_lc (own := [("_law_column", 9)]) (g := gName 9) (tt := tYes) rfl sc_l_rows_right.nd (pi_tup (pe_ix ix_tup (pv 8) pe_int (fun _ _ => rfl))) (blkOk_by (N := ["_law_dice_here", "_law_table", "_law_parts_here", "_law_pool_here", "_law_turn", "_law_row", "_law_due", "_law_at", "_law_link", "_law_column"]) (sc := defScope s_l_rows_right) (by decide +kernel)) (fun _ _ _ _ _ => pg_name (i := 9) sc_l_rows_right.nd rfl (Or.inl rfl)) (fun _ _ _ _ _ => pts_nil) (fun _ _ _ _ _ => (pe_ix (ix_tup : IxR _ (rIxT K)) (pv 5) (pv 9) (fun _ _ => rfl)))) pa_nil)) (nomark _)) (pss_one (ps_ret pe_bl)) pss_nil))))))))
      (pss_one (ps_ret pe_bl))), ?_⟩
    refine ⟨3, rfl, by decide, by decide, for_range (lo := 0) (n := 3) (fun i σ H1 => Keep d H H1 ∧ ∃ y1 y2 y3 y4 y5 y6, σ = [some (.ref d), some (.ref ta), some (.ref a), some (.ref pl), y1, y2, y3, y4, y5, y6]) ⟨.refl hd, _, _, _, _, _, _, rfl⟩ (fun i σ H1 hi h => ?_) (fun σ H1 h => ?_)⟩
    · obtain ⟨k1, y1, y2, y3, y4, y5, y6, rfl⟩ := h
      -- a row
      have a1 := k1.1 _ _ ad ea
      have w1 := ok.w1
      have w4 := ok.w4
      refine ⟨.ref a, rfl, a, _, 1, .int p.wd, rfl, rfl, .of a1, rfl, p.wd, rfl, by omega, by omega, fun D hD => ?_⟩
      have Dd : D ≠ d := k1.2.ne_of hD
      refine lc_range (lo := 0) (n := p.wd.toNat) (fun i H2 => Keep d H1 H2 ∧ ∃ rs : List Int, H2 D = some (.lst (rs.map V.int)) ∧ rs.length = i ∧ ∀ r ∈ rs, intB (.int r) = true) ⟨(Keep.refl k1.2).put hD Dd, [], upd_same, rfl, by simp⟩ (fun i H2 hi h2 => ?_) (fun H2 h2 => ?_)
      · obtain ⟨k2, rs, e2, l2, r2⟩ := h2
        refine ⟨rfl, yesT ⟨.ref d, rfl, .ref pl, rfl, d, pl, _, rfl, k2.2, pd, (k1.trans k2).1 _ _ pd epl, by rw [List.length_map, n4]; decide, by rw [List.length_map, n4]; decide, fun v H3 mv k3 => ?_⟩⟩
        obtain ⟨x, mx, rfl⟩ := List.mem_map.mp mv
        refine ⟨_, k3.some Dd e2, ?_, (k2.trans k3).put hD Dd, rs ++ [x], ?_, ?_, ?_⟩
        · rw [List.length_map]
          exact small1000 (by omega)
        · rw [upd_same, List.map_append]
          rfl
        · rw [List.length_append, l2]
          rfl
        · intro y hy
          rcases List.mem_append.mp hy with h | h
          · exact r2 y h
          · rw [List.mem_singleton.mp h]
            exact nok x mx
      obtain ⟨k2, rs, e2, l2, r2⟩ := h2
      refine ⟨D, _, rfl, .inl ⟨.of e2, fun tr htr => ?_⟩⟩
      have k3 := (k1.trans k2).same (same_upd (o := .tup (rs.map V.int)) htr)
      have er : (upd H2 tr (.tup (rs.map V.int))) tr = some (.tup (rs.map V.int)) := upd_same
      generalize upd H2 tr (.tup (rs.map V.int)) = H3 at k3 er ⊢
      have rok : rowOk p.wd rs := ⟨by omega, w1, w4, r2⟩
      have a3 := k3.1 _ _ ad ea
      have m3 := mv_keep (K := K) k3 hd
      have q3 := dp_mv m3 _ _ (flat_key _) hq
      have t3 := ht.keep k3 hd
      have nta : ta ≠ d := fun z => by
        obtain ⟨x1, x2, x3, x4, _⟩ := hd
        rw [z, x4] at eta
        cases eta
      have e3 := k3.1 _ _ nta eta
      -- due
      refine ⟨fun x H' => ∃ u, x = .ref u ∧ Same H3 H' ∧ H' u = some (.tup ((dueL p rs).map V.int)), ⟨.ref a, rfl, a, _, 2, kv, rfl, rfl, .of a3, rfl, rfl, _, rfl, ?_⟩, fun x H4 h4 => ?_⟩
      · unfold dueL
        cases hkey : p.key with
        | none =>
          rw [hkey] at q3
          cases q3
          exact iteF ⟨Nat.zero_le _, fun u hu => ⟨u, rfl, same_upd hu, upd_same⟩⟩
        | some cs =>
          rw [hkey] at q3
          obtain ⟨c, rfl, hc⟩ := ints_inv q3
          obtain ⟨ci, c4⟩ := cols_in (asc_cols (ok.key cs hkey))
          refine iteT ⟨.ref a, rfl, a, _, 2, .ref c, rfl, rfl, .of a3, rfl, c, rfl, ⟨_, hc⟩, fun D2 hD2 => lc_cols (.of er) hc (fun i hi => ?_) (by omega) hD2 (by decide) (fun i H5 s5 ei Q h => ⟨.ref tr, rfl, .int i, rfl, tr, _, i, _, rfl, rfl, .of (s5 _ _ er), ei, h⟩) (fun x => rfl) fun H5 s5 e5 => ⟨D2, _, rfl, .inl ⟨.of e5, fun u hu => ⟨u, rfl, snew s5 hu, upd_same⟩⟩⟩⟩
          have z := ci i hi
          have y := rok.1
          omega
      obtain ⟨u, rfl, s4, eu⟩ := h4
      have t4 := t3.same s4
      have a4 := s4 _ _ a3
      have e4 := s4 _ _ e3
      have q4 := dp_mv (mv_same (K := K) s4) _ _ (flat_key _) q3
      have er4 := s4 _ _ er
      -- the key
      refine ⟨fun c H' => c = false ∧ Same H4 H', ⟨.ref a, rfl, a, _, 2, kv, rfl, rfl, .of a4, rfl, rfl, _, rfl, ?_⟩, fun c H5 h5 => ?_⟩
      · cases hkey : p.key with
        | none =>
          rw [hkey] at q4
          cases q4
          exact iteF ⟨rfl, .refl _⟩
        | some cs =>
          rw [hkey] at q4
          obtain ⟨c, rfl, hc⟩ := ints_inv q4
          have ed : dueL p rs = pk rs cs := by
            unfold dueL
            rw [hkey]
          rw [ed] at eu
          refine iteT ⟨.ref ta, rfl, ta, dx, _, rfl, e4, rfl, .ref tr, rfl, .ref ta, .ref tr, _, rs, cs, rfl, t4, ⟨tr, rfl, er4⟩, rok, hkey, ok.key cs hkey, fun kq H5 s5 ek => ⟨.ref u, rfl, intsD (pk rs cs), intsD (pk rs cs), .tup (.of ek) (dps_ints _), .tup (.of (s5 _ _ eu)) (dps_ints _), sh_ints _, sh_ints _, _, rfl, ?_, s5⟩⟩
          rw [eqv_ints, decide_eq_true rfl]
          rfl
      obtain ⟨rfl, s5⟩ := h5
      -- what it tells
      have s35 := s4.trans s5
      have k5 : Keep d H H5 := k3.same s35
      have m5 := mv_keep (K := K) k5 hd
      have a5 := s5 _ _ a4
      have l5 := k5.1 _ _ ld el
      have r5 : ∀ x ∈ ks, Dp K H5 (.ref x.1) (refD x.2) := fun x hx => dp_mv m5 _ _ (flat_ref _) (hr0 x hx)
      obtain ⟨z1, z2, z3⟩ := sort_pre r5
      obtain ⟨ks', c1, c2, c3⟩ := sort_ks ks
      refine iteF ⟨.ref a, rfl, a, _, 4, .ref lr, rfl, rfl, .of a5, rfl, lr, _, rfl, .inl (by rw [List.map_map]; exact .of l5), z1, z2, z3, fun l hl => ?_⟩
      rw [c1]
      have s6 : Same H5 (upd H5 l (.lst (ks'.map fun x => V.ref x.1))) := same_upd hl
      have e6 : (upd H5 l (.lst (ks'.map fun x => V.ref x.1))) l = some (.lst (ks'.map fun x => V.ref x.1)) := upd_same
      generalize upd H5 l (.lst (ks'.map fun x => V.ref x.1)) = H6 at s6 e6 ⊢
      have k6 := k5.same s6
      have t6 := ht.keep k6 hd
      have e36 := (s35.trans s6)
      have ta6 := e36 _ _ e3
      have er6 := e36 _ _ er
      refine ⟨l, _, rfl, .of e6, for_it (walk_enum (xs := ks'.map fun x => V.ref x.1)) (fun j σ H1 => Same H6 H1 ∧ ∃ y1 y2 y3 y4, σ = [some (.ref d), some (.ref ta), some (.ref a), some (.ref pl), y4, some (.ref tr), y1, y2, y3, y6]) ⟨.refl _, _, _, _, _, rfl⟩ (fun j σ H1 _ h => .of (h.1 _ _ e6)) (fun j x σ H7 H8 jl h y => ?_) (fun σ H7 h => ?_)⟩
      · obtain ⟨s7, y1, y2, y3, y4, rfl⟩ := h
        obtain ⟨tt, x1, x2, rfl, nt0, rfl, ex1, ex2⟩ := y
        cases ex1
        have ex2 : (ks'.map fun x => V.ref x.1)[j]? = some x2 := ex2
        rw [List.getElem?_map] at ex2
        obtain ⟨k, ek, rfl⟩ := Option.map_eq_some_iff.mp ex2
        have s8 := s7.trans (same_upd (o := .tup [V.int (j : Nat), V.ref k.1]) nt0)
        refine ⟨tt, _, rfl, .of upd_same, rfl, _, _, rfl, _, _, rfl, rfl, ?_⟩
        generalize upd H7 tt (.tup [V.int (j : Nat), V.ref k.1]) = H9 at s8 ⊢
        have mk : k ∈ ks := c3.mem_iff.mp (List.mem_of_getElem? ek)
        have dk := dp_mv (mv_same (K := K) (s6.trans s8)) _ _ (flat_ref _) (r5 k mk)
        have rk : refOk p.wd k.2 := ok.rk k.2 (by rw [← hk]; exact List.mem_map_of_mem mk)
        have rj : (sortR p.refs)[((j : Nat) : Int).toNat]? = some k.2 := by
          rw [← hk, ← c2, List.getElem?_map, Int.toNat_natCast, ek]
          rfl
        obtain ⟨ci, c4⟩ := cols_in rk.1
        refine ⟨.ref ta, rfl, ta, dx, _, rfl, s8 _ _ ta6, rfl, .ref tr, rfl, .int (j : Nat), rfl, .ref ta, .ref tr, _, rs, (j : Nat), k.2, rfl, t6.same s8, ⟨tr, rfl, s8 _ _ er6⟩, rok, by omega, rj, rk, fun t1 H10 s10 et1 => ?_⟩
        obtain ⟨w1', c, ew, hw1, hc⟩ := ref_inv dk
        cases ew
        have m10 := mv_same (K := K) s10
        refine ⟨.ref k.1, rfl, k.1, _, 0, .ref c, rfl, rfl, m10 _ _ hw1, rfl, c, rfl, ⟨_, m10 _ _ hc⟩, fun D3 hD3 => lc_cols (.of ((s8.trans s10) _ _ er6)) (m10 _ _ hc) (fun i hi => ?_) (by omega) hD3 (by decide) (fun i H11 s11 ei Q h => ⟨.ref tr, rfl, .int i, rfl, tr, _, i, _, rfl, rfl, .of ((s8.trans (s10.trans s11)) _ _ er6), ei, h⟩) (fun x => rfl) fun H11 s11 e11 => ⟨D3, _, rfl, .inl ⟨.of e11, fun t2 ht2 => ?_⟩⟩⟩
        · have z := ci i hi
          have y := rok.1
          omega
        · have s12 := s11.trans (same_upd (o := .tup ((pk rs k.2.1).map V.int)) ht2)
          refine ⟨intsD (pk rs k.2.1), intsD (pk rs k.2.1), .tup (.of (s12 _ _ et1)) (dps_ints _), .tup (.of upd_same) (dps_ints _), sh_ints _, sh_ints _, _, rfl, ?_⟩
          rw [eqv_ints, decide_eq_true rfl]
          exact iteF ⟨s8.trans (s10.trans s12), _, _, _, _, rfl⟩
      · obtain ⟨s7, y1, y2, y3, y4, rfl⟩ := h
        exact ⟨k6.same s7, _, _, _, _, _, _, rfl⟩
    · obtain ⟨k1, y1, y2, y3, y4, y5, y6, rfl⟩ := h
      exact q H1 k1
end
-- SPLIT
section
variable {P : Program} {w : World} {K : PySem.W.Frag} {mg : Str → Option Value} {base : Heap}
theorem parts_put {K : PySem.W.Frag} {d f lr : Addr} {H : Hp} {p : Parts} {kv : V} {xs : List V} {ks : List (Addr × Rf)} (ef : H f = some (.lst xs)) (fd : f ≠ d) (ld : lr ≠ d) (lf : lr ≠ f) (el : H lr = some (.lst (ks.map fun x => V.ref x.1))) (hk : ks.map Prod.snd = p.refs)
    (hr : ∀ x ∈ ks, Dp K H (.ref x.1) (refD x.2)) (hq : Dp K H kv (keyD p.key)) : PartsAt K d (upd H f (.lst [.str p.nm, .int p.wd, kv, .str p.sc, .ref lr])) (.ref f) p := by
  have m : Mv K H (upd H f (.lst [.str p.nm, .int p.wd, kv, .str p.sc, .ref lr])) := mv_but (d := f) (fun b o ne e => by rw [upd_ne ne]; exact e) fun xs h => by
    rcases h with h | ⟨o, h⟩
    · rw [ef] at h
      cases h
    · rw [ef] at h
      cases h
  exact ⟨f, lr, kv, ks, rfl, fd, ld, upd_same, by rw [upd_ne lf]; exact el, hk, fun x hx => dp_mv m _ _ (flat_ref _) (hr x hx), dp_mv m _ _ (flat_key _) hq⟩
theorem mv_upd {K : PySem.W.Frag} {H : Hp} {f : Addr} {xs : List V} {o : HO} (ef : H f = some (.lst xs)) : Mv K H (upd H f o) := mv_but (d := f) (fun b o ne e => by rw [upd_ne ne]; exact e) fun xs h => by
  rcases h with h | ⟨o, h⟩
  · rw [ef] at h
    cases h
  · rw [ef] at h
    cases h
theorem cut_1 (xs : List V) : cutV xs (some 1) none = xs.drop 1 := by
  cases xs with
  | nil => rfl
  | cons x xs =>
    unfold cutV
    rw [HT.sIx_none, List.take_of_length_le (by simp)]
    have e : HT.sIx (x :: xs).length 0 (some 1) = 1 := by
      show (if (1 : Int) < 0 then (1 + ((x :: xs).length : Int)).toNat else min (1 : Int).toNat (x :: xs).length) = 1
      rw [if_neg (by decide), List.length_cons]
      show min 1 (xs.length + 1) = 1
      omega
    rw [e]
theorem lr_ne {H : Hp} {f lr : Addr} {b c e g : V} {ks : List (Addr × Rf)} {z : Str} (ef : H f = some (.lst [.str z, b, c, e, g])) (el : H lr = some (.lst (ks.map fun x => V.ref x.1))) : lr ≠ f := fun h => by
  rw [h, ef] at el
  cases ks with
  | nil => cases el
  | cons k ks => cases el
def FOUR : List Str := ["a", "aa", "b", "zzzzzzzz"]
theorem four_ok : (FOUR.all fun z => nameB (.str z)) = true := by decide +kernel
theorem four_left (z : Str) : 0 < (FOUR.filter fun y => !decide (V.str y = V.str z)).length := by
  by_cases e : (("a" : Str)) = z
  · have h : ((("aa" : Str)) : Str) ∈ FOUR.filter fun y => !decide (V.str y = V.str z) := List.mem_filter.mpr ⟨by decide +kernel, by
      rw [← e]
      decide +kernel⟩
    exact List.length_pos_of_mem h
  · have h : ((("a" : Str)) : Str) ∈ FOUR.filter fun y => !decide (V.str y = V.str z) := List.mem_filter.mpr ⟨by decide +kernel, by
      rw [decide_eq_false (fun h => e (by injection h))]
      rfl⟩
    exact List.length_pos_of_mem h
theorem set5 (a b c e g v : V) : [a, b, c, e, g].set 0 v = [v, b, c, e, g] ∧ [a, b, c, e, g].set 1 v = [a, v, c, e, g] ∧ [a, b, c, e, g].set 2 v = [a, b, v, e, g] ∧ [a, b, c, e, g].set 3 v = [a, b, c, v, g] ∧ [a, b, c, e, g].set 4 v = [a, b, c, e, v] := ⟨rfl, rfl, rfl, rfl, rfl⟩
theorem colsL_mono {w w' : Int} (h : w ≤ w') {xs : List V} (k : colsL w xs = true) : colsL w' xs = true := by
  unfold colsL at k ⊢
  rw [Bool.and_eq_true] at k ⊢
  refine ⟨k.1, List.all_eq_true.mpr fun x hx => ?_⟩
  have z := List.all_eq_true.mp k.2 x hx
  cases x with
  | int i =>
    have z2 : (decide (0 ≤ i) && decide (i < w)) = true := z
    show (decide (0 ≤ i) && decide (i < w')) = true
    rw [Bool.and_eq_true, decide_eq_true_eq, decide_eq_true_eq] at z2 ⊢
    omega
  | _ => exact absurd z Bool.false_ne_true
theorem keyOk_mono {w w' : Int} (h : w ≤ w') {c : List Int} (k : keyOk w c) : keyOk w' c := by
  unfold keyOk ascL at k ⊢
  rw [Bool.and_eq_true] at k ⊢
  exact ⟨colsL_mono h k.1, k.2⟩
theorem POk.wide {p : Parts} (ok : POk p) (h : p.wd < 4) : POk { p with wd := p.wd + 1 } := by
  have w1 := ok.w1
  exact ⟨ok.nm, by show 1 ≤ p.wd + 1; omega, by show p.wd + 1 ≤ 4; omega, fun c e => keyOk_mono (show p.wd ≤ p.wd + 1 by omega) (ok.key c e), ok.sc, ok.r4, fun r hr => ⟨colsL_mono (show p.wd ≤ p.wd + 1 by omega) (ok.rk r hr).1, (ok.rk r hr).2⟩, ok.nd⟩
theorem POk.sub {p : Parts} (ok : POk p) {rs : List Rf} (h : rs.Sublist p.refs) : POk { p with refs := rs } :=
  ⟨ok.nm, ok.w1, ok.w4, ok.key, ok.sc, Nat.le_trans h.length_le ok.r4, fun r hr => ok.rk r (h.subset hr), ok.nd.sublist h⟩
theorem POk.add {p : Parts} (ok : POk p) {r : Rf} (h : r ∉ p.refs) (l : p.refs.length < 4) (hr : refOk p.wd r) : POk { p with refs := p.refs ++ [r] } := by
  refine ⟨ok.nm, ok.w1, ok.w4, ok.key, ok.sc, ?_, fun q hq => ?_, ?_⟩
  · show (p.refs ++ [r]).length ≤ 4
    rw [List.length_append]
    exact l
  · rcases List.mem_append.mp hq with hq | hq
    · exact ok.rk q hq
    · rw [List.mem_singleton.mp hq]
      exact hr
  · exact List.nodup_append.mpr ⟨ok.nd, List.pairwise_singleton .., fun a ha b hb e => h (by
      rw [← List.mem_singleton.mp hb, ← e]
      exact ha)⟩
theorem ab_ok : nameB (.str "ab") = true := by decide +kernel
def sp_changed (K : PySem.W.Frag) : Sp := fun vs H Q _ => ∃ (d : Addr) (v : V) (p : Parts), vs = [.ref d, v] ∧ Dice H d ∧ PartsAt K d H v p ∧ POk p ∧ ∀ (u : V) (p' : Parts) (H' : Hp), POk p' → PartsAt K d H' u p' → Keep d H H' → Q u H'
theorem ok_changed (T : Txt K mg) : FnOk P w K mg base CX0 4 T.a_l_changed T.fd_l_changed ["_law_dice_here", "_law_parts_here"] (sp_changed K) := by
  have G_l_roll : FnOk P w K mg base CX0 1 T.a_l_roll T.fd_l_roll ["_law_dice_here", "_law_upto"] (sp_roll K) := ok_roll T
  have G_l_some : FnOk P w K mg base CX0 3 T.a_l_some T.fd_l_some ["_law_dice_here", "_law_items", "_law_least", "_law_most"] (sp_some K) := ok_some T
  have G_l_pick : FnOk P w K mg base CX0 2 T.a_l_pick T.fd_l_pick ["_law_dice_here", "_law_items"] (sp_pickL K) := ok_pickL T
  have G_l_columns : FnOk P w K mg base CX0 2 T.a_l_columns T.fd_l_columns ["_law_dice_here", "_law_width", "_law_most"] (sp_columns K) := ok_columns T
  refine T.F_l_changed.ok sc_l_changed (fun vs H Q E h => ?_) (fun cdv A outer s H vs Q E hr h => ?_)
  · obtain ⟨d, v, p, rfl, _⟩ := h
    rfl
  · obtain ⟨d, v, p, rfl, hd, hp, ok, q⟩ := h
    obtain ⟨a, lr, kv, ks, rfl, ad, ld, ea, el, hk, hr0, hq⟩ := hp
    refine ⟨_, (pss_cons (ps_par (i := 2) (j := 3) rfl sc_l_changed.nd rfl rfl (by decide) rfl rfl (pa_cons (pe_callTy call_list_of (by rfl) T.n_list (by decide +kernel) (pa_cons (pv 1) pa_nil)) (pa_cons (pe_call G_l_roll (hr.mono (by decide)) (by rfl) T.g_l_roll T.F_l_roll.kp T.b_l_roll .nil pass0 (pa_cons (pv 0) (pa_cons pe_int pa_nil))) pa_nil)) (by rfl))
      (pss_cons (ps_mono (ps_if (pt_cmpR op_eq (pv 3) pe_int (nomark _)) (pss_one (ps_asg (pe_call G_l_pick (hr.mono (by decide)) (by rfl) T.g_l_pick T.F_l_pick.kp T.b_l_pick .nil pass0 (pa_cons (pv 0) (pa_cons (pe_lc (own := [("_law_word_here", 7)]) (g := gName 7) (tt := _) rfl sc_l_changed.nd (pi_list (pe_lst (pa_cons pe_str (pa_cons pe_str (pa_cons pe_str (pa_cons pe_str pa_nil)))))) (blkOk_by (N := ["_law_dice_here", "_law_parts_here", "_law_found", "_law_way", "_law_own", "_law_one", "_law_left", "_law_word_here", "_law_link"]) (sc := defScope s_l_changed) (by decide +kernel)) (fun _ _ _ _ _ => pg_name (i := 7) sc_l_changed.nd rfl (Or.inl rfl)) (fun _ _ _ _ _ => (pts_one (pt_cmpR op_ne (pv 7) (pe_ix (ix_list : IxR _ (rIxL K)) (pv 1) pe_int (fun _ _ => rfl)) (nomark _)))) (fun _ _ _ _ _ => (pv 7))) pa_nil))) (pg_sub (pv 2) pe_int set_list))) pss_nil))
      (pss_cons (ps_mono (ps_if (PW.pt (pw_and (pt_cmpR op_eq (pv 3) pe_int (nomark _)) (pw_and1 (pt_cmpR op_lt (pe_ix ix_list (pv 1) pe_int (fun _ _ => rfl)) pe_int (nomark _))))) (pss_one (ps_asg (pe_op op_add (pe_ix ix_list (pv 1) pe_int (fun _ _ => rfl)) pe_int) (pg_sub (pv 2) pe_int set_list))) pss_nil))
      (pss_cons (ps_mono (ps_if (pt_cmpR op_eq (pv 3) pe_int (nomark _)) (pss_cons (ps_set (i := 4) sc_l_changed.nd rfl (.inl rfl) (pe_callTy call_tuple_of (by rfl) T.n_tuple (by decide +kernel) (pa_cons (pe_callB cr_sorted (by rfl) T.n_sorted (by decide +kernel) (pa_cons (pe_call G_l_some (hr.mono (by decide)) (by rfl) T.g_l_some T.F_l_some.kp T.b_l_some .nil pass0 (pa_cons (pv 0) (pa_cons (pe_listRg rfl (by rfl) T.n_list (prg_1 (by rfl) T.n_range (pe_ix ix_list (pv 1) pe_int (fun _ _ => rfl)))) (pa_cons pe_int (pa_cons pe_int pa_nil))))) pa_nil)) pa_nil)))
      (pss_one (ps_asg (pe_ifExp (PW.pt (pw_or (pt_cmpR (op_neD hr.units) (pv 4) (pe_ix ix_list (pv 1) pe_int (fun _ _ => rfl)) (nomark _)) (pw_or1 (pt_cmpR op_eq (pe_ix ix_list (pv 1) pe_int (fun _ _ => rfl)) pe_str (nomark _))))) (pv 4) pe_non) (pg_sub (pv 2) pe_int set_list)))) pss_nil))
      (pss_cons (ps_mono (ps_if (PW.pt (pw_and (pt_cmpR op_eq (pv 3) pe_int (nomark _)) (pw_and1 (pt_cmpR op_notN (pe_ix ix_list (pv 1) pe_int (fun _ _ => rfl)) pe_non (nomark _))))) (pss_one (ps_asg (pe_ifExp (pt_cmpR op_eq (pe_ix ix_list (pv 1) pe_int (fun _ _ => rfl)) pe_str (nomark _)) pe_str pe_str) (pg_sub (pv 2) pe_int set_list))) pss_nil))
      (pss_cons (ps_mono (ps_if (pt_cmpR op_eq (pv 3) pe_int (nomark _)) (pss_cons (ps_set (i := 5) sc_l_changed.nd rfl (.inr rfl) (pe_tup (pa_cons (pe_call G_l_columns (hr.mono (by decide)) (by rfl) T.g_l_columns T.F_l_columns.kp T.b_l_columns .nil pass0 (pa_cons (pv 0) (pa_cons (pe_ix ix_list (pv 1) pe_int (fun _ _ => rfl)) (pa_cons pe_int pa_nil)))) (pa_cons pe_str pa_nil))))
      (pss_cons (ps_setLc (i := 6) (own := [("_law_link", 8)]) (g := gName 8) (tt := _) rfl sc_l_changed.nd rfl rfl (sw_true rfl rfl rfl (by decide +kernel)) (pi_list (pe_ix ix_list (pv 1) pe_int (fun _ _ => rfl))) (blkOk_by (N := ["_law_dice_here", "_law_parts_here", "_law_found", "_law_way", "_law_own", "_law_one", "_law_left", "_law_word_here", "_law_link"]) (sc := defScope s_l_changed) (by decide +kernel)) (fun _ _ _ _ _ => pg_name (i := 8) sc_l_changed.nd rfl (Or.inl rfl)) (fun _ _ _ _ _ => (pts_one (pt_cmpR ((op_neD hr.units) : OpR _ (compareOp .NotEq) (rNeD K)) (pv 8) (pv 5) (nomark _)))) (fun _ _ _ _ _ => (pv 8)))
      (pss_cons (ps_mono (ps_asg (pe_ifExp (PW.pt (pw_or (pt_cmpR op_lt (pe_callB call_len_seq (by rfl) T.n_len (by decide +kernel) (pa_cons (pv 6) pa_nil)) (pe_callB call_len_seq (by rfl) T.n_len (by decide +kernel) (pa_cons (pe_ix ix_list (pv 1) pe_int (fun _ _ => rfl)) pa_nil)) (nomark _)) (pw_or1 (pt_cmpR op_eq (pe_callB call_len_seq (by rfl) T.n_len (by decide +kernel) (pa_cons (pv 6) pa_nil)) pe_int (nomark _))))) (pv 6) (pe_op op_cat (pv 6) (pe_lst (pa_cons (pv 5) pa_nil)))) (pg_sub (pv 2) pe_int set_list)))
      (pss_one (ps_if (pt_cmpR op_eq (pe_callB call_len_seq (by rfl) T.n_len (by decide +kernel) (pa_cons (pv 6) pa_nil)) pe_int (nomark _)) (pss_one (ps_asg (pe_slice sl_list (pv 6) (po_some pe_int) po_none) (pg_sub (pv 2) pe_int set_list))) pss_nil))))) pss_nil))
      (pss_one (ps_ret (pv 2))))))))), ?_⟩
    refine ⟨.ref a, rfl, a, _, rfl, .inl (.of ea), fun f hf => ⟨.ref d, rfl, d, 5, rfl, hd.same (same_upd hf), by decide, small_i (by decide) (by decide), fun n H1 n0 n1 k1 => ⟨_, _, rfl, ?_⟩⟩⟩
    have fd : f ≠ d := hd.ne_of hf
    have af : a ≠ f := ne_of_none ea hf
    have lf : lr ≠ f := ne_of_none el hf
    have kH : Keep d H H1 := (Keep.of_same (same_upd hf) hd).trans k1
    have ef : H1 f = some (.lst [.str p.nm, .int p.wd, kv, .str p.sc, .ref lr]) := k1.some fd upd_same
    have J0 : PartsAt K d H1 (.ref f) p := ⟨f, lr, kv, ks, rfl, fd, ld, ef, kH.1 _ _ ld el, hk, fun x hx => dp_mv (mv_keep kH hd) _ _ (flat_ref _) (hr0 x hx), dp_mv (mv_keep kH hd) _ _ (flat_key _) hq⟩
    let J : Int → L2.St → Hp → Prop := fun k σ' H' => ∃ (p' : Parts) (y4 y5 y6 y7 y8 : Option V), σ' = [some (.ref d), some (.ref a), some (.ref f), some (.int n), y4, y5, y6, y7, y8] ∧ Keep d H H' ∧ PartsAt K d H' (.ref f) p' ∧ POk p' ∧ (k ≤ n → p' = p)
    have nI : ∀ {k : Int}, ¬ V.int n = V.int k → n ≠ k := fun h e => h (by rw [e])
    have nE : ∀ {k : Int}, decide (V.int n = V.int k) = true → n = k := fun h => by
      have z := of_decide_eq_true h
      injection z
    -- the name
    refine ⟨J 1, ⟨_, rfl, rfl, _, rfl, ite2 (fun c0 => ?_) (fun c0 => ⟨p, _, _, _, _, _, rfl, kH, J0, ok, fun _ => rfl⟩)⟩, fun σ' H2 h2 => ?_⟩
    · have n0 : n = 0 := nE c0
      refine ⟨.ref d, rfl, by show 4 ≤ sizeLine; decide, fun m hm => ⟨m, rfl, ⟨_, .of upd_same⟩, fun D hD => ?_⟩⟩
      have s2 : Same H1 (upd H1 m (.lst (FOUR.map V.str))) := same_upd hm
      have e2 : (upd H1 m (.lst (FOUR.map V.str))) m = some (.lst (FOUR.map V.str)) := upd_same
      have hD2 : (upd H1 m (.lst (FOUR.map V.str))) D = none := hD
      have kM := kH.same s2
      refine lc_pure (walk_list (xs := FOUR.map V.str)) hD FOUR V.str (fun z => !decide (V.str z = V.str p.nm)) V.str rfl (by decide) (by decide) (fun H3 s3 => .of (s3 _ _ e2)) (fun i H3 x H' s3 y => ?_)
        (fun z H3 mz s3 Q h => ⟨.str z, rfl, .ref a, rfl, a, _, 0, .str p.nm, rfl, rfl, .of (s3 _ _ (kM.1 _ _ ad ea)), rfl, rfl, _, rfl, h _ (.refl _)⟩) (fun z H3 mz _ s3 Q h => ⟨_, rfl, h _ (.refl _)⟩) (fun x => rfl) (fun H3 s3 e3 => ?_)
      · obtain ⟨rfl, hx⟩ := y
        rw [List.getElem?_map] at hx
        obtain ⟨j, e, rfl⟩ := Option.map_eq_some_iff.mp hx
        exact ⟨rfl, j, e, rfl⟩
      · have k3 : Keep d H H3 := kM.same s3
        refine ⟨d, D, _, rfl, k3.2, kM.2.ne_of hD, e3, ?_, ?_, fun v H4 mv k4 => ?_⟩
        · rw [List.length_map]
          exact four_left p.nm
        · rw [List.length_map]
          exact Nat.le_trans (List.length_filter_le _ _) (by decide)
        · obtain ⟨z, mz, rfl⟩ := List.mem_map.mp mv
          have zok := List.all_eq_true.mp four_ok z (List.mem_filter.mp mz).1
          have k5 : Keep d H H4 := k3.trans k4
          have ef4 := k4.some fd (s3 _ _ (s2 _ _ ef))
          exact ⟨_, rfl, f, _, 0, 0, rfl, rfl, ef4, rfl, { p with nm := z }, _, _, _, _, _, rfl, k5.put hf fd, parts_put (p := { p with nm := z }) ef4 fd ld lf (k5.1 _ _ ld el) hk (fun x hx => dp_mv (mv_keep k5 hd) _ _ (flat_ref _) (hr0 x hx)) (dp_mv (mv_keep k5 hd) _ _ (flat_key _) hq), ⟨zok, ok.w1, ok.w4, ok.key, ok.sc, ok.r4, ok.rk, ok.nd⟩, fun e => by omega⟩
    obtain ⟨p2, y4, y5, y6, y7, y8, rfl, k2, P2, ok2, e2⟩ := h2
    refine ⟨J 2, ⟨_, rfl, rfl, _, rfl, ite2 (fun c0 => ?_) (fun c0 => ⟨p2, _, _, _, _, _, rfl, k2, P2, ok2, fun _ => e2 (by omega)⟩)⟩, fun σ' H3 h3 => ?_⟩
    · have n0 : n = 1 := nE c0
      have e2 := e2 (by omega)
      subst e2
      have ea2 := k2.1 _ _ ad ea
      refine ⟨.ref a, rfl, a, _, 1, .int p2.wd, rfl, rfl, .of ea2, rfl, p2.wd, 4, rfl, rfl, _, rfl, ite2 (fun c1 => ?_) (fun c1 => ⟨p2, _, _, _, _, _, rfl, k2, P2, ok2, fun _ => rfl⟩)⟩
      obtain ⟨f', lr2, kv2, ks2, e, fd2, ld2, ef2, el2, hk2, hr2, hq2⟩ := P2
      cases e
      exact ⟨.ref a, rfl, a, _, 1, .int p2.wd, rfl, rfl, .of ea2, rfl, p2.wd, 1, rfl, rfl, .ref f, rfl, f, _, 1, 1, rfl, rfl, ef2, rfl, { p2 with wd := p2.wd + 1 }, _, _, _, _, _, rfl, k2.put hf fd, parts_put (p := { p2 with wd := p2.wd + 1 }) ef2 fd ld2 (lr_ne ef2 el2) el2 hk2 hr2 hq2, ok2.wide (of_decide_eq_true c1), fun e => by omega⟩
    obtain ⟨p3, y4, y5, y6, y7, y8, rfl, k3, P3, ok3, e3⟩ := h3
    refine ⟨J 3, ⟨_, rfl, rfl, _, rfl, ite2 (fun c0 => ?_) (fun c0 => ⟨p3, _, _, _, _, _, rfl, k3, P3, ok3, fun _ => e3 (by omega)⟩)⟩, fun σ' H4 h4 => ?_⟩
    · have n0 : n = 2 := nE c0
      have e3 := e3 (by omega)
      subst e3
      have w1 := ok3.w1
      have w4 := ok3.w4
      have ea3 := k3.1 _ _ ad ea
      refine ⟨.ref d, rfl, .ref a, rfl, a, _, 1, .int p3.wd, rfl, rfl, .of ea3, rfl, p3.wd, rfl, RgOk.of_le (by decide) (by omega) (by decide) (by omega), fun u hu => ?_⟩
      have k5 := k3.same (same_upd (o := .lst (rgV 0 p3.wd)) hu)
      have len : (rgV 0 p3.wd).length = p3.wd.toNat := by
        rw [rgV_length, Int.sub_zero]
      refine ⟨d, u, _, 1, 4, rfl, k5.2, .of upd_same, by omega, by decide, by decide, k3.2.ne_of hu, fun lz ys m H6 pm m1 m4 mz nl => ?_⟩
      have m2 : 1 ≤ m := by omega
      obtain ⟨ns, z1, z2, z3⟩ := key_some (n := p3.wd) (by omega) pm m2 m4 mz
      rw [z1] at nl
      refine ⟨lz, ns, rfl, .of nl.2.2.2, by omega, fun ms q pm2 so hq' => ⟨q, _, rfl, .inl ⟨.of upd_same, fun t2 ht2 => ?_⟩⟩⟩
      have k7 := (k5.trans nl.2.2.1).same (same_upd (o := .lst (ms.map V.int)) hq')
      have k8 := k7.same (same_upd (o := .tup (ms.map V.int)) ht2)
      have z8 : (upd (upd H6 q (.lst (ms.map V.int))) t2 (.tup (ms.map V.int))) t2 = some (.tup (ms.map V.int)) := upd_same
      have k38 : Keep d H3 (upd (upd H6 q (.lst (ms.map V.int))) t2 (.tup (ms.map V.int))) := (((Keep.of_same (same_upd hu) k3.2).trans nl.2.2.1).same (same_upd hq')).same (same_upd ht2)
      generalize upd (upd H6 q (.lst (ms.map V.int))) t2 (.tup (ms.map V.int)) = H8 at k8 z8 k38 ⊢
      have kok := z3 ms pm2 so
      have dk : Dp K H8 (.ref t2) (keyD (some ms)) := .tup (.of z8) (dps_ints ms)
      have ea8 := k8.1 _ _ ad ea
      obtain ⟨f', lr2, kv2, ks2, e, fd2, ld2, ef2, el2, hk2, hr2, hq2⟩ := P3
      cases e
      have ef8 := k38.1 _ _ fd ef2
      have el8 := k38.1 _ _ ld2 el2
      have hr8 : ∀ x ∈ ks2, Dp K H8 (.ref x.1) (refD x.2) := fun x hx => dp_mv (mv_keep k38 k3.2) _ _ (flat_ref _) (hr2 x hx)
      have dq8 : Dp K H8 kv (keyD p3.key) := dp_mv (mv_keep k8 hd) _ _ (flat_key _) hq
      have okS : POk { p3 with key := some ms } := ⟨ok3.nm, ok3.w1, ok3.w4, fun c e => by
        cases e
        exact kok, ok3.sc.imp id fun h => ⟨h.1, fun e => by cases e⟩, ok3.r4, ok3.rk, ok3.nd⟩
      refine ⟨.ref t2, rfl, .ref a, rfl, a, _, 2, kv, rfl, rfl, .of ea8, rfl, keyD (some ms), keyD p3.key, dk, dq8, sh_key _, sh_key _, _, rfl, ite2 (fun c1 => ?_) (fun c1 => ?_)⟩
      · exact ⟨_, rfl, _, rfl, f, _, 2, 2, rfl, rfl, ef8, rfl, { p3 with key := some ms }, _, _, _, _, _, rfl, k8.put hf fd, parts_put (p := { p3 with key := some ms }) ef8 fd ld2 (lr_ne ef8 el8) el8 hk2 hr8 dk, okS, fun e => by omega⟩
      · refine ⟨.ref a, rfl, a, _, 3, .str p3.sc, rfl, rfl, .of ea8, rfl, rfl, _, rfl, ite2 (fun c2 => ?_) (fun c2 => ?_)⟩
        · exact ⟨_, rfl, _, rfl, f, _, 2, 2, rfl, rfl, ef8, rfl, { p3 with key := some ms }, _, _, _, _, _, rfl, k8.put hf fd, parts_put (p := { p3 with key := some ms }) ef8 fd ld2 (lr_ne ef8 el8) el8 hk2 hr8 dk, okS, fun e => by omega⟩
        · have c3 : p3.sc ≠ "all" := fun e => of_decide_eq_false (nt c2) (by rw [e])
          have okN : POk { p3 with key := none } := ⟨ok3.nm, ok3.w1, ok3.w4, fun c e => (by cases e), .inl (ok3.sc.resolve_right fun h => c3 h.1), ok3.r4, ok3.rk, ok3.nd⟩
          exact ⟨_, rfl, f, _, 2, 2, rfl, rfl, ef8, rfl, { p3 with key := none }, _, _, _, _, _, rfl, k8.put hf fd, parts_put (p := { p3 with key := none }) ef8 fd ld2 (lr_ne ef8 el8) el8 hk2 hr8 .non, okN, fun e => by omega⟩
    obtain ⟨p4, y4, y5, y6, y7, y8, rfl, k4, P4, ok4, e4⟩ := h4
    refine ⟨J 4, ⟨_, rfl, rfl, _, rfl, ite2 (fun c0 => ?_) (fun c0 => ⟨p4, _, _, _, _, _, rfl, k4, P4, ok4, fun _ => e4 (by omega)⟩)⟩, fun σ' H5 h5 => ?_⟩
    · have n0 : n = 3 := nE c0
      have e4 := e4 (by omega)
      subst e4
      have ea4 := k4.1 _ _ ad ea
      have dq4 : Dp K H4 kv (keyD p4.key) := dp_mv (mv_keep k4 hd) _ _ (flat_key _) hq
      refine ⟨.ref a, rfl, a, _, 2, kv, rfl, rfl, .of ea4, rfl, rfl, _, rfl, ?_⟩
      cases hkey : p4.key with
      | none =>
        rw [hkey] at dq4
        cases dq4
        exact iteF ⟨p4, _, _, _, _, _, rfl, k4, P4, ok4, fun _ => rfl⟩
      | some cs =>
        rw [hkey] at dq4
        obtain ⟨c, rfl, hc⟩ := ints_inv dq4
        obtain ⟨f', lr2, kv2, ks2, e, fd2, ld2, ef2, el2, hk2, hr2, hq2⟩ := P4
        cases e
        refine iteT ⟨.ref a, rfl, a, _, 3, .str p4.sc, rfl, rfl, .of ea4, rfl, rfl, _, rfl, ite2 (fun c1 => ?_) (fun c1 => ?_)⟩
        · exact ⟨_, rfl, f, _, 3, 3, rfl, rfl, ef2, rfl, { p4 with sc := "living" }, _, _, _, _, _, rfl, k4.put hf fd, parts_put (p := { p4 with sc := "living" }) ef2 fd ld2 (lr_ne ef2 el2) el2 hk2 hr2 hq2, ⟨ok4.nm, ok4.w1, ok4.w4, ok4.key, .inl rfl, ok4.r4, ok4.rk, ok4.nd⟩, fun e => by omega⟩
        · exact ⟨_, rfl, f, _, 3, 3, rfl, rfl, ef2, rfl, { p4 with sc := "all" }, _, _, _, _, _, rfl, k4.put hf fd, parts_put (p := { p4 with sc := "all" }) ef2 fd ld2 (lr_ne ef2 el2) el2 hk2 hr2 hq2, ⟨ok4.nm, ok4.w1, ok4.w4, ok4.key, .inr ⟨rfl, fun e => by rw [hkey] at e; cases e⟩, ok4.r4, ok4.rk, ok4.nd⟩, fun e => by omega⟩
    obtain ⟨p5, y4, y5, y6, y7, y8, rfl, k5, P5, ok5, e5⟩ := h5
    refine ⟨J 5, ⟨_, rfl, rfl, _, rfl, ite2 (fun c0 => ?_) (fun c0 => ⟨p5, _, _, _, _, _, rfl, k5, P5, ok5, fun _ => e5 (by omega)⟩)⟩, fun σ' H6 h6 => ?_⟩
    · have n0 : n = 4 := nE c0
      have e5 := e5 (by omega)
      subst e5
      have w1 := ok5.w1
      have w4 := ok5.w4
      have ea5 := k5.1 _ _ ad ea
      refine ⟨.ref d, rfl, .ref a, rfl, a, _, 1, .int p5.wd, rfl, rfl, .of ea5, rfl, d, p5.wd, 4, rfl, k5.2, w1, w4, by decide, by decide, fun tc cs H7 cok k7 ec => ⟨by show 2 ≤ sizeLine; decide, fun t ht => ?_⟩⟩
      have k57 : Keep d H5 (upd H7 t (.tup [.ref tc, .str "ab"])) := k7.same (same_upd ht)
      have e8 : (upd H7 t (.tup [.ref tc, .str "ab"])) t = some (.tup [.ref tc, .str "ab"]) := upd_same
      have c8 : (upd H7 t (.tup [.ref tc, .str "ab"])) tc = some (.tup (cs.map V.int)) := (same_upd ht) _ _ ec
      generalize upd H7 t (.tup [.ref tc, .str "ab"]) = H8 at k57 e8 c8 ⊢
      have k8 := k5.trans k57
      have ea8 := k8.1 _ _ ad ea
      have el8 := k8.1 _ _ ld el
      have hr8 : ∀ x ∈ ks, Dp K H8 (.ref x.1) (refD x.2) := fun x hx => dp_mv (mv_keep k8 hd) _ _ (flat_ref _) (hr0 x hx)
      have dt : Dp K H8 (.ref t) (refD (cs, "ab")) := .tup (.of e8) (.cons (.tup (.of c8) (dps_ints cs)) (.cons (.str _) .nil))
      obtain ⟨f', lr2, kv2, ks2, e, fd2, ld2, ef2, el2, hk2, hr2, hq2⟩ := P5
      cases e
      have ef8 := k57.1 _ _ fd ef2
      have dk8 : Dp K H8 kv2 (keyD p5.key) := dp_mv (mv_keep k57 k5.2) _ _ (flat_key _) hq2
      refine ⟨.ref a, rfl, a, _, 4, .ref lr, rfl, rfl, .of ea8, rfl, lr, rfl, ⟨_, .of el8⟩, fun D hD => ?_⟩
      refine lc_pure (walk_list (xs := ks.map fun x => V.ref x.1)) hD ks (fun x => V.ref x.1) (fun x => !PyData.eqv (refD x.2) (refD (cs, "ab"))) (fun x => V.ref x.1) (by rw [List.length_map]) ?_ (by decide) (fun H9 s9 => .of (s9 _ _ el8)) (fun i H9 x H' s9 y => ?_)
        (fun x H9 mx s9 Q h => ⟨.ref x.1, rfl, .ref t, rfl, refD x.2, refD (cs, "ab"), dp_mv (mv_same s9) _ _ (flat_ref _) (hr8 x mx), dp_mv (mv_same s9) _ _ (flat_ref _) dt, ?_, sh_ref (name_str ab_ok), _, rfl, h _ (.refl _)⟩) (fun x H9 mx _ s9 Q h => ⟨_, rfl, h _ (.refl _)⟩) (fun x => rfl) (fun H9 s9 e9 => ?_)
      · rw [List.length_map]
        have z := ok5.r4
        rw [← hk, List.length_map] at z
        omega
      · obtain ⟨rfl, hx⟩ := y
        rw [List.getElem?_map] at hx
        obtain ⟨j, e, rfl⟩ := Option.map_eq_some_iff.mp hx
        exact ⟨rfl, j, e, rfl⟩
      · exact sh_ref (name_str (ok5.rk x.2 (by rw [← hk]; exact List.mem_map_of_mem mx)).2)
      · generalize efl : ks.filter (fun x => !PyData.eqv (refD x.2) (refD (cs, "ab"))) = fl at e9
        have sub : fl.Sublist ks := by
          rw [← efl]
          exact List.filter_sublist
        have subS : (fl.map Prod.snd).Sublist p5.refs := by
          rw [← hk]
          exact sub.map _
        have l4 : fl.length ≤ 4 := by
          have z := subS.length_le
          have z2 := ok5.r4
          rw [List.length_map] at z
          omega
        have k9 : Keep d H H9 := k8.same s9
        have Dd : D ≠ d := k8.2.ne_of hD
        have Df : D ≠ f := fun e => by
          rw [e, ef8] at hD
          cases hD
        have ea9 := s9 _ _ ea8
        have el9 := s9 _ _ el8
        have ef9 := s9 _ _ ef8
        have dk9 : Dp K H9 kv2 (keyD p5.key) := dp_mv (mv_same s9) _ _ (flat_key _) dk8
        have hr9 : ∀ x ∈ ks, Dp K H9 (.ref x.1) (refD x.2) := fun x hx => dp_mv (mv_same s9) _ _ (flat_ref _) (hr8 x hx)
        have okS : POk { p5 with refs := fl.map Prod.snd } := ok5.sub subS
        have store : PartsAt K d (upd H9 f (.lst [.str p5.nm, .int p5.wd, kv2, .str p5.sc, .ref D])) (.ref f) { p5 with refs := fl.map Prod.snd } :=
          parts_put (p := { p5 with refs := fl.map Prod.snd }) ef9 fd Dd Df e9 rfl (fun x hx => hr9 x (sub.subset hx)) dk9
        refine ⟨fun σ' H' => σ' = [some (.ref d), some (.ref a), some (.ref f), some (.int n), y4, some (.ref t), some (.ref D), y7, y8] ∧ Keep d H H' ∧ H' D = some (.lst (fl.map fun x => V.ref x.1)) ∧ (∀ x ∈ fl, Dp K H' (.ref x.1) (refD x.2)) ∧ ∃ rs, POk { p5 with refs := rs } ∧ PartsAt K d H' (.ref f) { p5 with refs := rs }, ?_, fun σ' HA hA => ?_⟩
        · have m := mv_upd (K := K) (o := .lst [.str p5.nm, .int p5.wd, kv2, .str p5.sc, .ref D]) ef9
          have hrU := fun x hx => dp_mv m _ _ (flat_ref _) (hr9 x (sub.subset hx))
          refine ⟨.ref D, rfl, D, _, rfl, .inl (.of e9), .ref a, rfl, a, _, 4, .ref lr, rfl, rfl, .of ea9, rfl, lr, _, rfl, .inl (.of el9), _, _, rfl, rfl, _, rfl, ite2 (fun c1 => ?_) (fun c1 => ?_)⟩
          · exact ⟨_, rfl, _, rfl, f, _, 4, 4, rfl, rfl, ef9, rfl, rfl, k9.put hf fd, by rw [upd_ne Df]; exact e9, hrU, _, okS, store⟩
          · refine ⟨.ref D, rfl, D, _, rfl, .inl (.of e9), rfl, _, rfl, ite2 (fun c2 => ?_) (fun c2 => ?_)⟩
            · exact ⟨_, rfl, _, rfl, f, _, 4, 4, rfl, rfl, ef9, rfl, rfl, k9.put hf fd, by rw [upd_ne Df]; exact e9, hrU, _, okS, store⟩
            · have l5 : ¬ fl.length < ks.length := fun z => by
                have z2 := of_decide_eq_false (nt c1)
                rw [List.length_map, List.length_map] at z2
                omega
              have l6 : fl.length ≠ 4 := fun z => by
                have z2 := of_decide_eq_false (nt c2)
                rw [List.length_map] at z2
                exact z2 (by rw [z]; rfl)
              have el : fl = ks := sub.eq_of_length_le (by omega)
              have nr : (cs, ("ab" : Str)) ∉ p5.refs := fun hm => by
                rw [← hk, ← el] at hm
                obtain ⟨x, hx, e⟩ := List.mem_map.mp hm
                rw [← efl] at hx
                have z := (List.mem_filter.mp hx).2
                rw [e, eqv_ref, decide_eq_true rfl] at z
                cases z
              have l7 : p5.refs.length < 4 := by
                have z := ok5.r4
                rw [← hk, ← el, List.length_map] at z ⊢
                omega
              refine ⟨_, rfl, .ref t, rfl, by show 1 ≤ sizeLine; decide, fun u hu => ⟨D, u, _, _, rfl, rfl, same_upd hu _ _ e9, upd_same, ?_, fun v hv => ?_⟩⟩
              · rw [List.length_map]
                exact sz_of (by show fl.length + 1 ≤ 100000; omega)
              · have s12 : Same H9 (upd (upd H9 u (.lst [.ref t])) v (.lst (fl.map (fun x => V.ref x.1) ++ [.ref t]))) := snew (same_upd hu) hv
                have ev : (upd (upd H9 u (.lst [.ref t])) v (.lst (fl.map (fun x => V.ref x.1) ++ [.ref t]))) v = some (.lst (fl.map (fun x => V.ref x.1) ++ [.ref t])) := upd_same
                have vf : v ≠ f := fun e => by
                  rw [e, same_upd hu _ _ ef9] at hv
                  cases hv
                have vd : v ≠ d := (k9.same (same_upd hu)).2.ne_of hv
                generalize upd (upd H9 u (.lst [.ref t])) v (.lst (fl.map (fun x => V.ref x.1) ++ [.ref t])) = HB at s12 ev ⊢
                have efB := s12 _ _ ef9
                have m2 := mv_upd (K := K) (o := .lst [.str p5.nm, .int p5.wd, kv2, .str p5.sc, .ref v]) efB
                have hrB : ∀ x ∈ fl, Dp K HB (.ref x.1) (refD x.2) := fun x hx => dp_mv (mv_same s12) _ _ (flat_ref _) (hr9 x (sub.subset hx))
                have dtB : Dp K HB (.ref t) (refD (cs, "ab")) := dp_mv (mv_same (s9.trans s12)) _ _ (flat_ref _) dt
                have okA : POk { p5 with refs := p5.refs ++ [((cs, "ab") : Rf)] } := ok5.add nr l7 ⟨cok, ab_ok⟩
                refine ⟨_, rfl, f, _, 4, 4, rfl, rfl, efB, rfl, rfl, (k9.same s12).put hf fd, by rw [upd_ne Df]; exact s12 _ _ e9, fun x hx => dp_mv m2 _ _ (flat_ref _) (hrB x hx), _, okA, ?_⟩
                refine parts_put (p := { p5 with refs := p5.refs ++ [((cs, "ab") : Rf)] }) (ks := fl ++ [(t, ((cs, "ab") : Rf))]) efB fd vd vf (by rw [ev, List.map_append]; rfl) (by rw [List.map_append, el, hk]; rfl) (fun x hx => ?_) (dp_mv (mv_same s12) _ _ (flat_key _) dk9)
                rcases List.mem_append.mp hx with hx | hx
                · exact hrB x hx
                · rw [List.mem_singleton.mp hx]
                  exact dtB
        · obtain ⟨rfl, kA, eA, hrA, rs, okA, PA⟩ := hA
          refine ⟨.ref D, rfl, D, _, rfl, .inl (.of eA), rfl, _, rfl, ite2 (fun c3 => ?_) (fun c3 => ⟨_, _, _, _, _, _, rfl, kA, PA, okA, fun e => by omega⟩)⟩
          obtain ⟨f', lr3, kv3, ks3, e, fd3, ld3, ef3, el3, hk3, hr3, hq3⟩ := PA
          cases e
          refine ⟨.ref D, rfl, 1, rfl, D, _, rfl, .of eA, fun u hu => ?_⟩
          rw [cut_1, ← List.map_drop]
          have sU := same_upd (o := .lst ((fl.drop 1).map fun x => V.ref x.1)) hu
          have eU : (upd HA u (.lst ((fl.drop 1).map fun x => V.ref x.1))) u = some (.lst ((fl.drop 1).map fun x => V.ref x.1)) := upd_same
          have uf : u ≠ f := fun e => by
            rw [e, ef3] at hu
            cases hu
          have ud : u ≠ d := kA.2.ne_of hu
          generalize upd HA u (.lst ((fl.drop 1).map fun x => V.ref x.1)) = HC at sU eU ⊢
          exact ⟨_, rfl, f, _, 4, 4, rfl, rfl, sU _ _ ef3, rfl, { p5 with refs := (fl.drop 1).map Prod.snd }, _, _, _, _, _, rfl, (kA.same sU).put hf fd, parts_put (p := { p5 with refs := (fl.drop 1).map Prod.snd }) (sU _ _ ef3) fd ud uf eU rfl (fun x hx => dp_mv (mv_same sU) _ _ (flat_ref _) (hrA x (List.mem_of_mem_drop hx))) (dp_mv (mv_same sU) _ _ (flat_key _) hq3), ok5.sub (((List.drop_sublist 1 fl).map _).trans subS), fun e => by omega⟩
    obtain ⟨p6, y4, y5, y6, y7, y8, rfl, k6, P6, ok6, e6⟩ := h6
    exact ⟨.ref f, rfl, q (.ref f) p6 H6 ok6 P6 k6⟩
end
-- SPLIT
section
variable {P : Program} {w : World} {K : PySem.W.Frag} {mg : Str → Option Value} {base : Heap}
/-- the data of a list of parts, their references a sorted list -/
noncomputable def partsDL (p : Parts) : List PyData := [.str p.nm, .int p.wd, keyD p.key, .str p.sc, .list ((sortR p.refs).map refD)]
theorem sh_partsDL {p : Parts} (ok : POk p) : SeqAt.shaped (.list (partsDL p)) = true := by
  obtain ⟨k1, k2⟩ := key_lay p.key
  have a := lays_refs (sort_str ok)
  have b := depth_refs (sortR p.refs)
  refine shaped_of ?_ ?_
  · simp [partsDL, PyData.canLay0, PyData.canLayAll0, name_str ok.nm, sc_ok ok, k1, a]
  · simp only [partsDL, PyData.depth, PyData.depthAll]
    omega
theorem eqv_partsDL (p q : Parts) : PyData.eqv (.list (partsDL p)) (.list (partsDL q)) = decide (({ p with refs := sortR p.refs } : Parts) = { q with refs := sortR q.refs }) := by
  unfold partsDL
  simp only [PyData.eqv, PyData.eqvAll, eqv_key, Bool.and_true]
  have z := eqv_refsL (sortR p.refs) (sortR q.refs)
  simp only [PyData.eqv] at z
  rw [z]
  by_cases a : p.nm = q.nm <;> by_cases b : p.wd = q.wd <;> by_cases c : p.key = q.key <;> by_cases e : p.sc = q.sc <;> by_cases f : sortR p.refs = sortR q.refs <;> simp [a, b, c, e, f]
theorem POk.perm {p : Parts} (ok : POk p) {rs : List Rf} (h : rs.Perm p.refs) : POk { p with refs := rs } :=
  ⟨ok.nm, ok.w1, ok.w4, ok.key, ok.sc, by rw [h.length_eq]; exact ok.r4, fun r hr => ok.rk r (h.mem_iff.mp hr), h.nodup_iff.mpr ok.nd⟩
theorem tab_ne {K : PySem.W.Frag} {C d : Addr} {H : Hp} {t : V} {p : Parts} (h : TabAt K C H t p) (hd : Dice H d) : ∃ a dx fs, t = .ref a ∧ H a = some (.ins C dx fs) ∧ a ≠ d := by
  obtain ⟨a, dx, kv, rv, e, ea, _⟩ := h
  refine ⟨a, dx, _, e, ea, fun z => ?_⟩
  obtain ⟨x, y, c, e2, _⟩ := hd
  rw [z, e2] at ea
  cases ea
def sp_right (K : PySem.W.Frag) : Sp := fun vs H Q _ => ∃ d : Addr, vs = [.ref d] ∧ Dice H d ∧ ∀ H', Keep d H H' → Q (.bl true) H'
theorem ok_right (T : Txt K mg) : FnOk P w K mg base CX0 9 T.a_l_right T.fd_l_right ["_law_dice_here"] (sp_right K) := by
  have G_l_parts : FnOk P w K mg base CX0 4 T.a_l_parts T.fd_l_parts ["_law_dice_here"] (sp_parts K) := ok_parts T
  have G_l_pool : FnOk P w K mg base CX0 2 T.a_l_pool T.fd_l_pool ["_law_dice_here", "_law_lots"] (sp_pool K) := ok_pool T
  have G_l_made : FnOk P w K mg base CX0 7 T.a_l_made T.fd_l_made ["_law_parts_here"] (sp_made T) := ok_made T
  have G_l_shows : FnOk P w K mg base CX0 3 T.a_l_shows T.fd_l_shows ["_law_table", "_law_parts_here"] (sp_shows T) := ok_shows T
  have G_l_rows_right : FnOk P w K mg base CX0 7 T.a_l_rows_right T.fd_l_rows_right ["_law_dice_here", "_law_table", "_law_parts_here", "_law_pool_here"] (sp_rows_right T) := ok_rows_right T
  have G_l_mixed : FnOk P w K mg base CX0 2 T.a_l_mixed T.fd_l_mixed ["_law_dice_here", "_law_items"] (sp_mixed K) := ok_mixed T
  have G_l_changed : FnOk P w K mg base CX0 4 T.a_l_changed T.fd_l_changed ["_law_dice_here", "_law_parts_here"] (sp_changed K) := ok_changed T
  have G_l_keys_right : FnOk P w K mg base CX0 6 T.a_l_keys_right T.fd_l_keys_right ["_law_dice_here"] (sp_keys_right K) := ok_keys_right T
  have G_Table_eq : FnOk P w K mg base CX0 1 T.a_Table_eq T.fd_Table_eq ["self", "other"] (sp_eq T) := ok_eq T
  refine T.F_l_right.ok sc_l_right (fun vs H Q E h => ?_) (fun cdv A outer s H vs Q E hr h => ?_)
  · obtain ⟨d, rfl, _⟩ := h
    rfl
  · obtain ⟨d, rfl, hd, q⟩ := h
    refine ⟨_, (pss_cons (ps_par (i := 1) (j := 2) rfl sc_l_right.nd rfl rfl (by decide) rfl rfl (pa_cons (pe_call G_l_parts (hr.mono (by decide)) (by rfl) T.g_l_parts T.F_l_parts.kp T.b_l_parts .nil pass0 (pa_cons (pv 0) pa_nil)) (pa_cons (pe_call G_l_pool (hr.mono (by decide)) (by rfl) T.g_l_pool T.F_l_pool.kp T.b_l_pool .nil pass0 (pa_cons (pv 0) (pa_cons pe_int pa_nil))) pa_nil)) (by rfl))
      (pss_cons (ps_set (i := 3) sc_l_right.nd rfl (.inl rfl) (pe_call G_l_made (hr.mono (by decide)) (by rfl) T.g_l_made T.F_l_made.kp T.b_l_made .nil pass0 (pa_cons (pv 1) pa_nil)))
      (pss_cons (ps_if (PW.pt (pw_or (pt_not (pt_val (pe_call G_l_shows (hr.mono (by decide)) (by rfl) T.g_l_shows T.F_l_shows.kp T.b_l_shows .nil pass0 (pa_cons (pv 3) (pa_cons (pv 1) pa_nil))))) (pw_or1 (pt_not (pt_val (pe_call G_l_rows_right (hr.mono (by decide)) (by rfl) T.g_l_rows_right T.F_l_rows_right.kp T.b_l_rows_right .nil pass0 (pa_cons (pv 0) (pa_cons (pv 3) (pa_cons (pv 1) (pa_cons (pv 2) pa_nil)))))))))) (pss_one (ps_ret pe_bl)) pss_nil)
      (pss_cons (ps_set (i := 4) sc_l_right.nd rfl (.inl rfl) (pe_call G_l_made (hr.mono (by decide)) (by rfl) T.g_l_made T.F_l_made.kp T.b_l_made .nil pass0 (pa_cons (pe_op op_cat (pe_slice sl_list (pv 1) po_none (po_some pe_int)) (pe_lst (pa_cons (pe_call G_l_mixed (hr.mono (by decide)) (by rfl) T.g_l_mixed T.F_l_mixed.kp T.b_l_mixed .nil pass0 (pa_cons (pv 0) (pa_cons (pe_ix ix_list (pv 1) pe_int (fun _ _ => rfl)) pa_nil))) pa_nil))) pa_nil)))
      (pss_cons (ps_if (PW.pt (pw_or (pt_cmpR (op_neO G_Table_eq (hr.mono (by decide)) T.eq_Table T.b_Table_eq pass0) (pv 3) (pv 4) (nomark _)) (pw_or (pt_not (pt_cmpR (op_eqO G_Table_eq (hr.mono (by decide)) T.eq_Table T.b_Table_eq pass0) (pv 4) (pv 3) (nomark _))) (pw_or (pt_cmpR (op_eqO G_Table_eq (hr.mono (by decide)) T.eq_Table T.b_Table_eq pass0) (pv 3) (pv 1) (nomark _)) (pw_or1 (pt_cmpR (op_eqO G_Table_eq (hr.mono (by decide)) T.eq_Table T.b_Table_eq pass0) (pv 3) (pe_ix ix_list (pv 1) pe_int (fun _ _ => rfl)) (nomark _))))))) (pss_one (ps_ret pe_bl)) pss_nil)
      (pss_cons (ps_set (i := 5) sc_l_right.nd rfl (.inl rfl) (pe_call G_l_changed (hr.mono (by decide)) (by rfl) T.g_l_changed T.F_l_changed.kp T.b_l_changed .nil pass0 (pa_cons (pv 0) (pa_cons (pv 1) pa_nil))))
      (pss_cons (ps_set (i := 6) sc_l_right.nd rfl (.inl rfl) (pe_cmpR (op_eqD hr.units) (pe_op op_cat (pe_slice sl_list (pv 5) po_none (po_some pe_int)) (pe_lst (pa_cons (pe_callB (cr_sortedX hr.units) (by rfl) T.n_sorted (by decide +kernel) (pa_cons (pe_ix ix_list (pv 5) pe_int (fun _ _ => rfl)) pa_nil)) pa_nil))) (pe_op op_cat (pe_slice sl_list (pv 1) po_none (po_some pe_int)) (pe_lst (pa_cons (pe_callB (cr_sortedX hr.units) (by rfl) T.n_sorted (by decide +kernel) (pa_cons (pe_ix ix_list (pv 1) pe_int (fun _ _ => rfl)) pa_nil)) pa_nil))) (nomark _)))
      (pss_cons (ps_if (pt_cmpR (op_neD hr.units) (pe_lst (pa_cons (pe_cmpR (op_eqO G_Table_eq (hr.mono (by decide)) T.eq_Table T.b_Table_eq pass0) (pv 3) (pe_call G_l_made (hr.mono (by decide)) (by rfl) T.g_l_made T.F_l_made.kp T.b_l_made .nil pass0 (pa_cons (pv 5) pa_nil)) (nomark _)) (pa_cons (pe_cmpR (op_neO G_Table_eq (hr.mono (by decide)) T.eq_Table T.b_Table_eq pass0) (pv 3) (pe_call G_l_made (hr.mono (by decide)) (by rfl) T.g_l_made T.F_l_made.kp T.b_l_made .nil pass0 (pa_cons (pv 5) pa_nil)) (nomark _)) pa_nil))) (pe_lst (pa_cons (pv 6) (pa_cons (pe_not (pv 6)) pa_nil))) (nomark _)) (pss_one (ps_ret pe_bl)) pss_nil)
      (pss_one (ps_ret (pe_and (pe_call G_l_shows (hr.mono (by decide)) (by rfl) T.g_l_shows T.F_l_shows.kp T.b_l_shows .nil pass0 (pa_cons (pv 3) (pa_cons (pv 1) pa_nil))) (pe_one (pe_call G_l_keys_right (hr.mono (by decide)) (by rfl) T.g_l_keys_right T.F_l_keys_right.kp T.b_l_keys_right .nil pass0 (pa_cons (pv 0) pa_nil)))))))))))))), ?_⟩
    refine ⟨.ref d, rfl, d, rfl, hd, fun v p H1 ok hp k1 => ⟨.ref d, rfl, d, rfl, k1.2, fun pl ns H2 n4 nok nl => ⟨_, _, rfl, ?_⟩⟩⟩
    obtain ⟨pl0, pld, k2, epl⟩ := nl
    have hp2 := hp.keep k2 k1.2
    refine ⟨v, rfl, v, d, p, rfl, hp2, ok, fun t H3 s3 ht => ?_⟩
    have k3 : Keep d H H3 := (k1.trans k2).same s3
    have hp3 := hp2.keep (Keep.of_same s3 k2.2) k2.2
    refine ⟨t, rfl, v, rfl, t, v, d, p, rfl, ht, hp3, ok, fun H4 s4 => ⟨_, rfl, iteF ?_⟩⟩
    have k4 := k3.same s4
    have hp4 := hp3.keep (Keep.of_same s4 k3.2) k3.2
    have ht4 := ht.same s4
    refine ⟨.ref d, rfl, t, rfl, v, rfl, .ref pl, rfl, d, pl, t, v, p, ns, rfl, k4.2, pld, s4 _ _ (s3 _ _ epl), n4, nok, ht4, hp4, ok, fun H5 k5 => ⟨_, rfl, iteF ?_⟩⟩
    have kk5 := k4.trans k5
    have hp5 := hp4.keep k5 k4.2
    have ht5 := ht4.keep k5 k4.2
    obtain ⟨ta, dx, fs, rfl, eta, tad⟩ := tab_ne ht5 kk5.2
    -- the same once more, with its references in another order
    obtain ⟨a, lr, kv, ks, rfl, ad, ld, ea, el, hk, hr0, hq⟩ := id hp5
    have l4 : ks.length ≤ 4 := by
      have z := ok.r4
      rw [← hk, List.length_map] at z
      exact z
    refine ⟨.ref a, rfl, 4, rfl, a, _, rfl, .of ea, fun p2 h2 => ?_⟩
    rw [cut4]
    generalize hH6 : upd H5 p2 (.lst [.str p.nm, .int p.wd, kv, .str p.sc]) = H6
    have s6 : Same H5 H6 := by
      rw [← hH6]
      exact same_upd h2
    have e6 : H6 p2 = some (.lst [.str p.nm, .int p.wd, kv, .str p.sc]) := by
      rw [← hH6]
      exact upd_same
    have k56 : Keep d H5 H6 := Keep.of_same s6 kk5.2
    refine ⟨.ref d, rfl, .ref a, rfl, a, _, 4, .ref lr, rfl, rfl, .of (s6 _ _ ea), rfl, d, lr, _, rfl, k56.2, .of (s6 _ _ el), by rw [List.length_map]; omega, fun l ys H7 pm nl => ⟨by show 1 ≤ sizeLine; decide, fun p3 h3 => ?_⟩⟩
    obtain ⟨n1, n2, k7, e7⟩ := nl
    obtain ⟨ks', pk', rfl⟩ := perm_map pm
    have p2d : p2 ≠ d := kk5.2.ne_of h2
    generalize hH8 : upd H7 p3 (.lst [.ref l]) = H8
    have s8 : Same H7 H8 := by
      rw [← hH8]
      exact same_upd h3
    have e8 : H8 p3 = some (.lst [.ref l]) := by
      rw [← hH8]
      exact upd_same
    refine ⟨p2, p3, _, _, rfl, rfl, s8 _ _ (k7.some p2d e6), e8, by show 5 ≤ sizeLine; decide, fun p4 h4 => ?_⟩
    have k8 := k7.same s8
    have p4d : p4 ≠ d := k8.2.ne_of h4
    have s9 := same_upd (o := .lst ([.str p.nm, .int p.wd, kv, .str p.sc] ++ [.ref l])) h4
    have e9 : (upd H8 p4 (.lst ([.str p.nm, .int p.wd, kv, .str p.sc] ++ [.ref l]))) p4 = some (.lst [.str p.nm, .int p.wd, kv, .str p.sc, .ref l]) := upd_same
    generalize upd H8 p4 (.lst ([.str p.nm, .int p.wd, kv, .str p.sc] ++ [.ref l])) = H9 at s9 e9 ⊢
    have k9 : Keep d H5 H9 := (k56.trans k8).same s9
    have ok2 : POk { p with refs := ks'.map Prod.snd } := ok.perm (by rw [← hk]; exact pk'.map _)
    have m9 := mv_keep (K := K) k9 kk5.2
    have hA : PartsAt K d H9 (.ref p4) { p with refs := ks'.map Prod.snd } := ⟨p4, l, kv, ks', rfl, p4d, n2, e9, (s8.trans s9) _ _ e7, rfl, fun x hx => dp_mv m9 _ _ (flat_ref _) (hr0 x (pk'.mem_iff.mp hx)), dp_mv m9 _ _ (flat_key _) hq⟩
    have sR : sortR (ks'.map Prod.snd) = sortR p.refs := sortR_eq (by rw [← hk]; exact pk'.map _)
    refine ⟨.ref p4, d, { p with refs := ks'.map Prod.snd }, rfl, hA, ok2, fun t2 HA sA ht2 => ?_⟩
    have ht2 : TabAt K T.c_Table HA t2 { p with refs := sortR p.refs } := by
      rw [← sR]
      exact ht2
    have kA : Keep d H5 HA := k9.same sA
    have htA := ht5.keep kA kk5.2
    have hpA := hp5.keep kA kk5.2
    have etaA := kA.1 _ _ tad eta
    obtain ⟨tb, dy, fs2, rfl, etb, tbd⟩ := tab_ne ht2 kA.2
    have so := name_str ok.nm
    have ro : ∀ r ∈ sortR p.refs, PyData.strOk r.2 = true := sort_str ok
    have eaA := kA.1 _ _ ad ea
    have nl : "list" ∈ BT := by decide
    have nst : "str" ∈ BT := by decide
    refine ⟨.ref ta, rfl, .ref tb, rfl, ta, _, _, .ref T.c_Table, rfl, etaA, T.is_Table.ty etb, nf_self, .ref ta, .ref tb, _, rfl, htA, so, ro, .inl ⟨_, ht2, ro, ?_⟩⟩
    rw [decide_eq_true rfl]
    refine ⟨true, rfl, _, rfl, iteF ⟨.ref tb, rfl, .ref ta, rfl, tb, _, _, .ref T.c_Table, rfl, etb, T.is_Table.ty etaA, nf_self, .ref tb, .ref ta, _, rfl, ht2, so, ro, .inl ⟨_, htA, ro, ?_⟩⟩⟩
    rw [decide_eq_true rfl]
    refine ⟨true, rfl, _, rfl, iteF ⟨.ref ta, rfl, .ref a, rfl, ta, _, _, .type "list", rfl, etaA, .base (.lst eaA), (T.fo_Table _ nl).2, .ref ta, .ref a, _, rfl, htA, so, ro, .inr ⟨"list", nl, .base (.lst eaA), false, rfl, _, rfl, iteF ?_⟩⟩⟩
    refine ⟨.ref ta, rfl, .ref a, rfl, a, _, 0, .str p.nm, rfl, rfl, .of eaA, rfl, ta, _, _, .type "str", rfl, etaA, .base (.str _), (T.fo_Table _ nst).2, .ref ta, .str p.nm, _, rfl, htA, so, ro, .inr ⟨"str", nst, .base (.str _), false, rfl, _, rfl, iteF ?_⟩⟩
    -- another one
    refine ⟨.ref d, rfl, .ref a, rfl, d, .ref a, p, rfl, kA.2, hpA, ok, fun u p' HB okB hB kB => ?_⟩
    have k5B := kA.trans kB
    have hpB := hp5.keep k5B kk5.2
    have htB := ht5.keep k5B kk5.2
    have etaB := k5B.1 _ _ tad eta
    have eaB := k5B.1 _ _ ad ea
    have elB := k5B.1 _ _ ld el
    have mB := mv_keep (K := K) k5B kk5.2
    have hrB : ∀ x ∈ ks, Dp K HB (.ref x.1) (refD x.2) := fun x hx => dp_mv mB _ _ (flat_ref _) (hr0 x hx)
    have hqB : Dp K HB kv (keyD p.key) := dp_mv mB _ _ (flat_key _) hq
    obtain ⟨b, lb, kw, kb, rfl, bd, lbd, eb, elb, hkb, hrb, hqb⟩ := id hB
    refine ⟨.ref b, rfl, 4, rfl, b, _, rfl, .of eb, fun q2 h2 => ?_⟩
    rw [cut4]
    generalize hHC : upd HB q2 (.lst [.str p'.nm, .int p'.wd, kw, .str p'.sc]) = HC
    have sC : Same HB HC := by
      rw [← hHC]
      exact same_upd h2
    have eC : HC q2 = some (.lst [.str p'.nm, .int p'.wd, kw, .str p'.sc]) := by
      rw [← hHC]
      exact upd_same
    have mC := mv_same (K := K) sC
    obtain ⟨z1, z2, z3⟩ := sort_pre (K := K) (H := HC) (ks := kb) fun x hx => dp_mv mC _ _ (flat_ref _) (hrb x hx)
    obtain ⟨kb', c1, c2, c3⟩ := sort_ks kb
    refine ⟨.ref b, rfl, b, _, 4, .ref lb, rfl, rfl, .of (sC _ _ eb), rfl, lb, _, rfl, .inl (by rw [List.map_map]; exact .of (sC _ _ elb)), z1, z2, z3, fun l2 hl => ⟨by show 1 ≤ sizeLine; decide, fun q3 h3 => ?_⟩⟩
    rw [c1] at h3 ⊢
    have sD := same_upd (o := .lst (kb'.map fun x => V.ref x.1)) hl
    have eD : (upd HC l2 (.lst (kb'.map fun x => V.ref x.1))) l2 = some (.lst (kb'.map fun x => V.ref x.1)) := upd_same
    generalize upd HC l2 (.lst (kb'.map fun x => V.ref x.1)) = HD at sD eD h3 ⊢
    generalize hHE : upd HD q3 (.lst [.ref l2]) = HE
    have sE : Same HD HE := by
      rw [← hHE]
      exact same_upd h3
    have eE : HE q3 = some (.lst [.ref l2]) := by
      rw [← hHE]
      exact upd_same
    refine ⟨q2, q3, _, _, rfl, rfl, (sD.trans sE) _ _ eC, eE, by show 5 ≤ sizeLine; decide, fun q4 h4 => ?_⟩
    have sF := same_upd (o := .lst ([.str p'.nm, .int p'.wd, kw, .str p'.sc] ++ [.ref l2])) h4
    have eF : (upd HE q4 (.lst ([.str p'.nm, .int p'.wd, kw, .str p'.sc] ++ [.ref l2]))) q4 = some (.lst [.str p'.nm, .int p'.wd, kw, .str p'.sc, .ref l2]) := upd_same
    generalize upd HE q4 (.lst ([.str p'.nm, .int p'.wd, kw, .str p'.sc] ++ [.ref l2])) = HF at sF eF ⊢
    have sBF := ((sC.trans sD).trans sE).trans sF
    have mF := mv_same (K := K) sBF
    have dF : Dp K HF (.ref q4) (.list (partsDL p')) := by
      refine .lst (.of eF) (.cons (.str _) (.cons (.int _) (.cons (dp_mv mF _ _ (flat_key _) hqb) (.cons (.str _) (.cons ?_ .nil)))))
      rw [← hkb, ← c2]
      exact .lst (.of ((sE.trans sF) _ _ eD)) (dp_refs fun x hx => dp_mv mF _ _ (flat_ref _) (hrb x (c3.mem_iff.mp hx)))
    -- its own
    have eaF := sBF _ _ eaB
    refine ⟨.ref a, rfl, 4, rfl, a, _, rfl, .of eaF, fun r2 g2 => ?_⟩
    rw [cut4]
    generalize hHG : upd HF r2 (.lst [.str p.nm, .int p.wd, kv, .str p.sc]) = HG
    have sG : Same HF HG := by
      rw [← hHG]
      exact same_upd g2
    have eG : HG r2 = some (.lst [.str p.nm, .int p.wd, kv, .str p.sc]) := by
      rw [← hHG]
      exact upd_same
    have sBG := sBF.trans sG
    have mG := mv_same (K := K) sBG
    obtain ⟨y1, y2, y3⟩ := sort_pre (K := K) (H := HG) (ks := ks) fun x hx => dp_mv mG _ _ (flat_ref _) (hrB x hx)
    obtain ⟨ks2, f1, f2, f3⟩ := sort_ks ks
    refine ⟨.ref a, rfl, a, _, 4, .ref lr, rfl, rfl, .of (sG _ _ eaF), rfl, lr, _, rfl, .inl (by rw [List.map_map]; exact .of (sBG _ _ elB)), y1, y2, y3, fun l3 gl => ⟨by show 1 ≤ sizeLine; decide, fun r3 g3 => ?_⟩⟩
    rw [f1] at g3 ⊢
    have sI := same_upd (o := .lst (ks2.map fun x => V.ref x.1)) gl
    have eI : (upd HG l3 (.lst (ks2.map fun x => V.ref x.1))) l3 = some (.lst (ks2.map fun x => V.ref x.1)) := upd_same
    generalize upd HG l3 (.lst (ks2.map fun x => V.ref x.1)) = HI at sI eI g3 ⊢
    generalize hHJ : upd HI r3 (.lst [.ref l3]) = HJ
    have sJ : Same HI HJ := by
      rw [← hHJ]
      exact same_upd g3
    have eJ : HJ r3 = some (.lst [.ref l3]) := by
      rw [← hHJ]
      exact upd_same
    refine ⟨r2, r3, _, _, rfl, rfl, (sI.trans sJ) _ _ eG, eJ, by show 5 ≤ sizeLine; decide, fun r4 g4 => ?_⟩
    have sL := same_upd (o := .lst ([.str p.nm, .int p.wd, kv, .str p.sc] ++ [.ref l3])) g4
    have eL : (upd HJ r4 (.lst ([.str p.nm, .int p.wd, kv, .str p.sc] ++ [.ref l3]))) r4 = some (.lst [.str p.nm, .int p.wd, kv, .str p.sc, .ref l3]) := upd_same
    generalize upd HJ r4 (.lst ([.str p.nm, .int p.wd, kv, .str p.sc] ++ [.ref l3])) = HL at sL eL ⊢
    have sFL := ((sG.trans sI).trans sJ).trans sL
    have sBL := sBF.trans sFL
    have mL := mv_same (K := K) sBL
    have dL : Dp K HL (.ref r4) (.list (partsDL p)) := by
      refine .lst (.of eL) (.cons (.str _) (.cons (.int _) (.cons (dp_mv mL _ _ (flat_key _) hqB) (.cons (.str _) (.cons ?_ .nil)))))
      rw [← hk, ← f2]
      exact .lst (.of ((sJ.trans sL) _ _ eI)) (dp_refs fun x hx => dp_mv mL _ _ (flat_ref _) (hrB x (f3.mem_iff.mp hx)))
    have sh1 : SeqAt.shaped (.list (partsDL p')) = true := sh_partsDL okB
    have sh2 : SeqAt.shaped (.list (partsDL p)) = true := sh_partsDL ok
    have dF2 : Dp K HL (.ref q4) (.list (partsDL p')) := by
      refine .lst (.of (sFL _ _ eF)) (.cons (.str _) (.cons (.int _) (.cons (dp_mv mL _ _ (flat_key _) hqb) (.cons (.str _) (.cons ?_ .nil)))))
      rw [← hkb, ← c2]
      exact .lst (.of (((sE.trans sF).trans sFL) _ _ eD)) (dp_refs fun x hx => dp_mv mL _ _ (flat_ref _) (hrb x (c3.mem_iff.mp hx)))
    refine ⟨.list (partsDL p'), .list (partsDL p), dF2, dL, sh1, sh2, ?_⟩
    rw [eqv_partsDL]
    have eqc : decide (({ p' with refs := sortR p'.refs } : Parts) = { p with refs := sortR p.refs }) = decide (({ p with refs := sortR p.refs } : Parts) = { p' with refs := sortR p'.refs }) := decide_eq_decide.mpr ⟨fun e => e.symm, fun e => e.symm⟩
    rw [eqc]
    generalize hsame : decide (({ p with refs := sortR p.refs } : Parts) = { p' with refs := sortR p'.refs }) = same
    have kBL : Keep d HB HL := Keep.of_same sBL k5B.2
    have htL := htB.same sBL
    have hBL := hB.keep kBL k5B.2
    have etaL := sBL _ _ etaB
    have ro' : ∀ r ∈ sortR p'.refs, PyData.strOk r.2 = true := sort_str okB
    -- both comparisons
    refine ⟨.ref ta, rfl, .ref b, rfl, .ref b, d, p', rfl, hBL, okB, fun t3 HM sM ht3 => ?_⟩
    obtain ⟨tc, dz, fs3, rfl, etc, _⟩ := tab_ne ht3 (kBL.same sM).2
    refine ⟨ta, _, _, .ref T.c_Table, rfl, sM _ _ etaL, T.is_Table.ty etc, nf_self, .ref ta, .ref tc, _, rfl, htL.same sM, so, ro, .inl ⟨_, ht3, ro', ?_⟩⟩
    rw [hsame]
    refine ⟨same, rfl, .ref ta, rfl, .ref b, rfl, .ref b, d, p', rfl, hBL.keep (Keep.of_same sM kBL.2) kBL.2, okB, fun t4 HN sN ht4 => ?_⟩
    obtain ⟨te, dw, fs4, rfl, ete, _⟩ := tab_ne ht4 ((kBL.same sM).same sN).2
    refine ⟨ta, _, _, .ref T.c_Table, rfl, sN _ _ (sM _ _ etaL), T.is_Table.ty ete, nf_self, .ref ta, .ref te, _, rfl, (htL.same sM).same sN, so, ro, .inl ⟨_, ht4, ro', ?_⟩⟩
    rw [hsame]
    refine ⟨same, rfl, by show 2 ≤ sizeLine; decide, fun v1 w1 => ?_⟩
    generalize hHO : upd HN v1 (.lst [.bl same, .bl (!same)]) = HO
    have sO : Same HN HO := by
      rw [← hHO]
      exact same_upd w1
    have eO : HO v1 = some (.lst [.bl same, .bl (!same)]) := by
      rw [← hHO]
      exact upd_same
    refine ⟨.bl same, rfl, .bl same, rfl, same, rfl, by show 2 ≤ sizeLine; decide, fun v2 w2 => ?_⟩
    generalize hHP : upd HO v2 (.lst [.bl same, .bl (!same)]) = HP
    have sP : Same HO HP := by
      rw [← hHP]
      exact same_upd w2
    have eP : HP v2 = some (.lst [.bl same, .bl (!same)]) := by
      rw [← hHP]
      exact upd_same
    have d1 : Dp K HP (.ref v1) (.list [.bool same, .bool (!same)]) := .lst (.of (sP _ _ eO)) (.cons (.bl _) (.cons (.bl _) .nil))
    have d2 : Dp K HP (.ref v2) (.list [.bool same, .bool (!same)]) := .lst (.of eP) (.cons (.bl _) (.cons (.bl _) .nil))
    have shb : SeqAt.shaped (.list [.bool same, .bool (!same)]) = true := by
      cases same <;> rfl
    have eqb : PyData.eqv (.list [.bool same, .bool (!same)]) (.list [.bool same, .bool (!same)]) = true := by
      cases same <;> rfl
    refine ⟨_, _, d1, d2, shb, shb, _, rfl, ?_⟩
    rw [eqb]
    have sLP := ((sM.trans sN).trans sO).trans sP
    have k5P := k5B.trans (kBL.same sLP)
    refine iteF ⟨.ref ta, rfl, .ref a, rfl, .ref ta, .ref a, d, p, rfl, htL.same sLP, hp5.keep k5P kk5.2, ok, fun HQ sQ => ⟨_, rfl, iteT ⟨.ref d, rfl, d, rfl, (k5P.same sQ).2, fun HR kR => q HR ?_⟩⟩⟩
    exact (kk5.trans (k5P.same sQ)).trans kR
end
-- SPLIT
section
variable {K : PySem.W.Frag} {mg : Str → Option Value}
/-- Table(name, width, ..) with some of its keywords -/
theorem kb_none (T : Txt K mg) : ∃ mv : List Value, KBn K T.fd_Table_init ["self", "name", "width", "key", "scope", "refers"] 3 [] (fun us ws => us ++ mv ++ ws) (fun vs zs => vs ++ [.non, .str "living", .ref T.e_Table_init] ++ zs) :=
  T.F_Table_init.kbinds0 (ps := ["self", "name", "width", "key", "scope", "refers"]) 3 [] [("key", .non), ("scope", .str "living"), ("refers", .ref T.e_Table_init)] (fun us mv ws => us ++ mv ++ ws) (fun e => by cases e) (fun q hq => hq) (fun r1 r2 r3 => (r1.append r2).append r3)
    (fun D doc pm an cdv ct us mv ws l1 l2 l3 => match us, mv, ws, l1, l2, l3 with | [_, _, _], [_, _, _], [], _, _, _ => ⟨_, _, _, _, _, _, rfl, rfl, _, _, _, _, _, _, rfl, rfl, _, _, _, _, _, _, rfl, rfl, rfl⟩)
theorem kb_refers (T : Txt K mg) : ∃ mv : List Value, KBn K T.fd_Table_init ["self", "name", "width", "key", "scope", "refers"] 3 ["refers"] (fun us ws => us ++ mv ++ ws) (fun vs zs => vs ++ [.non, .str "living"] ++ zs) :=
  T.F_Table_init.kbinds0 (ps := ["self", "name", "width", "key", "scope", "refers"]) 3 ["refers"] [("key", .non), ("scope", .str "living")] (fun us mv ws => us ++ mv ++ ws) (fun e => by cases e) (fun q hq => by simp only [List.mem_cons, List.not_mem_nil, or_false] at hq ⊢; rcases hq with h | h <;> simp [h]) (fun r1 r2 r3 => (r1.append r2).append r3)
    (fun D doc pm an cdv ct us mv ws l1 l2 l3 => match us, mv, ws, l1, l2, l3 with | [_, _, _], [_, _], [_], _, _, _ => ⟨_, _, _, _, _, _, rfl, rfl, _, _, _, _, _, _, rfl, rfl, rfl⟩)
theorem kb_keyscope (T : Txt K mg) : ∃ mv : List Value, KBn K T.fd_Table_init ["self", "name", "width", "key", "scope", "refers"] 3 ["key", "scope"] (fun us ws => us ++ ws ++ mv) (fun vs zs => vs ++ zs ++ [.ref T.e_Table_init]) :=
  T.F_Table_init.kbinds0 (ps := ["self", "name", "width", "key", "scope", "refers"]) 3 ["key", "scope"] [("refers", .ref T.e_Table_init)] (fun us mv ws => us ++ ws ++ mv) (fun e => by cases e) (fun q hq => by simp only [List.mem_cons, List.not_mem_nil, or_false] at hq ⊢; simp [hq]) (fun r1 r2 r3 => (r1.append r3).append r2)
    (fun D doc pm an cdv ct us mv ws l1 l2 l3 => match us, mv, ws, l1, l2, l3 with | [_, _, _], [_], [_, _], _, _, _ => ⟨_, _, _, _, _, _, rfl, rfl, rfl⟩)
theorem kb_key (T : Txt K mg) : ∃ mv : List Value, KBn K T.fd_Table_init ["self", "name", "width", "key", "scope", "refers"] 3 ["key"] (fun us ws => us ++ ws ++ mv) (fun vs zs => vs ++ zs ++ [.str "living", .ref T.e_Table_init]) :=
  T.F_Table_init.kbinds0 (ps := ["self", "name", "width", "key", "scope", "refers"]) 3 ["key"] [("scope", .str "living"), ("refers", .ref T.e_Table_init)] (fun us mv ws => us ++ ws ++ mv) (fun e => by cases e) (fun q hq => by simp only [List.mem_cons, List.not_mem_nil, or_false] at hq ⊢; rcases hq with h | h <;> simp [h]) (fun r1 r2 r3 => (r1.append r3).append r2)
    (fun D doc pm an cdv ct us mv ws l1 l2 l3 => match us, mv, ws, l1, l2, l3 with | [_, _, _], [_, _], [_], _, _, _ => ⟨_, _, _, _, _, _, rfl, rfl, _, _, _, _, _, _, rfl, rfl, rfl⟩)
end
-- SPLIT
section
variable {P : Program} {w : World} {K : PySem.W.Frag} {mg : Str → Option Value} {base : Heap}
theorem same_loop {d : Addr} {H H1 H2 H3 : Hp} (s1 : Same H H1) (n : H1 d = none) (s2 : Same H1 H2) (k : Keep d H2 H3) : Same H H3 := fun b o e =>
  k.1 b o (ne_of_none (s1 _ _ e) n) (s2 _ _ (s1 _ _ e))
/-- a table is made -/
theorem make_tab (T : Txt K mg) {H : Hp} {p : Parts} {kv rv : V} {Q : Addr → Hp → Prop} {E : XK} (hk : Dp K H kv (keyD p.key)) (hr : RefsAt K H rv p.refs) (ok : POk p) (q : ∀ (t : Addr) (H3 : Hp), Same H H3 → TabAt K T.c_Table H3 (.ref t) { p with refs := sortR p.refs } → Q t H3) :
    ∀ x dx, H x = none → H dx = none → dx ≠ x → sp_init T [.ref x, .str p.nm, .int p.wd, kv, .str p.sc, rv] (upd (upd H dx (.own x)) x (.ins T.c_Table dx [])) (fun v H3 => v = .non ∧ Q x H3) E := fun x dx hx hdx ne => by
  have s2 : Same H (upd (upd H dx (.own x)) x (.ins T.c_Table dx [])) := snew (same_upd hdx) (by rw [upd_ne (Ne.symm ne)]; exact hx)
  have m := mv_same (K := K) s2
  exact ⟨x, dx, p, kv, rv, rfl, upd_same, dp_mv m _ _ (flat_key _) hk, hr.same m, ok, fun H3 k3 tb => ⟨rfl, q x H3 (fun b o e => k3 b o (ne_of_none e hx) (s2 _ _ e)) tb⟩⟩
theorem refs_none (T : Txt K mg) {H : Hp} : RefsAt K H (.ref T.e_Table_init) [] := ⟨T.e_Table_init, [], rfl, mv_same (H := fun _ => none) (fun b o e => by cases e) _ _ T.z_Table_init, rfl, fun x hx => by cases hx⟩
def PA : Parts := ⟨"a", 2, none, "living", []⟩
def W0 : Rf := ([3, 0, 0], "b")
def W1 : Rf := ([0, 3], "a")
def W2 : Rf := ([0], "b")
def PW : Parts := ⟨"order", 4, none, "living", [W0, W1, W2]⟩
def PF : Parts := ⟨"a", 2, some [0, 1], "all", []⟩
def PG : Parts := ⟨"a", 2, some [1], "living", []⟩
theorem sortR_of {rs qs : List Rf} (h : rs.Perm qs) (a : qs.Pairwise refLe) : sortR rs = qs :=
  ((sortR_perm rs).trans h).eq_of_pairwise (fun a b _ _ x y => refLe_anti x y) (sortR_asc rs) (a.imp fun h => (le_ref _ _).mpr h)
theorem sort_nil : sortR [] = [] := sortR_of (List.Perm.refl _) List.Pairwise.nil
theorem sort_W : sortR [W0, W1, W2] = [W2, W1, W0] := by
  refine sortR_of (List.reverse_perm [W2, W1, W0]) ?_
  refine .cons (fun x hx => ?_) (.cons (fun x hx => ?_) (.cons (fun x hx => by cases hx) .nil))
  · simp only [List.mem_cons, List.not_mem_nil, or_false] at hx
    rcases hx with rfl | rfl
    · exact .inl (by decide)
    · exact .inl (by decide)
  · rw [List.mem_singleton.mp hx]
    exact .inl (by decide)
theorem key_PF : keyOk 2 [0, 1] := show ascL 2 ([0, 1].map V.int) = true by decide +kernel
theorem key_PG : keyOk 2 [1] := show ascL 2 ([1].map V.int) = true by decide +kernel
theorem ok_PA : POk PA := ⟨by decide +kernel, by decide, by decide, fun c e => (by cases e), .inl rfl, by decide, fun r hr => (by cases hr), List.nodup_nil⟩
theorem ok_PW : POk PW := ⟨by decide +kernel, by decide, by decide, fun c e => (by cases e), .inl rfl, by decide, fun r hr => (by
  simp only [PW, List.mem_cons, List.not_mem_nil, or_false] at hr
  rcases hr with rfl | rfl | rfl
  · exact ⟨by decide +kernel, by decide +kernel⟩
  · exact ⟨by decide +kernel, by decide +kernel⟩
  · exact ⟨by decide +kernel, by decide +kernel⟩), (by decide +kernel)⟩
theorem ok_PF : POk PF := ⟨by decide +kernel, by decide, by decide, fun c e => (by cases e; exact key_PF), .inr ⟨rfl, fun e => (by cases e)⟩, by decide, fun r hr => (by cases hr), List.nodup_nil⟩
theorem ok_PG : POk PG := ⟨by decide +kernel, by decide, by decide, fun c e => (by cases e; exact key_PG), .inl rfl, by decide, fun r hr => (by cases hr), List.nodup_nil⟩
theorem dp_rf {K : PySem.W.Frag} {H : Hp} {u c : Addr} {cs : List Int} {z : Str} (e1 : H u = some (.tup [.ref c, .str z])) (e2 : H c = some (.tup (cs.map V.int))) : Dp K H (.ref u) (refD (cs, z)) := .tup (.of e1) (.cons (.tup (.of e2) (dps_ints cs)) (.cons (.str z) .nil))
theorem far_nat (a b : Nat) : ∃ d : Nat, a ≠ d ∧ b ≠ d := ⟨a + b + 1, by omega, by omega⟩
theorem far (a b : Addr) : ∃ d : Addr, a ≠ d ∧ b ≠ d := far_nat a b
theorem eta_tab {K : PySem.W.Frag} {C : Addr} {H : Hp} {a : Addr} {p : Parts} (h : TabAt K C H (.ref a) p) : ∃ dx kv rv, H a = some (.ins C dx (tabF p.nm p.wd kv p.sc rv)) := by
  obtain ⟨b, dx, kv, rv, e, ea, _⟩ := h
  cases e
  exact ⟨dx, kv, rv, ea⟩
theorem so_a : PyData.strOk "a" = true := by decide +kernel
theorem ro_none : ∀ r ∈ sortR ([] : List Rf), PyData.strOk r.2 = true := fun r hr => by
  rw [sort_nil] at hr
  cases hr
theorem dps_app {K : PySem.W.Frag} {H : Hp} : ∀ {vs ws : List V} {ds es : List PyData}, DpAll K H vs ds → DpAll K H ws es → DpAll K H (vs ++ ws) (ds ++ es)
  | _, _, _, _, .nil, h => h
  | _, _, _, _, .cons a b, h => .cons a (dps_app b h)
theorem flats_W (xs : List Rf) : flats (xs.map fun r => intsD (pk [5, 6, 7, 8] r.1)) = true := by
  rw [show (xs.map fun r => intsD (pk [5, 6, 7, 8] r.1)) = (xs.map fun r => pk [5, 6, 7, 8] r.1).map intsD by rw [List.map_map]; rfl]
  exact flats_map intsD flat_ints _
def sp_law (K : PySem.W.Frag) : Sp := fun vs H Q _ => ∃ (a : Addr) (ns : List Int), vs = [.ref a] ∧ SqL K H a (ns.map V.int) ∧ ns.length ≤ 63 ∧ ∀ H', Q (.bl true) H'
theorem ok_law (T : Txt K mg) : FnOk P w K mg base CX0 14 T.a_law T.fd_law ["_law_script"] (sp_law K) := by
  have G_l_dice : FnOk P w K mg base CX0 1 T.a_l_dice T.fd_l_dice ["_law_script", "_law_spot"] (sp_dice K) := ok_dice T
  have G_l_right : FnOk P w K mg base CX0 9 T.a_l_right T.fd_l_right ["_law_dice_here"] (sp_right K) := ok_right T
  have G_l_shows : FnOk P w K mg base CX0 3 T.a_l_shows T.fd_l_shows ["_law_table", "_law_parts_here"] (sp_shows T) := ok_shows T
  have G_Table_init : FnOk P w K mg base CX0 5 T.a_Table_init T.fd_Table_init ["self", "name", "width", "key", "scope", "refers"] (sp_init T) := ok_init T
  have G_Table_eq : FnOk P w K mg base CX0 1 T.a_Table_eq T.fd_Table_eq ["self", "other"] (sp_eq T) := ok_eq T
  have G_Table_key_of : FnOk P w K mg base CX0 6 T.a_Table_key_of T.fd_Table_key_of ["self", "row"] (sp_key_of T) := ok_key_of T
  have G_Table_told : FnOk P w K mg base CX0 6 T.a_Table_told T.fd_Table_told ["self", "row", "index"] (sp_told T) := ok_told T
  have G_Table_scope : FnOk P w K mg base CX0 1 T.a_Table_scope T.fd_Table_scope ["self"] (sp_scope T) := ok_scope T
  have G_Table_refers : FnOk P w K mg base CX0 1 T.a_Table_refers T.fd_Table_refers ["self"] (sp_refers T) := ok_refers T
  obtain ⟨mv0, kb_Table_init_2_key_scope_refers⟩ := T.F_Table_init.kbinds0 (ps := ["self", "name", "width", "key", "scope", "refers"]) 3 ["key", "scope", "refers"] [] (fun us mv ws => us ++ ws) (fun e => by cases e) (fun q hq => by cases hq) (fun r1 _ r3 => r1.append r3)
    (fun D doc pm an cdv ct us mv ws l1 l2 l3 => match us, mv, ws, l1, l2, l3 with | [_, _, _], [], [_, _, _], _, _, _ => rfl)
  obtain ⟨mv1, kb_Table_init_2_⟩ := kb_none T
  obtain ⟨mv2, kb_Table_init_2_refers⟩ := kb_refers T
  obtain ⟨mv3, kb_Table_init_2_key_scope⟩ := kb_keyscope T
  obtain ⟨mv4, kb_Table_init_2_key⟩ := kb_key T
  refine T.F_law.ok sc_law (fun vs H Q E h => ?_) (fun cdv A outer s H vs Q E hr h => ?_)
  · obtain ⟨a, ns, rfl, _⟩ := h
    rfl
  · obtain ⟨a, ns, rfl, hS, h63, q⟩ := h
    refine ⟨_, (pss_cons (ps_for PassesOwn.never rfl (pi_range1 (by rfl) T.n_range (pa_cons (pe_callB (call_max2 rfl) (by rfl) T.n_max (by decide +kernel) (pa_cons pe_int (pa_cons (pe_callB (call_min2 rfl) (by rfl) T.n_min (by decide +kernel) (pa_cons pe_int (pa_cons (pe_callB call_len_seq (by rfl) T.n_len (by decide +kernel) (pa_cons (pv 0) pa_nil)) pa_nil))) pa_nil))) pa_nil)) (pg_name (i := 1) sc_law.nd rfl (.inl rfl)) (pss_one (ps_if (pt_not (pt_val (pe_call G_l_right (hr.mono (by decide)) (by rfl) T.g_l_right T.F_l_right.kp T.b_l_right .nil pass0 (pa_cons (pe_call G_l_dice (hr.mono (by decide)) (by rfl) T.g_l_dice T.F_l_dice.kp T.b_l_dice .nil pass0 (pa_cons (pv 0) (pa_cons (pv 1) pa_nil))) pa_nil)))) (pss_one (ps_ret pe_bl)) pss_nil)))
      (pss_cons (ps_asg (pe_tup (pa_cons (pe_makeK T.M_Table G_Table_init (hr.mono (by decide)) (by rfl) T.g_Table kb_Table_init_2_ pass0 (pa_cons pe_str (pa_cons pe_int pa_nil)) pk_nil) (pa_cons (pe_makeK T.M_Table G_Table_init (hr.mono (by decide)) (by rfl) T.g_Table kb_Table_init_2_refers pass0 (pa_cons pe_str (pa_cons pe_int pa_nil)) (pk_cons (pe_tup (pa_cons (pe_tup (pa_cons (pe_tup (pa_cons pe_int (pa_cons pe_int (pa_cons pe_int pa_nil)))) (pa_cons pe_str pa_nil))) (pa_cons (pe_tup (pa_cons (pe_tup (pa_cons pe_int (pa_cons pe_int pa_nil))) (pa_cons pe_str pa_nil))) (pa_cons (pe_tup (pa_cons (pe_tup (pa_cons pe_int pa_nil)) (pa_cons pe_str pa_nil))) pa_nil)))) pk_nil)) pa_nil))) (pg_tup (by rfl) (pgs_cons (pg_name (i := 2) sc_law.nd rfl (.inl rfl)) (pgs_cons (pg_name (i := 3) sc_law.nd rfl (.inr rfl)) pgs_nil))))
      (pss_cons (ps_if (pt_not (pt_val (pe_call G_l_shows (hr.mono (by decide)) (by rfl) T.g_l_shows T.F_l_shows.kp T.b_l_shows .nil pass0 (pa_cons (pv 2) (pa_cons (pe_lst (pa_cons pe_str (pa_cons pe_int (pa_cons pe_non (pa_cons pe_str (pa_cons (pe_lst pa_nil) pa_nil)))))) pa_nil))))) (pss_one (ps_ret pe_bl)) pss_nil)
      (pss_cons (ps_if (pt_cmpR (op_neO G_Table_eq (hr.mono (by decide)) T.eq_Table T.b_Table_eq pass0) (pv 2) (pe_makeK T.M_Table G_Table_init (hr.mono (by decide)) (by rfl) T.g_Table kb_Table_init_2_key_scope_refers pass0 (pa_cons pe_str (pa_cons pe_int pa_nil)) (pk_cons pe_non (pk_cons pe_str (pk_cons (pe_tup pa_nil) pk_nil)))) (nomark _)) (pss_one (ps_ret pe_bl)) pss_nil)
      (pss_cons (ps_setLc (i := 4) (own := [("_law_at", 6)]) (g := gName 6) (tt := tYes) rfl sc_law.nd rfl rfl (sw_true rfl rfl rfl (by decide +kernel)) (pi_range1 (by rfl) T.n_range (pa_cons pe_int pa_nil)) (blkOk_by (N := ["_law_script", "_law_spot", "_law_plain", "_law_wide", "_law_told", "_law_firm", "_law_at"]) (sc := defScope s_law) (by decide +kernel)) (fun _ _ _ _ _ => pg_name (i := 6) sc_law.nd rfl (Or.inl rfl)) (fun _ _ _ _ _ => pts_nil) (fun _ _ _ _ _ => (pe_meth (pv 3) T.cl_Table T.m_Table_told G_Table_told (hr.mono (by decide)) T.b_Table_told .nil pass0 (pa_cons (pe_tup (pa_cons pe_int (pa_cons pe_int (pa_cons pe_int (pa_cons pe_int pa_nil))))) (pa_cons (pv 6) pa_nil)))))
      (pss_cons (ps_if (PW.pt (pw_or (pt_cmpR (op_neD hr.units) (pv 4) (pe_lst (pa_cons (pe_tup (pa_cons pe_int pa_nil)) (pa_cons (pe_tup (pa_cons pe_int (pa_cons pe_int pa_nil))) (pa_cons (pe_tup (pa_cons pe_int (pa_cons pe_int (pa_cons pe_int pa_nil)))) pa_nil)))) (nomark _)) (pw_or1 (pt_cmpR (op_neD hr.units) (pe_prop (pv 3) T.cl_Table T.p_Table_refers G_Table_refers (hr.mono (by decide)) T.b_Table_refers .nil pass0 rfl) (pe_tup (pa_cons (pe_tup (pa_cons (pe_tup (pa_cons pe_int pa_nil)) (pa_cons pe_str pa_nil))) (pa_cons (pe_tup (pa_cons (pe_tup (pa_cons pe_int (pa_cons pe_int pa_nil))) (pa_cons pe_str pa_nil))) (pa_cons (pe_tup (pa_cons (pe_tup (pa_cons pe_int (pa_cons pe_int (pa_cons pe_int pa_nil)))) (pa_cons pe_str pa_nil))) pa_nil)))) (nomark _))))) (pss_one (ps_ret pe_bl)) pss_nil)
      (pss_cons (ps_set (i := 5) sc_law.nd rfl (.inl rfl) (pe_makeK T.M_Table G_Table_init (hr.mono (by decide)) (by rfl) T.g_Table kb_Table_init_2_key_scope pass0 (pa_cons pe_str (pa_cons pe_int pa_nil)) (pk_cons (pe_tup (pa_cons pe_int (pa_cons pe_int pa_nil))) (pk_cons pe_str pk_nil))))
      (pss_one (ps_ret (pe_cmpR (op_eqD hr.units) (pe_lst (pa_cons (ClX.pe_cval (pe_glob (v := .ref T.c_Table) rfl T.g_Table rfl)) (pa_cons (pe_meth (pv 5) T.cl_Table T.m_Table_key_of G_Table_key_of (hr.mono (by decide)) T.b_Table_key_of .nil pass0 (pa_cons (pe_tup (pa_cons pe_int (pa_cons (pe_un un_neg pe_int) pa_nil))) pa_nil)) (pa_cons (pe_prop (pe_makeK T.M_Table G_Table_init (hr.mono (by decide)) (by rfl) T.g_Table kb_Table_init_2_key pass0 (pa_cons pe_str (pa_cons pe_int pa_nil)) (pk_cons (pe_tup (pa_cons pe_int pa_nil)) pk_nil)) T.cl_Table T.p_Table_scope G_Table_scope (hr.mono (by decide)) T.b_Table_scope .nil pass0 rfl) pa_nil)))) (pe_lst (pa_cons pe_int (pa_cons (pe_tup (pa_cons pe_int (pa_cons (pe_un un_neg pe_int) pa_nil))) (pa_cons pe_str pa_nil)))) (nomark _))))))))))), ?_⟩
    refine ⟨.ref a, rfl, a, ns.map V.int, rfl, .inl hS, 6, _, rfl, 1, _, rfl, ?_⟩
    generalize hm : (if (if ((ns.map V.int).length : Int) < 6 then ((ns.map V.int).length : Int) else 6) > 1 then (if ((ns.map V.int).length : Int) < 6 then ((ns.map V.int).length : Int) else 6) else 1) = m
    have m0 : 0 ≤ m ∧ m ≤ 6 := by
      rw [← hm]
      repeat' split
      all_goals omega
    refine ⟨m, rfl, by omega, by omega, for_range (lo := 0) (n := m.toNat) (fun i σ H1 => (∃ y1, σ = [some (.ref a), y1, none, none, none, none, none]) ∧ Same H H1) ⟨⟨none, rfl⟩, .refl H⟩ (fun i σ H1 hi h => ?_) (fun σ H1 h => ?_)⟩
    · obtain ⟨⟨y1, rfl⟩, s1⟩ := h
      exact ⟨_, rfl, _, rfl, a, ns, 0 + i, rfl, s1.seq hS, by omega, h63, fun d H2 hd s2 dd => ⟨d, rfl, dd, fun H3 k3 => ⟨_, rfl, iteF ⟨⟨_, rfl⟩, same_loop s1 hd s2 k3⟩⟩⟩⟩
    · obtain ⟨⟨y1, rfl⟩, s1⟩ := h
      -- the two tables
      refine ⟨rfl, rfl, make_tab T (p := PA) (kv := .non) (rv := .ref T.e_Table_init) .non (refs_none T) ok_PA fun t1 H2 s2 ht1 => ?_⟩
      refine ⟨by show 3 ≤ sizeLine; decide, fun u1 g1 => ?_⟩
      generalize hB1 : upd H2 u1 (.tup [.int 3, .int 0, .int 0]) = B1
      have r1 : Same H2 B1 := by
        rw [← hB1]
        exact same_upd g1
      have f1 : B1 u1 = some (.tup [.int 3, .int 0, .int 0]) := by
        rw [← hB1]
        exact upd_same
      refine ⟨by show 2 ≤ sizeLine; decide, fun u2 g2 => ?_⟩
      generalize hB2 : upd B1 u2 (.tup [.ref u1, .str "b"]) = B2
      have r2 : Same B1 B2 := by
        rw [← hB2]
        exact same_upd g2
      have f2 : B2 u2 = some (.tup [.ref u1, .str "b"]) := by
        rw [← hB2]
        exact upd_same
      refine ⟨by show 2 ≤ sizeLine; decide, fun u3 g3 => ?_⟩
      generalize hB3 : upd B2 u3 (.tup [.int 0, .int 3]) = B3
      have r3 : Same B2 B3 := by
        rw [← hB3]
        exact same_upd g3
      have f3 : B3 u3 = some (.tup [.int 0, .int 3]) := by
        rw [← hB3]
        exact upd_same
      refine ⟨by show 2 ≤ sizeLine; decide, fun u4 g4 => ?_⟩
      generalize hB4 : upd B3 u4 (.tup [.ref u3, .str "a"]) = B4
      have r4 : Same B3 B4 := by
        rw [← hB4]
        exact same_upd g4
      have f4 : B4 u4 = some (.tup [.ref u3, .str "a"]) := by
        rw [← hB4]
        exact upd_same
      refine ⟨by show 1 ≤ sizeLine; decide, fun u5 g5 => ?_⟩
      generalize hB5 : upd B4 u5 (.tup [.int 0]) = B5
      have r5 : Same B4 B5 := by
        rw [← hB5]
        exact same_upd g5
      have f5 : B5 u5 = some (.tup [.int 0]) := by
        rw [← hB5]
        exact upd_same
      refine ⟨by show 2 ≤ sizeLine; decide, fun u6 g6 => ?_⟩
      generalize hB6 : upd B5 u6 (.tup [.ref u5, .str "b"]) = B6
      have r6 : Same B5 B6 := by
        rw [← hB6]
        exact same_upd g6
      have f6 : B6 u6 = some (.tup [.ref u5, .str "b"]) := by
        rw [← hB6]
        exact upd_same
      refine ⟨by show 3 ≤ sizeLine; decide, fun u7 g7 => ?_⟩
      generalize hB7 : upd B6 u7 (.tup [.ref u2, .ref u4, .ref u6]) = B7
      have r7 : Same B6 B7 := by
        rw [← hB7]
        exact same_upd g7
      have f7 : B7 u7 = some (.tup [.ref u2, .ref u4, .ref u6]) := by
        rw [← hB7]
        exact upd_same
      have r27 := ((((r2.trans r3).trans r4).trans r5).trans r6).trans r7
      have r37 := (((r3.trans r4).trans r5).trans r6).trans r7
      have d0 : Dp K B7 (.ref u2) (refD W0) := dp_rf (r37 _ _ f2) (r27 _ _ f1)
      have d1 : Dp K B7 (.ref u4) (refD W1) := dp_rf (((r5.trans r6).trans r7) _ _ f4) ((((r4.trans r5).trans r6).trans r7) _ _ f3)
      have d2 : Dp K B7 (.ref u6) (refD W2) := dp_rf (r7 _ _ f6) ((r6.trans r7) _ _ f5)
      refine ⟨rfl, rfl, make_tab T (p := PW) (kv := .non) (rv := .ref u7) .non ⟨u7, [(u2, W0), (u4, W1), (u6, W2)], rfl, .of f7, rfl, fun x hx => ?_⟩ ok_PW fun t2 H3 s3 ht2 => ?_⟩
      · simp only [List.mem_cons, List.not_mem_nil, or_false] at hx
        rcases hx with rfl | rfl | rfl
        · exact d0
        · exact d1
        · exact d2
      refine ⟨by show 2 ≤ sizeLine; decide, fun tt gt => ?_⟩
      generalize hH4 : upd H3 tt (.tup [.ref t1, .ref t2]) = H4
      have s4 : Same H3 H4 := by
        rw [← hH4]
        exact same_upd gt
      have e4 : H4 tt = some (.tup [.ref t1, .ref t2]) := by
        rw [← hH4]
        exact upd_same
      refine ⟨tt, _, rfl, .of e4, rfl, _, _, rfl, _, _, rfl, rfl, ?_⟩
      have ht1 := ht1.same (((r1.trans r27).trans s3).trans s4)
      have ht2 := ht2.same s4
      -- what the plain one shows
      refine ⟨.ref t1, rfl, Nat.zero_le _, fun v1 w1 => ?_⟩
      generalize hH5 : upd H4 v1 (.lst []) = H5
      have s5 : Same H4 H5 := by
        rw [← hH5]
        exact same_upd w1
      have e5 : H5 v1 = some (.lst []) := by
        rw [← hH5]
        exact upd_same
      refine ⟨by show 5 ≤ sizeLine; decide, fun v2 w2 => ?_⟩
      generalize hH6 : upd H5 v2 (.lst [.str "a", .int 2, .non, .str "living", .ref v1]) = H6
      have s6 : Same H5 H6 := by
        rw [← hH6]
        exact same_upd w2
      have e6 : H6 v2 = some (.lst [.str "a", .int 2, .non, .str "living", .ref v1]) := by
        rw [← hH6]
        exact upd_same
      have s56 := s5.trans s6
      obtain ⟨df, fa, fb⟩ := far v2 v1
      refine ⟨.ref t1, .ref v2, df, PA, rfl, ht1.same s56, ⟨v2, v1, .non, [], rfl, fa, fb, e6, s6 _ _ e5, rfl, fun x hx => (by cases hx), .non⟩, ok_PA, fun H7 s7 => ⟨_, rfl, iteF ?_⟩⟩
      have s47 := s56.trans s7
      have ht1 := ht1.same s47
      have ht2 := ht2.same s47
      -- the same with its keywords
      refine ⟨.ref t1, rfl, Nat.zero_le _, fun x1 y1 => ?_⟩
      generalize hH8 : upd H7 x1 (.tup []) = H8
      have s8 : Same H7 H8 := by
        rw [← hH8]
        exact same_upd y1
      have e8 : H8 x1 = some (.tup []) := by
        rw [← hH8]
        exact upd_same
      refine ⟨rfl, rfl, make_tab T (p := PA) (kv := .non) (rv := .ref x1) .non ⟨x1, [], rfl, .of e8, rfl, fun x hx => (by cases hx)⟩ ok_PA fun t3 H9 s9 ht3 => ?_⟩
      have s89 := s8.trans s9
      have ht1 := ht1.same s89
      have ht2 := ht2.same s89
      obtain ⟨dx1, kf1, rf1, et1⟩ := eta_tab ht1
      obtain ⟨dx3, kf3, rf3, et3⟩ := eta_tab ht3
      refine ⟨t1, _, _, .ref T.c_Table, rfl, et1, T.is_Table.ty et3, nf_self, .ref t1, .ref t3, _, rfl, ht1, so_a, ro_none, .inl ⟨_, ht3, ro_none, ?_⟩⟩
      rw [decide_eq_true rfl]
      refine ⟨true, rfl, _, rfl, iteF ?_⟩
      -- what the wide one tells
      obtain ⟨dx2, kf2, rf2, et2⟩ := eta_tab ht2
      refine ⟨3, rfl, by decide, by decide, fun D hD => ?_⟩
      refine lc_range (lo := 0) (n := 3) (fun i H2 => Same H9 H2 ∧ ∃ vs, H2 D = some (.lst vs) ∧ vs.length = i ∧ DpAll K H2 vs (([W2, W1, W0].take i).map fun r => intsD (pk [5, 6, 7, 8] r.1))) ⟨same_upd hD, [], upd_same, rfl, .nil⟩ (fun i H2 hi h2 => ?_) (fun H2 h2 => ?_)
      · obtain ⟨sA, vs, eD, lD, dD⟩ := h2
        refine ⟨rfl, yesT ⟨.ref t2, rfl, t2, dx2, _, rfl, sA _ _ et2, rfl, by show 4 ≤ sizeLine; decide, fun z1 hz => ?_⟩⟩
        generalize hHB : upd H2 z1 (.tup [.int 5, .int 6, .int 7, .int 8]) = HB
        have sB : Same H2 HB := by
          rw [← hHB]
          exact same_upd hz
        have eB : HB z1 = some (.tup [.int 5, .int 6, .int 7, .int 8]) := by
          rw [← hHB]
          exact upd_same
        obtain ⟨r, er⟩ : ∃ r, [W2, W1, W0][i]? = some r := ⟨_, List.getElem?_eq_getElem (by show i < 3; omega)⟩
        have rj : (sortR PW.refs)[((0 : Int) + (i : Nat)).toNat]? = some r := by
          rw [show sortR PW.refs = [W2, W1, W0] from sort_W, Int.zero_add, Int.toNat_natCast]
          exact er
        have rk : refOk 4 r := ok_PW.rk r (by
          have z := List.mem_of_getElem? er
          simp only [List.mem_cons, List.not_mem_nil, or_false] at z
          show r ∈ [W0, W1, W2]
          simp only [List.mem_cons, List.not_mem_nil, or_false]
          rcases z with z | z | z <;> simp [z])
        refine ⟨.int (0 + (i : Nat)), rfl, .ref t2, .ref z1, _, [5, 6, 7, 8], 0 + (i : Nat), r, rfl, (ht2.same sA).same sB, ⟨z1, rfl, eB⟩, ⟨rfl, by decide, by decide, by decide +kernel⟩, by omega, rj, rk, fun t4 HC sC eC => ?_⟩
        have sAC := (sA.trans sB).trans sC
        have eD' := (sB.trans sC) _ _ eD
        have mC := (mv_same (K := K) (sB.trans sC)).trans (mv_upd (o := .lst (vs ++ [.ref t4])) eD')
        have dt4 : Dp K HC (.ref t4) (intsD (pk [5, 6, 7, 8] r.1)) := .tup (.of eC) (dps_ints _)
        refine ⟨vs, eD', ?_, sput sAC hD, vs ++ [.ref t4], upd_same, ?_, ?_⟩
        · rw [lD]
          exact small1000 (by omega)
        · rw [List.length_append, lD]
          rfl
        · rw [List.take_add_one, er, List.map_append]
          exact dps_app (dps_mv mC _ _ (flats_W _) dD) (.cons (dp_mv (mv_upd eD') _ _ (flat_ints _) dt4) .nil)
      · obtain ⟨sA, vs, eD, lD, dD⟩ := h2
        have dD : DpAll K H2 vs [intsD [5], intsD [5, 8], intsD [8, 5, 5]] := dD
        refine ⟨.ref D, rfl, by show 1 ≤ sizeLine; decide, fun x1 y1 => ?_⟩
        generalize hHB : upd H2 x1 (.tup [.int 5]) = HB
        have sB : Same H2 HB := by
          rw [← hHB]
          exact same_upd y1
        have eB : HB x1 = some (.tup [.int 5]) := by
          rw [← hHB]
          exact upd_same
        refine ⟨by show 2 ≤ sizeLine; decide, fun x2 y2 => ?_⟩
        generalize hHC : upd HB x2 (.tup [.int 5, .int 8]) = HC
        have sC : Same HB HC := by
          rw [← hHC]
          exact same_upd y2
        have eC : HC x2 = some (.tup [.int 5, .int 8]) := by
          rw [← hHC]
          exact upd_same
        refine ⟨by show 3 ≤ sizeLine; decide, fun x3 y3 => ?_⟩
        generalize hHD : upd HC x3 (.tup [.int 8, .int 5, .int 5]) = HD
        have sD : Same HC HD := by
          rw [← hHD]
          exact same_upd y3
        have eD2 : HD x3 = some (.tup [.int 8, .int 5, .int 5]) := by
          rw [← hHD]
          exact upd_same
        refine ⟨by show 3 ≤ sizeLine; decide, fun x4 y4 => ?_⟩
        generalize hHE : upd HD x4 (.lst [.ref x1, .ref x2, .ref x3]) = HE
        have sE : Same HD HE := by
          rw [← hHE]
          exact same_upd y4
        have eE : HE x4 = some (.lst [.ref x1, .ref x2, .ref x3]) := by
          rw [← hHE]
          exact upd_same
        have sBE := ((sB.trans sC).trans sD).trans sE
        have da : Dp K HE (.ref D) (.list [intsD [5], intsD [5, 8], intsD [8, 5, 5]]) := .lst (.of (sBE _ _ eD)) (dps_mv (mv_same sBE) _ _ (flats_W [W2, W1, W0]) dD)
        have db : Dp K HE (.ref x4) (.list [intsD [5], intsD [5, 8], intsD [8, 5, 5]]) := .lst (.of eE) (.cons (.tup (.of (((sC.trans sD).trans sE) _ _ eB)) (dps_ints [5])) (.cons (.tup (.of ((sD.trans sE) _ _ eC)) (dps_ints [5, 8])) (.cons (.tup (.of (sE _ _ eD2)) (dps_ints [8, 5, 5])) .nil)))
        refine ⟨_, _, da, db, by decide +kernel, by decide +kernel, _, rfl, ?_⟩
        rw [show PyData.eqv (.list [intsD [5], intsD [5, 8], intsD [8, 5, 5]]) (.list [intsD [5], intsD [5, 8], intsD [8, 5, 5]]) = true by decide +kernel]
        refine iteF ?_
        -- its references
        have sE9 := sA.trans sBE
        have ht2 := ht2.same sE9
        have et2 := sE9 _ _ et2
        refine ⟨.ref t2, rfl, t2, dx2, _, rfl, et2, _, _, rfl, ht2, fun rr drr => ?_⟩
        have drr : Dp K HE rr (.tuple (([W2, W1, W0] : List Rf).map refD)) := by
          have z := drr
          rw [show ({ PW with refs := sortR PW.refs } : Parts).refs = [W2, W1, W0] from sort_W] at z
          exact z
        refine ⟨by show 1 ≤ sizeLine; decide, fun a1 b1 => ?_⟩
        generalize hF1 : upd HE a1 (.tup [.int 0]) = F1
        have q1 : Same HE F1 := by
          rw [← hF1]
          exact same_upd b1
        have w1 : F1 a1 = some (.tup [.int 0]) := by
          rw [← hF1]
          exact upd_same
        refine ⟨by show 2 ≤ sizeLine; decide, fun a2 b2 => ?_⟩
        generalize hF2 : upd F1 a2 (.tup [.ref a1, .str "b"]) = F2
        have q2 : Same F1 F2 := by
          rw [← hF2]
          exact same_upd b2
        have w2 : F2 a2 = some (.tup [.ref a1, .str "b"]) := by
          rw [← hF2]
          exact upd_same
        refine ⟨by show 2 ≤ sizeLine; decide, fun a3 b3 => ?_⟩
        generalize hF3 : upd F2 a3 (.tup [.int 0, .int 3]) = F3
        have q3 : Same F2 F3 := by
          rw [← hF3]
          exact same_upd b3
        have w3 : F3 a3 = some (.tup [.int 0, .int 3]) := by
          rw [← hF3]
          exact upd_same
        refine ⟨by show 2 ≤ sizeLine; decide, fun a4 b4 => ?_⟩
        generalize hF4 : upd F3 a4 (.tup [.ref a3, .str "a"]) = F4
        have q4 : Same F3 F4 := by
          rw [← hF4]
          exact same_upd b4
        have w4 : F4 a4 = some (.tup [.ref a3, .str "a"]) := by
          rw [← hF4]
          exact upd_same
        refine ⟨by show 3 ≤ sizeLine; decide, fun a5 b5 => ?_⟩
        generalize hF5 : upd F4 a5 (.tup [.int 3, .int 0, .int 0]) = F5
        have q5 : Same F4 F5 := by
          rw [← hF5]
          exact same_upd b5
        have w5 : F5 a5 = some (.tup [.int 3, .int 0, .int 0]) := by
          rw [← hF5]
          exact upd_same
        refine ⟨by show 2 ≤ sizeLine; decide, fun a6 b6 => ?_⟩
        generalize hF6 : upd F5 a6 (.tup [.ref a5, .str "b"]) = F6
        have q6 : Same F5 F6 := by
          rw [← hF6]
          exact same_upd b6
        have w6 : F6 a6 = some (.tup [.ref a5, .str "b"]) := by
          rw [← hF6]
          exact upd_same
        refine ⟨by show 3 ≤ sizeLine; decide, fun a7 b7 => ?_⟩
        generalize hF7 : upd F6 a7 (.tup [.ref a2, .ref a4, .ref a6]) = F7
        have q7 : Same F6 F7 := by
          rw [← hF7]
          exact same_upd b7
        have w7 : F7 a7 = some (.tup [.ref a2, .ref a4, .ref a6]) := by
          rw [← hF7]
          exact upd_same
        have q17 := (((((q1.trans q2).trans q3).trans q4).trans q5).trans q6).trans q7
        have p2 : Dp K F7 (.ref a2) (refD W2) := dp_rf (((((q3.trans q4).trans q5).trans q6).trans q7) _ _ w2) ((((((q2.trans q3).trans q4).trans q5).trans q6).trans q7) _ _ w1)
        have p1 : Dp K F7 (.ref a4) (refD W1) := dp_rf (((q5.trans q6).trans q7) _ _ w4) ((((q4.trans q5).trans q6).trans q7) _ _ w3)
        have p0 : Dp K F7 (.ref a6) (refD W0) := dp_rf (q7 _ _ w6) ((q6.trans q7) _ _ w5)
        refine ⟨.tuple (([W2, W1, W0] : List Rf).map refD), .tuple (([W2, W1, W0] : List Rf).map refD), dp_mv (mv_same q17) _ _ (flat_refs _) drr, .tup (.of w7) (.cons p2 (.cons p1 (.cons p0 .nil))), by decide +kernel, by decide +kernel, _, rfl, ?_⟩
        rw [eqv_refs, decide_eq_true rfl]
        refine iteF ?_
        -- the firm one
        refine ⟨by show 2 ≤ sizeLine; decide, fun c1 d1 => ?_⟩
        generalize hG1 : upd F7 c1 (.tup [.int 0, .int 1]) = G1
        have m1 : Same F7 G1 := by
          rw [← hG1]
          exact same_upd d1
        have n1 : G1 c1 = some (.tup [.int 0, .int 1]) := by
          rw [← hG1]
          exact upd_same
        refine ⟨rfl, rfl, make_tab T (p := PF) (kv := .ref c1) (rv := .ref T.e_Table_init) (.tup (.of n1) (dps_ints [0, 1])) (refs_none T) ok_PF fun t5 G2 m2 ht5 => ?_⟩
        obtain ⟨dx5, kf5, rf5, et5⟩ := eta_tab ht5
        refine ⟨T.c_Table, T.mc_Table, .int 4, _, rfl, T.rd_Table, ⟨T.v_Table_MAX_WIDTH, _, rfl⟩, .ref t5, rfl, t5, dx5, _, rfl, et5, rfl, 9, rfl, by show 2 ≤ sizeLine; decide, fun h1 i1 => ?_⟩
        generalize hG3 : upd G2 h1 (.tup [.int 9, (fun i => V.int (-i)) 9]) = G3
        have m3 : Same G2 G3 := by
          rw [← hG3]
          exact same_upd i1
        have n3 : G3 h1 = some (.tup [.int 9, (fun i => V.int (-i)) 9]) := by
          rw [← hG3]
          exact upd_same
        have ek : PF.key = some [0, 1] := rfl
        refine ⟨.ref t5, .ref h1, _, [9, -9], [0, 1], rfl, ht5.same m3, ⟨h1, rfl, n3⟩, ⟨rfl, by decide, by decide, by decide +kernel⟩, rfl, ok_PF.key _ rfl, fun tk G4 m4 n4 => ?_⟩
        refine ⟨by show 1 ≤ sizeLine; decide, fun c2 d2 => ?_⟩
        generalize hG5 : upd G4 c2 (.tup [.int 1]) = G5
        have m5 : Same G4 G5 := by
          rw [← hG5]
          exact same_upd d2
        have n5 : G5 c2 = some (.tup [.int 1]) := by
          rw [← hG5]
          exact upd_same
        refine ⟨rfl, rfl, make_tab T (p := PG) (kv := .ref c2) (rv := .ref T.e_Table_init) (.tup (.of n5) (dps_ints [1])) (refs_none T) ok_PG fun t6 G6 m6 ht6 => ?_⟩
        obtain ⟨dx6, kf6, rf6, et6⟩ := eta_tab ht6
        refine ⟨t6, dx6, _, rfl, et6, _, _, rfl, ht6, by show 3 ≤ sizeLine; decide, fun l1 k1 => ?_⟩
        generalize hG7 : upd G6 l1 (.lst [.int 4, .ref tk, .str ({ PG with refs := sortR PG.refs } : Parts).sc]) = G7
        have m7 : Same G6 G7 := by
          rw [← hG7]
          exact same_upd k1
        have n7 : G7 l1 = some (.lst [.int 4, .ref tk, .str ({ PG with refs := sortR PG.refs } : Parts).sc]) := by
          rw [← hG7]
          exact upd_same
        refine ⟨9, rfl, by show 2 ≤ sizeLine; decide, fun l2 k2 => ?_⟩
        generalize hG8 : upd G7 l2 (.tup [.int 9, (fun i => V.int (-i)) 9]) = G8
        have m8 : Same G7 G8 := by
          rw [← hG8]
          exact same_upd k2
        have n8 : G8 l2 = some (.tup [.int 9, (fun i => V.int (-i)) 9]) := by
          rw [← hG8]
          exact upd_same
        refine ⟨by show 3 ≤ sizeLine; decide, fun l3 k3 => ?_⟩
        generalize hG9 : upd G8 l3 (.lst [.int 4, .ref l2, .str "living"]) = G9
        have m9 : Same G8 G9 := by
          rw [← hG9]
          exact same_upd k3
        have n9 : G9 l3 = some (.lst [.int 4, .ref l2, .str "living"]) := by
          rw [← hG9]
          exact upd_same
        have m49 := ((((m5.trans m6).trans m7).trans m8).trans m9)
        have dA : Dp K G9 (.ref l1) (.list [.int 4, intsD [9, -9], .str "living"]) := .lst (.of ((m8.trans m9) _ _ n7)) (.cons (.int _) (.cons (.tup (.of (m49 _ _ n4)) (dps_ints [9, -9])) (.cons (.str _) .nil)))
        have dB : Dp K G9 (.ref l3) (.list [.int 4, intsD [9, -9], .str "living"]) := .lst (.of n9) (.cons (.int _) (.cons (.tup (.of (m9 _ _ n8)) (dps_ints [9, -9])) (.cons (.str _) .nil)))
        refine ⟨_, _, dA, dB, by decide +kernel, by decide +kernel, ?_⟩
        rw [show PyData.eqv (.list [.int 4, intsD [9, -9], .str "living"]) (.list [.int 4, intsD [9, -9], .str "living"]) = true by decide +kernel]
        exact q _
end
-- SPLIT
set_option maxHeartbeats 0 in
theorem all_mk {l : PySem.W.OpenLaw} {w : World} {K : PySem.W.Frag} {h : Heap} {mg : Str → Option Value} {fa : Addr} (X : K.In h) (G : h.Ns mainGlobals mg) (hfa : mg "law" = some (.ref fa))
    {C_Table : Addr}
    {MC_Table : Value}
    {t_Table_MAX_WIDTH : Tok}
    {f2 : Addr}
    {od2 an2 : Option Addr}
    {sl2 : Array (Option Value)}
    {oc2 dc2 pm2 cd2 ct2 : Value}
    {kD2 : Addr}
    {T0_2 : Addr}
    {o0_2 : Obj}
    {n0_2 : Nat}
    {tk2_1 : Tok}
    {f3 : Addr}
    {od3 an3 : Option Addr}
    {sl3 : Array (Option Value)}
    {oc3 kV3 dc3 pm3 cd3 ct3 : Value}
    {p3 : Addr}
    {rs3 : List Value}
    {f4 : Addr}
    {od4 an4 : Option Addr}
    {sl4 : Array (Option Value)}
    {oc4 kV4 dc4 pm4 cd4 ct4 : Value}
    {p4 : Addr}
    {rs4 : List Value}
    {f5 : Addr}
    {od5 an5 : Option Addr}
    {sl5 : Array (Option Value)}
    {oc5 kV5 dc5 pm5 cd5 ct5 : Value}
    {p5 : Addr}
    {rs5 : List Value}
    {f6 : Addr}
    {od6 an6 : Option Addr}
    {sl6 : Array (Option Value)}
    {oc6 kV6 dc6 pm6 cd6 ct6 : Value}
    {p6 : Addr}
    {rs6 : List Value}
    {f7 : Addr}
    {od7 an7 : Option Addr}
    {sl7 : Array (Option Value)}
    {oc7 kV7 dc7 pm7 cd7 ct7 : Value}
    {p7 : Addr}
    {rs7 : List Value}
    {f8 : Addr}
    {od8 an8 : Option Addr}
    {sl8 : Array (Option Value)}
    {oc8 kV8 dc8 pm8 cd8 ct8 : Value}
    {f9 : Addr}
    {od9 an9 : Option Addr}
    {sl9 : Array (Option Value)}
    {oc9 kV9 dc9 pm9 cd9 ct9 : Value}
    {f10 : Addr}
    {od10 an10 : Option Addr}
    {sl10 : Array (Option Value)}
    {oc10 kV10 dc10 pm10 cd10 ct10 : Value}
    {p10 : Addr}
    {rs10 : List Value}
    {f11 : Addr}
    {od11 an11 : Option Addr}
    {sl11 : Array (Option Value)}
    {oc11 kV11 dc11 pm11 cd11 ct11 : Value}
    {f12 : Addr}
    {od12 an12 : Option Addr}
    {sl12 : Array (Option Value)}
    {oc12 kV12 dc12 pm12 cd12 ct12 : Value}
    {f13 : Addr}
    {od13 an13 : Option Addr}
    {sl13 : Array (Option Value)}
    {oc13 kV13 dc13 pm13 cd13 ct13 : Value}
    {f14 : Addr}
    {od14 an14 : Option Addr}
    {sl14 : Array (Option Value)}
    {oc14 kV14 dc14 pm14 cd14 ct14 : Value}
    {f15 : Addr}
    {od15 an15 : Option Addr}
    {sl15 : Array (Option Value)}
    {oc15 kV15 dc15 pm15 cd15 ct15 : Value}
    {f16 : Addr}
    {od16 an16 : Option Addr}
    {sl16 : Array (Option Value)}
    {oc16 kV16 dc16 pm16 cd16 ct16 : Value}
    {f17 : Addr}
    {od17 an17 : Option Addr}
    {sl17 : Array (Option Value)}
    {oc17 kV17 dc17 pm17 cd17 ct17 : Value}
    {f18 : Addr}
    {od18 an18 : Option Addr}
    {sl18 : Array (Option Value)}
    {oc18 kV18 dc18 pm18 cd18 ct18 : Value}
    {f19 : Addr}
    {od19 an19 : Option Addr}
    {sl19 : Array (Option Value)}
    {oc19 kV19 dc19 pm19 cd19 ct19 : Value}
    {f20 : Addr}
    {od20 an20 : Option Addr}
    {sl20 : Array (Option Value)}
    {oc20 kV20 dc20 pm20 cd20 ct20 : Value}
    {f21 : Addr}
    {od21 an21 : Option Addr}
    {sl21 : Array (Option Value)}
    {oc21 kV21 dc21 pm21 cd21 ct21 : Value}
    {f22 : Addr}
    {od22 an22 : Option Addr}
    {sl22 : Array (Option Value)}
    {oc22 kV22 dc22 pm22 cd22 ct22 : Value}
    {f23 : Addr}
    {od23 an23 : Option Addr}
    {sl23 : Array (Option Value)}
    {oc23 kV23 dc23 pm23 cd23 ct23 : Value}
    {f24 : Addr}
    {od24 an24 : Option Addr}
    {sl24 : Array (Option Value)}
    {oc24 kV24 dc24 pm24 cd24 ct24 : Value}
    {f25 : Addr}
    {od25 an25 : Option Addr}
    {sl25 : Array (Option Value)}
    {oc25 kV25 dc25 pm25 cd25 ct25 : Value}
    {f26 : Addr}
    {od26 an26 : Option Addr}
    {sl26 : Array (Option Value)}
    {oc26 kV26 dc26 pm26 cd26 ct26 : Value}
    {f27 : Addr}
    {od27 an27 : Option Addr}
    {sl27 : Array (Option Value)}
    {oc27 kV27 dc27 pm27 cd27 ct27 : Value}
    {f28 : Addr}
    {od28 an28 : Option Addr}
    {sl28 : Array (Option Value)}
    {oc28 kV28 dc28 pm28 cd28 ct28 : Value}
    {f29 : Addr}
    {od29 an29 : Option Addr}
    {sl29 : Array (Option Value)}
    {oc29 kV29 dc29 pm29 cd29 ct29 : Value}
    {f30 : Addr}
    {od30 an30 : Option Addr}
    {sl30 : Array (Option Value)}
    {oc30 kV30 dc30 pm30 cd30 ct30 : Value}
    {f31 : Addr}
    {od31 an31 : Option Addr}
    {sl31 : Array (Option Value)}
    {oc31 kV31 dc31 pm31 cd31 ct31 : Value}
    {f32 : Addr}
    {od32 an32 : Option Addr}
    {sl32 : Array (Option Value)}
    {oc32 kV32 dc32 pm32 cd32 ct32 : Value}
    {f33 : Addr}
    {od33 an33 : Option Addr}
    {sl33 : Array (Option Value)}
    {oc33 kV33 dc33 pm33 cd33 ct33 : Value}
    {f34 : Addr}
    {od34 an34 : Option Addr}
    {sl34 : Array (Option Value)}
    {oc34 kV34 dc34 pm34 cd34 ct34 : Value}
    {f35 : Addr}
    {od35 an35 : Option Addr}
    {sl35 : Array (Option Value)}
    {oc35 kV35 dc35 pm35 cd35 ct35 : Value}
    {f36 : Addr}
    {od36 an36 : Option Addr}
    {sl36 : Array (Option Value)}
    {oc36 kV36 dc36 pm36 cd36 ct36 : Value}
    {f37 : Addr}
    {od37 an37 : Option Addr}
    {sl37 : Array (Option Value)}
    {oc37 kV37 dc37 pm37 cd37 ct37 : Value}
    {f38 : Addr}
    {od38 an38 : Option Addr}
    {sl38 : Array (Option Value)}
    {oc38 kV38 dc38 pm38 cd38 ct38 : Value}
    {f39 : Addr}
    {od39 an39 : Option Addr}
    {sl39 : Array (Option Value)}
    {oc39 kV39 dc39 pm39 cd39 ct39 : Value}
    {f40 : Addr}
    {od40 an40 : Option Addr}
    {sl40 : Array (Option Value)}
    {oc40 kV40 dc40 pm40 cd40 ct40 : Value}
    {t_LONGEST_NAME : Tok}
    {t_TOO_GREAT : Tok}
    {t_TOO_SMALL : Tok}
    {t_WIDEST_ROW : Tok}
    {t_MOST_COLUMNS : Tok}
    {t_MOST_REFERENCES : Tok}
    (aC_Table : PySem.W.nsIn K mainGlobals "Table" = some (some (.ref C_Table)))
    (pg_Table : PySem.W.plainGet K C_Table Str.empty = true)
    (hd_Table : PySem.W.hasDictIn K C_Table = true)
    (po_Table : PySem.W.plainOver K C_Table = true)
    (sa_Table : PySem.W.findIn K (.ref C_Table) "__setattr__" = some (some (.builtin "object.__setattr__")))
    (kpC_Table : PySem.W.keepIn K (.ref C_Table) = true)
    (nA_Table_name : PySem.W.findIn K (.ref C_Table) "_name" = some none)
    (nA_Table_width : PySem.W.findIn K (.ref C_Table) "_width" = some none)
    (nA_Table_key : PySem.W.findIn K (.ref C_Table) "_key" = some none)
    (nA_Table_scope : PySem.W.findIn K (.ref C_Table) "_scope" = some none)
    (nA_Table_refers : PySem.W.findIn K (.ref C_Table) "_refers" = some none)
    (ty_Table : PySem.W.typeIn K (.ref C_Table) = some MC_Table)
    (rr_Table : PySem.W.readsIn K C_Table MC_Table = true)
    (ra_Table : PySem.W.specialIn K (.ref C_Table) "__getattribute__" = some (some (.builtin "type.__getattribute__")))
    (w_Table_MAX_WIDTH : PySem.W.findCls K (.ref C_Table) MC_Table "MAX_WIDTH" = some (.val (.int 4 t_Table_MAX_WIDTH)))
    (le2 : K.lookup T0_2 = some o0_2)
    (lc2 : o0_2.cls = .type "tuple")
    (ld2 : o0_2.data = .seq #[] n0_2)
    (l2 : K.lookup f2 = some ⟨oc2, od2, .func (PySem.W.fnOf "__init__" "Table.__init__" (defArgs s_Table_init) (defBody s_Table_init) (defScope s_Table_init) .none (.ref kD2) dc2 pm2 an2 cd2 ct2), sl2⟩)
    (c2 : PySem.W.codeIn K cd2 "Table.__init__" = true)
    (k2 : PySem.W.keepIn K (.ref f2) = true)
    (kd2_0 : PySem.W.nsIn K kD2 "key" = some (some (.none)))
    (kd2_1 : PySem.W.nsIn K kD2 "scope" = some (some (.str "living" tk2_1)))
    (kd2_2 : PySem.W.nsIn K kD2 "refers" = some (some (.ref T0_2)))
    (mk_Table : PySem.W.makesIn K C_Table = true)
    (a2 : PySem.W.findIn K (.ref C_Table) "__init__" = some (some (.ref f2)))
    (i2 : PySem.W.isFn K (.ref f2) = true)
    (l3 : K.lookup f3 = some ⟨oc3, od3, .func (PySem.W.fnOf "name" "Table.name" (defArgs s_Table_name) (defBody s_Table_name) (defScope s_Table_name) .none kV3 dc3 pm3 an3 cd3 ct3), sl3⟩)
    (c3 : PySem.W.codeIn K cd3 "Table.name" = true)
    (k3 : PySem.W.keepIn K (.ref f3) = true)
    (a3 : PySem.W.findIn K (.ref C_Table) "name" = some (some (.ref p3)))
    (g3 : PySem.W.specialIn K (.ref p3) "__get__" = some (some (.builtin "property.__get__")))
    (t3 : PySem.W.takesIn K (.ref p3) = some true)
    (r3 : PySem.W.recIn K p3 "property" = some (.ref f3 :: rs3))
    (l4 : K.lookup f4 = some ⟨oc4, od4, .func (PySem.W.fnOf "width" "Table.width" (defArgs s_Table_width) (defBody s_Table_width) (defScope s_Table_width) .none kV4 dc4 pm4 an4 cd4 ct4), sl4⟩)
    (c4 : PySem.W.codeIn K cd4 "Table.width" = true)
    (k4 : PySem.W.keepIn K (.ref f4) = true)
    (a4 : PySem.W.findIn K (.ref C_Table) "width" = some (some (.ref p4)))
    (g4 : PySem.W.specialIn K (.ref p4) "__get__" = some (some (.builtin "property.__get__")))
    (t4 : PySem.W.takesIn K (.ref p4) = some true)
    (r4 : PySem.W.recIn K p4 "property" = some (.ref f4 :: rs4))
    (l5 : K.lookup f5 = some ⟨oc5, od5, .func (PySem.W.fnOf "key" "Table.key" (defArgs s_Table_key) (defBody s_Table_key) (defScope s_Table_key) .none kV5 dc5 pm5 an5 cd5 ct5), sl5⟩)
    (c5 : PySem.W.codeIn K cd5 "Table.key" = true)
    (k5 : PySem.W.keepIn K (.ref f5) = true)
    (a5 : PySem.W.findIn K (.ref C_Table) "key" = some (some (.ref p5)))
    (g5 : PySem.W.specialIn K (.ref p5) "__get__" = some (some (.builtin "property.__get__")))
    (t5 : PySem.W.takesIn K (.ref p5) = some true)
    (r5 : PySem.W.recIn K p5 "property" = some (.ref f5 :: rs5))
    (l6 : K.lookup f6 = some ⟨oc6, od6, .func (PySem.W.fnOf "scope" "Table.scope" (defArgs s_Table_scope) (defBody s_Table_scope) (defScope s_Table_scope) .none kV6 dc6 pm6 an6 cd6 ct6), sl6⟩)
    (c6 : PySem.W.codeIn K cd6 "Table.scope" = true)
    (k6 : PySem.W.keepIn K (.ref f6) = true)
    (a6 : PySem.W.findIn K (.ref C_Table) "scope" = some (some (.ref p6)))
    (g6 : PySem.W.specialIn K (.ref p6) "__get__" = some (some (.builtin "property.__get__")))
    (t6 : PySem.W.takesIn K (.ref p6) = some true)
    (r6 : PySem.W.recIn K p6 "property" = some (.ref f6 :: rs6))
    (l7 : K.lookup f7 = some ⟨oc7, od7, .func (PySem.W.fnOf "refers" "Table.refers" (defArgs s_Table_refers) (defBody s_Table_refers) (defScope s_Table_refers) .none kV7 dc7 pm7 an7 cd7 ct7), sl7⟩)
    (c7 : PySem.W.codeIn K cd7 "Table.refers" = true)
    (k7 : PySem.W.keepIn K (.ref f7) = true)
    (a7 : PySem.W.findIn K (.ref C_Table) "refers" = some (some (.ref p7)))
    (g7 : PySem.W.specialIn K (.ref p7) "__get__" = some (some (.builtin "property.__get__")))
    (t7 : PySem.W.takesIn K (.ref p7) = some true)
    (r7 : PySem.W.recIn K p7 "property" = some (.ref f7 :: rs7))
    (l8 : K.lookup f8 = some ⟨oc8, od8, .func (PySem.W.fnOf "key_of" "Table.key_of" (defArgs s_Table_key_of) (defBody s_Table_key_of) (defScope s_Table_key_of) .none kV8 dc8 pm8 an8 cd8 ct8), sl8⟩)
    (c8 : PySem.W.codeIn K cd8 "Table.key_of" = true)
    (k8 : PySem.W.keepIn K (.ref f8) = true)
    (a8 : PySem.W.findIn K (.ref C_Table) "key_of" = some (some (.ref f8)))
    (i8 : PySem.W.isFn K (.ref f8) = true)
    (l9 : K.lookup f9 = some ⟨oc9, od9, .func (PySem.W.fnOf "told" "Table.told" (defArgs s_Table_told) (defBody s_Table_told) (defScope s_Table_told) .none kV9 dc9 pm9 an9 cd9 ct9), sl9⟩)
    (c9 : PySem.W.codeIn K cd9 "Table.told" = true)
    (k9 : PySem.W.keepIn K (.ref f9) = true)
    (a9 : PySem.W.findIn K (.ref C_Table) "told" = some (some (.ref f9)))
    (i9 : PySem.W.isFn K (.ref f9) = true)
    (l10 : K.lookup f10 = some ⟨oc10, od10, .func (PySem.W.fnOf "is_key" "Table.is_key" (defArgs s_Table_is_key) (defBody s_Table_is_key) (defScope s_Table_is_key) .none kV10 dc10 pm10 an10 cd10 ct10), sl10⟩)
    (c10 : PySem.W.codeIn K cd10 "Table.is_key" = true)
    (k10 : PySem.W.keepIn K (.ref f10) = true)
    (a10 : PySem.W.findCls K (.ref C_Table) MC_Table "is_key" = some (.get (.builtin "staticmethod.__get__") (.ref p10) .none (.ref C_Table)))
    (r10 : PySem.W.recIn K p10 "staticmethod" = some (.ref f10 :: rs10))
    (h10 : PySem.W.handedIn (.ref f10) = true)
    (l11 : K.lookup f11 = some ⟨oc11, od11, .func (PySem.W.fnOf "__eq__" "Table.__eq__" (defArgs s_Table_eq) (defBody s_Table_eq) (defScope s_Table_eq) .none kV11 dc11 pm11 an11 cd11 ct11), sl11⟩)
    (c11 : PySem.W.codeIn K cd11 "Table.__eq__" = true)
    (k11 : PySem.W.keepIn K (.ref f11) = true)
    (a11 : PySem.W.findIn K (.ref C_Table) "__eq__" = some (some (.ref f11)))
    (i11 : PySem.W.isFn K (.ref f11) = true)
    (l12 : K.lookup f12 = some ⟨oc12, od12, .func (PySem.W.fnOf "_check_row" "Table._check_row" (defArgs s_Table_check_row) (defBody s_Table_check_row) (defScope s_Table_check_row) .none kV12 dc12 pm12 an12 cd12 ct12), sl12⟩)
    (c12 : PySem.W.codeIn K cd12 "Table._check_row" = true)
    (k12 : PySem.W.keepIn K (.ref f12) = true)
    (a12 : PySem.W.findIn K (.ref C_Table) "_check_row" = some (some (.ref f12)))
    (i12 : PySem.W.isFn K (.ref f12) = true)
    (l13 : K.lookup f13 = some ⟨oc13, od13, .func (PySem.W.fnOf "is_name" "is_name" (defArgs s_is_name) (defBody s_is_name) (defScope s_is_name) .none kV13 dc13 pm13 an13 cd13 ct13), sl13⟩)
    (c13 : PySem.W.codeIn K cd13 "is_name" = true)
    (k13 : PySem.W.keepIn K (.ref f13) = true)
    (a13 : PySem.W.nsIn K mainGlobals "is_name" = some (some (.ref f13)))
    (l14 : K.lookup f14 = some ⟨oc14, od14, .func (PySem.W.fnOf "is_whole" "is_whole" (defArgs s_is_whole) (defBody s_is_whole) (defScope s_is_whole) .none kV14 dc14 pm14 an14 cd14 ct14), sl14⟩)
    (c14 : PySem.W.codeIn K cd14 "is_whole" = true)
    (k14 : PySem.W.keepIn K (.ref f14) = true)
    (a14 : PySem.W.nsIn K mainGlobals "is_whole" = some (some (.ref f14)))
    (l15 : K.lookup f15 = some ⟨oc15, od15, .func (PySem.W.fnOf "is_row" "is_row" (defArgs s_is_row) (defBody s_is_row) (defScope s_is_row) .none kV15 dc15 pm15 an15 cd15 ct15), sl15⟩)
    (c15 : PySem.W.codeIn K cd15 "is_row" = true)
    (k15 : PySem.W.keepIn K (.ref f15) = true)
    (a15 : PySem.W.nsIn K mainGlobals "is_row" = some (some (.ref f15)))
    (l16 : K.lookup f16 = some ⟨oc16, od16, .func (PySem.W.fnOf "is_row_of" "is_row_of" (defArgs s_is_row_of) (defBody s_is_row_of) (defScope s_is_row_of) .none kV16 dc16 pm16 an16 cd16 ct16), sl16⟩)
    (c16 : PySem.W.codeIn K cd16 "is_row_of" = true)
    (k16 : PySem.W.keepIn K (.ref f16) = true)
    (a16 : PySem.W.nsIn K mainGlobals "is_row_of" = some (some (.ref f16)))
    (l17 : K.lookup f17 = some ⟨oc17, od17, .func (PySem.W.fnOf "picked" "picked" (defArgs s_picked) (defBody s_picked) (defScope s_picked) .none kV17 dc17 pm17 an17 cd17 ct17), sl17⟩)
    (c17 : PySem.W.codeIn K cd17 "picked" = true)
    (k17 : PySem.W.keepIn K (.ref f17) = true)
    (a17 : PySem.W.nsIn K mainGlobals "picked" = some (some (.ref f17)))
    (l18 : K.lookup f18 = some ⟨oc18, od18, .func (PySem.W.fnOf "_is_width" "_is_width" (defArgs s_is_width) (defBody s_is_width) (defScope s_is_width) .none kV18 dc18 pm18 an18 cd18 ct18), sl18⟩)
    (c18 : PySem.W.codeIn K cd18 "_is_width" = true)
    (k18 : PySem.W.keepIn K (.ref f18) = true)
    (a18 : PySem.W.nsIn K mainGlobals "_is_width" = some (some (.ref f18)))
    (l19 : K.lookup f19 = some ⟨oc19, od19, .func (PySem.W.fnOf "_are_columns" "_are_columns" (defArgs s_are_columns) (defBody s_are_columns) (defScope s_are_columns) .none kV19 dc19 pm19 an19 cd19 ct19), sl19⟩)
    (c19 : PySem.W.codeIn K cd19 "_are_columns" = true)
    (k19 : PySem.W.keepIn K (.ref f19) = true)
    (a19 : PySem.W.nsIn K mainGlobals "_are_columns" = some (some (.ref f19)))
    (l20 : K.lookup f20 = some ⟨oc20, od20, .func (PySem.W.fnOf "_is_ascending" "_is_ascending" (defArgs s_is_ascending) (defBody s_is_ascending) (defScope s_is_ascending) .none kV20 dc20 pm20 an20 cd20 ct20), sl20⟩)
    (c20 : PySem.W.codeIn K cd20 "_is_ascending" = true)
    (k20 : PySem.W.keepIn K (.ref f20) = true)
    (a20 : PySem.W.nsIn K mainGlobals "_is_ascending" = some (some (.ref f20)))
    (l21 : K.lookup f21 = some ⟨oc21, od21, .func (PySem.W.fnOf "_is_reference" "_is_reference" (defArgs s_is_reference) (defBody s_is_reference) (defScope s_is_reference) .none kV21 dc21 pm21 an21 cd21 ct21), sl21⟩)
    (c21 : PySem.W.codeIn K cd21 "_is_reference" = true)
    (k21 : PySem.W.keepIn K (.ref f21) = true)
    (a21 : PySem.W.nsIn K mainGlobals "_is_reference" = some (some (.ref f21)))
    (l22 : K.lookup f22 = some ⟨oc22, od22, .func (PySem.W.fnOf "_are_references" "_are_references" (defArgs s_are_references) (defBody s_are_references) (defScope s_are_references) .none kV22 dc22 pm22 an22 cd22 ct22), sl22⟩)
    (c22 : PySem.W.codeIn K cd22 "_are_references" = true)
    (k22 : PySem.W.keepIn K (.ref f22) = true)
    (a22 : PySem.W.nsIn K mainGlobals "_are_references" = some (some (.ref f22)))
    (l23 : K.lookup f23 = some ⟨oc23, od23, .func (PySem.W.fnOf "_law_dice" "_law_dice" (defArgs s_l_dice) (defBody s_l_dice) (defScope s_l_dice) .none kV23 dc23 pm23 an23 cd23 ct23), sl23⟩)
    (c23 : PySem.W.codeIn K cd23 "_law_dice" = true)
    (k23 : PySem.W.keepIn K (.ref f23) = true)
    (a23 : PySem.W.nsIn K mainGlobals "_law_dice" = some (some (.ref f23)))
    (l24 : K.lookup f24 = some ⟨oc24, od24, .func (PySem.W.fnOf "_law_roll" "_law_roll" (defArgs s_l_roll) (defBody s_l_roll) (defScope s_l_roll) .none kV24 dc24 pm24 an24 cd24 ct24), sl24⟩)
    (c24 : PySem.W.codeIn K cd24 "_law_roll" = true)
    (k24 : PySem.W.keepIn K (.ref f24) = true)
    (a24 : PySem.W.nsIn K mainGlobals "_law_roll" = some (some (.ref f24)))
    (l25 : K.lookup f25 = some ⟨oc25, od25, .func (PySem.W.fnOf "_law_pick" "_law_pick" (defArgs s_l_pick) (defBody s_l_pick) (defScope s_l_pick) .none kV25 dc25 pm25 an25 cd25 ct25), sl25⟩)
    (c25 : PySem.W.codeIn K cd25 "_law_pick" = true)
    (k25 : PySem.W.keepIn K (.ref f25) = true)
    (a25 : PySem.W.nsIn K mainGlobals "_law_pick" = some (some (.ref f25)))
    (l26 : K.lookup f26 = some ⟨oc26, od26, .func (PySem.W.fnOf "_law_mixed" "_law_mixed" (defArgs s_l_mixed) (defBody s_l_mixed) (defScope s_l_mixed) .none kV26 dc26 pm26 an26 cd26 ct26), sl26⟩)
    (c26 : PySem.W.codeIn K cd26 "_law_mixed" = true)
    (k26 : PySem.W.keepIn K (.ref f26) = true)
    (a26 : PySem.W.nsIn K mainGlobals "_law_mixed" = some (some (.ref f26)))
    (l27 : K.lookup f27 = some ⟨oc27, od27, .func (PySem.W.fnOf "_law_some" "_law_some" (defArgs s_l_some) (defBody s_l_some) (defScope s_l_some) .none kV27 dc27 pm27 an27 cd27 ct27), sl27⟩)
    (c27 : PySem.W.codeIn K cd27 "_law_some" = true)
    (k27 : PySem.W.keepIn K (.ref f27) = true)
    (a27 : PySem.W.nsIn K mainGlobals "_law_some" = some (some (.ref f27)))
    (l28 : K.lookup f28 = some ⟨oc28, od28, .func (PySem.W.fnOf "_law_word" "_law_word" (defArgs s_l_word) (defBody s_l_word) (defScope s_l_word) .none kV28 dc28 pm28 an28 cd28 ct28), sl28⟩)
    (c28 : PySem.W.codeIn K cd28 "_law_word" = true)
    (k28 : PySem.W.keepIn K (.ref f28) = true)
    (a28 : PySem.W.nsIn K mainGlobals "_law_word" = some (some (.ref f28)))
    (l29 : K.lookup f29 = some ⟨oc29, od29, .func (PySem.W.fnOf "_law_words" "_law_words" (defArgs s_l_words) (defBody s_l_words) (defScope s_l_words) .none kV29 dc29 pm29 an29 cd29 ct29), sl29⟩)
    (c29 : PySem.W.codeIn K cd29 "_law_words" = true)
    (k29 : PySem.W.keepIn K (.ref f29) = true)
    (a29 : PySem.W.nsIn K mainGlobals "_law_words" = some (some (.ref f29)))
    (l30 : K.lookup f30 = some ⟨oc30, od30, .func (PySem.W.fnOf "_law_pool" "_law_pool" (defArgs s_l_pool) (defBody s_l_pool) (defScope s_l_pool) .none kV30 dc30 pm30 an30 cd30 ct30), sl30⟩)
    (c30 : PySem.W.codeIn K cd30 "_law_pool" = true)
    (k30 : PySem.W.keepIn K (.ref f30) = true)
    (a30 : PySem.W.nsIn K mainGlobals "_law_pool" = some (some (.ref f30)))
    (l31 : K.lookup f31 = some ⟨oc31, od31, .func (PySem.W.fnOf "_law_columns" "_law_columns" (defArgs s_l_columns) (defBody s_l_columns) (defScope s_l_columns) .none kV31 dc31 pm31 an31 cd31 ct31), sl31⟩)
    (c31 : PySem.W.codeIn K cd31 "_law_columns" = true)
    (k31 : PySem.W.keepIn K (.ref f31) = true)
    (a31 : PySem.W.nsIn K mainGlobals "_law_columns" = some (some (.ref f31)))
    (l32 : K.lookup f32 = some ⟨oc32, od32, .func (PySem.W.fnOf "_law_parts" "_law_parts" (defArgs s_l_parts) (defBody s_l_parts) (defScope s_l_parts) .none kV32 dc32 pm32 an32 cd32 ct32), sl32⟩)
    (c32 : PySem.W.codeIn K cd32 "_law_parts" = true)
    (k32 : PySem.W.keepIn K (.ref f32) = true)
    (a32 : PySem.W.nsIn K mainGlobals "_law_parts" = some (some (.ref f32)))
    (l33 : K.lookup f33 = some ⟨oc33, od33, .func (PySem.W.fnOf "_law_made" "_law_made" (defArgs s_l_made) (defBody s_l_made) (defScope s_l_made) .none kV33 dc33 pm33 an33 cd33 ct33), sl33⟩)
    (c33 : PySem.W.codeIn K cd33 "_law_made" = true)
    (k33 : PySem.W.keepIn K (.ref f33) = true)
    (a33 : PySem.W.nsIn K mainGlobals "_law_made" = some (some (.ref f33)))
    (l34 : K.lookup f34 = some ⟨oc34, od34, .func (PySem.W.fnOf "_law_shows" "_law_shows" (defArgs s_l_shows) (defBody s_l_shows) (defScope s_l_shows) .none kV34 dc34 pm34 an34 cd34 ct34), sl34⟩)
    (c34 : PySem.W.codeIn K cd34 "_law_shows" = true)
    (k34 : PySem.W.keepIn K (.ref f34) = true)
    (a34 : PySem.W.nsIn K mainGlobals "_law_shows" = some (some (.ref f34)))
    (l35 : K.lookup f35 = some ⟨oc35, od35, .func (PySem.W.fnOf "_law_rows_right" "_law_rows_right" (defArgs s_l_rows_right) (defBody s_l_rows_right) (defScope s_l_rows_right) .none kV35 dc35 pm35 an35 cd35 ct35), sl35⟩)
    (c35 : PySem.W.codeIn K cd35 "_law_rows_right" = true)
    (k35 : PySem.W.keepIn K (.ref f35) = true)
    (a35 : PySem.W.nsIn K mainGlobals "_law_rows_right" = some (some (.ref f35)))
    (l36 : K.lookup f36 = some ⟨oc36, od36, .func (PySem.W.fnOf "_law_changed" "_law_changed" (defArgs s_l_changed) (defBody s_l_changed) (defScope s_l_changed) .none kV36 dc36 pm36 an36 cd36 ct36), sl36⟩)
    (c36 : PySem.W.codeIn K cd36 "_law_changed" = true)
    (k36 : PySem.W.keepIn K (.ref f36) = true)
    (a36 : PySem.W.nsIn K mainGlobals "_law_changed" = some (some (.ref f36)))
    (l37 : K.lookup f37 = some ⟨oc37, od37, .func (PySem.W.fnOf "_law_like_key" "_law_like_key" (defArgs s_l_like_key) (defBody s_l_like_key) (defScope s_l_like_key) .none kV37 dc37 pm37 an37 cd37 ct37), sl37⟩)
    (c37 : PySem.W.codeIn K cd37 "_law_like_key" = true)
    (k37 : PySem.W.keepIn K (.ref f37) = true)
    (a37 : PySem.W.nsIn K mainGlobals "_law_like_key" = some (some (.ref f37)))
    (l38 : K.lookup f38 = some ⟨oc38, od38, .func (PySem.W.fnOf "_law_keys_right" "_law_keys_right" (defArgs s_l_keys_right) (defBody s_l_keys_right) (defScope s_l_keys_right) .none kV38 dc38 pm38 an38 cd38 ct38), sl38⟩)
    (c38 : PySem.W.codeIn K cd38 "_law_keys_right" = true)
    (k38 : PySem.W.keepIn K (.ref f38) = true)
    (a38 : PySem.W.nsIn K mainGlobals "_law_keys_right" = some (some (.ref f38)))
    (l39 : K.lookup f39 = some ⟨oc39, od39, .func (PySem.W.fnOf "_law_right" "_law_right" (defArgs s_l_right) (defBody s_l_right) (defScope s_l_right) .none kV39 dc39 pm39 an39 cd39 ct39), sl39⟩)
    (c39 : PySem.W.codeIn K cd39 "_law_right" = true)
    (k39 : PySem.W.keepIn K (.ref f39) = true)
    (a39 : PySem.W.nsIn K mainGlobals "_law_right" = some (some (.ref f39)))
    (l40 : K.lookup f40 = some ⟨oc40, od40, .func (PySem.W.fnOf "law" "law" (defArgs s_law) (defBody s_law) (defScope s_law) .none kV40 dc40 pm40 an40 cd40 ct40), sl40⟩)
    (c40 : PySem.W.codeIn K cd40 "law" = true)
    (k40 : PySem.W.keepIn K (.ref f40) = true)
    (a40 : PySem.W.nsIn K mainGlobals "law" = some (some (.ref f40)))
    (ne_Table : PySem.W.findIn K (.ref C_Table) "__ne__" = some (some (.builtin "object.__ne__")))
    (ia_Table : PySem.W.findIn K (.ref C_Table) "__class__" = some (some (.builtin "object.__class__")))
    (ib_Table : PySem.W.specialIn K (.builtin "object.__class__") "__get__" = some (some (.builtin "getset_descriptor.__get__")))
    (ic_Table : PySem.W.takesIn K (.builtin "object.__class__") = some true)
    (id_Table : PySem.W.mroIn K C_Table (.type "object") = some true)
    (ko_Table_NoneType : PySem.W.kitOne K (.type "NoneType") (.ref C_Table) = some false)
    (ko_Table_bool : PySem.W.kitOne K (.type "bool") (.ref C_Table) = some false)
    (ko_Table_int : PySem.W.kitOne K (.type "int") (.ref C_Table) = some false)
    (ko_Table_str : PySem.W.kitOne K (.type "str") (.ref C_Table) = some false)
    (ko_Table_list : PySem.W.kitOne K (.type "list") (.ref C_Table) = some false)
    (ko_Table_tuple : PySem.W.kitOne K (.type "tuple") (.ref C_Table) = some false)
    (ko_Table_dict : PySem.W.kitOne K (.type "dict") (.ref C_Table) = some false)
    (nf_Table_NoneType : PySem.W.notFirst K C_Table (.type "NoneType") = true)
    (nf_Table_bool : PySem.W.notFirst K C_Table (.type "bool") = true)
    (nf_Table_int : PySem.W.notFirst K C_Table (.type "int") = true)
    (nf_Table_str : PySem.W.notFirst K C_Table (.type "str") = true)
    (nf_Table_list : PySem.W.notFirst K C_Table (.type "list") = true)
    (nf_Table_tuple : PySem.W.notFirst K C_Table (.type "tuple") = true)
    (nf_Table_dict : PySem.W.notFirst K C_Table (.type "dict") = true)
    (v_LONGEST_NAME : PySem.W.nsIn K mainGlobals "_LONGEST_NAME" = some (some (.int 8 t_LONGEST_NAME)))
    (v_TOO_GREAT : PySem.W.nsIn K mainGlobals "_TOO_GREAT" = some (some (.int 100000000000000000000 t_TOO_GREAT)))
    (v_TOO_SMALL : PySem.W.nsIn K mainGlobals "_TOO_SMALL" = some (some (.int (-100000000000000000000) t_TOO_SMALL)))
    (v_WIDEST_ROW : PySem.W.nsIn K mainGlobals "_WIDEST_ROW" = some (some (.int 4 t_WIDEST_ROW)))
    (v_MOST_COLUMNS : PySem.W.nsIn K mainGlobals "_MOST_COLUMNS" = some (some (.int 4 t_MOST_COLUMNS)))
    (v_MOST_REFERENCES : PySem.W.nsIn K mainGlobals "_MOST_REFERENCES" = some (some (.int 4 t_MOST_REFERENCES)))
    (z_super : PySem.W.nsIn K mainGlobals "super" = some none)
    (z_tuple : PySem.W.nsIn K mainGlobals "tuple" = some none)
    (z_sorted : PySem.W.nsIn K mainGlobals "sorted" = some none)
    (z_property : PySem.W.nsIn K mainGlobals "property" = some none)
    (z_len : PySem.W.nsIn K mainGlobals "len" = some none)
    (z_staticmethod : PySem.W.nsIn K mainGlobals "staticmethod" = some none)
    (z_isinstance : PySem.W.nsIn K mainGlobals "isinstance" = some none)
    (z_str : PySem.W.nsIn K mainGlobals "str" = some none)
    (z_int : PySem.W.nsIn K mainGlobals "int" = some none)
    (z_bool : PySem.W.nsIn K mainGlobals "bool" = some none)
    (z_all : PySem.W.nsIn K mainGlobals "all" = some none)
    (z_list : PySem.W.nsIn K mainGlobals "list" = some none)
    (z_set : PySem.W.nsIn K mainGlobals "set" = some none)
    (z_max : PySem.W.nsIn K mainGlobals "max" = some none)
    (z_abs : PySem.W.nsIn K mainGlobals "abs" = some none)
    (z_min : PySem.W.nsIn K mainGlobals "min" = some none)
    (z_range : PySem.W.nsIn K mainGlobals "range" = some none)
    (z_enumerate : PySem.W.nsIn K mainGlobals "enumerate" = some none) :
    ∃ fd : FuncData, (∀ (s : Shared) (v : Value), BindsTo s fd ⟨[v], []⟩ [("_law_script", v)]) ∧ ∀ base : Heap, K.In base → base.Ns mainGlobals mg → FnOk l.prog w K mg base CX0 14 fa fd ["_law_script"] (sp_law K) := by
  have e := hfa.symm.trans (PySem.W.mg_of X G a40)
  cases e
  let T : Txt K mg := {
    c_Table := C_Table,
    g_Table := PySem.W.mg_of X G aC_Table,
    cl_Table := ⟨pg_Table, hd_Table, po_Table, sa_Table⟩,
    kC_Table := kpC_Table,
    nA_Table_name := nA_Table_name,
    nA_Table_width := nA_Table_width,
    nA_Table_key := nA_Table_key,
    nA_Table_scope := nA_Table_scope,
    nA_Table_refers := nA_Table_refers,
    mc_Table := MC_Table,
    rd_Table := ⟨rr_Table, ra_Table⟩,
    t_Table_MAX_WIDTH := t_Table_MAX_WIDTH,
    v_Table_MAX_WIDTH := w_Table_MAX_WIDTH,
    a_Table_init := f2,
    fd_Table_init := _,
    e_Table_init := T0_2,
    z_Table_init := Or.inr ⟨o0_2, #[], n0_2, le2, lc2, ld2, Nat.zero_le _, .nil⟩,
    tk_Table_init_scope := tk2_1,
    F_Table_init := ⟨⟨oc2, od2, .none, .ref kD2, dc2, pm2, an2, cd2, ct2, sl2, rfl, l2, c2, .inl ⟨rfl, rfl⟩, .inr ⟨kD2, rfl, fun q hq => by
      simp only [List.mem_cons, List.not_mem_nil, or_false] at hq
      rcases hq with rfl | rfl | rfl
      · exact ⟨_, kd2_0, rfl⟩
      · exact ⟨_, kd2_1, ⟨_, rfl⟩⟩
      · exact ⟨_, kd2_2, rfl⟩⟩⟩, k2⟩,
    M_Table := ⟨mk_Table, a2, i2, kpC_Table⟩,
    a_Table_name := f3,
    fd_Table_name := _,
    F_Table_name := fun_mk (st := s_Table_name) l3 c3 k3,
    b_Table_name := (fun_mk (st := s_Table_name) l3 c3 k3).binds (ps := ["self"]) fun _ _ _ _ _ _ us hl => match us, hl with | [_], _ => rfl,
    q_Table_name := p3,
    p_Table_name := ⟨a3, g3, t3, _, r3⟩,
    a_Table_width := f4,
    fd_Table_width := _,
    F_Table_width := fun_mk (st := s_Table_width) l4 c4 k4,
    b_Table_width := (fun_mk (st := s_Table_width) l4 c4 k4).binds (ps := ["self"]) fun _ _ _ _ _ _ us hl => match us, hl with | [_], _ => rfl,
    q_Table_width := p4,
    p_Table_width := ⟨a4, g4, t4, _, r4⟩,
    a_Table_key := f5,
    fd_Table_key := _,
    F_Table_key := fun_mk (st := s_Table_key) l5 c5 k5,
    b_Table_key := (fun_mk (st := s_Table_key) l5 c5 k5).binds (ps := ["self"]) fun _ _ _ _ _ _ us hl => match us, hl with | [_], _ => rfl,
    q_Table_key := p5,
    p_Table_key := ⟨a5, g5, t5, _, r5⟩,
    a_Table_scope := f6,
    fd_Table_scope := _,
    F_Table_scope := fun_mk (st := s_Table_scope) l6 c6 k6,
    b_Table_scope := (fun_mk (st := s_Table_scope) l6 c6 k6).binds (ps := ["self"]) fun _ _ _ _ _ _ us hl => match us, hl with | [_], _ => rfl,
    q_Table_scope := p6,
    p_Table_scope := ⟨a6, g6, t6, _, r6⟩,
    a_Table_refers := f7,
    fd_Table_refers := _,
    F_Table_refers := fun_mk (st := s_Table_refers) l7 c7 k7,
    b_Table_refers := (fun_mk (st := s_Table_refers) l7 c7 k7).binds (ps := ["self"]) fun _ _ _ _ _ _ us hl => match us, hl with | [_], _ => rfl,
    q_Table_refers := p7,
    p_Table_refers := ⟨a7, g7, t7, _, r7⟩,
    a_Table_key_of := f8,
    fd_Table_key_of := _,
    F_Table_key_of := fun_mk (st := s_Table_key_of) l8 c8 k8,
    b_Table_key_of := (fun_mk (st := s_Table_key_of) l8 c8 k8).binds (ps := ["self", "row"]) fun _ _ _ _ _ _ us hl => match us, hl with | [_, _], _ => rfl,
    m_Table_key_of := ⟨a8, i8, k8⟩,
    a_Table_told := f9,
    fd_Table_told := _,
    F_Table_told := fun_mk (st := s_Table_told) l9 c9 k9,
    b_Table_told := (fun_mk (st := s_Table_told) l9 c9 k9).binds (ps := ["self", "row", "index"]) fun _ _ _ _ _ _ us hl => match us, hl with | [_, _, _], _ => rfl,
    m_Table_told := ⟨a9, i9, k9⟩,
    a_Table_is_key := f10,
    fd_Table_is_key := _,
    F_Table_is_key := fun_mk (st := s_Table_is_key) l10 c10 k10,
    b_Table_is_key := (fun_mk (st := s_Table_is_key) l10 c10 k10).binds (ps := ["value", "width"]) fun _ _ _ _ _ _ us hl => match us, hl with | [_, _], _ => rfl,
    q_Table_is_key := p10,
    s_Table_is_key := ⟨a10, ⟨_, r10⟩, h10⟩,
    a_Table_eq := f11,
    fd_Table_eq := _,
    F_Table_eq := fun_mk (st := s_Table_eq) l11 c11 k11,
    b_Table_eq := (fun_mk (st := s_Table_eq) l11 c11 k11).binds (ps := ["self", "other"]) fun _ _ _ _ _ _ us hl => match us, hl with | [_, _], _ => rfl,
    m_Table_eq := ⟨a11, i11, k11⟩,
    a_Table_check_row := f12,
    fd_Table_check_row := _,
    F_Table_check_row := fun_mk (st := s_Table_check_row) l12 c12 k12,
    b_Table_check_row := (fun_mk (st := s_Table_check_row) l12 c12 k12).binds (ps := ["self", "row"]) fun _ _ _ _ _ _ us hl => match us, hl with | [_, _], _ => rfl,
    m_Table_check_row := ⟨a12, i12, k12⟩,
    a_is_name := f13,
    fd_is_name := _,
    F_is_name := fun_mk (st := s_is_name) l13 c13 k13,
    b_is_name := (fun_mk (st := s_is_name) l13 c13 k13).binds (ps := ["value"]) fun _ _ _ _ _ _ us hl => match us, hl with | [_], _ => rfl,
    g_is_name := PySem.W.mg_of X G a13,
    a_is_whole := f14,
    fd_is_whole := _,
    F_is_whole := fun_mk (st := s_is_whole) l14 c14 k14,
    b_is_whole := (fun_mk (st := s_is_whole) l14 c14 k14).binds (ps := ["value"]) fun _ _ _ _ _ _ us hl => match us, hl with | [_], _ => rfl,
    g_is_whole := PySem.W.mg_of X G a14,
    a_is_row := f15,
    fd_is_row := _,
    F_is_row := fun_mk (st := s_is_row) l15 c15 k15,
    b_is_row := (fun_mk (st := s_is_row) l15 c15 k15).binds (ps := ["value"]) fun _ _ _ _ _ _ us hl => match us, hl with | [_], _ => rfl,
    g_is_row := PySem.W.mg_of X G a15,
    a_is_row_of := f16,
    fd_is_row_of := _,
    F_is_row_of := fun_mk (st := s_is_row_of) l16 c16 k16,
    b_is_row_of := (fun_mk (st := s_is_row_of) l16 c16 k16).binds (ps := ["value", "width"]) fun _ _ _ _ _ _ us hl => match us, hl with | [_, _], _ => rfl,
    g_is_row_of := PySem.W.mg_of X G a16,
    a_picked := f17,
    fd_picked := _,
    F_picked := fun_mk (st := s_picked) l17 c17 k17,
    b_picked := (fun_mk (st := s_picked) l17 c17 k17).binds (ps := ["row", "columns"]) fun _ _ _ _ _ _ us hl => match us, hl with | [_, _], _ => rfl,
    g_picked := PySem.W.mg_of X G a17,
    a_is_width := f18,
    fd_is_width := _,
    F_is_width := fun_mk (st := s_is_width) l18 c18 k18,
    b_is_width := (fun_mk (st := s_is_width) l18 c18 k18).binds (ps := ["value"]) fun _ _ _ _ _ _ us hl => match us, hl with | [_], _ => rfl,
    g_is_width := PySem.W.mg_of X G a18,
    a_are_columns := f19,
    fd_are_columns := _,
    F_are_columns := fun_mk (st := s_are_columns) l19 c19 k19,
    b_are_columns := (fun_mk (st := s_are_columns) l19 c19 k19).binds (ps := ["value", "width"]) fun _ _ _ _ _ _ us hl => match us, hl with | [_, _], _ => rfl,
    g_are_columns := PySem.W.mg_of X G a19,
    a_is_ascending := f20,
    fd_is_ascending := _,
    F_is_ascending := fun_mk (st := s_is_ascending) l20 c20 k20,
    b_is_ascending := (fun_mk (st := s_is_ascending) l20 c20 k20).binds (ps := ["value", "width"]) fun _ _ _ _ _ _ us hl => match us, hl with | [_, _], _ => rfl,
    g_is_ascending := PySem.W.mg_of X G a20,
    a_is_reference := f21,
    fd_is_reference := _,
    F_is_reference := fun_mk (st := s_is_reference) l21 c21 k21,
    b_is_reference := (fun_mk (st := s_is_reference) l21 c21 k21).binds (ps := ["value", "width"]) fun _ _ _ _ _ _ us hl => match us, hl with | [_, _], _ => rfl,
    g_is_reference := PySem.W.mg_of X G a21,
    a_are_references := f22,
    fd_are_references := _,
    F_are_references := fun_mk (st := s_are_references) l22 c22 k22,
    b_are_references := (fun_mk (st := s_are_references) l22 c22 k22).binds (ps := ["value", "width"]) fun _ _ _ _ _ _ us hl => match us, hl with | [_, _], _ => rfl,
    g_are_references := PySem.W.mg_of X G a22,
    a_l_dice := f23,
    fd_l_dice := _,
    F_l_dice := fun_mk (st := s_l_dice) l23 c23 k23,
    b_l_dice := (fun_mk (st := s_l_dice) l23 c23 k23).binds (ps := ["_law_script", "_law_spot"]) fun _ _ _ _ _ _ us hl => match us, hl with | [_, _], _ => rfl,
    g_l_dice := PySem.W.mg_of X G a23,
    a_l_roll := f24,
    fd_l_roll := _,
    F_l_roll := fun_mk (st := s_l_roll) l24 c24 k24,
    b_l_roll := (fun_mk (st := s_l_roll) l24 c24 k24).binds (ps := ["_law_dice_here", "_law_upto"]) fun _ _ _ _ _ _ us hl => match us, hl with | [_, _], _ => rfl,
    g_l_roll := PySem.W.mg_of X G a24,
    a_l_pick := f25,
    fd_l_pick := _,
    F_l_pick := fun_mk (st := s_l_pick) l25 c25 k25,
    b_l_pick := (fun_mk (st := s_l_pick) l25 c25 k25).binds (ps := ["_law_dice_here", "_law_items"]) fun _ _ _ _ _ _ us hl => match us, hl with | [_, _], _ => rfl,
    g_l_pick := PySem.W.mg_of X G a25,
    a_l_mixed := f26,
    fd_l_mixed := _,
    F_l_mixed := fun_mk (st := s_l_mixed) l26 c26 k26,
    b_l_mixed := (fun_mk (st := s_l_mixed) l26 c26 k26).binds (ps := ["_law_dice_here", "_law_items"]) fun _ _ _ _ _ _ us hl => match us, hl with | [_, _], _ => rfl,
    g_l_mixed := PySem.W.mg_of X G a26,
    a_l_some := f27,
    fd_l_some := _,
    F_l_some := fun_mk (st := s_l_some) l27 c27 k27,
    b_l_some := (fun_mk (st := s_l_some) l27 c27 k27).binds (ps := ["_law_dice_here", "_law_items", "_law_least", "_law_most"]) fun _ _ _ _ _ _ us hl => match us, hl with | [_, _, _, _], _ => rfl,
    g_l_some := PySem.W.mg_of X G a27,
    a_l_word := f28,
    fd_l_word := _,
    F_l_word := fun_mk (st := s_l_word) l28 c28 k28,
    b_l_word := (fun_mk (st := s_l_word) l28 c28 k28).binds (ps := ["_law_dice_here"]) fun _ _ _ _ _ _ us hl => match us, hl with | [_], _ => rfl,
    g_l_word := PySem.W.mg_of X G a28,
    a_l_words := f29,
    fd_l_words := _,
    F_l_words := fun_mk (st := s_l_words) l29 c29 k29,
    b_l_words := (fun_mk (st := s_l_words) l29 c29 k29).binds (ps := ["_law_dice_here", "_law_upto"]) fun _ _ _ _ _ _ us hl => match us, hl with | [_, _], _ => rfl,
    g_l_words := PySem.W.mg_of X G a29,
    a_l_pool := f30,
    fd_l_pool := _,
    F_l_pool := fun_mk (st := s_l_pool) l30 c30 k30,
    b_l_pool := (fun_mk (st := s_l_pool) l30 c30 k30).binds (ps := ["_law_dice_here", "_law_lots"]) fun _ _ _ _ _ _ us hl => match us, hl with | [_, _], _ => rfl,
    g_l_pool := PySem.W.mg_of X G a30,
    a_l_columns := f31,
    fd_l_columns := _,
    F_l_columns := fun_mk (st := s_l_columns) l31 c31 k31,
    b_l_columns := (fun_mk (st := s_l_columns) l31 c31 k31).binds (ps := ["_law_dice_here", "_law_width", "_law_most"]) fun _ _ _ _ _ _ us hl => match us, hl with | [_, _, _], _ => rfl,
    g_l_columns := PySem.W.mg_of X G a31,
    a_l_parts := f32,
    fd_l_parts := _,
    F_l_parts := fun_mk (st := s_l_parts) l32 c32 k32,
    b_l_parts := (fun_mk (st := s_l_parts) l32 c32 k32).binds (ps := ["_law_dice_here"]) fun _ _ _ _ _ _ us hl => match us, hl with | [_], _ => rfl,
    g_l_parts := PySem.W.mg_of X G a32,
    a_l_made := f33,
    fd_l_made := _,
    F_l_made := fun_mk (st := s_l_made) l33 c33 k33,
    b_l_made := (fun_mk (st := s_l_made) l33 c33 k33).binds (ps := ["_law_parts_here"]) fun _ _ _ _ _ _ us hl => match us, hl with | [_], _ => rfl,
    g_l_made := PySem.W.mg_of X G a33,
    a_l_shows := f34,
    fd_l_shows := _,
    F_l_shows := fun_mk (st := s_l_shows) l34 c34 k34,
    b_l_shows := (fun_mk (st := s_l_shows) l34 c34 k34).binds (ps := ["_law_table", "_law_parts_here"]) fun _ _ _ _ _ _ us hl => match us, hl with | [_, _], _ => rfl,
    g_l_shows := PySem.W.mg_of X G a34,
    a_l_rows_right := f35,
    fd_l_rows_right := _,
    F_l_rows_right := fun_mk (st := s_l_rows_right) l35 c35 k35,
    b_l_rows_right := (fun_mk (st := s_l_rows_right) l35 c35 k35).binds (ps := ["_law_dice_here", "_law_table", "_law_parts_here", "_law_pool_here"]) fun _ _ _ _ _ _ us hl => match us, hl with | [_, _, _, _], _ => rfl,
    g_l_rows_right := PySem.W.mg_of X G a35,
    a_l_changed := f36,
    fd_l_changed := _,
    F_l_changed := fun_mk (st := s_l_changed) l36 c36 k36,
    b_l_changed := (fun_mk (st := s_l_changed) l36 c36 k36).binds (ps := ["_law_dice_here", "_law_parts_here"]) fun _ _ _ _ _ _ us hl => match us, hl with | [_, _], _ => rfl,
    g_l_changed := PySem.W.mg_of X G a36,
    a_l_like_key := f37,
    fd_l_like_key := _,
    F_l_like_key := fun_mk (st := s_l_like_key) l37 c37 k37,
    b_l_like_key := (fun_mk (st := s_l_like_key) l37 c37 k37).binds (ps := ["_law_value", "_law_width"]) fun _ _ _ _ _ _ us hl => match us, hl with | [_, _], _ => rfl,
    g_l_like_key := PySem.W.mg_of X G a37,
    a_l_keys_right := f38,
    fd_l_keys_right := _,
    F_l_keys_right := fun_mk (st := s_l_keys_right) l38 c38 k38,
    b_l_keys_right := (fun_mk (st := s_l_keys_right) l38 c38 k38).binds (ps := ["_law_dice_here"]) fun _ _ _ _ _ _ us hl => match us, hl with | [_], _ => rfl,
    g_l_keys_right := PySem.W.mg_of X G a38,
    a_l_right := f39,
    fd_l_right := _,
    F_l_right := fun_mk (st := s_l_right) l39 c39 k39,
    b_l_right := (fun_mk (st := s_l_right) l39 c39 k39).binds (ps := ["_law_dice_here"]) fun _ _ _ _ _ _ us hl => match us, hl with | [_], _ => rfl,
    g_l_right := PySem.W.mg_of X G a39,
    a_law := fa,
    fd_law := _,
    F_law := fun_mk (st := s_law) l40 c40 k40,
    b_law := (fun_mk (st := s_law) l40 c40 k40).binds (ps := ["_law_script"]) fun _ _ _ _ _ _ us hl => match us, hl with | [_], _ => rfl,
    g_law := PySem.W.mg_of X G a40,
    eq_Table := ⟨a11, i11, ne_Table, po_Table⟩,
    is_Table := ⟨⟨pg_Table, hd_Table, po_Table, sa_Table⟩, ia_Table, ib_Table, ic_Table, id_Table⟩,
    fo_Table := fun n hn => by
      simp only [Kit.BT, List.mem_cons, List.not_mem_nil, or_false] at hn
      rcases hn with rfl | rfl | rfl | rfl | rfl | rfl | rfl
      · exact ⟨ko_Table_NoneType, nf_Table_NoneType⟩
      · exact ⟨ko_Table_bool, nf_Table_bool⟩
      · exact ⟨ko_Table_int, nf_Table_int⟩
      · exact ⟨ko_Table_str, nf_Table_str⟩
      · exact ⟨ko_Table_list, nf_Table_list⟩
      · exact ⟨ko_Table_tuple, nf_Table_tuple⟩
      · exact ⟨ko_Table_dict, nf_Table_dict⟩,
    t_LONGEST_NAME := t_LONGEST_NAME,
    m_LONGEST_NAME := PySem.W.mg_of X G v_LONGEST_NAME,
    t_TOO_GREAT := t_TOO_GREAT,
    m_TOO_GREAT := PySem.W.mg_of X G v_TOO_GREAT,
    t_TOO_SMALL := t_TOO_SMALL,
    m_TOO_SMALL := PySem.W.mg_of X G v_TOO_SMALL,
    t_WIDEST_ROW := t_WIDEST_ROW,
    m_WIDEST_ROW := PySem.W.mg_of X G v_WIDEST_ROW,
    t_MOST_COLUMNS := t_MOST_COLUMNS,
    m_MOST_COLUMNS := PySem.W.mg_of X G v_MOST_COLUMNS,
    t_MOST_REFERENCES := t_MOST_REFERENCES,
    m_MOST_REFERENCES := PySem.W.mg_of X G v_MOST_REFERENCES,
    n_super := PySem.W.mg_none_of X G z_super,
    n_tuple := PySem.W.mg_none_of X G z_tuple,
    n_sorted := PySem.W.mg_none_of X G z_sorted,
    n_property := PySem.W.mg_none_of X G z_property,
    n_len := PySem.W.mg_none_of X G z_len,
    n_staticmethod := PySem.W.mg_none_of X G z_staticmethod,
    n_isinstance := PySem.W.mg_none_of X G z_isinstance,
    n_str := PySem.W.mg_none_of X G z_str,
    n_int := PySem.W.mg_none_of X G z_int,
    n_bool := PySem.W.mg_none_of X G z_bool,
    n_all := PySem.W.mg_none_of X G z_all,
    n_list := PySem.W.mg_none_of X G z_list,
    n_set := PySem.W.mg_none_of X G z_set,
    n_max := PySem.W.mg_none_of X G z_max,
    n_abs := PySem.W.mg_none_of X G z_abs,
    n_min := PySem.W.mg_none_of X G z_min,
    n_range := PySem.W.mg_none_of X G z_range,
    n_enumerate := PySem.W.mg_none_of X G z_enumerate }
  exact ⟨T.fd_law, fun s v => .of_eq rfl, fun base _ _ => ok_law T⟩
end K02
open PySem PySem.W PyProof.Rows
set_option maxHeartbeats 0 in
theorem PySem.Challenge.cw_goneunseen_k02_tables_made_and_asked_holds : PySem.Challenge.rw_goneunseen_k02_tables_made_and_asked.Holds := by
  w_on; o_law; k_head; (case hw => w_witness2)
  k_fill
  refine L2.walk_of (l := PySem.Challenge.rw_goneunseen_k02_tables_made_and_asked) (n := 63) (k := 14) (x := "_law_script") (CX := fun _ => L2.CX0) (sp := fun w => K02.sp_law _) rfl (by decide) rfl ⟨rfl, by decide, by decide⟩ (fun w h Y => PySem.W.kIn_of Y) ?F (fun _ _ a ns hl _ hS => ⟨a, ns, rfl, hS, hl, fun _ => rfl⟩) (fun _ _ _ _ _ h => h)
  case F =>
    intro w mg fa h KX G hmg
    refine' K02.all_mk KX G hmg ?aC_Table ?pg_Table ?hd_Table ?po_Table ?sa_Table ?kpC_Table ?nA_Table_name ?nA_Table_width ?nA_Table_key ?nA_Table_scope ?nA_Table_refers ?ty_Table ?rr_Table ?ra_Table ?w_Table_MAX_WIDTH ?le2 ?lc2 ?ld2 ?l2 ?c2 ?k2 ?kd2_0 ?kd2_1 ?kd2_2 ?mk_Table ?a2 ?i2 ?l3 ?c3 ?k3 ?a3 ?g3 ?t3 ?r3 ?l4 ?c4 ?k4 ?a4 ?g4 ?t4 ?r4 ?l5 ?c5 ?k5 ?a5 ?g5 ?t5 ?r5 ?l6 ?c6 ?k6 ?a6 ?g6 ?t6 ?r6 ?l7 ?c7 ?k7 ?a7 ?g7 ?t7 ?r7 ?l8 ?c8 ?k8 ?a8 ?i8 ?l9 ?c9 ?k9 ?a9 ?i9 ?l10 ?c10 ?k10 ?a10 ?r10 ?h10 ?l11 ?c11 ?k11 ?a11 ?i11 ?l12 ?c12 ?k12 ?a12 ?i12 ?l13 ?c13 ?k13 ?a13 ?l14 ?c14 ?k14 ?a14 ?l15 ?c15 ?k15 ?a15 ?l16 ?c16 ?k16 ?a16 ?l17 ?c17 ?k17 ?a17 ?l18 ?c18 ?k18 ?a18 ?l19 ?c19 ?k19 ?a19 ?l20 ?c20 ?k20 ?a20 ?l21 ?c21 ?k21 ?a21 ?l22 ?c22 ?k22 ?a22 ?l23 ?c23 ?k23 ?a23 ?l24 ?c24 ?k24 ?a24 ?l25 ?c25 ?k25 ?a25 ?l26 ?c26 ?k26 ?a26 ?l27 ?c27 ?k27 ?a27 ?l28 ?c28 ?k28 ?a28 ?l29 ?c29 ?k29 ?a29 ?l30 ?c30 ?k30 ?a30 ?l31 ?c31 ?k31 ?a31 ?l32 ?c32 ?k32 ?a32 ?l33 ?c33 ?k33 ?a33 ?l34 ?c34 ?k34 ?a34 ?l35 ?c35 ?k35 ?a35 ?l36 ?c36 ?k36 ?a36 ?l37 ?c37 ?k37 ?a37 ?l38 ?c38 ?k38 ?a38 ?l39 ?c39 ?k39 ?a39 ?l40 ?c40 ?k40 ?a40 ?ne_Table ?ia_Table ?ib_Table ?ic_Table ?id_Table ?ko_Table_NoneType ?ko_Table_bool ?ko_Table_int ?ko_Table_str ?ko_Table_list ?ko_Table_tuple ?ko_Table_dict ?nf_Table_NoneType ?nf_Table_bool ?nf_Table_int ?nf_Table_str ?nf_Table_list ?nf_Table_tuple ?nf_Table_dict ?v_LONGEST_NAME ?v_TOO_GREAT ?v_TOO_SMALL ?v_WIDEST_ROW ?v_MOST_COLUMNS ?v_MOST_REFERENCES ?z_super ?z_tuple ?z_sorted ?z_property ?z_len ?z_staticmethod ?z_isinstance ?z_str ?z_int ?z_bool ?z_all ?z_list ?z_set ?z_max ?z_abs ?z_min ?z_range ?z_enumerate
    (case aC_Table => k_is); (case a13 => k_is); (case a14 => k_is); (case a15 => k_is); (case a16 => k_is); (case a17 => k_is); (case a18 => k_is); (case a19 => k_is); (case a20 => k_is); (case a21 => k_is); (case a22 => k_is); (case a23 => k_is); (case a24 => k_is); (case a25 => k_is); (case a26 => k_is); (case a27 => k_is); (case a28 => k_is); (case a29 => k_is); (case a30 => k_is); (case a31 => k_is); (case a32 => k_is); (case a33 => k_is); (case a34 => k_is); (case a35 => k_is); (case a36 => k_is); (case a37 => k_is); (case a38 => k_is); (case a39 => k_is); (case a40 => k_is); (case v_LONGEST_NAME => k_is); (case v_TOO_GREAT => k_is); (case v_TOO_SMALL => k_is); (case v_WIDEST_ROW => k_is); (case v_MOST_COLUMNS => k_is); (case v_MOST_REFERENCES => k_is); (case z_super => k_is); (case z_tuple => k_is); (case z_sorted => k_is); (case z_property => k_is); (case z_len => k_is); (case z_staticmethod => k_is); (case z_isinstance => k_is); (case z_str => k_is); (case z_int => k_is); (case z_bool => k_is); (case z_all => k_is); (case z_list => k_is); (case z_set => k_is); (case z_max => k_is); (case z_abs => k_is); (case z_min => k_is); (case z_range => k_is); (case z_enumerate => k_is); (case ty_Table => k_is); (case a2 => k_is); (case a3 => k_is); (case a4 => k_is); (case a5 => k_is); (case a6 => k_is); (case a7 => k_is); (case a8 => k_is); (case a9 => k_is); (case a10 => k_is); (case a11 => k_is); (case a12 => k_is); (case r3 => k_is); (case r4 => k_is); (case r5 => k_is); (case r6 => k_is); (case r7 => k_is); (case r10 => k_is); (case l2 => k_is); (case l3 => k_is); (case l4 => k_is); (case l5 => k_is); (case l6 => k_is); (case l7 => k_is); (case l8 => k_is); (case l9 => k_is); (case l10 => k_is); (case l11 => k_is); (case l12 => k_is); (case l13 => k_is); (case l14 => k_is); (case l15 => k_is); (case l16 => k_is); (case l17 => k_is); (case l18 => k_is); (case l19 => k_is); (case l20 => k_is); (case l21 => k_is); (case l22 => k_is); (case l23 => k_is); (case l24 => k_is); (case l25 => k_is); (case l26 => k_is); (case l27 => k_is); (case l28 => k_is); (case l29 => k_is); (case l30 => k_is); (case l31 => k_is); (case l32 => k_is); (case l33 => k_is); (case l34 => k_is); (case l35 => k_is); (case l36 => k_is); (case l37 => k_is); (case l38 => k_is); (case l39 => k_is); (case l40 => k_is); (case kd2_0 => k_is); (case kd2_1 => k_is); (case kd2_2 => k_is); (case le2 => k_is); (case pg_Table => k_is); (case hd_Table => k_is); (case po_Table => k_is); (case sa_Table => k_is); (case kpC_Table => k_is); (case nA_Table_name => k_is); (case nA_Table_width => k_is); (case nA_Table_key => k_is); (case nA_Table_scope => k_is); (case nA_Table_refers => k_is); (case rr_Table => k_is); (case ra_Table => k_is); (case w_Table_MAX_WIDTH => k_is); (case lc2 => rfl); (case ld2 => rfl); (case c2 => k_is); (case k2 => k_is); (case mk_Table => k_is); (case i2 => k_is); (case c3 => k_is); (case k3 => k_is); (case g3 => k_is); (case t3 => k_is); (case c4 => k_is); (case k4 => k_is); (case g4 => k_is); (case t4 => k_is); (case c5 => k_is); (case k5 => k_is); (case g5 => k_is); (case t5 => k_is); (case c6 => k_is); (case k6 => k_is); (case g6 => k_is); (case t6 => k_is); (case c7 => k_is); (case k7 => k_is); (case g7 => k_is); (case t7 => k_is); (case c8 => k_is); (case k8 => k_is); (case i8 => k_is); (case c9 => k_is); (case k9 => k_is); (case i9 => k_is); (case c10 => k_is); (case k10 => k_is); (case h10 => rfl); (case c11 => k_is); (case k11 => k_is); (case i11 => k_is); (case c12 => k_is); (case k12 => k_is); (case i12 => k_is); (case c13 => k_is); (case k13 => k_is); (case c14 => k_is); (case k14 => k_is); (case c15 => k_is); (case k15 => k_is); (case c16 => k_is); (case k16 => k_is); (case c17 => k_is); (case k17 => k_is); (case c18 => k_is); (case k18 => k_is); (case c19 => k_is); (case k19 => k_is); (case c20 => k_is); (case k20 => k_is); (case c21 => k_is); (case k21 => k_is); (case c22 => k_is); (case k22 => k_is); (case c23 => k_is); (case k23 => k_is); (case c24 => k_is); (case k24 => k_is); (case c25 => k_is); (case k25 => k_is); (case c26 => k_is); (case k26 => k_is); (case c27 => k_is); (case k27 => k_is); (case c28 => k_is); (case k28 => k_is); (case c29 => k_is); (case k29 => k_is); (case c30 => k_is); (case k30 => k_is); (case c31 => k_is); (case k31 => k_is); (case c32 => k_is); (case k32 => k_is); (case c33 => k_is); (case k33 => k_is); (case c34 => k_is); (case k34 => k_is); (case c35 => k_is); (case k35 => k_is); (case c36 => k_is); (case k36 => k_is); (case c37 => k_is); (case k37 => k_is); (case c38 => k_is); (case k38 => k_is); (case c39 => k_is); (case k39 => k_is); (case c40 => k_is); (case k40 => k_is); (case ne_Table => k_is); (case ia_Table => k_is); (case ib_Table => k_is); (case ic_Table => k_is); (case id_Table => k_is); (case ko_Table_NoneType => kit_is); (case ko_Table_bool => kit_is); (case ko_Table_int => kit_is); (case ko_Table_str => kit_is); (case ko_Table_list => kit_is); (case ko_Table_tuple => kit_is); (case ko_Table_dict => kit_is); (case nf_Table_NoneType => k_is); (case nf_Table_bool => k_is); (case nf_Table_int => k_is); (case nf_Table_str => k_is); (case nf_Table_list => k_is); (case nf_Table_tuple => k_is); (case nf_Table_dict => k_is)