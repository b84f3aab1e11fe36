import PyProof.Rows.All
import Wide.All
import OpenK.AllK
import Wide.FinOn
import HandS.ForMost
import HandS.IsInst
import HandS.Wide
import HandS.TupAny
import HandS.Conv
import HandS.AnyAll
import HandS.EndTab
import HandS.Zip
import HandS.Evl
import KE.DataEq
import HandS.NoneIn
import HandS.Style
import PyProof.GenCompD
import KE.KNest
import HandS.More
import HandS.SetFor
import HandS.Star
import HandS.CallLocal
import HandS.SortInts
import HandS.SortRule
import KE.GoesMore
import KE.GoesEnum
import HandS.Iter
import KE.KDictKeyed
import HandS.Dict
import HandS.DictComp
import HandS.Strs
import KE.KDictCopyH
import KE.KDictWalk
import HandS.Nested
import HandS.SortKw
import HandS.Slots
import KE.KSortKeySt
import HandS.Text
import PyProof.MinMaxWalk
import KE.LtData
import HandS.Lambda
import PyProof.WalksMore
import PyProof.Rows.CallKwBuiltin
import KE.KSortKey
import PyProof.SumAny
import HandS.Set
import KE.GoesSet
import PyProof.Rows.SortShellAny
import KE.KDictPairs
import PyProof.StrOps
import HandS.RepeatKit
import HandS.ExcOwn
import HandS.ExcIs
import HandS.TryOnly
import HandS.FStr
import PyProof.StrOps2
import HandS.List
import PySem.Challenge.RW_threeways_k08_whole_texts
set_option Elab.async false
set_option linter.all false
set_option maxRecDepth 100000
set_option maxHeartbeats 4000000
/-! Big steps over plain data: what may change (Side), what stands for what (Is), what evaluates to what (Ev, EvT, EvA), what runs to what (Run). -/
namespace Tw
open PySem PySem.Spec PyProof.Rows L2
/-! ### data, as the hand layer tells them; of a tuple of pairs it is known that its object has no dict of its own -/
def isPairD : PyData → Bool
  | .tuple [.str _, .int _] => true
  | _ => false
def isDoc (ds : List PyData) : Bool := ds.all isPairD
def Nd (K : PySem.W.Frag) (H : Hp) (a : Addr) : Prop := (∃ o u, H a = some (.frz o u) ∧ o.dict = none) ∨ ∃ o, K.lookup a = some o ∧ o.dict = none
mutual
inductive Dp (K : PySem.W.Frag) (H : Hp) : V → PyData → Prop
  | non : Dp K H .non .none
  | bl (b : Bool) : Dp K H (.bl b) (.bool b)
  | int (i : Int) : Dp K H (.int i) (.int i)
  | str (x : Str) : Dp K H (.str x) (.str x)
  | lst {a : Addr} {xs : List V} {ds : List PyData} : SqL K H a xs → DpAll K H xs ds → Dp K H (.ref a) (.list ds)
  | tup {a : Addr} {xs : List V} {ds : List PyData} : SqT K H a xs → DpAll K H xs ds → (isDoc ds = true → Nd K H a) → Dp K H (.ref a) (.tuple ds)
inductive DpAll (K : PySem.W.Frag) (H : Hp) : List V → List PyData → Prop
  | nil : DpAll K H [] []
  | cons {v : V} {vs : List V} {d : PyData} {ds : List PyData} : Dp K H v d → DpAll K H vs ds → DpAll K H (v :: vs) (d :: ds)
end
mutual
theorem dp_old {K : PySem.W.Frag} {H : Hp} : ∀ (d : PyData) (v : V), Dp K H v d → L2.Dp K H v d
  | .none, _, h => by cases h; exact .non
  | .bool b, _, h => by cases h; exact .bl b
  | .int i, _, h => by cases h; exact .int i
  | .str x, _, h => by cases h; exact .str x
  | .list ds, _, h => by
    cases h with
    | lst hs ha => exact .lst hs (dpAll_old ds _ ha)
  | .tuple ds, _, h => by
    cases h with
    | tup hs ha _ => exact .tup hs (dpAll_old ds _ ha)
  | .dict _, _, h => by cases h
theorem dpAll_old {K : PySem.W.Frag} {H : Hp} : ∀ (ds : List PyData) (vs : List V), DpAll K H vs ds → L2.DpAll K H vs ds
  | [], _, h => by cases h; exact .nil
  | d :: ds, _, h => by
    cases h with
    | cons h1 h2 => exact .cons (dp_old d _ h1) (dpAll_old ds _ h2)
end
theorem Dp.reads {X : Cx} {pins : List (Addr × Obj)} {σ : L2.St} {H : Hp} {s : Shared} (I : Inv X pins σ H s) (d : PyData) (v : V) (u : Value) (h : Dp X.K H v d) (r : RelV v u) : ∃ as, Reads s.heap u d as := L2.Dp.reads I d v u (dp_old d v h) r

/-! ### new tuples, told with their objects -/
def tTup (t : TA) : TE := fun σ H Q => t σ H fun xs H1 => xs.length ≤ sizeLine ∧ ∀ p o, H1 p = none → o.dict = none → Q (.ref p) (upd H1 p (.frz o (.tup xs)))
section
variable {X : Cx}
theorem pe_tup {es : List Expr} {t : TA} {x1} {pos : Pos} (h : PA X es t) : PE X (.Tuple es x1 pos) (tTup t) := by
  refine ⟨fun pins s σ H Q I hq => ?_⟩
  refine wpAny_Tuple_spliced (thn (h.run pos pins s σ H _ I hq) fun us s1 ⟨xs, H1, I1, r, z, q⟩ => ⟨by rw [← r.length]; exact z, ?_⟩)
  have hf : H1 s1.heap.objs.size = none := I1.hok.fresh (Nat.le_refl _)
  refine ⟨.ref s1.heap.objs.size, upd H1 s1.heap.objs.size (.frz { cls := .type "tuple", data := .seq us.toArray 0 } (.tup xs)), I1.laid (t' := s1.toks) (fun b u e => Heap.get?_push_of_some _ e) (Nat.le_refl _) ?_, rfl, q _ _ hf rfl⟩
  exact ⟨Heap.get?_push_size _ rfl, z, us, r, ⟨_, Heap.get?_push_size _ rfl, rfl, _, rfl⟩⟩
/-- tuple(xs) -/
def rTupOf (K : PySem.W.Frag) : List V → Hp → VK → Prop := fun xs H Q => ∃ p ys, xs = [.ref p] ∧ ((SqL K H p ys ∧ ∀ l o, H l = none → o.dict = none → Q (.ref l) (upd H l (.frz o (.tup ys)))) ∨ (SqT K H p ys ∧ Q (.ref p) H))
theorem call_tuple_of : CallR X (.type "tuple") (rTupOf X.K) := by
  intro pins s σ H xs us Q I r h
  obtain ⟨p, ys, rfl, h⟩ := h
  obtain ⟨u, rfl, rx⟩ := vals1 r
  cases rx
  rcases h with ⟨hq, q⟩ | ⟨hq, q⟩
  · obtain ⟨its, r', pl, hz⟩ := I.list hq
    have hlen := r'.length
    have hn := line63
    refine call_tuple_list pl.isList (fun h' kp => ?_) (by simp only [List.size_toArray] <;> omega)
    have I1 : Inv X pins σ H { s with heap := h' } := I.kept (t' := s.toks) kp
    have I2 : Inv X pins σ (upd H h'.objs.size (.frz { cls := .type "tuple", data := .seq its.toArray 0 } (.tup ys))) { s with heap := h'.push { cls := .type "tuple", data := .seq its.toArray } } :=
      I1.laid (t' := s.toks) (fun b o e => Heap.get?_push_of_some _ e) (Nat.le_refl _) ⟨Heap.get?_push_size _ rfl, hz, its, r', IsTup.new _ _⟩
    exact ⟨.ref h'.objs.size, _, I2, rfl, q _ _ (I1.hok.fresh (Nat.le_refl _)) rfl⟩
  · obtain ⟨its, r', pl, hz⟩ := I.tuple hq
    exact call_tuple_same pl ⟨.ref p, H, I, rfl, q⟩
/-- t + u -/
def rCatA (K : PySem.W.Frag) : R2 := fun x y H Q => ∃ a b xs ys, x = .ref a ∧ y = .ref b ∧ SqT K H a xs ∧ SqT K H b ys ∧ xs.length + ys.length ≤ sizeLine ∧
  (xs = [] → Q (.ref b) H) ∧ (xs ≠ [] → ys = [] → Q (.ref a) H) ∧ (xs ≠ [] → ys ≠ [] → ∀ p o, H p = none → o.dict = none → Q (.ref p) (upd H p (.frz o (.tup (xs ++ ys)))))
theorem op_catA : OpR X (binaryOp .Add) (rCatA X.K) := by
  intro pins s σ H x y v u Q I rx ry h
  obtain ⟨a, b, xs, ys, rfl, rfl, ha, hb, hz, q0, q1, q2⟩ := h
  by_cases hx : xs = []
  · subst hx
    cases rx
    cases ry
    obtain ⟨its, r1, p1, _⟩ := I.tuple ha
    obtain ⟨its2, r2, p2, _⟩ := I.tuple hb
    cases r1
    exact cat_tup0 p1 p2 ⟨.ref b, H, I, rfl, q0 rfl⟩
  · cases rx
    cases ry
    obtain ⟨its, r1, p1, _⟩ := I.tuple ha
    obtain ⟨its2, r2, p2, _⟩ := I.tuple hb
    refine HT.cat_tup p1 p2 (fun z => hx (r1.nil_iff.mp z)) (fun z => ⟨.ref a, H, I, rfl, q1 hx (r2.nil_iff.mp z)⟩) (fun z => ?_) (by rw [← r1.length, ← r2.length]; exact hz)
    refine ⟨.ref s.heap.objs.size, _, I.laid (t' := s.toks) (o := .frz { cls := .type "tuple", data := .seq (its ++ its2).toArray 0 } (.tup (xs ++ ys))) (fun b ob q => Heap.get?_push_of_some _ q) (Nat.le_refl _) ?_, rfl, q2 hx (fun w => z (r2.nil_iff.mpr w)) _ _ (I.hok.fresh (Nat.le_refl _)) rfl⟩
    exact ⟨Heap.get?_push_size _ rfl, by rw [List.length_append]; exact hz, _, r1.append r2, IsTup.new _ _⟩
/-- t[lo:hi]: the whole of it is t itself -/
def rSlA (K : PySem.W.Frag) : V → Option Int → Option Int → Hp → VK → Prop := fun x lo hi H Q => ∃ a xs, x = .ref a ∧ SqT K H a xs ∧
  (HT.sIx xs.length 0 lo = 0 ∧ HT.sIx xs.length xs.length hi = xs.length → Q (.ref a) H) ∧ (¬ (HT.sIx xs.length 0 lo = 0 ∧ HT.sIx xs.length xs.length hi = xs.length) → ∀ p o, H p = none → o.dict = none → Q (.ref p) (upd H p (.frz o (.tup (cutV xs lo hi)))))
theorem sl_tupA : SlR X (rSlA X.K) := by
  intro pins s σ H x v vl vu lo hi sl Q I rx hs pl pu h
  obtain ⟨a, xs, rfl, hx, q1, q2⟩ := h
  cases rx
  obtain ⟨its, r, ht, hz⟩ := I.tuple hx
  have hlen : its.toArray.size = xs.length := by rw [List.size_toArray]; exact r.length.symm
  refine ⟨"tuple", _, PyProof.Rows.slot_tuple_getitem.lookup, ht.typeIs, ?_⟩
  by_cases hw : HT.sIx xs.length 0 lo = 0 ∧ HT.sIx xs.length xs.length hi = xs.length
  · exact getItem_tuple_whole ht hs pl pu (by rw [hlen]; exact hw) ⟨.ref a, H, I, rfl, q1 hw⟩
  · refine HT.getItem_tuple_cut ht hs pl pu (by rw [hlen]; exact hw) ?_ (by rw [hlen]; exact hz)
    rw [hlen]
    refine ⟨.ref s.heap.objs.size, _, I.laid (t' := s.toks) (o := .frz _ (.tup (cutV xs lo hi))) (fun b ob q => Heap.get?_push_of_some _ q) (Nat.le_refl _) ⟨Heap.get?_push_size _ rfl, ?_⟩, rfl, q2 hw _ _ (I.hok.fresh (Nat.le_refl _)) rfl⟩
    exact ⟨Nat.le_trans (cutV_length xs lo hi) hz, _, (r.drop (HT.sIx xs.length 0 lo)).take (HT.sIx xs.length xs.length hi - HT.sIx xs.length 0 lo), IsTup.new _ _⟩
end

/-- mut: addresses that may change; hid: those that no data may speak of; inv: what holds throughout -/
structure Side where
  mutb : Addr → Prop
  hid : Addr → Prop
  inv : Hp → Prop
  sub : ∀ a, mutb a → hid a
  there : ∀ H a, inv H → hid a → H a ≠ none
  put : ∀ H p o, inv H → ¬ hid p → (∀ ob u, H p ≠ some (.frz ob u)) → inv (upd H p o)
structure Side.To (S : Side) (H H2 : Hp) : Prop where
  inv : S.inv H2
  keep : ∀ a o, ¬ S.mutb a → H a = some o → H2 a = some o
open Classical in
noncomputable def Side.view (S : Side) (H : Hp) : Hp := fun a => if S.hid a then none else H a
section
variable {S : Side} {H H1 H2 H3 : Hp} {a p : Addr} {o : HO}
theorem view_some : S.view H a = some o ↔ ¬ S.hid a ∧ H a = some o := by
  unfold Side.view
  by_cases h : S.hid a
  · rw [if_pos h]
    exact ⟨fun z => (nomatch z), fun z => absurd h z.1⟩
  · rw [if_neg h]
    exact ⟨fun z => ⟨h, z⟩, fun z => z.2⟩
theorem Side.To.refl (h : S.inv H) : S.To H H := ⟨h, fun _ _ _ e => e⟩
theorem Side.To.trans (x : S.To H H1) (y : S.To H1 H2) : S.To H H2 := ⟨y.inv, fun a o n e => y.keep a o n (x.keep a o n e)⟩
theorem Side.To.back (x : S.To H H2) (h : H2 p = none) : H p = none := by
  cases q : H p with
  | none => rfl
  | some o =>
    by_cases m : S.mutb p
    · exact absurd h (S.there H2 p x.inv (S.sub p m))
    · rw [x.keep p o m q] at h
      cases h
theorem Side.To.ex (x : S.To H H2) : Evl.Ex (S.view H) (S.view H2) := fun a o e => by
  obtain ⟨n, e⟩ := view_some.mp e
  exact view_some.mpr ⟨n, x.keep a o (fun m => n (S.sub a m)) e⟩
theorem nofrz (n : H p = none) : ∀ ob u, H p ≠ some (.frz ob u) := fun _ _ e => by rw [n] at e; cases e
theorem nofrz_of {u : HO} (e : H p = some u) (h : ∀ ob v, u ≠ .frz ob v) : ∀ ob u, H p ≠ some (.frz ob u) := fun ob v z => h ob v (Option.some.inj (e.symm.trans z))
theorem nhid (h : S.inv H) (n : H p = none) : ¬ S.hid p := fun z => S.there H p h z n
theorem Side.To.new (h : S.inv H) (n : H p = none) : S.To H (upd H p o) := ⟨S.put H p o h (nhid h n) (nofrz n), fun a u _ e => by rw [upd_ne (ne_of_none e n)]; exact e⟩
theorem view_new (h : S.inv H) (n : H p = none) : S.view (upd H p o) p = some o := view_some.mpr ⟨nhid h n, upd_same⟩
theorem view_sub (e : S.view H a = some o) : H a = some o := (view_some.mp e).2
end

/-! ### data grow with the heap -/
theorem ex_sqt {K : PySem.W.Frag} {H H' : Hp} {a : Addr} {xs : List V} (e : Evl.Ex H H') (h : SqT K H a xs) : SqT K H' a xs := Evl.ex_t e h
theorem ex_sql {K : PySem.W.Frag} {H H' : Hp} {a : Addr} {xs : List V} (e : Evl.Ex H H') (h : SqL K H a xs) : SqL K H' a xs := Evl.ex_l e h
mutual
theorem dp_mono {K : PySem.W.Frag} {H H' : Hp} (e : Evl.Ex H H') : ∀ (d : PyData) (v : V), Dp K H v d → Dp K H' v d
  | .none, _, h => by cases h; exact .non
  | .bool b, _, h => by cases h; exact .bl b
  | .int i, _, h => by cases h; exact .int i
  | .str x, _, h => by cases h; exact .str x
  | .list ds, _, h => by
    cases h with
    | lst hs ha => exact .lst (ex_sql e hs) (dpAll_mono e ds _ ha)
  | .tuple ds, _, h => by
    cases h with
    | tup hs ha hd => exact .tup (ex_sqt e hs) (dpAll_mono e ds _ ha) fun z => (hd z).elim (fun ⟨o, u, q, r⟩ => .inl ⟨o, u, e _ _ q, r⟩) .inr
  | .dict _, _, h => by cases h
theorem dpAll_mono {K : PySem.W.Frag} {H H' : Hp} (e : Evl.Ex H H') : ∀ (ds : List PyData) (vs : List V), DpAll K H vs ds → DpAll K H' vs ds
  | [], _, h => by cases h; exact .nil
  | d :: ds, _, h => by
    cases h with
    | cons h1 h2 => exact .cons (dp_mono e d _ h1) (dpAll_mono e ds _ h2)
end
mutual
theorem dp_plain {K : PySem.W.Frag} {H : Hp} : ∀ (d : PyData) (v : V), Dp K H v d → d.plain = true
  | .none, _, h => rfl
  | .bool b, _, h => rfl
  | .int i, _, h => rfl
  | .str x, _, h => rfl
  | .list ds, _, h => by
    cases h with
    | lst hs ha => exact dpAll_plain ds _ ha
  | .tuple ds, _, h => by
    cases h with
    | tup hs ha _ => exact dpAll_plain ds _ ha
  | .dict _, _, h => by cases h
theorem dpAll_plain {K : PySem.W.Frag} {H : Hp} : ∀ (ds : List PyData) (vs : List V), DpAll K H vs ds → PyData.plainAll ds = true
  | [], _, h => rfl
  | d :: ds, _, h => by
    cases h with
    | cons h1 h2 =>
      show (PyData.plain d && PyData.plainAll ds) = true
      rw [dp_plain d _ h1, dpAll_plain ds _ h2]
      rfl
end
theorem dpa_len {K : PySem.W.Frag} {H : Hp} : ∀ {ds : List PyData} {vs : List V}, DpAll K H vs ds → vs.length = ds.length
  | [], _, h => by cases h; rfl
  | d :: ds, _, h => by
    cases h with
    | cons h1 h2 => rw [List.length_cons, List.length_cons, dpa_len h2]
theorem dpa_get {K : PySem.W.Frag} {H : Hp} : ∀ {ds : List PyData} {vs : List V} {i : Nat} {v : V}, DpAll K H vs ds → vs[i]? = some v → ∃ d, ds[i]? = some d ∧ Dp K H v d
  | [], _, _, _, h, e => by cases h; simp at e
  | d :: ds, _, 0, _, h, e => by
    cases h with
    | cons h1 h2 =>
      cases (Option.some.inj e)
      exact ⟨d, rfl, h1⟩
  | d :: ds, _, i + 1, _, h, e => by
    cases h with
    | cons h1 h2 => exact dpa_get (i := i) h2 e
theorem dpa_get' {K : PySem.W.Frag} {H : Hp} : ∀ {ds : List PyData} {vs : List V} {i : Nat} {d : PyData}, DpAll K H vs ds → ds[i]? = some d → ∃ v, vs[i]? = some v ∧ Dp K H v d
  | [], _, _, _, h, e => by simp at e
  | d :: ds, _, 0, _, h, e => by
    cases h with
    | cons h1 h2 =>
      cases (Option.some.inj e)
      exact ⟨_, rfl, h1⟩
  | d :: ds, _, i + 1, _, h, e => by
    cases h with
    | cons h1 h2 => exact dpa_get' (i := i) h2 e
theorem dpa_app {K : PySem.W.Frag} {H : Hp} : ∀ {ds es : List PyData} {vs ws : List V}, DpAll K H vs ds → DpAll K H ws es → DpAll K H (vs ++ ws) (ds ++ es)
  | [], _, _, _, h, g => by cases h; exact g
  | d :: ds, _, _, _, h, g => by
    cases h with
    | cons h1 h2 => exact .cons h1 (dpa_app h2 g)
theorem dpa_take {K : PySem.W.Frag} {H : Hp} : ∀ (n : Nat) {ds : List PyData} {vs : List V}, DpAll K H vs ds → DpAll K H (vs.take n) (ds.take n)
  | 0, _, _, _ => by rw [List.take_zero, List.take_zero]; exact .nil
  | n + 1, [], _, h => by cases h; exact .nil
  | n + 1, d :: ds, _, h => by
    cases h with
    | cons h1 h2 => exact .cons h1 (dpa_take n h2)
theorem dpa_drop {K : PySem.W.Frag} {H : Hp} : ∀ (n : Nat) {ds : List PyData} {vs : List V}, DpAll K H vs ds → DpAll K H (vs.drop n) (ds.drop n)
  | 0, _, _, h => by rw [List.drop_zero, List.drop_zero]; exact h
  | n + 1, [], _, h => by cases h; exact .nil
  | n + 1, d :: ds, _, h => by
    cases h with
    | cons h1 h2 => exact dpa_drop n h2

/-! ### what a value stands for: data, or itself -/
inductive DV where
  | d (x : PyData)
  | v (x : V)
  | dk (kvs : List (Key × PyData))
/-- a dict's entries -/
def KDp (K : PySem.W.Frag) (M : Hp) : List (Key × V) → List (Key × PyData) → Prop
  | [], [] => True
  | p :: vs, q :: kvs => p.1 = q.1 ∧ Dp K M p.2 q.2 ∧ KDp K M vs kvs
  | _, _ => False
theorem KDp.mono {K : PySem.W.Frag} {M M' : Hp} (e : Evl.Ex M M') : ∀ {vs : List (Key × V)} {xs : List (Key × PyData)}, KDp K M vs xs → KDp K M' vs xs
  | [], [], _ => trivial
  | _ :: _, _ :: _, h => ⟨h.1, dp_mono e _ _ h.2.1, KDp.mono e h.2.2⟩
  | [], _ :: _, h => h.elim
  | _ :: _, [], h => h.elim
def Is (K : PySem.W.Frag) (M : Hp) (v : V) : DV → Prop
  | .d x => Dp K M v x
  | .v x => v = x
  | .dk kvs => ∃ p vs, v = .ref p ∧ M p = some (.dK vs) ∧ KDp K M vs kvs
theorem Is.mono {K : PySem.W.Frag} {M M' : Hp} {v : V} {x : DV} (e : Evl.Ex M M') (h : Is K M v x) : Is K M' v x := by
  cases x with
  | d x => exact dp_mono e x v h
  | v x => exact h
  | dk kvs =>
    obtain ⟨p, vs, e1, e2, e3⟩ := h
    exact ⟨p, vs, e1, e p _ e2, e3.mono e⟩
def AllIs (K : PySem.W.Frag) (M : Hp) : List V → List DV → Prop
  | [], [] => True
  | v :: vs, x :: xs => Is K M v x ∧ AllIs K M vs xs
  | _, _ => False
theorem AllIs.mono {K : PySem.W.Frag} {M M' : Hp} (e : Evl.Ex M M') : ∀ {vs : List V} {xs : List DV}, AllIs K M vs xs → AllIs K M' vs xs
  | [], [], _ => trivial
  | _ :: _, _ :: _, h => ⟨h.1.mono e, AllIs.mono e h.2⟩
  | [], _ :: _, h => h.elim
  | _ :: _, [], h => h.elim
theorem AllIs.len {K : PySem.W.Frag} {M : Hp} : ∀ {vs : List V} {xs : List DV}, AllIs K M vs xs → vs.length = xs.length
  | [], [], _ => rfl
  | _ :: _, _ :: _, h => by rw [List.length_cons, List.length_cons, AllIs.len h.2]
  | [], _ :: _, h => h.elim
  | _ :: _, [], h => h.elim
/-- all data -/
theorem AllIs.data {K : PySem.W.Frag} {M : Hp} : ∀ {vs : List V} {ds : List PyData}, AllIs K M vs (ds.map DV.d) → DpAll K M vs ds
  | [], [], _ => .nil
  | _ :: _, _ :: _, h => .cons h.1 (AllIs.data h.2)
  | [], _ :: _, h => h.elim
  | _ :: _, [], h => h.elim
/-- a frame's slots -/
abbrev Rho := List (Option DV)
structure EnvOk (K : PySem.W.Frag) (M : Hp) (σ : L2.St) (ρ : Rho) : Prop where
  len : σ.length = ρ.length
  get : ∀ (i : Nat) (x : DV), ρ[i]? = some (some x) → ∃ v : V, σ[i]? = some (some v) ∧ Is K M v x
theorem EnvOk.mono {K : PySem.W.Frag} {M M' : Hp} {σ : L2.St} {ρ : Rho} (e : Evl.Ex M M') (h : EnvOk K M σ ρ) : EnvOk K M' σ ρ :=
  ⟨h.len, fun i x g => let ⟨v, a, b⟩ := h.get i x g; ⟨v, a, b.mono e⟩⟩
theorem EnvOk.set {K : PySem.W.Frag} {M : Hp} {σ : L2.St} {ρ : Rho} (h : EnvOk K M σ ρ) (i : Nat) {v : V} {x : DV} (r : Is K M v x) : EnvOk K M (σ.set i (some v)) (ρ.set i (some x)) := by
  refine ⟨by rw [List.length_set, List.length_set, h.len], fun j y g => ?_⟩
  by_cases e : i = j
  · subst e
    by_cases hl : i < ρ.length
    · rw [List.getElem?_set_self hl] at g
      cases (Option.some.inj (Option.some.inj g))
      exact ⟨v, List.getElem?_set_self (by rw [h.len]; exact hl), r⟩
    · rw [List.getElem?_eq_none (by rw [List.length_set]; omega)] at g
      cases g
  · rw [List.getElem?_set_ne e] at g ⊢
    exact h.get j y g
/-- slots forgotten -/
def wipeR (ρ : Rho) : List Nat → Rho
  | [] => ρ
  | v :: vs => (wipeR ρ vs).set v none
theorem EnvOk.unset {K : PySem.W.Frag} {M : Hp} {σ : L2.St} {ρ : Rho} (h : EnvOk K M σ ρ) (i : Nat) : EnvOk K M (σ.set i none) (ρ.set i none) := by
  refine ⟨by rw [List.length_set, List.length_set, h.len], fun j y g => ?_⟩
  by_cases e : i = j
  · subst e
    by_cases hl : i < ρ.length
    · rw [List.getElem?_set_self hl] at g
      cases (Option.some.inj g)
    · rw [List.getElem?_eq_none (by rw [List.length_set]; omega)] at g
      cases g
  · rw [List.getElem?_set_ne e] at g ⊢
    exact h.get j y g
theorem EnvOk.wipe {K : PySem.W.Frag} {M : Hp} {σ : L2.St} {ρ : Rho} (h : EnvOk K M σ ρ) : ∀ vs, EnvOk K M (L2.wipe σ vs) (wipeR ρ vs)
  | [] => h
  | v :: vs => (h.wipe vs).unset v
theorem EnvOk.weak {K : PySem.W.Frag} {M : Hp} {σ : L2.St} {ρ ρ' : Rho} (h : EnvOk K M σ ρ) (hl : ρ'.length = ρ.length) (w : ∀ (i : Nat) (x : DV), ρ'[i]? = some (some x) → ρ[i]? = some (some x)) : EnvOk K M σ ρ' :=
  ⟨h.len.trans hl.symm, fun i x g => h.get i x (w i x g)⟩

/-! ### the judgements -/
section
variable (K : PySem.W.Frag) (S : Side)
def Ev (te : TE) (ρ : Rho) (P : DV → Prop) : Prop := ∀ σ H, S.inv H → EnvOk K (S.view H) σ ρ → ∀ Q : VK, (∀ v x H2, S.To H H2 → Is K (S.view H2) v x → P x → Q v H2) → te σ H Q
def EvT (tt : TT) (ρ : Rho) (P : Bool → Prop) : Prop := ∀ σ H, S.inv H → EnvOk K (S.view H) σ ρ → ∀ Q : Bool → Hp → Prop, (∀ b H2, S.To H H2 → P b → Q b H2) → tt σ H Q
def EvA (ta : TA) (ρ : Rho) (P : List DV → Prop) : Prop := ∀ σ H, S.inv H → EnvOk K (S.view H) σ ρ → ∀ Q : List V → Hp → Prop, (∀ vs xs H2, S.To H H2 → AllIs K (S.view H2) vs xs → P xs → Q vs H2) → ta σ H Q
/-- operations by values -/
def Ev2 (r : R2) (x y : DV) (P : DV → Prop) : Prop := ∀ v w H, S.inv H → Is K (S.view H) v x → Is K (S.view H) w y → ∀ Q : VK, (∀ z d H2, S.To H H2 → Is K (S.view H2) z d → P d → Q z H2) → r v w H Q
def EvC (r : List V → Hp → VK → Prop) (xs : List DV) (P : DV → Prop) : Prop := ∀ vs H, S.inv H → AllIs K (S.view H) vs xs → ∀ Q : VK, (∀ z d H2, S.To H H2 → Is K (S.view H2) z d → P d → Q z H2) → r vs H Q
inductive Out where
  | nx (ρ : Rho)
  | rt (x : DV)
  | bk (ρ : Rho)
  | ct (ρ : Rho)
def Run (ts : TS) (ρ : Rho) (P : Out → Prop) : Prop := ∀ σ H, S.inv H → EnvOk K (S.view H) σ ρ → ∀ D : Ends, (∀ ρ' σ' H2, S.To H H2 → EnvOk K (S.view H2) σ' ρ' → P (.nx ρ') → D.nx σ' H2) → (∀ x v H2, S.To H H2 → Is K (S.view H2) v x → P (.rt x) → D.rt v H2) →
  (∀ ρ' σ' H2, S.To H H2 → EnvOk K (S.view H2) σ' ρ' → P (.bk ρ') → D.bk σ' H2) → (∀ ρ' σ' H2, S.To H H2 → EnvOk K (S.view H2) σ' ρ' → P (.ct ρ') → D.ct σ' H2) → ts D σ H
/-- a target -/
def EvG (g : TG) (x : DV) (ρ : Rho) (P : Rho → Prop) : Prop := ∀ v σ H, S.inv H → EnvOk K (S.view H) σ ρ → Is K (S.view H) v x → ∀ Q : L2.St → Hp → Prop, (∀ ρ' σ' H2, S.To H H2 → EnvOk K (S.view H2) σ' ρ' → P ρ' → Q σ' H2) → g v σ H Q
end
section
variable {K : PySem.W.Frag} {S : Side} {ρ : Rho} {ta tb tc te : TE} {tt tu : TT} {tx ty : TA} {P : DV → Prop} {PB : Bool → Prop}
theorem Ev.imp {P' : DV → Prop} (h : Ev K S te ρ P) (i : ∀ x, P x → P' x) : Ev K S te ρ P' := fun σ H a b Q q => h σ H a b Q fun v x H2 t s p => q v x H2 t s (i x p)
theorem EvT.imp {P' : Bool → Prop} (h : EvT K S tt ρ PB) (i : ∀ x, PB x → P' x) : EvT K S tt ρ P' := fun σ H a b Q q => h σ H a b Q fun x H2 t p => q x H2 t (i x p)
theorem EvA.imp {PA P' : List DV → Prop} (h : EvA K S tx ρ PA) (i : ∀ x, PA x → P' x) : EvA K S tx ρ P' := fun σ H a b Q q => h σ H a b Q fun v x H2 t s p => q v x H2 t s (i x p)
theorem Run.imp {ts : TS} {PO P' : Out → Prop} (h : Run K S ts ρ PO) (i : ∀ x, PO x → P' x) : Run K S ts ρ P' := fun σ H a b D q1 q2 q3 q4 =>
  h σ H a b D (fun r s H2 t e p => q1 r s H2 t e (i _ p)) (fun r s H2 t e p => q2 r s H2 t e (i _ p)) (fun r s H2 t e p => q3 r s H2 t e (i _ p)) (fun r s H2 t e p => q4 r s H2 t e (i _ p))

theorem ev_var {i : Nat} {x : DV} (h : ρ[i]? = some (some x)) (p : P x) : Ev K S (tVar i) ρ P := fun σ H hi he Q q =>
  let ⟨v, a, b⟩ := he.get i x h
  ⟨v, a, q v x H (.refl hi) b p⟩
theorem ev_int {i : Int} (p : P (.d (.int i))) : Ev K S (tC (.int i)) ρ P := fun σ H hi he Q q => q _ (.d (.int i)) H (.refl hi) (show Dp _ _ _ _ from .int i) p
theorem ev_str {i : Str} (p : P (.d (.str i))) : Ev K S (tC (.str i)) ρ P := fun σ H hi he Q q => q _ (.d (.str i)) H (.refl hi) (show Dp _ _ _ _ from .str i) p
theorem ev_bl {i : Bool} (p : P (.d (.bool i))) : Ev K S (tC (.bl i)) ρ P := fun σ H hi he Q q => q _ (.d (.bool i)) H (.refl hi) (show Dp _ _ _ _ from .bl i) p
theorem ev_non (p : P (.d .none)) : Ev K S (tC .non) ρ P := fun σ H hi he Q q => q _ (.d .none) H (.refl hi) (show Dp _ _ _ _ from .non) p
theorem ev_raw {v : V} (p : P (.v v)) : Ev K S (tC v) ρ P := fun σ H hi he Q q => q _ _ H (.refl hi) (show Is _ _ _ (.v v) from rfl) p
/-- a constant of the written part that is data -/
theorem ev_cdat {v : V} {x : PyData} (h : ∀ M, Dp K M v x) (p : P (.d x)) : Ev K S (tC v) ρ P := fun σ H hi he Q q => q _ (.d x) H (.refl hi) (h _) p
theorem ev_op {r : R2} (h : Ev K S ta ρ fun x => Ev K S tb ρ fun y => Ev2 K S r x y P) : Ev K S (tOp r ta tb) ρ P := fun σ H hi he Q q =>
  h σ H hi he _ fun v x H1 t1 i1 p1 => p1 σ H1 t1.inv (he.mono t1.ex) _ fun w y H2 t2 i2 p2 =>
    p2 v w H2 t2.inv (i1.mono t2.ex) i2 Q fun z d H3 t3 i3 p3 => q z d H3 ((t1.trans t2).trans t3) i3 p3
theorem ev_chain {r r' : R2} (h : Ev K S ta ρ fun x => Ev K S tb ρ fun y => Ev2 K S r x y fun z => ∃ b, z = .d (.bool b) ∧ (b = true → Ev K S tc ρ fun w => Ev2 K S r' y w P) ∧ (b = false → P (.d (.bool false)))) :
    Ev K S (tChain r r' ta tb tc) ρ P := fun σ H hi he Q q =>
  h σ H hi he _ fun v x H1 t1 i1 p1 => p1 σ H1 t1.inv (he.mono t1.ex) _ fun w y H2 t2 i2 p2 =>
    p2 v w H2 t2.inv (i1.mono t2.ex) i2 _ fun z d H3 t3 i3 p3 => by
      obtain ⟨b, rfl, p3, p4⟩ := p3
      cases i3
      refine ⟨b, rfl, ?_⟩
      cases b with
      | true =>
        rw [if_pos rfl]
        exact p3 rfl σ H3 t3.inv (he.mono ((t1.trans t2).trans t3).ex) _ fun u c H4 t4 i4 p4 => p4 w u H4 t4.inv (i2.mono (t3.trans t4).ex) i4 Q fun z d H5 t5 i5 p5 => q z d H5 ((((t1.trans t2).trans t3).trans t4).trans t5) i5 p5
      | false =>
        rw [if_neg Bool.false_ne_true]
        exact q _ (.d (.bool false)) H3 ((t1.trans t2).trans t3) (show Dp _ _ _ _ from .bl false) (p4 rfl)
theorem ev_un {r : V → Hp → VK → Prop} (h : Ev K S ta ρ fun x => EvC K S (fun vs H Q => ∃ v, vs = [v] ∧ r v H Q) [x] P) : Ev K S (tUn r ta) ρ P := fun σ H hi he Q q =>
  h σ H hi he _ fun v x H1 t1 i1 p1 => by
    obtain ⟨w, e, z⟩ := p1 [v] H1 t1.inv ⟨i1, trivial⟩ Q fun z d H2 t2 i2 p2 => q z d H2 (t1.trans t2) i2 p2
    cases e
    exact z
theorem ev_cb {r : List V → Hp → VK → Prop} (h : EvA K S tx ρ fun xs => EvC K S r xs P) : Ev K S (tCB r tx) ρ P := fun σ H hi he Q q =>
  h σ H hi he _ fun vs xs H1 t1 i1 p1 => p1 vs H1 t1.inv i1 Q fun z d H2 t2 i2 p2 => q z d H2 (t1.trans t2) i2 p2
theorem ea_nil {PA : List DV → Prop} (p : PA []) : EvA K S tNil ρ PA := fun σ H hi he Q q => q [] [] H (.refl hi) trivial p
theorem ea_cons {PA : List DV → Prop} (h : Ev K S ta ρ fun x => EvA K S tx ρ fun xs => PA (x :: xs)) : EvA K S (tCons ta tx) ρ PA := fun σ H hi he Q q =>
  h σ H hi he _ fun v x H1 t1 i1 p1 => p1 σ H1 t1.inv (he.mono t1.ex) _ fun vs xs H2 t2 i2 p2 => q (v :: vs) (x :: xs) H2 (t1.trans t2) ⟨i1.mono t2.ex, i2⟩ p2
theorem et_test (h : Ev K S te ρ fun x => ∃ b, x = .d (.bool b) ∧ PB b) : EvT K S (tTest te) ρ PB := fun σ H hi he Q q =>
  h σ H hi he _ fun v x H1 t1 i1 p1 => by
    obtain ⟨b, rfl, p⟩ := p1
    cases i1
    exact ⟨b, rfl, q b H1 t1 p⟩
theorem et_B (h : Ev K S te ρ fun x => ∃ b, x = .d (.bool b) ∧ PB b) : EvT K S (tB te) ρ PB := et_test h
theorem et_not (h : EvT K S tt ρ fun b => PB (!b)) : EvT K S (tNot tt) ρ PB := fun σ H hi he Q q => h σ H hi he _ fun b H1 t1 p => q (!b) H1 t1 p
theorem et_and (h : EvT K S tt ρ fun b => (b = true → EvT K S tu ρ PB) ∧ (b = false → PB false)) : EvT K S (tAnd tt tu) ρ PB := fun σ H hi he Q q => h σ H hi he _ fun b H1 t1 p => by
  cases b with
  | true =>
    rw [if_pos rfl]
    exact p.1 rfl σ H1 t1.inv (he.mono t1.ex) Q fun b H2 t2 p2 => q b H2 (t1.trans t2) p2
  | false =>
    rw [if_neg Bool.false_ne_true]
    exact q false H1 t1 (p.2 rfl)
theorem et_or (h : EvT K S tt ρ fun b => (b = true → PB true) ∧ (b = false → EvT K S tu ρ PB)) : EvT K S (tOr tt tu) ρ PB := fun σ H hi he Q q => h σ H hi he _ fun b H1 t1 p => by
  cases b with
  | true =>
    rw [if_pos rfl]
    exact q true H1 t1 (p.1 rfl)
  | false =>
    rw [if_neg Bool.false_ne_true]
    exact p.2 rfl σ H1 t1.inv (he.mono t1.ex) Q fun b H2 t2 p2 => q b H2 (t1.trans t2) p2
theorem ev_andV (h : Ev K S ta ρ fun x => ∃ b, x = .d (.bool b) ∧ (b = true → Ev K S tb ρ P) ∧ (b = false → P (.d (.bool false)))) : Ev K S (tAndV ta tb) ρ P := fun σ H hi he Q q => h σ H hi he _ fun v x H1 t1 i1 p1 => by
  obtain ⟨b, rfl, p, p'⟩ := p1
  cases i1
  refine ⟨b, rfl, ?_⟩
  cases b with
  | true =>
    rw [if_pos rfl]
    exact p rfl σ H1 t1.inv (he.mono t1.ex) Q fun z d H2 t2 i2 p2 => q z d H2 (t1.trans t2) i2 p2
  | false =>
    rw [if_neg Bool.false_ne_true]
    exact q _ (.d (.bool false)) H1 t1 (show Dp _ _ _ _ from .bl false) (p' rfl)
theorem ev_orV (h : Ev K S ta ρ fun x => ∃ b, x = .d (.bool b) ∧ (b = true → P (.d (.bool true))) ∧ (b = false → Ev K S tb ρ P)) : Ev K S (tOrV ta tb) ρ P := fun σ H hi he Q q => h σ H hi he _ fun v x H1 t1 i1 p1 => by
  obtain ⟨b, rfl, p, p'⟩ := p1
  cases i1
  refine ⟨b, rfl, ?_⟩
  cases b with
  | true =>
    rw [if_pos rfl]
    exact q _ (.d (.bool true)) H1 t1 (show Dp _ _ _ _ from .bl true) (p rfl)
  | false =>
    rw [if_neg Bool.false_ne_true]
    exact p' rfl σ H1 t1.inv (he.mono t1.ex) Q fun z d H2 t2 i2 p2 => q z d H2 (t1.trans t2) i2 p2
theorem ev_notV (h : Ev K S ta ρ fun x => ∃ b, x = .d (.bool b) ∧ P (.d (.bool (!b)))) : Ev K S (tNotV ta) ρ P := fun σ H hi he Q q => h σ H hi he _ fun v x H1 t1 i1 p1 => by
  obtain ⟨b, rfl, p⟩ := p1
  cases i1
  exact ⟨b, rfl, q _ (.d (.bool (!b))) H1 t1 (show Dp _ _ _ _ from .bl _) p⟩
theorem ev_if (h : EvT K S tt ρ fun b => (b = true → Ev K S ta ρ P) ∧ (b = false → Ev K S tb ρ P)) : Ev K S (tIf tt ta tb) ρ P := fun σ H hi he Q q => h σ H hi he _ fun b H1 t1 p => by
  cases b with
  | true =>
    rw [if_pos rfl]
    exact p.1 rfl σ H1 t1.inv (he.mono t1.ex) Q fun z d H2 t2 i2 p2 => q z d H2 (t1.trans t2) i2 p2
  | false =>
    rw [if_neg Bool.false_ne_true]
    exact p.2 rfl σ H1 t1.inv (he.mono t1.ex) Q fun z d H2 t2 i2 p2 => q z d H2 (t1.trans t2) i2 p2
def isNoneD : PyData → Bool
  | .none => true
  | _ => false
theorem ev_isN (h : Ev K S ta ρ fun x => ∃ d, x = .d d ∧ P (.d (.bool (isNoneD d)))) : Ev K S (tIsN ta) ρ P := fun σ H hi he Q q => h σ H hi he _ fun v x H1 t1 i1 p1 => by
  obtain ⟨d, rfl, p⟩ := p1
  have e : decide (v = V.non) = isNoneD d := by
    cases i1 <;> rfl
  rw [e]
  exact q _ (.d (.bool _)) H1 t1 (show Dp _ _ _ _ from .bl _) p
/-- a new tuple, a new list of data -/
theorem ev_tup (h : EvA K S tx ρ fun xs => ∃ ds : List PyData, xs = ds.map DV.d ∧ ds.length ≤ sizeLine ∧ P (.d (.tuple ds))) : Ev K S (tTup tx) ρ P := fun σ H hi he Q q => h σ H hi he _ fun vs xs H1 t1 i1 p1 => by
  obtain ⟨ds, rfl, hl, p⟩ := p1
  have e := i1.len
  rw [List.length_map] at e
  refine ⟨by rw [e]; exact hl, fun p' o np nd => q _ (.d (.tuple ds)) _ (t1.trans (.new t1.inv np)) ?_ p⟩
  exact .tup (.inl (.inr ⟨o, view_new t1.inv np⟩)) (dpAll_mono (Side.To.ex (.new t1.inv np)) _ _ i1.data) fun _ => .inl ⟨o, _, view_new t1.inv np, nd⟩
theorem ev_lst (h : EvA K S tx ρ fun xs => ∃ ds : List PyData, xs = ds.map DV.d ∧ ds.length ≤ sizeLine ∧ P (.d (.list ds))) : Ev K S (tLst tx) ρ P := fun σ H hi he Q q => h σ H hi he _ fun vs xs H1 t1 i1 p1 => by
  obtain ⟨ds, rfl, hl, p⟩ := p1
  have e := i1.len
  rw [List.length_map] at e
  refine ⟨by rw [e]; exact hl, fun p' np => q _ (.d (.list ds)) _ (t1.trans (.new t1.inv np)) ?_ p⟩
  exact .lst (.inl (.inl (view_new t1.inv np))) (dpAll_mono (Side.To.ex (.new t1.inv np)) _ _ i1.data)
end

/-! ### statements -/
section
variable {K : PySem.W.Frag} {S : Side} {ρ : Rho} {ta tb te : TE} {tt : TT} {t u : TS} {P : Out → Prop}
theorem run_ret (h : Ev K S te ρ fun x => P (.rt x)) : Run K S (tRet te) ρ P := fun σ H hi he D _ q2 _ _ => h σ H hi he _ fun v x H1 t1 i1 p1 => q2 x v H1 t1 i1 p1
theorem run_asg {i : Nat} (h : Ev K S te ρ fun x => P (.nx (ρ.set i (some x)))) : Run K S (tAsg te (gName i)) ρ P := fun σ H hi he D q1 _ _ _ =>
  h σ H hi he _ fun v x H1 t1 i1 p1 => q1 _ _ H1 t1 ((he.mono t1.ex).set i i1) p1
theorem run_asgG {g : TG} (h : Ev K S te ρ fun x => EvG K S g x ρ fun ρ' => P (.nx ρ')) : Run K S (tAsg te g) ρ P := fun σ H hi he D q1 _ _ _ =>
  h σ H hi he _ fun v x H1 t1 i1 p1 => p1 v σ H1 t1.inv (he.mono t1.ex) i1 _ fun ρ' σ' H2 t2 e2 p2 => q1 _ _ H2 (t1.trans t2) e2 p2
theorem run_drop (h : Ev K S te ρ fun _ => P (.nx ρ)) : Run K S (tDrop te) ρ P := fun σ H hi he D q1 _ _ _ =>
  h σ H hi he _ fun v x H1 t1 i1 p1 => q1 _ _ H1 t1 (he.mono t1.ex) p1
theorem run_next (p : P (.nx ρ)) : Run K S tNext ρ P := fun σ H hi he D q1 _ _ _ => q1 _ _ H (.refl hi) he p
theorem run_seq (h : Run K S t ρ fun o => match o with | .nx ρ' => Run K S u ρ' P | o => P o) : Run K S (tSeq t u) ρ P := fun σ H hi he D q1 q2 q3 q4 =>
  h σ H hi he { D with nx := u D } (fun ρ' σ' H1 t1 e1 p1 => p1 σ' H1 t1.inv e1 D (fun r s H2 t2 e2 p2 => q1 r s H2 (t1.trans t2) e2 p2) (fun r s H2 t2 e2 p2 => q2 r s H2 (t1.trans t2) e2 p2) (fun r s H2 t2 e2 p2 => q3 r s H2 (t1.trans t2) e2 p2)
    fun r s H2 t2 e2 p2 => q4 r s H2 (t1.trans t2) e2 p2) q2 q3 q4
theorem run_if (h : EvT K S tt ρ fun b => (b = true → Run K S t ρ P) ∧ (b = false → Run K S u ρ P)) : Run K S (tIfS tt t u) ρ P := fun σ H hi he D q1 q2 q3 q4 =>
  h σ H hi he _ fun b H1 t1 p => by
    have k1 := fun r s H2 (t2 : S.To H1 H2) e2 p2 => q1 r s H2 (t1.trans t2) e2 p2
    have k2 := fun r s H2 (t2 : S.To H1 H2) e2 p2 => q2 r s H2 (t1.trans t2) e2 p2
    have k3 := fun r s H2 (t2 : S.To H1 H2) e2 p2 => q3 r s H2 (t1.trans t2) e2 p2
    have k4 := fun r s H2 (t2 : S.To H1 H2) e2 p2 => q4 r s H2 (t1.trans t2) e2 p2
    cases b with
    | true =>
      rw [if_pos rfl]
      exact p.1 rfl σ H1 t1.inv (he.mono t1.ex) D k1 k2 k3 k4
    | false =>
      rw [if_neg Bool.false_ne_true]
      exact p.2 rfl σ H1 t1.inv (he.mono t1.ex) D k1 k2 k3 k4
theorem run_break (p : P (.bk ρ)) : Run K S tBreak ρ P := fun σ H hi he D _ _ q3 _ => q3 _ _ H (.refl hi) he p
theorem run_cont (p : P (.ct ρ)) : Run K S tCont ρ P := fun σ H hi he D _ _ _ q4 => q4 _ _ H (.refl hi) he p
theorem eg_name {i : Nat} {x : DV} {P : Rho → Prop} (p : P (ρ.set i (some x))) : EvG K S (gName i) x ρ P := fun v σ H hi he hx Q q => q _ _ H (.refl hi) (he.set i hx) p
end
end Tw
namespace Tw
open PySem PySem.Spec PyProof.Rows L2

/-! ### operations on data: equality, membership, concatenation -/
section
variable {X : Cx}
def rEqP (K : PySem.W.Frag) : R2 := fun x y H Q => ∃ d e, Dp K H x d ∧ Dp K H y e ∧ min d.depth e.depth ≤ 60 ∧ Q (.bl (PyData.eqv d e)) H
def rNeP (K : PySem.W.Frag) : R2 := fun x y H Q => ∃ d e, Dp K H x d ∧ Dp K H y e ∧ min d.depth e.depth ≤ 60 ∧ Q (.bl (!PyData.eqv d e)) H
theorem op_eqP (hu : X.A.units + 64 < cLine) : OpR X (compareOp .Eq) (rEqP X.K) := by
  intro pins s σ H x y v u Q I rx ry h
  obtain ⟨d, e, hd, he, hm, q⟩ := h
  obtain ⟨as, r1⟩ := Dp.reads I d x v hd rx
  obtain ⟨bs, r2⟩ := Dp.reads I e y u he ry
  exact SeqAt.eq_plain r1 r2 (dp_plain d x hd) (dp_plain e y he) (by omega) ⟨.bl _, H, I, rfl, q⟩
theorem op_neP (hu : X.A.units + 64 < cLine) : OpR X (compareOp .NotEq) (rNeP X.K) := by
  intro pins s σ H x y v u Q I rx ry h
  obtain ⟨d, e, hd, he, hm, q⟩ := h
  obtain ⟨as, r1⟩ := Dp.reads I d x v hd rx
  obtain ⟨bs, r2⟩ := Dp.reads I e y u he ry
  exact SeqAt.ne_plain r1 r2 (dp_plain d x hd) (dp_plain e y he) (by omega) ⟨.bl _, H, I, rfl, q⟩
def rInP (K : PySem.W.Frag) (neg : Bool) : R2 := fun x y H Q => ∃ d ds, Dp K H x d ∧ (Dp K H y (.list ds) ∨ Dp K H y (.tuple ds)) ∧ d.depth ≤ 60 ∧ Q (.bl (if neg then !(ds.any fun z => PyData.eqv z d) else ds.any fun z => PyData.eqv z d)) H
theorem op_inP (hu : X.A.units + 64 < cLine) : OpR X (compareOp .In) (rInP X.K false) := by
  intro pins s σ H x y v u Q I rx ry h
  obtain ⟨d, ds, hd, he, hm, q⟩ := h
  obtain ⟨as, r1⟩ := Dp.reads I d x v hd rx
  rcases he with he | he
  · obtain ⟨bs, r2⟩ := Dp.reads I (.list ds) y u he ry
    exact SeqAt.in_list_data r2 r1 (dp_plain (.list ds) y he) (dp_plain d x hd) (by omega) ⟨.bl _, H, I, rfl, q⟩
  · obtain ⟨bs, r2⟩ := Dp.reads I (.tuple ds) y u he ry
    exact SeqAt.in_tuple_data r2 r1 (dp_plain (.tuple ds) y he) (dp_plain d x hd) (by omega) ⟨.bl _, H, I, rfl, q⟩
theorem op_notInP (hu : X.A.units + 64 < cLine) : OpR X (compareOp .NotIn) (rInP X.K true) := by
  intro pins s σ H x y v u Q I rx ry h
  obtain ⟨d, ds, hd, he, hm, q⟩ := h
  obtain ⟨as, r1⟩ := Dp.reads I d x v hd rx
  rcases he with he | he
  · obtain ⟨bs, r2⟩ := Dp.reads I (.list ds) y u he ry
    exact SeqAt.notIn_list_data r2 r1 (dp_plain (.list ds) y he) (dp_plain d x hd) (by omega) ⟨.bl _, H, I, rfl, q⟩
  · obtain ⟨bs, r2⟩ := Dp.reads I (.tuple ds) y u he ry
    exact SeqAt.notIn_tuple_data r2 r1 (dp_plain (.tuple ds) y he) (dp_plain d x hd) (by omega) ⟨.bl _, H, I, rfl, q⟩
/-- list + list, read -/
def rCatL (K : PySem.W.Frag) : R2 := fun x y H Q => ∃ l b xs zs, x = .ref l ∧ y = .ref b ∧ SqL K H l xs ∧ SqL K H b zs ∧ xs.length + zs.length ≤ sizeLine ∧ ∀ p, H p = none → Q (.ref p) (upd H p (.lst (xs ++ zs)))
theorem plainL_get {h : Heap} {a : Addr} {its : List Value} (p : PlainL h a its.toArray) : ∃ (n : Nat) (sl : Array (Option Value)), h.get? a = some ⟨.type "list", none, .seq its.toArray n, sl⟩ := by
  obtain ⟨⟨c, dd, dt, sl⟩, n, e, h1, h2, h3⟩ := p
  simp only at h1 h2 h3
  subst h1 h2 h3
  exact ⟨n, sl, e⟩
theorem op_catL : OpR X (binaryOp .Add) (rCatL X.K) := by
  intro pins s σ H x y v u Q I rx ry h
  obtain ⟨l, b, xs, zs, rfl, rfl, hH, hB, hz, q⟩ := h
  cases rx
  cases ry
  obtain ⟨its, r, pl, hl⟩ := I.list hH
  obtain ⟨its2, r2, pl2, hl2⟩ := I.list hB
  obtain ⟨n, sl, e⟩ := plainL_get pl
  obtain ⟨n2, sl2, e2⟩ := plainL_get pl2
  have el := r.length
  have el2 := r2.length
  have ea : its.toArray ++ its2.toArray = (its ++ its2).toArray := by simp
  refine concat_meets ⟨_, e, rfl⟩ ⟨_, e2, rfl⟩ noFill_list_add seq_list_add PySem.F.slot_list_add PySem.F.entry_list_add (PySem.F.args_list_add_2 _ _) (list_addW l b its.toArray its2.toArray n n2 none none sl sl2 (by rw [List.size_toArray, List.size_toArray]; omega)) ⟨e, e2, ?_⟩
  rw [ea]
  exact ⟨.ref _, _, I.lnew (t' := s.toks) (r.append r2) (by rw [List.length_append]; omega), rfl, q _ I.fresh⟩
end

/-! ### their big steps -/
section
variable {K : PySem.W.Frag} {S : Side} {ρ : Rho} {P : DV → Prop}
theorem dp_d {K : PySem.W.Frag} {M : Hp} {v : V} {d : PyData} (h : Is K M v (.d d)) : Dp K M v d := h
theorem view_ex (S : Side) (H : Hp) : Evl.Ex (S.view H) H := fun a o e => view_sub e
theorem dp_up {v : V} {d : PyData} {H : Hp} (h : Is K (S.view H) v (.d d)) : Dp K H v d := dp_mono (view_ex S H) d v h
theorem e2_int {g : Int → Int → Int} {i j : Int} (p : P (.d (.int (g i j)))) : Ev2 K S (rI0 fun i j => .int (g i j)) (.d (.int i)) (.d (.int j)) P := fun v w H hi hv hw Q q => by
  cases hv
  cases hw
  exact ⟨i, j, rfl, rfl, q _ (.d (.int _)) H (.refl hi) (show Dp _ _ _ _ from .int _) p⟩
theorem e2_bl {g : Int → Int → Bool} {i j : Int} (p : P (.d (.bool (g i j)))) : Ev2 K S (rI0 fun i j => .bl (g i j)) (.d (.int i)) (.d (.int j)) P := fun v w H hi hv hw Q q => by
  cases hv
  cases hw
  exact ⟨i, j, rfl, rfl, q _ (.d (.bool _)) H (.refl hi) (show Dp _ _ _ _ from .bl _) p⟩
theorem e2_I {C : Int → Int → Prop} {g : Int → Int → Int} {i j : Int} (c : C i j) (p : P (.d (.int (g i j)))) : Ev2 K S (rI C fun i j => .int (g i j)) (.d (.int i)) (.d (.int j)) P := fun v w H hi hv hw Q q => by
  cases hv
  cases hw
  exact ⟨i, j, rfl, rfl, c, q _ (.d (.int _)) H (.refl hi) (show Dp _ _ _ _ from .int _) p⟩
theorem e2_eq {d e : PyData} (hm : min d.depth e.depth ≤ 60) (p : P (.d (.bool (PyData.eqv d e)))) : Ev2 K S (rEqP K) (.d d) (.d e) P := fun v w H hi hv hw Q q =>
  ⟨d, e, dp_up hv, dp_up hw, hm, q _ (.d (.bool _)) H (.refl hi) (show Dp _ _ _ _ from .bl _) p⟩
theorem e2_ne {d e : PyData} (hm : min d.depth e.depth ≤ 60) (p : P (.d (.bool (!PyData.eqv d e)))) : Ev2 K S (rNeP K) (.d d) (.d e) P := fun v w H hi hv hw Q q =>
  ⟨d, e, dp_up hv, dp_up hw, hm, q _ (.d (.bool _)) H (.refl hi) (show Dp _ _ _ _ from .bl _) p⟩
theorem e2_inT {d : PyData} {ds : List PyData} {neg : Bool} (hm : d.depth ≤ 60) (p : P (.d (.bool (if neg then !(ds.any fun z => PyData.eqv z d) else ds.any fun z => PyData.eqv z d)))) : Ev2 K S (rInP K neg) (.d d) (.d (.tuple ds)) P := fun v w H hi hv hw Q q =>
  ⟨d, ds, dp_up hv, .inr (dp_up hw), hm, q _ (.d (.bool _)) H (.refl hi) (show Dp _ _ _ _ from .bl _) p⟩
theorem e2_inL {d : PyData} {ds : List PyData} {neg : Bool} (hm : d.depth ≤ 60) (p : P (.d (.bool (if neg then !(ds.any fun z => PyData.eqv z d) else ds.any fun z => PyData.eqv z d)))) : Ev2 K S (rInP K neg) (.d d) (.d (.list ds)) P := fun v w H hi hv hw Q q =>
  ⟨d, ds, dp_up hv, .inl (dp_up hw), hm, q _ (.d (.bool _)) H (.refl hi) (show Dp _ _ _ _ from .bl _) p⟩
theorem dp_tup {M : Hp} {v : V} {ds : List PyData} (h : Dp K M v (.tuple ds)) : ∃ a xs, v = .ref a ∧ SqT K M a xs ∧ DpAll K M xs ds := by
  cases h with
  | tup hs ha _ => exact ⟨_, _, rfl, hs, ha⟩
theorem dp_lst {M : Hp} {v : V} {ds : List PyData} (h : Dp K M v (.list ds)) : ∃ a xs, v = .ref a ∧ SqL K M a xs ∧ DpAll K M xs ds := by
  cases h with
  | lst hs ha => exact ⟨_, _, rfl, hs, ha⟩
theorem e2_catT {xs ys : List PyData} (hl : xs.length + ys.length ≤ sizeLine) (p : P (.d (.tuple (xs ++ ys)))) : Ev2 K S (rCatA K) (.d (.tuple xs)) (.d (.tuple ys)) P := fun v w H hi hv hw Q q => by
  obtain ⟨a, vs, rfl, ha, da⟩ := dp_tup hv
  obtain ⟨b, ws, rfl, hb, db⟩ := dp_tup hw
  have la := dpa_len da
  have lb := dpa_len db
  refine ⟨a, b, vs, ws, rfl, rfl, ex_sqt (view_ex S H) ha, ex_sqt (view_ex S H) hb, by omega, fun e => ?_, fun e1 e => ?_, fun _ _ p' o np nd => ?_⟩
  · subst e
    cases da
    exact q _ (.d (.tuple ys)) H (.refl hi) hw p
  · subst e
    cases db
    rw [List.append_nil] at p
    exact q _ (.d (.tuple xs)) H (.refl hi) hv p
  · have t := Side.To.new (S := S) (o := .frz o (.tup (vs ++ ws))) hi np
    exact q _ (.d (.tuple (xs ++ ys))) _ t (.tup (.inl (.inr ⟨o, view_new hi np⟩)) (dpAll_mono t.ex _ _ (dpa_app da db)) fun _ => .inl ⟨o, _, view_new hi np, nd⟩) p
theorem e2_catL {xs ys : List PyData} (hl : xs.length + ys.length ≤ sizeLine) (p : P (.d (.list (xs ++ ys)))) : Ev2 K S (rCatL K) (.d (.list xs)) (.d (.list ys)) P := fun v w H hi hv hw Q q => by
  obtain ⟨a, vs, rfl, ha, da⟩ := dp_lst hv
  obtain ⟨b, ws, rfl, hb, db⟩ := dp_lst hw
  have la := dpa_len da
  have lb := dpa_len db
  refine ⟨a, b, vs, ws, rfl, rfl, ex_sql (view_ex S H) ha, ex_sql (view_ex S H) hb, by omega, fun p' np => ?_⟩
  have t := Side.To.new (S := S) (o := .lst (vs ++ ws)) hi np
  exact q _ (.d (.list (xs ++ ys))) _ t (.lst (.inl (.inl (view_new hi np))) (dpAll_mono t.ex _ _ (dpa_app da db))) p
theorem at_data {M : Hp} {vs : List V} {ds : List PyData} {i : Int} {d : PyData} (h : DpAll K M vs ds) (e : atI ds i = some d) : ∃ v, atI vs i = some v ∧ Dp K M v d := by
  unfold atI at e ⊢
  rw [dpa_len h]
  cases q : ixN ds.length i with
  | none => rw [q] at e; cases e
  | some j =>
    rw [q] at e
    exact dpa_get' (i := j) h e
theorem e2_ixT {ds : List PyData} {i : Int} {d : PyData} (e : atI ds i = some d) (p : P (.d d)) : Ev2 K S (rIxT K) (.d (.tuple ds)) (.d (.int i)) P := fun v w H hi hv hw Q q => by
  obtain ⟨a, vs, rfl, ha, da⟩ := dp_tup hv
  cases hw
  obtain ⟨x, e1, hx⟩ := at_data da e
  exact ⟨a, vs, i, x, rfl, rfl, ex_sqt (view_ex S H) ha, e1, q x (.d d) H (.refl hi) hx p⟩
theorem e2_ixL {ds : List PyData} {i : Int} {d : PyData} (e : atI ds i = some d) (p : P (.d d)) : Ev2 K S (rIxL K) (.d (.list ds)) (.d (.int i)) P := fun v w H hi hv hw Q q => by
  obtain ⟨a, vs, rfl, ha, da⟩ := dp_lst hv
  cases hw
  obtain ⟨x, e1, hx⟩ := at_data da e
  exact ⟨a, vs, i, x, rfl, rfl, ex_sql (view_ex S H) ha, e1, q x (.d d) H (.refl hi) hx p⟩
theorem e2_isB {a b : Bool} (p : P (.d (.bool (decide (a = b))))) : Ev2 K S rIsB (.d (.bool a)) (.d (.bool b)) P := fun v w H hi hv hw Q q => by
  cases hv
  cases hw
  exact ⟨a, b, rfl, rfl, q _ (.d (.bool _)) H (.refl hi) (show Dp _ _ _ _ from .bl _) p⟩
theorem e2_notB {a b : Bool} (p : P (.d (.bool (!decide (a = b))))) : Ev2 K S rNotB (.d (.bool a)) (.d (.bool b)) P := fun v w H hi hv hw Q q => by
  cases hv
  cases hw
  exact ⟨a, b, rfl, rfl, q _ (.d (.bool _)) H (.refl hi) (show Dp _ _ _ _ from .bl _) p⟩
/-- by values, from data -/
def rLen (K : PySem.W.Frag) : List V → Hp → VK → Prop := fun xs H Q => ∃ p ys, xs = [.ref p] ∧ (SqL K H p ys ∨ SqT K H p ys) ∧ Q (.int ys.length) H
theorem ec_lenL {ds : List PyData} (p : P (.d (.int ds.length))) : EvC K S (rLen K) [.d (.list ds)] P := fun vs H hi hv Q q => by
  match vs, hv with
  | [v], hv =>
    obtain ⟨a, ws, rfl, ha, da⟩ := dp_lst hv.1
    refine ⟨a, ws, rfl, .inl (ex_sql (view_ex S H) ha), ?_⟩
    rw [dpa_len da]
    exact q _ (.d (.int _)) H (.refl hi) (show Dp _ _ _ _ from .int _) p
theorem ec_lenT {ds : List PyData} (p : P (.d (.int ds.length))) : EvC K S (rLen K) [.d (.tuple ds)] P := fun vs H hi hv Q q => by
  match vs, hv with
  | [v], hv =>
    obtain ⟨a, ws, rfl, ha, da⟩ := dp_tup hv.1
    refine ⟨a, ws, rfl, .inr (ex_sqt (view_ex S H) ha), ?_⟩
    rw [dpa_len da]
    exact q _ (.d (.int _)) H (.refl hi) (show Dp _ _ _ _ from .int _) p
def rInt1 : List V → Hp → VK → Prop := fun xs H Q => (∃ i, xs = [.int i] ∧ Q (.int i) H) ∨ ∃ k, xs = [.bl k] ∧ Q (.int (if k then 1 else 0)) H
theorem ec_int {i : Int} (p : P (.d (.int i))) : EvC K S rInt1 [.d (.int i)] P := fun vs H hi hv Q q => by
  match vs, hv with
  | [v], hv =>
    cases dp_d hv.1
    exact .inl ⟨i, rfl, q _ (.d (.int _)) H (.refl hi) (show Dp _ _ _ _ from .int _) p⟩
theorem ec_tupL {ds : List PyData} (p : P (.d (.tuple ds))) : EvC K S (rTupOf K) [.d (.list ds)] P := fun vs H hi hv Q q => by
  match vs, hv with
  | [v], hv =>
    obtain ⟨a, ws, rfl, ha, da⟩ := dp_lst hv.1
    refine ⟨a, ws, rfl, .inl ⟨ex_sql (view_ex S H) ha, fun l o nl nd => ?_⟩⟩
    have t := Side.To.new (S := S) (o := .frz o (.tup ws)) hi nl
    exact q _ (.d (.tuple ds)) _ t (.tup (.inl (.inr ⟨o, view_new hi nl⟩)) (dpAll_mono t.ex _ _ da) fun _ => .inl ⟨o, _, view_new hi nl, nd⟩) p
theorem ec_tupT {ds : List PyData} (p : P (.d (.tuple ds))) : EvC K S (rTupOf K) [.d (.tuple ds)] P := fun vs H hi hv Q q => by
  match vs, hv with
  | [v], hv =>
    have h0 := dp_d hv.1
    obtain ⟨a, ws, rfl, ha, da⟩ := dp_tup hv.1
    exact ⟨a, ws, rfl, .inr ⟨ex_sqt (view_ex S H) ha, q _ (.d (.tuple ds)) H (.refl hi) h0 p⟩⟩
def rLstOf (K : PySem.W.Frag) : List V → Hp → VK → Prop := fun xs H Q => ∃ p ys, xs = [.ref p] ∧ (SqL K H p ys ∨ SqT K H p ys) ∧ ∀ l, H l = none → Q (.ref l) (upd H l (.lst ys))
theorem ec_lstL {ds : List PyData} (p : P (.d (.list ds))) : EvC K S (rLstOf K) [.d (.list ds)] P := fun vs H hi hv Q q => by
  match vs, hv with
  | [v], hv =>
    obtain ⟨a, ws, rfl, ha, da⟩ := dp_lst hv.1
    refine ⟨a, ws, rfl, .inl (ex_sql (view_ex S H) ha), fun l nl => ?_⟩
    have t := Side.To.new (S := S) (o := .lst ws) hi nl
    exact q _ (.d (.list ds)) _ t (.lst (.inl (.inl (view_new hi nl))) (dpAll_mono t.ex _ _ da)) p
theorem ec_lstT {ds : List PyData} (p : P (.d (.list ds))) : EvC K S (rLstOf K) [.d (.tuple ds)] P := fun vs H hi hv Q q => by
  match vs, hv with
  | [v], hv =>
    obtain ⟨a, ws, rfl, ha, da⟩ := dp_tup hv.1
    refine ⟨a, ws, rfl, .inr (ex_sqt (view_ex S H) ha), fun l nl => ?_⟩
    have t := Side.To.new (S := S) (o := .lst ws) hi nl
    exact q _ (.d (.list ds)) _ t (.lst (.inl (.inl (view_new hi nl))) (dpAll_mono t.ex _ _ da)) p
/-- the built-in type of data -/
def tyN : PyData → String
  | .none => "NoneType"
  | .bool _ => "bool"
  | .int _ => "int"
  | .str _ => "str"
  | .list _ => "list"
  | .tuple _ => "tuple"
  | .dict _ => "dict"
theorem tyx_of {H : Hp} {v : V} {d : PyData} (h : Dp K H v d) : TyX K H v (.type (tyN d)) := by
  cases h with
  | non => exact .base .non
  | bl b => exact .base (.bl b)
  | int i => exact .base (.int i)
  | str x => exact .base (.str x)
  | lst hs ha =>
    rcases hs with (hs | ⟨o, hs⟩) | ⟨o, its, n, hk, hc, _⟩
    · exact .base (.lst hs)
    · exact .base (.frz hs)
    · exact .kList hk hc
  | tup hs ha _ =>
    rcases hs with (hs | ⟨o, hs⟩) | ⟨o, its, n, hk, hc, _⟩
    · exact .base (.tup hs)
    · exact .fTuple hs
    · exact .kTuple hk hc
theorem ec_isi {d : PyData} {n : String} {b : Bool} (hb : kitB (tyN d) n = some b) (p : P (.d (.bool b))) : EvC K S (rIsi K) [.d d, .v (.ty n)] P := fun vs H hi hv Q q => by
  match vs, hv with
  | [v, c], hv =>
    cases (show c = V.ty n from hv.2.1)
    exact ⟨v, .ty n, _, _, b, rfl, .ty n, tyx_of (dp_up hv.1), kit_ty hb, q _ (.d (.bool b)) H (.refl hi) (show Dp _ _ _ _ from .bl b) p⟩
/-- isinstance(x, (a, b)) -/
theorem ev_isi2 {te : TE} {n m : String} (h : Ev K S te ρ fun x => ∃ (d : PyData) (b c : Bool), x = .d d ∧ kitB (tyN d) n = some b ∧ kitB (tyN d) m = some c ∧ P (.d (.bool (b || c)))) :
    Ev K S (tCB (rIsiT K) (tCons te (tCons (L2.tTup (tCons (tC (.ty n)) (tCons (tC (.ty m)) tNil))) tNil))) ρ P := fun σ H hi he Q q => h σ H hi he _ fun v x H1 t1 i1 p1 => by
  obtain ⟨d, b, c, rfl, hb, hc, p1⟩ := p1
  refine ⟨(by show 2 ≤ sizeLine; decide), fun p' np => ?_⟩
  have t2 := Side.To.new (S := S) (o := .tup [.ty n, .ty m]) t1.inv np
  refine ⟨v, p', _, _, _, b || c, rfl, upd_same, .cons (.ty n) (.cons (.ty m) .nil), tyx_of (dp_up (i1.mono t2.ex)), ?_, q _ (.d (.bool _)) _ (t1.trans t2) (show Dp _ _ _ _ from .bl _) p1⟩
  refine kitAny_cons (kit_ty hb) (fun e => ?_) (fun e => by rw [e]; rfl)
  subst e
  refine kitAny_cons (kit_ty hc) (fun e => ?_) (fun e => by rw [e]; rfl)
  subst e
  rfl
end

end Tw
namespace Tw
open PySem PySem.Spec PyProof.Rows L2

/-! ### one address more that data may not speak of -/
def Side.hide (S : Side) (D : Addr) : Side where
  mutb := S.mutb
  hid := fun a => S.hid a ∨ a = D
  inv := fun H => S.inv H ∧ H D ≠ none
  sub := fun a h => .inl (S.sub a h)
  there := fun H a h z => z.elim (S.there H a h.1) fun e => by rw [e]; exact h.2
  put := fun H p o h n nf => ⟨S.put H p o h.1 (fun z => n (.inl z)) nf, by
    rw [upd_ne (fun e : D = p => n (.inr e.symm))]
    exact h.2⟩
theorem hide_ex {S : Side} {D : Addr} (H : Hp) : Evl.Ex ((S.hide D).view H) (S.view H) := fun a o e => by
  obtain ⟨n, e⟩ := view_some.mp e
  exact view_some.mpr ⟨fun z => n (.inl z), e⟩
theorem to_hide {S : Side} {D : Addr} {H H2 : Hp} (t : (S.hide D).To H H2) : S.To H H2 := ⟨t.inv.1, t.keep⟩
theorem ex_hide {S : Side} {D : Addr} {H1 H2 : Hp} (n : H1 D = none) (t : ∀ a o, ¬ S.mutb a → H1 a = some o → H2 a = some o) : Evl.Ex (S.view H1) ((S.hide D).view H2) := fun a o e => by
  obtain ⟨h, e⟩ := view_some.mp e
  refine view_some.mpr ⟨fun z => z.elim h fun q => ?_, t a o (fun m => h (S.sub a m)) e⟩
  rw [q, n] at e
  cases e
/-- the sides that a side grows into -/
inductive Side.Le : Side → Side → Prop
  | refl (S : Side) : Side.Le S S
  | hide {S T : Side} (D : Addr) : Side.Le S T → Side.Le S (T.hide D)
theorem Side.Le.trans {S T U : Side} (a : Side.Le S T) (b : Side.Le T U) : Side.Le S U := by
  induction b with
  | refl => exact a
  | hide D _ ih => exact .hide D ih

/-! ### what is walked -/
/-- J yields the data ds, one after another, wherever M still stands -/
structure Walk (K : PySem.W.Frag) (J : It) (ds : List PyData) (M : Hp) : Prop where
  go : ∀ (S : Side) (H : Hp) (i : Nat), S.inv H → Evl.Ex M (S.view H) → i < ds.length → J.go i H
  stop : ∀ (S : Side) (H : Hp) (i : Nat), S.inv H → Evl.Ex M (S.view H) → ds.length ≤ i → J.stop i H
  yld : ∀ (S : Side) (H : Hp) (i : Nat) (x : V) (H' : Hp), S.inv H → Evl.Ex M (S.view H) → i < ds.length → J.yld i H x H' → S.To H H' ∧ ∃ d, ds[i]? = some d ∧ Dp K (S.view H') x d
def EvI (K : PySem.W.Frag) (S : Side) (wi : TI) (ρ : Rho) (P : List PyData → Prop) : Prop := ∀ σ H, S.inv H → EnvOk K (S.view H) σ ρ → ∀ R : It → Hp → Prop, (∀ J ds H1, S.To H H1 → Walk K J ds (S.view H1) → P ds → R J H1) → wi σ H R
section
variable {K : PySem.W.Frag} {S : Side} {ρ : Rho}
theorem walk_list {a : Addr} {vs : List V} {ds : List PyData} {M : Hp} (h : SqL K M a vs) (hd : DpAll K M vs ds) : Walk K (Itl K a) ds M where
  go := fun S H i hi e hl => by
    obtain ⟨v, hv, _⟩ := dpa_get' hd (List.getElem?_eq_getElem hl)
    exact ⟨vs, v, ex_sql (view_ex S H) (ex_sql e h), hv⟩
  stop := fun S H i hi e hl => ⟨vs, ex_sql (view_ex S H) (ex_sql e h), by rw [dpa_len hd]; exact hl⟩
  yld := fun S H i x H' hi e _ y => by
    obtain ⟨rfl, y⟩ := y
    obtain ⟨d, h1, h2⟩ := dpa_get hd (y vs (ex_sql (view_ex S H') (ex_sql e h)))
    exact ⟨.refl hi, d, h1, dp_mono e d x h2⟩
theorem walk_tup {a : Addr} {vs : List V} {ds : List PyData} {M : Hp} (h : SqT K M a vs) (hd : DpAll K M vs ds) : Walk K (Itt K a) ds M where
  go := fun S H i hi e hl => by
    obtain ⟨v, hv, _⟩ := dpa_get' hd (List.getElem?_eq_getElem hl)
    exact ⟨vs, v, ex_sqt (view_ex S H) (ex_sqt e h), hv⟩
  stop := fun S H i hi e hl => ⟨vs, ex_sqt (view_ex S H) (ex_sqt e h), by rw [dpa_len hd]; exact hl⟩
  yld := fun S H i x H' hi e _ y => by
    obtain ⟨rfl, y⟩ := y
    obtain ⟨d, h1, h2⟩ := dpa_get hd (y vs (ex_sqt (view_ex S H') (ex_sqt e h)))
    exact ⟨.refl hi, d, h1, dp_mono e d x h2⟩
def rangeD (lo : Int) (n : Nat) : List PyData := (List.range n).map fun (i : Nat) => PyData.int (lo + (i : Int))
theorem rangeD_len (lo : Int) (n : Nat) : (rangeD lo n).length = n := by simp [rangeD]
theorem rangeD_get {lo : Int} {n i : Nat} (h : i < n) : (rangeD lo n)[i]? = some (.int (lo + (i : Int))) := by simp [rangeD, h]
theorem walk_rng {lo : Int} {n : Nat} {M : Hp} : Walk K (Itr lo n) (rangeD lo n) M where
  go := fun S H i hi e hl => by rw [rangeD_len] at hl; exact hl
  stop := fun S H i hi e hl => by rw [rangeD_len] at hl; exact hl
  yld := fun S H i x H' hi e hl y => by
    obtain ⟨rfl, rfl⟩ := y
    rw [rangeD_len] at hl
    exact ⟨.refl hi, _, rangeD_get hl, .int _⟩
theorem ei_list {tl : TE} {P : List PyData → Prop} (h : Ev K S tl ρ fun x => ∃ ds, x = .d (.list ds) ∧ P ds) : EvI K S (iList K tl) ρ P := fun σ H hi he R r => h σ H hi he _ fun v x H1 t1 i1 p1 => by
  obtain ⟨ds, rfl, p⟩ := p1
  obtain ⟨a, vs, rfl, ha, da⟩ := dp_lst i1
  exact ⟨a, rfl, ⟨vs, ex_sql (view_ex S H1) ha⟩, r _ ds H1 t1 (walk_list ha da) p⟩
theorem ei_tup {tl : TE} {P : List PyData → Prop} (h : Ev K S tl ρ fun x => ∃ ds, x = .d (.tuple ds) ∧ P ds) : EvI K S (iTup K tl) ρ P := fun σ H hi he R r => h σ H hi he _ fun v x H1 t1 i1 p1 => by
  obtain ⟨ds, rfl, p⟩ := p1
  obtain ⟨a, vs, rfl, ha, da⟩ := dp_tup i1
  exact ⟨a, rfl, ⟨vs, ex_sqt (view_ex S H1) ha⟩, r _ ds H1 t1 (walk_tup ha da) p⟩
theorem ei_rng {ta : TA} {P : List PyData → Prop} (h : EvA K S ta ρ fun xs => ∃ j : Int, xs = [.d (.int j)] ∧ (-(2 ^ 62) ≤ j ∧ j < 2 ^ 62) ∧ P (rangeD 0 j.toNat)) : EvI K S (iRng1 ta) ρ P := fun σ H hi he R r => h σ H hi he _ fun vs x H1 t1 i1 p1 => by
  obtain ⟨j, rfl, ⟨h1, h2⟩, p⟩ := p1
  match vs, i1 with
  | [v], i1 =>
    cases dp_d i1.1
    exact ⟨j, rfl, h1, h2, r _ _ H1 t1 walk_rng p⟩
theorem ei_rng2 {ta : TA} {P : List PyData → Prop} (h : EvA K S ta ρ fun xs => ∃ i j : Int, xs = [.d (.int i), .d (.int j)] ∧ (-(2 ^ 62) ≤ i ∧ i < 2 ^ 62 ∧ -(2 ^ 62) ≤ j ∧ j < 2 ^ 62) ∧ P (rangeD i (j - i).toNat)) : EvI K S (iRng2 ta) ρ P := fun σ H hi he R r => h σ H hi he _ fun vs x H1 t1 i1 p1 => by
  obtain ⟨i, j, rfl, hb, p⟩ := p1
  match vs, i1 with
  | [v, w], i1 =>
    cases dp_d i1.1
    cases dp_d i1.2.1
    exact ⟨i, j, rfl, hb, r _ _ H1 t1 walk_rng p⟩

/-! ### for -/
def forW (K : PySem.W.Frag) (S : Side) (g : TG) (tb : TS) : List PyData → Rho → (Out → Prop) → Prop
  | [], ρ, P => P (.nx ρ)
  | x :: xs, ρ, P => EvG K S g (.d x) ρ fun ρ2 => Run K S tb ρ2 fun o => match o with
    | .nx ρ' => forW K S g tb xs ρ' P
    | .ct ρ' => forW K S g tb xs ρ' P
    | .bk ρ' => P (.nx ρ')
    | .rt v => P (.rt v)
theorem run_for {wi : TI} {g : TG} {tb : TS} {P : Out → Prop} (h : EvI K S wi ρ fun ds => forW K S g tb ds ρ P) : Run K S (tFor wi g tb) ρ P := fun σ H hi he D q1 q2 q3 q4 =>
  h σ H hi he _ fun J ds H1 t1 W p1 => by
    refine ⟨fun i m σ' H' => m = ds.length - i ∧ i ≤ ds.length ∧ S.To H1 H' ∧ ∃ ρ', EnvOk K (S.view H') σ' ρ' ∧ forW K S g tb (ds.drop i) ρ' P, ⟨_, rfl, Nat.zero_le _, .refl t1.inv, ρ, he.mono t1.ex, p1⟩, ?_⟩
    rintro i m σ' H' ⟨rfl, hl, t, ρ', he', p⟩
    by_cases hlt : i < ds.length
    · refine .inr ⟨W.go S H' i t.inv t.ex hlt, fun σ2 H2 => i + 1 ≤ ds.length ∧ S.To H1 H2 ∧ ∃ ρ2, EnvOk K (S.view H2) σ2 ρ2 ∧ forW K S g tb (ds.drop (i + 1)) ρ2 P, fun σ2 H2 n => ⟨ds.length - (i + 1), by omega, rfl, n⟩, fun x H2 y => ?_⟩
      obtain ⟨t2, d, hd, hx⟩ := W.yld S H' i x H2 t.inv t.ex hlt y
      have e0 : ds.drop i = d :: ds.drop (i + 1) := by
        obtain ⟨h1, h2⟩ := List.getElem?_eq_some_iff.mp hd
        rw [List.drop_eq_getElem_cons h1, h2]
      rw [e0] at p
      refine p x σ' H2 t2.inv (he'.mono t2.ex) hx _ fun ρ3 σ3 H3 t3 e3 p3 => ?_
      have b3 := (t.trans t2).trans t3
      refine p3 σ3 H3 t3.inv e3 _ (fun ρ4 σ4 H4 t4 e4 p4 => ⟨hlt, b3.trans t4, ρ4, e4, p4⟩) (fun v w H4 t4 i4 p4 => q2 v w H4 (t1.trans (b3.trans t4)) i4 p4) (fun ρ4 σ4 H4 t4 e4 p4 => q1 ρ4 σ4 H4 (t1.trans (b3.trans t4)) e4 p4)
        fun ρ4 σ4 H4 t4 e4 p4 => ⟨hlt, b3.trans t4, ρ4, e4, p4⟩
    · have e : i = ds.length := by omega
      subst e
      rw [List.drop_length] at p
      exact .inl ⟨W.stop S H' _ t.inv t.ex (Nat.le_refl _), q1 ρ' σ' H' (t1.trans t) he' p⟩

/-! ### comprehensions: the target one name at place j, one of the block's own -/
def lcW (K : PySem.W.Frag) (S : Side) (ρ : Rho) (j : Nat) (tt : TT) (te : TE) : List PyData → List PyData → (List PyData → Prop) → Prop
  | [], acc, P => P acc
  | x :: xs, acc, P => EvT K S tt (ρ.set j (some (.d x))) fun b => (b = true → Ev K S te (ρ.set j (some (.d x))) fun y => ∃ d, y = .d d ∧ lcW K S ρ j tt te xs (acc ++ [d]) P) ∧ (b = false → lcW K S ρ j tt te xs acc P)
theorem wipe_put {σ : L2.St} {vs : List Nat} {j : Nat} {x : Option V} (hj : j ∈ vs) : L2.wipe ((L2.wipe σ vs).set j x) vs = L2.wipe σ vs := by
  have len : ∀ (σ : L2.St) (vs : List Nat), (L2.wipe σ vs).length = σ.length := L2.wipe_length
  refine List.ext_getElem? fun i => ?_
  by_cases hi : i ∈ vs
  · have none_at : ∀ (σ : L2.St) (vs : List Nat), i ∈ vs → (L2.wipe σ vs)[i]? = if i < σ.length then some none else none := by
      intro σ vs
      induction vs with
      | nil => intro h; cases h
      | cons v vs ih =>
        intro h
        show ((L2.wipe σ vs).set v none)[i]? = _
        by_cases e : v = i
        · subst e
          by_cases hl : v < σ.length
          · rw [List.getElem?_set_self (by rw [len]; exact hl), if_pos hl]
          · rw [List.getElem?_eq_none (by rw [List.length_set, len]; omega), if_neg hl]
        · rw [List.getElem?_set_ne e]
          exact ih ((List.mem_cons.mp h).resolve_left (Ne.symm e))
    rw [none_at _ vs hi, none_at _ vs hi, List.length_set, len]
  · rw [L2.wipe_out hi, List.getElem?_set_ne (fun e : j = i => hi (by rw [← e]; exact hj)), L2.wipe_out hi]
theorem ev_lc {wi : TI} {j : Nat} {tt : TT} {te : TE} {vs : List Nat} {P : DV → Prop} (hj : j ∈ vs)
    (h : EvI K S wi ρ fun ds => ds.length ≤ sizeLine ∧ ∀ T, Side.Le S T → lcW K T (wipeR ρ vs) j tt te ds [] fun out => P (.d (.list out))) : Ev K S (tLc wi (gName j) tt te vs) ρ P := fun σ H hi he Q q =>
  h σ H hi he _ fun J ds H1 t1 W ⟨hz, p1⟩ => by
    intro D nD
    have p1 := p1 (S.hide D) (.hide D (.refl S))
    have t0 := Side.To.new (S := S) (o := .lst []) t1.inv nD
    have inv0 : (S.hide D).inv (upd H1 D (.lst [])) := ⟨t0.inv, by rw [upd_same]; exact fun z => nomatch z⟩
    refine ⟨fun i m H' => m = ds.length - i ∧ i ≤ ds.length ∧ S.To H1 H' ∧ ∃ ys acc, H' D = some (.lst ys) ∧ ys.length ≤ i ∧ DpAll K ((S.hide D).view H') ys acc ∧ lcW K (S.hide D) (wipeR ρ vs) j tt te (ds.drop i) acc (fun out => P (.d (.list out))),
      ⟨_, rfl, Nat.zero_le _, t0, [], [], upd_same, Nat.zero_le _, .nil, p1⟩, ?_⟩
    rintro i m H' ⟨rfl, hl, t, ys, acc, hD, hys, hacc, p⟩
    have inv' : (S.hide D).inv H' := ⟨t.inv, by rw [hD]; exact fun z => nomatch z⟩
    have ex1 : Evl.Ex (S.view H1) ((S.hide D).view H') := ex_hide nD t.keep
    by_cases hlt : i < ds.length
    · refine .inr ⟨W.go _ H' i inv' ex1 hlt, fun H2 => i + 1 ≤ ds.length ∧ S.To H1 H2 ∧ ∃ ys acc, H2 D = some (.lst ys) ∧ ys.length ≤ i + 1 ∧ DpAll K ((S.hide D).view H2) ys acc ∧ lcW K (S.hide D) (wipeR ρ vs) j tt te (ds.drop (i + 1)) acc (fun out => P (.d (.list out))),
        fun H2 n => ⟨ds.length - (i + 1), by omega, rfl, n⟩, fun x H2 y => ?_⟩
      obtain ⟨t2, d, hd, hx⟩ := W.yld _ H' i x H2 inv' ex1 hlt y
      have e0 : ds.drop i = d :: ds.drop (i + 1) := by
        obtain ⟨h1, h2⟩ := List.getElem?_eq_some_iff.mp hd
        rw [List.drop_eq_getElem_cons h1, h2]
      rw [e0] at p
      have nm : ¬ (S.hide D).mutb D := fun z => absurd nD (S.there H1 D t1.inv (S.sub D z))
      have env2 : EnvOk K ((S.hide D).view H2) ((L2.wipe σ vs).set j (some x)) ((wipeR ρ vs).set j (some (.d d))) := (((he.mono t1.ex).mono (fun a o e => t2.ex a o (ex1 a o e))).wipe vs).set j hx
      refine ⟨wipe_put hj, p _ H2 t2.inv env2 _ fun b H3 t3 p3 => ?_⟩
      have b3 := t.trans (to_hide (t2.trans t3))
      cases b with
      | true =>
        rw [if_pos rfl]
        refine p3.1 rfl _ H3 t3.inv (env2.mono t3.ex) _ fun w z H4 t4 i4 p4 => ?_
        obtain ⟨c, rfl, p4⟩ := p4
        have t24 := (t2.trans t3).trans t4
        have hD4 : H4 D = some (.lst ys) := t24.keep D _ nm hD
        refine ⟨ys, hD4, by omega, hlt, ⟨?_, fun a o na e => ?_⟩, ys ++ [w], acc ++ [c], upd_same, by rw [List.length_append, List.length_singleton]; omega, ?_, p4⟩
        · exact S.put H4 D _ t4.inv.1 (nhid t1.inv nD) (nofrz_of hD4 fun _ _ z => nomatch z)
        · rw [upd_ne (ne_of_none e nD)]
          exact (b3.trans (to_hide t4)).keep a o na e
        · have ex4 : Evl.Ex ((S.hide D).view H4) ((S.hide D).view (upd H4 D (.lst (ys ++ [w])))) := fun a o e => by
            obtain ⟨n, e⟩ := view_some.mp e
            exact view_some.mpr ⟨n, by rw [upd_ne (fun z => n (.inr z))]; exact e⟩
          exact dpa_app (dpAll_mono (fun a o e => ex4 a o (t24.ex a o e)) _ _ hacc) (.cons (dp_mono ex4 _ _ i4) .nil)
      | false =>
        rw [if_neg Bool.false_ne_true]
        exact ⟨hlt, b3, ys, acc, (t2.trans t3).keep D _ nm hD, by omega, dpAll_mono (t2.trans t3).ex _ _ hacc, p3.2 rfl⟩
    · have e : i = ds.length := by omega
      subst e
      rw [List.drop_length] at p
      refine .inl ⟨W.stop _ H' _ inv' ex1 (Nat.le_refl _), q _ (.d (.list acc)) H' (t1.trans t) ?_ p⟩
      exact .lst (.inl (.inl (view_some.mpr ⟨nhid t1.inv nD, hD⟩))) (dpAll_mono (hide_ex H') _ _ hacc)
end
end Tw
namespace Tw
open PySem PySem.Spec PyProof.Rows L2

section
variable {K : PySem.W.Frag} {S : Side} {ρ : Rho}
/-! ### a comprehension with two fors -/
def inW (K : PySem.W.Frag) (S : Side) (ρ : Rho) (j : Nat) (tt : TT) (te : TE) : List PyData → List PyData → (List PyData → Prop) → Prop
  | [], acc, P => P acc
  | x :: xs, acc, P => EvT K S tt (ρ.set j (some (.d x))) fun b => (b = true → Ev K S te (ρ.set j (some (.d x))) fun y => ∃ d, y = .d d ∧ acc.length < sizeLine ∧ inW K S ρ j tt te xs (acc ++ [d]) P) ∧ (b = false → inW K S ρ j tt te xs acc P)
def lc2W (K : PySem.W.Frag) (S : Side) (ρ : Rho) (j : Nat) (tt : TT) (wi1 : TI) (j1 : Nat) (vs1 : List Nat) (tt1 : TT) (te : TE) : List PyData → List PyData → (List PyData → Prop) → Prop
  | [], acc, P => P acc
  | x :: xs, acc, P => EvT K S tt (ρ.set j (some (.d x))) fun b => (b = true → EvI K S wi1 (ρ.set j (some (.d x))) fun es => inW K S (wipeR (ρ.set j (some (.d x))) vs1) j1 tt1 te es acc fun acc' => lc2W K S ρ j tt wi1 j1 vs1 tt1 te xs acc' P) ∧
      (b = false → lc2W K S ρ j tt wi1 j1 vs1 tt1 te xs acc P)
theorem drop_cons {ds : List PyData} {i : Nat} {d : PyData} (hd : ds[i]? = some d) : ds.drop i = d :: ds.drop (i + 1) := by
  obtain ⟨h1, h2⟩ := List.getElem?_eq_some_iff.mp hd
  rw [List.drop_eq_getElem_cons h1, h2]
theorem ev_lc2 {wi wi1 : TI} {j j1 : Nat} {tt tt1 : TT} {te : TE} {vs vs1 : List Nat} {P : DV → Prop} (hj : j ∈ vs) (hj1 : j1 ∈ vs1)
    (h : EvI K S wi ρ fun ds => ∀ T, Side.Le S T → lc2W K T (wipeR ρ vs) j tt wi1 j1 vs1 tt1 te ds [] fun out => P (.d (.list out))) : Ev K S (tLc2 wi (gName j) tt wi1 (gName j1) tt1 te vs vs1) ρ P := fun σ H hi he Q q =>
  h σ H hi he _ fun J ds H1 t1 W p1 => by
    intro D nD
    have p1 := p1 (S.hide D) (.hide D (.refl S))
    have t0 := Side.To.new (S := S) (o := .lst []) t1.inv nD
    have nm : ¬ (S.hide D).mutb D := fun z => absurd nD (S.there H1 D t1.inv (S.sub D z))
    -- what stands between two turns
    have St : ∀ H' : Hp, S.To H1 H' → (∃ ys, H' D = some (.lst ys)) → (S.hide D).inv H' ∧ Evl.Ex (S.view H1) ((S.hide D).view H') := fun H' t ⟨ys, e⟩ => ⟨⟨t.inv, by rw [e]; exact fun z => nomatch z⟩, ex_hide nD t.keep⟩
    have app : ∀ (H4 : Hp) (ys : List V) (acc : List PyData) (w : V) (c : PyData), S.To H1 H4 → H4 D = some (.lst ys) → DpAll K ((S.hide D).view H4) ys acc → Dp K ((S.hide D).view H4) w c →
        S.To H1 (upd H4 D (.lst (ys ++ [w]))) ∧ DpAll K ((S.hide D).view (upd H4 D (.lst (ys ++ [w])))) (ys ++ [w]) (acc ++ [c]) := fun H4 ys acc w c t hD ha hw => by
      refine ⟨⟨S.put H4 D _ t.inv (nhid t1.inv nD) (nofrz_of hD fun _ _ z => nomatch z), fun a o na e => by rw [upd_ne (ne_of_none e nD)]; exact t.keep a o na e⟩, ?_⟩
      have ex4 : Evl.Ex ((S.hide D).view H4) ((S.hide D).view (upd H4 D (.lst (ys ++ [w])))) := fun a o e => by
        obtain ⟨n, e⟩ := view_some.mp e
        exact view_some.mpr ⟨n, by rw [upd_ne (fun z => n (.inr z))]; exact e⟩
      exact dpa_app (dpAll_mono ex4 _ _ ha) (.cons (dp_mono ex4 _ _ hw) .nil)
    refine ⟨fun i m H' => m = ds.length - i ∧ i ≤ ds.length ∧ S.To H1 H' ∧ ∃ ys acc, H' D = some (.lst ys) ∧ DpAll K ((S.hide D).view H') ys acc ∧ lc2W K (S.hide D) (wipeR ρ vs) j tt wi1 j1 vs1 tt1 te (ds.drop i) acc (fun out => P (.d (.list out))),
      ⟨_, rfl, Nat.zero_le _, t0, [], [], upd_same, .nil, p1⟩, ?_⟩
    rintro i m H' ⟨rfl, hl, t, ys, acc, hD, hacc, p⟩
    obtain ⟨inv', ex1⟩ := St H' t ⟨ys, hD⟩
    by_cases hlt : i < ds.length
    · refine .inr ⟨W.go _ H' i inv' ex1 hlt, fun H2 => i + 1 ≤ ds.length ∧ S.To H1 H2 ∧ ∃ ys acc, H2 D = some (.lst ys) ∧ DpAll K ((S.hide D).view H2) ys acc ∧ lc2W K (S.hide D) (wipeR ρ vs) j tt wi1 j1 vs1 tt1 te (ds.drop (i + 1)) acc (fun out => P (.d (.list out))),
        fun H2 n => ⟨ds.length - (i + 1), by omega, rfl, n⟩, fun x H2 y => ?_⟩
      obtain ⟨t2, d, hd, hx⟩ := W.yld _ H' i x H2 inv' ex1 hlt y
      rw [drop_cons hd] at p
      have env2 : EnvOk K ((S.hide D).view H2) ((L2.wipe σ vs).set j (some x)) ((wipeR ρ vs).set j (some (.d d))) := (((he.mono t1.ex).mono (fun a o e => t2.ex a o (ex1 a o e))).wipe vs).set j hx
      refine ⟨wipe_put hj, p _ H2 t2.inv env2 _ fun b H3 t3 p3 => ?_⟩
      have b3 := t.trans (to_hide (t2.trans t3))
      cases b with
      | false =>
        rw [if_neg Bool.false_ne_true]
        exact ⟨hlt, b3, ys, acc, (t2.trans t3).keep D _ nm hD, dpAll_mono (t2.trans t3).ex _ _ hacc, p3.2 rfl⟩
      | true =>
        rw [if_pos rfl]
        refine p3.1 rfl _ H3 t3.inv (env2.mono t3.ex) _ fun J1 es H4 t4 W1 p4 => ?_
        have b4 := b3.trans (to_hide t4)
        have hD4 : H4 D = some (.lst ys) := ((t2.trans t3).trans t4).keep D _ nm hD
        have env4 := env2.mono (t3.trans t4).ex
        refine ⟨fun k m H5 => m = es.length - k ∧ k ≤ es.length ∧ S.To H1 H5 ∧ (S.hide D).inv H5 ∧ Evl.Ex ((S.hide D).view H4) ((S.hide D).view H5) ∧ ∃ ys acc, H5 D = some (.lst ys) ∧ DpAll K ((S.hide D).view H5) ys acc ∧
          inW K (S.hide D) (wipeR ((wipeR ρ vs).set j (some (.d d))) vs1) j1 tt1 te (es.drop k) acc (fun acc' => lc2W K (S.hide D) (wipeR ρ vs) j tt wi1 j1 vs1 tt1 te (ds.drop (i + 1)) acc' (fun out => P (.d (.list out)))),
          ⟨_, rfl, Nat.zero_le _, b4, t4.inv, Evl.Ex.refl _, ys, acc, hD4, dpAll_mono ((t2.trans t3).trans t4).ex _ _ hacc, p4⟩, ?_⟩
        rintro k m H5 ⟨rfl, hk, b5, inv5, ex5, ys5, acc5, hD5, ha5, p5⟩
        by_cases hkl : k < es.length
        · refine .inr ⟨W1.go _ H5 k inv5 ex5 hkl, fun H6 => k + 1 ≤ es.length ∧ S.To H1 H6 ∧ (S.hide D).inv H6 ∧ Evl.Ex ((S.hide D).view H4) ((S.hide D).view H6) ∧ ∃ ys acc, H6 D = some (.lst ys) ∧ DpAll K ((S.hide D).view H6) ys acc ∧
            inW K (S.hide D) (wipeR ((wipeR ρ vs).set j (some (.d d))) vs1) j1 tt1 te (es.drop (k + 1)) acc (fun acc' => lc2W K (S.hide D) (wipeR ρ vs) j tt wi1 j1 vs1 tt1 te (ds.drop (i + 1)) acc' (fun out => P (.d (.list out)))),
            fun H6 n => ⟨es.length - (k + 1), by omega, rfl, n⟩, fun x6 H6 y6 => ?_⟩
          obtain ⟨t6, d6, hd6, hx6⟩ := W1.yld _ H5 k x6 H6 inv5 ex5 hkl y6
          rw [drop_cons hd6] at p5
          have env6 := ((env4.mono (fun a o e => t6.ex a o (ex5 a o e))).wipe vs1).set j1 (show Is K _ x6 (.d d6) from hx6)
          refine ⟨wipe_put hj1, p5 _ H6 t6.inv env6 _ fun b7 H7 t7 p7 => ?_⟩
          have b7' := b5.trans (to_hide (t6.trans t7))
          cases b7 with
          | false =>
            rw [if_neg Bool.false_ne_true]
            exact ⟨hkl, b7', t7.inv, fun a o e => (t6.trans t7).ex a o (ex5 a o e), ys5, acc5, (t6.trans t7).keep D _ nm hD5, dpAll_mono (t6.trans t7).ex _ _ ha5, p7.2 rfl⟩
          | true =>
            rw [if_pos rfl]
            refine p7.1 rfl _ H7 t7.inv (env6.mono t7.ex) _ fun w z8 H8 t8 i8 p8 => ?_
            obtain ⟨c, rfl, hz8, p8⟩ := p8
            have t68 := (t6.trans t7).trans t8
            have hD8 : H8 D = some (.lst ys5) := t68.keep D _ nm hD5
            have ha8 := dpAll_mono t68.ex _ _ ha5
            have hl8 := dpa_len ha8
            obtain ⟨a1, a2⟩ := app H8 ys5 acc5 w c (b5.trans (to_hide t68)) hD8 ha8 i8
            refine ⟨ys5, hD8, by omega, hkl, a1, ⟨a1.inv, by rw [upd_same]; exact fun z => nomatch z⟩, fun a o e => ?_, _, _, upd_same, a2, p8⟩
            obtain ⟨n, e⟩ := view_some.mp (t68.ex a o (ex5 a o e))
            exact view_some.mpr ⟨n, by rw [upd_ne (fun z => n (.inr z))]; exact e⟩
        · have e : k = es.length := by omega
          subst e
          rw [List.drop_length] at p5
          exact .inl ⟨W1.stop _ H5 _ inv5 ex5 (Nat.le_refl _), hlt, b5, ys5, acc5, hD5, ha5, p5⟩
    · have e : i = ds.length := by omega
      subst e
      rw [List.drop_length] at p
      refine .inl ⟨W.stop _ H' _ inv' ex1 (Nat.le_refl _), q _ (.d (.list acc)) H' (t1.trans t) ?_ p⟩
      exact .lst (.inl (.inl (view_some.mpr ⟨nhid t1.inv nD, hD⟩))) (dpAll_mono (hide_ex H') _ _ hacc)

/-! ### targets of several names -/
def EvGs (K : PySem.W.Frag) (S : Side) (g : TGs) (ds : List PyData) (ρ : Rho) (P : Rho → Prop) : Prop := ∀ vs σ H, S.inv H → EnvOk K (S.view H) σ ρ → DpAll K (S.view H) vs ds → ∀ Q : L2.St → Hp → Prop, (∀ ρ' σ' H2, S.To H H2 → EnvOk K (S.view H2) σ' ρ' → P ρ' → Q σ' H2) → g vs σ H Q
theorem egs_nil {P : Rho → Prop} (p : P ρ) : EvGs K S gNil [] ρ P := fun vs σ H hi he hd Q q => by
  cases hd
  exact ⟨rfl, q _ _ H (.refl hi) he p⟩
theorem egs_cons {g : TG} {gs : TGs} {d : PyData} {ds : List PyData} {P : Rho → Prop} (h : EvG K S g (.d d) ρ fun ρ' => EvGs K S gs ds ρ' P) : EvGs K S (gCons g gs) (d :: ds) ρ P := fun vs σ H hi he hd Q q => by
  cases hd with
  | cons h1 h2 => exact ⟨_, _, rfl, h _ σ H hi he h1 _ fun ρ' σ' H1 t1 e1 p1 => p1 _ σ' H1 t1.inv e1 (dpAll_mono t1.ex _ _ h2) Q fun ρ2 σ2 H2 t2 e2 p2 => q _ _ H2 (t1.trans t2) e2 p2⟩
theorem eg_tup {n : Nat} {gs : TGs} {ds : List PyData} {P : Rho → Prop} (hn : ds.length = n) (h : EvGs K S gs ds ρ P) : EvG K S (gTup K n gs) (.d (.tuple ds)) ρ P := fun v σ H hi he hv Q q => by
  obtain ⟨a, xs, rfl, ha, da⟩ := dp_tup hv
  exact ⟨a, xs, rfl, ex_sqt (view_ex S H) ha, (dpa_len da).trans hn, h xs σ H hi he da Q q⟩
theorem eg_lst {n : Nat} {gs : TGs} {ds : List PyData} {P : Rho → Prop} (hn : ds.length = n) (h : EvGs K S gs ds ρ P) : EvG K S (gUnl K n gs) (.d (.list ds)) ρ P := fun v σ H hi he hv Q q => by
  obtain ⟨a, xs, rfl, ha, da⟩ := dp_lst hv
  exact ⟨a, xs, rfl, ex_sql (view_ex S H) ha, (dpa_len da).trans hn, h xs σ H hi he da Q q⟩
end

/-! ### a def and its promise -/
abbrev Spec := Side → List DV → (DV → Prop) → Prop
def spD (K : PySem.W.Frag) (ok : Side → Prop) (spec : Spec) : Sp := fun vs H Q _ => ∃ S xs P, ok S ∧ S.inv H ∧ AllIs K (S.view H) vs xs ∧ spec S xs P ∧ ∀ v x H2, S.To H H2 → Is K (S.view H2) v x → P x → Q v H2
def startR (N : List Str) (xs : List DV) : Rho := xs.map some ++ List.replicate (N.length - xs.length) none
def fin (P : DV → Prop) : Out → Prop
  | .nx _ => P (.d .none)
  | .rt x => P x
  | .bk _ => False
  | .ct _ => False
theorem envOk_app {K : PySem.W.Frag} {M : Hp} : ∀ {vs : List V} {xs : List DV} {n : Nat}, AllIs K M vs xs → EnvOk K M (vs.map some ++ List.replicate n none) (xs.map some ++ List.replicate n none)
  | [], [], n, _ => ⟨by simp, fun i x h => by
      have h : (List.replicate n (none : Option DV))[i]? = some (some x) := by simpa using h
      rw [List.getElem?_replicate] at h
      split at h <;> simp at h⟩
  | v :: vs, x :: xs, n, h => by
    have ih := envOk_app (n := n) h.2
    refine ⟨by simpa using ih.len, fun i y g => ?_⟩
    cases i with
    | zero =>
      have e : x = y := by simpa using g
      subst e
      exact ⟨v, rfl, h.1⟩
    | succ i =>
      have g : (List.map some xs ++ List.replicate n none)[i]? = some (some y) := by simpa using g
      obtain ⟨w, a, b⟩ := ih.get i y g
      exact ⟨w, by simpa using a, b⟩
  | [], _ :: _, _, h => h.elim
  | _ :: _, [], _, h => h.elim
section
variable {P : Program} {w : World} {K : PySem.W.Frag} {mg : Str → Option Value} {base : Heap}
/-- a def of the text, its code object's address told -/
structure FunC (K : PySem.W.Frag) (x qual : Str) (st : Stmt) (f : Addr) (fd : FuncData) (cdv : Value) : Prop where
  ex : ∃ (oc : Value) (od : Option Addr) (kV doc pm : Value) (an : Option Addr) (ct : Value) (osl : Array (Option Value)),
    fd = PySem.W.fnOf x qual (defArgs st) (defBody st) (defScope st) .none kV doc pm an cdv ct ∧ K.lookup f = some ⟨oc, od, .func fd, osl⟩ ∧ PySem.W.codeIn K cdv qual = true
  kp : PySem.W.keepIn K (.ref f) = true
theorem funC_mk {x qual : Str} {st : Stmt} {f : Addr} {oc : Value} {od an : Option Addr} {osl : Array (Option Value)} {kV doc pm cdv ct : Value} (l : K.lookup f = some ⟨oc, od, .func (PySem.W.fnOf x qual (defArgs st) (defBody st) (defScope st) .none kV doc pm an cdv ct), osl⟩)
    (c : PySem.W.codeIn K cdv qual = true) (k : PySem.W.keepIn K (.ref f) = true) : FunC K x qual st f (PySem.W.fnOf x qual (defArgs st) (defBody st) (defScope st) .none kV doc pm an cdv ct) cdv := ⟨⟨oc, od, kV, doc, pm, an, ct, osl, rfl, l, c⟩, k⟩
theorem FunC.binds {x qual : Str} {st : Stmt} {f : Addr} {fd : FuncData} {cdv : Value} {ps : List Str} (F : FunC K x qual st f fd cdv)
    (h : ∀ (kV doc pm : Value) (an : Option Addr) (cdv ct : Value) (us : List Value), us.length = ps.length → bindArgs (PySem.W.fnOf x qual (defArgs st) (defBody st) (defScope st) .none kV doc pm an cdv ct) ⟨us, []⟩ = pure (ps.zip us)) : Binds K fd ps [] := by
  obtain ⟨oc, od, kV, doc, pm, an, ct, osl, rfl, lk, hcd⟩ := F.ex
  exact .all (h kV doc pm an cdv ct)
theorem startR_ok {M : Hp} {N : List Str} {vs : List V} {xs : List DV} (h : AllIs K M vs xs) : EnvOk K M (L2.start N vs) (startR N xs) := by
  unfold L2.start startR
  rw [h.len]
  exact envOk_app h
/-- THE RULE for a def, by big steps -/
theorem def_ok {x qual : Str} {st : Stmt} {f : Addr} {fd : FuncData} {cdv : Value} {N ps : List Str} {k : Nat} {ok : Side → Prop} {spec : Spec} (F : FunC K x qual st f fd cdv) (Sc : FnScope N ps (defScope st)) (len : ∀ S xs P, spec S xs P → xs.length = ps.length)
    (hb : ∀ (A : Around) (outer : List Env) (s : Shared) (H : Hp) (E : XK), Room k (A.deeper (envOfC qual (defScope st) s.heap.objs.size f cdv)) →
      ∃ t, PSs (cxOf CX0 P w K mg base N qual (defScope st) f cdv A outer s H E).nox (defBody st) t ∧ ∀ S xs P, ok S → spec S xs P → Run K S t (startR N xs) (fin P)) : FnOk P w K mg base CX0 (k + 1) f fd ps (spD K ok spec) := by
  obtain ⟨oc, od, kV, doc, pm, an, ct, osl, rfl, lk, hcd⟩ := F.ex
  refine fn_of lk hcd Sc (fun vs H Q E ⟨S, xs, P, _, _, hv, hs, _⟩ => hv.len.trans (len S xs P hs)) fun A outer s H vs Q E hr hsp => ?_
  obtain ⟨t, h, q⟩ := hb A outer s H E hr
  obtain ⟨S, xs, P, hok, hinv, hv, hs, hq⟩ := hsp
  refine ⟨t, h.nox, q S xs P hok hs _ H hinv (startR_ok hv) _ (fun ρ' σ' H2 t2 e2 p2 => hq _ (.d .none) H2 t2 (show Dp _ _ _ _ from .non) p2) (fun x v H2 t2 i2 p2 => hq v x H2 t2 i2 p2) (fun _ _ _ _ _ z => z.elim) fun _ _ _ _ _ z => z.elim⟩
/-- a call -/
theorem ev_call {S : Side} {ρ : Rho} {ok : Side → Prop} {spec : Spec} {E : XK} {ta : TA} {P : DV → Prop} (hok : ok S) (h : EvA K S ta ρ fun xs => spec S xs P) : Ev K S (tCall (spD K ok spec) [] E ta) ρ P := fun σ H hi he Q q =>
  h σ H hi he _ fun vs xs H1 t1 i1 p1 => by
    rw [List.append_nil]
    exact ⟨S, xs, P, hok, t1.inv, i1, p1, fun v x H2 t2 i2 p2 => q v x H2 (t1.trans t2) i2 p2⟩
end
end Tw
/-! zip of two tuples within all(..) of a generator expression -/
namespace Tw
open PySem PySem.Spec PyProof.Rows L2

theorem walksT_zip {prog : Program} {w : World} {A : Around} (hh : A.handled = none) (z TI TO i1 i2 l1 l2 : Addr) (D : ZipApart z TI TO i1 i2 l1 l2) (xs ys : Array Value) :
    WalksT prog w A z [z, TI, TO, i1, i2, l1, l2] [z, TO, i1, i2] (min xs.size ys.size)
      (fun i vals => ∃ x y, xs[i]? = some x ∧ ys[i]? = some y ∧ vals = #[x, y])
      (fun i h => IsZip h z TI TO .none ∧ IsPair h TI (.ref i1) (.ref i2) ∧ (∃ a b, IsPair h TO a b) ∧ h.IsTupleIter i1 l1 i ∧ h.IsTupleIter i2 l2 i ∧ h.IsTuple l1 xs ∧ h.IsTuple l2 ys)
      (fun i T h => IsZip h z TI TO (rawInt T) ∧ IsPair h TI (.ref i1) (.ref i2) ∧ (∃ a b, IsPair h TO a b) ∧ h.IsTupleIter i1 l1 (i + 1) ∧ h.IsTupleIter i2 l2 (i + 1) ∧ h.IsTuple l1 xs ∧ h.IsTuple l2 ys ∧
        T ≠ z ∧ T ≠ TO ∧ T ≠ i1 ∧ T ≠ i2) where
  sub := fun c hc => by simp at hc ⊢; rcases hc with rfl | rfl | rfl | rfl <;> simp
  frame := fun i h h' hst hk => by
    obtain ⟨hz, hTI, ⟨a, b, hTO⟩, h1, h2, hl1, hl2⟩ := hst
    exact ⟨hk z (by simp) _ hz, hk TI (by simp) _ hTI, ⟨a, b, hk TO (by simp) _ hTO⟩, h1.at fun o e => hk i1 (by simp) o e, h2.at fun o e => hk i2 (by simp) o e,
      hl1.at fun o e => hk l1 (by simp) o e, hl2.at fun o e => hk l2 (by simp) o e⟩
  item := fun i s Q E hi hst hQ => by
    obtain ⟨hz, hTI, ⟨a, b, hTO⟩, h1, h2, hl1, hl2⟩ := hst
    have hix : i < xs.size := Nat.lt_of_lt_of_le hi (Nat.min_le_left ..)
    have hiy : i < ys.size := Nat.lt_of_lt_of_le hi (Nat.min_le_right ..)
    refine RZ.pyNext_zipT_item D hz hTI hTO h1 h2 hl1 hl2 (Array.getElem?_eq_getElem hix) (Array.getElem?_eq_getElem hiy) fun h' a1 a2 a3 a4 a5 a6 hk => ?_
    have lt : ∀ {c o}, s.heap.get? c = some o → s.heap.objs.size ≠ c := fun e => Nat.ne_of_gt (Heap.lt_size e)
    exact hQ s.heap.objs.size #[xs[i], ys[i]] h' s.toks ⟨_, _, Array.getElem?_eq_getElem hix, Array.getElem?_eq_getElem hiy, rfl⟩ (Nat.le_refl _) ⟨_, a5, rfl, _, rfl⟩
      ⟨a1, hk _ _ D.TIz D.TITO D.TIi1 D.TIi2 hTI, ⟨_, _, a2⟩, a3, a4, hl1.at fun o e => hk _ o D.l1z D.l1TO D.l1i1 D.l1i2 e, hl2.at fun o e => hk _ o D.l2z D.l2TO D.l2i1 D.l2i2 e,
        lt hz, lt hTO, (by obtain ⟨_, e, _⟩ := h1; exact lt e), (by obtain ⟨_, e, _⟩ := h2; exact lt e)⟩
      fun c o hc e => hk c o (fun x => hc (by simp [x])) (fun x => hc (by simp [x])) (fun x => hc (by simp [x])) (fun x => hc (by simp [x])) e
  go := fun elts k pos i T s Q E hm hQ => by
    obtain ⟨hz, hTI, ⟨a, b, hTO⟩, h1, h2, hl1, hl2, _⟩ := hm
    refine wpAny_letOwnedTupleGo_zip hz fun h' hz' hs' => hQ h' ⟨hz', hs'.extBut _ _ D.TIz hTI, ⟨a, b, hs'.extBut _ _ D.TOz hTO⟩, h1.extBut hs'.extBut D.i1z, h2.extBut hs'.extBut D.i2z,
      hl1.extBut hs'.extBut D.l1z, hl2.extBut hs'.extBut D.l2z⟩ fun c o hc e => hs'.extBut _ _ (fun x => hc (by simp [x])) e
  apart := fun i T h hm hT => by
    obtain ⟨_, _, _, _, _, _, _, t1, t2, t3, t4⟩ := hm
    simp at hT
    rcases hT with rfl | rfl | rfl | rfl
    · exact t1 rfl
    · exact t2 rfl
    · exact t3 rfl
    · exact t4 rfl
  done := fun s Q E hst hQ => by
    obtain ⟨hz, hTI, ⟨a, b, hTO⟩, h1, h2, hl1, hl2⟩ := hst
    have hend : xs[min xs.size ys.size]? = none ∨ ys[min xs.size ys.size]? = none := by
      rcases Nat.le_total xs.size ys.size with h | h
      · exact .inl (by rw [Nat.min_eq_left h]; exact Array.getElem?_eq_none (Nat.le_refl _))
      · exact .inr (by rw [Nat.min_eq_right h]; exact Array.getElem?_eq_none (Nat.le_refl _))
    exact RZ.pyNext_zipT_end hh D hz hTI hTO h1 h2 hl1 hl2 hend fun h' hk => hQ h' s.toks fun c o hc e =>
      hk c o (fun x => hc (by simp [x])) (fun x => hc (by simp [x])) (fun x => hc (by simp [x])) (fun x => hc (by simp [x])) e
  self := fun i s Q E hst hQ => wpAny_pyIter_zip hst.1 hQ

/-! ### data read in a heap that has kept what it had of lists and tuples -/
mutual
theorem reads_on {h h' : Heap} (hk : ∀ b o, (o.cls = .type "list" ∨ o.cls = .type "tuple") → h.get? b = some o → h'.get? b = some o) : ∀ (d : PyData) (v : Value) (as : List Addr), d.plain = true → Reads h v d as → Reads h' v d as
  | .none, _, _, _, r => by cases r; exact .none
  | .bool b, _, _, _, r => by cases r; exact .bool b
  | .int i, _, _, _, r => by cases r; exact .int i _
  | .str x, _, _, _, r => by cases r; exact .str x _
  | .list ds, _, _, p, r => by
    cases r with
    | list h1 h2 h3 h4 => exact .list (hk _ _ (.inl h2) h1) h2 h3 (readsAll_on hk ds _ _ p h4)
  | .tuple ds, _, _, p, r => by
    cases r with
    | tuple h1 h2 h3 h4 => exact .tuple (hk _ _ (.inr h2) h1) h2 h3 (readsAll_on hk ds _ _ p h4)
  | .dict _, _, _, p, _ => nomatch p
theorem readsAll_on {h h' : Heap} (hk : ∀ b o, (o.cls = .type "list" ∨ o.cls = .type "tuple") → h.get? b = some o → h'.get? b = some o) : ∀ (ds : List PyData) (vs : List Value) (as : List Addr), PyData.plainAll ds = true → ReadsAll h vs ds as → ReadsAll h' vs ds as
  | [], _, _, _, r => by cases r; exact .nil
  | d :: ds, _, _, p, r => by
    have p' : d.plain = true ∧ PyData.plainAll ds = true := by simpa [PyData.plainAll] using p
    cases r with
    | cons h1 h2 => exact .cons (reads_on hk d _ _ p'.1 h1) (readsAll_on hk ds _ _ p'.2 h2)
end
theorem readsAll_get {h : Heap} : ∀ {ds : List PyData} {vs : List Value} {as : List Addr} {i : Nat} {v : Value}, ReadsAll h vs ds as → vs[i]? = some v → ∃ d bs, ds[i]? = some d ∧ Reads h v d bs
  | [], _, _, _, _, r, e => by cases r; simp at e
  | d :: ds, _, _, 0, _, r, e => by
    cases r with
    | cons h1 h2 =>
      cases (Option.some.inj e)
      exact ⟨d, _, rfl, h1⟩
  | d :: ds, _, _, i + 1, _, r, e => by
    cases r with
    | cons h1 h2 => exact readsAll_get (i := i) h2 e
theorem readsAll_len {h : Heap} : ∀ {ds : List PyData} {vs : List Value} {as : List Addr}, ReadsAll h vs ds as → vs.length = ds.length
  | [], _, _, r => by cases r; rfl
  | d :: ds, _, _, r => by
    cases r with
    | cons h1 h2 => rw [List.length_cons, List.length_cons, readsAll_len h2]

/-! ### the generator expression -/
structure GenS2 (env : Env) (scope : Scope) (xa xb : Str) : Prop where
  kind : scope.kind = .function
  co : scope.isCoroutine = false
  cell : ∀ y ∈ scope.names, y.2 ≠ .cell
  dot : scope.names.lookup (".0" : Str) = some NameKind.local
  la : scope.names.lookup xa = some .local
  lb : scope.names.lookup xb = some .local
  ne : xa ≠ xb
  free : ∀ y ∈ scope.names, y.2 = .free → ∃ c, env.cells.lookup y.1 = some c
/-- the element: a test of the two items' data -/
def EltZ (prog : Program) (w : World) (scope : Scope) (xa xb : Str) (elt : Expr) (dom : PyData → PyData → Prop) (pb : PyData → PyData → Bool) : Prop :=
  ∀ (cenv : Env) (A' : Around) (E' : Value → Shared → Prop) (d e : PyData) (u v : Value) (as bs : List Addr) (s₂ : Shared) (m₂ : Str → Option Value), A'.handled = none → A'.units + 64 < cLine → cenv.scope = scope → s₂.heap.Ns cenv.locals m₂ →
    m₂ xa = some u → m₂ xb = some v → Reads s₂.heap u d as → Reads s₂.heap v e bs → d.plain = true → e.plain = true → dom d e →
    wpAny (model prog w) A' (eval elt cenv) (fun y s₃ => y = .bool (pb d e) ∧ Keeps s₂ s₃) E' s₂
/-- x in y, y a tuple -/
theorem elt_in {prog : Program} {w : World} {scope : Scope} {xa xb : Str} {p1 p2 p3 : Pos} (hk : scope.kind = .function) (la : scope.names.lookup xa = some .local) (lb : scope.names.lookup xb = some .local)
    (hm : behindInMarks .In (.Name xb p2) = false := by rfl) (ha : (xa == ("__debug__" : Str)) = false := by decide) (hb : (xb == ("__debug__" : Str)) = false := by decide) :
    EltZ prog w scope xa xb (.Compare (.Name xa p1) [.In] [.Name xb p2] p3) (fun d e => d.depth ≤ 60 ∧ ∃ es, e = .tuple es) (fun d e => match e with
      | .tuple es => es.any fun z => PyData.eqv z d
      | _ => false) := by
  intro cenv A' E' d e u v as bs s₂ m₂ hA hU hs hn hu hv ru rv pd pe dm
  obtain ⟨hd, es, rfl⟩ := dm
  refine wpAny_Compare1 ?_ hm
  refine wpAny_Name (wpAny_loadName_local (by rw [hs]; exact hk) (show cenv.scope.names.lookup xa = some .local by rw [hs]; exact la) hn hu ?_) ha
  refine wpAny_Name (wpAny_loadName_local (by rw [hs]; exact hk) (show cenv.scope.names.lookup xb = some .local by rw [hs]; exact lb) hn hv ?_) hb
  exact SeqAt.in_tuple_data rv ru pe pd (by omega) ⟨rfl, GxR.keeps_refl _⟩
/-- the tests at the places -/
def zipAt (pb : PyData → PyData → Bool) (ds es : List PyData) (i : Nat) : Bool := match ds[i]?, es[i]? with
  | some d, some e => pb d e
  | _, _ => false
theorem zipAt_some {pb : PyData → PyData → Bool} {ds es : List PyData} {i : Nat} {d e : PyData} (h1 : ds[i]? = some d) (h2 : es[i]? = some e) : zipAt pb ds es i = pb d e := by
  unfold zipAt
  rw [h1, h2]
theorem all_zipAt (pb : PyData → PyData → Bool) : ∀ ds es : List PyData, (List.range (min ds.length es.length)).all (zipAt pb ds es) = (ds.zip es).all fun p => pb p.1 p.2
  | [], es => by simp
  | d :: ds, [] => by simp
  | d :: ds, e :: es => by
    have ih := all_zipAt pb ds es
    rw [List.length_cons, List.length_cons, Nat.succ_min_succ, List.range_succ_eq_map, List.all_cons, List.all_map]
    show (zipAt pb (d :: ds) (e :: es) 0 && (List.range (min ds.length es.length)).all (zipAt pb ds es)) = _
    rw [ih]
    rfl
section
variable {X : Cx} {pins : List (Addr × Obj)} {σ : L2.St} {H : Hp} {s : Shared}
/-- the generator g, ready to be walked, in the state s5; H1: what was held before -/
def ReadyZ (X : Cx) (pins : List (Addr × Obj)) (σ : L2.St) (H1 : Hp) (P : Addr) (n : Nat) (tr : Nat → Bool) (g : Addr) (s5 : Shared) : Prop :=
  ∃ (fp wr : List Addr) (G : Array GenState → Array GenState → Prop) (F : Nat → Value → Prop) (St : Nat → Shared → Prop),
    WalksS X.prog X.w X.A.in1 g fp wr G n F St ∧ St 0 s5 ∧ TruthOf X.prog X.w X.A.in1 F tr ∧ ∀ s', Moved wr G s5 s' → ∃ H2, GxR.Tabbed P H1 H2 ∧ Inv X pins σ H2 s'
theorem gen_zip {c P : Addr} {elt e1 e2 : Expr} {xa xb : Str} {pa pb' pt zp zpos gpos : Pos} {kt : Nat} {scope : Scope} {dom : PyData → PyData → Prop} {pb : PyData → PyData → Bool} {ta : TA} {k : Nat} {Q' : Value → Shared → Prop} {R : List PyData → List PyData → Hp → Prop}
    (hr : Room k X.A) (hg : Gl X "zip") (hm : X.mg "zip" = none) (TB : GxR.TabB X.base X.mg c P) (hcode : X.env.code = .ref c) (S : GenS2 X.env scope xa xb) (ha : PA X [e1, e2] ta) (hel : EltZ X.prog X.w scope xa xb elt dom pb)
    (hs : ∀ v, genFold (.Call (.Name "zip" zp) [e1, e2] [] zpos) X.env v = pure v) (I : Inv X pins σ H s)
    (hs1 : starEach [e1, e2] X.env = (false, eval e1 X.env) :: starEach [e2] X.env) (hpl : (backTo zpos (starEach [e2] X.env)).any (·.1) = false)
    (h : ta σ H fun vs H1 => ∃ (x y : V) (ds es : List PyData), vs = [x, y] ∧ Dp X.K H1 x (.tuple ds) ∧ Dp X.K H1 y (.tuple es) ∧ (∀ p ∈ ds.zip es, dom p.1 p.2) ∧ GxR.TabG H1 P ∧ R ds es H1)
    (hQ : ∀ ds es H1 g s5, R ds es H1 → ReadyZ X pins σ H1 P (min ds.length es.length) (zipAt pb ds es) g s5 → Q' (.ref g) s5) :
    wpAny (model X.prog X.w) X.A (eval (.GeneratorExp elt [⟨.Tuple [.Name xa pa, .Name xb pb'] kt pt, .Call (.Name "zip" zp) [e1, e2] [] zpos, [], 0⟩] scope gpos) X.env) Q' X.xe s := by
  refine wpAny_GeneratorExp_walksQTD hr.hd S.co (closure_ok S.free) S.cell S.dot S.la S.lb S.ne S.kind (by have := hr.dp; omega) ?_ hs
  refine Call_ (ld_blt I hg hm PyProof.Rows.boot_zip (PyProof.Rows.callWith_type1 (thn (ha.run zpos pins s σ H _ I h) fun us s1 ⟨vs, H1, I1, r1, q1⟩ => ?_) hs1 hpl))
  obtain ⟨x, y, ds, es, rfl, hx, hy, hdom, ⟨ps, hP, ht⟩, hR⟩ := q1
  obtain ⟨u1, u2, rfl, rx, ry⟩ := vals2 r1
  obtain ⟨asx, rdx⟩ := Dp.reads I1 _ x u1 hx rx
  obtain ⟨asy, rdy⟩ := Dp.reads I1 _ y u2 hy ry
  have plx := dp_plain _ _ hx
  have ply := dp_plain _ _ hy
  cases rdx with
  | @tuple a oa va na _ _ a1 a2 a3 a4 =>
  cases rdy with
  | @tuple b ob vb nb _ _ b1 b2 b3 b4 =>
  refine RZ.call_zipT (show s1.heap.IsTuple a va from ⟨oa, a1, a2, na, a3⟩) (show s1.heap.IsTuple b vb from ⟨ob, b1, b2, nb, b3⟩) fun h2 hz hTI hTO hi1 hi2 hsz hk2 => ?_
  refine wpAny_pyIter_zip hz ?_
  have lt1 : ∀ {b o}, s1.heap.get? b = some o → b < s1.heap.objs.size := fun e => Heap.lt_size e
  have D := PySem.W.ktu_apart s1.heap.objs.size a b (lt1 a1) (lt1 b1)
  have W := fun (A' : Around) (hA : A'.handled = none) => (walksT_zip (prog := X.prog) (w := X.w) hA _ _ _ _ _ a b D va vb).toU
  have hPs : s1.heap.get? P = some { cls := .none, data := .fields ps } := I1.hok P _ hP
  have hPlt : P < s1.heap.objs.size := Heap.lt_size hPs
  have hP2 : h2.get? P = some { cls := .none, data := .fields ps } := hk2 _ _ hPs
  have cd : PySem.W.CodeHd h2 c P := TB.code.keeps fun b u e => hk2 _ _ (I1.bk b u e)
  have lim2 : h2.NoLimit := I1.nolimit.keeps hk2
  have cont : ∀ (code : Value) (h3 : Heap) (tk : Nat) (ps' : Array Value), Heap.ExtBut P h2 h3 → h2.objs.size ≤ h3.objs.size → h3.get? P = some { cls := .none, data := .fields ps' } → (∃ more, ps' = ps ++ more) → TriplesOk ps'.toList →
      wpAny (model X.prog X.w) X.A (builtinsFor X.env.globals X.env.builtins) (fun bi s₄ =>
        ∃ Ia fp wr n₀ Pt St₀ Mid pz F, Value.ref (s1.heap.objs.size + 4) = .ref Ia ∧ (∀ A' : Around, A'.handled = none → WalksU X.prog X.w A' Ia fp wr n₀ Pt St₀ Mid) ∧ (∀ i vals, Pt i vals → ∃ va vb, vals = #[va, vb]) ∧ St₀ 0 s₄.heap ∧ (∀ b ∈ fp, b < s₄.heap.objs.size) ∧ s₄.heap.NoLimit ∧ cStatics ∉ wr ∧
          (∀ href : Heap, (∀ b o, s₄.heap.get? b = some o → href.get? b = some o) →
            QuietGenTD X.prog X.w (genEnv scope (cloFrom X.env.cells scope.names []) s₄.heap.objs.size code bi X.env) xa xb [] elt (List.range s₄.heap.objs.size) wr Pt pz F href (X.A.depth + 1) (X.A.units + 8)) ∧
          (∀ a h₅ tk gs, gs.bare = true → s₄.heap.objs.size < a → h₅.objs.size = a + 1 → (∀ b o, s₄.heap.get? b = some o → h₅.get? b = some o) →
            WalksS X.prog X.w X.A.in4 a (a :: s₄.heap.objs.size :: List.range s₄.heap.objs.size) (s₄.heap.objs.size :: wr) (GenOnlyQ s₄.gens.size) (passing pz n₀ 0).length
              (fun j y => ∃ i, (passing pz n₀ 0)[j]? = some i ∧ F i y) (GenAt X.prog X.w X.A.in4 a s₄.gens.size s₄.heap.objs.size (List.range s₄.heap.objs.size) wr pz n₀ F) →
            GenAt X.prog X.w X.A.in4 a s₄.gens.size s₄.heap.objs.size (List.range s₄.heap.objs.size) wr pz n₀ F 0 { s₄ with gens := s₄.gens.push gs, toks := tk, heap := h₅ } →
            Q' (.ref a) { s₄ with gens := s₄.gens.push gs, toks := tk, heap := h₅ })) X.xe { s1 with heap := h3, toks := tk } := by
    intro code h3 tk ps' hx3 hsz3 hP3 hmore ht3
    obtain ⟨bm, obm, e1, e2, e3, e4, e5, e6, e7, e8⟩ := TB.bm
    have hcP : cStatics ≠ P := fun e => by
      obtain ⟨_, hns, _⟩ := I1.nolimit
      obtain ⟨o', es, ep, ho, hd, _⟩ := hns
      rw [e, hPs] at ho
      cases ho
      cases hd
    have hcl : cStatics < s1.heap.objs.size := let ⟨_, hns, _⟩ := I1.nolimit; hns.lt
    have keep3 : ∀ b u, b ≠ P → s1.heap.get? b = some u → h3.get? b = some u := fun b u hb e => hx3 b u hb (hk2 _ _ e)
    have at3 : ∀ {q : Addr} {o : Obj}, h2.get? q = some o → s1.heap.objs.size ≤ q → h3.get? q = some o := fun {q o} e hq => hx3 q o (fun z => by rw [z] at hq; exact absurd hPlt (Nat.not_lt.mpr hq)) e
    refine wpAny_builtinsFor (m := X.mg) (by rw [I1.ok.glob]; exact ((I1.mod.glob.keeps I1.bk).keeps hk2).extBut hx3 TB.gP) e1 e2 (keep3 _ _ e4 (I1.bk _ _ e5)) e6 e7 e8 ?_
    have big : ∀ n : Nat, n ≤ 4 → s1.heap.objs.size + n < h3.objs.size := fun n hn => by
      have h9 : s1.heap.objs.size + 5 ≤ h3.objs.size := by rw [← hsz]; exact hsz3
      omega
    have la : (min va.size vb.size) = min ds.length es.length := by
      have q1 := readsAll_len a4
      have q2 := readsAll_len b4
      rw [Array.length_toList] at q1 q2
      rw [q1, q2]
    have wrN : ∀ q : Addr, q ∈ [s1.heap.objs.size + 4, s1.heap.objs.size + 3, s1.heap.objs.size, s1.heap.objs.size + 1] → s1.heap.objs.size ≤ q := fun q hq => by
      rcases List.mem_cons.mp hq with z | hq
      · rw [z]; exact Nat.le_add_right _ _
      rcases List.mem_cons.mp hq with z | hq
      · rw [z]; exact Nat.le_add_right _ _
      rcases List.mem_cons.mp hq with z | hq
      · rw [z]; exact Nat.le_refl _
      rcases List.mem_cons.mp hq with z | hq
      · rw [z]; exact Nat.le_add_right _ _
      cases hq
    refine ⟨s1.heap.objs.size + 4, _, [s1.heap.objs.size + 4, s1.heap.objs.size + 3, s1.heap.objs.size, s1.heap.objs.size + 1], min va.size vb.size, _, _, _, (fun _ => true), (fun i y => ∃ d e, ds[i]? = some d ∧ es[i]? = some e ∧ y = .bool (pb d e)), rfl, W, ?_, ?_, ?_, lim2.extBut hx3 hcP, ?_, ?_, ?_⟩
    · rintro i vals ⟨x, y, _, _, e⟩
      exact ⟨x, y, e⟩
    · refine ⟨at3 hz (Nat.le_add_right _ _), at3 hTI (Nat.le_add_right _ _), ⟨_, _, at3 hTO (Nat.le_add_right _ _)⟩, hi1.at fun o e => at3 e (Nat.le_refl _), hi2.at fun o e => at3 e (Nat.le_add_right _ _), ?_, ?_⟩
      · refine Heap.IsTuple.at (show s1.heap.IsTuple a va from ⟨oa, a1, a2, na, a3⟩) fun o e => keep3 _ o (fun z => ?_) e
        rw [z, hPs] at a1
        cases a1
        cases a2
      · refine Heap.IsTuple.at (show s1.heap.IsTuple b vb from ⟨ob, b1, b2, nb, b3⟩) fun o e => keep3 _ o (fun z => ?_) e
        rw [z, hPs] at b1
        cases b1
        cases b2
    · intro q hq
      show q < h3.objs.size
      have la1 := lt1 a1
      have lb1 := lt1 b1
      rcases List.mem_cons.mp hq with z | hq
      · rw [z]; exact big 4 (by omega)
      rcases List.mem_cons.mp hq with z | hq
      · rw [z]; exact big 2 (by omega)
      rcases List.mem_cons.mp hq with z | hq
      · rw [z]; exact big 3 (by omega)
      rcases List.mem_cons.mp hq with z | hq
      · rw [z]; exact big 0 (by omega)
      rcases List.mem_cons.mp hq with z | hq
      · rw [z]; exact big 1 (by omega)
      rcases List.mem_cons.mp hq with z | hq
      · rw [z]; exact Nat.lt_trans la1 (big 0 (by omega))
      rcases List.mem_cons.mp hq with z | hq
      · rw [z]; exact Nat.lt_trans lb1 (big 0 (by omega))
      cases hq
    · intro z
      exact absurd (wrN _ z) (Nat.not_le.mpr hcl)
    · intro href hhref
      refine ⟨fun A' E' i va' vb' s₂ m₂ hA hD hU hPv hn hma hmb hk => ?_, fun A' E' i va' vb' s₂ m₂ hA hD hU hPv hp hn hma hmb hk => ?_⟩
      · simp only [List.forIn_nil]
        exact wpAny_pure ⟨rfl, GxR.keeps_refl _⟩
      · obtain ⟨x', y', hx', hy', e'⟩ := hPv
        obtain ⟨rfl, rfl⟩ : va' = x' ∧ vb' = y' := by simpa using congrArg Array.toList e'
        obtain ⟨d, bs1, hd, rd⟩ := readsAll_get a4 (show va.toList[i]? = some va' by rw [Array.getElem?_toList]; exact hx')
        obtain ⟨e, bs2, he, re⟩ := readsAll_get b4 (show vb.toList[i]? = some vb' by rw [Array.getElem?_toList]; exact hy')
        have pd : d.plain = true := by
          have q : ∀ (l : List PyData) (i : Nat) (d : PyData), PyData.plainAll l = true → l[i]? = some d → d.plain = true := by
            intro l
            induction l with
            | nil => intro i d _ h; simp at h
            | cons z l ih =>
              intro i d hp h
              have hp' : z.plain = true ∧ PyData.plainAll l = true := by simpa [PyData.plainAll] using hp
              cases i with
              | zero => cases (Option.some.inj h); exact hp'.1
              | succ i => exact ih i d hp'.2 h
          exact q ds i d plx hd
        have pe : e.plain = true := by
          have q : ∀ (l : List PyData) (i : Nat) (d : PyData), PyData.plainAll l = true → l[i]? = some d → d.plain = true := by
            intro l
            induction l with
            | nil => intro i d _ h; simp at h
            | cons z l ih =>
              intro i d hp h
              have hp' : z.plain = true ∧ PyData.plainAll l = true := by simpa [PyData.plainAll] using hp
              cases i with
              | zero => cases (Option.some.inj h); exact hp'.1
              | succ i => exact ih i d hp'.2 h
          exact q es i e ply he
        have kp : ∀ q o, (o.cls = .type "list" ∨ o.cls = .type "tuple") → s1.heap.get? q = some o → s₂.heap.get? q = some o := fun q o hc e0 => by
          have hq := Heap.lt_size e0
          have nP : q ≠ P := fun z => by
            rw [z, hPs] at e0
            cases e0
            rcases hc with z | z <;> cases z
          have e3' := keep3 q o nP e0
          exact hk q (List.mem_range.mpr (Heap.lt_size e3')) (fun z => absurd (wrN q z) (Nat.not_le.mpr hq)) o (hhref q o e3')
        refine wpAny_mono (hel _ A' E' d e va' vb' _ _ s₂ m₂ hA (by have := hr.un; omega) rfl hn hma hmb (reads_on kp d _ _ pd rd) (reads_on kp e _ _ pe re) pd pe (hdom (d, e) ?_)) (fun y s3 r => ⟨⟨d, e, hd, he, r.1⟩, r.2⟩) fun _ _ z => z
        exact List.mem_of_getElem? (i := i) (by rw [List.getElem?_zip_eq_some]; exact ⟨hd, he⟩)
    · intro g h5 tk5 gs hgb hag hsz5 hk5 W5 hat
      simp only [GxR.passing_true, List.length_range] at W5
      refine hQ ds es H1 g _ hR ⟨_, _, _, _, _, (by rw [← la]; exact W5.in4_1), hat, ?_, fun s' hmv => ?_⟩
      · intro j y sj Qj Ej hy hQj
        obtain ⟨i, hij, d, e, hd, he, rfl⟩ := hy
        obtain ⟨hj, ej⟩ := List.getElem?_eq_some_iff.mp hij
        rw [List.getElem_range] at ej
        subst ej
        have hQ2 : Qj (zipAt pb ds es j) sj := hQj
        rw [zipAt_some hd he] at hQ2
        exact wpAny_truthy_bool hQ2
      · obtain ⟨more, em⟩ := hmore
        have nwr : ∀ b u, s1.heap.get? b = some u → b ∉ h3.objs.size :: [s1.heap.objs.size + 4, s1.heap.objs.size + 3, s1.heap.objs.size, s1.heap.objs.size + 1] := fun b u e hb => by
          have hl := Heap.lt_size e
          rcases List.mem_cons.mp hb with z | z
          · rw [z] at hl
            exact absurd (Nat.lt_trans hl (big 0 (by omega))) (Nat.lt_irrefl _)
          · exact absurd (wrN _ z) (Nat.not_le.mpr hl)
        have J := GxR.inv_tab (more := more) (h' := s'.heap) (g' := s'.gens) (d' := s'.drawn) (t' := s'.toks) I1 hP (fun b u hb e => hmv.heap b u (nwr b u e) (hk5 b u (keep3 b u hb e)))
          (by rw [← em]; exact hmv.heap P _ (nwr P _ hPs) (hk5 P _ hP3)) (AllBare.movedS (I1.bare.push hgb) hmv)
        rw [GxR.sh_eta s1 s' hmv.os] at J
        refine ⟨upd H1 P (.tbl (ps ++ more)), ⟨⟨ps ++ more, upd_same, by rw [← em]; exact ht3⟩, fun b hb => upd_ne hb⟩, J⟩
  refine ⟨lim2, ?_⟩
  cases hf : codeAmong gpos ps.toList with
  | none =>
    refine wpAny_genexprCodeX hcode (cd.code hP2 ht) (cd.tab hP2) hf fun c' h' tk hx hge hlt hco' _ htab' _ => ?_
    obtain ⟨o1, vs, f1, tf, fl, tg, inF, tx, tt, op, _, _, _, _, _, _, _, _, _, htr, _⟩ := hco'
    exact cont _ h' tk _ hx (Nat.le_trans hge (Nat.le_of_lt hlt)) htab'.2 ⟨_, rfl⟩ htr
  | some cv =>
    refine wpAny_genexprCode_hit hcode (cd.code hP2 ht) hf ?_
    exact cont cv h2 s1.toks ps (Heap.ExtBut.refl _ _) (Nat.le_refl _) hP2 ⟨#[], by simp⟩ ht

/-- all(test of xa, xb for xa, xb in zip(e1, e2)) -/
def tAllZ (K : PySem.W.Frag) (P : Addr) (dom : PyData → PyData → Prop) (pb : PyData → PyData → Bool) (ta : TA) : TE := fun σ H Q => ta σ H fun vs H1 => ∃ (x y : V) (ds es : List PyData), vs = [x, y] ∧ Dp K H1 x (.tuple ds) ∧ Dp K H1 y (.tuple es) ∧ (∀ p ∈ ds.zip es, dom p.1 p.2) ∧ GxR.TabG H1 P ∧
  ∀ H2, GxR.Tabbed P H1 H2 → Q (.bl ((ds.zip es).all fun p => pb p.1 p.2)) H2
theorem pe_allZ {c P : Addr} {elt e1 e2 : Expr} {xa xb : Str} {pa pb' pt zp zpos gpos p pos : Pos} {kt : Nat} {scope : Scope} {dom : PyData → PyData → Prop} {pb : PyData → PyData → Bool} {ta : TA} {k : Nat}
    (hr : Room k X.A) (hga : Gl X "all") (hma : X.mg "all" = none) (hba : bootBuiltins "all" = some (.builtin "all")) (hg : Gl X "zip") (hm : X.mg "zip" = none) (TB : GxR.TabB X.base X.mg c P) (hcode : X.env.code = .ref c) (S : GenS2 X.env scope xa xb) (ha : PA X [e1, e2] ta) (hel : EltZ X.prog X.w scope xa xb elt dom pb)
    (hs : ∀ v, genFold (.Call (.Name "zip" zp) [e1, e2] [] zpos) X.env v = pure v)
    (hs1 : starEach [e1, e2] X.env = (false, eval e1 X.env) :: starEach [e2] X.env := by rfl) (hpl : (backTo zpos (starEach [e2] X.env)).any (·.1) = false := by rfl)
    (he : starEach [.GeneratorExp elt [⟨.Tuple [.Name xa pa, .Name xb pb'] kt pt, .Call (.Name "zip" zp) [e1, e2] [] zpos, [], 0⟩] scope gpos] X.env = (false, eval (.GeneratorExp elt [⟨.Tuple [.Name xa pa, .Name xb pb'] kt pt, .Call (.Name "zip" zp) [e1, e2] [] zpos, [], 0⟩] scope gpos) X.env) :: starEach [] X.env := by rfl) :
    PE X (.Call (.Name "all" p) [.GeneratorExp elt [⟨.Tuple [.Name xa pa, .Name xb pb'] kt pt, .Call (.Name "zip" zp) [e1, e2] [] zpos, [], 0⟩] scope gpos] [] pos) (tAllZ X.K P dom pb ta) := by
  refine ⟨fun pins s σ H Q I h => ?_⟩
  refine wpAny_Call_Name_kw (ld_blt I hga hma hba ?_)
  refine PyProof.Rows.callWith_builtin1 ?_ he (by rfl)
  rw [he]
  show wpAny _ _ (spliced ((false, eval (.GeneratorExp elt [⟨.Tuple [.Name xa pa, .Name xb pb'] kt pt, .Call (.Name "zip" zp) [e1, e2] [] zpos, [], 0⟩] scope gpos) X.env) :: backTo pos (starEach [] X.env))) _ _ s
  refine Calls.spliced_cons (gen_zip (R := fun ds es H1 => ∀ H2, GxR.Tabbed P H1 H2 → Q (.bl ((ds.zip es).all fun p => pb p.1 p.2)) H2) hr hg hm TB hcode S ha hel hs I hs1 hpl h fun ds es H1 g s5 hR hG => ?_)
  obtain ⟨fp, wr, G, F, St, W, hst, htr, hI⟩ := hG
  refine Calls.spliced_nil ?_
  refine call_all_walkS (W.self 0 _ _ _ hst ⟨g, fp, wr, G, _, F, St, _, rfl, W, hst, htr, fun s' hmv => ?_⟩)
  obtain ⟨H2, hT, J⟩ := hI s' hmv
  refine ⟨.bl _, H2, J, rfl, ?_⟩
  rw [all_zipAt]
  exact hR H2 hT
end

/-! ### its big step -/
/-- a side that lets the table at P grow -/
structure TabS (S : Side) (P : Addr) : Prop where
  mut_ : S.mutb P
  good : ∀ H, S.inv H → GxR.TabG H P
  grow : ∀ H H2, S.inv H → GxR.Tabbed P H H2 → S.inv H2
theorem TabS.le {S T : Side} {P : Addr} (h : TabS S P) (l : Side.Le S T) : TabS T P := by
  induction l with
  | refl => exact h
  | hide D l ih =>
    refine ⟨ih.mut_, fun H i => ih.good H i.1, fun H H2 i t => ⟨ih.grow H H2 i.1 t, ?_⟩⟩
    by_cases e : D = P
    · rw [e]
      obtain ⟨ps, hp, _⟩ := t.1
      rw [hp]
      exact fun z => nomatch z
    · rw [t.2 D e]
      exact i.2
theorem ev_allZ {K : PySem.W.Frag} {S : Side} {ρ : Rho} {P : Addr} {dom : PyData → PyData → Prop} {pb : PyData → PyData → Bool} {ta : TA} {Q : DV → Prop} (hT : TabS S P)
    (h : EvA K S ta ρ fun xs => ∃ ds es : List PyData, xs = [.d (.tuple ds), .d (.tuple es)] ∧ (∀ p ∈ ds.zip es, dom p.1 p.2) ∧ Q (.d (.bool ((ds.zip es).all fun p => pb p.1 p.2)))) : Ev K S (tAllZ K P dom pb ta) ρ Q := fun σ H hi he R r =>
  h σ H hi he _ fun vs xs H1 t1 i1 p1 => by
    obtain ⟨ds, es, rfl, hd, q⟩ := p1
    match vs, i1 with
    | [x, y], i1 =>
      refine ⟨x, y, ds, es, rfl, dp_up i1.1, dp_up i1.2.1, hd, hT.good H1 t1.inv, fun H2 t => r _ (.d (.bool _)) H2 (t1.trans ⟨hT.grow H1 H2 t1.inv t, fun a o n e => ?_⟩) (show Dp _ _ _ _ from .bl _) q⟩
      rw [t.2 a (fun z => n (by rw [z]; exact hT.mut_))]
      exact e
end Tw
/-! dicts: displayed, asked; the row that a law draws from -/
namespace Tw
open PySem PySem.Spec PyProof.Rows L2

section
variable {K : PySem.W.Frag} {S : Side} {ρ : Rho}
def EvPs (K : PySem.W.Frag) (S : Side) (trs : List (TE × TE)) (ρ : Rho) (P : List (Key × PyData) → Prop) : Prop := match trs with
  | [] => P []
  | (tk, tv) :: r => Ev K S tk ρ fun x => ∃ k : Key, (x = .d (match k with | .inl i => .int i | .inr z => .str z)) ∧ Ev K S tv ρ fun y => ∃ d, y = .d d ∧ EvPs K S r ρ fun kvs => P ((k, d) :: kvs)
theorem pairs_run {P : List (Key × PyData) → Prop} : ∀ {trs : List (TE × TE)} {P : List (Key × PyData) → Prop} {σ : L2.St} {H : Hp}, EvPs K S trs ρ P → S.inv H → EnvOk K (S.view H) σ ρ → ∀ Q : List (V × V) → Hp → Prop,
    (∀ vs kvs H2, S.To H H2 → KDp K (S.view H2) vs kvs → P kvs → Q (vs.map fun kv => (kV kv.1, kv.2)) H2) → tPairs trs σ H Q
  | [], P, σ, H, h, hi, he, Q, q => q [] [] H (.refl hi) trivial h
  | (tk, tv) :: r, P, σ, H, h, hi, he, Q, q => by
    refine h σ H hi he _ fun v x H1 t1 i1 p1 => ?_
    obtain ⟨k, rfl, p1⟩ := p1
    refine p1 σ H1 t1.inv (he.mono t1.ex) _ fun w y H2 t2 i2 p2 => ?_
    obtain ⟨d, rfl, p2⟩ := p2
    refine pairs_run (P := P) p2 t2.inv (he.mono (t1.trans t2).ex) _ fun vs kvs H3 t3 k3 p3 => ?_
    have e : v = kV k := by
      cases k with
      | inl i => cases dp_d i1; rfl
      | inr z => cases dp_d i1; rfl
    rw [e]
    exact q ((k, w) :: vs) ((k, d) :: kvs) H3 ((t1.trans t2).trans t3) ⟨rfl, dp_mono t3.ex _ _ i2, k3⟩ p3
theorem kdp_keys {M : Hp} : ∀ {vs : List (Key × V)} {kvs : List (Key × PyData)}, KDp K M vs kvs → vs.map (·.1) = kvs.map (·.1)
  | [], [], _ => rfl
  | p :: vs, q :: kvs, h => by rw [List.map_cons, List.map_cons, h.1, kdp_keys h.2.2]
  | [], _ :: _, h => h.elim
  | _ :: _, [], h => h.elim
theorem put_new {acc : List (Key × V)} {k : Key} {v : V} (h : k ∉ acc.map (·.1)) : putK acc k v = acc ++ [(k, v)] := by
  unfold putK
  rw [if_neg]
  intro z
  obtain ⟨p, hp, e⟩ := List.any_eq_true.mp z
  exact h (List.mem_map.mpr ⟨p, hp, of_decide_eq_true e⟩)
theorem merge_nd : ∀ (more acc : List (Key × V)), ((acc ++ more).map (·.1)).Nodup → mergeK acc more = acc ++ more
  | [], acc, _ => by rw [List.append_nil]; rfl
  | p :: more, acc, h => by
    have hn : p.1 ∉ acc.map (·.1) := fun z => by
      rw [List.map_append, List.map_cons] at h
      exact (List.nodup_append.mp h).2.2 _ z _ List.mem_cons_self rfl
    show mergeK (putK acc p.1 p.2) more = _
    rw [put_new hn, merge_nd more _ (by rw [List.append_assoc]; exact h), List.append_assoc]
    rfl
theorem ev_disp {trs : List (TE × TE)} {P : DV → Prop} (h : ∀ T, Side.Le S T → EvPs K T trs ρ fun kvs => kvs.length ≤ 15 ∧ (kvs.map (·.1)).Nodup ∧ P (.dk kvs)) : Ev K S (tDisp trs) ρ P := fun σ H hi he Q q => by
  intro p np
  have t0 := Side.To.new (S := S) (o := .dK []) hi np
  have inv0 : (S.hide p).inv (upd H p (.dK [])) := ⟨t0.inv, by rw [upd_same]; exact fun z => nomatch z⟩
  refine pairs_run (P := fun kvs => kvs.length ≤ 15 ∧ (kvs.map (·.1)).Nodup ∧ P (.dk kvs)) (h (S.hide p) (.hide p (.refl S))) inv0 (he.mono (ex_hide np t0.keep)) _ fun vs kvs H2 t2 k2 p2 => ?_
  have nm : ¬ (S.hide p).mutb p := fun z => absurd np (S.there H p hi (S.sub p z))
  refine ⟨t2.keep p _ nm upd_same, vs, rfl, ?_, ?_⟩
  · have e := congrArg List.length (kdp_keys k2)
    rw [List.length_map, List.length_map] at e
    rw [e]
    exact p2.1
  · have e : mergeK [] vs = vs := by
      have e1 := merge_nd vs [] (by rw [List.nil_append, kdp_keys k2]; exact p2.2.1)
      rw [List.nil_append] at e1
      exact e1
    rw [e]
    have nh := nhid hi np
    have t3 : S.To H (upd H2 p (.dK vs)) := ⟨S.put H2 p _ t2.inv.1 nh (nofrz_of (t2.keep p _ nm upd_same) fun _ _ z => nomatch z), fun a o n e => by
      rw [upd_ne (ne_of_none e np)]
      exact t2.keep a o n (by rw [upd_ne (ne_of_none e np)]; exact e)⟩
    have ex3 : Evl.Ex ((S.hide p).view H2) (S.view (upd H2 p (.dK vs))) := fun a o e => by
      obtain ⟨n, e⟩ := view_some.mp e
      exact view_some.mpr ⟨fun z => n (.inl z), by rw [upd_ne (fun z => n (.inr z))]; exact e⟩
    exact q _ (.dk kvs) _ t3 ⟨p, vs, rfl, view_some.mpr ⟨nh, upd_same⟩, k2.mono ex3⟩ p2.2.2
/-- what stands under a key -/
def lookD (kvs : List (Key × PyData)) (k : Key) : Option PyData := (kvs.find? fun kv => decide (kv.1 = k)).map (·.2)
theorem kdp_look {M : Hp} {k : Key} {d : PyData} : ∀ {vs : List (Key × V)} {kvs : List (Key × PyData)}, KDp K M vs kvs → lookD kvs k = some d → ∃ v, valV vs k = some v ∧ Dp K M v d
  | [], [], _, e => by cases e
  | p :: vs, q :: kvs, h, e => by
    by_cases c : q.1 = k
    · have e1 : lookD (q :: kvs) k = some q.2 := by simp [lookD, List.find?_cons, c]
      rw [e1] at e
      cases e
      exact ⟨p.2, valV_pos (h.1.trans c), h.2.1⟩
    · have e1 : lookD (q :: kvs) k = lookD kvs k := by simp [lookD, List.find?_cons, c]
      rw [e1] at e
      obtain ⟨v, a, b⟩ := kdp_look h.2.2 e
      exact ⟨v, by rw [valV_neg (by rw [h.1]; exact c)]; exact a, b⟩
  | [], _ :: _, h, _ => h.elim
  | _ :: _, [], h, _ => h.elim
theorem ev_dget {td ty : TE} {P : DV → Prop} (h : Ev K S td ρ fun x => ∃ kvs, x = .dk kvs ∧ Ev K S ty ρ fun y => ∃ (k : Str) (d : PyData), y = .d (.str k) ∧ lookD kvs (.inr k) = some d ∧ P (.d d)) : Ev K S (tDGet td ty) ρ P := fun σ H hi he Q q =>
  h σ H hi he _ fun v x H1 t1 i1 p1 => by
    obtain ⟨kvs, rfl, p1⟩ := p1
    refine p1 σ H1 t1.inv (he.mono t1.ex) _ fun w y H2 t2 i2 p2 => ?_
    obtain ⟨k, d, rfl, e, p2⟩ := p2
    obtain ⟨p, vs, rfl, hp, hk⟩ := Is.mono t2.ex i1
    cases dp_d i2
    obtain ⟨u, hu, hd⟩ := kdp_look hk e
    refine ⟨p, u, rfl, .inl ⟨vs, .inr k, .inl (view_sub hp), rfl, hu.symm⟩, q u (.d d) H2 (t1.trans t2) hd p2⟩
end

/-! ### a written dict's get -/
def KGet (K : PySem.W.Frag) (w : World) (d : Addr) (z : Str) (r : Option V) : Prop :=
  (∃ es n, K.lookup d = some ⟨.type "dict", none, .dict es n, #[]⟩ ∧ PySem.W.KeysLit w.params es.toList) ∧ (d == sysModules) = false ∧ ((∃ u v, PySem.W.nsIn K d z = some (some u) ∧ RelV v u ∧ r = some v) ∨ (PySem.W.nsIn K d z = some none ∧ r = none))
def tKGet2 (K : PySem.W.Frag) (w : World) (td ty tx : TE) : TE := fun σ H Q => td σ H fun x H1 => ∃ a, x = .ref a ∧ (∃ es n, K.lookup a = some ⟨.type "dict", none, .dict es n, #[]⟩ ∧ PySem.W.KeysLit w.params es.toList) ∧ ty σ H1 fun y H2 => tx σ H2 fun z H3 => ∃ k r, y = .str k ∧ KGet K w a k r ∧ Q (r.getD z) H3
theorem pe_kget2 {X : Cx} {o e f : Expr} {apos cpos : Pos} {td ty tx : TE} (ho : PE X o td) (he : PE X e ty) (hf : PE X f tx) (m : M2 X o "get" apos e f cpos) : PE X (.Call (.Attribute o "get" apos) [e, f] [] cpos) (tKGet2 X.K X.w td ty tx) := by
  refine ⟨fun pins s σ H Q I h => ?_⟩
  refine wpAny_Call_method m.base m.few m.line PySem.F.plainAttrs_dict PySem.F.slot_dict_get PySem.F.type_dict_get (thn (ho.run pins s σ H _ I h) fun u s1 ⟨x, H1, I1, rx, a, ex, ⟨es, n, hl, hk⟩, q1⟩ => ?_)
  subst ex
  obtain rfl : u = Value.ref a := rx
  have hm := PySem.W.mapOf_K (prog := X.prog) (w := X.w) I1.kIn hl hk
  refine ⟨hm.typeIs, fun b q => ?_, ?_⟩
  · cases q
    exact ⟨_, I1.kIn _ _ hl, rfl⟩
  rw [m.trees]
  refine Calls.callWith_builtin rfl (Calls.evalArgs_plain (Calls.spliced_cons (thn (he.run pins s1 σ H1 _ I1 q1) fun iv s2 ⟨y, H2, I2, ry, q2⟩ =>
    Calls.spliced_cons (thn (hf.run pins s2 σ H2 _ I2 q2) fun fv s3 ⟨z, H3, I3, rz, k, r, ey, ⟨_, low, g⟩, q3⟩ => Calls.spliced_nil ?_))))
  subst ey
  obtain ⟨t, rfl⟩ := ry
  have hm3 := PySem.W.mapOf_K (prog := X.prog) (w := X.w) I3.kIn hl hk
  refine call_meetsIn PySem.F.slot_dict_get hm3.typeIs PySem.F.entry_dict_get (PySem.F.args_dict_get_3 _ _ _) (meets_dict_get_default (strKind X.prog X.w) a (strKind_is X.prog X.w k t) low fv) ⟨_, hm3, ?_⟩
  rcases g with ⟨u, v, e1, ru, rfl⟩ | ⟨e1, rfl⟩
  · have e2 := PySem.W.find_K hl e1
    refine ⟨v, H3, I3.tok _, ?_, q3⟩
    show RelV v ((findBy Value.isStrOf es k).getD fv)
    rw [e2]
    exact ru
  · have e2 := PySem.W.find_K hl e1
    refine ⟨z, H3, I3.tok _, ?_, q3⟩
    show RelV z ((findBy Value.isStrOf es k).getD fv)
    rw [e2]
    exact rz

/-! ### the row -/
/-- the row at r: the script, three ints -/
def RowOk (K : PySem.W.Frag) (sc : Addr) (ns : List Int) (H : Hp) (r : Addr) : Prop :=
  SqL K H sc (ns.map V.int) ∧ ∃ a b c : Int, H r = some (.lst [.ref sc, .int a, .int b, .int c]) ∧ 0 ≤ a ∧ 0 ≤ b ∧ b < 2147483647 ∧ 0 ≤ c
structure RowS (K : PySem.W.Frag) (S : Side) (r : Addr) : Prop where
  mut_ : S.mutb r
  row : ∃ sc ns, ns.length ≤ 63 ∧ (∀ H, S.inv H → RowOk K sc ns H r) ∧ ∀ H a b c, S.inv H → 0 ≤ a → 0 ≤ b → b < 2147483647 → 0 ≤ c → S.inv (upd H r (.lst [.ref sc, .int a, .int b, .int c]))
theorem RowS.le {K : PySem.W.Frag} {S T : Side} {r : Addr} (h : RowS K S r) (l : Side.Le S T) : RowS K T r := by
  induction l with
  | refl => exact h
  | hide D l ih =>
    obtain ⟨m, sc, ns, hn, h1, h2⟩ := ih
    refine ⟨m, sc, ns, hn, fun H i => h1 H i.1, fun H a b c i ha hb hb2 hc => ⟨h2 H a b c i.1 ha hb hb2 hc, ?_⟩⟩
    by_cases e : D = r
    · rw [e, upd_same]
      exact fun z => nomatch z
    · rw [upd_ne e]
      exact i.2
end Tw
namespace Tw
open PySem PySem.Spec PyProof.Rows L2
theorem fin_rt {P : DV → Prop} {x : DV} : fin P (.rt x) = P x := rfl
theorem fin_nx {P : DV → Prop} {ρ : Rho} : fin P (.nx ρ) = P (.d .none) := rfl
def isIntD : PyData → Bool
  | .int _ | .bool _ => true
  | _ => false
def isBoolD : PyData → Bool
  | .bool _ => true
  | _ => false
def isTupD : PyData → Bool
  | .tuple _ => true
  | _ => false
def isLstD : PyData → Bool
  | .list _ => true
  | _ => false
def isStrD : PyData → Bool
  | .str _ => true
  | _ => false
theorem isi_int : ∀ d : PyData, kitB (tyN d) "int" = some (isIntD d)
  | .none => (by decide +kernel : kitB "NoneType" "int" = some false)
  | .bool _ => (by decide +kernel : kitB "bool" "int" = some true)
  | .int _ => (by decide +kernel : kitB "int" "int" = some true)
  | .str _ => (by decide +kernel : kitB "str" "int" = some false)
  | .list _ => (by decide +kernel : kitB "list" "int" = some false)
  | .tuple _ => (by decide +kernel : kitB "tuple" "int" = some false)
  | .dict _ => (by decide +kernel : kitB "dict" "int" = some false)
theorem isi_bool : ∀ d : PyData, kitB (tyN d) "bool" = some (isBoolD d)
  | .none => (by decide +kernel : kitB "NoneType" "bool" = some false)
  | .bool _ => (by decide +kernel : kitB "bool" "bool" = some true)
  | .int _ => (by decide +kernel : kitB "int" "bool" = some false)
  | .str _ => (by decide +kernel : kitB "str" "bool" = some false)
  | .list _ => (by decide +kernel : kitB "list" "bool" = some false)
  | .tuple _ => (by decide +kernel : kitB "tuple" "bool" = some false)
  | .dict _ => (by decide +kernel : kitB "dict" "bool" = some false)
theorem isi_tuple : ∀ d : PyData, kitB (tyN d) "tuple" = some (isTupD d)
  | .none => (by decide +kernel : kitB "NoneType" "tuple" = some false)
  | .bool _ => (by decide +kernel : kitB "bool" "tuple" = some false)
  | .int _ => (by decide +kernel : kitB "int" "tuple" = some false)
  | .str _ => (by decide +kernel : kitB "str" "tuple" = some false)
  | .list _ => (by decide +kernel : kitB "list" "tuple" = some false)
  | .tuple _ => (by decide +kernel : kitB "tuple" "tuple" = some true)
  | .dict _ => (by decide +kernel : kitB "dict" "tuple" = some false)
theorem isi_list : ∀ d : PyData, kitB (tyN d) "list" = some (isLstD d)
  | .none => (by decide +kernel : kitB "NoneType" "list" = some false)
  | .bool _ => (by decide +kernel : kitB "bool" "list" = some false)
  | .int _ => (by decide +kernel : kitB "int" "list" = some false)
  | .str _ => (by decide +kernel : kitB "str" "list" = some false)
  | .list _ => (by decide +kernel : kitB "list" "list" = some true)
  | .tuple _ => (by decide +kernel : kitB "tuple" "list" = some false)
  | .dict _ => (by decide +kernel : kitB "dict" "list" = some false)
theorem isi_str : ∀ d : PyData, kitB (tyN d) "str" = some (isStrD d)
  | .none => (by decide +kernel : kitB "NoneType" "str" = some false)
  | .bool _ => (by decide +kernel : kitB "bool" "str" = some false)
  | .int _ => (by decide +kernel : kitB "int" "str" = some false)
  | .str _ => (by decide +kernel : kitB "str" "str" = some true)
  | .list _ => (by decide +kernel : kitB "list" "str" = some false)
  | .tuple _ => (by decide +kernel : kitB "tuple" "str" = some false)
  | .dict _ => (by decide +kernel : kitB "dict" "str" = some false)
section
variable {K : PySem.W.Frag} {S : Side} {ρ : Rho}
theorem ev_isiTL {te : TE} {P : DV → Prop} (h : Ev K S te ρ fun x => ∃ (d : PyData), x = .d d ∧ P (.d (.bool (isTupD d || isLstD d)))) :
    Ev K S (tCB (rIsiT K) (tCons te (tCons (L2.tTup (tCons (tC (.ty "tuple")) (tCons (tC (.ty "list")) tNil))) tNil))) ρ P := ev_isi2 (h.imp fun x ⟨d, e, p⟩ => ⟨d, _, _, e, isi_tuple d, isi_list d, p⟩)
/-- a tuple's or a list's item -/
theorem ix_tl {X : Cx} : IxR X (fun x y H Q => rIxT X.K x y H Q ∨ rIxL X.K x y H Q) := IxR.or ix_tup ix_list
theorem e2_ixTLt {ds : List PyData} {i : Int} {d : PyData} {P : DV → Prop} (e : atI ds i = some d) (p : P (.d d)) : Ev2 K S (fun x y H Q => rIxT K x y H Q ∨ rIxL K x y H Q) (.d (.tuple ds)) (.d (.int i)) P := fun v w H hi hv hw Q q => .inl (e2_ixT (K := K) e p v w H hi hv hw Q q)
theorem e2_ixTLl {ds : List PyData} {i : Int} {d : PyData} {P : DV → Prop} (e : atI ds i = some d) (p : P (.d d)) : Ev2 K S (fun x y H Q => rIxT K x y H Q ∨ rIxL K x y H Q) (.d (.list ds)) (.d (.int i)) P := fun v w H hi hv hw Q q => .inr (e2_ixL (K := K) e p v w H hi hv hw Q q)
def KDictAt (K : PySem.W.Frag) (w : World) (a : Addr) : Prop := ∃ es n, K.lookup a = some ⟨.type "dict", none, .dict es n, #[]⟩ ∧ PySem.W.KeysLit w.params es.toList
theorem KGet.at_ {w : World} {a : Addr} {z : Str} {r : Option V} (h : KGet K w a z r) : KDictAt K w a := h.1
theorem ev_kget2 {w : World} {td ty tx : TE} {P : DV → Prop} (h : Ev K S td ρ fun x => ∃ a, x = .v (.ref a) ∧ KDictAt K w a ∧ Ev K S ty ρ fun y => Ev K S tx ρ fun z => ∃ (k : Str) (r : Option Str) (d : PyData), y = .d (.str k) ∧ z = .d d ∧ KGet K w a k (r.map V.str) ∧ P (.d ((r.map PyData.str).getD d))) : Ev K S (tKGet2 K w td ty tx) ρ P := fun σ H hi he Q q =>
  h σ H hi he _ fun v x H1 t1 i1 p1 => by
    obtain ⟨a, rfl, hK, p1⟩ := p1
    obtain rfl : v = .ref a := i1
    refine ⟨a, rfl, hK, p1 σ H1 t1.inv (he.mono t1.ex) _ fun y y' H2 t2 i2 p2 => p2 σ H2 t2.inv (he.mono (t1.trans t2).ex) _ fun z z' H3 t3 i3 p3 => ?_⟩
    obtain ⟨k, r, d, rfl, rfl, g, p3⟩ := p3
    cases dp_d i2
    refine ⟨k, r.map V.str, rfl, g, q _ (.d _) H3 ((t1.trans t2).trans t3) ?_ p3⟩
    cases r with
    | none => exact i3
    | some s => exact (show Dp _ _ _ _ from .str s)
end
/-! ### small facts on data -/
theorem depth_none : PyData.depth .none = 0 := by simp [PyData.depth]
theorem depth_int (i : Int) : PyData.depth (.int i) = 0 := by simp [PyData.depth]
theorem depth_str (i : Str) : PyData.depth (.str i) = 0 := by simp [PyData.depth]
theorem depth_bool (i : Bool) : PyData.depth (.bool i) = 0 := by simp [PyData.depth]
theorem eqv_str (a b : Str) : PyData.eqv (.str a) (.str b) = (a == b) := by simp [PyData.eqv]
theorem eqv_int (a b : Int) : PyData.eqv (.int a) (.int b) = (a == b) := by simp [PyData.eqv]
theorem eqv_bool (a b : Bool) : PyData.eqv (.bool a) (.bool b) = (a == b) := by simp [PyData.eqv]
theorem eqv_none : PyData.eqv .none .none = true := by simp [PyData.eqv]
end Tw
namespace Tw
open PySem PySem.Spec PyProof.Rows L2
/-- the data of a list of descriptions -/
def undata : List DV → List PyData
  | [] => []
  | .d x :: r => x :: undata r
  | .v _ :: r => .none :: undata r
  | .dk _ :: r => .none :: undata r
section
variable {K : PySem.W.Frag} {S : Side} {ρ : Rho}
theorem ev_tupU {tx : TA} {P : DV → Prop} (h : EvA K S tx ρ fun xs => xs = (undata xs).map DV.d ∧ (undata xs).length ≤ sizeLine ∧ P (.d (.tuple (undata xs)))) : Ev K S (tTup tx) ρ P :=
  ev_tup (h.imp fun xs h => ⟨undata xs, h⟩)
theorem ev_lstU {tx : TA} {P : DV → Prop} (h : EvA K S tx ρ fun xs => xs = (undata xs).map DV.d ∧ (undata xs).length ≤ sizeLine ∧ P (.d (.list (undata xs)))) : Ev K S (tLst tx) ρ P :=
  ev_lst (h.imp fun xs h => ⟨undata xs, h⟩)
theorem sz100 {n : Nat} (h : Nat.ble n 100 = true) : n ≤ sizeLine := Nat.le_trans (Nat.le_of_ble_eq_true h) (by decide)
theorem et_yes {P : Bool → Prop} (p : P true) : EvT K S tYes ρ P := fun σ H hi he Q q => q true H (.refl hi) p
/-- strings as data -/
abbrev sD (l : List Str) : List PyData := l.map PyData.str
abbrev tupS (l : List Str) : PyData := .tuple (sD l)
abbrev lstS (l : List Str) : PyData := .list (sD l)
/-- [way + (word,) for .. word in ..], the inner one -/
theorem inW_cat {i j : Nat} {w : List Str} {kc : List PyData → Prop} (hi : ρ[i]? = some (some (.d (tupS w)))) (hij : i ≠ j) (hj : j < ρ.length) (hw : w.length ≤ 100) : ∀ (ws : List Str) (acc : List PyData), acc.length + ws.length ≤ 1000 →
    kc (acc ++ ws.map fun x => tupS (w ++ [x])) → inW K S ρ j tYes (tOp (rCatA K) (tVar i) (tTup (tCons (tVar j) tNil))) (sD ws) acc kc
  | [], acc, _, k => by
    rw [List.map_nil, List.append_nil] at k
    exact k
  | x :: ws, acc, hl, k => by
    rw [List.length_cons] at hl
    refine et_yes ⟨fun _ => ?_, fun z => nomatch z⟩
    refine ev_op (ev_var (x := .d (tupS w)) (by rw [List.getElem?_set_ne (Ne.symm hij)]; exact hi) ?_)
    refine ev_tupU (ea_cons (ev_var (x := .d (.str x)) (List.getElem?_set_self hj) (ea_nil ⟨rfl, sz100 rfl, ?_⟩)))
    refine e2_catT (by
      rw [List.length_map]
      show w.length + 1 ≤ sizeLine
      exact Nat.le_trans (Nat.succ_le_succ hw) (by decide)) ⟨_, rfl, Nat.lt_of_le_of_lt (show acc.length ≤ 1000 by omega) (by decide), ?_⟩
    refine inW_cat hi hij hj hw ws _ (by rw [List.length_append, List.length_singleton]; omega) ?_
    rw [List.append_assoc]
    have e : sD w ++ undata [DV.d (PyData.str x)] = sD (w ++ [x]) := by
      rw [sD, sD, List.map_append]
      rfl
    rw [e]
    exact k
end
end Tw
namespace Tw
open PySem PySem.Spec PyProof.Rows L2
section
variable {K : PySem.W.Frag} {S : Side} {ρ : Rho}
theorem forW_cons {g : TG} {tb : TS} {x : PyData} {xs : List PyData} {P : Out → Prop} (h : EvG K S g (.d x) ρ fun ρ2 => Run K S tb ρ2 fun o => match o with
    | .nx ρ' => forW K S g tb xs ρ' P
    | .ct ρ' => forW K S g tb xs ρ' P
    | .bk ρ' => P (.nx ρ')
    | .rt v => P (.rt v)) : forW K S g tb (x :: xs) ρ P := h
theorem forW_nil {g : TG} {tb : TS} {P : Out → Prop} (h : P (.nx ρ)) : forW K S g tb [] ρ P := h
/-- the outer one -/
theorem lc2W_cat {i j : Nat} {ws : List Str} {P : List PyData → Prop} {vs1 : List Nat} {k : Nat} (hw : ρ[k]? = some (some (.d (tupS ws)))) (hki : k ≠ i) (hi : i < ρ.length) (hij : i ≠ j) (hj : j < ρ.length) (h1 : vs1 = [j]) :
    ∀ (ls : List (List Str)) (acc : List PyData), (∀ l ∈ ls, l.length ≤ 100) → acc.length + ls.length * ws.length ≤ 1000 → P (acc ++ (ls.flatMap fun l => ws.map fun x => l ++ [x]).map tupS) →
    lc2W K S ρ i tYes (iTup K (tVar k)) j vs1 tYes (tOp (rCatA K) (tVar i) (tTup (tCons (tVar j) tNil))) (ls.map tupS) acc P
  | [], acc, _, _, p => by
    have e : acc ++ ((([] : List (List Str)).flatMap fun l => ws.map fun x => l ++ [x]).map tupS) = acc := by simp
    rw [e] at p
    exact p
  | l :: ls, acc, hl, hn, p => by
    subst h1
    have hn' : acc.length + (ls.length * ws.length + ws.length) ≤ 1000 := by
      rw [List.length_cons, Nat.succ_mul] at hn
      exact hn
    refine et_yes ⟨fun _ => ?_, fun z => nomatch z⟩
    refine ei_tup (ev_var (x := .d (tupS ws)) (by rw [List.getElem?_set_ne (Ne.symm hki)]; exact hw) ⟨_, rfl, ?_⟩)
    have hi2 : (wipeR (ρ.set i (some (.d (tupS l)))) [j])[i]? = some (some (.d (tupS l))) := by
      show ((ρ.set i (some (DV.d (tupS l)))).set j none)[i]? = _
      rw [List.getElem?_set_ne (Ne.symm hij)]
      exact List.getElem?_set_self hi
    refine inW_cat hi2 hij (by show j < ((ρ.set i (some (DV.d (tupS l)))).set j none).length; rw [List.length_set, List.length_set]; exact hj) (hl l List.mem_cons_self) ws acc (by omega) ?_
    refine lc2W_cat hw hki hi hij hj rfl ls _ (fun l' h => hl l' (List.mem_cons_of_mem _ h)) (by rw [List.length_append, List.length_map]; omega) ?_
    have e : acc ++ (ws.map fun x => tupS (l ++ [x])) ++ (ls.flatMap fun l => ws.map fun x => l ++ [x]).map tupS = acc ++ (((l :: ls).flatMap fun l => ws.map fun x => l ++ [x]).map tupS) := by
      rw [List.flatMap_cons, List.map_append, List.map_map, List.append_assoc]
      rfl
    rw [e]
    exact p
/-- the way there: each way one word longer -/
def waysStep (acc : List (List Str)) (ws : List Str) : List (List Str) := acc.flatMap fun l => ws.map fun x => l ++ [x]
end
end Tw
namespace Tw
open PySem PySem.Spec PyProof.Rows L2
theorem pi_listK {X : Cx} {K : PySem.W.Frag} {tg l : Expr} {tl : TE} (hK : X.K = K) (hl : PE X l tl) : PI X tg l (iList K tl) := by
  subst hK
  exact pi_list hl
theorem pi_tupK {X : Cx} {K : PySem.W.Frag} {tg l : Expr} {tl : TE} (hK : X.K = K) (hl : PE X l tl) : PI X tg l (iTup K tl) := by
  subst hK
  exact pi_tup hl
def rIxTL (K : PySem.W.Frag) : R2 := fun x y H Q => rIxT K x y H Q ∨ rIxL K x y H Q
end Tw
namespace Tw
open PySem PySem.Spec PyProof.Rows L2
section
variable {K : PySem.W.Frag} {S : Side} {ρ : Rho}
/-- the row is written -/
theorem RowS.to {r sc : Addr} {H : Hp} {a b c : Int} (hS : RowS K S r) (hput : ∀ H a b c, S.inv H → 0 ≤ a → 0 ≤ b → b < 2147483647 → 0 ≤ c → S.inv (upd H r (.lst [.ref sc, .int a, .int b, .int c]))) (hi : S.inv H) (ha : 0 ≤ a) (hb : 0 ≤ b) (hb2 : b < 2147483647) (hc : 0 ≤ c) :
    S.To H (upd H r (.lst [.ref sc, .int a, .int b, .int c])) := ⟨hput H a b c hi ha hb hb2 hc, fun x o n e => by rw [upd_ne (fun z => n (by rw [z]; exact hS.mut_))]; exact e⟩
theorem slots4 {M : Hp} {σ : L2.St} {r : Addr} {m : Int} (h : EnvOk K M σ [some (.v (.ref r)), some (.d (.int m)), none, none]) : ∃ c d, σ = [some (.ref r), some (.int m), c, d] := by
  obtain ⟨v0, e0, i0⟩ := h.get 0 _ rfl
  obtain ⟨v1, e1, i1⟩ := h.get 1 _ rfl
  obtain rfl : v0 = V.ref r := i0
  cases dp_d i1
  match σ, h.len with
  | [x0, x1, x2, x3], _ =>
    have q0 : x0 = some (V.ref r) := Option.some.inj e0
    have q1 : x1 = some (V.int m) := Option.some.inj e1
    rw [q0, q1]
    exact ⟨x2, x3, rfl⟩
/-- a comprehension over words -/
theorem lcW_cat {i j : Nat} {w : List Str} {kc : List PyData → Prop} (hi : ρ[i]? = some (some (.d (tupS w)))) (hij : i ≠ j) (hj : j < ρ.length) (hw : w.length ≤ 100) : ∀ (ws : List Str) (acc : List PyData),
    kc (acc ++ ws.map fun x => tupS (w ++ [x])) → lcW K S ρ j tYes (tOp (rCatA K) (tVar i) (tTup (tCons (tVar j) tNil))) (sD ws) acc kc
  | [], acc, k => by
    rw [List.map_nil, List.append_nil] at k
    exact k
  | x :: ws, acc, k => by
    refine et_yes ⟨fun _ => ?_, fun z => nomatch z⟩
    refine ev_op (ev_var (x := .d (tupS w)) (by rw [List.getElem?_set_ne (Ne.symm hij)]; exact hi) ?_)
    refine ev_tupU (ea_cons (ev_var (x := .d (.str x)) (List.getElem?_set_self hj) (ea_nil ⟨rfl, sz100 rfl, ?_⟩)))
    refine e2_catT (by
      rw [List.length_map]
      show w.length + 1 ≤ sizeLine
      exact Nat.le_trans (Nat.succ_le_succ hw) (by decide)) ⟨_, rfl, ?_⟩
    refine lcW_cat hi hij hj hw ws _ ?_
    rw [List.append_assoc]
    have e : sD w ++ undata [DV.d (PyData.str x)] = sD (w ++ [x]) := by
      rw [sD, sD, List.map_append]
      rfl
    rw [e]
    exact k
/-- a comprehension whose test is told by a function of the item -/
theorem lcW_filter {j : Nat} {tt : TT} {f : PyData → Bool} (hj : j < ρ.length) : ∀ (xs acc : List PyData) {kc : List PyData → Prop}, (∀ x ∈ xs, ∀ PB : Bool → Prop, PB (f x) → EvT K S tt (ρ.set j (some (.d x))) PB) → kc (acc ++ xs.filter f) → lcW K S ρ j tt (tVar j) xs acc kc
  | [], acc, kc, _, k => by
    rw [List.filter_nil, List.append_nil] at k
    exact k
  | x :: xs, acc, kc, h, k => by
    refine h x List.mem_cons_self _ ⟨fun e => ?_, fun e => ?_⟩
    · refine ev_var (List.getElem?_set_self hj) ⟨x, rfl, ?_⟩
      refine lcW_filter hj xs _ (fun y hy => h y (List.mem_cons_of_mem _ hy)) ?_
      rw [List.filter_cons, if_pos e] at k
      rw [List.append_assoc]
      exact k
    · refine lcW_filter hj xs _ (fun y hy => h y (List.mem_cons_of_mem _ hy)) ?_
      rw [List.filter_cons, if_neg (by rw [e]; exact Bool.false_ne_true)] at k
      exact k
end
end Tw
/-! a dict among whose keys None may be -/
namespace Tw
open PySem PySem.Spec PyProof.Rows L2
abbrev NKey := Option Key
def nkV : NKey → V
  | none => .non
  | some k => kV k
theorem nk_is {P : Program} {w : World} {k : NKey} {u : Value} (r : RelV (nkV k) u) : (noneKind P w).is k u = true := by
  cases k with
  | none =>
    obtain rfl : u = Value.none := r
    rfl
  | some k => exact kV_is (P := P) (w := w) (k := k) r
def dNp (P : Program) (w : World) (a : Addr) (kvs : List (NKey × V)) (h : Heap) : Prop := kvs.length ≤ sizeLine ∧ (a == sysModules) = false ∧ ∃ vs, KV kvs vs ∧ h.DictOf (noneKind P w) a vs
abbrev dN (P : Program) (w : World) (a : Addr) (kvs : List (NKey × V)) : HO := .ext (dNp P w a kvs)
section
variable {P : Program} {w : World} {H : Hp} {h : Heap} {a : Addr} {kvs : List (NKey × V)}
theorem dN_new (x : dNp P w a kvs h) : ObjOk P w H h a (dN P w a kvs) := by
  refine ⟨x, ?_, fun h1 h2 y k => ?_⟩
  · obtain ⟨_, _, vs, _, o, es, ep, e, _⟩ := x
    exact ⟨o, e⟩
  · obtain ⟨z, hd, vs, r, o, es, ep, e, c⟩ := y
    exact ⟨z, hd, vs, r, o, es, ep, k o e, c⟩
theorem dN_of (x : HOk P w H h) (e : H a = some (dN P w a kvs)) : dNp P w a kvs h := by
  have y : ObjOk P w H h a (dN P w a kvs) := x a _ e
  exact y.1
theorem pairs_none : ∀ {es : List DictEntry} {vs : List (Key × Value)}, Pairs (mixKind P w) es vs → Pairs (noneKind P w) es (vs.map fun p => (some p.1, p.2))
  | _, _, .nil => .nil
  | _, _, .cons h1 h2 t => .cons h1 h2 (pairs_none t)
theorem kv_none : ∀ {kvs : List (Key × V)} {vs : List (Key × Value)}, KV kvs vs → KV (kvs.map fun p => ((some p.1 : NKey), p.2)) (vs.map fun p => ((some p.1 : NKey), p.2))
  | _, _, .nil => .nil
  | _, _, .cons h t => .cons ⟨congrArg some h.1, h.2⟩ (kv_none t)
theorem dN_as {kvs : List (Key × V)} (x : HOk P w H h) (e : H a = some (.dK kvs)) : dNp P w a (kvs.map fun p => (some p.1, p.2)) h := by
  obtain ⟨z, hd, vs, r, o, es, ep, ho, hx, hdt, hk, hp, hn⟩ := dk_of x e
  refine ⟨by rw [List.length_map]; exact z, hd, _, kv_none r, o, es, ep, ho, hx, hdt, fun e he => ?_, pairs_none hp, ?_⟩
  · obtain ⟨k, h1, h2⟩ := hk e he
    exact ⟨some k, h1, h2⟩
  · rw [List.map_map]
    have q : (vs.map ((fun p => p.1) ∘ fun p : Key × Value => ((some p.1 : NKey), p.2))) = (vs.map (·.1)).map some := by
      rw [List.map_map]
      rfl
    rw [q]
    exact List.Pairwise.map some (fun x y z q => z (Option.some.inj q)) hn
end
/-- a dict, seen as one whose keys may be None -/
def tAsN (P : Program) (w : World) (te : TE) : TE := fun σ H Q => te σ H fun v H1 => ∃ a kvs, v = .ref a ∧ H1 a = some (.dK kvs) ∧ Q v (upd H1 a (dN P w a (kvs.map fun p => (some p.1, p.2))))
def tDGetN (P : Program) (w : World) (td ty : TE) : TE := fun σ H Q => td σ H fun x H1 => ty σ H1 fun y H2 => ∃ a kvs k v, x = .ref a ∧ H2 a = some (dN P w a kvs) ∧ y = nkV k ∧ valV kvs k = some v ∧ Q v H2
def tDNotN (P : Program) (w : World) (ty td : TE) : TE := fun σ H Q => ty σ H fun y H1 => td σ H1 fun x H2 => ∃ a kvs k, x = .ref a ∧ H2 a = some (dN P w a kvs) ∧ y = nkV k ∧ Q (.bl (!(valV kvs k).isSome)) H2
def sDPutN (P : Program) (w : World) (td ty tv : TE) : TS := fun D σ H => tv σ H fun v H1 => td σ H1 fun x H2 => ty σ H2 fun y H3 => ∃ a kvs k, x = .ref a ∧ H3 a = some (dN P w a kvs) ∧ y = nkV k ∧ kvs.length < sizeLine ∧ D.nx σ (upd H3 a (dN P w a (putK kvs k v)))
def rLenN (P : Program) (w : World) : List V → Hp → VK → Prop := fun xs H Q => ∃ a kvs, xs = [V.ref a] ∧ H a = some (dN P w a kvs) ∧ Q (.int kvs.length) H
section
variable {X : Cx} {P : Program} {w : World}
theorem pe_asN {e : Expr} {te : TE} (hP : X.prog = P) (hw : X.w = w) (h : PE X e te) : PE X e (tAsN P w te) := by
  subst hP hw
  refine ⟨fun pins s σ H Q I q => ?_⟩
  refine thn (h.run pins s σ H _ I q) fun u s1 ⟨v, H1, I1, rv, a, kvs, e1, e2, q1⟩ => ?_
  have new := dN_as I1.hok e2
  have he : ∃ o, s1.heap.get? a = some o := let ⟨_, _, _, _, o, _, _, e, _⟩ := new; ⟨o, e⟩
  exact ⟨v, _, I1.write (x := a) (e := a) (h' := s1.heap) (t' := s1.toks) (by rw [e2]; exact True.intro) (.inl rfl) (fun b u _ q => q) he (dN_new new), rv, q1⟩
theorem pe_dgetN {o i : Expr} {pos : Pos} {td ty : TE} (hP : X.prog = P) (hw : X.w = w) (ho : PE X o td) (hi : PE X i ty) (hs : NoSl i) : PE X (.Subscript o i pos) (tDGetN P w td ty) := by
  subst hP hw
  refine ⟨fun pins s σ H Q I h => ?_⟩
  refine subD_of PySem.F.slot_dict_getitem.lookup hs (thn (ho.run pins s σ H _ I h) fun u s1 ⟨x, H1, I1, rx, q1⟩ => thn (hi.run pins s1 σ H1 _ I1 q1) fun iv s2 ⟨y, H2, I2, ry, a, kvs, k, v, ex, g, ey, l, q2⟩ => ?_)
  subst ex ey
  obtain rfl : u = Value.ref a := rx
  obtain ⟨z, hd, vs, rel, dd⟩ := dN_of I2.hok g
  obtain ⟨w', hw, rw'⟩ := RelO.some_of (v := v) (o := valueAt vs k) (by rw [← l]; exact rel.val k)
  exact ⟨dd.typeIs, wpAny_getItem_of (nk_is ry) dd.mapOf hw ⟨v, H2, I2.tok _, rw', q2⟩⟩
theorem pc_dnotN {o i : Expr} {td ty : TE} (hP : X.prog = P) (hw : X.w = w) (hi : PE X i ty) (ho : PE X o td) : PC X .NotIn i o (tDNotN P w ty td) := by
  subst hP hw
  refine ⟨fun pins s σ H Q I h => ?_⟩
  refine thn (hi.run pins s σ H _ I h) fun iv s1 ⟨y, H1, I1, ry, q1⟩ => thn (ho.run pins s1 σ H1 _ I1 q1) fun u s2 ⟨x, H2, I2, rx, a, kvs, k, ex, g, ey, q2⟩ => ?_
  subst ex ey
  obtain rfl : u = Value.ref a := rx
  obtain ⟨z, hd, vs, rel, dd⟩ := dN_of I2.hok g
  refine wpAny_notIn_of (nk_is ry) hd dd.mapOf ?_
  rw [← (rel.val k).isSome_eq]
  exact ⟨.bl (!(valV kvs k).isSome), H2, I2.tok _, rfl, q2⟩
theorem ps_dputN {o i value : Expr} {pos pos' : Pos} {td ty tv : TE} (hP : X.prog = P) (hw : X.w = w) (ho : PE X o td) (hi : PE X i ty) (hv : PE X value tv) (hs : swapsWith value (some (.Subscript o i pos')) pos.line X.env = pure false) :
    PS X (.Assign [.Subscript o i pos'] value pos) (sDPutN P w td ty tv) := by
  subst hP hw
  refine ⟨fun pins s σ H D I h => ?_⟩
  refine wpAny_Assign_Subscript (thn (hv.run pins s σ H _ I h) fun r s1 ⟨v, H1, I1, rv, q1⟩ => thn (ho.run pins s1 σ H1 _ I1 q1) fun u s2 ⟨x, H2, I2, rx, q2⟩ => thn (hi.run pins s2 σ H2 _ I2 q2) fun iv s3 ⟨y, H3, I3, ry, a, kvs, k, ex, g, ey, l, q3⟩ => ?_) hs
  subst ex ey
  obtain rfl : u = Value.ref a := rx
  obtain ⟨z, hd, vs, rel, dd⟩ := dN_of I3.hok g
  have hz : vs.length ≤ sizeLine := by rw [← rel.length]; exact z
  have hl : (putK kvs k v).length ≤ sizeLine := by have := length_putK kvs k v; omega
  refine wpAny_setItem_pairs (hsz := hz) (nk_is ry) dd fun h' dd' hs => ⟨σ, _, ?_, q3⟩
  have he : ∃ q, h'.get? a = some q := let ⟨q, _, _, hq, _⟩ := dd'; ⟨q, hq⟩
  exact d_write I3 (by rw [g]; exact True.intro) hs he (dN_new ⟨hl, hd, _, rel.put k rv, dd'⟩)
theorem call_lenN (hP : X.prog = P) (hw : X.w = w) : CallR X (.builtin "len") (rLenN P w) := by
  subst hP hw
  intro pins s σ H xs us Q I r h
  obtain ⟨a, kvs, rfl, ha, q⟩ := h
  obtain ⟨u, rfl, ru⟩ := vals1 r
  cases ru
  obtain ⟨z, hd, vs, rel, dd⟩ := dN_of I.hok ha
  refine call_len_dict hd dd (by rw [← rel.length]; rw [sizeLine_eq] at z; omega) ?_
  rw [← rel.length]
  exact ⟨.int kvs.length, H, I.tok _, ⟨_, rfl⟩, q⟩
end
end Tw
/-! a run beside a dict that changes -/
namespace Tw
open PySem PySem.Spec PyProof.Rows L2
def keyD : NKey → PyData
  | none => .none
  | some (.inl i) => .int i
  | some (.inr z) => .str z
theorem dp_key {K : PySem.W.Frag} {M : Hp} {v : V} : ∀ {k : NKey}, Dp K M v (keyD k) → v = nkV k
  | none, h => by cases h; rfl
  | some (.inl i), h => by cases h; rfl
  | some (.inr z), h => by cases h; rfl
theorem key_dp {K : PySem.W.Frag} {M : Hp} : ∀ (k : NKey), Dp K M (nkV k) (keyD k)
  | none => .non
  | some (.inl i) => .int i
  | some (.inr z) => .str z
def nmap (es : List (NKey × NKey)) : List (NKey × V) := es.map fun e => (e.1, nkV e.2)
def lookN (es : List (NKey × NKey)) (k : NKey) : Option NKey := (es.find? fun e => decide (e.1 = k)).map (·.2)
theorem look_n (k : NKey) : ∀ es : List (NKey × NKey), valV (nmap es) k = (lookN es k).map nkV
  | [] => rfl
  | e :: es => by
    have ih := look_n k es
    by_cases c : e.1 = k
    · have a : valV (nmap (e :: es)) k = some (nkV e.2) := valV_pos (p := (e.1, nkV e.2)) c
      have b : lookN (e :: es) k = some e.2 := by simp [lookN, List.find?_cons, c]
      rw [a, b]
      rfl
    · have a : valV (nmap (e :: es)) k = valV (nmap es) k := valV_neg (p := (e.1, nkV e.2)) c
      have b : lookN (e :: es) k = lookN es k := by simp [lookN, List.find?_cons, c]
      rw [a, b, ih]
theorem put_n {es : List (NKey × NKey)} {k k' : NKey} (h : lookN es k = none) : putK (nmap es) k (nkV k') = nmap (es ++ [(k, k')]) := by
  rw [putK_new _ (by rw [look_n, h]; rfl)]
  unfold nmap
  rw [List.map_append]
  rfl
theorem nmap_len (es : List (NKey × NKey)) : (nmap es).length = es.length := List.length_map _
def Side.withN (S : Side) (P : Program) (w : World) (p : Addr) (es : List (NKey × NKey)) : Side where
  mutb := S.mutb
  hid := fun a => S.hid a ∨ a = p
  inv := fun H => S.inv H ∧ H p = some (dN P w p (nmap es))
  sub := fun a h => .inl (S.sub a h)
  there := fun H a h z => z.elim (S.there H a h.1) fun e => by rw [e, h.2]; exact fun z => nomatch z
  put := fun H q o h n nf => ⟨S.put H q o h.1 (fun z => n (.inl z)) nf, by
    rw [upd_ne (fun e : p = q => n (.inr e.symm))]
    exact h.2⟩
section
variable {K : PySem.W.Frag} {S : Side} {P : Program} {w : World} {p : Addr} {es : List (NKey × NKey)} {ρ : Rho}
theorem RowS.withN {r : Addr} (h : RowS K S r) (n : ¬ S.hid p) : RowS K (S.withN P w p es) r := by
  obtain ⟨m, sc, ns, hn, h1, h2⟩ := h
  have ne : p ≠ r := fun e => n (by rw [e]; exact S.sub r m)
  exact ⟨m, sc, ns, hn, fun H i => h1 H i.1, fun H a b c i ha hb hb2 hc => ⟨h2 H a b c i.1 ha hb hb2 hc, by rw [upd_ne ne]; exact i.2⟩⟩
theorem TabS.withN {r : Addr} (h : TabS S r) (n : ¬ S.hid p) : TabS (S.withN P w p es) r := by
  have ne : p ≠ r := fun e => n (by rw [e]; exact S.sub r h.mut_)
  exact ⟨h.mut_, fun H i => h.good H i.1, fun H H2 i t => ⟨h.grow H H2 i.1 t, by rw [t.2 p ne]; exact i.2⟩⟩
theorem withN_ex (H : Hp) : Evl.Ex ((S.withN P w p es).view H) (S.view H) := fun a o e => by
  obtain ⟨n, e⟩ := view_some.mp e
  exact view_some.mpr ⟨fun z => n (.inl z), e⟩
theorem to_withN {H H2 : Hp} (t : (S.withN P w p es).To H H2) : S.To H H2 := ⟨t.inv.1, t.keep⟩
theorem ev_dgetN {td ty : TE} {Q : DV → Prop} (h : Ev K (S.withN P w p es) td ρ fun x => x = .v (.ref p) ∧ Ev K (S.withN P w p es) ty ρ fun y => ∃ k k', y = .d (keyD k) ∧ lookN es k = some k' ∧ Q (.d (keyD k'))) : Ev K (S.withN P w p es) (tDGetN P w td ty) ρ Q := fun σ H hi he R r =>
  h σ H hi he _ fun v x H1 t1 i1 p1 => by
    obtain ⟨rfl, p1⟩ := p1
    obtain rfl : v = .ref p := i1
    refine p1 σ H1 t1.inv (he.mono t1.ex) _ fun u y H2 t2 i2 p2 => ?_
    obtain ⟨k, k', rfl, l, p2⟩ := p2
    exact ⟨p, nmap es, k, nkV k', rfl, t2.inv.2, dp_key i2, by rw [look_n, l]; rfl, r _ (.d (keyD k')) H2 (t1.trans t2) (key_dp k') p2⟩
theorem et_dnotN {td ty : TE} {Q : DV → Prop} (h : Ev K (S.withN P w p es) ty ρ fun y => ∃ k, y = .d (keyD k) ∧ Ev K (S.withN P w p es) td ρ fun x => x = .v (.ref p) ∧ Q (.d (.bool (!(lookN es k).isSome)))) : Ev K (S.withN P w p es) (tDNotN P w ty td) ρ Q := fun σ H hi he R r =>
  h σ H hi he _ fun u y H1 t1 i1 p1 => by
    obtain ⟨k, rfl, p1⟩ := p1
    refine p1 σ H1 t1.inv (he.mono t1.ex) _ fun v x H2 t2 i2 p2 => ?_
    obtain ⟨rfl, p2⟩ := p2
    obtain rfl : v = .ref p := i2
    refine ⟨p, nmap es, k, rfl, t2.inv.2, dp_key i1, ?_⟩
    rw [look_n, Option.isSome_map]
    exact r _ (.d (.bool _)) H2 (t1.trans t2) (show Dp _ _ _ _ from .bl _) p2
theorem ec_lenN {Q : DV → Prop} (q : Q (.d (.int (es.length : Nat)))) : EvC K (S.withN P w p es) (rLenN P w) [.v (.ref p)] Q := fun vs H hi hv R r => by
  match vs, hv with
  | [v], hv =>
    obtain rfl : v = .ref p := hv.1
    refine ⟨p, nmap es, rfl, hi.2, ?_⟩
    rw [nmap_len]
    exact r _ (.d (.int _)) H (.refl hi) (show Dp _ _ _ _ from .int _) q
/-- as Side.To, the dict at p left out -/
structure ToX (S : Side) (p : Addr) (H H2 : Hp) : Prop where
  inv : S.inv H2
  keep : ∀ a o, ¬ S.mutb a → a ≠ p → H a = some o → H2 a = some o
theorem ToX.trans {H H1 H2 : Hp} (x : ToX S p H H1) (y : ToX S p H1 H2) : ToX S p H H2 := ⟨y.inv, fun a o n m e => y.keep a o n m (x.keep a o n m e)⟩
theorem ToX.refl {H : Hp} (h : S.inv H) : ToX S p H H := ⟨h, fun _ _ _ _ e => e⟩
theorem toX {H H2 : Hp} (t : (S.withN P w p es).To H H2) : ToX S p H H2 := ⟨t.inv.1, fun a o n _ e => t.keep a o n e⟩
theorem ToX.ex {es' : List (NKey × NKey)} {H H2 : Hp} (t : ToX S p H H2) : Evl.Ex ((S.withN P w p es).view H) ((S.withN P w p es').view H2) := fun a o e => by
  obtain ⟨n, e⟩ := view_some.mp e
  exact view_some.mpr ⟨n, t.keep a o (fun z => n (.inl (S.sub a z))) (fun z => n (.inr z)) e⟩
/-- a run from es on -/
def RunX (K : PySem.W.Frag) (S : Side) (P : Program) (w : World) (p : Addr) (ts : TS) (ρ : Rho) (es : List (NKey × NKey)) (Po : List (NKey × NKey) → Out → Prop) : Prop :=
  ∀ σ H, (S.withN P w p es).inv H → EnvOk K ((S.withN P w p es).view H) σ ρ → ∀ D : Ends,
    (∀ es' ρ' σ' H2, ToX S p H H2 → H2 p = some (dN P w p (nmap es')) → EnvOk K ((S.withN P w p es').view H2) σ' ρ' → Po es' (.nx ρ') → D.nx σ' H2) →
    (∀ es' x v H2, ToX S p H H2 → Is K (S.view H2) v x → Po es' (.rt x) → D.rt v H2) →
    (∀ es' ρ' σ' H2, ToX S p H H2 → H2 p = some (dN P w p (nmap es')) → EnvOk K ((S.withN P w p es').view H2) σ' ρ' → Po es' (.bk ρ') → D.bk σ' H2) →
    (∀ es' ρ' σ' H2, ToX S p H H2 → H2 p = some (dN P w p (nmap es')) → EnvOk K ((S.withN P w p es').view H2) σ' ρ' → Po es' (.ct ρ') → D.ct σ' H2) → ts D σ H
variable {t u : TS} {Po : List (NKey × NKey) → Out → Prop}
theorem rx_of (h : Run K (S.withN P w p es) t ρ (Po es)) : RunX K S P w p t ρ es Po := fun σ H hi he D q1 q2 q3 q4 =>
  h σ H hi he D (fun ρ' σ' H2 t2 e2 p2 => q1 es ρ' σ' H2 (toX t2) t2.inv.2 e2 p2) (fun x v H2 t2 i2 p2 => q2 es x v H2 (toX t2) (i2.mono (withN_ex H2)) p2)
    (fun ρ' σ' H2 t2 e2 p2 => q3 es ρ' σ' H2 (toX t2) t2.inv.2 e2 p2) fun ρ' σ' H2 t2 e2 p2 => q4 es ρ' σ' H2 (toX t2) t2.inv.2 e2 p2
theorem rx_seq (h : RunX K S P w p t ρ es fun es' o => match o with | .nx ρ' => RunX K S P w p u ρ' es' Po | o => Po es' o) : RunX K S P w p (tSeq t u) ρ es Po := fun σ H hi he D q1 q2 q3 q4 =>
  h σ H hi he { D with nx := u D } (fun es' ρ' σ' H1 t1 h1 e1 p1 => p1 σ' H1 ⟨t1.inv, h1⟩ e1 D (fun a b c d t2 => q1 a b c d (t1.trans t2)) (fun a b c d t2 => q2 a b c d (t1.trans t2)) (fun a b c d t2 => q3 a b c d (t1.trans t2)) fun a b c d t2 => q4 a b c d (t1.trans t2)) q2 q3 q4
theorem rx_if {tt : TT} (h : EvT K (S.withN P w p es) tt ρ fun b => (b = true → RunX K S P w p t ρ es Po) ∧ (b = false → RunX K S P w p u ρ es Po)) : RunX K S P w p (tIfS tt t u) ρ es Po := fun σ H hi he D q1 q2 q3 q4 =>
  h σ H hi he _ fun b H1 t1 p1 => by
    have k1 := fun a b c d (t2 : ToX S p H1 d) => q1 a b c d ((toX t1).trans t2)
    have k2 := fun a b c d (t2 : ToX S p H1 d) => q2 a b c d ((toX t1).trans t2)
    have k3 := fun a b c d (t2 : ToX S p H1 d) => q3 a b c d ((toX t1).trans t2)
    have k4 := fun a b c d (t2 : ToX S p H1 d) => q4 a b c d ((toX t1).trans t2)
    cases b with
    | true =>
      rw [if_pos rfl]
      exact p1.1 rfl σ H1 t1.inv (he.mono t1.ex) D k1 k2 k3 k4
    | false =>
      rw [if_neg Bool.false_ne_true]
      exact p1.2 rfl σ H1 t1.inv (he.mono t1.ex) D k1 k2 k3 k4
theorem rx_put {td ty tv : TE} (n : ¬ S.hid p) (h : Ev K (S.withN P w p es) tv ρ fun x => ∃ k', x = .d (keyD k') ∧ Ev K (S.withN P w p es) td ρ fun x => x = .v (.ref p) ∧ Ev K (S.withN P w p es) ty ρ fun y => ∃ k, y = .d (keyD k) ∧ es.length < sizeLine ∧ lookN es k = none ∧ Po (es ++ [(k, k')]) (.nx ρ)) :
    RunX K S P w p (sDPutN P w td ty tv) ρ es Po := fun σ H hi he D q1 q2 q3 q4 =>
  h σ H hi he _ fun v x H1 t1 i1 p1 => by
    obtain ⟨k', rfl, p1⟩ := p1
    refine p1 σ H1 t1.inv (he.mono t1.ex) _ fun u y H2 t2 i2 p2 => ?_
    obtain ⟨rfl, p2⟩ := p2
    obtain rfl : u = .ref p := i2
    refine p2 σ H2 t2.inv (he.mono (t1.trans t2).ex) _ fun z y H3 t3 i3 p3 => ?_
    obtain ⟨k, rfl, hl, lk, p3⟩ := p3
    refine ⟨p, nmap es, k, rfl, t3.inv.2, dp_key i3, by rw [nmap_len]; exact hl, ?_⟩
    have ev : v = nkV k' := dp_key i1
    rw [ev, put_n lk]
    have t03 := toX ((t1.trans t2).trans t3)
    have t4 : ToX S p H3 (upd H3 p (dN P w p (nmap (es ++ [(k, k')])))) := ⟨S.put H3 p _ t03.inv n (nofrz_of t3.inv.2 fun _ _ z => nomatch z), fun a o na m e => by rw [upd_ne m]; exact e⟩
    exact q1 (es ++ [(k, k')]) ρ σ _ (t03.trans t4) upd_same (he.mono (t03.trans t4).ex) p3
def forX (K : PySem.W.Frag) (S : Side) (P : Program) (w : World) (p : Addr) (g : TG) (tb : TS) : List PyData → Rho → List (NKey × NKey) → (List (NKey × NKey) → Out → Prop) → Prop
  | [], ρ, es, Po => Po es (.nx ρ)
  | x :: xs, ρ, es, Po => EvG K (S.withN P w p es) g (.d x) ρ fun ρ2 => RunX K S P w p tb ρ2 es fun es' o => match o with
    | .nx ρ' => forX K S P w p g tb xs ρ' es' Po
    | .ct ρ' => forX K S P w p g tb xs ρ' es' Po
    | .bk ρ' => Po es' (.nx ρ')
    | .rt v => Po es' (.rt v)
theorem rx_for {wi : TI} {g : TG} {tb : TS} (h : EvI K (S.withN P w p es) wi ρ fun ds => forX K S P w p g tb ds ρ es Po) : RunX K S P w p (tFor wi g tb) ρ es Po := fun σ H hi he D q1 q2 q3 q4 =>
  h σ H hi he _ fun J ds H1 t1 W p1 => by
    refine ⟨fun i m σ' H' => m = ds.length - i ∧ i ≤ ds.length ∧ ToX S p H1 H' ∧ ∃ ρ' es', H' p = some (dN P w p (nmap es')) ∧ EnvOk K ((S.withN P w p es').view H') σ' ρ' ∧ forX K S P w p g tb (ds.drop i) ρ' es' Po,
      ⟨_, rfl, Nat.zero_le _, .refl t1.inv.1, ρ, es, t1.inv.2, he.mono t1.ex, p1⟩, ?_⟩
    rintro i m σ' H' ⟨rfl, hl, t, ρ', es', hp', he', po⟩
    have inv' : (S.withN P w p es').inv H' := ⟨t.inv, hp'⟩
    by_cases hlt : i < ds.length
    · refine .inr ⟨W.go (S.withN P w p es') H' i inv' t.ex hlt, fun σ2 H2 => i + 1 ≤ ds.length ∧ ToX S p H1 H2 ∧ ∃ ρ2 es2, H2 p = some (dN P w p (nmap es2)) ∧ EnvOk K ((S.withN P w p es2).view H2) σ2 ρ2 ∧ forX K S P w p g tb (ds.drop (i + 1)) ρ2 es2 Po, fun σ2 H2 n => ⟨ds.length - (i + 1), by omega, rfl, n⟩, fun x H2 y => ?_⟩
      obtain ⟨t2, d, hd, hx⟩ := W.yld (S.withN P w p es') H' i x H2 inv' t.ex hlt y
      rw [drop_cons hd] at po
      refine po x σ' H2 t2.inv (he'.mono t2.ex) hx _ fun ρ3 σ3 H3 t3 e3 p3 => ?_
      have b3 := t.trans (toX (t2.trans t3))
      have b0 := (toX t1).trans b3
      refine p3 σ3 H3 t3.inv e3 _ (fun es4 ρ4 σ4 H4 t4 h4 e4 p4 => ⟨hlt, b3.trans t4, ρ4, es4, h4, e4, p4⟩) (fun es4 v w H4 t4 i4 p4 => q2 es4 v w H4 (b0.trans t4) i4 p4) (fun es4 ρ4 σ4 H4 t4 h4 e4 p4 => q1 es4 ρ4 σ4 H4 (b0.trans t4) h4 e4 p4)
        fun es4 ρ4 σ4 H4 t4 h4 e4 p4 => ⟨hlt, b3.trans t4, ρ4, es4, h4, e4, p4⟩
    · have e : i = ds.length := by omega
      subst e
      rw [List.drop_length] at po
      exact .inl ⟨W.stop (S.withN P w p es') H' _ inv' t.ex (Nat.le_refl _), q1 es' ρ' σ' H' ((toX t1).trans t) hp' he' po⟩
/-- names, fresh = {"..": ".."}, [..]: and on -/
theorem run_names {S : Side} {i j : Nat} {z : Str} {tl : TA} {fr : List PyData} {rest : TS} {ρ : Rho} {Po : Out → Prop}
    (hl : ∀ p es, EvA K (S.withN P w p es) tl ρ fun xs => xs = fr.map DV.d) (hn : fr.length ≤ sizeLine)
    (h : ∀ p, ¬ S.hid p → RunX K S P w p rest ((ρ.set i (some (.v (.ref p)))).set j (some (.d (.list fr)))) [(some (.inr z), some (.inr z))] fun _ o => Po o) :
    Run K S (tSeq (tPar i j (tCons (tAsN P w (tDisp [(tC (.str z), tC (.str z))])) (tCons (tLst tl) tNil))) rest) ρ Po := fun σ H hi he D q1 q2 q3 q4 => by
  intro p np
  refine ⟨upd_same, [(.inr z, .str z)], rfl, (by show 1 ≤ 15; decide), p, [(.inr z, .str z)], rfl, upd_same, ?_⟩
  have nh := nhid hi np
  rw [upd_upd, upd_upd]
  have e1 : (List.map (fun p => ((some p.1 : NKey), p.2)) [((.inr z : Key), V.str z)]) = nmap [(some (.inr z), some (.inr z))] := rfl
  rw [e1]
  have inv1 : (S.withN P w p [(some (.inr z), some (.inr z))]).inv (upd H p (dN P w p (nmap [(some (.inr z), some (.inr z))]))) := ⟨S.put H p _ hi nh (nofrz np), upd_same⟩
  have ex1 : Evl.Ex (S.view H) ((S.withN P w p [(some (.inr z), some (.inr z))]).view (upd H p (dN P w p (nmap [(some (.inr z), some (.inr z))])))) := fun a o e => by
    obtain ⟨n, e⟩ := view_some.mp e
    have na : a ≠ p := ne_of_none e np
    exact view_some.mpr ⟨fun z => z.elim n na, by rw [upd_ne na]; exact e⟩
  generalize hH1 : upd H p (dN P w p (nmap [(some (.inr z), some (.inr z))])) = H1 at inv1 ex1 ⊢
  have back : ∀ H2, ToX S p H1 H2 → S.To H H2 := fun H2 t => ⟨t.inv, fun a o n e => t.keep a o n (ne_of_none e np) (by rw [← hH1, upd_ne (ne_of_none e np)]; exact e)⟩
  have lst := ev_lst (P := fun x => x = .d (.list fr)) ((hl p [(some (.inr z), some (.inr z))]).imp fun xs e => ⟨fr, e, hn, rfl⟩)
  refine lst σ H1 inv1 (he.mono ex1) _ fun v x H2 t2 i2 p2 => ?_
  subst p2
  refine ⟨.ref p, v, rfl, ?_⟩
  have env2 : EnvOk K ((S.withN P w p [(some (.inr z), some (.inr z))]).view H2) ((σ.set i (some (.ref p))).set j (some v)) ((ρ.set i (some (.v (.ref p)))).set j (some (.d (.list fr)))) :=
    (((he.mono ex1).mono t2.ex).set i (show Is K _ (.ref p) (.v (.ref p)) from rfl)).set j i2
  refine h p nh _ H2 t2.inv env2 D (fun es' ρ' σ' H3 t3 h3 e3 p3 => q1 ρ' σ' H3 (back H3 ((toX t2).trans t3)) (e3.mono (withN_ex H3)) p3) (fun es' x v H3 t3 i3 p3 => q2 x v H3 (back H3 ((toX t2).trans t3)) i3 p3)
    (fun es' ρ' σ' H3 t3 h3 e3 p3 => q3 ρ' σ' H3 (back H3 ((toX t2).trans t3)) (e3.mono (withN_ex H3)) p3) fun es' ρ' σ' H3 t3 h3 e3 p3 => q4 ρ' σ' H3 (back H3 ((toX t2).trans t3)) (e3.mono (withN_ex H3)) p3
end
end Tw
/-! the row that a law draws from, made -/
namespace Tw
open PySem PySem.Spec PyProof.Rows L2
def Side.withR (S : Side) (r sc : Addr) (nr : ¬ S.hid r) : Side where
  mutb := fun a => S.mutb a ∨ a = r
  hid := fun a => S.hid a ∨ a = r
  inv := fun H => S.inv H ∧ ∃ a b c : Int, H r = some (.lst [.ref sc, .int a, .int b, .int c]) ∧ 0 ≤ a ∧ 0 ≤ b ∧ b < 2147483647 ∧ 0 ≤ c
  sub := fun a h => h.elim (fun z => .inl (S.sub a z)) .inr
  there := fun H a h z => z.elim (S.there H a h.1) fun e => by
    obtain ⟨_, _, _, _, h, _⟩ := h
    rw [e, h]
    exact fun z => nomatch z
  put := fun H q o h n nf => ⟨S.put H q o h.1 (fun z => n (.inl z)) nf, by
    rw [upd_ne (fun e : r = q => n (.inr e.symm))]
    exact h.2⟩
section
variable {K : PySem.W.Frag} {S : Side} {r sc : Addr} {nr : ¬ S.hid r} {ρ : Rho}
theorem rowS_withR {ns : List Int} (hs : ∀ H, S.inv H → SqL K H sc (ns.map V.int)) (hn : ns.length ≤ 63) : RowS K (S.withR r sc nr) r :=
  ⟨.inr rfl, sc, ns, hn, fun H i => ⟨hs H i.1, i.2⟩, fun H a b c i ha hb hb2 hc => ⟨S.put H r _ i.1 nr (let ⟨_, _, _, e, _⟩ := i.2; nofrz_of e fun _ _ z => nomatch z), a, b, c, upd_same, ha, hb, hb2, hc⟩⟩
theorem TabS.withR {P : Addr} (h : TabS S P) : TabS (S.withR r sc nr) P := by
  have ne : r ≠ P := fun e => nr (by rw [e]; exact S.sub P h.mut_)
  exact ⟨.inl h.mut_, fun H i => h.good H i.1, fun H H2 i t => ⟨h.grow H H2 i.1 t, by rw [t.2 r ne]; exact i.2⟩⟩
theorem withR_ex (H : Hp) : Evl.Ex ((S.withR r sc nr).view H) (S.view H) := fun a o e => by
  obtain ⟨n, e⟩ := view_some.mp e
  exact view_some.mpr ⟨fun z => n (.inl z), e⟩
/-- row = [script, i, j, k] -/
theorem run_row {i s : Nat} {a b c : Int} {rest : TS} {Po : Out → Prop} (h0 : ρ[s]? = some (some (.v (.ref sc)))) (ha : 0 ≤ a) (hb : 0 ≤ b) (hb2 : b < 2147483647) (hc : 0 ≤ c)
    (h : ∀ r (nr : ¬ S.hid r), Run K (S.withR r sc nr) rest (ρ.set i (some (.v (.ref r)))) Po) :
    Run K S (tSeq (tAsg (tLst (tCons (tVar s) (tCons (tC (.int a)) (tCons (tC (.int b)) (tCons (tC (.int c)) tNil))))) (gName i)) rest) ρ Po := fun σ H hi he D q1 q2 q3 q4 => by
  obtain ⟨v, ev, iv⟩ := he.get s _ h0
  obtain rfl : v = .ref sc := iv
  refine ⟨_, ev, ⟨by show 4 ≤ sizeLine; exact sz100 rfl, fun r nr => ?_⟩⟩
  have nh := nhid hi nr
  have inv1 : (S.withR r sc nh).inv (upd H r (.lst [.ref sc, .int a, .int b, .int c])) := ⟨S.put H r _ hi nh (nofrz nr), a, b, c, upd_same, ha, hb, hb2, hc⟩
  have ex1 : Evl.Ex (S.view H) ((S.withR r sc nh).view (upd H r (.lst [.ref sc, .int a, .int b, .int c]))) := fun x o e => by
    obtain ⟨n, e⟩ := view_some.mp e
    have na : x ≠ r := ne_of_none e nr
    exact view_some.mpr ⟨fun z => z.elim n na, by rw [upd_ne na]; exact e⟩
  have back : ∀ H2, (S.withR r sc nh).To (upd H r (.lst [.ref sc, .int a, .int b, .int c])) H2 → S.To H H2 := fun H2 t => ⟨t.inv.1, fun x o n e => t.keep x o (fun z => z.elim n (ne_of_none e nr)) (by rw [upd_ne (ne_of_none e nr)]; exact e)⟩
  have env1 : EnvOk K ((S.withR r sc nh).view (upd H r (.lst [.ref sc, .int a, .int b, .int c]))) (σ.set i (some (.ref r))) (ρ.set i (some (.v (.ref r)))) := (he.mono ex1).set i (show Is K _ (.ref r) (.v (.ref r)) from rfl)
  exact h r nh _ _ inv1 env1 D (fun ρ' σ' H3 t3 e3 p3 => q1 ρ' σ' H3 (back H3 t3) (e3.mono (withR_ex H3)) p3) (fun x v H3 t3 i3 p3 => q2 x v H3 (back H3 t3) (i3.mono (withR_ex H3)) p3)
    (fun ρ' σ' H3 t3 e3 p3 => q3 ρ' σ' H3 (back H3 t3) (e3.mono (withR_ex H3)) p3) fun ρ' σ' H3 t3 e3 p3 => q4 ρ' σ' H3 (back H3 t3) (e3.mono (withR_ex H3)) p3
end
end Tw
/-! the end: tables, the script, dicts that the top has written -/
namespace Tw
open PySem PySem.Spec PyProof.Rows L2
/-- the table at P: each code object that it tells is known and bears the name q -/
def CodeQ (o : Obj) (q : Str) : Prop := ∃ (vs : Array Value) (t : Tok), o.data = .fields vs ∧ vs[1]? = some (.str q t)
def LTabG (H : Hp) (P : Addr) (q : Str) : Prop := ∃ ps : Array Value, H P = some (.tbl ps) ∧ TriplesOk ps.toList ∧ ∀ (pos : Pos) (cv : Value), codeAmong pos ps.toList = some cv → ∃ c o, cv = .ref c ∧ H c = some (.frz o (.own c)) ∧ CodeQ o q
theorem LTabG.on {H H2 : Hp} {P : Addr} {q : Str} (h : LTabG H P q) (e : H2 P = H P) (k : ∀ c o u, H c = some (.frz o u) → H2 c = some (.frz o u)) : LTabG H2 P q := by
  obtain ⟨ps, h1, h2, h3⟩ := h
  refine ⟨ps, e.trans h1, h2, fun pos cv hc => ?_⟩
  obtain ⟨c, o, e1, e2, e3⟩ := h3 pos cv hc
  exact ⟨c, o, e1, k _ _ _ e2, e3⟩
/-- a side that lets the table of lambdas' codes at P grow -/
structure LTabS (S : Side) (P : Addr) (q : Str) : Prop where
  mut_ : S.mutb P
  good : ∀ H, S.inv H → LTabG H P q
  grow : ∀ H H2, S.inv H → LTabG H2 P q → (∀ b, b ≠ P → H2 b = H b) → S.inv H2
theorem LTabS.le {S T : Side} {P : Addr} {q : Str} (h : LTabS S P q) (l : Side.Le S T) : LTabS T P q := by
  induction l with
  | refl => exact h
  | hide D l ih =>
    refine ⟨ih.mut_, fun H i => ih.good H i.1, fun H H2 i g t => ⟨ih.grow H H2 i.1 g t, ?_⟩⟩
    by_cases e : D = P
    · rw [e]
      obtain ⟨ps, hp, _⟩ := g
      rw [hp]
      exact fun z => nomatch z
    · rw [t D e]
      exact i.2
theorem LTabS.withR {S : Side} {P r sc : Addr} {q : Str} {nr : ¬ S.hid r} (h : LTabS S P q) : LTabS (S.withR r sc nr) P q := by
  have ne : r ≠ P := fun e => nr (by rw [e]; exact S.sub P h.mut_)
  exact ⟨.inl h.mut_, fun H i => h.good H i.1, fun H H2 i g t => ⟨h.grow H H2 i.1 g t, by rw [t r ne]; exact i.2⟩⟩
theorem LTabS.withN {S : Side} {P : Addr} {q : Str} {PR : Program} {w : World} {p : Addr} {es : List (NKey × NKey)} (h : LTabS S P q) (n : ¬ S.hid p) : LTabS (S.withN PR w p es) P q := by
  have ne : p ≠ P := fun e => n (by rw [e]; exact S.sub P h.mut_)
  exact ⟨h.mut_, fun H i => h.good H i.1, fun H H2 i g t => ⟨h.grow H H2 i.1 g t, by rw [t p ne]; exact i.2⟩⟩
/-- tables may grow, the script stays -/
def sideT (ps : List Addr) (ls : List (Addr × Str)) (D : Addr → Prop) (J : Hp → Prop) (h1 : ∀ H a, J H → D a → H a ≠ none) (h2 : ∀ H q o, J H → ¬ D q → (∀ ob u, H q ≠ some (.frz ob u)) → J (upd H q o)) : Side where
  mutb := fun a => a ∈ ps ∨ ∃ q, (a, q) ∈ ls
  hid := fun a => (a ∈ ps ∨ ∃ q, (a, q) ∈ ls) ∨ D a
  inv := fun H => (∀ p ∈ ps, GxR.TabG H p) ∧ (∀ p ∈ ls, LTabG H p.1 p.2) ∧ J H
  sub := fun a h => .inl h
  there := fun H a h z => z.elim (fun m => m.elim (fun m => by
    obtain ⟨_, e, _⟩ := h.1 a m
    rw [e]
    exact fun z => nomatch z) fun ⟨q, m⟩ => by
    obtain ⟨_, e, _⟩ := h.2.1 _ m
    rw [e]
    exact fun z => nomatch z) (h1 H a h.2.2)
  put := fun H q o h n nf => ⟨fun p hp => by
    obtain ⟨us, e, t⟩ := h.1 p hp
    exact ⟨us, by rw [upd_ne (fun z : p = q => n (.inl (.inl (by rw [← z]; exact hp))))]; exact e, t⟩, fun p hp => (h.2.1 p hp).on (upd_ne (fun z : p.1 = q => n (.inl (.inr ⟨p.2, by rw [← z]; exact hp⟩)))) fun c ob u e => by
      rw [upd_ne (fun z => nf ob u (by rw [← z]; exact e))]
      exact e, h2 H q o h.2.2 (fun z => n (.inr z)) nf⟩
section
variable {ps : List Addr} {ls : List (Addr × Str)} {D : Addr → Prop} {J : Hp → Prop} {h1 : ∀ H a, J H → D a → H a ≠ none} {h2 : ∀ H q o, J H → ¬ D q → (∀ ob u, H q ≠ some (.frz ob u)) → J (upd H q o)}
theorem tabS_T (ha : ∀ p ∈ ls, p.1 ∉ ps) (h3 : ∀ H H2, (sideT ps ls D J h1 h2).inv H → (∀ b, (b ∉ ps ∧ ∀ q, (b, q) ∉ ls) → H2 b = H b) → J H2) {p : Addr} (hp : p ∈ ps) : TabS (sideT ps ls D J h1 h2) p where
  mut_ := .inl hp
  good := fun H i => i.1 p hp
  grow := fun H H2 i t => by
    refine ⟨fun q hq => ?_, fun l hl => (i.2.1 l hl).on (t.2 _ fun z => ha l hl (by rw [z]; exact hp)) fun c ob u e => ?_, h3 H H2 i fun b hb => t.2 b fun z => hb.1 (by rw [z]; exact hp)⟩
    · by_cases e : q = p
      · rw [e]
        exact t.1
      · obtain ⟨us, e1, t1⟩ := i.1 q hq
        exact ⟨us, by rw [t.2 q e]; exact e1, t1⟩
    · have nc : c ≠ p := fun z => by
        obtain ⟨us, e2, _⟩ := i.1 p hp
        rw [z, e2] at e
        cases e
      rw [t.2 c nc]
      exact e
theorem ltabS_T (ha : ∀ p ∈ ls, p.1 ∉ ps) (hu : ∀ p ∈ ls, ∀ p' ∈ ls, p.1 = p'.1 → p.2 = p'.2) (h3 : ∀ H H2, (sideT ps ls D J h1 h2).inv H → (∀ b, (b ∉ ps ∧ ∀ q, (b, q) ∉ ls) → H2 b = H b) → J H2) {P : Addr} {q : Str} (hp : (P, q) ∈ ls) : LTabS (sideT ps ls D J h1 h2) P q where
  mut_ := .inr ⟨q, hp⟩
  good := fun H i => i.2.1 _ hp
  grow := fun H H2 i g t => by
    refine ⟨fun p hq => ?_, fun l hl => ?_, h3 H H2 i fun b hb => t b fun z => hb.2 q (by rw [z]; exact hp)⟩
    · obtain ⟨us, e1, t1⟩ := i.1 p hq
      exact ⟨us, by rw [t p fun z => ha _ hp (by rw [← z]; exact hq)]; exact e1, t1⟩
    · by_cases e : l.1 = P
      · rw [hu l hl _ hp e, e]
        exact g
      · refine (i.2.1 l hl).on (t _ e) fun c ob u e => ?_
        have nc : c ≠ P := fun z => by
          obtain ⟨us, e2, _⟩ := i.2.1 _ hp
          have e2 : H P = _ := e2
          rw [z, e2] at e
          cases e
        rw [t c nc]
        exact e
end
/-- the side from which a law starts -/
theorem side_start {K : PySem.W.Frag} {ps : List Addr} {ls : List (Addr × Str)} {H : Hp} {a : Addr} {xs : List V} (ha : ∀ p ∈ ls, p.1 ∉ ps) (hu : ∀ p ∈ ls, ∀ p' ∈ ls, p.1 = p'.1 → p.2 = p'.2) (hT : ∀ p ∈ ps, H p = some (.tbl #[])) (hL : ∀ p ∈ ls, H p.1 = some (.tbl #[])) (hS : SqL K H a xs) :
    ∃ S : Side, S.inv H ∧ (∀ p ∈ ps, TabS S p) ∧ (∀ p ∈ ls, LTabS S p.1 p.2) ∧ ∀ H, S.inv H → SqL K H a xs := by
  have tg : ∀ p ∈ ps, GxR.TabG H p := fun p hp => ⟨#[], hT p hp, trivial⟩
  have tl : ∀ p ∈ ls, LTabG H p.1 p.2 := fun p hp => ⟨#[], hL p hp, trivial, fun pos cv hc => by
    have z : codeAmong pos [] = some cv := hc
    simp [codeAmong] at z⟩
  rcases hS with hr | hk
  · have c1 : ∀ (H : Hp) (b : Addr), Rd H a (.lst xs) → b = a → H b ≠ none := fun H b h e => by
      rw [e]
      rcases h with h | ⟨o, h⟩ <;> (rw [h]; exact fun z => nomatch z)
    have c2 : ∀ (H : Hp) (q : Addr) (o : HO), Rd H a (.lst xs) → ¬ q = a → (∀ ob u, H q ≠ some (.frz ob u)) → Rd (upd H q o) a (.lst xs) := fun H q o h n _ => by
      have e : upd H q o a = H a := upd_ne fun z => n z.symm
      rcases h with h | ⟨u, h⟩
      · exact .inl (e.trans h)
      · exact .inr ⟨u, e.trans h⟩
    have c3 : ∀ H H2, (sideT ps ls (fun b => b = a) (fun H => Rd H a (.lst xs)) c1 c2).inv H → (∀ b, (b ∉ ps ∧ ∀ q, (b, q) ∉ ls) → H2 b = H b) → Rd H2 a (.lst xs) := fun H H2 i q => by
      obtain ⟨i1, i2, h⟩ := i
      have na : a ∉ ps := fun m => by
        obtain ⟨us, e, _⟩ := i1 a m
        rcases h with h | ⟨u, h⟩
        · rw [e] at h
          cases h
        · rw [e] at h
          cases h
      have nl : ∀ q, (a, q) ∉ ls := fun q m => by
        obtain ⟨us, e, _⟩ := i2 _ m
        have e : H a = _ := e
        rcases h with h | ⟨u, h⟩
        · rw [e] at h
          cases h
        · rw [e] at h
          cases h
      have e := q a ⟨na, nl⟩
      rcases h with h | ⟨u, h⟩
      · exact .inl (e.trans h)
      · exact .inr ⟨u, e.trans h⟩
    exact ⟨sideT ps ls (fun b => b = a) (fun H => Rd H a (.lst xs)) c1 c2, ⟨tg, tl, hr⟩, fun p hp => tabS_T ha c3 hp, fun p hp => ltabS_T ha hu c3 hp, fun H i => .inl i.2.2⟩
  · exact ⟨sideT ps ls (fun _ => False) (fun _ => True) (fun _ _ _ z => z.elim) (fun _ _ _ _ _ _ => trivial), ⟨tg, tl, trivial⟩, fun p hp => tabS_T ha (fun _ _ _ _ => trivial) hp, fun p hp => ltabS_T ha hu (fun _ _ _ _ => trivial) hp, fun H i => .inr hk⟩
theorem side_inv {K : PySem.W.Frag} {H : Hp} {a : Addr} {S : Side} : AllIs K (S.view H) [V.ref a] [.v (.ref a)] := ⟨rfl, trivial⟩
/-- a law's promise, at its start -/
theorem law_startL {K : PySem.W.Frag} {ok : Side → Prop} {spec : Spec} {ps : List Addr} {ls : List (Addr × Str)} {H : Hp} {a : Addr} {ns : List Int} (ha : ∀ p ∈ ls, p.1 ∉ ps) (hu : ∀ p ∈ ls, ∀ p' ∈ ls, p.1 = p'.1 → p.2 = p'.2) (hT : ∀ p ∈ ps, H p = some (.tbl #[])) (hL : ∀ p ∈ ls, H p.1 = some (.tbl #[])) (hS : SqL K H a (ns.map V.int))
    (hok : ∀ S, (∀ p ∈ ps, TabS S p) → (∀ p ∈ ls, LTabS S p.1 p.2) → ok S) (hs : ∀ S : Side, (∀ H, S.inv H → SqL K H a (ns.map V.int)) → spec S [.v (.ref a)] fun x => x = .d (.bool true)) {E : XK} : spD K ok spec [.ref a] H (fun v _ => v = .bl true) E := by
  obtain ⟨S, i, t, l, q⟩ := side_start ha hu hT hL hS
  refine ⟨S, _, _, hok S t l, i, side_inv, hs S q, fun v x H2 _ is e => ?_⟩
  subst e
  have is : Dp K (S.view H2) v (.bool true) := is
  cases is
  rfl
theorem law_start {K : PySem.W.Frag} {ok : Side → Prop} {spec : Spec} {ps : List Addr} {H : Hp} {a : Addr} {ns : List Int} (hT : ∀ p ∈ ps, H p = some (.tbl #[])) (hS : SqL K H a (ns.map V.int)) (hok : ∀ S, (∀ p ∈ ps, TabS S p) → ok S)
    (hs : ∀ S : Side, (∀ H, S.inv H → SqL K H a (ns.map V.int)) → spec S [.v (.ref a)] fun x => x = .d (.bool true)) {E : XK} : spD K ok spec [.ref a] H (fun v _ => v = .bl true) E :=
  law_startL (ls := []) (fun _ h => nomatch h) (fun _ h => nomatch h) hT (fun _ h => nomatch h) hS (fun S t _ => hok S t) hs
end Tw
namespace Tw
open PySem PySem.Spec PyProof.Rows L2 LamX
/-- the walk, tables known by the defs' names -/
theorem walk_tab {l : PySem.W.OpenLaw} {n k : Nat} {q : Program} {loose : List Str} {XP : (Str → Option Value) → Heap → Prop} {YP : World → Heap → Prop} {d : DefRec} {K : Params → PySem.W.Frag} {CX : World → CXT} {x : Str}
    (hn : l.most = some n) (hn2 : n ≤ sizeLine) (hdf : d.params.defaults = []) (hr : Room k callerA) (hY : ∀ (w : World) (h : Heap), YP w h → (K w.params).In h)
    (F : ∀ (w : World) (mg : Str → Option Value) (fa : Addr) (h : Heap), YP w h → (K w.params).In h → h.Ns mainGlobals mg → mg d.name = some (.ref fa) →
      (∀ (y : Str) (e : DefRec) (c P : Addr), (recsOf q).find? (fun e => e.name == y) = some e → PySem.W.tabIn (K w.params) y = some (c, P) → PySem.W.CodeHd h c P ∧ h.get? P = some { cls := .none, data := .fields #[] }) → LawAtS l w (K w.params) (CX w) k n x mg fa h)
    (hCX : ∀ (w : World) (H : Hp) (s : Shared) (e : Value) (s' : Shared), CX w [] H s (fun _ _ _ => False) e s' → False) :
    PySem.W.WalkO q loose XP YP l.row.toRowW d [] (fun f vs => PySem.call f vs) := by
  refine Att.attach_callB hn hdf fun w s₀ s₁ mg mb fa o pm cd doc a vs ns G Y ho hd hcd hmg hobj hints hlen hbits hg => ?_
  have KX := hY w _ Y
  obtain ⟨fd, cs, sp, hT, nT, C, hb, hsp, hF⟩ := F w mg fa _ Y KX G.T.g hmg fun y e c P h1 h2 => PySem.W.tab_of G.T KX h1 h2
  exact law_callTs KX G.T.g G.T.b G.T.builtins G.T.nolimit hg hT nT C G.T.bmain hobj hints (Nat.le_trans hlen hn2) hr hF hb (fun H hH hS => hsp H a ns hlen hbits hH hS) fun H e s' => hCX w H s₁ e s'
theorem tab_conv {base : Heap} {mg : Str → Option Value} {c P : Addr} (t : LamX.TabB base mg c P) : GxR.TabB base mg c P := ⟨t.code, t.bm, t.gP⟩
/-- a tuple of strings that the top has written -/
theorem vals_strs : ∀ {ss : List Str} {us : List Value}, us.map (fun u => match u with | .str z _ => some z | _ => none) = ss.map some → Vals (ss.map V.str) us
  | [], [], _ => .nil
  | [], _ :: _, h => by cases h
  | _ :: _, [], h => by cases h
  | s :: ss, u :: us, h => by
    rw [List.map_cons, List.map_cons] at h
    injection h with h1 h2
    refine .cons ?_ (vals_strs h2)
    cases u with
    | str z t =>
      injection h1 with h1
      exact ⟨t, by rw [h1]⟩
    | _ => cases h1
theorem dpAll_strs {K : PySem.W.Frag} {M : Hp} : ∀ ss : List Str, DpAll K M (ss.map V.str) (sD ss)
  | [] => .nil
  | s :: ss => .cons (.str s) (dpAll_strs ss)
theorem dp_wtup {K : PySem.W.Frag} {M : Hp} {a : Addr} {ss : List Str} {its : Array Value} {n : Nat} {sl : Array (Option Value)} (hl : K.lookup a = some ⟨.type "tuple", none, .seq its n, sl⟩) (hz : its.size ≤ 100)
    (h : its.toList.map (fun u => match u with | .str z _ => some z | _ => none) = ss.map some) : Dp K M (.ref a) (tupS ss) :=
  .tup (.inr ⟨_, its, n, hl, rfl, rfl, Nat.le_trans hz (by decide), vals_strs h⟩) (dpAll_strs ss) fun _ => .inr ⟨_, hl, rfl⟩
/-- a tuple of what stands at addresses -/
theorem dp_wref {K : PySem.W.Frag} {M : Hp} {a : Addr} {as : List Addr} {ds : List PyData} {its : Array Value} {n : Nat} {sl : Array (Option Value)} (hl : K.lookup a = some ⟨.type "tuple", none, .seq its n, sl⟩) (hz : its.size ≤ 100)
    (h : its.toList = as.map Value.ref) (hd : DpAll K M (as.map V.ref) ds) : Dp K M (.ref a) (.tuple ds) := by
  refine .tup (.inr ⟨_, its, n, hl, rfl, rfl, Nat.le_trans hz (by decide), ?_⟩) hd fun _ => .inr ⟨_, hl, rfl⟩
  rw [h]
  have q : ∀ as : List Addr, Vals (as.map V.ref) (as.map Value.ref) := fun as => by
    induction as with
    | nil => exact .nil
    | cons a as ih => exact .cons rfl ih
  exact q as
/-- a dict of two texts, asked for any text -/
theorem kget_two {K : PySem.W.Frag} {w : World} {d : Addr} {x1 x2 y1 y2 : Str} {h1 h2 : Int} {t1 t2 t3 t4 : Tok} {n : Nat} (hl : K.lookup d = some ⟨.type "dict", none, .dict #[⟨h1, .str x1 t1, .str y1 t2⟩, ⟨h2, .str x2 t3, .str y2 t4⟩] n, #[]⟩)
    (e1 : h1 = PyData.keyHash w.params x1) (e2 : h2 = PyData.keyHash w.params x2) (hd : (d == sysModules) = false) (z : Str) : KGet K w d z ((if z = x1 then some y1 else if z = x2 then some y2 else none).map V.str) := by
  refine ⟨⟨_, n, hl, ⟨x1, t1, rfl, e1⟩, ⟨x2, t3, rfl, e2⟩, trivial⟩, hd, ?_⟩
  unfold PySem.W.nsIn
  rw [hl]
  by_cases c1 : z = x1
  · subst c1
    refine .inl ⟨.str y1 t2, .str y1, ?_, ⟨t2, rfl⟩, by rw [if_pos rfl]; rfl⟩
    have e : Value.isStr (.str z t1) z = true := beq_self_eq_true z
    simp [List.find?_cons, e]
  · have f1 : Value.isStr (.str x1 t1) z = false := beq_eq_false_iff_ne.mpr fun q => c1 q.symm
    by_cases c2 : z = x2
    · subst c2
      refine .inl ⟨.str y2 t4, .str y2, ?_, ⟨t4, rfl⟩, by rw [if_neg c1, if_pos rfl]; rfl⟩
      have e : Value.isStr (.str z t3) z = true := beq_self_eq_true z
      simp [List.find?_cons, e, f1]
    · have f2 : Value.isStr (.str x2 t3) z = false := beq_eq_false_iff_ne.mpr fun q => c2 q.symm
      refine .inr ⟨?_, by rw [if_neg c1, if_neg c2]; rfl⟩
      simp [List.find?_cons, f1, f2]
      exact ⟨rfl, rfl⟩
end Tw
/-! a list comprehension of any number of fors -/
namespace Tw
open PySem PySem.Spec PyProof.Rows L2

/-! ### a clause's turn -/
section
variable {prog : Program} {w : World} {A : Around} {R : Result → Shared → Prop} {s : Shared} {it D : Value} {env : Env} {elt t i : Expr} {ifs : List Expr} {gs : List Comprehension} {sc : Scope} {pos : Pos} {k : Nat}
abbrev NoteR (prog : Program) (w : World) (A : Around) (env : Env) (R : Result → Shared → Prop) : Value → Shared → Prop := notedBy (model prog w) A env fun e s' => R (.error e) s'
/-- the source asked, the target stored, the tests: then Y, or N -/
def turnW (prog : Program) (w : World) (A : Around) (R : Result → Shared → Prop) (t : Expr) (ifs : List Expr) (it : Value) (env : Env) (Y N : Shared → Prop) (s : Shared) : Prop :=
  wpAny (model prog w) A (pyNext it) (fun r s1 => match r with
    | none => R (.ok .next) s1
    | some v => wpAny (model prog w) A (letOwnedTupleGo t it v) (fun _ s2 => wpAny (model prog w) A (assign t env v) (fun _ s3 =>
        wpAny (model prog w) A (forIn ifs true fun c r => if r = true then (do pure (.yield (← isTrue c env (eval c env)))) else pure (.yield r)) (fun b s4 => (b = true → Y s4) ∧ (b = false → N s4)) (NoteR prog w A env R) s3) (NoteR prog w A env R) s2) (NoteR prog w A env R) s1) (NoteR prog w A env R) s
/-- the last clause's loop -/
theorem last_loop (h0 : gs[k]? = some ⟨t, i, ifs, 0⟩) (h1 : gs[k + 1]? = none) (I : Nat → Shared → Prop)
    (turn : ∀ n s, I n s → turnW prog w A R t ifs it env (fun s4 => wpAny (model prog w) A (eval elt env) (fun x s5 => wpAny (model prog w) A (call (.builtin "list.append") [D, x]) (fun _ s6 => ∃ m, m < n ∧ I m s6) (NoteR prog w A env R) s5) (NoteR prog w A env R) s4) (fun s4 => ∃ m, m < n ∧ I m s4) s)
    (n : Nat) (h : I n s) : codeAny (model prog w) A (.compLoop (.ListComp elt gs sc pos) k it D env) R s := by
  refine codeAny_loop rfl I (fun n s hI => ?_) n h
  show wpAny _ A (Sem.onRaise (compTurn (.ListComp elt gs sc pos) k it D env) _) _ _ s
  refine wpAny_noted ?_
  unfold compTurn
  simp only [h0, h1]
  refine wpAny_bind (wpAny_standAt (wpAny_bind (wpAny_mono (turn n s hI) (fun r s1 q1 => ?_) fun _ _ z => z)))
  match r, q1 with
  | none, q1 => exact wpAny_pure q1
  | some v, q1 =>
    refine wpAny_bind (wpAny_mono q1 (fun _ s2 q2 => ?_) fun _ _ z => z)
    refine wpAny_bind (wpAny_mono q2 (fun _ s3 q3 => ?_) fun _ _ z => z)
    refine wpAny_bind (wpAny_mono q3 (fun b s4 q4 => ?_) fun _ _ z => z)
    match b, q4 with
    | false, q4 => exact wpAny_pure ⟨rfl, q4.2 rfl⟩
    | true, q4 =>
      refine wpAny_bind (wpAny_bind (wpAny_mono (q4.1 rfl) (fun x s5 q5 => ?_) fun _ _ z => z))
      exact wpAny_bind (wpAny_mono q5 (fun _ s6 q6 => wpAny_pure (wpAny_pure ⟨rfl, q6⟩)) fun _ _ z => z)
/-- the loop of a clause with another within -/
theorem mid_loop {t1 i1 : Expr} {ifs1 : List Expr} (h0 : gs[k]? = some ⟨t, i, ifs, 0⟩) (h1 : gs[k + 1]? = some ⟨t1, i1, ifs1, 0⟩) (hs : ∀ x, foldedSetIterable i1 env x = pure x) (I : Nat → Shared → Prop)
    (turn : ∀ n s, I n s → turnW prog w A R t ifs it env (fun s4 => wpAny (model prog w) A (eval i1 env) (fun x s5 => wpAny (model prog w) A (pyIter x) (fun it1 s6 =>
      codeAny (model prog w) A (.compStart (.ListComp elt gs sc pos) (k + 1) it1 D env) (fun r s' => r = .ok .next ∧ ∃ m, m < n ∧ I m s') s6) (NoteR prog w A env R) s5) (NoteR prog w A env R) s4) (fun s4 => ∃ m, m < n ∧ I m s4) s)
    (n : Nat) (h : I n s) : codeAny (model prog w) A (.compLoop (.ListComp elt gs sc pos) k it D env) R s := by
  refine codeAny_loop rfl I (fun n s hI => ?_) n h
  show wpAny _ A (Sem.onRaise (compTurn (.ListComp elt gs sc pos) k it D env) _) _ _ s
  refine wpAny_noted ?_
  unfold compTurn
  simp only [h0, h1]
  refine wpAny_bind (wpAny_standAt (wpAny_bind (wpAny_mono (turn n s hI) (fun r s1 q1 => ?_) fun _ _ z => z)))
  match r, q1 with
  | none, q1 => exact wpAny_pure q1
  | some v, q1 =>
    refine wpAny_bind (wpAny_mono q1 (fun _ s2 q2 => ?_) fun _ _ z => z)
    refine wpAny_bind (wpAny_mono q2 (fun _ s3 q3 => ?_) fun _ _ z => z)
    refine wpAny_bind (wpAny_mono q3 (fun b s4 q4 => ?_) fun _ _ z => z)
    match b, q4 with
    | false, q4 => exact wpAny_pure ⟨rfl, q4.2 rfl⟩
    | true, q4 =>
      refine wpAny_bind (wpAny_mono (q4.1 rfl) (fun x s5 q5 => ?_) fun _ _ z => z)
      refine wpAny_bind (wpAny_standAt (wpAny_bind (wpAny_of_eq (hs x) ?_)))
      refine wpAny_bind (wpAny_holding (wpAny_mono q5 (fun it1 s6 q6 => ?_) fun _ _ z => z))
      refine wpAny_bind (wpAny_runOwn ?_)
      rw [Around.mark_none]
      refine codeAny_mono q6 fun r s' hr => ?_
      rw [hr.1]
      first
        | exact wpAny_pure ⟨rfl, hr.2⟩
        | exact wpAny_bind (wpAny_pure (wpAny_pure ⟨rfl, hr.2⟩))
/-- its start -/
theorem start_at (hk : gs[k]? = some ⟨t, i, ifs, 0⟩) (h0 : codeAny (model prog w) A (.compLoop (.ListComp elt gs sc pos) k it D env) R s)
    (h : wpAny (model prog w) A (pyIter it) (fun it' s' => codeAny (model prog w) A (.compLoop (.ListComp elt gs sc pos) k it' D env) R s') (NoteR prog w A env R) s) :
    codeAny (model prog w) A (.compStart (.ListComp elt gs sc pos) k it D env) R s := by
  refine codeAny_of_tree ?_
  show wpAny _ _ (Sem.onRaise (compStart (.ListComp elt gs sc pos) k it D env) _) _ _ s
  refine wpAny_notedAt ?_
  have e : (clausesOf (.ListComp elt gs sc pos))[k]? = some ⟨t, i, ifs, 0⟩ := hk
  unfold compStart
  rw [e]
  show wpAny _ _ (ask >>= _) _ _ s
  refine wpAny_bind (wpAny_askSetting (wpAny_ite ?_))
  split
  · first
      | exact wpAny_pure ⟨rfl, h0⟩
      | exact wpAny_bind (wpAny_pure (wpAny_pure ⟨rfl, h0⟩))
  · refine wpAny_bind (wpAny_rule ?_)
    show wpAny _ _ (standAt i.pos >>= _) _ _ s
    exact wpAny_bind (wpAny_standAt (wpAny_bind (wpAny_mono h (fun it' s' q => wpAny_pure ⟨rfl, q⟩) fun _ _ z => z)))
end

/-! ### the clauses, read -/
structure Cl where
  tg : Expr
  iter : Expr
  ifs : List Expr
def Cl.co (c : Cl) : Comprehension := ⟨c.tg, c.iter, c.ifs, 0⟩
structure Clr where
  wi : TI
  g : TG
  tt : TT
  vs : List Nat
structure ClOk (B : Cx) (c : Cl) (r : Clr) : Prop where
  pi : PI B c.tg c.iter r.wi
  pg : PG B c.tg r.g
  pt : PTs B c.ifs r.tt
  hs : ∀ env x, foldedSetIterable c.iter env x = pure x
def ClsOk (B : Cx) : List Nat → List Cl → List Clr → Prop
  | _, [], [] => True
  | vs, c :: cs, r :: rs => ClOk B c r ∧ (∀ i ∈ r.vs, i ∈ vs) ∧ ClsOk B r.vs cs rs
  | _, _, _ => False
/-- one source's loop, from which nx is reached; inn: what a turn does -/
def tItN (g : TG) (tt : TT) (vs : List Nat) (inn : L2.St → Hp → (Hp → Prop) → Prop) (J : It) (σ : L2.St) (H1 : Hp) (nx : Hp → Prop) : Prop :=
  ∃ W : Nat → Nat → Hp → Prop, (∃ m, W 0 m H1) ∧ ∀ j k H, W j k H → (J.stop j H ∧ nx H) ∨ (J.go j H ∧ ∃ Nx : Hp → Prop, (∀ H', Nx H' → ∃ k', k' < k ∧ W (j + 1) k' H') ∧
    ∀ x H', J.yld j H x H' → g x (L2.wipe σ vs) H' fun σ3 H5 => L2.wipe σ3 vs = L2.wipe σ vs ∧ tt σ3 H5 fun b H6 => if b = true then inn σ3 H6 Nx else Nx H6)
def tIns (te : TE) (D : Addr) : List Clr → L2.St → Hp → (Hp → Prop) → Prop
  | [], σ, H, nx => te σ H fun y H' => ∃ acc, H' D = some (.lst acc) ∧ acc.length < sizeLine ∧ nx (upd H' D (.lst (acc ++ [y])))
  | r :: rs, σ, H, nx => r.wi σ H fun J H1 => tItN r.g r.tt r.vs (tIns te D rs) J σ H1 nx
def tLcN (te : TE) (r : Clr) (rs : List Clr) : TE := fun σ H Q => r.wi σ H fun J H1 => ∀ D, H1 D = none → tItN r.g r.tt r.vs (tIns te D rs) J σ (upd H1 D (.lst [])) fun H' => Q (.ref D) H'

theorem thnX {α : Type} {t : Sem α} {Q Q' : α → Shared → Prop} {M : Model} {A : Around} {E F : Value → Shared → Prop} {s : Shared} (hx : F = fun _ _ => False) (h : wpAny M A t Q F s) (hQ : ∀ a s, Q a s → Q' a s) : wpAny M A t Q' E s := wpAny_mono h hQ fun _ _ z => by
  rw [hx] at z
  exact z.elim
theorem loopN_ok {B : Cx} (hc : B.calm = true) (hx : B.xe = fun _ _ => False) {elt : Expr} {te : TE} (pe : PE B elt te) {gens : List Comprehension} {scope : Scope} {pos : Pos} {D : Addr} :
    ∀ (cs : List Cl) (rs : List Clr) (k : Nat) (c : Cl) (r : Clr) (J : It) (it : Addr) (fp : List Addr) (tn : Nat → Heap → Prop) (pins : List (Addr × Obj)) (σ : L2.St) (H : Hp) (s : Shared) (nx : Hp → Prop) (Z : Shared → Prop),
      gens.drop k = (c :: cs).map Cl.co → PG B c.tg r.g → PTs B c.ifs r.tt → ClsOk B r.vs cs rs → Inv B pins (L2.wipe σ r.vs) H s → Turn B.prog B.w B.K c.tg J fp it tn → tn 0 s.heap → (∀ b ∈ fp, FpOk B pins H b) →
      tItN r.g r.tt r.vs (tIns te D rs) J σ H nx → (∀ H' s', Inv B pins (L2.wipe σ r.vs) H' s' → nx H' → Z s') →
      codeAny (model B.prog B.w) B.A (.compLoop (.ListComp elt gens scope pos) k (.ref it) (.ref D) B.env) (fun q s' => q = .ok .next ∧ Z s') s := by
  intro cs
  induction cs with
  | nil =>
    intro rs k c r J it fp tn pins σ H s nx Z hg hpg hpt hcs I T st hf h hZ
    cases rs with
    | cons _ _ => exact hcs.elim
    | nil =>
    obtain ⟨W, ⟨m0, w0⟩, turn⟩ := h
    have g0 : gens[k]? = some ⟨c.tg, c.iter, c.ifs, 0⟩ := by
      have e := congrArg (fun l => l[0]?) hg
      simpa [Cl.co] using e
    have g1 : gens[k + 1]? = none := by
      have e := congrArg (fun l => l[1]?) hg
      simpa [Cl.co] using e
    have stat : ∀ {H' : Hp}, (∀ b ∈ fp, H' b = none) → ∀ b ∈ fp, FpOk B pins H' b := fun hn b hb => ⟨hn b hb, (hf b hb).2⟩
    refine last_loop g0 g1 (fun n s' => ∃ j H', Inv B pins (L2.wipe σ r.vs) H' s' ∧ tn j s'.heap ∧ (∀ b ∈ fp, H' b = none) ∧ W j n H') ?_ m0 ⟨0, H, I, st, fun b hb => (hf b hb).1, w0⟩
    rintro n s5 ⟨j, H5, I5, st5, n5, w5⟩
    rcases turn j n H5 w5 with ⟨stop, qq⟩ | ⟨go, Nx, hNx, step⟩
    · refine thnF (T.done B rfl rfl rfl hc j pins s5 (L2.wipe σ r.vs) H5 (fun _ _ => False) I5 (stat n5) st5 stop) fun q s6 ⟨hq, I6⟩ => ?_
      subst hq
      exact ⟨rfl, hZ H5 s6 I6 qq⟩
    · refine thnF (T.item B rfl rfl rfl hc j pins s5 (L2.wipe σ r.vs) H5 (fun _ _ => False) I5 (stat n5) st5 go) fun q s6 ⟨u, hq, h6⟩ => ?_
      subst hq
      refine thnF h6 fun _ s7 ⟨x, H7, I7, r7, y7, st7, n7⟩ => ?_
      have I7' := I7.pinned (stat n7) (T.obj _ _ st7)
      refine thnX hx (hpg.run _ s7 (L2.wipe σ r.vs) H7 x u _ I7' r7 (step x H7 y7)) fun _ s8 ⟨σ8, H8, I8, hw8, q8⟩ => ?_
      refine thnX hx (hpt.run _ s8 σ8 H8 _ I8 q8) fun b s9 ⟨H9, I9, q9⟩ => ?_
      have fin : ∀ {s' : Shared} {H' : Hp}, Inv B (pins ++ pinsAt fp s7.heap) σ8 H' s' → Nx H' → ∃ m, m < n ∧ ∃ j H', Inv B pins (L2.wipe σ r.vs) H' s' ∧ tn j s'.heap ∧ (∀ b ∈ fp, H' b = none) ∧ W j m H' := fun {s' H'} I' nx => by
        obtain ⟨m', hm, w'⟩ := hNx H' nx
        have pin' : ∀ b ∈ fp, ∀ o, s7.heap.get? b = some o → s'.heap.get? b = some o ∧ H' b = none := fun b hb o e =>
          let z := I'.pin (b, o) (List.mem_append_right _ (List.mem_append_right _ (mem_pinsAt hb e)))
          ⟨z.1, z.2.1⟩
        refine ⟨m', hm, j + 1, H', I'.unpinned.weak (by rw [← hw8, wipe_length]) (fun j v e => by rw [← hw8] at e; exact (wipe_some e).1), T.keep _ _ _ st7 fun b hb o e => (pin' b hb o e).1, fun b hb => ?_, w'⟩
        obtain ⟨o, e, _⟩ := T.obj _ _ st7 b hb
        exact (pin' b hb o e).2
      refine ⟨fun eb => ?_, fun eb => ?_⟩
      rotate_left
      · rw [eb, if_neg Bool.false_ne_true] at q9
        exact fin I9 q9
      · rw [eb, if_pos rfl] at q9
        refine thnX hx (pe.run _ s9 σ8 H9 _ I9 q9) fun z s17 ⟨yv, H17, I17, r17, acc, hD17, hz17, nx⟩ => ?_
        exact app_ok (X := B) I17 hD17 hz17 r17 fun s18 I18 => fin I18 nx
  | cons c1 cs ih =>
    intro rs k c r J it fp tn pins σ H s nx Z hg hpg hpt hcs I T st hf h hZ
    cases rs with
    | nil => exact hcs.elim
    | cons r1 rs =>
    obtain ⟨hcl1, hsub, hcs⟩ := hcs
    obtain ⟨W, ⟨m0, w0⟩, turn⟩ := h
    have g0 : gens[k]? = some ⟨c.tg, c.iter, c.ifs, 0⟩ := by
      have e := congrArg (fun l => l[0]?) hg
      simpa [Cl.co] using e
    have g1 : gens[k + 1]? = some ⟨c1.tg, c1.iter, c1.ifs, 0⟩ := by
      have e := congrArg (fun l => l[1]?) hg
      simpa [Cl.co] using e
    have hg1 : gens.drop (k + 1) = (c1 :: cs).map Cl.co := by
      have e := congrArg (List.drop 1) hg
      rw [List.drop_drop] at e
      exact e
    have stat : ∀ {H' : Hp}, (∀ b ∈ fp, H' b = none) → ∀ b ∈ fp, FpOk B pins H' b := fun hn b hb => ⟨hn b hb, (hf b hb).2⟩
    refine mid_loop g0 g1 (hcl1.hs B.env) (fun n s' => ∃ j H', Inv B pins (L2.wipe σ r.vs) H' s' ∧ tn j s'.heap ∧ (∀ b ∈ fp, H' b = none) ∧ W j n H') ?_ m0 ⟨0, H, I, st, fun b hb => (hf b hb).1, w0⟩
    rintro n s5 ⟨j, H5, I5, st5, n5, w5⟩
    rcases turn j n H5 w5 with ⟨stop, qq⟩ | ⟨go, Nx, hNx, step⟩
    · refine thnF (T.done B rfl rfl rfl hc j pins s5 (L2.wipe σ r.vs) H5 (fun _ _ => False) I5 (stat n5) st5 stop) fun q s6 ⟨hq, I6⟩ => ?_
      subst hq
      exact ⟨rfl, hZ H5 s6 I6 qq⟩
    · refine thnF (T.item B rfl rfl rfl hc j pins s5 (L2.wipe σ r.vs) H5 (fun _ _ => False) I5 (stat n5) st5 go) fun q s6 ⟨u, hq, h6⟩ => ?_
      subst hq
      refine thnF h6 fun _ s7 ⟨x, H7, I7, r7, y7, st7, n7⟩ => ?_
      have I7' := I7.pinned (stat n7) (T.obj _ _ st7)
      refine thnX hx (hpg.run _ s7 (L2.wipe σ r.vs) H7 x u _ I7' r7 (step x H7 y7)) fun _ s8 ⟨σ8, H8, I8, hw8, q8⟩ => ?_
      refine thnX hx (hpt.run _ s8 σ8 H8 _ I8 q8) fun b s9 ⟨H9, I9, q9⟩ => ?_
      have fin : ∀ {σ9 : L2.St} {s' : Shared} {H' : Hp}, Inv B (pins ++ pinsAt fp s7.heap) σ9 H' s' → (L2.wipe σ r.vs).length = σ9.length → (∀ (j : Nat) v, (L2.wipe σ r.vs)[j]? = some (some v) → σ9[j]? = some (some v)) → Nx H' →
          ∃ m, m < n ∧ ∃ j H', Inv B pins (L2.wipe σ r.vs) H' s' ∧ tn j s'.heap ∧ (∀ b ∈ fp, H' b = none) ∧ W j m H' := fun {σ9 s' H'} I' hl hk nx => by
        obtain ⟨m', hm, w'⟩ := hNx H' nx
        have pin' : ∀ b ∈ fp, ∀ o, s7.heap.get? b = some o → s'.heap.get? b = some o ∧ H' b = none := fun b hb o e =>
          let z := I'.pin (b, o) (List.mem_append_right _ (List.mem_append_right _ (mem_pinsAt hb e)))
          ⟨z.1, z.2.1⟩
        refine ⟨m', hm, j + 1, H', I'.unpinned.weak hl hk, T.keep _ _ _ st7 fun b hb o e => (pin' b hb o e).1, fun b hb => ?_, w'⟩
        obtain ⟨o, e, _⟩ := T.obj _ _ st7 b hb
        exact (pin' b hb o e).2
      have hl8 : (L2.wipe σ r.vs).length = σ8.length := by rw [← hw8, wipe_length]
      have hk8 : ∀ (j : Nat) v, (L2.wipe σ r.vs)[j]? = some (some v) → σ8[j]? = some (some v) := fun j v e => by
        rw [← hw8] at e
        exact (wipe_some e).1
      have hk9 : ∀ (j : Nat) v, (L2.wipe σ r.vs)[j]? = some (some v) → (L2.wipe σ8 r1.vs)[j]? = some (some v) := fun j v e => by
        rw [← hw8] at e
        obtain ⟨e1, e2⟩ := wipe_some e
        rw [wipe_out fun z => e2 (hsub j z)]
        exact e1
      refine ⟨fun eb => ?_, fun eb => ?_⟩
      rotate_left
      · rw [eb, if_neg Bool.false_ne_true] at q9
        exact fin I9 hl8 hk8 q9
      · rw [eb, if_pos rfl] at q9
        refine thnX hx (hcl1.pi.run _ s9 σ8 H9 _ I9 q9) fun xv s10 hxv => thnX hx hxv fun itv s11 h11 => ?_
        obtain ⟨it1, fp1, tn1, J1, H11, e1, I11, T1, st11, f11, q11⟩ := h11
        subst e1
        have loop1 := ih rs (k + 1) c1 r1 J1 it1 fp1 tn1 (pins ++ pinsAt fp s7.heap) σ8 H11 s11 Nx (fun s' => ∃ m, m < n ∧ ∃ j H', Inv B pins (L2.wipe σ r.vs) H' s' ∧ tn j s'.heap ∧ (∀ b ∈ fp, H' b = none) ∧ W j m H') hg1 hcl1.pg hcl1.pt hcs
          (I11.weak (wipe_length _ _) (fun j v e => (wipe_some e).1)) T1 st11 f11 q11 fun H' s' I' nx => fin I' (hl8.trans (wipe_length σ8 r1.vs).symm) hk9 nx
        exact start_at g1 loop1 (T1.self B.A 0 _ _ _ st11 loop1)
end Tw
/-! a list comprehension of any number of fors: the rule and its big step -/
namespace Tw
open PySem PySem.Spec PyProof.Rows L2
section
variable {X : Cx}
/-- the block's start: the source walked, the new list, the block's frame -/
theorem lcN_core {pins : List (Addr × Obj)} {s : Shared} {σ : L2.St} {H : Hp} {Q : VK} {elt : Expr} {c : Cl} {cs : List Cl} {r : Clr} {rs : List Clr} {sc : Scope} {own : List (Str × Nat)} {pos pos' : Pos} {te : TE} {use : Option (Value → Sem Unit)} {Qf : Value → Shared → Prop}
    (hc : X.calm = true) (hN : X.N.Nodup) (I : Inv X pins σ H s) (hi : PI X c.tg c.iter r.wi) (ok : BlkOk X.N X.env.scope sc own) (hv : r.vs = own.map (·.2))
    (hcl : ∀ s H C cl fp, PG (X.blk s H sc (compEnvC sc cl C X.env) fp) c.tg r.g ∧ PTs (X.blk s H sc (compEnvC sc cl C X.env) fp) c.ifs r.tt ∧ ClsOk (X.blk s H sc (compEnvC sc cl C X.env) fp) r.vs cs rs ∧ PE (X.blk s H sc (compEnvC sc cl C X.env) fp) elt te)
    (hs : ∀ env x, foldedSetIterable c.iter env x = pure x) (h : tLcN te r rs σ H Q)
    (hR : ∀ D C s' m H', Inv X pins σ H' s' → Q (.ref D) H' → s'.heap.Ns C m → FpOk X pins H' C → compPost (model X.prog X.w) X.A X.xe use Qf (.ref D) C (.ok .next) s') :
    wpAny (model X.prog X.w) X.A (comprehension (.ListComp elt ((c :: cs).map Cl.co) sc pos) sc X.env pos' (newList []) false (eval c.iter X.env) use) Qf X.xe s := by
  have fr : ∀ y ∈ sc.names, y.2 = .free → ∃ a, X.env.cells.lookup y.1 = some a := fun y hy e => I.ok.has _ (ok.free y hy e)
  refine wpAny_comprehension_free (use := use) rfl (hs X.env) (closure_ok fr) ok.kind (fun y hy e => by rw [ok.uniq y hy, e]) (thn (hi.run pins s σ H _ I h) fun _ _ hx => thn hx fun _ s2 h2 => ?_)
  obtain ⟨it, fp, tn, J, H2, rfl, I2, T, st2, f2, q⟩ := h2
  refine wpAny_newObj_type (newEnv_comp ?_) (by show 0 ≤ sizeLine; decide)
  obtain ⟨D, eD⟩ : ∃ D, D = s2.heap.objs.size := ⟨_, rfl⟩
  rw [← eD]
  have q := q D (I2.hok.fresh (Nat.le_of_eq eD.symm))
  obtain ⟨s3, e3⟩ : ∃ s3 : Shared, s3 = { s2 with heap := s2.heap.push { cls := .type "list", data := .seq ([] : List Value).toArray } } := ⟨_, rfl⟩
  have hp3 : s3.heap = s2.heap.push { cls := .type "list", data := .seq ([] : List Value).toArray } := by rw [e3]
  have I3 : Inv X pins σ (upd H2 D (.lst [])) s3 := by
    rw [e3]
    refine I2.laid (t' := s2.toks) (fun _ _ e => Heap.get?_push_of_some _ e) (Nat.le_of_eq eD.symm) ⟨Nat.zero_le _, [], 0, .nil, ?_⟩
    rw [eD]
    exact Heap.get?_push_size _ rfl
  have fp3 : ∀ b ∈ fp, FpOk X pins (upd H2 D (.lst [])) b ∧ b < s3.heap.objs.size := fun b hb => by
    obtain ⟨_, eo, _⟩ := T.obj _ _ st2 b hb
    have lt := Heap.lt_size eo
    refine ⟨⟨(upd_ne (by rw [eD]; exact Nat.ne_of_lt lt)).trans (f2 b hb).1, (f2 b hb).2⟩, ?_⟩
    rw [hp3, Heap.size_push]
    exact Nat.lt_succ_of_lt lt
  have st3 : tn 0 s3.heap := T.keep _ _ _ st2 fun _ _ _ e => by rw [hp3]; exact Heap.get?_push_of_some _ e
  have I4 := block_start I3 ok hN fp3
  rw [← hv] at I4
  have st4 : tn 0 (pushCells (s3.heap.push { cls := .type "dict", data := .dict #[] }) sc.names) := T.keep _ _ _ st3 fun _ _ _ e => pushCells_keeps _ _ _ _ (Heap.get?_push_of_some _ e)
  obtain ⟨pg, pt, pcs, pe⟩ := hcl s3 (upd H2 D (.lst [])) s3.heap.objs.size (cellsFrom (s3.heap.objs.size + 1) sc.names (cloFrom X.env.cells sc.names [])) fp
  rw [← e3]
  have low : ∀ b ∈ fp, FpOk (X.blk s3 (upd H2 D (.lst [])) sc (compEnvC sc (cellsFrom (s3.heap.objs.size + 1) sc.names (cloFrom X.env.cells sc.names [])) s3.heap.objs.size X.env) fp) [] (upd H2 D (.lst [])) b := fun b hb =>
    ⟨(fp3 b hb).1.1, (I4.ok.exf b hb).1, I4.ok.exfs b hb, .inl hb, fun x a e => (I4.ok.exf b hb).2 x a e, fun p hp => nomatch (show p ∈ ([] : List (Addr × Obj)) ++ [] from hp)⟩
  have run := loopN_ok (B := X.blk s3 (upd H2 D (.lst [])) sc (compEnvC sc (cellsFrom (s3.heap.objs.size + 1) sc.names (cloFrom X.env.cells sc.names [])) s3.heap.objs.size X.env) fp) hc rfl pe (gens := (c :: cs).map Cl.co) (scope := sc) (pos := pos) (D := D) cs rs 0 c r J it fp tn [] σ _ _ _
    (fun s' => compPost (model X.prog X.w) X.A X.xe use Qf (.ref D) s3.heap.objs.size (.ok .next) s') rfl pg pt pcs I4 T st4 low q fun H5 s6 I6 q5 => by
      obtain ⟨m, hn, _⟩ := I6.loc
      exact hR D s3.heap.objs.size s6 m H5 (I3.call' (ch := fp) I6.os I6.base I6.hok I6.bare fun b hb => ⟨(fp3 b hb).1.2.2.2.1, (fp3 b hb).1.2.1, (fp3 b hb).1.2.2.2.2.1, (fp3 b hb).1.2.2.2.2.2⟩) q5 hn (I3.fpOk (Nat.le_refl _) I6.free)
  have run := codeAny_mono run fun q' s' hq => (show compPost (model X.prog X.w) X.A X.xe use Qf (.ref D) s3.heap.objs.size q' s' by rw [hq.1]; exact hq.2)
  exact codeAny_compStart_list (target := c.tg) (iter := c.iter) (ifs := c.ifs) (rest := cs.map Cl.co) run (T.self X.A 0 _ _ _ st4 run)
/-- as a value -/
theorem pe_lcN {elt : Expr} {c : Cl} {cs : List Cl} {r : Clr} {rs : List Clr} {sc : Scope} {own : List (Str × Nat)} {pos : Pos} {te : TE} {gens : List Comprehension}
    (hc : X.calm = true) (hN : X.N.Nodup) (hi : PI X c.tg c.iter r.wi) (ok : BlkOk X.N X.env.scope sc own) (hv : r.vs = own.map (·.2)) (hgens : gens = (c :: cs).map Cl.co)
    (hcl : ∀ s H C cl fp, PG (X.blk s H sc (compEnvC sc cl C X.env) fp) c.tg r.g ∧ PTs (X.blk s H sc (compEnvC sc cl C X.env) fp) c.ifs r.tt ∧ ClsOk (X.blk s H sc (compEnvC sc cl C X.env) fp) r.vs cs rs ∧ PE (X.blk s H sc (compEnvC sc cl C X.env) fp) elt te)
    (hs : ∀ env x, foldedSetIterable c.iter env x = pure x) : PE X (.ListComp elt gens sc pos) (tLcN te r rs) := by
  subst hgens
  refine ⟨fun pins s σ H Q I h => ?_⟩
  rw [eval_ListComp]
  refine lcN_core hc hN I hi ok hv hcl hs h fun D C s' m H' I' q hn ⟨f0, f1, f2, f3, f4, f5⟩ => ⟨m, hn, fun h'' sb => ⟨.ref D, H', I'.turned (t' := s'.toks) (fun b o hb e => (sb.2 b hb).trans e) f0 f1 f3 f4 f5, rfl, q⟩⟩
end

/-! ### its big step: targets one name each -/
structure Clj where
  wi : TI
  j : Nat
  tt : TT
  vs : List Nat
def Clj.r (c : Clj) : Clr := ⟨c.wi, gName c.j, c.tt, c.vs⟩
def Clj.rs (l : List Clj) : List Clr := l.map Clj.r
section
variable {K : PySem.W.Frag} {S : Side}
def itW (K : PySem.W.Frag) (S : Side) (j : Nat) (tt : TT) (inn : Rho → List PyData → (List PyData → Prop) → Prop) (ρ : Rho) : List PyData → List PyData → (List PyData → Prop) → Prop
  | [], acc, P => P acc
  | x :: xs, acc, P => EvT K S tt (ρ.set j (some (.d x))) fun b => (b = true → inn (ρ.set j (some (.d x))) acc fun acc' => itW K S j tt inn ρ xs acc' P) ∧ (b = false → itW K S j tt inn ρ xs acc P)
def insW (K : PySem.W.Frag) (S : Side) (te : TE) : List Clj → Rho → List PyData → (List PyData → Prop) → Prop
  | [], ρ, acc, P => Ev K S te ρ fun y => ∃ d, y = .d d ∧ acc.length < sizeLine ∧ P (acc ++ [d])
  | c :: r, ρ, acc, P => EvI K S c.wi ρ fun es => itW K S c.j c.tt (insW K S te r) (wipeR ρ c.vs) es acc P
/-- what stands between two turns: the new list at D -/
def StD (K : PySem.W.Frag) (S : Side) (D : Addr) (H1 H : Hp) (acc : List PyData) : Prop := S.To H1 H ∧ ∃ ys, H D = some (.lst ys) ∧ DpAll K ((S.hide D).view H) ys acc
variable {D : Addr} {H1 : Hp}
theorem StD.inv {H : Hp} {acc : List PyData} (h : StD K S D H1 H acc) : (S.hide D).inv H := by
  obtain ⟨t, ys, e, _⟩ := h
  exact ⟨t.inv, by rw [e]; exact fun z => nomatch z⟩
theorem StD.on {H H2 : Hp} {acc : List PyData} (nD : H1 D = none) (hi : S.inv H1) (h : StD K S D H1 H acc) (t : (S.hide D).To H H2) : StD K S D H1 H2 acc := by
  obtain ⟨t1, ys, e, d⟩ := h
  have nm : ¬ (S.hide D).mutb D := fun z => absurd nD (S.there H1 D hi (S.sub D z))
  exact ⟨t1.trans (to_hide t), ys, t.keep D _ nm e, dpAll_mono t.ex _ _ d⟩
theorem StD.app {H : Hp} {acc : List PyData} {w : V} {c : PyData} (nD : H1 D = none) (hi : S.inv H1) (h : StD K S D H1 H acc) (hw : Dp K ((S.hide D).view H) w c) :
    ∃ ys, H D = some (.lst ys) ∧ ys.length = acc.length ∧ StD K S D H1 (upd H D (.lst (ys ++ [w]))) (acc ++ [c]) ∧ Evl.Ex ((S.hide D).view H) ((S.hide D).view (upd H D (.lst (ys ++ [w])))) := by
  obtain ⟨t, ys, hD, ha⟩ := h
  have ex4 : Evl.Ex ((S.hide D).view H) ((S.hide D).view (upd H D (.lst (ys ++ [w])))) := fun a o e => by
    obtain ⟨n, e⟩ := view_some.mp e
    exact view_some.mpr ⟨n, by rw [upd_ne (fun z => n (.inr z))]; exact e⟩
  refine ⟨ys, hD, dpa_len ha, ⟨⟨S.put H D _ t.inv (nhid hi nD) (nofrz_of hD fun _ _ z => nomatch z), fun a o na e => by rw [upd_ne (ne_of_none e nD)]; exact t.keep a o na e⟩, _, upd_same, ?_⟩, ex4⟩
  exact dpa_app (dpAll_mono ex4 _ _ ha) (.cons (dp_mono ex4 _ _ hw) .nil)
theorem itN_ok (nD : H1 D = none) (hi : S.inv H1) {j : Nat} {tt : TT} {vs : List Nat} (hj : j ∈ vs) {inn : L2.St → Hp → (Hp → Prop) → Prop} {innW : Rho → List PyData → (List PyData → Prop) → Prop}
    (hin : ∀ ρ σ H acc (P : List PyData → Prop) nx, StD K S D H1 H acc → EnvOk K ((S.hide D).view H) σ ρ → innW ρ acc P → (∀ acc' H', StD K S D H1 H' acc' → Evl.Ex ((S.hide D).view H) ((S.hide D).view H') → P acc' → nx H') → inn σ H nx)
    {J : It} {ds : List PyData} {M : Hp} (W : Walk K J ds M) {σ : L2.St} {ρ : Rho} {H : Hp} {acc : List PyData} {P : List PyData → Prop} {nx : Hp → Prop} (st : StD K S D H1 H acc) (he : EnvOk K ((S.hide D).view H) σ ρ) (hM : Evl.Ex M ((S.hide D).view H))
    (h : itW K (S.hide D) j tt innW (wipeR ρ vs) ds acc P) (hn : ∀ acc' H', StD K S D H1 H' acc' → Evl.Ex ((S.hide D).view H) ((S.hide D).view H') → P acc' → nx H') : tItN (gName j) tt vs inn J σ H nx := by
  refine ⟨fun i m H' => m = ds.length - i ∧ i ≤ ds.length ∧ ∃ acc, StD K S D H1 H' acc ∧ Evl.Ex ((S.hide D).view H) ((S.hide D).view H') ∧ itW K (S.hide D) j tt innW (wipeR ρ vs) (ds.drop i) acc P,
    ⟨_, rfl, Nat.zero_le _, acc, st, Evl.Ex.refl _, h⟩, ?_⟩
  rintro i m H' ⟨rfl, hl, acc5, st5, ex5, p5⟩
  have hM5 : Evl.Ex M ((S.hide D).view H') := fun a o e => ex5 a o (hM a o e)
  by_cases hlt : i < ds.length
  · refine .inr ⟨W.go _ H' i st5.inv hM5 hlt, fun H2 => i + 1 ≤ ds.length ∧ ∃ acc, StD K S D H1 H2 acc ∧ Evl.Ex ((S.hide D).view H) ((S.hide D).view H2) ∧ itW K (S.hide D) j tt innW (wipeR ρ vs) (ds.drop (i + 1)) acc P,
      fun H2 n => ⟨ds.length - (i + 1), by omega, rfl, n⟩, fun x H2 y => ?_⟩
    obtain ⟨t2, d, hd, hx⟩ := W.yld _ H' i x H2 st5.inv hM5 hlt y
    rw [drop_cons hd] at p5
    have env2 : EnvOk K ((S.hide D).view H2) ((L2.wipe σ vs).set j (some x)) ((wipeR ρ vs).set j (some (.d d))) := (((he.mono ex5).mono t2.ex).wipe vs).set j hx
    refine ⟨wipe_put hj, p5 _ H2 t2.inv env2 _ fun b H3 t3 p3 => ?_⟩
    have ex3 : Evl.Ex ((S.hide D).view H) ((S.hide D).view H3) := fun a o e => (t2.trans t3).ex a o (ex5 a o e)
    have st3 := st5.on nD hi (t2.trans t3)
    cases b with
    | false =>
      rw [if_neg Bool.false_ne_true]
      exact ⟨hlt, acc5, st3, ex3, p3.2 rfl⟩
    | true =>
      rw [if_pos rfl]
      refine hin _ _ H3 acc5 _ _ st3 (env2.mono t3.ex) (p3.1 rfl) fun acc6 H6 st6 ex6 p6 => ⟨hlt, acc6, st6, fun a o e => ex6 a o (ex3 a o e), p6⟩
  · have e : i = ds.length := by omega
    subst e
    rw [List.drop_length] at p5
    exact .inl ⟨W.stop _ H' _ st5.inv hM5 (Nat.le_refl _), hn acc5 H' st5 ex5 p5⟩
theorem ins_ok (nD : H1 D = none) (hi : S.inv H1) {te : TE} : ∀ (rs : List Clj), (∀ c ∈ rs, c.j ∈ c.vs) → ∀ ρ σ H acc (P : List PyData → Prop) nx, StD K S D H1 H acc → EnvOk K ((S.hide D).view H) σ ρ → insW K (S.hide D) te rs ρ acc P →
    (∀ acc' H', StD K S D H1 H' acc' → Evl.Ex ((S.hide D).view H) ((S.hide D).view H') → P acc' → nx H') → tIns te D (rs.map Clj.r) σ H nx
  | [], _, ρ, σ, H, acc, P, nx, st, he, h, hn => h σ H st.inv he _ fun w x H2 t2 i2 p2 => by
    obtain ⟨d, rfl, hz, p2⟩ := p2
    obtain ⟨ys, e1, e2, e3, e4⟩ := (st.on nD hi t2).app nD hi i2
    exact ⟨ys, e1, by omega, hn _ _ e3 (fun a o e => e4 a o (t2.ex a o e)) p2⟩
  | c :: rs, hj, ρ, σ, H, acc, P, nx, st, he, h, hn => h σ H st.inv he _ fun J ds H2 t2 W p2 =>
    itN_ok nD hi (hj c List.mem_cons_self) (fun ρ σ H acc P nx => ins_ok nD hi rs (fun c' hc => hj c' (List.mem_cons_of_mem _ hc)) ρ σ H acc P nx) W (st.on nD hi t2) (he.mono t2.ex) (Evl.Ex.refl _) p2 fun acc' H' st' ex' p' => hn acc' H' st' (fun a o e => ex' a o (t2.ex a o e)) p'
theorem ev_lcN {ρ : Rho} {te : TE} {c : Clj} {rs : List Clj} {P : DV → Prop} (hj : c.j ∈ c.vs) (hjs : ∀ c ∈ rs, c.j ∈ c.vs)
    (h : EvI K S c.wi ρ fun ds => ∀ T, Side.Le S T → itW K T c.j c.tt (insW K T te rs) (wipeR ρ c.vs) ds [] fun out => P (.d (.list out))) : Ev K S (tLcN te c.r (Clj.rs rs)) ρ P := fun σ H hi he Q q =>
  h σ H hi he _ fun J ds H1 t1 W p1 => by
    intro D nD
    have p1 := p1 (S.hide D) (.hide D (.refl S))
    have t0 := Side.To.new (S := S) (o := .lst []) t1.inv nD
    have st0 : StD K S D H1 (upd H1 D (.lst [])) [] := ⟨t0, [], upd_same, .nil⟩
    have ex0 : Evl.Ex (S.view H1) ((S.hide D).view (upd H1 D (.lst []))) := ex_hide nD t0.keep
    refine itN_ok nD t1.inv hj (fun ρ σ H acc P nx => ins_ok nD t1.inv rs hjs ρ σ H acc P nx) W st0 ((he.mono t1.ex).mono ex0) ex0 p1 fun acc H' st' ex' p' => ?_
    obtain ⟨t, ys, hD, ha⟩ := st'
    refine q _ (.d (.list acc)) H' (t1.trans t) ?_ p'
    exact .lst (.inl (.inl (view_some.mpr ⟨nhid t1.inv nD, hD⟩))) (dpAll_mono (hide_ex H') _ _ ha)
/-- a source whose turns add what f tells -/
theorem itW_flat {j : Nat} {inn : Rho → List PyData → (List PyData → Prop) → Prop} {ρ : Rho} {f : PyData → List PyData} {B : Nat} : ∀ (xs acc : List PyData) (P : List PyData → Prop),
    (∀ x ∈ xs, ∀ (acc : List PyData) (P : List PyData → Prop), acc.length + (f x).length ≤ B → P (acc ++ f x) → inn (ρ.set j (some (.d x))) acc P) → acc.length + (xs.flatMap f).length ≤ B → P (acc ++ xs.flatMap f) → itW K S j tYes inn ρ xs acc P
  | [], acc, P, _, _, p => by
    rw [List.flatMap_nil, List.append_nil] at p
    exact p
  | x :: xs, acc, P, h, hl, p => by
    rw [List.flatMap_cons, List.length_append] at hl
    refine et_yes ⟨fun _ => h x List.mem_cons_self acc _ (by omega) ?_, fun z => nomatch z⟩
    refine itW_flat xs _ P (fun y hy => h y (List.mem_cons_of_mem _ hy)) (by rw [List.length_append]; omega) ?_
    rw [List.flatMap_cons] at p
    rw [List.append_assoc]
    exact p
end
end Tw
/-! sorted of what is walked by texts; written dicts with text keys; len(set(tuple of ints)); a def held by a name, called with a star -/
namespace Tw
open PySem PySem.Spec PyProof.Rows L2

/-! ### sorted(x), x anything walked, its items texts -/
section
variable {X : Cx}
theorem sorted_src {pins : List (Addr × Obj)} {σ : L2.St} {H : Hp} {s : Shared} {Q : VK} {T : String} {r d : Addr} {n : Nat} {Pv : Nat → Value → Prop} {OK : Heap → Prop} {ks : List Str} (Kd : PySem.W.KdlSrc X.prog X.w T r d n Pv OK) (hc : X.calm = true) (I : Inv X pins σ H s) (hok : OK s.heap)
    (hl : n = ks.length) (h64 : ks.length < 64) (hP : ∀ (j : Nat) (v : Value), Pv j v → ∃ (x : Str) (t : Tok), ks[j]? = some x ∧ v = Value.str x t)
    (q : ∀ ys p, ys.Perm ks → sortedS ys = true → H p = none → Q (.ref p) (upd H p (.lst (ys.map V.str)))) : wpAny (model X.prog X.w) X.A (call (.builtin "sorted") [.ref r]) (EP X pins σ Q) X.xe s := by
  have sz : ks.length ≤ sizeLine := Nat.le_trans (Nat.le_of_lt h64) (by decide)
  refine Calls.call_function_entry PyProof.Rows.kind_sorted PyProof.Rows.plain_sorted PyProof.Rows.entry_sorted (PyProof.Rows.args_sorted1 _) ?_
  unfold Builtin.«sorted»
  refine wpAny_bind (m := checkCount "sorted" 1 1 _) (wpAny_pure ?_)
  refine wpAny_bind (PySem.W.kdu_collect (A := X.A.in1) Kd (I.ok.hd hc) hok (by rw [hl]; exact sz) fun h' tk got keep hgot => ?_)
  have len : got.toList.length = ks.length := by rw [Array.length_toList, hgot.1, hl]
  have txt : StrsAre got.toList ks := strs_at len fun j v e => hP j v (hgot.2 j v (by rw [← Array.getElem?_toList]; exact e))
  refine wpAny_bind (wpAny_newList ?_ (by rw [len]; exact sz))
  have at0 : (h'.push (seqObj "list" got.toList.toArray 0)).get? h'.objs.size = some (seqObj "list" got.toList.toArray 0) := Heap.get?_push_size _ rfl
  show wpAny _ _ _ _ _ { s with heap := h'.push (seqObj "list" got.toList.toArray 0), toks := tk }
  refine wpAny_bind (wpAny_holding (wpAny_call_entry PyProof.Rows.slot_list_sort ⟨_, at0, rfl⟩ PyProof.Rows.entry_list_sort (list_sort_treeK strKind_oneLt (s := { s with heap := h'.push (seqObj "list" got.toList.toArray 0), toks := tk }) at0 txt.keysOf
    (fun a b rest e => keyKind_strs (by rw [← e]; exact txt)) (by rw [len]; exact h64) fun fin pe so => ⟨_, rfl, ?_⟩) (PyProof.Rows.args_list_sort _)))
  obtain ⟨ys, y1, y2, y3⟩ := sorted_out_str txt pe so
  obtain ⟨ep, at1⟩ := PyProof.Rows.sortedHeap_at (vs := got.toList) (out := (arrOf fin).map (·.2)) at0
  have I1 : Inv X pins σ H { s with heap := h', toks := tk } := I.kept keep
  have small : (ys.map V.str).length ≤ sizeLine := by rw [List.length_map, y2.length_eq]; exact sz
  refine wpAny_pure ⟨_, rfl, .ref h'.objs.size, upd H h'.objs.size (.lst (ys.map V.str)), I1.laid (t' := tk) (fun b u e => ?_) (Nat.le_refl _) ?_, rfl, q ys _ y2 y3 (I1.hok.fresh (Nat.le_refl _))⟩
  · have hb : b < h'.objs.size := Heap.lt_size e
    exact (PyProof.Rows.sortedHeap_old (Nat.ne_of_lt hb) (by rw [size_push']; exact Nat.lt_succ_of_lt hb)).trans (Heap.get?_push_of_some _ e)
  · exact ⟨small, ((arrOf fin).map (·.2)).toList, ep, vals_of_strs y1, by rw [Array.toArray_toList]; exact at1⟩
end

/-! ### written dicts, their keys texts -/
def keyS (e : DictEntry) : Option Str := match e.key with
  | .str z _ => some z
  | _ => none
def KKeys (K : PySem.W.Frag) (w : World) (a : Addr) (ks : List Str) : Prop :=
  ∃ es n, K.lookup a = some ⟨.type "dict", none, .dict es n, #[]⟩ ∧ PySem.W.KeysLit w.params es.toList ∧ es.toList.map keyS = ks.map some ∧ ks.Nodup ∧ (a == sysModules) = false
theorem keys_pairs {P : Program} {w : World} : ∀ {l : List DictEntry} {ks : List Str}, PySem.W.KeysLit w.params l → l.map keyS = ks.map some →
    ∃ vs : List (Key × Value), Pairs (mixKind P w) l vs ∧ vs.map (·.1) = ks.map Sum.inr ∧ ∀ e ∈ l, ∃ k, (mixKind P w).is k e.key = true ∧ e.hash = (mixKind P w).hash k
  | [], [], _, _ => ⟨[], .nil, rfl, fun _ h => nomatch h⟩
  | [], _ :: _, _, h => nomatch h
  | _ :: _, [], _, h => nomatch h
  | e :: l, k :: ks, ⟨⟨x, t, e1, e2⟩, hl⟩, h => by
    rw [List.map_cons, List.map_cons] at h
    injection h with h1 h2
    have ex : x = k := by
      have z : keyS e = some x := by unfold keyS; rw [e1]
      rw [z] at h1
      exact Option.some.inj h1
    subst ex
    obtain ⟨vs, p1, p2, p3⟩ := keys_pairs (P := P) hl h2
    have is : (mixKind P w).is (.inr x) e.key = true := by rw [e1]; exact mixKind_str P w x t
    refine ⟨(.inr x, e.val) :: vs, .cons is rfl p1, by rw [List.map_cons, List.map_cons, p2], fun d hd => ?_⟩
    rcases List.mem_cons.mp hd with z | hd
    · rw [z]
      exact ⟨.inr x, is, e2⟩
    · exact p3 d hd
theorem inr_nodup {ks : List Str} (h : ks.Nodup) : (ks.map (Sum.inr : Str → Key)).Nodup := List.Pairwise.map _ (fun x y n e => n (Sum.inr.inj e)) h
theorem kkeys_at {P : Program} {w : World} {K : PySem.W.Frag} {h : Heap} {a : Addr} {ks : List Str} (X : K.In h) (k : KKeys K w a ks) : ∃ vs ep, h.DictAt (mixKind P w) a vs ep ∧ vs.map (·.1) = ks.map Sum.inr := by
  obtain ⟨es, n, hl, hk, hs, nd, _⟩ := k
  obtain ⟨vs, p1, p2, p3⟩ := keys_pairs (P := P) hk hs
  exact ⟨vs, n, ⟨_, es, X _ _ hl, ⟨rfl, rfl, rfl⟩, rfl, fun e he => p3 e (Array.mem_toList_iff.mpr he), p1, by rw [p2]; exact inr_nodup nd⟩, p2⟩
def rSortK (K : PySem.W.Frag) (w : World) : List V → Hp → VK → Prop := fun xs H Q => ∃ a ks, xs = [V.ref a] ∧ KKeys K w a ks ∧ ks.length < 64 ∧ ∀ ys p, ys.Perm ks → sortedS ys = true → H p = none → Q (.ref p) (upd H p (.lst (ys.map V.str)))
theorem call_sortK {X : Cx} (hc : X.calm = true) : CallR X (.builtin "sorted") (rSortK X.K X.w) := by
  intro pins s σ H xs us Q I r q
  obtain ⟨a, ks, rfl, hk, h64, q⟩ := q
  obtain ⟨u, rfl, rx⟩ := vals1 r
  cases rx
  obtain ⟨vs, ep, da, ev⟩ := kkeys_at (P := X.prog) I.kIn hk
  have el : vs.length = ks.length := by
    have e := congrArg List.length ev
    rwa [List.length_map, List.length_map] at e
  obtain ⟨_, _, _, _, _, _, lo⟩ := hk
  refine sorted_src (PySem.W.kdl_dict (knd := mixKind X.prog X.w) lo) hc I da el h64 (fun j v ⟨k, x, e1, e2⟩ => ?_) q
  have e3 : (vs.map (·.1))[j]? = some k := by rw [List.getElem?_map, e1] <;> rfl
  rw [ev, List.getElem?_map] at e3
  cases e4 : ks[j]? with
  | none => rw [e4] at e3; cases e3
  | some y =>
    rw [e4] at e3
    cases (Option.some.inj e3)
    obtain ⟨t, ee⟩ := Value.isStrOf_shape (x := y) (v := v) e2
    exact ⟨y, t, rfl, ee⟩
/-- how texts stand when sorted: by their code points -/
def leS (a b : Str) : Bool := !ltCps b.cps.toList a.cps.toList
section
variable {K : PySem.W.Frag} {S : Side} {ρ : Rho}
theorem ec_sortK {w : World} {a : Addr} {ks : List Str} {P : DV → Prop} (hk : KKeys K w a ks) (h64 : ks.length < 64) (p : ∀ ys, ys.Perm ks → sortedS ys = true → P (.d (lstS ys))) : EvC K S (rSortK K w) [.v (.ref a)] P := fun vs H hi hv Q q => by
  match vs, hv with
  | [v], hv =>
    obtain rfl : v = .ref a := hv.1
    refine ⟨a, ks, rfl, hk, h64, fun ys l hp so nl => ?_⟩
    have t := Side.To.new (S := S) (o := .lst (ys.map V.str)) hi nl
    exact q _ (.d (lstS ys)) _ t (.lst (.inl (.inl (view_new hi nl))) (dpAll_strs ys)) (p ys hp so)
/-- d[k], d a written dict -/
theorem e2_kdict {w : World} {a : Addr} {z : Str} {v : V} {x : DV} {P : DV → Prop} (hk : KDct K w a z v) (hx : ∀ M, Is K M v x) (p : P x) : Ev2 K S (rIxD K w) (.v (.ref a)) (.d (.str z)) P := fun u u' H hi hv hw Q q => by
  obtain rfl : u = .ref a := hv
  cases dp_d hw
  exact ⟨a, z, v, rfl, rfl, hk, q v x H (.refl hi) (hx _) p⟩
end

/-! ### len(set(t)), t a tuple of ints -/
def addI (x : Int) (l : List Int) : List Int := if x ∈ l then l else x :: l
def distI : List Int → List Int
  | [] => []
  | x :: xs => addI x (distI xs)
theorem dist_mem : ∀ {l : List Int} {x : Int}, x ∈ distI l ↔ x ∈ l
  | [], _ => Iff.rfl
  | y :: l, x => by
    have ih := @dist_mem l x
    show x ∈ addI y (distI l) ↔ _
    unfold addI
    split
    · rename_i h
      rw [ih, List.mem_cons]
      exact ⟨.inr, fun z => z.elim (fun e => by rw [e]; exact dist_mem.mp h) id⟩
    · rw [List.mem_cons, List.mem_cons, ih]
theorem dist_nodup : ∀ l : List Int, (distI l).Nodup
  | [] => List.nodup_nil
  | y :: l => by
    show (addI y (distI l)).Nodup
    unfold addI
    split
    · exact dist_nodup l
    · rename_i h
      exact List.nodup_cons.mpr ⟨h, dist_nodup l⟩
theorem len_sub {α : Type} : ∀ {a b : List α}, a.Nodup → (∀ x ∈ a, x ∈ b) → a.length ≤ b.length
  | [], _, _, _ => Nat.zero_le _
  | x :: a, b, nd, h => by
    obtain ⟨n1, n2⟩ := List.nodup_cons.mp nd
    obtain ⟨b1, b2, rfl⟩ := List.append_of_mem (h x List.mem_cons_self)
    have ih := len_sub (b := b1 ++ b2) n2 fun y hy => by
      have z := h y (List.mem_cons_of_mem _ hy)
      rw [List.mem_append, List.mem_cons] at z
      rw [List.mem_append]
      rcases z with z | z | z
      · exact .inl z
      · rw [z] at hy
        exact absurd hy n1
      · exact .inr z
    rw [List.length_append] at ih
    rw [List.length_append, List.length_cons, List.length_cons]
    omega
def tLenSet (K : PySem.W.Frag) (ta : TE) : TE := fun σ H Q => ta σ H fun x H1 => ∃ (l : Addr) (ns : List Int), x = .ref l ∧ SqT K H1 l (ns.map V.int) ∧ ns.length ≤ 4000 ∧ Q (.int ((distI ns).length : Nat)) H1
theorem pe_lenSet {X : Cx} {a : Expr} {ta : TE} {p p2 q pos : Pos} (hg : Gl X "len") (hm : X.mg "len" = none) (hg2 : Gl X "set") (hm2 : X.mg "set" = none) (ha : PE X a ta) (hc : X.calm = true := by rfl)
    (na : starEach [a] X.env = (false, eval a X.env) :: starEach [] X.env := by rfl) : PE X (.Call (.Name "len" p) [.Call (.Name "set" p2) [a] [] q] [] pos) (tLenSet X.K ta) := by
  refine ⟨fun pins s σ H Q I h => ?_⟩
  refine Call_ (ld_blt I hg hm boot_len (PyProof.Rows.callWith_builtin1 (PyProof.Rows.args_cons (Call_ (ld_blt I hg2 hm2 boot_set ?_)) rfl) rfl rfl))
  refine PyProof.Rows.callWith_type1 (PyProof.Rows.args_cons (thn (ha.run pins s σ H _ I h) fun v s1 ⟨x, H1, I1, r1, l, ns, ex, hq, hl, q1⟩ => PyProof.Rows.args_nil ?_) na) na rfl
  subst ex
  cases r1
  obtain ⟨its, r, pl, hz⟩ := I1.tuple hq
  have en : its.length = ns.length := by rw [← r.length, List.length_map]
  refine call_set_tupI ns (I1.ok.hd hc) pl (by simpa using RZ.intsAre_vals r) (by unfold scanBound; omega) fun h' tk c R hcn keep => ?_
  obtain ⟨o, es, ep, t, ho, hex, hd, _, nd, mem, _, hf, hn, _⟩ := R
  have cnt : c = (distI ns).length := by
    have e1 : (es.toList.map keyOf).length = c := by rw [List.length_map, Array.length_toList]; exact hn
    rw [← e1]
    refine Nat.le_antisymm (len_sub nd fun x hx => dist_mem.mpr (of_decide_eq_true ((mem x).mpr hx))) (len_sub (dist_nodup ns) fun x hx => (mem x).mp (decide_eq_true (dist_mem.mp hx)))
  have I2 : Inv X pins σ H1 { s1 with heap := h', toks := tk } := I1.kept keep
  refine PyProof.Rows.args_nil (call_len_set ho hex hd hf (by rw [hn]; omega) ⟨.int (c : Nat), H1, I2.tok _, ⟨_, by rw [hn]⟩, by rw [cnt]; exact q1⟩)
theorem dpAll_ints {K : PySem.W.Frag} {M : Hp} : ∀ {ns : List Int} {vs : List V}, DpAll K M vs (ns.map PyData.int) → vs = ns.map V.int
  | [], _, h => by cases h; rfl
  | n :: ns, _, h => by
    cases h with
    | cons h1 h2 =>
      cases h1
      rw [dpAll_ints h2, List.map_cons]
theorem ev_lenSet {K : PySem.W.Frag} {S : Side} {ρ : Rho} {ta : TE} {P : DV → Prop} (h : Ev K S ta ρ fun x => ∃ ns : List Int, x = .d (.tuple (ns.map PyData.int)) ∧ ns.length ≤ 4000 ∧ P (.d (.int ((distI ns).length : Nat)))) : Ev K S (tLenSet K ta) ρ P := fun σ H hi he Q q =>
  h σ H hi he _ fun v x H1 t1 i1 p1 => by
    obtain ⟨ns, rfl, hl, p1⟩ := p1
    obtain ⟨a, vs, rfl, ha, da⟩ := dp_tup i1
    rw [dpAll_ints da] at ha
    exact ⟨a, ns, rfl, ex_sqt (view_ex S H1) ha, hl, q _ (.d (.int _)) H1 t1 (show Dp _ _ _ _ from .int _) p1⟩

/-! ### f(e, *t), f a name that holds one of several defs -/
def tCallV (i : Nat) (fam : Addr → Sp → Prop) (t : TA) : TE := fun σ H Q => ∃ f sp, σ[i]? = some (some (.ref f)) ∧ fam f sp ∧ t σ H fun vs H1 => sp vs H1 Q (fun _ _ _ => False)
theorem pe_callV {X : Cx} {k i : Nat} {x : Str} {e : Expr} {es : List Expr} {t : TA} {p pos : Pos} {fam : Addr → Sp → Prop} (A : ∀ f sp, fam f sp → Held X.prog X.w X.K X.mg X.base k f sp) (hr : Room k X.A) (hN : X.N[i]? = some x) (hv : Vis X.env.scope x) (ha : PA X (e :: es) t)
    (hdb : (x == ("__debug__" : Str)) = false := by decide) (hcd : (x == ("__classdict__" : Str)) = false := by decide)
    (he : starEach (e :: es) X.env = (false, eval e X.env) :: starEach es X.env := by rfl) (hst : (backTo pos (starEach es X.env)).any (·.1) = true := by rfl) : PE X (.Call (.Name x p) (e :: es) [] pos) (tCallV i fam t) := by
  refine ⟨fun pins s σ H Q I ⟨f, sp, hs, hf, ht⟩ => ?_⟩
  obtain ⟨fd, ps, F, hk, hb⟩ := (A f sp hf).ex
  refine wpAny_Call_Name_kw (thn ((pe_var (pos := p) hN hv hdb hcd).run pins s σ H (fun v H1 => v = .ref f ∧ H1 = H) I ⟨.ref f, hs, rfl, rfl⟩) fun u s1 ⟨v, H1, I1, r1, ev, eH⟩ => ?_)
  subst ev eH
  cases r1
  refine PySem.W.callWith_S2 (h₀ := X.base) I.ok.mod.kin hk (thn (ha.run pos pins s1 σ _ _ I1 ht) fun us s2 ⟨vs, H2, I2, r, q⟩ => ⟨I2.kIn, ?_⟩) he hst
  refine run_fn (E := fun _ _ _ => False) (dvs := []) F hr hb .nil (fun _ _ _ _ _ _ _ z => z.elim) I2 r ?_
  rw [List.append_nil]
  exact q
section
variable {K : PySem.W.Frag} {S : Side} {ρ : Rho}
theorem ev_callV {i : Nat} {f : Addr} {ok : Side → Prop} {spec : Spec} {fam : Addr → Sp → Prop} {ta : TA} {P : DV → Prop} (hok : ok S) (h0 : ρ[i]? = some (some (.v (.ref f)))) (hf : fam f (spD K ok spec)) (h : EvA K S ta ρ fun xs => spec S xs P) : Ev K S (tCallV i fam ta) ρ P := fun σ H hi he Q q => by
  obtain ⟨v, e1, e2⟩ := he.get i _ h0
  obtain rfl : v = .ref f := e2
  exact ⟨f, _, e1, hf, h σ H hi he _ fun vs xs H1 t1 i1 p1 => ⟨S, xs, P, hok, t1.inv, i1, p1, fun v x H2 t2 i2 p2 => q v x H2 (t1.trans t2) i2 p2⟩⟩
theorem AllIs.app {M : Hp} : ∀ {vs ws : List V} {xs ys : List DV}, AllIs K M vs xs → AllIs K M ws ys → AllIs K M (vs ++ ws) (xs ++ ys)
  | [], _, [], _, _, h => h
  | _ :: _, _, _ :: _, _, h, g => ⟨h.1, AllIs.app h.2 g⟩
  | [], _, _ :: _, _, h, _ => h.elim
  | _ :: _, _, [], _, h, _ => h.elim
theorem AllIs.of_data {M : Hp} : ∀ {vs : List V} {ds : List PyData}, DpAll K M vs ds → AllIs K M vs (ds.map DV.d)
  | _, [], h => by cases h; trivial
  | _, d :: ds, h => by
    cases h with
    | cons h1 h2 => exact ⟨h1, AllIs.of_data h2⟩
theorem ea_star {te : TE} {t : TA} {PA : List DV → Prop} (h : Ev K S te ρ fun x => ∃ ds, (x = .d (.tuple ds) ∨ x = .d (.list ds)) ∧ EvA K S t ρ fun ys => PA (ds.map DV.d ++ ys)) : EvA K S (StX.tStar K te t) ρ PA := fun σ H hi he Q q =>
  h σ H hi he _ fun v x H1 t1 i1 p1 => by
    obtain ⟨ds, ex, p1⟩ := p1
    rcases ex with rfl | rfl
    · obtain ⟨a, xs, rfl, ha, da⟩ := dp_tup i1
      exact ⟨a, xs, rfl, .inl (ex_sqt (view_ex S H1) ha), p1 σ H1 t1.inv (he.mono t1.ex) _ fun ws ys H2 t2 i2 p2 => q _ _ H2 (t1.trans t2) ((AllIs.of_data (dpAll_mono t2.ex _ _ da)).app i2) p2⟩
    · obtain ⟨a, xs, rfl, ha, da⟩ := dp_lst i1
      exact ⟨a, xs, rfl, .inr (ex_sql (view_ex S H1) ha), p1 σ H1 t1.inv (he.mono t1.ex) _ fun ws ys H2 t2 i2 p2 => q _ _ H2 (t1.trans t2) ((AllIs.of_data (dpAll_mono t2.ex _ _ da)).app i2) p2⟩
end
end Tw
/-! more big steps; data that are keys -/
namespace Tw
open PySem PySem.Spec PyProof.Rows L2
section
variable {K : PySem.W.Frag} {S : Side} {ρ : Rho}
theorem run_par {i j : Nat} {ta : TA} {P : Out → Prop} (h : EvA K S ta ρ fun xs => ∃ x y, xs = [x, y] ∧ P (.nx ((ρ.set i (some x)).set j (some y)))) : Run K S (tPar i j ta) ρ P := fun σ H hi he D q1 _ _ _ =>
  h σ H hi he _ fun vs xs H1 t1 i1 p1 => by
    obtain ⟨x, y, rfl, p⟩ := p1
    match vs, i1 with
    | [v, w], i1 => exact ⟨v, w, rfl, q1 _ _ H1 t1 (((he.mono t1.ex).set i i1.1).set j i1.2.1) p⟩
theorem ev_neg {ta : TE} {P : DV → Prop} (h : Ev K S ta ρ fun x => ∃ i : Int, x = .d (.int i) ∧ P (.d (.int (-i)))) : Ev K S (tUn (rU fun i => .int (-i)) ta) ρ P := fun σ H hi he Q q =>
  h σ H hi he _ fun v x H1 t1 i1 p1 => by
    obtain ⟨i, rfl, p⟩ := p1
    cases dp_d i1
    exact ⟨i, rfl, q _ (.d (.int _)) H1 t1 (show Dp _ _ _ _ from .int _) p⟩
/-! slices -/
def EvO (K : PySem.W.Frag) (S : Side) (to : TO) (ρ : Rho) (P : Option Int → Prop) : Prop := ∀ σ H, S.inv H → EnvOk K (S.view H) σ ρ → ∀ Q : Option Int → Hp → Prop, (∀ o H2, S.To H H2 → P o → Q o H2) → to σ H Q
theorem eo_none {P : Option Int → Prop} (p : P none) : EvO K S tNoPart ρ P := fun σ H hi he Q q => q none H (.refl hi) p
theorem eo_some {te : TE} {P : Option Int → Prop} (h : Ev K S te ρ fun x => ∃ i : Int, x = .d (.int i) ∧ P (some i)) : EvO K S (tPart te) ρ P := fun σ H hi he Q q =>
  h σ H hi he _ fun v x H1 t1 i1 p1 => by
    obtain ⟨i, rfl, p⟩ := p1
    cases dp_d i1
    exact ⟨i, rfl, q _ H1 t1 p⟩
def cutD (ds : List PyData) (lo hi : Option Int) : List PyData := (ds.drop (HT.sIx ds.length 0 lo)).take (HT.sIx ds.length ds.length hi - HT.sIx ds.length 0 lo)
theorem cut_data {M : Hp} {vs : List V} {ds : List PyData} (h : DpAll K M vs ds) (lo hi : Option Int) : DpAll K M (cutV vs lo hi) (cutD ds lo hi) := by
  unfold cutV cutD
  rw [dpa_len h]
  exact dpa_take _ (dpa_drop _ h)
theorem cut_all {ds : List PyData} {lo hi : Option Int} (h : HT.sIx ds.length 0 lo = 0 ∧ HT.sIx ds.length ds.length hi = ds.length) : cutD ds lo hi = ds := by
  unfold cutD
  rw [h.1, h.2, List.drop_zero, Nat.sub_zero, List.take_length]
theorem ev_slT {te : TE} {tl th : TO} {P : DV → Prop} (h : Ev K S te ρ fun x => ∃ ds, x = .d (.tuple ds) ∧ EvO K S tl ρ fun lo => EvO K S th ρ fun hi => P (.d (.tuple (cutD ds lo hi)))) : Ev K S (L2.tSl (rSlA K) te tl th) ρ P := fun σ H hi he Q q =>
  h σ H hi he _ fun v x H1 t1 i1 p1 => by
    obtain ⟨ds, rfl, p1⟩ := p1
    refine p1 σ H1 t1.inv (he.mono t1.ex) _ fun lo H2 t2 p2 => p2 σ H2 t2.inv (he.mono (t1.trans t2).ex) _ fun hi' H3 t3 p3 => ?_
    have t13 := (t1.trans t2).trans t3
    have i3 := Is.mono (t2.trans t3).ex i1
    obtain ⟨a, vs, rfl, ha, da⟩ := dp_tup i3
    have el := dpa_len da
    refine ⟨a, vs, rfl, ex_sqt (view_ex S H3) ha, fun hw => ?_, fun hw p' o np nd => ?_⟩
    · rw [el] at hw
      have p3 : P (.d (.tuple (cutD ds lo hi'))) := p3
      rw [cut_all hw] at p3
      exact q _ (.d (.tuple ds)) H3 t13 i3 p3
    · have t4 := Side.To.new (S := S) (o := .frz o (.tup (cutV vs lo hi'))) t3.inv np
      exact q _ (.d (.tuple (cutD ds lo hi'))) _ (t13.trans t4) (.tup (.inl (.inr ⟨o, view_new t3.inv np⟩)) (dpAll_mono t4.ex _ _ (cut_data da lo hi')) fun _ => .inl ⟨o, _, view_new t3.inv np, nd⟩) p3
theorem ev_slL {te : TE} {tl th : TO} {P : DV → Prop} (h : Ev K S te ρ fun x => ∃ ds, x = .d (.list ds) ∧ EvO K S tl ρ fun lo => EvO K S th ρ fun hi => P (.d (.list (cutD ds lo hi)))) : Ev K S (L2.tSl (rSlL K) te tl th) ρ P := fun σ H hi he Q q =>
  h σ H hi he _ fun v x H1 t1 i1 p1 => by
    obtain ⟨ds, rfl, p1⟩ := p1
    refine p1 σ H1 t1.inv (he.mono t1.ex) _ fun lo H2 t2 p2 => p2 σ H2 t2.inv (he.mono (t1.trans t2).ex) _ fun hi' H3 t3 p3 => ?_
    have t13 := (t1.trans t2).trans t3
    obtain ⟨a, vs, rfl, ha, da⟩ := dp_lst (Is.mono (t2.trans t3).ex i1)
    refine ⟨a, vs, rfl, ex_sql (view_ex S H3) ha, fun p' np => ?_⟩
    have t4 := Side.To.new (S := S) (o := .lst (cutV vs lo hi')) t3.inv np
    exact q _ (.d (.list (cutD ds lo hi'))) _ (t13.trans t4) (.lst (.inl (.inl (view_new t3.inv np))) (dpAll_mono t4.ex _ _ (cut_data da lo hi'))) p3
/-! len of a text -/
def rLenS : List V → Hp → VK → Prop := fun xs H Q => ∃ z : Str, xs = [.str z] ∧ z.length ≤ sizeLine ∧ Q (.int z.length) H
theorem call_lenS {X : Cx} : CallR X (.builtin "len") rLenS := fun pins s σ H xs us Q I r h => by
  obtain ⟨z, rfl, hz, q⟩ := h
  exact call_len pins s σ H _ us Q I r ⟨.str z, z.length, rfl, ⟨hz, rfl⟩, q⟩
theorem ec_lenS {z : Str} {P : DV → Prop} (hz : z.length ≤ sizeLine) (p : P (.d (.int (z.length : Nat)))) : EvC K S rLenS [.d (.str z)] P := fun vs H hi hv Q q => by
  match vs, hv with
  | [v], hv =>
    cases dp_d hv.1
    exact ⟨z, rfl, hz, q _ (.d (.int _)) H (.refl hi) (show Dp _ _ _ _ from .int _) p⟩
/-! keys compared -/
theorem key_inj {a b : NKey} (h : keyD a = keyD b) : a = b := by
  match a, b, h with
  | none, none, _ => rfl
  | none, some (.inl _), h => exact nomatch h
  | none, some (.inr _), h => exact nomatch h
  | some (.inl _), none, h => exact nomatch h
  | some (.inl i), some (.inl j), h =>
    injection (show PyData.int i = PyData.int j from h) with h
    rw [h]
  | some (.inl _), some (.inr _), h => exact nomatch h
  | some (.inr _), none, h => exact nomatch h
  | some (.inr _), some (.inl _), h => exact nomatch h
  | some (.inr i), some (.inr j), h =>
    injection (show PyData.str i = PyData.str j from h) with h
    rw [h]
theorem eqv_key (a b : NKey) : PyData.eqv (keyD a) (keyD b) = decide (a = b) := by
  match a, b with
  | none, none => simp [keyD, PyData.eqv]
  | none, some (.inl _) => simp [keyD, PyData.eqv]
  | none, some (.inr _) => simp [keyD, PyData.eqv]
  | some (.inl _), none => simp [keyD, PyData.eqv]
  | some (.inl i), some (.inl j) =>
    rw [show keyD (some (.inl i)) = .int i from rfl, show keyD (some (.inl j)) = .int j from rfl, eqv_int, Bool.eq_iff_iff, beq_iff_eq, decide_eq_true_iff]
    exact ⟨fun z => by rw [z], fun z => by injection z with z; injection z⟩
  | some (.inl _), some (.inr _) => simp [keyD, PyData.eqv]
  | some (.inr _), none => simp [keyD, PyData.eqv]
  | some (.inr _), some (.inl _) => simp [keyD, PyData.eqv]
  | some (.inr i), some (.inr j) =>
    rw [show keyD (some (.inr i)) = .str i from rfl, show keyD (some (.inr j)) = .str j from rfl, eqv_str, Bool.eq_iff_iff, beq_iff_eq, decide_eq_true_iff]
    exact ⟨fun z => by rw [z], fun z => by injection z with z; injection z⟩
theorem key_depth (k : NKey) : (keyD k).depth = 0 := by
  match k with
  | none => exact depth_none
  | some (.inl i) => exact depth_int i
  | some (.inr z) => exact depth_str z
theorem e2_eqK {a b : NKey} {P : DV → Prop} (p : P (.d (.bool (decide (a = b))))) : Ev2 K S (rEqP K) (.d (keyD a)) (.d (keyD b)) P := e2_eq (by rw [key_depth]; exact Nat.le_trans (Nat.min_le_left _ _) (by decide)) (by rw [eqv_key]; exact p)
theorem e2_neK {a b : NKey} {P : DV → Prop} (p : P (.d (.bool (!decide (a = b))))) : Ev2 K S (rNeP K) (.d (keyD a)) (.d (keyD b)) P := e2_ne (by rw [key_depth]; exact Nat.le_trans (Nat.min_le_left _ _) (by decide)) (by rw [eqv_key]; exact p)
theorem e2_eqKR {a : NKey} {z : Str} {P : DV → Prop} (p : P (.d (.bool (decide (a = some (.inr z)))))) : Ev2 K S (rEqP K) (.d (keyD a)) (.d (.str z)) P := e2_eqK (b := some (.inr z)) p
theorem e2_neKR {a : NKey} {z : Str} {P : DV → Prop} (p : P (.d (.bool (!decide (a = some (.inr z)))))) : Ev2 K S (rNeP K) (.d (keyD a)) (.d (.str z)) P := e2_neK (b := some (.inr z)) p
def inK (d : NKey) (ks : List NKey) : Bool := ks.any fun k => decide (k = d)
theorem any_keys (d : NKey) : ∀ ks : List NKey, ((ks.map keyD).any fun z => PyData.eqv z (keyD d)) = inK d ks
  | [] => rfl
  | k :: ks => by
    have ih := any_keys d ks
    show (PyData.eqv (keyD k) (keyD d) || (ks.map keyD).any fun z => PyData.eqv z (keyD d)) = (decide (k = d) || inK d ks)
    rw [ih, eqv_key]
/-- k in (.., ..): keys among keys -/
theorem e2_inKT {d : NKey} {ks : List NKey} {P : DV → Prop} (p : P (.d (.bool (inK d ks)))) : Ev2 K S (rInP K false) (.d (keyD d)) (.d (.tuple (ks.map keyD))) P := e2_inT (neg := false) (by rw [key_depth]; decide) (by
  show P (.d (.bool ((ks.map keyD).any fun z => PyData.eqv z (keyD d))))
  rw [any_keys]
  exact p)
theorem any_strs (d : Str) : ∀ ks : List Str, ((sD ks).any fun z => PyData.eqv z (.str d)) = decide (d ∈ ks)
  | [] => rfl
  | k :: ks => by
    have ih := any_strs d ks
    rw [sD, List.map_cons, List.any_cons]
    rw [sD] at ih
    rw [ih, eqv_str, Bool.eq_iff_iff, Bool.or_eq_true, decide_eq_true_iff, decide_eq_true_iff, List.mem_cons, beq_iff_eq]
    exact ⟨fun z => z.imp Eq.symm id, fun z => z.imp Eq.symm id⟩
theorem e2_inST {d : Str} {ks : List Str} {P : DV → Prop} (p : P (.d (.bool (decide (d ∈ ks))))) : Ev2 K S (rInP K false) (.d (.str d)) (.d (tupS ks)) P := e2_inT (neg := false) (by rw [depth_str]; decide) (by
  show P (.d (.bool ((sD ks).any fun z => PyData.eqv z (.str d))))
  rw [any_strs]
  exact p)
theorem e2_inSL {d : Str} {ks : List Str} {P : DV → Prop} (p : P (.d (.bool (decide (d ∈ ks))))) : Ev2 K S (rInP K false) (.d (.str d)) (.d (lstS ks)) P := e2_inL (neg := false) (by rw [depth_str]; decide) (by
  show P (.d (.bool ((sD ks).any fun z => PyData.eqv z (.str d))))
  rw [any_strs]
  exact p)
theorem e2_ninST {d : Str} {ks : List Str} {P : DV → Prop} (p : P (.d (.bool (!decide (d ∈ ks))))) : Ev2 K S (rInP K true) (.d (.str d)) (.d (tupS ks)) P := e2_inT (neg := true) (by rw [depth_str]; decide) (by
  show P (.d (.bool (!((sD ks).any fun z => PyData.eqv z (.str d)))))
  rw [any_strs]
  exact p)
theorem e2_ninSL {d : Str} {ks : List Str} {P : DV → Prop} (p : P (.d (.bool (!decide (d ∈ ks))))) : Ev2 K S (rInP K true) (.d (.str d)) (.d (lstS ks)) P := e2_inL (neg := true) (by rw [depth_str]; decide) (by
  show P (.d (.bool (!((sD ks).any fun z => PyData.eqv z (.str d)))))
  rw [any_strs]
  exact p)
theorem eqv_strs (x y : Str) : PyData.eqv (.str x) (.str y) = decide (x = y) := by
  rw [eqv_str, Bool.eq_iff_iff, beq_iff_eq, decide_eq_true_iff]
theorem e2_eqS {x y : Str} {P : DV → Prop} (p : P (.d (.bool (decide (x = y))))) : Ev2 K S (rEqP K) (.d (.str x)) (.d (.str y)) P := e2_eq (by rw [depth_str]; exact Nat.le_trans (Nat.min_le_left _ _) (by decide)) (by rw [eqv_strs]; exact p)
theorem e2_neS {x y : Str} {P : DV → Prop} (p : P (.d (.bool (!decide (x = y))))) : Ev2 K S (rNeP K) (.d (.str x)) (.d (.str y)) P := e2_ne (by rw [depth_str]; exact Nat.le_trans (Nat.min_le_left _ _) (by decide)) (by rw [eqv_strs]; exact p)
/-- a test whose answer is known -/
theorem bool_ways {b c : Bool} {A B : Prop} (e : b = c) (h : (c = true → A) ∧ (c = false → B)) : (b = true → A) ∧ (b = false → B) := by rw [e]; exact h
/-! loops -/
/-- an invariant of a for -/
theorem forW_inv {g : TG} {tb : TS} {P : Out → Prop} (I : Rho → Prop) {ρ : Rho} (h0 : I ρ) (hP : ∀ ρ', I ρ' → P (.nx ρ')) : ∀ (ds : List PyData), (∀ x ∈ ds, ∀ ρ (Q : Out → Prop), I ρ → (∀ ρ', I ρ' → Q (.nx ρ')) → EvG K S g (.d x) ρ fun ρ2 => Run K S tb ρ2 Q) → forW K S g tb ds ρ P
  | [], _ => hP ρ h0
  | x :: xs, h => h x List.mem_cons_self ρ _ h0 fun ρ' h' => forW_inv I h' hP xs fun y hy => h y (List.mem_cons_of_mem _ hy)
/-- a for that leaves by return at the first item of which f is true, else goes through -/
theorem forW_find {g : TG} {tb : TS} {P : Out → Prop} (I : Rho → Prop) {f : PyData → Bool} {r : PyData → DV} {ρ : Rho} (h0 : I ρ) : ∀ (ds : List PyData), (∀ x ∈ ds, ∀ ρ (Q : Out → Prop), I ρ → (f x = true → Q (.rt (r x))) → (f x = false → ∀ ρ', I ρ' → Q (.nx ρ')) → EvG K S g (.d x) ρ fun ρ2 => Run K S tb ρ2 Q) →
    (∀ x, ds.find? f = some x → P (.rt (r x))) → (ds.find? f = none → ∀ ρ', I ρ' → P (.nx ρ')) → forW K S g tb ds ρ P
  | [], _, _, hn => hn rfl ρ h0
  | x :: xs, h, hs, hn => by
    refine forW_cons (h x List.mem_cons_self ρ _ h0 (fun e => hs x (by rw [List.find?_cons, e])) fun e ρ' h' => ?_)
    have e2 : (x :: xs).find? f = xs.find? f := by rw [List.find?_cons, e]
    rw [e2] at hs hn
    exact forW_find I h' xs (fun y hy => h y (List.mem_cons_of_mem _ hy)) hs hn
/-- a comprehension, each of whose items is I -/
theorem lcW_each {j : Nat} {te : TE} {kc : List PyData → Prop} (I : PyData → Prop) : ∀ (xs acc : List PyData), (∀ x ∈ xs, ∀ (P' : DV → Prop), (∀ d, I d → P' (.d d)) → Ev K S te (ρ.set j (some (.d x))) P') → (∀ d ∈ acc, I d) → (∀ out : List PyData, out.length = acc.length + xs.length → (∀ d ∈ out, I d) → kc out) → lcW K S ρ j tYes te xs acc kc
  | [], acc, _, ha, k => k acc (by simp) ha
  | x :: xs, acc, h, ha, k => et_yes ⟨fun _ => h x List.mem_cons_self _ fun d hd => ⟨d, rfl, lcW_each I xs _ (fun y hy => h y (List.mem_cons_of_mem _ hy)) (fun e he => (List.mem_append.mp he).elim (ha e) fun q => by rw [List.mem_singleton.mp q]; exact hd) fun out ho => k out (by rw [ho, List.length_append, List.length_singleton, List.length_cons]; omega)⟩, fun z => nomatch z⟩
/-- a comprehension that maps by f -/
theorem lcW_map {j : Nat} {te : TE} {f : PyData → PyData} : ∀ (xs acc : List PyData) {kc : List PyData → Prop}, (∀ x ∈ xs, ∀ (P' : DV → Prop), P' (.d (f x)) → Ev K S te (ρ.set j (some (.d x))) P') → kc (acc ++ xs.map f) → lcW K S ρ j tYes te xs acc kc
  | [], acc, kc, _, k => by
    rw [List.map_nil, List.append_nil] at k
    exact k
  | x :: xs, acc, kc, h, k => et_yes ⟨fun _ => h x List.mem_cons_self _ ⟨f x, rfl, lcW_map xs _ (fun y hy => h y (List.mem_cons_of_mem _ hy)) (by rw [List.append_assoc]; exact k)⟩, fun z => nomatch z⟩
/-- [.. for a in .. for b in ..]: turns that add what f tells -/
theorem inW_map {j : Nat} {te : TE} {f : PyData → PyData} {B : Nat} (hB : B < sizeLine) : ∀ (xs acc : List PyData) {kc : List PyData → Prop}, (∀ x ∈ xs, ∀ (P' : DV → Prop), P' (.d (f x)) → Ev K S te (ρ.set j (some (.d x))) P') → acc.length + xs.length ≤ B → kc (acc ++ xs.map f) → inW K S ρ j tYes te xs acc kc
  | [], acc, kc, _, _, k => by
    rw [List.map_nil, List.append_nil] at k
    exact k
  | x :: xs, acc, kc, h, hl, k => by
    rw [List.length_cons] at hl
    exact et_yes ⟨fun _ => h x List.mem_cons_self _ ⟨f x, rfl, by omega, inW_map hB xs _ (fun y hy => h y (List.mem_cons_of_mem _ hy)) (by rw [List.length_append, List.length_singleton]; omega) (by rw [List.append_assoc]; exact k)⟩, fun z => nomatch z⟩
theorem lc2W_flat {j j1 : Nat} {wi1 : TI} {vs1 : List Nat} {te : TE} {f : PyData → List PyData} {B : Nat} : ∀ (xs acc : List PyData) {kc : List PyData → Prop},
    (∀ x ∈ xs, ∀ (acc : List PyData) (kc : List PyData → Prop), acc.length + (f x).length ≤ B → kc (acc ++ f x) → EvI K S wi1 (ρ.set j (some (.d x))) fun es => inW K S (wipeR (ρ.set j (some (.d x))) vs1) j1 tYes te es acc kc) → acc.length + (xs.flatMap f).length ≤ B → kc (acc ++ xs.flatMap f) → lc2W K S ρ j tYes wi1 j1 vs1 tYes te xs acc kc
  | [], acc, kc, _, _, k => by
    rw [List.flatMap_nil, List.append_nil] at k
    exact k
  | x :: xs, acc, kc, h, hl, k => by
    rw [List.flatMap_cons, List.length_append] at hl
    refine et_yes ⟨fun _ => h x List.mem_cons_self acc _ (by omega) ?_, fun z => nomatch z⟩
    refine lc2W_flat xs _ (fun y hy => h y (List.mem_cons_of_mem _ hy)) (by rw [List.length_append]; omega) ?_
    rw [List.flatMap_cons] at k
    rw [List.append_assoc]
    exact k
end
end Tw
/-! the mathematics of ways and promises, told of keys; no program here -/
namespace Tw
open PySem PySem.Spec PyProof.Rows L2
/-! ### values and ways -/
def isValue : PyData → Bool
  | .none => true
  | .int i => decide (0 ≤ i ∧ i ≤ 999)
  | _ => false
def wordsL : List (List Str) := [["base", "refuse"], ["base", "mine", "refuse"], ["base", "refuse", "yours"], ["base", "mine", "refuse"], ["base", "mine", "refuse", "yours"]]
def wordsD : PyData := .tuple (wordsL.map tupS)
def inTup (d e : PyData) : Bool := match e with
  | .tuple es => es.any fun z => PyData.eqv z d
  | _ => false
def isWay : PyData → Bool
  | .tuple ds => ds.length == 5 && ((ds.zip (wordsL.map tupS)).all fun p => inTup p.1 p.2)
  | _ => false
theorem isWay_tup (ds : List PyData) : isWay (.tuple ds) = (ds.length == 5 && ((ds.zip (wordsL.map tupS)).all fun p => inTup p.1 p.2)) := rfl
theorem depth_mem {ds : List PyData} {d : PyData} (h : d ∈ ds) : d.depth ≤ PyData.depthAll ds := by
  induction ds with
  | nil => cases h
  | cons x xs ih =>
    simp only [PyData.depthAll]
    rcases List.mem_cons.mp h with e | e
    · rw [e]; omega
    · have := ih e; omega
structure Way5 where
  a : Str
  b : Str
  c : Str
  d : Str
  e : Str
abbrev Way5.D (w : Way5) : PyData := tupS [w.a, w.b, w.c, w.d, w.e]
theorem way_depth (w : Way5) : w.D.depth ≤ 50 := by simp [Way5.D, PyData.depth, PyData.depthAll]
theorem way_eqv (w : Way5) : PyData.eqv w.D w.D = true := by simp [Way5.D, tupS, sD, PyData.eqv, PyData.eqvAll]
def refN : NKey := some (.inr "refused")
def pickN (z : Str) (b m y : NKey) : NKey := if z = "base" then b else if z = "mine" then m else if z = "yours" then y else refN
def ixN (b m y : NKey) : Nat := if m = b then (if y = b then 0 else 2) else if y = b then 1 else if m = y then 3 else 4
def Way5.at (w : Way5) (i : Nat) : Str := if i = 0 then w.a else if i = 1 then w.b else if i = 2 then w.c else if i = 3 then w.d else w.e
def mergeN (w : Way5) (x m y : NKey) : NKey := pickN (w.at (ixN x m y)) x m y
def outN (w : Way5) (x m y : NKey) : NKey := if inK refN [x, m, y] = true then refN else mergeN w x m y
theorem at_way (w : Way5) (i : Nat) (h : i < 5) : atI (sD [w.a, w.b, w.c, w.d, w.e]) (i : Int) = some (.str (w.at i)) := by
  refine atI_nat ?_
  match i, h with
  | 0, _ => rfl
  | 1, _ => rfl
  | 2, _ => rfl
  | 3, _ => rfl
  | 4, _ => rfl
theorem ixN_lt (b m y : NKey) : ixN b m y < 5 := by
  unfold ixN
  split
  · split <;> decide
  · split
    · decide
    · split <;> decide
def V4 (x : Str) : Prop := x = "base" ∨ x = "mine" ∨ x = "yours" ∨ x = "refuse"
def Way5.V (w : Way5) : Prop := V4 w.a ∧ V4 w.b ∧ V4 w.c ∧ V4 w.d ∧ V4 w.e
theorem V4_at {w : Way5} (h : w.V) (i : Nat) : V4 (w.at i) := by
  obtain ⟨h1, h2, h3, h4, h5⟩ := h
  unfold Way5.at
  split
  · exact h1
  · split
    · exact h2
    · split
      · exact h3
      · split
        · exact h4
        · exact h5
theorem look4 {x : Str} (h : V4 x) (b m y : NKey) : lookD [(.inr "base", keyD b), (.inr "mine", keyD m), (.inr "yours", keyD y), (.inr "refuse", .str "refused")] (.inr x) = some (keyD (pickN x b m y)) := by
  rcases h with rfl | rfl | rfl | rfl
  · rfl
  · rfl
  · rfl
  · rfl
theorem eqv_nil (l : List PyData) : PyData.eqv (.list l) (.list []) = l.isEmpty := by
  cases l <;> simp [PyData.eqv, PyData.eqvAll]
def turnS (z : Str) : Str := if z = "mine" then "yours" else if z = "yours" then "mine" else z
def Way5.turn (w : Way5) : Way5 := ⟨w.a, turnS w.c, turnS w.b, w.d, turnS w.e⟩
/-- the keys of values -/
def valN : NKey → Prop
  | none => True
  | some (.inl i) => 0 ≤ i ∧ i ≤ 999
  | some (.inr _) => False
theorem val_key {d : PyData} (h : isValue d = true) : ∃ k, d = keyD k ∧ valN k := by
  cases d with
  | none => exact ⟨none, rfl, trivial⟩
  | int i => exact ⟨some (.inl i), rfl, of_decide_eq_true (p := 0 ≤ i ∧ i ≤ 999) h⟩
  | bool b => exact nomatch (show false = true from h)
  | str z => exact nomatch (show false = true from h)
  | list l => exact nomatch (show false = true from h)
  | tuple l => exact nomatch (show false = true from h)
  | dict l => exact nomatch (show false = true from h)
theorem key_val : ∀ {k : NKey}, valN k → isValue (keyD k) = true
  | none, _ => rfl
  | some (.inl i), h => by
    have h' : 0 ≤ i ∧ i ≤ 999 := h
    show decide (0 ≤ i ∧ i ≤ 999) = true
    exact decide_eq_true h'
  | some (.inr _), h => h.elim
theorem val_ref {k : NKey} (h : valN k) : k ≠ refN := fun e => by
  rw [e] at h
  exact h
theorem out_merge {w : Way5} {x m y : NKey} (hx : x ≠ refN) (hm : m ≠ refN) (hy : y ≠ refN) : outN w x m y = mergeN w x m y := by
  unfold outN
  rw [if_neg]
  simp [inK, hx, hm, hy]
/-! ### all ways, by codes -/
def allWays : List (List Str) := wordsL.foldl waysStep [[]]
abbrev Code5 := Nat × Nat × Nat × Nat × Nat
def wordC : Nat → Str
  | 0 => "base"
  | 1 => "mine"
  | 2 => "yours"
  | _ => "refuse"
def waysC : List Code5 := [0, 3].flatMap fun a => [0, 1, 3].flatMap fun b => [0, 3, 2].flatMap fun c => [0, 1, 3].flatMap fun d => [0, 1, 3, 2].map fun e => (a, b, c, d, e)
def wayC (c : Code5) : Way5 := ⟨wordC c.1, wordC c.2.1, wordC c.2.2.1, wordC c.2.2.2.1, wordC c.2.2.2.2⟩
def Way5.L (w : Way5) : List Str := [w.a, w.b, w.c, w.d, w.e]
theorem ways_codes : allWays = waysC.map fun c => (wayC c).L := by decide +kernel
theorem ways_len : allWays.length = 216 := by decide +kernel
theorem wordC_V (n : Nat) : V4 (wordC n) := by
  match n with
  | 0 => exact .inl rfl
  | 1 => exact .inr (.inl rfl)
  | 2 => exact .inr (.inr (.inl rfl))
  | _ + 3 => exact .inr (.inr (.inr rfl))
theorem wayC_V (c : Code5) : (wayC c).V := ⟨wordC_V _, wordC_V _, wordC_V _, wordC_V _, wordC_V _⟩
theorem waysC_ok : (waysC.all fun c => isWay (wayC c).D && isWay (wayC c).turn.D && (c.1 == 0 || c.1 == 3) && (c.2.2.2.1 == 0 || c.2.2.2.1 == 1 || c.2.2.2.1 == 3)) = true := by decide +kernel
/-- a way: the five words that a code tells -/
def isW (w : Way5) : Prop := ∃ c ∈ waysC, w = wayC c
theorem way_of {d : PyData} (h : d ∈ allWays.map tupS) : ∃ w, d = w.D ∧ isW w := by
  rw [ways_codes, List.map_map] at h
  obtain ⟨c, hc, rfl⟩ := List.mem_map.mp h
  exact ⟨wayC c, rfl, c, hc, rfl⟩
theorem isW.V {w : Way5} (h : isW w) : w.V := by
  obtain ⟨c, _, rfl⟩ := h
  exact wayC_V c
theorem isW.way {w : Way5} (h : isW w) : isWay w.D = true := by
  obtain ⟨c, hc, rfl⟩ := h
  have q := List.all_eq_true.mp waysC_ok c hc
  simp only [Bool.and_eq_true] at q
  exact q.1.1.1
theorem isW.turnWay {w : Way5} (h : isW w) : isWay w.turn.D = true := by
  obtain ⟨c, hc, rfl⟩ := h
  have q := List.all_eq_true.mp waysC_ok c hc
  simp only [Bool.and_eq_true] at q
  exact q.1.1.2
theorem isW.a2 {w : Way5} (h : isW w) : w.a = "base" ∨ w.a = "refuse" := by
  obtain ⟨c, hc, rfl⟩ := h
  have q := List.all_eq_true.mp waysC_ok c hc
  simp only [Bool.and_eq_true, Bool.or_eq_true, beq_iff_eq] at q
  rcases q.1.2 with e | e
  · exact .inl (by show wordC c.1 = _; rw [e]; rfl)
  · exact .inr (by show wordC c.1 = _; rw [e]; rfl)
theorem isW.d3 {w : Way5} (h : isW w) : w.d = "base" ∨ w.d = "mine" ∨ w.d = "refuse" := by
  obtain ⟨c, hc, rfl⟩ := h
  have q := List.all_eq_true.mp waysC_ok c hc
  simp only [Bool.and_eq_true, Bool.or_eq_true, beq_iff_eq] at q
  rcases q.2 with (e | e) | e
  · exact .inl (by show wordC c.2.2.2.1 = _; rw [e]; rfl)
  · exact .inr (.inl (by show wordC c.2.2.2.1 = _; rw [e]; rfl))
  · exact .inr (.inr (by show wordC c.2.2.2.1 = _; rw [e]; rfl))
theorem turn_turn {z : Str} : turnS (turnS z) = z := by
  unfold turnS
  by_cases h1 : z = "mine"
  · subst h1
    decide
  · by_cases h2 : z = "yours"
    · subst h2
      decide
    · rw [if_neg h1, if_neg h2, if_neg h1, if_neg h2]
theorem way_turn2 (w : Way5) : w.turn.turn = w := by
  unfold Way5.turn
  rw [turn_turn, turn_turn, turn_turn]
theorem pick_turn {z : Str} (h : V4 z) (x m y : NKey) : pickN (turnS z) x y m = pickN z x m y := by
  rcases h with rfl | rfl | rfl | rfl
  · rfl
  · rfl
  · rfl
  · rfl
theorem merge_turn {w : Way5} (h : isW w) (x m y : NKey) : mergeN w.turn x y m = mergeN w x m y := by
  obtain ⟨va, vb, vc, vd, ve⟩ := h.V
  unfold mergeN ixN
  by_cases h1 : m = x
  · by_cases h2 : y = x
    · subst h1 h2
      rw [if_pos rfl, if_pos rfl]
      rfl
    · rw [if_neg h2, if_pos h1, if_pos h1, if_neg h2]
      exact pick_turn vc x m y
  · by_cases h2 : y = x
    · rw [if_pos h2, if_neg h1, if_neg h1, if_pos h2]
      exact pick_turn vb x m y
    · rw [if_neg h2, if_neg h1, if_neg h1, if_neg h2]
      by_cases h3 : m = y
      · subst h3
        rw [if_pos rfl]
        rfl
      · rw [if_neg h3, if_neg (fun z => h3 z.symm)]
        exact pick_turn ve x m y
/-! ### the promises -/
def promL : List Str := ["again", "agreed", "ahead", "back", "chain", "fair", "made", "mine", "quiet", "steps", "told", "yours"]
def promN (i : Nat) : Str := promL.getD i ""
def cntN (i : Nat) : Nat := [3, 2, 3, 3, 4, 3, 3, 2, 1, 4, 3, 2].getD i 0
def letN (i : Nat) : Str := (["oab", "oa", "oab", "oab", "oabc", "oab", "oab", "oa", "o", "oabc", "oab", "ob"] : List Str).getD i ""
theorem letN_len : ∀ i : Nat, i < 12 → (letN i).length = cntN i := by decide +kernel
theorem promN_inj : ∀ i : Nat, i < 12 → ∀ j : Nat, j < 12 → promN i = promN j → i = j := by decide +kernel
theorem promL_map : promL = (List.range 12).map promN := by decide +kernel
theorem cntN_le : ∀ i : Nat, i < 12 → 1 ≤ cntN i ∧ cntN i ≤ 4 := by decide +kernel
/-- what the program asks of values -/
def holdsN : Nat → Way5 → List NKey → Bool
  | 0, w, [o, a, b] => decide (outN w o (mergeN w o a b) b = mergeN w o a b)
  | 1, w, [o, a] => decide (mergeN w o a a = a)
  | 2, w, [o, a, b] => inK o [a, b] || !decide (mergeN w o a b = o)
  | 3, w, [o, a, b] => decide (mergeN w o a b = refN) || decide (mergeN w a (mergeN w o a b) o = b)
  | 4, w, [o, a, b, c] => decide (outN w o (mergeN w o a b) c = outN w o a (mergeN w o b c))
  | 5, w, [o, a, b] => decide (mergeN w o a b = mergeN w o b a)
  | 6, w, [o, a, b] => !decide (mergeN w o a b = refN)
  | 7, w, [o, a] => decide (mergeN w o a o = a)
  | 8, w, [o] => decide (mergeN w o o o = o)
  | 9, w, [o, a, b, c] => decide (mergeN w o a b = refN) || decide (mergeN w b (mergeN w o a b) c = mergeN w o a c)
  | 10, w, [o, a, b] => inK o [a, b] || (decide (a = b) || decide (mergeN w o a b = refN))
  | 11, w, [o, b] => decide (mergeN w o o b = b)
  | _, _, _ => true
/-- what the law asks -/
def brokenN : Nat → Way5 → List NKey → Bool
  | 0, w, [o, a, b] => !decide (outN w o (outN w o a b) b = outN w o a b)
  | 1, w, [o, a] => !decide (outN w o a a = a)
  | 2, w, [o, a, b] => (!decide (o = a) && !decide (o = b)) && decide (outN w o a b = o)
  | 3, w, [o, a, b] => !decide (outN w o a b = refN) && !decide (outN w a (outN w o a b) o = b)
  | 4, w, [o, a, b, c] => !decide (outN w o (outN w o a b) c = outN w o a (outN w o b c))
  | 5, w, [o, a, b] => !decide (outN w o a b = outN w o b a)
  | 6, w, [o, a, b] => decide (outN w o a b = refN)
  | 7, w, [o, a] => !decide (outN w o a o = a)
  | 8, w, [o] => !decide (outN w o o o = o)
  | 9, w, [o, a, b, c] => !decide (outN w o a b = refN) && !decide (outN w b (outN w o a b) c = outN w o a c)
  | 10, w, [o, a, b] => (!decide (o = a) && !decide (o = b)) && (!decide (a = b) && !decide (outN w o a b = refN))
  | 11, w, [o, b] => !decide (outN w o o b = b)
  | _, _, _ => false
/-- on values, one is the other's opposite -/
theorem broken_holds {w : Way5} {i : Nat} {vs : List NKey} (hi : i < 12) (hl : vs.length = cntN i) (hv : ∀ k ∈ vs, k ≠ refN) : brokenN i w vs = !holdsN i w vs := by
  have go3 : ∀ (o a b : NKey), vs = [o, a, b] → o ≠ refN ∧ a ≠ refN ∧ b ≠ refN := fun o a b e => by
    rw [e] at hv
    exact ⟨hv o (by simp), hv a (by simp), hv b (by simp)⟩
  have go2 : ∀ (o a : NKey), vs = [o, a] → o ≠ refN ∧ a ≠ refN := fun o a e => by
    rw [e] at hv
    exact ⟨hv o (by simp), hv a (by simp)⟩
  have go4 : ∀ (o a b c : NKey), vs = [o, a, b, c] → o ≠ refN ∧ a ≠ refN ∧ b ≠ refN ∧ c ≠ refN := fun o a b c e => by
    rw [e] at hv
    exact ⟨hv o (by simp), hv a (by simp), hv b (by simp), hv c (by simp)⟩
  have ob : ∀ {o a b : NKey}, o ≠ refN → a ≠ refN → b ≠ refN → outN w o a b = mergeN w o a b := fun h1 h2 h3 => out_merge h1 h2 h3
  match i, hi with
  | 0, _ =>
    match vs, hl with
    | [o, a, b], _ =>
      obtain ⟨h1, h2, h3⟩ := go3 o a b rfl
      simp [brokenN, holdsN, ob h1 h2 h3]
  | 1, _ =>
    match vs, hl with
    | [o, a], _ =>
      obtain ⟨h1, h2⟩ := go2 o a rfl
      simp [brokenN, holdsN, ob h1 h2 h2]
  | 2, _ =>
    match vs, hl with
    | [o, a, b], _ =>
      obtain ⟨h1, h2, h3⟩ := go3 o a b rfl
      simp [brokenN, holdsN, inK, ob h1 h2 h3, eq_comm (a := o)]
  | 3, _ =>
    match vs, hl with
    | [o, a, b], _ =>
      obtain ⟨h1, h2, h3⟩ := go3 o a b rfl
      by_cases h : mergeN w o a b = refN
      · simp [brokenN, holdsN, ob h1 h2 h3, h]
      · simp [brokenN, holdsN, ob h1 h2 h3, h, ob h2 h h1]
  | 4, _ =>
    match vs, hl with
    | [o, a, b, c], _ =>
      obtain ⟨h1, h2, h3, h4⟩ := go4 o a b c rfl
      simp [brokenN, holdsN, ob h1 h2 h3, ob h1 h3 h4]
  | 5, _ =>
    match vs, hl with
    | [o, a, b], _ =>
      obtain ⟨h1, h2, h3⟩ := go3 o a b rfl
      simp [brokenN, holdsN, ob h1 h2 h3, ob h1 h3 h2]
  | 6, _ =>
    match vs, hl with
    | [o, a, b], _ =>
      obtain ⟨h1, h2, h3⟩ := go3 o a b rfl
      simp [brokenN, holdsN, ob h1 h2 h3]
  | 7, _ =>
    match vs, hl with
    | [o, a], _ =>
      obtain ⟨h1, h2⟩ := go2 o a rfl
      simp [brokenN, holdsN, ob h1 h2 h1]
  | 8, _ =>
    match vs, hl with
    | [o], _ =>
      have h1 : o ≠ refN := hv o (by simp)
      simp [brokenN, holdsN, ob h1 h1 h1]
  | 9, _ =>
    match vs, hl with
    | [o, a, b, c], _ =>
      obtain ⟨h1, h2, h3, h4⟩ := go4 o a b c rfl
      by_cases h : mergeN w o a b = refN
      · simp [brokenN, holdsN, ob h1 h2 h3, h]
      · simp [brokenN, holdsN, ob h1 h2 h3, h, ob h3 h h4, ob h1 h2 h4]
  | 10, _ =>
    match vs, hl with
    | [o, a, b], _ =>
      obtain ⟨h1, h2, h3⟩ := go3 o a b rfl
      simp [brokenN, holdsN, inK, ob h1 h2 h3, eq_comm (a := o), Bool.and_assoc]
  | 11, _ =>
    match vs, hl with
    | [o, b], _ =>
      obtain ⟨h1, h2⟩ := go2 o b rfl
      simp [brokenN, holdsN, ob h1 h1 h2]
/-! ### the least values -/
abbrev natsT (l : List Nat) : PyData := .tuple (l.map fun (n : Nat) => PyData.int (n : Int))
def keyC (n : Nat) : NKey := if n = 9 then refN else some (.inl (n : Int))
def distN (l : List Nat) : Nat := (distI (l.map fun (n : Nat) => (n : Int))).length
def leastStep (acc : List (List Nat)) : List (List Nat) := acc.flatMap fun l => (List.range (distN l + 1)).map fun k => l ++ [k]
def leastT : Nat → List (List Nat)
  | 0 => [[]]
  | n + 1 => leastStep (leastT n)
def lawStep (m : Nat) (acc : List (List Nat)) : List (List Nat) := acc.flatMap fun l => (List.range m).map fun k => l ++ [k]
def lawT (m : Nat) : Nat → List (List Nat)
  | 0 => [[]]
  | n + 1 => lawStep m (lawT m n)
/-- the first values that break a promise -/
def breakN (w : Way5) (i : Nat) : Option (List Nat) := (leastT (cntN i)).find? fun vs => !holdsN i w (vs.map keyC)
def keepsN (w : Way5) (i : Nat) : Bool := (breakN w i).isNone
/-! ### the same by codes -/
def pickC (k b m y : Nat) : Nat := match k with
  | 0 => b
  | 1 => m
  | 2 => y
  | _ => 9
def atC (c : Code5) (i : Nat) : Nat := match i with
  | 0 => c.1
  | 1 => c.2.1
  | 2 => c.2.2.1
  | 3 => c.2.2.2.1
  | _ => c.2.2.2.2
def ixC (b m y : Nat) : Nat := bif Nat.beq m b then (bif Nat.beq y b then 0 else 2) else bif Nat.beq y b then 1 else bif Nat.beq m y then 3 else 4
def mergeC (c : Code5) (x m y : Nat) : Nat := pickC (atC c (ixC x m y)) x m y
def outC (c : Code5) (x m y : Nat) : Nat := bif Nat.beq x 9 || (Nat.beq m 9 || Nat.beq y 9) then 9 else mergeC c x m y
theorem keyC_inj {a b : Nat} (h : keyC a = keyC b) : a = b := by
  unfold keyC refN at h
  split at h <;> split at h
  · omega
  · exact nomatch h
  · exact nomatch h
  · injection h with h
    injection h with h
    omega
theorem keyC_eq (a b : Nat) : (keyC a = keyC b) = (a = b) := propext ⟨keyC_inj, fun e => by rw [e]⟩
theorem beq_dec (a b : Nat) : Nat.beq a b = decide (a = b) := by
  rw [Bool.eq_iff_iff, Nat.beq_eq, decide_eq_true_iff]
theorem at_c (c : Code5) {i : Nat} (h : i < 5) : (wayC c).at i = wordC (atC c i) := by
  match i, h with
  | 0, _ => rfl
  | 1, _ => rfl
  | 2, _ => rfl
  | 3, _ => rfl
  | 4, _ => rfl
theorem ix_c (b m y : Nat) : ixN (keyC b) (keyC m) (keyC y) = ixC b m y := by
  unfold ixN ixC
  simp only [keyC_eq, beq_dec]
  by_cases h1 : m = b <;> by_cases h2 : y = b <;> by_cases h3 : m = y <;> simp [h1, h2, h3]
theorem pick_c (k b m y : Nat) : pickN (wordC k) (keyC b) (keyC m) (keyC y) = keyC (pickC k b m y) := by
  match k with
  | 0 => rfl
  | 1 => rfl
  | 2 => rfl
  | _ + 3 => rfl
theorem ixC_lt (b m y : Nat) : ixC b m y < 5 := by rw [← ix_c]; exact ixN_lt _ _ _
theorem merge_c (c : Code5) (x m y : Nat) : mergeN (wayC c) (keyC x) (keyC m) (keyC y) = keyC (mergeC c x m y) := by
  unfold mergeN mergeC
  rw [ix_c, at_c c (ixC_lt x m y), pick_c]
theorem refN_c : refN = keyC 9 := rfl
theorem out_c (c : Code5) (x m y : Nat) : outN (wayC c) (keyC x) (keyC m) (keyC y) = keyC (outC c x m y) := by
  unfold outN outC
  rw [merge_c, refN_c]
  simp only [inK, List.any_cons, List.any_nil, keyC_eq, beq_dec, Bool.or_false]
  by_cases h1 : x = 9 <;> by_cases h2 : m = 9 <;> by_cases h3 : y = 9 <;> simp [h1, h2, h3]
/-- holdsN by codes -/
def holdsC : Nat → Code5 → List Nat → Bool
  | 0, w, [o, a, b] => Nat.beq (outC w o (mergeC w o a b) b) (mergeC w o a b)
  | 1, w, [o, a] => Nat.beq (mergeC w o a a) a
  | 2, w, [o, a, b] => (Nat.beq a o || Nat.beq b o) || !Nat.beq (mergeC w o a b) o
  | 3, w, [o, a, b] => Nat.beq (mergeC w o a b) 9 || Nat.beq (mergeC w a (mergeC w o a b) o) b
  | 4, w, [o, a, b, c] => Nat.beq (outC w o (mergeC w o a b) c) (outC w o a (mergeC w o b c))
  | 5, w, [o, a, b] => Nat.beq (mergeC w o a b) (mergeC w o b a)
  | 6, w, [o, a, b] => !Nat.beq (mergeC w o a b) 9
  | 7, w, [o, a] => Nat.beq (mergeC w o a o) a
  | 8, w, [o] => Nat.beq (mergeC w o o o) o
  | 9, w, [o, a, b, c] => Nat.beq (mergeC w o a b) 9 || Nat.beq (mergeC w b (mergeC w o a b) c) (mergeC w o a c)
  | 10, w, [o, a, b] => (Nat.beq a o || Nat.beq b o) || (Nat.beq a b || Nat.beq (mergeC w o a b) 9)
  | 11, w, [o, b] => Nat.beq (mergeC w o o b) b
  | _, _, _ => true
theorem holds_c {i : Nat} (hi : i < 12) (c : Code5) {vs : List Nat} (hl : vs.length = cntN i) : holdsN i (wayC c) (vs.map keyC) = holdsC i c vs := by
  have r3 : ∀ {vs : List Nat}, vs.length = 3 → ∃ o a b, vs = [o, a, b] := fun {vs} h => by
    match vs, h with
    | [o, a, b], _ => exact ⟨o, a, b, rfl⟩
  match i, hi with
  | 0, _ =>
    match vs, hl with
    | [o, a, b], _ => simp only [List.map_cons, List.map_nil, holdsN, holdsC, inK, List.any_cons, List.any_nil, Bool.or_false, refN_c, out_c, merge_c, keyC_eq, beq_dec]
  | 1, _ =>
    match vs, hl with
    | [o, a], _ => simp only [List.map_cons, List.map_nil, holdsN, holdsC, inK, List.any_cons, List.any_nil, Bool.or_false, refN_c, out_c, merge_c, keyC_eq, beq_dec]
  | 2, _ =>
    match vs, hl with
    | [o, a, b], _ => simp only [List.map_cons, List.map_nil, holdsN, holdsC, inK, List.any_cons, List.any_nil, Bool.or_false, refN_c, out_c, merge_c, keyC_eq, beq_dec]
  | 3, _ =>
    match vs, hl with
    | [o, a, b], _ => simp only [List.map_cons, List.map_nil, holdsN, holdsC, inK, List.any_cons, List.any_nil, Bool.or_false, refN_c, out_c, merge_c, keyC_eq, beq_dec]
  | 4, _ =>
    match vs, hl with
    | [o, a, b, c], _ => simp only [List.map_cons, List.map_nil, holdsN, holdsC, inK, List.any_cons, List.any_nil, Bool.or_false, refN_c, out_c, merge_c, keyC_eq, beq_dec]
  | 5, _ =>
    match vs, hl with
    | [o, a, b], _ => simp only [List.map_cons, List.map_nil, holdsN, holdsC, inK, List.any_cons, List.any_nil, Bool.or_false, refN_c, out_c, merge_c, keyC_eq, beq_dec]
  | 6, _ =>
    match vs, hl with
    | [o, a, b], _ => simp only [List.map_cons, List.map_nil, holdsN, holdsC, inK, List.any_cons, List.any_nil, Bool.or_false, refN_c, out_c, merge_c, keyC_eq, beq_dec]
  | 7, _ =>
    match vs, hl with
    | [o, a], _ => simp only [List.map_cons, List.map_nil, holdsN, holdsC, inK, List.any_cons, List.any_nil, Bool.or_false, refN_c, out_c, merge_c, keyC_eq, beq_dec]
  | 8, _ =>
    match vs, hl with
    | [o], _ => simp only [List.map_cons, List.map_nil, holdsN, holdsC, inK, List.any_cons, List.any_nil, Bool.or_false, refN_c, out_c, merge_c, keyC_eq, beq_dec]
  | 9, _ =>
    match vs, hl with
    | [o, a, b, c], _ => simp only [List.map_cons, List.map_nil, holdsN, holdsC, inK, List.any_cons, List.any_nil, Bool.or_false, refN_c, out_c, merge_c, keyC_eq, beq_dec]
  | 10, _ =>
    match vs, hl with
    | [o, a, b], _ => simp only [List.map_cons, List.map_nil, holdsN, holdsC, inK, List.any_cons, List.any_nil, Bool.or_false, refN_c, out_c, merge_c, keyC_eq, beq_dec]
  | 11, _ =>
    match vs, hl with
    | [o, a], _ => simp only [List.map_cons, List.map_nil, holdsN, holdsC, inK, List.any_cons, List.any_nil, Bool.or_false, refN_c, out_c, merge_c, keyC_eq, beq_dec]
end Tw
/-! the first of all values that break a promise is among the least ones: reckoned -/
namespace Tw
open PySem PySem.Spec PyProof.Rows L2
def eqL : List Nat → List Nat → Bool
  | [], [] => true
  | a :: as, b :: bs => Nat.beq a b && eqL as bs
  | _, _ => false
def eqO : Option (List Nat) → Option (List Nat) → Bool
  | none, none => true
  | some a, some b => eqL a b
  | _, _ => false
theorem eqL_eq : ∀ {a b : List Nat}, eqL a b = true → a = b
  | [], [], _ => rfl
  | a :: as, b :: bs, h => by
    have h : (Nat.beq a b && eqL as bs) = true := h
    rw [Bool.and_eq_true] at h
    rw [Nat.eq_of_beq_eq_true h.1, eqL_eq h.2]
  | [], _ :: _, h => nomatch h
  | _ :: _, [], h => nomatch h
theorem eqO_eq : ∀ {a b : Option (List Nat)}, eqO a b = true → a = b
  | none, none, _ => rfl
  | some a, some b, h => congrArg some (eqL_eq h)
  | none, some _, h => nomatch h
  | some _, none, h => nomatch h
def firstOk (i : Nat) (law least : List (List Nat)) : Bool := waysC.all fun c => eqO (law.find? fun vs => !holdsC i c vs) (least.find? fun vs => !holdsC i c vs)
theorem first_all : ((List.range 12).all fun i => firstOk i (lawT (cntN i) (cntN i)) (leastT (cntN i))) = true := by decide +kernel
theorem law_len : ∀ i : Nat, i < 12 → ((lawT (cntN i) (cntN i)).all fun l => Nat.beq l.length (cntN i) && l.all fun n => Nat.ble n 4) = true := by decide +kernel
theorem least_len : ∀ i : Nat, i < 12 → ((leastT (cntN i)).all fun l => Nat.beq l.length (cntN i) && l.all fun n => Nat.ble n 4) = true := by decide +kernel
theorem find_congr {α : Type} {p q : α → Bool} : ∀ {l : List α}, (∀ x ∈ l, p x = q x) → l.find? p = l.find? q
  | [], _ => rfl
  | x :: l, h => by
    rw [List.find?_cons, List.find?_cons, h x List.mem_cons_self, find_congr fun y hy => h y (List.mem_cons_of_mem _ hy)]
theorem len_mem {ll : List (List Nat)} {n : Nat} (h : (ll.all fun l => Nat.beq l.length n && l.all fun k => Nat.ble k 4) = true) {l : List Nat} (hl : l ∈ ll) : l.length = n ∧ ∀ k ∈ l, k ≤ 4 := by
  have q := List.all_eq_true.mp h l hl
  rw [Bool.and_eq_true] at q
  exact ⟨Nat.eq_of_beq_eq_true q.1, fun k hk => Nat.le_of_ble_eq_true (List.all_eq_true.mp q.2 k hk)⟩
theorem keyC_val {n : Nat} (h : n ≤ 4) : valN (keyC n) := by
  unfold keyC
  rw [if_neg (by omega)]
  exact ⟨by omega, by omega⟩
/-- the first of the law's values that break a promise is the program's -/
theorem first_broken {w : Way5} (hw : isW w) {i : Nat} (hi : i < 12) : ((lawT (cntN i) (cntN i)).find? fun vs => brokenN i w (vs.map keyC)) = breakN w i := by
  obtain ⟨c, hc, rfl⟩ := hw
  have q := List.all_eq_true.mp (List.all_eq_true.mp first_all i (List.mem_range.mpr hi)) c hc
  have e := eqO_eq q
  have e1 : ((lawT (cntN i) (cntN i)).find? fun vs => brokenN i (wayC c) (vs.map keyC)) = ((lawT (cntN i) (cntN i)).find? fun vs => !holdsC i c vs) := find_congr fun l hl => by
    obtain ⟨l1, l2⟩ := len_mem (law_len i hi) hl
    rw [broken_holds hi (by rw [List.length_map, l1]) fun k hk => ?_, holds_c hi c l1]
    obtain ⟨n, hn, rfl⟩ := List.mem_map.mp hk
    exact val_ref (keyC_val (l2 n hn))
  have e2 : breakN (wayC c) i = ((leastT (cntN i)).find? fun vs => !holdsC i c vs) := find_congr fun l hl => by
    obtain ⟨l1, l2⟩ := len_mem (least_len i hi) hl
    rw [holds_c hi c l1]
  rw [e1, e2, e]
end Tw
/-! what the defs' proofs share -/
namespace Tw
open PySem PySem.Spec PyProof.Rows L2
theorem pe_lenSetK {X : Cx} {K : PySem.W.Frag} {a : Expr} {ta : TE} {p p2 q pos : Pos} (hK : X.K = K) (hg : Gl X "len") (hm : X.mg "len" = none) (hg2 : Gl X "set") (hm2 : X.mg "set" = none) (ha : PE X a ta) (hc : X.calm = true := by rfl)
    (na : starEach [a] X.env = (false, eval a X.env) :: starEach [] X.env := by rfl) : PE X (.Call (.Name "len" p) [.Call (.Name "set" p2) [a] [] q] [] pos) (tLenSet K ta) := by
  subst hK
  exact pe_lenSet hg hm hg2 hm2 ha hc na
theorem pa_starK {X : Cx} {K : PySem.W.Frag} {e : Expr} {es : List Expr} {te : TE} {t : TA} {p : Pos} (hK : X.K = K) (he : PE X e te) (hr : PA X es t) (hs : starEach (.Starred e p :: es) X.env = (true, eval e X.env) :: starEach es X.env := by rfl) : PA X (.Starred e p :: es) (StX.tStar K te t) := by
  subst hK
  exact StX.pa_star he hr hs
theorem clj_nil {B : Cx} {vs : List Nat} : ClsOk B vs [] (Clj.rs []) := trivial
theorem clj_cons {B : Cx} {vs : List Nat} {c : Cl} {cs : List Cl} {x : Clj} {xs : List Clj} (h : ClOk B c x.r) (hv : ∀ i ∈ x.vs, i ∈ vs) (hs : ClsOk B x.vs cs (Clj.rs xs)) : ClsOk B vs (c :: cs) (Clj.rs (x :: xs)) := ⟨h, hv, hs⟩
theorem startR_c {n : Str} {N : List Str} {x : DV} {xs : List DV} : startR (n :: N) (x :: xs) = some x :: startR N xs := by
  unfold startR
  rw [List.length_cons, List.length_cons, Nat.add_sub_add_right]
  rfl
theorem startR_n {n : Str} {N : List Str} : startR (n :: N) [] = none :: startR N [] := rfl
theorem startR_z : startR [] [] = [] := rfl
section
variable {K : PySem.W.Frag} {S : Side} {ρ : Rho}
theorem P_of {P : DV → Prop} {b c : Bool} (hp : P (.d (.bool b))) (e : b = c) : P (.d (.bool c)) := by rw [← e]; exact hp
/-- x = ..: a tuple of one's own, for one name each: what the names hold -/
theorem isWay_of (d : PyData) (h5 : ∀ ds, d = .tuple ds → ds.length = 5 → False) : isWay d = false := by
  cases d with
  | tuple ds =>
    have e : (ds.length == 5) = false := by
      cases q : (ds.length == 5) with
      | false => rfl
      | true => exact (h5 ds rfl (eq_of_beq q)).elim
    rw [isWay_tup, e]
    rfl
  | _ => rfl
/-! the loops of _law_ways, _law_tuples -/
def okW : List (List Str) → List (List Str) → Bool
  | [], _ => true
  | ws :: r, acc => Nat.ble (acc.length * ws.length) 1000 && acc.all (fun l => Nat.ble l.length 100) && okW r (waysStep acc ws)
theorem lw_inner {ws : List Str} {P : Out → Prop} (hws : ws.length ≤ 100) {f : Option DV} : ∀ (ls out : List (List Str)) (r3 : Option DV), (∀ l ∈ ls, l.length ≤ 100) → out.length + ls.length * ws.length ≤ 1000 →
    (∀ r3' : Option DV, P (.nx [f, some (.d (lstS ws)), some (.d (.list ((out ++ waysStep ls ws).map tupS))), r3', none])) →
    forW K S (gName 3) (tAsg (tOp (rCatL K) (tVar 2) (tLc (iList K (tVar 1)) (gName 4) tYes (tOp (rCatA K) (tVar 3) (tTup (tCons (tVar 4) tNil))) (List.map (fun x => x.snd) [(Str.ofString "word", 4)]))) (gName 2))
      (ls.map tupS) [f, some (.d (lstS ws)), some (.d (.list (out.map tupS))), r3, none] P
  | [], out, r3, _, _, p => forW_nil (by
      have h := p r3
      have e : out ++ waysStep [] ws = out := List.append_nil out
      rw [e] at h
      exact h)
  | l :: ls, out, r3, hl, hn, p => by
    have hn' : out.length + (ls.length * ws.length + ws.length) ≤ 1000 := by
      rw [List.length_cons, Nat.succ_mul] at hn
      exact hn
    refine forW_cons (eg_name ?_)
    refine run_asg (ev_op (ev_var (x := .d (.list (out.map tupS))) rfl ?_))
    refine ev_lc (by decide) (ei_list (ev_var (x := .d (lstS ws)) rfl ⟨_, rfl, by rw [List.length_map]; exact Nat.le_trans hws (by decide), fun T hT => ?_⟩))
    refine lcW_cat (w := l) rfl (by decide) (by show 4 < 5; decide) (hl l List.mem_cons_self) ws [] ?_
    refine e2_catL ?_ ?_
    · rw [List.length_map, List.nil_append, List.length_map]
      exact Nat.le_trans (show out.length + ws.length ≤ 1000 by omega) (by decide)
    · have e : out.map tupS ++ ([] ++ ws.map fun x => tupS (l ++ [x])) = (out ++ ws.map fun x => l ++ [x]).map tupS := by
        rw [List.map_append, List.map_map, List.nil_append]
        rfl
      rw [e]
      refine lw_inner hws ls (out ++ ws.map fun x => l ++ [x]) (some (.d (tupS l))) (fun l' h => hl l' (List.mem_cons_of_mem _ h)) (by rw [List.length_append, List.length_map]; omega) fun r3' => ?_
      have e2 : out ++ (ws.map fun x => l ++ [x]) ++ waysStep ls ws = out ++ waysStep (l :: ls) ws := by
        unfold waysStep
        rw [List.flatMap_cons, List.append_assoc]
      rw [e2]
      exact p r3'
theorem lw_outer {P : Out → Prop} : ∀ (Ws acc : List (List Str)) (r1 r2 r3 : Option DV), okW Ws acc = true → (∀ ws ∈ Ws, ws.length ≤ 100) → (∀ r1' r2' r3' : Option DV, P (.nx [some (.d (.list ((Ws.foldl waysStep acc).map tupS))), r1', r2', r3', none])) →
    forW K S (gName 1) (tSeq (tAsg (tLst tNil) (gName 2)) (tSeq (tFor (iList K (tVar 0)) (gName 3) (tAsg (tOp (rCatL K) (tVar 2) (tLc (iList K (tVar 1)) (gName 4) tYes (tOp (rCatA K) (tVar 3) (tTup (tCons (tVar 4) tNil))) (List.map (fun x => x.snd) [(Str.ofString "word", 4)]))) (gName 2))) (tAsg (tVar 2) (gName 0))))
      (Ws.map lstS) [some (.d (.list (acc.map tupS))), r1, r2, r3, none] P
  | [], acc, r1, r2, r3, _, _, p => forW_nil (p r1 r2 r3)
  | ws :: Ws, acc, r1, r2, r3, h, hw, p => by
    have h' : (Nat.ble (acc.length * ws.length) 1000 && acc.all (fun l => Nat.ble l.length 100) && okW Ws (waysStep acc ws)) = true := h
    rw [Bool.and_eq_true, Bool.and_eq_true] at h'
    obtain ⟨⟨h1, h2⟩, h3⟩ := h'
    refine forW_cons (eg_name ?_)
    refine run_seq (run_asg (ev_lstU (ea_nil ⟨rfl, sz100 rfl, ?_⟩)))
    refine run_seq (run_for (ei_list (ev_var (x := .d (.list (acc.map tupS))) rfl ⟨_, rfl, ?_⟩)))
    refine lw_inner (ws := ws) (hw ws List.mem_cons_self) acc [] r3 (fun l hl => Nat.le_of_ble_eq_true (List.all_eq_true.mp h2 l hl)) (by have := Nat.le_of_ble_eq_true h1; rw [List.length_nil]; omega) fun r3' => ?_
    rw [List.nil_append]
    refine run_asg (ev_var (x := .d (.list ((waysStep acc ws).map tupS))) rfl ?_)
    exact lw_outer Ws (waysStep acc ws) _ _ _ h3 (fun ws' hm => hw ws' (List.mem_cons_of_mem _ hm)) p
/-- t + (k,) for the ks below m -/
theorem nats_app (l : List Nat) (k : Nat) : PyData.tuple ((l.map fun (n : Nat) => PyData.int (n : Int)) ++ [.int (k : Int)]) = natsT (l ++ [k]) := by
  rw [natsT, List.map_append]
  rfl
theorem rangeD_map {α : Type} (n : Nat) (f : PyData → α) : (rangeD 0 n).map f = (List.range n).map fun (i : Nat) => f (.int (i : Int)) := by
  unfold rangeD
  rw [List.map_map]
  exact List.map_congr_left fun i _ => by show f (.int (0 + (i : Int))) = _; rw [Int.zero_add]
def appD (l : List Nat) : PyData → PyData
  | .int k => natsT (l ++ [k.toNat])
  | d => d
theorem app_range (l : List Nat) (n : Nat) : (rangeD 0 n).map (appD l) = ((List.range n).map fun k => l ++ [k]).map natsT := by
  rw [rangeD_map, List.map_map]
  exact List.map_congr_left fun i _ => by
    show natsT (l ++ [((i : Nat) : Int).toNat]) = natsT (l ++ [i])
    rw [Int.toNat_natCast]
/-- loops and comprehensions over a list told by g -/
theorem forW_findM {α : Type} {gt : TG} {tb : TS} {P : Out → Prop} (I : Rho → Prop) {g : α → PyData} {f : α → Bool} {r : α → DV} {ρ : Rho} (h0 : I ρ) : ∀ (l : List α), (∀ x ∈ l, ∀ ρ (Q : Out → Prop), I ρ → (f x = true → Q (.rt (r x))) → (f x = false → ∀ ρ', I ρ' → Q (.nx ρ')) → EvG K S gt (.d (g x)) ρ fun ρ2 => Run K S tb ρ2 Q) →
    (∀ x, l.find? f = some x → P (.rt (r x))) → (l.find? f = none → ∀ ρ', I ρ' → P (.nx ρ')) → forW K S gt tb (l.map g) ρ P
  | [], _, _, hn => hn rfl ρ h0
  | x :: xs, h, hs, hn => by
    refine forW_cons (h x List.mem_cons_self ρ _ h0 (fun e => hs x (by rw [List.find?_cons, e])) fun e ρ' h' => ?_)
    have e2 : (x :: xs).find? f = xs.find? f := by rw [List.find?_cons, e]
    rw [e2] at hs hn
    exact forW_findM I h' xs (fun y hy => h y (List.mem_cons_of_mem _ hy)) hs hn
theorem lcW_filterM {α : Type} {j : Nat} {tt : TT} {g : α → PyData} {f : α → Bool} (hj : j < ρ.length) : ∀ (l : List α) (acc : List PyData) {kc : List PyData → Prop}, (∀ x ∈ l, ∀ PB : Bool → Prop, PB (f x) → EvT K S tt (ρ.set j (some (.d (g x)))) PB) → kc (acc ++ (l.filter f).map g) → lcW K S ρ j tt (tVar j) (l.map g) acc kc
  | [], acc, kc, _, k => by
    rw [List.filter_nil, List.map_nil, List.append_nil] at k
    exact k
  | x :: xs, acc, kc, h, k => by
    refine h x List.mem_cons_self _ ⟨fun e => ?_, fun e => ?_⟩
    · refine ev_var (List.getElem?_set_self hj) ⟨g x, rfl, ?_⟩
      refine lcW_filterM hj xs _ (fun y hy => h y (List.mem_cons_of_mem _ hy)) ?_
      rw [List.filter_cons, if_pos e] at k
      rw [List.append_assoc]
      exact k
    · refine lcW_filterM hj xs _ (fun y hy => h y (List.mem_cons_of_mem _ hy)) ?_
      rw [List.filter_cons, if_neg (by rw [e]; exact Bool.false_ne_true)] at k
      exact k
theorem lc2W_flatM {α : Type} {j j1 : Nat} {wi1 : TI} {vs1 : List Nat} {te : TE} {g : α → PyData} {f : α → List PyData} {B : Nat} : ∀ (l : List α) (acc : List PyData) {kc : List PyData → Prop},
    (∀ x ∈ l, ∀ (acc : List PyData) (kc : List PyData → Prop), acc.length + (f x).length ≤ B → kc (acc ++ f x) → EvI K S wi1 (ρ.set j (some (.d (g x)))) fun es => inW K S (wipeR (ρ.set j (some (.d (g x)))) vs1) j1 tYes te es acc kc) → acc.length + (l.flatMap f).length ≤ B → kc (acc ++ l.flatMap f) → lc2W K S ρ j tYes wi1 j1 vs1 tYes te (l.map g) acc kc
  | [], acc, kc, _, _, k => by
    rw [List.flatMap_nil, List.append_nil] at k
    exact k
  | x :: xs, acc, kc, h, hl, k => by
    rw [List.flatMap_cons, List.length_append] at hl
    refine et_yes ⟨fun _ => h x List.mem_cons_self acc _ (by omega) ?_, fun z => nomatch z⟩
    refine lc2W_flatM xs _ (fun y hy => h y (List.mem_cons_of_mem _ hy)) (by rw [List.length_append]; omega) ?_
    rw [List.flatMap_cons] at k
    rw [List.append_assoc]
    exact k
/-- small words for tests -/
theorem e2_inK2 {d a b : NKey} {P : DV → Prop} (p : P (.d (.bool (inK d [a, b])))) : Ev2 K S (rInP K false) (.d (keyD d)) (.d (.tuple [keyD a, keyD b])) P := e2_inKT (ks := [a, b]) p
theorem e2_inR3 {a b c : NKey} {P : DV → Prop} (p : P (.d (.bool (inK refN [a, b, c])))) : Ev2 K S (rInP K false) (.d (.str "refused")) (.d (.tuple [keyD a, keyD b, keyD c])) P := e2_inKT (d := refN) (ks := [a, b, c]) p
theorem e2_eqR {a : NKey} {P : DV → Prop} (p : P (.d (.bool (decide (a = refN))))) : Ev2 K S (rEqP K) (.d (keyD a)) (.d (.str "refused")) P := e2_eqK (b := refN) p
theorem e2_neR {a : NKey} {P : DV → Prop} (p : P (.d (.bool (!decide (a = refN))))) : Ev2 K S (rNeP K) (.d (keyD a)) (.d (.str "refused")) P := e2_neK (b := refN) p
theorem e2_eqSb (c : Bool) {x y : Str} {P : DV → Prop} (e : decide (x = y) = c) (p : P (.d (.bool c))) : Ev2 K S (rEqP K) (.d (.str x)) (.d (.str y)) P := e2_eqS (by rw [e]; exact p)
theorem e2_neSb (c : Bool) {x y : Str} {P : DV → Prop} (e : decide (x = y) = c) (p : P (.d (.bool (!c)))) : Ev2 K S (rNeP K) (.d (.str x)) (.d (.str y)) P := e2_neS (by rw [e]; exact p)
theorem e2_inLb (c : Bool) {x : Str} {ds : List PyData} {P : DV → Prop} (e : (ds.any fun z => match z with | .str y => decide (x = y) | _ => false) = c) (hs : ds = (ds.filterMap fun z => match z with | .str y => some y | _ => none).map PyData.str) (p : P (.d (.bool c))) : Ev2 K S (rInP K false) (.d (.str x)) (.d (.list ds)) P := by
  generalize hl : (ds.filterMap fun z => match z with | .str y => some y | _ => none) = l at hs
  subst hs
  refine e2_inSL ?_
  rw [List.any_map] at e
  have e2 : decide (x ∈ l) = c := by
    rw [← e, Bool.eq_iff_iff, decide_eq_true_iff, List.any_eq_true]
    exact ⟨fun h => ⟨x, h, decide_eq_true rfl⟩, fun ⟨y, hy, hd⟩ => by rw [of_decide_eq_true hd]; exact hy⟩
  rw [e2]
  exact p
/-- what the family of defs holds -/
theorem P_ofD {P : DV → Prop} {a b : PyData} (hp : P (.d a)) (e : a = b) : P (.d b) := by rw [← e]; exact hp
theorem nats_keys : ∀ {l : List Nat}, (∀ k ∈ l, k ≤ 4) → (l.map fun (n : Nat) => PyData.int (n : Int)) = (l.map keyC).map keyD
  | [], _ => rfl
  | n :: l, h => by
    rw [List.map_cons, List.map_cons, List.map_cons, nats_keys fun k hk => h k (List.mem_cons_of_mem _ hk)]
    have e : keyC n = some (.inl (n : Int)) := if_neg (by have := h n List.mem_cons_self; omega)
    rw [e]
    rfl
def optD : Option (List Nat) → PyData
  | none => .none
  | some l => natsT l
end
section
variable {K : PySem.W.Frag} {S : Side} {ρ : Rho}
theorem mem_rangeD {lo : Int} {n : Nat} {x : PyData} (h : x ∈ rangeD lo n) : ∃ i : Nat, i < n ∧ x = .int (lo + (i : Int)) := by
  obtain ⟨i, hi, e⟩ := List.mem_map.mp h
  exact ⟨i, List.mem_range.mp hi, e.symm⟩
/-- a for, by what is done so far -/
theorem forW_acc {α : Type} {gt : TG} {tb : TS} {P : Out → Prop} {g : α → PyData} (I : List α → Rho → Prop) {ρ : Rho} : ∀ (l done : List α), I done ρ → (∀ x ∈ l, ∀ (done : List α) ρ (Q : Out → Prop), I done ρ → (∀ ρ', I (done ++ [x]) ρ' → Q (.nx ρ')) → EvG K S gt (.d (g x)) ρ fun ρ2 => Run K S tb ρ2 Q) →
    (∀ ρ', I (done ++ l) ρ' → P (.nx ρ')) → forW K S gt tb (l.map g) ρ P
  | [], done, h0, _, hP => hP ρ (by rw [List.append_nil]; exact h0)
  | x :: xs, done, h0, h, hP => h x List.mem_cons_self done ρ _ h0 fun ρ' h' => forW_acc I xs (done ++ [x]) h' (fun y hy => h y (List.mem_cons_of_mem _ hy)) fun ρ2 h2 => hP ρ2 (by rw [List.append_assoc] at h2; exact h2)
theorem forW_pre {α : Type} {gt : TG} {tb : TS} {P : Out → Prop} {g : α → PyData} {l0 : List α} (I : List α → Rho → Prop) {ρ : Rho} : ∀ (l done : List α), done ++ l = l0 → I done ρ → (∀ (done : List α) (x : α) (rest : List α) ρ (Q : Out → Prop), done ++ x :: rest = l0 → I done ρ → (∀ ρ', I (done ++ [x]) ρ' → Q (.nx ρ')) → EvG K S gt (.d (g x)) ρ fun ρ2 => Run K S tb ρ2 Q) →
    (∀ ρ', I l0 ρ' → P (.nx ρ')) → forW K S gt tb (l.map g) ρ P
  | [], done, e, h0, _, hP => hP ρ (by rw [← e, List.append_nil]; exact h0)
  | x :: xs, done, e, h0, h, hP => h done x xs ρ _ e h0 fun ρ' h' => forW_pre I xs (done ++ [x]) (by rw [List.append_assoc]; exact e) h' h hP
/-- a for whose turns are alike, counted -/
theorem forW_idx {gt : TG} {tb : TS} {P : Out → Prop} (I : Nat → Rho → Prop) {n : Nat} {ρ : Rho} : ∀ (ds : List PyData) (j : Nat), j + ds.length = n → I j ρ → (∀ j, j < n → ∀ x ρ (Q : Out → Prop), I j ρ → (∀ ρ', I (j + 1) ρ' → Q (.nx ρ')) → EvG K S gt (.d x) ρ fun ρ2 => Run K S tb ρ2 Q) →
    (∀ ρ', I n ρ' → P (.nx ρ')) → forW K S gt tb ds ρ P
  | [], j, e, h0, _, hP => hP ρ (by rw [List.length_nil, Nat.add_zero] at e; rw [← e]; exact h0)
  | x :: xs, j, e, h0, h, hP => by
    rw [List.length_cons] at e
    exact h j (by omega) x ρ _ h0 fun ρ' h' => forW_idx I xs (j + 1) (by omega) h' h hP
theorem e2_eqNil {l : List PyData} {P : DV → Prop} (p : P (.d (.bool l.isEmpty))) : Ev2 K S (rEqP K) (.d (.list l)) (.d (.list [])) P := e2_eq (Nat.le_trans (Nat.min_le_right _ _) (by simp [PyData.depth, PyData.depthAll])) (by rw [eqv_nil]; exact p)
theorem e2_neNil {l : List PyData} {P : DV → Prop} (p : P (.d (.bool (!l.isEmpty)))) : Ev2 K S (rNeP K) (.d (.list l)) (.d (.list [])) P := e2_ne (Nat.le_trans (Nat.min_le_right _ _) (by simp [PyData.depth, PyData.depthAll])) (by rw [eqv_nil]; exact p)
theorem eqv_refl_strs : ∀ l : List Str, PyData.eqvAll (sD l) (sD l) = true
  | [] => by simp [sD, PyData.eqvAll]
  | x :: l => by
    have ih := eqv_refl_strs l
    show PyData.eqvAll (PyData.str x :: sD l) (PyData.str x :: sD l) = true
    simp only [PyData.eqvAll, ih, eqv_strs, decide_true, Bool.and_self]
theorem eqv_tupS (l : List Str) : PyData.eqv (tupS l) (tupS l) = true := by
  show PyData.eqv (.tuple (sD l)) (.tuple (sD l)) = true
  simp only [PyData.eqv, eqv_refl_strs]
theorem tupS_depth (l : List Str) : (tupS l).depth ≤ 1 := by
  have h : PyData.depthAll (sD l) = 0 := by
    induction l with
    | nil => simp [sD, PyData.depthAll]
    | cons x l ih =>
      show PyData.depthAll (PyData.str x :: sD l) = 0
      simp [PyData.depthAll, PyData.depth, ih]
  show PyData.depth (.tuple (sD l)) ≤ 1
  simp only [PyData.depth, h]
  omega
/-- data that the laws' comparison goes through in n calls -/
def goodA : Nat → PyData → Prop
  | 0, _ => False
  | n + 1, .list l => l.length ≤ 1000000 ∧ ∀ x ∈ l, goodA n x
  | n + 1, .tuple l => l.length ≤ 1000000 ∧ ∀ x ∈ l, goodA n x
  | _ + 1, .dict _ => False
  | _ + 1, _ => True
theorem key_goodA (n : Nat) (k : NKey) : goodA (n + 1) (keyD k) := by
  match k with
  | none => trivial
  | some (.inl i) => trivial
  | some (.inr z) => trivial
theorem strs_goodA (n : Nat) (l : List Str) (h : l.length ≤ 1000000) : goodA (n + 2) (tupS l) := ⟨by rw [List.length_map]; exact h, fun x hx => by
  obtain ⟨z, _, rfl⟩ := List.mem_map.mp hx
  trivial⟩
theorem nats_goodA (n : Nat) (l : List Nat) (h : l.length ≤ 1000000) : goodA (n + 2) (natsT l) := ⟨by rw [List.length_map]; exact h, fun x hx => by
  obtain ⟨z, _, rfl⟩ := List.mem_map.mp hx
  trivial⟩
theorem eqv_i (i : Int) : PyData.eqv (.int i) (.int i) = true := by rw [eqv_int]; exact beq_self_eq_true i
theorem eqv_b (i : Bool) : PyData.eqv (.bool i) (.bool i) = true := by rw [eqv_bool]; exact beq_self_eq_true i
theorem eqv_s (i : Str) : PyData.eqv (.str i) (.str i) = true := by rw [eqv_str]; exact beq_self_eq_true i
/-- [k for k in range(len(due)) if not ..]: nothing -/
theorem lcW_none {j : Nat} {tt : TT} {te : TE} {kc : List PyData → Prop} : ∀ (xs acc : List PyData), (∀ x ∈ xs, ∀ PB : Bool → Prop, PB false → EvT K S tt (ρ.set j (some (.d x))) PB) → kc acc → lcW K S ρ j tt te xs acc kc
  | [], acc, _, k => k
  | x :: xs, acc, h, k => h x List.mem_cons_self _ ⟨fun e => (nomatch e), fun _ => lcW_none xs acc (fun y hy => h y (List.mem_cons_of_mem _ hy)) k⟩
theorem at_mem {ds : List PyData} {k : Int} (h0 : 0 ≤ k) (h : k < (ds.length : Int)) : ∃ d, d ∈ ds ∧ atI ds k = some d := by
  obtain ⟨j, rfl⟩ : ∃ j : Nat, k = (j : Int) := ⟨k.toNat, by omega⟩
  have hj : j < ds.length := by omega
  exact ⟨ds[j], List.getElem_mem hj, atI_nat (List.getElem?_eq_getElem hj)⟩
theorem two_of {out : List PyData} {n : Nat} (h : out.length = n) (e : n = 2) : ∃ a b, out = [a, b] := by
  subst e
  match out, h with
  | [a, b], _ => exact ⟨a, b, rfl⟩
theorem three_of {out : List PyData} {n : Nat} (h : out.length = n) (e : n = 3) : ∃ a b c, out = [a, b, c] := by
  subst e
  match out, h with
  | [a, b, c], _ => exact ⟨a, b, c, rfl⟩
theorem four_of {out : List PyData} {n : Nat} (h : out.length = n) (e : n = 4) : ∃ a b c d, out = [a, b, c, d] := by
  subst e
  match out, h with
  | [a, b, c, d], _ => exact ⟨a, b, c, d, rfl⟩
theorem lcW_yes {j : Nat} {te : TE} {x : PyData} {xs acc : List PyData} {P : List PyData → Prop} (h : Ev K S te (ρ.set j (some (.d x))) fun y => ∃ d, y = .d d ∧ lcW K S ρ j tYes te xs (acc ++ [d]) P) : lcW K S ρ j tYes te (x :: xs) acc P := et_yes ⟨fun _ => h, fun z => nomatch z⟩
theorem lcW_end {j : Nat} {tt : TT} {te : TE} {acc : List PyData} {P : List PyData → Prop} (h : P acc) : lcW K S ρ j tt te [] acc P := h
theorem word_code : ∀ {ks : List Nat} {d : PyData}, d ∈ sD (ks.map wordC) → ∃ k, k ∈ ks ∧ d = .str (wordC k) := fun {ks d} h => by
  rw [sD, List.map_map] at h
  obtain ⟨k, hk, e⟩ := List.mem_map.mp h
  exact ⟨k, hk, e.symm⟩
theorem codes_all : ∀ k1 ∈ [0, 3], ∀ k2 ∈ [0, 1, 3], ∀ k3 ∈ [0, 3, 2], ∀ k4 ∈ [0, 1, 3], ∀ k5 ∈ [0, 1, 3, 2], (k1, k2, k3, k4, k5) ∈ waysC := by decide +kernel
theorem way_pick {d1 d2 d3 d4 d5 : PyData} (h1 : d1 ∈ sD ["base", "refuse"]) (h2 : d2 ∈ sD ["base", "mine", "refuse"]) (h3 : d3 ∈ sD ["base", "refuse", "yours"]) (h4 : d4 ∈ sD ["base", "mine", "refuse"]) (h5 : d5 ∈ sD ["base", "mine", "refuse", "yours"]) :
    ∃ v, isW v ∧ PyData.tuple [d1, d2, d3, d4, d5] = v.D := by
  obtain ⟨k1, m1, rfl⟩ := word_code (ks := [0, 3]) h1
  obtain ⟨k2, m2, rfl⟩ := word_code (ks := [0, 1, 3]) h2
  obtain ⟨k3, m3, rfl⟩ := word_code (ks := [0, 3, 2]) h3
  obtain ⟨k4, m4, rfl⟩ := word_code (ks := [0, 1, 3]) h4
  obtain ⟨k5, m5, rfl⟩ := word_code (ks := [0, 1, 3, 2]) h5
  exact ⟨wayC (k1, k2, k3, k4, k5), ⟨_, codes_all k1 m1 k2 m2 k3 m3 k4 m4 k5 m5, rfl⟩, rfl⟩
theorem filt_any {α : Type} {p : α → Bool} : ∀ {l : List α}, (l.filter p).isEmpty = !l.any p
  | [] => rfl
  | x :: l => by
    rw [List.filter_cons, List.any_cons]
    cases h : p x with
    | true => rfl
    | false => exact filt_any
theorem map_empty {α β : Type} {f : α → β} : ∀ {l : List α}, (l.map f).isEmpty = l.isEmpty
  | [] => rfl
  | _ :: _ => rfl
/-- the law's own merge, its end -/
theorem told_end {P : DV → Prop} {v : Way5} {x m y : NKey} {i : Nat} (hi : i < 5) (hv : v.V) (h0 : ρ[0]? = some (some (.d v.D))) (h1 : ρ[1]? = some (some (.d (keyD x)))) (h2 : ρ[2]? = some (some (.d (keyD m)))) (h3 : ρ[3]? = some (some (.d (keyD y)))) (h4 : ρ[4]? = some (some (.d (.int (i : Int))))) (h5 : 5 < ρ.length)
    (hp : P (.d (keyD (pickN (v.at i) x m y)))) :
    Run K S (tSeq (tAsg (tDisp [(tC (.str "base"), tVar 1), (tC (.str "mine"), tVar 2), (tC (.str "yours"), tVar 3), (tC (.str "refuse"), tC (.str "refused"))]) (gName 5)) (tRet (tDGet (tVar 5) (tOp (rIxT K) (tVar 0) (tVar 4))))) ρ (fin P) := by
  refine run_seq (run_asg (ev_disp fun T hT => ?_))
  refine ev_str ⟨.inr "base", rfl, ev_var h1 ⟨_, rfl, ?_⟩⟩
  refine ev_str ⟨.inr "mine", rfl, ev_var h2 ⟨_, rfl, ?_⟩⟩
  refine ev_str ⟨.inr "yours", rfl, ev_var h3 ⟨_, rfl, ?_⟩⟩
  refine ev_str ⟨.inr "refuse", rfl, ev_str ⟨_, rfl, ?_⟩⟩
  refine ⟨by show 4 ≤ 15; decide, by show ([.inr "base", .inr "mine", .inr "yours", .inr "refuse"] : List Key).Nodup; decide +kernel, ?_⟩
  refine run_ret (ev_dget (ev_var (List.getElem?_set_self h5) ⟨_, rfl, ?_⟩))
  refine ev_op (ev_var (x := .d v.D) (by rw [List.getElem?_set_ne (by decide)]; exact h0) (ev_var (x := .d (.int (i : Int))) (by rw [List.getElem?_set_ne (by decide)]; exact h4) ?_))
  exact e2_ixT (at_way v i hi) ⟨_, _, rfl, look4 (V4_at hv i) x m y, hp⟩
def lawIxN (b m y : NKey) : Nat := if b = m ∧ b = y then 0 else if b = y then 1 else if b = m then 2 else if m = y then 3 else 4
theorem law_ix (b m y : NKey) : lawIxN b m y = ixN b m y := by
  unfold lawIxN ixN
  by_cases h1 : b = m
  · subst h1
    by_cases h2 : b = y
    · subst h2
      simp
    · have h2' : ¬ y = b := fun z => h2 z.symm
      simp [h2, h2']
  · have h1' : ¬ m = b := fun z => h1 z.symm
    by_cases h2 : b = y
    · subst h2
      simp [h1, h1']
    · have h2' : ¬ y = b := fun z => h2 z.symm
      simp [h1, h1', h2, h2']
theorem cut33 {a b c : PyData} : cutD [a, b, c] none (some 3) = [a, b, c] := rfl
theorem cut43 {a b c d : PyData} : cutD [a, b, c, d] none (some 3) = [a, b, c] := rfl
theorem lawT_ok : ∀ n : Nat, n < 5 → ∀ m : Nat, m < 5 → (lawT m n).length ≤ 1000 ∧ (lawT m n).all (fun l => Nat.ble l.length 4) = true := by decide +kernel
theorem find_head {α : Type} {p : α → Bool} : ∀ {l : List α}, (l.filter p).head? = l.find? p
  | [] => rfl
  | x :: l => by
    rw [List.filter_cons, List.find?_cons]
    cases h : p x with
    | true => rfl
    | false => exact find_head
end
/-! ### sorted texts, once -/
theorem rising_pw : ∀ {p : Str} {l : List Str}, risingS p l = true → (p :: l).Pairwise fun a b => a.cps.toList ≤ b.cps.toList
  | p, [], _ => List.pairwise_singleton _ _
  | p, x :: l, h => by
    have h : (!ltCps x.cps.toList p.cps.toList && risingS x l) = true := h
    rw [Bool.and_eq_true, Bool.not_eq_true', ltCps_eq] at h
    have ih := rising_pw h.2
    have px : p.cps.toList ≤ x.cps.toList := of_decide_eq_false h.1
    refine List.pairwise_cons.mpr ⟨fun y hy => ?_, ih⟩
    rcases List.mem_cons.mp hy with e | hy
    · rw [e]; exact px
    · exact List.le_trans px ((List.pairwise_cons.mp ih).1 y hy)
theorem sorted_pw : ∀ {l : List Str}, sortedS l = true → l.Pairwise fun a b => a.cps.toList ≤ b.cps.toList
  | [], _ => List.Pairwise.nil
  | _ :: _, h => rising_pw h
theorem str_ext {a b : Str} (h : a.cps.toList = b.cps.toList) : a = b := by
  cases a; cases b
  congr 1
  exact Array.toList_inj.mp h
theorem sort_unique {a b : List Str} (ha : sortedS a = true) (hb : sortedS b = true) (h : a.Perm b) : a = b :=
  List.Perm.eq_of_pairwise (fun x y _ _ h1 h2 => str_ext (List.le_antisymm h1 h2)) (sorted_pw ha) (sorted_pw hb) h
theorem promL_sorted : sortedS promL = true := by decide +kernel
end Tw
/-! what holds of the least values holds of all -/
namespace Tw
open PySem PySem.Spec PyProof.Rows L2
section
variable {f : Nat → NKey}
theorem ix_f (hf : ∀ a b, (f a = f b) = (a = b)) (b m y : Nat) : ixN (f b) (f m) (f y) = ixC b m y := by
  unfold ixN ixC
  simp only [hf, beq_dec]
  by_cases h1 : m = b <;> by_cases h2 : y = b <;> by_cases h3 : m = y <;> simp [h1, h2, h3]
theorem pick_f (h9 : refN = f 9) (k b m y : Nat) : pickN (wordC k) (f b) (f m) (f y) = f (pickC k b m y) := by
  match k with
  | 0 => rfl
  | 1 => rfl
  | 2 => rfl
  | _ + 3 => exact h9
theorem merge_f (hf : ∀ a b, (f a = f b) = (a = b)) (h9 : refN = f 9) (c : Code5) (x m y : Nat) : mergeN (wayC c) (f x) (f m) (f y) = f (mergeC c x m y) := by
  unfold mergeN mergeC
  rw [ix_f hf, at_c c (ixC_lt x m y), pick_f h9]
theorem out_f (hf : ∀ a b, (f a = f b) = (a = b)) (h9 : refN = f 9) (c : Code5) (x m y : Nat) : outN (wayC c) (f x) (f m) (f y) = f (outC c x m y) := by
  unfold outN outC
  rw [merge_f hf h9, h9]
  simp only [inK, List.any_cons, List.any_nil, hf, beq_dec, Bool.or_false]
  by_cases h1 : x = 9 <;> by_cases h2 : m = 9 <;> by_cases h3 : y = 9 <;> simp [h1, h2, h3]
theorem holds_f (hf : ∀ a b, (f a = f b) = (a = b)) (h9 : refN = f 9) {i : Nat} (hi : i < 12) (c : Code5) {vs : List Nat} (hl : vs.length = cntN i) : holdsN i (wayC c) (vs.map f) = holdsC i c vs := by
  match i, hi with
  | 0, _ =>
    match vs, hl with
    | [o, a, b], _ => simp only [List.map_cons, List.map_nil, holdsN, holdsC, inK, List.any_cons, List.any_nil, Bool.or_false, h9, out_f hf h9, merge_f hf h9, hf, beq_dec]
  | 1, _ =>
    match vs, hl with
    | [o, a], _ => simp only [List.map_cons, List.map_nil, holdsN, holdsC, inK, List.any_cons, List.any_nil, Bool.or_false, h9, out_f hf h9, merge_f hf h9, hf, beq_dec]
  | 2, _ =>
    match vs, hl with
    | [o, a, b], _ => simp only [List.map_cons, List.map_nil, holdsN, holdsC, inK, List.any_cons, List.any_nil, Bool.or_false, h9, out_f hf h9, merge_f hf h9, hf, beq_dec]
  | 3, _ =>
    match vs, hl with
    | [o, a, b], _ => simp only [List.map_cons, List.map_nil, holdsN, holdsC, inK, List.any_cons, List.any_nil, Bool.or_false, h9, out_f hf h9, merge_f hf h9, hf, beq_dec]
  | 4, _ =>
    match vs, hl with
    | [o, a, b, c], _ => simp only [List.map_cons, List.map_nil, holdsN, holdsC, inK, List.any_cons, List.any_nil, Bool.or_false, h9, out_f hf h9, merge_f hf h9, hf, beq_dec]
  | 5, _ =>
    match vs, hl with
    | [o, a, b], _ => simp only [List.map_cons, List.map_nil, holdsN, holdsC, inK, List.any_cons, List.any_nil, Bool.or_false, h9, out_f hf h9, merge_f hf h9, hf, beq_dec]
  | 6, _ =>
    match vs, hl with
    | [o, a, b], _ => simp only [List.map_cons, List.map_nil, holdsN, holdsC, inK, List.any_cons, List.any_nil, Bool.or_false, h9, out_f hf h9, merge_f hf h9, hf, beq_dec]
  | 7, _ =>
    match vs, hl with
    | [o, a], _ => simp only [List.map_cons, List.map_nil, holdsN, holdsC, inK, List.any_cons, List.any_nil, Bool.or_false, h9, out_f hf h9, merge_f hf h9, hf, beq_dec]
  | 8, _ =>
    match vs, hl with
    | [o], _ => simp only [List.map_cons, List.map_nil, holdsN, holdsC, inK, List.any_cons, List.any_nil, Bool.or_false, h9, out_f hf h9, merge_f hf h9, hf, beq_dec]
  | 9, _ =>
    match vs, hl with
    | [o, a, b, c], _ => simp only [List.map_cons, List.map_nil, holdsN, holdsC, inK, List.any_cons, List.any_nil, Bool.or_false, h9, out_f hf h9, merge_f hf h9, hf, beq_dec]
  | 10, _ =>
    match vs, hl with
    | [o, a, b], _ => simp only [List.map_cons, List.map_nil, holdsN, holdsC, inK, List.any_cons, List.any_nil, Bool.or_false, h9, out_f hf h9, merge_f hf h9, hf, beq_dec]
  | 11, _ =>
    match vs, hl with
    | [o, a], _ => simp only [List.map_cons, List.map_nil, holdsN, holdsC, inK, List.any_cons, List.any_nil, Bool.or_false, h9, out_f hf h9, merge_f hf h9, hf, beq_dec]
end
/-- codes told as the values ds, 9 as what is refused -/
def fD (ds : List NKey) (n : Nat) : NKey := match ds[n]? with
  | some d => d
  | none => if n = 9 then refN else some (.inl (1000 + (n : Int)))
theorem fD_eq {ds : List NKey} (nd : ds.Nodup) (hv : ∀ d ∈ ds, valN d) (a b : Nat) : (fD ds a = fD ds b) = (a = b) := by
  refine propext ⟨fun h => ?_, fun e => by rw [e]⟩
  have big : ∀ n : Nat, ¬ valN (if n = 9 then refN else some (.inl (1000 + (n : Int)))) := fun n z => by
    split at z
    · exact z
    · have z : 0 ≤ (1000 + (n : Int)) ∧ (1000 + (n : Int)) ≤ 999 := z
      omega
  unfold fD at h
  cases ea : ds[a]? with
  | some x =>
    cases eb : ds[b]? with
    | some y =>
      rw [ea, eb] at h
      have h : x = y := h
      subst h
      obtain ⟨ha, e1⟩ := List.getElem?_eq_some_iff.mp ea
      obtain ⟨hb, e2⟩ := List.getElem?_eq_some_iff.mp eb
      exact (List.getElem_inj nd).mp (e1.trans e2.symm)
    | none =>
      rw [ea, eb] at h
      have h : x = _ := h
      exact absurd (hv x (List.mem_of_getElem? ea)) (by rw [h]; exact big b)
  | none =>
    cases eb : ds[b]? with
    | some y =>
      rw [ea, eb] at h
      have h : _ = y := h
      exact absurd (hv y (List.mem_of_getElem? eb)) (by rw [← h]; exact big a)
    | none =>
      rw [ea, eb] at h
      dsimp only at h
      split at h <;> split at h
      · omega
      · exact nomatch h
      · exact nomatch h
      · injection h with h
        injection h with h
        omega
theorem fD_nine {ds : List NKey} (hl : ds.length ≤ 9) : refN = fD ds 9 := by
  unfold fD
  rw [List.getElem?_eq_none (by omega)]
  rfl
theorem canon1 {o : NKey} (h_o : valN o) : ∃ l ∈ leastT 1, ∃ ds : List NKey, ds.length ≤ 9 ∧ ds.Nodup ∧ (∀ d ∈ ds, valN d) ∧ [o] = l.map (fD ds) := by
  exact ⟨[0], by decide +kernel, [o], by show 1 ≤ 9; decide, by simp [], by simp [h_o], rfl⟩
theorem canon2 {o a : NKey} (h_o : valN o) (h_a : valN a) : ∃ l ∈ leastT 2, ∃ ds : List NKey, ds.length ≤ 9 ∧ ds.Nodup ∧ (∀ d ∈ ds, valN d) ∧ [o, a] = l.map (fD ds) := by
  by_cases e10 : o = a
  · subst e10
    exact ⟨[0, 0], by decide +kernel, [o], by show 1 ≤ 9; decide, by simp [], by simp [h_o, h_a], rfl⟩
  · skip
    exact ⟨[0, 1], by decide +kernel, [o, a], by show 2 ≤ 9; decide, by simp [e10], by simp [h_o, h_a], rfl⟩
theorem canon3 {o a b : NKey} (h_o : valN o) (h_a : valN a) (h_b : valN b) : ∃ l ∈ leastT 3, ∃ ds : List NKey, ds.length ≤ 9 ∧ ds.Nodup ∧ (∀ d ∈ ds, valN d) ∧ [o, a, b] = l.map (fD ds) := by
  by_cases e10 : o = a
  · subst e10
    by_cases e20 : o = b
    · subst e20
      exact ⟨[0, 0, 0], by decide +kernel, [o], by show 1 ≤ 9; decide, by simp [], by simp [h_o, h_a, h_b], rfl⟩
    · skip
      exact ⟨[0, 0, 1], by decide +kernel, [o, b], by show 2 ≤ 9; decide, by simp [e20], by simp [h_o, h_a, h_b], rfl⟩
  · skip
    by_cases e20 : o = b
    · subst e20
      exact ⟨[0, 1, 0], by decide +kernel, [o, a], by show 2 ≤ 9; decide, by simp [e10], by simp [h_o, h_a, h_b], rfl⟩
    · skip
      by_cases e21 : a = b
      · subst e21
        exact ⟨[0, 1, 1], by decide +kernel, [o, a], by show 2 ≤ 9; decide, by simp [e10, e20], by simp [h_o, h_a, h_b], rfl⟩
      · skip
        exact ⟨[0, 1, 2], by decide +kernel, [o, a, b], by show 3 ≤ 9; decide, by simp [e10, e20, e21], by simp [h_o, h_a, h_b], rfl⟩
theorem canon4 {o a b c : NKey} (h_o : valN o) (h_a : valN a) (h_b : valN b) (h_c : valN c) : ∃ l ∈ leastT 4, ∃ ds : List NKey, ds.length ≤ 9 ∧ ds.Nodup ∧ (∀ d ∈ ds, valN d) ∧ [o, a, b, c] = l.map (fD ds) := by
  by_cases e10 : o = a
  · subst e10
    by_cases e20 : o = b
    · subst e20
      by_cases e30 : o = c
      · subst e30
        exact ⟨[0, 0, 0, 0], by decide +kernel, [o], by show 1 ≤ 9; decide, by simp [], by simp [h_o, h_a, h_b, h_c], rfl⟩
      · skip
        exact ⟨[0, 0, 0, 1], by decide +kernel, [o, c], by show 2 ≤ 9; decide, by simp [e30], by simp [h_o, h_a, h_b, h_c], rfl⟩
    · skip
      by_cases e30 : o = c
      · subst e30
        exact ⟨[0, 0, 1, 0], by decide +kernel, [o, b], by show 2 ≤ 9; decide, by simp [e20], by simp [h_o, h_a, h_b, h_c], rfl⟩
      · skip
        by_cases e31 : b = c
        · subst e31
          exact ⟨[0, 0, 1, 1], by decide +kernel, [o, b], by show 2 ≤ 9; decide, by simp [e20, e30], by simp [h_o, h_a, h_b, h_c], rfl⟩
        · skip
          exact ⟨[0, 0, 1, 2], by decide +kernel, [o, b, c], by show 3 ≤ 9; decide, by simp [e20, e30, e31], by simp [h_o, h_a, h_b, h_c], rfl⟩
  · skip
    by_cases e20 : o = b
    · subst e20
      by_cases e30 : o = c
      · subst e30
        exact ⟨[0, 1, 0, 0], by decide +kernel, [o, a], by show 2 ≤ 9; decide, by simp [e10], by simp [h_o, h_a, h_b, h_c], rfl⟩
      · skip
        by_cases e31 : a = c
        · subst e31
          exact ⟨[0, 1, 0, 1], by decide +kernel, [o, a], by show 2 ≤ 9; decide, by simp [e10, e30], by simp [h_o, h_a, h_b, h_c], rfl⟩
        · skip
          exact ⟨[0, 1, 0, 2], by decide +kernel, [o, a, c], by show 3 ≤ 9; decide, by simp [e10, e30, e31], by simp [h_o, h_a, h_b, h_c], rfl⟩
    · skip
      by_cases e21 : a = b
      · subst e21
        by_cases e30 : o = c
        · subst e30
          exact ⟨[0, 1, 1, 0], by decide +kernel, [o, a], by show 2 ≤ 9; decide, by simp [e10, e20], by simp [h_o, h_a, h_b, h_c], rfl⟩
        · skip
          by_cases e31 : a = c
          · subst e31
            exact ⟨[0, 1, 1, 1], by decide +kernel, [o, a], by show 2 ≤ 9; decide, by simp [e10, e20, e30], by simp [h_o, h_a, h_b, h_c], rfl⟩
          · skip
            exact ⟨[0, 1, 1, 2], by decide +kernel, [o, a, c], by show 3 ≤ 9; decide, by simp [e10, e20, e30, e31], by simp [h_o, h_a, h_b, h_c], rfl⟩
      · skip
        by_cases e30 : o = c
        · subst e30
          exact ⟨[0, 1, 2, 0], by decide +kernel, [o, a, b], by show 3 ≤ 9; decide, by simp [e10, e20, e21], by simp [h_o, h_a, h_b, h_c], rfl⟩
        · skip
          by_cases e31 : a = c
          · subst e31
            exact ⟨[0, 1, 2, 1], by decide +kernel, [o, a, b], by show 3 ≤ 9; decide, by simp [e10, e20, e21, e30], by simp [h_o, h_a, h_b, h_c], rfl⟩
          · skip
            by_cases e32 : b = c
            · subst e32
              exact ⟨[0, 1, 2, 2], by decide +kernel, [o, a, b], by show 3 ≤ 9; decide, by simp [e10, e20, e21, e30, e31], by simp [h_o, h_a, h_b, h_c], rfl⟩
            · skip
              exact ⟨[0, 1, 2, 3], by decide +kernel, [o, a, b, c], by show 4 ≤ 9; decide, by simp [e10, e20, e21, e30, e31, e32], by simp [h_o, h_a, h_b, h_c], rfl⟩
theorem canon {vs : List NKey} (h1 : 1 ≤ vs.length) (h4 : vs.length ≤ 4) (hv : ∀ k ∈ vs, valN k) : ∃ l ∈ leastT vs.length, ∃ ds : List NKey, ds.length ≤ 9 ∧ ds.Nodup ∧ (∀ d ∈ ds, valN d) ∧ vs = l.map (fD ds) := by
  match vs, h1, h4 with
  | [o], _, _ => exact canon1 (hv o (by simp))
  | [o, a], _, _ => exact canon2 (hv o (by simp)) (hv a (by simp))
  | [o, a, b], _, _ => exact canon3 (hv o (by simp)) (hv a (by simp)) (hv b (by simp))
  | [o, a, b, c], _, _ => exact canon4 (hv o (by simp)) (hv a (by simp)) (hv b (by simp)) (hv c (by simp))
/-- no values break what a way keeps -/
theorem kept_all {w : Way5} (hw : isW w) {i : Nat} (hi : i < 12) (hk : keepsN w i = true) {vs : List NKey} (hl : vs.length = cntN i) (hv : ∀ k ∈ vs, valN k) : holdsN i w vs = true := by
  obtain ⟨c, hc, rfl⟩ := hw
  have b := cntN_le i hi
  obtain ⟨l, hm, ds, dl, nd, hd, rfl⟩ := canon (by omega) (by omega) hv
  rw [List.length_map] at hl hm
  rw [hl] at hm
  rw [holds_f (fD_eq nd hd) (fD_nine dl) hi c hl]
  have n := Option.isNone_iff_eq_none.mp hk
  have q := List.find?_eq_none.mp n l hm
  rw [holds_c hi c hl] at q
  simpa using q
theorem kept_broken {w : Way5} (hw : isW w) {i : Nat} (hi : i < 12) (hk : keepsN w i = true) {vs : List NKey} (hl : vs.length = cntN i) (hv : ∀ k ∈ vs, valN k) : brokenN i w vs = false := by
  rw [broken_holds hi hl fun k h => val_ref (hv k h), kept_all hw hi hk hl hv]
  rfl
theorem promL_strs : sD promL = (List.range 12).map fun i => PyData.str (promN i) := by rw [promL_map, sD, List.map_map]; rfl
theorem vals_keys : ∀ {out : List PyData}, (∀ d ∈ out, isValue d = true) → ∃ vs : List NKey, out = vs.map keyD ∧ ∀ k ∈ vs, valN k
  | [], _ => ⟨[], rfl, fun _ h => nomatch h⟩
  | d :: out, h => by
    obtain ⟨k, e, hk⟩ := val_key (h d List.mem_cons_self)
    obtain ⟨vs, e2, hv⟩ := vals_keys fun x hx => h x (List.mem_cons_of_mem _ hx)
    exact ⟨k :: vs, by rw [e, e2]; rfl, fun x hx => (List.mem_cons.mp hx).elim (fun z => by rw [z]; exact hk) (hv x)⟩
theorem kept_fair {w : Way5} (hw : isW w) (hk : keepsN w 5 = true) {b m y : NKey} (hb : valN b) (hm : valN m) (hy : valN y) : mergeN w b m y = mergeN w b y m :=
  of_decide_eq_true (kept_all hw (i := 5) (by decide) hk (vs := [b, m, y]) rfl (by simp [hb, hm, hy]))
theorem kept_mine {w : Way5} (hw : isW w) (hk : keepsN w 7 = true) {b m : NKey} (hb : valN b) (hm : valN m) : mergeN w b m b = m :=
  of_decide_eq_true (kept_all hw (i := 7) (by decide) hk (vs := [b, m]) rfl (by simp [hb, hm]))
theorem kept_yours {w : Way5} (hw : isW w) (hk : keepsN w 11 = true) {b y : NKey} (hb : valN b) (hy : valN y) : mergeN w b b y = y :=
  of_decide_eq_true (kept_all hw (i := 11) (by decide) hk (vs := [b, y]) rfl (by simp [hb, hy]))
end Tw
/-! sorted of texts, of tuples of texts (any number of them) -/
namespace Tw
open PySem PySem.Spec PyProof.Rows L2
/-! ### the order -/
def ltT : List Str → List Str → Bool
  | [], [] => false
  | [], _ :: _ => true
  | _ :: _, [] => false
  | a :: as, b :: bs => if a = b then ltT as bs else decide (a.cps.toList < b.cps.toList)
theorem nat_lt_asymm {a b : List Nat} (h : a < b) : ¬ b < a := List.lt_asymm h
theorem str_tri {a b : Str} (h1 : ¬ a.cps.toList < b.cps.toList) (h2 : ¬ b.cps.toList < a.cps.toList) : a = b := str_ext (List.le_antisymm h2 h1)
theorem ltT_irr : ∀ a : List Str, ltT a a = false
  | [] => rfl
  | a :: as => by
    show (if a = a then ltT as as else _) = false
    rw [if_pos rfl]
    exact ltT_irr as
theorem ltT_asym : ∀ {a b : List Str}, ltT a b = true → ltT b a = false
  | [], [], h => nomatch h
  | [], _ :: _, _ => rfl
  | _ :: _, [], h => nomatch h
  | a :: as, b :: bs, h => by
    have h : (if a = b then ltT as bs else decide (a.cps.toList < b.cps.toList)) = true := h
    show (if b = a then ltT bs as else decide (b.cps.toList < a.cps.toList)) = false
    by_cases e : a = b
    · rw [if_pos e] at h
      rw [if_pos e.symm]
      exact ltT_asym h
    · rw [if_neg e] at h
      rw [if_neg fun z => e z.symm]
      exact decide_eq_false (nat_lt_asymm (of_decide_eq_true h))
theorem ltT_anti : ∀ {a b : List Str}, ltT a b = false → ltT b a = false → a = b
  | [], [], _, _ => rfl
  | [], _ :: _, h, _ => nomatch h
  | _ :: _, [], _, h => nomatch h
  | a :: as, b :: bs, h, g => by
    have h : (if a = b then ltT as bs else decide (a.cps.toList < b.cps.toList)) = false := h
    have g : (if b = a then ltT bs as else decide (b.cps.toList < a.cps.toList)) = false := g
    by_cases e : a = b
    · rw [if_pos e] at h
      rw [if_pos e.symm] at g
      rw [e, ltT_anti h g]
    · rw [if_neg e] at h
      rw [if_neg fun z => e z.symm] at g
      exact absurd (str_tri (of_decide_eq_false h) (of_decide_eq_false g)) e
theorem ltT_trans : ∀ {a b c : List Str}, ltT a b = true → ltT b c = true → ltT a c = true
  | [], [], _, h, _ => nomatch h
  | [], _ :: _, [], _, g => nomatch g
  | [], _ :: _, _ :: _, _, _ => rfl
  | _ :: _, [], _, h, _ => nomatch h
  | _ :: _, _ :: _, [], _, g => nomatch g
  | a :: as, b :: bs, c :: cs, h, g => by
    have h : (if a = b then ltT as bs else decide (a.cps.toList < b.cps.toList)) = true := h
    have g : (if b = c then ltT bs cs else decide (b.cps.toList < c.cps.toList)) = true := g
    show (if a = c then ltT as cs else decide (a.cps.toList < c.cps.toList)) = true
    by_cases e1 : a = b
    · subst e1
      rw [if_pos rfl] at h
      by_cases e2 : a = c
      · rw [if_pos e2] at g ⊢
        exact ltT_trans h g
      · rw [if_neg e2] at g ⊢
        exact g
    · rw [if_neg e1] at h
      by_cases e2 : b = c
      · subst e2
        rw [if_neg e1]
        exact h
      · rw [if_neg e2] at g
        have t : a.cps.toList < c.cps.toList := List.lt_trans (of_decide_eq_true h) (of_decide_eq_true g)
        have e3 : ¬ a = c := fun z => by
          subst z
          exact nat_lt_asymm (of_decide_eq_true h) (of_decide_eq_true g)
        rw [if_neg e3]
        exact decide_eq_true t
theorem ltT_swo {α : Type} (k : α → List Str) : SrtO.Swo fun v u => ltT (k v) (k u) := by
  refine ⟨fun x y h => ltT_asym h, fun x y z h1 h2 => ?_⟩
  cases q : ltT (k z) (k x) with
  | false => rfl
  | true =>
    cases p : ltT (k x) (k y) with
    | true => rw [ltT_trans q p] at h2; cases h2
    | false =>
      have e := ltT_anti p h1
      rw [e] at q
      rw [q] at h2
      cases h2
/-- sorted so: each behind none above it -/
def sortedT (l : List (List Str)) : Prop := l.Pairwise fun a b => ltT b a = false
theorem sortT_unique {a b : List (List Str)} (ha : sortedT a) (hb : sortedT b) (h : a.Perm b) : a = b :=
  List.Perm.eq_of_pairwise (fun x y _ _ h1 h2 => ltT_anti h2 h1) ha hb h
/-! ### tuples of texts in the heap -/
def IsTS (h : Heap) (v : Value) (l : List Str) : Prop := ∃ a o xs n, v = .ref a ∧ h.get? a = some o ∧ o.cls = .type "tuple" ∧ o.data = .seq xs n ∧ StrsAre xs.toList l
theorem IsTS.keeps {h h' : Heap} {v : Value} {l : List Str} (p : IsTS h v l) (k : ∀ b o, h.get? b = some o → o.cls = .type "tuple" → h'.get? b = some o) : IsTS h' v l := by
  obtain ⟨a, o, xs, n, e, ho, hc, r⟩ := p
  exact ⟨a, o, xs, n, e, k _ _ ho hc, hc, r⟩
theorem strs_uniq : ∀ {vs : List Value} {a b : List Str}, StrsAre vs a → StrsAre vs b → a = b
  | _, _, _, .nil, .nil => rfl
  | _, _, _, .cons y t h, g => by
    cases g with
    | cons _ _ g => rw [strs_uniq h g]
theorem IsTS.uniq {h : Heap} {v : Value} {a b : List Str} (p : IsTS h v a) (q : IsTS h v b) : a = b := by
  obtain ⟨x, o, xs, n, e, ho, _, hd, r⟩ := p
  obtain ⟨x', o', xs', n', e', ho', _, hd', r'⟩ := q
  rw [e] at e'
  cases e'
  rw [ho] at ho'
  cases ho'
  rw [hd] at hd'
  cases hd'
  exact strs_uniq r r'
open Classical in
/-- the texts of a tuple in the heap -/
noncomputable def txts (h : Heap) (v : Value) : List Str := if e : ∃ l, IsTS h v l then e.choose else []
theorem txts_of {h : Heap} {v : Value} {l : List Str} (p : IsTS h v l) : txts h v = l := by
  unfold txts
  rw [dif_pos ⟨l, p⟩]
  exact (Exists.choose_spec (⟨l, p⟩ : ∃ l, IsTS h v l)).uniq p
section
variable {prog : Program} {w : World} {A : Around} {s : Shared}
theorem oneLt_strs (c : Bool) {p q : Str} {t u : Tok} {Q : Bool → Shared → Prop} {E : Value → Shared → Prop} (h : Q (decide (p.cps.toList < q.cps.toList)) s) : wpAny (model prog w) A (oneLt' c (.str p t) (.str q u)) Q E s := by
  cases c with
  | true => exact oneLt_str h
  | false => exact PySem.W.kat_one _ _ (PyProof.Rows.lt_str (Q := PySem.W.BoolBack Q) h)
theorem lex_strs {n m : Nat} {Q : Bool → Shared → Prop} : ∀ {xs ys : List Value} {a b : List Str} (i : Nat), StrsAre xs a → StrsAre ys b → i + xs.length = n → i + ys.length = m → Q (ltT a b) s → PySem.W.KatLex prog w A true (decide (n < m)) Q (xs.zip ys) i s
  | _, _, _, _, i, .nil, .nil, e1, e2, q => by
    have e : decide (n < m) = false := decide_eq_false (by simp at e1 e2; omega)
    rw [e]
    exact PySem.W.kat_nil q
  | _, _, _, _, i, .nil, .cons _ _ _, e1, e2, q => by
    have e : decide (n < m) = true := decide_eq_true (by simp at e1 e2; omega)
    rw [e]
    exact PySem.W.kat_nil q
  | _, _, _, _, i, .cons _ _ _, .nil, e1, e2, q => by
    have e : decide (n < m) = false := decide_eq_false (by simp at e1 e2; omega)
    rw [e]
    exact PySem.W.kat_nil q
  | _, _, _, _, i, .cons (vs := xs) (ys := as) x t ha, .cons (vs := ys) (ys := bs) y u hb, e1, e2, q => by
    have q : Q (if x = y then ltT as bs else decide (x.cps.toList < y.cps.toList)) s := q
    refine PySem.W.kat_cons (SeqAt.EqAt.str_str x t y u prog w _ _ ?_)
    refine PySem.W.kat_go (fun e => ?_) (fun e => ?_)
    · have ex : x = y := eq_of_beq e
      rw [if_pos ex] at q
      exact PySem.W.kat_yes (lex_strs (i + 1) ha hb (by rw [List.length_cons] at e1; omega) (by rw [List.length_cons] at e2; omega) q)
    · have ex : ¬ x = y := fun z => by rw [z, beq_self_eq_true] at e; cases e
      rw [if_neg ex] at q
      exact PySem.W.kat_no (oneLt_strs _ q)
theorem ts_cmp {vs : List Value} {k : Value → List Str} (hp : ∀ v ∈ vs, IsTS s.heap v (k v)) : SrtO.Cmp prog w A s (tuples' true) (fun p => p.1 ∈ vs) (SrtO.lt2 fun v u => ltT (k v) (k u)) := by
  intro p q hm hm'
  have h1 := hp _ hm
  have h2 := hp _ hm'
  show wpAny (model prog w) A (keyLt' (tuples' true) p.1 q.1) (fun r s' => s' = s ∧ r = ltT (k p.1) (k q.1)) (fun _ _ => False) s
  obtain ⟨a, o, xs, n, e, ho, hc, hd, r1⟩ := h1
  obtain ⟨a', o', xs', n', e', ho', hc', hd', r2⟩ := h2
  generalize k p.1 = l1 at r1 ⊢
  generalize k q.1 = l2 at r2 ⊢
  rw [e, e']
  exact PySem.W.kat_lt ho hd ho' hd' (lex_strs 0 r1 r2 (by rw [Nat.zero_add, Array.length_toList]) (by rw [Nat.zero_add, Array.length_toList]) ⟨rfl, rfl⟩)
theorem ts_firsts {h : Heap} : ∀ {vs : List Value}, (∀ v ∈ vs, ∃ l, IsTS h v l ∧ l ≠ []) → ∃ fs, PySem.W.KatTups h vs fs ∧ fs.length = vs.length ∧ ∀ f ∈ fs, ∃ x t, f = Value.str x t
  | [], _ => ⟨[], trivial, rfl, fun _ z => nomatch z⟩
  | v :: vs, hp => by
    obtain ⟨fs, h1, h2, h3⟩ := ts_firsts fun u hu => hp u (List.mem_cons_of_mem _ hu)
    obtain ⟨l, ⟨a, o, xs, n, rfl, ho, hc, hd, r⟩, ne⟩ := hp v List.mem_cons_self
    cases hx : xs.toList with
    | nil =>
      rw [hx] at r
      cases r
      exact absurd rfl ne
    | cons u us =>
      rw [hx] at r
      cases r with
      | cons y t r =>
        refine ⟨.str y t :: fs, PySem.W.KatTups.cons ho hc hd (by rw [← Array.getElem?_toList, hx]; rfl) h1, by rw [List.length_cons, List.length_cons, h2], fun f hf => ?_⟩
        rcases List.mem_cons.mp hf with e | hf
        · exact ⟨y, t, e⟩
        · exact h3 f hf
theorem ts_sortable {a : Addr} {vs : List Value} {k : Value → List Str} (h0 : 0 < vs.length) (hp : ∀ v ∈ vs, IsTS s.heap v (k v) ∧ k v ≠ []) (ha : ∀ o, s.heap.get? a = some o → o.cls ≠ .type "tuple") : SrtO.SortableO prog w A s a vs fun v u => ltT (k v) (k u) := by
  intro h' keep
  have hp' : ∀ v ∈ vs, IsTS h' v (k v) := fun v hm => (hp v hm).1.keeps fun b o e c => keep b o (fun z => by subst z; exact ha o e c) e
  obtain ⟨fs, h1, h2, h3⟩ := ts_firsts fun v hm => ⟨_, hp' v hm, (hp v hm).2⟩
  refine ⟨tuples' true, fun Q E hq => ?_, ts_cmp hp'⟩
  refine PySem.W.kat_kind (T := .type "str") h1 (by omega) (fun f hm => ?_) (by rfl) ?_
  · obtain ⟨x, t, rfl⟩ := h3 f hm
    exact PySem.W.Looks.now
  · have e : (Value.type "str" != Value.type "tuple") = true := by first | decide +kernel | rfl | decide
    rw [e]
    exact hq
end
/-! ### as a rule -/
def AllR (R : V → List Str → Prop) : List V → List (List Str) → Prop
  | [], [] => True
  | x :: xs, l :: ls => R x l ∧ AllR R xs ls
  | _, _ => False
def rSortTS (K : PySem.W.Frag) : List V → Hp → VK → Prop := fun vs H Q => ∃ (a : Addr) (xs : List V) (L : List (List Str)) (R : V → List Str → Prop), vs = [V.ref a] ∧ SqL K H a xs ∧ (∀ x l, R x l → ∃ t, x = .ref t ∧ SqT K H t (l.map V.str)) ∧ AllR R xs L ∧ (∀ l ∈ L, l ≠ []) ∧
  ∀ zs M p, AllR R zs M → M.Perm L → sortedT M → H p = none → Q (.ref p) (upd H p (.lst zs))
theorem strs_of_vals {l : List Str} {us : List Value} (r : Vals (l.map V.str) us) : StrsAre us l := r.strs
section
variable {X : Cx}
theorem allR_heap {pins : List (Addr × Obj)} {σ : L2.St} {H : Hp} {s : Shared} {R : V → List Str → Prop} (I : Inv X pins σ H s) (hR : ∀ x l, R x l → ∃ t, x = .ref t ∧ SqT X.K H t (l.map V.str)) :
    ∀ {xs : List V} {L : List (List Str)} {us : List Value}, AllR R xs L → Vals xs us → us.map (txts s.heap) = L ∧ ∀ u ∈ us, ∃ l, l ∈ L ∧ IsTS s.heap u l ∧ R (backV u) l ∧ ∃ t, u = .ref t
  | [], [], us, _, r => by
    cases r
    exact ⟨rfl, fun _ z => nomatch z⟩
  | x :: xs, l :: L, us, h, r => by
    obtain ⟨h1, h2⟩ := h
    obtain ⟨t, rfl, ht⟩ := hR x l h1
    cases r with
    | cons r1 r2 =>
      cases r1
      obtain ⟨e, g⟩ := allR_heap I hR h2 r2
      obtain ⟨its, rv, ⟨o, ho, hc, n, hd⟩, hz⟩ := I.tuple ht
      have ts : IsTS s.heap (.ref t) l := ⟨t, o, its.toArray, n, rfl, ho, hc, hd, by simpa using rv.strs⟩
      refine ⟨by rw [List.map_cons, txts_of ts, e], fun u hu => ?_⟩
      rcases List.mem_cons.mp hu with q | hu
      · rw [q]
        exact ⟨l, List.mem_cons_self, ts, h1, t, rfl⟩
      · obtain ⟨l', m, z⟩ := g u hu
        exact ⟨l', List.mem_cons_of_mem _ m, z⟩
  | [], _ :: _, _, h, _ => h.elim
  | _ :: _, [], _, h, _ => h.elim
theorem allR_back {h : Heap} {R : V → List Str → Prop} : ∀ {us : List Value}, (∀ u ∈ us, ∃ l, IsTS h u l ∧ R (backV u) l ∧ ∃ t, u = .ref t) → AllR R (us.map backV) (us.map (txts h)) ∧ Vals (us.map backV) us
  | [], _ => ⟨trivial, .nil⟩
  | u :: us, g => by
    obtain ⟨h1, h2⟩ := allR_back (us := us) fun v hv => g v (List.mem_cons_of_mem _ hv)
    obtain ⟨l, ts, hr, t, rfl⟩ := g u List.mem_cons_self
    exact ⟨⟨by rw [txts_of ts]; exact hr, h1⟩, .cons rfl h2⟩
theorem cr_sortTS : CallR X (.builtin "sorted") (rSortTS X.K) := by
  intro pins s σ H vs us Q I r h
  obtain ⟨a, xs, L, R, rfl, hs, hR, hx, ne, q⟩ := h
  obtain ⟨its, rv, hl, hz⟩ := I.list hs
  obtain ⟨u, rfl, ru⟩ := vals1 r
  obtain rfl : u = Value.ref a := ru
  obtain ⟨e1, e2⟩ := allR_heap I hR hx rv
  have good : ∀ v ∈ its, IsTS s.heap v (txts s.heap v) ∧ txts s.heap v ≠ [] := fun v hv => by
    obtain ⟨l, hm, ts, _⟩ := e2 v hv
    rw [txts_of ts]
    exact ⟨ts, ne l hm⟩
  refine SrtO.sorted_ord (ltT_swo (txts s.heap)) hl.isList (by rw [← rv.length]; exact hz) (fun h2 h₁ a' ha kk => ?_) fun out hso hst => ?_
  · refine ts_sortable (s := { s with heap := h₁ }) (by omega) (fun v hm => ⟨(good v hm).1.keeps fun b o e _ => (kk b o e).2, (good v hm).2⟩) fun o e => ?_
    have e' : some o = some (seqObj "list" its.toArray 0) := e.symm.trans ha
    cases e'
    intro c
    exact absurd (Value.type.inj c) (by decide)
  · have mem : ∀ u ∈ out, ∃ l, IsTS s.heap u l ∧ R (backV u) l ∧ ∃ t, u = .ref t := fun u hu => by
      obtain ⟨l, _, z⟩ := e2 u (hst.perm.mem_iff.mp hu)
      exact ⟨l, z⟩
    obtain ⟨b1, b2⟩ := allR_back mem
    obtain ⟨n, hn⟩ := sortedAll_at s.heap its out.toArray
    have hd : s.heap.objs.size ≤ s.heap.objs.size + 1 := Nat.le_succ _
    have pm : (out.map (txts s.heap)).Perm L := by rw [← e1]; exact hst.perm.map _
    have so : sortedT (out.map (txts s.heap)) := List.pairwise_map.mpr hso
    refine ⟨.ref (s.heap.objs.size + 1), upd H (s.heap.objs.size + 1) (.lst (out.map backV)), I.laid (t' := s.toks) (fun b o e => sortedAll_old e) hd ⟨?_, out, n, b2, hn⟩, rfl, q _ _ _ b1 pm so (I.hok.fresh hd)⟩
    rw [List.length_map, hst.perm.length_eq, ← rv.length]
    exact hz
end
/-! ### big steps -/
section
variable {K : PySem.W.Frag} {S : Side} {ρ : Rho}
theorem dpAll_strs' {M : Hp} : ∀ {l : List Str} {vs : List V}, DpAll K M vs (sD l) → vs = l.map V.str
  | [], _, h => by cases h; rfl
  | x :: l, _, h => by
    cases h with
    | cons h1 h2 =>
      cases h1
      rw [dpAll_strs' h2, List.map_cons]
/-- x is the tuple l, as data -/
def IsTup (K : PySem.W.Frag) (M : Hp) (x : V) (l : List Str) : Prop := Dp K M x (tupS l)
theorem allR_of {M : Hp} : ∀ {L : List (List Str)} {vs : List V}, DpAll K M vs (L.map tupS) → AllR (IsTup K M) vs L
  | [], _, h => by cases h; trivial
  | l :: L, _, h => by
    cases h with
    | cons h1 h2 => exact ⟨h1, allR_of h2⟩
theorem allR_dp {M : Hp} : ∀ {xs : List V} {L : List (List Str)}, AllR (IsTup K M) xs L → DpAll K M xs (L.map tupS)
  | [], [], _ => .nil
  | _ :: _, _ :: _, h => .cons h.1 (allR_dp h.2)
  | [], _ :: _, h => h.elim
  | _ :: _, [], h => h.elim
theorem ec_sortTS {L : List (List Str)} {P : DV → Prop} (ne : ∀ l ∈ L, l ≠ []) (p : ∀ M, M.Perm L → sortedT M → P (.d (.list (M.map tupS)))) : EvC K S (rSortTS K) [.d (.list (L.map tupS))] P := fun vs H hi hv Q q => by
  match vs, hv with
  | [v], hv =>
    obtain ⟨a, ws, rfl, ha, da⟩ := dp_lst hv.1
    refine ⟨a, ws, L, IsTup K (S.view H), rfl, ex_sql (view_ex S H) ha, fun x l hx => ?_, allR_of da, ne, fun zs M l hz pm so nl => ?_⟩
    · obtain ⟨t, xs, e, ht, hd⟩ := dp_tup hx
      rw [dpAll_strs' hd] at ht
      exact ⟨t, e, ex_sqt (view_ex S H) ht⟩
    · have t := Side.To.new (S := S) (o := .lst zs) hi nl
      exact q _ (.d (.list (M.map tupS))) _ t (.lst (.inl (.inl (view_new hi nl))) (dpAll_mono t.ex _ _ (allR_dp hz))) (p M pm so)
/-- sorted of a list of texts -/
theorem ec_sortS {L : List Str} {P : DV → Prop} (h64 : L.length < 64) (p : ∀ M, M.Perm L → sortedS M = true → P (.d (lstS M))) : EvC K S (rSortedS K) [.d (lstS L)] P := fun vs H hi hv Q q => by
  match vs, hv with
  | [v], hv =>
    obtain ⟨a, ws, rfl, ha, da⟩ := dp_lst hv.1
    rw [dpAll_strs' da] at ha
    refine ⟨a, L, rfl, ex_sql (view_ex S H) ha, h64, fun ys l pm so nl => ?_⟩
    have t := Side.To.new (S := S) (o := .lst (ys.map V.str)) hi nl
    exact q _ (.d (lstS ys)) _ t (.lst (.inl (.inl (view_new hi nl))) (dpAll_strs ys)) (p ys pm so)
end
end Tw
/-! d.get(k, x) of a dict of one's own; sets of promises; what goes over when mine and yours change places -/
namespace Tw
open PySem PySem.Spec PyProof.Rows L2
section
variable {K : PySem.W.Frag} {S : Side} {ρ : Rho}
theorem kdp_none {M : Hp} {k : Key} : ∀ {vs : List (Key × V)} {kvs : List (Key × PyData)}, KDp K M vs kvs → lookD kvs k = none → valV vs k = none
  | [], [], _, _ => rfl
  | p :: vs, q :: kvs, h, e => by
    by_cases c : q.1 = k
    · have e1 : lookD (q :: kvs) k = some q.2 := by simp [lookD, List.find?_cons, c]
      rw [e1] at e
      cases e
    · have e1 : lookD (q :: kvs) k = lookD kvs k := by simp [lookD, List.find?_cons, c]
      rw [e1] at e
      rw [valV_neg (by rw [h.1]; exact c)]
      exact kdp_none h.2.2 e
  | [], _ :: _, h, _ => h.elim
  | _ :: _, [], h, _ => h.elim
theorem ev_dget2 {td ty tx : TE} {P : DV → Prop} (h : Ev K S td ρ fun x => ∃ kvs, x = .dk kvs ∧ Ev K S ty ρ fun y => ∃ k : Str, y = .d (.str k) ∧ Ev K S tx ρ fun z => ∃ d, z = .d d ∧ P (.d ((lookD kvs (.inr k)).getD d))) : Ev K S (tDGet2 td ty tx) ρ P := fun σ H hi he Q q =>
  h σ H hi he _ fun v x H1 t1 i1 p1 => by
    obtain ⟨kvs, rfl, p1⟩ := p1
    obtain ⟨p, vs, rfl, hp, hk⟩ := id i1
    refine ⟨p, rfl, .inl ⟨vs, .inl (view_sub hp)⟩, p1 σ H1 t1.inv (he.mono t1.ex) _ fun w y H2 t2 i2 p2 => ?_⟩
    obtain ⟨k, rfl, p2⟩ := p2
    refine p2 σ H2 t2.inv (he.mono (t1.trans t2).ex) _ fun u z H3 t3 i3 p3 => ?_
    obtain ⟨d, rfl, p3⟩ := p3
    cases dp_d i2
    obtain ⟨p', vs', e', hp', hk'⟩ := Is.mono (t2.trans t3).ex i1
    cases e'
    refine ⟨valV vs' (.inr k), .inl ⟨vs', .inr k, .inl (view_sub hp'), rfl, rfl⟩, ?_⟩
    cases e : lookD kvs (.inr k) with
    | some c =>
      rw [e] at p3
      obtain ⟨c', e2, e3⟩ := kdp_look hk' e
      rw [e2]
      exact q _ (.d c) H3 ((t1.trans t2).trans t3) e3 p3
    | none =>
      rw [e] at p3
      rw [kdp_none hk' e]
      exact q _ (.d d) H3 ((t1.trans t2).trans t3) i3 p3
end
/-! ### sets of promises -/
def waysN : List Way5 := waysC.map wayC
theorem ways_D : allWays.map tupS = waysN.map Way5.D := by
  rw [ways_codes, waysN, List.map_map, List.map_map]
  rfl
theorem waysN_len : waysN.length = 216 := by decide +kernel
theorem waysN_isW {v : Way5} (h : v ∈ waysN) : isW v := by
  obtain ⟨c, hc, e⟩ := List.mem_map.mp h
  exact ⟨c, hc, e.symm⟩
theorem isW_mem {v : Way5} (h : isW v) : v ∈ waysN := by
  obtain ⟨c, hc, rfl⟩ := h
  exact List.mem_map.mpr ⟨c, hc, rfl⟩
def wantedOk (I : List Nat) : Prop := (List.range 12).filter (fun j => decide (j ∈ I)) = I
instance (I : List Nat) : Decidable (wantedOk I) := inferInstanceAs (Decidable (_ = _))
theorem wanted_lt {I : List Nat} (h : wantedOk I) : ∀ i ∈ I, i < 12 := fun i hi => by
  rw [← h] at hi
  exact List.mem_range.mp (List.mem_filter.mp hi).1
theorem prom_in {I : List Nat} (hI : ∀ i ∈ I, i < 12) {j : Nat} (hj : j < 12) : promN j ∈ I.map promN ↔ j ∈ I := by
  rw [List.mem_map]
  exact ⟨fun ⟨i, hi, e⟩ => by rw [← promN_inj i (hI i hi) j hj e]; exact hi, fun h => ⟨j, h, rfl⟩⟩
theorem wanted_len {I : List Nat} (h : wantedOk I) : I.length ≤ 12 := by
  rw [← h]
  exact Nat.le_trans (List.length_filter_le _ _) (by rw [List.length_range]; exact Nat.le_refl _)
def keepAll (I : List Nat) (v : Way5) : Bool := I.all (keepsN v)
theorem keep_all_least {v : Way5} {i : Nat} : (leastT (cntN i)).all (fun l => holdsN i v (l.map keyC)) = keepsN v i := by
  unfold keepsN breakN
  cases q : (leastT (cntN i)).find? fun vs => !holdsN i v (vs.map keyC) with
  | none =>
    rw [Option.isNone_none, List.all_eq_true]
    intro l hl
    have := List.find?_eq_none.mp q l hl
    simpa using this
  | some x =>
    rw [Option.isNone_some, List.all_eq_false]
    have := List.find?_some (p := fun vs : List Nat => !holdsN i v (vs.map keyC)) q
    exact ⟨x, List.mem_of_find?_eq_some q, by simpa using this⟩
/-! ### by codes -/
def keepsC (i : Nat) (c : Code5) : Bool := (leastT (cntN i)).all (holdsC i c)
theorem keeps_c {i : Nat} (hi : i < 12) (c : Code5) : keepsN (wayC c) i = keepsC i c := by
  rw [← keep_all_least]
  unfold keepsC
  rw [Bool.eq_iff_iff, List.all_eq_true, List.all_eq_true]
  exact ⟨fun h l hl => by rw [← holds_c hi c (len_mem (least_len i hi) hl).1]; exact h l hl, fun h l hl => by rw [holds_c hi c (len_mem (least_len i hi) hl).1]; exact h l hl⟩
def tC (n : Nat) : Nat := if n = 1 then 2 else if n = 2 then 1 else n
def turnC (c : Code5) : Code5 := (c.1, tC c.2.2.1, tC c.2.1, c.2.2.2.1, tC c.2.2.2.2)
theorem turn_word (n : Nat) : wordC (tC n) = turnS (wordC n) := by
  match n with
  | 0 => rfl
  | 1 => rfl
  | 2 => rfl
  | n + 3 =>
    have e : tC (n + 3) = n + 3 := by unfold tC; rw [if_neg (by omega), if_neg (by omega)]
    rw [e]
    rfl
theorem turn_c (c : Code5) : wayC (turnC c) = (wayC c).turn := by
  unfold wayC turnC Way5.turn
  rw [turn_word, turn_word, turn_word]
theorem turn_mem : ∀ c ∈ waysC, turnC c ∈ waysC := by decide +kernel
theorem isW.turn {v : Way5} (h : isW v) : isW v.turn := by
  obtain ⟨c, hc, rfl⟩ := h
  exact ⟨turnC c, turn_mem c hc, (turn_c c).symm⟩
def turnI (i : Nat) : Nat := if i = 7 then 11 else if i = 11 then 7 else i
def over9 : List Nat := [1, 2, 4, 5, 6, 7, 8, 10, 11]
def sideOk (c : Code5) : Bool := over9.all (fun i => keepsC (turnI i) (turnC c) == keepsC i c) && (keepsC 5 c == decide (turnC c = c)) && (keepsC 7 c == (Nat.beq c.1 0 && Nat.beq c.2.1 1)) && (keepsC 10 c == Nat.beq c.2.2.2.2 3)
theorem side_all : waysC.all sideOk = true := by decide +kernel
theorem over_lt : ∀ i ∈ over9, i < 12 ∧ turnI i < 12 ∧ turnI i ∈ over9 ∧ turnI (turnI i) = i := by decide +kernel
theorem side_of {c : Code5} (hc : c ∈ waysC) : (∀ i ∈ over9, keepsC (turnI i) (turnC c) = keepsC i c) ∧ keepsC 5 c = decide (turnC c = c) ∧ keepsC 7 c = (Nat.beq c.1 0 && Nat.beq c.2.1 1) ∧ keepsC 10 c = Nat.beq c.2.2.2.2 3 := by
  have q := List.all_eq_true.mp side_all c hc
  unfold sideOk at q
  simp only [Bool.and_eq_true, beq_iff_eq, List.all_eq_true] at q
  exact ⟨q.1.1.1, q.1.1.2, q.1.2, q.2⟩
theorem keeps_turn {v : Way5} (h : isW v) {i : Nat} (hi : i ∈ over9) : keepsN v.turn (turnI i) = keepsN v i := by
  obtain ⟨c, hc, rfl⟩ := h
  obtain ⟨h1, h2, _⟩ := over_lt i hi
  rw [← turn_c, keeps_c h2, keeps_c h1]
  exact (side_of hc).1 i hi
theorem wordC_inj : ∀ a ∈ [0, 1, 2, 3], ∀ b ∈ [0, 1, 2, 3], wordC a = wordC b → a = b := by decide +kernel
theorem waysC_in : ∀ c ∈ waysC, c.1 ∈ [0, 1, 2, 3] ∧ c.2.1 ∈ [0, 1, 2, 3] ∧ c.2.2.1 ∈ [0, 1, 2, 3] ∧ c.2.2.2.1 ∈ [0, 1, 2, 3] ∧ c.2.2.2.2 ∈ [0, 1, 2, 3] := by decide +kernel
theorem wayC_inj {c d : Code5} (hc : c ∈ waysC) (hd : d ∈ waysC) (h : wayC c = wayC d) : c = d := by
  obtain ⟨a1, a2, a3, a4, a5⟩ := waysC_in c hc
  obtain ⟨b1, b2, b3, b4, b5⟩ := waysC_in d hd
  obtain ⟨c1, c2, c3, c4, c5⟩ := c
  obtain ⟨d1, d2, d3, d4, d5⟩ := d
  injection h with e1 e2 e3 e4 e5
  have f1 : c1 = d1 := wordC_inj _ a1 _ b1 e1
  have f2 : c2 = d2 := wordC_inj _ a2 _ b2 e2
  have f3 : c3 = d3 := wordC_inj _ a3 _ b3 e3
  have f4 : c4 = d4 := wordC_inj _ a4 _ b4 e4
  have f5 : c5 = d5 := wordC_inj _ a5 _ b5 e5
  rw [f1, f2, f3, f4, f5]
theorem eqv_sD : ∀ l m : List Str, PyData.eqvAll (sD l) (sD m) = decide (l = m)
  | [], [] => by simp [sD, PyData.eqvAll]
  | [], _ :: _ => by simp [sD, PyData.eqvAll]
  | _ :: _, [] => by simp [sD, PyData.eqvAll]
  | x :: l, y :: m => by
    have ih := eqv_sD l m
    show PyData.eqvAll (PyData.str x :: sD l) (PyData.str y :: sD m) = _
    simp only [PyData.eqvAll, ih, eqv_strs]
    by_cases h1 : x = y <;> by_cases h2 : l = m <;> simp [h1, h2]
theorem eqv_tup (l m : List Str) : PyData.eqv (tupS l) (tupS m) = decide (l = m) := by
  show PyData.eqv (.tuple (sD l)) (.tuple (sD m)) = _
  simp only [PyData.eqv, eqv_sD]
theorem L_inj {v w : Way5} (h : v.L = w.L) : v = w := by
  cases v; cases w
  simp only [Way5.L, List.cons.injEq, and_true] at h
  obtain ⟨h1, h2, h3, h4, h5⟩ := h
  subst h1 h2 h3 h4 h5
  rfl
theorem eqv_way (v w : Way5) : PyData.eqv v.D w.D = decide (v.L = w.L) := eqv_tup _ _
theorem fair_turn {v : Way5} (h : isW v) : PyData.eqv v.turn.D v.D = keepsN v 5 := by
  rw [eqv_way]
  obtain ⟨c, hc, rfl⟩ := h
  rw [keeps_c (by decide), (side_of hc).2.1, Bool.eq_iff_iff, decide_eq_true_iff, decide_eq_true_iff, ← turn_c]
  exact ⟨fun e => wayC_inj (turn_mem c hc) hc (L_inj e), fun e => by rw [e]⟩
theorem mine_words {v : Way5} (h : isW v) : keepsN v 7 = decide ([v.a, v.b] = (["base", "mine"] : List Str)) := by
  obtain ⟨c, hc, rfl⟩ := h
  obtain ⟨a1, a2, a3, a4, a5⟩ := waysC_in c hc
  rw [keeps_c (by decide), (side_of hc).2.2.1, beq_dec, beq_dec, Bool.eq_iff_iff, Bool.and_eq_true, decide_eq_true_iff, decide_eq_true_iff, decide_eq_true_iff]
  simp only [List.cons.injEq, and_true]
  exact ⟨fun ⟨e1, e2⟩ => ⟨by show wordC c.1 = _; rw [e1]; rfl, by show wordC c.2.1 = _; rw [e2]; rfl⟩, fun ⟨e1, e2⟩ => ⟨wordC_inj _ a1 0 (by decide) e1, wordC_inj _ a2 1 (by decide) e2⟩⟩
theorem told_words {v : Way5} (h : isW v) : keepsN v 10 = decide (v.e = "refuse") := by
  obtain ⟨c, hc, rfl⟩ := h
  obtain ⟨a1, a2, a3, a4, a5⟩ := waysC_in c hc
  rw [keeps_c (by decide), (side_of hc).2.2.2, beq_dec, Bool.eq_iff_iff, decide_eq_true_iff, decide_eq_true_iff]
  exact ⟨fun e => by show wordC c.2.2.2.2 = _; rw [e]; rfl, fun e => wordC_inj _ a5 3 (by decide) e⟩
/-! ### the keepers of a set and of its other side -/
theorem waysN_nodup : waysN.Nodup := by
  have h : waysC.Nodup := by decide +kernel
  refine List.pairwise_map.mpr ?_
  have : ∀ {l : List Code5}, (∀ x ∈ l, x ∈ waysC) → l.Nodup → l.Pairwise fun a b => wayC a ≠ wayC b := by
    intro l
    induction l with
    | nil => intro _ _; exact List.Pairwise.nil
    | cons x l ih =>
      intro hm nd
      obtain ⟨n1, n2⟩ := List.nodup_cons.mp nd
      refine List.pairwise_cons.mpr ⟨fun y hy e => n1 ?_, ih (fun z hz => hm z (List.mem_cons_of_mem _ hz)) n2⟩
      rw [wayC_inj (hm x List.mem_cons_self) (hm y (List.mem_cons_of_mem _ hy)) e]
      exact hy
  exact this (fun _ h => h) h
theorem turn_inj {v w : Way5} (h : v.turn = w.turn) : v = w := by rw [← way_turn2 v, h, way_turn2]
def sortedB : List (List Str) → Bool
  | [] => true
  | x :: l => (l.all fun y => !ltT y x) && sortedB l
theorem sortedB_of : ∀ {l : List (List Str)}, sortedB l = true → sortedT l
  | [], _ => List.Pairwise.nil
  | x :: l, h => by
    have h : ((l.all fun y => !ltT y x) && sortedB l) = true := h
    rw [Bool.and_eq_true, List.all_eq_true] at h
    exact List.pairwise_cons.mpr ⟨fun y hy => by simpa using h.1 y hy, sortedB_of h.2⟩
theorem ltT_c : ∀ a b : List Nat, True := fun _ _ => trivial
/-- adjacent ones in order: all in order -/
def chainB : List Str → List (List Str) → Bool
  | _, [] => true
  | x, y :: l => ltT x y && chainB y l
theorem chain_pw : ∀ {x : List Str} {l : List (List Str)}, chainB x l = true → (x :: l).Pairwise fun a b => ltT a b = true
  | x, [], _ => List.pairwise_singleton _ _
  | x, y :: l, h => by
    have h : (ltT x y && chainB y l) = true := h
    rw [Bool.and_eq_true] at h
    have ih := chain_pw h.2
    refine List.pairwise_cons.mpr ⟨fun z hz => ?_, ih⟩
    rcases List.mem_cons.mp hz with e | hz
    · rw [e]; exact h.1
    · exact ltT_trans h.1 ((List.pairwise_cons.mp ih).1 z hz)
theorem ways_asc : (allWays.Pairwise fun a b => ltT a b = true) := by
  have h : (match allWays with | [] => true | x :: l => chainB x l) = true := by decide +kernel
  generalize allWays = l at h
  cases l with
  | nil => exact List.Pairwise.nil
  | cons x l => exact chain_pw h
theorem ways_sorted (p : Way5 → Bool) : sortedT ((waysN.filter p).map Way5.L) := by
  have e : allWays = waysN.map Way5.L := by rw [ways_codes, waysN, List.map_map]; rfl
  have h := ways_asc
  rw [e] at h
  have h2 : waysN.Pairwise fun a b => ltT a.L b.L = true := List.pairwise_map.mp h
  exact List.pairwise_map.mpr ((h2.filter p).imp fun h => ltT_asym h)
theorem other_perm {I J : List Nat} (hI : ∀ i ∈ I, i ∈ over9) (hJ : ∀ j, j ∈ J ↔ ∃ i ∈ I, turnI i = j) : ((waysN.filter (keepAll I)).map fun v => v.turn.L).Perm ((waysN.filter (keepAll J)).map Way5.L) := by
  have key : ∀ v, isW v → (keepAll J v.turn = true ↔ keepAll I v = true) := fun v hv => by
    unfold keepAll
    rw [List.all_eq_true, List.all_eq_true]
    exact ⟨fun h i hi => by rw [← keeps_turn hv (hI i hi)]; exact h _ ((hJ _).mpr ⟨i, hi, rfl⟩), fun h j hj => by
      obtain ⟨i, hi, rfl⟩ := (hJ j).mp hj
      rw [keeps_turn hv (hI i hi)]
      exact h i hi⟩
  have e : ((waysN.filter (keepAll I)).map fun v => v.turn.L) = ((waysN.filter (keepAll I)).map Way5.turn).map Way5.L := by rw [List.map_map]; rfl
  rw [e]
  refine List.Perm.map _ ((List.perm_ext_iff_of_nodup ?_ (waysN_nodup.filter _)).mpr fun w => ?_)
  · exact List.pairwise_map.mpr ((waysN_nodup.filter _).imp fun n e => n (turn_inj e))
  · rw [List.mem_map, List.mem_filter]
    refine ⟨fun ⟨v, hv, e⟩ => ?_, fun ⟨hw, hk⟩ => ⟨w.turn, ?_, way_turn2 w⟩⟩
    · subst e
      obtain ⟨hv, hk⟩ := List.mem_filter.mp hv
      have iv := waysN_isW hv
      exact ⟨isW_mem iv.turn, (key v iv).mpr hk⟩
    · have iw := waysN_isW hw
      refine List.mem_filter.mpr ⟨isW_mem iw.turn, (key w.turn iw.turn).mp ?_⟩
      rw [way_turn2]
      exact hk
theorem words_get : ∀ i : Nat, i < 12 → ((lookD [(.inr "mine", PyData.str "yours"), (.inr "yours", PyData.str "mine")] (.inr (promN i))).getD (.str (promN i))) = .str (promN (turnI i)) := fun i hi => by
  match i, hi with
  | 0, _ => rfl
  | 1, _ => rfl
  | 2, _ => rfl
  | 3, _ => rfl
  | 4, _ => rfl
  | 5, _ => rfl
  | 6, _ => rfl
  | 7, _ => rfl
  | 8, _ => rfl
  | 9, _ => rfl
  | 10, _ => rfl
  | 11, _ => rfl
theorem prom_in_filter {p : Nat → Bool} {j : Nat} (hj : j < 12) : decide (promN j ∈ ((List.range 12).filter p).map promN) = p j := by
  rw [Bool.eq_iff_iff, decide_eq_true_iff, prom_in (fun i hi => List.mem_range.mp (List.mem_filter.mp hi).1) hj, List.mem_filter]
  exact ⟨fun h => h.2, fun h => ⟨List.mem_range.mpr hj, h⟩⟩
theorem eqv_listW : ∀ l : List Way5, PyData.eqv (.list (l.map Way5.D)) (.list (l.map Way5.D)) = true := fun l => by
  have h : ∀ l : List Way5, PyData.eqvAll (l.map Way5.D) (l.map Way5.D) = true := fun l => by
    induction l with
    | nil => simp [PyData.eqvAll]
    | cons v l ih =>
      rw [List.map_cons]
      simp only [PyData.eqvAll, ih, way_eqv, Bool.and_self]
  simp only [PyData.eqv, h]
theorem listW_depth (l : List Way5) : (PyData.list (l.map Way5.D)).depth ≤ 52 := by
  have h : PyData.depthAll (l.map Way5.D) ≤ 51 := by
    induction l with
    | nil => simp [PyData.depthAll]
    | cons v l ih =>
      rw [List.map_cons]
      simp only [PyData.depthAll]
      have := way_depth v
      omega
  simp only [PyData.depth]
  omega
end Tw
/-! enumerate(t), t a tuple -/
namespace Tw
open PySem PySem.Spec PyProof.Rows L2
open AutoSeq1 (wpAny_loadPart')
theorem enumT_made (t : Addr) (items : Array Value) (n : Nat) (dct : Option Addr) (sl : Array (Option Value)) :
    Meets (Builtin.«enumerate.__new__» ⟨[.type "enumerate", .ref t], []⟩) (fun _ R s => s.heap.get? t = some ⟨.type "tuple", dct, .seq items n, sl⟩ ∧
      R (.ok (.ret (.ref (s.heap.objs.size + 1)))) { s with heap := (s.heap.push { cls := .type "tuple_iterator", data := .fields #[.ref t, .int 0 0] }).push { cls := .type "enumerate", data := .fields #[.none, .bool false, .ref s.heap.objs.size, rawInt 0, .none, .none] } }) :=
  .of_wp fun prog w A R s h => by
    obtain ⟨hp, g, d, tk, os⟩ := s
    obtain ⟨hl, h⟩ := h
    have hsub := sub_enumerate
    have hT : Heap.IsTuple (Shared.heap ⟨hp, g, d, tk, os⟩) t items := ⟨_, hl, rfl, n, rfl⟩
    have hz : (hp.push { cls := .type "tuple_iterator", data := .fields #[.ref t, .int 0 0] }).objs.size = hp.objs.size + 1 := Heap.size_push ..
    have h' := h
    rw [show (Shared.heap ⟨hp, g, d, tk, os⟩).objs.size + 1 = (hp.push { cls := .type "tuple_iterator", data := .fields #[.ref t, .int 0 0] }).objs.size from hz.symm] at h'
    clear h
    wp_walk using wpAny_loadPart' hl
    refine wpAny_stack_any fun st => wpAny_pure ?_
    split
    · rename_i c _ _ _ _ _
      cases (c == Value.type "enumerate")
      · wp_walk using wpAny_loadPart' hl, wpAny_pyIter_tuple hT
        exact ⟨_, rfl, h'⟩
      · wp_walk using wpAny_loadPart' hl, wpAny_pyIter_tuple hT
        exact ⟨_, rfl, h'⟩
    · wp_walk using wpAny_loadPart' hl, wpAny_pyIter_tuple hT
      exact ⟨_, rfl, h'⟩
theorem call_enumT {prog : Program} {w : World} {A : Around} {E : Value → Shared → Prop} {s : Shared} {t : Addr} {items : Array Value} {Q : Value → Shared → Prop} (hT : s.heap.IsTuple t items)
    (h : ∀ h', IsEnum h' (s.heap.objs.size + 1) s.heap.objs.size 0 .none → h'.IsTupleIter s.heap.objs.size t 0 → h'.objs.size = s.heap.objs.size + 2 → (∀ b o, s.heap.get? b = some o → h'.get? b = some o) → Q (.ref (s.heap.objs.size + 1)) { s with heap := h' }) :
    wpAny (model prog w) A (call (.type "enumerate") [.ref t]) Q E s := by
  obtain ⟨⟨c, dct, dt, sl⟩, hl, hc, n, hd⟩ := hT
  obtain rfl : c = .type "tuple" := hc
  obtain rfl : dt = .seq items n := hd
  have hz : (s.heap.push { cls := .type "tuple_iterator", data := .fields #[.ref t, .int 0 0] }).objs.size = s.heap.objs.size + 1 := Heap.size_push ..
  have he : IsEnum ((s.heap.push { cls := .type "tuple_iterator", data := .fields #[.ref t, .int 0 0] }).push { cls := .type "enumerate", data := .fields #[.none, .bool false, .ref s.heap.objs.size, rawInt 0, .none, .none] }) (s.heap.objs.size + 1) s.heap.objs.size 0 .none := by
    rw [← hz]
    exact Heap.get?_push_size _ rfl
  exact callType_new F.called_enumerate (by decide) (F.typeCall_enumerate_1 _) (F.newCall_enumerate_1 _) (fun obj => F.args_object_init_2 obj _) F.entry_enumerate_new (enumT_made t items n dct sl)
    ⟨hl, ⟨_, he, rfl⟩, h _ he ⟨_, Heap.get?_push_of_some _ (Heap.get?_push_size _ rfl), rfl, rfl⟩ (by rw [Heap.size_push, hz]) fun b o x => Heap.get?_push_of_some _ (Heap.get?_push_of_some _ x)⟩
theorem next_enumT_end {prog : Program} {w : World} {A : Around} {E : Value → Shared → Prop} {s : Shared} {Q : Option Value → Shared → Prop} {e it t : Addr} {i : Int} {j : Nat} {items : Array Value} {old : Value} (hh : A.handled = none) (he : IsEnum s.heap e it i old)
    (hit : s.heap.IsTupleIter it t j) (hT : s.heap.IsTuple t items) (hj : items[j]? = none) (hQ : ∀ h', Heap.ExtBut it s.heap h' → Q none { s with heap := h' }) : wpAny (model prog w) A (pyNext (.ref e)) Q E s := by
  have ty : s.TypeIs (.ref e) "enumerate" := ⟨_, he, rfl⟩
  unfold pyNext
  refine wpAny_bind (wpAny_attempt (wpAny_callSpecial?_slot (name := Str.ofString "__next__") ty F.slot_enumerate_next (wpAny_call_entry F.slot_enumerate_next ty F.entry_enumerate_next ?_ (F.args_enumerate_next_1 _))))
  show wpAny _ _ (field (.ref e) 2 >>= _) _ _ _
  refine wpAny_bind (wpAny_field he rfl (x := .ref it) rfl (wpAny_bind (wpAny_nextOf_tuple_end (A := A.in1) hh hit hT hj fun h' x ex hx => ?_)))
  obtain ⟨o, ho, hc⟩ := hx
  exact wpAny_bind (wpAny_isInstance (T := "StopIteration") (b := true) ⟨o, ho, hc⟩ isSubtype_stop (wpAny_pure (hQ _ ex)))
/-- the tuple at a, each item in a new pair -/
def IteT (K : PySem.W.Frag) (a : Addr) : It :=
  ⟨fun i H => ∃ (xs : List V) (x : V), SqT K H a xs ∧ xs[i]? = some x, fun i H v H' => ∃ T x, v = .ref T ∧ H T = none ∧ H' = upd H T (.tup [.int (i : Nat), x]) ∧ ∀ xs, SqT K H a xs → xs[i]? = some x, fun i H => ∃ xs : List V, SqT K H a xs ∧ xs.length ≤ i⟩
theorem turn_enumT {P : Program} {w : World} {K : PySem.W.Frag} {elts : List Expr} {kk : Nat} {tpos : Pos} (a e it : Addr) :
    Turn P w K (.Tuple elts kk tpos) (IteT K a) [e, it] e (fun i h => (∃ old, IsEnum h e it ((i : Nat) : Int) old) ∧ h.IsTupleIter it a i ∧ e ≠ it ∧ a ≠ it ∧ a ≠ e) where
  mem := List.mem_cons_self
  obj := fun i h st b hb => by
    obtain ⟨⟨old, he⟩, ⟨o, ho, hc, hd⟩, _⟩ := st
    rcases List.mem_cons.mp hb with z | hb
    · rw [z]; exact ⟨_, he, fun v q => nomatch q⟩
    · rw [List.mem_singleton.mp hb]; exact ⟨o, ho, fun v q => by rw [hd] at q; cases q⟩
  keep := fun i h h' st k => let ⟨⟨old, he⟩, hi, hne⟩ := st; ⟨⟨old, k e List.mem_cons_self _ he⟩, hi.at fun o q => k it (List.mem_cons_of_mem _ List.mem_cons_self) o q, hne⟩
  item := by
    intro X hP hw hK hc i pins s σ H E I hf st hg
    subst hP hw hK
    obtain ⟨⟨old, he⟩, hit, hne, hai, hae⟩ := st
    obtain ⟨xs, x, hq, hx⟩ := hg
    obtain ⟨its, rv, p, hz⟩ := I.tuple hq
    obtain ⟨u, hu, ru⟩ := rv.get hx
    have hel : e < s.heap.objs.size := Heap.lt_size he
    have hil : it < s.heap.objs.size := by obtain ⟨_, q, _⟩ := hit; exact Heap.lt_size q
    have hui : its.toArray[i]? = some u := by simpa using hu
    have hlt : i < its.toArray.size := (Array.getElem?_eq_some_iff.mp hui).1
    refine wpAny_pyNext_enum_itemD (Draws.tuple (A := X.A.in1) (I.ok.hd hc) it a hai its.toArray) he ⟨hit, p⟩ hlt hne (by
      intro z
      rcases List.mem_cons.mp z with z | z
      · exact hne z
      · exact hae (List.mem_singleton.mp z).symm) fun x' h' tk hP ho st' hT hsz hk => ?_
    obtain rfl : u = x' := Option.some.inj (hui.symm.trans hP)
    obtain ⟨hit', _⟩ := st'
    refine ⟨_, rfl, wpAny_letOwnedTupleGo_enum (s := { s with heap := h', toks := tk + 1 }) ho fun h'' he' sb => ?_⟩
    have hT2 : h''.get? s.heap.objs.size = some { cls := .type "tuple", data := .seq #[.int i tk, u] } := (sb.2 _ (Nat.ne_of_gt hel)).trans hT
    have new : ObjOk X.prog X.w (upd H s.heap.objs.size (.tup [.int (i : Nat), x])) h'' s.heap.objs.size (.tup [.int (i : Nat), x]) :=
      ⟨by show 2 ≤ sizeLine; decide, [.int i tk, u], .cons ⟨_, rfl⟩ (.cons ru .nil), ⟨_, hT2, rfl, _, rfl⟩⟩
    have I1 : Inv X pins σ (upd H s.heap.objs.size (.tup [.int (i : Nat), x])) { s with heap := h'', toks := tk + 1 } :=
      I.turnedNew (ch := [e, it]) (fun b ob hb q => (sb.2 b (fun z => hb (by simp [z]))).trans (hk b ob (fun z => hb (by simp [z])) (fun z => hb (by simp [z])) q)) hf (Nat.le_refl _) new
    refine ⟨.ref s.heap.objs.size, _, I1, rfl, ⟨_, x, rfl, I.hok.fresh (Nat.le_refl _), rfl, fun ys hy => by rw [I.tuple_inj hy hq]; exact hx⟩, ⟨⟨u, ?_⟩, hit'.at fun o q => (sb.2 it (Ne.symm hne)).trans q, hne, hai, hae⟩, fun b hb => ?_⟩
    · rw [show ((i + 1 : Nat) : Int) = (i : Int) + 1 by omega]
      exact he'
    · have hb' : b < s.heap.objs.size := by
        rcases List.mem_cons.mp hb with z | z
        · rw [z]; exact hel
        · rw [List.mem_singleton.mp z]; exact hil
      rw [upd_ne (Nat.ne_of_lt hb')]
      exact (hf b hb).1
  done := by
    intro X hP hw hK hc i pins s σ H E I hf st hg
    subst hP hw hK
    obtain ⟨⟨old, he⟩, hit, hne, hai, hae⟩ := st
    obtain ⟨xs, hq, hx⟩ := hg
    obtain ⟨its, rv, p, hz⟩ := I.tuple hq
    obtain ⟨f0, f1, f2, f3, f4, f5⟩ := hf it (List.mem_cons_of_mem _ List.mem_cons_self)
    have hl := rv.length
    refine next_enumT_end (I.ok.hd hc) he hit p (by simp; omega) fun h' eb => ⟨rfl, I.turned (t' := s.toks) (fun b o hb q => eb b o hb q) f0 f1 f3 f4 f5⟩
  self := fun A i s Q E st h => let ⟨⟨_, he⟩, _⟩ := st; wpAny_pyIter_enum he h
def iEnumT (K : PySem.W.Frag) (ta : TA) : TI := fun σ H R => ta σ H fun vs H1 => ∃ a xs, vs = [.ref a] ∧ SqT K H1 a xs ∧ R (IteT K a) H1
theorem pi_enumT {X : Cx} {K : PySem.W.Frag} (hK : X.K = K) {e : Expr} {ta : TA} {p pos tpos : Pos} {elts : List Expr} {kk : Nat} (hg : Gl X "enumerate") (hm : X.mg "enumerate" = none) (ha : PA X [e] ta) (hs : starEach [e] X.env = [(false, eval e X.env)] := by rfl) :
    PI X (.Tuple elts kk tpos) (.Call (.Name "enumerate" p) [e] [] pos) (iEnumT K ta) := by
  subst hK
  refine ⟨fun pins s σ H R I h => ?_⟩
  refine Call_ (ld_blt I hg hm boot_enumerate (PyProof.Rows.callWith_type1 (thn (ha.run pos pins s σ H _ I h) fun us s1 ⟨vs, H1, I1, r1, q1⟩ => ?_) hs rfl))
  obtain ⟨a, xs, rfl, hq, q⟩ := q1
  rw [Vals.ref1 r1]
  obtain ⟨its, rv, p', hz⟩ := I1.tuple hq
  have hal : a < s1.heap.objs.size := let ⟨o, ho, _⟩ := p'; Heap.lt_size ho
  refine call_enumT p' fun h' he hit hsz hk => wpAny_pyIter_enum he ?_
  have I2 : Inv X pins σ H1 { s1 with heap := h' } := I1.kept (t' := s1.toks) hk
  refine ⟨s1.heap.objs.size + 1, [s1.heap.objs.size + 1, s1.heap.objs.size], _, _, H1, rfl, I2, turn_enumT a (s1.heap.objs.size + 1) s1.heap.objs.size, ⟨⟨.none, he⟩, hit, Nat.succ_ne_self _, Nat.ne_of_lt hal, Nat.ne_of_lt (Nat.lt_succ_of_lt hal)⟩, fun b hb => ?_, q⟩
  have hle : s1.heap.objs.size ≤ b := by
    rcases List.mem_cons.mp hb with z | z
    · rw [z]
      exact Nat.le_succ _
    · rw [List.mem_singleton.mp z]
      exact Nat.le_refl _
  exact I1.fpOk hle (I1.hok.fresh hle)
/-- the pairs -/
def enumD : Nat → List PyData → List PyData
  | _, [] => []
  | i, d :: ds => .tuple [.int (i : Int), d] :: enumD (i + 1) ds
theorem enumD_len : ∀ (ds : List PyData) (i : Nat), (enumD i ds).length = ds.length
  | [], _ => rfl
  | d :: ds, i => by
    show (enumD (i + 1) ds).length + 1 = ds.length + 1
    rw [enumD_len ds]
theorem enumD_get : ∀ (ds : List PyData) (i j : Nat), (enumD i ds)[j]? = ds[j]?.map fun d => .tuple [.int ((i + j : Nat) : Int), d]
  | [], _, _ => rfl
  | d :: ds, i, 0 => rfl
  | d :: ds, i, j + 1 => by
    show (enumD (i + 1) ds)[j]? = _
    rw [enumD_get ds (i + 1) j, show i + 1 + j = i + (j + 1) by omega]
    rfl
section
variable {K : PySem.W.Frag} {S : Side} {ρ : Rho}
theorem walk_enumT {a : Addr} {vs : List V} {ds : List PyData} {M : Hp} (h : SqT K M a vs) (hd : DpAll K M vs ds) : Walk K (IteT K a) (enumD 0 ds) M where
  go := fun S H i hi e hl => by
    rw [enumD_len] at hl
    obtain ⟨v, hv, _⟩ := dpa_get' hd (List.getElem?_eq_getElem hl)
    exact ⟨vs, v, ex_sqt (view_ex S H) (ex_sqt e h), hv⟩
  stop := fun S H i hi e hl => by
    rw [enumD_len] at hl
    exact ⟨vs, ex_sqt (view_ex S H) (ex_sqt e h), by rw [dpa_len hd]; exact hl⟩
  yld := fun S H i x H' hi e hl y => by
    rw [enumD_len] at hl
    obtain ⟨T, z, rfl, hn, rfl, hz⟩ := y
    have hv := hz vs (ex_sqt (view_ex S H) (ex_sqt e h))
    obtain ⟨d, e1, e2⟩ := dpa_get hd hv
    have t := Side.To.new (S := S) (o := .tup [.int (i : Nat), z]) hi hn
    refine ⟨t, .tuple [.int ((0 + i : Nat) : Int), d], by rw [enumD_get, e1]; rfl, ?_⟩
    rw [Nat.zero_add]
    exact .tup (.inl (.inl (view_new hi hn))) (.cons (.int _) (.cons (dp_mono t.ex _ _ (dp_mono e _ _ e2)) .nil)) fun z => Bool.noConfusion (show false = true from z)
theorem ei_enumT {ta : TA} {P : List PyData → Prop} (h : EvA K S ta ρ fun xs => ∃ ds, xs = [.d (.tuple ds)] ∧ P (enumD 0 ds)) : EvI K S (iEnumT K ta) ρ P := fun σ H hi he R r => h σ H hi he _ fun vs xs H1 t1 i1 p1 => by
  obtain ⟨ds, rfl, p1⟩ := p1
  match vs, i1 with
  | [v], i1 =>
    obtain ⟨a, ws, rfl, ha, da⟩ := dp_tup i1.1
    exact ⟨a, ws, rfl, ex_sqt (view_ex S H1) ha, r _ _ H1 t1 (walk_enumT ha da) p1⟩
end
end Tw
/-! a comprehension whose target is a pair of names -/
namespace Tw
open PySem PySem.Spec PyProof.Rows L2
abbrev gPair (K : PySem.W.Frag) (i j : Nat) : TG := gTup K 2 (gCons (gName i) (gCons (gName j) gNil))
def pairD (p : PyData × PyData) : PyData := .tuple [p.1, p.2]
def lcpW (K : PySem.W.Frag) (S : Side) (ρ : Rho) (i j : Nat) (tt : TT) (te : TE) : List (PyData × PyData) → List PyData → (List PyData → Prop) → Prop
  | [], acc, P => P acc
  | x :: xs, acc, P => EvT K S tt ((ρ.set i (some (.d x.1))).set j (some (.d x.2))) fun b => (b = true → Ev K S te ((ρ.set i (some (.d x.1))).set j (some (.d x.2))) fun y => ∃ d, y = .d d ∧ lcpW K S ρ i j tt te xs (acc ++ [d]) P) ∧ (b = false → lcpW K S ρ i j tt te xs acc P)
theorem wipe_sub {σ : L2.St} {vs : List Nat} : L2.wipe (L2.wipe σ vs) vs = L2.wipe σ vs := by
  induction vs with
  | nil => rfl
  | cons v vs ih =>
    refine List.ext_getElem? fun i => ?_
    by_cases hi : i ∈ v :: vs
    · by_cases hl : i < σ.length
      · have a : ∀ (τ : L2.St), τ.length = σ.length → (L2.wipe τ (v :: vs))[i]? = some none := fun τ e => by
          have hl' : i < (L2.wipe τ (v :: vs)).length := by rw [L2.wipe_length, e]; exact hl
          cases q : (L2.wipe τ (v :: vs))[i]? with
          | none => exact absurd (List.getElem?_eq_none_iff.mp q) (Nat.not_le_of_lt hl')
          | some o =>
            cases o with
            | none => rfl
            | some x => exact absurd hi (wipe_some q).2
        rw [a _ (L2.wipe_length _ _), a _ rfl]
      · rw [List.getElem?_eq_none (by rw [L2.wipe_length, L2.wipe_length]; omega), List.getElem?_eq_none (by rw [L2.wipe_length]; omega)]
    · rw [L2.wipe_out hi]
theorem wipe_set {σ : L2.St} {vs : List Nat} {j : Nat} {x : Option V} (hj : j ∈ vs) : L2.wipe (σ.set j x) vs = L2.wipe σ vs := by
  refine List.ext_getElem? fun i => ?_
  by_cases hi : i ∈ vs
  · by_cases hl : i < σ.length
    · have a : ∀ (τ : L2.St), τ.length = σ.length → (L2.wipe τ vs)[i]? = some none := fun τ e => by
        have hl' : i < (L2.wipe τ vs).length := by rw [L2.wipe_length, e]; exact hl
        cases q : (L2.wipe τ vs)[i]? with
        | none => exact absurd (List.getElem?_eq_none_iff.mp q) (Nat.not_le_of_lt hl')
        | some o =>
          cases o with
          | none => rfl
          | some x => exact absurd hi (wipe_some q).2
      rw [a _ (List.length_set ..), a _ rfl]
    · rw [List.getElem?_eq_none (by rw [L2.wipe_length, List.length_set]; omega), List.getElem?_eq_none (by rw [L2.wipe_length]; omega)]
  · rw [L2.wipe_out hi, List.getElem?_set_ne (fun e : j = i => hi (by rw [← e]; exact hj)), L2.wipe_out hi]
section
variable {K : PySem.W.Frag} {S : Side} {ρ : Rho}
theorem dp_pair {M : Hp} {v : V} {p : PyData × PyData} (h : Dp K M v (pairD p)) : ∃ a x y, v = .ref a ∧ SqT K M a [x, y] ∧ Dp K M x p.1 ∧ Dp K M y p.2 := by
  obtain ⟨a, xs, rfl, ha, da⟩ := dp_tup h
  cases da with
  | cons h1 t =>
    cases t with
    | cons h2 t =>
      cases t
      exact ⟨a, _, _, rfl, ha, h1, h2⟩
theorem ev_lcP {wi : TI} {i j : Nat} {tt : TT} {te : TE} {vs : List Nat} {P : DV → Prop} (hi0 : i ∈ vs) (hj : j ∈ vs)
    (h : EvI K S wi ρ fun ds => ∃ ps, ds = ps.map pairD ∧ ps.length ≤ sizeLine ∧ ∀ T, Side.Le S T → lcpW K T (wipeR ρ vs) i j tt te ps [] fun out => P (.d (.list out))) : Ev K S (tLc wi (gPair K i j) tt te vs) ρ P := fun σ H hi he Q q =>
  h σ H hi he _ fun J ds H1 t1 W ⟨ps, eps, hz, p1⟩ => by
    intro D nD
    have p1 := p1 (S.hide D) (.hide D (.refl S))
    have t0 := Side.To.new (S := S) (o := .lst []) t1.inv nD
    have el : ds.length = ps.length := by rw [eps, List.length_map]
    refine ⟨fun n m H' => m = ps.length - n ∧ n ≤ ps.length ∧ S.To H1 H' ∧ ∃ ys acc, H' D = some (.lst ys) ∧ ys.length ≤ n ∧ DpAll K ((S.hide D).view H') ys acc ∧ lcpW K (S.hide D) (wipeR ρ vs) i j tt te (ps.drop n) acc (fun out => P (.d (.list out))),
      ⟨_, rfl, Nat.zero_le _, t0, [], [], upd_same, Nat.zero_le _, .nil, p1⟩, ?_⟩
    rintro n m H' ⟨rfl, hl, t, ys, acc, hD, hys, hacc, p⟩
    have inv' : (S.hide D).inv H' := ⟨t.inv, by rw [hD]; exact fun z => nomatch z⟩
    have ex1 : Evl.Ex (S.view H1) ((S.hide D).view H') := ex_hide nD t.keep
    by_cases hlt : n < ps.length
    · refine .inr ⟨W.go _ H' n inv' ex1 (by rw [el]; exact hlt), fun H2 => n + 1 ≤ ps.length ∧ S.To H1 H2 ∧ ∃ ys acc, H2 D = some (.lst ys) ∧ ys.length ≤ n + 1 ∧ DpAll K ((S.hide D).view H2) ys acc ∧ lcpW K (S.hide D) (wipeR ρ vs) i j tt te (ps.drop (n + 1)) acc (fun out => P (.d (.list out))),
        fun H2 z => ⟨ps.length - (n + 1), by omega, rfl, z⟩, fun x H2 y => ?_⟩
      obtain ⟨t2, d, hd, hx⟩ := W.yld _ H' n x H2 inv' ex1 (by rw [el]; exact hlt) y
      obtain ⟨pr, hpr⟩ : ∃ pr, ps[n]? = some pr := ⟨ps[n], List.getElem?_eq_getElem hlt⟩
      have ed : d = pairD pr := by
        rw [eps, List.getElem?_map, hpr] at hd
        exact (Option.some.inj hd).symm
      subst ed
      have e0 : ps.drop n = pr :: ps.drop (n + 1) := by
        obtain ⟨h1, h2⟩ := List.getElem?_eq_some_iff.mp hpr
        rw [List.drop_eq_getElem_cons h1, h2]
      rw [e0] at p
      have nm : ¬ (S.hide D).mutb D := fun z => absurd nD (S.there H1 D t1.inv (S.sub D z))
      obtain ⟨a, v1, v2, rfl, ha, hv1, hv2⟩ := dp_pair hx
      have env2 : EnvOk K ((S.hide D).view H2) (((L2.wipe σ vs).set i (some v1)).set j (some v2)) (((wipeR ρ vs).set i (some (.d pr.1))).set j (some (.d pr.2))) :=
        ((((he.mono t1.ex).mono (fun a o e => t2.ex a o (ex1 a o e))).wipe vs).set i (show Is K _ v1 (.d pr.1) from hv1)).set j (show Is K _ v2 (.d pr.2) from hv2)
      refine ⟨a, [v1, v2], rfl, ex_sqt (view_ex (S.hide D) H2) ha, rfl, v1, [v2], rfl, v2, [], rfl, rfl, ?_⟩
      refine ⟨by rw [wipe_set hj, wipe_set hi0, wipe_sub], p _ H2 t2.inv env2 _ fun b H3 t3 p3 => ?_⟩
      have b3 := t.trans (to_hide (t2.trans t3))
      cases b with
      | true =>
        rw [if_pos rfl]
        refine p3.1 rfl _ H3 t3.inv (env2.mono t3.ex) _ fun w z H4 t4 i4 p4 => ?_
        obtain ⟨c, rfl, p4⟩ := p4
        have t24 := (t2.trans t3).trans t4
        have hD4 : H4 D = some (.lst ys) := t24.keep D _ nm hD
        refine ⟨ys, hD4, by omega, hlt, ⟨?_, fun a o na e => ?_⟩, ys ++ [w], acc ++ [c], upd_same, by rw [List.length_append, List.length_singleton]; omega, ?_, p4⟩
        · exact S.put H4 D _ t4.inv.1 (nhid t1.inv nD) (nofrz_of hD4 fun _ _ z => nomatch z)
        · rw [upd_ne (ne_of_none e nD)]
          exact (b3.trans (to_hide t4)).keep a o na e
        · have ex4 : Evl.Ex ((S.hide D).view H4) ((S.hide D).view (upd H4 D (.lst (ys ++ [w])))) := fun a o e => by
            obtain ⟨n, e⟩ := view_some.mp e
            exact view_some.mpr ⟨n, by rw [upd_ne (fun z => n (.inr z))]; exact e⟩
          exact dpa_app (dpAll_mono (fun a o e => ex4 a o (t24.ex a o e)) _ _ hacc) (.cons (dp_mono ex4 _ _ i4) .nil)
      | false =>
        rw [if_neg Bool.false_ne_true]
        exact ⟨hlt, b3, ys, acc, (t2.trans t3).keep D _ nm hD, by omega, dpAll_mono (t2.trans t3).ex _ _ hacc, p3.2 rfl⟩
    · have e : n = ps.length := by omega
      subst e
      rw [List.drop_length] at p
      refine .inl ⟨W.stop _ H' _ inv' ex1 (by rw [el]; exact Nat.le_refl _), q _ (.d (.list acc)) H' (t1.trans t) ?_ p⟩
      exact .lst (.inl (.inl (view_some.mpr ⟨nhid t1.inv nD, hD⟩))) (dpAll_mono (hide_ex H') _ _ hacc)
/-- the turns of a filter -/
theorem lcpW_step {i j : Nat} {tt : TT} {te : TE} {f : PyData × PyData → Bool} {g : PyData × PyData → PyData} : ∀ (ps : List (PyData × PyData)) (acc : List PyData) {kc : List PyData → Prop},
    (∀ x ∈ ps, ∀ PB : Bool → Prop, PB (f x) → EvT K S tt ((ρ.set i (some (.d x.1))).set j (some (.d x.2))) PB) → (∀ x ∈ ps, f x = true → ∀ P : DV → Prop, P (.d (g x)) → Ev K S te ((ρ.set i (some (.d x.1))).set j (some (.d x.2))) P) →
    kc (acc ++ (ps.filter f).map g) → lcpW K S ρ i j tt te ps acc kc
  | [], acc, kc, _, _, k => by
    rw [List.filter_nil, List.map_nil, List.append_nil] at k
    exact k
  | x :: xs, acc, kc, h, hg, k => by
    refine h x List.mem_cons_self _ ⟨fun e => ?_, fun e => ?_⟩
    · refine hg x List.mem_cons_self e _ ⟨g x, rfl, ?_⟩
      refine lcpW_step xs _ (fun y hy => h y (List.mem_cons_of_mem _ hy)) (fun y hy => hg y (List.mem_cons_of_mem _ hy)) ?_
      rw [List.filter_cons, if_pos e] at k
      rw [List.append_assoc]
      exact k
    · refine lcpW_step xs _ (fun y hy => h y (List.mem_cons_of_mem _ hy)) (fun y hy => hg y (List.mem_cons_of_mem _ hy)) ?_
      rw [List.filter_cons, if_neg (by rw [e]; exact Bool.false_ne_true)] at k
      exact k
theorem enum_pairs : ∀ (ds : List PyData) (i : Nat), enumD i ds = ((List.range ds.length).map fun k => ((PyData.int ((i + k : Nat) : Int)), ds.getD k .none)).map pairD
  | [], _ => rfl
  | d :: ds, i => by
    have ih := enum_pairs ds (i + 1)
    have e2 : (List.range (ds.length + 1)) = 0 :: (List.range ds.length).map Nat.succ := List.range_succ_eq_map
    show PyData.tuple [.int (i : Int), d] :: enumD (i + 1) ds = ((List.range (ds.length + 1)).map _).map pairD
    rw [e2, ih, List.map_cons, List.map_cons, List.map_map, List.map_map, List.map_map]
    refine List.cons_eq_cons.mpr ⟨rfl, List.map_congr_left fun k _ => ?_⟩
    show pairD (PyData.int ((i + 1 + k : Nat) : Int), ds.getD k .none) = pairD (PyData.int ((i + (k + 1) : Nat) : Int), (d :: ds).getD (k + 1) .none)
    rw [show i + 1 + k = i + (k + 1) by omega]
    rfl
end
end Tw
/-! a dict whose keys are tuples of texts, wherever those tuples stand -/
namespace Tw
open PySem PySem.Spec PyProof.Rows L2
abbrev WEnt := List Str × Addr × V
def entRel (p : WEnt) (q : List Str × Addr × Value) : Prop := p.1 = q.1 ∧ p.2.1 = q.2.1 ∧ RelV p.2.2 q.2.2
def dWp (P : Program) (w : World) (a : Addr) (xs : List WEnt) (h : Heap) : Prop :=
  xs.length ≤ sizeLine ∧ (a == sysModules) = false ∧ (xs.map (·.1)).Nodup ∧ ∃ vs, Paired entRel xs vs ∧ ∃ o es ep, h.get? a = some o ∧ o.ExactDict ∧ o.data = .dict es ep ∧ es.toList = vs.map (entryOfKey (tupleKind (strKind P w)))
abbrev dW (P : Program) (w : World) (a : Addr) (xs : List WEnt) : HO := .ext (dWp P w a xs)
/-- the keys' tuples stand -/
def KAt (K : PySem.W.Frag) (H : Hp) (xs : List WEnt) : Prop := ∀ x ∈ xs, SqT K H x.2.1 (x.1.map V.str)
def atW (xs : List WEnt) (k : List Str) : Option V := (xs.find? fun x => decide (x.1 = k)).map (·.2.2)
def putW (xs : List WEnt) (k : List Str) (a : Addr) (v : V) : List WEnt := if (atW xs k).isSome then xs.map (fun x => if x.1 = k then (x.1, x.2.1, v) else x) else xs ++ [(k, a, v)]
section
variable {P : Program} {w : World} {H : Hp} {h : Heap} {a : Addr} {xs : List WEnt}
theorem dW_new (x : dWp P w a xs h) : ObjOk P w H h a (dW P w a xs) := by
  refine ⟨x, ?_, fun h1 h2 y k => ?_⟩
  · obtain ⟨_, _, _, vs, _, o, es, ep, e, _⟩ := x
    exact ⟨o, e⟩
  · obtain ⟨z, hd, nd, vs, r, o, es, ep, e, c⟩ := y
    exact ⟨z, hd, nd, vs, r, o, es, ep, k o e, c⟩
theorem dW_of (x : HOk P w H h) (e : H a = some (dW P w a xs)) : dWp P w a xs h := by
  have y : ObjOk P w H h a (dW P w a xs) := x a _ e
  exact y.1
theorem ent_keys : ∀ {xs : List WEnt} {vs : List (List Str × Addr × Value)}, Paired entRel xs vs → xs.map (·.1) = vs.map (·.1)
  | _, _, .nil => rfl
  | _, _, .cons h t => by rw [List.map_cons, List.map_cons, h.1, ent_keys t]
theorem ent_at (k : List Str) : ∀ {xs : List WEnt} {vs : List (List Str × Addr × Value)}, Paired entRel xs vs → RelO (atW xs k) ((atKey vs k).map (·.2))
  | _, _, .nil => trivial
  | _, _, .cons (a := p) (b := q) h t => by
    have ih := ent_at k t
    by_cases c : p.1 = k
    · have e1 : ∀ xs, atW (p :: xs) k = some p.2.2 := fun xs => by simp [atW, List.find?_cons, c]
      have c2 : q.1 = k := by rw [← h.1]; exact c
      have e2 : ∀ vs, atKey (q :: vs) k = some q.2 := fun vs => by simp [atKey, List.find?_cons, c2]
      rw [e1, e2]
      exact h.2.2
    · have e1 : ∀ xs, atW (p :: xs) k = atW xs k := fun xs => by simp [atW, List.find?_cons, c]
      have c2 : ¬ q.1 = k := by rw [← h.1]; exact c
      have e2 : ∀ vs, atKey (q :: vs) k = atKey vs k := fun vs => by simp [atKey, List.find?_cons, c2]
      rw [e1, e2]
      exact ih
theorem ent_mem : ∀ {xs : List WEnt} {vs : List (List Str × Addr × Value)}, Paired entRel xs vs → ∀ q ∈ vs, ∃ p ∈ xs, entRel p q
  | _, _, .nil, _, h => nomatch h
  | _, _, .cons h t, q, hq => by
    rcases List.mem_cons.mp hq with e | hq
    · rw [e]
      exact ⟨_, List.mem_cons_self, h⟩
    · obtain ⟨p, m, r⟩ := ent_mem t q hq
      exact ⟨p, List.mem_cons_of_mem _ m, r⟩
theorem ent_map (k : List Str) {v : V} {u : Value} (r : RelV v u) : ∀ {xs : List WEnt} {vs : List (List Str × Addr × Value)}, Paired entRel xs vs → Paired entRel (xs.map fun x => if x.1 = k then (x.1, x.2.1, v) else x) (vs.map (putAt k u))
  | _, _, .nil => .nil
  | _, _, .cons (a := p) (b := q) h t => by
    refine .cons ?_ (ent_map k r t)
    unfold putAt
    show entRel (if p.1 = k then (p.1, p.2.1, v) else p) _
    by_cases c : p.1 = k
    · rw [if_pos c, if_pos (by rw [← h.1]; exact c)]
      exact ⟨h.1, h.2.1, r⟩
    · rw [if_neg c, if_neg (by rw [← h.1]; exact c)]
      exact h
theorem ent_app {v : V} {u : Value} {k : List Str} {b : Addr} (r : RelV v u) : ∀ {xs : List WEnt} {vs : List (List Str × Addr × Value)}, Paired entRel xs vs → Paired entRel (xs ++ [(k, b, v)]) (vs ++ [(k, b, u)])
  | _, _, .nil => .cons ⟨rfl, rfl, r⟩ .nil
  | _, _, .cons h t => .cons h (ent_app r t)
theorem relO_some {o : Option V} {u : Option Value} (r : RelO o u) : o.isSome = u.isSome := RelO.isSome_eq r
theorem ent_put {v : V} {u : Value} {k : List Str} {b : Addr} (r : RelV v u) {xs : List WEnt} {vs : List (List Str × Addr × Value)} (p : Paired entRel xs vs) : Paired entRel (putW xs k b v) (storedH vs k b u) := by
  have e : (atW xs k).isSome = (atKey vs k).isSome := by rw [relO_some (ent_at k p), Option.isSome_map]
  unfold putW storedH
  rw [e]
  split
  · exact ent_map k r p
  · exact ent_app r p
theorem ent_len : ∀ {xs : List WEnt} {vs : List (List Str × Addr × Value)}, Paired entRel xs vs → xs.length = vs.length
  | _, _, .nil => rfl
  | _, _, .cons _ t => by rw [List.length_cons, List.length_cons, ent_len t]
theorem putW_len (xs : List WEnt) (k : List Str) (b : Addr) (v : V) : (putW xs k b v).length ≤ xs.length + 1 := by
  unfold putW
  split
  · rw [List.length_map]
    exact Nat.le_succ _
  · rw [List.length_append]
    exact Nat.le_refl _
theorem items_str {l : List Str} : ∀ {its : List Value}, Vals (l.map V.str) its → ItemsAre (strKind P w) l its := by
  induction l with
  | nil =>
    intro its r
    cases r
    exact .nil
  | cons x l ih =>
    intro its r
    cases r with
    | cons r1 r2 =>
      obtain ⟨t, rfl⟩ := r1
      exact .cons (by show Value.isStrOf x (.str x t) = true; simp [Value.isStrOf]) (ih r2)
end
section
variable {X : Cx} {pins : List (Addr × Obj)} {σ : L2.St} {H : Hp} {s : Shared} {d b : Addr} {xs : List WEnt} {k : List Str} {A : Around} {E : Value → Shared → Prop}
theorem key_at (I : Inv X pins σ H s) (hb : SqT X.K H b (k.map V.str)) : (tupleKind (strKind X.prog X.w)).is s.heap k b := by
  obtain ⟨its, rv, ⟨o, ho, hc, n, hd⟩, _⟩ := I.tuple hb
  exact ⟨o, its.toArray, n, ho, hc, hd, by simpa using items_str rv⟩
theorem dW_dd (I : Inv X pins σ H s) (e : H d = some (dW X.prog X.w d xs)) (ka : KAt X.K H xs) : xs.length ≤ sizeLine ∧ (d == sysModules) = false ∧ ∃ vs, Paired entRel xs vs ∧ s.heap.DictOfH (tupleKind (strKind X.prog X.w)) d vs := by
  obtain ⟨z, hd, nd, vs, r, o, es, ep, ho, hx, hdt, he⟩ := dW_of I.hok e
  refine ⟨z, hd, vs, r, o, es, ep, ho, hx, hdt, he, fun q hq => ?_, by rw [← ent_keys r]; exact nd⟩
  obtain ⟨p, hp, e1, e2, _⟩ := ent_mem r q hq
  rw [← e1, ← e2]
  exact key_at I (ka p hp)
/-- d[t] -/
theorem dW_getItem {v : V} {Q : Value → Shared → Prop} (hu : A.units + 1 < cLine) (I : Inv X pins σ H s) (e : H d = some (dW X.prog X.w d xs)) (ka : KAt X.K H xs) (hb : SqT X.K H b (k.map V.str)) (hv : atW xs k = some v)
    (h : ∀ w' s', Inv X pins σ H s' → RelV v w' → Q w' s') : wpAny (model X.prog X.w) A (getItem (.ref d) (.ref b)) Q E s := by
  obtain ⟨_, _, vs, r, dd⟩ := dW_dd I e ka
  obtain ⟨w', hw, rw'⟩ := RelO.some_of (v := v) (o := (atKey vs k).map (·.2)) (by rw [← hv]; exact ent_at k r)
  obtain ⟨p, hp, hp2⟩ := Option.map_eq_some_iff.mp hw
  refine wpAny_getItem_heap (tupleKind_room_in1 hu) (key_at I hb) dd hp ?_
  rw [hp2]
  exact h w' _ (I.tok _) rw'
theorem dW_put {h' : Heap} {t' : Nat} {v : V} {u : Value} {vs : List (List Str × Addr × Value)} (I : Inv X pins σ H s) (e : H d = some (dW X.prog X.w d xs)) (hz : xs.length < sizeLine) (r : Paired entRel xs vs) (ru : RelV v u)
    (dd' : h'.DictOfH (tupleKind (strKind X.prog X.w)) d (storedH vs k b u)) (hs : Heap.SameBut d s.heap h') : Inv X pins σ (upd H d (dW X.prog X.w d (putW xs k b v))) { s with heap := h', toks := t' } := by
  obtain ⟨z, hd, nd, _⟩ := dW_of I.hok e
  obtain ⟨o, es, ep, ho, hx, hdt, he, _, nd'⟩ := dd'
  have r' := ent_put (k := k) (b := b) ru r
  refine d_write I (by rw [e]; exact True.intro) hs ⟨o, ho⟩ (dW_new ⟨?_, hd, by rw [ent_keys r']; exact nd', _, r', o, es, ep, ho, hx, hdt, he⟩)
  have := putW_len xs k b v
  omega
/-- d[t] = v -/
theorem dW_setItem {v : V} {u : Value} {Q : Unit → Shared → Prop} (hu : A.units + 1 < cLine) (I : Inv X pins σ H s) (e : H d = some (dW X.prog X.w d xs)) (ka : KAt X.K H xs) (hb : SqT X.K H b (k.map V.str)) (hz : xs.length < sizeLine) (ru : RelV v u)
    (h : ∀ s', Inv X pins σ (upd H d (dW X.prog X.w d (putW xs k b v))) s' → Q () s') : wpAny (model X.prog X.w) A (setItem (.ref d) (.ref b) u) Q E s := by
  obtain ⟨z, _, vs, r, dd⟩ := dW_dd I e ka
  exact wpAny_setItem_heap (hsz := by rw [← ent_len r]; exact z) (tupleKind_room_in1 hu) (key_at I hb) dd fun h' dd' hs => h _ (dW_put I e hz r ru dd' hs)
theorem dW_dictSet {v : V} {u : Value} {Q : Unit → Shared → Prop} (hu : A.units < cLine) (I : Inv X pins σ H s) (e : H d = some (dW X.prog X.w d xs)) (ka : KAt X.K H xs) (hb : SqT X.K H b (k.map V.str)) (hz : xs.length < sizeLine) (ru : RelV v u)
    (h : ∀ s', Inv X pins σ (upd H d (dW X.prog X.w d (putW xs k b v))) s' → Q () s') : wpAny (model X.prog X.w) A (dictSet d (.ref b) u) Q E s := by
  obtain ⟨z, _, vs, r, dd⟩ := dW_dd I e ka
  exact wpAny_dictSet_heap (hsz := by rw [← ent_len r]; exact z) (show (tupleKind (strKind X.prog X.w)).room A from hu) (key_at I hb) dd fun h' dd' hs => h _ (dW_put I e hz r ru dd' hs)
end
/-! ### as terms -/
def tDGetW (K : PySem.W.Frag) (P : Program) (w : World) (td ty : TE) : TE := fun σ H Q => td σ H fun x H1 => ty σ H1 fun y H2 => ∃ a xs b k v, x = .ref a ∧ y = .ref b ∧ H2 a = some (dW P w a xs) ∧ KAt K H2 xs ∧ SqT K H2 b (k.map V.str) ∧ atW xs k = some v ∧ Q v H2
def sDPutW (K : PySem.W.Frag) (P : Program) (w : World) (td ty tv : TE) : TS := fun D σ H => tv σ H fun v H1 => td σ H1 fun x H2 => ty σ H2 fun y H3 => ∃ a xs b k, x = .ref a ∧ y = .ref b ∧ H3 a = some (dW P w a xs) ∧ KAt K H3 xs ∧ SqT K H3 b (k.map V.str) ∧ xs.length < sizeLine ∧ D.nx σ (upd H3 a (dW P w a (putW xs k b v)))
section
variable {X : Cx} {o i value : Expr} {pos pos' : Pos} {td ty tv : TE}
theorem pe_dgetW {K : PySem.W.Frag} (hK : X.K = K) (hu : X.A.units + 1 < cLine) (ho : PE X o td) (hi : PE X i ty) (hs : NoSl i) : PE X (.Subscript o i pos) (tDGetW K X.prog X.w td ty) := by
  subst hK
  refine ⟨fun pins s σ H Q I h => ?_⟩
  refine subD_of PySem.F.slot_dict_getitem.lookup hs (thn (ho.run pins s σ H _ I h) fun u s1 ⟨x, H1, I1, rx, q1⟩ => thn (hi.run pins s1 σ H1 _ I1 q1) fun iv s2 ⟨y, H2, I2, ry, a, xs, b, k, v, ex, ey, g, ka, hb, hv, q2⟩ => ?_)
  subst ex
  subst ey
  obtain rfl : u = Value.ref a := rx
  obtain rfl : iv = Value.ref b := ry
  obtain ⟨_, _, _, _, dd⟩ := dW_dd I2 g ka
  exact ⟨dd.typeIs, dW_getItem hu I2 g ka hb hv fun w' s3 I3 rw' => ⟨v, H2, I3, rw', q2⟩⟩
theorem ps_dputW {K : PySem.W.Frag} (hK : X.K = K) (hu : X.A.units + 1 < cLine) (ho : PE X o td) (hi : PE X i ty) (hv : PE X value tv) (hs : swapsWith value (some (.Subscript o i pos')) pos.line X.env = pure false) :
    PS X (.Assign [.Subscript o i pos'] value pos) (sDPutW K X.prog X.w td ty tv) := by
  subst hK
  refine ⟨fun pins s σ H D I h => ?_⟩
  refine wpAny_Assign_Subscript (thn (hv.run pins s σ H _ I h) fun r s1 ⟨v, H1, I1, rv, q1⟩ => thn (ho.run pins s1 σ H1 _ I1 q1) fun u s2 ⟨x, H2, I2, rx, q2⟩ => thn (hi.run pins s2 σ H2 _ I2 q2) fun iv s3 ⟨y, H3, I3, ry, a, xs, b, k, ex, ey, g, ka, hb, hz, q3⟩ => ?_) hs
  subst ex
  subst ey
  obtain rfl : u = Value.ref a := rx
  obtain rfl : iv = Value.ref b := ry
  exact dW_setItem hu I3 g ka hb hz rv fun s4 I4 => ⟨σ, _, I4, q3⟩
end
end Tw
/-! {t: v for t in ..}, t tuples of texts -/
namespace Tw
open PySem PySem.Spec PyProof.Rows L2
/-- a turn: the key, the value, the entry -/
def tInD (K : PySem.W.Frag) (P : Program) (w : World) (tk tv : TE) (D : Addr) : L2.St → Hp → (Hp → Prop) → Prop := fun σ H nx => tk σ H fun y H1 => tv σ H1 fun z H2 =>
  ∃ xs b k, y = .ref b ∧ H2 D = some (dW P w D xs) ∧ KAt K H2 xs ∧ SqT K H2 b (k.map V.str) ∧ xs.length < sizeLine ∧ nx (upd H2 D (dW P w D (putW xs k b z)))
def tDcW (K : PySem.W.Frag) (P : Program) (w : World) (tk tv : TE) (r : Clr) : TE := fun σ H Q => r.wi σ H fun J H1 => ∀ D, H1 D = none → tItN r.g r.tt r.vs (tInD K P w tk tv D) J σ (upd H1 D (dW P w D [])) fun H' => Q (.ref D) H'
theorem loopD_ok {B : Cx} (hc : B.calm = true) (hu : B.A.units < cLine) (hx : B.xe = fun _ _ => False) {kx vx : Expr} {tk tv : TE} (pk : PE B kx tk) (pv : PE B vx tv) {scope : Scope} {pos : Pos} {D : Addr} {c : Cl} {r : Clr} {J : It} {it : Addr} {fp : List Addr} {tn : Nat → Heap → Prop} {pins : List (Addr × Obj)} {σ : L2.St} {H : Hp} {s : Shared} {nx : Hp → Prop} {Z : Shared → Prop}
    (hpg : PG B c.tg r.g) (hpt : PTs B c.ifs r.tt) (I : Inv B pins (L2.wipe σ r.vs) H s) (T : Turn B.prog B.w B.K c.tg J fp it tn) (st : tn 0 s.heap) (hf : ∀ b ∈ fp, FpOk B pins H b)
    (h : tItN r.g r.tt r.vs (tInD B.K B.prog B.w tk tv D) J σ H nx) (hZ : ∀ H' s', Inv B pins (L2.wipe σ r.vs) H' s' → nx H' → Z s') :
    codeAny (model B.prog B.w) B.A (.compLoop (.DictComp kx vx [c.co] scope pos) 0 (.ref it) (.ref D) B.env) (fun q s' => q = .ok .next ∧ Z s') s := by
  obtain ⟨W, ⟨m0, w0⟩, turn⟩ := h
  have stat : ∀ {H' : Hp}, (∀ b ∈ fp, H' b = none) → ∀ b ∈ fp, FpOk B pins H' b := fun hn b hb => ⟨hn b hb, (hf b hb).2⟩
  refine compLoop_anyD (fun n s' => ∃ j H', Inv B pins (L2.wipe σ r.vs) H' s' ∧ tn j s'.heap ∧ (∀ b ∈ fp, H' b = none) ∧ W j n H') ?_ m0 ⟨0, H, I, st, fun b hb => (hf b hb).1, w0⟩
  rintro n s5 ⟨j, H5, I5, st5, n5, w5⟩
  rcases turn j n H5 w5 with ⟨stop, qq⟩ | ⟨go, Nx, hNx, step⟩
  · refine thnF (T.done B rfl rfl rfl hc j pins s5 (L2.wipe σ r.vs) H5 (fun _ _ => False) I5 (stat n5) st5 stop) fun q s6 ⟨hq, I6⟩ => ?_
    subst hq
    exact ⟨rfl, hZ H5 s6 I6 qq⟩
  · refine thnF (T.item B rfl rfl rfl hc j pins s5 (L2.wipe σ r.vs) H5 (fun _ _ => False) I5 (stat n5) st5 go) fun q s6 ⟨u, hq, h6⟩ => ?_
    subst hq
    refine thnF h6 fun _ s7 ⟨x, H7, I7, r7, y7, st7, n7⟩ => ?_
    have I7' := I7.pinned (stat n7) (T.obj _ _ st7)
    refine thnX hx (hpg.run _ s7 (L2.wipe σ r.vs) H7 x u _ I7' r7 (step x H7 y7)) fun _ s8 ⟨σ8, H8, I8, hw8, q8⟩ => ?_
    refine thnX hx (hpt.run _ s8 σ8 H8 _ I8 q8) fun b s9 ⟨H9, I9, q9⟩ => ?_
    have fin : ∀ {s' : Shared} {H' : Hp}, Inv B (pins ++ pinsAt fp s7.heap) σ8 H' s' → Nx H' → ∃ m, m < n ∧ ∃ j H', Inv B pins (L2.wipe σ r.vs) H' s' ∧ tn j s'.heap ∧ (∀ b ∈ fp, H' b = none) ∧ W j m H' := fun {s' H'} I' nx => by
      obtain ⟨m', hm, w'⟩ := hNx H' nx
      have pin' : ∀ b ∈ fp, ∀ o, s7.heap.get? b = some o → s'.heap.get? b = some o ∧ H' b = none := fun b hb o e =>
        let z := I'.pin (b, o) (List.mem_append_right _ (List.mem_append_right _ (mem_pinsAt hb e)))
        ⟨z.1, z.2.1⟩
      refine ⟨m', hm, j + 1, H', I'.unpinned.weak (by rw [← hw8, wipe_length]) (fun j v e => by rw [← hw8] at e; exact (wipe_some e).1), T.keep _ _ _ st7 fun b hb o e => (pin' b hb o e).1, fun b hb => ?_, w'⟩
      obtain ⟨o, e, _⟩ := T.obj _ _ st7 b hb
      exact (pin' b hb o e).2
    cases b with
    | false =>
      rw [if_neg Bool.false_ne_true] at q9 ⊢
      exact fin I9 q9
    | true =>
      rw [if_pos rfl] at q9 ⊢
      refine thnX hx (pk.run _ s9 σ8 H9 _ I9 q9) fun z s10 ⟨yk, H10, I10, r10, q10⟩ => ?_
      refine thnX hx (pv.run _ s10 σ8 H10 _ I10 q10) fun z2 s11 ⟨yv, H11, I11, r11, xs, b, k, ek, hD, ka, hb, hz, nx⟩ => ?_
      subst ek
      obtain rfl : z = Value.ref b := r10
      exact dW_dictSet (X := B) hu I11 hD ka hb hz r11 fun s12 I12 => fin I12 nx
theorem dW_empty {P : Program} {w : World} {H : Hp} (h : Heap) (hb : sysModules < h.objs.size) : ObjOk P w H (h.push { cls := .type "dict", data := .dict #[] }) h.objs.size (dW P w h.objs.size []) :=
  dW_new ⟨Nat.zero_le _, beq_eq_false_iff_ne.mpr (Nat.ne_of_gt hb), List.nodup_nil, [], .nil, _, #[], _, Heap.get?_push_size _ rfl, ⟨rfl, rfl, rfl⟩, rfl, rfl⟩
section
variable {X : Cx}
theorem dcW_core {pins : List (Addr × Obj)} {s : Shared} {σ : L2.St} {H : Hp} {Q : VK} {kx vx : Expr} {c : Cl} {r : Clr} {sc : Scope} {own : List (Str × Nat)} {pos pos' : Pos} {tk tv : TE} {use : Option (Value → Sem Unit)} {Qf : Value → Shared → Prop}
    (hc : X.calm = true) (hu : X.A.units < cLine) (hN : X.N.Nodup) (I : Inv X pins σ H s) (hi : PI X c.tg c.iter r.wi) (ok : BlkOk X.N X.env.scope sc own) (hv : r.vs = own.map (·.2))
    (hcl : ∀ s H C cl fp, PG (X.blk s H sc (compEnvC sc cl C X.env) fp) c.tg r.g ∧ PTs (X.blk s H sc (compEnvC sc cl C X.env) fp) c.ifs r.tt ∧ PE (X.blk s H sc (compEnvC sc cl C X.env) fp) kx tk ∧ PE (X.blk s H sc (compEnvC sc cl C X.env) fp) vx tv)
    (hs : ∀ x, foldedSetIterable c.iter X.env x = pure x) (h : tDcW X.K X.prog X.w tk tv r σ H Q)
    (hR : ∀ D C s' m H', Inv X pins σ H' s' → Q (.ref D) H' → s'.heap.Ns C m → FpOk X pins H' C → compPost (model X.prog X.w) X.A X.xe use Qf (.ref D) C (.ok .next) s') :
    wpAny (model X.prog X.w) X.A (comprehension (.DictComp kx vx [c.co] sc pos) sc X.env pos' newDict false (eval c.iter X.env) use) Qf X.xe s := by
  have fr : ∀ y ∈ sc.names, y.2 = .free → ∃ a, X.env.cells.lookup y.1 = some a := fun y hy e => I.ok.has _ (ok.free y hy e)
  refine wpAny_comprehension_free (use := use) rfl hs (closure_ok fr) ok.kind (fun y hy e => by rw [ok.uniq y hy, e]) (thn (hi.run pins s σ H _ I h) fun _ _ hx => thn hx fun _ s2 h2 => ?_)
  obtain ⟨it, fp, tn, J, H2, rfl, I2, T, st2, f2, q⟩ := h2
  refine wpAny_newObj_type (newEnv_comp ?_)
  obtain ⟨D, eD⟩ : ∃ D, D = s2.heap.objs.size := ⟨_, rfl⟩
  rw [← eD]
  have q := q D (I2.hok.fresh (Nat.le_of_eq eD.symm))
  obtain ⟨s3, e3⟩ : ∃ s3 : Shared, s3 = { s2 with heap := s2.heap.push { cls := .type "dict", data := .dict #[] } } := ⟨_, rfl⟩
  have hp3 : s3.heap = s2.heap.push { cls := .type "dict", data := .dict #[] } := by rw [e3]
  have I3 : Inv X pins σ (upd H2 D (dW X.prog X.w D [])) s3 := by
    rw [e3]
    refine I2.laid (t' := s2.toks) (fun _ _ e => Heap.get?_push_of_some _ e) (Nat.le_of_eq eD.symm) ?_
    rw [eD]
    exact dW_empty s2.heap I2.big
  have fp3 : ∀ b ∈ fp, FpOk X pins (upd H2 D (dW X.prog X.w D [])) b ∧ b < s3.heap.objs.size := fun b hb => by
    obtain ⟨_, eo, _⟩ := T.obj _ _ st2 b hb
    have lt := Heap.lt_size eo
    refine ⟨⟨(upd_ne (by rw [eD]; exact Nat.ne_of_lt lt)).trans (f2 b hb).1, (f2 b hb).2⟩, ?_⟩
    rw [hp3, Heap.size_push]
    exact Nat.lt_succ_of_lt lt
  have st3 : tn 0 s3.heap := T.keep _ _ _ st2 fun _ _ _ e => by rw [hp3]; exact Heap.get?_push_of_some _ e
  have I4 := block_start I3 ok hN fp3
  rw [← hv] at I4
  have st4 : tn 0 (pushCells (s3.heap.push { cls := .type "dict", data := .dict #[] }) sc.names) := T.keep _ _ _ st3 fun _ _ _ e => pushCells_keeps _ _ _ _ (Heap.get?_push_of_some _ e)
  obtain ⟨pg, pt, pk, pe⟩ := hcl s3 (upd H2 D (dW X.prog X.w D [])) s3.heap.objs.size (cellsFrom (s3.heap.objs.size + 1) sc.names (cloFrom X.env.cells sc.names [])) fp
  rw [← e3]
  have low : ∀ b ∈ fp, FpOk (X.blk s3 (upd H2 D (dW X.prog X.w D [])) sc (compEnvC sc (cellsFrom (s3.heap.objs.size + 1) sc.names (cloFrom X.env.cells sc.names [])) s3.heap.objs.size X.env) fp) [] (upd H2 D (dW X.prog X.w D [])) b := fun b hb =>
    ⟨(fp3 b hb).1.1, (I4.ok.exf b hb).1, I4.ok.exfs b hb, .inl hb, fun x a e => (I4.ok.exf b hb).2 x a e, fun p hp => nomatch (show p ∈ ([] : List (Addr × Obj)) ++ [] from hp)⟩
  have run := loopD_ok (B := X.blk s3 (upd H2 D (dW X.prog X.w D [])) sc (compEnvC sc (cellsFrom (s3.heap.objs.size + 1) sc.names (cloFrom X.env.cells sc.names [])) s3.heap.objs.size X.env) fp) hc hu rfl pk pe (scope := sc) (pos := pos) (D := D) (c := c) (r := r) (Z :=
    fun s' => compPost (model X.prog X.w) X.A X.xe use Qf (.ref D) s3.heap.objs.size (.ok .next) s') pg pt I4 T st4 low q fun H5 s6 I6 q5 => by
      obtain ⟨m, hn, _⟩ := I6.loc
      exact hR D s3.heap.objs.size s6 m H5 (I3.call' (ch := fp) I6.os I6.base I6.hok I6.bare fun b hb => ⟨(fp3 b hb).1.2.2.2.1, (fp3 b hb).1.2.1, (fp3 b hb).1.2.2.2.2.1, (fp3 b hb).1.2.2.2.2.2⟩) q5 hn (I3.fpOk (Nat.le_refl _) I6.free)
  have run := codeAny_mono run fun q' s' hq => (show compPost (model X.prog X.w) X.A X.xe use Qf (.ref D) s3.heap.objs.size q' s' by rw [hq.1]; exact hq.2)
  exact codeAny_compStart_dict (target := c.tg) (iter := c.iter) (ifs := c.ifs) run (T.self X.A 0 _ _ _ st4 run)
/-- as a value -/
theorem pe_dcW {K : PySem.W.Frag} (hK : X.K = K) {kx vx : Expr} {c : Cl} {r : Clr} {gens : List Comprehension} {sc : Scope} {own : List (Str × Nat)} {pos : Pos} {tk tv : TE} (hc : X.calm = true) (hu : X.A.units < cLine) (hN : X.N.Nodup) (hi : PI X c.tg c.iter r.wi) (ok : BlkOk X.N X.env.scope sc own) (hv : r.vs = own.map (·.2)) (hgens : gens = [c.co])
    (hcl : ∀ s H C cl fp, PG (X.blk s H sc (compEnvC sc cl C X.env) fp) c.tg r.g ∧ PTs (X.blk s H sc (compEnvC sc cl C X.env) fp) c.ifs r.tt ∧ PE (X.blk s H sc (compEnvC sc cl C X.env) fp) kx tk ∧ PE (X.blk s H sc (compEnvC sc cl C X.env) fp) vx tv)
    (hs : ∀ x, foldedSetIterable c.iter X.env x = pure x := by intro _; rfl) : PE X (.DictComp kx vx gens sc pos) (tDcW K X.prog X.w tk tv r) := by
  subst hK
  subst hgens
  refine ⟨fun pins s σ H Q I h => ?_⟩
  rw [arm_eval_DictComp]
  refine dcW_core hc hu hN I hi ok hv hcl hs h fun D C s' m H' I' q hn ⟨f0, f1, f2, f3, f4, f5⟩ => ⟨m, hn, fun h'' sb => ⟨.ref D, H', I'.turned (t' := s'.toks) (fun b o hb e => (sb.2 b hb).trans e) f0 f1 f3 f4 f5, rfl, q⟩⟩
end
end Tw
/-! a run beside a dict whose keys are tuples of texts, its values ints -/
namespace Tw
open PySem PySem.Spec PyProof.Rows L2
abbrev EntI := List Str × Int
def CtW (K : PySem.W.Frag) (S : Side) (P : Program) (w : World) (p : Addr) (H : Hp) (E : List EntI) : Prop :=
  ∃ xs : List WEnt, H p = some (dW P w p xs) ∧ (∀ x ∈ xs, SqT K ((S.hide p).view H) x.2.1 (x.1.map V.str)) ∧ xs.map (fun x => (x.1, x.2.2)) = E.map fun e => (e.1, V.int e.2)
def atE (E : List EntI) (k : List Str) : Option Int := (E.find? fun e => decide (e.1 = k)).map (·.2)
def putE (E : List EntI) (k : List Str) (n : Int) : List EntI := E.map fun e => if e.1 = k then (e.1, n) else e
section
variable {K : PySem.W.Frag} {S : Side} {P : Program} {w : World} {p : Addr} {E : List EntI} {ρ : Rho}
theorem ct_len {xs : List WEnt} (e : xs.map (fun x => (x.1, x.2.2)) = E.map fun e => (e.1, V.int e.2)) : xs.length = E.length := by
  have := congrArg List.length e
  rwa [List.length_map, List.length_map] at this
theorem ct_at (k : List Str) : ∀ {xs : List WEnt} {E : List EntI}, xs.map (fun x => (x.1, x.2.2)) = E.map (fun e => (e.1, V.int e.2)) → atW xs k = (atE E k).map V.int
  | [], [], _ => rfl
  | x :: xs, e :: E, h => by
    rw [List.map_cons, List.map_cons] at h
    obtain ⟨h1, h2⟩ := List.cons_eq_cons.mp h
    have ih := ct_at k h2
    have k1 : x.1 = e.1 := congrArg Prod.fst h1
    have v1 : x.2.2 = V.int e.2 := congrArg Prod.snd h1
    by_cases c : e.1 = k
    · have a : atW (x :: xs) k = some x.2.2 := by simp [atW, List.find?_cons, k1, c]
      have b : atE (e :: E) k = some e.2 := by simp [atE, List.find?_cons, c]
      rw [a, b, v1]
      rfl
    · have a : atW (x :: xs) k = atW xs k := by simp [atW, List.find?_cons, k1, c]
      have b : atE (e :: E) k = atE E k := by simp [atE, List.find?_cons, c]
      rw [a, b, ih]
  | [], _ :: _, h => nomatch h
  | _ :: _, [], h => nomatch h
theorem ct_putE {k : List Str} {b : Addr} {n : Int} {xs : List WEnt} (e : xs.map (fun x => (x.1, x.2.2)) = E.map (fun e => (e.1, V.int e.2))) {m : Int} (h : atE E k = some m) :
    putW xs k b (.int n) = xs.map (fun x => if x.1 = k then (x.1, x.2.1, V.int n) else x) ∧ (putW xs k b (.int n)).map (fun x => (x.1, x.2.2)) = (putE E k n).map fun e => (e.1, V.int e.2) := by
  have q : (atW xs k).isSome = true := by rw [ct_at k e, h]; rfl
  have a : putW xs k b (.int n) = xs.map (fun x => if x.1 = k then (x.1, x.2.1, V.int n) else x) := by unfold putW; rw [if_pos q]
  refine ⟨a, ?_⟩
  rw [a]
  clear a q h
  revert E
  induction xs with
  | nil =>
    intro E e
    cases E with
    | nil => rfl
    | cons _ _ => exact nomatch e
  | cons x xs ih =>
    intro E e
    cases E with
    | nil => exact nomatch e
    | cons d E =>
      rw [List.map_cons, List.map_cons] at e
      obtain ⟨h1, h2⟩ := List.cons_eq_cons.mp e
      have k1 : x.1 = d.1 := congrArg Prod.fst h1
      have v1 : x.2.2 = V.int d.2 := congrArg Prod.snd h1
      have ih := ih h2
      show _ :: (xs.map fun x => if x.1 = k then (x.1, x.2.1, V.int n) else x).map _ = _ :: (putE E k n).map _
      rw [ih]
      refine List.cons_eq_cons.mpr ⟨?_, rfl⟩
      dsimp only
      by_cases c : d.1 = k
      · rw [if_pos (by rw [k1]; exact c), if_pos c]
        exact congrArg (fun z => (z, V.int n)) k1
      · rw [if_neg (by rw [k1]; exact c), if_neg c]
        exact h1
theorem toXH {H H2 : Hp} (t : (S.hide p).To H H2) : ToX S p H H2 := ⟨t.inv.1, fun a o n _ e => t.keep a o n e⟩
theorem ToX.exH {H H2 : Hp} (t : ToX S p H H2) : Evl.Ex ((S.hide p).view H) ((S.hide p).view H2) := fun a o e => by
  obtain ⟨n, e⟩ := view_some.mp e
  exact view_some.mpr ⟨n, t.keep a o (fun z => n (.inl (S.sub a z))) (fun z => n (.inr z)) e⟩
theorem CtW.inv {H : Hp} (h : CtW K S P w p H E) (i : S.inv H) : (S.hide p).inv H := by
  obtain ⟨xs, e, _⟩ := h
  exact ⟨i, by rw [e]; exact fun z => nomatch z⟩
theorem CtW.on {H H2 : Hp} (nm : ¬ S.mutb p) (h : CtW K S P w p H E) (t : (S.hide p).To H H2) : CtW K S P w p H2 E := by
  obtain ⟨xs, e, ka, q⟩ := h
  exact ⟨xs, t.keep p _ nm e, fun x hx => ex_sqt t.ex (ka x hx), q⟩
/-- a run from E on -/
def RunW (K : PySem.W.Frag) (S : Side) (P : Program) (w : World) (p : Addr) (ts : TS) (ρ : Rho) (E : List EntI) (Po : List EntI → Out → Prop) : Prop :=
  ∀ σ H, S.inv H → CtW K S P w p H E → EnvOk K ((S.hide p).view H) σ ρ → ∀ D : Ends,
    (∀ E' ρ' σ' H2, ToX S p H H2 → CtW K S P w p H2 E' → EnvOk K ((S.hide p).view H2) σ' ρ' → Po E' (.nx ρ') → D.nx σ' H2) →
    (∀ E' x v H2, ToX S p H H2 → Is K (S.view H2) v x → Po E' (.rt x) → D.rt v H2) →
    (∀ E' ρ' σ' H2, ToX S p H H2 → CtW K S P w p H2 E' → EnvOk K ((S.hide p).view H2) σ' ρ' → Po E' (.bk ρ') → D.bk σ' H2) →
    (∀ E' ρ' σ' H2, ToX S p H H2 → CtW K S P w p H2 E' → EnvOk K ((S.hide p).view H2) σ' ρ' → Po E' (.ct ρ') → D.ct σ' H2) → ts D σ H
variable {t u : TS} {Po : List EntI → Out → Prop}
theorem rw_of (nm : ¬ S.mutb p) (h : Run K (S.hide p) t ρ (Po E)) : RunW K S P w p t ρ E Po := fun σ H hi hc he D q1 q2 q3 q4 =>
  h σ H (hc.inv hi) he D (fun ρ' σ' H2 t2 e2 p2 => q1 E ρ' σ' H2 (toXH t2) (hc.on nm t2) e2 p2) (fun x v H2 t2 i2 p2 => q2 E x v H2 (toXH t2) (i2.mono (hide_ex H2)) p2)
    (fun ρ' σ' H2 t2 e2 p2 => q3 E ρ' σ' H2 (toXH t2) (hc.on nm t2) e2 p2) fun ρ' σ' H2 t2 e2 p2 => q4 E ρ' σ' H2 (toXH t2) (hc.on nm t2) e2 p2
theorem rw_seq (h : RunW K S P w p t ρ E fun E' o => match o with | .nx ρ' => RunW K S P w p u ρ' E' Po | o => Po E' o) : RunW K S P w p (tSeq t u) ρ E Po := fun σ H hi hc he D q1 q2 q3 q4 =>
  h σ H hi hc he { D with nx := u D } (fun E' ρ' σ' H1 t1 h1 e1 p1 => p1 σ' H1 t1.inv h1 e1 D (fun a b c d t2 => q1 a b c d (t1.trans t2)) (fun a b c d t2 => q2 a b c d (t1.trans t2)) (fun a b c d t2 => q3 a b c d (t1.trans t2)) fun a b c d t2 => q4 a b c d (t1.trans t2)) q2 q3 q4
/-- d[t] = f(d[t], y) -/
theorem rw_aug {i j : Nat} {f : Int → Int → Int} {tx : TE} (nh : ¬ S.hid p) {k : List Str} {n : Int} (h0 : ρ[i]? = some (some (.v (.ref p)))) (h1 : ρ[j]? = some (some (.d (tupS k)))) (hk : atE E k = some n) (hl : E.length < sizeLine)
    (h : Ev K (S.hide p) tx ρ fun y => ∃ m, y = .d (.int m) ∧ Po (putE E k (f n m)) (.nx ρ)) :
    RunW K S P w p (sDPutW K P w (tVar i) (tVar j) (tOp (rI0 fun a b => .int (f a b)) (tDGetW K P w (tVar i) (tVar j)) tx)) ρ E Po := fun σ H hi hc he D q1 _ _ _ => by
  have nm : ¬ S.mutb p := fun z => nh (S.sub p z)
  obtain ⟨v0, e0, rfl⟩ := he.get i _ h0
  obtain ⟨v1, e1, d1⟩ := he.get j _ h1
  obtain ⟨b, vs, rfl, hb, db⟩ := dp_tup d1
  rw [dpAll_strs' db] at hb
  obtain ⟨xs, ep, ka, eq⟩ := id hc
  have av : atW xs k = some (.int n) := by rw [ct_at k eq, hk]; rfl
  refine ⟨_, e0, _, e1, p, xs, b, k, .int n, rfl, rfl, ep, fun x hx => ex_sqt (view_ex _ H) (ka x hx), ex_sqt (view_ex _ H) hb, av, ?_⟩
  refine h σ H (hc.inv hi) he _ fun v y H2 t2 i2 p2 => ?_
  obtain ⟨m, rfl, p2⟩ := p2
  cases dp_d i2
  have hc2 := hc.on nm t2
  obtain ⟨xs2, ep2, ka2, eq2⟩ := id hc2
  obtain ⟨pe1, pe2⟩ := ct_putE (b := b) (n := f n m) eq2 hk
  refine ⟨n, m, rfl, rfl, _, e0, _, e1, p, xs2, b, k, rfl, rfl, ep2, fun x hx => ex_sqt (view_ex _ H2) (ka2 x hx), ex_sqt (view_ex _ H2) (ex_sqt t2.ex hb), by rw [ct_len eq2]; exact hl, ?_⟩
  have t02 := toXH t2
  have t4 : ToX S p H2 (upd H2 p (dW P w p (putW xs2 k b (.int (f n m))))) := ⟨S.put H2 p _ t02.inv nh (nofrz_of ep2 fun _ _ z => nomatch z), fun a o na m e => by rw [upd_ne m]; exact e⟩
  refine q1 (putE E k (f n m)) ρ σ _ (t02.trans t4) ⟨_, upd_same, fun x hx => ?_, pe2⟩ (he.mono (t02.trans t4).exH) p2
  rw [pe1] at hx
  obtain ⟨z, hz, rfl⟩ := List.mem_map.mp hx
  have kz := ex_sqt t4.exH (ka2 z hz)
  by_cases c : z.1 = k
  · rw [if_pos c]
    exact kz
  · rw [if_neg c]
    exact kz
def forZ (K : PySem.W.Frag) (S : Side) (P : Program) (w : World) (p : Addr) (g : TG) (tb : TS) : List PyData → Rho → List EntI → (List EntI → Out → Prop) → Prop
  | [], ρ, E, Po => Po E (.nx ρ)
  | x :: xs, ρ, E, Po => EvG K (S.hide p) g (.d x) ρ fun ρ2 => RunW K S P w p tb ρ2 E fun E' o => match o with
    | .nx ρ' => forZ K S P w p g tb xs ρ' E' Po
    | .ct ρ' => forZ K S P w p g tb xs ρ' E' Po
    | .bk ρ' => Po E' (.nx ρ')
    | .rt v => Po E' (.rt v)
theorem rw_for (nm : ¬ S.mutb p) {wi : TI} {g : TG} {tb : TS} (h : EvI K (S.hide p) wi ρ fun ds => forZ K S P w p g tb ds ρ E Po) : RunW K S P w p (tFor wi g tb) ρ E Po := fun σ H hi hc he D q1 q2 q3 q4 =>
  h σ H (hc.inv hi) he _ fun J ds H1 t1 W p1 => by
    refine ⟨fun i m σ' H' => m = ds.length - i ∧ i ≤ ds.length ∧ ToX S p H1 H' ∧ ∃ ρ' E', CtW K S P w p H' E' ∧ EnvOk K ((S.hide p).view H') σ' ρ' ∧ forZ K S P w p g tb (ds.drop i) ρ' E' Po,
      ⟨_, rfl, Nat.zero_le _, .refl t1.inv.1, ρ, E, hc.on nm t1, he.mono t1.ex, p1⟩, ?_⟩
    rintro i m σ' H' ⟨rfl, hl, t, ρ', E', hc', he', po⟩
    have inv' : (S.hide p).inv H' := hc'.inv t.inv
    by_cases hlt : i < ds.length
    · refine .inr ⟨W.go (S.hide p) H' i inv' t.exH hlt, fun σ2 H2 => i + 1 ≤ ds.length ∧ ToX S p H1 H2 ∧ ∃ ρ2 E2, CtW K S P w p H2 E2 ∧ EnvOk K ((S.hide p).view H2) σ2 ρ2 ∧ forZ K S P w p g tb (ds.drop (i + 1)) ρ2 E2 Po, fun σ2 H2 n => ⟨ds.length - (i + 1), by omega, rfl, n⟩, fun x H2 y => ?_⟩
      obtain ⟨t2, d, hd, hx⟩ := W.yld (S.hide p) H' i x H2 inv' t.exH hlt y
      rw [drop_cons hd] at po
      refine po x σ' H2 t2.inv (he'.mono t2.ex) hx _ fun ρ3 σ3 H3 t3 e3 p3 => ?_
      have b3 := t.trans (toXH (t2.trans t3))
      have b0 := (toXH t1).trans b3
      refine p3 σ3 H3 t3.inv.1 (hc'.on nm (t2.trans t3)) e3 _ (fun E4 ρ4 σ4 H4 t4 h4 e4 p4 => ⟨hlt, b3.trans t4, ρ4, E4, h4, e4, p4⟩) (fun E4 v w H4 t4 i4 p4 => q2 E4 v w H4 (b0.trans t4) i4 p4) (fun E4 ρ4 σ4 H4 t4 h4 e4 p4 => q1 E4 ρ4 σ4 H4 (b0.trans t4) h4 e4 p4)
        fun E4 ρ4 σ4 H4 t4 h4 e4 p4 => ⟨hlt, b3.trans t4, ρ4, E4, h4, e4, p4⟩
    · have e : i = ds.length := by omega
      subst e
      rw [List.drop_length] at po
      exact .inl ⟨W.stop (S.hide p) H' _ inv' t.exH (Nat.le_refl _), q1 E' ρ' σ' H' ((toXH t1).trans t) hc' he' po⟩
theorem yes_tt {Z : Bool → Hp → Prop} {s : L2.St} {h : Hp} (z : Z true h) : tYes s h Z := z
/-- d = {t: n for t in ..} and on -/
theorem run_startW {wi : TI} {i j : Nat} {n : Int} {vs : List Nat} {rest : TS} {Po : Out → Prop} (hj : j ∈ vs) (hjl : j < ρ.length)
    (h : EvI K S wi ρ fun ds => ∃ L : List (List Str), ds = L.map tupS ∧ L.Nodup ∧ L.length < sizeLine ∧ ∀ p, ¬ S.hid p → RunW K S P w p rest (ρ.set i (some (.v (.ref p)))) (L.map fun l => (l, n)) fun _ o => Po o) :
    Run K S (tSeq (tAsg (tDcW K P w (tVar j) (L2.tC (.int n)) ⟨wi, gName j, tYes, vs⟩) (gName i)) rest) ρ Po := fun σ H hi he D q1 q2 q3 q4 =>
  h σ H hi he _ fun J ds H1 t1 W ⟨L, eds, nd, hz, p1⟩ => by
    intro p nD
    have nh : ¬ S.hid p := nhid t1.inv nD
    have nm : ¬ S.mutb p := fun z => nh (S.sub p z)
    have el : ds.length = L.length := by rw [eds, List.length_map]
    have t0 : S.To H1 (upd H1 p (dW P w p [])) := Side.To.new t1.inv nD
    refine ⟨fun i m H' => m = L.length - i ∧ i ≤ L.length ∧ S.To H1 H' ∧ CtW K S P w p H' ((L.take i).map fun l => (l, n)), ⟨_, rfl, Nat.zero_le _, t0, [], upd_same, (fun x hx => nomatch hx), rfl⟩, ?_⟩
    rintro c m H' ⟨rfl, hl, t, ct⟩
    have inv' : (S.hide p).inv H' := ct.inv t.inv
    have ex1 : Evl.Ex (S.view H1) ((S.hide p).view H') := ex_hide nD t.keep
    by_cases hlt : c < L.length
    · refine .inr ⟨W.go _ H' c inv' ex1 (by rw [el]; exact hlt), fun H2 => c + 1 ≤ L.length ∧ S.To H1 H2 ∧ CtW K S P w p H2 ((L.take (c + 1)).map fun l => (l, n)), fun H2 z => ⟨L.length - (c + 1), by omega, rfl, z⟩, fun x H2 y => ?_⟩
      obtain ⟨t2, d, hd, hx⟩ := W.yld _ H' c x H2 inv' ex1 (by rw [el]; exact hlt) y
      obtain ⟨l, hl0⟩ : ∃ l, L[c]? = some l := ⟨L[c], List.getElem?_eq_getElem hlt⟩
      have ed : d = tupS l := by
        rw [eds, List.getElem?_map, hl0] at hd
        exact (Option.some.inj hd).symm
      subst ed
      obtain ⟨b, ws, rfl, hb, db⟩ := dp_tup hx
      rw [dpAll_strs' db] at hb
      obtain ⟨xs, ep, ka, eq⟩ := ct.on nm t2
      have el2 : σ.length = ρ.length := he.len
      refine ⟨wipe_put hj, ?_⟩
      dsimp only
      refine yes_tt ?_
      rw [if_pos rfl]
      have tk : L.take (c + 1) = L.take c ++ [l] := by rw [List.take_succ, hl0] <;> rfl
      have fresh : atW xs l = none := by
        rw [ct_at l eq]
        have z : atE ((L.take c).map fun l => (l, n)) l = none := by
          unfold atE
          rw [Option.map_eq_none_iff, List.find?_eq_none]
          intro e he2
          obtain ⟨l', hl', rfl⟩ := List.mem_map.mp he2
          intro c2
          have c2 : l' = l := of_decide_eq_true c2
          subst c2
          obtain ⟨i1, hi1, e1⟩ := List.getElem_of_mem hl'
          rw [List.length_take] at hi1
          rw [List.getElem_take] at e1
          obtain ⟨hc, ec⟩ := List.getElem?_eq_some_iff.mp hl0
          exact absurd (e1.trans ec.symm) (List.pairwise_iff_getElem.mp nd i1 c (by omega) hc (by omega))
        rw [z]
        rfl
      have pw : putW xs l b (.int n) = xs ++ [(l, b, .int n)] := by
        unfold putW
        rw [fresh, Option.isSome_none, if_neg Bool.false_ne_true]
      have hlen := ct_len eq
      rw [List.length_map, List.length_take] at hlen
      refine ⟨.ref b, List.getElem?_set_self (by rw [L2.wipe_length, el2]; exact hjl), xs, b, l, rfl, ep, fun x hx => ex_sqt (view_ex _ H2) (ka x hx), ex_sqt (view_ex _ H2) hb, by omega, hlt, ⟨S.put H2 p _ t2.inv.1 nh (nofrz_of ep fun _ _ z => nomatch z), fun a o na e => ?_⟩, putW xs l b (.int n), upd_same, fun x hx => ?_, ?_⟩
      · rw [upd_ne (ne_of_none e nD)]
        exact (t.trans (to_hide t2)).keep a o na e
      · have t4 : ToX S p H2 (upd H2 p (dW P w p (putW xs l b (.int n)))) := ⟨S.put H2 p _ t2.inv.1 nh (nofrz_of ep fun _ _ z => nomatch z), fun a o na m e => by rw [upd_ne m]; exact e⟩
        rw [pw] at hx
        rcases List.mem_append.mp hx with hx | hx
        · exact ex_sqt t4.exH (ka x hx)
        · obtain rfl := List.mem_singleton.mp hx
          exact ex_sqt t4.exH hb
      · rw [pw, List.map_append, eq, tk, List.map_append, List.map_append]
        rfl
    · have e : c = L.length := by omega
      subst e
      rw [List.take_length] at ct
      refine .inl ⟨W.stop _ H' _ inv' ex1 (by rw [el]; exact Nat.le_refl _), ?_⟩
      have back : ∀ H2, ToX S p H' H2 → S.To H H2 := fun H2 tx => t1.trans ⟨tx.inv, fun a o na e => tx.keep a o na (ne_of_none e nD) (t.keep a o na e)⟩
      have env2 : EnvOk K ((S.hide p).view H') (σ.set i (some (.ref p))) (ρ.set i (some (.v (.ref p)))) := ((he.mono t1.ex).mono ex1).set i (show Is K _ (.ref p) (.v (.ref p)) from rfl)
      exact p1 p nh _ H' t.inv ct env2 D (fun E' ρ' σ' H3 t3 h3 e3 p3 => q1 ρ' σ' H3 (back H3 t3) (e3.mono (hide_ex H3)) p3) (fun E' x v H3 t3 i3 p3 => q2 x v H3 (back H3 t3) i3 p3)
        (fun E' ρ' σ' H3 t3 h3 e3 p3 => q3 ρ' σ' H3 (back H3 t3) (e3.mono (hide_ex H3)) p3) fun E' ρ' σ' H3 t3 h3 e3 p3 => q4 ρ' σ' H3 (back H3 t3) (e3.mono (hide_ex H3)) p3
end
end Tw
/-! sorted(set(list(d.values()))), the values ints -/
namespace Tw
open PySem PySem.Spec PyProof.Rows L2
section
variable {P : Program} {w : World} {A : Around} {E : Value → Shared → Prop} {s : Shared} {a : Addr}
/-- sorted(a set of ints), any number of them -/
theorem sorted_setA {S : Int → Bool} {n : Nat} {Q : Value → Shared → Prop} (R : SetR w s.heap a S n) (hh : A.handled = none)
    (hQ : ∀ s' p (out : Array Value) (c : Nat) (ns : List Int), (∀ b o, s.heap.get? b = some o → s'.heap.get? b = some o) → s'.gens = s.gens → s'.os = s.os → s.heap.objs.size ≤ p → s'.heap.get? p = some (seqObj "list" out c) → IntsAre out.toList ns → ns.Pairwise (· < ·) → (∀ k, k ∈ ns ↔ S k = true) → ns.length = n → Q (.ref p) s') :
    wpAny (model P w) A (call (.builtin "sorted") [.ref a]) Q E s := by
  obtain ⟨o, es, ep, t, ho, hex, hd, g, nd, hm, hb, hf, hn, hr, hl⟩ := R
  refine Calls.call_function_entry PyProof.Rows.kind_sorted PyProof.Rows.plain_sorted PyProof.Rows.entry_sorted (PyProof.Rows.args_sorted1 _) ?_
  unfold Builtin.«sorted»
  refine wpAny_bind (m := checkCount "sorted" 1 1 _) (wpAny_pure ?_)
  refine wpAny_bind (collect_set (A := A.in1) hh ⟨o, ho, hex.1, hd⟩ hf hb hr hl fun s1 vs k1 hz g1 o1 pm => ?_)
  have hvl : vs.length = n := by rw [pm.length_eq, List.length_map, Array.length_toList]; exact hn
  have hI : IntsAre vs (vs.map SrtO.iv) := SrtO.ints_iv fun v hv => by
    obtain ⟨e, he, q⟩ := List.mem_map.mp (pm.mem_iff.mp hv)
    obtain ⟨k, tk, h1, _⟩ := g e he
    exact ⟨k, tk, by rw [← q]; exact h1⟩
  have pk : (vs.map SrtO.iv).Perm (es.toList.map keyOf) := by
    have q := pm.map SrtO.iv
    rw [List.map_map] at q
    have e : es.toList.map (SrtO.iv ∘ fun x => x.2) = es.toList.map keyOf := List.map_congr_left fun x hx => by
      obtain ⟨k, tk, h1, _⟩ := g x hx
      show SrtO.iv x.2 = keyOf x
      unfold keyOf
      rw [h1]
      rfl
    rw [e] at q
    exact q
  have hsz : vs.length ≤ sizeLine := by
    have : es.size < scanBound := hb
    rw [hvl, ← hn]
    exact Nat.le_trans (Nat.le_of_lt this) (by decide)
  refine wpAny_bind (wpAny_newList ?_ hsz)
  have hoL : (s1.heap.push (seqObj "list" vs.toArray 0)).get? s1.heap.objs.size = some (seqObj "list" vs.toArray 0) := Heap.get?_push_size _ rfl
  refine wpAny_bind (wpAny_holding (wpAny_call_entry PyProof.Rows.slot_list_sort ⟨_, hoL, rfl⟩ PyProof.Rows.entry_list_sort (SrtO.list_sort_ord (s := { s1 with heap := s1.heap.push (seqObj "list" vs.toArray 0) }) SrtO.swo_int hoL hsz (fun h2 => SrtO.ints_sortable hI h2) fun out hs hb => ⟨_, rfl, ?_⟩) (PyProof.Rows.args_list_sort _)))
  obtain ⟨b1, b2, b3⟩ := SrtO.ints_out hI hs hb
  obtain ⟨c, hc⟩ := PyProof.Rows.sortedHeap_at (vs := vs) (out := out.toArray) hoL
  have pn : (out.map SrtO.iv).Perm (es.toList.map keyOf) := b2.trans pk
  refine wpAny_pure ⟨_, rfl, hQ _ s1.heap.objs.size out.toArray c (out.map SrtO.iv) (fun b u e => ?_) g1 o1 hz hc b1 (lt_of_le_nodup _ b3 (pn.nodup_iff.mpr nd)) (fun k => by rw [pn.mem_iff, ← hm k]) ?_⟩
  · have q := k1 b u e
    have hlt := Heap.lt_size q
    show (PyProof.Rows.sortedHeap (s1.heap.push (seqObj "list" vs.toArray 0)) s1.heap.objs.size vs out.toArray).get? b = some u
    rw [PyProof.Rows.sortedHeap_old (Nat.ne_of_lt hlt) (by rw [size_push']; exact Nat.lt_succ_of_lt hlt)]
    exact Heap.get?_push_of_some _ q
  · rw [pn.length_eq, List.length_map, Array.length_toList]; exact hn
/-- the new set, empty -/
abbrev set0 (w : World) : Obj := { cls := .type "set", dict := none, data := .set #[] 0 (.fresh 0 0 (!w.params.followText "set-order")) }
theorem call_set_lstI {l : Addr} {items : Array Value} (ns : List Int) {Q : Value → Shared → Prop} (hh : A.handled = none) (hl : s.heap.IsList l items) (hit : IntsAre items.toList ns) (hb : ns.length + 1 < scanBound)
    (h : ∀ (h' : Heap) (tk c : Nat), SetR w h' s.heap.objs.size (fun j => decide (j ∈ ns)) c → (∀ b o, s.heap.get? b = some o → h'.get? b = some o) → Q (.ref s.heap.objs.size) { s with heap := h', toks := tk }) :
    wpAny (model P w) A (call (.type "set") [.ref l]) Q E s := by
  have sz : items.size = ns.length := by
    have q := IntsAre.length hit
    rwa [Array.length_toList] at q
  obtain ⟨c, tl, hmro⟩ := F.called_set.mro
  have hmade := F.called_set.made
  have hsub := F.called_set.sub
  refine wpAny_call (codeAny_of_tree ?_)
  show wpAny _ _ (callAny (.type "set") _) _ _ _
  refine wpAny_pure ⟨Code.quiet_builtin _ (by decide +kernel), codeAny_builtin F.entry_type_call ?_⟩
  rw [Around.under_plain (weight_type_call_type "set" [.ref l] []) rfl]
  have h1 := F.called_set.notType
  have h2 := F.called_set.canCreate
  have hct := F.typeCall_set_1 (.ref l)
  repeat (any_goals (first | assumption | wp_step))
  refine codeAny_mono (code_set_led1 (.ref l) (E := E) (Q₁ := fun obj s₁ => obj = .ref s.heap.objs.size ∧ s₁ = { s with heap := s.heap.push (set0 w) }) ⟨rfl, rfl⟩) fun r s₁ hr => ?_
  match r, hr with
  | .error _, hr => exact hr
  | .ok (.ret obj), hr =>
    obtain ⟨rfl, rfl⟩ := hr
    obtain ⟨p, ep⟩ : ∃ p, p = s.heap.objs.size := ⟨_, rfl⟩
    obtain ⟨hp1, ehp⟩ : ∃ hp1, hp1 = s.heap.push (set0 w) := ⟨_, rfl⟩
    have at1 : hp1.get? p = some (set0 w) := by rw [ehp, ep]; exact Heap.get?_push_size _ rfl
    have z1 : hp1.objs.size = p + 1 := by rw [ehp, ep, Heap.size_push]
    have old1 : ∀ b o, s.heap.get? b = some o → hp1.get? b = some o := fun b o e => by rw [ehp]; exact Heap.get?_push_of_some _ e
    have ty : Shared.TypeIs { s with heap := hp1 } (.ref p) "set" := ⟨_, at1, rfl⟩
    rw [← ehp, ← ep]
    rw [← ep] at h
    have hli := F.called_set.init.lookup
    have hbi := F.called_set.init.bind (.ref p)
    repeat (any_goals (first | assumption | wp_step))
    refine codeAny_mono (codeAny_call_builtin (R := wants (fun r s₂ => r = .none ∧ ∃ h' tk c, s₂ = { s with heap := h', toks := tk } ∧ SetR w h' p (fun j => decide (j ∈ ns)) c ∧ (∀ b o, s.heap.get? b = some o → h'.get? b = some o)) E) F.called_set.init.plain F.entry_set_init (check_set_init_1 ty ?_)) fun r₂ s₂ hr₂ => ?_
    · obtain ⟨⟨ocls, odict, odata, oslots⟩, hol, hcl, nl, hdl⟩ := hl
      obtain rfl : ocls = .type "list" := hcl
      obtain rfl : odata = .seq items nl := hdl
      have hol' := old1 _ _ hol
      have sb1 := F.sub_list_set
      have sb2 := F.sub_list_frozenset
      have ne : (Value.type "list" == Value.type "dict") = false := by decide
      have hl1 : hp1.IsList l items := ⟨_, hol', rfl, nl, rfl⟩
      have lp : l < p := by rw [ep]; exact Heap.lt_size hol
      unfold Builtin.«set.__init__» noKeywords Builtin.Frozenset.updateFrom
      generalize hPI : pyIter = PI
      wp_walk
      subst hPI
      refine wpAny_pyIter_list hl1 ?_
      refine wpAny_bind (wpAny_runValue ?_)
      have hh3 : A.in1.in1.in1.handled = none := by simp [hh]
      have neI : l ≠ hp1.objs.size := by rw [z1]; exact Nat.ne_of_lt (Nat.lt_succ_of_lt lp)
      have out : p ∉ [hp1.objs.size, l] := fun z => by
        rcases List.mem_cons.mp z with z | z
        · rw [z1] at z
          exact absurd z (Nat.ne_of_lt (Nat.lt_succ_self p))
        · exact absurd (List.mem_singleton.mp z) (Nat.ne_of_gt lp)
      have vals : ∀ (i : Nat) (v : Value), items[i]? = some v → ∃ k t, ns[i]? = some k ∧ v = .int k t := fun i v hv => by
        have hi : i < ns.length := by rw [← sz]; exact (Array.getElem?_eq_some_iff.mp hv).1
        obtain ⟨t, e⟩ := PyProof.Rows.IntsAre.int_at hit i v (by rw [Array.getElem?_toList]; exact hv)
        refine ⟨ns[i], t, List.getElem?_eq_getElem hi, ?_⟩
        rw [e, List.getD_eq_getElem?_getD, List.getElem?_eq_getElem hi] <;> rfl
      refine set_update_ints ((Walks.list hh3 _ l neI items).toS) p out ns sz hb vals (items.size - 0) 0 _ (by omega) (Nat.zero_le _) ⟨⟨_, Heap.get?_push_size _ rfl, rfl, rfl⟩, hl1.push _⟩ ⟨0, Nat.le_refl 0, setR_new_at (Heap.get?_push_of_some _ at1)⟩ fun s' c' hm hc' hS' => ?_
      obtain ⟨h', g2, d', tk', os'⟩ := s'
      obtain rfl : g2 = s.gens := hm.gens
      obtain rfl : d' = s.drawn := hm.drawn
      obtain rfl : os' = s.os := hm.os
      refine wpAny_pure (wpAny_pure ⟨rfl, h', tk', c', rfl, hS', fun b o e => ?_⟩)
      have bp : b < p := by rw [ep]; exact Heap.lt_size e
      refine hm.heap b o (fun z => ?_) (Heap.get?_push_of_some _ (old1 b o e))
      rcases List.mem_cons.mp z with z | z
      · exact absurd z (Nat.ne_of_lt bp)
      · rw [List.mem_singleton.mp z, z1] at bp
        exact absurd bp (Nat.not_lt_of_le (Nat.le_succ p))
    · match r₂, hr₂ with
      | .error _, hr₂ => exact hr₂
      | .ok (.ret r), hr₂ =>
        obtain ⟨rfl, h', tk, c', rfl, hS', hk'⟩ := hr₂
        repeat (any_goals (first | assumption | wp_step))
        exact h _ _ _ hS' hk'
      | .ok .next, hr₂ => exact hr₂.elim
      | .ok .brk, hr₂ => exact hr₂.elim
      | .ok .cont, hr₂ => exact hr₂.elim
  | .ok .next, hr => exact hr.elim
  | .ok .brk, hr => exact hr.elim
  | .ok .cont, hr => exact hr.elim
end
end Tw
/-! sorted(set(list(d.values()))) as a term, and the end of a run beside such a dict -/
namespace Tw
open PySem PySem.Spec PyProof.Rows L2
def tSortVals (P : Program) (w : World) (td : TE) : TE := fun σ H Q => td σ H fun x H1 => ∃ (a : Addr) (xs : List WEnt) (ns : List Int), x = .ref a ∧ H1 a = some (dW P w a xs) ∧ xs.map (·.2.2) = ns.map V.int ∧ ns.length ≤ 4000 ∧
  ∀ (ys : List Int) (p : Addr), ys.Pairwise (· < ·) → (∀ k, k ∈ ys ↔ k ∈ ns) → H1 p = none → Q (.ref p) (upd H1 p (.lst (ys.map V.int)))
theorem ent_vals : ∀ {xs : List WEnt} {vs : List (List Str × Addr × Value)}, Paired entRel xs vs → Vals (xs.map (·.2.2)) (vs.map (·.2.2))
  | _, _, .nil => .nil
  | _, _, .cons h t => .cons h.2.2 (ent_vals t)
section
variable {X : Cx}
theorem sorted_setI {pins : List (Addr × Obj)} {σ : L2.St} {H : Hp} {s : Shared} {Q : VK} {a : Addr} {S : Int → Bool} {n : Nat} (hc : X.calm = true) (I : Inv X pins σ H s) (R : SetR X.w s.heap a S n)
    (q : ∀ (ys : List Int) (p : Addr), ys.Pairwise (· < ·) → (∀ k, k ∈ ys ↔ S k = true) → H p = none → Q (.ref p) (upd H p (.lst (ys.map V.int)))) : wpAny (model X.prog X.w) X.A (call (.builtin "sorted") [.ref a]) (EP X pins σ Q) X.xe s := by
  have small : n ≤ sizeLine := by
    obtain ⟨o, es, ep, t, ho, hex, hd, g, nd, hm, hb, hf, hn, _⟩ := R
    rw [← hn]
    exact Nat.le_trans (Nat.le_of_lt hb) (by decide)
  refine sorted_setA R (I.ok.hd hc) fun s' p out c ys k g o hp hg hi hs hm hlen => ?_
  have hlen2 : (ys.map V.int).length ≤ sizeLine := by rw [List.length_map, hlen]; exact small
  have hn : H p = none := I.hok.fresh hp
  have J : Inv X pins σ (upd H p (.lst (ys.map V.int))) { s with heap := s'.heap, gens := s'.gens, drawn := s'.drawn, toks := s'.toks } :=
    I.call (ch := []) (Un.laid k hp hn) (I.hok.laid k hp ⟨hlen2, out.toList, c, vals_of_ints hi, hg⟩) (by rw [g]; exact I.bare) (fun _ z => nomatch z)
  have e : s' = { s with heap := s'.heap, gens := s'.gens, drawn := s'.drawn, toks := s'.toks } := by
    cases s'
    cases s
    cases o
    rfl
  rw [e]
  exact ⟨.ref p, _, J, rfl, q ys p hs hm hn⟩
theorem pe_sortVals {o : Expr} {td : TE} {p1 p2 p3 ap cp q1 q2 q3 : Pos} (hc : X.calm = true) (ho : PE X o td) (g1 : Gl X "sorted") (m1 : X.mg "sorted" = none) (b1 : bootBuiltins "sorted" = some (.builtin "sorted")) (g2 : Gl X "set") (m2 : X.mg "set" = none) (g3 : Gl X "list") (m3 : X.mg "list" = none)
    (hbase : attributeBase o "values" X.env (eval o X.env) = eval o X.env := by rfl) (hline : (ap.endLine == cp.line) = true := by rfl)
    (n2 : starEach [.Call (.Name "list" p3) [.Call (.Attribute o "values" ap) [] [] cp] [] q3] X.env = (false, eval (.Call (.Name "list" p3) [.Call (.Attribute o "values" ap) [] [] cp] [] q3) X.env) :: starEach [] X.env := by rfl)
    (n3 : starEach [.Call (.Attribute o "values" ap) [] [] cp] X.env = (false, eval (.Call (.Attribute o "values" ap) [] [] cp) X.env) :: starEach [] X.env := by rfl) :
    PE X (.Call (.Name "sorted" p1) [.Call (.Name "set" p2) [.Call (.Name "list" p3) [.Call (.Attribute o "values" ap) [] [] cp] [] q3] [] q2] [] q1) (tSortVals X.prog X.w td) := by
  refine ⟨fun pins s σ H Q I h => ?_⟩
  refine Call_ (ld_blt I g1 m1 b1 (PyProof.Rows.callWith_builtin1 (PyProof.Rows.args_cons (Call_ (ld_blt I g2 m2 boot_set ?_)) rfl) rfl rfl))
  refine PyProof.Rows.callWith_type1 (PyProof.Rows.args_cons (Call_ (ld_blt I g3 m3 boot_list ?_)) n2) n2 rfl
  refine PyProof.Rows.callWith_type1 (PyProof.Rows.args_cons ?_ n3) n3 rfl
  refine wpAny_Call_method (T := "dict") (id := "dict.values") hbase rfl hline F.plainAttrs_dict F.slot_dict_values F.type_dict_values (thn (ho.run pins s σ H _ I h) fun u s1 ⟨x, H1, I1, rx, a, xs, ns, ex, hd, ev, hl, q⟩ => ?_)
  subst ex
  obtain rfl : u = Value.ref a := rx
  obtain ⟨z, hs, nd, vs, r, ob, es, ep, hob, hx, hdt, he⟩ := dW_of I1.hok hd
  have raw : s1.heap.DictRaw a es ep := ⟨ob, hob, hx, hdt⟩
  refine ⟨⟨ob, hob, hx.1⟩, fun b e => by cases e; exact ⟨ob, hob, hx.2.1⟩, ?_⟩
  refine method_meetsIn F.slot_dict_values F.entry_dict_values rfl (PySem.evalArgs_none ⟨rfl, ⟨ob, hob, hx.1⟩, F.args_dict_values_1 _, _, meets_dict_values_raw a hs, ⟨es, ep, raw⟩, ?_⟩)
  refine PyProof.Rows.args_nil ?_
  have view : (s1.heap.push { cls := .type "dict_values", data := .fields #[.ref a] }).IsValuesView s1.heap.objs.size a := ⟨_, Heap.get?_push_size _ rfl, rfl, rfl⟩
  have raw2 : (s1.heap.push { cls := .type "dict_values", data := .fields #[.ref a] }).DictRaw a es ep := ⟨ob, Heap.get?_push_of_some _ hob, hx, hdt⟩
  have esz : es.size = ns.length := by
    have e1 := congrArg List.length he
    have e2 := congrArg List.length ev
    rw [Array.length_toList, List.length_map] at e1
    rw [List.length_map, List.length_map] at e2
    rw [e1, ← ent_len r, e2]
  refine PySem.W.kdl_call (s := { s1 with heap := s1.heap.push { cls := .type "dict_values", data := .fields #[.ref a] } }) (KdlSrc.rawValues (prog := X.prog) (w := X.w)) (I1.ok.hd hc) ⟨view, raw2⟩ (by rw [esz]; exact Nat.le_trans hl (by decide)) fun h' tk acc c' keep got items => ?_
  refine PyProof.Rows.args_nil ?_
  have eacc : acc.toList = vs.map (·.2.2) := by
    have e0 : es.toList.map (·.val) = vs.map (·.2.2) := by
      rw [he, List.map_map]
      rfl
    rw [← e0]
    refine List.ext_getElem? fun j => ?_
    rw [Array.getElem?_toList, List.getElem?_map, Array.getElem?_toList]
    cases e : acc[j]? with
    | some v =>
      obtain ⟨hi, rfl⟩ := items.2 j v e
      rw [Array.getElem?_eq_getElem hi]
      rfl
    | none =>
      have : es.size ≤ j := by
        rw [← items.1]
        exact Array.getElem?_eq_none_iff.mp e
      rw [Array.getElem?_eq_none this]
      rfl
  have hInt : IntsAre acc.toList ns := by
    rw [eacc]
    have rv := ent_vals r
    rw [ev] at rv
    exact rv.ints
  have lst : h'.IsList (s1.heap.push { cls := .type "dict_values", data := .fields #[.ref a] }).objs.size acc := ⟨_, got, rfl, _, rfl⟩
  refine call_set_lstI (s := { s1 with heap := h', toks := tk }) ns (I1.ok.hd hc) lst hInt (by show ns.length + 1 < scanBound; unfold scanBound; omega) fun h2 tk2 c R keep2 => ?_
  refine PyProof.Rows.args_nil ?_
  have kept : ∀ b u, s1.heap.get? b = some u → h2.get? b = some u := fun b u e => keep2 b u (keep b u (Heap.get?_push_of_some _ e))
  have I2 : Inv X pins σ H1 { s1 with heap := h2, toks := tk2 } := I1.kept kept
  exact sorted_setI hc I2 R fun ys p hs hm hn => q ys p hs (fun k => by rw [hm k, decide_eq_true_iff]) hn
end
section
variable {K : PySem.W.Frag} {S : Side} {P : Program} {w : World} {p : Addr} {E : List EntI} {ρ : Rho} {Po : List EntI → Out → Prop}
/-- return sorted(set(list(d.values()))) -/
theorem rw_retVals {i : Nat} (h0 : ρ[i]? = some (some (.v (.ref p)))) (hl : E.length ≤ 4000) (h : ∀ ys : List Int, ys.Pairwise (· < ·) → (∀ k, k ∈ ys ↔ k ∈ E.map (·.2)) → Po E (.rt (.d (.list (ys.map PyData.int))))) :
    RunW K S P w p (tRet (tSortVals P w (tVar i))) ρ E Po := fun σ H hi hc he D _ q2 _ _ => by
  obtain ⟨v0, e0, rfl⟩ := he.get i _ h0
  obtain ⟨xs, ep, ka, eq⟩ := id hc
  have ev : xs.map (·.2.2) = (E.map (·.2)).map V.int := by
    have e := congrArg (List.map Prod.snd) eq
    rw [List.map_map, List.map_map] at e
    rw [List.map_map]
    exact e
  refine ⟨_, e0, p, xs, E.map (·.2), rfl, ep, ev, by rw [List.length_map]; exact hl, fun ys r pw mem nr => ?_⟩
  have np : r ≠ p := fun z => by rw [z, ep] at nr; exact nomatch nr
  have t : ToX S p H (upd H r (.lst (ys.map V.int))) := ⟨S.put H r _ hi (nhid hi nr) (nofrz nr), fun a o na m e => by rw [upd_ne (ne_of_none e nr)]; exact e⟩
  refine q2 E (.d (.list (ys.map PyData.int))) _ _ t ?_ (h ys pw mem)
  refine .lst (.inl (.inl (view_new hi nr))) ?_
  have dp : ∀ ys : List Int, DpAll K (S.view (upd H r (.lst (ys.map V.int)))) (ys.map V.int) (ys.map PyData.int) := fun ys => by
    generalize S.view _ = M
    induction ys with
    | nil => exact .nil
    | cons y ys ih => exact .cons (.int y) ih
  exact dp ys
end
end Tw
/-! the sets that the ways keep, as ints -/
namespace Tw
open PySem PySem.Spec PyProof.Rows L2
section
variable {K : PySem.W.Frag} {S : Side} {P : Program} {w : World} {p : Addr} {Po : List EntI → Out → Prop}
theorem forZ_nat {gt : TG} {tb : TS} {n : Nat} {f : Nat → PyData} (J : Nat → Rho → List EntI → Prop)
    (step : ∀ k, k < n → ∀ ρ E (Q : List EntI → Out → Prop), J k ρ E → (∀ ρ' E', J (k + 1) ρ' E' → Q E' (.nx ρ')) → EvG K (S.hide p) gt (.d (f k)) ρ fun ρ2 => RunW K S P w p tb ρ2 E Q) (fin : ∀ ρ E, J n ρ E → Po E (.nx ρ)) :
    ∀ (m k : Nat) (ρ : Rho) (E : List EntI), k + m = n → J k ρ E → forZ K S P w p gt tb ((List.range' k m).map f) ρ E Po
  | 0, k, ρ, E, e, h => by
    rw [show k = n by omega] at h
    exact fin ρ E h
  | m + 1, k, ρ, E, e, h => by
    show forZ K S P w p gt tb (f k :: (List.range' (k + 1) m).map f) ρ E Po
    exact step k (by omega) ρ E _ h fun ρ' E' h' => forZ_nat J step fin m (k + 1) ρ' E' (by omega) h'
end
theorem enum_nats (l : List Str) : enumD 0 (sD l) = (List.range' 0 l.length).map fun k => PyData.tuple [.int (k : Nat), .str (l.getD k "")] := by
  have h : ∀ (l : List Str) (i : Nat), enumD i (sD l) = (List.range l.length).map fun k => PyData.tuple [.int ((i + k : Nat) : Int), .str (l.getD k "")] := by
    intro l
    induction l with
    | nil => intro i; rfl
    | cons x l ih =>
      intro i
      have e2 : (List.range (l.length + 1)) = 0 :: (List.range l.length).map Nat.succ := List.range_succ_eq_map
      show PyData.tuple [.int (i : Int), .str x] :: enumD (i + 1) (sD l) = (List.range (l.length + 1)).map _
      rw [e2, ih, List.map_cons, List.map_map]
      refine List.cons_eq_cons.mpr ⟨rfl, List.map_congr_left fun k _ => ?_⟩
      show PyData.tuple [.int ((i + 1 + k : Nat) : Int), .str (l.getD k "")] = PyData.tuple [.int ((i + (k + 1) : Nat) : Int), .str ((x :: l).getD (k + 1) "")]
      rw [show i + 1 + k = i + (k + 1) by omega]
      rfl
  rw [h l 0, List.range_eq_range']
  refine List.map_congr_left fun k _ => ?_
  rw [Nat.zero_add]
theorem list_nats (L : List Way5) (v0 : Way5) : L.map Way5.D = (List.range' 0 L.length).map fun k => (L.getD k v0).D := by
  refine List.ext_getElem? fun i => ?_
  rw [List.getElem?_map, List.getElem?_map]
  by_cases h : i < L.length
  · rw [List.getElem?_eq_getElem h, List.getElem?_range' h]
    simp [List.getD_eq_getElem?_getD, h]
  · rw [List.getElem?_eq_none (by omega), List.getElem?_eq_none (by rw [List.length_range']; omega)]
    rfl
/-- the promises of I, from the k-th on left out, that v keeps -/
def maskU (I : List Nat) (v : Way5) : Nat → Nat
  | 0 => 0
  | k + 1 => if keepsN v (I.getD k 0) then maskU I v k ||| 2 ^ k else maskU I v k
def entF (F : Way5 → Int) : List EntI := waysN.map fun v => (v.L, F v)
theorem ways_Lnodup : (waysN.map Way5.L).Nodup := by decide +kernel
theorem at_ways {F : Way5 → Int} {u : Way5} : ∀ {L : List Way5}, u ∈ L → atE (L.map fun v => (v.L, F v)) u.L = some (F u)
  | v :: L, h => by
    by_cases c : v.L = u.L
    · have e := L_inj c
      subst e
      simp [atE, List.find?_cons]
    · have m : u ∈ L := (List.mem_cons.mp h).resolve_left fun e => c (by rw [e])
      have ih := at_ways (F := F) m
      have a : atE ((v :: L).map fun v => (v.L, F v)) u.L = atE (L.map fun v => (v.L, F v)) u.L := by simp [atE, List.find?_cons, c]
      rw [a, ih]
theorem put_ways {F : Way5 → Int} {u : Way5} {n : Int} : putE (entF F) u.L n = waysN.map fun v => (v.L, if v.L = u.L then n else F v) := by
  unfold putE entF
  rw [List.map_map]
  refine List.map_congr_left fun v _ => ?_
  show (if v.L = u.L then (v.L, n) else (v.L, F v)) = _
  split <;> rfl
end Tw
/-! d = {t: v for t in ..}: the name takes the dict inside the block -/
namespace Tw
open PySem PySem.Spec PyProof.Rows L2
theorem sw_dict {kx vx : Expr} {gs : List Comprehension} {scope : Scope} {pos py : Pos} {y : Str} {l : Nat} {env : Env} (hk : env.scope.kind = .function) (hy : env.scope.names.lookup y = some .local) (hl : (py.line == pos.line) = true)
    (ha : (scope.names.any fun (n, k) => n == y && (k == .local || k == .cell)) = false) : swapsWith (.DictComp kx vx gs scope pos) (some (.Name y py)) l env = pure true := by
  have ky : env.kindOf y = some .local := hy
  have hb : env.blockKind = .function := by unfold Env.blockKind; rw [hk]; rfl
  unfold swapsWith
  simp only [hb, ky, ha, Expr.pos, hl]
  rfl
section
variable {X : Cx}
theorem ps_setDcW {K : PySem.W.Frag} (hK : X.K = K) {i : Nat} {y : Str} {py : Pos} {kx vx : Expr} {c : Cl} {r : Clr} {gens : List Comprehension} {sc : Scope} {own : List (Str × Nat)} {pos spos : Pos} {tk tv : TE} (hc : X.calm = true) (hu : X.A.units < cLine) (hN : X.N.Nodup) (hy : X.N[i]? = some y) (hyl : X.env.scope.names.lookup y = some .local)
    (hsw : swapsWith (.DictComp kx vx gens sc pos) (some (.Name y py)) spos.line X.env = pure true) (hi : PI X c.tg c.iter r.wi) (ok : BlkOk X.N X.env.scope sc own) (hv : r.vs = own.map (·.2)) (hgens : gens = [c.co])
    (hcl : ∀ s H C cl fp, PG (X.blk s H sc (compEnvC sc cl C X.env) fp) c.tg r.g ∧ PTs (X.blk s H sc (compEnvC sc cl C X.env) fp) c.ifs r.tt ∧ PE (X.blk s H sc (compEnvC sc cl C X.env) fp) kx tk ∧ PE (X.blk s H sc (compEnvC sc cl C X.env) fp) vx tv)
    (hs : ∀ x, foldedSetIterable c.iter X.env x = pure x := by intro _; rfl) : PS X (.Assign [.Name y py] (.DictComp kx vx gens sc pos) spos) (tAsg (tDcW K X.prog X.w tk tv r) (gName i)) := by
  subst hK
  subst hgens
  refine ⟨fun pins s σ H D I h => ?_⟩
  rw [exec_Assign_Name_used _ _ _ _ hsw]
  refine wpAny_bind (wpAny_standAt (wpAny_bind ?_))
  show wpAny _ X.A (do let _ ← comprehension (.DictComp kx vx [c.co] sc pos) sc X.env (firstIterPos [c.co] pos) newDict false (eval c.iter X.env) (some (assign (.Name y py) X.env))) _ _ s
  have h : tDcW X.K X.prog X.w tk tv r σ H (fun x H1 => gName i x σ H1 D.nx) := h
  refine wpAny_bind (thn (dcW_core (Qf := fun _ s' => SP X pins D .next s') hc hu hN I hi ok hv hcl hs h fun L C s' m H' I' q hn ⟨f0, f1, f2, f3, f4, f5⟩ => ?_) fun _ s' hq => wpAny_pure (wpAny_pure hq))
  show wpAny _ _ (assign (.Name y py) X.env (.ref L)) _ _ _
  refine wpAny_assign_Name (store_ok2 (v := V.ref L) I' hN hy (.inl hyl) rfl (fun s2 I2 ⟨a, sb, ha⟩ => ?_) (.inr hyl))
  have ne : C ≠ a := by
    rcases ha with z | z
    · rw [z]; exact f1
    · exact fun e => f4 y a z e.symm
  exact ⟨m, hn.sameBut sb ne, fun h3 sb3 => ⟨_, H', I2.turned (t' := s2.toks) (fun b o hb e => (sb3.2 b hb).trans e) f0 f1 f3 f4 f5, q⟩⟩
end
end Tw
/-! an int as a test; bits -/
namespace Tw
open PySem PySem.Spec PyProof.Rows L2
def tTruI (ta : TE) : TT := fun σ H Q => ta σ H fun x H1 => ∃ i : Int, x = .int i ∧ Q (i != 0) H1
theorem pt_truI {X : Cx} {a : Expr} {ta : TE} (ha : PE X a ta) (he : ∀ whole, isTrue a X.env whole = (do let v ← whole; standAt a.pos; holding [v] (truthy v)) := by intro _; rfl) : PT X a (tTruI ta) := by
  refine ⟨fun pins s σ H Q I h => ?_⟩
  refine isTrue_plain (thn (ha.run pins s σ H _ I h) fun v s1 ⟨x, H1, I1, r1, i, ex, q1⟩ => ?_) (he _)
  subst ex
  exact tru_ok pins s1 σ H1 (.int i) v Q I1 r1 ⟨_, rfl, q1⟩
theorem et_truI {K : PySem.W.Frag} {S : Side} {ρ : Rho} {ta : TE} {PB : Bool → Prop} (h : Ev K S ta ρ fun x => ∃ i : Int, x = .d (.int i) ∧ PB (i != 0)) : EvT K S (tTruI ta) ρ PB := fun σ H hi he Q q =>
  h σ H hi he _ fun v x H1 t1 i1 p1 => by
    obtain ⟨i, rfl, p1⟩ := p1
    cases dp_d i1
    exact ⟨i, rfl, q _ H1 t1 p1⟩
/-- the k-th bit, read as the program reads it -/
theorem bit_read (m k : Nat) : ((Builtin.bitAnd ((m : Int) / 2 ^ ((k : Nat) : Int).toNat) 1) != 0) = m.testBit k := by
  have e : ((m : Int) / 2 ^ ((k : Nat) : Int).toNat) = ((m / 2 ^ k : Nat) : Int) := by
    rw [Int.toNat_natCast, Int.natCast_ediv, Int.natCast_pow]
    rfl
  rw [e, bitAnd_pp (Int.natCast_nonneg _) (by decide), Int.toNat_natCast, Nat.testBit_eq_decide_div_mod_eq]
  have e2 : (m / 2 ^ k) &&& (1 : Int).toNat = m / 2 ^ k % 2 := Nat.and_one_is_mod _
  rw [e2]
  rcases Nat.mod_two_eq_zero_or_one (m / 2 ^ k) with z | z
  · rw [z]; rfl
  · rw [z]; rfl
end Tw
/-! a generator expression over anything that can be walked, its element told by what stood when it was made -/
namespace Tw
open PySem PySem.Spec PyProof.Rows L2

/-- xv can be walked: n items, of the i-th Pi i holds -/
def CanIter (prog : Program) (w : World) (A : Around) (E : Value → Shared → Prop) (P : Addr) (xv : Value) (s1 : Shared) (n : Nat) (Pi : Nat → Value → Prop) : Prop :=
  ∀ (Q : Value → Shared → Prop), (∀ (it : Addr) (h2 : Heap) (fp wr : List Addr) (St : Nat → Heap → Prop), (∀ A' : Around, A'.handled = none → Walks prog w A' it fp wr n Pi St) → St 0 h2 →
    (∀ b o, s1.heap.get? b = some o → h2.get? b = some o) → s1.heap.objs.size ≤ h2.objs.size → (∀ b ∈ wr, s1.heap.objs.size ≤ b) → (∀ b ∈ fp, b ≠ P ∧ b < h2.objs.size) → Q (.ref it) { s1 with heap := h2 }) → wpAny (model prog w) A (pyIter xv) Q E s1
section
variable {prog : Program} {w : World} {A : Around} {E : Value → Shared → Prop} {P : Addr} {s1 : Shared} {ps : Array Value}
theorem can_list {l : Addr} {items : Array Value} (hl : s1.heap.IsList l items) (hP : s1.heap.get? P = some { cls := .none, data := .fields ps }) : CanIter prog w A E P (.ref l) s1 items.size fun i v => items[i]? = some v := by
  intro Q h
  have hlt : l < s1.heap.objs.size := let ⟨_, e, _⟩ := hl; Heap.lt_size e
  have hPl : P < s1.heap.objs.size := Heap.lt_size hP
  have hne : l ≠ P := fun z => by
    obtain ⟨o, e, c, _⟩ := hl
    rw [z, hP] at e
    cases e
    cases c
  refine wpAny_pyIter_list hl (h s1.heap.objs.size _ [s1.heap.objs.size, l] [s1.heap.objs.size] _ (fun A' hA => Walks.list hA _ l (Nat.ne_of_lt hlt) items) ⟨⟨_, Heap.get?_push_size _ rfl, rfl, rfl⟩, ?_⟩ (fun b o e => Heap.get?_push_of_some _ e) ?_ ?_ ?_)
  · exact hl.at fun o e => Heap.get?_push_of_some _ e
  · rw [Heap.size_push]
    omega
  · intro b hb
    rw [List.mem_singleton.mp hb]
    exact Nat.le_refl _
  · intro b hb
    rw [Heap.size_push]
    rcases List.mem_cons.mp hb with z | hb
    · rw [z]
      exact ⟨fun e => Nat.lt_irrefl P (Nat.lt_of_lt_of_eq hPl e), Nat.lt_succ_self _⟩
    · rw [List.mem_singleton.mp hb]
      exact ⟨hne, Nat.lt_succ_of_lt hlt⟩
theorem can_str {x : Str} {t : Tok} (hP : s1.heap.get? P = some { cls := .none, data := .fields ps }) : CanIter prog w A E P (.str x t) s1 x.cps.size (SignAt x) := by
  intro Q h
  have hPl : P < s1.heap.objs.size := Heap.lt_size hP
  refine wpAny_pyIter_str fun o St W hst => h s1.heap.objs.size _ [s1.heap.objs.size] [s1.heap.objs.size] St W hst (fun b o e => Heap.get?_push_of_some _ e) ?_ ?_ ?_
  · rw [Heap.size_push]
    omega
  · intro b hb
    rw [List.mem_singleton.mp hb]
    exact Nat.le_refl _
  · intro b hb
    rw [Heap.size_push, List.mem_singleton.mp hb]
    exact ⟨fun e => Nat.lt_irrefl P (Nat.lt_of_lt_of_eq hPl e), Nat.lt_succ_self _⟩
end
theorem walksS_imp {prog : Program} {w : World} {A : Around} {I : Addr} {fp wr : List Addr} {G : Array GenState → Array GenState → Prop} {n : Nat} {P P' : Nat → Value → Prop} {St : Nat → Shared → Prop} (h : ∀ i v, P i v → P' i v) (W : WalksS prog w A I fp wr G n P St) : WalksS prog w A I fp wr G n P' St where
  sub := W.sub
  grefl := W.grefl
  gtrans := W.gtrans
  frame := W.frame
  item := fun i s Q E hi hst hQ => W.item i s Q E hi hst fun v s' hv => hQ v s' (h i v hv)
  done := W.done
  self := W.self
section
variable {X : Cx} {pins : List (Addr × Obj)} {σ : L2.St} {H : Hp} {s : Shared}
/-- the element: F i for an item of which Pi i holds; all that stood in s1, but the table, is there -/
def EltH (X : Cx) (P : Addr) (s1 : Shared) (scope : Scope) (x : Str) (elt : Expr) (Pi F : Nat → Value → Prop) : Prop :=
  ∀ (cenv : Env) (A' : Around) (E' : Value → Shared → Prop) (i : Nat) (v : Value) (s₂ : Shared) (m₂ : Str → Option Value), A'.handled = none → A'.depth ≤ X.A.depth + 1 → A'.units ≤ X.A.units + 8 → cenv.scope = scope → cenv.cells = cloFrom X.env.cells scope.names [] → cenv.globals = X.env.globals →
    s₂.heap.Ns cenv.locals m₂ → m₂ x = some v → Pi i v → (∀ b o, b ≠ P → s1.heap.get? b = some o → s₂.heap.get? b = some o) → wpAny (model X.prog X.w) A' (eval elt cenv) (fun y s₃ => F i y ∧ Keeps s₂ s₃) E' s₂
/-- the generator g, ready to be walked -/
def ReadyG (X : Cx) (pins : List (Addr × Obj)) (σ : L2.St) (H1 : Hp) (P : Addr) (n : Nat) (F : Nat → Value → Prop) (g : Addr) (s5 : Shared) : Prop :=
  ∃ (fp wr : List Addr) (G : Array GenState → Array GenState → Prop) (St : Nat → Shared → Prop),
    WalksS X.prog X.w X.A.in1 g fp wr G n (fun j y => j < n ∧ F j y) St ∧ St 0 s5 ∧ (∀ b ∈ fp, b < s5.heap.objs.size) ∧ ∀ s', Moved wr G s5 s' → ∃ H2, GxR.Tabbed P H1 H2 ∧ Inv X pins σ H2 s'
theorem gen_it {c P : Addr} {elt iter : Expr} {x : Str} {px gpos : Pos} {scope : Scope} {te : TE} {k : Nat} {Q' : Value → Shared → Prop} {R : V → Hp → Prop}
    (hr : Room k X.A) (TB : GxR.TabB X.base X.mg c P) (hcode : X.env.code = .ref c) (S : GxR.GenS X.env scope x) (hi : PE X iter te) (hs : ∀ v, genFold iter X.env v = pure v) (I : Inv X pins σ H s)
    (h : te σ H fun v H1 => GxR.TabG H1 P ∧ R v H1)
    (hc : ∀ v u H1 s1 (ps : Array Value), Inv X pins σ H1 s1 → RelV v u → R v H1 → H1 P = some (.tbl ps) → s1.heap.get? P = some { cls := .none, data := .fields ps } → ∃ (n : Nat) (Pi F : Nat → Value → Prop), CanIter X.prog X.w X.A X.xe P u s1 n Pi ∧ EltH X P s1 scope x elt Pi F ∧ ∀ g s5, ReadyG X pins σ H1 P n F g s5 → Q' (.ref g) s5) :
    wpAny (model X.prog X.w) X.A (eval (.GeneratorExp elt [⟨.Name x px, iter, [], 0⟩] scope gpos) X.env) Q' X.xe s := by
  refine wpAny_GeneratorExp_walksQD hr.hd S.co (closure_ok S.free) S.cell S.dot S.loc S.kind (by have := hr.dp; omega) ?_ hs
  refine thn (hi.run pins s σ H _ I h) fun xv s1 ⟨v, H1, I1, r1, q1⟩ => ?_
  obtain ⟨⟨ps, hP, ht⟩, q1⟩ := q1
  have hPs : s1.heap.get? P = some { cls := .none, data := .fields ps } := I1.hok P _ hP
  obtain ⟨n, Pi, F, hcan, hel, hQ⟩ := hc v xv H1 s1 ps I1 r1 q1 hP hPs
  refine hcan _ fun it h2 fp wr St W hst hk2 hz2 hwr hfp => ?_
  have hPlt : P < s1.heap.objs.size := Heap.lt_size hPs
  have hP2 : h2.get? P = some { cls := .none, data := .fields ps } := hk2 _ _ hPs
  have cd : PySem.W.CodeHd h2 c P := TB.code.keeps fun b u e => hk2 _ _ (I1.bk b u e)
  have lim2 : h2.NoLimit := I1.nolimit.keeps hk2
  have cont : ∀ (code : Value) (h3 : Heap) (tk : Nat) (ps' : Array Value), Heap.ExtBut P h2 h3 → h2.objs.size ≤ h3.objs.size → h3.get? P = some { cls := .none, data := .fields ps' } → (∃ more, ps' = ps ++ more) → TriplesOk ps'.toList →
      wpAny (model X.prog X.w) X.A (builtinsFor X.env.globals X.env.builtins) (fun bi s₄ =>
        ∃ Ia fp wr n₀ Pf St₀ pz F, Value.ref it = .ref Ia ∧ (∀ A' : Around, A'.handled = none → Walks X.prog X.w A' Ia fp wr n₀ Pf St₀) ∧ St₀ 0 s₄.heap ∧ (∀ b ∈ fp, b < s₄.heap.objs.size) ∧ s₄.heap.NoLimit ∧ cStatics ∉ wr ∧
          (∀ href : Heap, (∀ b o, s₄.heap.get? b = some o → href.get? b = some o) →
            QuietGenD X.prog X.w (genEnv scope (cloFrom X.env.cells scope.names []) s₄.heap.objs.size code bi X.env) x [] elt (List.range s₄.heap.objs.size) wr Pf pz F href (X.A.depth + 1) (X.A.units + 8)) ∧
          (∀ a h₅ tk gs, gs.bare = true → s₄.heap.objs.size < a → h₅.objs.size = a + 1 → (∀ b o, s₄.heap.get? b = some o → h₅.get? b = some o) →
            WalksS X.prog X.w X.A.in4 a (a :: s₄.heap.objs.size :: List.range s₄.heap.objs.size) (s₄.heap.objs.size :: wr) (GenOnlyQ s₄.gens.size) (passing pz n₀ 0).length
              (fun j y => ∃ i, (passing pz n₀ 0)[j]? = some i ∧ F i y) (GenAt X.prog X.w X.A.in4 a s₄.gens.size s₄.heap.objs.size (List.range s₄.heap.objs.size) wr pz n₀ F) →
            GenAt X.prog X.w X.A.in4 a s₄.gens.size s₄.heap.objs.size (List.range s₄.heap.objs.size) wr pz n₀ F 0 { s₄ with gens := s₄.gens.push gs, toks := tk, heap := h₅ } →
            Q' (.ref a) { s₄ with gens := s₄.gens.push gs, toks := tk, heap := h₅ })) X.xe { s1 with heap := h3, toks := tk } := by
    intro code h3 tk ps' hx3 hsz3 hP3 hmore ht3
    obtain ⟨bm, ob, e1, e2, e3, e4, e5, e6, e7, e8⟩ := TB.bm
    have hcP : cStatics ≠ P := fun e => by
      obtain ⟨_, hns, _⟩ := I1.nolimit
      obtain ⟨o', es, ep, ho, hd, _⟩ := hns
      rw [e, hPs] at ho
      cases ho
      cases hd
    have hcl : cStatics < s1.heap.objs.size := let ⟨_, hns, _⟩ := I1.nolimit; hns.lt
    have keep3 : ∀ b u, b ≠ P → s1.heap.get? b = some u → h3.get? b = some u := fun b u hb e => hx3 b u hb (hk2 _ _ e)
    refine wpAny_builtinsFor (m := X.mg) (by rw [I1.ok.glob]; exact ((I1.mod.glob.keeps I1.bk).keeps hk2).extBut hx3 TB.gP) e1 e2 (keep3 _ _ e4 (I1.bk _ _ e5)) e6 e7 e8 ?_
    refine ⟨it, fp, wr, n, Pi, St, (fun _ => true), F, rfl, W, ?_, ?_, lim2.extBut hx3 hcP, ?_, ?_, ?_⟩
    · exact (W X.A hr.hd).frame _ _ _ hst fun b hb u e => hx3 b u (hfp b hb).1 e
    · intro b hb
      exact Nat.lt_of_lt_of_le (hfp b hb).2 hsz3
    · intro z
      exact absurd (hwr _ z) (Nat.not_le.mpr hcl)
    · intro href hhref
      have kp : ∀ (s₂ : Shared), (∀ b ∈ List.range h3.objs.size, b ∉ wr → ∀ o, href.get? b = some o → s₂.heap.get? b = some o) → ∀ b o, b ≠ P → s1.heap.get? b = some o → s₂.heap.get? b = some o := fun s₂ hk b o hb e => by
        have e3' := keep3 b o hb e
        exact hk b (List.mem_range.mpr (Heap.lt_size e3')) (fun z => absurd (hwr b z) (Nat.not_le.mpr (Heap.lt_size e))) o (hhref b o e3')
      refine ⟨fun A' E' i v s₂ m₂ hA hD hU hPv hn hm hk => ?_, fun A' E' i v s₂ m₂ hA hD hU hPv hp hn hm hk => ?_⟩
      · simp only [List.forIn_nil]
        exact wpAny_pure ⟨rfl, GxR.keeps_refl _⟩
      · refine hel (genEnv scope (cloFrom X.env.cells scope.names []) h3.objs.size code _ X.env) A' E' i v s₂ m₂ hA hD hU rfl rfl rfl hn hm hPv (kp s₂ hk)
    · intro g h5 tk5 gs hgb hag hsz5 hk5 W5 hat
      simp only [GxR.passing_true, List.length_range] at W5
      refine hQ g _ ⟨_, _, _, _, walksS_imp ?_ W5.in4_1, hat, ?_, fun s' hm => ?_⟩
      · rintro j y ⟨i, hij, hF⟩
        obtain ⟨hj, ej⟩ := List.getElem?_eq_some_iff.mp hij
        rw [List.getElem_range] at ej
        subst ej
        rw [List.length_range] at hj
        exact ⟨hj, hF⟩
      · intro b hb
        have hag' : h3.objs.size < g := hag
        show b < h5.objs.size
        rw [hsz5]
        rcases List.mem_cons.mp hb with z | hb
        · rw [z]
          exact Nat.lt_succ_self _
        rcases List.mem_cons.mp hb with z | hb
        · rw [z]
          exact Nat.lt_succ_of_lt hag'
        · exact Nat.lt_succ_of_lt (Nat.lt_trans (List.mem_range.mp hb) hag')
      · obtain ⟨more, em⟩ := hmore
        have nwr : ∀ b u, s1.heap.get? b = some u → b ∉ h3.objs.size :: wr := fun b u e hb => by
          have hl := Heap.lt_size e
          rcases List.mem_cons.mp hb with z | z
          · rw [z] at hl
            have h9 : (h3.objs.size : Nat) < s1.heap.objs.size := hl
            omega
          · exact absurd (hwr _ z) (Nat.not_le.mpr hl)
        have J := GxR.inv_tab (more := more) (h' := s'.heap) (g' := s'.gens) (d' := s'.drawn) (t' := s'.toks) I1 hP (fun b u hb e => hm.heap b u (nwr b u e) (hk5 b u (keep3 b u hb e)))
          (by rw [← em]; exact hm.heap P _ (nwr P _ hPs) (hk5 P _ hP3)) (AllBare.movedS (I1.bare.push hgb) hm)
        rw [GxR.sh_eta s1 s' hm.os] at J
        refine ⟨upd H1 P (.tbl (ps ++ more)), ⟨⟨ps ++ more, upd_same, by rw [← em]; exact ht3⟩, fun b hb => upd_ne hb⟩, J⟩
  refine ⟨lim2, ?_⟩
  cases hf : codeAmong gpos ps.toList with
  | none =>
    refine wpAny_genexprCodeX hcode (cd.code hP2 ht) (cd.tab hP2) hf fun c' h' tk hx hge hlt hco' _ htab' _ => ?_
    obtain ⟨o1, vs, f1, tf, fl, tg, inF, tx, tt, op, _, _, _, _, _, _, _, _, _, htr, _⟩ := hco'
    exact cont _ h' tk _ hx (Nat.le_trans hge (Nat.le_of_lt hlt)) htab'.2 ⟨_, rfl⟩ htr
  | some cv =>
    refine wpAny_genexprCode_hit hcode (cd.code hP2 ht) hf ?_
    exact cont cv h2 s1.toks ps (Heap.ExtBut.refl _ _) (Nat.le_refl _) hP2 ⟨#[], by simp⟩ ht
end
end Tw
/-! any(f(x, y) for x in xs), f a def of one line over two ints -/
namespace Tw
open PySem PySem.Spec PyProof.Rows L2
section
variable {P : Program} {w : World} {K : PySem.W.Frag}
/-- a def of one line, of two ints, called wherever there is room -/
theorem call_leaf2 {x qual x1 x2 : Str} {st : Stmt} {f : Addr} {fd : FuncData} {cdv : Value} {N : List Str} {e : Expr} {pos : Pos} {pb : Int → Int → Bool} (F : FunC K x qual st f fd cdv) (Sc : FnScope N [x1, x2] (defScope st)) (h12 : x1 ≠ x2)
    (l1 : (defScope st).names.lookup x1 = some .local) (l2 : (defScope st).names.lookup x2 = some .local) (B : Binds K fd [x1, x2] []) (hb : defBody st = [.Return (some e) pos])
    (he : ∀ (env : Env) (A : Around) (E : Value → Shared → Prop) (s : Shared) (m : Str → Option Value) (a b : Int) (t u : Tok), env.scope = defScope st → s.heap.Ns env.locals m → m x1 = some (.int a t) → m x2 = some (.int b u) →
      wpAny (model P w) A (eval e env) (fun y s' => y = .bool (pb a b) ∧ Keeps s s') E s)
    {A : Around} {s : Shared} (hd : A.depth < recursionLimit) (KI : K.In s.heap) (lim : s.heap.NoLimit) {a b : Int} {t u : Tok} {Q : Value → Shared → Prop} {E : Value → Shared → Prop} (hQ : ∀ s', Keeps s s' → Q (.bool (pb a b)) s') :
    wpAny (model P w) A (call (.ref f) [.int a t, .int b u]) Q E s := by
  obtain ⟨oc, od, kV, doc, pm, an, ct, osl, rfl, lk, hcd⟩ := F.ex
  refine wpAny_call (codeAny_call_function hd (KI _ _ lk) rfl Sc.co Sc.gen (body := defBody st) rfl (PySem.W.codeRec_of KI hcd) (B s [.int a t, .int b u] KI rfl _ _ _ _ ?_))
  refine wpAny_newFunctionEnv_cells Sc.kind (fun y hy => ?_) fun env he' s1 x => ?_
  · rcases List.mem_cons.mp hy with z | hy
    · rw [z]
      exact .inl l1
    · rcases List.mem_cons.mp hy with z | hy
      · rw [z]
        exact .inl l2
      · cases hy
  subst he'
  refine ⟨lim.keeps x.toInCall.keep, codeAny_func ?_⟩
  rw [hb]
  obtain ⟨h1, tk, rfl, hk⟩ := x.done
  refine wpAny_execs_cons (wpAny_Return_some (wpAny_mono (he _ _ _ _ _ a b t u rfl x.toInCall.ns ?_ ?_) (fun y s' hy => ?_) fun _ _ z => z))
  · exact bindL_get (P := [x1, x2]) (vs := [.int a t, .int b u]) (i := 0) (by simp [h12]) rfl rfl l1
  · exact bindL_get (P := [x1, x2]) (vs := [.int a t, .int b u]) (i := 1) (by simp [h12]) rfl rfl l2
  · obtain ⟨rfl, h2, tk2, rfl, hk2⟩ := hy
    exact hQ _ ⟨h2, tk2, rfl, fun b o q => hk2 b o (hk b o q)⟩
/-- a | b == b -/
theorem leaf_or {x1 x2 : Str} {sc : Scope} {p1 p2 p3 p4 p5 : Pos} (hk : sc.kind = .function) (l1 : sc.names.lookup x1 = some .local) (l2 : sc.names.lookup x2 = some .local) (d1 : (x1 == ("__debug__" : Str)) = false := by decide) (d2 : (x2 == ("__debug__" : Str)) = false := by decide) :
    ∀ (env : Env) (A : Around) (E : Value → Shared → Prop) (s : Shared) (m : Str → Option Value) (a b : Int) (t u : Tok), env.scope = sc → s.heap.Ns env.locals m → m x1 = some (.int a t) → m x2 = some (.int b u) →
      wpAny (model P w) A (eval (.Compare (.BinOp (.Name x1 p1) .BitOr (.Name x2 p2) p3) [.Eq] [.Name x2 p4] p5) env) (fun y s' => y = .bool (Builtin.bitOr a b == b) ∧ Keeps s s') E s := by
  intro env A E s m a b t u hs hn h1 h2
  have k1 : env.kindOf x1 = some .local := by show env.scope.names.lookup x1 = _; rw [hs]; exact l1
  have k2 : env.kindOf x2 = some .local := by show env.scope.names.lookup x2 = _; rw [hs]; exact l2
  have hk' : env.scope.kind = .function := by rw [hs]; exact hk
  refine wpAny_Compare1 (wpAny_BinOp (wpAny_Name (wpAny_loadName_local hk' k1 hn h1 (wpAny_Name (wpAny_loadName_local hk' k2 hn h2 ?_) d2)) d1))
  refine PyProof.Rows.or_int (wpAny_Name (wpAny_loadName_local (s := { s with toks := s.toks + 1 }) hk' k2 hn h2 ?_) d2)
  exact PyProof.Rows.eq_int ⟨rfl, s.heap, s.toks + 1, rfl, fun _ _ e => e⟩
end
section
variable {X : Cx} {pins : List (Addr × Obj)} {σ : L2.St} {H : Hp} {s : Shared}
/-- any(f(x, y) for x in xs): y in slot j -/
def tAnyC (K : PySem.W.Frag) (P : Addr) (j : Nat) (pb : Int → Int → Bool) (te : TE) : TE := fun σ H Q => te σ H fun v H1 => GxR.TabG H1 P ∧ ∃ (a : Addr) (ns : List Int) (m : Int), v = .ref a ∧ SqL K H1 a (ns.map V.int) ∧ σ[j]? = some (some (.int m)) ∧
  ∀ H2, GxR.Tabbed P H1 H2 → Q (.bl (ns.any fun n => pb n m)) H2
theorem vals_ints : ∀ {ns : List Int} {us : List Value}, Vals (ns.map V.int) us → ∀ (i : Nat) (v : Value), us[i]? = some v → ∃ n t, ns[i]? = some n ∧ v = .int n t
  | [], _, h, i, v, e => by cases h; simp at e
  | n :: ns, _, h, 0, v, e => by
    cases h with
    | cons r h =>
      obtain ⟨t, rfl⟩ := r
      exact ⟨n, t, rfl, (Option.some.inj e).symm⟩
  | n :: ns, _, h, i + 1, v, e => by
    cases h with
    | cons r h => exact vals_ints h i v (by simpa using e)
def atB {α : Type} (p : α → Bool) (l : List α) (i : Nat) : Bool := match l[i]? with
  | some a => p a
  | none => false
theorem atB_some {α : Type} {p : α → Bool} {l : List α} {i : Nat} {a : α} (h : l[i]? = some a) : atB p l i = p a := by
  unfold atB
  rw [h]
theorem any_at {α : Type} (p : α → Bool) : ∀ l : List α, (List.range l.length).any (atB p l) = l.any p := fun l => by
  rw [Bool.eq_iff_iff, List.any_eq_true, List.any_eq_true]
  constructor
  · rintro ⟨j, hj, h⟩
    have hj' := List.mem_range.mp hj
    rw [atB_some (List.getElem?_eq_getElem hj')] at h
    exact ⟨l[j], List.getElem_mem hj', h⟩
  · rintro ⟨b, hb, h⟩
    obtain ⟨j, hj, e⟩ := List.getElem_of_mem hb
    refine ⟨j, List.mem_range.mpr hj, ?_⟩
    rw [atB_some (List.getElem?_eq_getElem hj), e]
    exact h
theorem all_at {α : Type} (p : α → Bool) : ∀ l : List α, (List.range l.length).all (atB p l) = l.all p := fun l => by
  rw [Bool.eq_iff_iff, List.all_eq_true, List.all_eq_true]
  constructor
  · intro h b hb
    obtain ⟨j, hj, e⟩ := List.getElem_of_mem hb
    have q := h j (List.mem_range.mpr hj)
    rw [atB_some (List.getElem?_eq_getElem hj), e] at q
    exact q
  · intro h j hj
    have hj' := List.mem_range.mp hj
    rw [atB_some (List.getElem?_eq_getElem hj')]
    exact h _ (List.getElem_mem hj')
theorem pe_anyC {c P : Addr} {x y fn x1 x2 qual : Str} {st : Stmt} {f : Addr} {fd : FuncData} {cdv : Value} {N : List Str} {e : Expr} {iter : Expr} {px p p1 p2 p3 p4 p5 pos gpos : Pos} {scope : Scope} {pb : Int → Int → Bool} {te : TE} {k j : Nat}
    (hr : Room k X.A) (hg : Gl X "any") (hm : X.mg "any" = none) (TB : GxR.TabB X.base X.mg c P) (hcode : X.env.code = .ref c) (S : GxR.GenS X.env scope x) (hi : PE X iter te)
    (F : FunC X.K fn qual st f fd cdv) (Sc : FnScope N [x1, x2] (defScope st)) (h12 : x1 ≠ x2) (l1 : (defScope st).names.lookup x1 = some .local) (l2 : (defScope st).names.lookup x2 = some .local) (B : Binds X.K fd [x1, x2] []) (hb : defBody st = [.Return (some e) p5])
    (he : ∀ (env : Env) (A : Around) (E : Value → Shared → Prop) (s : Shared) (m : Str → Option Value) (a b : Int) (t u : Tok), env.scope = defScope st → s.heap.Ns env.locals m → m x1 = some (.int a t) → m x2 = some (.int b u) →
      wpAny (model X.prog X.w) A (eval e env) (fun y s' => y = .bool (pb a b) ∧ Keeps s s') E s)
    (hy : X.N[j]? = some y) (hyv : Vis X.env.scope y) (hyc : X.env.scope.names.lookup y = some .cell) (hyf : scope.names.lookup y = some .free) (hym : (y, NameKind.free) ∈ scope.names) (hfn : scope.names.lookup fn = some .globalImplicit) (hmf : X.mg fn = some (.ref f)) (hkf : PySem.W.keepIn X.K (.ref f) = true)
    (hs : ∀ v, genFold iter X.env v = pure v) (dx : (x == ("__debug__" : Str)) = false := by decide) (dy : (y == ("__debug__" : Str)) = false := by decide) (df : (fn == ("__debug__" : Str)) = false := by decide) (dc : (y == ("__classdict__" : Str)) = false := by decide)
    (hst : ∀ cenv : Env, starEach [.Name x p2, .Name y p3] cenv = (false, eval (.Name x p2) cenv) :: (false, eval (.Name y p3) cenv) :: [] := by intro _; rfl)
    (hse : starEach [.GeneratorExp (.Call (.Name fn p1) [.Name x p2, .Name y p3] [] p4) [⟨.Name x px, iter, [], 0⟩] scope gpos] X.env = (false, eval (.GeneratorExp (.Call (.Name fn p1) [.Name x p2, .Name y p3] [] p4) [⟨.Name x px, iter, [], 0⟩] scope gpos) X.env) :: starEach [] X.env := by rfl) :
    PE X (.Call (.Name "any" p) [.GeneratorExp (.Call (.Name fn p1) [.Name x p2, .Name y p3] [] p4) [⟨.Name x px, iter, [], 0⟩] scope gpos] [] pos) (tAnyC X.K P j pb te) := by
  refine ⟨fun pins s σ H Q I h => ?_⟩
  refine wpAny_Call_Name_kw (ld_blt I hg hm PyProof.Rows.boot_any ?_)
  refine PyProof.Rows.callWith_builtin1 ?_ hse (by rfl)
  rw [hse]
  show wpAny _ _ (spliced ((false, eval (.GeneratorExp (.Call (.Name fn p1) [.Name x p2, .Name y p3] [] p4) [⟨.Name x px, iter, [], 0⟩] scope gpos) X.env) :: backTo pos (starEach [] X.env))) _ _ s
  refine Calls.spliced_cons (gen_it (R := fun v H1 => ∃ (a : Addr) (ns : List Int) (m : Int), v = .ref a ∧ SqL X.K H1 a (ns.map V.int) ∧ σ[j]? = some (some (.int m)) ∧ ∀ H2, GxR.Tabbed P H1 H2 → Q (.bl (ns.any fun n => pb n m)) H2) hr TB hcode S hi hs I h fun v u H1 s1 ps I1 rv hR hPt hP => ?_)
  obtain ⟨a, ns, m, rfl, hsq, hσ, hq⟩ := hR
  cases rv
  obtain ⟨its, rits, pl, hl⟩ := I1.list hsq
  obtain ⟨nn, sl, eL⟩ := plainL_get pl
  have ln : its.toArray.size = ns.length := by
    rw [List.size_toArray, ← rits.length, List.length_map]
  refine ⟨its.toArray.size, _, fun i z => z = .bool (atB (fun n => pb n m) ns i), can_list (items := its.toArray) ⟨_, eL, rfl, _, rfl⟩ hP, ?_, fun g s5 hG => ?_⟩
  · -- the element
    intro cenv A' E' i v s₂ m₂ hA hD hU hsc hce hgl hn hmx hPi hkeep
    have hPi : its.toArray[i]? = some v := hPi
    obtain ⟨n, t, hn1, rfl⟩ := vals_ints rits i v (by simpa using hPi)
    show wpAny _ _ _ (fun y s₃ => y = Value.bool (atB (fun n => pb n m) ns i) ∧ Keeps s₂ s₃) _ _
    rw [atB_some hn1]
    have kb : ∀ b o, X.base.get? b = some o → s₂.heap.get? b = some o := fun b o e => by
      refine hkeep b o (fun z => ?_) (I1.bk b o e)
      have q := (I1.bs b o e).2
      rw [z, hPt] at q
      cases q
    have KI : X.K.In s₂.heap := I1.ok.mod.kin.keeps kb
    have lim : s₂.heap.NoLimit := I1.ok.mod.nolimit.keeps kb
    have hk' : cenv.scope.kind = .function := by rw [hsc]; exact S.kind
    have kfn : cenv.kindOf fn = some .globalImplicit := by show cenv.scope.names.lookup fn = _; rw [hsc]; exact hfn
    have kx : cenv.kindOf x = some .local := by show cenv.scope.names.lookup x = _; rw [hsc]; exact S.loc
    have ky : cenv.kindOf y = some .free := by show cenv.scope.names.lookup y = _; rw [hsc]; exact hyf
    obtain ⟨mm, hnn, hll⟩ := I1.loc
    obtain ⟨uy, ruy, hlk⟩ := hll j y (.int m) hy hσ hyv
    obtain ⟨ty, rfl⟩ := ruy
    obtain ⟨cy, ecy, hcy⟩ : ∃ cy, X.env.cells.lookup y = some cy ∧ s1.heap.IsCell cy (some (.int m ty)) := by
      rcases hlk with ⟨z, _⟩ | ⟨_, cy, h1, h2⟩
      · have z' : X.env.scope.names.lookup y = some .local := z
        rw [hyc] at z'
        cases z'
      · exact ⟨cy, h1, h2⟩
    have ecy2 : cenv.cells.lookup y = some cy := by
      rw [hce]
      exact NdefX.clo_has S.free hym ecy
    have hcy2 : s₂.heap.IsCell cy (some (.int m ty)) := by
      obtain ⟨o, ho, hd⟩ := hcy
      refine ⟨o, hkeep cy o (fun z => ?_) ho, hd⟩
      rw [z, hP] at ho
      cases ho
      cases hd
    refine wpAny_Call_Name_kw (Calls.Name_function_global hk' kfn (Calls.loadGlobal_global (by rw [hgl, I1.ok.glob]; exact I1.mod.glob.keeps kb) hmf ?_) df)
    refine PySem.W.callWith_K (h₀ := X.base) I1.ok.mod.kin hkf ?_ (by rw [hst]; rfl) (by rfl)
    rw [hst]
    refine Calls.spliced_cons (wpAny_Name (wpAny_loadName_local hk' kx hn hmx ?_) dx)
    refine Calls.spliced_cons (wpAny_Name (wpAny_loadName_free hk' ky ecy2 hcy2 ?_ dc) dy)
    refine Calls.spliced_nil ⟨KI, ?_⟩
    refine call_leaf2 F Sc h12 l1 l2 B hb he ?_ KI lim fun s' hk => ⟨rfl, hk⟩
    have := hr.dp
    omega
  · obtain ⟨fp, wr, G, St, W, hst0, _, hI⟩ := hG
    refine Calls.spliced_nil ?_
    refine call_any_walkS (W.self 0 _ _ _ hst0 ⟨g, fp, wr, G, _, _, St, atB (fun n => pb n m) ns, rfl, W, hst0, ?_, fun s' hmv => ?_⟩)
    · intro i v sj Qj Ej hv hQj
      obtain ⟨_, rfl⟩ := hv
      exact wpAny_truthy_bool hQj
    · obtain ⟨H2, hT, J⟩ := hI s' hmv
      refine ⟨.bl _, H2, J, rfl, ?_⟩
      rw [ln, any_at (fun n => pb n m) ns]
      exact hq H2 hT
end
section
variable {K : PySem.W.Frag} {S : Side} {ρ : Rho}
theorem dpAll_ints' {M : Hp} : ∀ {l : List Int} {vs : List V}, DpAll K M vs (l.map PyData.int) → vs = l.map V.int
  | [], _, h => by cases h; rfl
  | z :: l, _, h => by
    cases h with
    | cons h1 h2 =>
      cases h1
      rw [dpAll_ints' h2]
      rfl
theorem ev_anyC {P : Addr} {j : Nat} {pb : Int → Int → Bool} {te : TE} {Q : DV → Prop} (hT : TabS S P)
    (h : Ev K S te ρ fun x => ∃ ns : List Int, x = .d (.list (ns.map PyData.int)) ∧ ∃ m : Int, ρ[j]? = some (some (.d (.int m))) ∧ Q (.d (.bool (ns.any fun n => pb n m)))) : Ev K S (tAnyC K P j pb te) ρ Q := fun σ H hi he R r =>
  h σ H hi he _ fun v x H1 t1 i1 p1 => by
    obtain ⟨ns, rfl, m, hm, q⟩ := p1
    obtain ⟨u, hu, iu⟩ := he.get j _ hm
    cases (show Dp K _ u (.int m) from iu)
    refine ⟨hT.good H1 t1.inv, ?_⟩
    obtain ⟨a, vs, rfl, hs, ha⟩ := dp_lst (dp_up i1)
    cases dpAll_ints' ha
    exact ⟨a, ns, m, rfl, hs, hu, fun H2 t => r _ (.d (.bool _)) H2 (t1.trans ⟨hT.grow H1 H2 t1.inv t, fun b o n e => by rw [t.2 b (fun z => n (by rw [z]; exact hT.mut_))]; exact e⟩) (show Dp _ _ _ _ from .bl _) q⟩
end
end Tw
/-! sorted(tuples of texts, key=len) -/
namespace Tw
open PySem PySem.Spec PyProof.Rows L2
/-- by length, the ones of one length in the order they had -/
def lenSt (M L : List (List Str)) : Prop := M.Pairwise (fun a b => a.length ≤ b.length) ∧ ∀ c : Nat, M.filter (fun l => l.length == c) = L.filter (fun l => l.length == c)
def tSortLen (K : PySem.W.Frag) (te : TE) : TE := fun σ H Q => te σ H fun x H1 => ∃ (a : Addr) (xs : List V) (L : List (List Str)) (R : V → List Str → Prop), x = V.ref a ∧ SqL K H1 a xs ∧ (∀ x l, R x l → ∃ t, x = .ref t ∧ SqT K H1 t (l.map V.str)) ∧ AllR R xs L ∧
  (∀ l ∈ L, l.length ≤ sizeLine) ∧ ∀ zs M p, AllR R zs M → M.Perm L → lenSt M L → H1 p = none → Q (.ref p) (upd H1 p (.lst zs))
theorem objOk_get {P : Program} {w : World} {H : Hp} {h : Heap} {a : Addr} {o : HO} (x : ObjOk P w H h a o) : ∃ u, h.get? a = some u := by
  cases o with
  | lst xs => obtain ⟨_, _, _, _, e⟩ := x; exact ⟨_, e⟩
  | tup xs => obtain ⟨_, _, _, _, e, _⟩ := x; exact ⟨_, e⟩
  | dK kvs => obtain ⟨_, _, _, _, o, _, _, e, _⟩ := x; exact ⟨_, e⟩
  | dT kvs => obtain ⟨_, _, _, _, o, _, _, e, _⟩ := x; exact ⟨_, e⟩
  | set S n => obtain ⟨o, _, _, _, e, _⟩ := x; exact ⟨_, e⟩
  | ins C dx fs => obtain ⟨_, _, _, e, _⟩ := x; exact ⟨_, e⟩
  | own y => exact x
  | xd fs => obtain ⟨_, ⟨_, _, _, e, _⟩, _⟩ := x; exact ⟨_, e⟩
  | rng lo hi => obtain ⟨_, _, _, e⟩ := x; exact ⟨_, e⟩
  | frz ob u => obtain ⟨e, _⟩ := x; exact ⟨_, e⟩
  | tbl ps => exact ⟨_, (show h.get? a = some _ from x)⟩
  | met f y => exact ⟨_, (show h.get? a = some _ from x)⟩
  | ext φ => exact x.2.1
/-- behind a rule told by frame and ledger: one new list -/
theorem inv_news {X : Cx} {pins : List (Addr × Obj)} {σ : L2.St} {H : Hp} {s : Shared} {m : Str → Option Value} {D : Addr} {h' : Heap} {tk : Nat} {zs : List V} {out : Array Value} {c : Nat} (I : Inv X pins σ H s) (F : Fr X.base X.env.locals s.heap m) (F' : Fr X.base X.env.locals h' m)
    (N' : News X.base X.env.locals h' ((D, seqObj "list" out c) :: allNews X.base s.heap X.env.locals)) (hD : ∀ q ∈ allNews X.base s.heap X.env.locals, q.1 < D) (hv : Vals zs out.toList) (hl : zs.length ≤ sizeLine) :
    H D = none ∧ Inv X pins σ (upd H D (.lst zs)) { s with heap := h', toks := tk } := by
  obtain ⟨n1, n2, n3⟩ := N' _ List.mem_cons_self
  have kk : ∀ b o, b ≠ X.env.locals → s.heap.get? b = some o → h'.get? b = some o := fun b o hb e => by
    cases q : X.base.get? b with
    | some u =>
      have e2 := I.bk b u q
      rw [e] at e2
      cases e2
      exact F'.keep b _ q
    | none => exact (N' (b, o) (List.mem_cons_of_mem _ (mem_allNews hb q e))).1
  have notD : ∀ b o, s.heap.get? b = some o → b ≠ D := fun b o e z => by
    cases q : X.base.get? b with
    | some u =>
      rw [z, n3] at q
      cases q
    | none =>
      have hb : b ≠ X.env.locals := fun z2 => n2 (z.symm.trans z2)
      have := hD (b, o) (mem_allNews hb q e)
      rw [← z] at this
      exact Nat.lt_irrefl _ this
  have hn : H D = none := by
    cases q : H D with
    | none => rfl
    | some u =>
      obtain ⟨ob, e⟩ := objOk_get (I.hok D u q)
      exact absurd rfl (notD D ob e)
  obtain ⟨oL, esL, epL, hoL, _⟩ := F'.ns
  refine ⟨hn, I.step (g' := s.gens) (d' := s.drawn) (ch := []) (fun b hb => nomatch hb) (fun b o hb _ _ e _ => kk b o hb e) (fun b o hb _ _ e _ => ⟨o.slots, kk b o hb e⟩) (fun b o _ e n => by rw [upd_ne (notD b o e)]; exact n) (fun b o _ e => ?_) (fun b xs e => by rw [upd_ne (ne_of_none e hn)]; exact e) (fun b o u e => by rw [upd_ne (ne_of_none e hn)]; exact e) (fun b ps e => ⟨#[], by rw [upd_ne (ne_of_none e hn), e]; simp⟩) (fun m' hm => by rw [SlX.ns_only hm F.ns]; exact F'.ns) (fun b u e => ?_) I.bare⟩
  · by_cases hb : b = X.env.locals
    · rw [hb]
      exact ⟨oL, hoL⟩
    · exact ⟨o, kk b o hb e⟩
  · by_cases hb : b = D
    · subst hb
      rw [upd_same] at e
      cases e
      exact ⟨hl, out.toList, c, hv, by rw [Array.toArray_toList]; exact n1⟩
    · rw [upd_ne hb] at e
      refine (I.hok b u e).stay (fun d v hd q => kk d v (fun z => ?_) q) (fun d q => by rw [upd_ne (ne_of_none q hn)]; exact q) fun d xs q => by rw [upd_ne (ne_of_none q hn)]; exact q
      rcases hd with z2 | z2
      · rw [← z2, z, I.free] at e
        cases e
      · rw [z, I.free] at z2
        cases z2
section
variable {X : Cx}
theorem pe_sortLen {e : Expr} {te : TE} {p p2 pos kpos : Pos} (he : PE X e te) (g1 : Gl X "sorted") (m1 : X.mg "sorted" = none) (b1 : bootBuiltins "sorted" = some (.builtin "sorted")) (g2 : Gl X "len") (m2 : X.mg "len" = none)
    (hst : backTo pos (starEach [e] X.env) = (false, eval e X.env) :: backTo pos (starEach [] X.env) := by rfl) (hpl : (backTo pos (starEach [e] X.env)).any (·.1) = false := by rfl)
    (hall : (backToKw pos (keywordEach [⟨some (Str.ofString "key"), .Name "len" p2, kpos⟩] X.env)).all (·.1.isSome) = true := by rfl) (hnone : (backToKw pos (keywordEach [⟨some (Str.ofString "key"), .Name "len" p2, kpos⟩] X.env)).any (·.1.isNone) = false := by rfl) (hks : (backToKw pos (keywordEach [⟨some (Str.ofString "key"), .Name "len" p2, kpos⟩] X.env)).filterMap (·.1) = [(Str.ofString "key")] := by rfl) :
    PE X (.Call (.Name "sorted" p) [e] [⟨some (Str.ofString "key"), .Name "len" p2, kpos⟩] pos) (tSortLen X.K te) := by
  refine ⟨fun pins s σ H Q I h => ?_⟩
  refine wpAny_Call_Name_kw (ld_blt I g1 m1 b1 ?_)
  refine PyProof.Rows.callWith_kw (env := X.env) ?_ hst hpl hall hnone
  rw [hst, hks]
  refine Calls.spliced_cons (thn (he.run pins s σ H _ I h) fun u s1 ⟨x, H1, I1, r1, q1⟩ => Calls.spliced_nil ?_)
  show wpAny _ _ (evalAll ((do let v ← eval (.Name "len" p2) X.env; standAt pos; pure v) :: [])) _ _ s1
  refine wpAny_evalAll_cons (wpAny_bind (ld_blt I1 g2 m2 PySem.boot_len (wpAny_bind (wpAny_standAt (wpAny_pure (wpAny_evalAll_nil ?_))))))
  obtain ⟨a, xs, L, R, rfl, hs, hR, hA, hsz, q⟩ := q1
  cases r1
  obtain ⟨its, rv, pl, hz⟩ := I1.list hs
  obtain ⟨eL, hu⟩ := allR_heap I1 hR hA rv
  obtain ⟨m, F⟩ := I1.fr
  have lits : its.length = L.length := by rw [← eL, List.length_map]
  have hzip : (L.map fun l => ((l.length : Nat) : Int)).zip its = its.map fun u => ((((txts s1.heap u).length : Nat) : Int), u) := by
    rw [← eL, List.map_map]
    clear eL lits hu hA hs pl rv
    induction its with
    | nil => rfl
    | cons u us ih =>
      rw [List.map_cons, List.map_cons, List.zip_cons_cons, ih]
      rfl
  refine PyProof.Rows.ksk_sortedSt (b := false) (vs := its) (kz := L.map fun l => ((l.length : Nat) : Int)) F news_all pl.isList (by rw [List.length_map, lits]) (by rw [← rv.length]; exact hz) (PyProof.Rows.ksk_s1 _ _) (fun _ => PyProof.Rows.ksk_l1 _ _) (fun x => PyProof.Rows.ksk_t4 "len" x) (fun i v k hv hk h tk own Fh Nh => ?_) fun D h' tk out c F' N' hD ho => ?_
  · have hvm := List.mem_of_getElem? hv
    obtain ⟨l, hl, ⟨b, o, vs, n, rfl, ho, hcl, hdt, hst⟩, _, _⟩ := hu v hvm
    have hkl : k = ((l.length : Nat) : Int) := by
      have e1 : L[i]? = some l := by
        rw [← eL, List.getElem?_map, hv]
        exact congrArg some (txts_of ⟨b, o, vs, n, rfl, ho, hcl, hdt, hst⟩)
      rw [List.getElem?_map, e1] at hk
      exact (Option.some.inj hk).symm
    have hbL : b ≠ X.env.locals := fun z => by
      obtain ⟨o', es, ep, ho', hd', _⟩ := F.ns
      rw [z, ho'] at ho
      cases ho
      rw [hd'] at hdt
      cases hdt
    have hb : h.get? b = some o := by
      cases qb : X.base.get? b with
      | some u =>
        have e2 := I1.bk b u qb
        rw [ho] at e2
        cases e2
        exact Fh.keep b _ qb
      | none => exact (Nh (b, o) (List.mem_append_left _ (mem_allNews hbL qb ho))).1
    have hlen : vs.size = l.length := by
      rw [← Array.length_toList]
      exact hst.len_eq
    have hbig := hsz l hl
    rw [sizeLine_eq] at hbig
    refine PyProof.Rows.len_tuple (items := vs) ⟨o, hb, hcl, n, hdt⟩ (by rw [hlen]; omega) ?_
    rw [hlen, hkl]
    exact PyProof.Rows.KskEnd.intro Fh Nh fun p hp => hp
  · obtain ⟨ps, pp, po, pw, pf⟩ := ho
    rw [hzip] at pp pf
    have pmem : ∀ p ∈ ps, p.1 = (((txts s1.heap p.2).length : Nat) : Int) ∧ p.2 ∈ its := fun p hp => by
      obtain ⟨u, hu2, e⟩ := List.mem_map.mp (pp.mem_iff.mp hp)
      rw [← e]
      exact ⟨rfl, hu2⟩
    obtain ⟨k1, k2⟩ := allR_back (h := s1.heap) (R := R) (us := out.toList) fun u hu2 => by
      rw [po] at hu2
      obtain ⟨p, hp, rfl⟩ := List.mem_map.mp hu2
      obtain ⟨l, _, h1, h2, h3⟩ := hu p.2 (pmem p hp).2
      exact ⟨l, h1, h2, h3⟩
    have pM : (out.toList.map (txts s1.heap)).Perm L := by
      rw [po, List.map_map, ← eL]
      have q1 := pp.map fun p => txts s1.heap p.2
      rw [List.map_map] at q1
      exact q1
    have lM : (out.toList.map backV).length ≤ sizeLine := by
      have q1 := pM.length_eq
      rw [List.length_map] at q1
      rw [List.length_map, q1, ← lits, ← rv.length]
      exact hz
    obtain ⟨hn, J⟩ := inv_news (tk := tk) I1 F F' N' hD k2 lM
    refine ⟨.ref D, _, J, rfl, q _ _ D k1 pM ⟨?_, fun c => ?_⟩ hn⟩
    · rw [po, List.map_map, List.pairwise_map]
      refine pw.imp_of_mem fun {p q} hp hq h => ?_
      have h' : p.1 ≤ q.1 := h
      rw [(pmem p hp).1, (pmem q hq).1] at h'
      exact Int.ofNat_le.mp h'
    · have e1 : ∀ p ∈ ps, ((txts s1.heap p.2).length == c) = (p.1 == (c : Int)) := fun p hp => by
        rw [(pmem p hp).1, Bool.eq_iff_iff, beq_iff_eq, beq_iff_eq]
        exact ⟨fun h => by rw [h], fun h => Int.ofNat.inj h⟩
      rw [po, List.map_map, List.filter_map]
      have e2 : ps.filter ((fun l => l.length == c) ∘ (txts s1.heap ∘ Prod.snd)) = ps.filter fun p => p.1 == (c : Int) := List.filter_congr fun p hp => e1 p hp
      rw [e2, pf, List.filter_map, List.map_map, ← eL, List.filter_map]
      have e3 : (fun p : Int × Value => p.1 == (c : Int)) ∘ (fun u => ((((txts s1.heap u).length : Nat) : Int), u)) = (fun l : List Str => l.length == c) ∘ txts s1.heap := funext fun u => by
        show ((((txts s1.heap u).length : Nat) : Int) == (c : Int)) = ((txts s1.heap u).length == c)
        rw [Bool.eq_iff_iff, beq_iff_eq, beq_iff_eq]
        exact ⟨fun h => Int.ofNat.inj h, fun h => by rw [h]⟩
      rw [e3]
      rfl
end
section
variable {K : PySem.W.Frag} {S : Side} {ρ : Rho}
theorem ev_sortLen {te : TE} {P : DV → Prop} (h : Ev K S te ρ fun x => ∃ L : List (List Str), x = .d (.list (L.map tupS)) ∧ (∀ l ∈ L, l.length ≤ sizeLine) ∧ ∀ M : List (List Str), M.Perm L → lenSt M L → P (.d (.list (M.map tupS)))) : Ev K S (tSortLen K te) ρ P := fun σ H hi he R r =>
  h σ H hi he _ fun v x H1 t1 i1 p1 => by
    obtain ⟨L, rfl, hl, p⟩ := p1
    obtain ⟨a, vs, rfl, hs, ha⟩ := dp_lst i1
    refine ⟨a, vs, L, IsTup K (S.view H1), rfl, ex_sql (view_ex S H1) hs, fun x l hx => ?_, allR_of ha, hl, fun zs M q hz pm so nq => ?_⟩
    · obtain ⟨t, ws, rfl, ht, hw⟩ := dp_tup (show Dp K (S.view H1) x (.tuple (sD l)) from hx)
      cases dpAll_strs' hw
      exact ⟨t, rfl, ex_sqt (view_ex S H1) ht⟩
    · have t := Side.To.new (S := S) (o := .lst zs) t1.inv nq
      exact r _ (.d (.list (M.map tupS))) _ (t1.trans t) (.lst (.inl (.inl (view_new t1.inv nq))) (dpAll_mono t.ex _ _ (allR_dp hz))) (p M pm so)
end
end Tw
/-! sets of promises as ints; the least clashes -/
namespace Tw
open PySem PySem.Spec PyProof.Rows L2
/-! ### bits -/
def liesN (m n : Nat) : Bool := Nat.beq (m ||| n) n
theorem lies_iff {m n : Nat} : liesN m n = true ↔ ∀ i, m.testBit i = true → n.testBit i = true := by
  unfold liesN
  rw [Nat.beq_eq]
  constructor
  · intro h i hi
    rw [← h, Nat.testBit_or, hi]
    rfl
  · intro h
    refine Nat.eq_of_testBit_eq fun i => ?_
    rw [Nat.testBit_or]
    cases q : m.testBit i with
    | true => rw [h i q]; rfl
    | false => rfl
theorem lies_dec (m n : Nat) : liesN m n = decide (m ||| n = n) := by
  unfold liesN
  rw [Bool.eq_iff_iff, Nat.beq_eq, decide_eq_true_iff]
theorem lies_refl (m : Nat) : liesN m m = true := lies_iff.mpr fun _ h => h
theorem lies_trans {a b c : Nat} (h : liesN a b = true) (g : liesN b c = true) : liesN a c = true := lies_iff.mpr fun i hi => lies_iff.mp g i (lies_iff.mp h i hi)
theorem lies_anti {a b : Nat} (h : liesN a b = true) (g : liesN b a = true) : a = b := by
  refine Nat.eq_of_testBit_eq fun i => ?_
  rw [Bool.eq_iff_iff]
  exact ⟨lies_iff.mp h i, lies_iff.mp g i⟩
theorem lies_le {a b : Nat} (h : liesN a b = true) : a ≤ b := by
  have e : a ||| b = b := Nat.beq_eq.mp h
  rw [← e]
  exact Nat.left_le_or
theorem lies_or {a b c : Nat} : liesN (a ||| b) c = true ↔ liesN a c = true ∧ liesN b c = true := by
  rw [lies_iff, lies_iff, lies_iff]
  constructor
  · intro h
    exact ⟨fun i hi => h i (by rw [Nat.testBit_or, hi]; rfl), fun i hi => h i (by rw [Nat.testBit_or, hi, Bool.or_true])⟩
  · rintro ⟨h, g⟩ i hi
    rw [Nat.testBit_or, Bool.or_eq_true] at hi
    exact hi.elim (h i) (g i)
theorem lies_bit {i c : Nat} : liesN (2 ^ i) c = true ↔ c.testBit i = true := by
  rw [lies_iff]
  constructor
  · intro h
    exact h i Nat.testBit_two_pow_self
  · intro h j hj
    rw [Nat.testBit_two_pow, decide_eq_true_iff] at hj
    rw [← hj]
    exact h
theorem bit_lt {s n i : Nat} (h : s < 2 ^ n) (b : s.testBit i = true) : i < n := by
  refine Nat.lt_of_not_le fun z => ?_
  rw [Nat.testBit_lt_two_pow (Nat.lt_of_lt_of_le h (Nat.pow_le_pow_right (by decide) z))] at b
  cases b
theorem not_lies {s g n : Nat} (hs : s < 2 ^ n) (h : liesN s g = false) : ∃ i, i < n ∧ s.testBit i = true ∧ g.testBit i = false := by
  apply Classical.byContradiction
  intro no
  have : liesN s g = true := lies_iff.mpr fun i hi => by
    cases q : g.testBit i with
    | true => rfl
    | false => exact absurd ⟨i, bit_lt hs hi, hi, q⟩ no
  rw [h] at this
  cases this
def natD (n : Nat) : PyData := .int (n : Int)
def greatN (ys : List Nat) : List Nat := ys.filter fun b => decide ((ys.filter (liesN b)).length = 1)
def namesN (m : Nat) (I : List Nat) : List Nat := ((List.range I.length).filter m.testBit).map fun k => I.getD k 0
def beyondN (m n : Nat) : List Nat := ((List.range n).filter fun k => !m.testBit k).map fun k => 2 ^ k

/-! ### the least sets that lie in none of some sets, one set after another -/
def withinB (found : List Nat) (g : Nat) : List Nat := found.filter fun b => liesN b g
def restB (found : List Nat) (g : Nat) : List Nat := found.filter fun b => !liesN b g
def longerB (n : Nat) (found : List Nat) (g : Nat) : List Nat := (withinB found g).flatMap fun b => (beyondN g n).map fun bit => b ||| bit
def stepB (n : Nat) (found : List Nat) (g : Nat) : List Nat := restB found g ++ (longerB n found g).filter fun b => !(restB found g).any fun f => liesN f b
structure InvB (n : Nat) (G found : List Nat) : Prop where
  nd : found.Nodup
  lt : ∀ f ∈ found, f < 2 ^ n
  out : ∀ f ∈ found, ∀ g ∈ G, liesN f g = false
  all : ∀ s, s < 2 ^ n → (∀ g ∈ G, liesN s g = false) → ∃ f ∈ found, liesN f s = true
  anti : ∀ f ∈ found, ∀ f' ∈ found, liesN f f' = true → f = f'
theorem invB_nil (n : Nat) : InvB n [] [0] where
  nd := List.nodup_cons.mpr ⟨(fun h => nomatch h), List.nodup_nil⟩
  lt := fun f hf => by rw [List.mem_singleton.mp hf]; exact Nat.two_pow_pos n
  out := fun _ _ _ h => nomatch h
  all := fun s _ _ => ⟨0, List.mem_singleton.mpr rfl, lies_iff.mpr fun i hi => by rw [Nat.zero_testBit] at hi; cases hi⟩
  anti := fun f hf f' hf' _ => by rw [List.mem_singleton.mp hf, List.mem_singleton.mp hf']
theorem mem_beyond {g n x : Nat} : x ∈ beyondN g n ↔ ∃ i, i < n ∧ g.testBit i = false ∧ x = 2 ^ i := by
  unfold beyondN
  rw [List.mem_map]
  constructor
  · rintro ⟨i, hi, e⟩
    obtain ⟨h1, h2⟩ := List.mem_filter.mp hi
    exact ⟨i, List.mem_range.mp h1, by simpa using h2, e.symm⟩
  · rintro ⟨i, h1, h2, e⟩
    exact ⟨i, List.mem_filter.mpr ⟨List.mem_range.mpr h1, by rw [h2]; rfl⟩, e.symm⟩
theorem mem_longer {n g x : Nat} {found : List Nat} : x ∈ longerB n found g ↔ ∃ b i, b ∈ found ∧ liesN b g = true ∧ i < n ∧ g.testBit i = false ∧ x = b ||| 2 ^ i := by
  unfold longerB withinB
  rw [List.mem_flatMap]
  constructor
  · rintro ⟨b, hb, hx⟩
    obtain ⟨bit, hbit, e⟩ := List.mem_map.mp hx
    obtain ⟨i, h1, h2, rfl⟩ := mem_beyond.mp hbit
    obtain ⟨h3, h4⟩ := List.mem_filter.mp hb
    exact ⟨b, i, h3, h4, h1, h2, e.symm⟩
  · rintro ⟨b, i, h1, h2, h3, h4, e⟩
    exact ⟨b, List.mem_filter.mpr ⟨h1, h2⟩, List.mem_map.mpr ⟨2 ^ i, mem_beyond.mpr ⟨i, h3, h4, rfl⟩, e.symm⟩⟩
theorem mem_rest {found : List Nat} {g x : Nat} : x ∈ restB found g ↔ x ∈ found ∧ liesN x g = false := by
  unfold restB
  rw [List.mem_filter]
  exact ⟨fun ⟨a, b⟩ => ⟨a, by simpa using b⟩, fun ⟨a, b⟩ => ⟨a, by rw [b]; rfl⟩⟩
/-- of two longer ones the one lies in the other only if they are one -/
theorem longer_sub {g b i b' i' : Nat} (hb : liesN b g = true) (hi : g.testBit i = false) (hb' : liesN b' g = true) (hi' : g.testBit i' = false) (h : liesN (b ||| 2 ^ i) (b' ||| 2 ^ i') = true) : liesN b b' = true ∧ i = i' := by
  have h' := lies_iff.mp h
  constructor
  · refine lies_iff.mpr fun j hj => ?_
    have q := h' j (by rw [Nat.testBit_or, hj]; rfl)
    rw [Nat.testBit_or, Bool.or_eq_true, Nat.testBit_two_pow, decide_eq_true_iff] at q
    refine q.resolve_right fun e => ?_
    have := lies_iff.mp hb j hj
    rw [← e, hi'] at this
    cases this
  · have q := h' i (by rw [Nat.testBit_or, Nat.testBit_two_pow_self, Bool.or_true])
    rw [Nat.testBit_or, Bool.or_eq_true, Nat.testBit_two_pow, decide_eq_true_iff] at q
    refine (q.resolve_left fun e => ?_).symm
    have := lies_iff.mp hb' i e
    rw [hi] at this
    cases this
theorem pw_nodup {l : List Nat} {p : Nat → Bool} (h : l.Nodup) : (l.filter p).Nodup := List.Nodup.sublist List.filter_sublist h
theorem two_inj {i j : Nat} (h : (2 : Nat) ^ i = 2 ^ j) : i = j := by
  have q : (2 ^ j).testBit i = true := by rw [← h]; exact Nat.testBit_two_pow_self
  rw [Nat.testBit_two_pow, decide_eq_true_iff] at q
  exact q.symm
theorem longer_nodup {n g : Nat} {found : List Nat} (nd : found.Nodup) (anti : ∀ f ∈ found, ∀ f' ∈ found, liesN f f' = true → f = f') : (longerB n found g).Nodup := by
  unfold longerB
  have key : ∀ l : List Nat, l.Nodup → (∀ b ∈ l, b ∈ found ∧ liesN b g = true) → (l.flatMap fun b => (beyondN g n).map fun bit => b ||| bit).Nodup := by
    intro l
    induction l with
    | nil => intro _ _; exact List.nodup_nil
    | cons b l ih =>
      intro hn hm
      obtain ⟨h1, h2⟩ := List.nodup_cons.mp hn
      obtain ⟨hb1, hb2⟩ := hm b List.mem_cons_self
      rw [List.flatMap_cons]
      refine List.nodup_append.mpr ⟨?_, ih h2 fun c hc => hm c (List.mem_cons_of_mem _ hc), ?_⟩
      · unfold beyondN
        rw [List.map_map]
        refine List.pairwise_map.mpr ((pw_nodup (p := fun k => !g.testBit k) List.nodup_range).imp_of_mem fun {i j} hi hj hne e => hne ?_)
        have hi' : g.testBit i = false := by simpa using (List.mem_filter.mp hi).2
        have hj' : g.testBit j = false := by simpa using (List.mem_filter.mp hj).2
        exact (longer_sub hb2 hi' hb2 hj' (by rw [show b ||| 2 ^ i = b ||| 2 ^ j from e]; exact lies_refl _)).2
      · intro x hx y hy e
        subst e
        obtain ⟨bit, hbit, rfl⟩ := List.mem_map.mp hx
        obtain ⟨i, _, h4, rfl⟩ := mem_beyond.mp hbit
        obtain ⟨b', hb', hx'⟩ := List.mem_flatMap.mp hy
        obtain ⟨bit', hbit', e⟩ := List.mem_map.mp hx'
        obtain ⟨i', _, h6, rfl⟩ := mem_beyond.mp hbit'
        obtain ⟨hb'1, hb'2⟩ := hm b' (List.mem_cons_of_mem _ hb')
        have q := (longer_sub hb2 h4 hb'2 h6 (by rw [← e]; exact lies_refl _)).1
        have e2 := anti b hb1 b' hb'1 q
        exact h1 (by rw [e2]; exact hb')
  exact key _ (pw_nodup nd) fun b hb => List.mem_filter.mp hb
theorem invB_step {n g : Nat} {G found : List Nat} (h : InvB n G found) : InvB n (G ++ [g]) (stepB n found g) where
  nd := by
    refine List.nodup_append.mpr ⟨pw_nodup h.nd, pw_nodup (longer_nodup h.nd h.anti), fun x hx y hy e => ?_⟩
    subst e
    have q := (List.mem_filter.mp hy).2
    have q2 : (restB found g).any (fun f => liesN f x) = true := List.any_eq_true.mpr ⟨x, hx, lies_refl x⟩
    rw [q2] at q
    cases q
  lt := fun f hf => by
    rcases List.mem_append.mp hf with hf | hf
    · exact h.lt f (mem_rest.mp hf).1
    · obtain ⟨b, i, h1, _, h3, _, rfl⟩ := mem_longer.mp (List.mem_filter.mp hf).1
      exact Nat.or_lt_two_pow (h.lt b h1) (Nat.pow_lt_pow_right (by decide) h3)
  out := fun f hf k hk => by
    rcases List.mem_append.mp hf with hf | hf
    · obtain ⟨h1, h2⟩ := mem_rest.mp hf
      rcases List.mem_append.mp hk with hk | hk
      · exact h.out f h1 k hk
      · rw [List.mem_singleton.mp hk]
        exact h2
    · obtain ⟨b, i, h1, h2, h3, h4, rfl⟩ := mem_longer.mp (List.mem_filter.mp hf).1
      cases q : liesN (b ||| 2 ^ i) k with
      | false => rfl
      | true =>
        obtain ⟨q1, q2⟩ := lies_or.mp q
        rcases List.mem_append.mp hk with hk | hk
        · rw [h.out b h1 k hk] at q1
          cases q1
        · rw [List.mem_singleton.mp hk, lies_bit, h4] at q2
          cases q2
  all := fun s hs hg => by
    obtain ⟨f, hf, hfs⟩ := h.all s hs fun k hk => hg k (List.mem_append_left _ hk)
    cases q : liesN f g with
    | false => exact ⟨f, List.mem_append_left _ (mem_rest.mpr ⟨hf, q⟩), hfs⟩
    | true =>
      obtain ⟨i, h1, h2, h3⟩ := not_lies hs (hg g (List.mem_append_right _ (List.mem_singleton.mpr rfl)))
      have hx : f ||| 2 ^ i ∈ longerB n found g := mem_longer.mpr ⟨f, i, hf, q, h1, h3, rfl⟩
      have hxs : liesN (f ||| 2 ^ i) s = true := lies_or.mpr ⟨hfs, lies_bit.mpr h2⟩
      cases q2 : (restB found g).any (fun f' => liesN f' (f ||| 2 ^ i)) with
      | false => exact ⟨_, List.mem_append_right _ (List.mem_filter.mpr ⟨hx, by rw [q2]; rfl⟩), hxs⟩
      | true =>
        obtain ⟨f', hf', hl⟩ := List.any_eq_true.mp q2
        exact ⟨f', List.mem_append_left _ hf', lies_trans hl hxs⟩
  anti := fun f hf f' hf' hl => by
    rcases List.mem_append.mp hf with hf | hf
    · rcases List.mem_append.mp hf' with hf' | hf'
      · exact h.anti f (mem_rest.mp hf).1 f' (mem_rest.mp hf').1 hl
      · have q := (List.mem_filter.mp hf').2
        have q2 : (restB found g).any (fun k => liesN k f') = true := List.any_eq_true.mpr ⟨f, hf, hl⟩
        rw [q2] at q
        cases q
    · obtain ⟨b, i, h1, h2, h3, h4, rfl⟩ := mem_longer.mp (List.mem_filter.mp hf).1
      rcases List.mem_append.mp hf' with hf' | hf'
      · obtain ⟨k1, k2⟩ := mem_rest.mp hf'
        have e := h.anti b h1 f' k1 (lies_or.mp hl).1
        rw [← e, h2] at k2
        cases k2
      · obtain ⟨b', i', k1, k2, k3, k4, rfl⟩ := mem_longer.mp (List.mem_filter.mp hf').1
        obtain ⟨e1, e2⟩ := longer_sub h2 h4 k2 k4 hl
        rw [h.anti b h1 b' k1 e1, e2]
theorem invB_fold {n : Nat} : ∀ (G2 G found : List Nat), InvB n G found → InvB n (G ++ G2) (G2.foldl (stepB n) found)
  | [], G, found, h => by
    rw [List.append_nil]
    exact h
  | g :: G2, G, found, h => by
    have q := invB_fold G2 (G ++ [g]) _ (invB_step (g := g) h)
    rw [List.append_assoc] at q
    exact q
/-- what is found at last has at least one bit, where one set was gone through -/
theorem invB_pos {n : Nat} {G found : List Nat} (h : InvB n G found) (hg : G ≠ []) : ∀ f ∈ found, f ≠ 0 := fun f hf e => by
  cases G with
  | nil => exact hg rfl
  | cons g G =>
    have q := h.out f hf g List.mem_cons_self
    have q2 : liesN f g = true := by
      rw [e]
      exact lies_iff.mpr fun i hi => by rw [Nat.zero_testBit] at hi; cases hi
    rw [q2] at q
    cases q
/-- each set lies in a greatest one -/
theorem great_over {ys : List Nat} (nd : ys.Nodup) {k : Nat} (hk : k ∈ ys) : ∃ g ∈ greatN ys, liesN k g = true := by
  have hmax : ∀ l : List Nat, l ≠ [] → ∃ m ∈ l, ∀ x ∈ l, x ≤ m := by
    intro l
    induction l with
    | nil => intro h; exact absurd rfl h
    | cons a l ih =>
      intro _
      by_cases hl : l = []
      · exact ⟨a, List.mem_cons_self, fun x hx => by rw [hl] at hx; rw [List.mem_singleton.mp hx]; exact Nat.le_refl _⟩
      · obtain ⟨m, hm, hall⟩ := ih hl
        by_cases c : a ≤ m
        · exact ⟨m, List.mem_cons_of_mem _ hm, fun x hx => (List.mem_cons.mp hx).elim (fun e => by rw [e]; exact c) (hall x)⟩
        · refine ⟨a, List.mem_cons_self, fun x hx => (List.mem_cons.mp hx).elim (fun e => by rw [e]; exact Nat.le_refl _) fun hx => ?_⟩
          have := hall x hx
          omega
  obtain ⟨m, hm, hall⟩ := hmax (ys.filter (liesN k)) (fun e => by
    have : k ∈ ys.filter (liesN k) := List.mem_filter.mpr ⟨hk, lies_refl k⟩
    rw [e] at this
    cases this)
  obtain ⟨hm1, hm2⟩ := List.mem_filter.mp hm
  refine ⟨m, List.mem_filter.mpr ⟨hm1, decide_eq_true ?_⟩, hm2⟩
  have sub : ∀ x ∈ ys.filter (liesN m), x ∈ [m] := fun x hx => by
    obtain ⟨h1, h2⟩ := List.mem_filter.mp hx
    have h3 := hall x (List.mem_filter.mpr ⟨h1, lies_trans hm2 h2⟩)
    have h4 := lies_le h2
    rw [show x = m by omega]
    exact List.mem_singleton.mpr rfl
  have l1 := len_sub (pw_nodup (p := liesN m) nd) sub
  have l2 : 0 < (ys.filter (liesN m)).length := List.length_pos_of_mem (List.mem_filter.mpr ⟨hm1, lies_refl m⟩)
  rw [List.length_singleton] at l1
  omega
theorem great_sub {ys : List Nat} {g : Nat} (h : g ∈ greatN ys) : g ∈ ys := (List.mem_filter.mp h).1

/-! ### masks -/
def maskT (T : List Nat) : Nat := T.foldr (fun i m => 2 ^ i ||| m) 0
theorem maskT_bit : ∀ {T : List Nat} {j : Nat}, (maskT T).testBit j = true ↔ j ∈ T
  | [], j => by
    show Nat.testBit 0 j = true ↔ _
    rw [Nat.zero_testBit]
    exact ⟨(fun h => nomatch h), (fun h => nomatch h)⟩
  | i :: T, j => by
    show (2 ^ i ||| maskT T).testBit j = true ↔ _
    rw [Nat.testBit_or, Bool.or_eq_true, Nat.testBit_two_pow, decide_eq_true_iff, maskT_bit, List.mem_cons]
    exact ⟨fun h => h.elim (fun e => .inl e.symm) .inr, fun h => h.elim (fun e => .inl e.symm) .inr⟩
theorem maskT_lt {n : Nat} : ∀ {T : List Nat}, (∀ i ∈ T, i < n) → maskT T < 2 ^ n
  | [], _ => Nat.two_pow_pos n
  | i :: T, h => Nat.or_lt_two_pow (Nat.pow_lt_pow_right (by decide) (h i List.mem_cons_self)) (maskT_lt fun j hj => h j (List.mem_cons_of_mem _ hj))
theorem maskT_lies {S T : List Nat} : liesN (maskT S) (maskT T) = true ↔ ∀ i ∈ S, i ∈ T := by
  rw [lies_iff]
  exact ⟨fun h i hi => maskT_bit.mp (h i (maskT_bit.mpr hi)), fun h i hi => maskT_bit.mpr (h i (maskT_bit.mp hi))⟩
def maskC (c : Code5) : Nat := maskT ((List.range 12).filter fun i => keepsC i c)
def profT : List Nat := [369, 321, 1313, 320, 371, 343, 1319, 343, 289, 261, 1317, 260, 256, 256, 1280, 256, 258, 263, 1287, 263, 256, 261, 1797, 260,
  2368, 2368, 3328, 2368, 2370, 2375, 3335, 2903, 2304, 2308, 3332, 2308, 449, 449, 1409, 448, 451, 983, 1415, 455, 385, 389, 1413, 388,
  384, 384, 1920, 384, 386, 391, 1415, 391, 384, 901, 1941, 388, 2528, 2496, 4008, 2496, 2530, 2519, 3511, 2519, 2464, 2948, 4028, 2436,
  257, 257, 1281, 256, 259, 263, 1287, 263, 257, 261, 1285, 260, 288, 256, 1320, 256, 290, 279, 1847, 279, 288, 261, 1853, 260,
  2304, 2304, 3328, 2304, 2306, 2311, 3335, 2311, 2304, 2308, 3860, 2308, 32, 0, 1056, 0, 32, 20, 1060, 20, 32, 4, 1060, 4,
  0, 0, 1024, 0, 0, 20, 1028, 20, 0, 4, 1028, 4, 0, 0, 1024, 0, 0, 4, 1028, 4, 0, 4, 1028, 4,
  1, 1, 1025, 0, 1, 5, 1029, 5, 1, 517, 1029, 4, 0, 0, 1536, 0, 0, 5, 1029, 5, 0, 517, 1541, 4,
  32, 0, 1064, 0, 32, 5, 1061, 5, 32, 4, 1068, 4, 1, 1, 1025, 0, 1, 21, 1029, 21, 1, 5, 1029, 4,
  48, 0, 1080, 0, 32, 21, 1077, 21, 48, 5, 1597, 4, 0, 0, 1024, 0, 0, 5, 1029, 5, 0, 4, 1028, 4]
theorem prof_codes : waysC.map maskC = profT := by decide +kernel
def greatL : List Nat := [371, 983, 1847, 1853, 1941, 2519, 2530, 2903, 3511, 4028]
def clashL : List (List Nat) := [[1, 3], [3, 6], [6, 10], [0, 3, 7], [0, 3, 11], [2, 5, 6], [5, 6, 9], [0, 5, 6, 7], [0, 5, 6, 11], [0, 5, 7, 9], [0, 5, 9, 11], [0, 7, 9, 11], [0, 9, 10, 11], [1, 5, 7, 9], [1, 5, 9, 11], [1, 7, 9, 10], [1, 7, 9, 11], [1, 9, 10, 11], [4, 5, 6, 7], [4, 5, 6, 11], [6, 7, 9, 11]]
theorem great_prof : ∀ g ∈ greatL, g ∈ profT := by decide +kernel
theorem clash_none : (clashL.all fun c => profT.all fun k => !liesN (maskT c) k) = true := by decide +kernel
theorem clash_all : ((List.range 4096).all fun m => (clashL.any fun c => liesN (maskT c) m) || greatL.any fun g => liesN m g) = true := by decide +kernel
theorem clash_anti : (clashL.all fun c => clashL.all fun d => !liesN (maskT c) (maskT d) || decide (c = d)) = true := by decide +kernel
theorem clash_wanted : ∀ c ∈ clashL, wantedOk c := by decide +kernel
theorem clash_nodup : clashL.Nodup := by decide +kernel
theorem keepAll_mask {T : List Nat} {c : Code5} (h : ∀ i ∈ T, i < 12) : keepAll T (wayC c) = true ↔ liesN (maskT T) (maskC c) = true := by
  unfold maskC
  rw [maskT_lies]
  unfold keepAll
  rw [List.all_eq_true]
  constructor
  · intro q i hi
    have := q i hi
    rw [keeps_c (h i hi)] at this
    exact List.mem_filter.mpr ⟨List.mem_range.mpr (h i hi), this⟩
  · intro q i hi
    rw [keeps_c (h i hi)]
    exact (List.mem_filter.mp (q i hi)).2
/-- a set is kept by some way just if no least clash lies in it -/
theorem kept_iff {T : List Nat} (h : ∀ i ∈ T, i < 12) : (∃ v ∈ waysN, keepAll T v = true) ↔ ∀ c ∈ clashL, ¬ ∀ i ∈ c, i ∈ T := by
  constructor
  · rintro ⟨v, hv, hk⟩ c hc hs
    obtain ⟨w, hw, rfl⟩ := List.mem_map.mp hv
    have hlt : ∀ i ∈ c, i < 12 := wanted_lt (clash_wanted c hc)
    have hk2 : keepAll c (wayC w) = true := by
      unfold keepAll at hk ⊢
      rw [List.all_eq_true] at hk ⊢
      exact fun i hi => hk i (hs i hi)
    rw [keepAll_mask hlt] at hk2
    have q := List.all_eq_true.mp (List.all_eq_true.mp clash_none c hc) (maskC w) (by rw [← prof_codes]; exact List.mem_map.mpr ⟨w, hw, rfl⟩)
    rw [hk2] at q
    cases q
  · intro no
    have hm : maskT T < 2 ^ 12 := maskT_lt h
    have q := List.all_eq_true.mp clash_all (maskT T) (List.mem_range.mpr hm)
    rw [Bool.or_eq_true] at q
    rcases q with q | q
    · obtain ⟨c, hc, hl⟩ := List.any_eq_true.mp q
      exact absurd (maskT_lies.mp hl) (no c hc)
    · obtain ⟨g, hg, hl⟩ := List.any_eq_true.mp q
      have hp := great_prof g hg
      rw [← prof_codes] at hp
      obtain ⟨w, hw, rfl⟩ := List.mem_map.mp hp
      exact ⟨wayC w, List.mem_map.mpr ⟨w, hw, rfl⟩, (keepAll_mask h).mpr hl⟩
/-- those of the least clashes that lie in I -/
def clashesIn (I : List Nat) : List (List Nat) := clashL.filter fun c => c.all fun i => decide (i ∈ I)
theorem mem_clashes {I c : List Nat} : c ∈ clashesIn I ↔ c ∈ clashL ∧ ∀ i ∈ c, i ∈ I := by
  unfold clashesIn
  rw [List.mem_filter, List.all_eq_true]
  exact ⟨fun ⟨a, b⟩ => ⟨a, fun i hi => of_decide_eq_true (b i hi)⟩, fun ⟨a, b⟩ => ⟨a, fun i hi => decide_eq_true (b i hi)⟩⟩

/-! ### names of a mask -/
theorem wanted_asc {I : List Nat} (h : wantedOk I) : I.Pairwise (· < ·) := by
  have e : (List.range 12).filter (fun j => decide (j ∈ I)) = I := h
  rw [← e]
  exact List.Pairwise.sublist List.filter_sublist List.pairwise_lt_range
theorem asc_nodup {I : List Nat} (h : I.Pairwise (· < ·)) : I.Nodup := h.imp fun h => Nat.ne_of_lt h
theorem asc_ext {S T : List Nat} (hS : S.Pairwise (· < ·)) (hT : T.Pairwise (· < ·)) (h : ∀ i, i ∈ S ↔ i ∈ T) : S = T :=
  List.Perm.eq_of_pairwise (le := fun a b => a < b) (fun a b _ _ h1 h2 => absurd h2 (Nat.lt_asymm h1)) hS hT ((List.perm_ext_iff_of_nodup (asc_nodup hS) (asc_nodup hT)).mpr h)
theorem getD_at {I : List Nat} {k : Nat} (h : k < I.length) : I.getD k 0 = I[k] := by
  rw [List.getD_eq_getElem?_getD, List.getElem?_eq_getElem h]
  rfl
theorem mem_names {m j : Nat} {I : List Nat} : j ∈ namesN m I ↔ ∃ k, k < I.length ∧ m.testBit k = true ∧ I.getD k 0 = j := by
  unfold namesN
  rw [List.mem_map]
  constructor
  · rintro ⟨k, hk, e⟩
    obtain ⟨h1, h2⟩ := List.mem_filter.mp hk
    exact ⟨k, List.mem_range.mp h1, h2, e⟩
  · rintro ⟨k, h1, h2, e⟩
    exact ⟨k, List.mem_filter.mpr ⟨List.mem_range.mpr h1, h2⟩, e⟩
theorem names_sub {m : Nat} {I : List Nat} : ∀ j ∈ namesN m I, j ∈ I := fun j hj => by
  obtain ⟨k, h1, _, rfl⟩ := mem_names.mp hj
  rw [getD_at h1]
  exact List.getElem_mem h1
theorem names_bit {I : List Nat} (nd : I.Nodup) {m k : Nat} (hk : k < I.length) : I.getD k 0 ∈ namesN m I ↔ m.testBit k = true := by
  rw [mem_names]
  constructor
  · rintro ⟨k', h1, h2, e⟩
    rw [getD_at h1, getD_at hk] at e
    rw [← (List.getElem_inj nd).mp e]
    exact h2
  · intro h
    exact ⟨k, hk, h, rfl⟩
theorem names_asc {I : List Nat} (h : I.Pairwise (· < ·)) (m : Nat) : (namesN m I).Pairwise (· < ·) := by
  unfold namesN
  refine List.pairwise_map.mpr ((List.Pairwise.sublist (List.filter_sublist (p := m.testBit)) (List.pairwise_lt_range (n := I.length))).imp_of_mem fun {a b} ha hb hlt => ?_)
  have h1 := List.mem_range.mp (List.mem_filter.mp ha).1
  have h2 := List.mem_range.mp (List.mem_filter.mp hb).1
  rw [getD_at h1, getD_at h2]
  exact List.pairwise_iff_getElem.mp h a b h1 h2 hlt
theorem names_lies {I : List Nat} (nd : I.Nodup) {m m' : Nat} (hm : m < 2 ^ I.length) : liesN m m' = true ↔ ∀ j ∈ namesN m I, j ∈ namesN m' I := by
  rw [lies_iff]
  constructor
  · intro h j hj
    obtain ⟨k, h1, h2, rfl⟩ := mem_names.mp hj
    exact mem_names.mpr ⟨k, h1, h k h2, rfl⟩
  · intro h k hk
    have h1 := bit_lt hm hk
    exact (names_bit nd h1).mp (h _ ((names_bit nd h1).mpr hk))
/-- each ascending set within I is the names of a mask -/
theorem names_of_sub {I c : List Nat} (hI : I.Pairwise (· < ·)) (hc : c.Pairwise (· < ·)) (hs : ∀ i ∈ c, i ∈ I) : ∃ m, m < 2 ^ I.length ∧ namesN m I = c := by
  refine ⟨maskT ((List.range I.length).filter fun k => decide (I.getD k 0 ∈ c)), maskT_lt fun k hk => List.mem_range.mp (List.mem_filter.mp hk).1, asc_ext (names_asc hI _) hc fun j => ?_⟩
  rw [mem_names]
  constructor
  · rintro ⟨k, _, h2, rfl⟩
    exact of_decide_eq_true (List.mem_filter.mp (maskT_bit.mp h2)).2
  · intro hj
    obtain ⟨k, hk, e⟩ := List.getElem_of_mem (hs j hj)
    refine ⟨k, hk, maskT_bit.mpr (List.mem_filter.mpr ⟨List.mem_range.mpr hk, decide_eq_true ?_⟩), (getD_at hk).trans e⟩
    rw [getD_at hk, e]
    exact hj
/-- the mask of what a way keeps -/
theorem maskU_bit {I : List Nat} {v : Way5} : ∀ {n k : Nat}, (maskU I v n).testBit k = true ↔ k < n ∧ keepsN v (I.getD k 0) = true
  | 0, k => by
    show Nat.testBit 0 k = true ↔ _
    rw [Nat.zero_testBit]
    exact ⟨fun h => (nomatch h), fun h => absurd h.1 (Nat.not_lt_zero _)⟩
  | n + 1, k => by
    have ih := maskU_bit (I := I) (v := v) (n := n) (k := k)
    rw [show maskU I v (n + 1) = if keepsN v (I.getD n 0) then maskU I v n ||| 2 ^ n else maskU I v n from rfl]
    by_cases c : keepsN v (I.getD n 0) = true
    · rw [if_pos c, Nat.testBit_or, Bool.or_eq_true, ih, Nat.testBit_two_pow, decide_eq_true_iff]
      constructor
      · rintro (⟨h1, h2⟩ | rfl)
        · exact ⟨Nat.lt_succ_of_lt h1, h2⟩
        · exact ⟨Nat.lt_succ_self _, c⟩
      · rintro ⟨h1, h2⟩
        by_cases e : k = n
        · exact .inr e.symm
        · exact .inl ⟨by omega, h2⟩
    · rw [if_neg c, ih]
      constructor
      · rintro ⟨h1, h2⟩
        exact ⟨Nat.lt_succ_of_lt h1, h2⟩
      · rintro ⟨h1, h2⟩
        refine ⟨?_, h2⟩
        by_cases e : k = n
        · rw [e] at h2
          exact absurd h2 c
        · omega
theorem maskU_lt (I : List Nat) (v : Way5) : ∀ n, maskU I v n < 2 ^ n
  | 0 => Nat.two_pow_pos 0
  | n + 1 => by
    have ih := maskU_lt I v n
    have h2 : (2 : Nat) ^ n < 2 ^ (n + 1) := Nat.pow_lt_pow_right (by decide) (Nat.lt_succ_self n)
    rw [show maskU I v (n + 1) = if keepsN v (I.getD n 0) then maskU I v n ||| 2 ^ n else maskU I v n from rfl]
    split
    · exact Nat.or_lt_two_pow (Nat.lt_trans ih h2) h2
    · exact Nat.lt_trans ih h2
theorem keep_names {I : List Nat} {v : Way5} {m : Nat} (hm : m < 2 ^ I.length) : keepAll (namesN m I) v = true ↔ liesN m (maskU I v I.length) = true := by
  rw [lies_iff]
  unfold keepAll
  rw [List.all_eq_true]
  constructor
  · intro h k hk
    have h1 := bit_lt hm hk
    exact maskU_bit.mpr ⟨h1, h _ (mem_names.mpr ⟨k, h1, hk, rfl⟩)⟩
  · intro h j hj
    obtain ⟨k, h1, h2, rfl⟩ := mem_names.mp hj
    exact (maskU_bit.mp (h k h2)).2
/-- what is found: the least clashes within I -/
theorem found_clashes {I ys : List Nat} (hI : wantedOk I) (nd : ys.Nodup) (mem : ∀ k : Nat, k ∈ ys ↔ ∃ v ∈ waysN, k = maskU I v I.length) :
    (((greatN ys).foldl (stepB I.length) [0]).map fun m => namesN m I).Perm (clashesIn I) := by
  have hB := invB_fold (greatN ys) [] [0] (invB_nil I.length)
  rw [List.nil_append] at hB
  generalize (greatN ys).foldl (stepB I.length) [0] = found at hB ⊢
  have hasc := wanted_asc hI
  have ndI := asc_nodup hasc
  have out : ∀ m, m < 2 ^ I.length → ((∀ g ∈ greatN ys, liesN m g = false) ↔ ¬ ∃ v ∈ waysN, keepAll (namesN m I) v = true) := fun m hm => by
    constructor
    · rintro h ⟨v, hv, hk⟩
      rw [keep_names hm] at hk
      obtain ⟨g, hg, hl⟩ := great_over nd ((mem _).mpr ⟨v, hv, rfl⟩)
      have := h g hg
      rw [lies_trans hk hl] at this
      cases this
    · intro h g hg
      cases q : liesN m g with
      | false => rfl
      | true =>
        obtain ⟨v, hv, e⟩ := (mem g).mp (great_sub hg)
        rw [e] at q
        exact absurd ⟨v, hv, (keep_names hm).mpr q⟩ h
  have lt12 : ∀ m, ∀ i ∈ namesN m I, i < 12 := fun m i hi => wanted_lt hI i (names_sub i hi)
  refine (List.perm_ext_iff_of_nodup ?_ (List.Nodup.sublist List.filter_sublist clash_nodup)).mpr fun c => ?_
  · refine List.pairwise_map.mpr (hB.nd.imp_of_mem fun {a b} ha hb hne e => hne ?_)
    exact hB.anti a ha b hb ((names_lies ndI (hB.lt a ha)).mpr fun j hj => by rw [← e]; exact hj)
  · show _ ↔ c ∈ clashesIn I
    rw [List.mem_map, mem_clashes]
    have least : ∀ m, m < 2 ^ I.length → (¬ ∃ v ∈ waysN, keepAll (namesN m I) v = true) → ∃ d ∈ clashL, ∀ i ∈ d, i ∈ namesN m I := fun m hm h => by
      rw [kept_iff (lt12 m)] at h
      apply Classical.byContradiction
      intro no
      exact h fun d hd hs => no ⟨d, hd, hs⟩
    constructor
    · rintro ⟨f, hf, rfl⟩
      have hlt := hB.lt f hf
      obtain ⟨d, hd, hs⟩ := least f hlt ((out f hlt).mp (hB.out f hf))
      have dI : ∀ i ∈ d, i ∈ I := fun i hi => names_sub i (hs i hi)
      obtain ⟨f', hf', e⟩ := names_of_sub hasc (wanted_asc (clash_wanted d hd)) dI
      have no : ¬ ∃ v ∈ waysN, keepAll (namesN f' I) v = true := by
        rw [e, kept_iff (wanted_lt (clash_wanted d hd))]
        exact fun q => q d hd fun i hi => hi
      obtain ⟨f2, hf2, hl⟩ := hB.all f' hf' ((out f' hf').mpr no)
      have hff : liesN f' f = true := (names_lies ndI hf').mpr fun j hj => hs j (by rw [← e]; exact hj)
      have e2 := hB.anti f2 hf2 f hf (lies_trans hl hff)
      have e3 : f' = f := lies_anti hff (by rw [← e2]; exact hl)
      rw [← e3, e]
      exact ⟨hd, dI⟩
    · rintro ⟨hc, cI⟩
      obtain ⟨f', hf', e⟩ := names_of_sub hasc (wanted_asc (clash_wanted c hc)) cI
      have no : ¬ ∃ v ∈ waysN, keepAll (namesN f' I) v = true := by
        rw [e, kept_iff (wanted_lt (clash_wanted c hc))]
        exact fun q => q c hc fun i hi => hi
      obtain ⟨f, hf, hl⟩ := hB.all f' hf' ((out f' hf').mpr no)
      have hlt := hB.lt f hf
      obtain ⟨d, hd, hs⟩ := least f hlt ((out f hlt).mp (hB.out f hf))
      have hs2 := (names_lies ndI hlt).mp hl
      rw [e] at hs2
      have q := List.all_eq_true.mp (List.all_eq_true.mp clash_anti d hd) c hc
      rw [maskT_lies.mpr fun i hi => hs2 i (hs i hi)] at q
      have edc : d = c := by simpa using q
      refine ⟨f, hf, asc_ext (names_asc hasc f) (wanted_asc (clash_wanted c hc)) fun j => ⟨hs2 j, fun hj => hs j (by rw [edc]; exact hj)⟩⟩
/-- sorted, and sorted again by length: the order of the least clashes -/
def lenLex (a b : List Str) : Prop := a.length ≤ b.length ∧ (a.length = b.length → ltT b a = false)
theorem clash_lenLex : (clashL.map fun c => c.map promN).Pairwise lenLex := by
  have h : ∀ l : List (List Str), (l.all fun _ => true) = true → True := fun _ _ => trivial
  unfold lenLex
  decide +kernel
theorem lenSt_unique {M M1 T : List (List Str)} (hs : sortedT M1) (hM : lenSt M M1) (hp : M.Perm T) (hT : T.Pairwise lenLex) : M = T := by
  refine List.Perm.eq_of_pairwise (le := lenLex) (fun a b _ _ h1 h2 => ?_) ?_ hT hp
  · have e : a.length = b.length := Nat.le_antisymm h1.1 h2.1
    exact ltT_anti (h2.2 e.symm) (h1.2 e)
  · refine List.pairwise_of_forall_sublist fun {a b} hab => ⟨hM.1.forall_sublist hab, fun e => ?_⟩
    have q := hab.filter fun l => l.length == b.length
    rw [hM.2, List.filter_cons, if_pos (by rw [e]; exact beq_self_eq_true _), List.filter_cons, if_pos (beq_self_eq_true _), List.filter_nil] at q
    exact (List.Pairwise.sublist List.filter_sublist hs).forall_sublist q
end Tw
/-! more shared rules for comprehensions; scopes with captured names -/
namespace Tw
open PySem PySem.Spec PyProof.Rows L2
section
variable {K : PySem.W.Frag} {S : Side} {ρ : Rho}
/-- a comprehension that maps, over a list told by g -/
theorem lcW_mapM {α : Type} {j : Nat} {te : TE} {g f : α → PyData} : ∀ (l : List α) (acc : List PyData) {kc : List PyData → Prop}, (∀ x ∈ l, ∀ (P' : DV → Prop), P' (.d (f x)) → Ev K S te (ρ.set j (some (.d (g x)))) P') → kc (acc ++ l.map f) → lcW K S ρ j tYes te (l.map g) acc kc
  | [], acc, kc, _, k => by
    rw [List.map_nil, List.append_nil] at k
    exact k
  | x :: xs, acc, kc, h, k => et_yes ⟨fun _ => h x List.mem_cons_self _ ⟨f x, rfl, lcW_mapM xs _ (fun y hy => h y (List.mem_cons_of_mem _ hy)) (by rw [List.append_assoc]; exact k)⟩, fun z => nomatch z⟩
theorem inW_mapM {α : Type} {j : Nat} {te : TE} {g f : α → PyData} {B : Nat} (hB : B < sizeLine) : ∀ (xs : List α) (acc : List PyData) {kc : List PyData → Prop}, (∀ x ∈ xs, ∀ (P' : DV → Prop), P' (.d (f x)) → Ev K S te (ρ.set j (some (.d (g x)))) P') → acc.length + xs.length ≤ B → kc (acc ++ xs.map f) → inW K S ρ j tYes te (xs.map g) acc kc
  | [], acc, kc, _, _, k => by
    rw [List.map_nil, List.append_nil] at k
    exact k
  | x :: xs, acc, kc, h, hl, k => by
    rw [List.length_cons] at hl
    exact et_yes ⟨fun _ => h x List.mem_cons_self _ ⟨f x, rfl, by omega, inW_mapM hB xs _ (fun y hy => h y (List.mem_cons_of_mem _ hy)) (by rw [List.length_append, List.length_singleton]; omega) (by rw [List.append_assoc]; exact k)⟩, fun z => nomatch z⟩
/-- one that filters and maps -/
theorem lcW_fm {α : Type} {j : Nat} {tt : TT} {te : TE} {g h : α → PyData} {f : α → Bool} : ∀ (l : List α) (acc : List PyData) {kc : List PyData → Prop}, (∀ x ∈ l, ∀ PB : Bool → Prop, PB (f x) → EvT K S tt (ρ.set j (some (.d (g x)))) PB) → (∀ x ∈ l, f x = true → ∀ P : DV → Prop, P (.d (h x)) → Ev K S te (ρ.set j (some (.d (g x)))) P) → kc (acc ++ (l.filter f).map h) → lcW K S ρ j tt te (l.map g) acc kc
  | [], acc, kc, _, _, k => by
    rw [List.filter_nil, List.map_nil, List.append_nil] at k
    exact k
  | x :: xs, acc, kc, ht, he, k => by
    refine ht x List.mem_cons_self _ ⟨fun e => ?_, fun e => ?_⟩
    · refine he x List.mem_cons_self e _ ⟨h x, rfl, ?_⟩
      refine lcW_fm xs _ (fun y hy => ht y (List.mem_cons_of_mem _ hy)) (fun y hy => he y (List.mem_cons_of_mem _ hy)) ?_
      rw [List.filter_cons, if_pos e] at k
      rw [List.append_assoc]
      exact k
    · refine lcW_fm xs _ (fun y hy => ht y (List.mem_cons_of_mem _ hy)) (fun y hy => he y (List.mem_cons_of_mem _ hy)) ?_
      rw [List.filter_cons, if_neg (by rw [e]; exact Bool.false_ne_true)] at k
      exact k
end
theorem free_one {names : List (Str × NameKind)} {cells : List (Str × Addr)} {y : Str} (h : (names.all fun z => if z.2 = NameKind.free then decide (z.1 = y) else true) = true) (hc : ∃ c, cells.lookup y = some c) : ∀ z ∈ names, z.2 = .free → ∃ c, cells.lookup z.1 = some c := fun z hz e => by
  have q := List.all_eq_true.mp h z hz
  rw [if_pos e] at q
  rw [of_decide_eq_true q]
  exact hc
theorem free_no {names : List (Str × NameKind)} {cells : List (Str × Addr)} (h : (names.all fun z => decide (z.2 ≠ NameKind.free)) = true) : ∀ z ∈ names, z.2 = .free → ∃ c, cells.lookup z.1 = some c := fun z hz e => absurd e (of_decide_eq_true (List.all_eq_true.mp h z hz))
end Tw
/-! split, join, partition -/
namespace Tw
open PySem PySem.Spec PyProof.Rows L2
section
variable {K : PySem.W.Frag} {S : Side} {ρ : Rho} {to te : TE} {P : DV → Prop}
def rSplit : V → List V → Hp → VK → Prop := fun x xs H Q => ∃ a b, x = .str a ∧ xs = [.str b] ∧ (b.length == 0) = false ∧ a.length + 2 ≤ sizeLine ∧ rNewStrs (Txt.split a b) H Q
theorem ev_m1 {r : V → List V → Hp → VK → Prop} (h : Ev K S to ρ fun x => ∃ a, x = .d (.str a) ∧ Ev K S te ρ fun y => EvC K S (fun vs H Q => ∃ v w, vs = [v, w] ∧ r v [w] H Q) [.d (.str a), y] P) : Ev K S (tM1 r to te) ρ P := fun σ H hi he Q q =>
  h σ H hi he _ fun v x H1 t1 i1 p1 => by
    obtain ⟨a, rfl, p1⟩ := p1
    cases i1
    refine ⟨⟨a, rfl⟩, p1 σ H1 t1.inv (he.mono t1.ex) _ fun w y H2 t2 i2 p2 => ?_⟩
    obtain ⟨v', w', e, z⟩ := p2 [.str a, w] H2 t2.inv ⟨show Dp _ _ _ _ from .str a, i2, trivial⟩ Q fun z d H3 t3 i3 p3 => q z d H3 ((t1.trans t2).trans t3) i3 p3
    cases e
    exact z
theorem ec_split {a b : Str} (hb : (b.length == 0) = false) (ha : a.length + 2 ≤ sizeLine) (p : P (.d (lstS (Txt.split a b)))) : EvC K S (fun vs H Q => ∃ v w, vs = [v, w] ∧ rSplit v [w] H Q) [.d (.str a), .d (.str b)] P := fun vs H hi hv Q q => by
  match vs, hv with
  | [v, w], hv =>
    cases dp_d hv.1
    cases dp_d hv.2.1
    refine ⟨_, _, rfl, a, b, rfl, rfl, hb, ha, fun l nl => ?_⟩
    have t := Side.To.new (S := S) (o := .lst ((Txt.split a b).map V.str)) hi nl
    exact q _ (.d (lstS (Txt.split a b))) _ t (.lst (.inl (.inl (view_new hi nl))) (dpAll_strs _)) p
theorem ev_split (h : Ev K S to ρ fun x => ∃ a, x = .d (.str a) ∧ Ev K S te ρ fun y => ∃ b : Str, y = .d (.str b) ∧ (b.length == 0) = false ∧ a.length + 2 ≤ sizeLine ∧ P (.d (lstS (Txt.split a b)))) : Ev K S (tM1 (fun x xs H Q => ∃ a b, x = .str a ∧ xs = [.str b] ∧ (b.length == 0) = false ∧ a.length + 2 ≤ sizeLine ∧ rNewStrs (Txt.split a b) H Q) to te) ρ P :=
  ev_m1 (h.imp fun x ⟨a, e, h2⟩ => ⟨a, e, h2.imp fun y ⟨b, e2, h3, h4, p⟩ => by rw [e2]; exact ec_split h3 h4 p⟩)
end
end Tw
/-! min: its loop, by what holds between two turns -/
namespace Tw
open PySem PySem.Spec PyProof.Rows L2
abbrev Bst := Option (Value × Value)
def bstA : Bst → Array Value
  | none => #[]
  | some (x, v) => #[x, v]
abbrev bstO (b : Bst) (c : Nat) : Obj := { cls := .type "list", dict := none, data := .seq (bstA b) c, slots := #[] }
section
variable {prog : Program} {w : World} {A : Around} {R : Result → Shared → Prop} {it S f : Addr} {n : Nat}
/-- what a turn does with an item and its value -/
def minTurn (prog : Program) (w : World) (A : Around) (S : Addr) (b : Bst) (St : Bst → Shared → Prop) (v val : Value) (s2 : Shared) : Prop :=
  ∃ c, s2.heap.get? S = some (bstO b c) ∧ match b with
    | none => ∀ h', (∃ c', h'.get? S = some (bstO (some (v, val)) c')) → Heap.SameBut S s2.heap h' → St (some (v, val)) { s2 with heap := h' }
    | some (ov, oval) => ∃ ans : Bool, (∀ (E' : Value → Shared → Prop) (Q' : Value → Shared → Prop), Q' (.bool ans) s2 → wpAny (model prog w) A.in1 (richCompare .Lt val oval) Q' E' s2) ∧
      (ans = true → ∀ h', (∃ c', h'.get? S = some (bstO (some (v, val)) c')) → Heap.SameBut S s2.heap h' → St (some (v, val)) { s2 with heap := h' }) ∧ (ans = false → St b s2)
theorem minKey_loop {d : Value} (St : Nat → Bst → Shared → Prop)
    (turn : ∀ i b (s : Shared) (E : Value → Shared → Prop), i < n → St i b s → (∃ c, s.heap.get? S = some (bstO b c)) ∧ wpAny (model prog w) A.in1 (pyNext (.ref it)) (fun r s1 => ∃ v, r = some v ∧ ∀ E2 : Value → Shared → Prop, wpAny (model prog w) A.in1 (call (.ref f) [v]) (fun val s2 => minTurn prog w A S b (St (i + 1)) v val s2) E2 s1) E s)
    (done : ∀ b (s : Shared) (E : Value → Shared → Prop), St n b s → (∃ c, s.heap.get? S = some (bstO b c)) ∧ wpAny (model prog w) A.in1 (pyNext (.ref it)) (fun r s1 => r = none ∧ (∃ c, s1.heap.get? S = some (bstO b c)) ∧ match b with
      | none => R (.ok (.ret d)) s1
      | some (x, _) => ∀ h', Heap.SameBut S s1.heap h' → R (.ok (.ret x)) { s1 with heap := h' }) E s) :
    ∀ (k i : Nat) (b : Bst) (s : Shared), n - i = k → i ≤ n → St i b s → codeAny (model prog w) A (.builtin "min.loop" ⟨[.ref it, .ref f, .ref S], [(Str.ofString "default", d)]⟩) R s := by
  have hname : (toString "min" ++ toString ".loop" : String) = "min.loop" := by decide
  intro k
  induction k with
  | zero =>
    intro i b s hk hi hst
    have hin : i = n := by omega
    subst hin
    obtain ⟨⟨c, hS⟩, _⟩ := done b s (fun _ _ => False) hst
    refine codeAny_builtin F.entry_min_loop ?_
    rw [Around.under_plainId F.plain_min_loop _]
    show wpAny _ A.in1 (seqItems? (.ref S) >>= _) _ _ s
    refine wpAny_bind (wpAny_seqItems hS rfl ?_)
    show wpAny _ A.in1 (tryCatch (pyNext (.ref it)) _ >>= _) _ _ s
    refine wpAny_bind (wpAny_tryCatch (wpAny_mono (done b s _ hst).2 (fun r s1 h1 => ?_) fun _ _ e => e))
    obtain ⟨rfl, ⟨c1, hS1⟩, hf⟩ := h1
    cases b with
    | none => exact wpAny_bind (wpAny_rule (wpAny_pure hf))
    | some p =>
      obtain ⟨x, v⟩ := p
      show wpAny _ A.in1 (updateSeq S (fun _ => #[]) >>= _) _ _ _
      refine wpAny_bind ?_
      refine wpAny_updateSeq hS1 rfl (wpAny_bind (wpAny_letGo (wpAny_pure ?_))) (by show 2 ≤ sizeLine; decide)
      exact hf _ (Heap.SameBut.update ..)
  | succ k ih =>
    intro i b s hk hi hst
    have hlt : i < n := by omega
    obtain ⟨⟨c, hS⟩, _⟩ := turn i b s (fun _ _ => False) hlt hst
    refine codeAny_builtin F.entry_min_loop ?_
    rw [Around.under_plainId F.plain_min_loop _]
    show wpAny _ A.in1 (seqItems? (.ref S) >>= _) _ _ s
    refine wpAny_bind (wpAny_seqItems hS rfl ?_)
    show wpAny _ A.in1 (tryCatch (pyNext (.ref it)) _ >>= _) _ _ s
    refine wpAny_bind (wpAny_tryCatch (wpAny_mono (turn i b s _ hlt hst).2 (fun r s1 h1 => ?_) fun _ _ e => e))
    obtain ⟨v, rfl, h1⟩ := h1
    show wpAny _ A.in1 (tryCatch (holding [v] (call (.ref f) [v])) _ >>= _) _ _ _
    refine wpAny_bind (wpAny_tryCatch (wpAny_holding (wpAny_mono (h1 _) (fun val s2 h2 => ?_) fun _ _ e => e)))
    obtain ⟨c2, hS2, h2⟩ := h2
    cases b with
    | none =>
      show wpAny _ A.in1 (updateSeq S (fun _ => #[v, val]) >>= _) _ _ _
      refine wpAny_bind ?_
      refine wpAny_updateSeq hS2 rfl ?_ (by show 0 ≤ sizeLine; decide) (by show 2 ≤ sizeLine + 1; decide)
      rw [hname]
      exact wpAny_pure ⟨plainId_quiet F.plain_min_loop _, ih (i + 1) _ _ (by omega) hlt (h2 _ ⟨_, Heap.get?_update_self _ hS2 rfl⟩ (Heap.SameBut.update ..))⟩
    | some p =>
      obtain ⟨ov, oval⟩ := p
      obtain ⟨ans, hlt2, hyes, hno⟩ := h2
      show wpAny _ A.in1 (tryCatch (holding [v, val] (richCompare .Lt val oval >>= _)) _ >>= _) _ _ _
      refine wpAny_bind (wpAny_tryCatch (wpAny_holding (wpAny_bind (hlt2 _ _ ?_))))
      refine wpAny_bind (wpAny_holding (wpAny_truthy_bool ?_))
      refine wpAny_bind (wpAny_letGo (wpAny_pure ?_))
      cases ans with
      | true =>
        simp only [if_true]
        refine wpAny_bind ?_
        refine wpAny_updateSeq hS2 rfl (wpAny_bind (wpAny_letGo ?_)) (by show 2 ≤ sizeLine; decide) (by show 2 ≤ sizeLine + 1; decide)
        rw [hname]
        exact wpAny_pure ⟨plainId_quiet F.plain_min_loop _, ih (i + 1) _ _ (by omega) hlt (hyes rfl _ ⟨_, Heap.get?_update_self _ hS2 rfl⟩ (Heap.SameBut.update ..))⟩
      | false =>
        simp only [Bool.false_eq_true, if_false]
        refine wpAny_bind (wpAny_letGo ?_)
        rw [hname]
        exact wpAny_pure ⟨plainId_quiet F.plain_min_loop _, ih (i + 1) _ _ (by omega) hlt (hno rfl)⟩
end
end Tw
/-! a lambda made, its code object known from then on; a lambda of one parameter, called -/
namespace Tw
open PySem PySem.Spec PyProof.Rows L2
/-- H1 is H, its table of lambdas' codes grown perhaps -/
def Made (P : Addr) (q : Str) (H H1 : Hp) : Prop := LTabG H1 P q ∧ (H1 = H ∨ ∃ c o ps ps', H c = none ∧ H P = some (.tbl ps) ∧ H1 = upd (upd H P (.tbl ps')) c (.frz o (.own c)))
theorem Made.to {S : Side} {P : Addr} {q : Str} {H H1 : Hp} (h : LTabS S P q) (i : S.inv H) (m : Made P q H H1) : S.To H H1 := by
  obtain ⟨g, rfl | ⟨c, o, ps, ps', hc, hP, rfl⟩⟩ := m
  · exact .refl i
  · have ne : P ≠ c := ne_of_none hP hc
    have i2 := S.put H c (.frz o (.own c)) i (nhid i hc) (nofrz hc)
    refine ⟨h.grow _ _ i2 g fun b hb => ?_, fun a u n e => ?_⟩
    · by_cases z : b = c
      · rw [z, upd_same, upd_same]
      · rw [upd_ne z, upd_ne hb, upd_ne z]
    · have na : a ≠ c := ne_of_none e hc
      have nP : a ≠ P := fun z => n (by rw [z]; exact h.mut_)
      rw [upd_ne na, upd_ne nP]
      exact e
section
variable {X : Cx} {pins : List (Addr × Obj)} {σ : L2.St} {H : Hp} {s : Shared}
theorem inv_tableQ {P c : Addr} {q : Str} {oc : Obj} {ps more : Array Value} {h' : Heap} {t' : Nat} (I : Inv X pins σ H s) (hP : H P = some (.tbl ps)) (k : ∀ b o, b ≠ P → s.heap.get? b = some o → h'.get? b = some o)
    (hm : h'.get? P = some { cls := .none, data := .fields (ps ++ more) }) (hc : s.heap.objs.size ≤ c) (ho : h'.get? c = some oc) :
    Inv X pins σ (upd (upd H P (.tbl (ps ++ more))) c (.frz oc (.own c))) { s with heap := h', toks := t' } := by
  have nC : H c = none := I.hok.fresh hc
  have nPc : P ≠ c := ne_of_none hP nC
  have at_ : ∀ b, b ≠ P → b ≠ c → upd (upd H P (.tbl (ps ++ more))) c (.frz oc (.own c)) b = H b := fun b h1 h2 => by rw [upd_ne h2, upd_ne h1]
  have atP : upd (upd H P (.tbl (ps ++ more))) c (.frz oc (.own c)) P = some (.tbl (ps ++ more)) := by rw [upd_ne nPc, upd_same]
  have nP : ∀ b u, H b = some u → (∀ q, u ≠ .tbl q) → b ≠ P := fun b u e q z => by
    rw [z, hP] at e
    exact q ps (Option.some.inj e).symm
  have nN : ∀ b, H b = none → b ≠ P := fun b e z => by
    rw [z, hP] at e
    cases e
  have lt' : ∀ b o, s.heap.get? b = some o → b ≠ c := fun b o e z => by
    rw [z] at e
    exact Nat.lt_irrefl _ (Nat.lt_of_lt_of_le (Heap.lt_size e) hc)
  have sm : ∀ b u, H b = some u → b ≠ c := fun b u e => ne_of_none e nC
  refine I.step (g' := s.gens) (d' := s.drawn) (ch := []) (fun b hb => absurd hb (by simp)) (fun b o _ _ _ e n => k b o (nN b n) e) (fun b o _ _ _ e n => ⟨o.slots, k b o (nN b n) e⟩)
    (fun b o _ e n => by rw [at_ b (nN b n) (lt' b o e)]; exact n) (fun b o _ e => ?_) (fun b xs e => by rw [at_ b (nP b _ e (fun q z => by cases z)) (sm b _ e)]; exact e) (fun b o u e => by rw [at_ b (nP b _ e (fun q z => by cases z)) (sm b _ e)]; exact e) (fun b qs e => ?_) (fun m hn => ?_) (fun b u e => ?_) I.bare
  · by_cases hb : b = P
    · rw [hb]
      exact ⟨_, hm⟩
    · exact ⟨o, k b o hb e⟩
  · by_cases hb : b = P
    · rw [hb, hP] at e
      cases e
      rw [hb, atP]
      exact ⟨more, rfl⟩
    · rw [at_ b hb (sm b _ e), e]
      exact ⟨#[], by simp⟩
  · obtain ⟨ob, es, ep, ho, r⟩ := hn
    exact ⟨ob, es, ep, k _ ob (nN _ I.free) ho, r⟩
  · by_cases hb : b = c
    · rw [hb, upd_same] at e
      cases e
      rw [hb]
      exact ⟨ho, _, ho⟩
    · by_cases hb2 : b = P
      · rw [hb2, atP] at e
        cases e
        rw [hb2]
        exact hm
      · rw [at_ b hb2 hb] at e
        refine (I.hok b u e).stay (fun d v hd q => k d v ?_ q) (fun d q => by rw [at_ d (nP d _ q (fun q z => by cases z)) (sm d _ q)]; exact q) fun d xs q => by rw [at_ d (nP d _ q (fun q z => by cases z)) (sm d _ q)]; exact q
        rcases hd with z | z
        · rw [z]
          exact hb2
        · exact nP d _ z (fun q z => by cases z)
/-- the lambda is made -/
theorem lam_makeQ {c P : Addr} {params : Arguments} {body : Expr} {scope : Scope} {pos : Pos} {E : Value → Shared → Prop} {Q : Value → Shared → Prop} (I : Inv X pins σ H s) (TB : GxR.TabB X.base X.mg c P) (hcode : X.env.code = .ref c)
    (hT : LTabG H P (X.env.qual ++ "<lambda>")) (hdef : defaultsOf params X.env = ([], [])) (hfree : ∀ y ∈ scope.names, y.2 = .free → ∃ c, X.env.cells.lookup y.1 = some c)
    (h : ∀ (f c' : Addr) (oc : Obj) (pm ctv : Value) (H1 : Hp) (s' : Shared), Inv X pins σ H1 s' → Made P (X.env.qual ++ "<lambda>") H H1 →
      s'.heap.get? f = some (PySem.W.kla_obj "<lambda>" (X.env.qual ++ "<lambda>") params body scope (cloFrom X.env.cells scope.names []) pm c' ctv) → H1 f = none → f ∉ frs X.stack → H1 c' = some (.frz oc (.own c')) → CodeQ oc (X.env.qual ++ "<lambda>") → Q (.ref f) s') :
    wpAny (model X.prog X.w) X.A (eval (.Lambda params body scope pos) X.env) Q E s := by
  obtain ⟨ps, hP, ht, ha⟩ := id hT
  refine PySem.W.kla_eval hdef ?_
  have bP : s.heap.BuiltinsAt X.mg P := TB.bm.keeps I.bk
  have hP' : s.heap.get? P = some { cls := .none, data := .fields ps } := I.hok P _ hP
  have nofr : ∀ f, s.heap.objs.size ≤ f → f ∉ frs X.stack := fun f hf z => by
    rcases List.mem_cons.mp (I.stkSub _ z) with e | e
    · have h1 := I.lt
      rw [← e] at h1
      exact Nat.lt_irrefl _ (Nat.lt_of_lt_of_le h1 hf)
    · exact I.nofs hf e
  cases hc : codeAmong pos ps.toList with
  | none =>
    refine PySem.W.kla_makeFunction (mg := X.mg) (c := c) (P := P) (ps := ps) (closure_ok hfree) I.ok.glob (I.mod.glob.keeps I.bk) hcode (TB.code.keeps I.bk) hP' ht hc TB.gP bP fun c' ctv h' tk hx hge hlt hrec htb => ?_
    obtain ⟨c2, oc, vs, t, e2, hoc, hd, hv⟩ := hrec
    cases e2
    have hsz : s.heap.objs.size ≤ h'.objs.size := Nat.le_trans hge (Nat.le_of_lt hlt)
    have nC : H c' = none := I.hok.fresh hge
    have I1 := inv_tableQ (q := X.env.qual ++ "<lambda>") (t' := tk) (more := #[rawInt pos.line, rawInt pos.col, .ref c']) (h' := h'.push (PySem.W.kla_obj "<lambda>" (X.env.qual ++ "<lambda>") params body scope (cloFrom X.env.cells scope.names []) ((X.mg "__name__").getD .none) c' ctv)) I hP
      (fun b o hb e => Heap.get?_push_of_some _ (hx b o hb e)) (Heap.get?_push_of_some _ htb) hge (Heap.get?_push_of_some _ hoc)
    have hE : ∀ b o u, H b = some (.frz o u) → upd (upd H P (.tbl (ps ++ #[rawInt pos.line, rawInt pos.col, .ref c']))) c' (.frz oc (.own c')) b = some (.frz o u) := fun b o u e => by
      rw [upd_ne (ne_of_none e nC), upd_ne (fun z => by rw [z, hP] at e; cases e)]
      exact e
    have eL : (ps ++ #[rawInt pos.line, rawInt pos.col, .ref c']).toList = ps.toList ++ [rawInt pos.line, rawInt pos.col, .ref c'] := by simp
    have hcq : CodeQ oc (X.env.qual ++ "<lambda>") := ⟨vs, t, hd, hv⟩
    refine h h'.objs.size c' oc ((X.mg "__name__").getD .none) ctv _ _ I1 ⟨⟨_, by rw [upd_ne (ne_of_none hP nC), upd_same], by rw [eL]; exact PySem.TriplesOk_snoc _ _ _ _ ht, fun p' cv hcv => ?_⟩, .inr ⟨c', oc, ps, _, nC, hP, rfl⟩⟩ (Heap.get?_push_size _ rfl) ?_ (nofr _ hsz) upd_same hcq
    · rw [eL] at hcv
      rcases LamX.among_app _ ht hcv with z | z
      · obtain ⟨c0, o0, e1, e2, e3⟩ := ha p' cv z
        exact ⟨c0, o0, e1, hE _ _ _ e2, e3⟩
      · exact ⟨c', oc, z, upd_same, hcq⟩
    · have n1 : h'.objs.size ≠ c' := Nat.ne_of_gt hlt
      have n2 : h'.objs.size ≠ P := Nat.ne_of_gt (Nat.lt_of_lt_of_le (Heap.lt_size hP') hsz)
      rw [upd_ne n1, upd_ne n2]
      exact I.hok.fresh hsz
  | some cv =>
    obtain ⟨c', oc, e, hco, hcq⟩ := ha pos cv hc
    subst e
    refine PySem.W.kla_makeFunctionHit (mg := X.mg) (c := c) (P := P) (ps := ps) (closure_ok hfree) I.ok.glob (I.mod.glob.keeps I.bk) hcode (TB.code.keeps I.bk) hP' ht hc bP fun ctv h' tk hx hsz => ?_
    have I1 : Inv X pins σ H { s with heap := h'.push (PySem.W.kla_obj "<lambda>" (X.env.qual ++ "<lambda>") params body scope (cloFrom X.env.cells scope.names []) ((X.mg "__name__").getD .none) c' ctv), toks := tk } := I.kept fun b o e => Heap.get?_push_of_some _ (hx b o e)
    exact h h'.objs.size c' oc ((X.mg "__name__").getD .none) ctv H _ I1 ⟨hT, .inl rfl⟩ (Heap.get?_push_size _ rfl) (I.hok.fresh hsz) (nofr _ hsz) hco hcq
end
/-- one parameter x, else captured names and globals -/
structure LamS1 (sc scope : Scope) (x : Str) : Prop where
  kind : scope.kind = .function
  co : scope.isCoroutine = false
  gen : scope.isGenerator = false
  loc : scope.names.lookup x = some .local
  own : ∀ y ∈ scope.names, y.2 ≠ .cell ∧ (y.2 = .local → y.1 = x)
  free : ∀ y ∈ scope.names, y.2 = .free → sc.names.lookup y.1 = some .cell ∨ sc.names.lookup y.1 = some .free
def lamSB1 (sc scope : Scope) (x : Str) : Bool :=
  decide (scope.kind = .function) && !scope.isCoroutine && !scope.isGenerator && decide (scope.names.lookup x = some .local) && scope.names.all fun y => !decide (y.2 = .cell) && (!decide (y.2 = .local) || decide (y.1 = x)) && (!decide (y.2 = .free) || decide (sc.names.lookup y.1 = some .cell) || decide (sc.names.lookup y.1 = some .free))
theorem lamS1_by {sc scope : Scope} {x : Str} (h : lamSB1 sc scope x = true) : LamS1 sc scope x := by
  unfold lamSB1 at h
  simp only [Bool.and_eq_true, Bool.or_eq_true, Bool.not_eq_true', decide_eq_true_eq, decide_eq_false_iff_not, List.all_eq_true] at h
  obtain ⟨⟨⟨⟨h1, h2⟩, h3⟩, hl⟩, h4⟩ := h
  refine ⟨h1, h2, h3, hl, fun y hy => ⟨(h4 y hy).1.1, fun e => ?_⟩, fun y hy e => ?_⟩
  · rcases (h4 y hy).1.2 with z | z
    · exact absurd e z
    · exact z
  · rcases (h4 y hy).2 with (z | z) | z
    · exact absurd e z
    · exact .inl z
    · exact .inr z
theorem LamS1.has {X : Cx} {scope : Scope} {x : Str} (L : LamS1 X.env.scope scope x) (ok : X.Ok) : ∀ y ∈ scope.names, y.2 = .free → ∃ c, X.env.cells.lookup y.1 = some c := fun y hy e => by
  rcases L.free y hy e with k | k
  · exact ok.has _ (.inl k)
  · exact ok.has _ (.inr k)
section
variable {X : Cx} {pins : List (Addr × Obj)} {σ : L2.St} {H HZ : Hp} {s s1 : Shared}
theorem lam_start1 {A : Around} {outer : List Env} {E : XK} {scope : Scope} {x : Str} {j : Nat} {v : V} {u : Value} {f c' : Addr} {h₁ : Heap} {tk : Nat} (I : Inv X pins σ H s) (L : LamS1 X.env.scope scope x) (e0 : Env0 X.prog X.w X.K X.mg X.base A outer s1 HZ) (hd : A.handled = none) (hN : X.N.Nodup) (hj : X.N[j]? = some x) (rv : RelV v u)
    (un : Un (frs X.stack) [] H HZ s.heap s1.heap) (hns : h₁.Ns s1.heap.objs.size fun y => ([(x, u)] : List (Str × Value)).reverse.lookup y) (kp : ∀ b o, s1.heap.get? b = some o → h₁.get? b = some o) :
    Inv (LamX.lamCx X A outer s1 HZ E scope f c') [] (σ.set j (some v)) HZ { s1 with heap := h₁, toks := tk } := by
  have hfree := L.has I.ok
  have cm : ∀ {y c}, (cloFrom X.env.cells scope.names []).lookup y = some c → X.env.cells.lookup y = some c := fun {y c} e => NdefX.clo_cm hfree e
  have look : ∀ {y}, scope.names.lookup y = some .free → ∃ c, (cloFrom X.env.cells scope.names []).lookup y = some c := fun {y} hl => by
    have hy : (y, NameKind.free) ∈ scope.names := PySem.mem_of_lookup hl
    exact mem_lookup (cloFrom_has (cells := X.env.cells) (acc := []) hy)
  have cellK : ∀ {c : Addr} {v : Option Value}, H c = none → s.heap.IsCell c v → h₁.IsCell c v := fun {c v} n ⟨o, ho, hd⟩ => by
    obtain ⟨sl, q⟩ := un.any ho n (by simp)
    exact ⟨_, kp _ _ q, hd⟩
  have noA : ∀ b : Addr, b ∉ (LamX.lamCx X A outer s1 HZ E scope f c').ex := fun b z => absurd (show b ∈ ([] : List Addr) from z) (by simp)
  have nx : scope.names.lookup x ≠ some .free := by rw [L.loc]; exact fun z => nomatch z
  refine ⟨⟨e0.mod, L.kind, rfl, rfl, Nat.le_refl _, fun y z c e1 e2 => I.ok.inj y z c (cm e1) (cm e2), fun y hy => ?_, fun y c z _ => ?_, fun _ => hd, Around.frames_deeper e0.frames, .inr ⟨rfl, rfl⟩, fun b z => absurd z (noA b), e0.bs, e0.bsz, fun b _ _ => noA b,
      fun b z => absurd z (noA b), e0.funs, e0.frf⟩,
    rfl, e0.bare, Un.kept kp, ⟨_, hns, fun i y w e1 e2 e3 => ?_⟩, fun y c e => ?_, e0.hok.fresh (Nat.le_refl _), fun y c e => ?_, fun q hq => absurd (show q ∈ ([] : List (Addr × Obj)) ++ [] from hq) (by simp), e0.hok.kept kp, by rw [List.length_set]; exact I.len⟩
  · have hy : scope.names.lookup y = some .cell ∨ scope.names.lookup y = some .free := hy
    rcases hy with hy | hy
    · exact absurd rfl (L.own _ (PySem.mem_of_lookup hy)).1
    · exact look hy
  · have z : false = true := z
    cases z
  · have e3 : Vis scope y := e3
    rcases e3 with k | k | k
    · have ey : y = x := (L.own _ (PySem.mem_of_lookup k)).2 rfl
      subst ey
      have ij : i = j := nodup_ix hN e1 hj
      subst ij
      have hl : i < σ.length := by rw [I.len]; exact (List.getElem?_eq_some_iff.mp hj).1
      rw [List.getElem?_set_self hl] at e2
      cases e2
      exact ⟨u, rv, .inl ⟨k, by simp⟩⟩
    · exact absurd rfl (L.own _ (PySem.mem_of_lookup k)).1
    · have ny : y ≠ x := fun z => nx (by rw [← z]; exact k)
      have nij : j ≠ i := fun z => by
        rw [z] at hj
        have e1 : X.N[i]? = some y := e1
        rw [hj] at e1
        exact ny (Option.some.inj e1).symm
      rw [List.getElem?_set_ne nij] at e2
      obtain ⟨m, hn, hl⟩ := I.loc
      have hvis : Vis X.env.scope y := (L.free _ (PySem.mem_of_lookup k) rfl).elim (fun k => .inr (.inl k)) (fun k => .inr (.inr k))
      obtain ⟨w', r, q⟩ := hl i y w e1 e2 hvis
      obtain ⟨c2, h2⟩ := look k
      refine ⟨w', r, .inr ⟨.inr k, c2, h2, ?_⟩⟩
      have c1 := cm h2
      rcases q with ⟨k', _⟩ | ⟨_, c3, e', z⟩
      · have k' : X.env.scope.names.lookup y = some .local := k'
        rcases L.free _ (PySem.mem_of_lookup k) rfl with k2 | k2 <;> rw [show X.env.scope.names.lookup y = _ from k2] at k' <;> cases k'
      · rw [c1] at e'
        cases e'
        exact cellK (I.freeC y _ c1) z
  · obtain ⟨w', z⟩ := I.cell y c (cm e)
    exact ⟨w', cellK (I.freeC y c (cm e)) z⟩
  · obtain ⟨v, o, ho, hd⟩ := I.cell y c (cm e)
    exact un.free c o ho (I.freeC y c (cm e)) (by simp)
/-- f(u), f the lambda, called at A under the frame of X -/
theorem lam_call1 {A : Around} {params : Arguments} {body : Expr} {scope : Scope} {x : Str} {j k : Nat} {v : V} {u : Value} {f c' : Addr} {oc : Obj} {pm ctv : Value} {tb : TE} {Q : VK} {E : Value → Shared → Prop} {QQ : Value → Shared → Prop}
    (I : Inv X pins σ H s) (hA : A.frames = X.A.frames) (L : LamS1 X.env.scope scope x) (hN : X.N.Nodup) (hj : X.N[j]? = some x) (rv : RelV v u) (hr : Room (k + 1) A)
    (hf : s.heap.get? f = some (PySem.W.kla_obj "<lambda>" (X.env.qual ++ "<lambda>") params body scope (cloFrom X.env.cells scope.names []) pm c' ctv)) (hc : H c' = some (.frz oc (.own c'))) (hq : CodeQ oc (X.env.qual ++ "<lambda>"))
    (hbind : bindArgs (PySem.W.kla_fn "<lambda>" (X.env.qual ++ "<lambda>") params body scope (cloFrom X.env.cells scope.names []) pm (.ref c') ctv) ⟨[u], []⟩ = pure [(x, u)])
    (hbody : ∀ (A : Around) (outer : List Env) (s : Shared) (H : Hp), Room k (A.deeper (LamX.lamEnv X scope s.heap.objs.size f c')) → PE (LamX.lamCx X A outer s H (fun _ _ _ => False) scope f c') body tb)
    (h : tb (σ.set j (some v)) H Q) (hQ : ∀ val s2, CE X.stack X.prog X.w H s Q val s2 → QQ val s2) :
    wpAny (model X.prog X.w) A (call (.ref f) [u]) QQ E s := by
  have e0 : Env0 X.prog X.w X.K X.mg X.base A X.stack s H := ⟨by rw [hA]; exact I.ok.frames, I.ok.mod, I.bs, Nat.le_trans I.ok.bsz I.sz, I.stack, I.stkFree, I.hok, I.bare⟩
  obtain ⟨hoc, _⟩ := I.hok c' _ hc
  obtain ⟨vs, t, hdc, hvc⟩ := hq
  refine wpAny_call (codeAny_mono (R := CR (fun _ _ _ _ _ _ => False) X.stack X.prog X.w H s Q (fun _ _ _ => False)) ?_ fun r s' hq => ?_)
  · refine PySem.W.kla_callFunE hr.depth hf rfl L.co L.gen rfl ⟨c', oc, vs, t, rfl, hoc, hdc, hvc⟩ ?_
    rw [hbind]
    refine wpAny_pure (wpAny_newFunctionEnv (fun y hy => (L.own y hy).1) (fun y hy => by rw [List.mem_singleton.mp hy]; exact L.loc) (fun h₁ hns hsb => ⟨I.nolimit.fresh _ hsb, ?_⟩) L.kind)
    show codeAny _ _ (.expr body (LamX.lamEnv X scope s.heap.objs.size f c')) _ _
    have kp : ∀ b o, s.heap.get? b = some o → h₁.get? b = some o := fun b o e => hsb.extBut b o (Nat.ne_of_lt (Heap.lt_size e)) (Heap.get?_push_of_some _ e)
    have J : Inv (LamX.lamCx X A X.stack s H (fun _ _ _ => False) scope f c') [] (σ.set j (some v)) H { s with heap := h₁, toks := s.toks + ([(x, u)] : List (Str × Value)).length } :=
      lam_start1 I L e0 hr.hd hN hj rv Un.refl hns kp
    refine PySem.W.kla_codeExpr (wpAny_mono ((hbody A X.stack s H (hr.deeper _)).run [] _ _ H Q J h) (fun v s' hq => ?_) fun e s' hq => ?_)
    · obtain ⟨w', H', J', rv, q⟩ := hq
      exact ⟨w', H', J'.os, J'.bare, J'.base, J'.hok, rv, q⟩
    · exact wpAny_mono hq (fun _ s'' ⟨_, _, _, _, _, _, _, _, _, _, _, _, z⟩ => z.elim) fun _ s'' ⟨_, _, _, _, _, _, _, _, _, _, _, _, z⟩ => z.elim
  · cases r with
    | error e => exact False.elim hq
    | ok fl =>
      cases fl with
      | ret u => exact hQ u s' hq
      | next => exact False.elim hq
      | brk => exact False.elim hq
      | cont => exact False.elim hq
end
end Tw
/-! min(t, key=lambda x: .., default=None) -/
namespace Tw
open PySem PySem.Spec PyProof.Rows L2
theorem call_function_tree_kw {prog : Program} {w : World} {A : Around} {E : Value → Shared → Prop} {s : Shared} {id : String} {b : Builtin} {args : List Value} {kw : List (Str × Value)} {Q : Value → Shared → Prop} (hk : builtinKind id = none) (hp : plainId id = true)
    (hb : entryFor table id = some b) (ha : argsOk id ⟨args, kw⟩)
    (hc : wpAny (model prog w) A.in1 (b ⟨args, kw⟩) (fun fin s' => match fin with
      | .done f => (match (Except.ok f : Result) with | .ok (.ret v) => Q v s' | .ok _ => False | .error e => E e s')
      | .again c' => c'.quiet = true ∧ codeAny (model prog w) A c' (fun r s' => match r with | .ok (.ret v) => Q v s' | .ok _ => False | .error e => E e s') s') E s) :
    wpAny (model prog w) A (call (.builtin id) args kw) Q E s := by
  refine wpAny_call (codeAny_call_builtin hp hb ?_)
  simp only [checkBuiltinCall, hk]
  cases hsig : Manifest.signature? id with
  | none => exact wpAny_pure hc
  | some sig =>
    have := ha
    unfold argsOk at this
    rw [hsig] at this
    simp only [] at this ⊢
    rw [this]
    exact wpAny_pure hc
/-- the items in turn, the best so far with its key -/
def minL (K : PySem.W.Frag) (tb : TE) (j : Nat) (σ : L2.St) : List V → Option (V × V) → Hp → VK → Prop
  | [], none, H, Q => Q .non H
  | [], some (b, _), H, Q => Q b H
  | x :: xs, o, H, Q => tb (σ.set j (some x)) H fun v H' => match o with
    | none => minL K tb j σ xs (some (x, v)) H' Q
    | some (b, bv) => ∃ d e, Dp K H' v d ∧ Dp K H' bv e ∧ PySem.W.alike d e = true ∧ d ≠ .none ∧ min d.depth e.depth ≤ 60 ∧ minL K tb j σ xs (if PySem.W.dataLt d e = true then some (x, v) else some (b, bv)) H' Q
def tMinKey (K : PySem.W.Frag) (P : Addr) (q : Str) (te tb : TE) (j : Nat) : TE := fun σ H Q => te σ H fun x H1 => ∃ a xs, x = .ref a ∧ SqT K H1 a xs ∧ LTabG H1 P q ∧ ∀ H2, Made P q H1 H2 → minL K tb j σ xs none H2 Q
theorem Made.sqt {K : PySem.W.Frag} {P : Addr} {q : Str} {H H1 : Hp} {a : Addr} {xs : List V} (m : Made P q H H1) (h : SqT K H a xs) : SqT K H1 a xs := by
  obtain ⟨_, rfl | ⟨c, o, ps, ps', hc, hP, rfl⟩⟩ := m
  · exact h
  · have k : ∀ u, (∀ p, u ≠ .tbl p) → H a = some u → upd (upd H P (.tbl ps')) c (.frz o (.own c)) a = some u := fun u hu e => by
      rw [upd_ne (ne_of_none e hc), upd_ne (fun z => by rw [z, hP] at e; exact hu ps (Option.some.inj e).symm)]
      exact e
    rcases h with (h | ⟨u, h⟩) | h
    · exact .inl (.inl (k _ (fun _ z => nomatch z) h))
    · exact .inl (.inr ⟨u, k _ (fun _ z => nomatch z) h⟩)
    · exact .inr h
theorem un_sqt {K : PySem.W.Frag} {fs ex : List Addr} {H H1 : Hp} {h h1 : Heap} {a : Addr} {xs : List V} (u : Un fs ex H H1 h h1) (q : SqT K H a xs) : SqT K H1 a xs := by
  rcases q with (q | ⟨o, q⟩) | q
  · exact .inl (.inl (u.tups _ _ q))
  · exact .inl (.inr ⟨o, u.frzs _ _ _ q⟩)
  · exact .inr q
def relB : Option (V × V) → Bst → Prop
  | none, none => True
  | some (x, v), some (y, u) => RelV x y ∧ RelV v u
  | _, _ => False
section
variable {X : Cx}
theorem Inv_nostk {pins : List (Addr × Obj)} {σ : L2.St} {H : Hp} {s : Shared} (I : Inv X pins σ H s) {f : Addr} (hf : s.heap.objs.size ≤ f) : f ∉ frs X.stack := fun z => by
  rcases List.mem_cons.mp (I.stkSub _ z) with e | e
  · have h1 := I.lt
    rw [← e] at h1
    exact Nat.lt_irrefl _ (Nat.lt_of_lt_of_le h1 hf)
  · exact I.nofs hf e
/-- an address of our own: not among what the frame holds -/
structure Ours (X : Cx) (pins : List (Addr × Obj)) (a : Addr) : Prop where
  nl : a ≠ X.env.locals
  n0 : X.s_0.heap.objs.size ≤ a
  nc : ∀ x c, X.env.cells.lookup x = some c → c ≠ a
  np : ∀ p ∈ X.pn ++ pins, p.1 ≠ a
  ns : a ∉ frs X.stack
theorem ours {pins : List (Addr × Obj)} {σ : L2.St} {H : Hp} {s : Shared} (I : Inv X pins σ H s) {f : Addr} (hf : s.heap.objs.size ≤ f) : Ours X pins f where
  nl := Nat.ne_of_gt (Nat.lt_of_lt_of_le I.lt hf)
  n0 := Nat.le_trans I.sz hf
  nc := fun x c e z => by
    obtain ⟨_, o, ho, _⟩ := I.cell x c e
    have := Heap.lt_size ho
    rw [z] at this
    exact Nat.lt_irrefl _ (Nat.lt_of_lt_of_le this hf)
  np := fun p hp z => by
    have := Heap.lt_size (I.pin p hp).1
    rw [z] at this
    exact Nat.lt_irrefl _ (Nat.lt_of_lt_of_le this hf)
  ns := Inv_nostk I hf
theorem Ours.turn {pins : List (Addr × Obj)} {σ : L2.St} {H : Hp} {s : Shared} {a : Addr} {h' : Heap} {t' : Nat} (O : Ours X pins a) (I : Inv X pins σ H s) (hn : H a = none) (k : ∀ b o, b ≠ a → s.heap.get? b = some o → h'.get? b = some o) : Inv X pins σ H { s with heap := h', toks := t' } :=
  I.turned k hn O.nl (.inr O.n0) O.nc O.np
theorem args_min_kd (x f d : Value) : argsOk "min" ⟨[x], [(Str.ofString "key", f), (Str.ofString "default", d)]⟩ := by unfold argsOk; kernel_rfl
theorem pe_minKey {c P : Addr} {e : Expr} {params : Arguments} {body : Expr} {scope : Scope} {x : Str} {p lpos p3 pos kp1 kp2 : Pos} {i3 k j : Nat} {te tb : TE} (hr : Room (k + 3) X.A) (hN : X.N.Nodup) (hj : X.N[j]? = some x)
    (TB : GxR.TabB X.base X.mg c P) (hcode : X.env.code = .ref c) (L : LamS1 X.env.scope scope x) (hdef : defaultsOf params X.env = ([], [])) (he : PE X e te) (g1 : Gl X "min") (m1 : X.mg "min" = none) (b1 : bootBuiltins "min" = some (.builtin "min"))
    (hbind : ∀ (pm ctv u : Value) (c' : Addr) (cl : List (Str × Addr)), bindArgs (PySem.W.kla_fn "<lambda>" (X.env.qual ++ "<lambda>") params body scope cl pm (.ref c') ctv) ⟨[u], []⟩ = pure [(x, u)])
    (hbody : ∀ (A : Around) (outer : List Env) (s : Shared) (H : Hp) (f c' : Addr), Room k (A.deeper (LamX.lamEnv X scope s.heap.objs.size f c')) → PE (LamX.lamCx X A outer s H (fun _ _ _ => False) scope f c') body tb)
    (hst : backTo pos (starEach [e] X.env) = (false, eval e X.env) :: backTo pos (starEach [] X.env) := by rfl) (hpl : (backTo pos (starEach [e] X.env)).any (·.1) = false := by rfl)
    (hall : (backToKw pos (keywordEach [⟨some (Str.ofString "key"), .Lambda params body scope lpos, kp1⟩, ⟨some (Str.ofString "default"), .Constant .none i3 p3, kp2⟩] X.env)).all (·.1.isSome) = true := by rfl)
    (hnone : (backToKw pos (keywordEach [⟨some (Str.ofString "key"), .Lambda params body scope lpos, kp1⟩, ⟨some (Str.ofString "default"), .Constant .none i3 p3, kp2⟩] X.env)).any (·.1.isNone) = false := by rfl)
    (hks : (backToKw pos (keywordEach [⟨some (Str.ofString "key"), .Lambda params body scope lpos, kp1⟩, ⟨some (Str.ofString "default"), .Constant .none i3 p3, kp2⟩] X.env)).filterMap (·.1) = [(Str.ofString "key"), (Str.ofString "default")] := by rfl) :
    PE X (.Call (.Name "min" p) [e] [⟨some (Str.ofString "key"), .Lambda params body scope lpos, kp1⟩, ⟨some (Str.ofString "default"), .Constant .none i3 p3, kp2⟩] pos) (tMinKey X.K P (X.env.qual ++ "<lambda>") te tb j) := by
  refine ⟨fun pins s σ H Q I h => ?_⟩
  refine wpAny_Call_Name_kw (ld_blt I g1 m1 b1 ?_)
  refine PyProof.Rows.callWith_kw (env := X.env) ?_ hst hpl hall hnone
  rw [hst, hks]
  refine Calls.spliced_cons (thn (he.run pins s σ H _ I h) fun u s1 ⟨xv, H1, I1, r1, q1⟩ => Calls.spliced_nil ?_)
  obtain ⟨a, xs, rfl, hs, hT, q1⟩ := q1
  cases r1
  show wpAny _ _ (evalAll ((do let v ← eval (.Lambda params body scope lpos) X.env; standAt pos; pure v) :: (do let v ← eval (.Constant .none i3 p3) X.env; standAt pos; pure v) :: [])) _ _ s1
  refine wpAny_evalAll_cons (wpAny_bind (lam_makeQ I1 TB hcode hT hdef (L.has I1.ok) fun f c' oc pm ctv H2 s2 I2 M hf hfn hfr hc hq => wpAny_bind (wpAny_standAt (wpAny_pure ?_))))
  refine wpAny_evalAll_cons (wpAny_bind ?_)
  have q2 := q1 H2 M
  have hs2 := M.sqt hs
  refine Constant_none (wpAny_bind (wpAny_standAt (wpAny_pure (wpAny_evalAll_nil ?_))))
  show wpAny _ _ (call (.builtin "min") [.ref a] [(Str.ofString "key", .ref f), (Str.ofString "default", .none)]) _ _ s2
  obtain ⟨its, rv, pl, hz⟩ := I2.tuple hs2
  refine call_function_tree_kw F.kind_min F.plain_min F.entry_min (args_min_kd _ _ _) ?_
  show wpAny _ X.A.in1 (Builtin.Builtins.bindParams "min" ["key", "default"] 0 ⟨[], [(Str.ofString "key", .ref f), (Str.ofString "default", .none)]⟩ >>= _) _ _ s2
  refine wpAny_bind (wpAny_of_eq (show Builtin.Builtins.bindParams "min" ["key", "default"] 0 ⟨[], [(Str.ofString "key", .ref f), (Str.ofString "default", .none)]⟩ = pure [some (.ref f), some .none] from rfl) ?_)
  refine wpAny_bind (wpAny_pure ?_)
  refine wpAny_bind (wpAny_pyIter_tuple (items := its.toArray) (by obtain ⟨o, e, cl, n, d⟩ := pl; exact ⟨o, e, cl, n, d⟩) ?_)
  refine wpAny_bind (wpAny_newList ?_ (Nat.zero_le _))
  have O1 := ours I2 (Nat.le_refl s2.heap.objs.size)
  generalize eit : s2.heap.objs.size = it at O1
  have O2 : Ours X pins (it + 1) := ours I2 (by rw [eit]; exact Nat.le_succ _)
  have hnit : H2 it = none := I2.hok.fresh (by rw [eit]; exact Nat.le_refl _)
  have hnS : H2 (it + 1) = none := I2.hok.fresh (by rw [eit]; exact Nat.le_succ _)
  have hA1 : X.A.in1.frames = X.A.frames := rfl
  let St : Nat → Bst → Shared → Prop := fun i b s' => ∃ H' o, Inv X pins σ H' s' ∧ relB o b ∧ i ≤ xs.length ∧ minL X.K tb j σ (xs.drop i) o H' Q ∧ s'.heap.IsTupleIter it a i ∧ H' it = none ∧ (∃ c, s'.heap.get? (it + 1) = some (bstO b c)) ∧ H' (it + 1) = none ∧ SqT X.K H' a xs ∧
    s'.heap.get? f = some (PySem.W.kla_obj "<lambda>" (X.env.qual ++ "<lambda>") params body scope (cloFrom X.env.cells scope.names []) pm c' ctv) ∧ H' f = none ∧ H' c' = some (.frz oc (.own c'))
  have hname : (toString "min" ++ toString ".loop" : String) = "min.loop" := by decide
  have fne : f ≠ it + 1 ∧ f ≠ it := by
    have h1 := Heap.lt_size hf
    rw [eit] at h1
    exact ⟨Nat.ne_of_lt (Nat.lt_succ_of_lt h1), Nat.ne_of_lt h1⟩
  have ane : a ≠ it + 1 ∧ a ≠ it := by
    obtain ⟨o, ho, _⟩ := id pl
    have h1 := Heap.lt_size ho
    rw [eit] at h1
    exact ⟨Nat.ne_of_lt (Nat.lt_succ_of_lt h1), Nat.ne_of_lt h1⟩
  rw [hname]
  refine wpAny_pure ⟨plainId_quiet F.plain_min_loop _, ?_⟩
  have hsz1 : (s2.heap.push { cls := .type "tuple_iterator", data := .fields #[.ref a, .int 0 0] }).objs.size = it + 1 := by rw [Heap.size_push, eit]
  show codeAny _ _ (.builtin "min.loop" ⟨[.ref it, .ref f, .ref (s2.heap.push { cls := .type "tuple_iterator", data := .fields #[.ref a, .int 0 0] }).objs.size], [(Str.ofString "default", .none)]⟩) _ _
  rw [hsz1]
  refine minKey_loop (n := xs.length) St (fun i b s' E hi hst => ?_) (fun b s' E hst => ?_) xs.length 0 none _ (Nat.sub_zero _) (Nat.zero_le _) ?_
  · -- a turn
    obtain ⟨H', o, I', rb, _, hm, hit, hni, ⟨cS, hS⟩, hnS', hsq, hf', hnf, hc'⟩ := hst
    refine ⟨⟨cS, hS⟩, ?_⟩
    obtain ⟨its', rv', pl', _⟩ := I'.tuple hsq
    have hx : its'[i]? ≠ none := by
      rw [ne_eq, List.getElem?_eq_none_iff, ← rv'.length]
      omega
    obtain ⟨u, hu⟩ := Option.ne_none_iff_exists'.mp hx
    have hxi : xs[i]? = some xs[i] := List.getElem?_eq_getElem hi
    obtain ⟨u2, hu2, ru⟩ := rv'.get hxi
    rw [hu] at hu2
    cases hu2
    have hT' : s'.heap.IsTuple a its'.toArray := by
      obtain ⟨o, e, cl, n, d⟩ := pl'
      exact ⟨o, e, cl, n, d⟩
    refine wpAny_pyNext_tuple_item hit hT' (x := u) (by rw [List.getElem?_toArray]; exact hu) fun h1 hit1 hs1 => ⟨u, rfl, fun E2 => ?_⟩
    have I1' : Inv X pins σ H' { s' with heap := h1 } := O1.turn (t' := s'.toks) I' hni fun b o hb e => hs1.extBut b o hb e
    rw [List.drop_eq_getElem_cons hi] at hm
    have keep1 : ∀ b ob, b ≠ it → s'.heap.get? b = some ob → h1.get? b = some ob := fun b ob hb e => hs1.extBut b ob hb e
    refine lam_call1 (pins := pins) I1' hA1 L hN hj ru (Room.mono hr.in1 (by omega)) (keep1 f _ fne.2 hf') hc' hq (hbind _ _ _ _ _) (fun A outer s H hrm => hbody A outer s H f c' hrm) hm fun val s3 hce => ?_
    obtain ⟨v', H3, os3, bare3, un3, hok3, rv3, q3⟩ := hce
    have I3 : Inv X pins σ H3 s3 := I1'.call' os3 un3 hok3 bare3 fun b z => absurd z (by simp)
    have kp : ∀ b ob, h1.get? b = some ob → H' b = none → b ∉ frs X.stack → s3.heap.get? b = some ob ∧ H3 b = none := fun b ob e n nf => ⟨un3.keep b ob e n nf (by simp), un3.free b ob e n (by simp)⟩
    have hS3 := kp (it + 1) _ (keep1 _ _ (Nat.ne_of_gt (Nat.lt_succ_self it)) hS) hnS' O2.ns
    have hf3 := kp f _ (keep1 f _ fne.2 hf') hnf hfr
    have hc3 : H3 c' = some (.frz oc (.own c')) := un3.frzs _ _ _ hc'
    have hsq3 := un_sqt un3 hsq
    have hit3 : s3.heap.IsTupleIter it a (i + 1) ∧ H3 it = none := by
      obtain ⟨o, ho, r⟩ := hit1
      obtain ⟨e1, e2⟩ := kp it o ho hni O1.ns
      exact ⟨⟨o, e1, r⟩, e2⟩
    have next : ∀ (o2 : Option (V × V)) (b2 : Bst) (h4 : Heap), relB o2 b2 → minL X.K tb j σ (xs.drop (i + 1)) o2 H3 Q → (∃ c, h4.get? (it + 1) = some (bstO b2 c)) → Heap.SameBut (it + 1) s3.heap h4 → St (i + 1) b2 { s3 with heap := h4 } := fun o2 b2 h4 r2 m2 hS4 hs4 => by
      have I4 : Inv X pins σ H3 { s3 with heap := h4 } := O2.turn (t' := s3.toks) I3 hS3.2 fun b o hb e => hs4.extBut b o hb e
      refine ⟨H3, o2, I4, r2, hi, m2, ?_, hit3.2, hS4, hS3.2, hsq3, hs4.extBut f _ fne.1 hf3.1, hf3.2, hc3⟩
      obtain ⟨o, ho, r⟩ := hit3.1
      exact ⟨o, hs4.extBut it o (Nat.ne_of_lt (Nat.lt_succ_self it)) ho, r⟩
    refine ⟨cS, hS3.1, ?_⟩
    cases o with
    | none =>
      cases b with
      | none =>
        intro h4 hS4 hs4
        exact next (some (_, v')) _ h4 ⟨ru, rv3⟩ q3 hS4 hs4
      | some p => exact rb.elim
    | some p =>
      cases b with
      | none => exact rb.elim
      | some p2 =>
        obtain ⟨bx, bv⟩ := p
        obtain ⟨ox, ov⟩ := p2
        obtain ⟨d, e, hd, hee, hal, hnn, hdp, m3⟩ := q3
        obtain ⟨as, rd⟩ := Dp.reads I3 d v' val hd rv3
        obtain ⟨bs, re⟩ := Dp.reads I3 e bv ov hee rb.2
        refine ⟨PySem.W.dataLt d e, fun E' Q' hq' => PySem.W.rcLt_alike d e X.A.in1 s3 val ov as bs rd re hal hnn (by have := (hr.in1).un; omega) X.prog X.w E' Q' hq', fun ha h4 hS4 hs4 => ?_, fun ha => ?_⟩
        · rw [if_pos ha] at m3
          exact next (some (_, v')) _ h4 ⟨ru, rv3⟩ m3 hS4 hs4
        · rw [if_neg (by rw [ha]; exact Bool.false_ne_true)] at m3
          exact ⟨H3, some (bx, bv), I3, rb, hi, m3, hit3.1, hit3.2, ⟨cS, hS3.1⟩, hS3.2, hsq3, hf3.1, hf3.2, hc3⟩
  · -- the end
    obtain ⟨H', o, I', rb, _, hm, hit, hni, ⟨cS, hS⟩, hnS', hsq, hf', hnf, hc'⟩ := hst
    refine ⟨⟨cS, hS⟩, ?_⟩
    obtain ⟨its', rv', pl', _⟩ := I'.tuple hsq
    have hT' : s'.heap.IsTuple a its'.toArray := by
      obtain ⟨o, e, cl, n, d⟩ := pl'
      exact ⟨o, e, cl, n, d⟩
    rw [List.drop_length] at hm
    refine wpAny_pyNext_tuple_end (A := X.A.in1) (hr.hd) hit hT' (by rw [List.getElem?_toArray, List.getElem?_eq_none_iff, ← rv'.length]; exact Nat.le_refl _) fun h1 hs1 => ?_
    have I1' : Inv X pins σ H' { s' with heap := h1 } := O1.turn (t' := s'.toks) I' hni fun b o hb e => hs1 b o hb e
    refine ⟨rfl, ⟨cS, hs1 _ _ (Nat.ne_of_gt (Nat.lt_succ_self it)) hS⟩, ?_⟩
    cases o with
    | none =>
      cases b with
      | none => exact ⟨.non, H', I1', rfl, hm⟩
      | some p => exact rb.elim
    | some p =>
      cases b with
      | none => exact rb.elim
      | some p2 =>
        obtain ⟨bx, bv⟩ := p
        obtain ⟨ox, ov⟩ := p2
        intro h4 hs4
        have I4 : Inv X pins σ H' { s' with heap := h4 } := O2.turn (t' := s'.toks) (s := { s' with heap := h1 }) I1' hnS' fun b o hb e => hs4.extBut b o hb e
        exact ⟨bx, H', I4, rb.1, hm⟩
  · have k1 : ∀ b o, s2.heap.get? b = some o → ((s2.heap.push { cls := .type "tuple_iterator", data := .fields #[.ref a, .int 0 0] }).push { cls := .type "list", data := .seq #[] 0 }).get? b = some o := fun b o e => Heap.get?_push_of_some _ (Heap.get?_push_of_some _ e)
    have I5 : Inv X pins σ H2 { s2 with heap := (s2.heap.push { cls := .type "tuple_iterator", data := .fields #[.ref a, .int 0 0] }).push { cls := .type "list", data := .seq #[] 0 } } := I2.kept (t' := s2.toks) k1
    refine ⟨H2, none, I5, trivial, Nat.zero_le _, q2, ⟨_, Heap.get?_push_of_some _ (by rw [← eit]; exact Heap.get?_push_size _ rfl), rfl, rfl⟩, hnit, ⟨0, by rw [← hsz1]; exact Heap.get?_push_size _ rfl⟩, hnS, hs2, k1 f _ hf, hfn, hc⟩
end
end Tw
/-! min by a key: the big step; min of a list of data -/
namespace Tw
open PySem PySem.Spec PyProof.Rows L2
section
variable {K : PySem.W.Frag} {S : Side} {ρ : Rho} {tb : TE} {j : Nat}
def minW (K : PySem.W.Frag) (S : Side) (tb : TE) (j : Nat) (ρ : Rho) : List PyData → Option (PyData × PyData) → (DV → Prop) → Prop
  | [], none, P => P (.d .none)
  | [], some (b, _), P => P (.d b)
  | x :: xs, o, P => Ev K S tb (ρ.set j (some (.d x))) fun y => ∃ kd, y = .d kd ∧ match o with
    | none => minW K S tb j ρ xs (some (x, kd)) P
    | some (b, bk) => PySem.W.alike kd bk = true ∧ kd ≠ .none ∧ min kd.depth bk.depth ≤ 60 ∧ minW K S tb j ρ xs (if PySem.W.dataLt kd bk = true then some (x, kd) else some (b, bk)) P
def relD (K : PySem.W.Frag) (M : Hp) : Option (V × V) → Option (PyData × PyData) → Prop
  | none, none => True
  | some (x, v), some (d, e) => Dp K M x d ∧ Dp K M v e
  | _, _ => False
theorem relD.mono {M M' : Hp} (e : Evl.Ex M M') : ∀ {o : Option (V × V)} {od : Option (PyData × PyData)}, relD K M o od → relD K M' o od
  | none, none, _ => trivial
  | some (_, _), some (_, _), h => ⟨dp_mono e _ _ h.1, dp_mono e _ _ h.2⟩
  | none, some _, h => h.elim
  | some (_, _), none, h => h.elim
theorem minL_of {P : DV → Prop} : ∀ (ds : List PyData) (xs : List V) (o : Option (V × V)) (od : Option (PyData × PyData)) (σ : L2.St) (H : Hp), S.inv H → EnvOk K (S.view H) σ ρ → DpAll K (S.view H) xs ds → relD K (S.view H) o od → minW K S tb j ρ ds od P →
    ∀ Q : VK, (∀ v x H2, S.To H H2 → Is K (S.view H2) v x → P x → Q v H2) → minL K tb j σ xs o H Q
  | [], _, o, od, σ, H, hi, he, hd, ho, hm, Q, q => by
    cases hd
    match o, od, ho with
    | none, none, _ => exact q .non (.d .none) H (.refl hi) (show Dp _ _ _ _ from .non) hm
    | some (b, _), some (d, _), ho => exact q b (.d d) H (.refl hi) ho.1 hm
  | d :: ds, _, o, od, σ, H, hi, he, hd, ho, hm, Q, q => by
    cases hd with
    | @cons x xs _ _ h1 h2 =>
      refine hm (σ.set j (some x)) H hi (he.set j h1) _ fun v y H1 t1 i1 p1 => ?_
      obtain ⟨kd, rfl, p1⟩ := p1
      have he1 := he.mono t1.ex
      have h21 := dpAll_mono t1.ex _ _ h2
      have q' : ∀ v x H2, S.To H1 H2 → Is K (S.view H2) v x → P x → Q v H2 := fun v x H2 t2 i2 p2 => q v x H2 (t1.trans t2) i2 p2
      match o, od, ho with
      | none, none, _ => exact minL_of ds xs (some (x, v)) (some (d, kd)) σ H1 t1.inv he1 h21 ⟨dp_mono t1.ex _ _ h1, i1⟩ p1 Q q'
      | some (b, bv), some (bd, bk), ho =>
        obtain ⟨hal, hn, hdp, p1⟩ := p1
        have ho1 := ho.mono t1.ex
        refine ⟨kd, bk, dp_up i1, dp_up (S := S) (show Is K (S.view H1) bv (.d bk) from dp_mono t1.ex _ _ ho.2), hal, hn, hdp, ?_⟩
        by_cases c : PySem.W.dataLt kd bk = true
        · rw [if_pos c] at p1 ⊢
          exact minL_of ds xs (some (x, v)) (some (d, kd)) σ H1 t1.inv he1 h21 ⟨dp_mono t1.ex _ _ h1, i1⟩ p1 Q q'
        · rw [if_neg c] at p1 ⊢
          exact minL_of ds xs (some (b, bv)) (some (bd, bk)) σ H1 t1.inv he1 h21 ⟨dp_mono t1.ex _ _ ho.1, dp_mono t1.ex _ _ ho.2⟩ p1 Q q'
theorem ev_minKey {Pa : Addr} {q : Str} {te : TE} {P : DV → Prop} (hT : LTabS S Pa q) (h : Ev K S te ρ fun x => ∃ ds, x = .d (.tuple ds) ∧ minW K S tb j ρ ds none P) : Ev K S (tMinKey K Pa q te tb j) ρ P := fun σ H hi he Q r =>
  h σ H hi he _ fun v x H1 t1 i1 p1 => by
    obtain ⟨ds, rfl, p⟩ := p1
    obtain ⟨a, vs, rfl, ha, da⟩ := dp_tup i1
    refine ⟨a, vs, rfl, ex_sqt (view_ex S H1) ha, hT.good H1 t1.inv, fun H2 m => ?_⟩
    have t2 := m.to hT t1.inv
    exact minL_of ds vs none none σ H2 t2.inv (he.mono (t1.trans t2).ex) (dpAll_mono t2.ex _ _ da) trivial p Q fun v x H3 t3 i3 p3 => r v x H3 ((t1.trans t2).trans t3) i3 p3
end
/-! ### min of a list of data, by what Python's < says -/
section
variable {prog : Program} {w : World} {A : Around} {R : Result → Shared → Prop} {it S : Addr} {n : Nat}
theorem min0_loop (St : Nat → Bst → Shared → Prop)
    (turn : ∀ i b (s : Shared) (E : Value → Shared → Prop), i < n → St i b s → (∃ c, s.heap.get? S = some (bstO b c)) ∧ wpAny (model prog w) A.in1 (pyNext (.ref it)) (fun r s1 => ∃ v, r = some v ∧ minTurn prog w A S b (St (i + 1)) v v s1) E s)
    (done : ∀ b (s : Shared) (E : Value → Shared → Prop), St n b s → ∃ x v, b = some (x, v) ∧ (∃ c, s.heap.get? S = some (bstO b c)) ∧ wpAny (model prog w) A.in1 (pyNext (.ref it)) (fun r s1 => r = none ∧ (∃ c, s1.heap.get? S = some (bstO b c)) ∧ ∀ h', Heap.SameBut S s1.heap h' → R (.ok (.ret x)) { s1 with heap := h' }) E s) :
    ∀ (k i : Nat) (b : Bst) (s : Shared), n - i = k → i ≤ n → St i b s → codeAny (model prog w) A (.builtin "min.loop" ⟨[.ref it, .none, .ref S], []⟩) R s := by
  have hname : (toString "min" ++ toString ".loop" : String) = "min.loop" := by decide
  intro k
  induction k with
  | zero =>
    intro i b s hk hi hst
    have hin : i = n := by omega
    subst hin
    obtain ⟨x, v, rfl, ⟨c, hS⟩, _⟩ := done b s (fun _ _ => False) hst
    refine codeAny_builtin F.entry_min_loop ?_
    rw [Around.under_plainId F.plain_min_loop _]
    show wpAny _ A.in1 (seqItems? (.ref S) >>= _) _ _ s
    refine wpAny_bind (wpAny_seqItems hS rfl ?_)
    show wpAny _ A.in1 (tryCatch (pyNext (.ref it)) _ >>= _) _ _ s
    obtain ⟨x', v', e, _, hd⟩ := done (some (x, v)) s _ hst
    cases e
    refine wpAny_bind (wpAny_tryCatch (wpAny_mono hd (fun r s1 h1 => ?_) fun _ _ e => e))
    obtain ⟨rfl, ⟨c1, hS1⟩, hf⟩ := h1
    show wpAny _ A.in1 (updateSeq S (fun _ => #[]) >>= _) _ _ _
    refine wpAny_bind ?_
    refine wpAny_updateSeq hS1 rfl (wpAny_bind (wpAny_letGo (wpAny_pure ?_))) (by show 2 ≤ sizeLine; decide)
    exact hf _ (Heap.SameBut.update ..)
  | succ k ih =>
    intro i b s hk hi hst
    have hlt : i < n := by omega
    obtain ⟨⟨c, hS⟩, _⟩ := turn i b s (fun _ _ => False) hlt hst
    refine codeAny_builtin F.entry_min_loop ?_
    rw [Around.under_plainId F.plain_min_loop _]
    show wpAny _ A.in1 (seqItems? (.ref S) >>= _) _ _ s
    refine wpAny_bind (wpAny_seqItems hS rfl ?_)
    show wpAny _ A.in1 (tryCatch (pyNext (.ref it)) _ >>= _) _ _ s
    refine wpAny_bind (wpAny_tryCatch (wpAny_mono (turn i b s _ hlt hst).2 (fun r s1 h1 => ?_) fun _ _ e => e))
    obtain ⟨v, rfl, c2, hS2, h2⟩ := h1
    cases b with
    | none =>
      show wpAny _ A.in1 (updateSeq S (fun _ => #[v, v]) >>= _) _ _ _
      refine wpAny_bind ?_
      refine wpAny_updateSeq hS2 rfl ?_ (by show 0 ≤ sizeLine; decide) (by show 2 ≤ sizeLine + 1; decide)
      rw [hname]
      exact wpAny_pure ⟨plainId_quiet F.plain_min_loop _, ih (i + 1) _ _ (by omega) hlt (h2 _ ⟨_, Heap.get?_update_self _ hS2 rfl⟩ (Heap.SameBut.update ..))⟩
    | some p =>
      obtain ⟨ov, oval⟩ := p
      obtain ⟨ans, hlt2, hyes, hno⟩ := h2
      show wpAny _ A.in1 (tryCatch (holding [v, v] (richCompare .Lt v oval >>= _)) _ >>= _) _ _ _
      refine wpAny_bind (wpAny_tryCatch (wpAny_holding (wpAny_bind (hlt2 _ _ ?_))))
      refine wpAny_bind (wpAny_holding (wpAny_truthy_bool ?_))
      refine wpAny_bind (wpAny_letGo (wpAny_pure ?_))
      cases ans with
      | true =>
        simp only [if_true]
        refine wpAny_bind ?_
        refine wpAny_updateSeq hS2 rfl (wpAny_bind (wpAny_letGo ?_)) (by show 2 ≤ sizeLine; decide) (by show 2 ≤ sizeLine + 1; decide)
        rw [hname]
        exact wpAny_pure ⟨plainId_quiet F.plain_min_loop _, ih (i + 1) _ _ (by omega) hlt (hyes rfl _ ⟨_, Heap.get?_update_self _ hS2 rfl⟩ (Heap.SameBut.update ..))⟩
      | false =>
        simp only [Bool.false_eq_true, if_false]
        refine wpAny_bind (wpAny_letGo ?_)
        rw [hname]
        exact wpAny_pure ⟨plainId_quiet F.plain_min_loop _, ih (i + 1) _ _ (by omega) hlt (hno rfl)⟩
end
/-- the best of a list -/
def minD : List PyData → Option PyData → Option PyData
  | [], o => o
  | x :: xs, none => minD xs (some x)
  | x :: xs, some b => minD xs (some (if PySem.W.dataLt x b = true then x else b))
def rMinD (K : PySem.W.Frag) : List V → Hp → VK → Prop := fun vs H Q => ∃ (a : Addr) (xs : List V) (ds : List PyData) (b : PyData), vs = [V.ref a] ∧ SqL K H a xs ∧ DpAll K H xs ds ∧ (∀ d ∈ ds, ∀ e ∈ ds, PySem.W.alike d e = true ∧ d ≠ .none ∧ min d.depth e.depth ≤ 60) ∧ minD ds none = some b ∧ ∀ (i : Nat) (v : V), xs[i]? = some v → ds[i]? = some b → Q v H
section
variable {X : Cx}
theorem cr_minD (hc : X.calm = true) (hu : X.A.units + 64 < cLine) : CallR X (.builtin "min") (rMinD X.K) := by
  intro pins s σ H vs us Q I r h
  obtain ⟨a, xs, ds, bd, rfl, hs, hd, hal, hb, q⟩ := h
  rw [Vals.ref1 r]
  obtain ⟨its, rv, pl, hz⟩ := I.list hs
  have hname : (toString "min" ++ toString ".loop" : String) = "min.loop" := by decide
  have hlen := dpa_len hd
  refine call_function_tree F.kind_min F.plain_min F.entry_min (F.args_min1 _) ?_
  show wpAny _ X.A.in1 (Builtin.Builtins.bindParams "min" ["key", "default"] 0 ⟨[], []⟩ >>= _) _ _ s
  refine wpAny_bind (wpAny_of_eq (show Builtin.Builtins.bindParams "min" ["key", "default"] 0 ⟨[], []⟩ = pure [none, none] from rfl) ?_)
  refine wpAny_bind (wpAny_pure ?_)
  refine wpAny_bind (wpAny_pyIter_list (items := its.toArray) pl.isList ?_)
  refine wpAny_bind (wpAny_newList ?_ (Nat.zero_le _))
  have O1 := ours I (Nat.le_refl s.heap.objs.size)
  generalize eit : s.heap.objs.size = it at O1
  have O2 : Ours X pins (it + 1) := ours I (by rw [eit]; exact Nat.le_succ _)
  have hnit : H it = none := I.hok.fresh (by rw [eit]; exact Nat.le_refl _)
  have hnS : H (it + 1) = none := I.hok.fresh (by rw [eit]; exact Nat.le_succ _)
  have ane : a ≠ it + 1 ∧ a ≠ it := by
    obtain ⟨o, _, ho, _⟩ := id pl
    have h1 := Heap.lt_size ho
    rw [eit] at h1
    exact ⟨Nat.ne_of_lt (Nat.lt_succ_of_lt h1), Nat.ne_of_lt h1⟩
  let St : Nat → Bst → Shared → Prop := fun i b s' => ∃ o od, Inv X pins σ H s' ∧ relB o b ∧ relD X.K H o od ∧ i ≤ xs.length ∧ (∀ p q, o = some p → od = some q → p.1 = p.2 ∧ q.1 = q.2 ∧ ∃ i : Nat, xs[i]? = some p.1 ∧ ds[i]? = some q.1) ∧ minD (ds.drop i) (od.map (·.1)) = some bd ∧ s'.heap.IsListIter it a i ∧ (∃ c, s'.heap.get? (it + 1) = some (bstO b c))
  rw [hname]
  refine wpAny_pure ⟨plainId_quiet F.plain_min_loop _, ?_⟩
  have hsz1 : (s.heap.push { cls := .type "list_iterator", data := .fields #[.ref a, .int 0 0] }).objs.size = it + 1 := by rw [Heap.size_push, eit]
  show codeAny _ _ (.builtin "min.loop" ⟨[.ref it, .none, .ref (s.heap.push { cls := .type "list_iterator", data := .fields #[.ref a, .int 0 0] }).objs.size], []⟩) _ _
  rw [hsz1]
  refine min0_loop (n := xs.length) St (fun i b s' E hi hst => ?_) (fun b s' E hst => ?_) xs.length 0 none _ (Nat.sub_zero _) (Nat.zero_le _) ?_
  · obtain ⟨o, od, I', rb, rd, _, ho2, hm, hit, ⟨cS, hS⟩⟩ := hst
    refine ⟨⟨cS, hS⟩, ?_⟩
    obtain ⟨its', rv', pl', _⟩ := I'.list hs
    have hxi : xs[i]? = some xs[i] := List.getElem?_eq_getElem hi
    obtain ⟨u, hu, ru⟩ := rv'.get hxi
    obtain ⟨d, hdi, dx⟩ := dpa_get hd hxi
    refine wpAny_pyNext_list_item hit pl'.isList (x := u) (by rw [List.getElem?_toArray]; exact hu) fun h1 hit1 hs1 => ⟨u, rfl, ?_⟩
    have I1' : Inv X pins σ H { s' with heap := h1 } := O1.turn (t' := s'.toks) I' hnit fun b o hb e => hs1.extBut b o hb e
    have hS3 := hs1.extBut (it + 1) _ (Nat.ne_of_gt (Nat.lt_succ_self it)) hS
    have e0 : ds.drop i = d :: ds.drop (i + 1) := drop_cons hdi
    rw [e0] at hm
    have dmem : d ∈ ds := List.mem_of_getElem? hdi
    have next : ∀ (o2 : Option (V × V)) (od2 : Option (PyData × PyData)) (b2 : Bst) (h4 : Heap), relB o2 b2 → relD X.K H o2 od2 → (∀ p q, o2 = some p → od2 = some q → p.1 = p.2 ∧ q.1 = q.2 ∧ ∃ i : Nat, xs[i]? = some p.1 ∧ ds[i]? = some q.1) → minD (ds.drop (i + 1)) (od2.map (·.1)) = some bd → (∃ c, h4.get? (it + 1) = some (bstO b2 c)) → Heap.SameBut (it + 1) h1 h4 → St (i + 1) b2 { s' with heap := h4 } := fun o2 od2 b2 h4 r2 d2 k1 m2 hS4 hs4 => by
      have I4 : Inv X pins σ H { s' with heap := h4 } := O2.turn (t' := s'.toks) (s := { s' with heap := h1 }) I1' hnS fun b o hb e => hs4.extBut b o hb e
      refine ⟨o2, od2, I4, r2, d2, hi, k1, m2, ?_, hS4⟩
      obtain ⟨o, ho, r⟩ := hit1
      exact ⟨o, hs4.extBut it o (Nat.ne_of_lt (Nat.lt_succ_self it)) ho, r⟩
    refine ⟨cS, hS3, ?_⟩
    have kx : ∀ p q, some (xs[i], xs[i]) = some p → some (d, d) = some q → p.1 = p.2 ∧ q.1 = q.2 ∧ ∃ i : Nat, xs[i]? = some p.1 ∧ ds[i]? = some q.1 := fun p q e e' => by cases e; cases e'; exact ⟨rfl, rfl, i, hxi, hdi⟩
    match o, od, b, rb, rd with
    | none, none, none, _, _ =>
      intro h4 hS4 hs4
      exact next (some (xs[i], xs[i])) (some (d, d)) _ h4 ⟨ru, ru⟩ ⟨dx, dx⟩ kx hm hS4 hs4
    | some (bx, bv), some (e1, e2), some (ox, ov), rb, rd =>
      obtain ⟨_, ee, i', _, em⟩ := ho2 _ _ rfl rfl
      have ee : e1 = e2 := ee
      subst ee
      have em : e1 ∈ ds := List.mem_of_getElem? em
      obtain ⟨hal1, hn1, hdp1⟩ := hal d dmem e1 em
      obtain ⟨as, rdd⟩ := Dp.reads I1' d _ u dx ru
      obtain ⟨bs, ree⟩ := Dp.reads I1' e1 bv ov rd.2 rb.2
      have hm : minD (ds.drop (i + 1)) (some (if PySem.W.dataLt d e1 = true then d else e1)) = some bd := hm
      refine ⟨PySem.W.dataLt d e1, fun E' Q' hq' => PySem.W.rcLt_alike d e1 X.A.in1 { s' with heap := h1 } u ov as bs rdd ree hal1 hn1 (by show X.A.units + 1 + _ < _; omega) X.prog X.w E' Q' hq', fun ha h4 hS4 hs4 => ?_, fun ha => ?_⟩
      · rw [if_pos ha] at hm
        exact next (some (xs[i], xs[i])) (some (d, d)) _ h4 ⟨ru, ru⟩ ⟨dx, dx⟩ kx hm hS4 hs4
      · rw [if_neg (by rw [ha]; exact Bool.false_ne_true)] at hm
        exact ⟨some (bx, bv), some (e1, e1), I1', rb, rd, hi, ho2, hm, hit1, ⟨cS, hS3⟩⟩
  · obtain ⟨o, od, I', rb, rd, _, ho2, hm, hit, ⟨cS, hS⟩⟩ := hst
    rw [← hlen.symm, List.drop_length] at hm
    match o, od, b, rb, rd with
    | none, none, none, _, _ => exact absurd hm (fun z => nomatch z)
    | some (bx, bv), some (e1, e2), some (ox, ov), rb, rd =>
      obtain ⟨its', rv', pl', _⟩ := I'.list hs
      refine ⟨ox, ov, rfl, ⟨cS, hS⟩, wpAny_pyNext_list_end (A := X.A.in1) (I'.ok.hd hc) hit pl'.isList (by rw [List.getElem?_toArray, List.getElem?_eq_none_iff, ← rv'.length]; exact Nat.le_refl _) fun h1 hs1 => ?_⟩
      have I1' : Inv X pins σ H { s' with heap := h1 } := O1.turn (t' := s'.toks) I' hnit fun b o hb e => hs1 b o hb e
      refine ⟨rfl, ⟨cS, hs1 _ _ (Nat.ne_of_gt (Nat.lt_succ_self it)) hS⟩, fun h4 hs4 => ?_⟩
      have I4 : Inv X pins σ H { s' with heap := h4 } := O2.turn (t' := s'.toks) (s := { s' with heap := h1 }) I1' hnS fun b o hb e => hs4.extBut b o hb e
      have e1b : e1 = bd := Option.some.inj hm
      obtain ⟨_, _, i', hx', hd'⟩ := ho2 _ _ rfl rfl
      refine ⟨bx, H, I4, rb.1, q i' bx hx' ?_⟩
      rw [← e1b]
      exact hd'
  · have k1 : ∀ b o, s.heap.get? b = some o → ((s.heap.push { cls := .type "list_iterator", data := .fields #[.ref a, .int 0 0] }).push { cls := .type "list", data := .seq #[] 0 }).get? b = some o := fun b o e => Heap.get?_push_of_some _ (Heap.get?_push_of_some _ e)
    have I5 : Inv X pins σ H { s with heap := (s.heap.push { cls := .type "list_iterator", data := .fields #[.ref a, .int 0 0] }).push { cls := .type "list", data := .seq #[] 0 } } := I.kept (t' := s.toks) k1
    exact ⟨none, none, I5, trivial, trivial, Nat.zero_le _, (fun _ _ z => nomatch z), hb, ⟨_, Heap.get?_push_of_some _ (by rw [← eit]; exact Heap.get?_push_size _ rfl), rfl, rfl⟩, ⟨0, by rw [← hsz1]; exact Heap.get?_push_size _ rfl⟩⟩
end
section
variable {K : PySem.W.Frag} {S : Side} {ρ : Rho}
theorem ec_minD {ds : List PyData} {b : PyData} {P : DV → Prop} (hal : ∀ d ∈ ds, ∀ e ∈ ds, PySem.W.alike d e = true ∧ d ≠ .none ∧ min d.depth e.depth ≤ 60) (hb : minD ds none = some b) (p : P (.d b)) : EvC K S (rMinD K) [.d (.list ds)] P := fun vs H hi hv Q q => by
  match vs, hv with
  | [v], hv =>
    obtain ⟨a, ws, rfl, ha, da⟩ := dp_lst hv.1
    refine ⟨a, ws, ds, b, rfl, ex_sql (view_ex S H) ha, dpAll_mono (view_ex S H) _ _ da, hal, hb, fun i v hx hd => ?_⟩
    obtain ⟨d, hd', dx⟩ := dpa_get da hx
    have e : d = b := Option.some.inj (hd'.symm.trans hd)
    exact q _ (.d b) H (.refl hi) (e ▸ dx) p
end
end Tw
/-! sum(1 for x, y in zip(a, b) if ..) -/
namespace Tw
open PySem PySem.Spec PyProof.Rows L2
/-- the test: a test of the two items' data -/
def EltZT (prog : Program) (w : World) (scope : Scope) (xa xb : Str) (tst : Expr) (dom : PyData → PyData → Prop) (pb : PyData → PyData → Bool) : Prop :=
  ∀ (cenv : Env) (A' : Around) (E' : Value → Shared → Prop) (d e : PyData) (u v : Value) (as bs : List Addr) (s₂ : Shared) (m₂ : Str → Option Value), A'.handled = none → A'.units + 64 < cLine → cenv.scope = scope → s₂.heap.Ns cenv.locals m₂ →
    m₂ xa = some u → m₂ xb = some v → Reads s₂.heap u d as → Reads s₂.heap v e bs → d.plain = true → e.plain = true → dom d e →
    wpAny (model prog w) A' (isTrue tst cenv (eval tst cenv)) (fun y s₃ => y = pb d e ∧ Keeps s₂ s₃) E' s₂
def EltOne (prog : Program) (w : World) (elt : Expr) : Prop := ∀ (cenv : Env) (A' : Around) (E' : Value → Shared → Prop) (s₂ : Shared), wpAny (model prog w) A' (eval elt cenv) (fun y s₃ => (∃ t, y = .int 1 t) ∧ Keeps s₂ s₃) E' s₂
theorem elt_one {prog : Program} {w : World} {j pos} : EltOne prog w (.Constant (.int 1) j pos) := fun _ _ _ s₂ => wpAny_Constant_int ⟨⟨_, rfl⟩, GxR.keeps_refl _⟩
/-- x != y -/
theorem elt_ne {prog : Program} {w : World} {scope : Scope} {xa xb : Str} {p1 p2 p3 : Pos} (hk : scope.kind = .function) (la : scope.names.lookup xa = some .local) (lb : scope.names.lookup xb = some .local)
    (hm : behindInMarks .NotEq (.Name xb p2) = false := by rfl) (ha : (xa == ("__debug__" : Str)) = false := by decide) (hb : (xb == ("__debug__" : Str)) = false := by decide) :
    EltZT prog w scope xa xb (.Compare (.Name xa p1) [.NotEq] [.Name xb p2] p3) (fun d e => min d.depth e.depth ≤ 60) (fun d e => !PyData.eqv d e) := by
  intro cenv A' E' d e u v as bs s₂ m₂ hA hU hs hn hu hv ru rv pd pe dm
  refine wpAny_isTrue_Compare1 ?_ hm
  refine wpAny_Name (wpAny_loadName_local (by rw [hs]; exact hk) (show cenv.scope.names.lookup xa = some .local by rw [hs]; exact la) hn hu ?_) ha
  refine wpAny_Name (wpAny_loadName_local (by rw [hs]; exact hk) (show cenv.scope.names.lookup xb = some .local by rw [hs]; exact lb) hn hv ?_) hb
  exact SeqAt.ne_plain ru rv pd pe (by omega) (wpAny_truthy_bool ⟨rfl, GxR.keeps_refl _⟩)
section
variable {X : Cx} {pins : List (Addr × Obj)} {σ : L2.St} {H : Hp} {s : Shared}
/-- the generator g of n ones, ready to be walked, in the state s5; H1: what was held before -/
def ReadyF (X : Cx) (pins : List (Addr × Obj)) (σ : L2.St) (H1 : Hp) (P : Addr) (n : Nat) (g : Addr) (s5 : Shared) : Prop :=
  ∃ (fp wr : List Addr) (G : Array GenState → Array GenState → Prop) (F : Nat → Value → Prop) (St : Nat → Shared → Prop),
    WalksS X.prog X.w X.A.in1 g fp wr G n F St ∧ St 0 s5 ∧ (∀ b ∈ fp, b < s5.heap.objs.size) ∧ (∀ i y, F i y → ∃ t, y = .int 1 t) ∧ ∀ s', Moved wr G s5 s' → ∃ H2, GxR.Tabbed P H1 H2 ∧ Inv X pins σ H2 s'
theorem gen_zipF {c P : Addr} {elt tst e1 e2 : Expr} {xa xb : Str} {pa pb' pt zp zpos gpos : Pos} {kt : Nat} {scope : Scope} {dom : PyData → PyData → Prop} {pb : PyData → PyData → Bool} {ta : TA} {k : Nat} {Q' : Value → Shared → Prop} {R : List PyData → List PyData → Hp → Prop}
    (hr : Room k X.A) (hg : Gl X "zip") (hm : X.mg "zip" = none) (TB : GxR.TabB X.base X.mg c P) (hcode : X.env.code = .ref c) (S : GenS2 X.env scope xa xb) (ha : PA X [e1, e2] ta) (hel : EltZT X.prog X.w scope xa xb tst dom pb) (h1 : EltOne X.prog X.w elt)
    (hs : ∀ v, genFold (.Call (.Name "zip" zp) [e1, e2] [] zpos) X.env v = pure v) (I : Inv X pins σ H s)
    (hs1 : starEach [e1, e2] X.env = (false, eval e1 X.env) :: starEach [e2] X.env) (hpl : (backTo zpos (starEach [e2] X.env)).any (·.1) = false)
    (h : ta σ H fun vs H1 => ∃ (x y : V) (ds es : List PyData), vs = [x, y] ∧ Dp X.K H1 x (.tuple ds) ∧ Dp X.K H1 y (.tuple es) ∧ (∀ p ∈ ds.zip es, dom p.1 p.2) ∧ GxR.TabG H1 P ∧ R ds es H1)
    (hQ : ∀ ds es H1 g s5, R ds es H1 → ReadyF X pins σ H1 P (passing (zipAt pb ds es) (min ds.length es.length) 0).length g s5 → Q' (.ref g) s5) :
    wpAny (model X.prog X.w) X.A (eval (.GeneratorExp elt [⟨.Tuple [.Name xa pa, .Name xb pb'] kt pt, .Call (.Name "zip" zp) [e1, e2] [] zpos, [tst], 0⟩] scope gpos) X.env) Q' X.xe s := by
  refine wpAny_GeneratorExp_walksQTD hr.hd S.co (closure_ok S.free) S.cell S.dot S.la S.lb S.ne S.kind (by have := hr.dp; omega) ?_ hs
  refine Call_ (ld_blt I hg hm PyProof.Rows.boot_zip (PyProof.Rows.callWith_type1 (thn (ha.run zpos pins s σ H _ I h) fun us s1 ⟨vs, H1, I1, r1, q1⟩ => ?_) hs1 hpl))
  obtain ⟨x, y, ds, es, rfl, hx, hy, hdom, ⟨ps, hP, ht⟩, hR⟩ := q1
  obtain ⟨u1, u2, rfl, rx, ry⟩ := vals2 r1
  obtain ⟨asx, rdx⟩ := Dp.reads I1 _ x u1 hx rx
  obtain ⟨asy, rdy⟩ := Dp.reads I1 _ y u2 hy ry
  have plx := dp_plain _ _ hx
  have ply := dp_plain _ _ hy
  cases rdx with
  | @tuple a oa va na _ _ a1 a2 a3 a4 =>
  cases rdy with
  | @tuple b ob vb nb _ _ b1 b2 b3 b4 =>
  refine RZ.call_zipT (show s1.heap.IsTuple a va from ⟨oa, a1, a2, na, a3⟩) (show s1.heap.IsTuple b vb from ⟨ob, b1, b2, nb, b3⟩) fun h2 hz hTI hTO hi1 hi2 hsz hk2 => ?_
  refine wpAny_pyIter_zip hz ?_
  have lt1 : ∀ {b o}, s1.heap.get? b = some o → b < s1.heap.objs.size := fun e => Heap.lt_size e
  have D := PySem.W.ktu_apart s1.heap.objs.size a b (lt1 a1) (lt1 b1)
  have W := fun (A' : Around) (hA : A'.handled = none) => (walksT_zip (prog := X.prog) (w := X.w) hA _ _ _ _ _ a b D va vb).toU
  have hPs : s1.heap.get? P = some { cls := .none, data := .fields ps } := I1.hok P _ hP
  have hPlt : P < s1.heap.objs.size := Heap.lt_size hPs
  have hP2 : h2.get? P = some { cls := .none, data := .fields ps } := hk2 _ _ hPs
  have cd : PySem.W.CodeHd h2 c P := TB.code.keeps fun b u e => hk2 _ _ (I1.bk b u e)
  have lim2 : h2.NoLimit := I1.nolimit.keeps hk2
  have cont : ∀ (code : Value) (h3 : Heap) (tk : Nat) (ps' : Array Value), Heap.ExtBut P h2 h3 → h2.objs.size ≤ h3.objs.size → h3.get? P = some { cls := .none, data := .fields ps' } → (∃ more, ps' = ps ++ more) → TriplesOk ps'.toList →
      wpAny (model X.prog X.w) X.A (builtinsFor X.env.globals X.env.builtins) (fun bi s₄ =>
        ∃ Ia fp wr n₀ Pt St₀ Mid pz F, Value.ref (s1.heap.objs.size + 4) = .ref Ia ∧ (∀ A' : Around, A'.handled = none → WalksU X.prog X.w A' Ia fp wr n₀ Pt St₀ Mid) ∧ (∀ i vals, Pt i vals → ∃ va vb, vals = #[va, vb]) ∧ St₀ 0 s₄.heap ∧ (∀ b ∈ fp, b < s₄.heap.objs.size) ∧ s₄.heap.NoLimit ∧ cStatics ∉ wr ∧
          (∀ href : Heap, (∀ b o, s₄.heap.get? b = some o → href.get? b = some o) →
            QuietGenTD X.prog X.w (genEnv scope (cloFrom X.env.cells scope.names []) s₄.heap.objs.size code bi X.env) xa xb [tst] elt (List.range s₄.heap.objs.size) wr Pt pz F href (X.A.depth + 1) (X.A.units + 8)) ∧
          (∀ a h₅ tk gs, gs.bare = true → s₄.heap.objs.size < a → h₅.objs.size = a + 1 → (∀ b o, s₄.heap.get? b = some o → h₅.get? b = some o) →
            WalksS X.prog X.w X.A.in4 a (a :: s₄.heap.objs.size :: List.range s₄.heap.objs.size) (s₄.heap.objs.size :: wr) (GenOnlyQ s₄.gens.size) (passing pz n₀ 0).length
              (fun j y => ∃ i, (passing pz n₀ 0)[j]? = some i ∧ F i y) (GenAt X.prog X.w X.A.in4 a s₄.gens.size s₄.heap.objs.size (List.range s₄.heap.objs.size) wr pz n₀ F) →
            GenAt X.prog X.w X.A.in4 a s₄.gens.size s₄.heap.objs.size (List.range s₄.heap.objs.size) wr pz n₀ F 0 { s₄ with gens := s₄.gens.push gs, toks := tk, heap := h₅ } →
            Q' (.ref a) { s₄ with gens := s₄.gens.push gs, toks := tk, heap := h₅ })) X.xe { s1 with heap := h3, toks := tk } := by
    intro code h3 tk ps' hx3 hsz3 hP3 hmore ht3
    obtain ⟨bm, obm, e1, e2, e3, e4, e5, e6, e7, e8⟩ := TB.bm
    have hcP : cStatics ≠ P := fun e => by
      obtain ⟨_, hns, _⟩ := I1.nolimit
      obtain ⟨o', es, ep, ho, hd, _⟩ := hns
      rw [e, hPs] at ho
      cases ho
      cases hd
    have hcl : cStatics < s1.heap.objs.size := let ⟨_, hns, _⟩ := I1.nolimit; hns.lt
    have keep3 : ∀ b u, b ≠ P → s1.heap.get? b = some u → h3.get? b = some u := fun b u hb e => hx3 b u hb (hk2 _ _ e)
    have at3 : ∀ {q : Addr} {o : Obj}, h2.get? q = some o → s1.heap.objs.size ≤ q → h3.get? q = some o := fun {q o} e hq => hx3 q o (fun z => by rw [z] at hq; exact absurd hPlt (Nat.not_lt.mpr hq)) e
    refine wpAny_builtinsFor (m := X.mg) (by rw [I1.ok.glob]; exact ((I1.mod.glob.keeps I1.bk).keeps hk2).extBut hx3 TB.gP) e1 e2 (keep3 _ _ e4 (I1.bk _ _ e5)) e6 e7 e8 ?_
    have big : ∀ n : Nat, n ≤ 4 → s1.heap.objs.size + n < h3.objs.size := fun n hn => by
      have h9 : s1.heap.objs.size + 5 ≤ h3.objs.size := by rw [← hsz]; exact hsz3
      omega
    have la : (min va.size vb.size) = min ds.length es.length := by
      have q1 := readsAll_len a4
      have q2 := readsAll_len b4
      rw [Array.length_toList] at q1 q2
      rw [q1, q2]
    have wrN : ∀ q : Addr, q ∈ [s1.heap.objs.size + 4, s1.heap.objs.size + 3, s1.heap.objs.size, s1.heap.objs.size + 1] → s1.heap.objs.size ≤ q := fun q hq => by
      rcases List.mem_cons.mp hq with z | hq
      · rw [z]; exact Nat.le_add_right _ _
      rcases List.mem_cons.mp hq with z | hq
      · rw [z]; exact Nat.le_add_right _ _
      rcases List.mem_cons.mp hq with z | hq
      · rw [z]; exact Nat.le_refl _
      rcases List.mem_cons.mp hq with z | hq
      · rw [z]; exact Nat.le_add_right _ _
      cases hq
    refine ⟨s1.heap.objs.size + 4, _, [s1.heap.objs.size + 4, s1.heap.objs.size + 3, s1.heap.objs.size, s1.heap.objs.size + 1], min va.size vb.size, _, _, _, zipAt pb ds es, (fun i y => ∃ t, y = .int 1 t), rfl, W, ?_, ?_, ?_, lim2.extBut hx3 hcP, ?_, ?_, ?_⟩
    · rintro i vals ⟨x, y, _, _, e⟩
      exact ⟨x, y, e⟩
    · refine ⟨at3 hz (Nat.le_add_right _ _), at3 hTI (Nat.le_add_right _ _), ⟨_, _, at3 hTO (Nat.le_add_right _ _)⟩, hi1.at fun o e => at3 e (Nat.le_refl _), hi2.at fun o e => at3 e (Nat.le_add_right _ _), ?_, ?_⟩
      · refine Heap.IsTuple.at (show s1.heap.IsTuple a va from ⟨oa, a1, a2, na, a3⟩) fun o e => keep3 _ o (fun z => ?_) e
        rw [z, hPs] at a1
        cases a1
        cases a2
      · refine Heap.IsTuple.at (show s1.heap.IsTuple b vb from ⟨ob, b1, b2, nb, b3⟩) fun o e => keep3 _ o (fun z => ?_) e
        rw [z, hPs] at b1
        cases b1
        cases b2
    · intro q hq
      show q < h3.objs.size
      have la1 := lt1 a1
      have lb1 := lt1 b1
      rcases List.mem_cons.mp hq with z | hq
      · rw [z]; exact big 4 (by omega)
      rcases List.mem_cons.mp hq with z | hq
      · rw [z]; exact big 2 (by omega)
      rcases List.mem_cons.mp hq with z | hq
      · rw [z]; exact big 3 (by omega)
      rcases List.mem_cons.mp hq with z | hq
      · rw [z]; exact big 0 (by omega)
      rcases List.mem_cons.mp hq with z | hq
      · rw [z]; exact big 1 (by omega)
      rcases List.mem_cons.mp hq with z | hq
      · rw [z]; exact Nat.lt_trans la1 (big 0 (by omega))
      rcases List.mem_cons.mp hq with z | hq
      · rw [z]; exact Nat.lt_trans lb1 (big 0 (by omega))
      cases hq
    · intro z
      exact absurd (wrN _ z) (Nat.not_le.mpr hcl)
    · intro href hhref
      refine ⟨fun A' E' i va' vb' s₂ m₂ hA hD hU hPv hn hma hmb hk => ?_, fun A' E' i va' vb' s₂ m₂ hA hD hU hPv hp hn hma hmb hk => ?_⟩
      · refine PySem.wpAny_tests_one ?_
        obtain ⟨x', y', hx', hy', e'⟩ := hPv
        obtain ⟨rfl, rfl⟩ : va' = x' ∧ vb' = y' := by simpa using congrArg Array.toList e'
        obtain ⟨d, bs1, hd, rd⟩ := readsAll_get a4 (show va.toList[i]? = some va' by rw [Array.getElem?_toList]; exact hx')
        obtain ⟨e, bs2, he, re⟩ := readsAll_get b4 (show vb.toList[i]? = some vb' by rw [Array.getElem?_toList]; exact hy')
        have pd : d.plain = true := by
          have q : ∀ (l : List PyData) (i : Nat) (d : PyData), PyData.plainAll l = true → l[i]? = some d → d.plain = true := by
            intro l
            induction l with
            | nil => intro i d _ h; simp at h
            | cons z l ih =>
              intro i d hp h
              have hp' : z.plain = true ∧ PyData.plainAll l = true := by simpa [PyData.plainAll] using hp
              cases i with
              | zero => cases (Option.some.inj h); exact hp'.1
              | succ i => exact ih i d hp'.2 h
          exact q ds i d plx hd
        have pe : e.plain = true := by
          have q : ∀ (l : List PyData) (i : Nat) (d : PyData), PyData.plainAll l = true → l[i]? = some d → d.plain = true := by
            intro l
            induction l with
            | nil => intro i d _ h; simp at h
            | cons z l ih =>
              intro i d hp h
              have hp' : z.plain = true ∧ PyData.plainAll l = true := by simpa [PyData.plainAll] using hp
              cases i with
              | zero => cases (Option.some.inj h); exact hp'.1
              | succ i => exact ih i d hp'.2 h
          exact q es i e ply he
        have kp : ∀ q o, (o.cls = .type "list" ∨ o.cls = .type "tuple") → s1.heap.get? q = some o → s₂.heap.get? q = some o := fun q o hc e0 => by
          have hq := Heap.lt_size e0
          have nP : q ≠ P := fun z => by
            rw [z, hPs] at e0
            cases e0
            rcases hc with z | z <;> cases z
          have e3' := keep3 q o nP e0
          exact hk q (List.mem_range.mpr (Heap.lt_size e3')) (fun z => absurd (wrN q z) (Nat.not_le.mpr hq)) o (hhref q o e3')
        refine wpAny_mono (hel _ A' E' d e va' vb' _ _ s₂ m₂ hA (by have := hr.un; omega) rfl hn hma hmb (reads_on kp d _ _ pd rd) (reads_on kp e _ _ pe re) pd pe (hdom (d, e) ?_)) (fun y s3 r => ⟨r.1.trans (zipAt_some hd he).symm, r.2⟩) fun _ _ z => z
        exact List.mem_of_getElem? (i := i) (by rw [List.getElem?_zip_eq_some]; exact ⟨hd, he⟩)
      · exact h1 _ A' E' s₂
    · intro g h5 tk5 gs hgb hag hsz5 hk5 W5 hat
      have hfp : ∀ b ∈ g :: h3.objs.size :: List.range h3.objs.size, b < h5.objs.size := fun b hb => by
        rw [hsz5]
        rcases List.mem_cons.mp hb with z | hb
        · rw [z]; exact Nat.lt_succ_self _
        rcases List.mem_cons.mp hb with z | hb
        · rw [z]; exact Nat.lt_succ_of_lt hag
        · exact Nat.lt_succ_of_lt (Nat.lt_trans (List.mem_range.mp hb) hag)
      refine hQ ds es H1 g _ hR ⟨_, _, _, _, _, (by rw [← la]; exact W5.in4_1), hat, hfp, ?_, fun s' hmv => ?_⟩
      · rintro i y ⟨j, _, h⟩
        exact h
      · obtain ⟨more, em⟩ := hmore
        have nwr : ∀ b u, s1.heap.get? b = some u → b ∉ h3.objs.size :: [s1.heap.objs.size + 4, s1.heap.objs.size + 3, s1.heap.objs.size, s1.heap.objs.size + 1] := fun b u e hb => by
          have hl := Heap.lt_size e
          rcases List.mem_cons.mp hb with z | z
          · rw [z] at hl
            exact absurd (Nat.lt_trans hl (big 0 (by omega))) (Nat.lt_irrefl _)
          · exact absurd (wrN _ z) (Nat.not_le.mpr hl)
        have J := GxR.inv_tab (more := more) (h' := s'.heap) (g' := s'.gens) (d' := s'.drawn) (t' := s'.toks) I1 hP (fun b u hb e => hmv.heap b u (nwr b u e) (hk5 b u (keep3 b u hb e)))
          (by rw [← em]; exact hmv.heap P _ (nwr P _ hPs) (hk5 P _ hP3)) (AllBare.movedS (I1.bare.push hgb) hmv)
        rw [GxR.sh_eta s1 s' hmv.os] at J
        refine ⟨upd H1 P (.tbl (ps ++ more)), ⟨⟨ps ++ more, upd_same, by rw [← em]; exact ht3⟩, fun b hb => upd_ne hb⟩, J⟩
  refine ⟨lim2, ?_⟩
  cases hf : codeAmong gpos ps.toList with
  | none =>
    refine wpAny_genexprCodeX hcode (cd.code hP2 ht) (cd.tab hP2) hf fun c' h' tk hx hge hlt hco' _ htab' _ => ?_
    obtain ⟨o1, vs, f1, tf, fl, tg, inF, tx, tt, op, _, _, _, _, _, _, _, _, _, htr, _⟩ := hco'
    exact cont _ h' tk _ hx (Nat.le_trans hge (Nat.le_of_lt hlt)) htab'.2 ⟨_, rfl⟩ htr
  | some cv =>
    refine wpAny_genexprCode_hit hcode (cd.code hP2 ht) hf ?_
    exact cont cv h2 s1.toks ps (Heap.ExtBut.refl _ _) (Nat.le_refl _) hP2 ⟨#[], by simp⟩ ht


theorem passing_zip (pb : PyData → PyData → Bool) : ∀ ds es : List PyData, (passing (zipAt pb ds es) (min ds.length es.length) 0).length = ((ds.zip es).filter fun p => pb p.1 p.2).length := by
  have h : ∀ ds es : List PyData, ((List.range (min ds.length es.length)).filter (zipAt pb ds es)).length = ((ds.zip es).filter fun p => pb p.1 p.2).length := by
    intro ds
    induction ds with
    | nil => intro es; simp
    | cons d ds ih =>
      intro es
      cases es with
      | nil => simp
      | cons e es =>
        have q := ih es
        rw [List.length_cons, List.length_cons, Nat.succ_min_succ, List.range_succ_eq_map, List.filter_cons, List.filter_map]
        have e0 : zipAt pb (d :: ds) (e :: es) 0 = pb d e := rfl
        have e1 : (zipAt pb (d :: ds) (e :: es) ∘ Nat.succ) = zipAt pb ds es := rfl
        rw [e0, e1, List.zip_cons_cons, List.filter_cons]
        cases pb d e with
        | true => simp only [if_true, List.length_cons, List.length_map, q]
        | false => simp only [Bool.false_eq_true, if_false, List.length_map, q]
  intro ds es
  unfold passing
  rw [List.drop_zero]
  exact h ds es
theorem preSum_one : ∀ n : Nat, preSum (fun _ => 1) n = (n : Int) := fun n => by
  induction n with
  | zero => rfl
  | succ n ih => show preSum (fun _ => 1) n + 1 = _; rw [ih]; rfl
/-- sum(1 for xa, xb in zip(e1, e2) if test of xa, xb) -/
def tSumZ (K : PySem.W.Frag) (P : Addr) (dom : PyData → PyData → Prop) (pb : PyData → PyData → Bool) (ta : TA) : TE := fun σ H Q => ta σ H fun vs H1 => ∃ (x y : V) (ds es : List PyData), vs = [x, y] ∧ Dp K H1 x (.tuple ds) ∧ Dp K H1 y (.tuple es) ∧ (∀ p ∈ ds.zip es, dom p.1 p.2) ∧ GxR.TabG H1 P ∧
  ∀ H2, GxR.Tabbed P H1 H2 → Q (.int (((ds.zip es).filter fun p => pb p.1 p.2).length : Nat)) H2
theorem pe_sumZ {c P : Addr} {elt tst e1 e2 : Expr} {xa xb : Str} {pa pb' pt zp zpos gpos p pos : Pos} {kt : Nat} {scope : Scope} {dom : PyData → PyData → Prop} {pb : PyData → PyData → Bool} {ta : TA} {k : Nat}
    (hr : Room k X.A) (hga : Gl X "sum") (hma : X.mg "sum" = none) (hba : bootBuiltins "sum" = some (.builtin "sum")) (hg : Gl X "zip") (hm : X.mg "zip" = none) (TB : GxR.TabB X.base X.mg c P) (hcode : X.env.code = .ref c) (S : GenS2 X.env scope xa xb) (ha : PA X [e1, e2] ta) (hel : EltZT X.prog X.w scope xa xb tst dom pb) (h1 : EltOne X.prog X.w elt)
    (hs : ∀ v, genFold (.Call (.Name "zip" zp) [e1, e2] [] zpos) X.env v = pure v)
    (hs1 : starEach [e1, e2] X.env = (false, eval e1 X.env) :: starEach [e2] X.env := by rfl) (hpl : (backTo zpos (starEach [e2] X.env)).any (·.1) = false := by rfl)
    (he : starEach [.GeneratorExp elt [⟨.Tuple [.Name xa pa, .Name xb pb'] kt pt, .Call (.Name "zip" zp) [e1, e2] [] zpos, [tst], 0⟩] scope gpos] X.env = (false, eval (.GeneratorExp elt [⟨.Tuple [.Name xa pa, .Name xb pb'] kt pt, .Call (.Name "zip" zp) [e1, e2] [] zpos, [tst], 0⟩] scope gpos) X.env) :: starEach [] X.env := by rfl) :
    PE X (.Call (.Name "sum" p) [.GeneratorExp elt [⟨.Tuple [.Name xa pa, .Name xb pb'] kt pt, .Call (.Name "zip" zp) [e1, e2] [] zpos, [tst], 0⟩] scope gpos] [] pos) (tSumZ X.K P dom pb ta) := by
  refine ⟨fun pins s σ H Q I h => ?_⟩
  refine wpAny_Call_Name_kw (ld_blt I hga hma hba ?_)
  refine PyProof.Rows.callWith_builtin1 ?_ he (by rfl)
  rw [he]
  show wpAny _ _ (spliced ((false, eval (.GeneratorExp elt [⟨.Tuple [.Name xa pa, .Name xb pb'] kt pt, .Call (.Name "zip" zp) [e1, e2] [] zpos, [tst], 0⟩] scope gpos) X.env) :: backTo pos (starEach [] X.env))) _ _ s
  refine Calls.spliced_cons (gen_zipF (R := fun ds es H1 => ∀ H2, GxR.Tabbed P H1 H2 → Q (.int (((ds.zip es).filter fun (p : PyData × PyData) => pb p.1 p.2).length : Nat)) H2) hr hg hm TB hcode S ha hel h1 hs I hs1 hpl h fun ds es H1 g s5 hR hG => ?_)
  obtain ⟨fp, wr, G, F, St, W, hst, hfp, hF, hI⟩ := hG
  refine Calls.spliced_nil ?_
  refine call_sum_walkAnyS (W.self 0 _ _ _ hst ⟨g, fp, wr, G, _, F, St, (fun _ => 1), rfl, W, hst, hfp, hF, fun s' t' hmv => ?_⟩)
  obtain ⟨H2, hT, J⟩ := hI s' hmv
  refine ⟨.int _, H2, J, ⟨t', rfl⟩, ?_⟩
  rw [preSum_one, passing_zip]
  exact hR H2 hT
end
theorem ev_sumZ {K : PySem.W.Frag} {S : Side} {ρ : Rho} {P : Addr} {dom : PyData → PyData → Prop} {pb : PyData → PyData → Bool} {ta : TA} {Q : DV → Prop} (hT : TabS S P)
    (h : EvA K S ta ρ fun xs => ∃ ds es : List PyData, xs = [.d (.tuple ds), .d (.tuple es)] ∧ (∀ p ∈ ds.zip es, dom p.1 p.2) ∧ Q (.d (.int (((ds.zip es).filter fun p => pb p.1 p.2).length : Nat)))) : Ev K S (tSumZ K P dom pb ta) ρ Q := fun σ H hi he R r =>
  h σ H hi he _ fun vs xs H1 t1 i1 p1 => by
    obtain ⟨ds, es, rfl, hd, q⟩ := p1
    match vs, i1 with
    | [x, y], i1 =>
      refine ⟨x, y, ds, es, rfl, dp_up i1.1, dp_up i1.2.1, hd, hT.good H1 t1.inv, fun H2 t => r _ (.d (.int _)) H2 (t1.trans ⟨hT.grow H1 H2 t1.inv t, fun a o n e => ?_⟩) (show Dp _ _ _ _ from .int _) q⟩
      rw [t.2 a (fun z => n (by rw [z]; exact hT.mut_))]
      exact e
end Tw
/-! sets whose elements are keys of any kind that are told by value -/
namespace Tw
open PySem PySem.Spec PyProof.Rows L2
section
variable {P : Program} {w : World} {κ : Type} [DecidableEq κ] (knd : KeyKind P w κ)
/-- the element e of a set's table stands for the key k -/
def EltOf (k : κ) (e : Int × Value) : Prop := knd.is k e.2 = true ∧ e.1 = knd.hash k ∧ e.2.scannable = true
def AllE : List κ → List (Int × Value) → Prop
  | [], [] => True
  | k :: ks, e :: es => EltOf knd k e ∧ AllE ks es
  | _, _ => False
/-- the set at a: its keys are ks, in some order; its table rises -/
def SetG (h : Heap) (a : Addr) (ks : List κ) : Prop :=
  ∃ o es ep t l, h.get? a = some o ∧ o.ExactSet ∧ o.data = .set es ep t ∧ AllE knd l es.toList ∧ l.Perm ks ∧ ks.Nodup ∧ es.size < scanBound ∧ t.fits es.size = true ∧ Ris t.place.toList ∧ (w.params.followText "set-order" = true ∨ t.led = true)
end
section
variable {P : Program} {w : World} {κ : Type} [DecidableEq κ] {knd : KeyKind P w κ}
theorem AllE.len : ∀ {l : List κ} {es : List (Int × Value)}, AllE knd l es → l.length = es.length
  | [], [], _ => rfl
  | _ :: _, _ :: _, h => by rw [List.length_cons, List.length_cons, AllE.len h.2]
  | [], _ :: _, h => h.elim
  | _ :: _, [], h => h.elim
theorem AllE.elt : ∀ {l : List κ} {es : List (Int × Value)}, AllE knd l es → ∀ e ∈ es, ∃ k ∈ l, EltOf knd k e
  | [], [], _, e, he => nomatch he
  | k :: ks, x :: es, h, e, he => by
    rcases List.mem_cons.mp he with z | z
    · exact ⟨k, List.mem_cons_self, z ▸ h.1⟩
    · obtain ⟨k', hk, r⟩ := AllE.elt h.2 e z
      exact ⟨k', List.mem_cons_of_mem _ hk, r⟩
  | [], _ :: _, h, _, _ => h.elim
  | _ :: _, [], h, _, _ => h.elim
theorem AllE.key : ∀ {l : List κ} {es : List (Int × Value)}, AllE knd l es → ∀ k ∈ l, ∃ e ∈ es, EltOf knd k e
  | [], [], _, k, hk => nomatch hk
  | k0 :: ks, x :: es, h, k, hk => by
    rcases List.mem_cons.mp hk with z | z
    · exact ⟨x, List.mem_cons_self, z ▸ h.1⟩
    · obtain ⟨e, he, r⟩ := AllE.key h.2 k z
      exact ⟨e, List.mem_cons_of_mem _ he, r⟩
  | [], _ :: _, h, _, _ => h.elim
  | _ :: _, [], h, _, _ => h.elim
theorem AllE.perm {es es' : List (Int × Value)} (p : es'.Perm es) : ∀ {l : List κ}, AllE knd l es → ∃ l', AllE knd l' es' ∧ l'.Perm l := by
  induction p with
  | nil => intro l h; exact ⟨l, h, .refl _⟩
  | cons x _ ih =>
    intro l h
    match l, h with
    | k :: ks, h =>
      obtain ⟨l', h', q⟩ := ih h.2
      exact ⟨k :: l', ⟨h.1, h'⟩, q.cons k⟩
  | swap x y rest =>
    intro l h
    match l, h with
    | a :: b :: ks, h => exact ⟨b :: a :: ks, ⟨h.2.1, h.1, h.2.2⟩, .swap a b ks⟩
  | trans _ _ ih1 ih2 =>
    intro l h
    obtain ⟨l1, h1, q1⟩ := ih2 h
    obtain ⟨l2, h2, q2⟩ := ih1 h1
    exact ⟨l2, h2, q2.trans q1⟩
theorem AllE.elems {l : List κ} {es : List (Int × Value)} (h : AllE knd l es) : ElemsOf knd es := fun e he => by
  obtain ⟨k, _, h1, h2, h3⟩ := h.elt e he
  exact ⟨⟨k, h1, h2⟩, h3⟩
theorem SetG.at {h h' : Heap} {a : Addr} {ks : List κ} (R : SetG knd h a ks) (k : ∀ o, h.get? a = some o → h'.get? a = some o) : SetG knd h' a ks := by
  obtain ⟨o, es, ep, t, l, ho, r⟩ := R
  exact ⟨o, es, ep, t, l, k o ho, r⟩
theorem SetG.lt {h : Heap} {a : Addr} {ks : List κ} (R : SetG knd h a ks) : a < h.objs.size := by
  obtain ⟨o, es, ep, t, l, ho, r⟩ := R
  exact Heap.lt_size ho
theorem SetG.len {h : Heap} {a : Addr} {ks : List κ} (R : SetG knd h a ks) : ks.length < scanBound := by
  obtain ⟨o, es, ep, t, l, _, _, _, hl, pm, _, hb, _⟩ := R
  rw [← pm.length_eq, hl.len, Array.length_toList]
  exact hb
theorem SetG.setOf {h : Heap} {a : Addr} {ks : List κ} (R : SetG knd h a ks) : h.SetOf knd a (fun k => decide (k ∈ ks)) ks.length := by
  obtain ⟨o, es, ep, t, l, ho, hx, hd, hl, pm, nd, hb, hf, _⟩ := R
  refine ⟨o, es, ep, t, ho, hx, hd, hl.elems, fun k => ?_, hb, hf, by rw [← pm.length_eq, hl.len, Array.length_toList]⟩
  rw [decide_eq_true_iff, ← pm.mem_iff]
  constructor
  · intro hk
    obtain ⟨e, he, r⟩ := hl.key k hk
    exact ⟨e, he, r.1⟩
  · rintro ⟨e, he, r⟩
    obtain ⟨k', hk, r'⟩ := hl.elt e he
    rw [knd.inj _ _ _ r r'.1]
    exact hk
theorem setG_new {h : Heap} {a : Addr} (ho : h.get? a = some (set0 w)) : SetG knd h a [] :=
  ⟨_, #[], 0, _, [], ho, ⟨rfl, rfl, rfl⟩, rfl, trivial, .refl _, List.nodup_nil, by decide, by rfl, List.Pairwise.nil, by
    show _ ∨ (!w.params.followText "set-order") = true
    cases w.params.followText "set-order" with
    | true => exact .inl rfl
    | false => exact .inr rfl⟩
end
section
variable {P : Program} {w : World} {κ : Type} [DecidableEq κ] {knd : KeyKind P w κ} {A : Around} {E : Value → Shared → Prop} {s : Shared} {a : Addr} {ks : List κ}
/-- what is there after a key was added -/
def addK (ks : List κ) (k : κ) : List κ := if k ∈ ks then ks else k :: ks
theorem mem_addK {ks : List κ} {k j : κ} : j ∈ addK ks k ↔ j ∈ ks ∨ j = k := by
  unfold addK
  split
  · exact ⟨.inl, fun h => h.elim id fun e => by rw [e]; assumption⟩
  · rw [List.mem_cons]; exact Or.comm
theorem addK_len (ks : List κ) (k : κ) : (addK ks k).length ≤ ks.length + 1 := by
  unfold addK
  split
  · exact Nat.le_succ _
  · exact Nat.le_refl _
theorem setG_store {g : Bool → Sem Unit} (hg : ∀ (b : Bool) (s₁ : Shared) (Q' : Unit → Shared → Prop), Q' () s₁ → wpAny (model P w) A (g b) Q' E s₁) {o : Obj} {es es1 : Array (Int × Value)} {ep : Nat} {t t2 : SetTable} {l1 : List κ}
    (ho : s.heap.get? a = some o) (hex : o.ExactSet) (hd : o.data = .set es ep t) (hl : AllE knd l1 es1.toList) (pm : l1.Perm ks) (nd : ks.Nodup) (hb : es1.size < scanBound) (hf : t2.fits es1.size = true) (hr : Ris t2.place.toList)
    (hled : w.params.followText "set-order" = true ∨ t2.led = true) {wasDummy : Bool} {R : Option Bool → Shared → Prop} (hR : ∀ h', Heap.SameBut a s.heap h' → SetG knd h' a ks → R (some true) { s with heap := h' }) :
    wpAny (model P w) A (do
        storeSet a es1 t2
        if (!wasDummy && t2.tooFull) = true then do
            g (relayAll t2 es1 (SetTable.grown es1.size)).2.2
            storeSet a (relayAll t2 es1 (SetTable.grown es1.size)).1 (relayAll t2 es1 (SetTable.grown es1.size)).2.1
            pure (some true)
          else pure (some true)) R E s := by
  have ho1 := store_at (es' := es1) (t' := t2) ho hd
  have sb1 := Heap.SameBut.update s.heap a (Obj.putSet es1 t2)
  refine wpAny_bind (wpAny_storeSet_of ho hd ?_ (fits_of_scanBound hb))
  by_cases c : (!wasDummy && t2.tooFull) = true
  · rw [if_pos c]
    obtain ⟨l2, hl2, p2⟩ := hl.perm (relayAll_perm t2 es1 (SetTable.grown es1.size))
    have hb2 : (relayAll t2 es1 (SetTable.grown es1.size)).1.size < scanBound := by
      have q := (relayAll_perm t2 es1 (SetTable.grown es1.size)).length_eq
      rw [Array.length_toList, Array.length_toList] at q
      rw [q]
      exact hb
    refine wpAny_bind (hg _ _ _ (wpAny_bind (wpAny_storeSet_of ho1 rfl (wpAny_pure (hR _ (sb1.trans (Heap.SameBut.update _ a _)) ?_)) (fits_of_scanBound hb2))))
    exact ⟨_, _, _, _, l2, store_at ho1 rfl, hex, rfl, hl2, p2.trans pm, nd, hb2, relayAll_fits .., relayAll_ris .., hled.imp id fun z => by rw [relayAll_led]; exact z⟩
  · rw [if_neg c]
    exact wpAny_pure (hR _ sb1 ⟨_, _, _, _, l1, ho1, hex, rfl, hl, pm, nd, hb, hf, hr, hled⟩)
theorem setG_hashed {k : κ} {v : Value} {Q : Bool → Shared → Prop} (hk : knd.is k v = true) (hsc : v.scannable = true) (R : SetG knd s.heap a ks) (room : ks.length + 1 < scanBound)
    (hQ : ∀ b h', Heap.SameBut a s.heap h' → SetG knd h' a (addK ks k) → Q b { s with heap := h' }) : wpAny (model P w) A (setAddHashed a v (knd.hash k)) Q E s := by
  obtain ⟨o, es, ep, t, l, ho, hex, hd, hl, pm, nd, hb, hf, hr, hled⟩ := id R
  have hel : ElemsOf knd es.toList := hl.elems
  unfold setAddHashed setAddHashedIn
  refine wpAny_holding (wpAny_bind (wpAny_setState_of ho hd hf ?_))
  dsimp only
  rw [byScan_of hsc hb hel]
  simp only [↓reduceIte]
  unfold setAddByScan
  refine wpAny_bind (wpAny_bind (wpAny_rule (wpAny_bind (wpAny_setScan_of hk ho hd hf hel ?_))))
  cases hfi : List.findIdx? (fun e => knd.is k e.2) es.toList with
  | some j =>
    dsimp only
    obtain ⟨hj, pj, _⟩ := List.findIdx?_eq_some_iff_getElem.mp hfi
    have hmem : k ∈ ks := by
      obtain ⟨k', hk', r⟩ := hl.elt _ (List.getElem_mem hj)
      rw [knd.inj _ _ _ pj r.1]
      exact pm.mem_iff.mp hk'
    refine wpAny_pure (wpAny_pure (hQ _ s.heap (Heap.SameBut.refl a s.heap) ?_))
    unfold addK
    rw [if_pos hmem]
    exact R
  | none =>
    dsimp only
    have hno : k ∉ ks := fun z => by
      obtain ⟨e, he, r⟩ := hl.key k (pm.mem_iff.mpr z)
      have c := List.findIdx?_eq_none_iff.mp hfi e he
      rw [r.1] at c
      cases c
    have ea : addK ks k = k :: ks := if_neg hno
    rw [ea] at hQ
    have pn := layNew_perm t es (knd.hash k) v
    have hf1 := layNew_fits t es (knd.hash k) v
    have hr1 := layNew_ris t es (knd.hash k) v hr
    have hl1 := layNew_led t es (knd.hash k) v
    generalize layNew t es (knd.hash k) v = Z at pn hf1 hr1 hl1 ⊢
    obtain ⟨es1, t1, wd, gave⟩ := Z
    dsimp only at pn hf1 hr1 hl1 ⊢
    rw [Array.toList_push] at pn
    obtain ⟨l1, hle1, p1⟩ := AllE.perm (knd := knd) (l := k :: l) (pn.trans (List.perm_append_singleton _ _)) ⟨⟨hk, rfl, hsc⟩, hl⟩
    have hb1 : es1.size < scanBound := by
      have q := hle1.len
      have q2 : es1.toList.length = es1.size := Array.length_toList
      rw [q2, p1.length_eq, List.length_cons, pm.length_eq] at q
      rw [← q]
      exact room
    have pk := p1.trans (pm.cons k)
    have ndk : (k :: ks).Nodup := List.nodup_cons.mpr ⟨hno, nd⟩
    have hle : w.params.followText "set-order" = true ∨ t1.led = true := hled.imp id fun z => by rw [hl1]; exact z
    have ways : ∀ (b : Bool) {s₁ : Shared} {Q' : Unit → Shared → Prop}, Q' () s₁ → wpAny (model P w) A (match b with | true => rule "set.scan.the-table-gave-way" | false => pure ()) Q' E s₁ := fun b s₁ Q' q => by
      cases b <;> first | exact wpAny_pure q | exact wpAny_rule q
    refine wpAny_bind (ways _ ?_)
    split
    · refine wpAny_bind ?_
      rw [hashByValue_scannable 8 hsc]
      refine wpAny_pure (setG_store ?_ ho hex hd hle1 pk ndk hb1 ?_ ?_ ?_ fun h' sb r => ?_)
      · intro b s₁ Q' q; cases b <;> first | exact wpAny_pure q | exact wpAny_rule q
      · first | (split <;> first | exact hf1 | exact SetTable.fits_plain_off hf1) | exact hf1
      · first | (split <;> exact hr1) | exact hr1
      · first | (split <;> exact hle) | exact hle
      · dsimp only; exact wpAny_pure (hQ true h' sb r)
    · refine wpAny_bind (wpAny_pure ?_)
      simp only [↓reduceIte]
      refine setG_store ?_ ho hex hd hle1 pk ndk hb1 hf1 hr1 hle fun h' sb r => ?_
      · intro b s₁ Q' q; cases b <;> first | exact wpAny_pure q | exact wpAny_rule q
      · dsimp only; exact wpAny_pure (hQ true h' sb r)
/-- found.add(v) -/
theorem setG_add {k : κ} {v : Value} {Q : Value → Shared → Prop} (hk : knd.is k v = true) (hsc : v.scannable = true) (R : SetG knd s.heap a ks) (room : ks.length + 1 < scanBound)
    (hQ : ∀ h', Heap.SameBut a s.heap h' → SetG knd h' a (addK ks k) → Q .none { s with heap := h', toks := s.toks + 1 }) : wpAny (model P w) A (call (.builtin "set.add") [.ref a, v]) Q E s := by
  refine wpAny_call_entry F.slot_set_add (Heap.SetOf.typeIs R.setOf) F.entry_set_add ?_ (F.args_set_add_2 _ _)
  unfold Builtin.«set.add» Builtin.Frozenset.oneOther
  simp only [List.isEmpty_nil, bind_assoc]
  unfold Builtin.Frozenset.addrOf setAdd
  refine wpAny_bind (wpAny_pure ?_)
  try dsimp only
  refine wpAny_bind (wpAny_pure ?_)
  try dsimp only
  refine wpAny_bind (wpAny_holding (wpAny_bind (knd.pyHash hk ?_)))
  refine setG_hashed (s := { s with toks := s.toks + 1 }) hk hsc R room fun b h' sb r => ?_
  exact wpAny_pure ⟨_, rfl, hQ h' sb r⟩
end
end Tw
/-! set comprehensions of any number of fors; sorted of a set of texts -/
namespace Tw
open PySem PySem.Spec PyProof.Rows L2
/-! ### the object -/
def sNp (P : Program) (w : World) (a : Addr) (ks : List NKey) (h : Heap) : Prop := SetG (noneKind P w) h a ks
abbrev sN (P : Program) (w : World) (a : Addr) (ks : List NKey) : HO := .ext (sNp P w a ks)
section
variable {P : Program} {w : World} {H : Hp} {h : Heap} {a : Addr} {ks : List NKey}
theorem sN_new (x : sNp P w a ks h) : ObjOk P w H h a (sN P w a ks) := by
  refine ⟨x, ?_, fun h1 h2 y k => ?_⟩
  · obtain ⟨o, _, _, _, _, e, _⟩ := x
    exact ⟨o, e⟩
  · exact SetG.at y k
theorem sN_of (x : HOk P w H h) (e : H a = some (sN P w a ks)) : sNp P w a ks h := by
  have y : ObjOk P w H h a (sN P w a ks) := x a _ e
  exact y.1
end
def foldAdd (ls : List NKey) : List NKey := ls.foldl addK []
theorem foldAdd_app (ls : List NKey) (k : NKey) : foldAdd (ls ++ [k]) = addK (foldAdd ls) k := by
  unfold foldAdd
  rw [List.foldl_append]
  rfl
theorem foldl_addK : ∀ (ls acc : List NKey), (∀ k, k ∈ ls.foldl addK acc ↔ k ∈ acc ∨ k ∈ ls) ∧ (acc.Nodup → (ls.foldl addK acc).Nodup) ∧ (ls.foldl addK acc).length ≤ acc.length + ls.length
  | [], acc => ⟨fun k => by simp, id, by simp⟩
  | x :: ls, acc => by
    obtain ⟨h1, h2, h3⟩ := foldl_addK ls (addK acc x)
    refine ⟨fun k => ?_, fun nd => h2 ?_, ?_⟩
    · rw [List.foldl_cons, h1, mem_addK, List.mem_cons, or_assoc]
    · unfold addK
      split
      · exact nd
      · exact List.nodup_cons.mpr ⟨by assumption, nd⟩
    · rw [List.foldl_cons, List.length_cons]
      have := addK_len acc x
      omega
theorem mem_foldAdd {ls : List NKey} {k : NKey} : k ∈ foldAdd ls ↔ k ∈ ls := by
  have q := (foldl_addK ls []).1 k
  rw [show foldAdd ls = ls.foldl addK [] from rfl, q]
  simp
theorem foldAdd_nd (ls : List NKey) : (foldAdd ls).Nodup := (foldl_addK ls []).2.1 List.nodup_nil
theorem foldAdd_len (ls : List NKey) : (foldAdd ls).length ≤ ls.length := by
  have q := (foldl_addK ls []).2.2
  rw [List.length_nil, Nat.zero_add] at q
  exact q
theorem nk_scan {k : NKey} {u : Value} (r : RelV (nkV k) u) : u.scannable = true := by
  match k, r with
  | none, r => cases r; rfl
  | some (.inl i), r => obtain ⟨t, rfl⟩ := r; rfl
  | some (.inr z), r => obtain ⟨t, rfl⟩ := r; rfl
theorem setN_add {X : Cx} {pins : List (Addr × Obj)} {s : Shared} {σ : L2.St} {H : Hp} {A : Around} {E : Value → Shared → Prop} {D : Addr} {ks : List NKey} {k : NKey} {u : Value} {Q : Value → Shared → Prop} (I : Inv X pins σ H s) (e : H D = some (sN X.prog X.w D ks)) (r : RelV (nkV k) u) (room : ks.length + 1 < scanBound)
    (h : ∀ v s', Inv X pins σ (upd H D (sN X.prog X.w D (addK ks k))) s' → Q v s') : wpAny (model X.prog X.w) A (call (.builtin "set.add") [.ref D, u]) Q E s :=
  setG_add (knd := noneKind X.prog X.w) (nk_is r) (nk_scan r) (sN_of I.hok e) room fun h' sb R => h _ _ (d_write I (by rw [e]; exact True.intro) sb (let ⟨o, _, _, _, _, eo, _⟩ := id R; ⟨o, eo⟩) (sN_new R))
/-! ### the clauses' turns -/
section
variable {prog : Program} {w : World} {A : Around} {R : Result → Shared → Prop} {s : Shared} {it D : Value} {env : Env} {elt t i : Expr} {ifs : List Expr} {gs : List Comprehension} {sc : Scope} {pos : Pos} {k : Nat}
/-- the last clause's loop -/
theorem last_loopS (h0 : gs[k]? = some ⟨t, i, ifs, 0⟩) (h1 : gs[k + 1]? = none) (I : Nat → Shared → Prop)
    (turn : ∀ n s, I n s → turnW prog w A R t ifs it env (fun s4 => wpAny (model prog w) A (eval elt env) (fun x s5 => wpAny (model prog w) A (call (.builtin "set.add") [D, x]) (fun _ s6 => ∃ m, m < n ∧ I m s6) (NoteR prog w A env R) s5) (NoteR prog w A env R) s4) (fun s4 => ∃ m, m < n ∧ I m s4) s)
    (n : Nat) (h : I n s) : codeAny (model prog w) A (.compLoop (.SetComp elt gs sc pos) k it D env) R s := by
  refine codeAny_loop rfl I (fun n s hI => ?_) n h
  show wpAny _ A (Sem.onRaise (compTurn (.SetComp elt gs sc pos) k it D env) _) _ _ s
  refine wpAny_noted ?_
  unfold compTurn
  simp only [h0, h1]
  refine wpAny_bind (wpAny_standAt (wpAny_bind (wpAny_mono (turn n s hI) (fun r s1 q1 => ?_) fun _ _ z => z)))
  match r, q1 with
  | none, q1 => exact wpAny_pure q1
  | some v, q1 =>
    refine wpAny_bind (wpAny_mono q1 (fun _ s2 q2 => ?_) fun _ _ z => z)
    refine wpAny_bind (wpAny_mono q2 (fun _ s3 q3 => ?_) fun _ _ z => z)
    refine wpAny_bind (wpAny_mono q3 (fun b s4 q4 => ?_) fun _ _ z => z)
    match b, q4 with
    | false, q4 => exact wpAny_pure ⟨rfl, q4.2 rfl⟩
    | true, q4 =>
      refine wpAny_bind (wpAny_bind (wpAny_mono (q4.1 rfl) (fun x s5 q5 => ?_) fun _ _ z => z))
      exact wpAny_bind (wpAny_standAt (wpAny_bind (wpAny_mono q5 (fun _ s6 q6 => wpAny_pure (wpAny_pure ⟨rfl, q6⟩)) fun _ _ z => z)))
/-- the loop of a clause with another within -/
theorem mid_loopS {t1 i1 : Expr} {ifs1 : List Expr} (h0 : gs[k]? = some ⟨t, i, ifs, 0⟩) (h1 : gs[k + 1]? = some ⟨t1, i1, ifs1, 0⟩) (hs : ∀ x, foldedSetIterable i1 env x = pure x) (I : Nat → Shared → Prop)
    (turn : ∀ n s, I n s → turnW prog w A R t ifs it env (fun s4 => wpAny (model prog w) A (eval i1 env) (fun x s5 => wpAny (model prog w) A (pyIter x) (fun it1 s6 =>
      codeAny (model prog w) A (.compStart (.SetComp elt gs sc pos) (k + 1) it1 D env) (fun r s' => r = .ok .next ∧ ∃ m, m < n ∧ I m s') s6) (NoteR prog w A env R) s5) (NoteR prog w A env R) s4) (fun s4 => ∃ m, m < n ∧ I m s4) s)
    (n : Nat) (h : I n s) : codeAny (model prog w) A (.compLoop (.SetComp elt gs sc pos) k it D env) R s := by
  refine codeAny_loop rfl I (fun n s hI => ?_) n h
  show wpAny _ A (Sem.onRaise (compTurn (.SetComp elt gs sc pos) k it D env) _) _ _ s
  refine wpAny_noted ?_
  unfold compTurn
  simp only [h0, h1]
  refine wpAny_bind (wpAny_standAt (wpAny_bind (wpAny_mono (turn n s hI) (fun r s1 q1 => ?_) fun _ _ z => z)))
  match r, q1 with
  | none, q1 => exact wpAny_pure q1
  | some v, q1 =>
    refine wpAny_bind (wpAny_mono q1 (fun _ s2 q2 => ?_) fun _ _ z => z)
    refine wpAny_bind (wpAny_mono q2 (fun _ s3 q3 => ?_) fun _ _ z => z)
    refine wpAny_bind (wpAny_mono q3 (fun b s4 q4 => ?_) fun _ _ z => z)
    match b, q4 with
    | false, q4 => exact wpAny_pure ⟨rfl, q4.2 rfl⟩
    | true, q4 =>
      refine wpAny_bind (wpAny_mono (q4.1 rfl) (fun x s5 q5 => ?_) fun _ _ z => z)
      refine wpAny_bind (wpAny_standAt (wpAny_bind (wpAny_of_eq (hs x) ?_)))
      refine wpAny_bind (wpAny_holding (wpAny_mono q5 (fun it1 s6 q6 => ?_) fun _ _ z => z))
      refine wpAny_bind (wpAny_runOwn ?_)
      rw [Around.mark_none]
      refine codeAny_mono q6 fun r s' hr => ?_
      rw [hr.1]
      first
        | exact wpAny_pure ⟨rfl, hr.2⟩
        | exact wpAny_bind (wpAny_pure (wpAny_pure ⟨rfl, hr.2⟩))
/-- its start -/
theorem start_atS (hk : gs[k]? = some ⟨t, i, ifs, 0⟩) (h0 : codeAny (model prog w) A (.compLoop (.SetComp elt gs sc pos) k it D env) R s)
    (h : wpAny (model prog w) A (pyIter it) (fun it' s' => codeAny (model prog w) A (.compLoop (.SetComp elt gs sc pos) k it' D env) R s') (NoteR prog w A env R) s) :
    codeAny (model prog w) A (.compStart (.SetComp elt gs sc pos) k it D env) R s := by
  refine codeAny_of_tree ?_
  show wpAny _ _ (Sem.onRaise (compStart (.SetComp elt gs sc pos) k it D env) _) _ _ s
  refine wpAny_notedAt ?_
  have e : (clausesOf (.SetComp elt gs sc pos))[k]? = some ⟨t, i, ifs, 0⟩ := hk
  unfold compStart
  rw [e]
  show wpAny _ _ (ask >>= _) _ _ s
  refine wpAny_bind (wpAny_askSetting (wpAny_ite ?_))
  split
  · first
      | exact wpAny_pure ⟨rfl, h0⟩
      | exact wpAny_bind (wpAny_pure (wpAny_pure ⟨rfl, h0⟩))
  · refine wpAny_bind (wpAny_rule ?_)
    show wpAny _ _ (standAt i.pos >>= _) _ _ s
    exact wpAny_bind (wpAny_standAt (wpAny_bind (wpAny_mono h (fun it' s' q => wpAny_pure ⟨rfl, q⟩) fun _ _ z => z)))
end

def tInsS (P : Program) (w : World) (te : TE) (D : Addr) : List Clr → L2.St → Hp → (Hp → Prop) → Prop
  | [], σ, H, nx => te σ H fun y H' => ∃ ks k, H' D = some (sN P w D ks) ∧ y = nkV k ∧ ks.length + 1 < scanBound ∧ nx (upd H' D (sN P w D (addK ks k)))
  | r :: rs, σ, H, nx => r.wi σ H fun J H1 => tItN r.g r.tt r.vs (tInsS P w te D rs) J σ H1 nx
def tScN (P : Program) (w : World) (te : TE) (r : Clr) (rs : List Clr) : TE := fun σ H Q => r.wi σ H fun J H1 => ∀ D, H1 D = none → tItN r.g r.tt r.vs (tInsS P w te D rs) J σ (upd H1 D (sN P w D [])) fun H' => Q (.ref D) H'
theorem loopS_ok {B : Cx} (hc : B.calm = true) (hx : B.xe = fun _ _ => False) {elt : Expr} {te : TE} (pe : PE B elt te) {gens : List Comprehension} {scope : Scope} {pos : Pos} {D : Addr} :
    ∀ (cs : List Cl) (rs : List Clr) (k : Nat) (c : Cl) (r : Clr) (J : It) (it : Addr) (fp : List Addr) (tn : Nat → Heap → Prop) (pins : List (Addr × Obj)) (σ : L2.St) (H : Hp) (s : Shared) (nx : Hp → Prop) (Z : Shared → Prop),
      gens.drop k = (c :: cs).map Cl.co → PG B c.tg r.g → PTs B c.ifs r.tt → ClsOk B r.vs cs rs → Inv B pins (L2.wipe σ r.vs) H s → Turn B.prog B.w B.K c.tg J fp it tn → tn 0 s.heap → (∀ b ∈ fp, FpOk B pins H b) →
      tItN r.g r.tt r.vs (tInsS B.prog B.w te D rs) J σ H nx → (∀ H' s', Inv B pins (L2.wipe σ r.vs) H' s' → nx H' → Z s') →
      codeAny (model B.prog B.w) B.A (.compLoop (.SetComp elt gens scope pos) k (.ref it) (.ref D) B.env) (fun q s' => q = .ok .next ∧ Z s') s := by
  intro cs
  induction cs with
  | nil =>
    intro rs k c r J it fp tn pins σ H s nx Z hg hpg hpt hcs I T st hf h hZ
    cases rs with
    | cons _ _ => exact hcs.elim
    | nil =>
    obtain ⟨W, ⟨m0, w0⟩, turn⟩ := h
    have g0 : gens[k]? = some ⟨c.tg, c.iter, c.ifs, 0⟩ := by
      have e := congrArg (fun l => l[0]?) hg
      simpa [Cl.co] using e
    have g1 : gens[k + 1]? = none := by
      have e := congrArg (fun l => l[1]?) hg
      simpa [Cl.co] using e
    have stat : ∀ {H' : Hp}, (∀ b ∈ fp, H' b = none) → ∀ b ∈ fp, FpOk B pins H' b := fun hn b hb => ⟨hn b hb, (hf b hb).2⟩
    refine last_loopS g0 g1 (fun n s' => ∃ j H', Inv B pins (L2.wipe σ r.vs) H' s' ∧ tn j s'.heap ∧ (∀ b ∈ fp, H' b = none) ∧ W j n H') ?_ m0 ⟨0, H, I, st, fun b hb => (hf b hb).1, w0⟩
    rintro n s5 ⟨j, H5, I5, st5, n5, w5⟩
    rcases turn j n H5 w5 with ⟨stop, qq⟩ | ⟨go, Nx, hNx, step⟩
    · refine thnF (T.done B rfl rfl rfl hc j pins s5 (L2.wipe σ r.vs) H5 (fun _ _ => False) I5 (stat n5) st5 stop) fun q s6 ⟨hq, I6⟩ => ?_
      subst hq
      exact ⟨rfl, hZ H5 s6 I6 qq⟩
    · refine thnF (T.item B rfl rfl rfl hc j pins s5 (L2.wipe σ r.vs) H5 (fun _ _ => False) I5 (stat n5) st5 go) fun q s6 ⟨u, hq, h6⟩ => ?_
      subst hq
      refine thnF h6 fun _ s7 ⟨x, H7, I7, r7, y7, st7, n7⟩ => ?_
      have I7' := I7.pinned (stat n7) (T.obj _ _ st7)
      refine thnX hx (hpg.run _ s7 (L2.wipe σ r.vs) H7 x u _ I7' r7 (step x H7 y7)) fun _ s8 ⟨σ8, H8, I8, hw8, q8⟩ => ?_
      refine thnX hx (hpt.run _ s8 σ8 H8 _ I8 q8) fun b s9 ⟨H9, I9, q9⟩ => ?_
      have fin : ∀ {s' : Shared} {H' : Hp}, Inv B (pins ++ pinsAt fp s7.heap) σ8 H' s' → Nx H' → ∃ m, m < n ∧ ∃ j H', Inv B pins (L2.wipe σ r.vs) H' s' ∧ tn j s'.heap ∧ (∀ b ∈ fp, H' b = none) ∧ W j m H' := fun {s' H'} I' nx => by
        obtain ⟨m', hm, w'⟩ := hNx H' nx
        have pin' : ∀ b ∈ fp, ∀ o, s7.heap.get? b = some o → s'.heap.get? b = some o ∧ H' b = none := fun b hb o e =>
          let z := I'.pin (b, o) (List.mem_append_right _ (List.mem_append_right _ (mem_pinsAt hb e)))
          ⟨z.1, z.2.1⟩
        refine ⟨m', hm, j + 1, H', I'.unpinned.weak (by rw [← hw8, wipe_length]) (fun j v e => by rw [← hw8] at e; exact (wipe_some e).1), T.keep _ _ _ st7 fun b hb o e => (pin' b hb o e).1, fun b hb => ?_, w'⟩
        obtain ⟨o, e, _⟩ := T.obj _ _ st7 b hb
        exact (pin' b hb o e).2
      refine ⟨fun eb => ?_, fun eb => ?_⟩
      rotate_left
      · rw [eb, if_neg Bool.false_ne_true] at q9
        exact fin I9 q9
      · rw [eb, if_pos rfl] at q9
        refine thnX hx (pe.run _ s9 σ8 H9 _ I9 q9) fun z s17 ⟨yv, H17, I17, r17, ks, kk, hD17, ey, hz17, nx⟩ => ?_
        subst ey
        exact setN_add (X := B) I17 hD17 r17 hz17 fun _ s18 I18 => fin I18 nx
  | cons c1 cs ih =>
    intro rs k c r J it fp tn pins σ H s nx Z hg hpg hpt hcs I T st hf h hZ
    cases rs with
    | nil => exact hcs.elim
    | cons r1 rs =>
    obtain ⟨hcl1, hsub, hcs⟩ := hcs
    obtain ⟨W, ⟨m0, w0⟩, turn⟩ := h
    have g0 : gens[k]? = some ⟨c.tg, c.iter, c.ifs, 0⟩ := by
      have e := congrArg (fun l => l[0]?) hg
      simpa [Cl.co] using e
    have g1 : gens[k + 1]? = some ⟨c1.tg, c1.iter, c1.ifs, 0⟩ := by
      have e := congrArg (fun l => l[1]?) hg
      simpa [Cl.co] using e
    have hg1 : gens.drop (k + 1) = (c1 :: cs).map Cl.co := by
      have e := congrArg (List.drop 1) hg
      rw [List.drop_drop] at e
      exact e
    have stat : ∀ {H' : Hp}, (∀ b ∈ fp, H' b = none) → ∀ b ∈ fp, FpOk B pins H' b := fun hn b hb => ⟨hn b hb, (hf b hb).2⟩
    refine mid_loopS g0 g1 (hcl1.hs B.env) (fun n s' => ∃ j H', Inv B pins (L2.wipe σ r.vs) H' s' ∧ tn j s'.heap ∧ (∀ b ∈ fp, H' b = none) ∧ W j n H') ?_ m0 ⟨0, H, I, st, fun b hb => (hf b hb).1, w0⟩
    rintro n s5 ⟨j, H5, I5, st5, n5, w5⟩
    rcases turn j n H5 w5 with ⟨stop, qq⟩ | ⟨go, Nx, hNx, step⟩
    · refine thnF (T.done B rfl rfl rfl hc j pins s5 (L2.wipe σ r.vs) H5 (fun _ _ => False) I5 (stat n5) st5 stop) fun q s6 ⟨hq, I6⟩ => ?_
      subst hq
      exact ⟨rfl, hZ H5 s6 I6 qq⟩
    · refine thnF (T.item B rfl rfl rfl hc j pins s5 (L2.wipe σ r.vs) H5 (fun _ _ => False) I5 (stat n5) st5 go) fun q s6 ⟨u, hq, h6⟩ => ?_
      subst hq
      refine thnF h6 fun _ s7 ⟨x, H7, I7, r7, y7, st7, n7⟩ => ?_
      have I7' := I7.pinned (stat n7) (T.obj _ _ st7)
      refine thnX hx (hpg.run _ s7 (L2.wipe σ r.vs) H7 x u _ I7' r7 (step x H7 y7)) fun _ s8 ⟨σ8, H8, I8, hw8, q8⟩ => ?_
      refine thnX hx (hpt.run _ s8 σ8 H8 _ I8 q8) fun b s9 ⟨H9, I9, q9⟩ => ?_
      have fin : ∀ {σ9 : L2.St} {s' : Shared} {H' : Hp}, Inv B (pins ++ pinsAt fp s7.heap) σ9 H' s' → (L2.wipe σ r.vs).length = σ9.length → (∀ (j : Nat) v, (L2.wipe σ r.vs)[j]? = some (some v) → σ9[j]? = some (some v)) → Nx H' →
          ∃ m, m < n ∧ ∃ j H', Inv B pins (L2.wipe σ r.vs) H' s' ∧ tn j s'.heap ∧ (∀ b ∈ fp, H' b = none) ∧ W j m H' := fun {σ9 s' H'} I' hl hk nx => by
        obtain ⟨m', hm, w'⟩ := hNx H' nx
        have pin' : ∀ b ∈ fp, ∀ o, s7.heap.get? b = some o → s'.heap.get? b = some o ∧ H' b = none := fun b hb o e =>
          let z := I'.pin (b, o) (List.mem_append_right _ (List.mem_append_right _ (mem_pinsAt hb e)))
          ⟨z.1, z.2.1⟩
        refine ⟨m', hm, j + 1, H', I'.unpinned.weak hl hk, T.keep _ _ _ st7 fun b hb o e => (pin' b hb o e).1, fun b hb => ?_, w'⟩
        obtain ⟨o, e, _⟩ := T.obj _ _ st7 b hb
        exact (pin' b hb o e).2
      have hl8 : (L2.wipe σ r.vs).length = σ8.length := by rw [← hw8, wipe_length]
      have hk8 : ∀ (j : Nat) v, (L2.wipe σ r.vs)[j]? = some (some v) → σ8[j]? = some (some v) := fun j v e => by
        rw [← hw8] at e
        exact (wipe_some e).1
      have hk9 : ∀ (j : Nat) v, (L2.wipe σ r.vs)[j]? = some (some v) → (L2.wipe σ8 r1.vs)[j]? = some (some v) := fun j v e => by
        rw [← hw8] at e
        obtain ⟨e1, e2⟩ := wipe_some e
        rw [wipe_out fun z => e2 (hsub j z)]
        exact e1
      refine ⟨fun eb => ?_, fun eb => ?_⟩
      rotate_left
      · rw [eb, if_neg Bool.false_ne_true] at q9
        exact fin I9 hl8 hk8 q9
      · rw [eb, if_pos rfl] at q9
        refine thnX hx (hcl1.pi.run _ s9 σ8 H9 _ I9 q9) fun xv s10 hxv => thnX hx hxv fun itv s11 h11 => ?_
        obtain ⟨it1, fp1, tn1, J1, H11, e1, I11, T1, st11, f11, q11⟩ := h11
        subst e1
        have loop1 := ih rs (k + 1) c1 r1 J1 it1 fp1 tn1 (pins ++ pinsAt fp s7.heap) σ8 H11 s11 Nx (fun s' => ∃ m, m < n ∧ ∃ j H', Inv B pins (L2.wipe σ r.vs) H' s' ∧ tn j s'.heap ∧ (∀ b ∈ fp, H' b = none) ∧ W j m H') hg1 hcl1.pg hcl1.pt hcs
          (I11.weak (wipe_length _ _) (fun j v e => (wipe_some e).1)) T1 st11 f11 q11 fun H' s' I' nx => fin I' (hl8.trans (wipe_length σ8 r1.vs).symm) hk9 nx
        exact start_atS g1 loop1 (T1.self B.A 0 _ _ _ st11 loop1)
section
variable {X : Cx}
/-- the block's start: the source walked, the new list, the block's frame -/
theorem scN_core {pins : List (Addr × Obj)} {s : Shared} {σ : L2.St} {H : Hp} {Q : VK} {elt : Expr} {c : Cl} {cs : List Cl} {r : Clr} {rs : List Clr} {sc : Scope} {own : List (Str × Nat)} {pos pos' : Pos} {te : TE} {use : Option (Value → Sem Unit)} {Qf : Value → Shared → Prop}
    (hc : X.calm = true) (hN : X.N.Nodup) (I : Inv X pins σ H s) (hi : PI X c.tg c.iter r.wi) (ok : BlkOk X.N X.env.scope sc own) (hv : r.vs = own.map (·.2))
    (hcl : ∀ s H C cl fp, PG (X.blk s H sc (compEnvC sc cl C X.env) fp) c.tg r.g ∧ PTs (X.blk s H sc (compEnvC sc cl C X.env) fp) c.ifs r.tt ∧ ClsOk (X.blk s H sc (compEnvC sc cl C X.env) fp) r.vs cs rs ∧ PE (X.blk s H sc (compEnvC sc cl C X.env) fp) elt te)
    (hs : ∀ env x, foldedSetIterable c.iter env x = pure x) (h : tScN X.prog X.w te r rs σ H Q)
    (hR : ∀ D C s' m H', Inv X pins σ H' s' → Q (.ref D) H' → s'.heap.Ns C m → FpOk X pins H' C → compPost (model X.prog X.w) X.A X.xe use Qf (.ref D) C (.ok .next) s') :
    wpAny (model X.prog X.w) X.A (comprehension (.SetComp elt ((c :: cs).map Cl.co) sc pos) sc X.env pos' (newSet (.type "set")) false (eval c.iter X.env) use) Qf X.xe s := by
  have fr : ∀ y ∈ sc.names, y.2 = .free → ∃ a, X.env.cells.lookup y.1 = some a := fun y hy e => I.ok.has _ (ok.free y hy e)
  refine wpAny_comprehension_free (use := use) rfl (hs X.env) (closure_ok fr) ok.kind (fun y hy e => by rw [ok.uniq y hy, e]) (thn (hi.run pins s σ H _ I h) fun _ _ hx => thn hx fun _ s2 h2 => ?_)
  obtain ⟨it, fp, tn, J, H2, rfl, I2, T, st2, f2, q⟩ := h2
  refine wpAny_newSet_raw fun led hled => ?_
  subst hled
  refine newEnv_comp ?_
  obtain ⟨D, eD⟩ : ∃ D, D = s2.heap.objs.size := ⟨_, rfl⟩
  rw [← eD]
  have q := q D (I2.hok.fresh (Nat.le_of_eq eD.symm))
  obtain ⟨s3, e3⟩ : ∃ s3 : Shared, s3 = { s2 with heap := s2.heap.push (set0 X.w) } := ⟨_, rfl⟩
  have hp3 : s3.heap = s2.heap.push (set0 X.w) := by rw [e3]
  have I3 : Inv X pins σ (upd H2 D (sN X.prog X.w D [])) s3 := by
    rw [e3]
    refine I2.laid (t' := s2.toks) (fun _ _ e => Heap.get?_push_of_some _ e) (Nat.le_of_eq eD.symm) (sN_new (setG_new ?_))
    rw [eD]
    exact Heap.get?_push_size _ rfl
  have fp3 : ∀ b ∈ fp, FpOk X pins (upd H2 D (sN X.prog X.w D [])) b ∧ b < s3.heap.objs.size := fun b hb => by
    obtain ⟨_, eo, _⟩ := T.obj _ _ st2 b hb
    have lt := Heap.lt_size eo
    refine ⟨⟨(upd_ne (by rw [eD]; exact Nat.ne_of_lt lt)).trans (f2 b hb).1, (f2 b hb).2⟩, ?_⟩
    rw [hp3, Heap.size_push]
    exact Nat.lt_succ_of_lt lt
  have st3 : tn 0 s3.heap := T.keep _ _ _ st2 fun _ _ _ e => by rw [hp3]; exact Heap.get?_push_of_some _ e
  have I4 := block_start I3 ok hN fp3
  rw [← hv] at I4
  have st4 : tn 0 (pushCells (s3.heap.push { cls := .type "dict", data := .dict #[] }) sc.names) := T.keep _ _ _ st3 fun _ _ _ e => pushCells_keeps _ _ _ _ (Heap.get?_push_of_some _ e)
  obtain ⟨pg, pt, pcs, pe⟩ := hcl s3 (upd H2 D (sN X.prog X.w D [])) s3.heap.objs.size (cellsFrom (s3.heap.objs.size + 1) sc.names (cloFrom X.env.cells sc.names [])) fp
  rw [← e3]
  have low : ∀ b ∈ fp, FpOk (X.blk s3 (upd H2 D (sN X.prog X.w D [])) sc (compEnvC sc (cellsFrom (s3.heap.objs.size + 1) sc.names (cloFrom X.env.cells sc.names [])) s3.heap.objs.size X.env) fp) [] (upd H2 D (sN X.prog X.w D [])) b := fun b hb =>
    ⟨(fp3 b hb).1.1, (I4.ok.exf b hb).1, I4.ok.exfs b hb, .inl hb, fun x a e => (I4.ok.exf b hb).2 x a e, fun p hp => nomatch (show p ∈ ([] : List (Addr × Obj)) ++ [] from hp)⟩
  have run := loopS_ok (B := X.blk s3 (upd H2 D (sN X.prog X.w D [])) sc (compEnvC sc (cellsFrom (s3.heap.objs.size + 1) sc.names (cloFrom X.env.cells sc.names [])) s3.heap.objs.size X.env) fp) hc rfl pe (gens := (c :: cs).map Cl.co) (scope := sc) (pos := pos) (D := D) cs rs 0 c r J it fp tn [] σ _ _ _
    (fun s' => compPost (model X.prog X.w) X.A X.xe use Qf (.ref D) s3.heap.objs.size (.ok .next) s') rfl pg pt pcs I4 T st4 low q fun H5 s6 I6 q5 => by
      obtain ⟨m, hn, _⟩ := I6.loc
      exact hR D s3.heap.objs.size s6 m H5 (I3.call' (ch := fp) I6.os I6.base I6.hok I6.bare fun b hb => ⟨(fp3 b hb).1.2.2.2.1, (fp3 b hb).1.2.1, (fp3 b hb).1.2.2.2.2.1, (fp3 b hb).1.2.2.2.2.2⟩) q5 hn (I3.fpOk (Nat.le_refl _) I6.free)
  have run := codeAny_mono run fun q' s' hq => (show compPost (model X.prog X.w) X.A X.xe use Qf (.ref D) s3.heap.objs.size q' s' by rw [hq.1]; exact hq.2)
  exact codeAny_compStart_set (target := c.tg) (iter := c.iter) (ifs := c.ifs) (rest := cs.map Cl.co) run (T.self X.A 0 _ _ _ st4 run)
/-- as a value -/
theorem pe_scN {elt : Expr} {c : Cl} {cs : List Cl} {r : Clr} {rs : List Clr} {sc : Scope} {own : List (Str × Nat)} {pos : Pos} {te : TE} {gens : List Comprehension}
    (hc : X.calm = true) (hN : X.N.Nodup) (hi : PI X c.tg c.iter r.wi) (ok : BlkOk X.N X.env.scope sc own) (hv : r.vs = own.map (·.2)) (hgens : gens = (c :: cs).map Cl.co)
    (hcl : ∀ s H C cl fp, PG (X.blk s H sc (compEnvC sc cl C X.env) fp) c.tg r.g ∧ PTs (X.blk s H sc (compEnvC sc cl C X.env) fp) c.ifs r.tt ∧ ClsOk (X.blk s H sc (compEnvC sc cl C X.env) fp) r.vs cs rs ∧ PE (X.blk s H sc (compEnvC sc cl C X.env) fp) elt te)
    (hs : ∀ env x, foldedSetIterable c.iter env x = pure x) : PE X (.SetComp elt gens sc pos) (tScN X.prog X.w te r rs) := by
  subst hgens
  refine ⟨fun pins s σ H Q I h => ?_⟩
  rw [arm_eval_SetComp]
  refine scN_core hc hN I hi ok hv hcl hs h fun D C s' m H' I' q hn ⟨f0, f1, f2, f3, f4, f5⟩ => ⟨m, hn, fun h'' sb => ⟨.ref D, H', I'.turned (t' := s'.toks) (fun b o hb e => (sb.2 b hb).trans e) f0 f1 f3 f4 f5, rfl, q⟩⟩
end

end Tw
/-! a set comprehension's big step; sorted of it, len of it -/
namespace Tw
open PySem PySem.Spec PyProof.Rows L2
section
variable {K : PySem.W.Frag} {S : Side} {P0 : Program} {w0 : World}
def insWS (K : PySem.W.Frag) (S : Side) (te : TE) : List Clj → Rho → List PyData → (List PyData → Prop) → Prop
  | [], ρ, acc, P => Ev K S te ρ fun y => ∃ k : NKey, y = .d (keyD k) ∧ acc.length + 1 < scanBound ∧ P (acc ++ [keyD k])
  | c :: r, ρ, acc, P => EvI K S c.wi ρ fun es => itW K S c.j c.tt (insWS K S te r) (wipeR ρ c.vs) es acc P
/-- what stands between two turns: the new set at D -/
def StS (P0 : Program) (w0 : World) (S : Side) (D : Addr) (H1 H : Hp) (acc : List PyData) : Prop := S.To H1 H ∧ ∃ ls : List NKey, acc = ls.map keyD ∧ H D = some (sN P0 w0 D (foldAdd ls))
variable {D : Addr} {H1 : Hp}
theorem StS.inv {H : Hp} {acc : List PyData} (h : StS P0 w0 S D H1 H acc) : (S.hide D).inv H := by
  obtain ⟨t, ls, _, e⟩ := h
  exact ⟨t.inv, by rw [e]; exact fun z => nomatch z⟩
theorem StS.on {H H2 : Hp} {acc : List PyData} (nD : H1 D = none) (hi : S.inv H1) (h : StS P0 w0 S D H1 H acc) (t : (S.hide D).To H H2) : StS P0 w0 S D H1 H2 acc := by
  obtain ⟨t1, ls, ea, e⟩ := h
  have nm : ¬ (S.hide D).mutb D := fun z => absurd nD (S.there H1 D hi (S.sub D z))
  exact ⟨t1.trans (to_hide t), ls, ea, t.keep D _ nm e⟩
theorem StS.app {H : Hp} {acc : List PyData} {k : NKey} (nD : H1 D = none) (hi : S.inv H1) (h : StS P0 w0 S D H1 H acc) :
    ∃ ks, H D = some (sN P0 w0 D ks) ∧ ks.length ≤ acc.length ∧ StS P0 w0 S D H1 (upd H D (sN P0 w0 D (addK ks k))) (acc ++ [keyD k]) ∧ Evl.Ex ((S.hide D).view H) ((S.hide D).view (upd H D (sN P0 w0 D (addK ks k)))) := by
  obtain ⟨t, ls, ea, hD⟩ := h
  have ex4 : Evl.Ex ((S.hide D).view H) ((S.hide D).view (upd H D (sN P0 w0 D (addK (foldAdd ls) k)))) := fun a o e => by
    obtain ⟨n, e⟩ := view_some.mp e
    exact view_some.mpr ⟨n, by rw [upd_ne (fun z => n (.inr z))]; exact e⟩
  refine ⟨_, hD, by rw [ea, List.length_map]; exact foldAdd_len ls, ⟨⟨S.put H D _ t.inv (nhid hi nD) (nofrz_of hD fun _ _ z => nomatch z), fun a o na e => by rw [upd_ne (ne_of_none e nD)]; exact t.keep a o na e⟩, ls ++ [k], by rw [ea, List.map_append]; rfl, ?_⟩, ex4⟩
  rw [foldAdd_app]
  exact upd_same
theorem itS_ok (nD : H1 D = none) (hi : S.inv H1) {j : Nat} {tt : TT} {vs : List Nat} (hj : j ∈ vs) {inn : L2.St → Hp → (Hp → Prop) → Prop} {innW : Rho → List PyData → (List PyData → Prop) → Prop}
    (hin : ∀ ρ σ H acc (P : List PyData → Prop) nx, StS P0 w0 S D H1 H acc → EnvOk K ((S.hide D).view H) σ ρ → innW ρ acc P → (∀ acc' H', StS P0 w0 S D H1 H' acc' → Evl.Ex ((S.hide D).view H) ((S.hide D).view H') → P acc' → nx H') → inn σ H nx)
    {J : It} {ds : List PyData} {M : Hp} (W : Walk K J ds M) {σ : L2.St} {ρ : Rho} {H : Hp} {acc : List PyData} {P : List PyData → Prop} {nx : Hp → Prop} (st : StS P0 w0 S D H1 H acc) (he : EnvOk K ((S.hide D).view H) σ ρ) (hM : Evl.Ex M ((S.hide D).view H))
    (h : itW K (S.hide D) j tt innW (wipeR ρ vs) ds acc P) (hn : ∀ acc' H', StS P0 w0 S D H1 H' acc' → Evl.Ex ((S.hide D).view H) ((S.hide D).view H') → P acc' → nx H') : tItN (gName j) tt vs inn J σ H nx := by
  refine ⟨fun i m H' => m = ds.length - i ∧ i ≤ ds.length ∧ ∃ acc, StS P0 w0 S D H1 H' acc ∧ Evl.Ex ((S.hide D).view H) ((S.hide D).view H') ∧ itW K (S.hide D) j tt innW (wipeR ρ vs) (ds.drop i) acc P,
    ⟨_, rfl, Nat.zero_le _, acc, st, Evl.Ex.refl _, h⟩, ?_⟩
  rintro i m H' ⟨rfl, hl, acc5, st5, ex5, p5⟩
  have hM5 : Evl.Ex M ((S.hide D).view H') := fun a o e => ex5 a o (hM a o e)
  by_cases hlt : i < ds.length
  · refine .inr ⟨W.go _ H' i st5.inv hM5 hlt, fun H2 => i + 1 ≤ ds.length ∧ ∃ acc, StS P0 w0 S D H1 H2 acc ∧ Evl.Ex ((S.hide D).view H) ((S.hide D).view H2) ∧ itW K (S.hide D) j tt innW (wipeR ρ vs) (ds.drop (i + 1)) acc P,
      fun H2 n => ⟨ds.length - (i + 1), by omega, rfl, n⟩, fun x H2 y => ?_⟩
    obtain ⟨t2, d, hd, hx⟩ := W.yld _ H' i x H2 st5.inv hM5 hlt y
    rw [drop_cons hd] at p5
    have env2 : EnvOk K ((S.hide D).view H2) ((L2.wipe σ vs).set j (some x)) ((wipeR ρ vs).set j (some (.d d))) := (((he.mono ex5).mono t2.ex).wipe vs).set j hx
    refine ⟨wipe_put hj, p5 _ H2 t2.inv env2 _ fun b H3 t3 p3 => ?_⟩
    have ex3 : Evl.Ex ((S.hide D).view H) ((S.hide D).view H3) := fun a o e => (t2.trans t3).ex a o (ex5 a o e)
    have st3 := st5.on nD hi (t2.trans t3)
    cases b with
    | false =>
      rw [if_neg Bool.false_ne_true]
      exact ⟨hlt, acc5, st3, ex3, p3.2 rfl⟩
    | true =>
      rw [if_pos rfl]
      refine hin _ _ H3 acc5 _ _ st3 (env2.mono t3.ex) (p3.1 rfl) fun acc6 H6 st6 ex6 p6 => ⟨hlt, acc6, st6, fun a o e => ex6 a o (ex3 a o e), p6⟩
  · have e : i = ds.length := by omega
    subst e
    rw [List.drop_length] at p5
    exact .inl ⟨W.stop _ H' _ st5.inv hM5 (Nat.le_refl _), hn acc5 H' st5 ex5 p5⟩
theorem insS_ok (nD : H1 D = none) (hi : S.inv H1) {te : TE} : ∀ (rs : List Clj), (∀ c ∈ rs, c.j ∈ c.vs) → ∀ ρ σ H acc (P : List PyData → Prop) nx, StS P0 w0 S D H1 H acc → EnvOk K ((S.hide D).view H) σ ρ → insWS K (S.hide D) te rs ρ acc P →
    (∀ acc' H', StS P0 w0 S D H1 H' acc' → Evl.Ex ((S.hide D).view H) ((S.hide D).view H') → P acc' → nx H') → tInsS P0 w0 te D (rs.map Clj.r) σ H nx
  | [], _, ρ, σ, H, acc, P, nx, st, he, h, hn => h σ H st.inv he _ fun w x H2 t2 i2 p2 => by
    obtain ⟨k, rfl, hz, p2⟩ := p2
    obtain ⟨ks, e1, e2, e3, e4⟩ := (st.on nD hi t2).app (k := k) nD hi
    exact ⟨ks, k, e1, dp_key i2, by omega, hn _ _ e3 (fun a o e => e4 a o (t2.ex a o e)) p2⟩
  | c :: rs, hj, ρ, σ, H, acc, P, nx, st, he, h, hn => h σ H st.inv he _ fun J ds H2 t2 W p2 =>
    itS_ok nD hi (hj c List.mem_cons_self) (fun ρ σ H acc P nx => insS_ok nD hi rs (fun c' hc => hj c' (List.mem_cons_of_mem _ hc)) ρ σ H acc P nx) W (st.on nD hi t2) (he.mono t2.ex) (Evl.Ex.refl _) p2 fun acc' H' st' ex' p' => hn acc' H' st' (fun a o e => ex' a o (t2.ex a o e)) p'
/-- the set, made: what is known where its use begins -/
theorem scN_step {ρ : Rho} {te : TE} {c : Clj} {rs : List Clj} {P : List NKey → Prop} (hj : c.j ∈ c.vs) (hjs : ∀ c ∈ rs, c.j ∈ c.vs)
    (h : EvI K S c.wi ρ fun ds => ∀ T, Side.Le S T → itW K T c.j c.tt (insWS K T te rs) (wipeR ρ c.vs) ds [] fun out => ∀ ls : List NKey, out = ls.map keyD → P ls) (σ : L2.St) (H : Hp) (hi : S.inv H) (he : EnvOk K (S.view H) σ ρ) (Q : VK)
    (q : ∀ D ls H2, S.To H H2 → H2 D = some (sN P0 w0 D (foldAdd ls)) → P ls → Q (.ref D) H2) : tScN P0 w0 te c.r (Clj.rs rs) σ H Q :=
  h σ H hi he _ fun J ds H1 t1 W p1 => by
    intro D nD
    have p1 := p1 (S.hide D) (.hide D (.refl S))
    have t0 := Side.To.new (S := S) (o := sN P0 w0 D []) t1.inv nD
    have st0 : StS P0 w0 S D H1 (upd H1 D (sN P0 w0 D [])) [] := ⟨t0, [], rfl, upd_same⟩
    have ex0 : Evl.Ex (S.view H1) ((S.hide D).view (upd H1 D (sN P0 w0 D []))) := ex_hide nD t0.keep
    refine itS_ok nD t1.inv hj (fun ρ σ H acc P nx => insS_ok nD t1.inv rs hjs ρ σ H acc P nx) W st0 ((he.mono t1.ex).mono ex0) ex0 p1 fun acc H' st' ex' p' => ?_
    obtain ⟨t, ls, ea, hD⟩ := st'
    exact q D ls H' (t1.trans t) hD (p' ls ea)
end
/-! ### sorted of a set of texts, len of a set -/
def txtK (z : Str) : NKey := some (.inr z)
def unT (k : NKey) : Str := match k with
  | some (.inr z) => z
  | _ => ""
theorem unT_map (xs : List Str) : xs.map (unT ∘ txtK) = xs := (List.map_congr_left fun _ _ => rfl).trans (List.map_id xs)
theorem nk_txt {z : Str} {u : Value} {P : Program} {w : World} (h : (noneKind P w).is (txtK z) u = true) : ∃ t, u = .str z t := by
  have h : keyIs (.inr z) u = true := h
  rcases keyIs_shape h with ⟨i, t, e, _⟩ | ⟨x, t, e, e2⟩
  · cases e
  · cases e
    exact ⟨t, e2⟩
section
variable {P : Program} {w : World} {A : Around} {E : Value → Shared → Prop} {s : Shared} {a : Addr}
theorem allE_strs : ∀ {l : List NKey} {es : List (Int × Value)}, AllE (noneKind P w) l es → (∀ k ∈ l, ∃ z, k = txtK z) → ∀ v ∈ es.map (·.2), ∃ x t, v = .str x t
  | [], [], _, _, v, hv => nomatch hv
  | k :: l, e :: es, h, hk, v, hv => by
    rcases List.mem_cons.mp hv with z | z
    · obtain ⟨x, rfl⟩ := hk k List.mem_cons_self
      obtain ⟨t, et⟩ := nk_txt h.1.1
      exact ⟨x, t, z.trans et⟩
    · exact allE_strs h.2 (fun k hk' => hk k (List.mem_cons_of_mem _ hk')) v z
  | [], _ :: _, h, _, _, _ => h.elim
  | _ :: _, [], h, _, _, _ => h.elim
theorem allE_txt : ∀ {ss : List Str} {l : List NKey} {es : List (Int × Value)}, AllE (noneKind P w) l es → l = ss.map txtK → (es.map (·.2)).map strOf = ss
  | [], [], [], _, _ => rfl
  | z :: ss, k :: l, e :: es, h, q => by
    injection q with q1 q2
    subst q1
    obtain ⟨t, et⟩ := nk_txt h.1.1
    rw [List.map_cons, List.map_cons, allE_txt h.2 q2, et]
    rfl
  | [], [], _ :: _, h, _ => h.elim
  | _ :: _, _ :: _, [], h, _ => h.elim
  | [], _ :: _, _, _, q => nomatch q
  | _ :: _, [], _, _, q => nomatch q
theorem sorted_setG {ss : List Str} {Q : Value → Shared → Prop} (R : SetG (noneKind P w) s.heap a (ss.map txtK)) (hh : A.handled = none)
    (hQ : ∀ s' p (out : Array Value) (c : Nat) (ys : List Str), (∀ b o, s.heap.get? b = some o → s'.heap.get? b = some o) → s'.gens = s.gens → s'.os = s.os → s.heap.objs.size ≤ p → s'.heap.get? p = some (seqObj "list" out c) → StrsAre out.toList ys → ys.Perm ss → sortedS ys = true → Q (.ref p) s') :
    wpAny (model P w) A (call (.builtin "sorted") [.ref a]) Q E s := by
  obtain ⟨o, es, ep, t, l, ho, hex, hd, hl, pm, nd, hb, hf, hr, hled⟩ := R
  refine Calls.call_function_entry PyProof.Rows.kind_sorted PyProof.Rows.plain_sorted PyProof.Rows.entry_sorted (PyProof.Rows.args_sorted1 _) ?_
  unfold Builtin.«sorted»
  refine wpAny_bind (m := checkCount "sorted" 1 1 _) (wpAny_pure ?_)
  refine wpAny_bind (collect_set (A := A.in1) hh ⟨o, ho, hex.1, hd⟩ hf hb hr hled fun s1 vs k1 hz g1 o1 pv => ?_)
  have hkt : ∀ k ∈ l, ∃ z, k = txtK z := fun k hk => by
    obtain ⟨z, _, e⟩ := List.mem_map.mp (pm.mem_iff.mp hk)
    exact ⟨z, e.symm⟩
  have hvs : ∀ v ∈ vs, ∃ x t, v = .str x t := fun v hv => allE_strs hl hkt v (pv.mem_iff.mp hv)
  have hS : StrsAre vs (vs.map strOf) := strsAre_map vs hvs
  obtain ⟨ls, els⟩ : ∃ ls : List Str, l = ls.map txtK := by
    refine ⟨l.map unT, ?_⟩
    rw [List.map_map]
    refine (List.map_id l).symm.trans (List.map_congr_left fun k hk => ?_)
    obtain ⟨z, rfl⟩ := hkt k hk
    rfl
  have p2 : (vs.map strOf).Perm ss := by
    have q := pv.map strOf
    rw [allE_txt hl els] at q
    have q3 : ls.Perm ss := by
      have q4 := pm
      rw [els] at q4
      have q5 := q4.map unT
      rwa [List.map_map, List.map_map, unT_map, unT_map] at q5
    exact q.trans q3
  have hvl : vs.length = es.size := by rw [pv.length_eq, List.length_map, Array.length_toList]
  have hsz : vs.length ≤ sizeLine := by
    rw [hvl]
    exact Nat.le_trans (Nat.le_of_lt hb) (by decide)
  refine wpAny_bind (wpAny_newList ?_ hsz)
  have hoL : (s1.heap.push (seqObj "list" vs.toArray 0)).get? s1.heap.objs.size = some (seqObj "list" vs.toArray 0) := Heap.get?_push_size _ rfl
  refine wpAny_bind (wpAny_holding (wpAny_call_entry PyProof.Rows.slot_list_sort ⟨_, hoL, rfl⟩ PyProof.Rows.entry_list_sort (list_sort_treeKAny (s := { s1 with heap := s1.heap.push (seqObj "list" vs.toArray 0) }) strKind_oneLt hoL hS.keysOf (fun v₁ v₂ rest e => keyKind_strs (by rw [← e]; exact hS)) hsz fun st' a1 a2 => ⟨_, rfl, ?_⟩) (PyProof.Rows.args_list_sort _)))
  obtain ⟨ys, b1, b2, b3⟩ := sorted_out_str hS a1 a2
  obtain ⟨c, hc⟩ := PyProof.Rows.sortedHeap_at (vs := vs) (out := (arrOf st').map (·.2)) hoL
  refine wpAny_pure ⟨_, rfl, hQ _ s1.heap.objs.size _ c ys (fun b u e => ?_) g1 o1 hz hc b1 (b2.trans p2) b3⟩
  have q := k1 b u e
  have hlt := Heap.lt_size q
  show (PyProof.Rows.sortedHeap (s1.heap.push (seqObj "list" vs.toArray 0)) s1.heap.objs.size vs ((arrOf st').map (·.2))).get? b = some u
  rw [PyProof.Rows.sortedHeap_old (Nat.ne_of_lt hlt) (by rw [size_push']; exact Nat.lt_succ_of_lt hlt)]
  exact Heap.get?_push_of_some _ q
end
def rSortSN (P : Program) (w : World) : List V → Hp → VK → Prop := fun vs H Q => ∃ (D : Addr) (ss : List Str), vs = [V.ref D] ∧ H D = some (sN P w D (ss.map txtK)) ∧ ∀ (ys : List Str) (p : Addr), ys.Perm ss → sortedS ys = true → H p = none → Q (.ref p) (upd H p (.lst (ys.map V.str)))
theorem cr_sortSN {X : Cx} (hc : X.calm = true) : CallR X (.builtin "sorted") (rSortSN X.prog X.w) := by
  intro pins s σ H vs us Q I r h
  obtain ⟨D, ss, rfl, hD, q⟩ := h
  rw [Vals.ref1 r]
  have R : SetG (noneKind X.prog X.w) s.heap D (ss.map txtK) := sN_of I.hok hD
  have small : ss.length ≤ sizeLine := by
    have q := R.len
    rw [List.length_map] at q
    exact Nat.le_trans (Nat.le_of_lt q) (by decide)
  refine sorted_setG R (I.ok.hd hc) fun s' p out c ys k g o hp hg hi hpm hs => ?_
  have hlen2 : (ys.map V.str).length ≤ sizeLine := by rw [List.length_map, hpm.length_eq]; exact small
  have hn : H p = none := I.hok.fresh hp
  have J : Inv X pins σ (upd H p (.lst (ys.map V.str))) { s with heap := s'.heap, gens := s'.gens, drawn := s'.drawn, toks := s'.toks } :=
    I.call (ch := []) (Un.laid k hp hn) (I.hok.laid k hp ⟨hlen2, out.toList, c, vals_of_strs hi, hg⟩) (by rw [g]; exact I.bare) (fun _ z => nomatch z)
  have e : s' = { s with heap := s'.heap, gens := s'.gens, drawn := s'.drawn, toks := s'.toks } := by
    cases s'
    cases s
    cases o
    rfl
  rw [e]
  exact ⟨.ref p, _, J, rfl, q ys p hpm hs hn⟩
/-- what must hold of the elements in their order -/
def SortP (P : DV → Prop) (out : List PyData) : Prop := ∀ ls : List NKey, out = ls.map keyD → ∃ zs : List Str, ls = zs.map txtK ∧ ∀ ys : List Str, sortedS ys = true → ys.Nodup → (∀ z, z ∈ ys ↔ z ∈ zs) → P (.d (lstS ys))
theorem key_txt : ∀ {ls : List NKey} {zs : List Str}, sD zs = ls.map keyD → ls = zs.map txtK
  | [], [], _ => rfl
  | k :: ls, z :: zs, h => by
    have h : PyData.str z :: sD zs = keyD k :: ls.map keyD := h
    injection h with h1 h2
    rw [List.map_cons, key_txt h2]
    match k, h1 with
    | some (.inr z'), h1 => cases h1; rfl
  | [], _ :: _, h => nomatch h
  | _ :: _, [], h => nomatch h
theorem sortP_of {P : DV → Prop} {zs : List Str} (h : ∀ ys : List Str, sortedS ys = true → ys.Nodup → (∀ z, z ∈ ys ↔ z ∈ zs) → P (.d (lstS ys))) : SortP P (sD zs) := fun ls e => ⟨zs, key_txt e, h⟩
theorem txt_inj {a b : Str} (h : txtK a = txtK b) : a = b := by
  injection h with h
  injection h
/-- sorted({..}), the elements texts -/
theorem ev_sortSC {K : PySem.W.Frag} {S : Side} {P0 : Program} {w0 : World} {ρ : Rho} {te : TE} {c : Clj} {rs : List Clj} {P : DV → Prop} (hj : c.j ∈ c.vs) (hjs : ∀ c ∈ rs, c.j ∈ c.vs)
    (h : EvI K S c.wi ρ fun ds => ∀ T, Side.Le S T → itW K T c.j c.tt (insWS K T te rs) (wipeR ρ c.vs) ds [] (SortP P)) :
    Ev K S (tCB (rSortSN P0 w0) (tCons (tScN P0 w0 te c.r (Clj.rs rs)) tNil)) ρ P := fun σ H hi he Q q => by
  show tScN P0 w0 te c.r (Clj.rs rs) σ H fun v H1 => rSortSN P0 w0 [v] H1 Q
  exact scN_step (P := fun ls => ∃ zs : List Str, ls = zs.map txtK ∧ ∀ ys : List Str, sortedS ys = true → ys.Nodup → (∀ z, z ∈ ys ↔ z ∈ zs) → P (.d (lstS ys))) hj hjs h σ H hi he _ fun D ls H2 t hD p => by
    obtain ⟨zs, rfl, p⟩ := p
    have hk : ∀ k ∈ foldAdd (zs.map txtK), ∃ z, k = txtK z := fun k hk => by
      obtain ⟨z, _, e⟩ := List.mem_map.mp (mem_foldAdd.mp hk)
      exact ⟨z, e.symm⟩
    have ef : foldAdd (zs.map txtK) = ((foldAdd (zs.map txtK)).map unT).map txtK := by
      rw [List.map_map]
      refine (List.map_id _).symm.trans (List.map_congr_left fun k hk' => ?_)
      obtain ⟨z, rfl⟩ := hk k hk'
      rfl
    have nd := foldAdd_nd (zs.map txtK)
    have hm : ∀ z, z ∈ (foldAdd (zs.map txtK)).map unT ↔ z ∈ zs := fun z => by
      have e1 : z ∈ (foldAdd (zs.map txtK)).map unT ↔ txtK z ∈ foldAdd (zs.map txtK) := by
        constructor
        · intro h
          have : txtK z ∈ ((foldAdd (zs.map txtK)).map unT).map txtK := List.mem_map.mpr ⟨z, h, rfl⟩
          rwa [← ef] at this
        · intro h
          exact List.mem_map.mpr ⟨_, h, rfl⟩
      rw [e1, mem_foldAdd, List.mem_map]
      exact ⟨fun ⟨z', h, e⟩ => by rw [← txt_inj e]; exact h, fun h => ⟨z, h, rfl⟩⟩
    rw [ef] at hD nd
    generalize (foldAdd (zs.map txtK)).map unT = ss at hD nd hm
    have nds : ss.Nodup := (List.pairwise_map.mp nd).imp fun h e => h (by rw [e])
    refine ⟨D, ss, rfl, hD, fun ys p' pm so nl => ?_⟩
    have tn := Side.To.new (S := S) (o := .lst (ys.map V.str)) t.inv nl
    exact q _ (.d (lstS ys)) _ (t.trans tn) (.lst (.inl (.inl (view_new t.inv nl))) (dpAll_strs ys)) (p ys so (pm.nodup_iff.mpr nds) fun z => (pm.mem_iff).trans (hm z))
end Tw
/-! dict(document), what is asked of it -/
namespace Tw
open PySem PySem.Spec PyProof.Rows L2
abbrev itemD (e : Str × Int) : PyData := .tuple [.str e.1, .int e.2]
def docD (es : List (Str × Int)) : PyData := .tuple (es.map itemD)
abbrev docK (es : List (Str × Int)) : List (Key × PyData) := es.map fun e => (.inr e.1, .int e.2)
abbrev docV (es : List (Str × Int)) : List (Key × V) := es.map fun e => (.inr e.1, .int e.2)
theorem doc_isDoc (es : List (Str × Int)) : isDoc (es.map itemD) = true := by
  unfold isDoc
  rw [List.all_map, List.all_eq_true]
  intro _ _
  rfl
def PairsAt (K : PySem.W.Frag) (H : Hp) : List V → List (Str × Int) → Prop
  | [], [] => True
  | x :: xs, e :: es => (∃ t, x = .ref t ∧ SqT K H t [.str e.1, .int e.2]) ∧ PairsAt K H xs es
  | _, _ => False
def rDictOf (K : PySem.W.Frag) : List V → Hp → VK → Prop := fun vs H Q => ∃ (a : Addr) (xs : List V) (es : List (Str × Int)), vs = [V.ref a] ∧ SqT K H a xs ∧ Nd K H a ∧ PairsAt K H xs es ∧ (es.map (·.1)).Nodup ∧ ∀ p, H p = none → Q (.ref p) (upd H p (.dK (docV es)))
theorem merged_nd {κ : Type} [DecidableEq κ] : ∀ (more acc : List (κ × Value)), ((acc ++ more).map (·.1)).Nodup → merged acc more = acc ++ more
  | [], acc, _ => (List.append_nil acc).symm
  | x :: more, acc, h => by
    have hno : acc.any (fun kv => decide (kv.1 = x.1)) = false := by
      rw [List.any_eq_false]
      intro y hy e
      rw [List.map_append, List.nodup_append] at h
      exact h.2.2 y.1 (List.mem_map.mpr ⟨y, hy, rfl⟩) x.1 List.mem_cons_self (of_decide_eq_true e)
    have es : stored acc x.1 x.2 = acc ++ [x] := by
      unfold stored
      rw [if_neg (by rw [hno]; exact Bool.false_ne_true)]
    show merged (stored acc x.1 x.2) more = _
    rw [es, merged_nd more (acc ++ [x]) (by rw [List.append_assoc]; exact h), List.append_assoc]
    rfl
section
variable {X : Cx} {pins : List (Addr × Obj)} {σ : L2.St} {H : Hp} {s : Shared}
theorem nd_obj {a : Addr} {xs : List V} (I : Inv X pins σ H s) (hs : SqT X.K H a xs) (nd : Nd X.K H a) : ∃ its : List Value, Vals xs its ∧ PlainSeq "tuple" s.heap a its.toArray ∧ xs.length ≤ sizeLine := by
  obtain ⟨its, rv, ⟨o, e, c, n, d⟩, hz⟩ := I.tuple hs
  refine ⟨its, rv, ⟨o, n, e, c, ?_, d⟩, hz⟩
  rcases nd with ⟨o', u, h1, h2⟩ | ⟨o', h1, h2⟩
  · have q : s.heap.get? a = some o' := (I.hok a _ h1).1
    rw [e] at q
    cases q
    exact h2
  · have q := I.kIn a o' h1
    rw [e] at q
    cases q
    exact h2
theorem pairs_items (I : Inv X pins σ H s) (es : List (Str × Int)) : ∀ (xs : List V) (its : List Value), PairsAt X.K H xs es → Vals xs its →
    ∃ (as : List Addr) (ps : List (Value × Value)), its = as.map Value.ref ∧ as.length = es.length ∧ ps.length = es.length ∧ ∀ (j : Nat) (k v : Value), ps[j]? = some (k, v) → ∃ (b : Addr) (e : Str × Int), as[j]? = some b ∧ es[j]? = some e ∧ s.heap.IsTuple b #[k, v] ∧ (∃ t, k = .str e.1 t) ∧ RelV (.int e.2) v := by
  induction es with
  | nil =>
    intro xs its h r
    cases xs with
    | cons x xs => exact h.elim
    | nil =>
      cases r
      exact ⟨[], [], rfl, rfl, rfl, fun j k v h => nomatch h⟩
  | cons e es ih =>
    intro xs its h r
    cases xs with
    | nil => exact h.elim
    | cons x xs =>
      obtain ⟨⟨t, rfl, ht⟩, h2⟩ := h
      cases r with
      | @cons _ u _ us r1 r2 =>
        obtain ⟨as, ps, e1, e2, e3, e4⟩ := ih xs us h2 r2
        have eu : u = Value.ref t := r1
        obtain ⟨its2, rv2, pl2, _⟩ := I.tuple ht
        obtain ⟨k, v, ek, q1, q2⟩ := vals2 rv2
        obtain ⟨tk, q1⟩ := q1
        refine ⟨t :: as, (.str e.1 tk, v) :: ps, by rw [e1, eu]; rfl, by rw [List.length_cons, List.length_cons, e2], by rw [List.length_cons, List.length_cons, e3], fun j k' v' hj => ?_⟩
        cases j with
        | zero =>
          rw [List.getElem?_cons_zero] at hj
          cases hj
          refine ⟨t, e, rfl, rfl, ?_, ⟨tk, rfl⟩, q2⟩
          rw [ek, q1] at pl2
          exact pl2
        | succ j =>
          rw [List.getElem?_cons_succ] at hj
          exact e4 j k' v' hj
theorem cr_dictOf (hc : X.calm = true) : CallR X (.type "dict") (rDictOf X.K) := by
  intro pins s σ H vs us Q I r h
  obtain ⟨a, xs, es, rfl, hs, nd, hp, hn, q⟩ := h
  rw [Vals.ref1 r]
  obtain ⟨its, rv, pl, hz⟩ := nd_obj I hs nd
  obtain ⟨as, ps, e1, e2, e3, e4⟩ := pairs_items I es xs its hp rv
  have lx : xs.length = es.length := by rw [rv.length, e1, List.length_map, e2]
  have hsz : ps.length ≤ sizeLine := by rw [e3, ← lx]; exact hz
  have items : PairItems s.heap its.toArray (fun j => as.getD j 0) ps := by
    refine ⟨by rw [e1]; simp [e2, e3], fun j k v hj => ?_⟩
    obtain ⟨b, e, hb, he, ht, _⟩ := e4 j k v hj
    have eb : as.getD j 0 = b := by rw [List.getD_eq_getElem?_getD, hb]; rfl
    refine ⟨?_, .inl (by show s.heap.IsTuple (as.getD j 0) #[k, v]; rw [eb]; exact ht)⟩
    show its.toArray[j]? = some (.ref (as.getD j 0))
    rw [List.getElem?_toArray, e1, List.getElem?_map, hb, eb]
    rfl
  have gets : ∀ j, j < es.length → ∃ k v e, ps[j]? = some (k, v) ∧ es[j]? = some e ∧ (∃ t, k = .str e.1 t) ∧ RelV (.int e.2) v := fun j hj => by
    have hj' : j < ps.length := by rw [e3]; exact hj
    obtain ⟨b, e, _, he, _, h1, h2⟩ := e4 j ps[j].1 ps[j].2 (List.getElem?_eq_getElem hj')
    exact ⟨_, _, e, List.getElem?_eq_getElem hj', he, h1, h2⟩
  obtain ⟨kvs, ekv⟩ : ∃ kvs : List (Key × Value), kvs = (List.range es.length).map fun j => (.inr (es.getD j ("", 0)).1, (ps.getD j (.none, .none)).2) := ⟨_, rfl⟩
  have kat : ∀ j, j < es.length → ∃ k v e, ps[j]? = some (k, v) ∧ es[j]? = some e ∧ (∃ t, k = .str e.1 t) ∧ RelV (.int e.2) v ∧ kvs[j]? = some (.inr e.1, v) := fun j hj => by
    obtain ⟨k, v, e, h1, h2, h3, h4⟩ := gets j hj
    refine ⟨k, v, e, h1, h2, h3, h4, ?_⟩
    rw [ekv, List.getElem?_map, List.getElem?_range hj, Option.map_some, List.getD_eq_getElem?_getD, h2, List.getD_eq_getElem?_getD, h1, Option.getD_some, Option.getD_some]
  have kl : kvs.length = es.length := by rw [ekv, List.length_map, List.length_range]
  have hkeys : PairsHave (mixKind X.prog X.w) ps.length (PairRel ps) kvs := by
    refine ⟨by rw [kl, e3], fun j key v hj => ?_⟩
    have hjl : j < es.length := by
      rw [← e3]
      exact (List.getElem?_eq_some_iff.mp hj).1
    obtain ⟨k', v', e, h1, h2, ⟨t, h3⟩, h4, h5⟩ := kat j hjl
    have : some (k', v') = some (key, v) := h1.symm.trans hj
    cases this
    exact ⟨_, h5, by rw [h3]; exact keyIs_str e.1 t⟩
  have ek : kvs.map (·.1) = es.map fun e => (Sum.inr e.1 : Key) := by
    refine List.ext_getElem? fun j => ?_
    rw [List.getElem?_map, List.getElem?_map]
    by_cases hj : j < es.length
    · obtain ⟨k', v', e, h1, h2, _, _, h5⟩ := kat j hj
      rw [h5, h2]
      rfl
    · rw [List.getElem?_eq_none (by rw [kl]; omega), List.getElem?_eq_none (by omega)]
      rfl
  have nk : (kvs.map (·.1)).Nodup := by
    rw [ek]
    refine List.pairwise_map.mpr ((List.pairwise_map.mp hn).imp fun h e => h ?_)
    injection e
  have em : merged [] kvs = kvs := merged_nd kvs [] nk
  have kv : KV (docV es) kvs := by
    have : ∀ (es : List (Str × Int)) (kvs : List (Key × Value)), kvs.length = es.length → (∀ j, j < es.length → ∃ e v, es[j]? = some e ∧ RelV (.int e.2) v ∧ kvs[j]? = some (.inr e.1, v)) → KV (docV es) kvs := by
      intro es
      induction es with
      | nil =>
        intro kvs hl _
        rw [List.length_eq_zero_iff.mp hl]
        exact .nil
      | cons e es ih =>
        intro kvs hl h
        match kvs, hl with
        | x :: kvs, hl =>
          obtain ⟨e', v, h1, h2, h3⟩ := h 0 (Nat.succ_pos _)
          cases h1
          cases h3
          refine .cons ⟨rfl, h2⟩ (ih kvs (Nat.succ.inj hl) fun j hj => h (j + 1) (Nat.succ_lt_succ hj))
    refine this es kvs kl fun j hj => ?_
    obtain ⟨k', v', e, _, h2, _, h4, h5⟩ := kat j hj
    exact ⟨e, v', h2, h4, h5⟩
  refine call_dict_pairs (PairArg.tuple a its.toArray (fun j => as.getD j 0) ps) (I.ok.hd hc) ⟨pl, items⟩ hkeys hsz fun h' tk hd hk => ?_
  rw [em] at hd
  have hk' : ∀ b o, s.heap.get? b = some o → h'.get? b = some o := fun b o e => hk b o (fun z => nomatch z) e
  have J : Inv X pins σ (upd H s.heap.objs.size (.dK (docV es))) { s with heap := h', toks := tk } :=
    I.laid hk' (Nat.le_refl _) ⟨by rw [List.length_map, ← lx]; exact hz, beq_eq_false_iff_ne.mpr (Nat.ne_of_gt I.big), kvs, kv, hd⟩
  exact ⟨.ref _, _, J, rfl, q _ (I.hok.fresh (Nat.le_refl _))⟩
end
end Tw
/-! big steps of a document's dict -/
namespace Tw
open PySem PySem.Spec PyProof.Rows L2
section
variable {K : PySem.W.Frag} {S : Side} {ρ : Rho}
theorem pairsAt_of {M H : Hp} (ex : Evl.Ex M H) : ∀ {xs : List V} (es : List (Str × Int)), DpAll K M xs (es.map itemD) → PairsAt K H xs es
  | _, [], h => by
    cases h
    trivial
  | _, e :: es, h => by
    cases h with
    | @cons x xs _ _ h1 h2 =>
      refine ⟨?_, pairsAt_of ex es h2⟩
      obtain ⟨t, ws, rfl, ht, dt⟩ := dp_tup h1
      cases dt with
      | cons d1 d2 =>
        cases d2 with
        | cons d2 d3 =>
          cases d3
          cases d1
          cases d2
          exact ⟨t, rfl, ex_sqt ex ht⟩
theorem doc_kdp {M : Hp} : ∀ es : List (Str × Int), KDp K M (docV es) (docK es)
  | [] => trivial
  | e :: es => ⟨rfl, .int e.2, doc_kdp es⟩
theorem nd_mono {M H : Hp} {a : Addr} (ex : Evl.Ex M H) (h : Nd K M a) : Nd K H a := by
  rcases h with ⟨o, u, h1, h2⟩ | h
  · exact .inl ⟨o, u, ex _ _ h1, h2⟩
  · exact .inr h
theorem ec_dictOf {es : List (Str × Int)} {P : DV → Prop} (hn : (es.map (·.1)).Nodup) (p : P (.dk (docK es))) : EvC K S (rDictOf K) [.d (docD es)] P := fun vs H hi hv Q q => by
  match vs, hv with
  | [v], hv =>
    have h0 : Dp K (S.view H) v (.tuple (es.map itemD)) := hv.1
    cases h0 with
    | @tup a ws _ hs hd nd =>
      refine ⟨a, ws, es, rfl, ex_sqt (view_ex S H) hs, nd_mono (view_ex S H) (nd (doc_isDoc es)), pairsAt_of (view_ex S H) es hd, hn, fun p' nl => ?_⟩
      exact q _ (.dk (docK es)) _ (Side.To.new (S := S) (o := .dK (docV es)) hi nl) ⟨p', docV es, rfl, view_new hi nl, doc_kdp es⟩ p
theorem ev_dget1 {td ty : TE} {P : DV → Prop} (h : Ev K S td ρ fun x => ∃ kvs, x = .dk kvs ∧ Ev K S ty ρ fun y => ∃ k : Str, y = .d (.str k) ∧ P (.d ((lookD kvs (.inr k)).getD .none))) : Ev K S (tDGet1 td ty) ρ P := fun σ H hi he Q q =>
  h σ H hi he _ fun v x H1 t1 i1 p1 => by
    obtain ⟨kvs, rfl, p1⟩ := p1
    obtain ⟨p, vs, rfl, hp, hk⟩ := id i1
    refine ⟨p, rfl, .inl ⟨vs, .inl (view_sub hp)⟩, p1 σ H1 t1.inv (he.mono t1.ex) _ fun w y H2 t2 i2 p2 => ?_⟩
    obtain ⟨k, rfl, p3⟩ := p2
    cases dp_d i2
    obtain ⟨p', vs', e', hp', hk'⟩ := Is.mono t2.ex i1
    cases e'
    refine ⟨valV vs' (.inr k), .inl ⟨vs', .inr k, .inl (view_sub hp'), rfl, rfl⟩, ?_⟩
    cases e : lookD kvs (.inr k) with
    | some c =>
      rw [e] at p3
      obtain ⟨c', e2, e3⟩ := kdp_look hk' e
      rw [e2]
      exact q _ (.d c) H2 (t1.trans t2) e3 p3
    | none =>
      rw [e] at p3
      rw [kdp_none hk' e]
      exact q _ (.d .none) H2 (t1.trans t2) (show Dp _ _ _ _ from .non) p3
/-- k in d -/
theorem ev_din {td ty : TE} {P : DV → Prop} (h : Ev K S ty ρ fun y => ∃ k : Str, y = .d (.str k) ∧ Ev K S td ρ fun x => ∃ kvs, x = .dk kvs ∧ P (.d (.bool (lookD kvs (.inr k)).isSome))) : Ev K S (tDIn ty td) ρ P := fun σ H hi he Q q =>
  h σ H hi he _ fun w y H1 t1 i1 p1 => by
    obtain ⟨k, rfl, p1⟩ := p1
    refine p1 σ H1 t1.inv (he.mono t1.ex) _ fun v x H2 t2 i2 p2 => ?_
    obtain ⟨kvs, rfl, p2⟩ := p2
    obtain ⟨p, vs, rfl, hp, hk⟩ := id i2
    cases dp_d i1
    refine ⟨p, valV vs (.inr k), rfl, .inl ⟨vs, .inr k, .inl (view_sub hp), rfl, rfl⟩, ?_⟩
    cases e : lookD kvs (.inr k) with
    | some c =>
      rw [e] at p2
      obtain ⟨c', e2, e3⟩ := kdp_look hk e
      rw [e2]
      exact q _ (.d (.bool true)) H2 (t1.trans t2) (show Dp _ _ _ _ from .bl true) p2
    | none =>
      rw [e] at p2
      rw [kdp_none hk e]
      exact q _ (.d (.bool false)) H2 (t1.trans t2) (show Dp _ _ _ _ from .bl false) p2
/-- what a document says of a name -/
def lookE (es : List (Str × Int)) (k : Str) : Option Int := (es.find? fun e => decide (e.1 = k)).map (·.2)
theorem look_doc (es : List (Str × Int)) (k : Str) : lookD (docK es) (.inr k) = (lookE es k).map PyData.int := by
  induction es with
  | nil => rfl
  | cons e es ih =>
    by_cases c : e.1 = k
    · have e1 : decide ((Sum.inr e.1 : Key) = .inr k) = true := decide_eq_true (by rw [c])
      have e2 : decide (e.1 = k) = true := decide_eq_true c
      simp [lookD, lookE, List.find?_cons, e1, e2]
    · have e1 : decide ((Sum.inr e.1 : Key) = .inr k) = false := decide_eq_false fun z => c (by injection z)
      have e2 : decide (e.1 = k) = false := decide_eq_false c
      have q : lookD (docK (e :: es)) (.inr k) = lookD (docK es) (.inr k) := by
        unfold lookD
        show Option.map _ (List.find? _ ((Sum.inr e.1, PyData.int e.2) :: docK es)) = _
        rw [List.find?_cons, e1]
      have q2 : lookE (e :: es) k = lookE es k := by
        unfold lookE
        rw [List.find?_cons, e2]
      rw [q, q2, ih]
end
end Tw
/-! all(letter in LETTERS for letter in text) -/
namespace Tw
open PySem PySem.Spec PyProof.Rows L2
def signIn (L z : Str) (i : Nat) : Bool := match z.cps[i]? with
  | some c => !(Builtin.Str.occurrences L ⟨#[c]⟩ 0 L.length 1).isEmpty
  | none => false
def allIn (L z : Str) : Bool := (List.range z.cps.size).all (signIn L z)
section
variable {X : Cx}
def tAllS (P : Addr) (L : Str) (te : TE) : TE := fun σ H Q => te σ H fun v H1 => GxR.TabG H1 P ∧ ∃ z : Str, v = .str z ∧ ∀ H2, GxR.Tabbed P H1 H2 → Q (.bl (allIn L z)) H2
theorem pe_allS {c P : Addr} {x gn : Str} {L : Str} {t : Tok} {iter : Expr} {px p p1 p2 p3 pos gpos : Pos} {scope : Scope} {te : TE} {k : Nat}
    (hr : Room k X.A) (hg : Gl X "all") (hm : X.mg "all" = none) (TB : GxR.TabB X.base X.mg c P) (hcode : X.env.code = .ref c) (S : GxR.GenS X.env scope x) (hi : PE X iter te)
    (hfn : scope.names.lookup gn = some .globalImplicit) (hmf : X.mg gn = some (.str L t)) (hs : ∀ v, genFold iter X.env v = pure v) (dx : (x == ("__debug__" : Str)) = false := by decide) (df : (gn == ("__debug__" : Str)) = false := by decide)
    (hmk : behindInMarks .In (.Name gn p2) = false := by rfl)
    (hse : starEach [.GeneratorExp (.Compare (.Name x p1) [.In] [.Name gn p2] p3) [⟨.Name x px, iter, [], 0⟩] scope gpos] X.env = (false, eval (.GeneratorExp (.Compare (.Name x p1) [.In] [.Name gn p2] p3) [⟨.Name x px, iter, [], 0⟩] scope gpos) X.env) :: starEach [] X.env := by rfl) :
    PE X (.Call (.Name "all" p) [.GeneratorExp (.Compare (.Name x p1) [.In] [.Name gn p2] p3) [⟨.Name x px, iter, [], 0⟩] scope gpos] [] pos) (tAllS P L te) := by
  refine ⟨fun pins s σ H Q I h => ?_⟩
  refine wpAny_Call_Name_kw (ld_blt I hg hm PyProof.Rows.boot_all ?_)
  refine PyProof.Rows.callWith_builtin1 ?_ hse (by rfl)
  rw [hse]
  show wpAny _ _ (spliced ((false, eval (.GeneratorExp (.Compare (.Name x p1) [.In] [.Name gn p2] p3) [⟨.Name x px, iter, [], 0⟩] scope gpos) X.env) :: backTo pos (starEach [] X.env))) _ _ s
  refine Calls.spliced_cons (gen_it (R := fun v H1 => ∃ z : Str, v = .str z ∧ ∀ H2, GxR.Tabbed P H1 H2 → Q (.bl (allIn L z)) H2) hr TB hcode S hi hs I h fun v u H1 s1 ps I1 rv hR hPt hP => ?_)
  obtain ⟨z, rfl, hq⟩ := hR
  obtain ⟨tz, rfl⟩ := rv
  refine ⟨z.cps.size, _, fun i y => y = .bool (signIn L z i), can_str hP, ?_, fun g s5 hG => ?_⟩
  · intro cenv A' E' i v s₂ m₂ hA hD hU hsc hce hgl hn hmx hPi hkeep
    obtain ⟨cp, uu, hcp, rfl⟩ := hPi
    have eS : signIn L z i = !(Builtin.Str.occurrences L ⟨#[cp]⟩ 0 L.length 1).isEmpty := by
      unfold signIn
      rw [hcp]
    show wpAny _ _ _ (fun y s₃ => y = Value.bool (signIn L z i) ∧ Keeps s₂ s₃) _ _
    rw [eS]
    have kb : ∀ b o, X.base.get? b = some o → s₂.heap.get? b = some o := fun b o e => by
      refine hkeep b o (fun z => ?_) (I1.bk b o e)
      have q := (I1.bs b o e).2
      rw [z, hPt] at q
      cases q
    have hk' : cenv.scope.kind = .function := by rw [hsc]; exact S.kind
    have kfn : cenv.kindOf gn = some .globalImplicit := by show cenv.scope.names.lookup gn = _; rw [hsc]; exact hfn
    have kx : cenv.kindOf x = some .local := by show cenv.scope.names.lookup x = _; rw [hsc]; exact S.loc
    refine wpAny_Compare1 ?_ hmk
    refine wpAny_Name (wpAny_loadName_local hk' kx hn hmx ?_) dx
    refine Calls.Name_function_global hk' kfn (Calls.loadGlobal_global (by rw [hgl, I1.ok.glob]; exact I1.mod.glob.keeps kb) hmf ?_) df
    exact PyProof.Rows.in_str ⟨rfl, GxR.keeps_refl _⟩
  · obtain ⟨fp, wr, G, St, W, hst0, _, hI⟩ := hG
    refine Calls.spliced_nil ?_
    refine call_all_walkS (W.self 0 _ _ _ hst0 ⟨g, fp, wr, G, _, _, St, signIn L z, rfl, W, hst0, ?_, fun s' hmv => ?_⟩)
    · intro i v sj Qj Ej hv hQj
      obtain ⟨_, rfl⟩ := hv
      exact wpAny_truthy_bool hQj
    · obtain ⟨H2, hT, J⟩ := hI s' hmv
      exact ⟨.bl _, H2, J, rfl, hq H2 hT⟩
end
theorem ev_allS {K : PySem.W.Frag} {S : Side} {ρ : Rho} {P : Addr} {L : Str} {te : TE} {Q : DV → Prop} (hT : TabS S P) (h : Ev K S te ρ fun x => ∃ z : Str, x = .d (.str z) ∧ Q (.d (.bool (allIn L z)))) : Ev K S (tAllS P L te) ρ Q := fun σ H hi he R r =>
  h σ H hi he _ fun v x H1 t1 i1 p1 => by
    obtain ⟨z, rfl, q⟩ := p1
    cases dp_d i1
    refine ⟨hT.good H1 t1.inv, z, rfl, fun H2 t => r _ (.d (.bool _)) H2 (t1.trans ⟨hT.grow H1 H2 t1.inv t, fun a o n e => ?_⟩) (show Dp _ _ _ _ from .bl _) q⟩
    rw [t.2 a (fun z => n (by rw [z]; exact hT.mut_))]
    exact e
end Tw
/-! x, y, .. = a, b, ..: a tuple made and taken apart -/
namespace Tw
open PySem PySem.Spec PyProof.Rows L2
def setAll : List Nat → Rho → List DV → Rho
  | i :: is, ρ, x :: xs => setAll is (ρ.set i (some x)) xs
  | _, ρ, _ => ρ
def gNames : List Nat → TGs
  | [] => gNil
  | i :: is => gCons (gName i) (gNames is)
section
variable {K : PySem.W.Frag} {S : Side} {ρ : Rho}
theorem gNames_ok {M : Hp} {H : Hp} {Q : L2.St → Hp → Prop} : ∀ (is : List Nat) (vs : List V) (xs : List DV) (σ : L2.St) (ρ : Rho), EnvOk K M σ ρ → AllIs K M vs xs → xs.length = is.length → (∀ σ', EnvOk K M σ' (setAll is ρ xs) → Q σ' H) → gNames is vs σ H Q
  | [], [], [], σ, ρ, he, _, _, q => ⟨rfl, q σ he⟩
  | i :: is, v :: vs, x :: xs, σ, ρ, he, hv, hl, q => ⟨v, vs, rfl, gNames_ok is vs xs _ _ (he.set i hv.1) hv.2 (Nat.succ.inj hl) q⟩
  | [], _ :: _, [], _, _, _, hv, _, _ => hv.elim
  | _, [], _ :: _, _, _, _, hv, _, _ => hv.elim
  | _ :: _, _, [], _, _, _, _, hl, _ => nomatch hl
  | [], _, _ :: _, _, _, _, _, hl, _ => nomatch hl
theorem run_asgT {ta : TA} {is : List Nat} {n : Nat} {P : Out → Prop} (hn : is.length = n) (hz : n ≤ sizeLine) (h : EvA K S ta ρ fun xs => xs.length = n ∧ P (.nx (setAll is ρ xs))) : Run K S (tAsg (tTup ta) (gTup K n (gNames is))) ρ P := fun σ H hi he D q1 _ _ _ =>
  h σ H hi he _ fun vs xs H1 t1 i1 p1 => by
    obtain ⟨hl, p⟩ := p1
    have lv : vs.length = n := i1.len.trans hl
    refine ⟨by rw [lv]; exact hz, fun p' o np nd => ⟨p', vs, rfl, .inl (.inr ⟨o, upd_same⟩), lv, ?_⟩⟩
    have t2 := Side.To.new (S := S) (o := .frz o (.tup vs)) t1.inv np
    exact gNames_ok is vs xs σ ρ (he.mono (t1.trans t2).ex) (i1.mono t2.ex) (hl.trans hn.symm) fun σ' e' => q1 _ σ' _ (t1.trans t2) e' p
theorem run_asgT2 {ta : TA} {i j n : Nat} {P : Out → Prop} (hn : 2 = n) (h : EvA K S ta ρ fun xs => ∃ x y, xs = [x, y] ∧ P (.nx ((ρ.set i (some x)).set j (some y)))) : Run K S (tAsg (tTup ta) (gTup K n (gCons (gName i) (gCons (gName j) gNil)))) ρ P :=
  run_asgT (is := [i, j]) hn (by rw [← hn]; decide) (h.imp fun xs ⟨x, y, e, p⟩ => by subst e; exact ⟨hn, p⟩)
theorem run_asgT3 {ta : TA} {i j k n : Nat} {P : Out → Prop} (hn : 3 = n) (h : EvA K S ta ρ fun xs => ∃ x y z, xs = [x, y, z] ∧ P (.nx (((ρ.set i (some x)).set j (some y)).set k (some z)))) : Run K S (tAsg (tTup ta) (gTup K n (gCons (gName i) (gCons (gName j) (gCons (gName k) gNil))))) ρ P :=
  run_asgT (is := [i, j, k]) hn (by rw [← hn]; decide) (h.imp fun xs ⟨x, y, z, e, p⟩ => by subst e; exact ⟨hn, p⟩)
theorem ev_notN {ta : TE} {P : DV → Prop} (h : Ev K S ta ρ fun x => ∃ d, x = .d d ∧ P (.d (.bool (!isNoneD d)))) : Ev K S (tNotN ta) ρ P := fun σ H hi he Q q => h σ H hi he _ fun v x H1 t1 i1 p1 => by
  obtain ⟨d, rfl, p⟩ := p1
  have e : decide (v = V.non) = isNoneD d := by
    cases i1 <;> rfl
  rw [e]
  exact q _ (.d (.bool _)) H1 t1 (show Dp _ _ _ _ from .bl _) p
theorem e2_leS {x y : Str} {P : DV → Prop} (p : P (.d (.bool (!decide (y.cps.toList < x.cps.toList))))) : Ev2 K S (fun x y H Q => ∃ i j, x = V.str i ∧ y = V.str j ∧ Q (.bl (!decide (j.cps.toList < i.cps.toList))) H) (.d (.str x)) (.d (.str y)) P := fun v w H hi hv hw Q q => by
  cases dp_d hv
  cases dp_d hw
  exact ⟨x, y, rfl, rfl, q _ (.d (.bool _)) H (.refl hi) (show Dp _ _ _ _ from .bl _) p⟩
theorem enum_items (es : List (Str × Int)) : enumD 0 (es.map itemD) = (List.range es.length).map fun k => PyData.tuple [.int (k : Nat), itemD (es.getD k ("", 0))] := by
  refine List.ext_getElem? fun j => ?_
  rw [enumD_get, List.getElem?_map, List.getElem?_map, Nat.zero_add]
  by_cases hj : j < es.length
  · rw [List.getElem?_eq_getElem hj, List.getElem?_range hj]
    have e : es.getD j ("", 0) = es[j] := by rw [List.getD_eq_getElem?_getD, List.getElem?_eq_getElem hj]; rfl
    show some (PyData.tuple [.int (j : Nat), itemD es[j]]) = some (PyData.tuple [.int (j : Nat), itemD (es.getD j ("", 0))])
    rw [e]
  · rw [List.getElem?_eq_none (by omega), List.getElem?_eq_none (by rw [List.length_range]; omega)]
    rfl
end
end Tw
/-! a run beside two lists that grow -/
namespace Tw
open PySem PySem.Spec PyProof.Rows L2
abbrev S2 (S : Side) (p q : Addr) : Side := (S.hide p).hide q
def CtL (K : PySem.W.Frag) (S : Side) (p q : Addr) (H : Hp) (a b : List PyData) : Prop :=
  (∃ ys, H p = some (.lst ys) ∧ DpAll K ((S2 S p q).view H) ys a) ∧ ∃ zs, H q = some (.lst zs) ∧ DpAll K ((S2 S p q).view H) zs b
structure ToL (S : Side) (p q : Addr) (H H2 : Hp) : Prop where
  inv : S.inv H2
  keep : ∀ a o, ¬ S.mutb a → a ≠ p → a ≠ q → H a = some o → H2 a = some o
section
variable {K : PySem.W.Frag} {S : Side} {p q : Addr} {ρ : Rho} {a b : List PyData}
theorem ToL.trans {H H1 H2 : Hp} (x : ToL S p q H H1) (y : ToL S p q H1 H2) : ToL S p q H H2 := ⟨y.inv, fun c o n n1 n2 e => y.keep c o n n1 n2 (x.keep c o n n1 n2 e)⟩
theorem ToL.refl {H : Hp} (h : S.inv H) : ToL S p q H H := ⟨h, fun _ _ _ _ _ e => e⟩
theorem toL {H H2 : Hp} (t : (S2 S p q).To H H2) : ToL S p q H H2 := ⟨t.inv.1.1, fun c o n _ _ e => t.keep c o n e⟩
theorem ToL.of {H H2 : Hp} (t : S.To H H2) : ToL S p q H H2 := ⟨t.inv, fun c o n _ _ e => t.keep c o n e⟩
theorem ToL.ex {H H2 : Hp} (t : ToL S p q H H2) : Evl.Ex ((S2 S p q).view H) ((S2 S p q).view H2) := fun c o e => by
  obtain ⟨n, e⟩ := view_some.mp e
  exact view_some.mpr ⟨n, t.keep c o (fun z => n (.inl (.inl (S.sub c z)))) (fun z => n (.inl (.inr z))) (fun z => n (.inr z)) e⟩
theorem CtL.inv {H : Hp} (h : CtL K S p q H a b) (i : S.inv H) : (S2 S p q).inv H := by
  obtain ⟨⟨_, e, _⟩, _, e', _⟩ := h
  exact ⟨⟨i, by rw [e]; exact fun z => nomatch z⟩, by rw [e']; exact fun z => nomatch z⟩
theorem CtL.on {H H2 : Hp} (np : ¬ S.mutb p) (nq : ¬ S.mutb q) (h : CtL K S p q H a b) (t : (S2 S p q).To H H2) : CtL K S p q H2 a b := by
  obtain ⟨⟨ys, e, d⟩, zs, e', d'⟩ := h
  exact ⟨⟨ys, t.keep p _ np e, dpAll_mono t.ex _ _ d⟩, zs, t.keep q _ nq e', dpAll_mono t.ex _ _ d'⟩
def RunL (K : PySem.W.Frag) (S : Side) (p q : Addr) (ts : TS) (ρ : Rho) (a b : List PyData) (Po : List PyData → List PyData → Out → Prop) : Prop :=
  ∀ σ H, S.inv H → CtL K S p q H a b → EnvOk K ((S2 S p q).view H) σ ρ → ∀ D : Ends,
    (∀ a' b' ρ' σ' H2, ToL S p q H H2 → CtL K S p q H2 a' b' → EnvOk K ((S2 S p q).view H2) σ' ρ' → Po a' b' (.nx ρ') → D.nx σ' H2) →
    (∀ a' b' x v H2, ToL S p q H H2 → Is K (S.view H2) v x → Po a' b' (.rt x) → D.rt v H2) →
    (∀ a' b' ρ' σ' H2, ToL S p q H H2 → CtL K S p q H2 a' b' → EnvOk K ((S2 S p q).view H2) σ' ρ' → Po a' b' (.bk ρ') → D.bk σ' H2) →
    (∀ a' b' ρ' σ' H2, ToL S p q H H2 → CtL K S p q H2 a' b' → EnvOk K ((S2 S p q).view H2) σ' ρ' → Po a' b' (.ct ρ') → D.ct σ' H2) → ts D σ H
variable {t u : TS} {Po : List PyData → List PyData → Out → Prop}
theorem rl_of (np : ¬ S.mutb p) (nq : ¬ S.mutb q) (h : Run K (S2 S p q) t ρ (Po a b)) : RunL K S p q t ρ a b Po := fun σ H hi hc he D q1 q2 q3 q4 =>
  h σ H (hc.inv hi) he D (fun ρ' σ' H2 t2 e2 p2 => q1 a b ρ' σ' H2 (toL t2) (hc.on np nq t2) e2 p2) (fun x v H2 t2 i2 p2 => q2 a b x v H2 (toL t2) ((i2.mono (hide_ex H2)).mono (hide_ex H2)) p2)
    (fun ρ' σ' H2 t2 e2 p2 => q3 a b ρ' σ' H2 (toL t2) (hc.on np nq t2) e2 p2) fun ρ' σ' H2 t2 e2 p2 => q4 a b ρ' σ' H2 (toL t2) (hc.on np nq t2) e2 p2
theorem rl_seq (h : RunL K S p q t ρ a b fun a' b' o => match o with | .nx ρ' => RunL K S p q u ρ' a' b' Po | o => Po a' b' o) : RunL K S p q (tSeq t u) ρ a b Po := fun σ H hi hc he D q1 q2 q3 q4 =>
  h σ H hi hc he { D with nx := u D } (fun a' b' ρ' σ' H1 t1 h1 e1 p1 => p1 σ' H1 t1.inv h1 e1 D (fun x y z w v t2 => q1 x y z w v (t1.trans t2)) (fun x y z w v t2 => q2 x y z w v (t1.trans t2)) (fun x y z w v t2 => q3 x y z w v (t1.trans t2)) fun x y z w v t2 => q4 x y z w v (t1.trans t2)) q2 q3 q4
theorem rl_if (np : ¬ S.mutb p) (nq : ¬ S.mutb q) {tt : TT} (h : EvT K (S2 S p q) tt ρ fun c => (c = true → RunL K S p q t ρ a b Po) ∧ (c = false → RunL K S p q u ρ a b Po)) : RunL K S p q (tIfS tt t u) ρ a b Po := fun σ H hi hc he D q1 q2 q3 q4 =>
  h σ H (hc.inv hi) he _ fun c H1 t1 p1 => by
    have b1 := toL t1
    have go : ∀ {r : TS}, RunL K S p q r ρ a b Po → r D σ H1 := fun hr => hr σ H1 b1.inv (hc.on np nq t1) (he.mono t1.ex) D (fun x y z w v t2 => q1 x y z w v (b1.trans t2)) (fun x y z w v t2 => q2 x y z w v (b1.trans t2)) (fun x y z w v t2 => q3 x y z w v (b1.trans t2)) fun x y z w v t2 => q4 x y z w v (b1.trans t2)
    cases c with
    | true =>
      rw [if_pos rfl]
      exact go (p1.1 rfl)
    | false =>
      rw [if_neg Bool.false_ne_true]
      exact go (p1.2 rfl)
theorem rl_appP {i : Nat} {te : TE} (npq : p ≠ q) (nh : ¬ S.hid p) (nq : ¬ S.hid q) (h0 : ρ[i]? = some (some (.v (.ref p)))) (hl : a.length < sizeLine) (h : Ev K (S2 S p q) te ρ fun y => ∃ d, y = .d d ∧ Po (a ++ [d]) b (.nx ρ)) :
    RunL K S p q (tDrop (tBM K "list" rAppend (tVar i) (tCons te tNil))) ρ a b Po := fun σ H hi hc he D q1 _ _ _ => by
  have np : ¬ S.mutb p := fun z => nh (S.sub p z)
  have nq' : ¬ S.mutb q := fun z => nq (S.sub q z)
  obtain ⟨v0, e0, rfl⟩ := he.get i _ h0
  obtain ⟨⟨ys0, ey0, _⟩, _⟩ := id hc
  refine ⟨_, e0, .inl ⟨rfl, ys0, .inl (.inl ey0)⟩, ?_⟩
  refine h σ H (hc.inv hi) he _ fun v y H2 t2 i2 p2 => ?_
  obtain ⟨d, rfl, p2⟩ := p2
  obtain ⟨⟨ys, ey, dy⟩, zs, ez, dz⟩ := hc.on np nq' t2
  have t02 := toL t2
  have ex4 : Evl.Ex ((S2 S p q).view H2) ((S2 S p q).view (upd H2 p (.lst (ys ++ [v])))) := fun c o e => by
    obtain ⟨n, e⟩ := view_some.mp e
    exact view_some.mpr ⟨n, by rw [upd_ne (fun z => n (.inl (.inr z)))]; exact e⟩
  refine ⟨p, ys, v, rfl, rfl, ey, by rw [dpa_len dy]; exact hl, ?_⟩
  have t4 : ToL S p q H2 (upd H2 p (.lst (ys ++ [v]))) := ⟨S.put H2 p _ t02.inv nh (nofrz_of ey fun _ _ z => nomatch z), fun c o na m _ e => by rw [upd_ne m]; exact e⟩
  exact q1 (a ++ [d]) b ρ σ _ (t02.trans t4) ⟨⟨_, upd_same, dpa_app (dpAll_mono ex4 _ _ dy) (.cons (dp_mono ex4 _ _ i2) .nil)⟩, zs, by rw [upd_ne (Ne.symm npq)]; exact ez, dpAll_mono ex4 _ _ dz⟩ (he.mono (t02.trans t4).ex) p2
theorem rl_appQ {i : Nat} {te : TE} (npq : p ≠ q) (np0 : ¬ S.hid p) (nh : ¬ S.hid q) (h0 : ρ[i]? = some (some (.v (.ref q)))) (hl : b.length < sizeLine) (h : Ev K (S2 S p q) te ρ fun y => ∃ d, y = .d d ∧ Po a (b ++ [d]) (.nx ρ)) :
    RunL K S p q (tDrop (tBM K "list" rAppend (tVar i) (tCons te tNil))) ρ a b Po := fun σ H hi hc he D q1 _ _ _ => by
  have np : ¬ S.mutb p := fun z => np0 (S.sub p z)
  have nq' : ¬ S.mutb q := fun z => nh (S.sub q z)
  obtain ⟨v0, e0, rfl⟩ := he.get i _ h0
  obtain ⟨_, zs0, ez0, _⟩ := id hc
  refine ⟨_, e0, .inl ⟨rfl, zs0, .inl (.inl ez0)⟩, ?_⟩
  refine h σ H (hc.inv hi) he _ fun v y H2 t2 i2 p2 => ?_
  obtain ⟨d, rfl, p2⟩ := p2
  obtain ⟨⟨ys, ey, dy⟩, zs, ez, dz⟩ := hc.on np nq' t2
  have t02 := toL t2
  have ex4 : Evl.Ex ((S2 S p q).view H2) ((S2 S p q).view (upd H2 q (.lst (zs ++ [v])))) := fun c o e => by
    obtain ⟨n, e⟩ := view_some.mp e
    exact view_some.mpr ⟨n, by rw [upd_ne (fun z => n (.inr z))]; exact e⟩
  refine ⟨q, zs, v, rfl, rfl, ez, by rw [dpa_len dz]; exact hl, ?_⟩
  have t4 : ToL S p q H2 (upd H2 q (.lst (zs ++ [v]))) := ⟨S.put H2 q _ t02.inv nh (nofrz_of ez fun _ _ z => nomatch z), fun c o na _ m e => by rw [upd_ne m]; exact e⟩
  exact q1 a (b ++ [d]) ρ σ _ (t02.trans t4) ⟨⟨ys, by rw [upd_ne npq]; exact ey, dpAll_mono ex4 _ _ dy⟩, _, upd_same, dpa_app (dpAll_mono ex4 _ _ dz) (.cons (dp_mono ex4 _ _ i2) .nil)⟩ (he.mono (t02.trans t4).ex) p2
def forL (K : PySem.W.Frag) (S : Side) (p q : Addr) (g : TG) (tb : TS) : List PyData → Rho → List PyData → List PyData → (List PyData → List PyData → Out → Prop) → Prop
  | [], ρ, a, b, Po => Po a b (.nx ρ)
  | x :: xs, ρ, a, b, Po => EvG K (S2 S p q) g (.d x) ρ fun ρ2 => RunL K S p q tb ρ2 a b fun a' b' o => match o with
    | .nx ρ' => forL K S p q g tb xs ρ' a' b' Po
    | .ct ρ' => forL K S p q g tb xs ρ' a' b' Po
    | .bk ρ' => Po a' b' (.nx ρ')
    | .rt v => Po a' b' (.rt v)
theorem rl_for (np : ¬ S.mutb p) (nq : ¬ S.mutb q) {wi : TI} {g : TG} {tb : TS} (h : EvI K (S2 S p q) wi ρ fun ds => forL K S p q g tb ds ρ a b Po) : RunL K S p q (tFor wi g tb) ρ a b Po := fun σ H hi hc he D q1 q2 q3 q4 =>
  h σ H (hc.inv hi) he _ fun J ds H1 t1 W p1 => by
    refine ⟨fun i m σ' H' => m = ds.length - i ∧ i ≤ ds.length ∧ ToL S p q H1 H' ∧ ∃ ρ' a' b', CtL K S p q H' a' b' ∧ EnvOk K ((S2 S p q).view H') σ' ρ' ∧ forL K S p q g tb (ds.drop i) ρ' a' b' Po,
      ⟨_, rfl, Nat.zero_le _, .refl t1.inv.1.1, ρ, a, b, hc.on np nq t1, he.mono t1.ex, p1⟩, ?_⟩
    rintro i m σ' H' ⟨rfl, hl, t, ρ', a', b', hc', he', po⟩
    have inv' : (S2 S p q).inv H' := hc'.inv t.inv
    by_cases hlt : i < ds.length
    · refine .inr ⟨W.go (S2 S p q) H' i inv' t.ex hlt, fun σ2 H2 => i + 1 ≤ ds.length ∧ ToL S p q H1 H2 ∧ ∃ ρ2 a2 b2, CtL K S p q H2 a2 b2 ∧ EnvOk K ((S2 S p q).view H2) σ2 ρ2 ∧ forL K S p q g tb (ds.drop (i + 1)) ρ2 a2 b2 Po, fun σ2 H2 n => ⟨ds.length - (i + 1), by omega, rfl, n⟩, fun x H2 y => ?_⟩
      obtain ⟨t2, d, hd, hx⟩ := W.yld (S2 S p q) H' i x H2 inv' t.ex hlt y
      rw [drop_cons hd] at po
      refine po x σ' H2 t2.inv (he'.mono t2.ex) hx _ fun ρ3 σ3 H3 t3 e3 p3 => ?_
      have b3 := t.trans (toL (t2.trans t3))
      have b0 := (toL t1).trans b3
      refine p3 σ3 H3 t3.inv.1.1 (hc'.on np nq (t2.trans t3)) e3 _ (fun a4 b4 ρ4 σ4 H4 t4 h4 e4 p4 => ⟨hlt, b3.trans t4, ρ4, a4, b4, h4, e4, p4⟩) (fun a4 b4 v w H4 t4 i4 p4 => q2 a4 b4 v w H4 (b0.trans t4) i4 p4) (fun a4 b4 ρ4 σ4 H4 t4 h4 e4 p4 => q1 a4 b4 ρ4 σ4 H4 (b0.trans t4) h4 e4 p4)
        fun a4 b4 ρ4 σ4 H4 t4 h4 e4 p4 => ⟨hlt, b3.trans t4, ρ4, a4, b4, h4, e4, p4⟩
    · have e : i = ds.length := by omega
      subst e
      rw [List.drop_length] at po
      exact .inl ⟨W.stop (S2 S p q) H' _ inv' t.ex (Nat.le_refl _), q1 a' b' ρ' σ' H' ((toL t1).trans t) hc' he' po⟩
theorem set_same {σ : L2.St} {i : Nat} {v : V} (h : σ[i]? = some (some v)) : σ.set i (some v) = σ := by
  refine List.ext_getElem? fun j => ?_
  by_cases c : i = j
  · subst c
    rw [List.getElem?_set_self (List.getElem?_eq_some_iff.mp h).1, h]
  · rw [List.getElem?_set_ne c]
/-- the lists grow no more -/
theorem rl_done {i j : Nat} (nh : ¬ S.hid p) (nq : ¬ S.hid q) (h0 : ρ[i]? = some (some (.v (.ref p)))) (h1 : ρ[j]? = some (some (.v (.ref q)))) (h : Run K S t ((ρ.set i (some (.d (.list a)))).set j (some (.d (.list b)))) fun o => match o with
    | .rt x => Po a b (.rt x)
    | _ => False) : RunL K S p q t ρ a b Po := fun σ H hi hc he D q1 q2 q3 q4 => by
  obtain ⟨v0, e0, rfl⟩ := he.get i _ h0
  obtain ⟨v1, e1, rfl⟩ := he.get j _ h1
  obtain ⟨⟨ys, ey, dy⟩, zs, ez, dz⟩ := id hc
  have ex : Evl.Ex ((S2 S p q).view H) (S.view H) := fun c o e => hide_ex (S := S) (D := p) H c o (hide_ex (S := S.hide p) (D := q) H c o e)
  have he2 : EnvOk K (S.view H) σ ((ρ.set i (some (.d (.list a)))).set j (some (.d (.list b)))) := by
    have r := ((he.mono ex).set i (v := .ref p) (x := .d (.list a)) (show Dp K (S.view H) (.ref p) (.list a) from .lst (.inl (.inl (view_some.mpr ⟨nh, ey⟩))) (dpAll_mono ex _ _ dy))).set j (v := .ref q) (x := .d (.list b)) (show Dp K (S.view H) (.ref q) (.list b) from .lst (.inl (.inl (view_some.mpr ⟨nq, ez⟩))) (dpAll_mono ex _ _ dz))
    rw [set_same e0, set_same e1] at r
    exact r
  exact h σ H hi he2 D (fun _ _ _ _ _ z => z.elim) (fun x v H2 t2 i2 p2 => q2 a b x v H2 (.of t2) i2 p2) (fun _ _ _ _ _ z => z.elim) fun _ _ _ _ _ z => z.elim
end
end Tw
/-! two lists, begun -/
namespace Tw
open PySem PySem.Spec PyProof.Rows L2
section
variable {K : PySem.W.Frag} {S : Side} {ρ : Rho}
theorem run_lists2 {i j : Nat} {rest : TS} {P : Out → Prop} (h : ∀ p q, p ≠ q → ¬ S.hid p → ¬ S.hid q → RunL K S p q rest ((ρ.set i (some (.v (.ref p)))).set j (some (.v (.ref q)))) [] [] fun _ _ o => match o with
    | .rt x => P (.rt x)
    | _ => False) : Run K S (tSeq (tPar i j (tCons (tLst tNil) (tCons (tLst tNil) tNil))) rest) ρ P := fun σ H hi he D q1 q2 _ _ => by
  refine ⟨Nat.zero_le _, fun p np => ⟨Nat.zero_le _, fun q nq => ⟨_, _, rfl, ?_⟩⟩⟩
  have npq : p ≠ q := fun e => by
    rw [← e, upd_same] at nq
    cases nq
  have nq0 : H q = none := by
    rw [upd_ne (Ne.symm npq)] at nq
    exact nq
  have hp : ¬ S.hid p := nhid hi np
  have t1 := Side.To.new (S := S) (o := .lst []) hi np
  have hq : ¬ S.hid q := nhid hi nq0
  have t2 := Side.To.new (S := S) (o := .lst []) t1.inv nq
  have ex : Evl.Ex (S.view H) ((S2 S p q).view (upd (upd H p (.lst [])) q (.lst []))) := fun c o e => by
    obtain ⟨n, e⟩ := view_some.mp e
    have c1 : c ≠ p := ne_of_none e np
    have c2 : c ≠ q := ne_of_none e nq0
    exact view_some.mpr ⟨fun z => z.elim (fun z => z.elim n c1) c2, by rw [upd_ne c2, upd_ne c1]; exact e⟩
  exact h p q npq hp hq _ _ (t1.trans t2).inv ⟨⟨[], by rw [upd_ne npq, upd_same], .nil⟩, [], upd_same, .nil⟩ (((he.mono ex).set i (v := .ref p) (x := .v (.ref p)) rfl).set j (v := .ref q) (x := .v (.ref q)) rfl) D (fun _ _ _ _ _ _ _ _ z => z.elim)
    (fun _ _ x v H2 t i2 p2 => q2 x v H2 ⟨t.inv, fun c o n e => by
      have c1 : c ≠ p := ne_of_none e np
      have c2 : c ≠ q := ne_of_none e nq0
      exact t.keep c o n c1 c2 (by rw [upd_ne c2, upd_ne c1]; exact e)⟩ i2 p2) (fun _ _ _ _ _ _ _ _ z => z.elim) fun _ _ _ _ _ _ _ _ z => z.elim
/-- a comprehension that draws: some of the items, each with an int of one's own -/
theorem lcW_draw {j : Nat} {tt : TT} {te : TE} {m : Int} : ∀ (l : List Str) (acc : List PyData) {kc : List PyData → Prop}, (∀ x ∈ l, ∀ PB : Bool → Prop, (∀ b, PB b) → EvT K S tt (ρ.set j (some (.d (.str x)))) PB) →
    (∀ x ∈ l, ∀ P : DV → Prop, (∀ k : Int, 0 ≤ k → k < m → P (.d (itemD (x, k)))) → Ev K S te (ρ.set j (some (.d (.str x)))) P) →
    (∀ es : List (Str × Int), (es.map (·.1)).Sublist l → (∀ e ∈ es, 0 ≤ e.2 ∧ e.2 < m) → kc (acc ++ es.map itemD)) → lcW K S ρ j tt te (l.map PyData.str) acc kc
  | [], acc, kc, _, _, k => by
    have q := k [] (List.Sublist.refl _) (fun _ z => nomatch z)
    rw [List.map_nil, List.append_nil] at q
    exact q
  | x :: xs, acc, kc, h, g, k => by
    refine h x List.mem_cons_self _ fun b => ⟨fun _ => ?_, fun _ => ?_⟩
    · refine g x List.mem_cons_self _ fun n n0 n1 => ⟨_, rfl, ?_⟩
      refine lcW_draw xs _ (fun y hy => h y (List.mem_cons_of_mem _ hy)) (fun y hy => g y (List.mem_cons_of_mem _ hy)) fun es hs he => ?_
      rw [List.append_assoc]
      exact k ((x, n) :: es) (hs.cons₂ x) fun e he' => by
        rcases List.mem_cons.mp he' with z | z
        · rw [z]; exact ⟨n0, n1⟩
        · exact he e z
    · exact lcW_draw xs _ (fun y hy => h y (List.mem_cons_of_mem _ hy)) (fun y hy => g y (List.mem_cons_of_mem _ hy)) fun es hs he => k es (hs.cons x) he
end
end Tw
/-! a for beside two lists, told by what is done -/
namespace Tw
open PySem PySem.Spec PyProof.Rows L2
theorem forL_pre {K : PySem.W.Frag} {S : Side} {p q : Addr} {α : Type} {g : α → PyData} {gt : TG} {tb : TS} {Po : List PyData → List PyData → Out → Prop} {l0 : List α} (J : Rho → Prop) (fa fb : List α → List PyData)
    (step : ∀ done x rest ρ (Q : List PyData → List PyData → Out → Prop), done ++ x :: rest = l0 → J ρ → (∀ ρ', J ρ' → Q (fa (done ++ [x])) (fb (done ++ [x])) (.nx ρ')) → EvG K (S2 S p q) gt (.d (g x)) ρ fun ρ2 => RunL K S p q tb ρ2 (fa done) (fb done) Q)
    (fin : ∀ ρ, J ρ → Po (fa l0) (fb l0) (.nx ρ)) : ∀ (l done : List α) (ρ : Rho), done ++ l = l0 → J ρ → forL K S p q gt tb (l.map g) ρ (fa done) (fb done) Po
  | [], done, ρ, e, hJ => by
    rw [List.append_nil] at e
    rw [e]
    exact fin ρ hJ
  | x :: l, done, ρ, e, hJ => step done x l ρ _ e hJ fun ρ' hJ' => forL_pre J fa fb step fin l (done ++ [x]) ρ' (by rw [List.append_assoc]; exact e) hJ'
end Tw
/-! itertools.permutations: what is so of its type -/
namespace Tw
open PySem PySem.Spec PyProof.Rows L2
theorem lookup_perm_new : typeLookup (.type "itertools.permutations") "__new__" = pure (some (.builtin "itertools.permutations.__new__")) := by rw [typeLookup_type, builtinLookup_eq_fast]; kernel_rfl
theorem sub_perm : isSubtype (.type "itertools.permutations") (.type "itertools.permutations") = pure true := by rw [isSubtype_type]; kernel_rfl
theorem typeCall_perm (a : Value) : checkTypeCall "itertools.permutations" ⟨[a], []⟩ = pure () := by kernel_rfl
theorem newCall_perm (a : Value) : checkBuiltinCall "itertools.permutations.__new__" ⟨[.type "itertools.permutations", a], []⟩ = pure () := by kernel_rfl
theorem entry_perm_new : entryFor table "itertools.permutations.__new__" = some Builtin.«itertools.permutations.__new__» := entryFor_of_tree (by kernel_rfl)
theorem slot_perm_iter : Slot "itertools.permutations" "__iter__" "itertools.permutations.__iter__" :=
  .of (owner := "itertools.permutations") (n := "__iter__") (by rw [typeLookup_type, builtinLookup_eq_fast]; kernel_rfl) (by decide +kernel) (by decide +kernel) (by decide +kernel)
    (by first | exact .inl (by decide +kernel) | exact .inr (by decide +kernel)) sub_perm
theorem slot_perm_next : Slot "itertools.permutations" "__next__" "itertools.permutations.__next__" :=
  .of (owner := "itertools.permutations") (n := "__next__") (by rw [typeLookup_type, builtinLookup_eq_fast]; kernel_rfl) (by decide +kernel) (by decide +kernel) (by decide +kernel)
    (by first | exact .inl (by decide +kernel) | exact .inr (by decide +kernel)) sub_perm
theorem entry_perm_next : entryFor table "itertools.permutations.__next__" = some Builtin.«itertools.permutations.__next__» := entryFor_of_tree (by kernel_rfl)
theorem noDict_perm : typeHasDict (.type "itertools.permutations") = false := by decide +kernel
theorem mro_perm : mroOf (.type "itertools.permutations") = pure [.type "itertools.permutations", .type "object"] := by rw [mroOf_type]; kernel_rfl
theorem slot_perm_init : Slot "itertools.permutations" "__init__" "object.__init__" :=
  .of (owner := "object") (n := "__init__") (by rw [typeLookup_type, builtinLookup_eq_fast]; kernel_rfl) (by decide +kernel) (by decide +kernel) (by decide +kernel)
    (by first | exact .inl (by decide +kernel) | exact .inr (by decide +kernel)) (by rw [isSubtype_type]; kernel_rfl)
theorem called_perm : TypeCalled "itertools.permutations" "itertools.permutations.__new__" "object.__init__" :=
  ⟨by decide +kernel, by decide +kernel, ⟨_, _, mro_perm⟩, madeBy_type mro_perm lookup_perm_new (by decide +kernel), by decide +kernel, sub_perm, slot_perm_init⟩
theorem entry_perm_iter : entryFor table "itertools.permutations.__iter__" = some Builtin.«dict_keyiterator.__iter__» :=
  entryFor_alias (id' := "dict_keyiterator.__iter__") (by kernel_rfl) (by first | rfl | decide +kernel | (unfold String.splitOn; simp +decide [String.splitOnAux])) (by decide +kernel) (by kernel_rfl)
theorem owner_perm : Manifest.owners.lookup (String.ofList ['s', 'n', 'o', 'i', 't', 'a', 't', 'u', 'm', 'r', 'e', 'p', '.', 's', 'l', 'o', 'o', 't', 'r', 'e', 't', 'i'].reverse) = some Manifest.sig_itertools_permutations := by kernel_rfl
end Tw
/-! permutations(l), made -/
namespace Tw
open PySem PySem.Spec PyProof.Rows L2
theorem perm_made (l : Addr) (vs : List Value) (hz : vs.length ≤ 100) : Meets (Builtin.«itertools.permutations.__new__» ⟨[.type "itertools.permutations", .ref l], []⟩) (fun _ R s => s.heap.IsList l vs.toArray ∧
    ∀ h' it p, (∀ b o, s.heap.get? b = some o → h'.get? b = some o) → s.heap.objs.size ≤ it → s.heap.objs.size ≤ p → it ≠ p → h'.IsTuple p vs.toArray → h'.get? it = some { cls := .type "itertools.permutations", dict := none, data := .fields ((([.ref p, rawInt 0, rawInt (vs.length : Int), .none] ++ (List.range vs.length).map fun (i : Nat) => rawInt i) ++ (List.range vs.length).map fun (i : Nat) => rawInt ((vs.length : Int) - i)).toArray), slots := #[] } → R (.ok (.ret (.ref it))) { s with heap := h' }) :=
  .of_wp fun prog w A R s h => by
    obtain ⟨hl, h⟩ := h
    have hsub := sub_perm
    have hd := noDict_perm
    unfold Builtin.«itertools.permutations.__new__»
    wp_walk using collect_list hl
    have es : ("itertools." ++ "permutations" : String) = "itertools.permutations" := by decide
    rw [es, hsub]
    refine wpAny_pure ?_
    simp only [Bool.not_true, Bool.false_eq_true, if_false]
    refine wpAny_pure ?_
    refine wpAny_bind (wpAny_of_eq (a := [some (.ref l), none]) (by rfl) ?_)
    dsimp only
    refine wpAny_bind (collect_list hl ?_ (Nat.le_trans hz (by decide)))
    dsimp only [Option.getD]
    refine wpAny_bind (wpAny_pure ?_)
    rw [if_neg (by omega)]
    have et : Builtin.Itertools.itTooMany (vs.length : Int) = false := by
      unfold Builtin.Itertools.itTooMany
      exact decide_eq_false (by omega)
    rw [if_neg (by rw [et]; exact Bool.false_ne_true)]
    rw [if_neg (by omega), Int.toNat_natCast]
    refine wpAny_bind (wpAny_newTuple ?_ (Nat.le_trans hz (by decide)))
    unfold Builtin.Itertools.itNewRecord
    rw [hd]
    simp only [Bool.not_false, if_true]
    refine wpAny_bind (wpAny_newObj_type ?_ ?_)
    · have z1 : ((s.heap.push (seqObj "list" #[] 0)).update s.heap.objs.size (Obj.mapSeq fun x => x ++ vs.toArray)).objs.size = s.heap.objs.size + 1 := by rw [Heap.size_update, Heap.size_push]
      have k1 : ∀ b o, s.heap.get? b = some o → ((s.heap.push (seqObj "list" #[] 0)).update s.heap.objs.size (Obj.mapSeq fun x => x ++ vs.toArray)).get? b = some o := fun b o e => by
        rw [Heap.get?_update_other _ _ (Nat.ne_of_gt (Heap.lt_size e))]
        exact Heap.get?_push_of_some _ e
      generalize (s.heap.push (seqObj "list" #[] 0)).update s.heap.objs.size (Obj.mapSeq fun x => x ++ vs.toArray) = h1 at z1 k1 ⊢
      refine wpAny_pure ⟨_, rfl, h _ _ h1.objs.size (fun b o e => Heap.get?_push_of_some _ (Heap.get?_push_of_some _ (k1 b o e))) ?_ (by rw [z1]; exact Nat.le_succ _) ?_ ⟨_, Heap.get?_push_of_some _ (Heap.get?_push_size _ rfl), rfl, 0, rfl⟩ (Heap.get?_push_size _ rfl)⟩
      · show s.heap.objs.size ≤ (h1.push _).objs.size
        rw [Heap.size_push, z1]
        omega
      · show (h1.push _).objs.size ≠ h1.objs.size
        rw [Heap.size_push]
        omega
    · show _ ≤ _
      simp only [List.size_toArray, List.length_append, List.length_map, List.length_range, List.length_cons, List.length_nil]
      exact Nat.le_trans (show _ ≤ 300 by omega) (by decide)
end Tw
/-! permutations(l): called, walked -/
namespace Tw
open PySem PySem.Spec PyProof.Rows L2
/-- the iterator: its state, its pool, the last tuple, the indices, the cycles -/
abbrev IsPerm (h : Heap) (it : Addr) (st : Int) (p : Addr) (n : Nat) (last : Value) (ix cy : List Int) : Prop :=
  h.get? it = some { cls := .type "itertools.permutations", dict := none, data := .fields ((([.ref p, rawInt st, rawInt (n : Int), last] ++ ix.map rawInt) ++ cy.map rawInt).toArray), slots := #[] }
theorem args_perm_iter (a : Value) : argsOk "itertools.permutations.__iter__" ⟨[a], []⟩ := by
  unfold argsOk; rw [signature?_of (id := "itertools.permutations.__iter__") (n := ['_', '_', 'r', 'e', 't', 'i', '_', '_']) (o := ['s', 'n', 'o', 'i', 't', 'a', 't', 'u', 'm', 'r', 'e', 'p', '.', 's', 'l', 'o', 'o', 't', 'r', 'e', 't', 'i']) (by kernel_rfl) owner_perm]; kernel_rfl
theorem args_perm_next (a : Value) : argsOk "itertools.permutations.__next__" ⟨[a], []⟩ := by
  unfold argsOk; rw [signature?_of (id := "itertools.permutations.__next__") (n := ['_', '_', 't', 'x', 'e', 'n', '_', '_']) (o := ['s', 'n', 'o', 'i', 't', 'a', 't', 'u', 'm', 'r', 'e', 'p', '.', 's', 'l', 'o', 'o', 't', 'r', 'e', 't', 'i']) (by kernel_rfl) owner_perm]; kernel_rfl
section
variable {prog : Program} {w : World} {A : Around} {E : Value → Shared → Prop} {s : Shared}
theorem call_perm {l : Addr} {vs : List Value} {Q : Value → Shared → Prop} (hl : s.heap.IsList l vs.toArray) (hz : vs.length ≤ 100)
    (h : ∀ h' it p, (∀ b o, s.heap.get? b = some o → h'.get? b = some o) → s.heap.objs.size ≤ it → s.heap.objs.size ≤ p → it ≠ p → h'.IsTuple p vs.toArray →
      IsPerm h' it 0 p vs.length .none ((List.range vs.length).map fun (i : Nat) => (i : Int)) ((List.range vs.length).map fun (i : Nat) => (vs.length : Int) - i) → Q (.ref it) { s with heap := h' }) :
    wpAny (model prog w) A (call (.type "itertools.permutations") [.ref l]) Q E s := by
  refine callType_new called_perm (by decide +kernel) (typeCall_perm _) (newCall_perm _) (fun obj => F.args_object_init_2 obj _) entry_perm_new (perm_made l vs hz) ?_
  refine ⟨hl, fun h' it p k z1 z2 ne ht hg => ?_⟩
  exact ⟨⟨_, hg, rfl⟩, h h' it p k z1 z2 ne ht (by unfold IsPerm; rw [List.map_map, List.map_map]; exact hg)⟩
theorem iter_perm {it p : Addr} {st : Int} {n : Nat} {last : Value} {ix cy : List Int} {Q : Value → Shared → Prop} (hit : IsPerm s.heap it st p n last ix cy) (h : Q (.ref it) s) : wpAny (model prog w) A (pyIter (.ref it)) Q E s := by
  have hT : s.TypeIs (.ref it) "itertools.permutations" := ⟨_, hit, rfl⟩
  refine wpAny_pyIter_slot hT slot_perm_iter (wpAny_call_entry slot_perm_iter hT entry_perm_iter ?_ (args_perm_iter _))
  show wpAny _ _ (ret (.ref it)) _ _ s
  exact wpAny_pure ⟨_, rfl, "itertools.permutations", _, hT, slot_perm_next.lookup, h⟩
end
end Tw
/-! permutations(l): the first order -/
namespace Tw
open PySem PySem.Spec PyProof.Rows L2
section
variable {prog : Program} {w : World} {A : Around} {E : Value → Shared → Prop} {s : Shared}
/-- the order that the indices tell -/
def orderOf (items : Array Value) (ix : List Int) : List Value := ix.map fun i => items.getD i.toNat .none
/-- the state after an order was given out -/
structure PermOut (h h' : Heap) (it p t : Addr) (items : Array Value) (n : Nat) (ix cy : List Int) : Prop where
  perm : IsPerm h' it 1 p n (.ref t) ix cy
  tup : h'.get? t = some { cls := .type "tuple", data := .seq (orderOf items (ix.take n)).toArray }
  new : h.objs.size ≤ t
  keep : ∀ b o, b ≠ it → h.get? b = some o → h'.get? b = some o
theorem drop4 (a b c d : Value) (l : List Value) : (([a, b, c, d] ++ l).toArray).toList.drop 4 = l := rfl
theorem nums_of (ix cy : List Int) : ((ix.map rawInt ++ cy.map rawInt).map fun x => match x with | .int n _ => n.toNat | _ => 0) = (ix ++ cy).map Int.toNat := by
  rw [← List.map_append, List.map_map]
  rfl
theorem perm_first {it p : Addr} {items : Array Value} {n : Nat} {ix cy : List Int} {Q : Option Value → Shared → Prop} (hit : IsPerm s.heap it 0 p n .none ix cy) (hp : s.heap.IsTuple p items) (hn : items.size ≤ 100)
    (hl : ix.length = n) (hz : n ≤ 100) (hQ : ∀ h' t, PermOut s.heap h' it p t items n ix cy → Q (some (.ref t)) { s with heap := h' }) : wpAny (model prog w) A (pyNext (.ref it)) Q E s := by
  have hT : s.TypeIs (.ref it) "itertools.permutations" := ⟨_, hit, rfl⟩
  unfold pyNext
  refine wpAny_bind (wpAny_attempt (wpAny_callSpecial?_slot (name := Str.ofString "__next__") hT slot_perm_next (wpAny_call_entry slot_perm_next hT entry_perm_next ?_ (args_perm_next _))))
  unfold Builtin.«itertools.permutations.__next__»
  refine wpAny_bind (wpAny_pure ?_)
  refine wpAny_bind (wpAny_field hit rfl (x := .ref p) rfl ?_)
  obtain ⟨o, ho, hc, k, hd⟩ := hp
  refine wpAny_bind ?_
  refine wpAny_bind (wpAny_seqItems ho hd ?_)
  refine wpAny_pure ?_
  refine wpAny_bind ?_
  refine wpAny_bind (wpAny_field hit rfl (x := rawInt (n : Int)) rfl (wpAny_pure ?_))
  refine wpAny_bind ?_
  unfold Builtin.Itertools.itNumbersFrom
  refine wpAny_bind (wpAny_load hit ?_)
  refine wpAny_pure ?_
  refine wpAny_bind ?_
  refine wpAny_bind (wpAny_field hit rfl (x := rawInt 0) rfl (wpAny_pure ?_))
  refine wpAny_bind (wpAny_setField hit rfl (by simp) ?_)
  rw [show ([Value.ref p, rawInt 0, rawInt (n : Int), Value.none] ++ List.map rawInt ix ++ List.map rawInt cy) = [Value.ref p, rawInt 0, rawInt (n : Int), Value.none] ++ (List.map rawInt ix ++ List.map rawInt cy) from List.append_assoc .., drop4, ← List.map_append, List.map_map]
  generalize hL : List.map (_ : Int → Nat) (ix ++ cy) = L
  have eL : L = (ix ++ cy).map Int.toNat := by rw [← hL]; rfl
  rw [eL]
  have hit1 : IsPerm (s.heap.update it (Obj.mapFields fun x => x.setIfInBounds 1 (rawInt 1))) it 1 p n .none ix cy := by
    refine (Heap.get?_update_self _ hit rfl).trans ?_
    simp [Obj.mapFields]
  have k1 : ∀ b o, b ≠ it → s.heap.get? b = some o → (s.heap.update it (Obj.mapFields fun x => x.setIfInBounds 1 (rawInt 1))).get? b = some o := fun b o nb e => (Heap.get?_update_other _ _ (Ne.symm nb)).trans e
  have z1 : (s.heap.update it (Obj.mapFields fun x => x.setIfInBounds 1 (rawInt 1))).objs.size = s.heap.objs.size := Heap.size_update ..
  generalize s.heap.update it (Obj.mapFields fun x => x.setIfInBounds 1 (rawInt 1)) = h1 at hit1 k1 z1 ⊢
  have eo : (((ix ++ cy).map Int.toNat).take (n : Int).toNat).map (fun i => items.getD i Value.none) = orderOf items (ix.take n) := by
    rw [Int.toNat_natCast, List.map_append, List.take_append_of_le_length (by rw [List.length_map, hl]; exact Nat.le_refl _), ← List.map_take, List.map_map]
    rfl
  dsimp only
  rw [eo]
  refine wpAny_bind (wpAny_newTuple ?_ ?_)
  · have hit2 : IsPerm (h1.push { cls := .type "tuple", data := .seq (orderOf items (ix.take n)).toArray }) it 1 p n .none ix cy := Heap.get?_push_of_some _ hit1
    show wpAny _ _ (field (.ref it) 3 >>= _) _ _ _
    refine wpAny_bind (wpAny_field hit2 rfl (x := .none) rfl ?_)
    refine wpAny_bind (wpAny_setField hit2 rfl (by simp) ?_)
    refine wpAny_bind (wpAny_letGo ?_)
    refine wpAny_pure ⟨_, rfl, wpAny_pure ?_⟩
    have hlt : it < h1.objs.size := Heap.lt_size hit1
    refine hQ _ h1.objs.size ⟨?_, ?_, by rw [z1]; exact Nat.le_refl _, fun b o nb e => ?_⟩
    · refine (Heap.get?_update_self _ hit2 rfl).trans ?_
      simp [Obj.mapFields]
    · exact (Heap.get?_update_other _ _ (Nat.ne_of_lt hlt)).trans (Heap.get?_push_size _ rfl)
    · exact (Heap.get?_update_other _ _ (Ne.symm nb)).trans (Heap.get?_push_of_some _ (k1 b o nb e))
  · unfold orderOf
    rw [List.length_map, List.length_take]
    exact Nat.le_trans (Nat.min_le_left _ _) (Nat.le_trans hz (by decide))
end
end Tw
/-! permutations(l): the next order -/
namespace Tw
open PySem PySem.Spec PyProof.Rows L2
/-- the states from a state on -/
def statesF (f : Nat → Nat → List Nat → List Nat → Option (List Nat × List Nat)) (n : Nat) : Nat → List Nat → List Nat → List (List Nat × List Nat)
  | 0, _, _ => []
  | k + 1, ix, cy => (ix, cy) :: match f n n ix cy with
    | some (a, b) => statesF f n k a b
    | none => []
/-- all orders of a list, each item in turn ahead of the orders of the others -/
def ordN {α : Type} : Nat → List α → List (List α)
  | 0, l => [l]
  | k + 1, l => if l.length < 2 then [l] else (List.range l.length).flatMap fun i => (ordN k (l.take i ++ l.drop (i + 1))).map fun r => (l.drop i).take 1 ++ r
def cyc0 (n : Nat) : List Nat := (List.range n).map fun i => n - i
def sameL : List Nat → List Nat → Bool
  | [], [] => true
  | a :: l, b :: m => Nat.beq a b && sameL l m
  | _, _ => false
def checkP (f : Nat → Nat → List Nat → List Nat → Option (List Nat × List Nat)) (n : Nat) : Bool :=
  let l := statesF f n 121 (List.range n) (cyc0 n)
  let a := ordN 6 (List.range n)
  Nat.ble l.length 120 && Nat.ble 1 l.length && l.all (fun o => Nat.beq o.1.length n && Nat.beq o.2.length n && o.1.all (fun i => Nat.blt i n) && a.any fun o' => sameL o.1 o') && a.all fun o => l.any fun o' => sameL o'.1 o
theorem perm_on : ∃ f : Nat → Nat → List Nat → List Nat → Option (List Nat × List Nat), (∀ n : Nat, n < 6 → checkP f n = true) ∧ ∀ (prog : Program) (w : World) (A : Around) (E : Value → Shared → Prop) (s : Shared) (it p : Addr) (items : Array Value) (n : Nat) (last : Value) (ix cy : List Nat) (Q : Option Value → Shared → Prop),
    A.handled = none → IsPerm s.heap it 1 p n last (ix.map fun (i : Nat) => (i : Int)) (cy.map fun (i : Nat) => (i : Int)) → s.heap.IsTuple p items → items.size = n → ix.length = n → n ≤ 100 →
    (∀ a b, f n n ix cy = some (a, b) → ∀ h' t, PermOut s.heap h' it p t items n (a.map fun (i : Nat) => (i : Int)) (b.map fun (i : Nat) => (i : Int)) → Q (some (.ref t)) { s with heap := h' }) →
    (∀ a b, f n n ix cy = some (a, b) → a.length + b.length ≤ 1000) → (f n n ix cy = none → ∀ h', (∀ b o, b ≠ it → s.heap.get? b = some o → h'.get? b = some o) → Q none { s with heap := h' }) → wpAny (model prog w) A (pyNext (.ref it)) Q E s := by
  apply Exists.intro
  refine And.intro ?chk ?walk
  case walk =>
    intro prog w A E s it p items n last ix cy Q hh hit hp hn hl hz hQ hB hQ2
    have hT : s.TypeIs (.ref it) "itertools.permutations" := ⟨_, hit, rfl⟩
    unfold pyNext
    refine wpAny_bind (wpAny_attempt (wpAny_callSpecial?_slot (name := Str.ofString "__next__") hT slot_perm_next (wpAny_call_entry slot_perm_next hT entry_perm_next ?_ (args_perm_next _))))
    unfold Builtin.«itertools.permutations.__next__»
    refine wpAny_bind (wpAny_pure ?_)
    refine wpAny_bind (wpAny_field hit rfl (x := .ref p) rfl ?_)
    obtain ⟨o, ho, hc, k, hd⟩ := hp
    refine wpAny_bind ?_
    refine wpAny_bind (wpAny_seqItems ho hd ?_)
    refine wpAny_pure ?_
    refine wpAny_bind ?_
    refine wpAny_bind (wpAny_field hit rfl (x := rawInt (n : Int)) rfl (wpAny_pure ?_))
    refine wpAny_bind ?_
    unfold Builtin.Itertools.itNumbersFrom
    refine wpAny_bind (wpAny_load hit ?_)
    refine wpAny_pure ?_
    refine wpAny_bind ?_
    refine wpAny_bind (wpAny_field hit rfl (x := rawInt 1) rfl (wpAny_pure ?_))
    dsimp only
    generalize hL : List.map _ (List.drop 4 _) = L
    have eL : L = ix ++ cy := by
      rw [← hL, show ([Value.ref p, rawInt 1, rawInt (n : Int), last] ++ List.map rawInt (ix.map fun (i : Nat) => (i : Int)) ++ List.map rawInt (cy.map fun (i : Nat) => (i : Int))) = [Value.ref p, rawInt 1, rawInt (n : Int), last] ++ (List.map rawInt (ix.map fun (i : Nat) => (i : Int)) ++ List.map rawInt (cy.map fun (i : Nat) => (i : Int))) from List.append_assoc .., drop4, ← List.map_append, ← List.map_append, List.map_map, List.map_map]
      exact List.map_id _
    have e1 : L.take items.size = ix := by rw [eL, hn, ← hl, List.take_left]
    have e2 : L.drop items.size = cy := by rw [eL, hn, ← hl, List.drop_left]
    rw [e1, e2, hn, Int.toNat_natCast]
    split
    · rename_i h01
      exact absurd h01 (by decide)
    · split
      · rename_i a b heq
        have hq := hQ a b heq
        have hb := hB a b heq
        clear hQ hQ2 hB
        unfold Builtin.Itertools.itSetNumbersFrom
        refine wpAny_bind (wpAny_updateFields hit rfl ?_ ?_)
        · have hit1 : IsPerm (s.heap.update it (Obj.mapFields fun fs => fs.extract 0 4 ++ (List.map (fun (i : Nat) => rawInt (i : Int)) (a ++ b)).toArray)) it 1 p n last (a.map fun (i : Nat) => (i : Int)) (b.map fun (i : Nat) => (i : Int)) := by
            refine (Heap.get?_update_self _ hit rfl).trans ?_
            simp [Obj.mapFields]
            rfl
          have k1 : ∀ b' o, b' ≠ it → s.heap.get? b' = some o → (s.heap.update it (Obj.mapFields fun fs => fs.extract 0 4 ++ (List.map (fun (i : Nat) => rawInt (i : Int)) (a ++ b)).toArray)).get? b' = some o := fun b' o nb e => (Heap.get?_update_other _ _ (Ne.symm nb)).trans e
          have z1 : (s.heap.update it (Obj.mapFields fun fs => fs.extract 0 4 ++ (List.map (fun (i : Nat) => rawInt (i : Int)) (a ++ b)).toArray)).objs.size = s.heap.objs.size := Heap.size_update ..
          generalize s.heap.update it (Obj.mapFields fun fs => fs.extract 0 4 ++ (List.map (fun (i : Nat) => rawInt (i : Int)) (a ++ b)).toArray) = h1 at hit1 k1 z1 ⊢
          have eo : (a.take n).map (fun i => items.getD i Value.none) = orderOf items ((a.map fun (i : Nat) => (i : Int)).take n) := by
            unfold orderOf
            rw [← List.map_take, List.map_map]
            rfl
          rw [eo]
          refine wpAny_bind (wpAny_newTuple ?_ ?_)
          · have hit2 : IsPerm (h1.push { cls := .type "tuple", data := .seq (orderOf items ((a.map fun (i : Nat) => (i : Int)).take n)).toArray }) it 1 p n last (a.map fun (i : Nat) => (i : Int)) (b.map fun (i : Nat) => (i : Int)) := Heap.get?_push_of_some _ hit1
            show wpAny _ _ (field (.ref it) 3 >>= _) _ _ _
            refine wpAny_bind (wpAny_field hit2 rfl (x := last) rfl ?_)
            refine wpAny_bind (wpAny_setField hit2 rfl (by simp) ?_)
            refine wpAny_bind (wpAny_letGo ?_)
            refine wpAny_pure ⟨_, rfl, wpAny_pure ?_⟩
            have hlt : it < h1.objs.size := Heap.lt_size hit1
            refine hq _ h1.objs.size ⟨?_, ?_, by rw [z1]; exact Nat.le_refl _, fun b' o nb e => ?_⟩
            · refine (Heap.get?_update_self _ hit2 rfl).trans ?_
              simp [Obj.mapFields]
            · exact (Heap.get?_update_other _ _ (Nat.ne_of_lt hlt)).trans (Heap.get?_push_size _ rfl)
            · exact (Heap.get?_update_other _ _ (Ne.symm nb)).trans (Heap.get?_push_of_some _ (k1 b' o nb e))
          · unfold orderOf
            rw [List.length_map, List.length_take]
            exact Nat.le_trans (Nat.min_le_left _ _) (Nat.le_trans hz (by decide))
        · have z : ((([Value.ref p, rawInt 1, rawInt (n : Int), last] ++ List.map rawInt (ix.map fun (i : Nat) => (i : Int)) ++ List.map rawInt (cy.map fun (i : Nat) => (i : Int))).toArray.extract 0 4 ++ (List.map (fun (i : Nat) => rawInt (i : Int)) (a ++ b)).toArray).size) ≤ 1004 := by
            rw [Array.size_append, Array.size_extract]
            simp
            omega
          exact Nat.le_trans z (by decide)
      · rename_i heq
        have hq := hQ2 heq
        clear hQ hQ2 hB
        refine wpAny_bind (wpAny_setField hit rfl (by simp) ?_)
        unfold Builtin.Itertools.itStop
        refine wpAny_bind ?_
        simp only [newExc, newTuple]
        refine wpAny_bind (wpAny_newObj_type ?_ (by size_fits))
        refine wpAny_bind (m := firstArgMember _ _) (wpAny_of_eq (a := Value.none) (by first | rfl | (simp only [firstArgMember]; rfl)) ?_)
        refine wpAny_newObj_type ?_ (by size_fits)
        simp only [raiseNew]
        refine wpAny_bind (wpAny_handled ?_)
        first | rw [show A.in1.handled = none from hh] | rw [hh]
        refine wpAny_bind (wpAny_pure (wpAny_throw ?_))
        refine wpAny_bind (wpAny_isInstance (T := "StopIteration") (b := true) ⟨_, Heap.get?_push_size _ rfl, rfl⟩ (by rw [isSubtype_type]; kernel_rfl) ?_)
        simp only [if_true]
        refine wpAny_pure (hq _ fun b o nb e => ?_)
        exact Heap.get?_push_of_some _ (Heap.get?_push_of_some _ ((Heap.get?_update_other _ _ (Ne.symm nb)).trans e))
    · rename_i h0 h1
      exact absurd rfl h1
  case chk => decide +kernel
end Tw
/-! permutations(l), walked -/
namespace Tw
open PySem PySem.Spec PyProof.Rows L2
noncomputable def permF : Nat → Nat → List Nat → List Nat → Option (List Nat × List Nat) := Classical.choose perm_on
theorem permF_check : ∀ n : Nat, n < 6 → checkP permF n = true := (Classical.choose_spec perm_on).1
noncomputable def permL (n : Nat) : List (List Nat × List Nat) := statesF permF n 121 (List.range n) (cyc0 n)
noncomputable def permSt (n : Nat) : Nat → Option (List Nat × List Nat)
  | 0 => some (List.range n, cyc0 n)
  | i + 1 => match permSt n i with
    | some (a, b) => permF n n a b
    | none => none
theorem permSt_none {n : Nat} : ∀ (j i : Nat), permSt n i = none → permSt n (i + j) = none
  | 0, i, h => h
  | j + 1, i, h => by
    have q := permSt_none j i h
    show (match permSt n (i + j) with | some (a, b) => permF n n a b | none => none) = none
    rw [q]
theorem permSt_from {n : Nat} : ∀ (k : Nat) (ix cy : List Nat) (i : Nat), permSt n i = some (ix, cy) → (statesF permF n k ix cy).length < k → ∀ j, permSt n (i + j) = (statesF permF n k ix cy)[j]?
  | 0, ix, cy, i, h, hl, j => absurd hl (Nat.not_lt_zero _)
  | k + 1, ix, cy, i, h, hl, 0 => h
  | k + 1, ix, cy, i, h, hl, j + 1 => by
    have e1 : permSt n (i + 1) = permF n n ix cy := by
      show (match permSt n i with | some (a, b) => permF n n a b | none => none) = _
      rw [h]
    cases q : permF n n ix cy with
    | none =>
      rw [q] at e1
      have e2 : statesF permF n (k + 1) ix cy = [(ix, cy)] := by
        show (ix, cy) :: (match permF n n ix cy with | some (a, b) => statesF permF n k a b | none => []) = _
        rw [q]
      rw [e2, show i + (j + 1) = (i + 1) + j by omega, permSt_none j (i + 1) e1]
      rfl
    | some x =>
      obtain ⟨a, b⟩ := x
      rw [q] at e1
      have e2 : statesF permF n (k + 1) ix cy = (ix, cy) :: statesF permF n k a b := by
        show (ix, cy) :: (match permF n n ix cy with | some (a, b) => statesF permF n k a b | none => []) = _
        rw [q]
      rw [e2] at hl ⊢
      rw [show i + (j + 1) = (i + 1) + j by omega]
      exact permSt_from k a b (i + 1) e1 (by rw [List.length_cons] at hl; omega) j
theorem sameL_eq : ∀ {l m : List Nat}, sameL l m = true → l = m
  | [], [], _ => rfl
  | a :: l, b :: m, h => by
    have h : (Nat.beq a b && sameL l m) = true := h
    rw [Bool.and_eq_true] at h
    rw [Nat.eq_of_beq_eq_true h.1, sameL_eq h.2]
  | [], _ :: _, h => Bool.noConfusion (show false = true from h)
  | _ :: _, [], h => Bool.noConfusion (show false = true from h)
structure PermOk (n : Nat) : Prop where
  le : (permL n).length ≤ 120
  ge : 1 ≤ (permL n).length
  each : ∀ x ∈ permL n, x.1.length = n ∧ x.2.length = n ∧ (∀ i ∈ x.1, i < n) ∧ x.1 ∈ ordN 6 (List.range n)
  all : ∀ o ∈ ordN 6 (List.range n), ∃ x ∈ permL n, x.1 = o
theorem permOk {n : Nat} (h : n < 6) : PermOk n := by
  have c := permF_check n h
  unfold checkP at c
  dsimp only at c
  rw [Bool.and_eq_true, Bool.and_eq_true, Bool.and_eq_true] at c
  obtain ⟨⟨⟨c1, c2⟩, c3⟩, c4⟩ := c
  refine ⟨Nat.le_of_ble_eq_true c1, Nat.le_of_ble_eq_true c2, fun x hx => ?_, fun o ho => ?_⟩
  · have q := List.all_eq_true.mp c3 x hx
    rw [Bool.and_eq_true, Bool.and_eq_true, Bool.and_eq_true] at q
    obtain ⟨⟨⟨q1, q2⟩, q3⟩, q4⟩ := q
    refine ⟨Nat.eq_of_beq_eq_true q1, Nat.eq_of_beq_eq_true q2, fun i hi => ?_, ?_⟩
    · exact Nat.le_of_ble_eq_true (List.all_eq_true.mp q3 i hi)
    · obtain ⟨o, ho, e⟩ := List.any_eq_true.mp q4
      rw [sameL_eq e]
      exact ho
  · obtain ⟨x, hx, e⟩ := List.any_eq_true.mp (List.all_eq_true.mp c4 o ho)
    exact ⟨x, hx, sameL_eq e⟩
theorem permSt_at {n : Nat} (h : n < 6) (j : Nat) : permSt n j = (permL n)[j]? := by
  have q := permSt_from (n := n) 121 (List.range n) (cyc0 n) 0 rfl (Nat.lt_of_le_of_lt (permOk h).le (by decide)) j
  rw [Nat.zero_add] at q
  exact q
theorem perm_next {n : Nat} (h : n < 6) {i : Nat} {x : List Nat × List Nat} (e : (permL n)[i]? = some x) : permF n n x.1 x.2 = (permL n)[i + 1]? := by
  rw [← permSt_at h, show permSt n (i + 1) = (match permSt n i with | some (a, b) => permF n n a b | none => none) from rfl, permSt_at h, e]
theorem perm_zero {n : Nat} : (permL n)[0]? = some (List.range n, cyc0 n) := rfl
/-- the items at the indices -/
def pickV (xs : List V) (ix : List Nat) : List V := ix.map fun i => xs.getD i .non
theorem pick_vals {xs : List V} {us : List Value} (r : Vals xs us) : ∀ (ix : List Nat), (∀ i ∈ ix, i < xs.length) → Vals (pickV xs ix) (ix.map fun i => us.toArray.getD i .none)
  | [], _ => .nil
  | i :: ix, h => by
    refine .cons ?_ (pick_vals r ix fun j hj => h j (List.mem_cons_of_mem _ hj))
    have hi := h i List.mem_cons_self
    obtain ⟨u, e, ru⟩ := r.get (List.getElem?_eq_getElem hi)
    dsimp only
    rw [List.getD_eq_getElem?_getD, List.getElem?_eq_getElem hi]
    rw [Array.getD_eq_getD_getElem?, List.getElem?_toArray, e]
    exact ru
theorem order_of {items : Array Value} {n : Nat} {a : List Nat} (h : a.length = n) : orderOf items ((a.map fun (i : Nat) => (i : Int)).take n) = a.map fun i => items.getD i .none := by
  unfold orderOf
  rw [List.take_of_length_le (by rw [List.length_map, h]; exact Nat.le_refl _), List.map_map]
  rfl
/-- all orders of the tuple at p, each a new tuple -/
noncomputable def ItP (K : PySem.W.Frag) (p : Addr) (n : Nat) : It :=
  ⟨fun i H => (∃ xs : List V, SqT K H p xs ∧ xs.length = n) ∧ i < (permL n).length,
    fun i H v H' => ∃ (T : Addr) (o : Obj) (x : List Nat × List Nat), v = .ref T ∧ H T = none ∧ o.dict = none ∧ (permL n)[i]? = some x ∧ ∀ xs, SqT K H p xs → H' = upd H T (.frz o (.tup (pickV xs x.1))),
    fun i H => (∃ xs : List V, SqT K H p xs ∧ xs.length = n) ∧ (permL n).length ≤ i⟩
noncomputable def tnP (p it : Addr) (n : Nat) : Nat → Heap → Prop
  | 0, h => IsPerm h it 0 p n .none ((List.range n).map fun (i : Nat) => (i : Int)) ((List.range n).map fun (i : Nat) => (n : Int) - i)
  | i + 1, h => ∃ x last, (permL n)[i]? = some x ∧ IsPerm h it 1 p n last (x.1.map fun (i : Nat) => (i : Int)) (x.2.map fun (i : Nat) => (i : Int))
theorem tnP_obj {p it : Addr} {n i : Nat} {h : Heap} (t : tnP p it n i h) : ∃ o, h.get? it = some o ∧ (∃ vs, o.data = .fields vs) ∧ o.cls = .type "itertools.permutations" := by
  match i, t with
  | 0, t => exact ⟨_, t, ⟨_, rfl⟩, rfl⟩
  | i + 1, t => obtain ⟨x, last, _, q⟩ := t; exact ⟨_, q, ⟨_, rfl⟩, rfl⟩
theorem cyc_cast (n : Nat) : ((List.range n).map fun (i : Nat) => (n : Int) - i) = (cyc0 n).map fun (i : Nat) => (i : Int) := by
  unfold cyc0
  rw [List.map_map]
  refine List.map_congr_left fun i hi => ?_
  have hi := List.mem_range.mp hi
  show (n : Int) - i = ((n - i : Nat) : Int)
  omega
theorem turn_perm {P : Program} {w : World} {K : PySem.W.Frag} {tg : Expr} {n : Nat} (hn : n < 6) (p it : Addr) : Turn P w K tg (ItP K p n) [it] it (tnP p it n) where
  mem := List.mem_singleton.mpr rfl
  obj := fun i h st b hb => by
    rw [List.mem_singleton.mp hb]
    obtain ⟨o, e, ⟨vs, d⟩, _⟩ := tnP_obj st
    exact ⟨o, e, fun v z => by rw [d] at z; cases z⟩
  keep := fun i h h' st k => by
    match i, st with
    | 0, st => exact k it (List.mem_singleton.mpr rfl) _ st
    | i + 1, st => obtain ⟨x, last, e, q⟩ := st; exact ⟨x, last, e, k it (List.mem_singleton.mpr rfl) _ q⟩
  item := by
    intro X hP hw hK hc i pins s σ H E I hf st hg
    subst hP hw hK
    obtain ⟨⟨xs, hq, hl⟩, hi⟩ := hg
    obtain ⟨its, rv, pt, hz⟩ := I.tuple hq
    have hil : its.length = n := by rw [← rv.length, hl]
    have hsz : its.toArray.size = n := by rw [List.size_toArray, hil]
    have fin : ∀ (x : List Nat × List Nat) (h' : Heap) (t : Addr), (permL n)[i]? = some x → PermOut s.heap h' it p t its.toArray n (x.1.map fun (i : Nat) => (i : Int)) (x.2.map fun (i : Nat) => (i : Int)) →
        ∃ u, some (Value.ref t) = some u ∧ wpAny (model X.prog X.w) X.A (letOwnedTupleGo tg (.ref it) u) (fun _ s2 => ∃ y H', Inv X pins σ H' s2 ∧ RelV y u ∧ (ItP X.K p n).yld i H y H' ∧ tnP p it n (i + 1) s2.heap ∧ ∀ b ∈ [it], H' b = none) E { s with heap := h' } := fun x h' t ex po => by
      obtain ⟨x1, x2, x3, _⟩ := (permOk hn).each x (List.mem_of_getElem? ex)
      have ht := po.tup
      rw [order_of x1] at ht
      have pv := pick_vals rv x.1 fun j hj => by rw [hl]; exact x3 j hj
      have hlt : it < s.heap.objs.size := by
        obtain ⟨o, e, _⟩ := tnP_obj st
        exact Heap.lt_size e
      have new : ObjOk X.prog X.w (upd H t (.frz { cls := .type "tuple", data := .seq (x.1.map fun i => its.toArray.getD i .none).toArray } (.tup (pickV xs x.1)))) h' t (.frz { cls := .type "tuple", data := .seq (x.1.map fun i => its.toArray.getD i .none).toArray } (.tup (pickV xs x.1))) :=
        ⟨ht, by
          show (pickV xs x.1).length ≤ sizeLine
          unfold pickV
          rw [List.length_map, x1]
          exact Nat.le_trans (show n ≤ 100 by omega) (by decide), _, pv, ⟨_, ht, rfl, _, rfl⟩⟩
      have I1 := I.turnedNew (t' := s.toks) (ch := [it]) (fun b o hb q => po.keep b o (fun z => hb (List.mem_singleton.mpr z)) q) hf po.new new
      refine ⟨_, rfl, go_of (s := { s with heap := h' }) po.perm rfl rfl (by decide) ⟨.ref t, _, I1, rfl, ⟨t, _, x, rfl, I.hok.fresh po.new, rfl, ex, fun ys hy => by rw [I.tuple_inj hy hq]⟩, ⟨x, _, ex, po.perm⟩, fun b hb => ?_⟩⟩
      rw [List.mem_singleton.mp hb, upd_ne (Nat.ne_of_lt (Nat.lt_of_lt_of_le hlt po.new))]
      exact (hf it (List.mem_singleton.mpr rfl)).1
    match i, st, hi, fin with
    | 0, st, hi, fin =>
      refine perm_first st (show s.heap.IsTuple p its.toArray from pt) (by rw [hsz]; omega) (by rw [List.length_map, List.length_range]) (by omega) fun h' t po => ?_
      rw [cyc_cast] at po
      exact fin _ h' t perm_zero po
    | i + 1, st, hi, fin =>
      obtain ⟨x, last, ex, q⟩ := st
      obtain ⟨x1, x2, x3, _⟩ := (permOk hn).each x (List.mem_of_getElem? ex)
      have nx := perm_next hn ex
      obtain ⟨y, ey⟩ : ∃ y, (permL n)[i + 1]? = some y := ⟨_, List.getElem?_eq_getElem hi⟩
      obtain ⟨y1, y2, _, _⟩ := (permOk hn).each y (List.mem_of_getElem? ey)
      rw [ey] at nx
      refine (Classical.choose_spec perm_on).2 X.prog X.w X.A E s it p its.toArray n last x.1 x.2 _ (I.ok.hd hc) q (show s.heap.IsTuple p its.toArray from pt) hsz x1 (by omega) (fun a b e h' t po => ?_) (fun a b e => ?_) (fun e => ?_)
      · have e2 : permF n n x.1 x.2 = some (a, b) := e
        rw [nx] at e2
        obtain rfl := Option.some.inj e2
        exact fin _ h' t ey po
      · have e2 : permF n n x.1 x.2 = some (a, b) := e
        rw [nx] at e2
        obtain rfl := Option.some.inj e2
        rw [show a.length = n from y1, show b.length = n from y2]
        omega
      · have e2 : permF n n x.1 x.2 = none := e
        rw [nx] at e2
        cases e2
  done := by
    intro X hP hw hK hc i pins s σ H E I hf st hg
    subst hP hw hK
    obtain ⟨⟨xs, hq, hl⟩, hg⟩ := hg
    obtain ⟨its, rv, pt, hz⟩ := I.tuple hq
    have hil : its.length = n := by rw [← rv.length, hl]
    have hsz : its.toArray.size = n := by rw [List.size_toArray, hil]
    match i, st, hg with
    | 0, st, hg => exact absurd (permOk hn).ge (by omega)
    | i + 1, st, hg =>
      obtain ⟨x, last, ex, q⟩ := st
      obtain ⟨x1, x2, x3, _⟩ := (permOk hn).each x (List.mem_of_getElem? ex)
      have nx := perm_next hn ex
      rw [List.getElem?_eq_none hg] at nx
      obtain ⟨f0, f1, f2, f3, f4, f5⟩ := hf it (List.mem_singleton.mpr rfl)
      refine (Classical.choose_spec perm_on).2 X.prog X.w X.A E s it p its.toArray n last x.1 x.2 _ (I.ok.hd hc) q (show s.heap.IsTuple p its.toArray from pt) hsz x1 (by omega) (fun a b e => ?_) (fun a b e => ?_) (fun _ h' k => ?_)
      · have e2 : permF n n x.1 x.2 = some (a, b) := e
        rw [nx] at e2
        cases e2
      · have e2 : permF n n x.1 x.2 = some (a, b) := e
        rw [nx] at e2
        cases e2
      · exact ⟨rfl, I.turned (t' := s.toks) k f0 f1 f3 f4 f5⟩
  self := fun A i s Q E st h => by
    match i, st with
    | 0, st => exact iter_perm st h
    | i + 1, st => obtain ⟨x, last, ex, q⟩ := st; exact iter_perm q h
/-- permutations(l) -/
noncomputable def iPerm (K : PySem.W.Frag) (ta : TA) : TI := fun σ H R => ta σ H fun vs H1 => ∃ a xs, vs = [.ref a] ∧ SqL K H1 a xs ∧ xs.length < 6 ∧ ∀ p, H1 p = none → R (ItP K p xs.length) (upd H1 p (.tup xs))
theorem pi_perm {X : Cx} {K : PySem.W.Frag} (hK : X.K = K) {e tg : Expr} {ta : TA} {p pos : Pos} (hg : Gl X "permutations") (hm : X.mg "permutations" = some (.type "itertools.permutations")) (ha : PA X [e] ta) (hs : starEach [e] X.env = [(false, eval e X.env)] := by rfl) :
    PI X tg (.Call (.Name "permutations" p) [e] [] pos) (iPerm K ta) := by
  subst hK
  refine ⟨fun pins s σ H R I h => ?_⟩
  refine Call_ (ld_glob I hg hm (PyProof.Rows.callWith_type1 (thn (ha.run pos pins s σ H _ I h) fun us s1 ⟨vs, H1, I1, r1, q1⟩ => ?_) hs rfl))
  obtain ⟨a, xs, rfl, hq, h6, q⟩ := q1
  rw [Vals.ref1 r1]
  obtain ⟨its, rv, p', hz⟩ := I1.list hq
  have hil : its.length = xs.length := rv.length.symm
  refine call_perm p'.isList (by omega) fun h' it pp keep z1 z2 ne ht hit => ?_
  rw [hil] at hit
  have I2 : Inv X pins σ (upd H1 pp (.tup xs)) { s1 with heap := h' } := I1.laid (t' := s1.toks) keep z2 ⟨hz, its, rv, ht⟩
  refine iter_perm (s := { s1 with heap := h' }) hit ⟨it, [it], _, _, _, rfl, I2, turn_perm h6 pp it, hit, fun b hb => ?_, q pp (I1.hok.fresh z2)⟩
  rw [List.mem_singleton.mp hb]
  exact I1.fpOk z1 (by rw [upd_ne ne]; exact I1.hok.fresh z1)
/-- the orders of data -/
def pickD (ds : List PyData) (ix : List Nat) : List PyData := ix.map fun i => ds.getD i .none
noncomputable def permD (ds : List PyData) : List PyData := (permL ds.length).map fun x => .tuple (pickD ds x.1)
section
variable {K : PySem.W.Frag} {S : Side} {ρ : Rho}
theorem pick_dp {M : Hp} {vs : List V} {ds : List PyData} (h : DpAll K M vs ds) : ∀ ix : List Nat, (∀ i ∈ ix, i < ds.length) → DpAll K M (pickV vs ix) (pickD ds ix)
  | [], _ => .nil
  | i :: ix, hi => by
    refine .cons ?_ (pick_dp h ix fun j hj => hi j (List.mem_cons_of_mem _ hj))
    have h1 := hi i List.mem_cons_self
    obtain ⟨v, e, d⟩ := dpa_get' h (List.getElem?_eq_getElem h1)
    dsimp only
    rw [List.getD_eq_getElem?_getD, e, List.getD_eq_getElem?_getD, List.getElem?_eq_getElem h1]
    exact d
theorem walk_perm {p : Addr} {vs : List V} {ds : List PyData} {M : Hp} (h : SqT K M p vs) (hd : DpAll K M vs ds) (h6 : ds.length < 6) : Walk K (ItP K p vs.length) (permD ds) M where
  go := fun S H i hi e hl => by
    unfold permD at hl
    rw [List.length_map] at hl
    exact ⟨⟨vs, ex_sqt (view_ex S H) (ex_sqt e h), rfl⟩, by rw [dpa_len hd]; exact hl⟩
  stop := fun S H i hi e hl => by
    unfold permD at hl
    rw [List.length_map] at hl
    exact ⟨⟨vs, ex_sqt (view_ex S H) (ex_sqt e h), rfl⟩, by rw [dpa_len hd]; exact hl⟩
  yld := fun S H i x H' hi e hl y => by
    obtain ⟨T, o, z, rfl, hn, ho, ez, hz⟩ := y
    rw [dpa_len hd] at ez
    have eH := hz vs (ex_sqt (view_ex S H) (ex_sqt e h))
    subst eH
    obtain ⟨_, _, x3, _⟩ := (permOk h6).each z (List.mem_of_getElem? ez)
    have t := Side.To.new (S := S) (o := .frz o (.tup (pickV vs z.1))) hi hn
    refine ⟨t, .tuple (pickD ds z.1), by unfold permD; rw [List.getElem?_map, ez]; rfl, ?_⟩
    exact .tup (.inl (.inr ⟨o, view_new hi hn⟩)) (dpAll_mono t.ex _ _ (dpAll_mono e _ _ (pick_dp hd z.1 x3))) fun _ => .inl ⟨o, _, view_new hi hn, ho⟩
theorem ei_perm {ta : TA} {P : List PyData → Prop} (h : EvA K S ta ρ fun xs => ∃ ds, xs = [.d (.list ds)] ∧ ds.length < 6 ∧ P (permD ds)) : EvI K S (iPerm K ta) ρ P := fun σ H hi he R r => h σ H hi he _ fun vs xs H1 t1 i1 p1 => by
  obtain ⟨ds, rfl, h6, p1⟩ := p1
  match vs, i1 with
  | [v], i1 =>
    obtain ⟨a, ws, rfl, ha, da⟩ := dp_lst i1.1
    refine ⟨a, ws, rfl, ex_sql (view_ex S H1) ha, by rw [dpa_len da]; exact h6, fun p np => ?_⟩
    have t := Side.To.new (S := S) (o := .tup ws) t1.inv np
    exact r _ _ _ (t1.trans t) (walk_perm (.inl (.inl (view_new t1.inv np))) (dpAll_mono t.ex _ _ da) h6) p1
end
end Tw
/-! len of a set of None, ints, texts: {.. for ..}, set(a list) -/
namespace Tw
open PySem PySem.Spec PyProof.Rows L2
section
variable {P : Program} {w : World} {A : Around} {E : Value → Shared → Prop} {s : Shared} {a : Addr}
theorem len_setG {κ : Type} [DecidableEq κ] {knd : KeyKind P w κ} {ks : List κ} {Q : Value → Shared → Prop} (R : SetG knd s.heap a ks) (h : ∀ t k, Q (.int ks.length t) { s with toks := k }) : wpAny (model P w) A (call (.builtin "len") [.ref a]) Q E s := by
  have hl := R.len
  obtain ⟨o, es, ep, t, ho, hex, hd, _, _, _, hf, hn⟩ := R.setOf
  refine call_len_set ho hex hd hf (by rw [hn]; exact Int.lt_trans (Int.ofNat_lt.mpr hl) (by decide)) ?_
  rw [hn]
  exact h _ _
theorem set_update_G {κ : Type} [DecidableEq κ] {knd : KeyKind P w κ} {I : Addr} {fp wr : List Addr} {G : Array GenState → Array GenState → Prop} {n : Nat} {Pv : Nat → Value → Prop} {St : Nat → Shared → Prop} {R : Result → Shared → Prop}
    (W : WalksS P w A.in1 I fp wr G n Pv St) (S : Addr) (hSf : S ∉ fp) (ns : List κ) (hn : n = ns.length) (hb : ns.length + 1 < scanBound) (hval : ∀ i v, Pv i v → ∃ k, ns[i]? = some k ∧ knd.is k v = true ∧ v.scannable = true) :
    ∀ (k i : Nat) (s : Shared), n - i = k → i ≤ n → St i s → SetG knd s.heap S ((ns.take i).foldl addK []) →
      (∀ s', Moved (S :: wr) G s s' → SetG knd s'.heap S (ns.foldl addK []) → R (.ok (.ret .none)) s') →
      codeAny (model P w) A (.builtin "set.update.loop" ⟨[.ref S, .ref I], []⟩) R s := by
  have hSw : S ∉ wr := fun h => hSf (W.sub _ h)
  have hsub : ∀ b ∈ wr, b ∈ S :: wr := fun b hb => List.mem_cons_of_mem _ hb
  have hlen : ∀ (l acc : List κ), (l.foldl addK acc).length ≤ acc.length + l.length := fun l => by
    induction l with
    | nil => intro acc; exact Nat.le_refl _
    | cons x l ih =>
      intro acc
      rw [List.foldl_cons, List.length_cons]
      have := ih (addK acc x)
      have := addK_len acc x
      omega
  intro k
  induction k with
  | zero =>
    intro i s hk' hi hst hS hR
    have hin : i = n := by omega
    subst hin
    refine codeAny_builtin F.entry_set_update_loop ?_
    rw [Around.under_plainId F.plain_set_update_loop _]
    show wpAny _ A.in1 (pyNext (.ref I) >>= _) _ _ s
    refine wpAny_bind (W.done s _ _ hst fun s' hm => ?_)
    show wpAny _ A.in1 (ret Value.none) _ _ s'
    have e : ns.take i = ns := List.take_of_length_le (by omega)
    rw [e] at hS
    exact wpAny_pure (hR s' (hm.mono hsub) (hS.at fun o e => hm.heap S o hSw e))
  | succ k ih =>
    intro i s hk' hi hst hS hR
    have hlt : i < n := by omega
    refine codeAny_builtin F.entry_set_update_loop ?_
    rw [Around.under_plainId F.plain_set_update_loop _]
    show wpAny _ A.in1 (pyNext (.ref I) >>= _) _ _ s
    refine wpAny_bind (W.item i s _ _ hlt hst fun v s' hP hst' hm => ?_)
    obtain ⟨z, hz, hzi, hzs⟩ := hval i v hP
    have hS' : SetG knd s'.heap S ((ns.take i).foldl addK []) := hS.at fun o e => hm.heap S o hSw e
    show wpAny _ A.in1 (holding [v] (setAdd S v) >>= _) _ _ s'
    refine wpAny_bind (wpAny_holding ?_)
    unfold setAdd
    refine wpAny_holding ?_
    refine wpAny_bind (knd.pyHash (k := z) hzi ?_)
    refine setG_hashed (s := { s' with toks := s'.toks + 1 }) hzi hzs hS' (by
      have q := hlen (ns.take i) []
      rw [List.length_take, List.length_nil] at q
      omega) fun b h' hsb hS2 => ?_
    have e2 : addK ((ns.take i).foldl addK []) z = (ns.take (i + 1)).foldl addK [] := by
      rw [List.take_add_one, hz, List.foldl_append]
      rfl
    rw [e2] at hS2
    refine wpAny_pure ⟨plainId_quiet F.plain_set_update_loop _, ih (i + 1) _ (by omega) hlt (W.frame _ s' _ _ hst' (Nat.le_succ _) fun b hb o e => ?_) hS2 fun s'' hm'' hS'' => ?_⟩
    · rw [hsb.2 b (fun h : b = S => hSf (by rw [← h]; exact hb))]; exact e
    · refine hR s'' (Moved.trans W.gtrans ((hm.mono hsub).then_heap (Nat.le_succ _) fun b o hb e => ?_) hm'') hS''
      rw [hsb.2 b (fun h : b = S => hb (by rw [h]; exact List.mem_cons_self))]; exact e
theorem call_set_lstG {κ : Type} [DecidableEq κ] {knd : KeyKind P w κ} {l : Addr} {items : Array Value} (ns : List κ) {Q : Value → Shared → Prop} (hh : A.handled = none) (hl : s.heap.IsList l items) (sz : items.size = ns.length) (vals : ∀ (i : Nat) (v : Value), items[i]? = some v → ∃ k, ns[i]? = some k ∧ knd.is k v = true ∧ v.scannable = true) (hb : ns.length + 1 < scanBound)
    (h : ∀ (h' : Heap) (tk : Nat), SetG knd h' s.heap.objs.size (ns.foldl addK []) → (∀ b o, s.heap.get? b = some o → h'.get? b = some o) → Q (.ref s.heap.objs.size) { s with heap := h', toks := tk }) :
    wpAny (model P w) A (call (.type "set") [.ref l]) Q E s := by
  obtain ⟨c, tl, hmro⟩ := F.called_set.mro
  have hmade := F.called_set.made
  have hsub := F.called_set.sub
  refine wpAny_call (codeAny_of_tree ?_)
  show wpAny _ _ (callAny (.type "set") _) _ _ _
  refine wpAny_pure ⟨Code.quiet_builtin _ (by decide +kernel), codeAny_builtin F.entry_type_call ?_⟩
  rw [Around.under_plain (weight_type_call_type "set" [.ref l] []) rfl]
  have h1 := F.called_set.notType
  have h2 := F.called_set.canCreate
  have hct := F.typeCall_set_1 (.ref l)
  repeat (any_goals (first | assumption | wp_step))
  refine codeAny_mono (code_set_led1 (.ref l) (E := E) (Q₁ := fun obj s₁ => obj = .ref s.heap.objs.size ∧ s₁ = { s with heap := s.heap.push (set0 w) }) ⟨rfl, rfl⟩) fun r s₁ hr => ?_
  match r, hr with
  | .error _, hr => exact hr
  | .ok (.ret obj), hr =>
    obtain ⟨rfl, rfl⟩ := hr
    obtain ⟨p, ep⟩ : ∃ p, p = s.heap.objs.size := ⟨_, rfl⟩
    obtain ⟨hp1, ehp⟩ : ∃ hp1, hp1 = s.heap.push (set0 w) := ⟨_, rfl⟩
    have at1 : hp1.get? p = some (set0 w) := by rw [ehp, ep]; exact Heap.get?_push_size _ rfl
    have z1 : hp1.objs.size = p + 1 := by rw [ehp, ep, Heap.size_push]
    have old1 : ∀ b o, s.heap.get? b = some o → hp1.get? b = some o := fun b o e => by rw [ehp]; exact Heap.get?_push_of_some _ e
    have ty : Shared.TypeIs { s with heap := hp1 } (.ref p) "set" := ⟨_, at1, rfl⟩
    rw [← ehp, ← ep]
    rw [← ep] at h
    have hli := F.called_set.init.lookup
    have hbi := F.called_set.init.bind (.ref p)
    repeat (any_goals (first | assumption | wp_step))
    refine codeAny_mono (codeAny_call_builtin (R := wants (fun r s₂ => r = .none ∧ ∃ h' tk, s₂ = { s with heap := h', toks := tk } ∧ SetG knd h' p (ns.foldl addK []) ∧ (∀ b o, s.heap.get? b = some o → h'.get? b = some o)) E) F.called_set.init.plain F.entry_set_init (check_set_init_1 ty ?_)) fun r₂ s₂ hr₂ => ?_
    · obtain ⟨⟨ocls, odict, odata, oslots⟩, hol, hcl, nl, hdl⟩ := hl
      obtain rfl : ocls = .type "list" := hcl
      obtain rfl : odata = .seq items nl := hdl
      have hol' := old1 _ _ hol
      have sb1 := F.sub_list_set
      have sb2 := F.sub_list_frozenset
      have ne : (Value.type "list" == Value.type "dict") = false := by decide
      have hl1 : hp1.IsList l items := ⟨_, hol', rfl, nl, rfl⟩
      have lp : l < p := by rw [ep]; exact Heap.lt_size hol
      unfold Builtin.«set.__init__» noKeywords Builtin.Frozenset.updateFrom
      generalize hPI : pyIter = PI
      wp_walk
      subst hPI
      refine wpAny_pyIter_list hl1 ?_
      refine wpAny_bind (wpAny_runValue ?_)
      have hh3 : A.in1.in1.in1.handled = none := by simp [hh]
      have neI : l ≠ hp1.objs.size := by rw [z1]; exact Nat.ne_of_lt (Nat.lt_succ_of_lt lp)
      have out : p ∉ [hp1.objs.size, l] := fun z => by
        rcases List.mem_cons.mp z with z | z
        · rw [z1] at z
          exact absurd z (Nat.ne_of_lt (Nat.lt_succ_self p))
        · exact absurd (List.mem_singleton.mp z) (Nat.ne_of_gt lp)
      refine set_update_G (knd := knd) ((Walks.list hh3 _ l neI items).toS) p out ns sz hb vals (items.size - 0) 0 _ (by omega) (Nat.zero_le _) ⟨⟨_, Heap.get?_push_size _ rfl, rfl, rfl⟩, hl1.push _⟩ (setG_new (Heap.get?_push_of_some _ at1)) fun s' hm hS' => ?_
      obtain ⟨h', g2, d', tk', os'⟩ := s'
      obtain rfl : g2 = s.gens := hm.gens
      obtain rfl : d' = s.drawn := hm.drawn
      obtain rfl : os' = s.os := hm.os
      refine wpAny_pure (wpAny_pure ⟨rfl, h', tk', rfl, hS', fun b o e => ?_⟩)
      have bp : b < p := by rw [ep]; exact Heap.lt_size e
      refine hm.heap b o (fun z => ?_) (Heap.get?_push_of_some _ (old1 b o e))
      rcases List.mem_cons.mp z with z | z
      · exact absurd z (Nat.ne_of_lt bp)
      · rw [List.mem_singleton.mp z, z1] at bp
        exact absurd bp (Nat.not_lt_of_le (Nat.le_succ p))
    · match r₂, hr₂ with
      | .error _, hr₂ => exact hr₂
      | .ok (.ret r), hr₂ =>
        obtain ⟨rfl, h', tk, rfl, hS', hk'⟩ := hr₂
        repeat (any_goals (first | assumption | wp_step))
        exact h _ _ hS' hk'
      | .ok .next, hr₂ => exact hr₂.elim
      | .ok .brk, hr₂ => exact hr₂.elim
      | .ok .cont, hr₂ => exact hr₂.elim
  | .ok .next, hr => exact hr.elim
  | .ok .brk, hr => exact hr.elim
  | .ok .cont, hr => exact hr.elim
end
/-- len of a set comprehension's set -/
def rLenSN (P : Program) (w : World) : List V → Hp → VK → Prop := fun xs H Q => ∃ (a : Addr) (ks : List NKey), xs = [V.ref a] ∧ H a = some (sN P w a ks) ∧ Q (.int ks.length) H
/-- len(set(l)) -/
def tLenSL (K : PySem.W.Frag) (te : TE) : TE := fun σ H Q => te σ H fun x H1 => ∃ (a : Addr) (ks : List NKey), x = .ref a ∧ SqL K H1 a (ks.map nkV) ∧ ks.length + 1 < scanBound ∧ Q (.int (foldAdd ks).length) H1
theorem nk_vals {P : Program} {w : World} : ∀ {ks : List NKey} {us : List Value}, Vals (ks.map nkV) us → ∀ (i : Nat) (v : Value), us[i]? = some v → ∃ k, ks[i]? = some k ∧ (noneKind P w).is k v = true ∧ v.scannable = true
  | [], _, .nil, i, v, e => by simp at e
  | k :: ks, _, .cons r t, 0, v, e => by
    cases (Option.some.inj e)
    exact ⟨k, rfl, nk_is r, nk_scan r⟩
  | k :: ks, _, .cons r t, i + 1, v, e => nk_vals (ks := ks) t i v e
section
variable {X : Cx} {P : Program} {w : World}
theorem call_lenSN (hP : X.prog = P) (hw : X.w = w) : CallR X (.builtin "len") (rLenSN P w) := by
  subst hP hw
  intro pins s σ H xs us Q I r h
  obtain ⟨a, ks, rfl, ha, q⟩ := h
  obtain ⟨u, rfl, ru⟩ := vals1 r
  cases ru
  exact len_setG (sN_of I.hok ha) fun t k => ⟨.int ks.length, H, I.tok _, ⟨_, rfl⟩, q⟩
theorem pe_lenSL {K : PySem.W.Frag} (hK : X.K = K) {a : Expr} {ta : TE} {p p2 q pos : Pos} (hg : Gl X "len") (hm : X.mg "len" = none) (hg2 : Gl X "set") (hm2 : X.mg "set" = none) (ha : PE X a ta) (hc : X.calm = true := by rfl)
    (na : starEach [a] X.env = (false, eval a X.env) :: starEach [] X.env := by rfl) : PE X (.Call (.Name "len" p) [.Call (.Name "set" p2) [a] [] q] [] pos) (tLenSL K ta) := by
  subst hK
  refine ⟨fun pins s σ H Q I h => ?_⟩
  refine Call_ (ld_blt I hg hm boot_len ?_)
  refine PyProof.Rows.callWith_builtin1 (PyProof.Rows.args_cons ?_ rfl) rfl rfl
  refine Call_ (ld_blt I hg2 hm2 boot_set ?_)
  refine PyProof.Rows.callWith_type1 (PyProof.Rows.args_cons (thn (ha.run pins s σ H _ I h) fun v s1 ⟨x, H1, I1, r1, q1⟩ => PyProof.Rows.args_nil ?_) na) na rfl
  obtain ⟨l, ks, rfl, hq, hl, q1⟩ := q1
  cases r1
  obtain ⟨its, r, pl, hz⟩ := I1.list hq
  have hlen : its.toArray.size = ks.length := by rw [List.size_toArray, ← r.length, List.length_map]
  refine call_set_lstG (knd := noneKind X.prog X.w) ks (I1.ok.hd hc) pl.isList hlen (fun i v e => nk_vals r i v (by simpa using e)) hl fun h' tk hS hk => ?_
  refine PyProof.Rows.args_nil ?_
  have I2 : Inv X pins σ H1 { s1 with heap := h', toks := tk } := I1.kept hk
  exact len_setG (s := { s1 with heap := h', toks := tk }) hS fun t k => ⟨.int (foldAdd ks).length, H1, I2.tok _, ⟨_, rfl⟩, q1⟩
end
section
variable {K : PySem.W.Frag} {S : Side} {ρ : Rho}
theorem dpa_keys {M : Hp} : ∀ {ks : List NKey} {vs : List V}, DpAll K M vs (ks.map keyD) → vs = ks.map nkV
  | [], _, h => by cases h; rfl
  | k :: ks, _, h => by
    cases h with
    | cons h1 h2 => rw [List.map_cons, dp_key h1, dpa_keys h2]
theorem ev_lenSL {te : TE} {P : DV → Prop} (h : Ev K S te ρ fun x => ∃ ks : List NKey, x = .d (.list (ks.map keyD)) ∧ ks.length ≤ 1000 ∧ P (.d (.int ((foldAdd ks).length : Nat)))) : Ev K S (tLenSL K te) ρ P := fun σ H hi he Q q => h σ H hi he _ fun v x H1 t1 i1 p1 => by
  obtain ⟨ks, rfl, hl, p1⟩ := p1
  obtain ⟨a, vs, rfl, ha, da⟩ := dp_lst i1
  have e := dpa_keys da
  subst e
  exact ⟨a, ks, rfl, ex_sql (view_ex S H1) ha, by unfold scanBound; omega, q _ (.d (.int _)) H1 t1 (show Dp _ _ _ _ from .int _) p1⟩
/-- len({..}) -/
theorem ev_lenSC {P0 : Program} {w0 : World} {te : TE} {c : Clj} {rs : List Clj} {P : DV → Prop} (hj : c.j ∈ c.vs) (hjs : ∀ c ∈ rs, c.j ∈ c.vs)
    (h : EvI K S c.wi ρ fun ds => ∀ T, Side.Le S T → itW K T c.j c.tt (insWS K T te rs) (wipeR ρ c.vs) ds [] fun out => ∀ ls : List NKey, out = ls.map keyD → P (.d (.int ((foldAdd ls).length : Nat)))) :
    Ev K S (tCB (rLenSN P0 w0) (tCons (tScN P0 w0 te c.r (Clj.rs rs)) tNil)) ρ P := fun σ H hi he Q q => by
  show tScN P0 w0 te c.r (Clj.rs rs) σ H fun v H1 => rLenSN P0 w0 [v] H1 Q
  exact scN_step (P := fun ls => P (.d (.int ((foldAdd ls).length : Nat)))) hj hjs h σ H hi he _ fun D ls H2 t hD p => ⟨D, foldAdd ls, rfl, hD, q _ (.d (.int _)) H2 t (show Dp _ _ _ _ from .int _) p⟩
end
end Tw
/-! mathematics of many versions -/
namespace Tw
open PySem PySem.Spec PyProof.Rows L2
/-- versions merged one after another -/
def rowN (v : Way5) (o : NKey) : List NKey → NKey
  | [] => o
  | x :: xs => xs.foldl (fun r y => outN v o r y) x
/-- all ways of putting versions into groups -/
def groupsN (v : Way5) (o : NKey) : Nat → List NKey → List NKey
  | 0, _ => []
  | k + 1, vs => if vs.length < 2 then [rowN v o vs] else (List.range (vs.length - 1)).flatMap fun c => (groupsN v o k (vs.take (c + 1))).flatMap fun l => (groupsN v o k (vs.drop (c + 1))).map fun r => outN v o l r
def cntG : Nat → Nat → Nat
  | 0, _ => 0
  | k + 1, m => if m < 2 then 1 else ((List.range (m - 1)).map fun c => cntG k (c + 1) * cntG k (m - (c + 1))).sum
theorem flat_map_len {α β γ : Type} (f : α → β → γ) (r : List β) : ∀ l : List α, (l.flatMap fun a => r.map (f a)).length = l.length * r.length
  | [] => by simp
  | a :: l => by
    rw [List.flatMap_cons, List.length_append, List.length_map, flat_map_len f r l, List.length_cons, Nat.succ_mul, Nat.add_comm]
theorem groups_len (v : Way5) (o : NKey) : ∀ (k : Nat) (vs : List NKey), (groupsN v o k vs).length = cntG k vs.length
  | 0, vs => rfl
  | k + 1, vs => by
    unfold groupsN cntG
    split
    · rfl
    · rw [List.length_flatMap]
      congr 1
      refine List.map_congr_left fun c hc => ?_
      have hc := List.mem_range.mp hc
      rw [flat_map_len, groups_len v o k, groups_len v o k, List.length_take, List.length_drop]
      congr 2
      omega
theorem cntG_le : ∀ k : Nat, k < 7 → ∀ m : Nat, m < 6 → cntG k m ≤ 14 := by decide +kernel
theorem groups_le {v : Way5} {o : NKey} {k : Nat} {vs : List NKey} (hk : k < 7) (h : vs.length < 6) : (groupsN v o k vs).length ≤ 14 := by
  rw [groups_len]
  exact cntG_le k hk _ h
theorem groups_ne {v : Way5} {o : NKey} : ∀ {k : Nat} {vs : List NKey}, vs.length < k → groupsN v o k vs ≠ []
  | 0, vs, h => absurd h (Nat.not_lt_zero _)
  | k + 1, vs, h => by
    unfold groupsN
    split
    · exact fun e => nomatch e
    · rename_i h2
      intro e
      have h3 := List.flatMap_eq_nil_iff.mp e 0 (List.mem_range.mpr (by omega))
      have h4 : groupsN v o k (vs.take 1) ≠ [] := groups_ne (by rw [List.length_take]; omega)
      have h5 : groupsN v o k (vs.drop 1) ≠ [] := groups_ne (by rw [List.length_drop]; omega)
      match q : groupsN v o k (vs.take 1), h4 with
      | x :: xs, _ =>
        rw [q] at h3
        have h6 := List.flatMap_eq_nil_iff.mp h3 x List.mem_cons_self
        exact h5 (List.map_eq_nil_iff.mp h6)
/-! ### orders -/
theorem ordN_map {α β : Type} (g : α → β) : ∀ (k : Nat) (l : List α), ordN k (l.map g) = (ordN k l).map (List.map g)
  | 0, l => rfl
  | k + 1, l => by
    unfold ordN
    rw [List.length_map]
    split
    · rfl
    · rw [List.map_flatMap]
      congr 1
      funext i
      rw [← List.map_take, ← List.map_drop, ← List.map_drop, ← List.map_append, ordN_map g k, List.map_map, List.map_map]
      refine List.map_congr_left fun r _ => ?_
      show (((l.drop i).map g).take 1) ++ r.map g = ((l.drop i).take 1 ++ r).map g
      rw [List.map_append, List.map_take]
theorem ordN_perm {α : Type} : ∀ (k : Nat) (l o : List α), o ∈ ordN k l → o.Perm l
  | 0, l, o, h => by
    rw [List.mem_singleton.mp (show o ∈ [l] from h)]
  | k + 1, l, o, h => by
    unfold ordN at h
    split at h
    · rw [List.mem_singleton.mp h]
    · obtain ⟨i, hi, h⟩ := List.mem_flatMap.mp h
      obtain ⟨r, hr, rfl⟩ := List.mem_map.mp h
      have p := ordN_perm k _ r hr
      refine (p.append_left _).trans ?_
      refine List.perm_append_comm_assoc _ _ _ |>.trans ?_
      have e : (l.drop i).take 1 ++ l.drop (i + 1) = l.drop i := by
        rw [← List.drop_drop, List.take_append_drop]
      rw [e, List.take_append_drop]
theorem ordN_self {α : Type} : ∀ (k : Nat) (l : List α), l ∈ ordN k l
  | 0, l => List.mem_singleton.mpr rfl
  | k + 1, l => by
    unfold ordN
    split
    · exact List.mem_singleton.mpr rfl
    · refine List.mem_flatMap.mpr ⟨0, List.mem_range.mpr (by omega), List.mem_map.mpr ⟨_, ordN_self k _, ?_⟩⟩
      rw [List.take_zero, List.nil_append, List.drop_zero]
      exact List.take_append_drop 1 l
def pickK (vs : List NKey) (ix : List Nat) : List NKey := ix.map fun i => vs.getD i none
theorem pick_all (vs : List NKey) : pickK vs (List.range vs.length) = vs := by
  refine List.ext_getElem? fun i => ?_
  unfold pickK
  rw [List.getElem?_map]
  by_cases h : i < vs.length
  · rw [List.getElem?_range h, List.getElem?_eq_getElem h]
    show some (vs.getD i none) = _
    rw [List.getD_eq_getElem?_getD, List.getElem?_eq_getElem h]
    rfl
  · rw [List.getElem?_eq_none (by rw [List.length_range]; omega), List.getElem?_eq_none (by omega)]
    rfl
theorem ordN_pick (k : Nat) (vs : List NKey) : ordN k vs = (ordN k (List.range vs.length)).map (pickK vs) := by
  have e := ordN_map (fun i => vs.getD i none) k (List.range vs.length)
  have e2 : (List.range vs.length).map (fun i => vs.getD i none) = vs := pick_all vs
  rw [e2] at e
  exact e
theorem permD_keys (vs : List NKey) (h : vs.length < 6) : permD (vs.map keyD) = (permL vs.length).map fun x => .tuple ((pickK vs x.1).map keyD) := by
  unfold permD
  rw [List.length_map]
  refine List.map_congr_left fun x hx => ?_
  obtain ⟨_, _, x3, _⟩ := (permOk h).each x hx
  congr 1
  unfold pickD pickK
  rw [List.map_map]
  refine List.map_congr_left fun i hi => ?_
  have hi := x3 i hi
  show (vs.map keyD).getD i .none = keyD (vs.getD i none)
  rw [List.getD_eq_getElem?_getD, List.getD_eq_getElem?_getD, List.getElem?_map, List.getElem?_eq_getElem hi]
  rfl
/-- one after another, those that are not there yet -/
theorem inK_iff {d : NKey} {ks : List NKey} : inK d ks = true ↔ d ∈ ks := by
  unfold inK
  rw [List.any_eq_true]
  exact ⟨fun ⟨k, hk, e⟩ => of_decide_eq_true e ▸ hk, fun h => ⟨d, h, decide_eq_true rfl⟩⟩
def addT (told : List NKey) (one : NKey) : List NKey := told ++ (if inK one told = true then [] else [one])
def distT (l : List NKey) : List NKey := l.foldl addT []
theorem distT_app (l : List NKey) (k : NKey) : distT (l ++ [k]) = addT (distT l) k := by
  unfold distT
  rw [List.foldl_append]
  rfl
theorem foldl_addT : ∀ (ls acc : List NKey), (∀ k, k ∈ ls.foldl addT acc ↔ k ∈ acc ∨ k ∈ ls) ∧ (acc.Nodup → (ls.foldl addT acc).Nodup) ∧ (ls.foldl addT acc).length ≤ acc.length + ls.length
  | [], acc => ⟨fun k => by simp, id, by simp⟩
  | x :: ls, acc => by
    obtain ⟨h1, h2, h3⟩ := foldl_addT ls (addT acc x)
    have hm : ∀ k, k ∈ addT acc x ↔ k ∈ acc ∨ k = x := fun k => by
      unfold addT
      split
      · rw [List.append_nil]
        rename_i hx
        exact ⟨.inl, fun h => h.elim id fun e => by rw [e]; exact inK_iff.mp hx⟩
      · rw [List.mem_append, List.mem_singleton]
    refine ⟨fun k => ?_, fun nd => h2 ?_, ?_⟩
    · rw [List.foldl_cons, h1, hm, List.mem_cons, or_assoc]
    · unfold addT
      split
      · rw [List.append_nil]
        exact nd
      · rename_i hx
        exact List.nodup_append.mpr ⟨nd, by simp, fun a ha b hb => by rw [List.mem_singleton.mp hb]; exact fun e => hx (inK_iff.mpr (e ▸ ha))⟩
    · rw [List.foldl_cons, List.length_cons]
      have : (addT acc x).length ≤ acc.length + 1 := by
        unfold addT
        rw [List.length_append]
        split <;> simp
      omega
theorem mem_distT {ls : List NKey} {k : NKey} : k ∈ distT ls ↔ k ∈ ls := by
  have q := (foldl_addT ls []).1 k
  rw [show distT ls = ls.foldl addT [] from rfl, q]
  simp
theorem distT_nd (ls : List NKey) : (distT ls).Nodup := (foldl_addT ls []).2.1 List.nodup_nil
theorem distT_le (ls : List NKey) : (distT ls).length ≤ ls.length := by
  have q := (foldl_addT ls []).2.2
  rw [List.length_nil, Nat.zero_add] at q
  exact q
theorem nodup_len {l m : List NKey} (nl : l.Nodup) (nm : m.Nodup) (h : ∀ k, k ∈ l ↔ k ∈ m) : l.length = m.length :=
  ((List.perm_ext_iff_of_nodup nl nm).mpr h).length_eq
theorem dist_same {l m : List NKey} (h : ∀ k, k ∈ l ↔ k ∈ m) : (foldAdd l).length = (distT m).length :=
  nodup_len (foldAdd_nd l) (distT_nd m) fun k => by rw [mem_foldAdd, mem_distT, h]
/-- what comes in all orders -/
def outsN (v : Way5) (o : NKey) (vs : List NKey) : List NKey := (ordN 6 vs).map (rowN v o)
theorem outs_same (v : Way5) (o : NKey) {vs : List NKey} (h : vs.length < 6) (k : NKey) : k ∈ (permL vs.length).map (fun x => rowN v o (pickK vs x.1)) ↔ k ∈ outsN v o vs := by
  unfold outsN
  rw [ordN_pick, List.map_map, List.mem_map, List.mem_map]
  constructor
  · rintro ⟨x, hx, rfl⟩
    exact ⟨x.1, ((permOk h).each x hx).2.2.2, rfl⟩
  · rintro ⟨q, hq, rfl⟩
    obtain ⟨x, hx, rfl⟩ := (permOk h).all q hq
    exact ⟨x, hx, rfl⟩
/-- as many as the different ones -/
def cntO (v : Way5) (o : NKey) (vs : List NKey) : Nat := (distT (outsN v o vs)).length
theorem cnt_perm (v : Way5) (o : NKey) {vs : List NKey} (h : vs.length < 6) : (foldAdd ((permL vs.length).map fun x => rowN v o (pickK vs x.1))).length = cntO v o vs := dist_same (outs_same v o h)
theorem one_of {l : List NKey} {z : NKey} (hz : z ∈ l) (h : ∀ k ∈ l, k = z) : (distT l).length = 1 := by
  refine (nodup_len (m := [z]) (distT_nd l) (by simp) fun k => ?_)
  rw [mem_distT, List.mem_singleton]
  exact ⟨h k, fun e => e ▸ hz⟩
theorem one_alike {l : List NKey} {z : NKey} (hz : z ∈ l) : (decide ((foldAdd l).length = 1)) = (l.filter fun k => !decide (k = z)).isEmpty := by
  rw [Bool.eq_iff_iff, decide_eq_true_iff, List.isEmpty_iff, List.filter_eq_nil_iff]
  constructor
  · intro h k hk
    have e : ∀ {m : List NKey}, m.length = 1 → ∀ a b, a ∈ m → b ∈ m → a = b := fun {m} hm a b ha hb => by
      match m, hm with
      | [x], _ => rw [List.mem_singleton.mp ha, List.mem_singleton.mp hb]
    rw [e h k z (mem_foldAdd.mpr hk) (mem_foldAdd.mpr hz)]
    simp
  · intro h
    have e : ∀ k ∈ l, k = z := fun k hk => by simpa using h k hk
    exact nodup_len (m := [z]) (foldAdd_nd l) (by simp) fun k => by
      rw [mem_foldAdd, List.mem_singleton]
      exact ⟨e k, fun e => e ▸ hz⟩
/-! ### chain: in all groups; chain and fair: in all orders -/
def okR (k : NKey) : Prop := valN k ∨ k = refN
theorem out_ref {v : Way5} {o a b : NKey} (h : a = refN ∨ b = refN) : outN v o a b = refN := by
  unfold outN
  rw [if_pos]
  unfold inK
  rcases h with h | h <;> rw [h] <;> simp
theorem merge_ok {v : Way5} {o a b : NKey} (ho : valN o) (ha : valN a) (hb : valN b) : okR (mergeN v o a b) := by
  unfold mergeN pickN
  split
  · exact .inl ho
  · split
    · exact .inl ha
    · split
      · exact .inl hb
      · exact .inr rfl
theorem out_val {v : Way5} {o a b : NKey} (ho : valN o) (ha : valN a) (hb : valN b) : outN v o a b = mergeN v o a b := by
  unfold outN
  rw [if_neg]
  unfold inK
  have h1 := val_ref ho
  have h2 := val_ref ha
  have h3 := val_ref hb
  simp [h1, h2, h3]
theorem out_ok {v : Way5} {o a b : NKey} (ho : valN o) (ha : okR a) (hb : okR b) : okR (outN v o a b) := by
  rcases ha with ha | ha
  · rcases hb with hb | hb
    · rw [out_val ho ha hb]
      exact merge_ok ho ha hb
    · exact .inr (out_ref (.inr hb))
  · exact .inr (out_ref (.inl ha))
section
variable {v : Way5} {o : NKey} (hv : isW v) (ho : valN o)
include hv ho
theorem out_assoc (hk : keepsN v 4 = true) {a b c : NKey} (ha : okR a) (hb : okR b) (hc : okR c) : outN v o (outN v o a b) c = outN v o a (outN v o b c) := by
  rcases ha with ha | ha
  · rcases hb with hb | hb
    · rcases hc with hc | hc
      · have q := of_decide_eq_true (kept_all hv (i := 4) (by decide) hk (vs := [o, a, b, c]) rfl (by simp [ho, ha, hb, hc]))
        rw [out_val ho ha hb, out_val ho hb hc]
        exact q
      · rw [out_ref (.inr hc), out_ref (a := a) (.inr (out_ref (.inr hc)))]
    · rw [out_ref (a := outN v o a b) (.inl (out_ref (.inr hb))), out_ref (a := a) (.inr (out_ref (.inl hb)))]
  · rw [out_ref (a := outN v o a b) (.inl (out_ref (.inl ha))), out_ref (a := a) (.inl ha)]
theorem out_comm (hk : keepsN v 5 = true) {a b : NKey} (ha : okR a) (hb : okR b) : outN v o a b = outN v o b a := by
  rcases ha with ha | ha
  · rcases hb with hb | hb
    · rw [out_val ho ha hb, out_val ho hb ha]
      exact kept_fair hv hk ho ha hb
    · rw [out_ref (.inr hb), out_ref (.inl hb)]
  · rw [out_ref (.inl ha), out_ref (.inr ha)]
theorem fold_ok : ∀ (l : List NKey) (a : NKey), okR a → (∀ k ∈ l, okR k) → okR (l.foldl (fun r y => outN v o r y) a)
  | [], a, ha, _ => ha
  | x :: l, a, ha, hl => fold_ok l _ (out_ok ho ha (hl x List.mem_cons_self)) fun k hk => hl k (List.mem_cons_of_mem _ hk)
theorem fold_assoc (hk : keepsN v 4 = true) : ∀ (l : List NKey) (a b : NKey), okR a → okR b → (∀ k ∈ l, okR k) → l.foldl (fun r y => outN v o r y) (outN v o a b) = outN v o a (l.foldl (fun r y => outN v o r y) b)
  | [], a, b, _, _, _ => rfl
  | x :: l, a, b, ha, hb, hl => by
    have hx := hl x List.mem_cons_self
    rw [List.foldl_cons, List.foldl_cons, out_assoc hv ho hk ha hb hx]
    exact fold_assoc hk l a (outN v o b x) ha (out_ok ho hb hx) fun k hk => hl k (List.mem_cons_of_mem _ hk)
theorem row_app (hk : keepsN v 4 = true) {l m : List NKey} (hl : l ≠ []) (hm : m ≠ []) (okl : ∀ k ∈ l, okR k) (okm : ∀ k ∈ m, okR k) : rowN v o (l ++ m) = outN v o (rowN v o l) (rowN v o m) := by
  match l, m, hl, hm with
  | x :: l, y :: m, _, _ =>
    show (l ++ y :: m).foldl _ x = outN v o (l.foldl _ x) (m.foldl _ y)
    rw [List.foldl_append, List.foldl_cons]
    exact fold_assoc hv ho hk m _ y (fold_ok hv ho l x (okl x List.mem_cons_self) fun k hk => okl k (List.mem_cons_of_mem _ hk)) (okm y List.mem_cons_self) fun k hk => okm k (List.mem_cons_of_mem _ hk)
theorem groups_row (hk : keepsN v 4 = true) : ∀ (k : Nat) (vs : List NKey), (∀ z ∈ vs, okR z) → ∀ z ∈ groupsN v o k vs, z = rowN v o vs
  | 0, vs, _, z, hz => nomatch hz
  | k + 1, vs, hok, z, hz => by
    unfold groupsN at hz
    split at hz
    · exact List.mem_singleton.mp hz
    · rename_i h2
      obtain ⟨c, hc, hz⟩ := List.mem_flatMap.mp hz
      obtain ⟨l, hl, hz⟩ := List.mem_flatMap.mp hz
      obtain ⟨r, hr, rfl⟩ := List.mem_map.mp hz
      have hc := List.mem_range.mp hc
      have o1 : ∀ z ∈ vs.take (c + 1), okR z := fun z h => hok z (List.mem_of_mem_take h)
      have o2 : ∀ z ∈ vs.drop (c + 1), okR z := fun z h => hok z (List.mem_of_mem_drop h)
      rw [groups_row hk k _ o1 l hl, groups_row hk k _ o2 r hr]
      have n1 : vs.take (c + 1) ≠ [] := fun e => by
        have := congrArg List.length e
        rw [List.length_take, List.length_nil] at this
        omega
      have n2 : vs.drop (c + 1) ≠ [] := fun e => by
        have := congrArg List.length e
        rw [List.length_drop, List.length_nil] at this
        omega
      rw [← row_app hv ho hk n1 n2 o1 o2, List.take_append_drop]
theorem row_cons (hk : keepsN v 4 = true) {x : NKey} {l : List NKey} (hl : l ≠ []) (hx : okR x) (okl : ∀ k ∈ l, okR k) : rowN v o (x :: l) = outN v o x (rowN v o l) :=
  row_app hv ho hk (l := [x]) (fun e => nomatch e) hl (fun k h => by rw [List.mem_singleton.mp h]; exact hx) okl
theorem row_perm (h4 : keepsN v 4 = true) (h5 : keepsN v 5 = true) {l m : List NKey} (p : l.Perm m) : (∀ k ∈ l, okR k) → rowN v o l = rowN v o m := by
  induction p with
  | nil => intro _; rfl
  | @cons x l m p ih =>
    intro h
    have hl : ∀ k ∈ l, okR k := fun k hk => h k (List.mem_cons_of_mem _ hk)
    have hx := h x List.mem_cons_self
    by_cases e : l = []
    · subst e
      rw [List.nil_perm.mp p]
    · have e2 : m ≠ [] := fun z => e (by rw [z] at p; exact List.perm_nil.mp p)
      rw [row_cons hv ho h4 e hx hl, row_cons hv ho h4 e2 hx (fun k hk => hl k (p.mem_iff.mpr hk)), ih hl]
  | swap x y l =>
    intro h
    show l.foldl _ (outN v o y x) = l.foldl _ (outN v o x y)
    rw [out_comm hv ho h5 (h y List.mem_cons_self) (h x (List.mem_cons_of_mem _ List.mem_cons_self))]
  | trans p1 p2 ih1 ih2 =>
    intro h
    rw [ih1 h, ih2 fun k hk => h k (p1.mem_iff.mpr hk)]
theorem chain_alike (hk : keepsN v 4 = true) {vs : List NKey} (h6 : vs.length < 6) (hvs : ∀ k ∈ vs, valN k) : (foldAdd (groupsN v o 6 vs)).length = 1 := by
  have hg := groups_row hv ho hk 6 vs fun z hz => .inl (hvs z hz)
  have ne := groups_ne (v := v) (o := o) h6
  match q : groupsN v o 6 vs, ne with
  | z :: l, _ =>
    rw [q] at hg
    refine nodup_len (m := [rowN v o vs]) (foldAdd_nd _) (by simp) fun k => ?_
    rw [mem_foldAdd, List.mem_singleton]
    exact ⟨hg k, fun e => by rw [e, ← hg z List.mem_cons_self]; exact List.mem_cons_self⟩
theorem orders_one (h4 : keepsN v 4 = true) (h5 : keepsN v 5 = true) {vs : List NKey} (hvs : ∀ k ∈ vs, valN k) : cntO v o vs = 1 := by
  refine one_of (z := rowN v o vs) (List.mem_map.mpr ⟨vs, ordN_self 6 vs, rfl⟩) fun k hk => ?_
  obtain ⟨q, hq, rfl⟩ := List.mem_map.mp hk
  have p := ordN_perm 6 vs q hq
  exact row_perm hv ho h4 h5 p fun z hz => .inl (hvs z (p.mem_iff.mp hz))
end
/-! ### slices -/
theorem cut_head (ds : List PyData) (a : Nat) : cutD ds none (some (a : Int)) = ds.take a := by
  unfold cutD
  rw [HT.sIx_none, HT.sIx_nat, List.drop_zero, Nat.sub_zero]
  by_cases h : a ≤ ds.length
  · rw [Nat.min_eq_left h]
  · rw [Nat.min_eq_right (by omega), List.take_of_length_le (Nat.le_refl _), List.take_of_length_le (by omega)]
theorem cut_tail (ds : List PyData) (a : Nat) : cutD ds (some (a : Int)) none = ds.drop a := by
  unfold cutD
  rw [HT.sIx_none, HT.sIx_nat]
  by_cases h : a ≤ ds.length
  · rw [Nat.min_eq_left h, List.take_of_length_le (by rw [List.length_drop]; exact Nat.le_refl _)]
  · rw [Nat.min_eq_right (by omega), List.drop_length, List.take_nil, List.drop_eq_nil_of_le (by omega)]
end Tw
namespace Tw
open PySem PySem.Spec PyProof.Rows L2
theorem enum_keys (vs : List NKey) : enumD 0 (vs.map keyD) = (List.range vs.length).map fun k => .tuple [.int (k : Nat), keyD (vs.getD k none)] := by
  refine List.ext_getElem? fun k => ?_
  rw [enumD_get, List.getElem?_map, List.getElem?_map]
  by_cases h : k < vs.length
  · rw [List.getElem?_range h, List.getElem?_eq_getElem h, Nat.zero_add]
    show _ = some (PyData.tuple [.int (k : Nat), keyD (vs.getD k none)])
    rw [List.getD_eq_getElem?_getD, List.getElem?_eq_getElem h]
    rfl
  · rw [List.getElem?_eq_none (show vs.length ≤ k by omega), List.getElem?_eq_none (by rw [List.length_range]; omega)]
    rfl
theorem getD_val {vs : List NKey} (h : ∀ k ∈ vs, valN k) {i : Nat} (hi : i < vs.length) : valN (vs.getD i none) := by
  rw [List.getD_eq_getElem?_getD, List.getElem?_eq_getElem hi]
  exact h _ (List.getElem_mem hi)
end Tw
/-! a set comprehension of one for, told by a map; keys told apart -/
namespace Tw
open PySem PySem.Spec PyProof.Rows L2
theorem keyD_inj : ∀ {a b : NKey}, keyD a = keyD b → a = b
  | none, none, _ => rfl
  | some (.inl i), some (.inl j), h => by cases h; rfl
  | some (.inr i), some (.inr j), h => by cases h; rfl
  | none, some (.inl _), h => nomatch h
  | none, some (.inr _), h => nomatch h
  | some (.inl _), none, h => nomatch h
  | some (.inr _), none, h => nomatch h
  | some (.inl _), some (.inr _), h => nomatch h
  | some (.inr _), some (.inl _), h => nomatch h
theorem keys_inj : ∀ {l m : List NKey}, l.map keyD = m.map keyD → l = m
  | [], [], _ => rfl
  | a :: l, b :: m, h => by
    have h : keyD a :: l.map keyD = keyD b :: m.map keyD := h
    injection h with h1 h2
    rw [keyD_inj h1, keys_inj h2]
  | [], _ :: _, h => nomatch h
  | _ :: _, [], h => nomatch h
theorem flat_le {α β : Type} {f : α → List β} {b : Nat} : ∀ {l : List α}, (∀ x ∈ l, (f x).length ≤ b) → (l.flatMap f).length ≤ l.length * b
  | [], _ => Nat.zero_le _
  | x :: l, h => by
    have h1 := h x List.mem_cons_self
    have h2 := flat_le (f := f) (b := b) (l := l) fun y hy => h y (List.mem_cons_of_mem _ hy)
    rw [List.flatMap_cons, List.length_append, List.length_cons, Nat.succ_mul]
    omega
section
variable {K : PySem.W.Frag} {S : Side} {ρ : Rho}
theorem itW_mapM {α : Type} {j : Nat} {te : TE} {g : α → PyData} {f : α → NKey} : ∀ (l : List α) (acc : List PyData) {P : List PyData → Prop},
    (∀ x ∈ l, ∀ P' : DV → Prop, P' (.d (keyD (f x))) → Ev K S te (ρ.set j (some (.d (g x)))) P') → acc.length + l.length ≤ 1000 → P (acc ++ l.map fun x => keyD (f x)) → itW K S j tYes (insWS K S te []) ρ (l.map g) acc P
  | [], acc, P, _, _, p => by
    rw [List.map_nil, List.append_nil] at p
    exact p
  | x :: l, acc, P, h, hl, p => by
    rw [List.length_cons] at hl
    refine et_yes ⟨fun _ => ?_, fun z => nomatch z⟩
    refine h x List.mem_cons_self _ ⟨f x, rfl, by unfold scanBound; omega, ?_⟩
    exact itW_mapM l (acc ++ [keyD (f x)]) (fun y hy => h y (List.mem_cons_of_mem _ hy)) (by rw [List.length_append, List.length_singleton]; omega) (by rw [List.append_assoc]; exact p)
end
end Tw
namespace Tw
open PySem PySem.Spec PyProof.Rows L2
theorem ord_le0 : ∀ k : Nat, k < 7 → ∀ m : Nat, m < 6 → (ordN k (List.range m)).length ≤ 120 := by decide +kernel
theorem ord_le {k : Nat} {vs : List NKey} (hk : k < 7) (h : vs.length < 6) : (ordN k vs).length ≤ 120 := by
  rw [ordN_pick, List.length_map]
  exact ord_le0 k hk _ h
theorem range_nat (n : Nat) : rangeD 0 n = (List.range n).map fun (i : Nat) => PyData.int ((i : Nat) : Int) := by
  unfold rangeD
  exact List.map_congr_left fun i _ => by congr 1; omega
/-- a list of keys -/
def lstK (q : List NKey) : PyData := .list (q.map keyD)
end Tw
namespace Tw
open PySem PySem.Spec PyProof.Rows L2
theorem e2_ninKL {K : PySem.W.Frag} {S : Side} {d : NKey} {ks : List NKey} {P : DV → Prop} (p : P (.d (.bool (!inK d ks)))) : Ev2 K S (rInP K true) (.d (keyD d)) (.d (.list (ks.map keyD))) P := e2_inL (neg := true) (by rw [key_depth]; decide) (by
  show P (.d (.bool (!(ks.map keyD).any fun z => PyData.eqv z (keyD d))))
  rw [any_keys]
  exact p)
end Tw
/-! defs that may raise: their promises, their bodies -/
namespace Tw
open PySem PySem.Spec PyProof.Rows L2
/-- the dict of an exception: none, or one that holds the index -/
def XDat (K : PySem.W.Frag) (M : Hp) (d : Option Addr) : Option PyData → Prop
  | none => d = none
  | some x => ∃ D v, d = some D ∧ M D = some (.xd [("index", v)]) ∧ Dp K M v x
/-- the side, the arguments, what may be returned, what may be raised: its class, its index -/
abbrev SpecX := Side → List DV → (DV → Prop) → (Value → Option PyData → Prop) → Prop
def spX (K : PySem.W.Frag) (ok : Side → Prop) (spec : SpecX) : Sp := fun vs H Q E => ∃ S xs P PX, ok S ∧ S.inv H ∧ AllIs K (S.view H) vs xs ∧ spec S xs P PX ∧ (∀ v x H2, S.To H H2 → Is K (S.view H2) v x → P x → Q v H2) ∧
  ∀ cls d y H2, S.To H H2 → XDat K (S.view H2) d y → PX cls y → E cls d H2
section
variable (K : PySem.W.Frag) (S : Side)
def EvR (te : TE) (ρ : Rho) (E : XK) (P : DV → Prop) (PX : Value → Option PyData → Prop) : Prop := ∀ σ H, S.inv H → EnvOk K (S.view H) σ ρ → ∀ Q : VK, (∀ v x H2, S.To H H2 → Is K (S.view H2) v x → P x → Q v H2) →
  (∀ cls d y H2, S.To H H2 → XDat K (S.view H2) d y → PX cls y → E cls d H2) → te σ H Q
def RunR (ts : TS) (ρ : Rho) (E : XK) (P : Out → Prop) (PX : Value → Option PyData → Prop) : Prop := ∀ σ H, S.inv H → EnvOk K (S.view H) σ ρ → ∀ D : Ends, (∀ ρ' σ' H2, S.To H H2 → EnvOk K (S.view H2) σ' ρ' → P (.nx ρ') → D.nx σ' H2) → (∀ x v H2, S.To H H2 → Is K (S.view H2) v x → P (.rt x) → D.rt v H2) →
  (∀ ρ' σ' H2, S.To H H2 → EnvOk K (S.view H2) σ' ρ' → P (.bk ρ') → D.bk σ' H2) → (∀ ρ' σ' H2, S.To H H2 → EnvOk K (S.view H2) σ' ρ' → P (.ct ρ') → D.ct σ' H2) →
  (∀ cls d y H2, S.To H H2 → XDat K (S.view H2) d y → PX cls y → E cls d H2) → ts D σ H
end
/-- raise X(a text), X a class of the program without own __init__ -/
def tRaise (C : Addr) (E : XK) : TS := fun _ _ H => E (.ref C) none H
section
variable {K : PySem.W.Frag} {S : Side} {ρ : Rho} {E : XK} {PX : Value → Option PyData → Prop}
theorem Ev.x {te : TE} {P : DV → Prop} (h : Ev K S te ρ P) : EvR K S te ρ E P PX := fun σ H hi he Q q _ => h σ H hi he Q q
theorem Run.x {ts : TS} {P : Out → Prop} (h : Run K S ts ρ P) : RunR K S ts ρ E P PX := fun σ H hi he D q1 q2 q3 q4 _ => h σ H hi he D q1 q2 q3 q4
theorem runR_seq {t u : TS} {P : Out → Prop} (h : RunR K S t ρ E (fun o => match o with | .nx ρ' => RunR K S u ρ' E P PX | o => P o) PX) : RunR K S (tSeq t u) ρ E P PX := fun σ H hi he D q1 q2 q3 q4 qx =>
  h σ H hi he _ (fun ρ' σ' H2 t2 e2 p2 => p2 σ' H2 t2.inv e2 D (fun ρ3 σ3 H3 t3 e3 p3 => q1 ρ3 σ3 H3 (t2.trans t3) e3 p3) (fun x v H3 t3 i3 p3 => q2 x v H3 (t2.trans t3) i3 p3) (fun ρ3 σ3 H3 t3 e3 p3 => q3 ρ3 σ3 H3 (t2.trans t3) e3 p3)
      (fun ρ3 σ3 H3 t3 e3 p3 => q4 ρ3 σ3 H3 (t2.trans t3) e3 p3) fun cls d y H3 t3 x3 p3 => qx cls d y H3 (t2.trans t3) x3 p3) q2 q3 q4 qx
theorem runR_if {c : TT} {t u : TS} {P : Out → Prop} (h : EvT K S c ρ fun b => (b = true → RunR K S t ρ E P PX) ∧ (b = false → RunR K S u ρ E P PX)) : RunR K S (tIfS c t u) ρ E P PX := fun σ H hi he D q1 q2 q3 q4 qx =>
  h σ H hi he _ fun b H1 t1 p1 => by
    have go : ∀ {ts : TS}, RunR K S ts ρ E P PX → ts D σ H1 := fun {ts} r => r σ H1 t1.inv (he.mono t1.ex) D (fun ρ3 σ3 H3 t3 e3 p3 => q1 ρ3 σ3 H3 (t1.trans t3) e3 p3) (fun x v H3 t3 i3 p3 => q2 x v H3 (t1.trans t3) i3 p3) (fun ρ3 σ3 H3 t3 e3 p3 => q3 ρ3 σ3 H3 (t1.trans t3) e3 p3)
      (fun ρ3 σ3 H3 t3 e3 p3 => q4 ρ3 σ3 H3 (t1.trans t3) e3 p3) fun cls d y H3 t3 x3 p3 => qx cls d y H3 (t1.trans t3) x3 p3
    cases b with
    | true =>
      rw [if_pos rfl]
      exact go (p1.1 rfl)
    | false =>
      rw [if_neg Bool.false_ne_true]
      exact go (p1.2 rfl)
theorem runR_drop {te : TE} {P : Out → Prop} (h : EvR K S te ρ E (fun _ => P (.nx ρ)) PX) : RunR K S (tDrop te) ρ E P PX := fun σ H hi he D q1 _ _ _ qx => h σ H hi he _ (fun v x H2 t2 _ p2 => q1 ρ σ H2 t2 (he.mono t2.ex) p2) qx
theorem runR_ret {te : TE} {P : Out → Prop} (h : EvR K S te ρ E (fun x => P (.rt x)) PX) : RunR K S (tRet te) ρ E P PX := fun σ H hi he D _ q2 _ _ qx => h σ H hi he _ (fun v x H2 t2 i2 p2 => q2 x v H2 t2 i2 p2) qx
theorem runR_asg {te : TE} {i : Nat} {P : Out → Prop} (h : EvR K S te ρ E (fun x => P (.nx (ρ.set i (some x)))) PX) : RunR K S (tAsg te (gName i)) ρ E P PX := fun σ H hi he D q1 _ _ _ qx =>
  h σ H hi he _ (fun v x H2 t2 i2 p2 => q1 _ _ H2 t2 ((he.mono t2.ex).set i i2) p2) qx
theorem runR_raise {C : Addr} {P : Out → Prop} (p : PX (.ref C) none) : RunR K S (tRaise C E) ρ E P PX := fun σ H hi he D _ _ _ _ qx => qx _ none none H (.refl hi) rfl p
theorem runR_next {P : Out → Prop} (p : P (.nx ρ)) : RunR K S tNext ρ E P PX := fun σ H hi he D q1 _ _ _ _ => q1 ρ σ H (.refl hi) he p
theorem evR_call {ok : Side → Prop} {spec : SpecX} {ta : TA} {P : DV → Prop} (hok : ok S) (h : EvA K S ta ρ fun xs => spec S xs P PX) : EvR K S (tCall (spX K ok spec) [] E ta) ρ E P PX := fun σ H hi he Q q qx =>
  h σ H hi he _ fun vs xs H1 t1 i1 p1 => by
    rw [List.append_nil]
    exact ⟨S, xs, P, PX, hok, t1.inv, i1, p1, fun v x H2 t2 i2 p2 => q v x H2 (t1.trans t2) i2 p2, fun cls d y H2 t2 x2 p2 => qx cls d y H2 (t1.trans t2) x2 p2⟩
/-- a call that raises nothing for these arguments -/
theorem ev_callX {ok : Side → Prop} {spec : SpecX} {ta : TA} {P : DV → Prop} (hok : ok S) (h : EvA K S ta ρ fun xs => spec S xs P fun _ _ => False) : Ev K S (tCall (spX K ok spec) [] E ta) ρ P := fun σ H hi he Q q =>
  evR_call hok h σ H hi he Q q fun _ _ _ _ _ _ z => z.elim
end
section
variable {P : Program} {w : World} {K : PySem.W.Frag} {mg : Str → Option Value} {base : Heap}
theorem def_okX {x qual : Str} {st : Stmt} {f : Addr} {fd : FuncData} {cdv : Value} {N ps : List Str} {k : Nat} {ok : Side → Prop} {spec : SpecX} (F : FunC K x qual st f fd cdv) (Sc : FnScope N ps (defScope st)) (len : ∀ S xs P PX, spec S xs P PX → xs.length = ps.length)
    (hb : ∀ (A : Around) (outer : List Env) (s : Shared) (H : Hp) (E : XK), Room k (A.deeper (envOfC qual (defScope st) s.heap.objs.size f cdv)) →
      ∃ t, PSs (cxOf (L2.CX P w) P w K mg base N qual (defScope st) f cdv A outer s H E) (defBody st) t ∧ ∀ S xs P PX, ok S → spec S xs P PX → RunR K S t (startR N xs) E (fin P) PX) : FnOk P w K mg base (L2.CX P w) (k + 1) f fd ps (spX K ok spec) := by
  obtain ⟨oc, od, kV, doc, pm, an, ct, osl, rfl, lk, hcd⟩ := F.ex
  refine fn_of lk hcd Sc (fun vs H Q E ⟨S, xs, P, PX, _, _, hv, hs, _⟩ => hv.len.trans (len S xs P PX hs)) fun A outer s H vs Q E hr hsp => ?_
  obtain ⟨t, h, q⟩ := hb A outer s H E hr
  obtain ⟨S, xs, P, PX, hok, hinv, hv, hs, hq, hx⟩ := hsp
  refine ⟨t, h, q S xs P PX hok hs _ H hinv (startR_ok hv) _ (fun ρ' σ' H2 t2 e2 p2 => hq _ (.d .none) H2 t2 (show Dp _ _ _ _ from .non) p2) (fun x v H2 t2 i2 p2 => hq v x H2 t2 i2 p2) (fun _ _ _ _ _ z => z.elim) (fun _ _ _ _ _ z => z.elim) hx⟩
/-- what such a def takes of what is raised in it -/
theorem takesX {qual : Str} {sc : Scope} {f : Addr} {cdv : Value} {N : List Str} {A : Around} {outer : List Env} {s : Shared} {H : Hp} {E : XK} :
    Takes (cxOf (L2.CX P w) P w K mg base N qual sc f cdv A outer s H E) (fun cls d _ H => E cls d H) := takes_of rfl rfl rfl rfl
/-- a call in it of a def that may raise -/
theorem passX {qual : Str} {sc : Scope} {f : Addr} {cdv : Value} {N : List Str} {A : Around} {outer : List Env} {s : Shared} {H : Hp} {E : XK} :
    Passes (L2.CX P w) (cxOf (L2.CX P w) P w K mg base N qual sc f cdv A outer s H E) E := passes_call takesX fun _ _ _ _ h => h
end
abbrev veL : List Value := [.type "ValueError", .type "Exception", .type "BaseException", .type "object"]
/-- what K tells of such a class -/
structure OwnX (K : PySem.W.Frag) (mg : Str → Option Value) (x : Str) (C : Addr) : Prop where
  glob : mg x = some (.ref C)
  exc : PySem.W.excIn K C veL "ValueError.__new__" = true
  kp : PySem.W.keepIn K (.ref C) = true
  sub : PySem.W.subIn K (.ref C) (.type "BaseException") = some true
  ty : PySem.W.typeIn K (.ref C) = some (.type "type")
section
variable {X : Cx} {K : PySem.W.Frag} {mg : Str → Option Value} {C : Addr} {x m : Str} {j : Nat} {p p2 pos pos' : Pos} {E : XK}
/-- raise x(m) -/
theorem ps_raiseO (hK : X.K = K) (hm : X.mg = mg) (O : OwnX K mg x C) (hc : X.calm = true) (tk : Takes X (fun cls d _ H => E cls d H)) (hg : Gl X x) (hdb : (x == ("__debug__" : Str)) = false := by decide) :
    PS X (.Raise (some (.Call (.Name x p) [.Constant (.str m) j p2] [] pos)) none pos') (tRaise C E) := by
  subst hK hm
  exact ps_raise hc tk (pmk_own PySem.F.excBase_ValueError O.exc O.glob O.kp (raises_own O.sub O.ty) hg hdb)
end
end Tw
/-! a lambda with written defaults, made -/
namespace Tw
open PySem PySem.Spec PyProof.Rows L2
abbrev lamFn (q : Str) (params : Arguments) (body : Expr) (scope : Scope) (cl : List (Str × Addr)) (pm cdv ct dV : Value) : FuncData :=
  { PySem.W.kla_fn "<lambda>" q params body scope cl pm cdv ct with defaults := dV }
abbrev lamOb (q : Str) (params : Arguments) (body : Expr) (scope : Scope) (cl : List (Str × Addr)) (pm : Value) (c' : Addr) (ct dV : Value) : Obj :=
  { cls := .type "function", data := .func (lamFn q params body scope cl pm (.ref c') ct dV) }
section
variable {M : Model} {A : Around} {E : Value → Shared → Prop} {s : Shared} {q : Str} {params : Arguments} {body : Expr} {scope : Scope} {env : Env} {c P : Addr} {ps : Array Value} {pos : Pos} {row : Nat} {mg : Str → Option Value} {dV : Value} {cl : List (Str × Addr)} {Q : Value → Shared → Prop}
theorem lam_tailNew (k1 : closureFor scope env = pure cl) (k2 : env.globals = mainGlobals) (k3 : s.heap.Ns mainGlobals mg) (k4 : env.code = .ref c) (k5 : PySem.W.CodeHd s.heap c P) (k6 : s.heap.get? P = some { cls := .none, data := .fields ps }) (k7 : TriplesOk ps.toList)
    (k8 : codeAmong pos ps.toList = none) (k9 : mainGlobals ≠ P) (kb : s.heap.BuiltinsAt mg P)
    (h : ∀ c' ctv h' tk, Heap.ExtBut P s.heap h' → s.heap.objs.size ≤ c' → c' < h'.objs.size → h'.CodeRec (.ref c') q → h'.get? P = some { cls := .none, data := .fields (ps ++ #[rawInt pos.line, rawInt pos.col, .ref c']) } →
      Q (.ref h'.objs.size) { s with heap := h'.push (lamOb q params body scope cl ((mg "__name__").getD .none) c' ctv dV), toks := tk }) :
    wpAny M A (makeTail "<lambda>" q params (.expr body) scope env dV .none none pos row) Q E s := by
  obtain ⟨bm, ob, b1, b2, _, b3, b4, b5, b6, b7⟩ := kb
  unfold makeTail
  rw [k1, k2]
  refine wpAny_bind (wpAny_pure ?_)
  match cl with
  | [] =>
    rw [if_pos (show ([] : List (Str × Addr)).isEmpty = true from rfl)]
    refine wpAny_bind (wpAny_pure (wpAny_bind ?_))
    refine wpAny_functionCodeX k4 (k5.code k6 k7) (k5.tab k6) k8 fun c' h' tk g1 g2 g3 _ g4 g5 _ => ?_
    have n1 := k3.extBut g1 k9
    refine wpAny_bind (wpAny_builtinsFor n1 b1 b2 (g1 _ _ b3 b4) b5 b6 b7 (wpAny_bind (wpAny_nsGet n1 (wpAny_bind (wpAny_pure ?_)))))
    exact wpAny_newObj_type (h c' .none h' tk g1 g2 g3 g4 g5.2) (by size_fits)
  | z :: zs =>
    rw [if_neg (show ¬ ((z :: zs : List (Str × Addr)).isEmpty = true) from Bool.false_ne_true)]
    refine wpAny_bind (wpAny_newTextTuple (wpAny_bind ?_))
    have kk : ∀ o : Obj, PySem.W.CodeHd (s.heap.push o) c P := fun o => k5.keeps fun b x e => Heap.get?_push_of_some _ e
    refine wpAny_functionCodeX k4 ((kk _).code (Heap.get?_push_of_some _ k6) k7) ((kk _).tab (Heap.get?_push_of_some _ k6)) k8 fun c' h' tk g1 g2 g3 _ g4 g5 _ => ?_
    have n1 := (k3.push _).extBut g1 k9
    have g1' : Heap.ExtBut P s.heap h' := fun b o nb e => g1 b o nb (Heap.get?_push_of_some _ e)
    have g2' : s.heap.objs.size ≤ c' := Nat.le_trans (by rw [Heap.size_push]; exact Nat.le_succ _) g2
    refine wpAny_bind (wpAny_builtinsFor n1 b1 b2 (g1' _ _ b3 b4) b5 b6 b7 (wpAny_bind (wpAny_nsGet n1 (wpAny_bind (wpAny_pure ?_)))))
    exact wpAny_newObj_type (h c' _ h' tk g1' g2' g3 g4 g5.2) (by size_fits)
theorem lam_tailOld {cv : Value} (k1 : closureFor scope env = pure cl) (k2 : env.globals = mainGlobals) (k3 : s.heap.Ns mainGlobals mg) (k4 : env.code = .ref c) (k5 : PySem.W.CodeHd s.heap c P) (k6 : s.heap.get? P = some { cls := .none, data := .fields ps }) (k7 : TriplesOk ps.toList)
    (k8 : codeAmong pos ps.toList = some cv) (kb : s.heap.BuiltinsAt mg P)
    (h : ∀ (ctv : Value) (h' : Heap) (tk : Tok), (∀ b o, s.heap.get? b = some o → h'.get? b = some o) → s.heap.objs.size ≤ h'.objs.size →
      Q (.ref h'.objs.size) { s with heap := h'.push { cls := .type "function", data := .func (lamFn q params body scope cl ((mg "__name__").getD .none) cv ctv dV) }, toks := tk }) :
    wpAny M A (makeTail "<lambda>" q params (.expr body) scope env dV .none none pos row) Q E s := by
  obtain ⟨bm, ob, b1, b2, _, b3, b4, b5, b6, b7⟩ := kb
  unfold makeTail
  rw [k1, k2]
  refine wpAny_bind (wpAny_pure ?_)
  match cl with
  | [] =>
    rw [if_pos (show ([] : List (Str × Addr)).isEmpty = true from rfl)]
    refine wpAny_bind (wpAny_pure (wpAny_bind (wpAny_functionCode_hit k4 (k5.code k6 k7) k8 ?_)))
    refine wpAny_bind (wpAny_builtinsFor k3 b1 b2 b4 b5 b6 b7 (wpAny_bind (wpAny_nsGet k3 (wpAny_bind (wpAny_pure ?_)))))
    exact wpAny_newObj_type (h .none s.heap s.toks (fun _ _ e => e) (Nat.le_refl _)) (by size_fits)
  | z :: zs =>
    rw [if_neg (show ¬ ((z :: zs : List (Str × Addr)).isEmpty = true) from Bool.false_ne_true)]
    refine wpAny_bind (wpAny_newTextTuple (wpAny_bind ?_))
    have kk : ∀ o : Obj, PySem.W.CodeHd (s.heap.push o) c P := fun o => k5.keeps fun b x e => Heap.get?_push_of_some _ e
    refine wpAny_functionCode_hit k4 ((kk _).code (Heap.get?_push_of_some _ k6) k7) k8 ?_
    refine wpAny_bind (wpAny_builtinsFor (k3.push _) b1 b2 (Heap.get?_push_of_some _ b4) b5 b6 b7 (wpAny_bind (wpAny_nsGet (k3.push _) (wpAny_bind (wpAny_pure ?_)))))
    exact wpAny_newObj_type (h _ _ s.toks (fun b o e => Heap.get?_push_of_some _ e) (by rw [Heap.size_push]; exact Nat.le_succ _)) (by size_fits)
end
/-- the defaults of a function: none, or in a tuple that nothing else knows -/
def DfAt (fs : List Addr) (h : Heap) (H : Hp) (dV : Value) (dvs : List V) : Prop :=
  (dvs = [] ∧ dV = .none) ∨ ∃ (T : Addr) (o : Obj) (us : List Value) (n : Nat), dV = .ref T ∧ h.get? T = some o ∧ o.data = .seq us.toArray n ∧ Vals dvs us ∧ H T = none ∧ T ∉ fs ∧ dvs ≠ []
section
variable {X : Cx} {pins : List (Addr × Obj)} {σ : L2.St} {H : Hp} {s : Shared}
theorem Inv.nostk (I : Inv X pins σ H s) {b : Addr} (h : s.heap.objs.size ≤ b) : b ∉ frs X.stack := fun z => by
  rcases List.mem_cons.mp (I.stkSub _ z) with e | e
  · have h1 := I.lt
    rw [← e] at h1
    exact Nat.lt_irrefl _ (Nat.lt_of_lt_of_le h1 h)
  · exact I.nofs h e
theorem lam_tailQ {c P : Addr} {params : Arguments} {body : Expr} {scope : Scope} {pos : Pos} {row : Nat} {dV : Value} {E : Value → Shared → Prop} {Q : Value → Shared → Prop} (I : Inv X pins σ H s) (TB : GxR.TabB X.base X.mg c P) (hcode : X.env.code = .ref c)
    (hT : LTabG H P (X.env.qual ++ "<lambda>")) (hfree : ∀ y ∈ scope.names, y.2 = .free → ∃ c, X.env.cells.lookup y.1 = some c)
    (h : ∀ (f c' : Addr) (oc : Obj) (pm ctv : Value) (H1 : Hp) (s' : Shared), Inv X pins σ H1 s' → Made P (X.env.qual ++ "<lambda>") H H1 → (∀ b o, b ≠ P → s.heap.get? b = some o → s'.heap.get? b = some o) → (∀ b o, s.heap.get? b = some o → H b = none → H1 b = none) →
      s'.heap.get? f = some (lamOb (X.env.qual ++ "<lambda>") params body scope (cloFrom X.env.cells scope.names []) pm c' ctv dV) → H1 f = none → f ∉ frs X.stack → H1 c' = some (.frz oc (.own c')) → CodeQ oc (X.env.qual ++ "<lambda>") → Q (.ref f) s') :
    wpAny (model X.prog X.w) X.A (makeTail "<lambda>" (X.env.qual ++ "<lambda>") params (.expr body) scope X.env dV .none none pos row) Q E s := by
  obtain ⟨ps, hP, ht, ha⟩ := id hT
  have bP : s.heap.BuiltinsAt X.mg P := TB.bm.keeps I.bk
  have hP' : s.heap.get? P = some { cls := .none, data := .fields ps } := I.hok P _ hP
  cases hc : codeAmong pos ps.toList with
  | none =>
    refine lam_tailNew (mg := X.mg) (c := c) (P := P) (ps := ps) (closure_ok hfree) I.ok.glob (I.mod.glob.keeps I.bk) hcode (TB.code.keeps I.bk) hP' ht hc TB.gP bP fun c' ctv h' tk hx hge hlt hrec htb => ?_
    obtain ⟨c2, oc, vs, t, e2, hoc, hd, hv⟩ := hrec
    cases e2
    have hsz : s.heap.objs.size ≤ h'.objs.size := Nat.le_trans hge (Nat.le_of_lt hlt)
    have nC : H c' = none := I.hok.fresh hge
    have I1 := inv_tableQ (q := X.env.qual ++ "<lambda>") (t' := tk) (more := #[rawInt pos.line, rawInt pos.col, .ref c']) (h' := h'.push (lamOb (X.env.qual ++ "<lambda>") params body scope (cloFrom X.env.cells scope.names []) ((X.mg "__name__").getD .none) c' ctv dV)) I hP
      (fun b o hb e => Heap.get?_push_of_some _ (hx b o hb e)) (Heap.get?_push_of_some _ htb) hge (Heap.get?_push_of_some _ hoc)
    have hE : ∀ b o u, H b = some (.frz o u) → upd (upd H P (.tbl (ps ++ #[rawInt pos.line, rawInt pos.col, .ref c']))) c' (.frz oc (.own c')) b = some (.frz o u) := fun b o u e => by
      rw [upd_ne (ne_of_none e nC), upd_ne (fun z => by rw [z, hP] at e; cases e)]
      exact e
    have eL : (ps ++ #[rawInt pos.line, rawInt pos.col, .ref c']).toList = ps.toList ++ [rawInt pos.line, rawInt pos.col, .ref c'] := by simp
    have hcq : CodeQ oc (X.env.qual ++ "<lambda>") := ⟨vs, t, hd, hv⟩
    refine h h'.objs.size c' oc ((X.mg "__name__").getD .none) ctv _ _ I1 ⟨⟨_, by rw [upd_ne (ne_of_none hP nC), upd_same], by rw [eL]; exact PySem.TriplesOk_snoc _ _ _ _ ht, fun p' cv hcv => ?_⟩, .inr ⟨c', oc, ps, _, nC, hP, rfl⟩⟩ (fun b o nb e => Heap.get?_push_of_some _ (hx b o nb e)) (fun b o e n => ?_) (Heap.get?_push_size _ rfl) ?_ (Inv.nostk I hsz) upd_same hcq
    · rw [eL] at hcv
      rcases LamX.among_app _ ht hcv with z | z
      · obtain ⟨c0, o0, e1, e2, e3⟩ := ha p' cv z
        exact ⟨c0, o0, e1, hE _ _ _ e2, e3⟩
      · exact ⟨c', oc, z, upd_same, hcq⟩
    · rw [upd_ne (Nat.ne_of_lt (Nat.lt_of_lt_of_le (Heap.lt_size e) hge)), upd_ne (fun z => by rw [z, hP] at n; cases n)]
      exact n
    · have n1 : h'.objs.size ≠ c' := Nat.ne_of_gt hlt
      have n2 : h'.objs.size ≠ P := Nat.ne_of_gt (Nat.lt_of_lt_of_le (Heap.lt_size hP') hsz)
      rw [upd_ne n1, upd_ne n2]
      exact I.hok.fresh hsz
  | some cv =>
    obtain ⟨c', oc, e, hco, hcq⟩ := ha pos cv hc
    subst e
    refine lam_tailOld (mg := X.mg) (c := c) (P := P) (ps := ps) (closure_ok hfree) I.ok.glob (I.mod.glob.keeps I.bk) hcode (TB.code.keeps I.bk) hP' ht hc bP fun ctv h' tk hx hsz => ?_
    have I1 : Inv X pins σ H { s with heap := h'.push (lamOb (X.env.qual ++ "<lambda>") params body scope (cloFrom X.env.cells scope.names []) ((X.mg "__name__").getD .none) c' ctv dV), toks := tk } := I.kept fun b o e => Heap.get?_push_of_some _ (hx b o e)
    exact h h'.objs.size c' oc ((X.mg "__name__").getD .none) ctv H _ I1 ⟨hT, .inl rfl⟩ (fun b o _ e => Heap.get?_push_of_some _ (hx b o e)) (fun _ _ _ n => n) (Heap.get?_push_size _ rfl) (I.hok.fresh hsz) (Inv.nostk I hsz) hco hcq
/-- the lambda is made; dvs: its defaults -/
theorem lam_makeD {c P : Addr} {params : Arguments} {body : Expr} {scope : Scope} {pos : Pos} {dts : List (Sem Value)} {dvs : List V} {E : Value → Shared → Prop} {Q : Value → Shared → Prop} (I : Inv X pins σ H s) (TB : GxR.TabB X.base X.mg c P) (hcode : X.env.code = .ref c)
    (hT : LTabG H P (X.env.qual ++ "<lambda>")) (hdef : defaultsOf params X.env = (dts, [])) (hev : ∀ (Q : List Value → Shared → Prop), (∀ us tk, Vals dvs us → Q us { s with toks := tk }) → wpAny (model X.prog X.w) X.A (evalAll dts) Q E s)
    (hfree : ∀ y ∈ scope.names, y.2 = .free → ∃ c, X.env.cells.lookup y.1 = some c)
    (h : ∀ (f c' : Addr) (oc : Obj) (pm ctv dV : Value) (H1 : Hp) (s' : Shared), Inv X pins σ H1 s' → Made P (X.env.qual ++ "<lambda>") H H1 →
      s'.heap.get? f = some (lamOb (X.env.qual ++ "<lambda>") params body scope (cloFrom X.env.cells scope.names []) pm c' ctv dV) → H1 f = none → f ∉ frs X.stack → H1 c' = some (.frz oc (.own c')) → CodeQ oc (X.env.qual ++ "<lambda>") → DfAt (frs X.stack) s'.heap H1 dV dvs → Q (.ref f) s') :
    wpAny (model X.prog X.w) X.A (eval (.Lambda params body scope pos) X.env) Q E s := by
  rw [arm_eval_Lambda, hdef]
  show wpAny _ _ (do let dv ← evalAll dts; let kdv ← holding dv (evalAllOpt []); makeFunction "<lambda>" (X.env.qual ++ "<lambda>") params (.expr body) scope X.env dv kdv [] pos pos.line) Q E s
  refine wpAny_bind (hev _ fun us tk r => wpAny_bind (wpAny_holding (wpAny_pure ?_)))
  rw [makeFunction_eq]
  simp only [List.zip_nil_right, List.filterMap_nil, List.isEmpty_nil, if_true]
  match us, r with
  | [], r =>
    cases r
    refine wpAny_bind (wpAny_pure (wpAny_bind (wpAny_pure (wpAny_bind (wpAny_pure ?_)))))
    exact lam_tailQ (s := { s with toks := tk }) (I.tok tk) TB hcode hT hfree fun f c' oc pm ctv H1 s' I1 M k n e1 e2 e3 e4 e5 => h f c' oc pm ctv .none H1 s' I1 M e1 e2 e3 e4 e5 (.inl ⟨rfl, rfl⟩)
  | u :: us, r =>
    refine wpAny_bind ?_
    refine wpAny_newTextTuple (wpAny_bind (wpAny_pure (wpAny_bind (wpAny_pure ?_))))
    have I0 := I.kept (t' := tk) (h' := s.heap.push { cls := .type "tuple", data := .seq (u :: us).toArray }) fun b o e => Heap.get?_push_of_some _ e
    refine lam_tailQ I0 TB hcode hT hfree fun f c' oc pm ctv H1 s' I1 M k n e1 e2 e3 e4 e5 => h f c' oc pm ctv _ H1 s' I1 M e1 e2 e3 e4 e5 (.inr ⟨s.heap.objs.size, _, u :: us, 0, rfl, k _ _ (fun z => ?_) (Heap.get?_push_size _ rfl), rfl, r, n _ _ (Heap.get?_push_size _ rfl) (I.hok.fresh (Nat.le_refl _)), Inv.nostk I (Nat.le_refl _), fun z => by rw [z] at r; cases r⟩)
    obtain ⟨ps, hP, _⟩ := hT
    rw [← z] at hP
    rw [I.hok.fresh (Nat.le_refl _)] at hP
    cases hP
end
end Tw
/-! a lambda handed to a def that calls it in a try -/
namespace Tw
open PySem PySem.Spec PyProof.Rows L2
section
variable {X : Cx} {pins : List (Addr × Obj)} {σ : L2.St} {H : Hp} {s : Shared}
/-- what is known of a made lambda, in the state where the def that got it begins -/
structure LamAt (X : Cx) (H : Hp) (s : Shared) (f c' : Addr) (oc : Obj) (params : Arguments) (body : Expr) (scope : Scope) (pm ctv dV : Value) (dvs : List V) : Prop where
  get : s.heap.get? f = some (lamOb (X.env.qual ++ "<lambda>") params body scope (cloFrom X.env.cells scope.names []) pm c' ctv dV)
  no : H f = none
  fr : f ∉ frs X.stack
  code : CodeQ oc (X.env.qual ++ "<lambda>")
  df : DfAt (frs X.stack) s.heap H dV dvs
/-- x(), x the parameter at slot i of the def that got the lambda; one parameter of the lambda, its default v -/
theorem pe_act1 {Eg : XK} {Ng : List Str} {qg : Str} {sg : Scope} {g f c' : Addr} {oc : Obj} {cdg pm ctv dV : Value} {params : Arguments} {body : Expr} {scope : Scope} {k i j : Nat} {a y : Str} {v : V} {pn : List (Addr × Obj)} {xe : Value → Shared → Prop} {W : WX} {E : XK} {tb : TE} {p1 p2 : Pos}
    (I : Inv X pins σ H s) (L : LamS1 X.env.scope scope y) (hNd : X.N.Nodup) (hj : X.N[j]? = some y) (la : LamAt X H s f c' oc params body scope pm ctv dV [v])
    (hbind : ∀ (T : Addr), ∃ kk, bindArgs (lamFn (X.env.qual ++ "<lambda>") params body scope (cloFrom X.env.cells scope.names []) pm (.ref c') ctv (.ref T)) ⟨[], []⟩ = seqItems? (.ref T) >>= kk ∧ ∀ u, kk (some #[u]) = pure [(y, u)])
    (tk : Takes ((cxOf CX0 X.prog X.w X.K X.mg X.base Ng qg sg g cdg X.A X.stack s H Eg).tr pn xe) W) (hW : ∀ cls d σ' H', E cls d H' → W cls d σ' H') (hr : Room (k + 1) (X.A.deeper (envOfC qg sg s.heap.objs.size g cdg)))
    (hbody : ∀ (A : Around) (outer : List Env) (s : Shared) (H : Hp), Room k (A.deeper (LamX.lamEnv X scope s.heap.objs.size f c')) → PE (LamX.lamCx X A outer s H E scope f c') body tb)
    (hN : Ng[i]? = some a) (hv : Vis sg a) (hd : (a == ("__debug__" : Str)) = false := by decide) (hcd : (a == ("__classdict__" : Str)) = false := by decide) :
    PE ((cxOf CX0 X.prog X.w X.K X.mg X.base Ng qg sg g cdg X.A X.stack s H Eg).tr pn xe) (.Call (.Name a p1) [] [] p2)
      (fun σZ HZ Q => σZ[i]? = some (some (.ref f)) ∧ HZ c' = some (.frz oc (.own c')) ∧ tb (σ.set j (some v)) HZ Q) := by
  refine ⟨fun pinsZ sZ σZ HZ Q IZ h => ?_⟩
  obtain ⟨hs, hc, ht⟩ := h
  refine wpAny_Call_Name_kw (thn ((pe_var (pos := p1) (i := i) hN hv hd hcd).run pinsZ sZ σZ HZ (fun v H1 => v = .ref f ∧ H1 = HZ) IZ ⟨.ref f, hs, rfl, rfl⟩) fun u s1 ⟨v1, H1, I1, r1, q1⟩ => ?_)
  obtain ⟨ev, eH⟩ := q1
  subst ev
  rw [eH] at I1
  obtain rfl : u = Value.ref f := r1
  have nx : ∀ b : Addr, b ∉ ((cxOf CX0 X.prog X.w X.K X.mg X.base Ng qg sg g cdg X.A X.stack s H Eg).tr pn xe).ex := fun b z => nomatch (show b ∈ ([] : List Addr) from z)
  have of1 := I1.base.keep f _ la.get la.no la.fr (nx f)
  rcases la.df with ⟨e, _⟩ | ⟨T, oT, us, n, eT, gT, dT, rT, nT, fT⟩
  · cases e
  obtain ⟨fT, _⟩ := fT
  subst eT
  have oT1 := I1.base.keep T _ gT nT fT (nx T)
  obtain ⟨u0, eu, ru⟩ : ∃ u0, us = [u0] ∧ RelV v u0 := by
    cases rT with
    | cons r rn => cases rn; exact ⟨_, rfl, r⟩
  subst eu
  refine PySem.W.callWith_F0 ⟨_, _, _, _, of1⟩ ?_
  have un : Un (frs X.stack) [] H HZ s.heap s1.heap := I1.base
  obtain ⟨hoc, _⟩ := I1.hok c' _ hc
  obtain ⟨vs, t, hdc, hvc⟩ := la.code
  have rc : codeAny (model X.prog X.w) (X.A.deeper (envOfC qg sg s.heap.objs.size g cdg)) (.call (.ref f) ⟨[], []⟩) (CR (L2.CX X.prog X.w) (envOfC qg sg s.heap.objs.size g cdg :: X.stack) X.prog X.w HZ s1 Q E) s1 := by
    refine PySem.W.kla_callFunE hr.depth of1 rfl L.co L.gen rfl ⟨c', oc, vs, t, rfl, hoc, hdc, hvc⟩ ?_
    obtain ⟨kk, e1, e2⟩ := hbind T
    rw [e1]
    refine wpAny_bind (wpAny_seqItems oT1 dT ?_)
    rw [show ([u0] : List Value).toArray = #[u0] from rfl, e2 u0]
    refine wpAny_pure (wpAny_newFunctionEnv (fun y hy => (L.own y hy).1) (fun y hy => by rw [List.mem_singleton.mp hy]; exact L.loc) (fun h₁ hns hsb => ⟨I1.nolimit.fresh _ hsb, ?_⟩) L.kind)
    show codeAny _ _ (.expr body (LamX.lamEnv X scope s1.heap.objs.size f c')) _ _
    have kp : ∀ b o, s1.heap.get? b = some o → h₁.get? b = some o := fun b o e => hsb.extBut b o (Nat.ne_of_lt (Heap.lt_size e)) (Heap.get?_push_of_some _ e)
    have J : Inv (LamX.lamCx X (X.A.deeper (envOfC qg sg s.heap.objs.size g cdg)) (envOfC qg sg s.heap.objs.size g cdg :: X.stack) s1 HZ E scope f c') [] (σ.set j (some v)) HZ { s1 with heap := h₁, toks := s1.toks + ([(y, u0)] : List (Str × Value)).length } :=
      lam_start1 I L I1.env0 hr.hd hNd hj ru un hns kp
    refine PySem.W.kla_codeExpr (wpAny_mono ((hbody _ _ s1 HZ (hr.deeper _)).run [] _ _ HZ Q J ht) (fun v s' hq => ?_) fun e s' hq => hq)
    obtain ⟨w', H', J', rv, q⟩ := hq
    exact ⟨w', H', J'.os, J'.bare, J'.base, J'.hok, rv, q⟩
  have hx : Passes (L2.CX X.prog X.w) ((cxOf CX0 X.prog X.w X.K X.mg X.base Ng qg sg g cdg X.A X.stack s H Eg).tr pn xe) E := passes_call tk hW
  refine wpAny_call (codeAny_mono rc fun r s' hq => ?_)
  cases r with
  | error e => exact hx pinsZ σZ HZ s1 e s' I1 hq
  | ok fl =>
    cases fl with
    | ret u => exact I1.after hq
    | next => exact False.elim hq
    | brk => exact False.elim hq
    | cont => exact False.elim hq
/-- the same, a lambda without parameters -/
theorem pe_act0 {Eg : XK} {Ng : List Str} {qg : Str} {sg : Scope} {g f c' : Addr} {oc : Obj} {cdg pm ctv dV : Value} {params : Arguments} {body : Expr} {scope : Scope} {k i : Nat} {a : Str} {pn : List (Addr × Obj)} {xe : Value → Shared → Prop} {W : WX} {E : XK} {tb : TE} {p1 p2 : Pos}
    (I : Inv X pins σ H s) (L : LamX.LamS X.env.scope scope) (la : LamAt X H s f c' oc params body scope pm ctv dV [])
    (hbind : bindArgs (lamFn (X.env.qual ++ "<lambda>") params body scope (cloFrom X.env.cells scope.names []) pm (.ref c') ctv .none) ⟨[], []⟩ = pure [])
    (tk : Takes ((cxOf CX0 X.prog X.w X.K X.mg X.base Ng qg sg g cdg X.A X.stack s H Eg).tr pn xe) W) (hW : ∀ cls d σ' H', E cls d H' → W cls d σ' H') (hr : Room (k + 1) (X.A.deeper (envOfC qg sg s.heap.objs.size g cdg)))
    (hbody : ∀ (A : Around) (outer : List Env) (s : Shared) (H : Hp), Room k (A.deeper (LamX.lamEnv X scope s.heap.objs.size f c')) → PE (LamX.lamCx X A outer s H E scope f c') body tb)
    (hN : Ng[i]? = some a) (hv : Vis sg a) (hd : (a == ("__debug__" : Str)) = false := by decide) (hcd : (a == ("__classdict__" : Str)) = false := by decide) :
    PE ((cxOf CX0 X.prog X.w X.K X.mg X.base Ng qg sg g cdg X.A X.stack s H Eg).tr pn xe) (.Call (.Name a p1) [] [] p2)
      (fun σZ HZ Q => σZ[i]? = some (some (.ref f)) ∧ HZ c' = some (.frz oc (.own c')) ∧ tb σ HZ Q) := by
  refine ⟨fun pinsZ sZ σZ HZ Q IZ h => ?_⟩
  obtain ⟨hs, hc, ht⟩ := h
  refine wpAny_Call_Name_kw (thn ((pe_var (pos := p1) (i := i) hN hv hd hcd).run pinsZ sZ σZ HZ (fun v H1 => v = .ref f ∧ H1 = HZ) IZ ⟨.ref f, hs, rfl, rfl⟩) fun u s1 ⟨v1, H1, I1, r1, q1⟩ => ?_)
  obtain ⟨ev, eH⟩ := q1
  subst ev
  rw [eH] at I1
  obtain rfl : u = Value.ref f := r1
  have nx : ∀ b : Addr, b ∉ ((cxOf CX0 X.prog X.w X.K X.mg X.base Ng qg sg g cdg X.A X.stack s H Eg).tr pn xe).ex := fun b z => nomatch (show b ∈ ([] : List Addr) from z)
  have of1 := I1.base.keep f _ la.get la.no la.fr (nx f)
  rcases la.df with ⟨_, e⟩ | ⟨T, oT, us, n, eT, gT, dT, rT, nT, fT⟩
  case inr => exact absurd rfl (by obtain ⟨fT, ne⟩ := fT; exact ne)
  subst e
  refine PySem.W.callWith_F0 ⟨_, _, _, _, of1⟩ ?_
  have un : Un (frs X.stack) [] H HZ s.heap s1.heap := I1.base
  obtain ⟨hoc, _⟩ := I1.hok c' _ hc
  obtain ⟨vs, t, hdc, hvc⟩ := la.code
  have rc : codeAny (model X.prog X.w) (X.A.deeper (envOfC qg sg s.heap.objs.size g cdg)) (.call (.ref f) ⟨[], []⟩) (CR (L2.CX X.prog X.w) (envOfC qg sg s.heap.objs.size g cdg :: X.stack) X.prog X.w HZ s1 Q E) s1 := by
    refine PySem.W.kla_callFunE hr.depth of1 rfl L.co L.gen rfl ⟨c', oc, vs, t, rfl, hoc, hdc, hvc⟩ ?_
    rw [hbind]
    refine wpAny_pure (wpAny_newFunctionEnv (fun y hy => (L.own y hy).2) (fun y hy => absurd hy (by simp)) (fun h₁ hns hsb => ⟨I1.nolimit.fresh _ hsb, ?_⟩) L.kind)
    show codeAny _ _ (.expr body (LamX.lamEnv X scope s1.heap.objs.size f c')) _ _
    have kp : ∀ b o, s1.heap.get? b = some o → h₁.get? b = some o := fun b o e => hsb.extBut b o (Nat.ne_of_lt (Heap.lt_size e)) (Heap.get?_push_of_some _ e)
    have J : Inv (LamX.lamCx X (X.A.deeper (envOfC qg sg s.heap.objs.size g cdg)) (envOfC qg sg s.heap.objs.size g cdg :: X.stack) s1 HZ E scope f c') [] σ HZ { s1 with heap := h₁, toks := s1.toks + ([] : List (Str × Value)).length } :=
      LamX.lam_start2 I L I1.env0 hr.hd un hns kp
    refine PySem.W.kla_codeExpr (wpAny_mono ((hbody _ _ s1 HZ (hr.deeper _)).run [] _ _ HZ Q J ht) (fun v s' hq => ?_) fun e s' hq => hq)
    obtain ⟨w', H', J', rv, q⟩ := hq
    exact ⟨w', H', J'.os, J'.bare, J'.base, J'.hok, rv, q⟩
  have hx : Passes (L2.CX X.prog X.w) ((cxOf CX0 X.prog X.w X.K X.mg X.base Ng qg sg g cdg X.A X.stack s H Eg).tr pn xe) E := passes_call tk hW
  refine wpAny_call (codeAny_mono rc fun r s' hq => ?_)
  cases r with
  | error e => exact hx pinsZ σZ HZ s1 e s' I1 hq
  | ok fl =>
    cases fl with
    | ret u => exact I1.after hq
    | next => exact False.elim hq
    | brk => exact False.elim hq
    | cont => exact False.elim hq
end
end Tw
/-! told(lambda: ..): what the def makes of what the lambda does -/
namespace Tw
open PySem PySem.Spec PyProof.Rows L2
/-- the def that calls what it got -/
def GivesQ (X : Cx) (Ng : List Str) (x : Str) (sg : Scope) (g : Addr) (cdg : Value) (bg : List Stmt) (a : Str) (TT : (XK → Hp → VK → Prop) → Hp → VK → Prop) : Prop :=
  ∀ (f c' : Addr) (oc : Obj) (s : Shared) (H : Hp) (Q : VK) (tl : XK → Hp → VK → Prop),
    (∀ (W : WX) (pn : List (Addr × Obj)) (xe : Value → Shared → Prop) (E : XK) (p1 p2 : Pos), Takes ((cxOf CX0 X.prog X.w X.K X.mg X.base Ng x sg g cdg X.A X.stack s H E0).tr pn xe) W → (∀ cls d σ' H', E cls d H' → W cls d σ' H') →
      PE ((cxOf CX0 X.prog X.w X.K X.mg X.base Ng x sg g cdg X.A X.stack s H E0).tr pn xe) (.Call (.Name a p1) [] [] p2) (fun σZ HZ Q => σZ[0]? = some (some (.ref f)) ∧ HZ c' = some (.frz oc (.own c')) ∧ tl E HZ Q)) →
    H c' = some (.frz oc (.own c')) → TT tl H Q →
    ∃ t, PSs (cxOf CX0 X.prog X.w X.K X.mg X.base Ng x sg g cdg X.A X.stack s H E0).nox bg t ∧ t { nx := fun _ H' => Q .non H', rt := Q } (L2.start Ng [.ref f]) H
def tLamQ (P : Addr) (q : Str) (TT : (XK → Hp → VK → Prop) → Hp → VK → Prop) (t : XK → TE) : TE := fun σ H Q => LTabG H P q ∧ ∀ H1, Made P q H H1 → TT (fun E H' Q' => t E σ H' Q') H1 Q
/-- the def, called with what was made -/
theorem gives_call {X : Cx} {pins : List (Addr × Obj)} {σ : L2.St} {H1 : Hp} {s' : Shared} {Q : VK} {K : PySem.W.Frag} {x a : Str} {st : Stmt} {g f c' : Addr} {fd : FuncData} {cdv : Value} {Ng : List Str} {oc : Obj} {k : Nat} {TT : (XK → Hp → VK → Prop) → Hp → VK → Prop} {tl : XK → Hp → VK → Prop}
    (hK : X.K = K) (F : FunC K x x st g fd cdv) (hb : L2.Binds K fd [a] []) (Sg : FnScope Ng [a] (defScope st)) (hG : GivesQ X Ng x (defScope st) g cdv (defBody st) a TT) (hr : Room (k + 1) X.A) (I1 : Inv X pins σ H1 s') (hco : H1 c' = some (.frz oc (.own c')))
    (act : Room k (X.A.deeper (envOfC x (defScope st) s'.heap.objs.size g cdv)) → ∀ (W : WX) (pn : List (Addr × Obj)) (xe : Value → Shared → Prop) (E : XK) (p1 p2 : Pos), Takes ((cxOf CX0 X.prog X.w X.K X.mg X.base Ng x (defScope st) g cdv X.A X.stack s' H1 E0).tr pn xe) W → (∀ cls d σ' H', E cls d H' → W cls d σ' H') →
      PE ((cxOf CX0 X.prog X.w X.K X.mg X.base Ng x (defScope st) g cdv X.A X.stack s' H1 E0).tr pn xe) (.Call (.Name a p1) [] [] p2) (fun σZ HZ Q => σZ[0]? = some (some (.ref f)) ∧ HZ c' = some (.frz oc (.own c')) ∧ tl E HZ Q))
    (h : TT tl H1 Q) : wpAny (model X.prog X.w) X.A (call (.ref g) [.ref f]) (EP X pins σ Q) X.xe s' := by
  subst hK
  obtain ⟨oc0, od, kV, doc, pm, an, ct, osl, rfl, lk, hcd⟩ := F.ex
  have rc : codeAny (model X.prog X.w) X.A (.call (.ref g) ⟨[.ref f], []⟩) (CR CX0 X.stack X.prog X.w H1 s' Q E0) s' := by
    refine LamX.run_ofS (N := Ng) (ps := [a]) (us := [.ref f]) (vs := [.ref f]) lk hcd Sg hr I1.env0 (hb s' [.ref f] I1.kIn rfl) (.cons rfl .nil) rfl fun hr' => ?_
    obtain ⟨t', ht', hq'⟩ := hG f c' oc s' H1 Q tl (act hr') hco h
    exact ⟨t', ht'.nox, hq'⟩
  refine wpAny_call (codeAny_mono rc fun r s2 hq => ?_)
  cases r with
  | error e => exact (show False from hq).elim
  | ok fl =>
    cases fl with
    | ret u => exact I1.after hq
    | next => exact False.elim hq
    | brk => exact False.elim hq
    | cont => exact False.elim hq
section
variable {X : Cx} {K : PySem.W.Frag} {mg : Str → Option Value}
/-- x(lambda: body) -/
theorem pe_told0 {TT : (XK → Hp → VK → Prop) → Hp → VK → Prop} {x a : Str} {st : Stmt} {g c P : Addr} {fd : FuncData} {cdv : Value} {Ng : List Str} {k : Nat} {params : Arguments} {body : Expr} {scope : Scope} {t : XK → TE} {p lpos pos : Pos} (hK : X.K = K) (hg : Gl X x) (hm : X.mg x = some (.ref g))
    (F : FunC K x x st g fd cdv) (hb : L2.Binds K fd [a] []) (Sg : FnScope Ng [a] (defScope st)) (hNg : Ng[0]? = some a) (hva : Vis (defScope st) a) (hG : GivesQ X Ng x (defScope st) g cdv (defBody st) a TT)
    (TB : GxR.TabB X.base X.mg c P) (hcode : X.env.code = .ref c) (hr : Room (k + 2) X.A) (L : LamX.LamS X.env.scope scope) (hdef : defaultsOf params X.env = ([], []))
    (hbind : ∀ (cl : List (Str × Addr)) (pm cv ctv : Value), bindArgs (lamFn (X.env.qual ++ "<lambda>") params body scope cl pm cv ctv .none) ⟨[], []⟩ = pure [])
    (hbody : ∀ (A : Around) (outer : List Env) (s : Shared) (H : Hp) (E : XK) (f c' : Addr), Room k (A.deeper (LamX.lamEnv X scope s.heap.objs.size f c')) → PE (LamX.lamCx X A outer s H E scope f c') body (t E))
    (hdb : (x == ("__debug__" : Str)) = false := by decide) (hd : (a == ("__debug__" : Str)) = false := by decide) (hcd : (a == ("__classdict__" : Str)) = false := by decide) :
    PE X (.Call (.Name x p) [.Lambda params body scope lpos] [] pos) (tLamQ P (X.env.qual ++ "<lambda>") TT t) := by
  refine ⟨fun pins s σ H Q I h => ?_⟩
  obtain ⟨hT, h⟩ := h
  have hk : PySem.W.keepIn X.K (.ref g) = true := by rw [hK]; exact F.kp
  refine wpAny_Call_Name_kw (ld_glob I hg hm ?_ hdb)
  refine PySem.W.callWith_K (h₀ := X.base) I.ok.mod.kin hk ?_ (by rfl) (by rfl)
  show wpAny _ _ (spliced ((false, eval (.Lambda params body scope lpos) X.env) :: backTo pos (starEach [] X.env))) _ _ s
  refine Calls.spliced_cons (lam_makeD (dvs := []) I TB hcode hT hdef (fun Q hQ => wpAny_evalAll_nil (hQ [] s.toks .nil)) (L.has I.ok) fun f c' oc pm ctv dV H1 s' I1 M hf hfn hfr hco hcq df => ?_)
  refine Calls.spliced_nil ⟨I1.kIn, ?_⟩
  have la : LamAt X H1 s' f c' oc params body scope pm ctv dV [] := ⟨hf, hfn, hfr, hcq, df⟩
  exact gives_call hK F hb Sg hG hr I1 hco (fun hr' W pn xe E p1 p2 tk hW => pe_act0 (i := 0) I1 L la (hbind _ _ _ _) tk hW hr' (fun A outer s H hr2 => hbody A outer s H E f c' hr2) hNg hva hd hcd) (h H1 M)
/-- x(lambda y=i: body), i a written int -/
theorem pe_told1 {TT : (XK → Hp → VK → Prop) → Hp → VK → Prop} {x a y : Str} {st : Stmt} {g c P : Addr} {fd : FuncData} {cdv : Value} {Ng : List Str} {k j : Nat} {params : Arguments} {body : Expr} {scope : Scope} {t : XK → TE} {p lpos pos dp : Pos} {i : Int} {di : Nat} (hK : X.K = K) (hg : Gl X x) (hm : X.mg x = some (.ref g))
    (F : FunC K x x st g fd cdv) (hb : L2.Binds K fd [a] []) (Sg : FnScope Ng [a] (defScope st)) (hNg : Ng[0]? = some a) (hva : Vis (defScope st) a) (hG : GivesQ X Ng x (defScope st) g cdv (defBody st) a TT)
    (TB : GxR.TabB X.base X.mg c P) (hcode : X.env.code = .ref c) (hr : Room (k + 2) X.A) (hNd : X.N.Nodup) (hj : X.N[j]? = some y) (L : LamS1 X.env.scope scope y) (hdef : defaultsOf params X.env = ([eval (.Constant (.int i) di dp) X.env], []))
    (hbind : ∀ (cl : List (Str × Addr)) (pm cv ctv : Value) (T : Addr), ∃ kk, bindArgs (lamFn (X.env.qual ++ "<lambda>") params body scope cl pm cv ctv (.ref T)) ⟨[], []⟩ = seqItems? (.ref T) >>= kk ∧ ∀ u, kk (some #[u]) = pure [(y, u)])
    (hbody : ∀ (A : Around) (outer : List Env) (s : Shared) (H : Hp) (E : XK) (f c' : Addr), Room k (A.deeper (LamX.lamEnv X scope s.heap.objs.size f c')) → PE (LamX.lamCx X A outer s H E scope f c') body (t E))
    (hdb : (x == ("__debug__" : Str)) = false := by decide) (hd : (a == ("__debug__" : Str)) = false := by decide) (hcd : (a == ("__classdict__" : Str)) = false := by decide) :
    PE X (.Call (.Name x p) [.Lambda params body scope lpos] [] pos) (tLamQ P (X.env.qual ++ "<lambda>") TT fun E σ => t E (σ.set j (some (.int i)))) := by
  refine ⟨fun pins s σ H Q I h => ?_⟩
  obtain ⟨hT, h⟩ := h
  have hk : PySem.W.keepIn X.K (.ref g) = true := by rw [hK]; exact F.kp
  refine wpAny_Call_Name_kw (ld_glob I hg hm ?_ hdb)
  refine PySem.W.callWith_K (h₀ := X.base) I.ok.mod.kin hk ?_ (by rfl) (by rfl)
  show wpAny _ _ (spliced ((false, eval (.Lambda params body scope lpos) X.env) :: backTo pos (starEach [] X.env))) _ _ s
  refine Calls.spliced_cons (lam_makeD (dvs := [.int i]) I TB hcode hT hdef (fun Q hQ => wpAny_evalAll_cons (wpAny_Constant_int (wpAny_evalAll_nil (hQ _ _ (.cons ⟨_, rfl⟩ .nil))))) (L.has I.ok) fun f c' oc pm ctv dV H1 s' I1 M hf hfn hfr hco hcq df => ?_)
  refine Calls.spliced_nil ⟨I1.kIn, ?_⟩
  have la : LamAt X H1 s' f c' oc params body scope pm ctv dV [.int i] := ⟨hf, hfn, hfr, hcq, df⟩
  exact gives_call hK F hb Sg hG hr I1 hco (fun hr' W pn xe E p1 p2 tk hW => pe_act1 (i := 0) I1 L hNd hj la (hbind _ _ _ _) tk hW hr' (fun A outer s H hr2 => hbody A outer s H E f c' hr2) hNg hva hd hcd) (h H1 M)
end
/-! ### told: try: work() / except ME as e: suite / return '' -/
/-- Wd: what the suite returns of an exception of this class -/
def TTold (K : PySem.W.Frag) (ME : Addr) (Wd : Value → Str → Prop) : (XK → Hp → VK → Prop) → Hp → VK → Prop := fun tl H Q =>
  tl (fun cls d H' => d = none ∧ PySem.W.exmOne K cls (.ref ME) = some true ∧ ∃ z, Wd cls z ∧ Q (.str z) H') H fun _ H' => Q (.str "") H'
theorem told_gives {X : Cx} {K : PySem.W.Frag} {Ng : List Str} {x a e n : Str} {sg : Scope} {g ME : Addr} {cdg : Value} {j : Nat} {suite : List Stmt} {b₀ : Stmt} {Wd : Value → Str → Prop} {p1 p2 p3 p4 p7 p8 p9 p10 : Pos} (hK : X.K = K) (hge : sg.names.lookup e = some .globalImplicit) (hme : X.mg e = some (.ref ME)) (hde : (e == ("__debug__" : Str)) = false)
    (hNg : Ng.Nodup) (hn : Ng[1]? = some n) (hln : sg.names.lookup n = some .local) (h2 : Ng.length = 2)
    (hsu : ∀ (s : Shared) (H : Hp) (b : Addr) (oe : Obj) (cls : Value) (z : Str) (pn : List (Addr × Obj)), Zc cls none oe → (∃ vs, oe.data = .fields vs) → Wd cls z →
      PSs ((cxOf CX0 X.prog X.w X.K X.mg X.base Ng x sg g cdg X.A X.stack s H E0).nox.suite b ((b, oe) :: pn)) (b₀ :: suite) (fun D σ H => σ[1]? = some (some (.ref b)) ∧ D.rt (.str z) H)) :
    GivesQ X Ng x sg g cdg [.Try [.Expr (.Call (.Name a p1) [] [] p2) p3] [.ExceptHandler (some (.Name e p4)) (some n) (b₀ :: suite) p7] [] [] p8, .Return (some (.Constant (.str "") j p9)) p10] a (TTold K ME Wd) := by
  subst hK
  intro f c' oc s H Q tl act hc h
  have hgl : Gl (cxOf CX0 X.prog X.w X.K X.mg X.base Ng x sg g cdg X.A X.stack s H E0).nox e := hge
  have h0 : (L2.start Ng [V.ref f])[0]? = some (some (V.ref f)) := by
    unfold L2.start
    rfl
  refine ⟨_, pss_cons (ps_try_as (X := (cxOf CX0 X.prog X.w X.K X.mg X.base Ng x sg g cdg X.A X.stack s H E0).nox) (c := .ref ME) (i := 1)
      (tb := fun W D σ H => ∃ Ech : XK, (∀ cls d σ' H', Ech cls d H' → W cls d σ' H') ∧ σ[0]? = some (some (.ref f)) ∧ H c' = some (.frz oc (.own c')) ∧ tl Ech H fun _ H' => D.nx σ H')
      (ts := fun b cls d D σ H => d = none ∧ (∃ σ' : L2.St, σ = List.set σ' 1 (some (.ref b))) ∧ ∃ z, Wd cls z ∧ D.rt (.str z) H)
      rfl rfl hNg hn hln ⟨hgl, hde, .inl hme⟩ LamX.takes0 (fun W pn xe tk _ => ?_) (fun b oe cls d pn hz hf => ?_)) (pss_one (ps_ret pe_str)), ?_⟩
  · refine ⟨fun pins s' σ H' D I h' => ?_⟩
    obtain ⟨Ech, hW, h1, h2, h3⟩ := h'
    have hp := act W pn xe Ech p1 p2 tk hW
    exact (pss_one (ps_expr (pos := p3) hp)).run pins s' σ H' D I ⟨h1, h2, h3⟩
  · refine ⟨fun pins s' σ H' D I h' => ?_⟩
    obtain ⟨rfl, ⟨σ', rfl⟩, z, hw, hq⟩ := h'
    have hl : (σ'.set 1 (some (V.ref b))).length = Ng.length := I.len
    rw [List.length_set, h2] at hl
    exact (hsu s H b oe cls z pn hz hf hw).run pins s' _ H' D I ⟨List.getElem?_set_self (by omega), hq⟩
  · exact ⟨fun cls d H' => d = none ∧ PySem.W.exmOne X.K cls (.ref ME) = some true ∧ ∃ z, Wd cls z ∧ Q (.str z) H', fun cls d σ' H' ⟨e1, e2, z, e3, e4⟩ => ⟨true, e2, fun _ b _ => ⟨e1, ⟨_, rfl⟩, z, e3, e4⟩, fun hb => nomatch hb⟩, h0, hc, h⟩
section
variable {K : PySem.W.Frag} {S : Side} {ρ : Rho}
/-- told, by big steps -/
theorem ev_told {P ME : Addr} {q : Str} {Wd : Value → Str → Prop} {t : XK → TE} {ρ' : Rho} {U : L2.St → L2.St} {PX : Value → Option PyData → Prop} {Pd : DV → Prop} (hT : LTabS S P q) (hU : ∀ (M : Hp) σ, EnvOk K M σ ρ → EnvOk K M (U σ) ρ')
    (h : ∀ E, EvR K S (t E) ρ' E (fun _ => Pd (.d (.str ""))) PX) (hx : ∀ cls y, PX cls y → y = none ∧ PySem.W.exmOne K cls (.ref ME) = some true ∧ ∃ z, Wd cls z ∧ Pd (.d (.str z))) :
    Ev K S (tLamQ P q (TTold K ME Wd) fun E σ => t E (U σ)) ρ Pd := fun σ H hi he Q q0 => by
  refine ⟨hT.good H hi, fun H1 M => ?_⟩
  have t1 := M.to hT hi
  refine h _ (U σ) H1 t1.inv (hU _ _ (he.mono t1.ex)) _ (fun v x H2 t2 _ p2 => q0 _ (.d (.str "")) H2 (t1.trans t2) (show Dp _ _ _ _ from .str _) p2) fun cls d y H2 t2 x2 p2 => ?_
  obtain ⟨rfl, e2, z, e3, e4⟩ := hx cls y p2
  exact ⟨x2, e2, z, e3, q0 _ (.d (.str z)) H2 (t1.trans t2) (show Dp _ _ _ _ from .str _) e4⟩
end
end Tw
/-! texts: join, partition, f-strings, str(int), int(text), upper, signs one by one -/
namespace Tw
open PySem PySem.Spec PyProof.Rows L2
section
variable {K : PySem.W.Frag} {S : Side} {ρ : Rho} {to te : TE} {P : DV → Prop}
def rJoin (K : PySem.W.Frag) : V → List V → Hp → VK → Prop := fun x xs H Q => ∃ a p, ∃ ys : List Str, x = .str a ∧ xs = [.ref p] ∧ (SqL K H p (ys.map V.str) ∨ SqT K H p (ys.map V.str)) ∧ (ys.map (·.length)).sum + ys.length * a.length ≤ 16777216 ∧ Q (.str (Txt.join a ys)) H
theorem ec_joinL {a : Str} {ys : List Str} (hz : (ys.map (·.length)).sum + ys.length * a.length ≤ 16777216) (p : P (.d (.str (Txt.join a ys)))) : EvC K S (fun vs H Q => ∃ v w, vs = [v, w] ∧ rJoin K v [w] H Q) [.d (.str a), .d (lstS ys)] P := fun vs H hi hv Q q => by
  match vs, hv with
  | [v, w], hv =>
    cases dp_d hv.1
    obtain ⟨l, ws, rfl, hl, hd⟩ := dp_lst hv.2.1
    have e := dpAll_strs' hd
    subst e
    exact ⟨_, _, rfl, a, l, ys, rfl, rfl, .inl (ex_sql (view_ex S H) hl), hz, q _ (.d (.str _)) H (.refl hi) (show Dp _ _ _ _ from .str _) p⟩
theorem ec_joinT {a : Str} {ys : List Str} (hz : (ys.map (·.length)).sum + ys.length * a.length ≤ 16777216) (p : P (.d (.str (Txt.join a ys)))) : EvC K S (fun vs H Q => ∃ v w, vs = [v, w] ∧ rJoin K v [w] H Q) [.d (.str a), .d (tupS ys)] P := fun vs H hi hv Q q => by
  match vs, hv with
  | [v, w], hv =>
    cases dp_d hv.1
    obtain ⟨l, ws, rfl, hl, hd⟩ := dp_tup hv.2.1
    have e := dpAll_strs' hd
    subst e
    exact ⟨_, _, rfl, a, l, ys, rfl, rfl, .inr (ex_sqt (view_ex S H) hl), hz, q _ (.d (.str _)) H (.refl hi) (show Dp _ _ _ _ from .str _) p⟩
/-- sep.join(texts) -/
theorem ev_joinT (h : Ev K S to ρ fun x => ∃ a, x = .d (.str a) ∧ Ev K S te ρ fun y => ∃ ys : List Str, y = .d (tupS ys) ∧ (ys.map (·.length)).sum + ys.length * a.length ≤ 16777216 ∧ P (.d (.str (Txt.join a ys)))) : Ev K S (tM1 (rJoin K) to te) ρ P :=
  ev_m1 (h.imp fun x ⟨a, e, h2⟩ => ⟨a, e, h2.imp fun y ⟨b, e2, h3, p⟩ => by rw [e2]; exact ec_joinT h3 p⟩)
theorem ev_joinL (h : Ev K S to ρ fun x => ∃ a, x = .d (.str a) ∧ Ev K S te ρ fun y => ∃ ys : List Str, y = .d (lstS ys) ∧ (ys.map (·.length)).sum + ys.length * a.length ≤ 16777216 ∧ P (.d (.str (Txt.join a ys)))) : Ev K S (tM1 (rJoin K) to te) ρ P :=
  ev_m1 (h.imp fun x ⟨a, e, h2⟩ => ⟨a, e, h2.imp fun y ⟨b, e2, h3, p⟩ => by rw [e2]; exact ec_joinL h3 p⟩)
/-- text.partition(sep) -/
def rPart : V → List V → Hp → VK → Prop := fun x xs H Q => ∃ a b, x = .str a ∧ xs = [.str b] ∧ (b.length == 0) = false ∧ a.length ≤ sizeLine ∧ ∀ p, H p = none → Q (.ref p) (upd H p (.tup [.str (Txt.partition a b).1, .str (Txt.partition a b).2.1, .str (Txt.partition a b).2.2]))
theorem ev_part (h : Ev K S to ρ fun x => ∃ a, x = .d (.str a) ∧ Ev K S te ρ fun y => ∃ b : Str, y = .d (.str b) ∧ (b.length == 0) = false ∧ a.length ≤ sizeLine ∧ P (.d (tupS [(Txt.partition a b).1, (Txt.partition a b).2.1, (Txt.partition a b).2.2]))) : Ev K S (tM1 rPart to te) ρ P :=
  ev_m1 (h.imp fun x ⟨a, e, h2⟩ => ⟨a, e, h2.imp fun y ⟨b, e2, hb, ha, p⟩ => by
    rw [e2]
    exact fun vs H hi hv Q q => by
      match vs, hv with
      | [v, w], hv =>
        cases dp_d hv.1
        cases dp_d hv.2.1
        refine ⟨_, _, rfl, a, b, rfl, rfl, hb, ha, fun l nl => ?_⟩
        have t := Side.To.new (S := S) (o := .tup [V.str (Txt.partition a b).1, .str (Txt.partition a b).2.1, .str (Txt.partition a b).2.2]) hi nl
        exact q _ (.d (tupS [(Txt.partition a b).1, (Txt.partition a b).2.1, (Txt.partition a b).2.2])) _ t (.tup (.inl (.inl (view_new hi nl))) (dpAll_strs [(Txt.partition a b).1, (Txt.partition a b).2.1, (Txt.partition a b).2.2]) fun z => Bool.noConfusion (show false = true from z)) p⟩)
/-- text.upper() -/
def rUpper : V → List V → Hp → VK → Prop := fun x xs H Q => ∃ a, x = .str a ∧ xs = [] ∧ a.length ≤ 5592405 ∧ Q (.str (Txt.upper a)) H
theorem ev_upper (h : Ev K S to ρ fun x => ∃ a, x = .d (.str a) ∧ a.length ≤ 5592405 ∧ P (.d (.str (Txt.upper a)))) : Ev K S (tM0 rUpper to) ρ P := fun σ H hi he Q q =>
  h σ H hi he _ fun v x H1 t1 i1 p1 => by
    obtain ⟨a, rfl, hz, p⟩ := p1
    cases i1
    exact ⟨⟨a, rfl⟩, a, rfl, rfl, hz, q _ (.d (.str _)) H1 t1 (show Dp _ _ _ _ from .str _) p⟩
/-- a + b, texts -/
def rAddS : R2 := fun x y H Q => ∃ i j, x = .str i ∧ y = .str j ∧ i.length + j.length ≤ sizeLine ∧ Q (.str (i ++ j)) H
theorem e2_addS {i j : Str} (hz : i.length + j.length ≤ sizeLine) (p : P (.d (.str (i ++ j)))) : Ev2 K S rAddS (.d (.str i)) (.d (.str j)) P := fun v w H hi hv hw Q q => by
  cases hv
  cases hw
  exact ⟨i, j, rfl, rfl, hz, q _ (.d (.str _)) H (.refl hi) (show Dp _ _ _ _ from .str _) p⟩
/-- str(i), int(text) -/
def rStrI : List V → Hp → VK → Prop := fun xs H Q => ∃ i, xs = [.int i] ∧ i.natAbs.log2 < 1920 ∧ Q (.str (toString i)) H
theorem ec_strI {i : Int} (hz : i.natAbs.log2 < 1920) (p : P (.d (.str (toString i)))) : EvC K S rStrI [.d (.int i)] P := fun vs H hi hv Q q => by
  match vs, hv with
  | [v], hv =>
    cases dp_d hv.1
    exact ⟨i, rfl, hz, q _ (.d (.str _)) H (.refl hi) (show Dp _ _ _ _ from .str _) p⟩
def rIntS : List V → Hp → VK → Prop := fun xs H Q => ∃ a n, xs = [.str a] ∧ PySem.intText? a = some n ∧ a.length ≤ 640 ∧ Q (.int n) H
theorem ec_intS {a : Str} {n : Int} (hn : PySem.intText? a = some n) (hz : a.length ≤ 640) (p : P (.d (.int n))) : EvC K S rIntS [.d (.str a)] P := fun vs H hi hv Q q => by
  match vs, hv with
  | [v], hv =>
    cases dp_d hv.1
    exact ⟨a, n, rfl, hn, hz, q _ (.d (.int _)) H (.refl hi) (show Dp _ _ _ _ from .int _) p⟩
/-- a text as a test -/
def tTruS (ta : TE) : TT := fun σ H Q => ta σ H fun x H1 => ∃ z : Str, x = .str z ∧ z.length ≤ sizeLine ∧ Q ((z.length : Int) != 0) H1
theorem pt_truS {X : Cx} {a : Expr} {ta : TE} (ha : PE X a ta) (he : ∀ whole, isTrue a X.env whole = (do let v ← whole; standAt a.pos; holding [v] (truthy v)) := by intro _; rfl) : PT X a (tTruS ta) := by
  refine ⟨fun pins s σ H Q I h => ?_⟩
  refine isTrue_plain (thn (ha.run pins s σ H _ I h) fun v s1 ⟨x, H1, I1, r1, z, ex, hz, q1⟩ => ?_) (he _)
  subst ex
  exact tru_ok pins s1 σ H1 (.str z) v Q I1 r1 ⟨_, ⟨hz, rfl⟩, q1⟩
theorem et_truS {PB : Bool → Prop} (h : Ev K S te ρ fun x => ∃ z : Str, x = .d (.str z) ∧ z.length ≤ sizeLine ∧ PB ((z.length : Int) != 0)) : EvT K S (tTruS te) ρ PB := fun σ H hi he Q q =>
  h σ H hi he _ fun v x H1 t1 i1 p1 => by
    obtain ⟨z, rfl, hz, p1⟩ := p1
    cases dp_d i1
    exact ⟨z, rfl, hz, q _ H1 t1 p1⟩
/-- the signs of a text -/
def signs (z : Str) : List Str := z.cps.toList.map fun c => ⟨#[c]⟩
theorem walk_str {z : Str} {M : Hp} : Walk K (Its z) (sD (signs z)) M where
  go := fun S H i hi e hl => by
    rw [sD, signs, List.length_map, List.length_map, Array.length_toList] at hl
    exact hl
  stop := fun S H i hi e hl => by
    rw [sD, signs, List.length_map, List.length_map, Array.length_toList] at hl
    exact hl
  yld := fun S H i x H' hi e hl y => by
    obtain ⟨rfl, c, hc, rfl⟩ := y
    refine ⟨.refl hi, .str ⟨#[c]⟩, ?_, .str _⟩
    rw [sD, signs, List.getElem?_map, List.getElem?_map, Array.getElem?_toList, hc]
    rfl
theorem ei_str {PI : List PyData → Prop} (h : Ev K S te ρ fun x => ∃ z : Str, x = .d (.str z) ∧ PI (sD (signs z))) : EvI K S (iStr te) ρ PI := fun σ H hi he R r => h σ H hi he _ fun v x H1 t1 i1 p1 => by
  obtain ⟨z, rfl, p⟩ := p1
  cases dp_d i1
  exact ⟨z, rfl, r _ _ H1 t1 walk_str p⟩
/-! f-strings -/
def tF (ts : List TE) : TE := fun σ H Q => tJs ts Str.empty σ H fun out H1 => Q (.str out) H1
def EvJ (K : PySem.W.Frag) (S : Side) (ts : List TE) (acc : Str) (ρ : Rho) (P : Str → Prop) : Prop := ∀ σ H, S.inv H → EnvOk K (S.view H) σ ρ → ∀ Q : Str → Hp → Prop, (∀ out H2, S.To H H2 → P out → Q out H2) → tJs ts acc σ H Q
theorem evJ_nil {acc : Str} {PS : Str → Prop} (p : PS acc) : EvJ K S [] acc ρ PS := fun σ H hi he Q q => q acc H (.refl hi) p
theorem evJ_cons {ts : List TE} {acc : Str} {PS : Str → Prop} (h : Ev K S te ρ fun x => ∃ y : Str, x = .d (.str y) ∧ (acc ++ y).length ≤ sizeLine ∧ EvJ K S ts (acc ++ y) ρ PS) : EvJ K S (te :: ts) acc ρ PS := fun σ H hi he Q q =>
  h σ H hi he _ fun v x H1 t1 i1 p1 => by
    obtain ⟨y, rfl, hz, p⟩ := p1
    cases dp_d i1
    exact ⟨y, rfl, hz, p σ H1 t1.inv (he.mono t1.ex) Q fun out H2 t2 p2 => q out H2 (t1.trans t2) p2⟩
theorem ev_f {ts : List TE} (h : EvJ K S ts Str.empty ρ fun out => P (.d (.str out))) : Ev K S (tF ts) ρ P := fun σ H hi he Q q => h σ H hi he _ fun out H2 t p => q _ (.d (.str out)) H2 t (show Dp _ _ _ _ from .str _) p
theorem ev_fmtS (h : Ev K S te ρ fun x => ∃ y : Str, x = .d (.str y) ∧ y.length ≤ sizeLine ∧ P (.d (.str y))) : Ev K S (tFmt te) ρ P := fun σ H hi he Q q => h σ H hi he _ fun v x H1 t1 i1 p1 => by
  obtain ⟨y, rfl, hz, p⟩ := p1
  cases dp_d i1
  exact .inl ⟨y, rfl, hz, q _ (.d (.str y)) H1 t1 (show Dp _ _ _ _ from .str _) p⟩
theorem ev_fmtI (h : Ev K S te ρ fun x => ∃ i : Int, x = .d (.int i) ∧ i.natAbs.log2 < 1920 ∧ P (.d (.str (toString i)))) : Ev K S (tFmt te) ρ P := fun σ H hi he Q q => h σ H hi he _ fun v x H1 t1 i1 p1 => by
  obtain ⟨i, rfl, hz, p⟩ := p1
  cases dp_d i1
  exact .inr ⟨i, rfl, hz, q _ (.d (.str _)) H1 t1 (show Dp _ _ _ _ from .str _) p⟩
end
end Tw
/-! a tuple of five, backwards; a text times an int -/
namespace Tw
open PySem PySem.Spec PyProof.Rows L2
section
variable {prog : Program} {w : World} {A : Around} {E : Value → Shared → Prop} {s : Shared}
theorem rev5_item {t sl : Addr} {a b c d e : Value} {k : Tok} {Q : Value → Shared → Prop} (ht : PyProof.Rows.IsTup s.heap t #[a, b, c, d, e]) (hs : s.heap.IsSliceOf sl .none .none (.int (-1) k))
    (h : Q (.ref s.heap.objs.size) { s with heap := s.heap.push { cls := .type "tuple", data := .seq #[e, d, c, b, a] } }) : wpAny (model prog w) A (getItem (.ref t) (.ref sl)) Q E s := by
  obtain ⟨os, hos, hcs, hds⟩ := id hs
  have hTs : s.TypeIs (.ref sl) "slice" := ⟨os, hos, hcs⟩
  unfold getItem
  try with_reducible refine wpAny_holding ?_
  first | refine wpAny_bind (wpAny_pure ?_) | skip
  refine wpAny_bind (wpAny_sequenceKey ht.typeIs (by decide) ?_)
  refine wpAny_bind (wpAny_callSpecial?_slot (name := Str.ofString "__getitem__") ht.typeIs PyProof.Rows.slot_tuple_getitem
    (wpAny_call_entry PyProof.Rows.slot_tuple_getitem ht.typeIs PyProof.Rows.entry_tuple_getitem ?_ (PyProof.Rows.args_tuple_getitem _ _)))
  show wpAny _ _ (Builtin.Tuple.tupleItemsOf (.ref t) >>= _) _ _ s
  refine wpAny_bind (PyProof.Rows.tupleItemsOf_ ht ?_)
  refine wpAny_bind (wpAny_typeOf hTs ?_)
  rw [if_pos (by decide)]
  refine wpAny_bind ?_
  unfold Builtin.Slice.sliceApplied Builtin.Slice.sliceFields
  refine wpAny_bind (wpAny_bind (wpAny_field hos hds (x := .none) rfl (wpAny_bind (wpAny_field hos hds (x := .none) rfl (wpAny_bind (wpAny_field hos hds (x := .int (-1) k) rfl (wpAny_pure ?_)))))))
  refine wpAny_bind (slicePart_int ?_)
  show wpAny _ _ (if ((-1 : Int) == 0) = true then _ else _) _ _ s
  rw [if_neg (by decide)]
  refine wpAny_bind (slicePart_none (wpAny_bind (slicePart_none (wpAny_bind (wpAny_pure ?_)))))
  refine wpAny_pure ?_
  refine wpAny_bind (m := Builtin.Tuple.tupleExact _) (wpAny_newObj_type (wpAny_pure ⟨_, rfl, wpAny_pure ?_⟩) ?_)
  · exact Eq.mp (by kernel_rfl) h
  · exact Eq.mp (show sizeOk (.seq #[e, d, c, b, a]) = _ by kernel_rfl) (by show 5 ≤ sizeLine; decide)
end
/-- t[::-1], t a tuple of five -/
def tRev5 (K : PySem.W.Frag) (te : TE) : TE := fun σ H Q => te σ H fun x H1 => ∃ a x1 x2 x3 x4 x5, x = .ref a ∧ SqT K H1 a [x1, x2, x3, x4, x5] ∧ ∀ p o, H1 p = none → o.dict = none → Q (.ref p) (upd H1 p (.frz o (.tup [x5, x4, x3, x2, x1])))
theorem pe_rev5 {X : Cx} {K : PySem.W.Frag} (hK : X.K = K) {e : Expr} {te : TE} {k : Nat} {p1 p2 p3 pos : Pos} (he : PE X e te) : PE X (.Subscript e (.Slice none none (some (.UnaryOp .USub (.Constant (.int 1) k p1) p2)) p3) pos) (tRev5 K te) := by
  subst hK
  refine ⟨fun pins s σ H Q I h => ?_⟩
  refine Subscript_ (thn (he.run pins s σ H _ I h) fun v s1 ⟨x, H1, I1, r1, q1⟩ => ?_)
  obtain ⟨a, x1, x2, x3, x4, x5, rfl, hx, q1⟩ := q1
  cases r1
  refine wpAny_Slice ?_
  rw [evalPart_none]
  refine wpAny_pure (wpAny_pure ?_)
  have hp : PO X (some (.UnaryOp .USub (.Constant (.int 1) k p1) p2)) _ := po_some (pe_un un_neg pe_int)
  refine thn (hp.run pins s1 σ H1 (fun o H2 => o = some (-1) ∧ H2 = H1) I1 ⟨1, rfl, -1, rfl, rfl, rfl⟩) fun vu s3 ⟨u, H3, I3, pu, q3⟩ => ?_
  obtain ⟨rfl, rfl⟩ := q3
  cases pu with
  | int i tk =>
  have I4 : Inv X pins σ H3 { s3 with heap := s3.heap.push { cls := .type "slice", data := .fields #[.none, .none, .int (-1) tk] } } := I3.kept (t' := s3.toks) fun b ob q => Heap.get?_push_of_some _ q
  obtain ⟨its, r, ht, hz⟩ := I4.tuple hx
  obtain ⟨u1, u2, u3, u4, u5, rfl⟩ : ∃ u1 u2 u3 u4 u5, its = [u1, u2, u3, u4, u5] := by
    match its, r.length with
    | [u1, u2, u3, u4, u5], _ => exact ⟨_, _, _, _, _, rfl⟩
  have rr : Vals [x5, x4, x3, x2, x1] [u5, u4, u3, u2, u1] := by
    cases r with
    | cons r1 r => cases r with
      | cons r2 r => cases r with
        | cons r3 r => cases r with
          | cons r4 r => cases r with
            | cons r5 r => exact .cons r5 (.cons r4 (.cons r3 (.cons r2 (.cons r1 .nil))))
  show wpAny (model X.prog X.w) X.A (subscriptTail e (.Slice none none (some (.UnaryOp .USub (.Constant (.int 1) k p1) p2)) p3) (.ref a) (.ref s3.heap.objs.size)) (EP X pins σ Q) X.xe { s3 with heap := s3.heap.push { cls := .type "slice", data := .fields #[.none, .none, .int (-1) tk] } }
  refine tail_any (ops := [.ref a, .ref s3.heap.objs.size]) ht.typeIs PyProof.Rows.slot_tuple_getitem.lookup ?_ (by with_unfolding_all rfl)
  refine rev5_item ht (Heap.IsSliceOf.new ..) ?_
  refine ⟨.ref _, _, I4.laid (t' := s3.toks) (o := .frz _ (.tup [x5, x4, x3, x2, x1])) (fun b ob q => Heap.get?_push_of_some _ q) (Nat.le_refl _) ⟨Heap.get?_push_size _ rfl, by show 5 ≤ sizeLine; decide, _, rr, IsTup.new _ _⟩, rfl, q1 _ _ (I4.hok.fresh (Nat.le_refl _)) rfl⟩
/-- a text times an int -/
def okM (a : Str) (n : Int) : Bool := decide (2 ≤ n) && decide (n ≤ 100) && decide (1 ≤ a.length) && decide (a.length ≤ 100)
def repS (a : Str) (n : Int) : Str := ⟨(List.replicate n.toNat a.cps).foldl (· ++ ·) #[]⟩
def rMulS : R2 := fun x y H Q => ∃ a n, x = .str a ∧ y = .int n ∧ okM a n = true ∧ (repS a n).length ≤ sizeLine ∧ Q (.str (repS a n)) H
theorem op_mulS {X : Cx} : OpR X (binaryOp .Mult) rMulS := by
  intro pins s σ H x y v u Q I rx ry h
  obtain ⟨a, n, rfl, rfl, ho, hz, q⟩ := h
  obtain ⟨t, rfl⟩ := rx
  obtain ⟨t2, rfl⟩ := ry
  unfold okM at ho
  rw [Bool.and_eq_true, Bool.and_eq_true, Bool.and_eq_true, decide_eq_true_iff, decide_eq_true_iff, decide_eq_true_iff, decide_eq_true_iff] at ho
  obtain ⟨⟨⟨h1, h2⟩, h3⟩, h4⟩ := ho
  have hno : (n == 1 || a.length == 0) = false := by
    rw [Bool.or_eq_false_iff, beq_eq_false_iff_ne, beq_eq_false_iff_ne]
    omega
  refine P.mul_str ?_ (fun _ _ => ?_) (fun _ _ => ?_) ?_
  · rw [decide_eq_false (by omega), decide_eq_false (by omega)]
    rfl
  · have e : (100 : Int) ≤ (2 ^ 63 - 1) / n := Int.le_ediv_of_mul_le (by omega) (by omega)
    omega
  · unfold Builtin.Str.tooLong
    refine decide_eq_false ?_
    have e : a.length * n.toNat ≤ 100 * 100 := Nat.mul_le_mul h4 (by omega)
    have e2 : 100 * 100 ≤ sizeLine := by decide
    omega
  · rw [if_neg (by omega), if_neg (by rw [hno]; exact Bool.false_ne_true)]
    exact ⟨hz, .str (repS a n), H, I.tok _, ⟨_, rfl⟩, q⟩
section
variable {K : PySem.W.Frag} {S : Side} {ρ : Rho} {te : TE} {P : DV → Prop}
theorem e2_mulS {a : Str} {n : Int} (h1 : okM a n = true) (h2 : (repS a n).length ≤ sizeLine) (p : P (.d (.str (repS a n)))) : Ev2 K S rMulS (.d (.str a)) (.d (.int n)) P := fun v w H hi hv hw Q q => by
  cases hv
  cases hw
  exact ⟨a, n, rfl, rfl, h1, h2, q _ (.d (.str _)) H (.refl hi) (show Dp _ _ _ _ from .str _) p⟩
theorem ev_rev5 (h : Ev K S te ρ fun x => ∃ a b c d e : PyData, x = .d (.tuple [a, b, c, d, e]) ∧ P (.d (.tuple [e, d, c, b, a])) ∧ isPairD e = false) : Ev K S (tRev5 K te) ρ P := fun σ H hi he Q q =>
  h σ H hi he _ fun v x H1 t1 i1 p1 => by
    obtain ⟨a, b, c, d, e, rfl, p, hd⟩ := p1
    obtain ⟨l, vs, rfl, hl, hall⟩ := dp_tup i1
    cases hall with
    | @cons v1 _ _ _ y1 r => cases r with
      | @cons v2 _ _ _ y2 r => cases r with
        | @cons v3 _ _ _ y3 r => cases r with
          | @cons v4 _ _ _ y4 r => cases r with
            | @cons v5 _ _ _ y5 r =>
              cases r
              refine ⟨l, _, _, _, _, _, rfl, ex_sqt (view_ex S H1) hl, fun p' o np ho => ?_⟩
              have t := Side.To.new (S := S) (o := .frz o (.tup [v5, v4, v3, v2, v1])) t1.inv np
              refine q _ (.d (.tuple [e, d, c, b, a])) _ (t1.trans t) ?_ p
              refine .tup (.inl (.inr ⟨o, view_new t1.inv np⟩)) (dpAll_mono t.ex _ _ (.cons y5 (.cons y4 (.cons y3 (.cons y2 (.cons y1 .nil)))))) fun _ => .inl ⟨o, _, view_new t1.inv np, ho⟩
end
end Tw
namespace Tw
open PySem PySem.Spec PyProof.Rows L2
/-- a def that may raise, called where nothing may be raised -/
theorem passN {P : Program} {w : World} {K : PySem.W.Frag} {mg : Str → Option Value} {base : Heap} {qual : Str} {sc : Scope} {f : Addr} {cdv : Value} {N : List Str} {A : Around} {outer : List Env} {s : Shared} {H : Hp} {E : XK} :
    Passes (L2.CX P w) (cxOf CX0 P w K mg base N qual sc f cdv A outer s H E).nox E0 := passes_call (X := (cxOf CX0 P w K mg base N qual sc f cdv A outer s H E).nox) LamX.takes0 fun _ _ _ _ h => h
/-- .. in a lambda's body -/
theorem passL {X : Cx} {A : Around} {outer : List Env} {s : Shared} {H : Hp} {E : XK} {scope : Scope} {f c' : Addr} : Passes (L2.CX X.prog X.w) (LamX.lamCx X A outer s H E scope f c') E :=
  passes_call (X := LamX.lamCx X A outer s H E scope f c') (takes_of rfl rfl rfl rfl) fun _ _ _ _ h => h
end Tw
/-! maths of the texts of ways and documents -/
namespace Tw
open PySem PySem.Spec PyProof.Rows L2
def nameB (z : Str) : Bool := decide (1 ≤ z.length) && decide (z.length ≤ 12) && allIn "abcdefghijklmnopqrstuvwxyz" z
def itemB (e : Str × Int) : Bool := nameB e.1 && decide (0 ≤ e.2) && decide (e.2 ≤ 999)
def numC (z : Str) : Bool := decide (1 ≤ z.length) && decide (z.length ≤ 3) && allIn "0123456789" z
/-- the integer of a text -/
def numI (z : Str) : Option Int := if numC z then (match PySem.intText? z with | some n => if toString n = z then some n else none | none => none) else none
/-- it can be read, if it is of signs that can -/
def okI (z : Str) : Bool := !numC z || (match PySem.intText? z with | some n => decide (n.natAbs.log2 < 1920) | none => false)
abbrev numD (o : Option Int) : PyData := keyD (o.map Sum.inl)
/-- what a part reads as -/
abbrev PairO := Str × Option Int
abbrev prD (p : PairO) : PyData := .tuple [.str p.1, numD p.2]
def pairB (p : PairO) : Bool := nameB p.1 && (match p.2 with | some i => decide (0 ≤ i) && decide (i ≤ 999) | none => false)
def pairOf (t : Str) : PairO := ((Txt.partition t "=").1, numI (Txt.partition t "=").2.2)
def partsT (z : Str) : List Str := if (z.length : Int) != 0 then Txt.split z " " else []
def goodAt (ps : List PairO) (k : Nat) : Bool := pairB (ps.getD k ("", none)) && (k == 0 || decide ((ps.getD (k - 1) ("", none)).1.cps.toList < (ps.getD k ("", none)).1.cps.toList))
def goodB (ps : List PairO) : Bool := (List.range ps.length).all (goodAt ps)
def docOk (z : Str) : Bool := decide ((partsT z).length ≤ 12) && goodB ((partsT z).map pairOf)
/-- a part that can be looked at -/
def partOk (t : Str) : Bool := decide (t.length ≤ 1000) && decide ((Txt.partition t "=").1.length ≤ 1000) && decide ((Txt.partition t "=").2.2.length ≤ 1000) && okI (Txt.partition t "=").2.2
def textOk (z : Str) : Bool := decide (z.length ≤ 1000) && decide ((partsT z).length ≤ 1000) && (partsT z).all partOk
/-! the texts of documents -/
def partT (e : Str × Int) : Str := e.1 ++ "=" ++ Str.ofString (toString e.2)
def docT (es : List (Str × Int)) : Str := Txt.join " " (es.map partT)
def names5 : List Str := ["a", "abc", "b", "mmmmmmmmmmmm", "zz"]
def docL (es : List (Str × Int)) : Prop := (es.map (·.1)).Sublist names5 ∧ ∀ e ∈ es, 0 ≤ e.2 ∧ e.2 < 1000
theorem num_all : ∀ i : Nat, i < 1000 → numI (Str.ofString (toString (i : Int))) = some (i : Int) ∧ okI (Str.ofString (toString (i : Int))) = true ∧ (Str.ofString (toString (i : Int))).length ≤ 3 ∧ ((Str.ofString (toString (i : Int))).cps.toList.all fun c => decide (c ≠ 32) && decide (c < 256)) = true := by decide +kernel
theorem name_all : ∀ z ∈ names5, nameB z = true ∧ z.length ≤ 12 ∧ (z.cps.toList.all fun c => decide (c ≠ 32) && decide (c ≠ 61) && decide (c < 256)) = true := by decide +kernel
theorem one_name {es : List (Str × Int)} (h : docL es) {e : Str × Int} (he : e ∈ es) : e.1 ∈ names5 ∧ ∃ i : Nat, e.2 = (i : Int) ∧ i < 1000 := by
  refine ⟨h.1.subset (List.mem_map.mpr ⟨e, he, rfl⟩), e.2.toNat, ?_, ?_⟩
  · have := (h.2 e he).1
    omega
  · have := h.2 e he
    omega
theorem part_len {es : List (Str × Int)} (h : docL es) {e : Str × Int} (he : e ∈ es) : (partT e).length ≤ 16 := by
  obtain ⟨hn, i, hi, hl⟩ := one_name h he
  unfold partT
  rw [hi, TL.len_tl, TL.tl_append, TL.tl_append, List.length_append, List.length_append, ← TL.len_tl, ← TL.len_tl, ← TL.len_tl]
  have h1 := (name_all e.1 hn).2.1
  have h2 := (num_all i hl).2.2.1
  have h3 : ("=" : Str).length = 1 := rfl
  omega
theorem part_pos (e : Str × Int) : 0 < (partT e).length := by
  unfold partT
  rw [TL.len_tl, TL.tl_append, TL.tl_append, List.length_append, List.length_append, ← TL.len_tl, ← TL.len_tl, ← TL.len_tl]
  have h3 : ("=" : Str).length = 1 := rfl
  omega
theorem partT_of {es : List (Str × Int)} (h : docL es) {e : Str × Int} (he : e ∈ es) : Txt.partition (partT e) "=" = (e.1, ("=" : Str), Str.ofString (toString e.2)) := by
  obtain ⟨hn, i, hi, hl⟩ := one_name h he
  refine TL.partition_app (y := "=") (s := 61) (S := []) rfl fun hm => ?_
  have h1 := (name_all e.1 hn).2.2
  rw [List.all_eq_true] at h1
  have h2 := h1 61 hm
  cases h2
theorem pair_of {es : List (Str × Int)} (h : docL es) {e : Str × Int} (he : e ∈ es) : pairOf (partT e) = (e.1, some e.2) := by
  obtain ⟨hn, i, hi, hl⟩ := one_name h he
  unfold pairOf
  rw [partT_of h he]
  dsimp only
  rw [hi, (num_all i hl).1]
theorem part_okB {es : List (Str × Int)} (h : docL es) {e : Str × Int} (he : e ∈ es) : partOk (partT e) = true := by
  obtain ⟨hn, i, hi, hl⟩ := one_name h he
  unfold partOk
  rw [partT_of h he]
  dsimp only
  rw [hi, (num_all i hl).2.1, Bool.and_true]
  have h0 := part_len h he
  have h1 := (name_all e.1 hn).2.1
  have h2 := (num_all i hl).2.2.1
  simp only [Bool.and_eq_true, decide_eq_true_eq]
  omega
theorem part_free {es : List (Str × Int)} (h : docL es) {e : Str × Int} (he : e ∈ es) : ¬ 32 ∈ TL.tl (partT e) := by
  obtain ⟨hn, i, hi, hl⟩ := one_name h he
  unfold partT
  rw [hi, TL.tl_append, TL.tl_append]
  have h1 := (name_all e.1 hn).2.2
  have h2 := (num_all i hl).2.2.2
  rw [List.all_eq_true] at h1 h2
  intro hm
  rcases List.mem_append.mp hm with hm | hm
  · rcases List.mem_append.mp hm with hm | hm
    · cases h1 32 hm
    · revert hm; decide
  · cases h2 32 hm
theorem join_len (y : Str) : ∀ ps : List Str, (Txt.join y ps).length ≤ (ps.map (·.length)).sum + ps.length * y.length := by
  have q : ∀ ps : List Str, (TL.joinL (TL.tl y) (ps.map TL.tl)).length ≤ (ps.map (·.length)).sum + ps.length * y.length := fun ps => by
    induction ps with
    | nil => exact Nat.zero_le _
    | cons a ps ih =>
      cases ps with
      | nil =>
        show (TL.tl a).length ≤ _
        rw [← TL.len_tl]
        simp only [List.map, List.sum_cons, List.sum_nil]
        omega
      | cons b ps =>
        have e : TL.joinL (TL.tl y) ((a :: b :: ps).map TL.tl) = TL.tl a ++ TL.tl y ++ TL.joinL (TL.tl y) ((b :: ps).map TL.tl) := by
          first | rfl | simp [TL.joinL]
        rw [e, List.length_append, List.length_append, ← TL.len_tl, ← TL.len_tl]
        simp only [List.map, List.sum_cons, List.length_cons, Nat.add_mul, Nat.one_mul] at ih ⊢
        omega
  intro ps
  rw [TL.len_tl]
  refine Nat.le_trans (Nat.le_of_eq ?_) (q ps)
  rw [TL.join_eq, TL.tl_join]
theorem sum_le (B : Nat) : ∀ ps : List Str, (∀ p ∈ ps, p.length ≤ B) → (ps.map (·.length)).sum ≤ ps.length * B
  | [], _ => Nat.zero_le _
  | p :: ps, h => by
    have h1 := h p List.mem_cons_self
    have h2 := sum_le B ps fun x hx => h x (List.mem_cons_of_mem _ hx)
    simp only [List.map, List.sum_cons, List.length_cons, Nat.add_mul, Nat.one_mul]
    omega
theorem doc_len {es : List (Str × Int)} (h : docL es) : es.length ≤ 5 := by
  have := h.1.length_le
  rw [List.length_map] at this
  exact this
theorem doc_sum {es : List (Str × Int)} (h : docL es) : ((es.map partT).map (·.length)).sum ≤ 80 := by
  have h1 := sum_le 16 (es.map partT) fun p hp => by
    obtain ⟨e, he, rfl⟩ := List.mem_map.mp hp
    exact part_len h he
  have h2 := doc_len h
  rw [List.length_map] at h1
  omega
theorem docT_len {es : List (Str × Int)} (h : docL es) : (docT es).length ≤ 100 := by
  have h1 := join_len " " (es.map partT)
  have h2 := doc_sum h
  have h3 := doc_len h
  have h4 : (" " : Str).length = 1 := rfl
  rw [List.length_map, h4] at h1
  unfold docT
  omega
theorem docT_split {es : List (Str × Int)} (h : docL es) (ne : es ≠ []) : Txt.split (docT es) " " = es.map partT := by
  refine TL.split_join (y := " ") (s := 32) (S := []) rfl (by decide +kernel) (fun e => ne (List.map_eq_nil_iff.mp e)) fun p hp => ?_
  obtain ⟨e, he, rfl⟩ := List.mem_map.mp hp
  exact part_free h he
theorem docT_parts {es : List (Str × Int)} (h : docL es) : partsT (docT es) = es.map partT := by
  cases es with
  | nil => rfl
  | cons e es =>
    have hs := docT_split h (by intro z; cases z)
    have hl : (docT (e :: es)).length ≠ 0 := fun hz => by
      have h0 : docT (e :: es) = "" := by
        have q : [docT (e :: es)].map TL.tl = [("" : Str)].map TL.tl := by
          rw [List.map_cons, (TL.len0_tl _).mp hz]
          rfl
        have := TL.map_tl_inj q
        injection this
      rw [h0, show Txt.split "" " " = [("" : Str)] from by decide +kernel] at hs
      have h1 := part_pos e
      rw [List.map_cons] at hs
      injection hs with h2 _
      rw [← h2] at h1
      exact absurd h1 (by decide)
    unfold partsT
    rw [hs, if_pos]
    rw [bne_iff_ne]
    omega
theorem docT_pairs {es : List (Str × Int)} (h : docL es) : (partsT (docT es)).map pairOf = es.map fun e => (e.1, some e.2) := by
  rw [docT_parts h, List.map_map]
  exact List.map_congr_left fun e he => pair_of h he
theorem docT_ok {es : List (Str × Int)} (h : docL es) : textOk (docT es) = true := by
  unfold textOk
  rw [docT_parts h]
  have h1 := docT_len h
  have h2 := doc_len h
  simp only [Bool.and_eq_true, decide_eq_true_eq, List.all_eq_true, List.length_map]
  refine ⟨⟨by omega, by omega⟩, fun p hp => ?_⟩
  obtain ⟨e, he, rfl⟩ := List.mem_map.mp hp
  exact part_okB h he
def ltB (a b : Str) : Bool := decide (a.cps.toList < b.cps.toList)
theorem names5_pw : names5.Pairwise fun a b => a.cps.toList < b.cps.toList := by decide +kernel
theorem doc_pw {es : List (Str × Int)} (h : docL es) : es.Pairwise fun a b => a.1.cps.toList < b.1.cps.toList := (List.pairwise_map (f := fun e : Str × Int => e.1) (R := fun a b : Str => a.cps.toList < b.cps.toList)).mp (List.Pairwise.sublist (R := fun a b : Str => a.cps.toList < b.cps.toList) h.1 names5_pw)
theorem doc_item {es : List (Str × Int)} (h : docL es) {e : Str × Int} (he : e ∈ es) : itemB e = true := by
  obtain ⟨hn, i, hi, hl⟩ := one_name h he
  unfold itemB
  rw [(name_all e.1 hn).1, hi]
  simp only [Bool.true_and, Bool.and_eq_true, decide_eq_true_eq]
  omega
theorem doc_good {es : List (Str × Int)} (h : docL es) : goodB (es.map fun e => (e.1, some e.2)) = true := by
  unfold goodB
  rw [List.all_eq_true]
  intro k hk
  rw [List.mem_range, List.length_map] at hk
  have g : ∀ j, j < es.length → (es.map fun e => ((e.1, some e.2) : PairO)).getD j ("", none) = ((es.getD j ("", 0)).1, some (es.getD j ("", 0)).2) := fun j hj => by
    rw [List.getD_eq_getElem?_getD, List.getElem?_map, List.getD_eq_getElem?_getD, List.getElem?_eq_getElem hj]
    rfl
  have hm : es.getD k ("", 0) ∈ es := by
    rw [List.getD_eq_getElem?_getD, List.getElem?_eq_getElem hk]
    exact List.getElem_mem hk
  unfold goodAt
  rw [g k hk]
  have hi := doc_item h hm
  unfold itemB at hi
  rw [Bool.and_assoc] at hi
  have hp : pairB ((es.getD k ("", 0)).1, some (es.getD k ("", 0)).2) = true := hi
  rw [hp, Bool.true_and]
  cases k with
  | zero => rfl
  | succ k =>
    rw [Nat.add_sub_cancel, g k (by omega), Bool.or_eq_true, decide_eq_true_eq]
    refine .inr ?_
    have pw := List.pairwise_iff_getElem.mp (doc_pw h) k (k + 1) (by omega) hk (by omega)
    rw [List.getD_eq_getElem?_getD, List.getD_eq_getElem?_getD, List.getElem?_eq_getElem hk, List.getElem?_eq_getElem (show k < es.length by omega)]
    exact pw
theorem docT_docOk {es : List (Str × Int)} (h : docL es) : docOk (docT es) = true := by
  unfold docOk
  rw [docT_pairs h, doc_good h, docT_parts h, List.length_map, Bool.and_true, decide_eq_true_eq]
  have := doc_len h
  omega
theorem docT_doc {es : List (Str × Int)} (h : docL es) : PyData.tuple ((partsT (docT es)).map fun t => prD (pairOf t)) = docD es := by
  have e := docT_pairs h
  have e2 := congrArg (List.map prD) e
  rw [List.map_map, List.map_map] at e2
  show PyData.tuple ((partsT (docT es)).map (prD ∘ pairOf)) = _
  rw [e2]
  rfl
/-! the texts of ways -/
abbrev Way5.T (v : Way5) : List Str := [v.a, v.b, v.c, v.d, v.e]
def wayT (v : Way5) : Str := Txt.join " " v.T
def badsT (v : Way5) : List Str := ["", "base", Txt.join " " [v.b, v.c, v.d, v.e], wayT v ++ " ", Txt.join " " [v.e, v.d, v.c, v.b, v.a] ++ " x", "base yours yours mine refuse", Txt.upper (wayT v)]
end Tw
/-! bent texts of ways and documents -/
namespace Tw
open PySem PySem.Spec PyProof.Rows L2
theorem exm_mk {K : PySem.W.Frag} {C D : Addr} {b : Bool} (h1 : PySem.W.subIn K (.ref D) (.type "BaseException") = some true) (h2 : PySem.W.isClsIn K D = true) (h3 : PySem.W.typeIn K (.ref D) = some (.type "type")) (h4 : PySem.W.subIn K (.ref C) (.ref D) = some b) :
    PySem.W.exmOne K (.ref C) (.ref D) = some b := by
  have e1 : (PySem.W.subIn K (.ref D) (.type "BaseException") == some true) = true := by rw [h1] <;> rfl
  have e2 : ((PySem.W.clsIn K D).isSome && PySem.W.typeIn K (.ref D) == some (.type "type")) = true := by
    have h2' : (PySem.W.clsIn K D).isSome = true := h2
    rw [h2', h3] <;> rfl
  show (if (PySem.W.subIn K (.ref D) (.type "BaseException") == some true) = true then (if ((PySem.W.clsIn K D).isSome && PySem.W.typeIn K (.ref D) == some (.type "type")) = true then PySem.W.subIn K (.ref C) (.ref D) else none) else none) = some b
  rw [if_pos e1, if_pos e2]
  exact h4
theorem kit_self {K : PySem.W.Frag} {C : Addr} : PySem.W.kitOne K (.ref C) (.ref C) = some true := if_pos (by simp)
theorem kit_mk {K : PySem.W.Frag} {C D : Addr} {b : Bool} (h1 : ((Value.ref C) == (Value.ref D)) = false) (h2 : PySem.W.isClsIn K D = true) (h3 : PySem.W.typeIn K (.ref D) = some (.type "type")) (h4 : PySem.W.subIn K (.ref C) (.ref D) = some b) :
    PySem.W.kitOne K (.ref C) (.ref D) = some b := by
  have e2 : ((PySem.W.clsIn K D).isSome && PySem.W.typeIn K (.ref D) == some (.type "type")) = true := by
    have h2' : (PySem.W.clsIn K D).isSome = true := h2
    rw [h2', h3] <;> rfl
  show (if ((Value.ref C) == (Value.ref D)) = true then some true else (if ((PySem.W.clsIn K D).isSome && PySem.W.typeIn K (.ref D) == some (.type "type")) = true then PySem.W.subIn K (.ref C) (.ref D) else none)) = some b
  rw [h1, if_neg Bool.false_ne_true, if_pos e2]
  exact h4
theorem way_len : ∀ v ∈ waysN, (wayT v).length ≤ 100 ∧ (v.T.all fun z => decide (z.length ≤ 6)) = true ∧ (v.T.all fun z => z.cps.toList.all fun c => decide (c ≠ 32)) = true := by decide +kernel
theorem way_free {v : Way5} (h : v ∈ waysN) : ¬ 32 ∈ TL.tl v.a ∧ ¬ 32 ∈ TL.tl v.b ∧ ¬ 32 ∈ TL.tl v.c ∧ ¬ 32 ∈ TL.tl v.d ∧ ¬ 32 ∈ TL.tl v.e := by
  have q := (way_len v h).2.2
  rw [List.all_eq_true] at q
  have g : ∀ z ∈ v.T, ¬ 32 ∈ TL.tl z := fun z hz hm => by
    have q2 := q z hz
    rw [List.all_eq_true] at q2
    have q3 := q2 32 hm
    cases q3
  exact ⟨g _ (by simp), g _ (by simp), g _ (by simp), g _ (by simp), g _ (by simp)⟩
theorem way_split {v : Way5} (h : v ∈ waysN) : Txt.split (wayT v) " " = v.T := by
  obtain ⟨h1, h2, h3, h4, h5⟩ := way_free h
  refine TL.split_join (y := " ") (s := 32) (S := []) rfl (by decide +kernel) (by simp) fun p hp => ?_
  simp only [List.mem_cons, List.not_mem_nil, or_false] at hp
  rcases hp with rfl | rfl | rfl | rfl | rfl <;> assumption
theorem join_snoc (y a b c d e f : Str) : Txt.join y [a, b, c, d, e] ++ (y ++ f) = Txt.join y [a, b, c, d, e, f] := by
  have q : TL.tl (Txt.join y [a, b, c, d, e] ++ (y ++ f)) = TL.tl (Txt.join y [a, b, c, d, e, f]) := by
    rw [TL.tl_append, TL.tl_append, TL.join_eq, TL.join_eq, TL.tl_join, TL.tl_join]
    simp [TL.joinL]
  have q2 := TL.map_tl_inj (l := [Txt.join y [a, b, c, d, e] ++ (y ++ f)]) (m := [Txt.join y [a, b, c, d, e, f]]) (by rw [List.map_cons, List.map_cons, q])
  injection q2
theorem six_bad (ds : List Str) (h : ds.length ≠ 5) : isWay (tupS ds) = false := by
  have e : isWay (tupS ds) = (((sD ds).length == 5) && (((sD ds).zip (wordsL.map tupS)).all fun p => inTup p.1 p.2)) := rfl
  rw [e, List.length_map, beq_eq_false_iff_ne.mpr h, Bool.false_and]
theorem join_cat (y a b c d e : Str) : Txt.join y [a, b, c, d, e] = a ++ (y ++ (b ++ (y ++ (c ++ (y ++ (d ++ (y ++ e))))))) := by
  have q : TL.tl (Txt.join y [a, b, c, d, e]) = TL.tl (a ++ (y ++ (b ++ (y ++ (c ++ (y ++ (d ++ (y ++ e)))))))) := by
    rw [TL.join_eq, TL.tl_join]
    simp [TL.joinL, TL.tl_append]
  have q2 := TL.map_tl_inj (l := [Txt.join y [a, b, c, d, e]]) (m := [a ++ (y ++ (b ++ (y ++ (c ++ (y ++ (d ++ (y ++ e)))))))]) (by rw [List.map_cons, List.map_cons, q])
  injection q2
theorem upper_app (a b : Str) : Txt.upper (a ++ b) = Txt.upper a ++ Txt.upper b := by
  have q : TL.tl (Txt.upper (a ++ b)) = TL.tl (Txt.upper a ++ Txt.upper b) := by
    rw [TL.tl_append]
    have e := PySem.W.KOpn.placed_app (fun c => Unicode.upperOf c) a b
    show (placed (a ++ b) fun _ c => Unicode.upperOf c).toList = (placed a fun _ c => Unicode.upperOf c).toList ++ (placed b fun _ c => Unicode.upperOf c).toList
    rw [e, Array.toList_append]
  have q2 := TL.map_tl_inj (l := [Txt.upper (a ++ b)]) (m := [Txt.upper a ++ Txt.upper b]) (by rw [List.map_cons, List.map_cons, q])
  injection q2
theorem upper_join (a b c d e : Str) : Txt.upper (Txt.join " " [a, b, c, d, e]) = Txt.join " " [Txt.upper a, Txt.upper b, Txt.upper c, Txt.upper d, Txt.upper e] := by
  have h : Txt.upper " " = " " := by decide +kernel
  rw [join_cat, join_cat]
  simp only [upper_app, h]
theorem upper_word : ∀ z ∈ (["base", "mine", "yours", "refuse"] : List Str), ((Txt.upper z).cps.toList.all fun c => decide (c ≠ 32)) = true ∧ (Txt.upper z).length ≤ 6 ∧ inTup (.str (Txt.upper z)) (tupS ["base", "refuse"]) = false := by decide +kernel
theorem upper_bad (v : Way5) (h : v ∈ waysN) : isWay (tupS (Txt.split (Txt.upper (wayT v)) " ")) = false ∧ (Txt.upper (wayT v)).length ≤ 1000 := by
  have hv := waysN_isW h
  obtain ⟨k1, k2, k3, k4, k5⟩ := hv.V
  have m : ∀ z, V4 z → ¬ 32 ∈ TL.tl (Txt.upper z) ∧ (Txt.upper z).length ≤ 6 ∧ inTup (.str (Txt.upper z)) (tupS ["base", "refuse"]) = false := fun z hz => by
    have hz : z ∈ (["base", "mine", "yours", "refuse"] : List Str) := by
      unfold V4 at hz
      rcases hz with rfl | rfl | rfl | rfl <;> simp
    obtain ⟨q, q2, q3⟩ := upper_word z hz
    rw [List.all_eq_true] at q
    refine ⟨fun hm => ?_, q2, q3⟩
    have := q 32 hm
    cases this
  have m1 := m _ k1
  have m2 := m _ k2
  have m3 := m _ k3
  have m4 := m _ k4
  have m5 := m _ k5
  unfold wayT
  rw [upper_join]
  refine ⟨?_, ?_⟩
  · rw [TL.split_join (y := " ") (s := 32) (S := []) rfl (by decide +kernel) (by simp) fun p hp => by
      simp only [List.mem_cons, List.not_mem_nil, or_false] at hp
      rcases hp with rfl | rfl | rfl | rfl | rfl
      · exact m1.1
      · exact m2.1
      · exact m3.1
      · exact m4.1
      · exact m5.1]
    show (true && (inTup (.str (Txt.upper v.a)) (tupS ["base", "refuse"]) && _)) = false
    rw [m1.2.2]
    rfl
  · refine Nat.le_trans (join_len _ _) ?_
    have h7 : (" " : Str).length = 1 := rfl
    simp only [List.map, List.sum_cons, List.sum_nil, List.length_cons, List.length_nil, h7]
    omega
theorem six_len {a b c d e f : Str} (h1 : a.length ≤ 6) (h2 : b.length ≤ 6) (h3 : c.length ≤ 6) (h4 : d.length ≤ 6) (h5 : e.length ≤ 6) (h6 : f.length ≤ 6) : (Txt.join " " [a, b, c, d, e, f]).length ≤ 1000 := by
  refine Nat.le_trans (join_len _ _) ?_
  have h7 : (" " : Str).length = 1 := rfl
  simp only [List.map, List.sum_cons, List.sum_nil, List.length_cons, List.length_nil, h7]
  omega
theorem bads_bad (v : Way5) (h : v ∈ waysN) : ∀ z ∈ badsT v, z.length ≤ 1000 ∧ isWay (tupS (Txt.split z " ")) = false := by
  obtain ⟨h1, h2, h3, h4, h5⟩ := way_free h
  obtain ⟨w1, w2, w3, w4, w5⟩ : v.a.length ≤ 6 ∧ v.b.length ≤ 6 ∧ v.c.length ≤ 6 ∧ v.d.length ≤ 6 ∧ v.e.length ≤ 6 := by
    have q := (way_len v h).2.1
    rw [List.all_eq_true] at q
    exact ⟨of_decide_eq_true (q v.a (by simp)), of_decide_eq_true (q v.b (by simp)), of_decide_eq_true (q v.c (by simp)), of_decide_eq_true (q v.d (by simp)), of_decide_eq_true (q v.e (by simp))⟩
  have six : ∀ a b c d e f : Str, ¬ 32 ∈ TL.tl a → ¬ 32 ∈ TL.tl b → ¬ 32 ∈ TL.tl c → ¬ 32 ∈ TL.tl d → ¬ 32 ∈ TL.tl e → ¬ 32 ∈ TL.tl f → isWay (tupS (Txt.split (Txt.join " " [a, b, c, d, e, f]) " ")) = false := fun a b c d e f k1 k2 k3 k4 k5 k6 => by
    rw [TL.split_join (y := " ") (s := 32) (S := []) rfl (by decide +kernel) (by simp) fun p hp => by
      simp only [List.mem_cons, List.not_mem_nil, or_false] at hp
      rcases hp with rfl | rfl | rfl | rfl | rfl | rfl <;> assumption]
    exact six_bad _ (by show 6 ≠ 5; decide)
  intro z hz
  unfold badsT at hz
  simp only [List.mem_cons, List.not_mem_nil, or_false] at hz
  rcases hz with rfl | rfl | rfl | rfl | rfl | rfl | rfl
  · exact ⟨by decide +kernel, by decide +kernel⟩
  · exact ⟨by decide +kernel, by decide +kernel⟩
  · refine ⟨?_, ?_⟩
    · refine Nat.le_trans (join_len _ _) ?_
      have h7 : (" " : Str).length = 1 := rfl
      simp only [List.map, List.sum_cons, List.sum_nil, List.length_cons, List.length_nil, h7]
      omega
    · rw [TL.split_join (y := " ") (s := 32) (S := []) rfl (by decide +kernel) (by simp) fun p hp => by
        simp only [List.mem_cons, List.not_mem_nil, or_false] at hp
        rcases hp with rfl | rfl | rfl | rfl <;> assumption]
      exact six_bad _ (by show 4 ≠ 5; decide)
  · have e : wayT v ++ " " = Txt.join " " [v.a, v.b, v.c, v.d, v.e, ""] := join_snoc " " v.a v.b v.c v.d v.e ""
    rw [e]
    exact ⟨six_len w1 w2 w3 w4 w5 (by decide), six _ _ _ _ _ _ h1 h2 h3 h4 h5 (by decide)⟩
  · have e : Txt.join " " [v.e, v.d, v.c, v.b, v.a] ++ " x" = Txt.join " " [v.e, v.d, v.c, v.b, v.a, "x"] := join_snoc " " v.e v.d v.c v.b v.a "x"
    rw [e]
    exact ⟨six_len w5 w4 w3 w2 w1 (by decide), six _ _ _ _ _ _ h5 h4 h3 h2 h1 (by decide)⟩
  · exact ⟨by decide +kernel, by decide +kernel⟩
  · exact ⟨(upper_bad v h).2, (upper_bad v h).1⟩
def oddsL : List Str := ["a", "a=", "=5", "a=05", "a=1000", "a=-1", "b=1 a=2", "a=1 a=2", "A=1", "a =1", "a=1  b=2", " a=1", "a=1 ", "a1=1", "a=1=2", repS "a" 13 ++ "=1", "a=none"]
def wideT : Str := Txt.join " " ((signs "abcdefghijklm").map fun t => t ++ "=1")
theorem odds_bad : ∀ z ∈ oddsL ++ [wideT], textOk z = true ∧ docOk z = false := by decide +kernel
theorem doc_goodA (n : Nat) {es : List (Str × Int)} (h : docL es) : goodA (n + 3) (docD es) := ⟨by rw [List.length_map]; exact Nat.le_trans (doc_len h) (by decide), fun x hx => by
  obtain ⟨e, _, rfl⟩ := List.mem_map.mp hx
  refine ⟨by show 2 ≤ 1000000; decide, fun y hy => ?_⟩
  rcases List.mem_cons.mp hy with rfl | hy
  · exact trivial
  · rw [List.mem_singleton.mp hy]
    exact trivial⟩
end Tw
namespace Tw.K08
open PySem PySem.Spec PyProof.Rows L2
def top (i : Nat) : Stmt := PySem.Challenge.pw_threeways_k08_whole_texts.main.body.getD i (.Pass ⟨0, 0, 0, 0⟩)
abbrev s_is_value : Stmt := top 9
abbrev s_is_way : Stmt := top 10
abbrev s_require_way : Stmt := top 11
abbrev s_is_name : Stmt := top 16
abbrev s_is_pair : Stmt := top 17
abbrev s_is_short_tuple : Stmt := top 18
abbrev s_first_wrong_index : Stmt := top 19
abbrev s_is_document : Stmt := top 20
abbrev s_require_document : Stmt := top 21
abbrev s_require_text : Stmt := top 24
abbrev s_write_way : Stmt := top 25
abbrev s_read_way : Stmt := top 26
abbrev s_write_document : Stmt := top 27
abbrev s_pairs_text : Stmt := top 28
abbrev s_read_document : Stmt := top 29
abbrev s_read_pair : Stmt := top 30
abbrev s_read_integer : Stmt := top 31
abbrev s__law_taken : Stmt := top 33
abbrev s__law_pick : Stmt := top 34
abbrev s__law_alike : Stmt := top 35
abbrev s__law_words : Stmt := top 36
abbrev s__law_way : Stmt := top 37
abbrev s__law_told : Stmt := top 38
abbrev s_law : Stmt := top 39
abbrev N_is_value : List Str := ["value"]
theorem sc_is_value : FnScope N_is_value ["value"] (defScope s_is_value) := ⟨rfl, rfl, rfl, by decide +kernel, rfl, by decide +kernel, by decide +kernel⟩
abbrev N_is_way : List Str := ["value"]
theorem sc_is_way : FnScope N_is_way ["value"] (defScope s_is_way) := ⟨rfl, rfl, rfl, by decide +kernel, rfl, by decide +kernel, by decide +kernel⟩
abbrev N_require_way : List Str := ["value"]
theorem sc_require_way : FnScope N_require_way ["value"] (defScope s_require_way) := ⟨rfl, rfl, rfl, by decide +kernel, rfl, by decide +kernel, by decide +kernel⟩
abbrev N_is_name : List Str := ["value"]
theorem sc_is_name : FnScope N_is_name ["value"] (defScope s_is_name) := ⟨rfl, rfl, rfl, by decide +kernel, rfl, by decide +kernel, by decide +kernel⟩
abbrev N_is_pair : List Str := ["value", "name", "integer"]
theorem sc_is_pair : FnScope N_is_pair ["value"] (defScope s_is_pair) := ⟨rfl, rfl, rfl, by decide +kernel, rfl, by decide +kernel, by decide +kernel⟩
abbrev N_is_short_tuple : List Str := ["value"]
theorem sc_is_short_tuple : FnScope N_is_short_tuple ["value"] (defScope s_is_short_tuple) := ⟨rfl, rfl, rfl, by decide +kernel, rfl, by decide +kernel, by decide +kernel⟩
abbrev N_first_wrong_index : List Str := ["items", "index", "item"]
theorem sc_first_wrong_index : FnScope N_first_wrong_index ["items"] (defScope s_first_wrong_index) := ⟨rfl, rfl, rfl, by decide +kernel, rfl, by decide +kernel, by decide +kernel⟩
abbrev N_is_document : List Str := ["value"]
theorem sc_is_document : FnScope N_is_document ["value"] (defScope s_is_document) := ⟨rfl, rfl, rfl, by decide +kernel, rfl, by decide +kernel, by decide +kernel⟩
abbrev N_require_document : List Str := ["value", "index"]
theorem sc_require_document : FnScope N_require_document ["value"] (defScope s_require_document) := ⟨rfl, rfl, rfl, by decide +kernel, rfl, by decide +kernel, by decide +kernel⟩
abbrev N_require_text : List Str := ["value"]
theorem sc_require_text : FnScope N_require_text ["value"] (defScope s_require_text) := ⟨rfl, rfl, rfl, by decide +kernel, rfl, by decide +kernel, by decide +kernel⟩
abbrev N_write_way : List Str := ["way"]
theorem sc_write_way : FnScope N_write_way ["way"] (defScope s_write_way) := ⟨rfl, rfl, rfl, by decide +kernel, rfl, by decide +kernel, by decide +kernel⟩
abbrev N_read_way : List Str := ["text", "way"]
theorem sc_read_way : FnScope N_read_way ["text"] (defScope s_read_way) := ⟨rfl, rfl, rfl, by decide +kernel, rfl, by decide +kernel, by decide +kernel⟩
abbrev N_write_document : List Str := ["document"]
theorem sc_write_document : FnScope N_write_document ["document"] (defScope s_write_document) := ⟨rfl, rfl, rfl, by decide +kernel, rfl, by decide +kernel, by decide +kernel⟩
abbrev N_pairs_text : List Str := ["pairs", "name", "integer"]
theorem sc_pairs_text : FnScope N_pairs_text ["pairs"] (defScope s_pairs_text) := ⟨rfl, rfl, rfl, by decide +kernel, rfl, by decide +kernel, by decide +kernel⟩
abbrev N_read_document : List Str := ["text", "parts", "document", "part"]
theorem sc_read_document : FnScope N_read_document ["text"] (defScope s_read_document) := ⟨rfl, rfl, rfl, by decide +kernel, rfl, by decide +kernel, by decide +kernel⟩
abbrev N_read_pair : List Str := ["text", "name", "_", "number"]
theorem sc_read_pair : FnScope N_read_pair ["text"] (defScope s_read_pair) := ⟨rfl, rfl, rfl, by decide +kernel, rfl, by decide +kernel, by decide +kernel⟩
abbrev N_read_integer : List Str := ["text", "integer"]
theorem sc_read_integer : FnScope N_read_integer ["text"] (defScope s_read_integer) := ⟨rfl, rfl, rfl, by decide +kernel, rfl, by decide +kernel, by decide +kernel⟩
abbrev N__law_taken : List Str := ["row", "many", "found", "cell"]
theorem sc__law_taken : FnScope N__law_taken ["row", "many"] (defScope s__law_taken) := ⟨rfl, rfl, rfl, by decide +kernel, rfl, by decide +kernel, by decide +kernel⟩
abbrev N__law_pick : List Str := ["row", "kinds"]
theorem sc__law_pick : FnScope N__law_pick ["row", "kinds"] (defScope s__law_pick) := ⟨rfl, rfl, rfl, by decide +kernel, rfl, by decide +kernel, by decide +kernel⟩
abbrev N__law_alike : List Str := ["found", "due", "k"]
theorem sc__law_alike : FnScope N__law_alike ["found", "due"] (defScope s__law_alike) := ⟨rfl, rfl, rfl, by decide +kernel, rfl, by decide +kernel, by decide +kernel⟩
abbrev N__law_words : List Str := []
theorem sc__law_words : FnScope N__law_words [] (defScope s__law_words) := ⟨rfl, rfl, rfl, by decide +kernel, rfl, by decide +kernel, by decide +kernel⟩
abbrev N__law_way : List Str := ["row", "good", "some"]
theorem sc__law_way : FnScope N__law_way ["row"] (defScope s__law_way) := ⟨rfl, rfl, rfl, by decide +kernel, rfl, by decide +kernel, by decide +kernel⟩
abbrev N__law_told : List Str := ["work", "e"]
theorem sc__law_told : FnScope N__law_told ["work"] (defScope s__law_told) := ⟨rfl, rfl, rfl, by decide +kernel, rfl, by decide +kernel, by decide +kernel⟩
abbrev N_law : List Str := ["script", "way", "document", "text", "bad", "none", "odd", "row", "wide", "name", "value", "letter", "a"]
theorem sc_law : FnScope N_law ["script"] (defScope s_law) := ⟨rfl, rfl, rfl, by decide +kernel, rfl, by decide +kernel, by decide +kernel⟩
/-- where the top has put things -/
structure Ad where
  f_is_value : Addr
  fd_is_value : FuncData
  cd_is_value : Value
  f_is_way : Addr
  fd_is_way : FuncData
  cd_is_way : Value
  f_require_way : Addr
  fd_require_way : FuncData
  cd_require_way : Value
  f_is_name : Addr
  fd_is_name : FuncData
  cd_is_name : Value
  f_is_pair : Addr
  fd_is_pair : FuncData
  cd_is_pair : Value
  f_is_short_tuple : Addr
  fd_is_short_tuple : FuncData
  cd_is_short_tuple : Value
  f_first_wrong_index : Addr
  fd_first_wrong_index : FuncData
  cd_first_wrong_index : Value
  f_is_document : Addr
  fd_is_document : FuncData
  cd_is_document : Value
  f_require_document : Addr
  fd_require_document : FuncData
  cd_require_document : Value
  f_require_text : Addr
  fd_require_text : FuncData
  cd_require_text : Value
  f_write_way : Addr
  fd_write_way : FuncData
  cd_write_way : Value
  f_read_way : Addr
  fd_read_way : FuncData
  cd_read_way : Value
  f_write_document : Addr
  fd_write_document : FuncData
  cd_write_document : Value
  f_pairs_text : Addr
  fd_pairs_text : FuncData
  cd_pairs_text : Value
  f_read_document : Addr
  fd_read_document : FuncData
  cd_read_document : Value
  f_read_pair : Addr
  fd_read_pair : FuncData
  cd_read_pair : Value
  f_read_integer : Addr
  fd_read_integer : FuncData
  cd_read_integer : Value
  f__law_taken : Addr
  fd__law_taken : FuncData
  cd__law_taken : Value
  f__law_pick : Addr
  fd__law_pick : FuncData
  cd__law_pick : Value
  f__law_alike : Addr
  fd__law_alike : FuncData
  cd__law_alike : Value
  f__law_words : Addr
  fd__law_words : FuncData
  cd__law_words : Value
  f__law_way : Addr
  fd__law_way : FuncData
  cd__law_way : Value
  f__law_told : Addr
  fd__law_told : FuncData
  cd__law_told : Value
  f_law : Addr
  fd_law : FuncData
  cd_law : Value
  c_is_way : Addr
  p_is_way : Addr
  c_is_name : Addr
  p_is_name : Addr
  c_read_integer : Addr
  p_read_integer : Addr
  c_law : Addr
  p_law : Addr
  a_WORDS : Addr
  k_MergeError : Addr
  k_NotText : Addr
  k_InvalidText : Addr
/-- what the top has left -/
structure Txt (K : PySem.W.Frag) (w : World) (mg : Str → Option Value) (a : Ad) : Prop where
  m_is_value : mg "is_value" = some (.ref a.f_is_value)
  F_is_value : FunC K "is_value" "is_value" s_is_value a.f_is_value a.fd_is_value a.cd_is_value
  b_is_value : Binds K a.fd_is_value ["value"] []
  m_is_way : mg "is_way" = some (.ref a.f_is_way)
  F_is_way : FunC K "is_way" "is_way" s_is_way a.f_is_way a.fd_is_way a.cd_is_way
  b_is_way : Binds K a.fd_is_way ["value"] []
  m_require_way : mg "require_way" = some (.ref a.f_require_way)
  F_require_way : FunC K "require_way" "require_way" s_require_way a.f_require_way a.fd_require_way a.cd_require_way
  b_require_way : Binds K a.fd_require_way ["value"] []
  m_is_name : mg "is_name" = some (.ref a.f_is_name)
  F_is_name : FunC K "is_name" "is_name" s_is_name a.f_is_name a.fd_is_name a.cd_is_name
  b_is_name : Binds K a.fd_is_name ["value"] []
  m_is_pair : mg "is_pair" = some (.ref a.f_is_pair)
  F_is_pair : FunC K "is_pair" "is_pair" s_is_pair a.f_is_pair a.fd_is_pair a.cd_is_pair
  b_is_pair : Binds K a.fd_is_pair ["value"] []
  m_is_short_tuple : mg "is_short_tuple" = some (.ref a.f_is_short_tuple)
  F_is_short_tuple : FunC K "is_short_tuple" "is_short_tuple" s_is_short_tuple a.f_is_short_tuple a.fd_is_short_tuple a.cd_is_short_tuple
  b_is_short_tuple : Binds K a.fd_is_short_tuple ["value"] []
  m_first_wrong_index : mg "first_wrong_index" = some (.ref a.f_first_wrong_index)
  F_first_wrong_index : FunC K "first_wrong_index" "first_wrong_index" s_first_wrong_index a.f_first_wrong_index a.fd_first_wrong_index a.cd_first_wrong_index
  b_first_wrong_index : Binds K a.fd_first_wrong_index ["items"] []
  m_is_document : mg "is_document" = some (.ref a.f_is_document)
  F_is_document : FunC K "is_document" "is_document" s_is_document a.f_is_document a.fd_is_document a.cd_is_document
  b_is_document : Binds K a.fd_is_document ["value"] []
  m_require_document : mg "require_document" = some (.ref a.f_require_document)
  F_require_document : FunC K "require_document" "require_document" s_require_document a.f_require_document a.fd_require_document a.cd_require_document
  b_require_document : Binds K a.fd_require_document ["value"] []
  m_require_text : mg "require_text" = some (.ref a.f_require_text)
  F_require_text : FunC K "require_text" "require_text" s_require_text a.f_require_text a.fd_require_text a.cd_require_text
  b_require_text : Binds K a.fd_require_text ["value"] []
  m_write_way : mg "write_way" = some (.ref a.f_write_way)
  F_write_way : FunC K "write_way" "write_way" s_write_way a.f_write_way a.fd_write_way a.cd_write_way
  b_write_way : Binds K a.fd_write_way ["way"] []
  m_read_way : mg "read_way" = some (.ref a.f_read_way)
  F_read_way : FunC K "read_way" "read_way" s_read_way a.f_read_way a.fd_read_way a.cd_read_way
  b_read_way : Binds K a.fd_read_way ["text"] []
  m_write_document : mg "write_document" = some (.ref a.f_write_document)
  F_write_document : FunC K "write_document" "write_document" s_write_document a.f_write_document a.fd_write_document a.cd_write_document
  b_write_document : Binds K a.fd_write_document ["document"] []
  m_pairs_text : mg "pairs_text" = some (.ref a.f_pairs_text)
  F_pairs_text : FunC K "pairs_text" "pairs_text" s_pairs_text a.f_pairs_text a.fd_pairs_text a.cd_pairs_text
  b_pairs_text : Binds K a.fd_pairs_text ["pairs"] []
  m_read_document : mg "read_document" = some (.ref a.f_read_document)
  F_read_document : FunC K "read_document" "read_document" s_read_document a.f_read_document a.fd_read_document a.cd_read_document
  b_read_document : Binds K a.fd_read_document ["text"] []
  m_read_pair : mg "read_pair" = some (.ref a.f_read_pair)
  F_read_pair : FunC K "read_pair" "read_pair" s_read_pair a.f_read_pair a.fd_read_pair a.cd_read_pair
  b_read_pair : Binds K a.fd_read_pair ["text"] []
  m_read_integer : mg "read_integer" = some (.ref a.f_read_integer)
  F_read_integer : FunC K "read_integer" "read_integer" s_read_integer a.f_read_integer a.fd_read_integer a.cd_read_integer
  b_read_integer : Binds K a.fd_read_integer ["text"] []
  m__law_taken : mg "_law_taken" = some (.ref a.f__law_taken)
  F__law_taken : FunC K "_law_taken" "_law_taken" s__law_taken a.f__law_taken a.fd__law_taken a.cd__law_taken
  b__law_taken : Binds K a.fd__law_taken ["row", "many"] []
  m__law_pick : mg "_law_pick" = some (.ref a.f__law_pick)
  F__law_pick : FunC K "_law_pick" "_law_pick" s__law_pick a.f__law_pick a.fd__law_pick a.cd__law_pick
  b__law_pick : Binds K a.fd__law_pick ["row", "kinds"] []
  m__law_alike : mg "_law_alike" = some (.ref a.f__law_alike)
  F__law_alike : FunC K "_law_alike" "_law_alike" s__law_alike a.f__law_alike a.fd__law_alike a.cd__law_alike
  b__law_alike : Binds K a.fd__law_alike ["found", "due"] []
  m__law_words : mg "_law_words" = some (.ref a.f__law_words)
  F__law_words : FunC K "_law_words" "_law_words" s__law_words a.f__law_words a.fd__law_words a.cd__law_words
  b__law_words : Binds K a.fd__law_words [] []
  m__law_way : mg "_law_way" = some (.ref a.f__law_way)
  F__law_way : FunC K "_law_way" "_law_way" s__law_way a.f__law_way a.fd__law_way a.cd__law_way
  b__law_way : Binds K a.fd__law_way ["row"] []
  m__law_told : mg "_law_told" = some (.ref a.f__law_told)
  F__law_told : FunC K "_law_told" "_law_told" s__law_told a.f__law_told a.fd__law_told a.cd__law_told
  b__law_told : Binds K a.fd__law_told ["work"] []
  m_law : mg "law" = some (.ref a.f_law)
  F_law : FunC K "law" "law" s_law a.f_law a.fd_law a.cd_law
  b_law : Binds K a.fd_law ["script"] []
  m_isinstance : mg "isinstance" = none
  m_int : mg "int" = none
  m_bool : mg "bool" = none
  m_tuple : mg "tuple" = none
  m_len : mg "len" = none
  m_all : mg "all" = none
  m_zip : mg "zip" = none
  m_list : mg "list" = none
  m_range : mg "range" = none
  m_str : mg "str" = none
  m_enumerate : mg "enumerate" = none
  x_MergeError : OwnX K mg "MergeError" a.k_MergeError
  x_NotText : OwnX K mg "NotText" a.k_NotText
  x_InvalidText : OwnX K mg "InvalidText" a.k_InvalidText
  e_NotText : ExcC K a.k_NotText
  c_NotText : PySem.W.exmOne K (.ref a.k_NotText) (.ref a.k_MergeError) = some true
  i_NotText_NotText : PySem.W.kitOne K (.ref a.k_NotText) (.ref a.k_NotText) = some true
  i_NotText_InvalidText : PySem.W.kitOne K (.ref a.k_NotText) (.ref a.k_InvalidText) = some false
  e_InvalidText : ExcC K a.k_InvalidText
  c_InvalidText : PySem.W.exmOne K (.ref a.k_InvalidText) (.ref a.k_MergeError) = some true
  i_InvalidText_NotText : PySem.W.kitOne K (.ref a.k_InvalidText) (.ref a.k_NotText) = some false
  i_InvalidText_InvalidText : PySem.W.kitOne K (.ref a.k_InvalidText) (.ref a.k_InvalidText) = some true
  cw_is_way : a.cd_is_way = .ref a.c_is_way
  cw_is_name : a.cd_is_name = .ref a.c_is_name
  cw_read_integer : a.cd_read_integer = .ref a.c_read_integer
  cw_law : a.cd_law = .ref a.c_law
  m_GREATEST_INTEGER : ∃ t, mg "GREATEST_INTEGER" = some (.int 999 t)
  m_WORDS : mg "WORDS" = some (.ref a.a_WORDS)
  d_WORDS : ∀ M, Dp K M (.ref a.a_WORDS) wordsD
  m_GREATEST_COUNT : ∃ t, mg "GREATEST_COUNT" = some (.int 12 t)
  m_GREATEST_LENGTH : ∃ t, mg "GREATEST_LENGTH" = some (.int 12 t)
  m_LETTERS : ∃ t, mg "LETTERS" = some (.str "abcdefghijklmnopqrstuvwxyz" t)
  m_DIGITS : ∃ t, mg "DIGITS" = some (.str "0123456789" t)
theorem Txt.kp_is_value {K : PySem.W.Frag} {w : World} {mg : Str → Option Value} {a : Ad} (T : Txt K w mg a) : PySem.W.keepIn K (.ref a.f_is_value) = true := T.F_is_value.kp
theorem Txt.kp_is_way {K : PySem.W.Frag} {w : World} {mg : Str → Option Value} {a : Ad} (T : Txt K w mg a) : PySem.W.keepIn K (.ref a.f_is_way) = true := T.F_is_way.kp
theorem Txt.kp_require_way {K : PySem.W.Frag} {w : World} {mg : Str → Option Value} {a : Ad} (T : Txt K w mg a) : PySem.W.keepIn K (.ref a.f_require_way) = true := T.F_require_way.kp
theorem Txt.kp_is_name {K : PySem.W.Frag} {w : World} {mg : Str → Option Value} {a : Ad} (T : Txt K w mg a) : PySem.W.keepIn K (.ref a.f_is_name) = true := T.F_is_name.kp
theorem Txt.kp_is_pair {K : PySem.W.Frag} {w : World} {mg : Str → Option Value} {a : Ad} (T : Txt K w mg a) : PySem.W.keepIn K (.ref a.f_is_pair) = true := T.F_is_pair.kp
theorem Txt.kp_is_short_tuple {K : PySem.W.Frag} {w : World} {mg : Str → Option Value} {a : Ad} (T : Txt K w mg a) : PySem.W.keepIn K (.ref a.f_is_short_tuple) = true := T.F_is_short_tuple.kp
theorem Txt.kp_first_wrong_index {K : PySem.W.Frag} {w : World} {mg : Str → Option Value} {a : Ad} (T : Txt K w mg a) : PySem.W.keepIn K (.ref a.f_first_wrong_index) = true := T.F_first_wrong_index.kp
theorem Txt.kp_is_document {K : PySem.W.Frag} {w : World} {mg : Str → Option Value} {a : Ad} (T : Txt K w mg a) : PySem.W.keepIn K (.ref a.f_is_document) = true := T.F_is_document.kp
theorem Txt.kp_require_document {K : PySem.W.Frag} {w : World} {mg : Str → Option Value} {a : Ad} (T : Txt K w mg a) : PySem.W.keepIn K (.ref a.f_require_document) = true := T.F_require_document.kp
theorem Txt.kp_require_text {K : PySem.W.Frag} {w : World} {mg : Str → Option Value} {a : Ad} (T : Txt K w mg a) : PySem.W.keepIn K (.ref a.f_require_text) = true := T.F_require_text.kp
theorem Txt.kp_write_way {K : PySem.W.Frag} {w : World} {mg : Str → Option Value} {a : Ad} (T : Txt K w mg a) : PySem.W.keepIn K (.ref a.f_write_way) = true := T.F_write_way.kp
theorem Txt.kp_read_way {K : PySem.W.Frag} {w : World} {mg : Str → Option Value} {a : Ad} (T : Txt K w mg a) : PySem.W.keepIn K (.ref a.f_read_way) = true := T.F_read_way.kp
theorem Txt.kp_write_document {K : PySem.W.Frag} {w : World} {mg : Str → Option Value} {a : Ad} (T : Txt K w mg a) : PySem.W.keepIn K (.ref a.f_write_document) = true := T.F_write_document.kp
theorem Txt.kp_pairs_text {K : PySem.W.Frag} {w : World} {mg : Str → Option Value} {a : Ad} (T : Txt K w mg a) : PySem.W.keepIn K (.ref a.f_pairs_text) = true := T.F_pairs_text.kp
theorem Txt.kp_read_document {K : PySem.W.Frag} {w : World} {mg : Str → Option Value} {a : Ad} (T : Txt K w mg a) : PySem.W.keepIn K (.ref a.f_read_document) = true := T.F_read_document.kp
theorem Txt.kp_read_pair {K : PySem.W.Frag} {w : World} {mg : Str → Option Value} {a : Ad} (T : Txt K w mg a) : PySem.W.keepIn K (.ref a.f_read_pair) = true := T.F_read_pair.kp
theorem Txt.kp_read_integer {K : PySem.W.Frag} {w : World} {mg : Str → Option Value} {a : Ad} (T : Txt K w mg a) : PySem.W.keepIn K (.ref a.f_read_integer) = true := T.F_read_integer.kp
theorem Txt.kp__law_taken {K : PySem.W.Frag} {w : World} {mg : Str → Option Value} {a : Ad} (T : Txt K w mg a) : PySem.W.keepIn K (.ref a.f__law_taken) = true := T.F__law_taken.kp
theorem Txt.kp__law_pick {K : PySem.W.Frag} {w : World} {mg : Str → Option Value} {a : Ad} (T : Txt K w mg a) : PySem.W.keepIn K (.ref a.f__law_pick) = true := T.F__law_pick.kp
theorem Txt.kp__law_alike {K : PySem.W.Frag} {w : World} {mg : Str → Option Value} {a : Ad} (T : Txt K w mg a) : PySem.W.keepIn K (.ref a.f__law_alike) = true := T.F__law_alike.kp
theorem Txt.kp__law_words {K : PySem.W.Frag} {w : World} {mg : Str → Option Value} {a : Ad} (T : Txt K w mg a) : PySem.W.keepIn K (.ref a.f__law_words) = true := T.F__law_words.kp
theorem Txt.kp__law_way {K : PySem.W.Frag} {w : World} {mg : Str → Option Value} {a : Ad} (T : Txt K w mg a) : PySem.W.keepIn K (.ref a.f__law_way) = true := T.F__law_way.kp
theorem Txt.kp__law_told {K : PySem.W.Frag} {w : World} {mg : Str → Option Value} {a : Ad} (T : Txt K w mg a) : PySem.W.keepIn K (.ref a.f__law_told) = true := T.F__law_told.kp
theorem Txt.kp_law {K : PySem.W.Frag} {w : World} {mg : Str → Option Value} {a : Ad} (T : Txt K w mg a) : PySem.W.keepIn K (.ref a.f_law) = true := T.F_law.kp
/-- the tables of code objects -/
structure Tabs (base : Heap) (mg : Str → Option Value) (a : Ad) : Prop where
  t_is_way : GxR.TabB base mg a.c_is_way a.p_is_way
  t_is_name : GxR.TabB base mg a.c_is_name a.p_is_name
  t_read_integer : GxR.TabB base mg a.c_read_integer a.p_read_integer
  t_law : GxR.TabB base mg a.c_law a.p_law
structure Ok (K : PySem.W.Frag) (a : Ad) (S : Side) : Prop where
  o_is_way : TabS S a.p_is_way
  o_is_name : TabS S a.p_is_name
  o_read_integer : TabS S a.p_read_integer
  o_law : LTabS S a.p_law ("law" ++ ".<locals>." ++ "<lambda>")
theorem Ok.le {K : PySem.W.Frag} {a : Ad} {S T : Side} (h : Ok K a S) (l : Side.Le S T) : Ok K a T := ⟨h.o_is_way.le l, h.o_is_name.le l, h.o_read_integer.le l, h.o_law.le l⟩
theorem Ok.withR {K : PySem.W.Frag} {a : Ad} {S : Side} {r sc : Addr} {nr : ¬ S.hid r} (h : Ok K a S) : Ok K a (S.withR r sc nr) := ⟨h.o_is_way.withR, h.o_is_name.withR, h.o_read_integer.withR, h.o_law.withR⟩
theorem Ok.withN {K : PySem.W.Frag} {a : Ad} {S : Side} {P : Program} {w : World} {p : Addr} {es : List (NKey × NKey)} (h : Ok K a S) (n : ¬ S.hid p) : Ok K a (S.withN P w p es) := ⟨h.o_is_way.withN n, h.o_is_name.withN n, h.o_read_integer.withN n, h.o_law.withN n⟩
local macro_rules | `(tactic| walk_at "tw") => `(tactic| ((first
  | with_reducible refine run_seq ?_ | with_reducible refine run_ret ?_ | with_reducible refine run_asg ?_ | with_reducible refine run_if ?_ | with_reducible refine run_next ?_ | with_reducible refine run_drop ?_ | with_reducible refine run_asgG ?_ | with_reducible refine run_for ?_ | with_reducible refine run_par ?_
  | with_reducible refine et_not ?_ | with_reducible refine et_test ?_ | with_reducible refine et_B ?_ | with_reducible refine et_and ?_ | with_reducible refine et_or ?_ | with_reducible refine et_yes ?_
  | with_reducible refine ev_op ?_ | with_reducible refine ev_chain ?_ | with_reducible refine ev_andV ?_ | with_reducible refine ev_orV ?_ | with_reducible refine ev_notV ?_ | with_reducible refine ev_if ?_ | with_reducible refine ev_isN ?_ | with_reducible refine ev_neg ?_
  | with_reducible refine ev_var rfl ?_ | with_reducible refine ev_int ?_ | with_reducible refine ev_str ?_ | with_reducible refine ev_bl ?_ | with_reducible refine ev_non ?_
  | with_reducible refine ev_slT ?_ | with_reducible refine ev_slL ?_ | with_reducible refine eo_none ?_ | with_reducible refine eo_some ?_
  | with_reducible refine ev_tupU ?_ | with_reducible refine ev_lstU ?_ | with_reducible refine ea_nil ?_ | with_reducible refine ea_cons ?_
  | with_reducible refine ev_isiTL ?_ | with_reducible refine ev_call (by assumption) ?_ | with_reducible refine ev_cdat (Txt.d_WORDS (by assumption)) ?_ | with_reducible refine ev_cb ?_ | with_reducible refine ev_raw ?_
  | with_reducible refine ec_isi (isi_int _) ?_ | with_reducible refine ec_isi (isi_bool _) ?_ | with_reducible refine ec_isi (isi_tuple _) ?_ | with_reducible refine ec_isi (isi_list _) ?_ | with_reducible refine ec_isi (isi_str _) ?_
  | refine ec_lenL ?_ | refine ec_lenT ?_ | refine ec_int ?_ | refine ec_tupL ?_ | refine ec_tupT ?_ | refine ec_lstL ?_ | refine ec_lstT ?_
  | with_reducible refine e2_int ?_ | with_reducible refine e2_bl ?_ | with_reducible refine e2_isB ?_ | with_reducible refine e2_notB ?_
  | with_reducible refine e2_eqNil ?_ | with_reducible refine e2_neNil ?_ | with_reducible refine e2_inK2 ?_ | with_reducible refine e2_inR3 ?_ | with_reducible refine e2_eqK ?_ | with_reducible refine e2_neK ?_ | with_reducible refine e2_eqR ?_ | with_reducible refine e2_neR ?_
  | with_reducible refine e2_eqSb true (by decide +kernel) ?_ | with_reducible refine e2_eqSb false (by decide +kernel) ?_ | with_reducible refine e2_neSb true (by decide +kernel) ?_ | with_reducible refine e2_neSb false (by decide +kernel) ?_
  | with_reducible refine e2_inLb true (by decide +kernel) rfl ?_ | with_reducible refine e2_inLb false (by decide +kernel) rfl ?_
  | with_reducible refine e2_inST ?_ | with_reducible refine e2_inSL ?_ | with_reducible refine e2_ninST ?_ | with_reducible refine e2_ninSL ?_ | with_reducible refine e2_eqS ?_ | with_reducible refine e2_neS ?_
  | with_reducible refine e2_eq (by first | assumption | (simp only [depth_none, depth_int, depth_str, depth_bool]; omega) | omega) ?_ | with_reducible refine e2_ne (by first | assumption | (simp only [depth_none, depth_int, depth_str, depth_bool]; omega) | omega) ?_
  | with_reducible refine forW_cons ?_ | with_reducible refine forW_nil ?_ | with_reducible refine ei_tup ?_ | with_reducible refine ei_list ?_ | with_reducible refine ei_rng ?_
  | with_reducible refine eg_name ?_ | with_reducible refine eg_tup rfl ?_ | with_reducible refine eg_lst rfl ?_ | with_reducible refine egs_nil ?_ | with_reducible refine egs_cons ?_
  | with_reducible refine ⟨rfl, sz100 rfl, ?_⟩ | with_reducible refine ⟨_, rfl, ?_⟩ | with_reducible exact ⟨_, rfl⟩ | with_reducible refine ⟨_, _, rfl, ?_⟩ | with_reducible refine ⟨_, _, _, _, rfl, ?_⟩
  | ((with_reducible refine ⟨fun hb => ?_, fun hb => ?_⟩) <;> (try exact Bool.noConfusion (show true = false from hb)) <;> (try exact Bool.noConfusion (show false = true from hb)))
  | with_reducible refine And.intro (by assumption) ?_ | refine e2_ixT rfl ?_ | refine e2_ixL rfl ?_ | fail "stuck"); (try dsimp only [fin_rt, fin_nx, undata, List.set, List.isEmpty, Bool.not_true, Bool.not_false])))
section
variable {P : Program} {w : World} {K : PySem.W.Frag} {mg : Str → Option Value} {base : Heap} {a : Ad}
abbrev sp_is_value (K : PySem.W.Frag) : Spec := fun S xs P => ∃ d, xs = [.d d] ∧ P (.d (.bool (isValue d)))
theorem ok_is_value (T : Txt K w mg a) (TB : Tabs base mg a) : FnOk P w K mg base CX0 1 a.f_is_value a.fd_is_value ["value"] (spD K (Ok K a) (sp_is_value K)) := by
  obtain ⟨t_GREATEST_INTEGER, h_GREATEST_INTEGER⟩ := T.m_GREATEST_INTEGER
  refine def_ok T.F_is_value sc_is_value (fun S xs P h => ?_) (fun A outer s H E hr => ?_)
  · obtain ⟨d, e, _⟩ := h
    rw [e]
    rfl
  have hu := Room.units hr
  refine ⟨_, (pss_cons (ps_if (pt_cmp (pc_isN (pv 0))) (pss_one (ps_ret pe_bl)) pss_nil)
      (pss_one (ps_ret (pe_and (pe_callB (r := rIsi K) call_isi (by rfl) T.m_isinstance (by decide +kernel) (pa_cons (pv 0) (pa_cons (pe_bltn (v := .ty "int") (by rfl) T.m_int (by decide +kernel) rfl) pa_nil))) (pe_and (pe_not (pe_callB (r := rIsi K) call_isi (by rfl) T.m_isinstance (by decide +kernel) (pa_cons (pv 0) (pa_cons (pe_bltn (v := .ty "bool") (by rfl) T.m_bool (by decide +kernel) rfl) pa_nil)))) (pe_one (pe_chain (op_le) (op_le) pe_int (pv 0) (pe_glob (v := .int 999) (by rfl) h_GREATEST_INTEGER ⟨t_GREATEST_INTEGER, rfl⟩)))))))), fun S xs Pq hok hs => ?_⟩
  obtain ⟨d, rfl, hp⟩ := hs
  try dsimp only [cxOf]
  try simp only [N_is_value, startR_c, startR_n, startR_z]
  cases d <;> (repeat' walk_at "tw") <;> (try exact hp)
  · rename_i i h1 h2 h3 h4
    have e : isValue (.int i) = decide (i ≤ 999) := by
      have h5 := of_decide_eq_true h4
      unfold isValue
      rw [decide_eq_decide]
      exact ⟨fun z => z.2, fun z => ⟨h5, z⟩⟩
    rw [← e]
    exact hp
  · rename_i i h1 h2 h3 h4
    have e : isValue (.int i) = false := by
      have h5 := of_decide_eq_false h4
      exact decide_eq_false fun z => h5 z.1
    rw [← e]
    exact hp
abbrev sp_is_way (K : PySem.W.Frag) : Spec := fun S xs P => ∃ d, xs = [.d d] ∧ d.depth ≤ 50 ∧ P (.d (.bool (isWay d)))
theorem ok_is_way (T : Txt K w mg a) (TB : Tabs base mg a) : FnOk P w K mg base CX0 1 a.f_is_way a.fd_is_way ["value"] (spD K (Ok K a) (sp_is_way K)) := by
  refine def_ok T.F_is_way sc_is_way (fun S xs P h => ?_) (fun A outer s H E hr => ?_)
  · obtain ⟨d, e, _⟩ := h
    rw [e]
    rfl
  have hu := Room.units hr
  refine ⟨_, (pss_cons (ps_if (PW.pt (pw_or (pt_not (pt_val (pe_callB (r := rIsi K) call_isi (by rfl) T.m_isinstance (by decide +kernel) (pa_cons (pv 0) (pa_cons (pe_bltn (v := .ty "tuple") (by rfl) T.m_tuple (by decide +kernel) rfl) pa_nil))))) (pw_or1 (pt_cmpR (r := rNeP K) (op_neP hu) (pe_callB (r := rLen K) call_len_seq (by rfl) T.m_len PySem.boot_len (pa_cons (pv 0) pa_nil)) (pe_callB (r := rLen K) call_len_seq (by rfl) T.m_len PySem.boot_len (pa_cons (pe_glob (v := .ref a.a_WORDS) (by rfl) T.m_WORDS rfl) pa_nil)) (nomark _))))) (pss_one (ps_ret pe_bl)) pss_nil)
      (pss_one (ps_ret (pe_allZ hr (by rfl) T.m_all (by decide +kernel) (by rfl) T.m_zip TB.t_is_way T.cw_is_way ⟨rfl, rfl, by decide +kernel, rfl, rfl, rfl, by decide +kernel, fun y hy e => absurd e (by revert y; decide +kernel)⟩ (pa_cons (pv 0) (pa_cons (pe_glob (v := .ref a.a_WORDS) (by rfl) T.m_WORDS rfl) pa_nil)) (elt_in rfl rfl rfl) (fun _ => rfl))))), fun S xs Pq hok hs => ?_⟩
  obtain ⟨d, rfl, hd, hp⟩ := hs
  try dsimp only [cxOf]
  try simp only [N_is_way, startR_c, startR_n, startR_z]
  cases d <;> (repeat' walk_at "tw") <;> (try exact hp)
  · rename_i ds h1 h2
    have e : isWay (.tuple ds) = false := by
      have h3 : (ds.length == 5) = false := by
        cases q : (ds.length == 5) with
        | false => rfl
        | true =>
          have h4 := eq_of_beq q
          rw [h4] at h2
          exact Bool.noConfusion (show false = true from h2)
      rw [isWay_tup, h3]
      rfl
    rw [← e]
    exact hp
  · rename_i ds h1 h2
    have h5 : ds.length = 5 := by
      rw [eqv_int] at h2
      have h3 : ((ds.length : Int) == (5 : Int)) = true := by
        cases q : ((ds.length : Int) == (5 : Int)) with
        | true => rfl
        | false =>
          have h2' : (!((ds.length : Int) == (5 : Int))) = false := h2
          rw [q] at h2'
          cases h2'
      have h4 := eq_of_beq h3
      omega
    refine ev_allZ hok.o_is_way ?_
    repeat' walk_at "tw"
    refine ⟨fun p hm => ?_, ?_⟩
    · obtain ⟨m1, m2⟩ := List.of_mem_zip (a := p.1) (b := p.2) hm
      have q1 := depth_mem m1
      have q2 : (PyData.tuple ds).depth = PyData.depthAll ds + 1 := by simp only [PyData.depth]
      obtain ⟨l, _, e⟩ := List.mem_map.mp m2
      exact ⟨by omega, _, e.symm⟩
    · have e : isWay (.tuple ds) = (ds.zip (wordsL.map tupS)).all fun p => inTup p.1 p.2 := by
        rw [isWay_tup, h5]
        rfl
      rw [e] at hp
      exact hp
abbrev sp_require_way (K : PySem.W.Frag) : Spec := fun S xs P => ∃ d, xs = [.d d] ∧ d.depth ≤ 50 ∧ isWay d = true ∧ P (.d .none)
theorem ok_require_way (T : Txt K w mg a) (TB : Tabs base mg a) : FnOk P w K mg base CX0 2 a.f_require_way a.fd_require_way ["value"] (spD K (Ok K a) (sp_require_way K)) := by
  have G_is_way := ok_is_way (P := P) T TB
  refine def_ok T.F_require_way sc_require_way (fun S xs P h => ?_) (fun A outer s H E hr => ?_)
  · obtain ⟨d, e, _⟩ := h
    rw [e]
    rfl
  have hu := Room.units hr
  refine ⟨_, (pss_one (ps_if (pt_not (pt_val (pe_call G_is_way (hr.mono (by decide)) (by rfl) T.m_is_way T.kp_is_way T.b_is_way .nil pass0 (pa_cons (pv 0) pa_nil)))) (pss_one ps_never) pss_nil)), fun S xs Pq hok hs => ?_⟩
  obtain ⟨d, rfl, hd, hv, hp⟩ := hs
  try dsimp only [cxOf]
  try simp only [N_require_way, startR_c, startR_n, startR_z]
  repeat' walk_at "tw"
  · rename_i h
    rw [hv] at h
    exact Bool.noConfusion h
  · exact hp
end
end Tw.K08
namespace Tw.K08
open PySem PySem.Spec PyProof.Rows L2
local macro_rules | `(tactic| walk_at "tw") => `(tactic| ((first
  | with_reducible refine run_seq ?_ | with_reducible refine run_ret ?_ | with_reducible refine run_asg ?_ | with_reducible refine run_if ?_ | with_reducible refine run_next ?_ | with_reducible refine run_drop ?_ | with_reducible refine run_asgG ?_ | with_reducible refine run_for ?_ | with_reducible refine run_par ?_
  | with_reducible refine et_not ?_ | with_reducible refine et_test ?_ | with_reducible refine et_B ?_ | with_reducible refine et_and ?_ | with_reducible refine et_or ?_ | with_reducible refine et_yes ?_
  | with_reducible refine ev_op ?_ | with_reducible refine ev_chain ?_ | with_reducible refine ev_andV ?_ | with_reducible refine ev_orV ?_ | with_reducible refine ev_notV ?_ | with_reducible refine ev_if ?_ | with_reducible refine ev_isN ?_ | with_reducible refine ev_neg ?_
  | with_reducible refine ev_var rfl ?_ | with_reducible refine ev_int ?_ | with_reducible refine ev_str ?_ | with_reducible refine ev_bl ?_ | with_reducible refine ev_non ?_
  | with_reducible refine ev_slT ?_ | with_reducible refine ev_slL ?_ | with_reducible refine eo_none ?_ | with_reducible refine eo_some ?_
  | with_reducible refine ev_tupU ?_ | with_reducible refine ev_lstU ?_ | with_reducible refine ea_nil ?_ | with_reducible refine ea_cons ?_
  | with_reducible refine ev_isiTL ?_ | with_reducible refine ev_call (by assumption) ?_ | with_reducible refine ev_cdat (Txt.d_WORDS (by assumption)) ?_ | with_reducible refine ev_cb ?_ | with_reducible refine ev_raw ?_
  | with_reducible refine ec_isi (isi_int _) ?_ | with_reducible refine ec_isi (isi_bool _) ?_ | with_reducible refine ec_isi (isi_tuple _) ?_ | with_reducible refine ec_isi (isi_list _) ?_ | with_reducible refine ec_isi (isi_str _) ?_
  | refine ec_lenL ?_ | refine ec_lenT ?_ | refine ec_int ?_ | refine ec_tupL ?_ | refine ec_tupT ?_ | refine ec_lstL ?_ | refine ec_lstT ?_
  | with_reducible refine e2_int ?_ | with_reducible refine e2_bl ?_ | with_reducible refine e2_isB ?_ | with_reducible refine e2_notB ?_
  | with_reducible refine e2_eqNil ?_ | with_reducible refine e2_neNil ?_ | with_reducible refine e2_inK2 ?_ | with_reducible refine e2_inR3 ?_ | with_reducible refine e2_eqK ?_ | with_reducible refine e2_neK ?_ | with_reducible refine e2_eqR ?_ | with_reducible refine e2_neR ?_
  | with_reducible refine e2_eqSb true (by decide +kernel) ?_ | with_reducible refine e2_eqSb false (by decide +kernel) ?_ | with_reducible refine e2_neSb true (by decide +kernel) ?_ | with_reducible refine e2_neSb false (by decide +kernel) ?_
  | with_reducible refine e2_inLb true (by decide +kernel) rfl ?_ | with_reducible refine e2_inLb false (by decide +kernel) rfl ?_
  | with_reducible refine e2_inST ?_ | with_reducible refine e2_inSL ?_ | with_reducible refine e2_ninST ?_ | with_reducible refine e2_ninSL ?_ | with_reducible refine e2_eqS ?_ | with_reducible refine e2_neS ?_
  | with_reducible refine e2_eq (by first | assumption | (simp only [depth_none, depth_int, depth_str, depth_bool]; omega) | omega) ?_ | with_reducible refine e2_ne (by first | assumption | (simp only [depth_none, depth_int, depth_str, depth_bool]; omega) | omega) ?_
  | with_reducible refine forW_cons ?_ | with_reducible refine forW_nil ?_ | with_reducible refine ei_tup ?_ | with_reducible refine ei_list ?_ | with_reducible refine ei_rng ?_
  | with_reducible refine eg_name ?_ | with_reducible refine eg_tup rfl ?_ | with_reducible refine eg_lst rfl ?_ | with_reducible refine egs_nil ?_ | with_reducible refine egs_cons ?_
  | with_reducible refine ⟨rfl, sz100 rfl, ?_⟩ | with_reducible refine ⟨_, rfl, ?_⟩ | with_reducible exact ⟨_, rfl⟩ | with_reducible refine ⟨_, _, rfl, ?_⟩ | with_reducible refine ⟨_, _, _, _, rfl, ?_⟩
  | ((with_reducible refine ⟨fun hb => ?_, fun hb => ?_⟩) <;> (try exact Bool.noConfusion (show true = false from hb)) <;> (try exact Bool.noConfusion (show false = true from hb)))
  | with_reducible refine And.intro (by assumption) ?_ | refine e2_ixT rfl ?_ | refine e2_ixL rfl ?_ | fail "stuck"); (try dsimp only [fin_rt, fin_nx, undata, List.set, List.isEmpty, Bool.not_true, Bool.not_false])))
section
variable {P : Program} {w : World} {K : PySem.W.Frag} {mg : Str → Option Value} {base : Heap} {a : Ad}
abbrev sp_is_name (K : PySem.W.Frag) : Spec := fun S xs P => ∃ z : Str, xs = [.d (.str z)] ∧ z.length ≤ 1000 ∧ P (.d (.bool (nameB z)))
theorem ok_is_name (T : Txt K w mg a) (TB : Tabs base mg a) : FnOk P w K mg base CX0 1 a.f_is_name a.fd_is_name ["value"] (spD K (Ok K a) (sp_is_name K)) := by
  obtain ⟨t_GREATEST_LENGTH, h_GREATEST_LENGTH⟩ := T.m_GREATEST_LENGTH
  obtain ⟨t_LETTERS, h_LETTERS⟩ := T.m_LETTERS
  refine def_ok T.F_is_name sc_is_name (fun S xs P h => ?_) (fun A outer s H E hr => ?_)
  · obtain ⟨z, e, _⟩ := h
    rw [e]
    rfl
  have hu := Room.units hr
  refine ⟨_, (pss_cons (ps_if (PW.pt (pw_or (pt_not (pt_val (pe_callB (r := rIsi K) call_isi (by rfl) T.m_isinstance (by decide +kernel) (pa_cons (pv 0) (pa_cons (pe_bltn (v := .ty "str") (by rfl) T.m_str (by decide +kernel) rfl) pa_nil))))) (pw_or1 (pt_not (pt_chain (op_le) (op_le) pe_int (pe_callB (r := rLenS) call_lenS (by rfl) T.m_len PySem.boot_len (pa_cons (pv 0) pa_nil)) (pe_glob (v := .int 12) (by rfl) h_GREATEST_LENGTH ⟨t_GREATEST_LENGTH, rfl⟩)))))) (pss_one (ps_ret pe_bl)) pss_nil)
      (pss_one (ps_ret (pe_allS hr (by rfl) T.m_all TB.t_is_name T.cw_is_name ⟨rfl, rfl, by decide +kernel, rfl, rfl, free_no (by decide +kernel)⟩ (pv 0) rfl h_LETTERS (fun _ => rfl))))), fun S xs Pq hok hs => ?_⟩
  obtain ⟨z, rfl, hz, hp⟩ := hs
  try dsimp only [cxOf]
  try simp only [N_is_name, startR_c, startR_n, startR_z]
  repeat' walk_at "tw"
  refine ec_lenS (Nat.le_trans hz (by decide)) ?_
  have e0 : nameB z = (decide ((1 : Int) ≤ (z.length : Nat)) && decide (((z.length : Nat) : Int) ≤ 12) && allIn "abcdefghijklmnopqrstuvwxyz" z) := by
    unfold nameB
    have e1 : decide (1 ≤ z.length) = decide ((1 : Int) ≤ (z.length : Nat)) := by rw [decide_eq_decide]; omega
    have e2 : decide (z.length ≤ 12) = decide (((z.length : Nat) : Int) ≤ 12) := by rw [decide_eq_decide]; omega
    rw [e1, e2]
  rw [e0] at hp
  refine e2_bl ⟨_, rfl, fun h1 => ev_int (e2_bl ⟨_, rfl, fun h2 => ?_, fun h2 => ?_⟩), fun h1 => ⟨_, rfl, fun _ => ?_, fun h => nomatch h⟩⟩
  · repeat' walk_at "tw"
    rw [Bool.not_eq_true'] at h2
    rw [h1, h2] at hp
    exact hp
  · rw [Bool.not_eq_false'] at h2
    rw [h1, h2] at hp
    refine run_next ?_
    refine run_ret (ev_allS hok.o_is_name (ev_var rfl ⟨z, rfl, ?_⟩))
    exact hp
  · repeat' walk_at "tw"
    rw [h1] at hp
    exact hp
abbrev sp_is_pair (K : PySem.W.Frag) : Spec := fun S xs P => ∃ p : PairO, xs = [.d (prD p)] ∧ p.1.length ≤ 1000 ∧ P (.d (.bool (pairB p)))
theorem ok_is_pair (T : Txt K w mg a) (TB : Tabs base mg a) : FnOk P w K mg base CX0 2 a.f_is_pair a.fd_is_pair ["value"] (spD K (Ok K a) (sp_is_pair K)) := by
  have G_is_name := ok_is_name (P := P) T TB
  have G_is_value := ok_is_value (P := P) T TB
  refine def_ok T.F_is_pair sc_is_pair (fun S xs P h => ?_) (fun A outer s H E hr => ?_)
  · obtain ⟨p, e, _⟩ := h
    rw [e]
    rfl
  have hu := Room.units hr
  refine ⟨_, (pss_cons (ps_if (PW.pt (pw_or (pt_not (pt_val (pe_callB (r := rIsi K) call_isi (by rfl) T.m_isinstance (by decide +kernel) (pa_cons (pv 0) (pa_cons (pe_bltn (v := .ty "tuple") (by rfl) T.m_tuple (by decide +kernel) rfl) pa_nil))))) (pw_or1 (pt_cmpR (r := rNeP K) (op_neP hu) (pe_callB (r := rLen K) call_len_seq (by rfl) T.m_len PySem.boot_len (pa_cons (pv 0) pa_nil)) pe_int (nomark _))))) (pss_one (ps_ret pe_bl)) pss_nil)
      (pss_cons (ps_asg (pv 0) (pg_tup (by rfl) (pgs_cons (pg_name (i := 1) sc_is_pair.nd rfl (.inl rfl)) (pgs_cons (pg_name (i := 2) sc_is_pair.nd rfl (.inl rfl)) pgs_nil))))
      (pss_one (ps_ret (pe_and (pe_call G_is_name (hr.mono (by decide)) (by rfl) T.m_is_name T.kp_is_name T.b_is_name .nil pass0 (pa_cons (pv 1) pa_nil)) (pe_and (pe_cmp (pc_notN (pv 2))) (pe_one (pe_call G_is_value (hr.mono (by decide)) (by rfl) T.m_is_value T.kp_is_value T.b_is_value .nil pass0 (pa_cons (pv 2) pa_nil))))))))), fun S xs Pq hok hs => ?_⟩
  obtain ⟨p, rfl, hz, hp⟩ := hs
  try dsimp only [cxOf]
  try simp only [N_is_pair, startR_c, startR_n, startR_z]
  obtain ⟨z, o⟩ := p
  unfold pairB at hp
  repeat' walk_at "tw"
  · rename_i h1
    cases o with
    | none =>
      refine ev_notN (ev_var rfl ⟨_, rfl, _, rfl, fun hb => (nomatch hb), fun _ => ?_⟩)
      rw [Bool.and_false] at hp
      exact hp
    | some i =>
      refine ev_notN (ev_var rfl ⟨_, rfl, _, rfl, fun _ => ?_, fun hb => (nomatch hb)⟩)
      repeat' walk_at "tw"
      dsimp only at hp
      rw [h1, Bool.true_and] at hp
      have e1 : isValue (numD (some i)) = (decide (0 ≤ i) && decide (i ≤ 999)) := by
        show decide (0 ≤ i ∧ i ≤ 999) = _
        rw [Bool.decide_and]
      rw [e1]
      exact hp
  · rename_i h1
    dsimp only at hp
    rw [h1, Bool.false_and] at hp
    exact hp
abbrev sp_is_short_tuple (K : PySem.W.Frag) : Spec := fun S xs P => ∃ ds : List PyData, xs = [.d (.tuple ds)] ∧ P (.d (.bool (decide (ds.length ≤ 12))))
theorem ok_is_short_tuple (T : Txt K w mg a) (TB : Tabs base mg a) : FnOk P w K mg base CX0 1 a.f_is_short_tuple a.fd_is_short_tuple ["value"] (spD K (Ok K a) (sp_is_short_tuple K)) := by
  obtain ⟨t_GREATEST_COUNT, h_GREATEST_COUNT⟩ := T.m_GREATEST_COUNT
  refine def_ok T.F_is_short_tuple sc_is_short_tuple (fun S xs P h => ?_) (fun A outer s H E hr => ?_)
  · obtain ⟨ds, e, _⟩ := h
    rw [e]
    rfl
  have hu := Room.units hr
  refine ⟨_, (pss_one (ps_ret (pe_and (pe_callB (r := rIsi K) call_isi (by rfl) T.m_isinstance (by decide +kernel) (pa_cons (pv 0) (pa_cons (pe_bltn (v := .ty "tuple") (by rfl) T.m_tuple (by decide +kernel) rfl) pa_nil))) (pe_one (pe_cmpR (op_le) (pe_callB (r := rLen K) call_len_seq (by rfl) T.m_len PySem.boot_len (pa_cons (pv 0) pa_nil)) (pe_glob (v := .int 12) (by rfl) h_GREATEST_COUNT ⟨t_GREATEST_COUNT, rfl⟩) (nomark _)))))), fun S xs Pq hok hs => ?_⟩
  obtain ⟨ds, rfl, hp⟩ := hs
  try dsimp only [cxOf]
  try simp only [N_is_short_tuple, startR_c, startR_n, startR_z]
  repeat' walk_at "tw"
  have e1 : decide (((ds.length : Nat) : Int) ≤ 12) = decide (ds.length ≤ 12) := by
    rw [decide_eq_decide]
    omega
  rw [e1]
  exact hp
theorem enum_prs (ps : List PairO) : enumD 0 (ps.map prD) = (List.range ps.length).map fun k => PyData.tuple [.int (k : Nat), prD (ps.getD k ("", none))] := by
  refine List.ext_getElem? fun j => ?_
  rw [enumD_get, List.getElem?_map, List.getElem?_map, Nat.zero_add]
  by_cases hj : j < ps.length
  · rw [List.getElem?_eq_getElem hj, List.getElem?_range hj]
    have e : ps.getD j ("", none) = ps[j] := by rw [List.getD_eq_getElem?_getD, List.getElem?_eq_getElem hj]; rfl
    show some (PyData.tuple [.int (j : Nat), prD ps[j]]) = some (PyData.tuple [.int (j : Nat), prD (ps.getD j ("", none))])
    rw [e]
  · rw [List.getElem?_eq_none (by omega), List.getElem?_eq_none (by rw [List.length_range]; omega)]
    rfl
abbrev sp_first_wrong_index (K : PySem.W.Frag) : Spec := fun S xs P => ∃ ps : List PairO, xs = [.d (.tuple (ps.map prD))] ∧ ps.length ≤ 1000 ∧ (∀ p ∈ ps, p.1.length ≤ 1000) ∧ (goodB ps = true → P (.d .none)) ∧ (goodB ps = false → ∀ k : Nat, P (.d (.int k)))
theorem ok_first_wrong_index (T : Txt K w mg a) (TB : Tabs base mg a) : FnOk P w K mg base CX0 3 a.f_first_wrong_index a.fd_first_wrong_index ["items"] (spD K (Ok K a) (sp_first_wrong_index K)) := by
  have G_is_pair := ok_is_pair (P := P) T TB
  refine def_ok T.F_first_wrong_index sc_first_wrong_index (fun S xs P h => ?_) (fun A outer s H E hr => ?_)
  · obtain ⟨ps, e, _⟩ := h
    rw [e]
    rfl
  have hu := Room.units hr
  refine ⟨_, (pss_cons (ps_for PassesOwn.never (by rfl) (pi_enumT (K := K) rfl (by rfl) T.m_enumerate (pa_cons (pv 0) pa_nil)) (pg_tup (by rfl) (pgs_cons (pg_name (i := 1) sc_first_wrong_index.nd rfl (.inl rfl)) (pgs_cons (pg_name (i := 2) sc_first_wrong_index.nd rfl (.inl rfl)) pgs_nil))) (pss_one (ps_if (PW.pt (pw_or (pt_not (pt_val (pe_call G_is_pair (hr.mono (by decide)) (by rfl) T.m_is_pair T.kp_is_pair T.b_is_pair .nil pass0 (pa_cons (pv 2) pa_nil)))) (pw_or1 (PW.pt (pw_and (pt_cmpR (op_gt) (pv 1) pe_int (nomark _)) (pw_and1 (pt_cmpR op_le_str (pe_ix (r := rIxT K) ix_tup (pv 2) pe_int (fun _ _ => rfl)) (pe_ix (r := rIxT K) ix_tup (pe_ix (r := rIxT K) ix_tup (pv 0) (pe_op op_sub (pv 1) pe_int) (fun _ _ => rfl)) pe_int (fun _ _ => rfl)) (nomark _)))))))) (pss_one (ps_ret (pv 1))) pss_nil)))
      (pss_one (ps_ret pe_non))), fun S xs Pq hok hs => ?_⟩
  obtain ⟨ps, rfl, hz, hl, hp, hq⟩ := hs
  try dsimp only [cxOf]
  try simp only [N_first_wrong_index, startR_c, startR_n, startR_z]
  repeat' walk_at "tw"
  refine ei_enumT (ea_cons (ev_var rfl (ea_nil ⟨ps.map prD, rfl, ?_⟩)))
  rw [enum_prs]
  have hget : ∀ k, k < ps.length → (ps.map prD)[k]? = some (prD (ps.getD k ("", none))) := fun k hk => by
    rw [List.getElem?_map, List.getElem?_eq_getElem hk, List.getD_eq_getElem?_getD, List.getElem?_eq_getElem hk]
    rfl
  refine forW_findM (f := fun k => !goodAt ps k) (g := fun k => PyData.tuple [.int (k : Nat), prD (ps.getD k ("", none))]) (r := fun k : Nat => .d (.int k)) (fun ρ => ∃ x1 x2, ρ = [some (.d (.tuple (ps.map prD))), x1, x2]) ⟨_, _, rfl⟩ (List.range ps.length) (fun k hkm ρ' Q hJ hs hn => ?_) (fun k hf => ?_) (fun hf ρ' hJ => ?_)
  · obtain ⟨x1, x2, rfl⟩ := hJ
    have hk : k < ps.length := List.mem_range.mp hkm
    have hlen : ∀ j, j < ps.length → (ps.getD j ("", none)).1.length ≤ 1000 := fun j hj => by
      rw [List.getD_eq_getElem?_getD, List.getElem?_eq_getElem hj]
      exact hl _ (List.getElem_mem hj)
    have hs2 : goodAt ps k = false → Q (.rt (.d (.int (k : Nat)))) := fun e => hs (by rw [e]; rfl)
    have hn2 : goodAt ps k = true → Q (.nx [some (.d (.tuple (ps.map prD))), some (.d (.int (k : Nat))), some (.d (prD (ps.getD k ("", none))))]) := fun e => hn (by rw [e]; rfl) _ ⟨_, _, rfl⟩
    unfold goodAt at hs2 hn2
    repeat' walk_at "tw"
    refine ⟨hlen k hk, _, rfl, fun hb => ⟨fun _ => run_ret (ev_var rfl ?_), fun hb2 => nomatch hb2⟩, fun hb => ?_⟩
    · rw [Bool.not_eq_true'] at hb
      rw [hb] at hs2
      exact hs2 rfl
    · rw [Bool.not_eq_false'] at hb
      rw [hb, Bool.true_and] at hs2 hn2
      repeat' walk_at "tw"
      · rename_i hb1
        have hk0 : 0 < k := by
          have := of_decide_eq_true hb1
          omega
        have e1 : ((k : Nat) : Int) - 1 = ((k - 1 : Nat) : Int) := by omega
        rw [e1]
        refine e2_ixT (atI_nat (hget (k - 1) (by omega))) ?_
        refine ev_int (e2_ixT (d := .str (ps.getD (k - 1) ("", none)).1) rfl (e2_leS ⟨_, rfl, ?_⟩))
        have ek : (k == 0) = false := by
          rw [beq_eq_false_iff_ne]
          omega
        rw [ek, Bool.false_or] at hs2 hn2
        refine ⟨fun hb2 => run_ret (ev_var rfl (hs2 ?_)), fun hb2 => run_next (hn2 ?_)⟩
        · rw [Bool.not_eq_true'] at hb2
          exact hb2
        · rw [Bool.not_eq_false'] at hb2
          exact hb2
      · rename_i hb1 _
        have hk0 : k = 0 := by
          have := of_decide_eq_false hb1
          omega
        subst hk0
        exact hn2 rfl
  · have hm := List.mem_of_find?_eq_some hf
    have hx := List.find?_some (p := fun k => !goodAt ps k) hf
    refine hq ?_ k
    cases q : goodB ps with
    | false => rfl
    | true =>
      unfold goodB at q
      rw [List.all_eq_true] at q
      have := q k hm
      rw [this] at hx
      cases hx
  · obtain ⟨x1, x2, rfl⟩ := hJ
    repeat' walk_at "tw"
    refine hp ?_
    unfold goodB
    rw [List.all_eq_true]
    intro k hk
    have := List.find?_eq_none.mp hf k hk
    cases q : goodAt ps k with
    | true => rfl
    | false =>
      rw [q] at this
      exact absurd rfl this
end
end Tw.K08
namespace Tw.K08
open PySem PySem.Spec PyProof.Rows L2
local macro_rules | `(tactic| walk_at "tw") => `(tactic| ((first
  | with_reducible refine run_seq ?_ | with_reducible refine run_ret ?_ | with_reducible refine run_asg ?_ | with_reducible refine run_if ?_ | with_reducible refine run_next ?_ | with_reducible refine run_drop ?_ | with_reducible refine run_asgG ?_ | with_reducible refine run_for ?_ | with_reducible refine run_par ?_
  | with_reducible refine et_not ?_ | with_reducible refine et_test ?_ | with_reducible refine et_B ?_ | with_reducible refine et_and ?_ | with_reducible refine et_or ?_ | with_reducible refine et_yes ?_
  | with_reducible refine ev_op ?_ | with_reducible refine ev_chain ?_ | with_reducible refine ev_andV ?_ | with_reducible refine ev_orV ?_ | with_reducible refine ev_notV ?_ | with_reducible refine ev_if ?_ | with_reducible refine ev_isN ?_ | with_reducible refine ev_neg ?_
  | with_reducible refine ev_var rfl ?_ | with_reducible refine ev_int ?_ | with_reducible refine ev_str ?_ | with_reducible refine ev_bl ?_ | with_reducible refine ev_non ?_
  | with_reducible refine ev_slT ?_ | with_reducible refine ev_slL ?_ | with_reducible refine eo_none ?_ | with_reducible refine eo_some ?_
  | with_reducible refine ev_tupU ?_ | with_reducible refine ev_lstU ?_ | with_reducible refine ea_nil ?_ | with_reducible refine ea_cons ?_
  | with_reducible refine ev_isiTL ?_ | with_reducible refine ev_call (by assumption) ?_ | with_reducible refine ev_cdat (Txt.d_WORDS (by assumption)) ?_ | with_reducible refine ev_cb ?_ | with_reducible refine ev_raw ?_
  | with_reducible refine ec_isi (isi_int _) ?_ | with_reducible refine ec_isi (isi_bool _) ?_ | with_reducible refine ec_isi (isi_tuple _) ?_ | with_reducible refine ec_isi (isi_list _) ?_ | with_reducible refine ec_isi (isi_str _) ?_
  | refine ec_lenL ?_ | refine ec_lenT ?_ | refine ec_int ?_ | refine ec_tupL ?_ | refine ec_tupT ?_ | refine ec_lstL ?_ | refine ec_lstT ?_
  | with_reducible refine e2_int ?_ | with_reducible refine e2_bl ?_ | with_reducible refine e2_isB ?_ | with_reducible refine e2_notB ?_
  | with_reducible refine e2_eqNil ?_ | with_reducible refine e2_neNil ?_ | with_reducible refine e2_inK2 ?_ | with_reducible refine e2_inR3 ?_ | with_reducible refine e2_eqK ?_ | with_reducible refine e2_neK ?_ | with_reducible refine e2_eqR ?_ | with_reducible refine e2_neR ?_
  | with_reducible refine e2_eqSb true (by decide +kernel) ?_ | with_reducible refine e2_eqSb false (by decide +kernel) ?_ | with_reducible refine e2_neSb true (by decide +kernel) ?_ | with_reducible refine e2_neSb false (by decide +kernel) ?_
  | with_reducible refine e2_inLb true (by decide +kernel) rfl ?_ | with_reducible refine e2_inLb false (by decide +kernel) rfl ?_
  | with_reducible refine e2_inST ?_ | with_reducible refine e2_inSL ?_ | with_reducible refine e2_ninST ?_ | with_reducible refine e2_ninSL ?_ | with_reducible refine e2_eqS ?_ | with_reducible refine e2_neS ?_
  | with_reducible refine e2_eq (by first | assumption | (simp only [depth_none, depth_int, depth_str, depth_bool]; omega) | omega) ?_ | with_reducible refine e2_ne (by first | assumption | (simp only [depth_none, depth_int, depth_str, depth_bool]; omega) | omega) ?_
  | with_reducible refine forW_cons ?_ | with_reducible refine forW_nil ?_ | with_reducible refine ei_tup ?_ | with_reducible refine ei_list ?_ | with_reducible refine ei_rng ?_
  | with_reducible refine eg_name ?_ | with_reducible refine eg_tup rfl ?_ | with_reducible refine eg_lst rfl ?_ | with_reducible refine egs_nil ?_ | with_reducible refine egs_cons ?_
  | with_reducible refine ⟨rfl, sz100 rfl, ?_⟩ | with_reducible refine ⟨_, rfl, ?_⟩ | with_reducible exact ⟨_, rfl⟩ | with_reducible refine ⟨_, _, rfl, ?_⟩ | with_reducible refine ⟨_, _, _, _, rfl, ?_⟩
  | ((with_reducible refine ⟨fun hb => ?_, fun hb => ?_⟩) <;> (try exact Bool.noConfusion (show true = false from hb)) <;> (try exact Bool.noConfusion (show false = true from hb)))
  | with_reducible refine And.intro (by assumption) ?_ | refine e2_ixT rfl ?_ | refine e2_ixL rfl ?_ | fail "stuck"); (try dsimp only [fin_rt, fin_nx, undata, List.set, List.isEmpty, Bool.not_true, Bool.not_false])))
section
variable {P : Program} {w : World} {K : PySem.W.Frag} {mg : Str → Option Value} {base : Heap} {a : Ad}
abbrev sp_is_document (K : PySem.W.Frag) : Spec := fun S xs P => ∃ ps : List PairO, xs = [.d (.tuple (ps.map prD))] ∧ ps.length ≤ 1000 ∧ (∀ p ∈ ps, p.1.length ≤ 1000) ∧ P (.d (.bool (decide (ps.length ≤ 12) && goodB ps)))
theorem ok_is_document (T : Txt K w mg a) (TB : Tabs base mg a) : FnOk P w K mg base CX0 4 a.f_is_document a.fd_is_document ["value"] (spD K (Ok K a) (sp_is_document K)) := by
  have G_is_short_tuple := ok_is_short_tuple (P := P) T TB
  have G_first_wrong_index := ok_first_wrong_index (P := P) T TB
  refine def_ok T.F_is_document sc_is_document (fun S xs P h => ?_) (fun A outer s H E hr => ?_)
  · obtain ⟨ps, e, _⟩ := h
    rw [e]
    rfl
  have hu := Room.units hr
  refine ⟨_, (pss_one (ps_ret (pe_and (pe_call G_is_short_tuple (hr.mono (by decide)) (by rfl) T.m_is_short_tuple T.kp_is_short_tuple T.b_is_short_tuple .nil pass0 (pa_cons (pv 0) pa_nil)) (pe_one (pe_cmp (pc_isN (pe_call G_first_wrong_index (hr.mono (by decide)) (by rfl) T.m_first_wrong_index T.kp_first_wrong_index T.b_first_wrong_index .nil pass0 (pa_cons (pv 0) pa_nil)))))))), fun S xs Pq hok hs => ?_⟩
  obtain ⟨ps, rfl, hz, hl, hp⟩ := hs
  try dsimp only [cxOf]
  try simp only [N_is_document, startR_c, startR_n, startR_z]
  repeat' walk_at "tw"
  · rename_i h1 h2
    rw [List.length_map] at h1
    rw [h1, h2] at hp
    exact hp
  · rename_i h1 h2
    rw [List.length_map] at h1
    rw [h1, h2] at hp
    exact fun k => ⟨_, rfl, hp⟩
  · rename_i h1
    rw [List.length_map] at h1
    rw [h1, Bool.false_and] at hp
    exact hp
abbrev sp_require_document (K : PySem.W.Frag) : Spec := fun S xs P => ∃ ps : List PairO, xs = [.d (.tuple (ps.map prD))] ∧ ps.length ≤ 12 ∧ (∀ p ∈ ps, p.1.length ≤ 1000) ∧ goodB ps = true ∧ P (.d .none)
theorem ok_require_document (T : Txt K w mg a) (TB : Tabs base mg a) : FnOk P w K mg base CX0 4 a.f_require_document a.fd_require_document ["value"] (spD K (Ok K a) (sp_require_document K)) := by
  have G_first_wrong_index := ok_first_wrong_index (P := P) T TB
  have G_is_short_tuple := ok_is_short_tuple (P := P) T TB
  refine def_ok T.F_require_document sc_require_document (fun S xs P h => ?_) (fun A outer s H E hr => ?_)
  · obtain ⟨ps, e, _⟩ := h
    rw [e]
    rfl
  have hu := Room.units hr
  refine ⟨_, (pss_cons (ps_if (pt_not (pt_val (pe_call G_is_short_tuple (hr.mono (by decide)) (by rfl) T.m_is_short_tuple T.kp_is_short_tuple T.b_is_short_tuple .nil pass0 (pa_cons (pv 0) pa_nil)))) (pss_one ps_never) pss_nil)
      (pss_cons (ps_set (i := 1) sc_require_document.nd rfl (.inl rfl) (pe_call G_first_wrong_index (hr.mono (by decide)) (by rfl) T.m_first_wrong_index T.kp_first_wrong_index T.b_first_wrong_index .nil pass0 (pa_cons (pv 0) pa_nil)))
      (pss_one (ps_if (pt_cmp (pc_notN (pv 1))) (pss_one ps_never) pss_nil)))), fun S xs Pq hok hs => ?_⟩
  obtain ⟨ps, rfl, hz, hl, hg, hp⟩ := hs
  try dsimp only [cxOf]
  try simp only [N_require_document, startR_c, startR_n, startR_z]
  repeat' walk_at "tw"
  · rename_i h1
    rw [List.length_map, decide_eq_true hz] at h1
    cases h1
  · refine ⟨Nat.le_trans hz (by decide), hl, fun _ => ?_, fun h => by rw [hg] at h; cases h⟩
    repeat' walk_at "tw"
    refine ev_notN (ev_var rfl ⟨_, rfl, _, rfl, fun hb => (nomatch hb), fun _ => run_next hp⟩)
abbrev sp_require_text (K : PySem.W.Frag) (a : Ad) : SpecX := fun S xs P PX => ∃ d, xs = [.d d] ∧ (isStrD d = true → P (.d .none)) ∧ (isStrD d = false → PX (.ref a.k_NotText) none)
theorem ok_require_text (T : Txt K w mg a) (TB : Tabs base mg a) : FnOk P w K mg base (L2.CX P w) 1 a.f_require_text a.fd_require_text ["value"] (spX K (Ok K a) (sp_require_text K a)) := by
  refine def_okX T.F_require_text sc_require_text (fun S xs P PX h => ?_) (fun A outer s H E hr => ?_)
  · obtain ⟨d, e, _⟩ := h
    rw [e]
    rfl
  have hu := Room.units hr
  refine ⟨_, (pss_one (ps_if (pt_not (pt_val (pe_callB (r := rIsi K) call_isi (by rfl) T.m_isinstance (by decide +kernel) (pa_cons (pv 0) (pa_cons (pe_bltn (v := .ty "str") (by rfl) T.m_str (by decide +kernel) rfl) pa_nil))))) (pss_one (ps_raiseO rfl rfl T.x_NotText rfl takesX (by rfl))) pss_nil)), fun S xs Pq PX hok hs => ?_⟩
  obtain ⟨d, rfl, h1, h2⟩ := hs
  try dsimp only [cxOf]
  try simp only [N_require_text, startR_c, startR_n, startR_z]
  refine runR_if ?_
  repeat' walk_at "tw"
  · rename_i h
    rw [Bool.not_eq_true'] at h
    exact runR_raise (h2 h)
  · rename_i h
    rw [Bool.not_eq_false'] at h
    exact runR_next (h1 h)
theorem way_join : ∀ v ∈ waysN, (v.T.map (·.length)).sum + v.T.length * (" " : Str).length ≤ 16777216 := by decide +kernel
abbrev sp_write_way (K : PySem.W.Frag) : Spec := fun S xs P => ∃ v : Way5, xs = [.d v.D] ∧ isW v ∧ P (.d (.str (wayT v)))
theorem ok_write_way (T : Txt K w mg a) (TB : Tabs base mg a) : FnOk P w K mg base CX0 3 a.f_write_way a.fd_write_way ["way"] (spD K (Ok K a) (sp_write_way K)) := by
  have G_require_way := ok_require_way (P := P) T TB
  refine def_ok T.F_write_way sc_write_way (fun S xs P h => ?_) (fun A outer s H E hr => ?_)
  · obtain ⟨v, e, _⟩ := h
    rw [e]
    rfl
  have hu := Room.units hr
  refine ⟨_, (pss_cons (ps_expr (pe_call G_require_way (hr.mono (by decide)) (by rfl) T.m_require_way T.kp_require_way T.b_require_way .nil pass0 (pa_cons (pv 0) pa_nil)))
      (pss_one (ps_ret (pe_join pe_str (pv 0))))), fun S xs Pq hok hs => ?_⟩
  obtain ⟨v, rfl, hv, hp⟩ := hs
  try dsimp only [cxOf]
  try simp only [N_write_way, startR_c, startR_n, startR_z]
  repeat' walk_at "tw"
  refine ⟨Nat.le_trans (tupS_depth _) (by decide), hv.way, ?_⟩
  repeat' walk_at "tw"
  exact ev_joinT (ev_str ⟨" ", rfl, ev_var rfl ⟨v.T, rfl, way_join v (isW_mem hv), hp⟩⟩)
abbrev sp_read_way (K : PySem.W.Frag) (a : Ad) : SpecX := fun S xs P PX => ∃ d, xs = [.d d] ∧ (isStrD d = false → PX (.ref a.k_NotText) none) ∧ ∀ z, d = .str z → z.length ≤ 1000 ∧ (isWay (tupS (Txt.split z " ")) = true → P (.d (tupS (Txt.split z " ")))) ∧ (isWay (tupS (Txt.split z " ")) = false → PX (.ref a.k_InvalidText) none)
theorem ok_read_way (T : Txt K w mg a) (TB : Tabs base mg a) : FnOk P w K mg base (L2.CX P w) 2 a.f_read_way a.fd_read_way ["text"] (spX K (Ok K a) (sp_read_way K a)) := by
  have G_require_text := ok_require_text (P := P) T TB
  have G_is_way := ok_is_way (P := P) T TB
  refine def_okX T.F_read_way sc_read_way (fun S xs P PX h => ?_) (fun A outer s H E hr => ?_)
  · obtain ⟨d, e, _⟩ := h
    rw [e]
    rfl
  have hu := Room.units hr
  refine ⟨_, (pss_cons (ps_expr (pe_call G_require_text (hr.mono (by decide)) (by rfl) T.m_require_text T.kp_require_text T.b_require_text .nil passX (pa_cons (pv 0) pa_nil)))
      (pss_cons (ps_set (i := 1) sc_read_way.nd rfl (.inl rfl) (pe_callTy (r := rTupOf K) call_tuple_of (by rfl) T.m_tuple (by decide +kernel) (pa_cons (pe_split (pv 0) pe_str) pa_nil)))
      (pss_cons (ps_if (pt_not (pt_val (pe_call G_is_way (hr.mono (by decide)) (by rfl) T.m_is_way T.kp_is_way T.b_is_way .nil pass0 (pa_cons (pv 1) pa_nil)))) (pss_one (ps_raiseO rfl rfl T.x_InvalidText rfl takesX (by rfl))) pss_nil)
      (pss_one (ps_ret (pv 1)))))), fun S xs Pq PX hok hs => ?_⟩
  obtain ⟨d, rfl, h1, h2⟩ := hs
  try dsimp only [cxOf]
  try simp only [N_read_way, startR_c, startR_n, startR_z]
  refine runR_seq (runR_drop (evR_call hok (ea_cons (ev_var rfl (ea_nil ⟨d, rfl, fun h => ?_, fun h => h1 h⟩)))))
  obtain ⟨z, rfl⟩ : ∃ z, d = .str z := by
    cases d <;> first | exact ⟨_, rfl⟩ | cases h
  obtain ⟨hz, hp, hx⟩ := h2 z rfl
  refine runR_seq (runR_asg (Ev.x (ev_cb (ea_cons (ev_split (ev_var rfl ⟨z, rfl, ev_str ⟨" ", rfl, by decide +kernel, Nat.le_trans (Nat.add_le_add_right hz 2) (by decide), ea_nil (ec_tupL ?_)⟩⟩))))))
  dsimp only [List.set]
  refine runR_seq (runR_if ?_)
  have hd : (tupS (Txt.split z " ")).depth ≤ 50 := Nat.le_trans (tupS_depth _) (by decide)
  repeat' walk_at "tw"
  · rename_i hb
    rw [Bool.not_eq_true'] at hb
    exact runR_raise (hx hb)
  · rename_i hb
    rw [Bool.not_eq_false'] at hb
    exact runR_next (runR_ret (Ev.x (ev_var rfl (hp hb))))
end
end Tw.K08
namespace Tw.K08
open PySem PySem.Spec PyProof.Rows L2
local macro_rules | `(tactic| walk_at "tw") => `(tactic| ((first
  | with_reducible refine run_seq ?_ | with_reducible refine run_ret ?_ | with_reducible refine run_asg ?_ | with_reducible refine run_if ?_ | with_reducible refine run_next ?_ | with_reducible refine run_drop ?_ | with_reducible refine run_asgG ?_ | with_reducible refine run_for ?_ | with_reducible refine run_par ?_
  | with_reducible refine et_not ?_ | with_reducible refine et_test ?_ | with_reducible refine et_B ?_ | with_reducible refine et_and ?_ | with_reducible refine et_or ?_ | with_reducible refine et_yes ?_
  | with_reducible refine ev_op ?_ | with_reducible refine ev_chain ?_ | with_reducible refine ev_andV ?_ | with_reducible refine ev_orV ?_ | with_reducible refine ev_notV ?_ | with_reducible refine ev_if ?_ | with_reducible refine ev_isN ?_ | with_reducible refine ev_neg ?_
  | with_reducible refine ev_var rfl ?_ | with_reducible refine ev_int ?_ | with_reducible refine ev_str ?_ | with_reducible refine ev_bl ?_ | with_reducible refine ev_non ?_
  | with_reducible refine ev_slT ?_ | with_reducible refine ev_slL ?_ | with_reducible refine eo_none ?_ | with_reducible refine eo_some ?_
  | with_reducible refine ev_tupU ?_ | with_reducible refine ev_lstU ?_ | with_reducible refine ea_nil ?_ | with_reducible refine ea_cons ?_
  | with_reducible refine ev_isiTL ?_ | with_reducible refine ev_call (by assumption) ?_ | with_reducible refine ev_cdat (Txt.d_WORDS (by assumption)) ?_ | with_reducible refine ev_cb ?_ | with_reducible refine ev_raw ?_
  | with_reducible refine ec_isi (isi_int _) ?_ | with_reducible refine ec_isi (isi_bool _) ?_ | with_reducible refine ec_isi (isi_tuple _) ?_ | with_reducible refine ec_isi (isi_list _) ?_ | with_reducible refine ec_isi (isi_str _) ?_
  | refine ec_lenL ?_ | refine ec_lenT ?_ | refine ec_int ?_ | refine ec_tupL ?_ | refine ec_tupT ?_ | refine ec_lstL ?_ | refine ec_lstT ?_
  | with_reducible refine e2_int ?_ | with_reducible refine e2_bl ?_ | with_reducible refine e2_isB ?_ | with_reducible refine e2_notB ?_
  | with_reducible refine e2_eqNil ?_ | with_reducible refine e2_neNil ?_ | with_reducible refine e2_inK2 ?_ | with_reducible refine e2_inR3 ?_ | with_reducible refine e2_eqK ?_ | with_reducible refine e2_neK ?_ | with_reducible refine e2_eqR ?_ | with_reducible refine e2_neR ?_
  | with_reducible refine e2_eqSb true (by decide +kernel) ?_ | with_reducible refine e2_eqSb false (by decide +kernel) ?_ | with_reducible refine e2_neSb true (by decide +kernel) ?_ | with_reducible refine e2_neSb false (by decide +kernel) ?_
  | with_reducible refine e2_inLb true (by decide +kernel) rfl ?_ | with_reducible refine e2_inLb false (by decide +kernel) rfl ?_
  | with_reducible refine e2_inST ?_ | with_reducible refine e2_inSL ?_ | with_reducible refine e2_ninST ?_ | with_reducible refine e2_ninSL ?_ | with_reducible refine e2_eqS ?_ | with_reducible refine e2_neS ?_
  | with_reducible refine e2_eq (by first | assumption | (simp only [depth_none, depth_int, depth_str, depth_bool]; omega) | omega) ?_ | with_reducible refine e2_ne (by first | assumption | (simp only [depth_none, depth_int, depth_str, depth_bool]; omega) | omega) ?_
  | with_reducible refine forW_cons ?_ | with_reducible refine forW_nil ?_ | with_reducible refine ei_tup ?_ | with_reducible refine ei_list ?_ | with_reducible refine ei_rng ?_
  | with_reducible refine eg_name ?_ | with_reducible refine eg_tup rfl ?_ | with_reducible refine eg_lst rfl ?_ | with_reducible refine egs_nil ?_ | with_reducible refine egs_cons ?_
  | with_reducible refine ⟨rfl, sz100 rfl, ?_⟩ | with_reducible refine ⟨_, rfl, ?_⟩ | with_reducible exact ⟨_, rfl⟩ | with_reducible refine ⟨_, _, rfl, ?_⟩ | with_reducible refine ⟨_, _, _, _, rfl, ?_⟩
  | ((with_reducible refine ⟨fun hb => ?_, fun hb => ?_⟩) <;> (try exact Bool.noConfusion (show true = false from hb)) <;> (try exact Bool.noConfusion (show false = true from hb)))
  | with_reducible refine And.intro (by assumption) ?_ | refine e2_ixT rfl ?_ | refine e2_ixL rfl ?_ | fail "stuck"); (try dsimp only [fin_rt, fin_nx, undata, List.set, List.isEmpty, Bool.not_true, Bool.not_false])))
section
variable {P : Program} {w : World} {K : PySem.W.Frag} {mg : Str → Option Value} {base : Heap} {a : Ad}
theorem app_len (a b : Str) : (a ++ b).length = a.length + b.length := by
  rw [TL.len_tl, TL.tl_append, List.length_append, ← TL.len_tl, ← TL.len_tl]
theorem tl_one {a b : Str} (h : TL.tl a = TL.tl b) : a = b := by
  have q := TL.map_tl_inj (l := [a]) (m := [b]) (by rw [List.map_cons, List.map_cons, h])
  injection q
theorem empty_app (a : Str) : Str.empty ++ a = a := tl_one (by rw [TL.tl_append]; rfl)
theorem log_small : ∀ i : Nat, i < 1000 → i.log2 < 1920 := by decide +kernel
def partP : PyData × PyData → Str
  | (.str z, .int i) => partT (z, i)
  | _ => ""
abbrev sp_pairs_text (K : PySem.W.Frag) : Spec := fun S xs P => ∃ es : List (Str × Int), xs = [.d (docD es)] ∧ docL es ∧ P (.d (.str (docT es)))
theorem ok_pairs_text (T : Txt K w mg a) (TB : Tabs base mg a) : FnOk P w K mg base CX0 1 a.f_pairs_text a.fd_pairs_text ["pairs"] (spD K (Ok K a) (sp_pairs_text K)) := by
  refine def_ok T.F_pairs_text sc_pairs_text (fun S xs P h => ?_) (fun A outer s H E hr => ?_)
  · obtain ⟨es, e, _⟩ := h
    rw [e]
    rfl
  have hu := Room.units hr
  refine ⟨_, (pss_one (ps_ret (pe_join pe_str (pe_lc (own := [("name", 1), ("integer", 2)]) (g := gPair K 1 2) (tt := tYes) (by rfl) sc_pairs_text.nd (pi_tupK (K := K) rfl (pv 0)) (blkOk_by (own := [("name", 1), ("integer", 2)]) (N := N_pairs_text) (sc := defScope s_pairs_text) (by decide +kernel)) (fun _ _ _ _ _ => pg_tup (by rfl) (pgs_cons (pg_name (i := 1) sc_pairs_text.nd rfl (.inl rfl)) (pgs_cons (pg_name (i := 2) sc_pairs_text.nd rfl (.inl rfl)) pgs_nil))) (fun _ _ _ _ _ => pts_nil) (fun _ _ _ _ _ => (pe_joined (PJ.cons (pe_fmt (pv 1)) (PJ.cons pe_str (PJ.cons (pe_fmt (pv 2)) PJ.nil))))))))), fun S xs Pq hok hs => ?_⟩
  obtain ⟨es, rfl, hl, hp⟩ := hs
  try dsimp only [cxOf]
  try simp only [N_pairs_text, startR_c, startR_n, startR_z]
  repeat' walk_at "tw"
  have h5 := doc_len hl
  refine ev_joinL (ev_str ⟨" ", rfl, ?_⟩)
  refine ev_lcP (by decide) (by decide) (ei_tup (ev_var rfl ⟨es.map itemD, rfl, es.map fun e => (PyData.str e.1, PyData.int e.2), (by rw [List.map_map]; rfl), by rw [List.length_map]; exact Nat.le_trans h5 (by decide), fun T' hT' => ?_⟩))
  dsimp only [wipeR, List.map, List.set]
  refine lcpW_step (f := fun _ => true) (g := fun p => .str (partP p)) _ [] (fun x hx PB p' => et_yes p') (fun x hx _ P' p' => ?_) ?_
  · obtain ⟨e, he, rfl⟩ := List.mem_map.mp hx
    dsimp only [List.set]
    obtain ⟨hn, i, hi, hi2⟩ := one_name hl he
    have g1 := (name_all e.1 hn).2.1
    have g2 := (num_all i hi2).2.2.1
    have g3 : ("=" : Str).length = 1 := rfl
    have g4 : Str.empty.length = 0 := rfl
    have g5 : sizeLine = 16777216 := rfl
    have p2 : P' (.d (.str (e.1 ++ "=" ++ Str.ofString (toString e.2)))) := p'
    rw [hi] at p2 ⊢
    refine ev_f (evJ_cons (ev_fmtS (ev_var rfl ⟨e.1, rfl, by omega, _, rfl, by rw [app_len]; omega, evJ_cons (ev_str ⟨_, rfl, by rw [app_len, app_len]; omega, evJ_cons (ev_fmtI (ev_var rfl ⟨(i : Int), rfl, log_small i hi2, _, rfl, by rw [app_len, app_len, app_len]; omega, evJ_nil ?_⟩))⟩)⟩)))
    rw [empty_app]
    exact p2
  · have e1 : ((es.map fun e => ((PyData.str e.1, PyData.int e.2) : PyData × PyData)).filter fun _ => true).map (fun p => PyData.str (partP p)) = sD (es.map partT) := by
      rw [List.filter_eq_self.mpr (fun _ _ => rfl), List.map_map, sD, List.map_map]
      rfl
    rw [List.nil_append, e1]
    have h6 := doc_sum hl
    have h7 : (" " : Str).length = 1 := rfl
    refine ⟨es.map partT, rfl, ?_, hp⟩
    rw [h7, List.length_map]
    omega
abbrev sp_write_document (K : PySem.W.Frag) : Spec := fun S xs P => ∃ es : List (Str × Int), xs = [.d (docD es)] ∧ docL es ∧ P (.d (.str (docT es)))
theorem ok_write_document (T : Txt K w mg a) (TB : Tabs base mg a) : FnOk P w K mg base CX0 5 a.f_write_document a.fd_write_document ["document"] (spD K (Ok K a) (sp_write_document K)) := by
  have G_require_document := ok_require_document (P := P) T TB
  have G_pairs_text := ok_pairs_text (P := P) T TB
  refine def_ok T.F_write_document sc_write_document (fun S xs P h => ?_) (fun A outer s H E hr => ?_)
  · obtain ⟨es, e, _⟩ := h
    rw [e]
    rfl
  have hu := Room.units hr
  refine ⟨_, (pss_cons (ps_expr (pe_call G_require_document (hr.mono (by decide)) (by rfl) T.m_require_document T.kp_require_document T.b_require_document .nil pass0 (pa_cons (pv 0) pa_nil)))
      (pss_one (ps_ret (pe_call G_pairs_text (hr.mono (by decide)) (by rfl) T.m_pairs_text T.kp_pairs_text T.b_pairs_text .nil pass0 (pa_cons (pv 0) pa_nil))))), fun S xs Pq hok hs => ?_⟩
  obtain ⟨es, rfl, hl, hp⟩ := hs
  try dsimp only [cxOf]
  try simp only [N_write_document, startR_c, startR_n, startR_z]
  repeat' walk_at "tw"
  refine ⟨es.map fun e => (e.1, some e.2), by rw [List.map_map]; rfl, by rw [List.length_map]; exact Nat.le_trans (doc_len hl) (by decide), fun p hpm => ?_, doc_good hl, ?_⟩
  · obtain ⟨e, he, rfl⟩ := List.mem_map.mp hpm
    exact Nat.le_trans (name_all e.1 (one_name hl he).1).2.1 (by decide)
  · repeat' walk_at "tw"
    exact hp
abbrev sp_read_integer (K : PySem.W.Frag) : Spec := fun S xs P => ∃ z : Str, xs = [.d (.str z)] ∧ z.length ≤ 1000 ∧ okI z = true ∧ P (.d (numD (numI z)))
theorem ok_read_integer (T : Txt K w mg a) (TB : Tabs base mg a) : FnOk P w K mg base CX0 1 a.f_read_integer a.fd_read_integer ["text"] (spD K (Ok K a) (sp_read_integer K)) := by
  obtain ⟨t_DIGITS, h_DIGITS⟩ := T.m_DIGITS
  obtain ⟨t_GREATEST_INTEGER, h_GREATEST_INTEGER⟩ := T.m_GREATEST_INTEGER
  refine def_ok T.F_read_integer sc_read_integer (fun S xs P h => ?_) (fun A outer s H E hr => ?_)
  · obtain ⟨z, e, _⟩ := h
    rw [e]
    rfl
  have hu := Room.units hr
  refine ⟨_, (pss_cons (ps_if (PW.pt (pw_or (pt_not (pt_chain (op_le) (op_le) pe_int (pe_callB (r := rLenS) call_lenS (by rfl) T.m_len PySem.boot_len (pa_cons (pv 0) pa_nil)) (pe_callB (r := rLenS) call_lenS (by rfl) T.m_len PySem.boot_len (pa_cons (pe_callTy (r := rStrI) call_str_int (by rfl) T.m_str (by decide +kernel) (pa_cons (pe_glob (v := .int 999) (by rfl) h_GREATEST_INTEGER ⟨t_GREATEST_INTEGER, rfl⟩) pa_nil)) pa_nil)))) (pw_or1 (pt_not (pt_val (pe_allS hr (by rfl) T.m_all TB.t_read_integer T.cw_read_integer ⟨rfl, rfl, by decide +kernel, rfl, rfl, free_no (by decide +kernel)⟩ (pv 0) rfl h_DIGITS (fun _ => rfl))))))) (pss_one (ps_ret pe_non)) pss_nil)
      (pss_cons (ps_set (i := 1) sc_read_integer.nd rfl (.inl rfl) (pe_callTy (r := rIntS) call_int_str (by rfl) T.m_int (by decide +kernel) (pa_cons (pv 0) pa_nil)))
      (pss_one (ps_ret (pe_ifExp (pt_cmpR (r := rEqP K) (op_eqP hu) (pe_callTy (r := rStrI) call_str_int (by rfl) T.m_str (by decide +kernel) (pa_cons (pv 1) pa_nil)) (pv 0) (nomark _)) (pv 1) pe_non))))), fun S xs Pq hok hs => ?_⟩
  obtain ⟨z, rfl, hz, hk, hp⟩ := hs
  try dsimp only [cxOf]
  try simp only [N_read_integer, startR_c, startR_n, startR_z]
  repeat' walk_at "tw"
  have e0 : numC z = (decide ((1 : Int) ≤ (z.length : Nat)) && decide (((z.length : Nat) : Int) ≤ ((Str.ofString (toString (999 : Int))).length : Nat)) && allIn "0123456789" z) := by
    have s9 : (Str.ofString (toString (999 : Int))).length = 3 := by decide +kernel
    rw [s9]
    unfold numC
    have e1 : decide (1 ≤ z.length) = decide ((1 : Int) ≤ (z.length : Nat)) := by rw [decide_eq_decide]; omega
    have e2 : decide (z.length ≤ 3) = decide (((z.length : Nat) : Int) ≤ (3 : Nat)) := by rw [decide_eq_decide]; omega
    rw [e1, e2]
  have no : numC z = false → Pq (.d .none) := fun e => by
    unfold numI at hp
    rw [e] at hp
    exact hp
  rw [e0] at no
  refine ec_lenS (Nat.le_trans hz (by decide)) (e2_bl ⟨_, rfl, fun h1 => ?_, fun h1 => ⟨_, rfl, fun _ => ⟨fun _ => ?_, fun h => nomatch h⟩, fun h => nomatch h⟩⟩)
  · refine ev_cb (ea_cons (ev_cb (ea_cons (ev_int (ea_nil (ec_strI (by decide) (ea_nil (ec_lenS (by decide +kernel) (e2_bl ⟨_, rfl, fun h2 => ⟨fun _ => ?_, fun h => nomatch h⟩, fun h2 => ?_⟩)))))))))
    · rw [Bool.not_eq_true'] at h2
      rw [h1, h2] at no
      repeat' walk_at "tw"
      exact no rfl
    · rw [Bool.not_eq_false'] at h2
      rw [h1, h2] at no e0
      repeat' walk_at "tw"
      refine ev_allS hok.o_read_integer (ev_var rfl ⟨z, rfl, _, rfl, fun h3 => ?_, fun h3 => ?_⟩)
      · rw [Bool.not_eq_true'] at h3
        rw [h3] at no
        repeat' walk_at "tw"
        exact no rfl
      · rw [Bool.not_eq_false'] at h3
        rw [h3] at e0
        have e0 : numC z = true := e0
        have hl3 : z.length ≤ 3 := by
          unfold numC at e0
          simp only [Bool.and_eq_true, decide_eq_true_eq] at e0
          exact e0.1.2
        unfold okI at hk
        unfold numI at hp
        rw [e0] at hk hp
        cases hn : PySem.intText? z with
        | none => rw [hn] at hk; cases hk
        | some n =>
          rw [hn] at hk hp
          have hlog : n.natAbs.log2 < 1920 := of_decide_eq_true hk
          dsimp only at hp
          repeat' walk_at "tw"
          refine ec_intS hn (Nat.le_trans hl3 (by decide)) ?_
          repeat' walk_at "tw"
          rw [if_pos rfl] at hp
          refine ec_strI hlog (ev_var rfl (e2_eqS ⟨_, rfl, fun hb => ev_var rfl ?_, fun hb => ev_non ?_⟩))
          · rw [if_pos (of_decide_eq_true hb)] at hp
            exact hp
          · rw [if_neg (of_decide_eq_false hb)] at hp
            exact hp
  · rw [h1] at no
    repeat' walk_at "tw"
    exact no rfl
abbrev sp_read_pair (K : PySem.W.Frag) : Spec := fun S xs P => ∃ z : Str, xs = [.d (.str z)] ∧ partOk z = true ∧ P (.d (prD (pairOf z)))
theorem ok_read_pair (T : Txt K w mg a) (TB : Tabs base mg a) : FnOk P w K mg base CX0 2 a.f_read_pair a.fd_read_pair ["text"] (spD K (Ok K a) (sp_read_pair K)) := by
  have G_read_integer := ok_read_integer (P := P) T TB
  refine def_ok T.F_read_pair sc_read_pair (fun S xs P h => ?_) (fun A outer s H E hr => ?_)
  · obtain ⟨z, e, _⟩ := h
    rw [e]
    rfl
  have hu := Room.units hr
  refine ⟨_, (pss_cons (ps_asg (pe_partition (pv 0) pe_str) (pg_tup (by rfl) (pgs_cons (pg_name (i := 1) sc_read_pair.nd rfl (.inl rfl)) (pgs_cons (pg_name (i := 2) sc_read_pair.nd rfl (.inl rfl)) (pgs_cons (pg_name (i := 3) sc_read_pair.nd rfl (.inl rfl)) pgs_nil)))))
      (pss_one (ps_ret (pe_tup (pa_cons (pv 1) (pa_cons (pe_call G_read_integer (hr.mono (by decide)) (by rfl) T.m_read_integer T.kp_read_integer T.b_read_integer .nil pass0 (pa_cons (pv 3) pa_nil)) pa_nil)))))), fun S xs Pq hok hs => ?_⟩
  obtain ⟨z, rfl, hk, hp⟩ := hs
  try dsimp only [cxOf]
  try simp only [N_read_pair, startR_c, startR_n, startR_z]
  repeat' walk_at "tw"
  unfold partOk at hk
  simp only [Bool.and_eq_true, decide_eq_true_eq] at hk
  obtain ⟨⟨⟨k1, k2⟩, k3⟩, k4⟩ := hk
  refine ev_part (ev_var rfl ⟨z, rfl, ev_str ⟨"=", rfl, by decide +kernel, Nat.le_trans k1 (by decide), ?_⟩⟩)
  repeat' walk_at "tw"
  dsimp only [sD, List.map]
  repeat' walk_at "tw"
  exact hp
end
end Tw.K08
namespace Tw.K08
open PySem PySem.Spec PyProof.Rows L2
local macro_rules | `(tactic| walk_at "tw") => `(tactic| ((first
  | with_reducible refine run_seq ?_ | with_reducible refine run_ret ?_ | with_reducible refine run_asg ?_ | with_reducible refine run_if ?_ | with_reducible refine run_next ?_ | with_reducible refine run_drop ?_ | with_reducible refine run_asgG ?_ | with_reducible refine run_for ?_ | with_reducible refine run_par ?_
  | with_reducible refine et_not ?_ | with_reducible refine et_test ?_ | with_reducible refine et_B ?_ | with_reducible refine et_and ?_ | with_reducible refine et_or ?_ | with_reducible refine et_yes ?_
  | with_reducible refine ev_op ?_ | with_reducible refine ev_chain ?_ | with_reducible refine ev_andV ?_ | with_reducible refine ev_orV ?_ | with_reducible refine ev_notV ?_ | with_reducible refine ev_if ?_ | with_reducible refine ev_isN ?_ | with_reducible refine ev_neg ?_
  | with_reducible refine ev_var rfl ?_ | with_reducible refine ev_int ?_ | with_reducible refine ev_str ?_ | with_reducible refine ev_bl ?_ | with_reducible refine ev_non ?_
  | with_reducible refine ev_slT ?_ | with_reducible refine ev_slL ?_ | with_reducible refine eo_none ?_ | with_reducible refine eo_some ?_
  | with_reducible refine ev_tupU ?_ | with_reducible refine ev_lstU ?_ | with_reducible refine ea_nil ?_ | with_reducible refine ea_cons ?_
  | with_reducible refine ev_isiTL ?_ | with_reducible refine ev_call (by assumption) ?_ | with_reducible refine ev_cdat (Txt.d_WORDS (by assumption)) ?_ | with_reducible refine ev_cb ?_ | with_reducible refine ev_raw ?_
  | with_reducible refine ec_isi (isi_int _) ?_ | with_reducible refine ec_isi (isi_bool _) ?_ | with_reducible refine ec_isi (isi_tuple _) ?_ | with_reducible refine ec_isi (isi_list _) ?_ | with_reducible refine ec_isi (isi_str _) ?_
  | refine ec_lenL ?_ | refine ec_lenT ?_ | refine ec_int ?_ | refine ec_tupL ?_ | refine ec_tupT ?_ | refine ec_lstL ?_ | refine ec_lstT ?_
  | with_reducible refine e2_int ?_ | with_reducible refine e2_bl ?_ | with_reducible refine e2_isB ?_ | with_reducible refine e2_notB ?_
  | with_reducible refine e2_eqNil ?_ | with_reducible refine e2_neNil ?_ | with_reducible refine e2_inK2 ?_ | with_reducible refine e2_inR3 ?_ | with_reducible refine e2_eqK ?_ | with_reducible refine e2_neK ?_ | with_reducible refine e2_eqR ?_ | with_reducible refine e2_neR ?_
  | with_reducible refine e2_eqSb true (by decide +kernel) ?_ | with_reducible refine e2_eqSb false (by decide +kernel) ?_ | with_reducible refine e2_neSb true (by decide +kernel) ?_ | with_reducible refine e2_neSb false (by decide +kernel) ?_
  | with_reducible refine e2_inLb true (by decide +kernel) rfl ?_ | with_reducible refine e2_inLb false (by decide +kernel) rfl ?_
  | with_reducible refine e2_inST ?_ | with_reducible refine e2_inSL ?_ | with_reducible refine e2_ninST ?_ | with_reducible refine e2_ninSL ?_ | with_reducible refine e2_eqS ?_ | with_reducible refine e2_neS ?_
  | with_reducible refine e2_eq (by first | assumption | (simp only [depth_none, depth_int, depth_str, depth_bool]; omega) | omega) ?_ | with_reducible refine e2_ne (by first | assumption | (simp only [depth_none, depth_int, depth_str, depth_bool]; omega) | omega) ?_
  | with_reducible refine forW_cons ?_ | with_reducible refine forW_nil ?_ | with_reducible refine ei_tup ?_ | with_reducible refine ei_list ?_ | with_reducible refine ei_rng ?_
  | with_reducible refine eg_name ?_ | with_reducible refine eg_tup rfl ?_ | with_reducible refine eg_lst rfl ?_ | with_reducible refine egs_nil ?_ | with_reducible refine egs_cons ?_
  | with_reducible refine ⟨rfl, sz100 rfl, ?_⟩ | with_reducible refine ⟨_, rfl, ?_⟩ | with_reducible exact ⟨_, rfl⟩ | with_reducible refine ⟨_, _, rfl, ?_⟩ | with_reducible refine ⟨_, _, _, _, rfl, ?_⟩
  | ((with_reducible refine ⟨fun hb => ?_, fun hb => ?_⟩) <;> (try exact Bool.noConfusion (show true = false from hb)) <;> (try exact Bool.noConfusion (show false = true from hb)))
  | with_reducible refine And.intro (by assumption) ?_ | refine e2_ixT rfl ?_ | refine e2_ixL rfl ?_ | fail "stuck"); (try dsimp only [fin_rt, fin_nx, undata, List.set, List.isEmpty, Bool.not_true, Bool.not_false])))
section
variable {P : Program} {w : World} {K : PySem.W.Frag} {mg : Str → Option Value} {base : Heap} {a : Ad}
abbrev sp_read_document (K : PySem.W.Frag) (a : Ad) : SpecX := fun S xs P PX => ∃ d, xs = [.d d] ∧ (isStrD d = false → PX (.ref a.k_NotText) none) ∧ ∀ z, d = .str z → textOk z = true ∧ (docOk z = true → P (.d (.tuple ((partsT z).map fun t => prD (pairOf t))))) ∧ (docOk z = false → PX (.ref a.k_InvalidText) none)
theorem ok_read_document (T : Txt K w mg a) (TB : Tabs base mg a) : FnOk P w K mg base (L2.CX P w) 5 a.f_read_document a.fd_read_document ["text"] (spX K (Ok K a) (sp_read_document K a)) := by
  have G_require_text := ok_require_text (P := P) T TB
  have G_is_document := ok_is_document (P := P) T TB
  have G_read_pair := ok_read_pair (P := P) T TB
  refine def_okX T.F_read_document sc_read_document (fun S xs P PX h => ?_) (fun A outer s H E hr => ?_)
  · obtain ⟨d, e, _⟩ := h
    rw [e]
    rfl
  have hu := Room.units hr
  refine ⟨_, (pss_cons (ps_expr (pe_call G_require_text (hr.mono (by decide)) (by rfl) T.m_require_text T.kp_require_text T.b_require_text .nil passX (pa_cons (pv 0) pa_nil)))
      (pss_cons (ps_set (i := 1) sc_read_document.nd rfl (.inl rfl) (pe_ifExp (pt_truS (pv 0)) (pe_split (pv 0) pe_str) (pe_lst pa_nil)))
      (pss_cons (ps_set (i := 2) sc_read_document.nd rfl (.inl rfl) (pe_callTy (r := rTupOf K) call_tuple_of (by rfl) T.m_tuple (by decide +kernel) (pa_cons (pe_lc (own := [("part", 3)]) (g := gName 3) (tt := tYes) (by rfl) sc_read_document.nd (pi_listK (K := K) rfl (pv 1)) (blkOk_by (own := [("part", 3)]) (N := N_read_document) (sc := defScope s_read_document) (by decide +kernel)) (fun _ _ _ _ _ => (pg_name (i := 3) sc_read_document.nd rfl (.inl rfl))) (fun _ _ _ _ _ => pts_nil) (fun _ _ _ _ _ => (pe_call G_read_pair (hr.mono (by decide)) (by rfl) T.m_read_pair T.kp_read_pair T.b_read_pair .nil pass0 (pa_cons (pv 3) pa_nil)))) pa_nil)))
      (pss_cons (ps_if (pt_not (pt_val (pe_call G_is_document (hr.mono (by decide)) (by rfl) T.m_is_document T.kp_is_document T.b_is_document .nil pass0 (pa_cons (pv 2) pa_nil)))) (pss_one (ps_raiseO rfl rfl T.x_InvalidText rfl takesX (by rfl))) pss_nil)
      (pss_one (ps_ret (pv 2))))))), fun S xs Pq PX hok hs => ?_⟩
  obtain ⟨d, rfl, h1, h2⟩ := hs
  try dsimp only [cxOf]
  try simp only [N_read_document, startR_c, startR_n, startR_z]
  refine runR_seq (runR_drop (evR_call hok (ea_cons (ev_var rfl (ea_nil ⟨d, rfl, fun h => ?_, fun h => h1 h⟩)))))
  obtain ⟨z, rfl⟩ : ∃ z, d = .str z := by
    cases d <;> first | exact ⟨_, rfl⟩ | cases h
  obtain ⟨hz, hp, hx⟩ := h2 z rfl
  unfold textOk at hz
  simp only [Bool.and_eq_true, decide_eq_true_eq, List.all_eq_true] at hz
  obtain ⟨⟨k1, k2⟩, k3⟩ := hz
  have hm : ∀ t ∈ partsT z, (pairOf t).1.length ≤ 1000 := fun t ht => by
    have q := k3 t ht
    unfold partOk at q
    simp only [Bool.and_eq_true, decide_eq_true_eq] at q
    exact q.1.1.2
  refine runR_seq (runR_asg (Ev.x ((ev_if (P := fun x => x = DV.d (lstS (partsT z))) (et_truS (ev_var rfl ⟨z, rfl, Nat.le_trans k1 (by decide), fun hb => ?_, fun hb => ?_⟩))).imp fun x e => ?_)))
  · refine ev_split (ev_var rfl ⟨z, rfl, ev_str ⟨" ", rfl, by decide +kernel, Nat.le_trans (Nat.add_le_add_right k1 2) (by decide), ?_⟩⟩)
    unfold partsT
    rw [if_pos hb]
  · have e0 : partsT z = [] := by
      unfold partsT
      rw [if_neg (by rw [hb]; exact Bool.false_ne_true)]
    rw [e0]
    repeat' walk_at "tw"
    try exact rfl
  · subst e
    try dsimp only [List.set]
    refine runR_seq (runR_asg (Ev.x (ev_cb (ea_cons (ev_lc (by decide) (ei_list (ev_var rfl ⟨sD (partsT z), rfl, by rw [List.length_map]; exact Nat.le_trans k2 (by decide), fun T' hT' => ?_⟩)))))))
    have hokT' := hok.le hT'
    dsimp only [wipeR, List.map, List.set]
    refine lcW_mapM (g := PyData.str) (f := fun t => prD (pairOf t)) (partsT z) [] (fun t ht P' p' => ?_) ?_
    · try dsimp only [List.set]
      exact ev_call hokT' (ea_cons (ev_var rfl (ea_nil ⟨t, rfl, k3 t ht, p'⟩)))
    · rw [List.nil_append]
      refine ea_nil (ec_tupL ?_)
      try dsimp only [List.set]
      refine runR_seq (runR_if (et_not (et_B (ev_call hok (ea_cons (ev_var rfl (ea_nil ⟨(partsT z).map pairOf, by rw [List.map_map]; rfl, by rw [List.length_map]; exact k2, fun p hpm => ?_, _, rfl, fun hb => ?_, fun hb => ?_⟩)))))))
      · obtain ⟨t, ht, rfl⟩ := List.mem_map.mp hpm
        exact hm t ht
      · rw [Bool.not_eq_true', List.length_map] at hb
        exact runR_raise (hx hb)
      · rw [Bool.not_eq_false', List.length_map] at hb
        exact runR_next (runR_ret (Ev.x (ev_var rfl (hp hb))))
end
end Tw.K08
namespace Tw.K08
open PySem PySem.Spec PyProof.Rows L2
local macro_rules | `(tactic| walk_at "tw") => `(tactic| ((first
  | with_reducible refine run_seq ?_ | with_reducible refine run_ret ?_ | with_reducible refine run_asg ?_ | with_reducible refine run_if ?_ | with_reducible refine run_next ?_ | with_reducible refine run_drop ?_ | with_reducible refine run_asgG ?_ | with_reducible refine run_for ?_ | with_reducible refine run_par ?_
  | with_reducible refine et_not ?_ | with_reducible refine et_test ?_ | with_reducible refine et_B ?_ | with_reducible refine et_and ?_ | with_reducible refine et_or ?_ | with_reducible refine et_yes ?_
  | with_reducible refine ev_op ?_ | with_reducible refine ev_chain ?_ | with_reducible refine ev_andV ?_ | with_reducible refine ev_orV ?_ | with_reducible refine ev_notV ?_ | with_reducible refine ev_if ?_ | with_reducible refine ev_isN ?_ | with_reducible refine ev_neg ?_
  | with_reducible refine ev_var rfl ?_ | with_reducible refine ev_int ?_ | with_reducible refine ev_str ?_ | with_reducible refine ev_bl ?_ | with_reducible refine ev_non ?_
  | with_reducible refine ev_slT ?_ | with_reducible refine ev_slL ?_ | with_reducible refine eo_none ?_ | with_reducible refine eo_some ?_
  | with_reducible refine ev_tupU ?_ | with_reducible refine ev_lstU ?_ | with_reducible refine ea_nil ?_ | with_reducible refine ea_cons ?_
  | with_reducible refine ev_isiTL ?_ | with_reducible refine ev_call (by assumption) ?_ | with_reducible refine ev_cdat (Txt.d_WORDS (by assumption)) ?_ | with_reducible refine ev_cb ?_ | with_reducible refine ev_raw ?_
  | with_reducible refine ec_isi (isi_int _) ?_ | with_reducible refine ec_isi (isi_bool _) ?_ | with_reducible refine ec_isi (isi_tuple _) ?_ | with_reducible refine ec_isi (isi_list _) ?_ | with_reducible refine ec_isi (isi_str _) ?_
  | refine ec_lenL ?_ | refine ec_lenT ?_ | refine ec_int ?_ | refine ec_tupL ?_ | refine ec_tupT ?_ | refine ec_lstL ?_ | refine ec_lstT ?_
  | with_reducible refine e2_int ?_ | with_reducible refine e2_bl ?_ | with_reducible refine e2_isB ?_ | with_reducible refine e2_notB ?_
  | with_reducible refine e2_eqNil ?_ | with_reducible refine e2_neNil ?_ | with_reducible refine e2_inK2 ?_ | with_reducible refine e2_inR3 ?_ | with_reducible refine e2_eqK ?_ | with_reducible refine e2_neK ?_ | with_reducible refine e2_eqR ?_ | with_reducible refine e2_neR ?_
  | with_reducible refine e2_eqSb true (by decide +kernel) ?_ | with_reducible refine e2_eqSb false (by decide +kernel) ?_ | with_reducible refine e2_neSb true (by decide +kernel) ?_ | with_reducible refine e2_neSb false (by decide +kernel) ?_
  | with_reducible refine e2_inLb true (by decide +kernel) rfl ?_ | with_reducible refine e2_inLb false (by decide +kernel) rfl ?_
  | with_reducible refine e2_inST ?_ | with_reducible refine e2_inSL ?_ | with_reducible refine e2_ninST ?_ | with_reducible refine e2_ninSL ?_ | with_reducible refine e2_eqS ?_ | with_reducible refine e2_neS ?_
  | with_reducible refine e2_eq (by first | assumption | (simp only [depth_none, depth_int, depth_str, depth_bool]; omega) | omega) ?_ | with_reducible refine e2_ne (by first | assumption | (simp only [depth_none, depth_int, depth_str, depth_bool]; omega) | omega) ?_
  | with_reducible refine forW_cons ?_ | with_reducible refine forW_nil ?_ | with_reducible refine ei_tup ?_ | with_reducible refine ei_list ?_ | with_reducible refine ei_rng ?_
  | with_reducible refine eg_name ?_ | with_reducible refine eg_tup rfl ?_ | with_reducible refine eg_lst rfl ?_ | with_reducible refine egs_nil ?_ | with_reducible refine egs_cons ?_
  | with_reducible refine ⟨rfl, sz100 rfl, ?_⟩ | with_reducible refine ⟨_, rfl, ?_⟩ | with_reducible exact ⟨_, rfl⟩ | with_reducible refine ⟨_, _, rfl, ?_⟩ | with_reducible refine ⟨_, _, _, _, rfl, ?_⟩
  | ((with_reducible refine ⟨fun hb => ?_, fun hb => ?_⟩) <;> (try exact Bool.noConfusion (show true = false from hb)) <;> (try exact Bool.noConfusion (show false = true from hb)))
  | with_reducible refine And.intro (by assumption) ?_ | refine e2_ixT rfl ?_ | refine e2_ixL rfl ?_ | fail "stuck"); (try dsimp only [fin_rt, fin_nx, undata, List.set, List.isEmpty, Bool.not_true, Bool.not_false])))
section
variable {P : Program} {w : World} {K : PySem.W.Frag} {mg : Str → Option Value} {base : Heap} {a : Ad}
abbrev sp__law_taken (K : PySem.W.Frag) : Spec := fun S xs P => ∃ (r : Addr) (m : Int), xs = [.v (.ref r), .d (.int m)] ∧ RowS K S r ∧ 0 < m ∧ m ≤ 1000000 ∧ ∀ k : Int, 0 ≤ k → k < m → P (.d (.int k))
theorem ok__law_taken (T : Txt K w mg a) (TB : Tabs base mg a) : FnOk P w K mg base CX0 1 a.f__law_taken a.fd__law_taken ["row", "many"] (spD K (Ok K a) (sp__law_taken K)) := by
  refine def_ok T.F__law_taken sc__law_taken (fun S xs P h => ?_) (fun A outer s H E hr => ?_)
  · obtain ⟨r, m, e, _⟩ := h
    rw [e]
    rfl
  have hu := Room.units hr
  refine ⟨_, (pss_cons (ps_if (pt_cmpR (op_gt) (pe_ix (r := rIxL K) ix_list (pv 0) pe_int (fun _ _ => rfl)) pe_int (nomark _)) (pss_cons (ps_set (i := 2) sc__law_taken.nd rfl (.inl rfl) (pe_op op_mod (pe_callTy (r := rInt1) call_int1 (by rfl) T.m_int (by decide +kernel) (pa_cons (pe_ix (r := rIxL K) ix_list (pv 0) pe_int (fun _ _ => rfl)) pa_nil)) (pv 1)))
      (pss_cons (ps_asg (pe_op op_fdivW (pe_ix (r := rIxL K) ix_list (pv 0) pe_int (fun _ _ => rfl)) (pv 1)) (pg_sub (pv 0) pe_int set_list))
      (pss_one (ps_ret (pv 2))))) pss_nil)
      (pss_cons (ps_asg (pe_op op_add (pe_ix (r := rIxL K) ix_list (pv 0) pe_int (fun _ _ => rfl)) pe_int) (pg_sub (pv 0) pe_int set_list))
      (pss_cons (ps_if (pt_cmpR (op_gt) (pe_ix (r := rIxL K) ix_list (pv 0) pe_int (fun _ _ => rfl)) (pe_callB (r := rLen K) call_len_seq (by rfl) T.m_len PySem.boot_len (pa_cons (pe_ix (r := rIxL K) ix_list (pv 0) pe_int (fun _ _ => rfl)) pa_nil)) (nomark _)) (pss_cons (ps_asg (pe_op op_mod (pe_callTy (r := rInt1) call_int1 (by rfl) T.m_int (by decide +kernel) (pa_cons (pe_op op_add (pe_op op_mul (pe_ix (r := rIxL K) ix_list (pv 0) pe_int (fun _ _ => rfl)) pe_int) pe_int) pa_nil)) pe_int) (pg_sub (pv 0) pe_int set_list))
      (pss_one (ps_ret (pe_op op_mod (pe_callTy (r := rInt1) call_int1 (by rfl) T.m_int (by decide +kernel) (pa_cons (pe_op op_fdivW (pe_ix (r := rIxL K) ix_list (pv 0) pe_int (fun _ _ => rfl)) pe_int) pa_nil)) (pv 1))))) pss_nil)
      (pss_cons (ps_set (i := 3) sc__law_taken.nd rfl (.inl rfl) (pe_ix (r := rIxL K) ix_list (pe_ix (r := rIxL K) ix_list (pv 0) pe_int (fun _ _ => rfl)) (pe_op op_sub (pe_ix (r := rIxL K) ix_list (pv 0) pe_int (fun _ _ => rfl)) pe_int) (fun _ _ => rfl)))
      (pss_cons (ps_asg (pe_op op_mod (pe_callTy (r := rInt1) call_int1 (by rfl) T.m_int (by decide +kernel) (pa_cons (pe_op op_add (pe_op op_add (pe_op op_mul (pe_ix (r := rIxL K) ix_list (pv 0) pe_int (fun _ _ => rfl)) pe_int) (pv 3)) pe_int) pa_nil)) pe_int) (pg_sub (pv 0) pe_int set_list))
      (pss_cons (ps_if (pt_cmpR (op_ge) (pv 3) (pe_op op_pow pe_int pe_int) (nomark _)) (pss_one (ps_asg (pe_op op_fdivW (pv 3) (pv 1)) (pg_sub (pv 0) pe_int set_list))) pss_nil)
      (pss_one (ps_ret (pe_op op_mod (pe_callTy (r := rInt1) call_int1 (by rfl) T.m_int (by decide +kernel) (pa_cons (pv 3) pa_nil)) (pv 1)))))))))), fun S xs Pq hok hs => ?_⟩
  obtain ⟨r, m, rfl, hS, hm, hm2, hp⟩ := hs
  try dsimp only [cxOf]
  try simp only [N__law_taken, startR_c, startR_n, startR_z]
  obtain ⟨sc, ns, hn, hrow, hput⟩ := hS.row
  intro σ H0 hi he D q1 q2 q3 q4
  obtain ⟨s2, s3, rfl⟩ := slots4 he
  obtain ⟨hsc, ra, rb, rc, h0, ha, hb, hb2, hc⟩ := hrow H0 hi
  have hdiv : ∀ z : Int, CDivW z m := fun z => wide_div (b := 64) hm (by have := hm2; omega) (by decide) (by decide)
  have fin_ : ∀ (k : Int) (H2 : Hp), S.To H0 H2 → 0 ≤ k → k < m → D.rt (.int k) H2 := fun k H2 t k0 k1 => q2 (.d (.int k)) _ H2 t (show Dp _ _ _ _ from .int k) (hp k k0 k1)
  refine ⟨_, rfl, r, _, 3, .int rc, rfl, rfl, .inl (.inl h0), rfl, rc, 0, rfl, rfl, _, rfl, ite2 (fun g => ?_) (fun g => ?_)⟩
  · -- the rest of a cell
    refine ⟨_, rfl, r, _, 3, .int rc, rfl, rfl, .inl (.inl h0), rfl, .inl ⟨rc, rfl, _, rfl, rc, m, rfl, rfl, hm, ?_⟩⟩
    refine ⟨_, rfl, r, _, 3, .int rc, rfl, rfl, .inl (.inl h0), rfl, _, rfl, rc, m, rfl, rfl, hdiv rc, _, rfl, r, _, 3, 3, rfl, rfl, h0, rfl, ?_⟩
    have t1 : S.To H0 (upd H0 r (.lst [.ref sc, .int ra, .int rb, .int (rc / m)])) := hS.to hput hi ha hb hb2 (Int.ediv_nonneg hc (by omega))
    exact ⟨_, rfl, fin_ (rc % m) _ t1 (Int.emod_nonneg rc (by omega)) (Int.emod_lt_of_pos rc hm)⟩
  · -- row[1] = row[1] + 1
    refine ⟨_, rfl, r, _, 1, .int ra, rfl, rfl, .inl (.inl h0), rfl, ra, 1, rfl, rfl, _, rfl, r, _, 1, 1, rfl, rfl, h0, rfl, ?_⟩
    have t1 : S.To H0 (upd H0 r (.lst [.ref sc, .int (ra + 1), .int rb, .int rc])) := hS.to hput hi (by omega) hb hb2 hc
    obtain ⟨hsc1, _⟩ := hrow _ t1.inv
    have h1 : (upd H0 r (.lst [.ref sc, .int (ra + 1), .int rb, .int rc])) r = some (.lst [.ref sc, .int (ra + 1), .int rb, .int rc]) := upd_same
    show tSeq _ _ D [some (.ref r), some (.int m), s2, s3] (upd H0 r (.lst [.ref sc, .int (ra + 1), .int rb, .int rc]))
    generalize (upd H0 r (.lst [.ref sc, .int (ra + 1), .int rb, .int rc])) = H1 at t1 hsc1 h1 ⊢
    -- row[1] > len(row[0])
    refine ⟨_, rfl, r, _, 1, .int (ra + 1), rfl, rfl, .inl (.inl h1), rfl, _, rfl, r, _, 0, .ref sc, rfl, rfl, .inl (.inl h1), rfl, sc, _, rfl, .inl hsc1, ra + 1, _, rfl, rfl, _, rfl, ite2 (fun g1 => ?_) (fun g1 => ?_)⟩
    · refine ⟨_, rfl, r, _, 2, .int rb, rfl, rfl, .inl (.inl h1), rfl, rb, 48271, rfl, rfl, .inr ⟨by decide, by decide⟩, _, 11, rfl, rfl, .inl ⟨_, rfl, _, 2147483647, rfl, rfl, (show (0 : Int) < 2147483647 by decide), _, rfl, r, _, 2, 2, rfl, rfl, h1, rfl, ?_⟩⟩
      dsimp only
      show tRet _ _ [some (.ref r), some (.int m), s2, s3] (upd H1 r (.lst [.ref sc, .int (ra + 1), .int ((rb * 48271 + 11) % 2147483647), .int rc]))
      have hbn : 0 ≤ (rb * 48271 + 11) % 2147483647 := Int.emod_nonneg _ (by decide)
      have hbl : (rb * 48271 + 11) % 2147483647 < 2147483647 := Int.emod_lt_of_pos _ (by decide)
      generalize (rb * 48271 + 11) % 2147483647 = b2 at hbn hbl ⊢
      have t2 : S.To H1 (upd H1 r (.lst [.ref sc, .int (ra + 1), .int b2, .int rc])) := hS.to hput t1.inv (by omega) hbn hbl hc
      have h2 : (upd H1 r (.lst [.ref sc, .int (ra + 1), .int b2, .int rc])) r = some (.lst [.ref sc, .int (ra + 1), .int b2, .int rc]) := upd_same
      refine ⟨_, rfl, r, _, 2, .int b2, rfl, rfl, .inl (.inl h2), rfl, b2, 7, rfl, rfl, wide_div (b := 64) (by decide) (by decide) (by decide) (by decide), .inl ⟨_, rfl, _, rfl, _, m, rfl, rfl, hm, ?_⟩⟩
      exact fin_ _ _ (t1.trans t2) (Int.emod_nonneg _ (by omega)) (Int.emod_lt_of_pos _ hm)
    · have g2 : ¬ (((ns.map V.int).length : Nat) : Int) < ra + 1 := fun z => g1 (decide_eq_true z)
      rw [List.length_map] at g2
      obtain ⟨j, ej⟩ : ∃ j : Nat, ra = (j : Int) := ⟨ra.toNat, by omega⟩
      have hj : j < ns.length := by omega
      have hat : atI (ns.map V.int) (ra + 1 - 1) = some (.int ns[j]) := by
        have e : ra + 1 - 1 = (j : Int) := by omega
        rw [e]
        exact atI_nat (by rw [List.getElem?_map, List.getElem?_eq_getElem hj] <;> rfl)
      refine ⟨_, rfl, r, _, 0, .ref sc, rfl, rfl, .inl (.inl h1), rfl, _, rfl, r, _, 1, .int (ra + 1), rfl, rfl, .inl (.inl h1), rfl, ra + 1, 1, rfl, rfl, sc, _, _, _, rfl, rfl, hsc1, hat, ?_⟩
      generalize ns[j] = cell
      refine ⟨_, rfl, r, _, 2, .int rb, rfl, rfl, .inl (.inl h1), rfl, rb, 48271, rfl, rfl, .inr ⟨by decide, by decide⟩, _, rfl, _, cell, rfl, rfl, _, 11, rfl, rfl, .inl ⟨_, rfl, _, 2147483647, rfl, rfl, (show (0 : Int) < 2147483647 by decide), _, rfl, r, _, 2, 2, rfl, rfl, h1, rfl, ?_⟩⟩
      dsimp only
      show tSeq _ _ _ [some (.ref r), some (.int m), s2, some (.int cell)] (upd H1 r (.lst [.ref sc, .int (ra + 1), .int ((rb * 48271 + cell + 11) % 2147483647), .int rc]))
      have hbn : 0 ≤ (rb * 48271 + cell + 11) % 2147483647 := Int.emod_nonneg _ (by decide)
      have hbl : (rb * 48271 + cell + 11) % 2147483647 < 2147483647 := Int.emod_lt_of_pos _ (by decide)
      generalize (rb * 48271 + cell + 11) % 2147483647 = b2 at hbn hbl ⊢
      have t2 : S.To H1 (upd H1 r (.lst [.ref sc, .int (ra + 1), .int b2, .int rc])) := hS.to hput t1.inv (by omega) hbn hbl hc
      have h2 : (upd H1 r (.lst [.ref sc, .int (ra + 1), .int b2, .int rc])) r = some (.lst [.ref sc, .int (ra + 1), .int b2, .int rc]) := upd_same
      have last : ∀ H2, S.To H0 H2 → (tRet (tOp (rI (fun _ j => 0 < j) fun i j => .int (i % j)) (tCB rInt1 (tCons (tVar 3) tNil)) (tVar 1))) D [some (.ref r), some (.int m), s2, some (.int cell)] H2 := fun H2 t =>
        ⟨_, rfl, .inl ⟨cell, rfl, _, rfl, cell, m, rfl, rfl, hm, fin_ _ H2 t (Int.emod_nonneg _ (by omega)) (Int.emod_lt_of_pos _ hm)⟩⟩
      refine ⟨_, rfl, 10, 18, rfl, rfl, ⟨by decide, by decide, by decide⟩, cell, _, rfl, rfl, _, rfl, ite2 (fun g3 => ?_) (fun g3 => ?_)⟩
      · refine ⟨_, rfl, _, rfl, cell, m, rfl, rfl, hdiv cell, _, rfl, r, _, 3, 3, rfl, rfl, h2, rfl, ?_⟩
        have hc0 : 0 ≤ cell := by
          have g4 : (10 : Int) ^ (18 : Int).toNat ≤ cell := of_decide_eq_true g3
          have g5 : (0 : Int) ≤ 10 ^ (18 : Int).toNat := by decide
          omega
        have t3 : S.To _ (upd (upd H1 r (.lst [.ref sc, .int (ra + 1), .int b2, .int rc])) r (.lst [.ref sc, .int (ra + 1), .int b2, .int (cell / m)])) := hS.to hput t2.inv (by omega) hbn hbl (Int.ediv_nonneg hc0 (by omega))
        exact last _ ((t1.trans t2).trans t3)
      · exact last _ (t1.trans t2)
abbrev sp__law_pick (K : PySem.W.Frag) : Spec := fun S xs P => ∃ (r : Addr) (ds : List PyData), xs = [.v (.ref r), .d (.list ds)] ∧ RowS K S r ∧ 0 < ds.length ∧ ds.length ≤ 1000000 ∧ ∀ d ∈ ds, P (.d d)
theorem ok__law_pick (T : Txt K w mg a) (TB : Tabs base mg a) : FnOk P w K mg base CX0 2 a.f__law_pick a.fd__law_pick ["row", "kinds"] (spD K (Ok K a) (sp__law_pick K)) := by
  have G__law_taken := ok__law_taken (P := P) T TB
  refine def_ok T.F__law_pick sc__law_pick (fun S xs P h => ?_) (fun A outer s H E hr => ?_)
  · obtain ⟨r, ds, e, _⟩ := h
    rw [e]
    rfl
  have hu := Room.units hr
  refine ⟨_, (pss_one (ps_ret (pe_ix (r := rIxL K) ix_list (pv 1) (pe_call G__law_taken (hr.mono (by decide)) (by rfl) T.m__law_taken T.kp__law_taken T.b__law_taken .nil pass0 (pa_cons (pv 0) (pa_cons (pe_callB (r := rLen K) call_len_seq (by rfl) T.m_len PySem.boot_len (pa_cons (pv 1) pa_nil)) pa_nil))) (fun _ _ => rfl)))), fun S xs Pq hok hs => ?_⟩
  obtain ⟨r, ds, rfl, hS, h0, h1, hp⟩ := hs
  try dsimp only [cxOf]
  try simp only [N__law_pick, startR_c, startR_n, startR_z]
  repeat' walk_at "tw"
  refine ⟨by omega, by omega, fun k k0 k1 => ?_⟩
  obtain ⟨d, hd, e⟩ := at_mem k0 k1
  exact e2_ixL e (hp d hd)
abbrev sp__law_alike (K : PySem.W.Frag) (n : Nat) : Spec := fun S xs P => ∃ d, xs = [.d d, .d d] ∧ goodA n d ∧ P (.d (.bool true))
theorem ok__law_alike (T : Txt K w mg a) (TB : Tabs base mg a) : ∀ n : Nat, FnOk P w K mg base CX0 n a.f__law_alike a.fd__law_alike ["found", "due"] (spD K (Ok K a) (sp__law_alike K n))
  | 0 => by
    have no : ∀ vs H Q E, ¬ (spD K (Ok K a) (sp__law_alike K 0)) vs H Q E := fun vs H Q E h => by
      obtain ⟨S, xs, P, _, _, _, ⟨d, _, hd, _⟩, _⟩ := h
      exact hd
    exact ⟨fun vs H Q E h => absurd h (no vs H Q E), fun A outer s H args us vs Q E _ _ _ _ h => absurd h (no vs H Q E)⟩
  | n + 1 => by
    have G__law_alike := ok__law_alike T TB n
    refine def_ok T.F__law_alike sc__law_alike (fun S xs P ⟨d, e, _⟩ => by rw [e]; rfl) (fun A outer s H E hr => ?_)
    have hu := Room.units hr
    refine ⟨_, (pss_cons (ps_if (pt_val (pe_callB (r := rIsiT K) call_isiT (by rfl) T.m_isinstance (by decide +kernel) (pa_cons (pv 1) (pa_cons (L2.pe_tup (pa_cons (pe_bltn (v := .ty "tuple") (by rfl) T.m_tuple (by decide +kernel) rfl) (pa_cons (pe_bltn (v := .ty "list") (by rfl) T.m_list (by decide +kernel) rfl) pa_nil))) pa_nil)))) (pss_cons (ps_if (PW.pt (pw_or (pt_not (pt_val (pe_callB (r := rIsiT K) call_isiT (by rfl) T.m_isinstance (by decide +kernel) (pa_cons (pv 0) (pa_cons (L2.pe_tup (pa_cons (pe_bltn (v := .ty "tuple") (by rfl) T.m_tuple (by decide +kernel) rfl) (pa_cons (pe_bltn (v := .ty "list") (by rfl) T.m_list (by decide +kernel) rfl) pa_nil))) pa_nil))))) (pw_or1 (pt_cmpR (r := rNeP K) (op_neP hu) (pe_callB (r := rIsi K) call_isi (by rfl) T.m_isinstance (by decide +kernel) (pa_cons (pv 0) (pa_cons (pe_bltn (v := .ty "list") (by rfl) T.m_list (by decide +kernel) rfl) pa_nil))) (pe_callB (r := rIsi K) call_isi (by rfl) T.m_isinstance (by decide +kernel) (pa_cons (pv 1) (pa_cons (pe_bltn (v := .ty "list") (by rfl) T.m_list (by decide +kernel) rfl) pa_nil))) (nomark _))))) (pss_one (ps_ret pe_bl)) pss_nil)
      (pss_cons (ps_if (pt_cmpR (r := rNeP K) (op_neP hu) (pe_callB (r := rLen K) call_len_seq (by rfl) T.m_len PySem.boot_len (pa_cons (pv 0) pa_nil)) (pe_callB (r := rLen K) call_len_seq (by rfl) T.m_len PySem.boot_len (pa_cons (pv 1) pa_nil)) (nomark _)) (pss_one (ps_ret pe_bl)) pss_nil)
      (pss_one (ps_ret (pe_cmpR (r := rEqP K) (op_eqP hu) (pe_lc (own := [("k", 2)]) (g := gName 2) (tt := _) (by rfl) sc__law_alike.nd (pi_range1 (by rfl) T.m_range (pa_cons (pe_callB (r := rLen K) call_len_seq (by rfl) T.m_len PySem.boot_len (pa_cons (pv 1) pa_nil)) pa_nil)) (blkOk_by (own := [("k", 2)]) (N := N__law_alike) (sc := defScope s__law_alike) (by decide +kernel)) (fun _ _ _ _ _ => (pg_name (i := 2) sc__law_alike.nd rfl (.inl rfl))) (fun _ _ _ _ _ => (pts_one (pt_not (pt_val (pe_call G__law_alike (hr) (by rfl) T.m__law_alike T.kp__law_alike T.b__law_alike .nil pass0 (pa_cons (pe_ix (r := rIxTL K) ix_tl (pv 0) (pv 2) (fun _ _ => rfl)) (pa_cons (pe_ix (r := rIxTL K) ix_tl (pv 1) (pv 2) (fun _ _ => rfl)) pa_nil))))))) (fun _ _ _ _ _ => (pv 2))) (pe_lst pa_nil) (nomark _)))))) pss_nil)
      (pss_cons (ps_if (PW.pt (pw_or (pt_cmp (pc_isN (pv 1))) (pw_or1 (pt_val (pe_callB (r := rIsi K) call_isi (by rfl) T.m_isinstance (by decide +kernel) (pa_cons (pv 1) (pa_cons (pe_bltn (v := .ty "str") (by rfl) T.m_str (by decide +kernel) rfl) pa_nil))))))) (pss_one (ps_ret (pe_and (pe_cmpR (r := rEqP K) (op_eqP hu) (pv 0) (pv 1) (nomark _)) (pe_one (pe_cmpR (r := rEqP K) (op_eqP hu) (pe_callB (r := rIsi K) call_isi (by rfl) T.m_isinstance (by decide +kernel) (pa_cons (pv 0) (pa_cons (pe_bltn (v := .ty "str") (by rfl) T.m_str (by decide +kernel) rfl) pa_nil))) (pe_callB (r := rIsi K) call_isi (by rfl) T.m_isinstance (by decide +kernel) (pa_cons (pv 1) (pa_cons (pe_bltn (v := .ty "str") (by rfl) T.m_str (by decide +kernel) rfl) pa_nil))) (nomark _)))))) pss_nil)
      (pss_one (ps_ret (pe_and (pe_callB (r := rIsi K) call_isi (by rfl) T.m_isinstance (by decide +kernel) (pa_cons (pv 0) (pa_cons (pe_bltn (v := .ty "int") (by rfl) T.m_int (by decide +kernel) rfl) pa_nil))) (pe_and (pe_cmpR (r := rEqP K) (op_eqP hu) (pe_callB (r := rIsi K) call_isi (by rfl) T.m_isinstance (by decide +kernel) (pa_cons (pv 0) (pa_cons (pe_bltn (v := .ty "bool") (by rfl) T.m_bool (by decide +kernel) rfl) pa_nil))) (pe_callB (r := rIsi K) call_isi (by rfl) T.m_isinstance (by decide +kernel) (pa_cons (pv 1) (pa_cons (pe_bltn (v := .ty "bool") (by rfl) T.m_bool (by decide +kernel) rfl) pa_nil))) (nomark _)) (pe_one (pe_cmpR (r := rEqP K) (op_eqP hu) (pv 0) (pv 1) (nomark _))))))))), fun S xs Pq hok hs => ?_⟩
    obtain ⟨d, rfl, hd, hp⟩ := hs
    try dsimp only [cxOf]
    try simp only [N__law_alike, startR_c, startR_n, startR_z]
    cases d with
    | none =>
      repeat' walk_at "tw"
      all_goals (first | (rw [eqv_b]; assumption) | (rw [eqv_i]; assumption) | (rw [eqv_s]; assumption) | assumption | (rename_i hb; first | (rw [eqv_b] at hb; exact Bool.noConfusion hb) | (rw [eqv_i] at hb; exact Bool.noConfusion hb) | (rw [eqv_s] at hb; exact Bool.noConfusion hb) | (rw [decide_eq_true rfl] at hb; exact Bool.noConfusion hb)))
    | bool b =>
      repeat' walk_at "tw"
      all_goals (first | (rw [eqv_b]; assumption) | (rw [eqv_i]; assumption) | (rw [eqv_s]; assumption) | assumption | (rename_i hb; first | (rw [eqv_b] at hb; exact Bool.noConfusion hb) | (rw [eqv_i] at hb; exact Bool.noConfusion hb) | (rw [eqv_s] at hb; exact Bool.noConfusion hb) | (rw [decide_eq_true rfl] at hb; exact Bool.noConfusion hb)))
    | int i =>
      repeat' walk_at "tw"
      all_goals (first | (rw [eqv_b]; assumption) | (rw [eqv_i]; assumption) | (rw [eqv_s]; assumption) | assumption | (rename_i hb; first | (rw [eqv_b] at hb; exact Bool.noConfusion hb) | (rw [eqv_i] at hb; exact Bool.noConfusion hb) | (rw [eqv_s] at hb; exact Bool.noConfusion hb) | (rw [decide_eq_true rfl] at hb; exact Bool.noConfusion hb)))
    | str z =>
      repeat' walk_at "tw"
      all_goals (first | (rw [eqv_b]; assumption) | (rw [eqv_i]; assumption) | (rw [eqv_s]; assumption) | assumption | (rename_i hb; first | (rw [eqv_b] at hb; exact Bool.noConfusion hb) | (rw [eqv_i] at hb; exact Bool.noConfusion hb) | (rw [eqv_s] at hb; exact Bool.noConfusion hb) | (rw [decide_eq_true rfl] at hb; exact Bool.noConfusion hb)))
    | list l =>
      obtain ⟨hl, hd⟩ := hd
      repeat' walk_at "tw"
      · all_goals (first | (rw [eqv_b]; assumption) | (rw [eqv_i]; assumption) | (rw [eqv_s]; assumption) | assumption | (rename_i hb; first | (rw [eqv_b] at hb; exact Bool.noConfusion hb) | (rw [eqv_i] at hb; exact Bool.noConfusion hb) | (rw [eqv_s] at hb; exact Bool.noConfusion hb) | (rw [decide_eq_true rfl] at hb; exact Bool.noConfusion hb)))
      · refine ev_lc (by decide) ?_
        repeat' walk_at "tw"
        refine ⟨by omega, by unfold rangeD; rw [List.length_map, List.length_range]; exact Nat.le_trans hl (by decide), fun T' hT' => ?_⟩
        have hokT : Ok K a T' := hok.le hT'
        refine lcW_none _ _ (fun x hx PB pb => ?_) ?_
        · obtain ⟨i, hi, rfl⟩ := mem_rangeD hx
          have hg : l[i]? = some l[i] := List.getElem?_eq_getElem hi
          rw [Int.zero_add]
          repeat' walk_at "tw"
          refine e2_ixTLl (atI_nat hg) ?_
          repeat' walk_at "tw"
          refine e2_ixTLl (atI_nat hg) ?_
          repeat' walk_at "tw"
          exact ⟨hd _ (List.getElem_mem hi), _, rfl, pb⟩
        · repeat' walk_at "tw"
          exact hp
    | tuple l =>
      obtain ⟨hl, hd⟩ := hd
      repeat' walk_at "tw"
      · all_goals (first | (rw [eqv_b]; assumption) | (rw [eqv_i]; assumption) | (rw [eqv_s]; assumption) | assumption | (rename_i hb; first | (rw [eqv_b] at hb; exact Bool.noConfusion hb) | (rw [eqv_i] at hb; exact Bool.noConfusion hb) | (rw [eqv_s] at hb; exact Bool.noConfusion hb) | (rw [decide_eq_true rfl] at hb; exact Bool.noConfusion hb)))
      · refine ev_lc (by decide) ?_
        repeat' walk_at "tw"
        refine ⟨by omega, by unfold rangeD; rw [List.length_map, List.length_range]; exact Nat.le_trans hl (by decide), fun T' hT' => ?_⟩
        have hokT : Ok K a T' := hok.le hT'
        refine lcW_none _ _ (fun x hx PB pb => ?_) ?_
        · obtain ⟨i, hi, rfl⟩ := mem_rangeD hx
          have hg : l[i]? = some l[i] := List.getElem?_eq_getElem hi
          rw [Int.zero_add]
          repeat' walk_at "tw"
          refine e2_ixTLt (atI_nat hg) ?_
          repeat' walk_at "tw"
          refine e2_ixTLt (atI_nat hg) ?_
          repeat' walk_at "tw"
          exact ⟨hd _ (List.getElem_mem hi), _, rfl, pb⟩
        · repeat' walk_at "tw"
          exact hp
    | dict kv => exact hd.elim

abbrev sp__law_words (K : PySem.W.Frag) : Spec := fun S xs P => xs = [] ∧ P (.d (.list (wordsL.map lstS)))
theorem ok__law_words (T : Txt K w mg a) (TB : Tabs base mg a) : FnOk P w K mg base CX0 1 a.f__law_words a.fd__law_words [] (spD K (Ok K a) (sp__law_words K)) := by
  refine def_ok T.F__law_words sc__law_words (fun S xs P h => ?_) (fun A outer s H E hr => ?_)
  · obtain ⟨e, _⟩ := h
    rw [e]
    rfl
  have hu := Room.units hr
  refine ⟨_, (pss_one (ps_ret (pe_lst (pa_cons (pe_lst (pa_cons pe_str (pa_cons pe_str pa_nil))) (pa_cons (pe_lst (pa_cons pe_str (pa_cons pe_str (pa_cons pe_str pa_nil)))) (pa_cons (pe_lst (pa_cons pe_str (pa_cons pe_str (pa_cons pe_str pa_nil)))) (pa_cons (pe_lst (pa_cons pe_str (pa_cons pe_str (pa_cons pe_str pa_nil)))) (pa_cons (pe_lst (pa_cons pe_str (pa_cons pe_str (pa_cons pe_str (pa_cons pe_str pa_nil))))) pa_nil)))))))), fun S xs Pq hok hs => ?_⟩
  obtain ⟨rfl, hp⟩ := hs
  try dsimp only [cxOf]
  try simp only [N__law_words, startR_c, startR_n, startR_z]
  repeat' walk_at "tw"
  exact hp
abbrev sp__law_way (K : PySem.W.Frag) : Spec := fun S xs P => ∃ (r : Addr), xs = [.v (.ref r)] ∧ RowS K S r ∧ ∀ v, isW v → P (.d v.D)
theorem ok__law_way (T : Txt K w mg a) (TB : Tabs base mg a) : FnOk P w K mg base CX0 3 a.f__law_way a.fd__law_way ["row"] (spD K (Ok K a) (sp__law_way K)) := by
  have G__law_taken := ok__law_taken (P := P) T TB
  have G__law_pick := ok__law_pick (P := P) T TB
  have G__law_words := ok__law_words (P := P) T TB
  refine def_ok T.F__law_way sc__law_way (fun S xs P h => ?_) (fun A outer s H E hr => ?_)
  · obtain ⟨r, e, _⟩ := h
    rw [e]
    rfl
  have hu := Room.units hr
  refine ⟨_, (pss_cons (ps_set (i := 1) sc__law_way.nd rfl (.inl rfl) (pe_lst (pa_cons (pe_tup (pa_cons pe_str (pa_cons pe_str (pa_cons pe_str (pa_cons pe_str (pa_cons pe_str pa_nil)))))) (pa_cons (pe_tup (pa_cons pe_str (pa_cons pe_str (pa_cons pe_str (pa_cons pe_str (pa_cons pe_str pa_nil)))))) (pa_cons (pe_tup (pa_cons pe_str (pa_cons pe_str (pa_cons pe_str (pa_cons pe_str (pa_cons pe_str pa_nil)))))) pa_nil)))))
      (pss_cons (ps_if (pt_cmpR (r := rEqP K) (op_eqP hu) (pe_call G__law_taken (hr.mono (by decide)) (by rfl) T.m__law_taken T.kp__law_taken T.b__law_taken .nil pass0 (pa_cons (pv 0) (pa_cons pe_int pa_nil))) pe_int (nomark _)) (pss_one (ps_ret (pe_call G__law_pick (hr.mono (by decide)) (by rfl) T.m__law_pick T.kp__law_pick T.b__law_pick .nil pass0 (pa_cons (pv 0) (pa_cons (pv 1) pa_nil))))) pss_nil)
      (pss_one (ps_ret (pe_callTy (r := rTupOf K) call_tuple_of (by rfl) T.m_tuple (by decide +kernel) (pa_cons (pe_lc (own := [("some", 2)]) (g := gName 2) (tt := tYes) (by rfl) sc__law_way.nd (pi_listK (K := K) rfl (pe_call0 G__law_words (hr.mono (by decide)) (by rfl) T.m__law_words T.kp__law_words T.b__law_words .nil pass0)) (blkOk_by (own := [("some", 2)]) (N := N__law_way) (sc := defScope s__law_way) (by decide +kernel)) (fun _ _ _ _ _ => (pg_name (i := 2) sc__law_way.nd rfl (.inl rfl))) (fun _ _ _ _ _ => pts_nil) (fun _ _ _ _ _ => (pe_call G__law_pick (hr.mono (by decide)) (by rfl) T.m__law_pick T.kp__law_pick T.b__law_pick .nil pass0 (pa_cons (pv 0) (pa_cons (pv 2) pa_nil))))) pa_nil)))))), fun S xs Pq hok hs => ?_⟩
  obtain ⟨r, rfl, hS, hp⟩ := hs
  try dsimp only [cxOf]
  try simp only [N__law_way, startR_c, startR_n, startR_z]
  repeat' walk_at "tw"
  refine ⟨by decide, by decide, fun k k0 k1 => ?_⟩
  repeat' walk_at "tw"
  · refine ⟨by show 0 < 3; decide, by show 3 ≤ 1000000; decide, fun d hd => ?_⟩
    simp only [List.mem_cons, List.not_mem_nil, or_false] at hd
    rcases hd with rfl | rfl | rfl
    · exact hp (wayC (0, 1, 2, 1, 3)) ⟨_, by decide +kernel, rfl⟩
    · exact hp (wayC (0, 1, 2, 1, 1)) ⟨_, by decide +kernel, rfl⟩
    · exact hp (wayC (0, 1, 2, 3, 3)) ⟨_, by decide +kernel, rfl⟩
  · refine ev_lc (by decide) ?_
    repeat' walk_at "tw"
    refine ⟨rfl, _, rfl, by decide, fun T' hT' => ?_⟩
    have hokT := hok.le hT'
    have hST := hS.le hT'
    dsimp only [wordsL, List.map, wipeR, List.set]
    refine lcW_yes ?_
    repeat' walk_at "tw"
    refine ⟨by show 0 < 2; decide, by show 2 ≤ 1000000; decide, fun d1 h1 => ⟨_, rfl, lcW_yes ?_⟩⟩
    repeat' walk_at "tw"
    refine ⟨by show 0 < 3; decide, by show 3 ≤ 1000000; decide, fun d2 h2 => ⟨_, rfl, lcW_yes ?_⟩⟩
    repeat' walk_at "tw"
    refine ⟨by show 0 < 3; decide, by show 3 ≤ 1000000; decide, fun d3 h3 => ⟨_, rfl, lcW_yes ?_⟩⟩
    repeat' walk_at "tw"
    refine ⟨by show 0 < 3; decide, by show 3 ≤ 1000000; decide, fun d4 h4 => ⟨_, rfl, lcW_yes ?_⟩⟩
    repeat' walk_at "tw"
    refine ⟨by show 0 < 4; decide, by show 4 ≤ 1000000; decide, fun d5 h5 => ⟨_, rfl, lcW_end ?_⟩⟩
    obtain ⟨v, hv, e⟩ := way_pick h1 h2 h3 h4 h5
    have e2 : [] ++ [d1] ++ [d2] ++ [d3] ++ [d4] ++ [d5] = [d1, d2, d3, d4, d5] := rfl
    rw [e2]
    repeat' walk_at "tw"
    rw [e]
    exact hp v hv
end
end Tw.K08
namespace Tw.K08
open PySem PySem.Spec PyProof.Rows L2
local macro_rules | `(tactic| walk_at "tw") => `(tactic| ((first
  | with_reducible refine run_seq ?_ | with_reducible refine run_ret ?_ | with_reducible refine run_asg ?_ | with_reducible refine run_if ?_ | with_reducible refine run_next ?_ | with_reducible refine run_drop ?_ | with_reducible refine run_asgG ?_ | with_reducible refine run_for ?_ | with_reducible refine run_par ?_
  | with_reducible refine et_not ?_ | with_reducible refine et_test ?_ | with_reducible refine et_B ?_ | with_reducible refine et_and ?_ | with_reducible refine et_or ?_ | with_reducible refine et_yes ?_
  | with_reducible refine ev_op ?_ | with_reducible refine ev_chain ?_ | with_reducible refine ev_andV ?_ | with_reducible refine ev_orV ?_ | with_reducible refine ev_notV ?_ | with_reducible refine ev_if ?_ | with_reducible refine ev_isN ?_ | with_reducible refine ev_neg ?_
  | with_reducible refine ev_var rfl ?_ | with_reducible refine ev_int ?_ | with_reducible refine ev_str ?_ | with_reducible refine ev_bl ?_ | with_reducible refine ev_non ?_
  | with_reducible refine ev_slT ?_ | with_reducible refine ev_slL ?_ | with_reducible refine eo_none ?_ | with_reducible refine eo_some ?_
  | with_reducible refine ev_tupU ?_ | with_reducible refine ev_lstU ?_ | with_reducible refine ea_nil ?_ | with_reducible refine ea_cons ?_
  | with_reducible refine ev_isiTL ?_ | with_reducible refine ev_call (by assumption) ?_ | with_reducible refine ev_cdat (Txt.d_WORDS (by assumption)) ?_ | with_reducible refine ev_cb ?_ | with_reducible refine ev_raw ?_
  | with_reducible refine ec_isi (isi_int _) ?_ | with_reducible refine ec_isi (isi_bool _) ?_ | with_reducible refine ec_isi (isi_tuple _) ?_ | with_reducible refine ec_isi (isi_list _) ?_ | with_reducible refine ec_isi (isi_str _) ?_
  | refine ec_lenL ?_ | refine ec_lenT ?_ | refine ec_int ?_ | refine ec_tupL ?_ | refine ec_tupT ?_ | refine ec_lstL ?_ | refine ec_lstT ?_
  | with_reducible refine e2_int ?_ | with_reducible refine e2_bl ?_ | with_reducible refine e2_isB ?_ | with_reducible refine e2_notB ?_
  | with_reducible refine e2_eqNil ?_ | with_reducible refine e2_neNil ?_ | with_reducible refine e2_inK2 ?_ | with_reducible refine e2_inR3 ?_ | with_reducible refine e2_eqK ?_ | with_reducible refine e2_neK ?_ | with_reducible refine e2_eqR ?_ | with_reducible refine e2_neR ?_
  | with_reducible refine e2_eqSb true (by decide +kernel) ?_ | with_reducible refine e2_eqSb false (by decide +kernel) ?_ | with_reducible refine e2_neSb true (by decide +kernel) ?_ | with_reducible refine e2_neSb false (by decide +kernel) ?_
  | with_reducible refine e2_inLb true (by decide +kernel) rfl ?_ | with_reducible refine e2_inLb false (by decide +kernel) rfl ?_
  | with_reducible refine e2_inST ?_ | with_reducible refine e2_inSL ?_ | with_reducible refine e2_ninST ?_ | with_reducible refine e2_ninSL ?_ | with_reducible refine e2_eqS ?_ | with_reducible refine e2_neS ?_
  | with_reducible refine e2_eq (by first | assumption | (simp only [depth_none, depth_int, depth_str, depth_bool]; omega) | omega) ?_ | with_reducible refine e2_ne (by first | assumption | (simp only [depth_none, depth_int, depth_str, depth_bool]; omega) | omega) ?_
  | with_reducible refine forW_cons ?_ | with_reducible refine forW_nil ?_ | with_reducible refine ei_tup ?_ | with_reducible refine ei_list ?_ | with_reducible refine ei_rng ?_
  | with_reducible refine eg_name ?_ | with_reducible refine eg_tup rfl ?_ | with_reducible refine eg_lst rfl ?_ | with_reducible refine egs_nil ?_ | with_reducible refine egs_cons ?_
  | with_reducible refine ⟨rfl, sz100 rfl, ?_⟩ | with_reducible refine ⟨_, rfl, ?_⟩ | with_reducible exact ⟨_, rfl⟩ | with_reducible refine ⟨_, _, rfl, ?_⟩ | with_reducible refine ⟨_, _, _, _, rfl, ?_⟩
  | ((with_reducible refine ⟨fun hb => ?_, fun hb => ?_⟩) <;> (try exact Bool.noConfusion (show true = false from hb)) <;> (try exact Bool.noConfusion (show false = true from hb)))
  | with_reducible refine And.intro (by assumption) ?_ | refine e2_ixT rfl ?_ | refine e2_ixL rfl ?_ | fail "stuck"); (try dsimp only [fin_rt, fin_nx, undata, List.set, List.isEmpty, Bool.not_true, Bool.not_false])))
section
variable {P : Program} {w : World} {K : PySem.W.Frag} {mg : Str → Option Value} {base : Heap} {a : Ad}
theorem isE_step {K : PySem.W.Frag} {D b kc : Addr} {bb : Bool} {ta tb : TE} {σ : L2.St} {H : Hp} {Q : VK} (h1 : σ[1]? = some (some (V.ref b))) (hk : PySem.W.kitOne K (.ref D) (.ref kc) = some bb) (h : if bb = true then ta σ H Q else tb σ H Q) :
    tIf (tB (tCB (rIsE K D b) (tCons (tVar 1) (tCons (L2.tC (V.ref kc)) tNil)))) ta tb σ H Q :=
  ⟨.ref b, h1, .ref kc, .ref kc, bb, rfl, fun u r => r, hk, bb, rfl, h⟩
def Wd8 (a : Ad) (cls : Value) (z : Str) : Prop := (cls = .ref a.k_NotText ∧ z = "text") ∨ (cls = .ref a.k_InvalidText ∧ z = "invalid")
theorem gives_told {X : Cx} (T : Txt K w mg a) (hK : X.K = K) (hm : X.mg = mg) : GivesQ X N__law_told "_law_told" (defScope s__law_told) a.f__law_told a.cd__law_told (defBody s__law_told) "work" (TTold K a.k_MergeError (Wd8 a)) := by
  subst hK hm
  refine told_gives (e := "MergeError") (n := "e") rfl (by rfl) T.x_MergeError.glob rfl (by decide) rfl rfl rfl (fun s H b oe cls z pn hz hf hw => ?_)
  rcases hw with ⟨rfl, rfl⟩ | ⟨rfl, rfl⟩
  · refine ⟨fun pins s' σ H' D I h => ?_⟩
    obtain ⟨h1, h2⟩ := h
    refine' PSs.run ?h pins s' σ H' D I ?_
    case h => exact (pss_one (ps_ret (pe_ifExp (pt_val (pe_callB (call_isE (X := (cxOf CX0 X.prog X.w X.K X.mg X.base N__law_told "_law_told" (defScope s__law_told) a.f__law_told a.cd__law_told X.A X.stack s H E0).nox) (a := b) (pn := pn) T.e_NotText hz hf) (by rfl) T.m_isinstance (by decide +kernel) (pa_cons (pv 1) (pa_cons (pe_glob (v := .ref a.k_NotText) (by rfl) T.x_NotText.glob rfl) pa_nil)))) pe_str (pe_ifExp (pt_val (pe_callB (call_isE (X := (cxOf CX0 X.prog X.w X.K X.mg X.base N__law_told "_law_told" (defScope s__law_told) a.f__law_told a.cd__law_told X.A X.stack s H E0).nox) (a := b) (pn := pn) T.e_NotText hz hf) (by rfl) T.m_isinstance (by decide +kernel) (pa_cons (pv 1) (pa_cons (pe_glob (v := .ref a.k_InvalidText) (by rfl) T.x_InvalidText.glob rfl) pa_nil)))) pe_str pe_str))))
    exact isE_step h1 T.i_NotText_NotText h2
  · refine ⟨fun pins s' σ H' D I h => ?_⟩
    obtain ⟨h1, h2⟩ := h
    refine' PSs.run ?h pins s' σ H' D I ?_
    case h => exact (pss_one (ps_ret (pe_ifExp (pt_val (pe_callB (call_isE (X := (cxOf CX0 X.prog X.w X.K X.mg X.base N__law_told "_law_told" (defScope s__law_told) a.f__law_told a.cd__law_told X.A X.stack s H E0).nox) (a := b) (pn := pn) T.e_InvalidText hz hf) (by rfl) T.m_isinstance (by decide +kernel) (pa_cons (pv 1) (pa_cons (pe_glob (v := .ref a.k_NotText) (by rfl) T.x_NotText.glob rfl) pa_nil)))) pe_str (pe_ifExp (pt_val (pe_callB (call_isE (X := (cxOf CX0 X.prog X.w X.K X.mg X.base N__law_told "_law_told" (defScope s__law_told) a.f__law_told a.cd__law_told X.A X.stack s H E0).nox) (a := b) (pn := pn) T.e_InvalidText hz hf) (by rfl) T.m_isinstance (by decide +kernel) (pa_cons (pv 1) (pa_cons (pe_glob (v := .ref a.k_InvalidText) (by rfl) T.x_InvalidText.glob rfl) pa_nil)))) pe_str pe_str))))
    exact isE_step h1 T.i_InvalidText_NotText (isE_step h1 T.i_InvalidText_InvalidText h2)

end
end Tw.K08
namespace Tw.K08
open PySem PySem.Spec PyProof.Rows L2
local macro_rules | `(tactic| walk_at "tw") => `(tactic| ((first
  | with_reducible refine run_seq ?_ | with_reducible refine run_ret ?_ | with_reducible refine run_asg ?_ | with_reducible refine run_if ?_ | with_reducible refine run_next ?_ | with_reducible refine run_drop ?_ | with_reducible refine run_asgG ?_ | with_reducible refine run_for ?_ | with_reducible refine run_par ?_
  | with_reducible refine et_not ?_ | with_reducible refine et_test ?_ | with_reducible refine et_B ?_ | with_reducible refine et_and ?_ | with_reducible refine et_or ?_ | with_reducible refine et_yes ?_
  | with_reducible refine ev_op ?_ | with_reducible refine ev_chain ?_ | with_reducible refine ev_andV ?_ | with_reducible refine ev_orV ?_ | with_reducible refine ev_notV ?_ | with_reducible refine ev_if ?_ | with_reducible refine ev_isN ?_ | with_reducible refine ev_neg ?_
  | with_reducible refine ev_var rfl ?_ | with_reducible refine ev_int ?_ | with_reducible refine ev_str ?_ | with_reducible refine ev_bl ?_ | with_reducible refine ev_non ?_
  | with_reducible refine ev_slT ?_ | with_reducible refine ev_slL ?_ | with_reducible refine eo_none ?_ | with_reducible refine eo_some ?_
  | with_reducible refine ev_tupU ?_ | with_reducible refine ev_lstU ?_ | with_reducible refine ea_nil ?_ | with_reducible refine ea_cons ?_
  | with_reducible refine ev_isiTL ?_ | with_reducible refine ev_call (by assumption) ?_ | with_reducible refine ev_cdat (Txt.d_WORDS (by assumption)) ?_ | with_reducible refine ev_cb ?_ | with_reducible refine ev_raw ?_
  | with_reducible refine ec_isi (isi_int _) ?_ | with_reducible refine ec_isi (isi_bool _) ?_ | with_reducible refine ec_isi (isi_tuple _) ?_ | with_reducible refine ec_isi (isi_list _) ?_ | with_reducible refine ec_isi (isi_str _) ?_
  | refine ec_lenL ?_ | refine ec_lenT ?_ | refine ec_int ?_ | refine ec_tupL ?_ | refine ec_tupT ?_ | refine ec_lstL ?_ | refine ec_lstT ?_
  | with_reducible refine e2_int ?_ | with_reducible refine e2_bl ?_ | with_reducible refine e2_isB ?_ | with_reducible refine e2_notB ?_
  | with_reducible refine e2_eqNil ?_ | with_reducible refine e2_neNil ?_ | with_reducible refine e2_inK2 ?_ | with_reducible refine e2_inR3 ?_ | with_reducible refine e2_eqK ?_ | with_reducible refine e2_neK ?_ | with_reducible refine e2_eqR ?_ | with_reducible refine e2_neR ?_
  | with_reducible refine e2_eqSb true (by decide +kernel) ?_ | with_reducible refine e2_eqSb false (by decide +kernel) ?_ | with_reducible refine e2_neSb true (by decide +kernel) ?_ | with_reducible refine e2_neSb false (by decide +kernel) ?_
  | with_reducible refine e2_inLb true (by decide +kernel) rfl ?_ | with_reducible refine e2_inLb false (by decide +kernel) rfl ?_
  | with_reducible refine e2_inST ?_ | with_reducible refine e2_inSL ?_ | with_reducible refine e2_ninST ?_ | with_reducible refine e2_ninSL ?_ | with_reducible refine e2_eqS ?_ | with_reducible refine e2_neS ?_
  | with_reducible refine e2_eq (by first | assumption | (simp only [depth_none, depth_int, depth_str, depth_bool]; omega) | omega) ?_ | with_reducible refine e2_ne (by first | assumption | (simp only [depth_none, depth_int, depth_str, depth_bool]; omega) | omega) ?_
  | with_reducible refine forW_cons ?_ | with_reducible refine forW_nil ?_ | with_reducible refine ei_tup ?_ | with_reducible refine ei_list ?_ | with_reducible refine ei_rng ?_
  | with_reducible refine eg_name ?_ | with_reducible refine eg_tup rfl ?_ | with_reducible refine eg_lst rfl ?_ | with_reducible refine egs_nil ?_ | with_reducible refine egs_cons ?_
  | with_reducible refine ⟨rfl, sz100 rfl, ?_⟩ | with_reducible refine ⟨_, rfl, ?_⟩ | with_reducible exact ⟨_, rfl⟩ | with_reducible refine ⟨_, _, rfl, ?_⟩ | with_reducible refine ⟨_, _, _, _, rfl, ?_⟩
  | ((with_reducible refine ⟨fun hb => ?_, fun hb => ?_⟩) <;> (try exact Bool.noConfusion (show true = false from hb)) <;> (try exact Bool.noConfusion (show false = true from hb)))
  | with_reducible refine And.intro (by assumption) ?_ | refine e2_ixT rfl ?_ | refine e2_ixL rfl ?_ | fail "stuck"); (try dsimp only [fin_rt, fin_nx, undata, List.set, List.isEmpty, Bool.not_true, Bool.not_false])))
section
variable {P : Program} {w : World} {K : PySem.W.Frag} {mg : Str → Option Value} {base : Heap} {a : Ad}
theorem e2_neQ {K : PySem.W.Frag} {S : Side} {x y : PyData} {P : DV → Prop} (c : Bool) (h : Nat.min x.depth y.depth ≤ 60) (e : PyData.eqv x y = !c) (p : P (.d (.bool c))) : Ev2 K S (rNeP K) (.d x) (.d y) P := e2_ne h (by rw [e, Bool.not_not]; exact p)
theorem e2_eqQ {K : PySem.W.Frag} {S : Side} {x y : PyData} {P : DV → Prop} (c : Bool) (h : Nat.min x.depth y.depth ≤ 60) (e : PyData.eqv x y = c) (p : P (.d (.bool c))) : Ev2 K S (rEqP K) (.d x) (.d y) P := e2_eq h (by rw [e]; exact p)
theorem wide_small : ∀ t ∈ signs "abcdefghijklm", t.length + ("=1" : Str).length ≤ sizeLine := by decide +kernel
theorem wide_sum : ((((signs "abcdefghijklm").map fun t => t ++ ("=1" : Str))).map (·.length)).sum + ((signs "abcdefghijklm").map fun t => t ++ ("=1" : Str)).length * (" " : Str).length ≤ 16777216 := by decide +kernel
abbrev sp_law (K : PySem.W.Frag) : Spec := fun S xs P => ∃ (sc : Addr) (ns : List Int), xs = [.v (.ref sc)] ∧ ns.length ≤ 63 ∧ (∀ H, S.inv H → SqL K H sc (ns.map V.int)) ∧ P (.d (.bool true))
theorem ok_law (T : Txt K w mg a) (TB : Tabs base mg a) : FnOk P w K mg base CX0 9 a.f_law a.fd_law ["script"] (spD K (Ok K a) (sp_law K)) := by
  have G__law_pick := ok__law_pick (P := P) T TB
  have G__law_way := ok__law_way (P := P) T TB
  have G_write_way := ok_write_way (P := P) T TB
  have G__law_alike := ok__law_alike (P := P) T TB 6
  have G_write_document := ok_write_document (P := P) T TB
  have G_read_way := ok_read_way (P := P) T TB
  have G_read_document := ok_read_document (P := P) T TB
  have G__law_taken := ok__law_taken (P := P) T TB
  refine def_ok T.F_law sc_law (fun S xs P h => ?_) (fun A outer s H E hr => ?_)
  · obtain ⟨sc, ns, e, _⟩ := h
    rw [e]
    rfl
  have hu := Room.units hr
  refine ⟨_, (pss_cons (ps_set (i := 7) sc_law.nd rfl (.inr rfl) (pe_lst (pa_cons (pv 0) (pa_cons pe_int (pa_cons pe_int (pa_cons pe_int pa_nil))))))
      (pss_cons (ps_par (i := 1) (j := 2) (by rfl) sc_law.nd rfl rfl (by decide) rfl rfl (pa_cons (pe_call G__law_way (hr.mono (by decide)) (by rfl) T.m__law_way T.kp__law_way T.b__law_way .nil pass0 (pa_cons (pv 7) pa_nil)) (pa_cons (pe_callTy (r := rTupOf K) call_tuple_of (by rfl) T.m_tuple (by decide +kernel) (pa_cons (pe_lc (own := [("name", 9)]) (g := gName 9) (tt := _) (by rfl) sc_law.nd (pi_listK (K := K) rfl (pe_lst (pa_cons pe_str (pa_cons pe_str (pa_cons pe_str (pa_cons (pe_op (r := rMulS) op_mulS pe_str pe_int) (pa_cons pe_str pa_nil))))))) (blkOk_by (own := [("name", 9)]) (N := N_law) (sc := defScope s_law) (by decide +kernel)) (fun _ _ _ _ _ => (pg_name (i := 9) sc_law.nd rfl (.inl rfl))) (fun _ _ _ _ _ => (pts_one (pt_cmpR (op_gt) (pe_call G__law_taken (hr.mono (by decide)) (by rfl) T.m__law_taken T.kp__law_taken T.b__law_taken .nil pass0 (pa_cons (pv 7) (pa_cons pe_int pa_nil))) pe_int (nomark _)))) (fun _ _ _ _ _ => (pe_tup (pa_cons (pv 9) (pa_cons (pe_call G__law_taken (hr.mono (by decide)) (by rfl) T.m__law_taken T.kp__law_taken T.b__law_taken .nil pass0 (pa_cons (pv 7) (pa_cons pe_int pa_nil))) pa_nil))))) pa_nil)) pa_nil)) (by rfl))
      (pss_cons (ps_if (PW.pt (pw_or (pt_cmpR (r := rNeP K) (op_neP hu) (pe_call G_write_way (hr.mono (by decide)) (by rfl) T.m_write_way T.kp_write_way T.b_write_way .nil pass0 (pa_cons (pv 1) pa_nil)) (pe_join pe_str (pv 1)) (nomark _)) (pw_or1 (pt_not (pt_val (pe_call G__law_alike (hr.mono (by decide)) (by rfl) T.m__law_alike T.kp__law_alike T.b__law_alike .nil pass0 (pa_cons (pe_call G_read_way (hr.mono (by decide)) (by rfl) T.m_read_way T.kp_read_way T.b_read_way .nil passN (pa_cons (pe_join pe_str (pv 1)) pa_nil)) (pa_cons (pv 1) pa_nil)))))))) (pss_one (ps_ret pe_bl)) pss_nil)
      (pss_cons (ps_set (i := 3) sc_law.nd rfl (.inl rfl) (pe_join pe_str (pe_lc (own := [("name", 9), ("value", 10)]) (g := gPair K 9 10) (tt := tYes) (by rfl) sc_law.nd (pi_tupK (K := K) rfl (pv 2)) (blkOk_by (own := [("name", 9), ("value", 10)]) (N := N_law) (sc := defScope s_law) (by decide +kernel)) (fun _ _ _ _ _ => pg_tup (by rfl) (pgs_cons (pg_name (i := 9) sc_law.nd rfl (.inl rfl)) (pgs_cons (pg_name (i := 10) sc_law.nd rfl (.inl rfl)) pgs_nil))) (fun _ _ _ _ _ => pts_nil) (fun _ _ _ _ _ => (pe_op op_add_str (pe_op op_add_str (pv 9) pe_str) (pe_callTy (r := rStrI) call_str_int (by rfl) T.m_str (by decide +kernel) (pa_cons (pv 10) pa_nil)))))))
      (pss_cons (ps_if (PW.pt (pw_or (pt_cmpR (r := rNeP K) (op_neP hu) (pe_call G_write_document (hr.mono (by decide)) (by rfl) T.m_write_document T.kp_write_document T.b_write_document .nil pass0 (pa_cons (pv 2) pa_nil)) (pv 3) (nomark _)) (pw_or1 (pt_not (pt_val (pe_call G__law_alike (hr.mono (by decide)) (by rfl) T.m__law_alike T.kp__law_alike T.b__law_alike .nil pass0 (pa_cons (pe_call G_read_document (hr.mono (by decide)) (by rfl) T.m_read_document T.kp_read_document T.b_read_document .nil passN (pa_cons (pv 3) pa_nil)) (pa_cons (pv 2) pa_nil)))))))) (pss_one (ps_ret pe_bl)) pss_nil)
      (pss_cons (ps_set (i := 4) sc_law.nd rfl (.inr rfl) (pe_call G__law_pick (hr.mono (by decide)) (by rfl) T.m__law_pick T.kp__law_pick T.b__law_pick .nil pass0 (pa_cons (pv 7) (pa_cons (pe_lst (pa_cons pe_str (pa_cons pe_str (pa_cons (pe_join pe_str (L2.pe_slice (r := rSlA K) sl_tupA (pv 1) (po_some pe_int) po_none)) (pa_cons (pe_op op_add_str (pe_join pe_str (pv 1)) pe_str) (pa_cons (pe_op op_add_str (pe_join pe_str (pe_rev5 (K := K) rfl (pv 1))) pe_str) (pa_cons pe_str (pa_cons (pe_upper (pe_join pe_str (pv 1))) pa_nil)))))))) pa_nil))))
      (pss_cons (ps_set (i := 6) sc_law.nd rfl (.inr rfl) (pe_lst (pa_cons pe_str (pa_cons pe_str (pa_cons pe_str (pa_cons pe_str (pa_cons pe_str (pa_cons pe_str (pa_cons pe_str (pa_cons pe_str (pa_cons pe_str (pa_cons pe_str (pa_cons pe_str (pa_cons pe_str (pa_cons pe_str (pa_cons pe_str (pa_cons pe_str (pa_cons (pe_op op_add_str (pe_op (r := rMulS) op_mulS pe_str pe_int) pe_str) (pa_cons pe_str pa_nil)))))))))))))))))))
      (pss_cons (ps_set (i := 8) sc_law.nd rfl (.inr rfl) (pe_join pe_str (pe_lc (own := [("letter", 11)]) (g := gName 11) (tt := tYes) (by rfl) sc_law.nd (pi_str pe_str) (blkOk_by (own := [("letter", 11)]) (N := N_law) (sc := defScope s_law) (by decide +kernel)) (fun _ _ _ _ _ => (pg_name (i := 11) sc_law.nd rfl (.inl rfl))) (fun _ _ _ _ _ => pts_nil) (fun _ _ _ _ _ => (pe_op op_add_str (pv 11) pe_str)))))
      (pss_cons (ps_if (pt_cmpR (r := rNeP K) (op_neP hu) (pe_lst (pa_cons (pe_told0 (k := 2) rfl (by rfl) T.m__law_told T.F__law_told T.b__law_told sc__law_told rfl (.inl rfl) (gives_told T rfl rfl) TB.t_law T.cw_law (hr.mono (by decide)) (LamX.lamS_by (sc := defScope s_law) (by decide +kernel)) rfl (fun _ _ _ _ => rfl) (fun _ _ _ _ _ _ _ hr => (pe_call G_read_way (hr.mono (by decide)) (by rfl) T.m_read_way T.kp_read_way T.b_read_way .nil passL (pa_cons (pv 4) pa_nil)))) (pa_cons (pe_told1 (k := 5) (j := 12) rfl (by rfl) T.m__law_told T.F__law_told T.b__law_told sc__law_told rfl (.inl rfl) (gives_told T rfl rfl) TB.t_law T.cw_law (hr.mono (by decide)) sc_law.nd rfl (lamS1_by (sc := defScope s_law) (by decide +kernel)) rfl (fun _ _ _ _ _ => ⟨_, rfl, fun _ => rfl⟩) (fun _ _ _ _ _ _ _ hr => (pe_call G_read_document (hr.mono (by decide)) (by rfl) T.m_read_document T.kp_read_document T.b_read_document .nil passL (pa_cons (pe_call G__law_pick (hr.mono (by decide)) (by rfl) T.m__law_pick T.kp__law_pick T.b__law_pick .nil pass0 (pa_cons (pv 7) (pa_cons (pe_op (r := rCatL K) op_catL (pv 6) (pe_lst (pa_cons (pv 8) pa_nil))) pa_nil))) pa_nil)))) pa_nil))) (pe_lst (pa_cons pe_str (pa_cons pe_str pa_nil))) (nomark _)) (pss_one (ps_ret pe_bl)) pss_nil)
      (pss_cons (ps_set (i := 5) sc_law.nd rfl (.inr rfl) (pe_call G__law_pick (hr.mono (by decide)) (by rfl) T.m__law_pick T.kp__law_pick T.b__law_pick .nil pass0 (pa_cons (pv 7) (pa_cons (pe_lst (pa_cons pe_non (pa_cons pe_int (pa_cons (pe_lst (pa_cons pe_str pa_nil)) (pa_cons (pe_tup (pa_cons pe_str pa_nil)) (pa_cons pe_bl pa_nil)))))) pa_nil))))
      (pss_one (ps_ret (pe_cmpR (r := rEqP K) (op_eqP hu) (pe_lst (pa_cons (pe_told0 (k := 2) rfl (by rfl) T.m__law_told T.F__law_told T.b__law_told sc__law_told rfl (.inl rfl) (gives_told T rfl rfl) TB.t_law T.cw_law (hr.mono (by decide)) (LamX.lamS_by (sc := defScope s_law) (by decide +kernel)) rfl (fun _ _ _ _ => rfl) (fun _ _ _ _ _ _ _ hr => (pe_call G_read_way (hr.mono (by decide)) (by rfl) T.m_read_way T.kp_read_way T.b_read_way .nil passL (pa_cons (pv 5) pa_nil)))) (pa_cons (pe_told1 (k := 5) (j := 12) rfl (by rfl) T.m__law_told T.F__law_told T.b__law_told sc__law_told rfl (.inl rfl) (gives_told T rfl rfl) TB.t_law T.cw_law (hr.mono (by decide)) sc_law.nd rfl (lamS1_by (sc := defScope s_law) (by decide +kernel)) rfl (fun _ _ _ _ _ => ⟨_, rfl, fun _ => rfl⟩) (fun _ _ _ _ _ _ _ hr => (pe_call G_read_document (hr.mono (by decide)) (by rfl) T.m_read_document T.kp_read_document T.b_read_document .nil passL (pa_cons (pv 5) pa_nil)))) pa_nil))) (pe_lst (pa_cons pe_str (pa_cons pe_str pa_nil))) (nomark _)))))))))))))), fun S xs Pq hok hs => ?_⟩
  obtain ⟨sc, ns, rfl, hn, hsc, hp⟩ := hs
  try dsimp only [cxOf]
  try simp only [N_law, startR_c, startR_n, startR_z]
  refine run_row (sc := sc) rfl (by decide) (by decide) (by decide) (by decide) fun r nr => ?_
  have hokT : Ok K a (S.withR r sc nr) := hok.withR
  have hR : RowS K (S.withR r sc nr) r := rowS_withR hsc hn
  generalize S.withR r sc nr = T0 at hokT hR ⊢
  dsimp only [List.set]
  refine run_seq (run_par (ea_cons (ev_call hokT (ea_cons (ev_var rfl (ea_nil ⟨r, rfl, hR, fun v hv => ?_⟩))))))
  refine ea_cons (ev_cb (ea_cons (ev_lc (by decide) ?_)))
  repeat' walk_at "tw"
  refine e2_mulS (by decide +kernel) (by decide +kernel) ?_
  rw [show repS "m" 12 = ("mmmmmmmmmmmm" : Str) from by decide +kernel]
  repeat' walk_at "tw"
  refine ⟨by decide, fun T' hT' => ?_⟩
  have hokT' := hokT.le hT'
  have hRT' := hR.le hT'
  dsimp only [wipeR, List.map, List.set]
  refine lcW_draw (m := 1000) names5 [] (fun x hx PB pb => ?_) (fun x hx P' p' => ?_) (fun es hs he => ?_)
  · dsimp only [List.set]
    exact et_test (ev_op (ev_call hokT' (ea_cons (ev_var rfl (ea_cons (ev_int (ea_nil ⟨r, 3, rfl, hRT', by decide, by decide, fun k k0 k1 => ev_int (e2_bl ⟨_, rfl, pb _⟩)⟩)))))))
  · dsimp only [List.set]
    exact ev_tupU (ea_cons (ev_var rfl (ea_cons (ev_call hokT' (ea_cons (ev_var rfl (ea_cons (ev_int (ea_nil ⟨r, 1000, rfl, hRT', by decide, by decide, fun k k0 k1 => ea_nil ⟨rfl, sz100 rfl, p' k k0 k1⟩⟩)))))))))
  rw [List.nil_append]
  refine ea_nil (ec_tupL (ea_nil ⟨_, _, rfl, ?_⟩))
  try dsimp only [List.set]
  have hes : docL es := ⟨hs, he⟩
  clear hs he hokT' hRT' hT' T'
  have hvm := isW_mem hv
  have hokA := hokT
  repeat' walk_at "tw"
  refine ev_joinT (ev_str ⟨" ", rfl, ev_var rfl ⟨v.T, rfl, way_join v hvm, e2_neSb true (decide_eq_true rfl) ⟨_, rfl, fun hb => Bool.noConfusion (show false = true from hb), fun _ => ?_⟩⟩⟩)
  refine et_not (et_B (ev_call hokT (ea_cons (ev_callX hokT (ea_cons (ev_joinT (ev_str ⟨" ", rfl, ev_var rfl ⟨v.T, rfl, way_join v hvm, ea_nil ⟨_, rfl, fun h => (nomatch h), fun z hz => ?_⟩⟩⟩)))))))
  cases hz
  have es0 : Txt.split (Txt.join " " v.T) " " = v.T := way_split hvm
  rw [es0]
  refine ⟨Nat.le_trans (way_len v hvm).1 (by decide), fun _ => ea_cons (ev_var rfl (ea_nil ⟨v.D, rfl, strs_goodA 4 _ (by show 5 ≤ 1000000; decide), _, rfl, fun hb => Bool.noConfusion (show false = true from hb), fun _ => run_next ?_⟩)), fun h => by rw [show isWay (tupS v.T) = true from hv.way] at h; cases h⟩
  -- the text of the document
  have h5 := doc_len hes
  refine run_seq (run_asg (ev_joinL (ev_str ⟨" ", rfl, ?_⟩)))
  refine ev_lcP (by decide) (by decide) (ei_tup (ev_var rfl ⟨es.map itemD, rfl, es.map fun e => (PyData.str e.1, PyData.int e.2), (by rw [List.map_map]; rfl), by rw [List.length_map]; exact Nat.le_trans h5 (by decide), fun T' hT' => ?_⟩))
  dsimp only [wipeR, List.map, List.set]
  refine lcpW_step (f := fun _ => true) (g := fun p => .str (partP p)) _ [] (fun x hx PB p' => et_yes p') (fun x hx _ P' p' => ?_) ?_
  · obtain ⟨e, he, rfl⟩ := List.mem_map.mp hx
    dsimp only [List.set]
    obtain ⟨hn, i, hi, hi2⟩ := one_name hes he
    have g1 := (name_all e.1 hn).2.1
    have g2 := (num_all i hi2).2.2.1
    have g3 : ("=" : Str).length = 1 := rfl
    have g5 : sizeLine = 16777216 := rfl
    have p2 : P' (.d (.str (e.1 ++ "=" ++ Str.ofString (toString e.2)))) := p'
    rw [hi] at p2 ⊢
    exact ev_op (ev_op (ev_var rfl (ev_str (e2_addS (by omega) (ev_cb (ea_cons (ev_var rfl (ea_nil (ec_strI (log_small i hi2) (e2_addS (by rw [app_len]; omega) p2))))))))))
  have e1 : ((es.map fun e => ((PyData.str e.1, PyData.int e.2) : PyData × PyData)).filter fun _ => true).map (fun p => PyData.str (partP p)) = sD (es.map partT) := by
    rw [List.filter_eq_self.mpr (fun _ _ => rfl), List.map_map, sD, List.map_map]
    rfl
  rw [List.nil_append, e1]
  have h6 := doc_sum hes
  have h7 : (" " : Str).length = 1 := rfl
  refine ⟨es.map partT, rfl, by rw [h7, List.length_map]; omega, ?_⟩
  clear e1
  try dsimp only [List.set]
  -- read again
  refine run_seq (run_if (et_or (et_test (ev_op (ev_call hokT (ea_cons (ev_var rfl (ea_nil ⟨es, rfl, hes, ev_var rfl (e2_neSb true (decide_eq_true rfl) ⟨_, rfl, fun hb => Bool.noConfusion (show false = true from hb), fun _ => ?_⟩)⟩))))))))
  refine et_not (et_B (ev_call hokT (ea_cons (ev_callX hokT (ea_cons (ev_var rfl (ea_nil ⟨_, rfl, fun h => (nomatch h), fun z hz => ?_⟩)))))))
  cases hz
  have es1 : PyData.tuple ((partsT (Txt.join " " (es.map partT))).map fun t => prD (pairOf t)) = docD es := docT_doc hes
  rw [es1]
  refine ⟨docT_ok hes, fun _ => ea_cons (ev_var rfl (ea_nil ⟨docD es, rfl, doc_goodA 3 hes, _, rfl, fun hb => Bool.noConfusion (show false = true from hb), fun _ => run_next ?_⟩)), fun h => by rw [show docOk (Txt.join " " (es.map partT)) = true from docT_docOk hes] at h; cases h⟩
  -- a bent text of a way
  obtain ⟨w1, w2, w3, w4, w5⟩ : v.a.length ≤ 6 ∧ v.b.length ≤ 6 ∧ v.c.length ≤ 6 ∧ v.d.length ≤ 6 ∧ v.e.length ≤ 6 := by
    have q := (way_len v hvm).2.1
    rw [List.all_eq_true] at q
    exact ⟨of_decide_eq_true (q v.a (by simp)), of_decide_eq_true (q v.b (by simp)), of_decide_eq_true (q v.c (by simp)), of_decide_eq_true (q v.d (by simp)), of_decide_eq_true (q v.e (by simp))⟩
  have sum4 : ([v.b, v.c, v.d, v.e].map (·.length)).sum + [v.b, v.c, v.d, v.e].length * (" " : Str).length ≤ 16777216 := by
    simp only [List.map, List.sum_cons, List.sum_nil, List.length_cons, List.length_nil, h7]
    omega
  have sum5 : ([v.e, v.d, v.c, v.b, v.a].map (·.length)).sum + [v.e, v.d, v.c, v.b, v.a].length * (" " : Str).length ≤ 100 := by
    simp only [List.map, List.sum_cons, List.sum_nil, List.length_cons, List.length_nil, h7]
    omega
  have len5 : (Txt.join " " [v.e, v.d, v.c, v.b, v.a]).length ≤ 100 := Nat.le_trans (join_len _ _) sum5
  have h8 : (" x" : Str).length = 2 := rfl
  have h9 : sizeLine = 16777216 := rfl
  have lenw := (way_len v hvm).1
  unfold wayT at lenw
  repeat' walk_at "tw"
  refine ev_joinT (ev_str ⟨" ", rfl, ?_⟩)
  repeat' walk_at "tw"
  refine ⟨[v.b, v.c, v.d, v.e], rfl, sum4, ?_⟩
  repeat' walk_at "tw"
  refine ev_joinT (ev_str ⟨" ", rfl, ev_var rfl ⟨v.T, rfl, way_join v hvm, ev_str (e2_addS (by omega) ?_)⟩⟩)
  repeat' walk_at "tw"
  refine ev_joinT (ev_str ⟨" ", rfl, ev_rev5 (ev_var rfl ⟨.str v.a, .str v.b, .str v.c, .str v.d, .str v.e, rfl, ⟨[v.e, v.d, v.c, v.b, v.a], rfl, Nat.le_trans sum5 (by decide), ev_str (e2_addS (by omega) ?_)⟩, rfl⟩)⟩)
  repeat' walk_at "tw"
  refine ev_upper (ev_joinT (ev_str ⟨" ", rfl, ev_var rfl ⟨v.T, rfl, way_join v hvm, _, rfl, by omega, ?_⟩⟩))
  repeat' walk_at "tw"
  refine ⟨by show 0 < 7; decide, by show 7 ≤ 1000000; decide, fun d hd => ?_⟩
  have hd : d ∈ (badsT v).map PyData.str := hd
  obtain ⟨z, hz, rfl⟩ := List.mem_map.mp hd
  obtain ⟨hzl, hzb⟩ := bads_bad v hvm z hz
  clear hd
  -- bent texts of documents
  repeat' walk_at "tw"
  refine e2_mulS (by decide +kernel) (by decide +kernel) ?_
  repeat' walk_at "tw"
  refine e2_addS (by decide +kernel) ?_
  repeat' walk_at "tw"
  refine ev_joinL (ev_str ⟨" ", rfl, ?_⟩)
  refine ev_lc (by decide) (ei_str (ev_str ⟨"abcdefghijklm", rfl, by decide +kernel, fun T2 hT2 => ?_⟩))
  dsimp only [wipeR, List.map, List.set]
  refine lcW_mapM (g := PyData.str) (f := fun t => PyData.str (t ++ ("=1" : Str))) (signs "abcdefghijklm") [] (fun t ht P' p' => ?_) ?_
  · dsimp only [List.set]
    exact ev_op (ev_var rfl (ev_str (e2_addS (wide_small t ht) p')))
  rw [List.nil_append]
  have ew : ((signs "abcdefghijklm").map fun t => PyData.str (t ++ ("=1" : Str))) = sD ((signs "abcdefghijklm").map fun t => t ++ ("=1" : Str)) := by
    rw [sD, List.map_map]
    rfl
  rw [ew]
  refine ⟨_, rfl, wide_sum, ?_⟩
  try dsimp only [List.set]
  -- both are refused
  refine run_seq (run_if (et_test (ev_op (ev_lstU (ea_cons ?_)))))
  refine ev_told (U := fun σ => σ) (PX := fun cls y => y = none ∧ cls = .ref a.k_InvalidText) hokT.o_law (fun M σ h => h) (fun E => evR_call hokT (ea_cons (ev_var rfl (ea_nil ⟨.str z, rfl, fun h => (nomatch h), fun z' hz' => ?_⟩)))) (fun cls y h => ?_)
  · cases hz'
    exact ⟨hzl, fun h => (by rw [hzb] at h; cases h), fun _ => ⟨rfl, rfl⟩⟩
  obtain ⟨rfl, rfl⟩ := h
  refine ⟨rfl, T.c_InvalidText, "invalid", .inr ⟨rfl, rfl⟩, ?_⟩
  refine ea_cons ?_
  refine ev_told (U := fun σ => σ.set 12 (some (.int 0))) (PX := fun cls y => y = none ∧ cls = .ref a.k_InvalidText) hokT.o_law (fun M σ h => h.set 12 (show Is K M (.int 0) (.d (.int 0)) from (show Dp _ _ _ _ from .int 0))) (fun E => ?_) (fun cls y h => ?_)
  · dsimp only [List.set]
    refine evR_call hokT (ea_cons (ev_call hokT (ea_cons (ev_var rfl (ea_cons (ev_op (ev_var rfl (ev_lstU (ea_cons (ev_var rfl (ea_nil ⟨rfl, sz100 rfl, e2_catL (by show 17 + 1 ≤ _; decide) (ea_nil ⟨r, _, rfl, hR, by show 0 < 18; decide, by show 18 ≤ 1000000; decide, fun d hd2 => ?_⟩)⟩)))))))))))
    have hd2 : d ∈ (oddsL ++ [wideT]).map PyData.str := hd2
    obtain ⟨z2, hz2, rfl⟩ := List.mem_map.mp hd2
    obtain ⟨o1, o2⟩ := odds_bad z2 hz2
    refine ea_nil ⟨.str z2, rfl, fun h => (nomatch h), fun z' hz' => ?_⟩
    cases hz'
    exact ⟨o1, fun h => (by rw [o2] at h; cases h), fun _ => ⟨rfl, rfl⟩⟩
  obtain ⟨rfl, rfl⟩ := h
  refine ⟨rfl, T.c_InvalidText, "invalid", .inr ⟨rfl, rfl⟩, ?_⟩
  repeat' walk_at "tw"
  refine e2_neQ false (by decide +kernel) (by decide +kernel) ?_
  repeat' walk_at "tw"
  refine ⟨by show 0 < 5; decide, by show 5 ≤ 1000000; decide, fun d hd3 => ?_⟩
  have nstr : isStrD d = false := by
    simp only [List.mem_cons, List.not_mem_nil, or_false] at hd3
    rcases hd3 with rfl | rfl | rfl | rfl | rfl <;> rfl
  refine run_ret (ev_op (ev_lstU (ea_cons ?_)))
  refine ev_told (U := fun σ => σ) (PX := fun cls y => y = none ∧ cls = .ref a.k_NotText) hokT.o_law (fun M σ h => h) (fun E => evR_call hokT (ea_cons (ev_var rfl (ea_nil ⟨d, rfl, fun _ => ⟨rfl, rfl⟩, fun z' hz' => (by rw [hz'] at nstr; cases nstr)⟩)))) (fun cls y h => ?_)
  obtain ⟨rfl, rfl⟩ := h
  refine ⟨rfl, T.c_NotText, "text", .inl ⟨rfl, rfl⟩, ?_⟩
  refine ea_cons ?_
  refine ev_told (U := fun σ => σ.set 12 (some (.int 0))) (PX := fun cls y => y = none ∧ cls = .ref a.k_NotText) hokT.o_law (fun M σ h => h.set 12 (show Is K M (.int 0) (.d (.int 0)) from (show Dp _ _ _ _ from .int 0))) (fun E => ?_) (fun cls y h => ?_)
  · dsimp only [List.set]
    exact evR_call hokT (ea_cons (ev_var rfl (ea_nil ⟨d, rfl, fun _ => ⟨rfl, rfl⟩, fun z' hz' => (by rw [hz'] at nstr; cases nstr)⟩)))
  obtain ⟨rfl, rfl⟩ := h
  refine ⟨rfl, T.c_NotText, "text", .inl ⟨rfl, rfl⟩, ?_⟩
  repeat' walk_at "tw"
  refine e2_eqQ true (by decide +kernel) (by decide +kernel) ?_
  exact hp
end
end Tw.K08
namespace Tw.K08
open PySem PySem.Spec PyProof.Rows L2
theorem all_mk {l : PySem.W.OpenLaw} {w : World} {K : PySem.W.Frag} {h : Heap} {mg : Str → Option Value} {fa : Addr} {f_is_value : Addr} {od_is_value an_is_value : Option Addr} {sl_is_value : Array (Option Value)} {oc_is_value kV_is_value dc_is_value pm_is_value cd_is_value ct_is_value : Value}
    {f_is_way : Addr} {od_is_way an_is_way : Option Addr} {sl_is_way : Array (Option Value)} {oc_is_way kV_is_way dc_is_way pm_is_way ct_is_way : Value}
    {f_require_way : Addr} {od_require_way an_require_way : Option Addr} {sl_require_way : Array (Option Value)} {oc_require_way kV_require_way dc_require_way pm_require_way cd_require_way ct_require_way : Value}
    {f_is_name : Addr} {od_is_name an_is_name : Option Addr} {sl_is_name : Array (Option Value)} {oc_is_name kV_is_name dc_is_name pm_is_name ct_is_name : Value}
    {f_is_pair : Addr} {od_is_pair an_is_pair : Option Addr} {sl_is_pair : Array (Option Value)} {oc_is_pair kV_is_pair dc_is_pair pm_is_pair cd_is_pair ct_is_pair : Value}
    {f_is_short_tuple : Addr} {od_is_short_tuple an_is_short_tuple : Option Addr} {sl_is_short_tuple : Array (Option Value)} {oc_is_short_tuple kV_is_short_tuple dc_is_short_tuple pm_is_short_tuple cd_is_short_tuple ct_is_short_tuple : Value}
    {f_first_wrong_index : Addr} {od_first_wrong_index an_first_wrong_index : Option Addr} {sl_first_wrong_index : Array (Option Value)} {oc_first_wrong_index kV_first_wrong_index dc_first_wrong_index pm_first_wrong_index cd_first_wrong_index ct_first_wrong_index : Value}
    {f_is_document : Addr} {od_is_document an_is_document : Option Addr} {sl_is_document : Array (Option Value)} {oc_is_document kV_is_document dc_is_document pm_is_document cd_is_document ct_is_document : Value}
    {f_require_document : Addr} {od_require_document an_require_document : Option Addr} {sl_require_document : Array (Option Value)} {oc_require_document kV_require_document dc_require_document pm_require_document cd_require_document ct_require_document : Value}
    {f_require_text : Addr} {od_require_text an_require_text : Option Addr} {sl_require_text : Array (Option Value)} {oc_require_text kV_require_text dc_require_text pm_require_text cd_require_text ct_require_text : Value}
    {f_write_way : Addr} {od_write_way an_write_way : Option Addr} {sl_write_way : Array (Option Value)} {oc_write_way kV_write_way dc_write_way pm_write_way cd_write_way ct_write_way : Value}
    {f_read_way : Addr} {od_read_way an_read_way : Option Addr} {sl_read_way : Array (Option Value)} {oc_read_way kV_read_way dc_read_way pm_read_way cd_read_way ct_read_way : Value}
    {f_write_document : Addr} {od_write_document an_write_document : Option Addr} {sl_write_document : Array (Option Value)} {oc_write_document kV_write_document dc_write_document pm_write_document cd_write_document ct_write_document : Value}
    {f_pairs_text : Addr} {od_pairs_text an_pairs_text : Option Addr} {sl_pairs_text : Array (Option Value)} {oc_pairs_text kV_pairs_text dc_pairs_text pm_pairs_text cd_pairs_text ct_pairs_text : Value}
    {f_read_document : Addr} {od_read_document an_read_document : Option Addr} {sl_read_document : Array (Option Value)} {oc_read_document kV_read_document dc_read_document pm_read_document cd_read_document ct_read_document : Value}
    {f_read_pair : Addr} {od_read_pair an_read_pair : Option Addr} {sl_read_pair : Array (Option Value)} {oc_read_pair kV_read_pair dc_read_pair pm_read_pair cd_read_pair ct_read_pair : Value}
    {f_read_integer : Addr} {od_read_integer an_read_integer : Option Addr} {sl_read_integer : Array (Option Value)} {oc_read_integer kV_read_integer dc_read_integer pm_read_integer ct_read_integer : Value}
    {f__law_taken : Addr} {od__law_taken an__law_taken : Option Addr} {sl__law_taken : Array (Option Value)} {oc__law_taken kV__law_taken dc__law_taken pm__law_taken cd__law_taken ct__law_taken : Value}
    {f__law_pick : Addr} {od__law_pick an__law_pick : Option Addr} {sl__law_pick : Array (Option Value)} {oc__law_pick kV__law_pick dc__law_pick pm__law_pick cd__law_pick ct__law_pick : Value}
    {f__law_alike : Addr} {od__law_alike an__law_alike : Option Addr} {sl__law_alike : Array (Option Value)} {oc__law_alike kV__law_alike dc__law_alike pm__law_alike cd__law_alike ct__law_alike : Value}
    {f__law_words : Addr} {od__law_words an__law_words : Option Addr} {sl__law_words : Array (Option Value)} {oc__law_words kV__law_words dc__law_words pm__law_words cd__law_words ct__law_words : Value}
    {f__law_way : Addr} {od__law_way an__law_way : Option Addr} {sl__law_way : Array (Option Value)} {oc__law_way kV__law_way dc__law_way pm__law_way cd__law_way ct__law_way : Value}
    {f__law_told : Addr} {od__law_told an__law_told : Option Addr} {sl__law_told : Array (Option Value)} {oc__law_told kV__law_told dc__law_told pm__law_told cd__law_told ct__law_told : Value}
    {f_law : Addr} {od_law an_law : Option Addr} {sl_law : Array (Option Value)} {oc_law kV_law dc_law pm_law ct_law : Value}
    {k_MergeError_ : Addr}
    {k_NotText_ : Addr}
    {k_InvalidText_ : Addr}
    {tok_GREATEST_INTEGER : Tok}
    {a_WORDS_ : Addr}
    {nW : Nat} {slW : Array (Option Value)} {w1 w2 w3 w4 w5 : Addr} {jW : Array Value}
    {n1 : Nat} {sl1 : Array (Option Value)} {j1 : Array Value}
    {n2 : Nat} {sl2 : Array (Option Value)} {j2 : Array Value}
    {n3 : Nat} {sl3 : Array (Option Value)} {j3 : Array Value}
    {n4 : Nat} {sl4 : Array (Option Value)} {j4 : Array Value}
    {n5 : Nat} {sl5 : Array (Option Value)} {j5 : Array Value}
    {tok_GREATEST_COUNT : Tok}
    {tok_GREATEST_LENGTH : Tok}
    {tok_LETTERS : Tok}
    {tok_DIGITS : Tok}
    {cc_is_way pp_is_way : Addr} {eC_is_way : Value} {dC_is_way : Option Addr} {vC_is_way : Array Value} {slC_is_way : Array (Option Value)}
    {cc_is_name pp_is_name : Addr} {eC_is_name : Value} {dC_is_name : Option Addr} {vC_is_name : Array Value} {slC_is_name : Array (Option Value)}
    {cc_read_integer pp_read_integer : Addr} {eC_read_integer : Value} {dC_read_integer : Option Addr} {vC_read_integer : Array Value} {slC_read_integer : Array (Option Value)}
    {cc_law pp_law : Addr} {eC_law : Value} {dC_law : Option Addr} {vC_law : Array Value} {slC_law : Array (Option Value)}
    (X : K.In h) (G : h.Ns mainGlobals mg) (hfa : mg "law" = some (.ref fa))
    (a_is_value : PySem.W.nsIn K mainGlobals "is_value" = some (some (.ref f_is_value)))
    (l_is_value : K.lookup f_is_value = some ⟨oc_is_value, od_is_value, .func (PySem.W.fnOf "is_value" "is_value" (defArgs s_is_value) (defBody s_is_value) (defScope s_is_value) .none kV_is_value dc_is_value pm_is_value an_is_value cd_is_value ct_is_value), sl_is_value⟩)
    (c_is_value : PySem.W.codeIn K cd_is_value "is_value" = true)
    (k_is_value : PySem.W.keepIn K (.ref f_is_value) = true)
    (a_is_way : PySem.W.nsIn K mainGlobals "is_way" = some (some (.ref f_is_way)))
    (l_is_way : K.lookup f_is_way = some ⟨oc_is_way, od_is_way, .func (PySem.W.fnOf "is_way" "is_way" (defArgs s_is_way) (defBody s_is_way) (defScope s_is_way) .none kV_is_way dc_is_way pm_is_way an_is_way (.ref cc_is_way) ct_is_way), sl_is_way⟩)
    (c_is_way : PySem.W.codeIn K (.ref cc_is_way) "is_way" = true)
    (k_is_way : PySem.W.keepIn K (.ref f_is_way) = true)
    (a_require_way : PySem.W.nsIn K mainGlobals "require_way" = some (some (.ref f_require_way)))
    (l_require_way : K.lookup f_require_way = some ⟨oc_require_way, od_require_way, .func (PySem.W.fnOf "require_way" "require_way" (defArgs s_require_way) (defBody s_require_way) (defScope s_require_way) .none kV_require_way dc_require_way pm_require_way an_require_way cd_require_way ct_require_way), sl_require_way⟩)
    (c_require_way : PySem.W.codeIn K cd_require_way "require_way" = true)
    (k_require_way : PySem.W.keepIn K (.ref f_require_way) = true)
    (a_is_name : PySem.W.nsIn K mainGlobals "is_name" = some (some (.ref f_is_name)))
    (l_is_name : K.lookup f_is_name = some ⟨oc_is_name, od_is_name, .func (PySem.W.fnOf "is_name" "is_name" (defArgs s_is_name) (defBody s_is_name) (defScope s_is_name) .none kV_is_name dc_is_name pm_is_name an_is_name (.ref cc_is_name) ct_is_name), sl_is_name⟩)
    (c_is_name : PySem.W.codeIn K (.ref cc_is_name) "is_name" = true)
    (k_is_name : PySem.W.keepIn K (.ref f_is_name) = true)
    (a_is_pair : PySem.W.nsIn K mainGlobals "is_pair" = some (some (.ref f_is_pair)))
    (l_is_pair : K.lookup f_is_pair = some ⟨oc_is_pair, od_is_pair, .func (PySem.W.fnOf "is_pair" "is_pair" (defArgs s_is_pair) (defBody s_is_pair) (defScope s_is_pair) .none kV_is_pair dc_is_pair pm_is_pair an_is_pair cd_is_pair ct_is_pair), sl_is_pair⟩)
    (c_is_pair : PySem.W.codeIn K cd_is_pair "is_pair" = true)
    (k_is_pair : PySem.W.keepIn K (.ref f_is_pair) = true)
    (a_is_short_tuple : PySem.W.nsIn K mainGlobals "is_short_tuple" = some (some (.ref f_is_short_tuple)))
    (l_is_short_tuple : K.lookup f_is_short_tuple = some ⟨oc_is_short_tuple, od_is_short_tuple, .func (PySem.W.fnOf "is_short_tuple" "is_short_tuple" (defArgs s_is_short_tuple) (defBody s_is_short_tuple) (defScope s_is_short_tuple) .none kV_is_short_tuple dc_is_short_tuple pm_is_short_tuple an_is_short_tuple cd_is_short_tuple ct_is_short_tuple), sl_is_short_tuple⟩)
    (c_is_short_tuple : PySem.W.codeIn K cd_is_short_tuple "is_short_tuple" = true)
    (k_is_short_tuple : PySem.W.keepIn K (.ref f_is_short_tuple) = true)
    (a_first_wrong_index : PySem.W.nsIn K mainGlobals "first_wrong_index" = some (some (.ref f_first_wrong_index)))
    (l_first_wrong_index : K.lookup f_first_wrong_index = some ⟨oc_first_wrong_index, od_first_wrong_index, .func (PySem.W.fnOf "first_wrong_index" "first_wrong_index" (defArgs s_first_wrong_index) (defBody s_first_wrong_index) (defScope s_first_wrong_index) .none kV_first_wrong_index dc_first_wrong_index pm_first_wrong_index an_first_wrong_index cd_first_wrong_index ct_first_wrong_index), sl_first_wrong_index⟩)
    (c_first_wrong_index : PySem.W.codeIn K cd_first_wrong_index "first_wrong_index" = true)
    (k_first_wrong_index : PySem.W.keepIn K (.ref f_first_wrong_index) = true)
    (a_is_document : PySem.W.nsIn K mainGlobals "is_document" = some (some (.ref f_is_document)))
    (l_is_document : K.lookup f_is_document = some ⟨oc_is_document, od_is_document, .func (PySem.W.fnOf "is_document" "is_document" (defArgs s_is_document) (defBody s_is_document) (defScope s_is_document) .none kV_is_document dc_is_document pm_is_document an_is_document cd_is_document ct_is_document), sl_is_document⟩)
    (c_is_document : PySem.W.codeIn K cd_is_document "is_document" = true)
    (k_is_document : PySem.W.keepIn K (.ref f_is_document) = true)
    (a_require_document : PySem.W.nsIn K mainGlobals "require_document" = some (some (.ref f_require_document)))
    (l_require_document : K.lookup f_require_document = some ⟨oc_require_document, od_require_document, .func (PySem.W.fnOf "require_document" "require_document" (defArgs s_require_document) (defBody s_require_document) (defScope s_require_document) .none kV_require_document dc_require_document pm_require_document an_require_document cd_require_document ct_require_document), sl_require_document⟩)
    (c_require_document : PySem.W.codeIn K cd_require_document "require_document" = true)
    (k_require_document : PySem.W.keepIn K (.ref f_require_document) = true)
    (a_require_text : PySem.W.nsIn K mainGlobals "require_text" = some (some (.ref f_require_text)))
    (l_require_text : K.lookup f_require_text = some ⟨oc_require_text, od_require_text, .func (PySem.W.fnOf "require_text" "require_text" (defArgs s_require_text) (defBody s_require_text) (defScope s_require_text) .none kV_require_text dc_require_text pm_require_text an_require_text cd_require_text ct_require_text), sl_require_text⟩)
    (c_require_text : PySem.W.codeIn K cd_require_text "require_text" = true)
    (k_require_text : PySem.W.keepIn K (.ref f_require_text) = true)
    (a_write_way : PySem.W.nsIn K mainGlobals "write_way" = some (some (.ref f_write_way)))
    (l_write_way : K.lookup f_write_way = some ⟨oc_write_way, od_write_way, .func (PySem.W.fnOf "write_way" "write_way" (defArgs s_write_way) (defBody s_write_way) (defScope s_write_way) .none kV_write_way dc_write_way pm_write_way an_write_way cd_write_way ct_write_way), sl_write_way⟩)
    (c_write_way : PySem.W.codeIn K cd_write_way "write_way" = true)
    (k_write_way : PySem.W.keepIn K (.ref f_write_way) = true)
    (a_read_way : PySem.W.nsIn K mainGlobals "read_way" = some (some (.ref f_read_way)))
    (l_read_way : K.lookup f_read_way = some ⟨oc_read_way, od_read_way, .func (PySem.W.fnOf "read_way" "read_way" (defArgs s_read_way) (defBody s_read_way) (defScope s_read_way) .none kV_read_way dc_read_way pm_read_way an_read_way cd_read_way ct_read_way), sl_read_way⟩)
    (c_read_way : PySem.W.codeIn K cd_read_way "read_way" = true)
    (k_read_way : PySem.W.keepIn K (.ref f_read_way) = true)
    (a_write_document : PySem.W.nsIn K mainGlobals "write_document" = some (some (.ref f_write_document)))
    (l_write_document : K.lookup f_write_document = some ⟨oc_write_document, od_write_document, .func (PySem.W.fnOf "write_document" "write_document" (defArgs s_write_document) (defBody s_write_document) (defScope s_write_document) .none kV_write_document dc_write_document pm_write_document an_write_document cd_write_document ct_write_document), sl_write_document⟩)
    (c_write_document : PySem.W.codeIn K cd_write_document "write_document" = true)
    (k_write_document : PySem.W.keepIn K (.ref f_write_document) = true)
    (a_pairs_text : PySem.W.nsIn K mainGlobals "pairs_text" = some (some (.ref f_pairs_text)))
    (l_pairs_text : K.lookup f_pairs_text = some ⟨oc_pairs_text, od_pairs_text, .func (PySem.W.fnOf "pairs_text" "pairs_text" (defArgs s_pairs_text) (defBody s_pairs_text) (defScope s_pairs_text) .none kV_pairs_text dc_pairs_text pm_pairs_text an_pairs_text cd_pairs_text ct_pairs_text), sl_pairs_text⟩)
    (c_pairs_text : PySem.W.codeIn K cd_pairs_text "pairs_text" = true)
    (k_pairs_text : PySem.W.keepIn K (.ref f_pairs_text) = true)
    (a_read_document : PySem.W.nsIn K mainGlobals "read_document" = some (some (.ref f_read_document)))
    (l_read_document : K.lookup f_read_document = some ⟨oc_read_document, od_read_document, .func (PySem.W.fnOf "read_document" "read_document" (defArgs s_read_document) (defBody s_read_document) (defScope s_read_document) .none kV_read_document dc_read_document pm_read_document an_read_document cd_read_document ct_read_document), sl_read_document⟩)
    (c_read_document : PySem.W.codeIn K cd_read_document "read_document" = true)
    (k_read_document : PySem.W.keepIn K (.ref f_read_document) = true)
    (a_read_pair : PySem.W.nsIn K mainGlobals "read_pair" = some (some (.ref f_read_pair)))
    (l_read_pair : K.lookup f_read_pair = some ⟨oc_read_pair, od_read_pair, .func (PySem.W.fnOf "read_pair" "read_pair" (defArgs s_read_pair) (defBody s_read_pair) (defScope s_read_pair) .none kV_read_pair dc_read_pair pm_read_pair an_read_pair cd_read_pair ct_read_pair), sl_read_pair⟩)
    (c_read_pair : PySem.W.codeIn K cd_read_pair "read_pair" = true)
    (k_read_pair : PySem.W.keepIn K (.ref f_read_pair) = true)
    (a_read_integer : PySem.W.nsIn K mainGlobals "read_integer" = some (some (.ref f_read_integer)))
    (l_read_integer : K.lookup f_read_integer = some ⟨oc_read_integer, od_read_integer, .func (PySem.W.fnOf "read_integer" "read_integer" (defArgs s_read_integer) (defBody s_read_integer) (defScope s_read_integer) .none kV_read_integer dc_read_integer pm_read_integer an_read_integer (.ref cc_read_integer) ct_read_integer), sl_read_integer⟩)
    (c_read_integer : PySem.W.codeIn K (.ref cc_read_integer) "read_integer" = true)
    (k_read_integer : PySem.W.keepIn K (.ref f_read_integer) = true)
    (a__law_taken : PySem.W.nsIn K mainGlobals "_law_taken" = some (some (.ref f__law_taken)))
    (l__law_taken : K.lookup f__law_taken = some ⟨oc__law_taken, od__law_taken, .func (PySem.W.fnOf "_law_taken" "_law_taken" (defArgs s__law_taken) (defBody s__law_taken) (defScope s__law_taken) .none kV__law_taken dc__law_taken pm__law_taken an__law_taken cd__law_taken ct__law_taken), sl__law_taken⟩)
    (c__law_taken : PySem.W.codeIn K cd__law_taken "_law_taken" = true)
    (k__law_taken : PySem.W.keepIn K (.ref f__law_taken) = true)
    (a__law_pick : PySem.W.nsIn K mainGlobals "_law_pick" = some (some (.ref f__law_pick)))
    (l__law_pick : K.lookup f__law_pick = some ⟨oc__law_pick, od__law_pick, .func (PySem.W.fnOf "_law_pick" "_law_pick" (defArgs s__law_pick) (defBody s__law_pick) (defScope s__law_pick) .none kV__law_pick dc__law_pick pm__law_pick an__law_pick cd__law_pick ct__law_pick), sl__law_pick⟩)
    (c__law_pick : PySem.W.codeIn K cd__law_pick "_law_pick" = true)
    (k__law_pick : PySem.W.keepIn K (.ref f__law_pick) = true)
    (a__law_alike : PySem.W.nsIn K mainGlobals "_law_alike" = some (some (.ref f__law_alike)))
    (l__law_alike : K.lookup f__law_alike = some ⟨oc__law_alike, od__law_alike, .func (PySem.W.fnOf "_law_alike" "_law_alike" (defArgs s__law_alike) (defBody s__law_alike) (defScope s__law_alike) .none kV__law_alike dc__law_alike pm__law_alike an__law_alike cd__law_alike ct__law_alike), sl__law_alike⟩)
    (c__law_alike : PySem.W.codeIn K cd__law_alike "_law_alike" = true)
    (k__law_alike : PySem.W.keepIn K (.ref f__law_alike) = true)
    (a__law_words : PySem.W.nsIn K mainGlobals "_law_words" = some (some (.ref f__law_words)))
    (l__law_words : K.lookup f__law_words = some ⟨oc__law_words, od__law_words, .func (PySem.W.fnOf "_law_words" "_law_words" (defArgs s__law_words) (defBody s__law_words) (defScope s__law_words) .none kV__law_words dc__law_words pm__law_words an__law_words cd__law_words ct__law_words), sl__law_words⟩)
    (c__law_words : PySem.W.codeIn K cd__law_words "_law_words" = true)
    (k__law_words : PySem.W.keepIn K (.ref f__law_words) = true)
    (a__law_way : PySem.W.nsIn K mainGlobals "_law_way" = some (some (.ref f__law_way)))
    (l__law_way : K.lookup f__law_way = some ⟨oc__law_way, od__law_way, .func (PySem.W.fnOf "_law_way" "_law_way" (defArgs s__law_way) (defBody s__law_way) (defScope s__law_way) .none kV__law_way dc__law_way pm__law_way an__law_way cd__law_way ct__law_way), sl__law_way⟩)
    (c__law_way : PySem.W.codeIn K cd__law_way "_law_way" = true)
    (k__law_way : PySem.W.keepIn K (.ref f__law_way) = true)
    (a__law_told : PySem.W.nsIn K mainGlobals "_law_told" = some (some (.ref f__law_told)))
    (l__law_told : K.lookup f__law_told = some ⟨oc__law_told, od__law_told, .func (PySem.W.fnOf "_law_told" "_law_told" (defArgs s__law_told) (defBody s__law_told) (defScope s__law_told) .none kV__law_told dc__law_told pm__law_told an__law_told cd__law_told ct__law_told), sl__law_told⟩)
    (c__law_told : PySem.W.codeIn K cd__law_told "_law_told" = true)
    (k__law_told : PySem.W.keepIn K (.ref f__law_told) = true)
    (a_law : PySem.W.nsIn K mainGlobals "law" = some (some (.ref f_law)))
    (l_law : K.lookup f_law = some ⟨oc_law, od_law, .func (PySem.W.fnOf "law" "law" (defArgs s_law) (defBody s_law) (defScope s_law) .none kV_law dc_law pm_law an_law (.ref cc_law) ct_law), sl_law⟩)
    (c_law : PySem.W.codeIn K (.ref cc_law) "law" = true)
    (k_law : PySem.W.keepIn K (.ref f_law) = true)
    (z_isinstance : PySem.W.nsIn K mainGlobals "isinstance" = some none)
    (z_int : PySem.W.nsIn K mainGlobals "int" = some none)
    (z_bool : PySem.W.nsIn K mainGlobals "bool" = some none)
    (z_tuple : PySem.W.nsIn K mainGlobals "tuple" = some none)
    (z_len : PySem.W.nsIn K mainGlobals "len" = some none)
    (z_all : PySem.W.nsIn K mainGlobals "all" = some none)
    (z_zip : PySem.W.nsIn K mainGlobals "zip" = some none)
    (z_list : PySem.W.nsIn K mainGlobals "list" = some none)
    (z_range : PySem.W.nsIn K mainGlobals "range" = some none)
    (z_str : PySem.W.nsIn K mainGlobals "str" = some none)
    (z_enumerate : PySem.W.nsIn K mainGlobals "enumerate" = some none)
    (gl_MergeError : PySem.W.nsIn K mainGlobals "MergeError" = some (some (.ref k_MergeError_)))
    (xc_MergeError : PySem.W.excIn K k_MergeError_ veL "ValueError.__new__" = true)
    (xk_MergeError : PySem.W.keepIn K (.ref k_MergeError_) = true)
    (xs_MergeError : PySem.W.subIn K (.ref k_MergeError_) (.type "BaseException") = some true)
    (xt_MergeError : PySem.W.typeIn K (.ref k_MergeError_) = some (.type "type"))
    (gl_NotText : PySem.W.nsIn K mainGlobals "NotText" = some (some (.ref k_NotText_)))
    (xc_NotText : PySem.W.excIn K k_NotText_ veL "ValueError.__new__" = true)
    (xk_NotText : PySem.W.keepIn K (.ref k_NotText_) = true)
    (xs_NotText : PySem.W.subIn K (.ref k_NotText_) (.type "BaseException") = some true)
    (xt_NotText : PySem.W.typeIn K (.ref k_NotText_) = some (.type "type"))
    (gl_InvalidText : PySem.W.nsIn K mainGlobals "InvalidText" = some (some (.ref k_InvalidText_)))
    (xc_InvalidText : PySem.W.excIn K k_InvalidText_ veL "ValueError.__new__" = true)
    (xk_InvalidText : PySem.W.keepIn K (.ref k_InvalidText_) = true)
    (xs_InvalidText : PySem.W.subIn K (.ref k_InvalidText_) (.type "BaseException") = some true)
    (xt_InvalidText : PySem.W.typeIn K (.ref k_InvalidText_) = some (.type "type"))
    (ehg_NotText : PySem.W.findIn K (.ref k_NotText_) "__getattribute__" = some (some (.builtin "BaseException.__getattribute__")))
    (ehk_NotText : PySem.W.findIn K (.ref k_NotText_) "__getattr__" = some none)
    (ehd_NotText : PySem.W.hasDictIn K k_NotText_ = true)
    (eha_NotText : PySem.W.findIn K (.ref k_NotText_) "__class__" = some (some (.builtin "object.__class__")))
    (ehm_NotText : PySem.W.mroIn K k_NotText_ (.type "object") = some true)
    (ex_NotText : PySem.W.exmOne K (.ref k_NotText_) (.ref k_MergeError_) = some true)
    (ki_NotText_NotText : PySem.W.kitOne K (.ref k_NotText_) (.ref k_NotText_) = some true)
    (ki_NotText_InvalidText : PySem.W.kitOne K (.ref k_NotText_) (.ref k_InvalidText_) = some false)
    (ehg_InvalidText : PySem.W.findIn K (.ref k_InvalidText_) "__getattribute__" = some (some (.builtin "BaseException.__getattribute__")))
    (ehk_InvalidText : PySem.W.findIn K (.ref k_InvalidText_) "__getattr__" = some none)
    (ehd_InvalidText : PySem.W.hasDictIn K k_InvalidText_ = true)
    (eha_InvalidText : PySem.W.findIn K (.ref k_InvalidText_) "__class__" = some (some (.builtin "object.__class__")))
    (ehm_InvalidText : PySem.W.mroIn K k_InvalidText_ (.type "object") = some true)
    (ex_InvalidText : PySem.W.exmOne K (.ref k_InvalidText_) (.ref k_MergeError_) = some true)
    (ki_InvalidText_NotText : PySem.W.kitOne K (.ref k_InvalidText_) (.ref k_NotText_) = some false)
    (ki_InvalidText_InvalidText : PySem.W.kitOne K (.ref k_InvalidText_) (.ref k_InvalidText_) = some true)
    (ehn : PySem.W.specialIn K (.builtin "object.__class__") "__get__" = some (some (.builtin "getset_descriptor.__get__")))
    (eht : PySem.W.takesIn K (.builtin "object.__class__") = some true)
    (g_GREATEST_INTEGER : PySem.W.nsIn K mainGlobals "GREATEST_INTEGER" = some (some (.int 999 tok_GREATEST_INTEGER)))
    (g_WORDS : PySem.W.nsIn K mainGlobals "WORDS" = some (some (.ref a_WORDS_)))
    (lW : K.lookup a_WORDS_ = some ⟨.type "tuple", none, .seq jW nW, slW⟩)
    (sW : jW.size ≤ 100)
    (qW : jW.toList = [w1, w2, w3, w4, w5].map Value.ref)
    (lw1 : K.lookup w1 = some ⟨.type "tuple", none, .seq j1 n1, sl1⟩)
    (sw1 : j1.size ≤ 100)
    (qw1 : j1.toList.map (fun u => match u with | .str z _ => some z | _ => none) = (["base", "refuse"] : List Str).map some)
    (lw2 : K.lookup w2 = some ⟨.type "tuple", none, .seq j2 n2, sl2⟩)
    (sw2 : j2.size ≤ 100)
    (qw2 : j2.toList.map (fun u => match u with | .str z _ => some z | _ => none) = (["base", "mine", "refuse"] : List Str).map some)
    (lw3 : K.lookup w3 = some ⟨.type "tuple", none, .seq j3 n3, sl3⟩)
    (sw3 : j3.size ≤ 100)
    (qw3 : j3.toList.map (fun u => match u with | .str z _ => some z | _ => none) = (["base", "refuse", "yours"] : List Str).map some)
    (lw4 : K.lookup w4 = some ⟨.type "tuple", none, .seq j4 n4, sl4⟩)
    (sw4 : j4.size ≤ 100)
    (qw4 : j4.toList.map (fun u => match u with | .str z _ => some z | _ => none) = (["base", "mine", "refuse"] : List Str).map some)
    (lw5 : K.lookup w5 = some ⟨.type "tuple", none, .seq j5 n5, sl5⟩)
    (sw5 : j5.size ≤ 100)
    (qw5 : j5.toList.map (fun u => match u with | .str z _ => some z | _ => none) = (["base", "mine", "refuse", "yours"] : List Str).map some)
    (g_GREATEST_COUNT : PySem.W.nsIn K mainGlobals "GREATEST_COUNT" = some (some (.int 12 tok_GREATEST_COUNT)))
    (g_GREATEST_LENGTH : PySem.W.nsIn K mainGlobals "GREATEST_LENGTH" = some (some (.int 12 tok_GREATEST_LENGTH)))
    (g_LETTERS : PySem.W.nsIn K mainGlobals "LETTERS" = some (some (.str "abcdefghijklmnopqrstuvwxyz" tok_LETTERS)))
    (g_DIGITS : PySem.W.nsIn K mainGlobals "DIGITS" = some (some (.str "0123456789" tok_DIGITS)))
    (lC_is_way : K.lookup cc_is_way = some ⟨eC_is_way, dC_is_way, .fields vC_is_way, slC_is_way⟩)
    (v11_is_way : vC_is_way[11]? = some (.ref pp_is_way))
    (tb_is_way : PySem.W.CodeHd h cc_is_way pp_is_way ∧ h.get? pp_is_way = some { cls := .none, data := .fields #[] })
    (nT_is_way : K.lookup pp_is_way = none)
    (lC_is_name : K.lookup cc_is_name = some ⟨eC_is_name, dC_is_name, .fields vC_is_name, slC_is_name⟩)
    (v11_is_name : vC_is_name[11]? = some (.ref pp_is_name))
    (tb_is_name : PySem.W.CodeHd h cc_is_name pp_is_name ∧ h.get? pp_is_name = some { cls := .none, data := .fields #[] })
    (nT_is_name : K.lookup pp_is_name = none)
    (lC_read_integer : K.lookup cc_read_integer = some ⟨eC_read_integer, dC_read_integer, .fields vC_read_integer, slC_read_integer⟩)
    (v11_read_integer : vC_read_integer[11]? = some (.ref pp_read_integer))
    (tb_read_integer : PySem.W.CodeHd h cc_read_integer pp_read_integer ∧ h.get? pp_read_integer = some { cls := .none, data := .fields #[] })
    (nT_read_integer : K.lookup pp_read_integer = none)
    (lC_law : K.lookup cc_law = some ⟨eC_law, dC_law, .fields vC_law, slC_law⟩)
    (v11_law : vC_law[11]? = some (.ref pp_law))
    (tb_law : PySem.W.CodeHd h cc_law pp_law ∧ h.get? pp_law = some { cls := .none, data := .fields #[] })
    (nT_law : K.lookup pp_law = none)
    (ne_law_is_way : pp_law ≠ pp_is_way)
    (ne_law_is_name : pp_law ≠ pp_is_name)
    (ne_law_read_integer : pp_law ≠ pp_read_integer) :
    LamX.LawAtS l w K CX0 9 63 "script" mg fa h := by
  have e := hfa.symm.trans (PySem.W.mg_of X G a_law)
  cases e
  have T : Txt K w mg { f_is_value := f_is_value, fd_is_value := PySem.W.fnOf "is_value" "is_value" (defArgs s_is_value) (defBody s_is_value) (defScope s_is_value) .none kV_is_value dc_is_value pm_is_value an_is_value cd_is_value ct_is_value, cd_is_value := cd_is_value, f_is_way := f_is_way, fd_is_way := PySem.W.fnOf "is_way" "is_way" (defArgs s_is_way) (defBody s_is_way) (defScope s_is_way) .none kV_is_way dc_is_way pm_is_way an_is_way (.ref cc_is_way) ct_is_way, cd_is_way := (.ref cc_is_way), f_require_way := f_require_way, fd_require_way := PySem.W.fnOf "require_way" "require_way" (defArgs s_require_way) (defBody s_require_way) (defScope s_require_way) .none kV_require_way dc_require_way pm_require_way an_require_way cd_require_way ct_require_way, cd_require_way := cd_require_way, f_is_name := f_is_name, fd_is_name := PySem.W.fnOf "is_name" "is_name" (defArgs s_is_name) (defBody s_is_name) (defScope s_is_name) .none kV_is_name dc_is_name pm_is_name an_is_name (.ref cc_is_name) ct_is_name, cd_is_name := (.ref cc_is_name), f_is_pair := f_is_pair, fd_is_pair := PySem.W.fnOf "is_pair" "is_pair" (defArgs s_is_pair) (defBody s_is_pair) (defScope s_is_pair) .none kV_is_pair dc_is_pair pm_is_pair an_is_pair cd_is_pair ct_is_pair, cd_is_pair := cd_is_pair, f_is_short_tuple := f_is_short_tuple, fd_is_short_tuple := PySem.W.fnOf "is_short_tuple" "is_short_tuple" (defArgs s_is_short_tuple) (defBody s_is_short_tuple) (defScope s_is_short_tuple) .none kV_is_short_tuple dc_is_short_tuple pm_is_short_tuple an_is_short_tuple cd_is_short_tuple ct_is_short_tuple, cd_is_short_tuple := cd_is_short_tuple, f_first_wrong_index := f_first_wrong_index, fd_first_wrong_index := PySem.W.fnOf "first_wrong_index" "first_wrong_index" (defArgs s_first_wrong_index) (defBody s_first_wrong_index) (defScope s_first_wrong_index) .none kV_first_wrong_index dc_first_wrong_index pm_first_wrong_index an_first_wrong_index cd_first_wrong_index ct_first_wrong_index, cd_first_wrong_index := cd_first_wrong_index, f_is_document := f_is_document, fd_is_document := PySem.W.fnOf "is_document" "is_document" (defArgs s_is_document) (defBody s_is_document) (defScope s_is_document) .none kV_is_document dc_is_document pm_is_document an_is_document cd_is_document ct_is_document, cd_is_document := cd_is_document, f_require_document := f_require_document, fd_require_document := PySem.W.fnOf "require_document" "require_document" (defArgs s_require_document) (defBody s_require_document) (defScope s_require_document) .none kV_require_document dc_require_document pm_require_document an_require_document cd_require_document ct_require_document, cd_require_document := cd_require_document, f_require_text := f_require_text, fd_require_text := PySem.W.fnOf "require_text" "require_text" (defArgs s_require_text) (defBody s_require_text) (defScope s_require_text) .none kV_require_text dc_require_text pm_require_text an_require_text cd_require_text ct_require_text, cd_require_text := cd_require_text, f_write_way := f_write_way, fd_write_way := PySem.W.fnOf "write_way" "write_way" (defArgs s_write_way) (defBody s_write_way) (defScope s_write_way) .none kV_write_way dc_write_way pm_write_way an_write_way cd_write_way ct_write_way, cd_write_way := cd_write_way, f_read_way := f_read_way, fd_read_way := PySem.W.fnOf "read_way" "read_way" (defArgs s_read_way) (defBody s_read_way) (defScope s_read_way) .none kV_read_way dc_read_way pm_read_way an_read_way cd_read_way ct_read_way, cd_read_way := cd_read_way, f_write_document := f_write_document, fd_write_document := PySem.W.fnOf "write_document" "write_document" (defArgs s_write_document) (defBody s_write_document) (defScope s_write_document) .none kV_write_document dc_write_document pm_write_document an_write_document cd_write_document ct_write_document, cd_write_document := cd_write_document, f_pairs_text := f_pairs_text, fd_pairs_text := PySem.W.fnOf "pairs_text" "pairs_text" (defArgs s_pairs_text) (defBody s_pairs_text) (defScope s_pairs_text) .none kV_pairs_text dc_pairs_text pm_pairs_text an_pairs_text cd_pairs_text ct_pairs_text, cd_pairs_text := cd_pairs_text, f_read_document := f_read_document, fd_read_document := PySem.W.fnOf "read_document" "read_document" (defArgs s_read_document) (defBody s_read_document) (defScope s_read_document) .none kV_read_document dc_read_document pm_read_document an_read_document cd_read_document ct_read_document, cd_read_document := cd_read_document, f_read_pair := f_read_pair, fd_read_pair := PySem.W.fnOf "read_pair" "read_pair" (defArgs s_read_pair) (defBody s_read_pair) (defScope s_read_pair) .none kV_read_pair dc_read_pair pm_read_pair an_read_pair cd_read_pair ct_read_pair, cd_read_pair := cd_read_pair, f_read_integer := f_read_integer, fd_read_integer := PySem.W.fnOf "read_integer" "read_integer" (defArgs s_read_integer) (defBody s_read_integer) (defScope s_read_integer) .none kV_read_integer dc_read_integer pm_read_integer an_read_integer (.ref cc_read_integer) ct_read_integer, cd_read_integer := (.ref cc_read_integer), f__law_taken := f__law_taken, fd__law_taken := PySem.W.fnOf "_law_taken" "_law_taken" (defArgs s__law_taken) (defBody s__law_taken) (defScope s__law_taken) .none kV__law_taken dc__law_taken pm__law_taken an__law_taken cd__law_taken ct__law_taken, cd__law_taken := cd__law_taken, f__law_pick := f__law_pick, fd__law_pick := PySem.W.fnOf "_law_pick" "_law_pick" (defArgs s__law_pick) (defBody s__law_pick) (defScope s__law_pick) .none kV__law_pick dc__law_pick pm__law_pick an__law_pick cd__law_pick ct__law_pick, cd__law_pick := cd__law_pick, f__law_alike := f__law_alike, fd__law_alike := PySem.W.fnOf "_law_alike" "_law_alike" (defArgs s__law_alike) (defBody s__law_alike) (defScope s__law_alike) .none kV__law_alike dc__law_alike pm__law_alike an__law_alike cd__law_alike ct__law_alike, cd__law_alike := cd__law_alike, f__law_words := f__law_words, fd__law_words := PySem.W.fnOf "_law_words" "_law_words" (defArgs s__law_words) (defBody s__law_words) (defScope s__law_words) .none kV__law_words dc__law_words pm__law_words an__law_words cd__law_words ct__law_words, cd__law_words := cd__law_words, f__law_way := f__law_way, fd__law_way := PySem.W.fnOf "_law_way" "_law_way" (defArgs s__law_way) (defBody s__law_way) (defScope s__law_way) .none kV__law_way dc__law_way pm__law_way an__law_way cd__law_way ct__law_way, cd__law_way := cd__law_way, f__law_told := f__law_told, fd__law_told := PySem.W.fnOf "_law_told" "_law_told" (defArgs s__law_told) (defBody s__law_told) (defScope s__law_told) .none kV__law_told dc__law_told pm__law_told an__law_told cd__law_told ct__law_told, cd__law_told := cd__law_told, f_law := fa, fd_law := PySem.W.fnOf "law" "law" (defArgs s_law) (defBody s_law) (defScope s_law) .none kV_law dc_law pm_law an_law (.ref cc_law) ct_law, cd_law := (.ref cc_law), c_is_way := cc_is_way, p_is_way := pp_is_way, c_is_name := cc_is_name, p_is_name := pp_is_name, c_read_integer := cc_read_integer, p_read_integer := pp_read_integer, c_law := cc_law, p_law := pp_law, a_WORDS := a_WORDS_, k_MergeError := k_MergeError_, k_NotText := k_NotText_, k_InvalidText := k_InvalidText_ } := {
    m_is_value := PySem.W.mg_of X G a_is_value, F_is_value := funC_mk l_is_value c_is_value k_is_value, b_is_value := ((funC_mk l_is_value c_is_value k_is_value).binds fun _ _ _ _ _ _ us hl => (match us, hl with | [_], _ => rfl)),
    m_is_way := PySem.W.mg_of X G a_is_way, F_is_way := funC_mk l_is_way c_is_way k_is_way, b_is_way := ((funC_mk l_is_way c_is_way k_is_way).binds fun _ _ _ _ _ _ us hl => (match us, hl with | [_], _ => rfl)),
    m_require_way := PySem.W.mg_of X G a_require_way, F_require_way := funC_mk l_require_way c_require_way k_require_way, b_require_way := ((funC_mk l_require_way c_require_way k_require_way).binds fun _ _ _ _ _ _ us hl => (match us, hl with | [_], _ => rfl)),
    m_is_name := PySem.W.mg_of X G a_is_name, F_is_name := funC_mk l_is_name c_is_name k_is_name, b_is_name := ((funC_mk l_is_name c_is_name k_is_name).binds fun _ _ _ _ _ _ us hl => (match us, hl with | [_], _ => rfl)),
    m_is_pair := PySem.W.mg_of X G a_is_pair, F_is_pair := funC_mk l_is_pair c_is_pair k_is_pair, b_is_pair := ((funC_mk l_is_pair c_is_pair k_is_pair).binds fun _ _ _ _ _ _ us hl => (match us, hl with | [_], _ => rfl)),
    m_is_short_tuple := PySem.W.mg_of X G a_is_short_tuple, F_is_short_tuple := funC_mk l_is_short_tuple c_is_short_tuple k_is_short_tuple, b_is_short_tuple := ((funC_mk l_is_short_tuple c_is_short_tuple k_is_short_tuple).binds fun _ _ _ _ _ _ us hl => (match us, hl with | [_], _ => rfl)),
    m_first_wrong_index := PySem.W.mg_of X G a_first_wrong_index, F_first_wrong_index := funC_mk l_first_wrong_index c_first_wrong_index k_first_wrong_index, b_first_wrong_index := ((funC_mk l_first_wrong_index c_first_wrong_index k_first_wrong_index).binds fun _ _ _ _ _ _ us hl => (match us, hl with | [_], _ => rfl)),
    m_is_document := PySem.W.mg_of X G a_is_document, F_is_document := funC_mk l_is_document c_is_document k_is_document, b_is_document := ((funC_mk l_is_document c_is_document k_is_document).binds fun _ _ _ _ _ _ us hl => (match us, hl with | [_], _ => rfl)),
    m_require_document := PySem.W.mg_of X G a_require_document, F_require_document := funC_mk l_require_document c_require_document k_require_document, b_require_document := ((funC_mk l_require_document c_require_document k_require_document).binds fun _ _ _ _ _ _ us hl => (match us, hl with | [_], _ => rfl)),
    m_require_text := PySem.W.mg_of X G a_require_text, F_require_text := funC_mk l_require_text c_require_text k_require_text, b_require_text := ((funC_mk l_require_text c_require_text k_require_text).binds fun _ _ _ _ _ _ us hl => (match us, hl with | [_], _ => rfl)),
    m_write_way := PySem.W.mg_of X G a_write_way, F_write_way := funC_mk l_write_way c_write_way k_write_way, b_write_way := ((funC_mk l_write_way c_write_way k_write_way).binds fun _ _ _ _ _ _ us hl => (match us, hl with | [_], _ => rfl)),
    m_read_way := PySem.W.mg_of X G a_read_way, F_read_way := funC_mk l_read_way c_read_way k_read_way, b_read_way := ((funC_mk l_read_way c_read_way k_read_way).binds fun _ _ _ _ _ _ us hl => (match us, hl with | [_], _ => rfl)),
    m_write_document := PySem.W.mg_of X G a_write_document, F_write_document := funC_mk l_write_document c_write_document k_write_document, b_write_document := ((funC_mk l_write_document c_write_document k_write_document).binds fun _ _ _ _ _ _ us hl => (match us, hl with | [_], _ => rfl)),
    m_pairs_text := PySem.W.mg_of X G a_pairs_text, F_pairs_text := funC_mk l_pairs_text c_pairs_text k_pairs_text, b_pairs_text := ((funC_mk l_pairs_text c_pairs_text k_pairs_text).binds fun _ _ _ _ _ _ us hl => (match us, hl with | [_], _ => rfl)),
    m_read_document := PySem.W.mg_of X G a_read_document, F_read_document := funC_mk l_read_document c_read_document k_read_document, b_read_document := ((funC_mk l_read_document c_read_document k_read_document).binds fun _ _ _ _ _ _ us hl => (match us, hl with | [_], _ => rfl)),
    m_read_pair := PySem.W.mg_of X G a_read_pair, F_read_pair := funC_mk l_read_pair c_read_pair k_read_pair, b_read_pair := ((funC_mk l_read_pair c_read_pair k_read_pair).binds fun _ _ _ _ _ _ us hl => (match us, hl with | [_], _ => rfl)),
    m_read_integer := PySem.W.mg_of X G a_read_integer, F_read_integer := funC_mk l_read_integer c_read_integer k_read_integer, b_read_integer := ((funC_mk l_read_integer c_read_integer k_read_integer).binds fun _ _ _ _ _ _ us hl => (match us, hl with | [_], _ => rfl)),
    m__law_taken := PySem.W.mg_of X G a__law_taken, F__law_taken := funC_mk l__law_taken c__law_taken k__law_taken, b__law_taken := ((funC_mk l__law_taken c__law_taken k__law_taken).binds fun _ _ _ _ _ _ us hl => (match us, hl with | [_, _], _ => rfl)),
    m__law_pick := PySem.W.mg_of X G a__law_pick, F__law_pick := funC_mk l__law_pick c__law_pick k__law_pick, b__law_pick := ((funC_mk l__law_pick c__law_pick k__law_pick).binds fun _ _ _ _ _ _ us hl => (match us, hl with | [_, _], _ => rfl)),
    m__law_alike := PySem.W.mg_of X G a__law_alike, F__law_alike := funC_mk l__law_alike c__law_alike k__law_alike, b__law_alike := ((funC_mk l__law_alike c__law_alike k__law_alike).binds fun _ _ _ _ _ _ us hl => (match us, hl with | [_, _], _ => rfl)),
    m__law_words := PySem.W.mg_of X G a__law_words, F__law_words := funC_mk l__law_words c__law_words k__law_words, b__law_words := ((funC_mk l__law_words c__law_words k__law_words).binds fun _ _ _ _ _ _ us hl => (match us, hl with | [], _ => rfl)),
    m__law_way := PySem.W.mg_of X G a__law_way, F__law_way := funC_mk l__law_way c__law_way k__law_way, b__law_way := ((funC_mk l__law_way c__law_way k__law_way).binds fun _ _ _ _ _ _ us hl => (match us, hl with | [_], _ => rfl)),
    m__law_told := PySem.W.mg_of X G a__law_told, F__law_told := funC_mk l__law_told c__law_told k__law_told, b__law_told := ((funC_mk l__law_told c__law_told k__law_told).binds fun _ _ _ _ _ _ us hl => (match us, hl with | [_], _ => rfl)),
    m_law := PySem.W.mg_of X G a_law, F_law := funC_mk l_law c_law k_law, b_law := ((funC_mk l_law c_law k_law).binds fun _ _ _ _ _ _ us hl => (match us, hl with | [_], _ => rfl)),
    m_isinstance := PySem.W.mg_none_of X G z_isinstance,
    m_int := PySem.W.mg_none_of X G z_int,
    m_bool := PySem.W.mg_none_of X G z_bool,
    m_tuple := PySem.W.mg_none_of X G z_tuple,
    m_len := PySem.W.mg_none_of X G z_len,
    m_all := PySem.W.mg_none_of X G z_all,
    m_zip := PySem.W.mg_none_of X G z_zip,
    m_list := PySem.W.mg_none_of X G z_list,
    m_range := PySem.W.mg_none_of X G z_range,
    m_str := PySem.W.mg_none_of X G z_str,
    m_enumerate := PySem.W.mg_none_of X G z_enumerate,
    x_MergeError := ⟨PySem.W.mg_of X G gl_MergeError, xc_MergeError, xk_MergeError, xs_MergeError, xt_MergeError⟩,
    x_NotText := ⟨PySem.W.mg_of X G gl_NotText, xc_NotText, xk_NotText, xs_NotText, xt_NotText⟩,
    x_InvalidText := ⟨PySem.W.mg_of X G gl_InvalidText, xc_InvalidText, xk_InvalidText, xs_InvalidText, xt_InvalidText⟩,
    e_NotText := ⟨ehg_NotText, ehk_NotText, xs_NotText, ehd_NotText, eha_NotText, ehn, eht, ehm_NotText⟩, c_NotText := ex_NotText,
    i_NotText_NotText := ki_NotText_NotText,
    i_NotText_InvalidText := ki_NotText_InvalidText,
    e_InvalidText := ⟨ehg_InvalidText, ehk_InvalidText, xs_InvalidText, ehd_InvalidText, eha_InvalidText, ehn, eht, ehm_InvalidText⟩, c_InvalidText := ex_InvalidText,
    i_InvalidText_NotText := ki_InvalidText_NotText,
    i_InvalidText_InvalidText := ki_InvalidText_InvalidText,
    cw_is_way := rfl,
    cw_is_name := rfl,
    cw_read_integer := rfl,
    cw_law := rfl,
    m_GREATEST_INTEGER := ⟨_, PySem.W.mg_of X G g_GREATEST_INTEGER⟩,
    m_WORDS := PySem.W.mg_of X G g_WORDS,
    d_WORDS := fun M => dp_wref (as := [w1, w2, w3, w4, w5]) lW sW qW (.cons (dp_wtup lw1 sw1 qw1) (.cons (dp_wtup lw2 sw2 qw2) (.cons (dp_wtup lw3 sw3 qw3) (.cons (dp_wtup lw4 sw4 qw4) (.cons (dp_wtup lw5 sw5 qw5) .nil))))),
    m_GREATEST_COUNT := ⟨_, PySem.W.mg_of X G g_GREATEST_COUNT⟩,
    m_GREATEST_LENGTH := ⟨_, PySem.W.mg_of X G g_GREATEST_LENGTH⟩,
    m_LETTERS := ⟨_, PySem.W.mg_of X G g_LETTERS⟩,
    m_DIGITS := ⟨_, PySem.W.mg_of X G g_DIGITS⟩ }
  refine ⟨_, [(cc_is_way, pp_is_way), (cc_is_name, pp_is_name), (cc_read_integer, pp_read_integer), (cc_law, pp_law)], spD K (Ok K _) (sp_law K), fun p hp => ?_, fun p hp => ?_, fun p hp => ?_, fun s u => .of_eq rfl, fun H a ns hl _ hT hS => ?_, fun base _ _ TB => ok_law (P := l.prog) T ⟨tab_conv (TB (cc_is_way, pp_is_way) List.mem_cons_self), tab_conv (TB (cc_is_name, pp_is_name) (List.mem_cons_of_mem _ List.mem_cons_self)), tab_conv (TB (cc_read_integer, pp_read_integer) (List.mem_cons_of_mem _ (List.mem_cons_of_mem _ List.mem_cons_self))), tab_conv (TB (cc_law, pp_law) (List.mem_cons_of_mem _ (List.mem_cons_of_mem _ (List.mem_cons_of_mem _ List.mem_cons_self))))⟩⟩
  · rcases List.mem_cons.mp hp with hp | hp
    · rw [hp]
      exact tb_is_way.2
    rcases List.mem_cons.mp hp with hp | hp
    · rw [hp]
      exact tb_is_name.2
    rcases List.mem_cons.mp hp with hp | hp
    · rw [hp]
      exact tb_read_integer.2
    rcases List.mem_cons.mp hp with hp | hp
    · rw [hp]
      exact tb_law.2
    exact nomatch hp
  · rcases List.mem_cons.mp hp with hp | hp
    · rw [hp]
      exact nT_is_way
    rcases List.mem_cons.mp hp with hp | hp
    · rw [hp]
      exact nT_is_name
    rcases List.mem_cons.mp hp with hp | hp
    · rw [hp]
      exact nT_read_integer
    rcases List.mem_cons.mp hp with hp | hp
    · rw [hp]
      exact nT_law
    exact nomatch hp
  · rcases List.mem_cons.mp hp with hp | hp
    · rw [hp]
      exact tb_is_way.1
    rcases List.mem_cons.mp hp with hp | hp
    · rw [hp]
      exact tb_is_name.1
    rcases List.mem_cons.mp hp with hp | hp
    · rw [hp]
      exact tb_read_integer.1
    rcases List.mem_cons.mp hp with hp | hp
    · rw [hp]
      exact tb_law.1
    exact nomatch hp
  · refine law_startL (ps := [pp_is_way, pp_is_name, pp_read_integer]) (ls := [(pp_law, "law" ++ ".<locals>." ++ "<lambda>")]) (fun p hp => ?_) (fun p hp p2 hp2 _ => ?_) (fun p hp => ?_) (fun p hp => ?_) hS (fun S t l => ⟨t _ List.mem_cons_self, t _ (List.mem_cons_of_mem _ List.mem_cons_self), t _ (List.mem_cons_of_mem _ (List.mem_cons_of_mem _ List.mem_cons_self)), l _ List.mem_cons_self⟩) (fun S hs => ⟨a, ns, rfl, hl, hs, rfl⟩)
    · skip
      rcases List.mem_cons.mp hp with hp | hp
      · rw [hp]
        intro z
        rcases List.mem_cons.mp z with z | z
        · exact ne_law_is_way z
        rcases List.mem_cons.mp z with z | z
        · exact ne_law_is_name z
        rcases List.mem_cons.mp z with z | z
        · exact ne_law_read_integer z
        exact nomatch z
      exact nomatch hp
    · rw [List.mem_singleton.mp hp, List.mem_singleton.mp hp2]
    · skip
      rcases List.mem_cons.mp hp with hp | hp
      · rw [hp]
        exact hT (cc_is_way, pp_is_way) List.mem_cons_self
      rcases List.mem_cons.mp hp with hp | hp
      · rw [hp]
        exact hT (cc_is_name, pp_is_name) (List.mem_cons_of_mem _ List.mem_cons_self)
      rcases List.mem_cons.mp hp with hp | hp
      · rw [hp]
        exact hT (cc_read_integer, pp_read_integer) (List.mem_cons_of_mem _ (List.mem_cons_of_mem _ List.mem_cons_self))
      exact nomatch hp
    · skip
      rcases List.mem_cons.mp hp with hp | hp
      · rw [hp]
        exact hT (cc_law, pp_law) (List.mem_cons_of_mem _ (List.mem_cons_of_mem _ (List.mem_cons_of_mem _ List.mem_cons_self)))
      exact nomatch hp
end Tw.K08
open PySem PySem.W PyProof.Rows in
set_option maxRecDepth 100000 in
set_option maxHeartbeats 0 in
theorem PySem.Challenge.cw_threeways_k08_whole_texts_holds : PySem.Challenge.rw_threeways_k08_whole_texts.Holds := by
  w_on; o_law; k_head; (case hw => w_witness2)
  k_fill
  refine Tw.walk_tab (l := PySem.Challenge.rw_threeways_k08_whole_texts) (n := 63) (k := 9) (x := "script") (CX := fun _ => L2.CX0) rfl (by decide) rfl ⟨rfl, by decide, by decide⟩ (fun w h Y => PySem.W.km_in_of Y) ?F (fun _ _ _ _ _ z => z)
  case F =>
    intro w mg fa h Y KX G hmg tabs
    refine' Tw.K08.all_mk KX G hmg ?a_is_value ?l_is_value ?c_is_value ?k_is_value ?a_is_way ?l_is_way ?c_is_way ?k_is_way ?a_require_way ?l_require_way ?c_require_way ?k_require_way ?a_is_name ?l_is_name ?c_is_name ?k_is_name ?a_is_pair ?l_is_pair ?c_is_pair ?k_is_pair ?a_is_short_tuple ?l_is_short_tuple ?c_is_short_tuple ?k_is_short_tuple ?a_first_wrong_index ?l_first_wrong_index ?c_first_wrong_index ?k_first_wrong_index ?a_is_document ?l_is_document ?c_is_document ?k_is_document ?a_require_document ?l_require_document ?c_require_document ?k_require_document ?a_require_text ?l_require_text ?c_require_text ?k_require_text ?a_write_way ?l_write_way ?c_write_way ?k_write_way ?a_read_way ?l_read_way ?c_read_way ?k_read_way ?a_write_document ?l_write_document ?c_write_document ?k_write_document ?a_pairs_text ?l_pairs_text ?c_pairs_text ?k_pairs_text ?a_read_document ?l_read_document ?c_read_document ?k_read_document ?a_read_pair ?l_read_pair ?c_read_pair ?k_read_pair ?a_read_integer ?l_read_integer ?c_read_integer ?k_read_integer ?a__law_taken ?l__law_taken ?c__law_taken ?k__law_taken ?a__law_pick ?l__law_pick ?c__law_pick ?k__law_pick ?a__law_alike ?l__law_alike ?c__law_alike ?k__law_alike ?a__law_words ?l__law_words ?c__law_words ?k__law_words ?a__law_way ?l__law_way ?c__law_way ?k__law_way ?a__law_told ?l__law_told ?c__law_told ?k__law_told ?a_law ?l_law ?c_law ?k_law ?z_isinstance ?z_int ?z_bool ?z_tuple ?z_len ?z_all ?z_zip ?z_list ?z_range ?z_str ?z_enumerate ?gl_MergeError ?xc_MergeError ?xk_MergeError ?xs_MergeError ?xt_MergeError ?gl_NotText ?xc_NotText ?xk_NotText ?xs_NotText ?xt_NotText ?gl_InvalidText ?xc_InvalidText ?xk_InvalidText ?xs_InvalidText ?xt_InvalidText ?ehg_NotText ?ehk_NotText ?ehd_NotText ?eha_NotText ?ehm_NotText ?ex_NotText ?ki_NotText_NotText ?ki_NotText_InvalidText ?ehg_InvalidText ?ehk_InvalidText ?ehd_InvalidText ?eha_InvalidText ?ehm_InvalidText ?ex_InvalidText ?ki_InvalidText_NotText ?ki_InvalidText_InvalidText ?ehn ?eht ?g_GREATEST_INTEGER ?g_WORDS ?lW ?sW ?qW ?lw1 ?sw1 ?qw1 ?lw2 ?sw2 ?qw2 ?lw3 ?sw3 ?qw3 ?lw4 ?sw4 ?qw4 ?lw5 ?sw5 ?qw5 ?g_GREATEST_COUNT ?g_GREATEST_LENGTH ?g_LETTERS ?g_DIGITS ?lC_is_way ?v11_is_way ?tb_is_way ?nT_is_way ?lC_is_name ?v11_is_name ?tb_is_name ?nT_is_name ?lC_read_integer ?v11_read_integer ?tb_read_integer ?nT_read_integer ?lC_law ?v11_law ?tb_law ?nT_law ?ne_law_is_way ?ne_law_is_name ?ne_law_read_integer
    (case a_is_value => k_is)
    (case l_is_value => k_is)
    (case c_is_value => k_is)
    (case k_is_value => k_is)
    (case a_is_way => k_is)
    (case l_is_way => k_is)
    (case c_is_way => k_is)
    (case k_is_way => k_is)
    (case a_require_way => k_is)
    (case l_require_way => k_is)
    (case c_require_way => k_is)
    (case k_require_way => k_is)
    (case a_is_name => k_is)
    (case l_is_name => k_is)
    (case c_is_name => k_is)
    (case k_is_name => k_is)
    (case a_is_pair => k_is)
    (case l_is_pair => k_is)
    (case c_is_pair => k_is)
    (case k_is_pair => k_is)
    (case a_is_short_tuple => k_is)
    (case l_is_short_tuple => k_is)
    (case c_is_short_tuple => k_is)
    (case k_is_short_tuple => k_is)
    (case a_first_wrong_index => k_is)
    (case l_first_wrong_index => k_is)
    (case c_first_wrong_index => k_is)
    (case k_first_wrong_index => k_is)
    (case a_is_document => k_is)
    (case l_is_document => k_is)
    (case c_is_document => k_is)
    (case k_is_document => k_is)
    (case a_require_document => k_is)
    (case l_require_document => k_is)
    (case c_require_document => k_is)
    (case k_require_document => k_is)
    (case a_require_text => k_is)
    (case l_require_text => k_is)
    (case c_require_text => k_is)
    (case k_require_text => k_is)
    (case a_write_way => k_is)
    (case l_write_way => k_is)
    (case c_write_way => k_is)
    (case k_write_way => k_is)
    (case a_read_way => k_is)
    (case l_read_way => k_is)
    (case c_read_way => k_is)
    (case k_read_way => k_is)
    (case a_write_document => k_is)
    (case l_write_document => k_is)
    (case c_write_document => k_is)
    (case k_write_document => k_is)
    (case a_pairs_text => k_is)
    (case l_pairs_text => k_is)
    (case c_pairs_text => k_is)
    (case k_pairs_text => k_is)
    (case a_read_document => k_is)
    (case l_read_document => k_is)
    (case c_read_document => k_is)
    (case k_read_document => k_is)
    (case a_read_pair => k_is)
    (case l_read_pair => k_is)
    (case c_read_pair => k_is)
    (case k_read_pair => k_is)
    (case a_read_integer => k_is)
    (case l_read_integer => k_is)
    (case c_read_integer => k_is)
    (case k_read_integer => k_is)
    (case a__law_taken => k_is)
    (case l__law_taken => k_is)
    (case c__law_taken => k_is)
    (case k__law_taken => k_is)
    (case a__law_pick => k_is)
    (case l__law_pick => k_is)
    (case c__law_pick => k_is)
    (case k__law_pick => k_is)
    (case a__law_alike => k_is)
    (case l__law_alike => k_is)
    (case c__law_alike => k_is)
    (case k__law_alike => k_is)
    (case a__law_words => k_is)
    (case l__law_words => k_is)
    (case c__law_words => k_is)
    (case k__law_words => k_is)
    (case a__law_way => k_is)
    (case l__law_way => k_is)
    (case c__law_way => k_is)
    (case k__law_way => k_is)
    (case a__law_told => k_is)
    (case l__law_told => k_is)
    (case c__law_told => k_is)
    (case k__law_told => k_is)
    (case a_law => k_is)
    (case l_law => k_is)
    (case c_law => k_is)
    (case k_law => k_is)
    (case z_isinstance => k_is)
    (case z_int => k_is)
    (case z_bool => k_is)
    (case z_tuple => k_is)
    (case z_len => k_is)
    (case z_all => k_is)
    (case z_zip => k_is)
    (case z_list => k_is)
    (case z_range => k_is)
    (case z_str => k_is)
    (case z_enumerate => k_is)
    (case gl_MergeError => k_is)
    (case xc_MergeError => k_exc)
    (case xk_MergeError => k_is)
    (case xs_MergeError => k_is)
    (case xt_MergeError => k_is)
    (case gl_NotText => k_is)
    (case xc_NotText => k_exc)
    (case xk_NotText => k_is)
    (case xs_NotText => k_is)
    (case xt_NotText => k_is)
    (case gl_InvalidText => k_is)
    (case xc_InvalidText => k_exc)
    (case xk_InvalidText => k_is)
    (case xs_InvalidText => k_is)
    (case xt_InvalidText => k_is)
    (case ehg_NotText => k_is)
    (case ehk_NotText => k_is)
    (case ehd_NotText => k_is)
    (case eha_NotText => k_is)
    (case ehm_NotText => k_is)
    (case ex_NotText => exact Tw.exm_mk (by k_is) (by k_is) (by k_is) (by first | rfl | k_is))
    (case ki_NotText_NotText => exact Tw.kit_self)
    (case ki_NotText_InvalidText => exact Tw.kit_mk (by decide) (by k_is) (by k_is) (by first | rfl | k_is))
    (case ehg_InvalidText => k_is)
    (case ehk_InvalidText => k_is)
    (case ehd_InvalidText => k_is)
    (case eha_InvalidText => k_is)
    (case ehm_InvalidText => k_is)
    (case ex_InvalidText => exact Tw.exm_mk (by k_is) (by k_is) (by k_is) (by first | rfl | k_is))
    (case ki_InvalidText_NotText => exact Tw.kit_mk (by decide) (by k_is) (by k_is) (by first | rfl | k_is))
    (case ki_InvalidText_InvalidText => exact Tw.kit_self)
    (case ehn => k_is)
    (case eht => k_is)
    (case g_GREATEST_INTEGER => k_is)
    (case g_WORDS => k_is)
    (case lW => k_is)
    (case sW => decide)
    (case qW => rfl)
    (case lw1 => k_is)
    (case sw1 => decide)
    (case qw1 => rfl)
    (case lw2 => k_is)
    (case sw2 => decide)
    (case qw2 => rfl)
    (case lw3 => k_is)
    (case sw3 => decide)
    (case qw3 => rfl)
    (case lw4 => k_is)
    (case sw4 => decide)
    (case qw4 => rfl)
    (case lw5 => k_is)
    (case sw5 => decide)
    (case qw5 => rfl)
    (case g_GREATEST_COUNT => k_is)
    (case g_GREATEST_LENGTH => k_is)
    (case g_LETTERS => k_is)
    (case g_DIGITS => k_is)
    (case lC_is_way => k_is)
    (case v11_is_way => rfl)
    (case tb_is_way => exact tabs "is_way" _ _ _ rfl (by kernel_rfl))
    (case nT_is_way => kernel_rfl)
    (case lC_is_name => k_is)
    (case v11_is_name => rfl)
    (case tb_is_name => exact tabs "is_name" _ _ _ rfl (by kernel_rfl))
    (case nT_is_name => kernel_rfl)
    (case lC_read_integer => k_is)
    (case v11_read_integer => rfl)
    (case tb_read_integer => exact tabs "read_integer" _ _ _ rfl (by kernel_rfl))
    (case nT_read_integer => kernel_rfl)
    (case lC_law => k_is)
    (case v11_law => rfl)
    (case tb_law => exact ⟨PySem.W.codeHd_of_K KX (by kernel_rfl), PySem.W.km_tabs_of Y _ (by decide)⟩)
    (case nT_law => kernel_rfl)
    (case ne_law_is_way => decide)
    (case ne_law_is_name => decide)
    (case ne_law_read_integer => decide)
