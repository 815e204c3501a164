import PyProof.Rows.All
import Wide.All
import OpenK.AllK
import Wide.FinOn
import HandS.ForMost
import HandS.TupAny
import HandS.Conv
import HandS.Base
import HandS.Call
import HandS.List
import HandS.Comp
import HandS.Iter
import HandS.Dict
import HandS.Ends
import HandS.Words
import HandS.WordsList
import HandS.Walk
import HandS.Style
import KE.DataFind
import HandS.TupMul
import HandS.Deep
import KE.GoesMore
import KE.KDictKeyed
import KE.KDictWalk
import PyProof.Rows.TupTab
import HandS.TupLen
import HandS.Records
import KE.KDictDisplayH
import PyProof.AutoSeq1
import HandS.Star
import HandS.SortKw
import KE.DataMinMax
import HandS.GenOver
import HandS.GenList
import HandS.IsInst
import HandS.Zip
import HandS.Defaults
import HandS.Lambda
import KE.DataMinKey
import KE.LtData
import KE.DataCmp
import KE.KStateDown
import HandS.Head0
import HandS.Head1
import HandS.Head2
import HandS.HeadEnd
import HandS.HeadHook1
import HandS.HeadHook2
import HandS.HeadHook3
import HandS.HeadHook4
import HandS.HeadWalk
import HandS.EndTab
import PySem.Challenge.RW_weavelines_k02_whole_judges
section
set_option Elab.async false
set_option linter.all false
set_option maxRecDepth 100000
/-! Tuples that are laid are known to have no dict of their own (a method is looked up on them). -/
namespace WL
open PySem PySem.Spec PyProof.Rows L2
/-- a tuple that is laid -/
abbrev nt (vs : Array Value) : Obj := { cls := .type "tuple", data := .seq vs }
theorem okN {P : Program} {w : World} {H : Hp} {h : Heap} {a : Addr} {xs : List V} {us : List Value} (hz : xs.length ≤ sizeLine) (r : Vals xs us) (e : h.get? a = some (nt us.toArray)) : ObjOk P w H h a (.frz (nt us.toArray) (.tup xs)) :=
  ⟨e, hz, us, r, ⟨_, e, rfl, _, rfl⟩⟩
section
variable {X : Cx} {e : Expr} {es : List Expr} {te : TE} {t : TA} {pos : Pos}
def tTupN (t : TA) : TE := fun σ H Q => t σ H fun xs H1 => xs.length ≤ sizeLine ∧ ∀ (p : Addr) (o : Obj), H1 p = none → o.dict = none → Q (.ref p) (upd H1 p (.frz o (.tup xs)))
theorem pe_tupN {x1} (h : PA X es t) : PE X (.Tuple es x1 pos) (tTupN t) := by
  refine ⟨fun pins s σ H Q I hq => ?_⟩
  refine wpAny_Tuple_spliced (thn (h.run pos pins s σ H _ I hq) fun us s1 ⟨xs, H1, I1, r, z, q⟩ => ⟨by rw [← r.length]; exact z, ?_⟩)
  have hf : H1 s1.heap.objs.size = none := I1.hok.fresh (Nat.le_refl _)
  exact ⟨.ref s1.heap.objs.size, upd H1 s1.heap.objs.size (.frz (nt us.toArray) (.tup xs)), I1.laid (t' := s1.toks) (fun b u q => Heap.get?_push_of_some _ q) (Nat.le_refl _) (okN z r (Heap.get?_push_size _ rfl)), rfl, q _ _ hf rfl⟩
/-- tuple(a list), tuple(a tuple) -/
def rTupN (K : PySem.W.Frag) : List V → Hp → VK → Prop := fun xs H Q => ∃ p ys, xs = [.ref p] ∧
  ((SqL K H p ys ∧ ∀ (l : Addr) (o : Obj), H l = none → o.dict = none → Q (.ref l) (upd H l (.frz o (.tup ys)))) ∨ (SqT K H p ys ∧ Q (.ref p) H))
theorem call_tupN : CallR X (.type "tuple") (rTupN X.K) := by
  intro pins s σ H xs us Q I r h
  obtain ⟨p, ys, rfl, h⟩ := h
  obtain ⟨u, rfl, rx⟩ := vals1 r
  cases rx
  rcases h with ⟨hq, q⟩ | ⟨hq, q⟩
  · obtain ⟨its, r', pl, hz⟩ := I.list hq
    have hlen := r'.length
    refine call_tuple_list pl.isList (fun h' kp => ?_) (by simp only [List.size_toArray] <;> omega)
    have I1 : Inv X pins σ H { s with heap := h' } := I.kept (t' := s.toks) kp
    have I2 := I1.laid (t' := s.toks) (o := .frz (nt its.toArray) (.tup ys)) (a := h'.objs.size) (h' := h'.push (nt its.toArray)) (fun b o q => Heap.get?_push_of_some _ q) (Nat.le_refl _) (okN hz r' (Heap.get?_push_size _ rfl))
    exact ⟨.ref h'.objs.size, _, I2, rfl, q _ _ (I1.hok.fresh (Nat.le_refl _)) rfl⟩
  · obtain ⟨its, r', pl, hz⟩ := I.tuple hq
    exact call_tuple_same pl ⟨.ref p, H, I, rfl, q⟩
/-- t + u -/
def rCatN (K : PySem.W.Frag) : R2 := fun x y H Q => ∃ a b xs ys, x = .ref a ∧ y = .ref b ∧ SqT K H a xs ∧ SqT K H b ys ∧ xs.length + ys.length ≤ sizeLine ∧
  (xs = [] → Q (.ref b) H) ∧ (xs ≠ [] → ys = [] → Q (.ref a) H) ∧ (xs ≠ [] → ys ≠ [] → ∀ (p : Addr) (o : Obj), H p = none → o.dict = none → Q (.ref p) (upd H p (.frz o (.tup (xs ++ ys)))))
theorem op_catN : OpR X (binaryOp .Add) (rCatN X.K) := by
  intro pins s σ H x y v u Q I rx ry h
  obtain ⟨a, b, xs, ys, rfl, rfl, ha, hb, hz, q0, q1, q2⟩ := h
  cases rx
  cases ry
  obtain ⟨its, r1, p1, _⟩ := I.tuple ha
  obtain ⟨its2, r2, p2, _⟩ := I.tuple hb
  by_cases hx : xs = []
  · subst hx
    cases r1
    exact L2.cat_tup0 p1 p2 ⟨.ref b, H, I, rfl, q0 rfl⟩
  · refine HT.cat_tup p1 p2 (fun z => hx (r1.nil_iff.mp z)) (fun z => ⟨.ref a, H, I, rfl, q1 hx (r2.nil_iff.mp z)⟩) (fun z => ?_) (by rw [← r1.length, ← r2.length]; exact hz)
    refine ⟨.ref s.heap.objs.size, _, I.laid (t' := s.toks) (o := .frz (nt (its ++ its2).toArray) (.tup (xs ++ ys))) (fun b ob q => Heap.get?_push_of_some _ q) (Nat.le_refl _) (okN (by rw [List.length_append]; exact hz) (r1.append r2) (Heap.get?_push_size _ rfl)), rfl,
      q2 hx (fun w => z (r2.nil_iff.mpr w)) _ _ (I.hok.fresh (Nat.le_refl _)) rfl⟩
/-- t[lo:hi]: the whole of it is t itself -/
def rSlN (K : PySem.W.Frag) : V → Option Int → Option Int → Hp → VK → Prop := fun x lo hi H Q => ∃ a xs, x = .ref a ∧ SqT K H a xs ∧
  (HT.sIx xs.length 0 lo = 0 ∧ HT.sIx xs.length xs.length hi = xs.length → Q (.ref a) H) ∧
  (¬ (HT.sIx xs.length 0 lo = 0 ∧ HT.sIx xs.length xs.length hi = xs.length) → ∀ (p : Addr) (o : Obj), H p = none → o.dict = none → Q (.ref p) (upd H p (.frz o (.tup (cutV xs lo hi)))))
theorem sl_tupN : SlR X (rSlN X.K) := by
  intro pins s σ H x v vl vu lo hi sl Q I rx hs pl pu h
  obtain ⟨a, xs, rfl, hx, q1, q2⟩ := h
  cases rx
  obtain ⟨its, r, ht, hz⟩ := I.tuple hx
  have hlen : its.toArray.size = xs.length := by rw [List.size_toArray]; exact r.length.symm
  refine ⟨"tuple", _, PyProof.Rows.slot_tuple_getitem.lookup, ht.typeIs, ?_⟩
  by_cases hw : HT.sIx xs.length 0 lo = 0 ∧ HT.sIx xs.length xs.length hi = xs.length
  · exact L2.getItem_tuple_whole ht hs pl pu (by rw [hlen]; exact hw) ⟨.ref a, H, I, rfl, q1 hw⟩
  · refine HT.getItem_tuple_cut ht hs pl pu (by rw [hlen]; exact hw) ?_ (by rw [hlen]; exact hz)
    rw [hlen]
    exact ⟨.ref s.heap.objs.size, _, I.laid (t' := s.toks) (o := .frz (nt ((its.drop (HT.sIx xs.length 0 lo)).take (HT.sIx xs.length xs.length hi - HT.sIx xs.length 0 lo)).toArray) (.tup (cutV xs lo hi))) (fun b ob q => Heap.get?_push_of_some _ q) (Nat.le_refl _)
      (okN (Nat.le_trans (cutV_length xs lo hi) hz) ((r.drop (HT.sIx xs.length 0 lo)).take (HT.sIx xs.length xs.length hi - HT.sIx xs.length 0 lo)) (Heap.get?_push_size _ rfl)), rfl, q2 hw _ _ (I.hok.fresh (Nat.le_refl _)) rfl⟩
/-- tuple(range(..)) -/
def tTupRgN (te : L2.St → Hp → (Int → Int → Hp → Prop) → Prop) : TE := fun σ H Q => te σ H fun a b H1 => RgOk a b ∧ ∀ (p : Addr) (o : Obj), H1 p = none → o.dict = none → Q (.ref p) (upd H1 p (.frz o (.tup (rgV a b))))
theorem pe_tupRgN {p pos : Pos} {te : L2.St → Hp → (Int → Int → Hp → Prop) → Prop} (hc : X.calm = true) (hg : Gl X "tuple") (hm : X.mg "tuple" = none) (he : PRg X e te) (na : starEach [e] X.env = (false, eval e X.env) :: starEach [] X.env := by rfl) : PE X (.Call (.Name "tuple" p) [e] [] pos) (tTupRgN te) := by
  refine ⟨fun pins s σ H Q I h => ?_⟩
  refine Call_ (ld_blt I hg hm boot_tuple (PyProof.Rows.callWith_type1 (args_cons (thn (he pins s σ H _ I h) fun x s1 ⟨r, a, b, t, u, v, H1, ex, hr, I1, ok, q⟩ => args_nil ?_) na) na))
  subst ex
  obtain ⟨b1, b2, b3, b4, b5⟩ := ok
  refine call_tuple_range (n := (b - a).toNat) (I1.ok.hd hc) hr (small_one b1 b2 b3 b4) (rangeSize_nat a b) b5 fun h' tk acc hk hi => ?_
  have I2 : Inv X pins σ H1 { s1 with heap := h', toks := tk } := I1.kept hk
  have hz : (rgV a b).length ≤ sizeLine := by rw [rgV_length, sizeLine_eq]; omega
  refine ⟨.ref h'.objs.size, upd H1 h'.objs.size (.frz (nt acc.toList.toArray) (.tup (rgV a b))), I2.laid (t' := tk) (fun c o q => Heap.get?_push_of_some _ q) (Nat.le_refl _) (okN hz (vals_rg hi) ?_), rfl, q _ _ (I2.hok.fresh (Nat.le_refl _)) rfl⟩
  rw [Array.toArray_toList]
  exact Heap.get?_push_size _ rfl
end
end WL
end
section
set_option Elab.async false
set_option linter.all false
set_option maxRecDepth 100000
/-! Data readings: expressions and statements over immutable data and lists that the frame owns. -/
namespace WL
open PySem PySem.Spec PyProof.Rows L2

/-! ### heaps -/
def Ex (H H' : Hp) : Prop := ∀ a o, H a = some o → H' a = some o
theorem Ex.refl (H : Hp) : Ex H H := fun _ _ h => h
theorem Ex.trans {H H1 H2 : Hp} (a : Ex H H1) (b : Ex H1 H2) : Ex H H2 := fun x o h => b x o (a x o h)
theorem Ex.new {H : Hp} {p : Addr} {o : HO} (h : H p = none) : Ex H (upd H p o) := fun a u e => by
  rw [upd_ne (ne_of_none e h)]; exact e
/-- the heap without what is owned -/
def hid (A : List Addr) (H : Hp) : Hp := fun a => if a ∈ A then none else H a
theorem hid_nil (H : Hp) : hid [] H = H := by funext a; unfold hid; simp
theorem hid_in {A : List Addr} {H : Hp} {a : Addr} (h : a ∈ A) : hid A H a = none := by unfold hid; rw [if_pos h]
theorem hid_out {A : List Addr} {H : Hp} {a : Addr} (h : a ∉ A) : hid A H a = H a := by unfold hid; rw [if_neg h]
theorem hid_some {A : List Addr} {H : Hp} {a : Addr} {o : HO} (h : hid A H a = some o) : a ∉ A ∧ H a = some o := by
  by_cases hA : a ∈ A
  · rw [hid_in hA] at h; cases h
  · rw [hid_out hA] at h; exact ⟨hA, h⟩
theorem hid_ex {A : List Addr} {H H' : Hp} (e : Ex H H') : Ex (hid A H) (hid A H') := fun a o h => by
  obtain ⟨h1, h2⟩ := hid_some h
  rw [hid_out h1]; exact e a o h2
theorem hid_sub {A B : List Addr} {H : Hp} (s : ∀ a ∈ B, a ∈ A) : Ex (hid A H) (hid B H) := fun a o h => by
  obtain ⟨h1, h2⟩ := hid_some h
  rw [hid_out fun z => h1 (s a z)]; exact h2
theorem hid_le {A : List Addr} {H : Hp} : Ex (hid A H) H := fun a o h => (hid_some h).2
theorem hid_mut {A : List Addr} {H : Hp} {l : Addr} {o : HO} (h : l ∈ A) : hid A (upd H l o) = hid A H := by
  funext a
  by_cases ha : a ∈ A
  · rw [hid_in ha, hid_in ha]
  · rw [hid_out ha, hid_out ha, upd_ne fun e => ha (by rw [e]; exact h)]
theorem hid_upd {A : List Addr} {H : Hp} {p : Addr} {o : HO} (h : p ∉ A) : hid A (upd H p o) = upd (hid A H) p o := by
  funext a
  by_cases hp : a = p
  · subst hp; rw [hid_out h, upd_same, upd_same]
  · by_cases ha : a ∈ A
    · rw [hid_in ha, upd_ne hp, hid_in ha]
    · rw [hid_out ha, upd_ne hp, upd_ne hp, hid_out ha]
/-- a new object that is owned -/
theorem hid_own {A : List Addr} {H : Hp} {l : Addr} {o : HO} (h : H l = none) : hid (l :: A) (upd H l o) = hid A H := by
  funext a
  by_cases hp : a = l
  · subst hp
    rw [hid_in List.mem_cons_self]
    by_cases ha : a ∈ A
    · rw [hid_in ha]
    · rw [hid_out ha, h]
  · by_cases ha : a ∈ A
    · rw [hid_in (List.mem_cons_of_mem _ ha), hid_in ha]
    · rw [hid_out (fun z => (List.mem_cons.mp z).elim hp ha), upd_ne hp, hid_out ha]

theorem rd_ex {H H' : Hp} {a : Addr} {u : HO} (e : Ex H H') (h : Rd H a u) : Rd H' a u := by
  rcases h with h | ⟨o, h⟩
  · exact .inl (e _ _ h)
  · exact .inr ⟨o, e _ _ h⟩
theorem sql_ex {K : PySem.W.Frag} {H H' : Hp} {a : Addr} {xs : List V} (e : Ex H H') (h : SqL K H a xs) : SqL K H' a xs := by
  rcases h with h | h
  · exact .inl (rd_ex e h)
  · exact .inr h
theorem sqt_ex {K : PySem.W.Frag} {H H' : Hp} {a : Addr} {xs : List V} (e : Ex H H') (h : SqT K H a xs) : SqT K H' a xs := by
  rcases h with h | h
  · exact .inl (rd_ex e h)
  · exact .inr h
/-- a tuple without a dict of its own -/
def Nd (K : PySem.W.Frag) (H : Hp) (a : Addr) : Prop := (∃ (o : Obj) (xs : List V), H a = some (.frz o (.tup xs)) ∧ o.dict = none) ∨ ∃ o : Obj, K.lookup a = some o ∧ o.cls = .type "tuple" ∧ o.dict = none
theorem Nd.ex {K : PySem.W.Frag} {H H' : Hp} {a : Addr} (e : Ex H H') (h : Nd K H a) : Nd K H' a := by
  rcases h with ⟨o, xs, h1, h2⟩ | h
  · exact .inl ⟨o, xs, e _ _ h1, h2⟩
  · exact .inr h
/-! the data that a value stands for -/
mutual
inductive Dt (K : PySem.W.Frag) (H : Hp) : V → PyData → Prop
  | non : Dt K H .non .none
  | bl (b : Bool) : Dt K H (.bl b) (.bool b)
  | int (i : Int) : Dt K H (.int i) (.int i)
  | str (x : Str) : Dt K H (.str x) (.str x)
  | lst {a : Addr} {xs : List V} {ds : List PyData} : SqL K H a xs → DtAll K H xs ds → Dt K H (.ref a) (.list ds)
  | tup {a : Addr} {xs : List V} {ds : List PyData} : SqT K H a xs → Nd K H a → DtAll K H xs ds → Dt K H (.ref a) (.tuple ds)
inductive DtAll (K : PySem.W.Frag) (H : Hp) : List V → List PyData → Prop
  | nil : DtAll K H [] []
  | cons {v : V} {vs : List V} {d : PyData} {ds : List PyData} : Dt K H v d → DtAll K H vs ds → DtAll K H (v :: vs) (d :: ds)
end
mutual
theorem Dt.dp {K : PySem.W.Frag} {H : Hp} : ∀ {d : PyData} {v : V}, Dt K H v d → Dp K H v d
  | _, _, .non => .non
  | _, _, .bl b => .bl b
  | _, _, .int i => .int i
  | _, _, .str x => .str x
  | _, _, .lst h1 h2 => .lst h1 (DtAll.dp h2)
  | _, _, .tup h1 _ h2 => .tup h1 (DtAll.dp h2)
theorem DtAll.dp {K : PySem.W.Frag} {H : Hp} : ∀ {ds : List PyData} {vs : List V}, DtAll K H vs ds → DpAll K H vs ds
  | _, _, .nil => .nil
  | _, _, .cons h1 h2 => .cons (Dt.dp h1) (DtAll.dp h2)
end
mutual
theorem dp_ex {K : PySem.W.Frag} {H H' : Hp} (e : Ex H H') : ∀ {d : PyData} {v : V}, Dt K H v d → Dt K H' v d
  | _, _, .non => .non
  | _, _, .bl b => .bl b
  | _, _, .int i => .int i
  | _, _, .str x => .str x
  | _, _, .lst h1 h2 => .lst (sql_ex e h1) (dpa_ex e h2)
  | _, _, .tup h1 h3 h2 => .tup (sqt_ex e h1) (h3.ex e) (dpa_ex e h2)
theorem dpa_ex {K : PySem.W.Frag} {H H' : Hp} (e : Ex H H') : ∀ {ds : List PyData} {vs : List V}, DtAll K H vs ds → DtAll K H' vs ds
  | _, _, .nil => .nil
  | _, _, .cons h1 h2 => .cons (dp_ex e h1) (dpa_ex e h2)
end
section
variable {K : PySem.W.Frag} {H : Hp}
theorem DtAll.len : ∀ {ds : List PyData} {vs : List V}, DtAll K H vs ds → vs.length = ds.length
  | _, _, .nil => rfl
  | _, _, .cons _ h => by rw [List.length_cons, List.length_cons, DtAll.len h]
theorem DtAll.get : ∀ {ds : List PyData} {vs : List V} {i : Nat} {d : PyData}, DtAll K H vs ds → ds[i]? = some d → ∃ v, vs[i]? = some v ∧ Dt K H v d
  | _, _, i, d, .nil, h => by simp at h
  | _, _, 0, d, .cons (v := v) h1 _, h => ⟨v, rfl, by simp at h; subst h; exact h1⟩
  | _, _, i + 1, d, .cons _ h2, h => by
    obtain ⟨v, e, q⟩ := DtAll.get (i := i) h2 (by simpa using h)
    exact ⟨v, by simpa using e, q⟩
theorem DtAll.getV : ∀ {ds : List PyData} {vs : List V} {i : Nat} {v : V}, DtAll K H vs ds → vs[i]? = some v → ∃ d, ds[i]? = some d ∧ Dt K H v d
  | _, _, i, d, .nil, h => by simp at h
  | _, _, 0, v, .cons (d := d) h1 _, h => ⟨d, rfl, by simp at h; subst h; exact h1⟩
  | _, _, i + 1, v, .cons _ h2, h => by
    obtain ⟨d, e, q⟩ := DtAll.getV (i := i) h2 (by simpa using h)
    exact ⟨d, by simpa using e, q⟩
theorem DtAll.app : ∀ {ds es : List PyData} {vs us : List V}, DtAll K H vs ds → DtAll K H us es → DtAll K H (vs ++ us) (ds ++ es)
  | _, _, _, _, .nil, h => h
  | _, _, _, _, .cons h1 h2, h => .cons h1 (DtAll.app h2 h)
theorem DtAll.set {v : V} {d : PyData} (hd : Dt K H v d) : ∀ {ds : List PyData} {vs : List V} (i : Nat), DtAll K H vs ds → DtAll K H (vs.set i v) (ds.set i d)
  | _, _, _, .nil => .nil
  | _, _, 0, .cons _ h => .cons hd h
  | _, _, i + 1, .cons q h => .cons q (DtAll.set hd i h)
theorem DtAll.drop : ∀ {ds : List PyData} {vs : List V} (n : Nat), DtAll K H vs ds → DtAll K H (vs.drop n) (ds.drop n)
  | _, _, 0, h => h
  | _, _, _ + 1, .nil => .nil
  | _, _, n + 1, .cons _ h => DtAll.drop n h
theorem DtAll.take : ∀ {ds : List PyData} {vs : List V} (n : Nat), DtAll K H vs ds → DtAll K H (vs.take n) (ds.take n)
  | _, _, 0, _ => .nil
  | _, _, _ + 1, .nil => .nil
  | _, _, n + 1, .cons q h => .cons q (DtAll.take n h)
theorem DtAll.ints : ∀ (ns : List Int), DtAll K H (ns.map V.int) (ns.map PyData.int)
  | [] => .nil
  | n :: r => .cons (.int n) (DtAll.ints r)
theorem DtAll.rep {v : V} {d : PyData} (h : Dt K H v d) : ∀ n : Nat, DtAll K H (List.replicate n v) (List.replicate n d)
  | 0 => .nil
  | n + 1 => .cons h (DtAll.rep h n)
theorem dp_int {v : V} {i : Int} (h : Dt K H v (.int i)) : v = .int i := by cases h; rfl
theorem dp_bl {v : V} {b : Bool} (h : Dt K H v (.bool b)) : v = .bl b := by cases h; rfl
theorem dp_str {v : V} {x : Str} (h : Dt K H v (.str x)) : v = .str x := by cases h; rfl
theorem dp_non {v : V} (h : Dt K H v .none) : v = .non := by cases h; rfl
theorem dp_tup {v : V} {ds : List PyData} (h : Dt K H v (.tuple ds)) : ∃ a xs, v = .ref a ∧ SqT K H a xs ∧ DtAll K H xs ds := by
  cases h with | tup h1 _ h2 => exact ⟨_, _, rfl, h1, h2⟩
theorem dp_lst {v : V} {ds : List PyData} (h : Dt K H v (.list ds)) : ∃ a xs, v = .ref a ∧ SqL K H a xs ∧ DtAll K H xs ds := by
  cases h with | lst h1 h2 => exact ⟨_, _, rfl, h1, h2⟩
end

/-! ### environments -/
/-- a structure of several things that this frame alone changes: the value that stands for it, its addresses, what is true of them -/
structure Box where
  root : V
  foot : List Addr
  holds : Hp → Hp → Prop
  loc : ∀ {H H' Hh Hh' : Hp}, (∀ a ∈ foot, H' a = H a) → Ex Hh Hh' → holds H Hh → holds H' Hh'
inductive WSlot where
  /-- not known -/
  | no
  /-- data that nobody changes -/
  | dat (d : PyData)
  /-- a list that this frame alone changes -/
  | own (l : Addr) (ds : List PyData)
  /-- any structure that this frame alone changes -/
  | box (b : Box)
abbrev WEnv := List WSlot
def WSlot.foot : WSlot → List Addr
  | .own l _ => [l]
  | .box b => b.foot
  | _ => []
/-- what a slot says of its value -/
def WSlot.says (K : PySem.W.Frag) (A : List Addr) (H : Hp) : WSlot → Option (Option V) → Prop
  | .no, _ => True
  | .dat d, o => ∃ v, o = some (some v) ∧ Dt K (hid A H) v d
  | .own l ds, o => o = some (some (.ref l)) ∧ l ∈ A ∧ ∃ xs, H l = some (.lst xs) ∧ DtAll K (hid A H) xs ds
  | .box b, o => o = some (some b.root) ∧ (∀ a ∈ b.foot, a ∈ A) ∧ b.holds H (hid A H)
theorem WSlot.says_loc {K : PySem.W.Frag} {A A' : List Addr} {H H' : Hp} {o : Option (Option V)} : ∀ {s : WSlot}, (∀ a ∈ s.foot, a ∈ A → H' a = H a ∧ a ∈ A') → Ex (hid A H) (hid A' H') → s.says K A H o → s.says K A' H' o
  | .no, _, _, _ => True.intro
  | .dat d, _, e, ⟨v, e1, q⟩ => ⟨v, e1, dp_ex e q⟩
  | .own l ds, k, e, ⟨e1, m, xs, e2, q⟩ => by
    obtain ⟨k1, k2⟩ := k l List.mem_cons_self m
    exact ⟨e1, k2, xs, by rw [k1]; exact e2, dpa_ex e q⟩
  | .box b, k, e, ⟨e1, m, q⟩ => ⟨e1, fun a ha => (k a ha (m a ha)).2, b.loc (fun a ha => (k a ha (m a ha)).1) e q⟩
theorem WSlot.says_in {K : PySem.W.Frag} {A : List Addr} {H : Hp} {o : Option (Option V)} : ∀ {s : WSlot}, s.says K A H o → ∀ a ∈ s.foot, a ∈ A
  | .no, _, a, ha => by cases ha
  | .dat d, _, a, ha => by cases ha
  | .own l ds, ⟨_, m, _⟩, a, ha => by rw [List.mem_singleton.mp ha]; exact m
  | .box b, ⟨_, m, _⟩, a, ha => m a ha

/-- the slots hold what the environment says; A: the addresses that may change -/
structure SD (K : PySem.W.Frag) (A : List Addr) (H : Hp) (σ : List (Option V)) (δ : (List WSlot)) : Prop where
  len : σ.length = δ.length
  live : ∀ a ∈ A, H a ≠ none
  all : ∀ (i : Nat) (s : WSlot), δ[i]? = some s → s.says K A H σ[i]?
  apart : ∀ (i j : Nat) (s s' : WSlot), δ[i]? = some s → δ[j]? = some s' → i ≠ j → ∀ a ∈ s.foot, a ∉ s'.foot
/-- against the entry: H0 but for M is kept; what may change is A0, M or new -/
structure Bs (H0 : Hp) (A0 M A : List Addr) (H : Hp) : Prop where
  kept : Ex (hid M H0) H
  sub : ∀ a ∈ A0, a ∈ A
  ml : ∀ a ∈ M, a ∈ A0
  lv : ∀ a ∈ A0, H0 a ≠ none
theorem set_get {α : Type} {δ : List α} {i j : Nat} {s s0 : α} (h : (δ.set i s0)[j]? = some s) : (j = i ∧ s = s0 ∧ i < δ.length) ∨ (j ≠ i ∧ δ[j]? = some s) := by
  by_cases hij : i = j
  · subst hij
    rw [List.getElem?_set_self'] at h
    cases q : δ[i]? with
    | none => rw [q] at h; simp at h
    | some z => rw [q] at h; simp at h; exact .inl ⟨rfl, h.symm, (List.getElem?_eq_some_iff.mp q).1⟩
  · rw [List.getElem?_set_ne hij] at h
    exact .inr ⟨Ne.symm hij, h⟩
section
variable {K : PySem.W.Frag} {A A' : List Addr} {H H' : Hp} {σ : List (Option V)} {δ : (List WSlot)}
theorem SD.dat (s : SD K A H σ δ) (i : Nat) (d : PyData) (h : δ[i]? = some (.dat d)) : ∃ v, σ[i]? = some (some v) ∧ Dt K (hid A H) v d := s.all i _ h
theorem SD.own (s : SD K A H σ δ) (i : Nat) (l : Addr) (ds : List PyData) (h : δ[i]? = some (.own l ds)) : σ[i]? = some (some (.ref l)) ∧ l ∈ A ∧ ∃ xs, H l = some (.lst xs) ∧ DtAll K (hid A H) xs ds := s.all i _ h
theorem SD.box (s : SD K A H σ δ) (i : Nat) (b : Box) (h : δ[i]? = some (.box b)) : σ[i]? = some (some b.root) ∧ (∀ a ∈ b.foot, a ∈ A) ∧ b.holds H (hid A H) := s.all i _ h
theorem SD.sep (s : SD K A H σ δ) (i j : Nat) (l : Addr) (ds : List PyData) (l' : Addr) (ds' : List PyData) (h1 : δ[i]? = some (.own l ds)) (h2 : δ[j]? = some (.own l' ds')) (hne : i ≠ j) : l ≠ l' := fun e => by
  subst e
  exact s.apart i j _ _ h1 h2 hne l List.mem_cons_self List.mem_cons_self
theorem SD.inA (s : SD K A H σ δ) {i : Nat} {w : WSlot} (h : δ[i]? = some w) : ∀ a ∈ w.foot, a ∈ A := WSlot.says_in (s.all i w h)
theorem live_ex (l : ∀ a ∈ A, H a ≠ none) (e : Ex H H') : ∀ a ∈ A, H' a = H a := fun a ha => by
  cases q : H a with
  | none => exact absurd q (l a ha)
  | some o => exact e a o q
/-- the slots as before, the heap grown or owned things elsewhere changed -/
theorem SD.step (s : SD K A H σ δ) (l : ∀ a ∈ A', H' a ≠ none) (k : ∀ (i : Nat) (w : WSlot), δ[i]? = some w → ∀ a ∈ w.foot, H' a = H a ∧ a ∈ A') (e : Ex (hid A H) (hid A' H')) : SD K A' H' σ δ where
  len := s.len
  live := l
  all := fun i w h => WSlot.says_loc (o := σ[i]?) (K := K) (s := w) (A := A) (H := H) (fun a ha _ => k i w h a ha) e (s.all i w h)
  apart := s.apart
theorem SD.ex (s : SD K A H σ δ) (e : Ex H H') : SD K A H' σ δ :=
  s.step (fun a ha => by rw [live_ex s.live e a ha]; exact s.live a ha) (fun i w h a ha => ⟨live_ex s.live e a (s.inA h a ha), s.inA h a ha⟩) (hid_ex e)
theorem SD.fresh (s : SD K A H σ δ) {p : Addr} (h : H p = none) : p ∉ A := fun z => s.live p z h
theorem SD.new (s : SD K A H σ δ) {p : Addr} {o : HO} (h : H p = none) : SD K A (upd H p o) σ δ := s.ex (Ex.new h)
/-- one slot is laid anew -/
theorem SD.put (s : SD K A H σ δ) {i : Nat} {x : Option V} {w0 : WSlot} (l : ∀ a ∈ A', H' a ≠ none) (e : Ex (hid A H) (hid A' H'))
    (k : ∀ (j : Nat) (w : WSlot), j ≠ i → δ[j]? = some w → ∀ a ∈ w.foot, H' a = H a ∧ a ∈ A' ∧ a ∉ w0.foot) (h0 : w0.says K A' H' (some x)) : SD K A' H' (σ.set i x) (δ.set i w0) where
  len := by rw [List.length_set, List.length_set]; exact s.len
  live := l
  all := fun j w hj => by
    rcases set_get hj with ⟨rfl, rfl, hl⟩ | ⟨hij, hj⟩
    · rw [List.getElem?_set_self (by rw [s.len]; exact hl)]; exact h0
    · rw [List.getElem?_set_ne (Ne.symm hij)]
      exact WSlot.says_loc (fun a ha _ => ⟨(k j w hij hj a ha).1, (k j w hij hj a ha).2.1⟩) e (s.all j w hj)
  apart := fun i1 i2 w1 w2 h1 h2 hne a ha hb => by
    rcases set_get h1 with ⟨rfl, rfl, _⟩ | ⟨e1, h1⟩
    · rcases set_get h2 with ⟨rfl, _, _⟩ | ⟨e2, h2⟩
      · exact hne rfl
      · exact (k i2 w2 e2 h2 a hb).2.2 ha
    · rcases set_get h2 with ⟨f1, f2, _⟩ | ⟨e2, h2⟩
      · exact (k i1 w1 e1 h1 a ha).2.2 (by rw [← f2]; exact hb)
      · exact s.apart i1 i2 w1 w2 h1 h2 hne a ha hb
/-- .. its value as it is -/
theorem SD.put0 (s : SD K A H σ δ) {i : Nat} {w0 : WSlot} (l : ∀ a ∈ A', H' a ≠ none) (e : Ex (hid A H) (hid A' H'))
    (k : ∀ (j : Nat) (w : WSlot), j ≠ i → δ[j]? = some w → ∀ a ∈ w.foot, H' a = H a ∧ a ∈ A' ∧ a ∉ w0.foot) (h0 : w0.says K A' H' σ[i]?) : SD K A' H' σ (δ.set i w0) := by
  cases q : σ[i]? with
  | none =>
    have hl : δ.length ≤ i := by rw [← s.len]; exact List.getElem?_eq_none_iff.mp q
    rw [List.set_eq_of_length_le hl]
    refine s.step l (fun j w h a ha => ?_) e
    have hj : j ≠ i := fun z => by
      have := (List.getElem?_eq_some_iff.mp h).1
      omega
    exact ⟨(k j w hj h a ha).1, (k j w hj h a ha).2.1⟩
  | some x =>
    have e1 : σ.set i x = σ := by
      obtain ⟨h1, h2⟩ := List.getElem?_eq_some_iff.mp q
      rw [← h2]; exact List.set_getElem_self h1
    rw [q] at h0
    have := s.put (x := x) l e k h0
    rw [e1] at this
    exact this
theorem SD.set (s : SD K A H σ δ) {i : Nat} {v : V} {d : PyData} (h : Dt K (hid A H) v d) : SD K A H (σ.set i (some v)) (δ.set i (.dat d)) :=
  s.put s.live (Ex.refl _) (fun j w _ hj a ha => ⟨rfl, s.inA hj a ha, fun z => nomatch z⟩) ⟨v, rfl, h⟩
/-- less is known -/
def WEnv.le (δ δ' : (List WSlot)) : Prop := δ'.length = δ.length ∧ ∀ (i : Nat) (s : WSlot), δ'[i]? = some s → s = .no ∨ δ[i]? = some s
theorem SD.le {δ' : (List WSlot)} (s : SD K A H σ δ) (h : WEnv.le δ δ') : SD K A H σ δ' where
  len := by rw [h.1]; exact s.len
  live := s.live
  all := fun i w e => by
    rcases h.2 i _ e with z | z
    · subst z; exact True.intro
    · exact s.all i w z
  apart := fun i j w w' h1 h2 hne a ha hb => by
    rcases h.2 i _ h1 with z | z
    · subst z; cases ha
    · rcases h.2 j _ h2 with y | y
      · subst y; cases hb
      · exact s.apart i j w w' z y hne a ha hb
/-- a new list, owned -/
theorem SD.setOwn (s : SD K A H σ δ) {i : Nat} {l : Addr} {xs : List V} {ds : List PyData} (hn : H l = none) (h : DtAll K (hid A H) xs ds) :
    SD K (l :: A) (upd H l (.lst xs)) (σ.set i (some (.ref l))) (δ.set i (.own l ds)) := by
  have hne : ∀ a ∈ A, a ≠ l := fun a ha e => s.fresh hn (by rw [← e]; exact ha)
  refine s.put (fun a ha => ?_) (by rw [hid_own hn]; exact Ex.refl _) (fun j w _ hj a ha => ?_) ⟨rfl, List.mem_cons_self, xs, upd_same, by rw [hid_own hn]; exact h⟩
  · rcases List.mem_cons.mp ha with e | ha
    · subst e; rw [upd_same]; intro z; cases z
    · rw [upd_ne (hne a ha)]; exact s.live a ha
  · have hA := s.inA hj a ha
    exact ⟨upd_ne (hne a hA), List.mem_cons_of_mem _ hA, fun z => hne a hA (List.mem_singleton.mp z)⟩
/-- an owned list is changed -/
theorem SD.mutOwn (s : SD K A H σ δ) {i : Nat} {l : Addr} {ds ds' : List PyData} {xs' : List V} (hi : δ[i]? = some (.own l ds)) (h : DtAll K (hid A H) xs' ds') :
    SD K A (upd H l (.lst xs')) σ (δ.set i (.own l ds')) := by
  obtain ⟨e1, m, xs, e2, q⟩ := s.own i l ds hi
  refine s.put0 (fun a ha => ?_) (by rw [hid_mut m]; exact Ex.refl _) (fun j w hji hj a ha => ?_) ⟨e1, m, xs', upd_same, by rw [hid_mut m]; exact h⟩
  · by_cases e : a = l
    · subst e; rw [upd_same]; intro z; cases z
    · rw [upd_ne e]; exact s.live a ha
  · have hal : a ∉ [l] := s.apart j i w _ hj hi hji a ha
    exact ⟨upd_ne fun z => hal (List.mem_singleton.mpr z), s.inA hj a ha, hal⟩
/-- an owned list becomes data: nobody changes it any longer -/
theorem SD.freeze (s : SD K A H σ δ) {i : Nat} {l : Addr} {ds : List PyData} (hi : δ[i]? = some (.own l ds)) :
    SD K (A.filter fun a => decide (a ≠ l)) H σ (δ.set i (.dat (.list ds))) ∧ Dt K (hid (A.filter fun a => decide (a ≠ l)) H) (.ref l) (.list ds) := by
  obtain ⟨e1, m, xs, e2, q⟩ := s.own i l ds hi
  have sub : Ex (hid A H) (hid (A.filter fun a => decide (a ≠ l)) H) := hid_sub fun a ha => (List.mem_filter.mp ha).1
  have dl : Dt K (hid (A.filter fun a => decide (a ≠ l)) H) (.ref l) (.list ds) := by
    refine .lst (.inl (.inl ?_)) (dpa_ex sub q)
    rw [hid_out (by intro z; have := (List.mem_filter.mp z).2; simp at this)]
    exact e2
  refine ⟨s.put0 (fun a ha => s.live a (List.mem_filter.mp ha).1) sub (fun j w hji hj a ha => ?_) ⟨_, e1, dl⟩, dl⟩
  have hal : a ∉ [l] := s.apart j i w _ hj hi hji a ha
  exact ⟨rfl, List.mem_filter.mpr ⟨s.inA hj a ha, by simpa using hal⟩, fun z => nomatch z⟩
end
section
variable {H0 : Hp} {A0 M A : List Addr} {H H' : Hp}
theorem Bs.ex (b : Bs H0 A0 M A H) (e : Ex H H') : Bs H0 A0 M A H' := ⟨b.kept.trans e, b.sub, b.ml, b.lv⟩
theorem Bs.start (H0 : Hp) (A0 M : List Addr) (lv : ∀ a ∈ A0, H0 a ≠ none) (ml : ∀ a ∈ M, a ∈ A0) : Bs H0 A0 M A0 H0 := ⟨hid_le, fun _ h => h, ml, lv⟩
theorem Bs.own (b : Bs H0 A0 M A H) {l : Addr} {o : HO} (hn : H l = none) : Bs H0 A0 M (l :: A) (upd H l o) :=
  ⟨b.kept.trans (Ex.new hn), fun a h => List.mem_cons_of_mem _ (b.sub a h), b.ml, b.lv⟩
theorem Bs.mut (b : Bs H0 A0 M A H) {l : Addr} {o : HO} (hl : l ∈ M ∨ H0 l = none) : Bs H0 A0 M A (upd H l o) where
  kept := fun a u h => by
    obtain ⟨h1, h2⟩ := hid_some h
    rw [upd_ne]
    · exact b.kept a u h
    · rintro rfl
      rcases hl with z | z
      · exact h1 z
      · rw [z] at h2; cases h2
  sub := b.sub
  ml := b.ml
  lv := b.lv
end
end WL
end
section
set_option Elab.async false
set_option linter.all false
set_option maxRecDepth 100000
namespace WL
open PySem PySem.Spec PyProof.Rows L2

/-- what a frame stands on: the written part, the heap at its entry, what was owned there, what it may change of that -/
structure Fx where
  K : PySem.W.Frag
  H0 : Hp
  A0 : List Addr
  M : List Addr
structure St (F : Fx) (A : List Addr) (H : Hp) (σ : List (Option V)) (δ : List WSlot) : Prop where
  sd : SD F.K A H σ δ
  bs : Bs F.H0 F.A0 F.M A H
  mineF : ∀ (i : Nat) (w : WSlot), δ[i]? = some w → ∀ a ∈ w.foot, a ∈ F.M ∨ F.H0 a = none
def Live (A : List Addr) (H : Hp) : Prop := ∀ a ∈ A, H a ≠ none
theorem Live.ex {A : List Addr} {H H' : Hp} (h : Live A H) (e : Ex H H') : Live A H' := fun a ha => by
  cases q : H a with
  | none => exact absurd q (h a ha)
  | some o => rw [e a o q]; intro z; cases z
theorem Live.out {A : List Addr} {H : Hp} (h : Live A H) {p : Addr} (hp : H p = none) : p ∉ A := fun z => h p z hp
section
variable {F : Fx} {A A' : List Addr} {H H' : Hp} {σ : List (Option V)} {δ : List WSlot}
theorem St.mine (s : St F A H σ δ) (i : Nat) (l : Addr) (ds : List PyData) (h : δ[i]? = some (.own l ds)) : l ∈ F.M ∨ F.H0 l = none := s.mineF i _ h l List.mem_cons_self
theorem St.live (s : St F A H σ δ) : Live A H := s.sd.live
theorem St.ex (s : St F A H σ δ) (e : Ex H H') : St F A H' σ δ := ⟨s.sd.ex e, s.bs.ex e, s.mineF⟩
theorem mine_put {F : Fx} {δ : List WSlot} {i : Nat} {w0 : WSlot} (m : ∀ (i : Nat) (w : WSlot), δ[i]? = some w → ∀ a ∈ w.foot, a ∈ F.M ∨ F.H0 a = none) (h : i < δ.length → ∀ a ∈ w0.foot, a ∈ F.M ∨ F.H0 a = none) :
    ∀ (j : Nat) (w : WSlot), (δ.set i w0)[j]? = some w → ∀ a ∈ w.foot, a ∈ F.M ∨ F.H0 a = none := fun j w hj => by
  rcases set_get hj with ⟨_, rfl, hl⟩ | ⟨_, hj⟩
  · exact h hl
  · exact m j w hj
theorem St.set (s : St F A H σ δ) {i : Nat} {v : V} {d : PyData} (h : Dt F.K (hid A H) v d) : St F A H (σ.set i (some v)) (δ.set i (.dat d)) :=
  ⟨s.sd.set h, s.bs, mine_put s.mineF fun _ a ha => nomatch ha⟩
theorem St.le {δ' : List WSlot} (s : St F A H σ δ) (h : WEnv.le δ δ') : St F A H σ δ' :=
  ⟨s.sd.le h, s.bs, fun j w hj a ha => by
    rcases h.2 j _ hj with z | z
    · subst z; cases ha
    · exact s.mineF j w z a ha⟩
theorem H0none (s : St F A H σ δ) {l : Addr} (hn : H l = none) : l ∈ F.M ∨ F.H0 l = none := by
  by_cases hm : l ∈ F.M
  · exact .inl hm
  · refine .inr ?_
    cases q : F.H0 l with
    | none => rfl
    | some o =>
      have z := s.bs.kept l o (by rw [hid_out hm]; exact q)
      rw [hn] at z; cases z
theorem St.setOwn (s : St F A H σ δ) {i : Nat} {l : Addr} {xs : List V} {ds : List PyData} (hn : H l = none) (h : DtAll F.K (hid A H) xs ds) :
    St F (l :: A) (upd H l (.lst xs)) (σ.set i (some (.ref l))) (δ.set i (.own l ds)) :=
  ⟨s.sd.setOwn hn h, s.bs.own hn, mine_put s.mineF fun _ a ha => by rw [List.mem_singleton.mp ha]; exact H0none s hn⟩
theorem St.mutOwn (s : St F A H σ δ) {i : Nat} {l : Addr} {ds ds' : List PyData} {xs' : List V} (hi : δ[i]? = some (.own l ds)) (h : DtAll F.K (hid A H) xs' ds') :
    St F A (upd H l (.lst xs')) σ (δ.set i (.own l ds')) :=
  ⟨s.sd.mutOwn hi h, s.bs.mut (s.mine i l ds hi), mine_put s.mineF fun _ a ha => by rw [List.mem_singleton.mp ha]; exact s.mine i l ds hi⟩
/-- behind a call that may change the owned list at l -/
theorem St.call (s : St F A H σ δ) {i : Nat} {l : Addr} {ds ds' : List PyData} {xs' : List V} (hi : δ[i]? = some (.own l ds)) (e : Ex (hid [l] H) H') (hl : H' l = some (.lst xs')) (h : DtAll F.K (hid A H') xs' ds') :
    St F A H' σ (δ.set i (.own l ds')) ∧ Ex (hid A H) (hid A H') := by
  obtain ⟨e1, m, xs, e2, q⟩ := s.sd.own i l ds hi
  have e3 : Ex H (upd H' l (.lst xs)) := fun a o ha => by
    by_cases hal : a = l
    · subst hal; rw [e2] at ha; cases ha; exact upd_same
    · rw [upd_ne hal]; exact e a o (by rw [hid_out (by simpa using hal)]; exact ha)
  have s1 := s.ex e3
  have hh : hid A (upd H' l (.lst xs)) = hid A H' := hid_mut m
  have s2 := s1.mutOwn (xs' := xs') (ds' := ds') hi (by rw [hh]; exact h)
  have e4 : upd (upd H' l (.lst xs)) l (.lst xs') = H' := by
    rw [upd_upd]
    funext a
    by_cases hal : a = l
    · subst hal; rw [upd_same, hl]
    · rw [upd_ne hal]
  rw [e4] at s2
  exact ⟨s2, fun a o ha => by
    obtain ⟨h1, h2⟩ := hid_some ha
    rw [hid_out h1]
    exact e a o (by rw [hid_out (by simp; rintro rfl; exact h1 m)]; exact h2)⟩
end

/-! ### judgements -/
def DE (F : Fx) (te : TE) (δ : List WSlot) (P : PyData → List WSlot → Prop) : Prop := ∀ A H σ, St F A H σ δ → ∀ Q : VK,
  (∀ v d δ' H2, P d δ' → St F A H2 σ δ' → Ex (hid A H) (hid A H2) → Dt F.K (hid A H2) v d → Q v H2) → te σ H Q
def DT (F : Fx) (tt : TT) (δ : List WSlot) (P : Bool → List WSlot → Prop) : Prop := ∀ A H σ, St F A H σ δ → ∀ Q : Bool → Hp → Prop,
  (∀ b δ' H2, P b δ' → St F A H2 σ δ' → Ex (hid A H) (hid A H2) → Q b H2) → tt σ H Q
def DA (F : Fx) (ta : TA) (δ : List WSlot) (P : List PyData → List WSlot → Prop) : Prop := ∀ A H σ, St F A H σ δ → ∀ Q : List V → Hp → Prop,
  (∀ vs ds δ' H2, P ds δ' → St F A H2 σ δ' → Ex (hid A H) (hid A H2) → DtAll F.K (hid A H2) vs ds → Q vs H2) → ta σ H Q
/-- it is a list that is read (the frame's own one, too) -/
def DL (F : Fx) (te : TE) (δ : List WSlot) (P : List PyData → List WSlot → Prop) : Prop := ∀ A H σ, St F A H σ δ → ∀ Q : VK,
  (∀ a xs ds δ' H2, P ds δ' → St F A H2 σ δ' → Ex (hid A H) (hid A H2) → SqL F.K H2 a xs → DtAll F.K (hid A H2) xs ds → Q (.ref a) H2) → te σ H Q
/-- one answer, nothing changed -/
abbrev is1 {α : Type} (δ : List WSlot) (d : α) : α → List WSlot → Prop := fun d' δ' => d' = d ∧ δ' = δ
abbrev DV (F : Fx) (te : TE) (δ : List WSlot) (d : PyData) : Prop := DE F te δ (is1 δ d)
abbrev DB (F : Fx) (tt : TT) (δ : List WSlot) (b : Bool) : Prop := DT F tt δ (is1 δ b)
abbrev DAs (F : Fx) (ta : TA) (δ : List WSlot) (ds : List PyData) : Prop := DA F ta δ (is1 δ ds)
abbrev DLs (F : Fx) (te : TE) (δ : List WSlot) (ds : List PyData) : Prop := DL F te δ (is1 δ ds)

section
variable {F : Fx} {te ta tb : TE} {tt : TT} {tl : TA} {δ : List WSlot} {d : PyData} {ds : List PyData} {P P' : PyData → List WSlot → Prop}
theorem DE.mono (h : DE F te δ P) (w : ∀ d δ', P d δ' → P' d δ') : DE F te δ P' := fun A H σ s Q q => h A H σ s Q fun v d δ' H2 p => q v d δ' H2 (w d δ' p)
theorem DV.is {e : PyData} (h : DV F te δ d) (q : d = e) : DV F te δ e := q ▸ h
theorem DB.is {b c : Bool} (h : DB F tt δ b) (q : b = c) : DB F tt δ c := q ▸ h
theorem de_var {i : Nat} (h : δ[i]? = some (.dat d)) : DV F (tVar i) δ d := fun A H σ s Q q => by
  obtain ⟨v, e, p⟩ := s.sd.dat i d h
  exact ⟨v, e, q v d δ H ⟨rfl, rfl⟩ s (WL.Ex.refl _) p⟩
theorem de_c {v : V} (h : ∀ H, Dt F.K H v d) : DV F (tC v) δ d := fun A H σ s Q q => q v d δ H ⟨rfl, rfl⟩ s (WL.Ex.refl _) (h _)
theorem de_int {i : Int} : DV F (tC (.int i)) δ (.int i) := de_c fun _ => .int i
theorem de_bl {b : Bool} : DV F (tC (.bl b)) δ (.bool b) := de_c fun _ => .bl b
theorem de_str {x : Str} : DV F (tC (.str x)) δ (.str x) := de_c fun _ => .str x
theorem de_non : DV F (tC .non) δ .none := de_c fun _ => .non
theorem dl_dat (h : DE F te δ fun d δ' => ∃ ds, d = .list ds ∧ P (.list ds) δ') : DL F te δ fun ds δ' => P (.list ds) δ' := fun A H σ s Q q => h A H σ s Q fun v d δ' H2 ⟨ds, e, p⟩ s2 e2 hd => by
  subst e
  obtain ⟨a, xs, rfl, h1, h2⟩ := dp_lst hd
  exact q a xs ds δ' H2 p s2 e2 (sql_ex hid_le h1) h2
theorem dl_v (h : DV F te δ (.list ds)) : DLs F te δ ds := fun A H σ s Q q => h A H σ s Q fun v d δ' H2 ⟨e, p⟩ s2 e2 hd => by
  subst e; subst p
  obtain ⟨a, xs, rfl, h1, h2⟩ := dp_lst hd
  exact q a xs ds _ H2 ⟨rfl, rfl⟩ s2 e2 (sql_ex hid_le h1) h2
theorem dl_own {i : Nat} {l : Addr} (h : δ[i]? = some (.own l ds)) : DLs F (tVar i) δ ds := fun A H σ s Q q => by
  obtain ⟨e1, m, xs, e2, p⟩ := s.sd.own i l ds h
  exact ⟨.ref l, e1, q l xs ds δ H ⟨rfl, rfl⟩ s (WL.Ex.refl _) (.inl (.inl e2)) p⟩

/-! ### argument lists, displays -/
theorem da_nil : DAs F tNil δ [] := fun A H σ s Q q => q [] [] δ H ⟨rfl, rfl⟩ s (WL.Ex.refl _) .nil
theorem da_cons {PA : List PyData → List WSlot → Prop} (h : DE F te δ P) (hr : ∀ d δ1, P d δ1 → DA F tl δ1 fun ds δ2 => PA (d :: ds) δ2) : DA F (tCons te tl) δ PA := fun A H σ s Q q =>
  h A H σ s _ fun v d δ1 H1 p s1 e1 h1 => hr d δ1 p A H1 σ s1 _ fun vs ds δ2 H2 p2 s2 e2 h2 => q (v :: vs) (d :: ds) δ2 H2 p2 s2 (e1.trans e2) (.cons (dp_ex e2 h1) h2)
theorem das_cons (h : DV F te δ d) (hr : DAs F tl δ ds) : DAs F (tCons te tl) δ (d :: ds) := da_cons h fun d' δ1 ⟨e1, e2⟩ => by
  subst e1; subst e2
  exact fun A H σ s Q q => hr A H σ s Q fun vs ds' δ2 H2 ⟨e1, e2⟩ => q vs ds' δ2 H2 ⟨by rw [e1], e2⟩
theorem das1 (h : DV F te δ d) : DAs F (tCons te tNil) δ [d] := das_cons h da_nil
theorem das2 {d2 : PyData} (h : DV F ta δ d) (h2 : DV F tb δ d2) : DAs F (tCons ta (tCons tb tNil)) δ [d, d2] := das_cons h (das1 h2)
/-- a tuple that is laid, as data -/
theorem dt_new {K : PySem.W.Frag} {A : List Addr} {H : Hp} {p : Addr} {o : Obj} {xs : List V} {ds : List PyData} (ha : p ∉ A) (hp : H p = none) (ho : o.dict = none) (h : DtAll K (hid A H) xs ds) : Dt K (hid A (upd H p (.frz o (.tup xs)))) (.ref p) (.tuple ds) := by
  have e : hid A (upd H p (.frz o (.tup xs))) p = some (.frz o (.tup xs)) := by rw [hid_out ha, upd_same]
  exact .tup (.inl (.inr ⟨o, e⟩)) (.inl ⟨o, xs, e, ho⟩) (dpa_ex (hid_ex (WL.Ex.new hp)) h)
theorem de_tup {PA : List PyData → List WSlot → Prop} (h : DA F tl δ PA) (hl : ∀ ds δ', PA ds δ' → ds.length ≤ 100000) (hp : ∀ ds δ', PA ds δ' → P (.tuple ds) δ') : DE F (tTupN tl) δ P := fun A H σ s Q q =>
  h A H σ s _ fun vs ds δ1 H1 p s1 e1 h1 => ⟨by rw [h1.len]; exact Nat.le_trans (hl ds δ1 p) (by decide), fun a o ha hd =>
    q _ _ δ1 _ (hp ds δ1 p) (s1.ex (WL.Ex.new ha)) (e1.trans (hid_ex (WL.Ex.new ha))) (dt_new (s1.live.out ha) ha hd h1)⟩
theorem dv_tup (h : DAs F tl δ ds) (hl : ds.length ≤ 100000) : DV F (tTupN tl) δ (.tuple ds) := de_tup h (fun ds' δ' ⟨e, _⟩ => by rw [e]; exact hl) fun ds' δ' ⟨e1, e2⟩ => ⟨by rw [e1], e2⟩
theorem de_lst {PA : List PyData → List WSlot → Prop} (h : DA F tl δ PA) (hl : ∀ ds δ', PA ds δ' → ds.length ≤ 100000) (hp : ∀ ds δ', PA ds δ' → P (.list ds) δ') : DE F (tLst tl) δ P := fun A H σ s Q q =>
  h A H σ s _ fun vs ds δ1 H1 p s1 e1 h1 => ⟨by rw [h1.len]; exact Nat.le_trans (hl ds δ1 p) (by decide), fun a ha => by
    have ho : a ∉ A := s1.live.out ha
    refine q _ _ δ1 _ (hp ds δ1 p) (s1.ex (WL.Ex.new ha)) (e1.trans (hid_ex (WL.Ex.new ha))) (.lst (.inl (.inl ?_)) (dpa_ex (hid_ex (WL.Ex.new ha)) h1))
    rw [hid_out ho, upd_same]⟩
theorem dv_lst (h : DAs F tl δ ds) (hl : ds.length ≤ 100000) : DV F (tLst tl) δ (.list ds) := de_lst h (fun ds' δ' ⟨e, _⟩ => by rw [e]; exact hl) fun ds' δ' ⟨e1, e2⟩ => ⟨by rw [e1], e2⟩

/-! ### operators on data -/
/-- r gives of data what Pd says, leaving what is there -/
def RD (F : Fx) (r : R2) (d1 d2 : PyData) (Pd : PyData → Prop) : Prop := ∀ A H x y, Live A H → Dt F.K (hid A H) x d1 → Dt F.K (hid A H) y d2 → ∀ Q : VK,
  (∀ v d H2, Pd d → Ex H H2 → Dt F.K (hid A H2) v d → Q v H2) → r x y H Q
theorem de_op {r : R2} {Pa : PyData → List WSlot → Prop} {Pb : PyData → PyData → List WSlot → Prop} (ha : DE F ta δ Pa) (hb : ∀ d1 δ1, Pa d1 δ1 → DE F tb δ1 (Pb d1))
    (hr : ∀ d1 δ1 d2 δ2, Pa d1 δ1 → Pb d1 d2 δ2 → RD F r d1 d2 fun d => P d δ2) : DE F (tOp r ta tb) δ P := fun A H σ s Q q =>
  ha A H σ s _ fun v d1 δ1 H1 p1 s1 e1 h1 => hb d1 δ1 p1 A H1 σ s1 _ fun u d2 δ2 H2 p2 s2 e2 h2 =>
    hr d1 δ1 d2 δ2 p1 p2 A H2 v u s2.live (dp_ex e2 h1) h2 Q fun z d H3 p3 e3 h3 => q z d δ2 H3 p3 (s2.ex e3) (e1.trans (e2.trans (hid_ex e3))) h3
theorem dv_op {r : R2} {d1 d2 : PyData} (ha : DV F ta δ d1) (hb : DV F tb δ d2) (hr : RD F r d1 d2 fun z => z = d) : DV F (tOp r ta tb) δ d :=
  de_op (Pb := fun _ => is1 δ d2) ha (fun d1' δ1 ⟨e1, e2⟩ => by subst e1; subst e2; exact hb) fun d1' δ1 d2' δ2 ⟨e1, e2⟩ ⟨e3, e4⟩ => by
    subst e1; subst e2; subst e3; subst e4
    exact fun A H x y l h1 h2 Q q => hr A H x y l h1 h2 Q fun v d' H2 p => q v d' H2 ⟨p, rfl⟩
theorem rd_I0 {g : Int → Int → V} {i j : Int} {e : PyData} (h : ∀ H, Dt F.K H (g i j) e) : RD F (rI0 g) (.int i) (.int j) fun z => z = e := fun A H x y l h1 h2 Q q => by
  rw [dp_int h1, dp_int h2]
  exact ⟨i, j, rfl, rfl, q _ e H rfl (WL.Ex.refl _) (h _)⟩
theorem rd_I {C : Int → Int → Prop} {g : Int → Int → V} {i j : Int} {e : PyData} (c : C i j) (h : ∀ H, Dt F.K H (g i j) e) : RD F (rI C g) (.int i) (.int j) fun z => z = e := fun A H x y l h1 h2 Q q => by
  rw [dp_int h1, dp_int h2]
  exact ⟨i, j, rfl, rfl, c, q _ e H rfl (WL.Ex.refl _) (h _)⟩
theorem dv_I0 {g : Int → Int → V} {i j : Int} {e : PyData} (ha : DV F ta δ (.int i)) (hb : DV F tb δ (.int j)) (h : ∀ H, Dt F.K H (g i j) e) : DV F (tOp (rI0 g) ta tb) δ e := dv_op ha hb (rd_I0 h)
theorem dv_I {C : Int → Int → Prop} {g : Int → Int → V} {i j : Int} {e : PyData} (ha : DV F ta δ (.int i)) (hb : DV F tb δ (.int j)) (c : C i j) (h : ∀ H, Dt F.K H (g i j) e) : DV F (tOp (rI C g) ta tb) δ e := dv_op ha hb (rd_I c h)
theorem atI_of {ds : List PyData} {i : Int} {d : PyData} {vs : List V} {K : PySem.W.Frag} {H : Hp} (ha : DtAll K H vs ds) (h : atI ds i = some d) : ∃ v, atI vs i = some v ∧ Dt K H v d := by
  unfold atI at h ⊢
  rw [ha.len]
  cases q : ixN ds.length i with
  | none => rw [q] at h; cases h
  | some j => rw [q] at h; exact ha.get h
theorem rd_ixT {ds : List PyData} {i : Int} (h : atI ds i = some d) : RD F (rIxT F.K) (.tuple ds) (.int i) fun z => z = d := fun A H x y l h1 h2 Q q => by
  rw [dp_int h2]
  obtain ⟨a, xs, rfl, t1, t2⟩ := dp_tup h1
  obtain ⟨v, e, hv⟩ := atI_of t2 h
  exact ⟨a, xs, i, v, rfl, rfl, sqt_ex hid_le t1, e, q v d H rfl (WL.Ex.refl _) hv⟩
theorem rd_ixL {ds : List PyData} {i : Int} (h : atI ds i = some d) : RD F (rIxL F.K) (.list ds) (.int i) fun z => z = d := fun A H x y l h1 h2 Q q => by
  rw [dp_int h2]
  obtain ⟨a, xs, rfl, t1, t2⟩ := dp_lst h1
  obtain ⟨v, e, hv⟩ := atI_of t2 h
  exact ⟨a, xs, i, v, rfl, rfl, sql_ex hid_le t1, e, q v d H rfl (WL.Ex.refl _) hv⟩
theorem dv_ixT {i : Int} (ha : DV F ta δ (.tuple ds)) (hb : DV F tb δ (.int i)) (h : atI ds i = some d) : DV F (tOp (rIxT F.K) ta tb) δ d := dv_op ha hb (rd_ixT h)
theorem dv_ixL {i : Int} (ha : DV F ta δ (.list ds)) (hb : DV F tb δ (.int i)) (h : atI ds i = some d) : DV F (tOp (rIxL F.K) ta tb) δ d := dv_op ha hb (rd_ixL h)
/-- an item of an owned list -/
theorem de_ixO {i : Nat} {l : Addr} (ho : δ[i]? = some (.own l ds)) (hb : DE F tb δ fun d δ' => ∃ k ds' e, d = .int k ∧ δ'[i]? = some (.own l ds') ∧ atI ds' k = some e ∧ P e δ') : DE F (tOp (rIxL F.K) (tVar i) tb) δ P := fun A H σ s Q q =>
  ⟨.ref l, (s.sd.own i l ds ho).1, hb A H σ s _ fun u d2 δ2 H2 p2 s2 x2 h3 => by
      obtain ⟨k, ds', e, rfl, ho', hi, p⟩ := p2
      rw [dp_int h3]
      obtain ⟨_, m, xs, hx, ha⟩ := s2.sd.own i l ds' ho'
      obtain ⟨v, ev, hv⟩ := atI_of ha hi
      exact ⟨l, xs, k, v, rfl, rfl, .inl (.inl hx), ev, q v e _ H2 p s2 x2 hv⟩⟩
theorem dv_ixO {i : Nat} {l : Addr} {k : Int} (ho : δ[i]? = some (.own l ds)) (hb : DV F tb δ (.int k)) (h : atI ds k = some d) : DV F (tOp (rIxL F.K) (tVar i) tb) δ d :=
  de_ixO ho (hb.mono fun d' δ' ⟨e1, e2⟩ => ⟨k, ds, d, e1, by rw [e2]; exact ho, h, rfl, e2⟩)
end
end WL
end
section
set_option Elab.async false
set_option linter.all false
set_option maxRecDepth 100000
namespace WL
open PySem PySem.Spec PyProof.Rows L2
section
variable {F : Fx} {te ta tb : TE} {tt tu : TT} {tl : TA} {δ : List WSlot} {d : PyData} {ds es : List PyData} {P P' : PyData → List WSlot → Prop} {R R' : Bool → List WSlot → Prop}

/-! ### tests -/
theorem DT.mono (h : DT F tt δ R) (w : ∀ b δ', R b δ' → R' b δ') : DT F tt δ R' := fun A H σ s Q q => h A H σ s Q fun b δ' H2 p => q b δ' H2 (w b δ' p)
theorem dt_test (h : DE F te δ fun d δ' => ∃ b, d = .bool b ∧ R b δ') : DT F (tTest te) δ R := fun A H σ s Q q => h A H σ s _ fun v d δ' H2 ⟨b, e, p⟩ s2 e2 hd => by
  subst e
  exact ⟨b, dp_bl hd, q b δ' H2 p s2 e2⟩
theorem dt_B (h : DE F te δ fun d δ' => ∃ b, d = .bool b ∧ R b δ') : DT F (tB te) δ R := fun A H σ s Q q => h A H σ s _ fun v d δ' H2 ⟨b, e, p⟩ s2 e2 hd => by
  subst e
  exact ⟨b, dp_bl hd, q b δ' H2 p s2 e2⟩
theorem db_test {b : Bool} (h : DV F te δ (.bool b)) : DB F (tTest te) δ b := dt_test (h.mono fun d δ' ⟨e1, e2⟩ => ⟨b, e1, rfl, e2⟩)
theorem db_B {b : Bool} (h : DV F te δ (.bool b)) : DB F (tB te) δ b := dt_B (h.mono fun d δ' ⟨e1, e2⟩ => ⟨b, e1, rfl, e2⟩)
theorem dt_not (h : DT F tt δ fun b δ' => R (!b) δ') : DT F (tNot tt) δ R := fun A H σ s Q q => h A H σ s _ fun b δ' H2 p s2 e2 => q (!b) δ' H2 p s2 e2
theorem db_not {b : Bool} (h : DB F tt δ b) : DB F (tNot tt) δ (!b) := dt_not (h.mono fun b' δ' ⟨e1, e2⟩ => ⟨by rw [e1], e2⟩)
theorem dt_and {Pt : Bool → List WSlot → Prop} (h : DT F tt δ Pt) (hu : ∀ δ1, Pt true δ1 → DT F tu δ1 R) (h0 : ∀ δ1, Pt false δ1 → R false δ1) : DT F (tAnd tt tu) δ R := fun A H σ s Q q => h A H σ s _ fun b δ1 H1 p s1 e1 => by
  cases b with
  | true => rw [if_pos rfl]; exact hu δ1 p A H1 σ s1 Q fun b δ' H2 p2 s2 e2 => q b δ' H2 p2 s2 (e1.trans e2)
  | false => rw [if_neg Bool.false_ne_true]; exact q false δ1 H1 (h0 δ1 p) s1 e1
theorem db_and {a b : Bool} (h : DB F tt δ a) (hu : a = true → DB F tu δ b) : DB F (tAnd tt tu) δ (a && b) := dt_and h (fun δ1 ⟨e1, e2⟩ => by subst e2; subst e1; exact hu rfl) fun δ1 ⟨e1, e2⟩ => ⟨by rw [← e1]; rfl, e2⟩
theorem dt_or {Pt : Bool → List WSlot → Prop} (h : DT F tt δ Pt) (hu : ∀ δ1, Pt false δ1 → DT F tu δ1 R) (h0 : ∀ δ1, Pt true δ1 → R true δ1) : DT F (tOr tt tu) δ R := fun A H σ s Q q => h A H σ s _ fun b δ1 H1 p s1 e1 => by
  cases b with
  | true => rw [if_pos rfl]; exact q true δ1 H1 (h0 δ1 p) s1 e1
  | false => rw [if_neg Bool.false_ne_true]; exact hu δ1 p A H1 σ s1 Q fun b δ' H2 p2 s2 e2 => q b δ' H2 p2 s2 (e1.trans e2)
theorem db_or {a b : Bool} (h : DB F tt δ a) (hu : a = false → DB F tu δ b) : DB F (tOr tt tu) δ (a || b) := dt_or h (fun δ1 ⟨e1, e2⟩ => by subst e2; subst e1; exact hu rfl) fun δ1 ⟨e1, e2⟩ => ⟨by rw [← e1]; rfl, e2⟩
theorem dv_andV {a b : Bool} (h : DV F ta δ (.bool a)) (hb : a = true → DV F tb δ (.bool b)) : DV F (tAndV ta tb) δ (.bool (a && b)) := fun A H σ s Q q => h A H σ s _ fun v d δ1 H1 ⟨e1, e2⟩ s1 x1 hd => by
  subst e1; subst e2
  refine ⟨a, dp_bl hd, ?_⟩
  cases a with
  | true => rw [if_pos rfl]; exact hb rfl A H1 σ s1 Q fun v d δ' H2 p2 s2 e2 => q v d δ' H2 p2 s2 (x1.trans e2)
  | false => rw [if_neg Bool.false_ne_true]; exact q _ (.bool false) _ H1 ⟨rfl, rfl⟩ s1 x1 (.bl _)
theorem dv_orV {a b : Bool} (h : DV F ta δ (.bool a)) (hb : a = false → DV F tb δ (.bool b)) : DV F (tOrV ta tb) δ (.bool (a || b)) := fun A H σ s Q q => h A H σ s _ fun v d δ1 H1 ⟨e1, e2⟩ s1 x1 hd => by
  subst e1; subst e2
  refine ⟨a, dp_bl hd, ?_⟩
  cases a with
  | true => rw [if_pos rfl]; exact q _ (.bool true) _ H1 ⟨rfl, rfl⟩ s1 x1 (.bl _)
  | false => rw [if_neg Bool.false_ne_true]; exact hb rfl A H1 σ s1 Q fun v d δ' H2 p2 s2 e2 => q v d δ' H2 p2 s2 (x1.trans e2)
theorem dv_notV {a : Bool} (h : DV F ta δ (.bool a)) : DV F (tNotV ta) δ (.bool (!a)) := fun A H σ s Q q => h A H σ s _ fun v d δ1 H1 ⟨e1, e2⟩ s1 x1 hd => by
  subst e1; subst e2
  exact ⟨a, dp_bl hd, q _ (.bool (!a)) _ H1 ⟨rfl, rfl⟩ s1 x1 (.bl _)⟩
theorem de_if {Pt : Bool → List WSlot → Prop} (h : DT F tt δ Pt) (h1 : ∀ δ1, Pt true δ1 → DE F ta δ1 P) (h0 : ∀ δ1, Pt false δ1 → DE F tb δ1 P) : DE F (tIf tt ta tb) δ P := fun A H σ s Q q => h A H σ s _ fun b δ1 H1 p s1 e1 => by
  cases b with
  | true => rw [if_pos rfl]; exact h1 δ1 p A H1 σ s1 Q fun v d δ' H2 p2 s2 e2 => q v d δ' H2 p2 s2 (e1.trans e2)
  | false => rw [if_neg Bool.false_ne_true]; exact h0 δ1 p A H1 σ s1 Q fun v d δ' H2 p2 s2 e2 => q v d δ' H2 p2 s2 (e1.trans e2)
theorem dv_if {b : Bool} (h : DB F tt δ b) (h1 : b = true → DV F ta δ d) (h0 : b = false → DV F tb δ d) : DV F (tIf tt ta tb) δ d :=
  de_if h (fun δ1 ⟨e1, e2⟩ => by subst e2; exact h1 e1.symm) fun δ1 ⟨e1, e2⟩ => by subst e2; exact h0 e1.symm

/-! ### comparisons of scalars -/
theorem dv_eqI {i j : Int} (ha : DV F ta δ (.int i)) (hb : DV F tb δ (.int j)) : DV F (tOp rEq ta tb) δ (.bool (decide (i = j))) := dv_op ha hb fun A H x y l h1 h2 Q q => by
  rw [dp_int h1, dp_int h2]
  refine ⟨rfl, ?_⟩
  have e : decide (V.int i = V.int j) = decide (i = j) := by simp
  rw [e]
  exact q _ _ H rfl (WL.Ex.refl _) (.bl _)
theorem dv_neI {i j : Int} (ha : DV F ta δ (.int i)) (hb : DV F tb δ (.int j)) : DV F (tOp rNe ta tb) δ (.bool (!decide (i = j))) := dv_op ha hb fun A H x y l h1 h2 Q q => by
  rw [dp_int h1, dp_int h2]
  refine ⟨rfl, ?_⟩
  have e : decide (V.int i = V.int j) = decide (i = j) := by simp
  rw [e]
  exact q _ _ H rfl (WL.Ex.refl _) (.bl _)
def isNone : PyData → Bool | .none => true | _ => false
theorem dp_isN {K : PySem.W.Frag} {H : Hp} {v : V} {d : PyData} (h : Dt K H v d) : decide (v = .non) = isNone d := by cases h <;> rfl
theorem dv_isN (ha : DV F ta δ d) : DV F (tOp (fun x y H Q => y = .non ∧ Q (.bl (decide (x = .non))) H) ta (tC .non)) δ (.bool (isNone d)) := dv_op ha de_non fun A H x y l h1 h2 Q q =>
  ⟨dp_non h2, by rw [dp_isN h1]; exact q _ _ H rfl (WL.Ex.refl _) (.bl _)⟩
theorem dv_notN (ha : DV F ta δ d) : DV F (tOp (fun x y H Q => y = .non ∧ Q (.bl (!decide (x = .non))) H) ta (tC .non)) δ (.bool (!isNone d)) := dv_op ha de_non fun A H x y l h1 h2 Q q =>
  ⟨dp_non h2, by rw [dp_isN h1]; exact q _ _ H rfl (WL.Ex.refl _) (.bl _)⟩
theorem dv_eqD (ha : DV F ta δ d) {e : PyData} (hb : DV F tb δ e) (h1 : SeqAt.shaped d = true) (h2 : SeqAt.shaped e = true) : DV F (tOp (rEqD F.K) ta tb) δ (.bool (PyData.eqv d e)) := dv_op ha hb fun A H x y l k1 k2 Q q =>
  ⟨d, e, (dp_ex hid_le k1).dp, (dp_ex hid_le k2).dp, h1, h2, q _ _ H rfl (WL.Ex.refl _) (.bl _)⟩
theorem dv_neD (ha : DV F ta δ d) {e : PyData} (hb : DV F tb δ e) (h1 : SeqAt.shaped d = true) (h2 : SeqAt.shaped e = true) : DV F (tOp (rNeD F.K) ta tb) δ (.bool (!PyData.eqv d e)) := dv_op ha hb fun A H x y l k1 k2 Q q =>
  ⟨d, e, (dp_ex hid_le k1).dp, (dp_ex hid_le k2).dp, h1, h2, q _ _ H rfl (WL.Ex.refl _) (.bl _)⟩

/-! ### built-ins -/
theorem de_cb {r : List V → Hp → VK → Prop} {PA : List PyData → List WSlot → Prop} (h : DA F tl δ PA)
    (hr : ∀ ds δ1, PA ds δ1 → ∀ A H vs, Live A H → DtAll F.K (hid A H) vs ds → ∀ Q : VK, (∀ v d H2, P d δ1 → Ex H H2 → Dt F.K (hid A H2) v d → Q v H2) → r vs H Q) : DE F (tCB r tl) δ P := fun A H σ s Q q =>
  h A H σ s _ fun vs ds δ1 H1 p s1 e1 h1 => hr ds δ1 p A H1 vs s1.live h1 Q fun v d H2 p2 e2 hd => q v d δ1 H2 p2 (s1.ex e2) (e1.trans (hid_ex e2)) hd
theorem dv_cb1 {r : List V → Hp → VK → Prop} {e : PyData} (h : DV F ta δ d)
    (hr : ∀ A H v, Live A H → Dt F.K (hid A H) v d → ∀ Q : VK, (∀ u H2, Ex H H2 → Dt F.K (hid A H2) u e → Q u H2) → r [v] H Q) : DV F (tCB r (tCons ta tNil)) δ e :=
  de_cb (das1 h) fun ds δ1 ⟨e1, e2⟩ A H vs l hv Q q => by
    subst e1; subst e2
    cases hv with
    | cons h1 h2 =>
      cases h2
      exact hr A H _ l h1 Q fun u H2 x hu => q u e H2 ⟨rfl, rfl⟩ x hu
abbrev rLenQ (K : PySem.W.Frag) : List V → Hp → VK → Prop := fun xs H Q => ∃ p ys, xs = [.ref p] ∧ (SqL K H p ys ∨ SqT K H p ys) ∧ Q (.int ys.length) H
abbrev rTupQ0 (K : PySem.W.Frag) : List V → Hp → VK → Prop := fun xs H Q => ∃ p ys, xs = [.ref p] ∧ ((SqL K H p ys ∧ ∀ l, H l = none → Q (.ref l) (upd H l (.tup ys))) ∨ (SqT K H p ys ∧ Q (.ref p) H))
/-- what a len counts -/
def seqOf : PyData → List PyData | .tuple ds => ds | .list ds => ds | _ => []
def isSeq : PyData → Bool | .tuple _ => true | .list _ => true | _ => false
theorem dv_len (h : DV F ta δ d) (hs : isSeq d = true) : DV F (tCB (rLenQ F.K) (tCons ta tNil)) δ (.int (seqOf d).length) :=
  dv_cb1 h fun A H v l hv Q q => by
    cases hv with
    | lst h1 h2 => exact ⟨_, _, rfl, .inl (sql_ex hid_le h1), by rw [h2.len]; exact q _ H (WL.Ex.refl _) (.int _)⟩
    | tup h1 _ h2 => exact ⟨_, _, rfl, .inr (sqt_ex hid_le h1), by rw [h2.len]; exact q _ H (WL.Ex.refl _) (.int _)⟩
    | non => cases hs
    | bl b => cases hs
    | int i => cases hs
    | str x => cases hs
theorem dv_lenL (h : DLs F ta δ ds) : DV F (tCB (rLenQ F.K) (tCons ta tNil)) δ (.int ds.length) := fun A H σ s Q q =>
  h A H σ s _ fun a xs ds' δ1 H1 ⟨e1, e2⟩ s1 x1 h1 h2 => by
    subst e1; subst e2
    exact ⟨a, xs, rfl, .inl h1, by rw [h2.len]; exact q _ _ _ H1 ⟨rfl, rfl⟩ s1 x1 (.int _)⟩
/-- tuple(a list) -/
theorem de_tupL {PL : List PyData → List WSlot → Prop} (h : DL F ta δ PL) (hp : ∀ ds δ', PL ds δ' → P (.tuple ds) δ') : DE F (tCB (rTupN F.K) (tCons ta tNil)) δ P := fun A H σ s Q q =>
  h A H σ s _ fun a xs ds' δ1 H1 p1 s1 x1 h1 h2 => ⟨a, xs, rfl, .inl ⟨h1, fun p o hn hd =>
    q _ _ _ _ (hp _ _ p1) (s1.ex (WL.Ex.new hn)) (x1.trans (hid_ex (WL.Ex.new hn))) (dt_new (s1.live.out hn) hn hd h2)⟩⟩
theorem dv_tupL (h : DLs F ta δ ds) : DV F (tCB (rTupN F.K) (tCons ta tNil)) δ (.tuple ds) := de_tupL h fun ds' δ' ⟨e1, e2⟩ => ⟨by rw [e1], e2⟩
/-- int(an int) -/
theorem de_intI (h : DE F ta δ fun d δ' => ∃ i, d = .int i ∧ P (.int i) δ') : DE F (tCB (fun xs H Q => (∃ i, xs = [.int i] ∧ Q (.int i) H) ∨ ∃ k, xs = [.bl k] ∧ Q (.int (if k then 1 else 0)) H) (tCons ta tNil)) δ P := fun A H σ s Q q =>
  h A H σ s _ fun v d δ' H2 ⟨i, e, p⟩ s2 x2 hd => by
    subst e
    rw [dp_int hd]
    exact .inl ⟨i, rfl, q _ _ _ H2 p s2 x2 (.int _)⟩
theorem dv_intI {i : Int} (h : DV F ta δ (.int i)) : DV F (tCB (fun xs H Q => (∃ i, xs = [.int i] ∧ Q (.int i) H) ∨ ∃ k, xs = [.bl k] ∧ Q (.int (if k then 1 else 0)) H) (tCons ta tNil)) δ (.int i) :=
  de_intI (h.mono fun d δ' ⟨e1, e2⟩ => ⟨i, e1, rfl, e2⟩)
theorem bls_of {K : PySem.W.Frag} {H : Hp} : ∀ {bs : List Bool} {vs : List V}, DtAll K H vs (bs.map PyData.bool) → vs = bs.map V.bl
  | [], _, h => by cases h; rfl
  | b :: bs, _, h => by
    cases h with
    | cons h1 h2 => rw [dp_bl h1, bls_of h2]; rfl
theorem dv_all {bs : List Bool} (h : DLs F ta δ (bs.map .bool)) : DV F (tCB (rAll F.K) (tCons ta tNil)) δ (.bool (bs.all id)) := fun A H σ s Q q =>
  h A H σ s _ fun a xs ds' δ1 H1 ⟨e1, e2⟩ s1 x1 h1 h2 => by
    subst e1; subst e2
    exact ⟨a, bs, rfl, by rw [← bls_of h2]; exact h1, q _ _ _ H1 ⟨rfl, rfl⟩ s1 x1 (.bl _)⟩
theorem dv_any {bs : List Bool} (h : DLs F ta δ (bs.map .bool)) : DV F (tCB (rAny F.K) (tCons ta tNil)) δ (.bool (bs.any id)) := fun A H σ s Q q =>
  h A H σ s _ fun a xs ds' δ1 H1 ⟨e1, e2⟩ s1 x1 h1 h2 => by
    subst e1; subst e2
    exact ⟨a, bs, rfl, by rw [← bls_of h2]; exact h1, q _ _ _ H1 ⟨rfl, rfl⟩ s1 x1 (.bl _)⟩

/-! ### + on lists and tuples, slices of tuples -/
theorem rd_catT (hl : ds.length + es.length ≤ 100000) : RD F (rCatN F.K) (.tuple ds) (.tuple es) fun z => z = .tuple (ds ++ es) := fun A H x y l h1 h2 Q q => by
  obtain ⟨a, xs, rfl, a1, a2⟩ := dp_tup h1
  obtain ⟨b, ys, rfl, b1, b2⟩ := dp_tup h2
  refine ⟨a, b, xs, ys, rfl, rfl, sqt_ex hid_le a1, sqt_ex hid_le b1, by rw [a2.len, b2.len]; exact Nat.le_trans hl (by decide), fun e => ?_, fun _ e => ?_, fun _ _ p o hp hd => ?_⟩
  · subst e; cases a2; exact q _ _ H rfl (WL.Ex.refl _) h2
  · subst e; cases b2; rw [List.append_nil] at q; exact q _ _ H rfl (WL.Ex.refl _) h1
  · exact q _ _ _ rfl (WL.Ex.new hp) (dt_new (l.out hp) hp hd (a2.app b2))
theorem dv_catT (ha : DV F ta δ (.tuple ds)) (hb : DV F tb δ (.tuple es)) (hl : ds.length + es.length ≤ 100000) : DV F (tOp (rCatN F.K) ta tb) δ (.tuple (ds ++ es)) := dv_op ha hb (rd_catT hl)
theorem sIx_take (n : Nat) (lo hi : Option Int) : True := trivial
def cutD (ds : List PyData) (lo hi : Option Int) : List PyData := (ds.drop (HT.sIx ds.length 0 lo)).take (HT.sIx ds.length ds.length hi - HT.sIx ds.length 0 lo)
def DO (F : Fx) (t : TO) (δ : List WSlot) (o : Option Int) : Prop := ∀ A H σ, St F A H σ δ → ∀ Q : Option Int → Hp → Prop, (∀ H2, St F A H2 σ δ → Ex (hid A H) (hid A H2) → Q o H2) → t σ H Q
theorem do_none : DO F tNoPart δ none := fun A H σ s Q q => q H s (WL.Ex.refl _)
theorem do_some {i : Int} (h : DV F te δ (.int i)) : DO F (tPart te) δ (some i) := fun A H σ s Q q => h A H σ s _ fun v d δ' H2 ⟨e1, e2⟩ s2 x2 hd => by
  subst e1; subst e2
  exact ⟨i, dp_int hd, q H2 s2 x2⟩
theorem dv_slT {t1 t2 : TO} {lo hi : Option Int} (ha : DV F ta δ (.tuple ds)) (h1 : DO F t1 δ lo) (h2 : DO F t2 δ hi) : DV F (L2.tSl (rSlN F.K) ta t1 t2) δ (.tuple (cutD ds lo hi)) := fun A H σ s Q q =>
  ha A H σ s _ fun v d δ1 H1 ⟨e1, e2⟩ s1 x1 hd => by
    subst e1; subst e2
    refine h1 A H1 σ s1 _ fun H2 s2 x2 => h2 A H2 σ s2 _ fun H3 s3 x3 => ?_
    obtain ⟨a, xs, rfl, a1, a2⟩ := dp_tup (dp_ex (x2.trans x3) hd)
    have hc : DtAll F.K (hid A H3) (cutV xs lo hi) (cutD ds lo hi) := by
      unfold cutV cutD
      rw [a2.len]
      exact (a2.drop _).take _
    refine ⟨a, xs, rfl, sqt_ex hid_le a1, fun e => ?_, fun _ p o hp hod => ?_⟩
    · have e2 : cutD ds lo hi = ds := by
        unfold cutD
        rw [← a2.len, e.1, e.2, Nat.sub_zero, List.drop_zero, a2.len, List.take_length]
      rw [e2] at q
      exact q _ _ _ H3 ⟨rfl, rfl⟩ s3 (x1.trans (x2.trans x3)) (dp_ex (x2.trans x3) hd)
    · exact q _ _ _ _ ⟨rfl, rfl⟩ (s3.ex (WL.Ex.new hp)) ((x1.trans (x2.trans x3)).trans (hid_ex (WL.Ex.new hp))) (dt_new (s3.live.out hp) hp hod hc)

/-! ### calls -/
/-- a def that leaves all as it is and answers d to ds -/
def spP (K : PySem.W.Frag) (rel : List PyData → (PyData → Prop) → Prop) : Sp := fun vs H Q _ => ∃ (A : List Addr) (ds : List PyData) (Pd : PyData → Prop), Live A H ∧ DtAll K (hid A H) vs ds ∧ rel ds Pd ∧
  ∀ v d H', Pd d → Ex H H' → Dt K (hid A H') v d → Q v H'
theorem de_call {rel : List PyData → (PyData → Prop) → Prop} {E : XK} {PA : List PyData → List WSlot → Prop} (h : DA F tl δ PA) (hr : ∀ ds δ1, PA ds δ1 → ∃ Pd, rel ds Pd ∧ ∀ d, Pd d → P d δ1) : DE F (tCall (spP F.K rel) [] E tl) δ P := fun A H σ s Q q =>
  h A H σ s _ fun vs ds δ1 H1 p s1 e1 h1 => by
    obtain ⟨Pd, hrel, hp⟩ := hr ds δ1 p
    exact ⟨A, ds, Pd, s1.live, by rw [List.append_nil]; exact h1, hrel, fun v d H2 p2 e2 hd => q v d δ1 H2 (hp d p2) (s1.ex e2) (e1.trans (hid_ex e2)) hd⟩
theorem dv_call {rel : List PyData → (PyData → Prop) → Prop} {E : XK} (h : DAs F tl δ ds) (hr : rel ds fun z => z = d) : DV F (tCall (spP F.K rel) [] E tl) δ d := fun A H σ s Q q =>
  h A H σ s _ fun vs ds' δ1 H1 ⟨e1, e2⟩ s1 x1 h1 => by
    subst e1; subst e2
    exact ⟨A, _, _, s1.live, by rw [List.append_nil]; exact h1, hr, fun v d' H2 p2 e2 hd => q v d' _ H2 ⟨p2, rfl⟩ (s1.ex e2) (x1.trans (hid_ex e2)) hd⟩
/-- a def that changes the list that it is handed first -/
def spO (K : PySem.W.Frag) (rel : List PyData → List PyData → (PyData → List PyData → Prop) → Prop) : Sp := fun vs H Q _ => ∃ (A : List Addr) (l : Addr) (us xs : List V) (ds es : List PyData) (Pd : PyData → List PyData → Prop), vs = .ref l :: us ∧ Live A H ∧ l ∈ A ∧
  H l = some (.lst xs) ∧ DtAll K (hid A H) xs ds ∧ DtAll K (hid A H) us es ∧ rel ds es Pd ∧
  ∀ v d ds' xs' H', Pd d ds' → Ex (hid [l] H) H' → H' l = some (.lst xs') → DtAll K (hid A H') xs' ds' → Dt K (hid A H') v d → Q v H'
theorem de_callO {rel : List PyData → List PyData → (PyData → List PyData → Prop) → Prop} {E : XK} {PA : List PyData → List WSlot → Prop} {i : Nat} {l : Addr} (ho : δ[i]? = some (.own l ds)) (h : DA F tl δ PA)
    (hr : ∀ es δ1, PA es δ1 → ∃ ds1 Pd, δ1[i]? = some (.own l ds1) ∧ rel ds1 es Pd ∧ ∀ d ds', Pd d ds' → P d (δ1.set i (.own l ds'))) : DE F (tCall (spO F.K rel) [] E (tCons (tVar i) tl)) δ P := fun A H σ s Q q =>
  ⟨.ref l, (s.sd.own i l ds ho).1, h A H σ s _ fun vs es δ1 H1 p s1 x1 h1 => by
    obtain ⟨ds1, Pd, ho1, hrel, hpd⟩ := hr es δ1 p
    obtain ⟨_, m, xs, hx, ha⟩ := s1.sd.own i l ds1 ho1
    refine ⟨A, l, vs, xs, ds1, es, _, by rw [List.append_nil], s1.live, m, hx, ha, h1, hrel, fun v d ds' xs' H' p2 e2 hl hd hv => ?_⟩
    obtain ⟨s2, x2⟩ := s1.call ho1 e2 hl hd
    exact q v d _ H' (hpd d ds' p2) s2 (x1.trans x2) hv⟩
end
end WL
end
section
set_option Elab.async false
set_option linter.all false
set_option maxRecDepth 100000
namespace WL
open PySem PySem.Spec PyProof.Rows L2

/-- what is wanted behind a statement, over environments -/
structure ED (F : Fx) (A : List Addr) (H : Hp) (D : Ends) (N : List WSlot → Prop) (R : PyData → List WSlot → Prop) (B C : List WSlot → Prop) : Prop where
  nx : ∀ δ' A' H' σ', N δ' → St F A' H' σ' δ' → Ex (hid A H) (hid A' H') → D.nx σ' H'
  rt : ∀ d v δ' A' H' σ', R d δ' → St F A' H' σ' δ' → Ex (hid A H) (hid A' H') → Dt F.K (hid A' H') v d → D.rt v H'
  bk : ∀ δ' A' H' σ', B δ' → St F A' H' σ' δ' → Ex (hid A H) (hid A' H') → D.bk σ' H'
  ct : ∀ δ' A' H' σ', C δ' → St F A' H' σ' δ' → Ex (hid A H) (hid A' H') → D.ct σ' H'
theorem ED.adv {F : Fx} {A A1 : List Addr} {H H1 : Hp} {D : Ends} {N : List WSlot → Prop} {R : PyData → List WSlot → Prop} {B C : List WSlot → Prop} (E : ED F A H D N R B C) (e : Ex (hid A H) (hid A1 H1)) : ED F A1 H1 D N R B C :=
  ⟨fun δ' A' H' σ' n s x => E.nx δ' A' H' σ' n s (e.trans x), fun d v δ' A' H' σ' n s x => E.rt d v δ' A' H' σ' n s (e.trans x), fun δ' A' H' σ' n s x => E.bk δ' A' H' σ' n s (e.trans x), fun δ' A' H' σ' n s x => E.ct δ' A' H' σ' n s (e.trans x)⟩
def DS (F : Fx) (t : TS) (δ : List WSlot) (N : List WSlot → Prop) (R : PyData → List WSlot → Prop) (B C : List WSlot → Prop) : Prop :=
  ∀ A H σ (D : Ends), St F A H σ δ → ED F A H D N R B C → t D σ H
/-- a fresh list -/
def DN (F : Fx) (te : TE) (δ : List WSlot) (P : List PyData → List WSlot → Prop) : Prop := ∀ A H σ, St F A H σ δ → ∀ Q : VK,
  (∀ l xs ds δ' H2, P ds δ' → St F A H2 σ δ' → Ex (hid A H) (hid A H2) → H2 l = none → DtAll F.K (hid A H2) xs ds → Q (.ref l) (upd H2 l (.lst xs))) → te σ H Q
/-- storing into a target -/
def DG (F : Fx) (g : TG) (d : PyData) (δ δ' : List WSlot) : Prop := ∀ A H σ v, St F A H σ δ → Dt F.K (hid A H) v d → ∀ Q : List (Option V) → Hp → Prop, (∀ σ', St F A H σ' δ' → Q σ' H) → g v σ H Q
def DGs (F : Fx) (g : TGs) (ds : List PyData) (δ δ' : List WSlot) : Prop := ∀ A H σ vs, St F A H σ δ → DtAll F.K (hid A H) vs ds → ∀ Q : List (Option V) → Hp → Prop, (∀ σ', St F A H σ' δ' → Q σ' H) → g vs σ H Q
structure WalkD (K : PySem.W.Frag) (A : List Addr) (H : Hp) (J : It) (es : List PyData) : Prop where
  go : ∀ i A2 H2, i < es.length → Ex (hid A H) (hid A2 H2) → J.go i H2
  stop : ∀ A2 H2, Ex (hid A H) (hid A2 H2) → J.stop es.length H2
  yld : ∀ i A2 H2 x H3, i < es.length → Ex (hid A H) (hid A2 H2) → Live A2 H2 → J.yld i H2 x H3 → Ex H2 H3 ∧ ∃ d, es[i]? = some d ∧ Dt K (hid A2 H3) x d
def DI (F : Fx) (wi : TI) (δ : List WSlot) (P : List PyData → List WSlot → Prop) : Prop := ∀ A H σ, St F A H σ δ → ∀ R : It → Hp → Prop,
  (∀ J es δ' H1, P es δ' → St F A H1 σ δ' → Ex (hid A H) (hid A H1) → WalkD F.K A H1 J es → R J H1) → wi σ H R

section
variable {F : Fx} {te ta tb : TE} {tt : TT} {tl : TA} {t u : TS} {g : TG} {gs : TGs} {δ δ' δ'' : List WSlot} {d : PyData} {ds es : List PyData} {P : PyData → List WSlot → Prop} {N N1 B C : List WSlot → Prop} {R : PyData → List WSlot → Prop}

theorem DS.mono {N' B' C' : List WSlot → Prop} {R' : PyData → List WSlot → Prop} (h : DS F t δ N R B C) (hn : ∀ δ, N δ → N' δ) (hr : ∀ d δ, R d δ → R' d δ) (hb : ∀ δ, B δ → B' δ) (hc : ∀ δ, C δ → C' δ) : DS F t δ N' R' B' C' := fun A H σ D s E =>
  h A H σ D s ⟨fun δ' A' H' σ' n => E.nx δ' A' H' σ' (hn _ n), fun d v δ' A' H' σ' n => E.rt d v δ' A' H' σ' (hr _ _ n), fun δ' A' H' σ' n => E.bk δ' A' H' σ' (hb _ n), fun δ' A' H' σ' n => E.ct δ' A' H' σ' (hc _ n)⟩
theorem ds_seq (h : DS F t δ N1 R B C) (hu : ∀ δ1, N1 δ1 → DS F u δ1 N R B C) : DS F (tSeq t u) δ N R B C := fun A H σ D s E =>
  h A H σ { D with nx := u D } s ⟨fun δ' A' H' σ' n s' e => hu δ' n A' H' σ' D s' (E.adv e), E.rt, E.bk, E.ct⟩
theorem ds_next (h : N δ) : DS F tNext δ N R B C := fun A H σ D s E => E.nx δ A H σ h s (WL.Ex.refl _)
theorem ds_cont (h : C δ) : DS F tCont δ N R B C := fun A H σ D s E => E.ct δ A H σ h s (WL.Ex.refl _)
theorem ds_brk (h : B δ) : DS F tBreak δ N R B C := fun A H σ D s E => E.bk δ A H σ h s (WL.Ex.refl _)
theorem ds_set {i : Nat} (h : DE F te δ fun d δ1 => N (δ1.set i (.dat d))) : DS F (tAsg te (gName i)) δ N R B C := fun A H σ D s E =>
  h A H σ s _ fun v d δ1 H1 p s1 e1 hd => E.nx _ A H1 _ p (s1.set hd) e1
theorem ds_setV {i : Nat} (h : DV F te δ d) (hn : N (δ.set i (.dat d))) : DS F (tAsg te (gName i)) δ N R B C := ds_set (h.mono fun d' δ' ⟨e1, e2⟩ => by rw [e1, e2]; exact hn)
/-- x = e; the rest -/
theorem dq_setV {i : Nat} (h : DV F te δ d) (hu : DS F u (δ.set i (.dat d)) N R B C) : DS F (tSeq (tAsg te (gName i)) u) δ N R B C :=
  ds_seq (N1 := fun δ1 => δ1 = δ.set i (.dat d)) (ds_setV h rfl) fun δ1 e => by subst e; exact hu
theorem dq_set {i : Nat} (h : DE F te δ P) (hu : ∀ d δ1, P d δ1 → DS F u (δ1.set i (.dat d)) N R B C) : DS F (tSeq (tAsg te (gName i)) u) δ N R B C :=
  ds_seq (N1 := fun δ1 => ∃ d δ', P d δ' ∧ δ1 = δ'.set i (.dat d)) (ds_set (h.mono fun d δ' p => ⟨d, δ', p, rfl⟩)) fun δ1 ⟨d, δ', p, e⟩ => by subst e; exact hu d δ' p
/-- a target of any form -/
theorem ds_asg (h : DE F te δ fun d δ1 => ∃ δ2, DG F g d δ1 δ2 ∧ N δ2) : DS F (tAsg te g) δ N R B C := fun A H σ D s E =>
  h A H σ s _ fun v d δ1 H1 ⟨δ2, hg, p⟩ s1 e1 hd => hg A H1 σ v s1 hd _ fun σ' s2 => E.nx δ2 A H1 σ' p s2 e1
theorem dq_asgV (h : DV F te δ d) (hg : DG F g d δ δ') (hu : DS F u δ' N R B C) : DS F (tSeq (tAsg te g) u) δ N R B C :=
  ds_seq (N1 := fun δ1 => δ1 = δ') (ds_asg (h.mono fun d' δ1 ⟨e1, e2⟩ => ⟨δ', by rw [e1, e2]; exact hg, rfl⟩)) fun δ1 e => by subst e; exact hu
theorem dg_name {i : Nat} : DG F (gName i) d δ (δ.set i (.dat d)) := fun A H σ v s h Q q => q _ (s.set h)
theorem dgs_nil : DGs F gNil [] δ δ := fun A H σ vs s h Q q => by cases h; exact ⟨rfl, q σ s⟩
theorem dgs_cons (h : DG F g d δ δ') (hs : DGs F gs ds δ' δ'') : DGs F (gCons g gs) (d :: ds) δ δ'' := fun A H σ vs s hv Q q => by
  cases hv with
  | cons h1 h2 => exact ⟨_, _, rfl, h A H σ _ s h1 _ fun σ' s' => hs A H σ' _ s' h2 Q q⟩
theorem dg_tup {n : Nat} (h : DGs F gs ds δ δ') (hn : ds.length = n) : DG F (gTup F.K n gs) (.tuple ds) δ δ' := fun A H σ v s hv Q q => by
  obtain ⟨a, xs, rfl, h1, h2⟩ := dp_tup hv
  exact ⟨a, xs, rfl, sqt_ex hid_le h1, by rw [h2.len]; exact hn, h A H σ xs s h2 Q q⟩
theorem dg2 {i j : Nat} {d1 d2 : PyData} : DG F (gTup F.K 2 (gCons (gName i) (gCons (gName j) gNil))) (.tuple [d1, d2]) δ ((δ.set i (.dat d1)).set j (.dat d2)) := dg_tup (dgs_cons dg_name (dgs_cons dg_name dgs_nil)) rfl
theorem dg3 {i j k : Nat} {d1 d2 d3 : PyData} : DG F (gTup F.K 3 (gCons (gName i) (gCons (gName j) (gCons (gName k) gNil)))) (.tuple [d1, d2, d3]) δ (((δ.set i (.dat d1)).set j (.dat d2)).set k (.dat d3)) := dg_tup (dgs_cons dg_name (dgs_cons dg_name (dgs_cons dg_name dgs_nil))) rfl
theorem ds_par {i j : Nat} (h : DA F tl δ fun ds δ1 => ∃ d e, ds = [d, e] ∧ N ((δ1.set i (.dat d)).set j (.dat e))) : DS F (tPar i j tl) δ N R B C := fun A H σ D s E =>
  h A H σ s _ fun vs ds δ1 H1 ⟨d, e, p1, p⟩ s1 e1 hd => by
    subst p1
    cases hd with
    | cons h1 h2 => cases h2 with
      | cons h3 h4 => cases h4; exact ⟨_, _, rfl, E.nx _ A H1 _ p ((s1.set h1).set h3) e1⟩
theorem dq_par {i j : Nat} {d e : PyData} (h : DAs F tl δ [d, e]) (hu : DS F u ((δ.set i (.dat d)).set j (.dat e)) N R B C) : DS F (tSeq (tPar i j tl) u) δ N R B C :=
  ds_seq (N1 := fun δ1 => δ1 = (δ.set i (.dat d)).set j (.dat e)) (ds_par fun A H σ s Q q => h A H σ s Q fun vs ds δ1 H1 ⟨e1, e2⟩ => q vs ds δ1 H1 ⟨d, e, e1, by rw [e2]⟩) fun δ1 e => by subst e; exact hu
/-! ### lists of the frame's own -/
theorem dn_lst {PA : List PyData → List WSlot → Prop} (h : DA F tl δ PA) (hl : ∀ ds δ', PA ds δ' → ds.length ≤ 100000) : DN F (tLst tl) δ PA := fun A H σ s Q q =>
  h A H σ s _ fun vs ds δ1 H1 p s1 e1 h1 => ⟨by rw [h1.len]; exact Nat.le_trans (hl ds δ1 p) (by decide), fun a ha => q a vs ds δ1 H1 p s1 e1 ha h1⟩
theorem dn_nil : DN F (tLst tNil) δ (is1 δ []) := dn_lst da_nil fun ds δ' ⟨e, _⟩ => by rw [e]; decide
theorem ds_setN {i : Nat} (h : DN F te δ fun ds δ1 => ∀ l, N (δ1.set i (.own l ds))) : DS F (tAsg te (gName i)) δ N R B C := fun A H σ D s E =>
  h A H σ s _ fun l xs ds δ1 H1 p s1 e1 hn hd => E.nx _ (l :: A) _ _ (p l) (s1.setOwn hn hd) (by rw [hid_own hn]; exact e1)
theorem dq_setN {i : Nat} {PA : List PyData → List WSlot → Prop} (h : DN F te δ PA) (hu : ∀ ds δ1 l, PA ds δ1 → DS F u (δ1.set i (.own l ds)) N R B C) : DS F (tSeq (tAsg te (gName i)) u) δ N R B C :=
  ds_seq (N1 := fun δ2 => ∃ ds δ1 l, PA ds δ1 ∧ δ2 = δ1.set i (.own l ds)) (ds_setN fun A H σ s Q q => h A H σ s Q fun l xs ds δ' H2 p => q l xs ds δ' H2 fun l => ⟨ds, δ', l, p, rfl⟩) fun δ2 ⟨ds, δ1, l, p, e⟩ => by subst e; exact hu ds δ1 l p
theorem dq_nil {i : Nat} (hu : ∀ l, DS F u (δ.set i (.own l [])) N R B C) : DS F (tSeq (tAsg (tLst tNil) (gName i)) u) δ N R B C := dq_setN dn_nil fun ds δ1 l ⟨e1, e2⟩ => by subst e1; subst e2; exact hu l
theorem ds_append {i : Nat} {l : Addr} (ho : δ[i]? = some (.own l ds)) (h : DE F te δ fun d δ1 => ∃ ds1, δ1[i]? = some (.own l ds1) ∧ ds1.length < 100000 ∧ N (δ1.set i (.own l (ds1 ++ [d])))) :
    DS F (tDrop (tBM F.K "list" rAppend (tVar i) (tCons te tNil))) δ N R B C := fun A H σ D s E => by
  obtain ⟨e1, m, xs, e2, q⟩ := s.sd.own i l ds ho
  refine ⟨.ref l, e1, .inl ⟨rfl, _, SqL.of e2⟩, ?_⟩
  refine h A H σ s _ fun v d δ1 H1 ⟨ds1, ho1, hlen, p⟩ s1 x1 hd => ?_
  obtain ⟨_, m1, ys, f2, f3⟩ := s1.sd.own i l ds1 ho1
  refine ⟨l, ys, v, rfl, rfl, f2, by rw [f3.len]; exact Nat.lt_of_lt_of_le hlen (by decide), ?_⟩
  exact E.nx _ A _ σ p (s1.mutOwn ho1 (f3.app (.cons hd .nil))) (by rw [hid_mut m1]; exact x1)
theorem ds_setitem {i : Nat} {ti : TE} {Pe : PyData → List WSlot → Prop} (h : DE F te δ Pe)
    (hi : ∀ d δ1, Pe d δ1 → ∃ l ds0, δ1[i]? = some (.own l ds0) ∧ DE F ti δ1 fun dk δ2 => ∃ k ds2 j, dk = .int k ∧ δ2[i]? = some (.own l ds2) ∧ ixN ds2.length k = some j ∧ N (δ2.set i (.own l (ds2.set j d)))) :
    DS F (tAsg te (gSub (tVar i) ti rSetL)) δ N R B C := fun A H σ D s E =>
  h A H σ s _ fun v d δ1 H1 p s1 x1 hd => by
    obtain ⟨l, ds0, ho0, hk⟩ := hi d δ1 p
    refine ⟨.ref l, (s1.sd.own i l ds0 ho0).1, ?_⟩
    refine hk A H1 σ s1 _ fun u dk δ2 H2 ⟨k, ds2, j, e1, ho2, hj, n⟩ s2 x2 hu => ?_
    subst e1
    obtain ⟨_, m2, ys, f2, f3⟩ := s2.sd.own i l ds2 ho2
    refine ⟨l, ys, k, j, rfl, dp_int hu, f2, by rw [f3.len]; exact hj, ?_⟩
    exact E.nx _ A _ σ n (s2.mutOwn ho2 (f3.set (dp_ex x2 hd) j)) (by rw [hid_mut m2]; exact x1.trans x2)

theorem dq_setitem {i : Nat} {ti : TE} {l : Addr} {k : Int} {j : Nat} (ho : δ[i]? = some (.own l ds)) (h : DV F te δ d) (hi : DV F ti δ (.int k)) (hj : ixN ds.length k = some j) (hu : DS F u (δ.set i (.own l (ds.set j d))) N R B C) :
    DS F (tSeq (tAsg te (gSub (tVar i) ti rSetL)) u) δ N R B C :=
  ds_seq (N1 := fun δ1 => δ1 = δ.set i (.own l (ds.set j d))) (ds_setitem h fun d' δ1 ⟨e1, e2⟩ => by
    subst e1; subst e2
    exact ⟨l, ds, ho, hi.mono fun dk δ2 ⟨e3, e4⟩ => by subst e3; subst e4; exact ⟨k, ds, j, rfl, ho, hj, rfl⟩⟩) fun δ1 e => by subst e; exact hu
theorem ds_setitemV {i : Nat} {ti : TE} {l : Addr} {k : Int} {j : Nat} (ho : δ[i]? = some (.own l ds)) (h : DV F te δ d) (hi : DV F ti δ (.int k)) (hj : ixN ds.length k = some j) (hn : N (δ.set i (.own l (ds.set j d)))) :
    DS F (tAsg te (gSub (tVar i) ti rSetL)) δ N R B C :=
  ds_setitem h fun d' δ1 ⟨e1, e2⟩ => by
    subst e1; subst e2
    exact ⟨l, ds, ho, hi.mono fun dk δ2 ⟨e3, e4⟩ => by subst e3; subst e4; exact ⟨k, ds, j, rfl, ho, hj, hn⟩⟩
/-! ### if, return -/
theorem ds_if {Pt : Bool → List WSlot → Prop} (h : DT F tt δ Pt) (h1 : ∀ δ1, Pt true δ1 → DS F t δ1 N R B C) (h0 : ∀ δ1, Pt false δ1 → DS F u δ1 N R B C) : DS F (tIfS tt t u) δ N R B C := fun A H σ D s E =>
  h A H σ s _ fun b δ1 H1 p s1 e1 => by
    cases b with
    | true => rw [if_pos rfl]; exact h1 δ1 p A H1 σ D s1 (E.adv e1)
    | false => rw [if_neg Bool.false_ne_true]; exact h0 δ1 p A H1 σ D s1 (E.adv e1)
theorem ds_ifB {b : Bool} (h : DB F tt δ b) (h1 : b = true → DS F t δ N R B C) (h0 : b = false → DS F u δ N R B C) : DS F (tIfS tt t u) δ N R B C :=
  ds_if h (fun δ1 ⟨e1, e2⟩ => by subst e2; exact h1 e1.symm) fun δ1 ⟨e1, e2⟩ => by subst e2; exact h0 e1.symm
/-- if ..: leave; the rest -/
theorem dq_ifB {b : Bool} {v : TS} (h : DB F tt δ b) (h1 : b = true → DS F t δ (fun δ1 => δ1 = δ) R B C) (h0 : b = false → DS F u δ (fun δ1 => δ1 = δ) R B C) (hv : DS F v δ N R B C) : DS F (tSeq (tIfS tt t u) v) δ N R B C :=
  ds_seq (ds_ifB h h1 h0) fun δ1 e => by subst e; exact hv
/-- if c: (a way out); the rest only where c is false -/
theorem dq_out {b : Bool} {v : TS} (h : DB F tt δ b) (h1 : b = true → DS F t δ (fun _ => False) R B C) (h0 : b = false → DS F v δ N R B C) : DS F (tSeq (tIfS tt t tNext) v) δ N R B C := fun A H σ D s E =>
  h A H σ s _ fun b' δ1 H1 ⟨e1, e2⟩ s1 x1 => by
    subst e2
    cases b' with
    | true => rw [if_pos rfl]; exact h1 e1.symm A H1 σ _ s1 ⟨fun _ _ _ _ z => z.elim, (E.adv x1).rt, (E.adv x1).bk, (E.adv x1).ct⟩
    | false => rw [if_neg Bool.false_ne_true]; exact h0 e1.symm A H1 σ D s1 (E.adv x1)
theorem ds_ret (h : DE F te δ R) : DS F (tRet te) δ N R B C := fun A H σ D s E => h A H σ s _ fun v d δ1 H1 p s1 e1 hd => E.rt d v δ1 A H1 σ p s1 e1 hd
theorem ds_retV (h : DV F te δ d) (hr : R d δ) : DS F (tRet te) δ N R B C := ds_ret (h.mono fun d' δ' ⟨e1, e2⟩ => by rw [e1, e2]; exact hr)
theorem ds_retO {i : Nat} {l : Addr} (ho : δ[i]? = some (.own l ds)) (hr : R (.list ds) (δ.set i (.dat (.list ds)))) (hM : F.M = [] ∨ ∃ (j : Nat) (l' : Addr) (ds' : List PyData), j ≠ i ∧ F.M = [l'] ∧ δ[j]? = some (.own l' ds')) :
    DS F (tRet (tVar i)) δ N R B C := fun A H σ D s E => by
  obtain ⟨s1, h1⟩ := s.sd.freeze ho
  have x : Ex (hid A H) (hid (A.filter fun a => decide (a ≠ l)) H) := hid_sub fun a ha => (List.mem_filter.mp ha).1
  have hn : F.H0 l = none := by
    rcases s.mine i l ds ho with z | z
    · rcases hM with e | ⟨j, l', ds', hj, e, hj2⟩
      · rw [e] at z; cases z
      · rw [e] at z
        exact absurd (List.mem_singleton.mp z).symm (s.sd.sep j i l' ds' l ds hj2 ho hj)
    · exact z
  refine ⟨.ref l, (s.sd.own i l ds ho).1, E.rt _ _ _ _ H σ hr ⟨s1, ⟨s.bs.kept, fun a ha => List.mem_filter.mpr ⟨s.bs.sub a ha, ?_⟩, s.bs.ml, s.bs.lv⟩, mine_put s.mineF fun _ a ha => nomatch ha⟩ x h1⟩
  simp only [decide_eq_true_eq, ne_eq]
  rintro rfl
  exact s.bs.lv a ha hn
/-! ### for -/
theorem ds_for {wi : TI} {tb : TS} {PI : List PyData → List WSlot → Prop} (hi : DI F wi δ PI)
    (h : ∀ es δ1, PI es δ1 → ∃ Inv : Nat → List WSlot → Prop, Inv 0 δ1 ∧ (∀ i d δi, es[i]? = some d → Inv i δi → ∃ δg, DG F g d δi δg ∧ DS F tb δg (Inv (i + 1)) R N (Inv (i + 1))) ∧ ∀ δ', Inv es.length δ' → N δ') :
    DS F (tFor wi g tb) δ N R B C := fun A H σ D s E =>
  hi A H σ s _ fun J es δ1 H1 p s1 x1 w => by
    obtain ⟨Inv, i0, hs, hd⟩ := h es δ1 p
    refine ⟨fun i m σ' H' => m = es.length - i ∧ i ≤ es.length ∧ ∃ A' δ', Inv i δ' ∧ St F A' H' σ' δ' ∧ Ex (hid A H1) (hid A' H'), ⟨es.length, by omega, Nat.zero_le _, A, δ1, i0, s1, WL.Ex.refl _⟩, ?_⟩
    rintro i m σ' H' ⟨rfl, hle, A', δ', hI, s', x'⟩
    by_cases hlt : i < es.length
    · refine .inr ⟨w.go i A' H' hlt x', fun σ2 H2 => ∃ A2 δ2, Inv (i + 1) δ2 ∧ St F A2 H2 σ2 δ2 ∧ Ex (hid A H1) (hid A2 H2), fun σ2 H2 ⟨A2, δ2, q1, q2, q3⟩ => ⟨es.length - (i + 1), by omega, rfl, hlt, A2, δ2, q1, q2, q3⟩, fun x H2 y => ?_⟩
      obtain ⟨e2, d, ed, hx⟩ := w.yld i A' H' x H2 hlt x' s'.live y
      obtain ⟨δg, hg, hb⟩ := hs i d δ' ed hI
      refine hg A' H2 σ' x (s'.ex e2) hx _ fun σ2 s2 => ?_
      have x2 : Ex (hid A H1) (hid A' H2) := x'.trans (hid_ex e2)
      refine hb A' H2 σ2 _ s2 ⟨fun δ3 A3 H3 σ3 n s3 e3 => ⟨A3, δ3, n, s3, x2.trans e3⟩, fun d v δ3 A3 H3 σ3 n s3 e3 hv => E.rt d v δ3 A3 H3 σ3 n s3 (x1.trans (x2.trans e3)) hv,
        fun δ3 A3 H3 σ3 n s3 e3 => E.nx δ3 A3 H3 σ3 n s3 (x1.trans (x2.trans e3)), fun δ3 A3 H3 σ3 n s3 e3 => ⟨A3, δ3, n, s3, x2.trans e3⟩⟩
    · have e : i = es.length := by omega
      subst e
      exact .inl ⟨w.stop A' H' x', E.nx δ' A' H' σ' (hd δ' hI) s' (x1.trans x')⟩
theorem ds_forV {wi : TI} {tb : TS} (Inv : Nat → List WSlot → Prop) (hi : DI F wi δ (is1 δ es)) (h0 : Inv 0 δ) (hs : ∀ i d δi, es[i]? = some d → Inv i δi → ∃ δg, DG F g d δi δg ∧ DS F tb δg (Inv (i + 1)) R N (Inv (i + 1)))
    (hd : ∀ δ', Inv es.length δ' → N δ') : DS F (tFor wi g tb) δ N R B C := ds_for hi fun es' δ1 ⟨e1, e2⟩ => by
  subst e1; subst e2
  exact ⟨Inv, h0, hs, hd⟩
/-! ### what is walked -/
theorem di_list (h : DV F te δ (.list es)) : DI F (iList F.K te) δ (is1 δ es) := fun A H σ s R' q => h A H σ s _ fun v d δ' H1 ⟨e1, e2⟩ s1 x1 hd => by
  subst e1; subst e2
  obtain ⟨a, xs, rfl, h1, h2⟩ := dp_lst hd
  refine ⟨a, rfl, ⟨xs, sql_ex hid_le h1⟩, q _ es _ H1 ⟨rfl, rfl⟩ s1 x1 ⟨fun i A2 H2 hi e => ?_, fun A2 H2 e => ⟨xs, sql_ex (e.trans hid_le) h1, Nat.le_of_eq h2.len⟩, fun i A2 H2 x H3 hi e l y => ?_⟩⟩
  · exact ⟨xs, xs[i]'(by rw [h2.len]; exact hi), sql_ex (e.trans hid_le) h1, by simp [h2.len, hi]⟩
  · obtain ⟨rfl, y2⟩ := y
    refine ⟨WL.Ex.refl _, ?_⟩
    obtain ⟨d, ed, hd⟩ := (dpa_ex e h2).getV (y2 xs (sql_ex (e.trans hid_le) h1))
    exact ⟨d, ed, hd⟩
theorem di_tup (h : DV F te δ (.tuple es)) : DI F (iTup F.K te) δ (is1 δ es) := fun A H σ s R' q => h A H σ s _ fun v d δ' H1 ⟨e1, e2⟩ s1 x1 hd => by
  subst e1; subst e2
  obtain ⟨a, xs, rfl, h1, h2⟩ := dp_tup hd
  refine ⟨a, rfl, ⟨xs, sqt_ex hid_le h1⟩, q _ es _ H1 ⟨rfl, rfl⟩ s1 x1 ⟨fun i A2 H2 hi e => ?_, fun A2 H2 e => ⟨xs, sqt_ex (e.trans hid_le) h1, Nat.le_of_eq h2.len⟩, fun i A2 H2 x H3 hi e l y => ?_⟩⟩
  · exact ⟨xs, xs[i]'(by rw [h2.len]; exact hi), sqt_ex (e.trans hid_le) h1, by simp [h2.len, hi]⟩
  · obtain ⟨rfl, y2⟩ := y
    refine ⟨WL.Ex.refl _, ?_⟩
    obtain ⟨d, ed, hd⟩ := (dpa_ex e h2).getV (y2 xs (sqt_ex (e.trans hid_le) h1))
    exact ⟨d, ed, hd⟩
def rangeD (n : Nat) : List PyData := (List.range n).map fun i => .int (i : Nat)
theorem rangeD_len (n : Nat) : (rangeD n).length = n := by simp [rangeD]
theorem rangeD_get {n i : Nat} {d : PyData} (h : (rangeD n)[i]? = some d) : d = .int (i : Nat) ∧ i < n := by
  unfold rangeD at h
  rw [List.getElem?_map] at h
  by_cases hi : i < n
  · rw [List.getElem?_range hi] at h; simp at h; exact ⟨h.symm, hi⟩
  · rw [List.getElem?_eq_none (by simpa using hi)] at h; cases h
theorem di_range {P : PyData → List WSlot → Prop} {PI : List PyData → List WSlot → Prop} (h : DE F te δ P) (hp : ∀ d δ', P d δ' → ∃ n : Nat, d = .int n ∧ n ≤ 100000 ∧ PI (rangeD n) δ') : DI F (iRng1 (tCons te tNil)) δ PI := fun A H σ s R' q => h A H σ s _ fun v d δ' H1 p s1 x1 hd => by
  obtain ⟨n, rfl, hn, p2⟩ := hp d δ' p
  rw [dp_int hd]
  refine ⟨(n : Int), rfl, by omega, by omega, ?_⟩
  have en : (n : Int).toNat = n := by omega
  rw [en]
  refine q _ (rangeD n) δ' H1 p2 s1 x1 ⟨fun i A2 H2 hi _ => by rw [rangeD_len] at hi; exact hi, fun A2 H2 _ => by rw [rangeD_len]; exact Nat.le_refl _, fun i A2 H2 x H3 hi e l y => ?_⟩
  obtain ⟨rfl, rfl⟩ := y
  rw [rangeD_len] at hi
  exact ⟨WL.Ex.refl _, .int (i : Nat), by unfold rangeD; rw [List.getElem?_map, List.getElem?_range hi]; rfl, by rw [Int.zero_add]; exact .int _⟩
theorem di_rangeV {n : Nat} (h : DV F te δ (.int n)) (hn : n ≤ 100000) : DI F (iRng1 (tCons te tNil)) δ (is1 δ (rangeD n)) := di_range h fun d δ' ⟨e1, e2⟩ => ⟨n, e1, hn, rfl, e2⟩
end
end WL
end
section
set_option Elab.async false
set_option linter.all false
set_option maxRecDepth 100000
namespace WL
open PySem PySem.Spec PyProof.Rows L2

/-! ### a comprehension's slots -/
def wipeD (δ : List WSlot) : List Nat → List WSlot
  | [] => δ
  | v :: vs => (wipeD δ vs).set v .no
theorem wipeD_len (δ : List WSlot) : ∀ vs, (wipeD δ vs).length = δ.length
  | [] => rfl
  | v :: vs => by unfold wipeD; rw [List.length_set, wipeD_len δ vs]
theorem wipeD_get {δ : List WSlot} {i : Nat} {s : WSlot} : ∀ {vs : List Nat}, (wipeD δ vs)[i]? = some s → s = .no ∨ (δ[i]? = some s ∧ i ∉ vs)
  | [], h => .inr ⟨h, by simp⟩
  | v :: vs, h => by
    unfold wipeD at h
    by_cases hi : v = i
    · subst hi
      rw [List.getElem?_set_self'] at h
      cases q : (wipeD δ vs)[v]? with
      | none => rw [q] at h; simp at h
      | some z => rw [q] at h; simp at h; exact .inl h.symm
    · rw [List.getElem?_set_ne hi] at h
      rcases wipeD_get h with e | ⟨h1, h2⟩
      · exact .inl e
      · exact .inr ⟨h1, by simp only [List.mem_cons, not_or]; exact ⟨fun e => hi e.symm, h2⟩⟩
theorem St.wipe {F : Fx} {A : List Addr} {H : Hp} {σ : List (Option V)} {δ : List WSlot} (s : St F A H σ δ) (vs : List Nat) : St F A H (L2.wipe σ vs) (wipeD δ vs) where
  sd := {
    len := by rw [L2.wipe_length, wipeD_len]; exact s.sd.len
    live := s.sd.live
    all := fun i w h => by
      rcases wipeD_get h with e | ⟨h1, h2⟩
      · subst e; exact True.intro
      · rw [L2.wipe_out h2]; exact s.sd.all i w h1
    apart := fun i j w w' h1 h2 hne a ha hb => by
      rcases wipeD_get h1 with e | ⟨h1, _⟩
      · subst e; cases ha
      · rcases wipeD_get h2 with e | ⟨h2, _⟩
        · subst e; cases hb
        · exact s.sd.apart i j w w' h1 h2 hne a ha hb }
  bs := s.bs
  mineF := fun i w h a ha => by
    rcases wipeD_get h with e | ⟨h1, _⟩
    · subst e; cases ha
    · exact s.mineF i w h1 a ha
theorem wipe_set {σ : List (Option V)} {j : Nat} {x : Option V} : ∀ {vs : List Nat}, j ∈ vs → L2.wipe (σ.set j x) vs = L2.wipe σ vs
  | [], h => by cases h
  | v :: vs, h => by
    unfold L2.wipe
    by_cases hv : j ∈ vs
    · rw [wipe_set hv]
    · have e : j = v := by
        rcases List.mem_cons.mp h with e | e
        · exact e
        · exact absurd e hv
      subst e
      apply List.ext_getElem?
      intro i
      by_cases hi : j = i
      · subst hi
        rw [List.getElem?_set_self', List.getElem?_set_self']
        have l1 := L2.wipe_length (σ.set j x) vs
        have l2 := L2.wipe_length σ vs
        rw [List.length_set] at l1
        by_cases q : j < σ.length
        · rw [List.getElem?_eq_getElem (by rw [l1]; exact q), List.getElem?_eq_getElem (by rw [l2]; exact q)]; rfl
        · rw [List.getElem?_eq_none (by rw [l1]; omega), List.getElem?_eq_none (by rw [l2]; omega)]
      · rw [List.getElem?_set_ne hi, List.getElem?_set_ne hi]
        have : ∀ (us : List Nat), j ∉ us → (L2.wipe (σ.set j x) us)[i]? = (L2.wipe σ us)[i]? := by
          intro us
          induction us with
          | nil => intro _; unfold L2.wipe; rw [List.getElem?_set_ne hi]
          | cons u us ih =>
            intro hu
            unfold L2.wipe
            by_cases hui : u = i
            · subst hui
              rw [List.getElem?_set_self', List.getElem?_set_self']
              have l1 := L2.wipe_length (σ.set j x) us
              have l2 := L2.wipe_length σ us
              rw [List.length_set] at l1
              by_cases q : u < σ.length
              · rw [List.getElem?_eq_getElem (by rw [l1]; exact q), List.getElem?_eq_getElem (by rw [l2]; exact q)]; rfl
              · rw [List.getElem?_eq_none (by rw [l1]; omega), List.getElem?_eq_none (by rw [l2]; omega)]
            · rw [List.getElem?_set_ne hui, List.getElem?_set_ne hui]
              exact ih fun z => hu (List.mem_cons_of_mem _ z)
        exact this vs hv
theorem wipe_wipe {σ : List (Option V)} {us : List Nat} : ∀ {vs : List Nat}, (∀ v ∈ vs, v ∈ us) → L2.wipe (L2.wipe σ vs) us = L2.wipe σ us
  | [], _ => rfl
  | v :: vs, h => by
    show L2.wipe ((L2.wipe σ vs).set v none) us = _
    rw [wipe_set (h v List.mem_cons_self)]
    exact wipe_wipe fun x hx => h x (List.mem_cons_of_mem _ hx)
/-- storing into a comprehension's target -/
def DW (F : Fx) (g : TG) (vs : List Nat) (d : PyData) (δ δ' : List WSlot) : Prop := ∀ A H σ v, St F A H σ δ → Dt F.K (hid A H) v d → ∀ Q : List (Option V) → Hp → Prop, (∀ σ', St F A H σ' δ' → L2.wipe σ' vs = L2.wipe σ vs → Q σ' H) → g v σ H Q
theorem dw_name {F : Fx} {vs : List Nat} {d : PyData} {δ : List WSlot} {j : Nat} (hj : j ∈ vs) : DW F (gName j) vs d δ (δ.set j (.dat d)) := fun A H σ v s h Q q => q _ (s.set h) (wipe_set hj)
theorem dw2 {F : Fx} {vs : List Nat} {d1 d2 : PyData} {δ : List WSlot} {i j : Nat} (hi : i ∈ vs) (hj : j ∈ vs) : DW F (gTup F.K 2 (gCons (gName i) (gCons (gName j) gNil))) vs (.tuple [d1, d2]) δ ((δ.set i (.dat d1)).set j (.dat d2)) := fun A H σ v s hv Q q => by
  obtain ⟨a, xs, rfl, h1, h2⟩ := dp_tup hv
  cases h2 with
  | cons k1 k2 => cases k2 with
    | cons k3 k4 =>
      cases k4
      exact ⟨a, _, rfl, sqt_ex hid_le h1, rfl, _, _, rfl, _, _, rfl, rfl, q _ ((s.set k1).set k3) (by rw [wipe_set hj, wipe_set hi])⟩
/-- behind a turn: the frame's own data as before, its own things as they are now -/
structure Back (δ δ3 δn : List WSlot) : Prop where
  len : δn.length = δ.length
  dat : ∀ (j : Nat) (d : PyData), δn[j]? = some (.dat d) → δ[j]? = some (.dat d)
  own : ∀ (j : Nat) (l : Addr) (ds : List PyData), δn[j]? = some (.own l ds) → δ3[j]? = some (.own l ds) ∧ ∃ ds0, δ[j]? = some (.own l ds0)
  box : ∀ (j : Nat) (b : Box), δn[j]? = some (.box b) → δ3[j]? = some (.box b) ∧ ∃ b0 : Box, δ[j]? = some (.box b0) ∧ b0.root = b.root ∧ ∀ a ∈ b.foot, a ∈ b0.foot := by
    intro j b h
    rcases j with _ | _ | _ | _ | _ | _ | _ | _ | _ | _ | _ | _ | j <;> simp at h
theorem Back.at {δ δ3 δn : List WSlot} (b : Back δ δ3 δn) {j : Nat} {w : WSlot} (h : δn[j]? = some w) : w.foot = [] ∨ (δ3[j]? = some w ∧ ∃ w0 : WSlot, δ[j]? = some w0 ∧ ∀ a ∈ w.foot, a ∈ w0.foot) := by
  cases w with
  | no => exact .inl rfl
  | dat d => exact .inl rfl
  | own l ds =>
    obtain ⟨h1, ds0, h2⟩ := b.own j l ds h
    exact .inr ⟨h1, _, h2, fun a ha => ha⟩
  | box x =>
    obtain ⟨h1, b0, h2, _, h3⟩ := b.box j x h
    exact .inr ⟨h1, _, h2, h3⟩
def ownsIn : List WSlot → List WSlot → Prop
  | [], _ => True
  | _ :: _, [] => False
  | s :: r, t :: q => (match s with | .own l ds => t = .own l ds | .box b => t = .box b | _ => True) ∧ ownsIn r q
theorem ownsIn_get : ∀ {δ δ3 : List WSlot} {j : Nat} {l : Addr} {ds : List PyData}, ownsIn δ δ3 → δ[j]? = some (.own l ds) → δ3[j]? = some (.own l ds)
  | [], _, _, _, _, _, h => by simp at h
  | _ :: _, [], _, _, _, h, _ => h.elim
  | s :: r, t :: q, 0, l, ds, h, e => by
    simp at e; subst e
    have := h.1
    simp at this
    rw [this]; rfl
  | s :: r, t :: q, j + 1, l, ds, h, e => by
    have := ownsIn_get (j := j) h.2 (by simpa using e)
    simpa using this
theorem ownsIn_box : ∀ {δ δ3 : List WSlot} {j : Nat} {b : Box}, ownsIn δ δ3 → δ[j]? = some (.box b) → δ3[j]? = some (.box b)
  | [], _, _, _, _, h => by simp at h
  | _ :: _, [], _, _, h, _ => h.elim
  | s :: r, t :: q, 0, b, h, e => by
    simp at e; subst e
    have := h.1
    simp at this
    rw [this]; rfl
  | s :: r, t :: q, j + 1, b, h, e => by
    have := ownsIn_box (j := j) h.2 (by simpa using e)
    simpa using this
theorem Back.self {δ δ3 : List WSlot} (h : ownsIn δ δ3) : Back δ δ3 δ := ⟨rfl, fun _ _ h => h, fun j l ds e => ⟨ownsIn_get h e, ds, e⟩, fun j b e => ⟨ownsIn_box h e, b, e, rfl, fun _ h => h⟩⟩
abbrev Fx.at (F : Fx) (H0 : Hp) : Fx := ⟨F.K, H0, F.A0, F.M⟩
section
variable {F : Fx} {te ta tb : TE} {tt : TT} {tl : TA} {t u : TS} {g : TG} {δ δ' δ'' : List WSlot} {d : PyData} {ds es : List PyData} {P : PyData → List WSlot → Prop} {PL : List PyData → List WSlot → Prop} {vs : List Nat} {wi : TI}
theorem DN.de (h : DN F te δ PL) : DE F te δ fun d δ' => ∃ ds, d = .list ds ∧ PL ds δ' := fun A H σ s Q q => h A H σ s Q fun l xs ds δ' H2 p s2 x2 hn hd => by
  have ho : l ∉ A := s2.live.out hn
  exact q _ _ δ' _ ⟨ds, rfl, p⟩ (s2.ex (WL.Ex.new hn)) (x2.trans (hid_ex (WL.Ex.new hn))) (.lst (.inl (.inl (by rw [hid_out ho, upd_same]))) (dpa_ex (hid_ex (WL.Ex.new hn)) hd))
theorem DN.dv (h : DN F te δ (is1 δ ds)) : DV F te δ (.list ds) := h.de.mono fun d δ' ⟨ds', e, e1, e2⟩ => ⟨by rw [e, e1], e2⟩
theorem DN.dl (h : DN F te δ PL) : DL F te δ PL := fun A H σ s Q q => h A H σ s Q fun l xs ds δ' H2 p s2 x2 hn hd =>
  q l xs ds δ' _ p (s2.ex (WL.Ex.new hn)) (x2.trans (hid_ex (WL.Ex.new hn))) (.inl (.inl upd_same)) (dpa_ex (hid_ex (WL.Ex.new hn)) hd)
/-- [te for g in wi if tt]: Inv by the turn, what is listed so far, the environment -/
theorem dn_lc {PI : List PyData → List WSlot → Prop} (hi : DI F wi δ PI)
    (h : ∀ es δ1, PI es δ1 → es.length ≤ 100000 ∧ ∃ Inv : Nat → List PyData → List WSlot → Prop, Inv 0 [] δ1 ∧
      (∀ H0' i acc d δi, es[i]? = some d → Inv i acc δi → ∃ δg, DW (F.at H0') g vs d (wipeD δi vs) δg ∧
        DT (F.at H0') tt δg fun b δ2 => (b = true → DE (F.at H0') te δ2 fun y δ3 => ∃ δn, Back δi δ3 δn ∧ Inv (i + 1) (acc ++ [y]) δn) ∧ (b = false → ∃ δn, Back δi δ2 δn ∧ Inv (i + 1) acc δn)) ∧
      ∀ acc δ', Inv es.length acc δ' → PL acc δ') : DN F (tLc wi g tt te vs) δ PL := fun A H σ s Q q =>
  hi A H σ s _ fun J es δ1 H1 p s1 x1 w => by
    obtain ⟨hz, Inv, i0, hs, hd⟩ := h es δ1 p
    intro D hD
    have hDA : D ∉ A := s1.live.out hD
    have hDM : D ∉ F.M := fun z => hDA (s1.bs.sub _ (s1.bs.ml _ z))
    have hD0 : F.H0 D = none := by
      cases e : F.H0 D with
      | none => rfl
      | some o =>
        have z := s1.bs.kept D o (by rw [hid_out hDM]; exact e)
        rw [hD] at z; cases z
    -- the state at a turn
    let T : Nat → List PyData → List WSlot → Hp → Prop := fun i acc δi H' => Inv i acc δi ∧ St F (D :: A) H' σ δi ∧ Ex (hid A H1) (hid (D :: A) H') ∧ (∀ (j : Nat) (w : WSlot), δi[j]? = some w → ∀ a ∈ w.foot, a ∈ A) ∧ acc.length ≤ i ∧ ∃ xs, H' D = some (.lst xs) ∧ DtAll F.K (hid (D :: A) H') xs acc
    refine ⟨fun i m H' => m = es.length - i ∧ i ≤ es.length ∧ ∃ acc δi, T i acc δi H', ⟨es.length, by omega, Nat.zero_le _, [], δ1, i0, ?_, ?_, ?_, Nat.le_refl _, [], upd_same, .nil⟩, ?_⟩
    · -- the start
      refine ⟨s1.sd.step (fun a ha => ?_) (fun j w hj a ha => ?_) (by rw [hid_own hD]; exact WL.Ex.refl _), s1.bs.own hD, s1.mineF⟩
      · rcases List.mem_cons.mp ha with e | ha
        · subst e; rw [upd_same]; intro z; cases z
        · rw [upd_ne fun e => hDA (by rw [← e]; exact ha)]; exact s1.sd.live a ha
      · have hA := s1.sd.inA hj a ha
        exact ⟨upd_ne fun e => hDA (by rw [← e]; exact hA), List.mem_cons_of_mem _ hA⟩
    · rw [hid_own hD]; exact WL.Ex.refl _
    · exact fun j w hj => s1.sd.inA hj
    · rintro i m H' ⟨rfl, hle, acc, δi, hI, s', x', hown, hacc, xs, hx, ha⟩
      by_cases hlt : i < es.length
      · refine .inr ⟨w.go i _ H' hlt x', fun H2 => ∃ acc δi, T (i + 1) acc δi H2, fun H2 ⟨acc, δi, q2⟩ => ⟨es.length - (i + 1), by omega, rfl, hlt, acc, δi, q2⟩, fun x H2 y => ?_⟩
        obtain ⟨e2, d, ed, hxd⟩ := w.yld i _ H' x H2 hlt x' s'.live y
        -- the entry with the new list
        let H0' : Hp := fun a => if a = D then some (.lst xs) else F.H0 a
        have hH0 : ∀ a, a ≠ D → H0' a = F.H0 a := fun a z => if_neg z
        have hH0D : H0' D = some (.lst xs) := if_pos rfl
        obtain ⟨δg, hg, ht⟩ := hs H0' i acc d δi ed hI
        have sF : St (F.at H0') (D :: A) H2 (L2.wipe σ vs) (wipeD δi vs) := by
          have s2 := ((s'.ex e2).wipe vs)
          refine ⟨s2.sd, ⟨fun a o hao => ?_, s2.bs.sub, s2.bs.ml, fun a ha => ?_⟩, fun j w hj a ha => ?_⟩
          · obtain ⟨z1, z2⟩ := hid_some hao
            by_cases hax : a = D
            · subst hax
              rw [show (F.at H0').H0 a = H0' a from rfl, hH0D] at z2
              cases z2; exact e2 _ _ hx
            · rw [show (F.at H0').H0 a = H0' a from rfl, hH0 a hax] at z2
              exact s2.bs.kept a o (by rw [hid_out z1]; exact z2)
          · show H0' a ≠ none
            by_cases hax : a = D
            · subst hax; rw [hH0D]; intro z; cases z
            · rw [hH0 a hax]; exact s2.bs.lv a ha
          · have hlA : a ∈ A := by
              rcases wipeD_get hj with e | ⟨h1, _⟩
              · subst e; cases ha
              · exact hown j w h1 a ha
            rcases s2.mineF j w hj a ha with z | z
            · exact .inl z
            · refine .inr ?_
              show H0' a = none
              rw [hH0 a fun e => hDA (by rw [← e]; exact hlA)]; exact z
        refine hg (D :: A) H2 _ x sF hxd _ fun σ2 s2 hw => ⟨by rw [hw, wipe_wipe fun v hv => hv], ?_⟩
        -- what a turn comes to
        have fin : ∀ (H4 : Hp) (σ2 : List (Option V)) (δ3 δn : List WSlot), St (F.at H0') (D :: A) H4 σ2 δ3 → Ex (hid (D :: A) H2) (hid (D :: A) H4) → Back δi δ3 δn → St F (D :: A) H4 σ δn ∧ H4 D = some (.lst xs) ∧ (∀ (j : Nat) (w : WSlot), δn[j]? = some w → ∀ a ∈ w.foot, a ∈ A) := by
          intro H4 σ2 δ3 δn s4 x4 bk
          have hl : ∀ (j : Nat) (w : WSlot), δn[j]? = some w → ∀ a ∈ w.foot, a ∈ A := fun j w hj a ha => by
            rcases bk.at hj with e | ⟨_, w0, h0, hs⟩
            · rw [e] at ha; cases ha
            · exact hown j w0 h0 a (hs a ha)
          refine ⟨⟨⟨by rw [bk.len]; exact s'.sd.len, s4.sd.live, fun j w hj => ?_, fun j1 j2 w w' h1 h2 hne a ha hb => ?_⟩, ⟨fun a o hao => ?_, s'.bs.sub, s'.bs.ml, s'.bs.lv⟩, fun j w hj a ha => ?_⟩, ?_, hl⟩
          · cases w with
            | no => exact True.intro
            | dat d' =>
              obtain ⟨v, e, q1⟩ := s'.sd.dat j d' (bk.dat j d' hj)
              exact ⟨v, e, dp_ex ((hid_ex e2).trans x4) q1⟩
            | own l ds =>
              obtain ⟨h3, ds0, h0⟩ := bk.own j l ds hj
              obtain ⟨_, f2, ys, f3, f4⟩ := s4.sd.own j l ds h3
              exact ⟨(s'.sd.own j l ds0 h0).1, f2, ys, f3, f4⟩
            | box b =>
              obtain ⟨h3, b0, h0, hr, _⟩ := bk.box j b hj
              obtain ⟨_, f2, f3⟩ := s4.sd.box j b h3
              exact ⟨by rw [← hr]; exact (s'.sd.box j b0 h0).1, f2, f3⟩
          · rcases bk.at h1 with e | ⟨_, w1, k1, q1⟩
            · rw [e] at ha; cases ha
            · rcases bk.at h2 with e | ⟨_, w2, k2, q2⟩
              · rw [e] at hb; cases hb
              · exact s'.sd.apart _ _ _ _ k1 k2 hne a (q1 a ha) (q2 a hb)
          · obtain ⟨z1, z2⟩ := hid_some hao
            have hax : a ≠ D := fun e => by rw [e, hD0] at z2; cases z2
            exact s4.bs.kept a o (by rw [hid_out z1]; show H0' a = some o; rw [hH0 a hax]; exact z2)
          · rcases bk.at hj with e | ⟨_, w0, h0, hs⟩
            · rw [e] at ha; cases ha
            · exact s'.mineF j w0 h0 a (hs a ha)
          · exact s4.bs.kept D _ (by rw [hid_out hDM]; exact hH0D)
        refine ht (D :: A) H2 σ2 s2 _ fun b δ2 H3 pb s3 x3 => ?_
        cases b with
        | false =>
          rw [if_neg Bool.false_ne_true]
          obtain ⟨δn, bk, hI2⟩ := pb.2 rfl
          obtain ⟨s5, hx5, hl5⟩ := fin H3 σ2 δ2 δn s3 x3 bk
          exact ⟨acc, δn, hI2, s5, x'.trans ((hid_ex e2).trans x3), hl5, Nat.le_succ_of_le hacc, xs, hx5, dpa_ex ((hid_ex e2).trans x3) ha⟩
        | true =>
          rw [if_pos rfl]
          refine pb.1 rfl (D :: A) H3 σ2 s3 _ fun v y δ3 H4 ⟨δn, bk, hI2⟩ s4 x4 hv => ?_
          obtain ⟨s5, hx5, hl5⟩ := fin H4 σ2 δ3 δn s4 (x3.trans x4) bk
          have hla : xs.length = acc.length := ha.len
          refine ⟨xs, hx5, by rw [hla]; exact Nat.lt_of_le_of_lt (Nat.le_trans hacc (Nat.le_of_lt (Nat.lt_of_lt_of_le hlt hz))) (by decide), acc ++ [y], δn, hI2, ?_, ?_, hl5, by rw [List.length_append]; exact Nat.succ_le_succ hacc, xs ++ [v], upd_same, ?_⟩
          · have hmD : D ∈ D :: A := List.mem_cons_self
            refine ⟨s5.sd.step (fun a ha => ?_) (fun j w hj a ha => ⟨upd_ne fun e => hDA (by rw [← e]; exact hl5 j w hj a ha), s5.sd.inA hj a ha⟩) (by rw [hid_mut hmD]; exact WL.Ex.refl _), s5.bs.mut (.inr hD0), s5.mineF⟩
            by_cases e : a = D
            · subst e; rw [upd_same]; intro z; cases z
            · rw [upd_ne e]; exact s5.sd.live a ha
          · rw [hid_mut List.mem_cons_self]
            exact x'.trans ((hid_ex e2).trans (x3.trans x4))
          · rw [hid_mut List.mem_cons_self]
            exact (dpa_ex ((hid_ex e2).trans (x3.trans x4)) ha).app (.cons hv .nil)
      · have e : i = es.length := by omega
        subst e
        refine .inl ⟨w.stop _ H' x', ?_⟩
        -- the end: the list is new
        let H2 : Hp := fun a => if a = D then none else H' a
        have k1 : ∀ a, a ≠ D → H2 a = H' a := fun a z => if_neg z
        have k2 : H2 D = none := if_pos rfl
        have k3 : upd H2 D (.lst xs) = H' := by
          funext a
          by_cases z : a = D
          · subst z; rw [upd_same, hx]
          · rw [upd_ne z, k1 a z]
        have k4 : hid A H2 = hid (D :: A) H' := by
          rw [← k3, hid_own k2]
        have s6 : St F A H2 σ δi := by
          refine ⟨s'.sd.step (fun a ha => ?_) (fun j w hj a ha => ⟨k1 a fun e => hDA (by rw [← e]; exact hown j w hj a ha), hown j w hj a ha⟩) (by rw [k4]; exact WL.Ex.refl _), ⟨fun a o hao => ?_, s1.bs.sub, s1.bs.ml, s1.bs.lv⟩, s'.mineF⟩
          · rw [k1 a fun e => hDA (by rw [← e]; exact ha)]; exact s'.sd.live a (List.mem_cons_of_mem _ ha)
          · have z := s'.bs.kept a o hao
            have hax : a ≠ D := fun e => by
              have z2 := (hid_some hao).2
              rw [e, hD0] at z2; cases z2
            rw [k1 a hax]; exact z
        have := q D xs acc δi H2 (hd acc δi hI) s6 (by rw [k4]; exact x1.trans x') k2 (by rw [k4]; exact ha)
        rw [k3] at this
        exact this
/-- the simple case: a filter and a map over data -/
theorem dn_lcM (f : PyData → PyData) (keep : PyData → Bool) (hi : DI F wi δ (is1 δ es)) (hz : es.length ≤ 100000)
    (h : ∀ H0' d, d ∈ es → ∃ δg, DW (F.at H0') g vs d (wipeD δ vs) δg ∧ ownsIn δ δg ∧ DB (F.at H0') tt δg (keep d) ∧ (keep d = true → DV (F.at H0') te δg (f d))) : DN F (tLc wi g tt te vs) δ (is1 δ ((es.filter keep).map f)) :=
  dn_lc hi fun es' δ1 ⟨e1, e2⟩ => by
    subst e1; subst e2
    refine ⟨hz, fun i acc δi => δi = δ1 ∧ acc = ((es'.take i).filter keep).map f, ⟨rfl, by simp⟩, fun H0' i acc d δi ed ⟨e1, e2⟩ => ?_, fun acc δ' ⟨e1, e2⟩ => ⟨by rw [e2, List.take_length], e1⟩⟩
    subst e1; subst e2
    obtain ⟨δg, hg, ho, hb, hv⟩ := h H0' d (List.mem_of_getElem? ed)
    have et : es'.take (i + 1) = es'.take i ++ [d] := by rw [List.take_succ, ed]; rfl
    refine ⟨δg, hg, hb.mono fun b δ2 ⟨e1, e2⟩ => ?_⟩
    subst e2
    refine ⟨fun eb => ?_, fun eb => ⟨δi, Back.self ho, rfl, ?_⟩⟩
    · rw [e1] at eb
      refine (hv eb).mono fun y δ3 ⟨f1, f2⟩ => ?_
      subst f2
      exact ⟨δi, Back.self ho, rfl, by rw [et, List.filter_append, List.map_append, f1]; simp [eb]⟩
    · rw [e1] at eb
      rw [et, List.filter_append, List.map_append]; simp [eb]
theorem db_yes : DB F tYes δ true := fun A H σ s Q q => q true δ H ⟨rfl, rfl⟩ s (WL.Ex.refl _)
/-- .. without a test -/
theorem dn_map (f : PyData → PyData) (hi : DI F wi δ (is1 δ es)) (hz : es.length ≤ 100000)
    (h : ∀ H0' d, d ∈ es → ∃ δg, DW (F.at H0') g vs d (wipeD δ vs) δg ∧ ownsIn δ δg ∧ DV (F.at H0') te δg (f d)) : DN F (tLc wi g tYes te vs) δ (is1 δ (es.map f)) := by
  have := dn_lcM (te := te) f (fun _ => true) hi hz fun H0' d hd => by
    obtain ⟨δg, h1, h2, h3⟩ := h H0' d hd
    exact ⟨δg, h1, h2, db_yes, fun _ => h3⟩
  rw [List.filter_eq_self.mpr fun _ _ => rfl] at this
  exact this
end

/-! ### defs -/
section
variable {P : Program} {w : World} {K : PySem.W.Frag} {mg : Str → Option Value} {base : Heap}
def env0 (N : List Str) (ds : List PyData) : List WSlot := ds.map .dat ++ List.replicate (N.length - ds.length) .no
theorem start_get {N : List Str} {vs : List V} {i : Nat} {v : V} (h : vs[i]? = some v) : (L2.start N vs)[i]? = some (some v) := by
  unfold L2.start
  have hi : i < vs.length := (List.getElem?_eq_some_iff.mp h).1
  rw [List.getElem?_append_left (by rw [List.length_map]; exact hi), List.getElem?_map, h]; rfl
theorem start_len {N : List Str} {vs : List V} : (L2.start N vs).length = vs.length + (N.length - vs.length) := by
  unfold L2.start; rw [List.length_append, List.length_map, List.length_replicate]
theorem env0_get {N : List Str} {ds : List PyData} {i : Nat} {s : WSlot} (h : (env0 N ds)[i]? = some s) : s = .no ∨ ∃ d, ds[i]? = some d ∧ s = .dat d := by
  unfold env0 at h
  by_cases hi : i < ds.length
  · rw [List.getElem?_append_left (by rw [List.length_map]; exact hi), List.getElem?_map] at h
    cases e : ds[i]? with
    | none => rw [e] at h; cases h
    | some d => rw [e] at h; simp at h; exact .inr ⟨d, rfl, h.symm⟩
  · rw [List.getElem?_append_right (by rw [List.length_map]; omega), List.getElem?_replicate] at h
    split at h
    · simp at h; exact .inl h.symm
    · cases h
theorem st_start {H : Hp} {A0 : List Addr} {N : List Str} {vs : List V} {ds : List PyData} (lv : Live A0 H) (hv : DtAll K (hid A0 H) vs ds) : St ⟨K, H, A0, []⟩ A0 H (L2.start N vs) (env0 N ds) where
  sd := {
    len := by rw [start_len]; unfold env0; rw [List.length_append, List.length_map, List.length_replicate, hv.len]
    live := lv
    all := fun i w h => by
      rcases env0_get h with e | ⟨d', e1, e2⟩
      · subst e; exact True.intro
      · subst e2
        obtain ⟨v, ev, q⟩ := hv.get e1
        exact ⟨v, start_get ev, q⟩
    apart := fun i j w w' h _ _ a ha => by
      rcases env0_get h with e | ⟨d', e1, e2⟩
      · subst e; cases ha
      · subst e2; cases ha }
  bs := Bs.start H A0 [] lv fun a h => by cases h
  mineF := fun i w h a ha => by
    rcases env0_get h with e | ⟨d', e1, e2⟩
    · subst e; cases ha
    · subst e2; cases ha
/-- THE RULE of a def that leaves all as it is -/
theorem fnP {x qual : Str} {st : Stmt} {f : Addr} {fd : FuncData} {N ps : List Str} {k : Nat} {rel : List PyData → (PyData → Prop) → Prop} (G : Fun K x qual st f fd) (S : FnScope N ps (defScope st)) (hlen : ∀ ds Pd, rel ds Pd → ds.length = ps.length)
    (hb : ∀ (cdv : Value) (A : Around) (outer : List Env) (s : Shared) (H : Hp) (E : XK), Room k (A.deeper (envOfC qual (defScope st) s.heap.objs.size f cdv)) →
      ∃ t, PSs (cxOf CX0 P w K mg base N qual (defScope st) f cdv A outer s H E).nox (defBody st) t ∧
        ∀ A0 ds Pd, rel ds Pd → DS ⟨K, H, A0, []⟩ t (env0 N ds) (fun _ => Pd .none) (fun d _ => Pd d) (fun _ => False) (fun _ => False)) :
    FnOk P w K mg base CX0 (k + 1) f fd ps (spP K rel) :=
  G.ok S (fun vs H Q E ⟨A0, ds, Pd, lv, hv, hr, q⟩ => by rw [hv.len]; exact hlen ds Pd hr) fun cdv A outer s H vs Q E hr ⟨A0, ds, Pd, lv, hv, hrel, q⟩ => by
    obtain ⟨t, ht, hd⟩ := hb cdv A outer s H E hr
    refine ⟨t, ht, hd A0 ds Pd hrel A0 H _ _ (st_start lv hv) ⟨fun δ' A' H' σ' n s' x => ?_, fun d v δ' A' H' σ' n s' x hd' => ?_, fun _ _ _ _ z => z.elim, fun _ _ _ _ z => z.elim⟩⟩
    · exact q .non .none H' n (fun a o h => s'.bs.kept a o (by rw [hid_nil]; exact h)) .non
    · exact q v d H' n (fun a o h => s'.bs.kept a o (by rw [hid_nil]; exact h)) (dp_ex (hid_sub s'.bs.sub) hd')
/-- .. of a def that changes the list that it is handed first -/
theorem fnO {x qual : Str} {st : Stmt} {f : Addr} {fd : FuncData} {N ps : List Str} {k : Nat} {rel : List PyData → List PyData → (PyData → List PyData → Prop) → Prop} (G : Fun K x qual st f fd) (S : FnScope N ps (defScope st)) (hlen : ∀ ds es Pd, rel ds es Pd → es.length + 1 = ps.length)
    (hN : ps.length ≤ N.length)
    (hb : ∀ (cdv : Value) (A : Around) (outer : List Env) (s : Shared) (H : Hp) (E : XK), Room k (A.deeper (envOfC qual (defScope st) s.heap.objs.size f cdv)) →
      ∃ t, PSs (cxOf CX0 P w K mg base N qual (defScope st) f cdv A outer s H E).nox (defBody st) t ∧
        ∀ A0 l ds es Pd, rel ds es Pd → DS ⟨K, H, A0, [l]⟩ t (.own l ds :: env0 N.tail es) (fun δ' => ∃ ds', δ'[0]? = some (.own l ds') ∧ Pd .none ds') (fun d δ' => ∃ ds', δ'[0]? = some (.own l ds') ∧ Pd d ds') (fun _ => False) (fun _ => False)) :
    FnOk P w K mg base CX0 (k + 1) f fd ps (spO K rel) :=
  G.ok S (fun vs H Q E ⟨A0, l, us, xs, ds, es, Pd, e, lv, hl, hx, hd, hv, hr, q⟩ => by rw [e, List.length_cons, hv.len]; exact hlen ds es Pd hr) fun cdv A outer s H vs Q E hr ⟨A0, l, us, xs, ds, es, Pd, e, lv, hl, hx, hd, hv, hrel, q⟩ => by
    subst e
    obtain ⟨t, ht, hD⟩ := hb cdv A outer s H E hr
    have hle := hlen ds es Pd hrel
    obtain ⟨n0, N', eN⟩ : ∃ n0 N', N = n0 :: N' := by
      cases N with
      | nil => rw [List.length_nil] at hN; omega
      | cons a b => exact ⟨a, b, rfl⟩
    have s0 := st_start (K := K) (N := N') lv hv
    have e1 : L2.start N (.ref l :: us) = some (.ref l) :: L2.start N' us := by
      subst eN
      unfold L2.start
      simp
    have s1 : St ⟨K, H, A0, [l]⟩ A0 H (L2.start N (.ref l :: us)) (.own l ds :: env0 N.tail es) := by
      rw [e1, eN]
      have nf : ∀ (i : Nat) (w : WSlot), (env0 N' es)[i]? = some w → ∀ a ∈ w.foot, False := fun i w h a ha => by
        rcases env0_get h with e | ⟨d', e1, e2⟩
        · subst e; cases ha
        · subst e2; cases ha
      refine ⟨⟨by rw [List.length_cons, List.length_cons]; exact congrArg (· + 1) s0.sd.len, lv, fun i w h => ?_, fun i j w w' h1 h2 hne a ha hb => ?_⟩, Bs.start H A0 [l] lv fun a h => by rw [List.mem_singleton.mp h]; exact hl, fun i w h a ha => ?_⟩
      · cases i with
        | zero => simp at h; subst h; exact ⟨rfl, hl, xs, hx, hd⟩
        | succ i => exact s0.sd.all i w (by simpa using h)
      · cases i with
        | zero => cases j with
          | zero => exact hne rfl
          | succ j => exact nf j w' (by simpa using h2) a hb
        | succ i => exact nf i w (by simpa using h1) a ha
      · cases i with
        | zero => simp at h; subst h; exact .inl ha
        | succ i => exact (nf i w (by simpa using h) a ha).elim
    refine ⟨t, ht, hD A0 l ds es Pd hrel A0 H _ _ s1 ⟨fun δ' A' H' σ' ⟨ds', h0, p⟩ s' x => ?_, fun d v δ' A' H' σ' ⟨ds', h0, p⟩ s' x hd' => ?_, fun _ _ _ _ z => z.elim, fun _ _ _ _ z => z.elim⟩⟩
    · obtain ⟨_, _, ys, f3, f4⟩ := s'.sd.own 0 l ds' h0
      exact q .non .none ds' ys H' p s'.bs.kept f3 (dpa_ex (hid_sub s'.bs.sub) f4) .non
    · obtain ⟨_, _, ys, f3, f4⟩ := s'.sd.own 0 l ds' h0
      exact q v d ds' ys H' p s'.bs.kept f3 (dpa_ex (hid_sub s'.bs.sub) f4) (dp_ex (hid_sub s'.bs.sub) hd')
end
end WL
end
section
set_option Elab.async false
set_option linter.all false
set_option maxRecDepth 100000
namespace WL
open PySem PySem.Spec PyProof.Rows L2
theorem dpa_flat {K : PySem.W.Frag} {H : Hp} {xs : List V} {ds : List PyData} (h : DtAll K H xs ds) : ∀ k : Nat, DtAll K H (List.replicate k xs).flatten (List.replicate k ds).flatten
  | 0 => .nil
  | k + 1 => by
    rw [List.replicate_succ, List.replicate_succ, List.flatten_cons, List.flatten_cons]
    exact h.app (dpa_flat h k)
section
variable {F : Fx} {te ta tb tn : TE} {tt : TT} {tl : TA} {t u : TS} {g : TG} {δ δ' δ'' : List WSlot} {d : PyData} {ds es : List PyData} {P : PyData → List WSlot → Prop} {PL PA PB : List PyData → List WSlot → Prop} {N N1 B C : List WSlot → Prop} {R : PyData → List WSlot → Prop}
theorem DN.mono (h : DN F te δ PA) (w : ∀ ds δ', PA ds δ' → PB ds δ') : DN F te δ PB := fun A H σ s Q q => h A H σ s Q fun l xs ds δ' H2 p => q l xs ds δ' H2 (w ds δ' p)
theorem DA.mono (h : DA F tl δ PA) (w : ∀ ds δ', PA ds δ' → PB ds δ') : DA F tl δ PB := fun A H σ s Q q => h A H σ s Q fun vs ds δ' H2 p => q vs ds δ' H2 (w ds δ' p)
theorem da_end (h : PA [] δ) : DA F tNil δ PA := fun A H σ s Q q => q [] [] δ H h s (WL.Ex.refl _) .nil
/-- xs * n, xs new -/
theorem dn_rep {k : Nat} (ha : DN F ta δ (is1 δ ds)) (hb : DV F tb δ (.int k)) (hk : k ≤ 1000) (hl : ds.length ≤ 1000) : DN F (tOp rRep ta tb) δ (is1 δ (List.replicate k ds).flatten) := fun A H σ s Q q =>
  ha A H σ s _ fun l xs ds' δ1 H1 ⟨e1, e2⟩ s1 x1 hn hd => by
    subst e1; subst e2
    have ho : l ∉ A := s1.live.out hn
    refine hb A _ σ (s1.ex (WL.Ex.new hn)) _ fun v d δ2 H2 ⟨e3, e4⟩ s2 x2 hv => ?_
    subst e3; subst e4
    have hl2 : H2 l = some (.lst xs) := by
      have := x2 l (.lst xs) (by rw [hid_out ho, upd_same])
      rw [hid_out ho] at this; exact this
    have hd2 := dpa_ex ((hid_ex (WL.Ex.new (o := .lst xs) hn)).trans x2) hd
    have hxl : xs.length = ds'.length := hd.len
    refine ⟨l, (k : Int), xs, rfl, dp_int hv, hl2, by omega, by omega, ?_, fun p hp => ?_⟩
    · have e : (k : Int).toNat = k := by omega
      rw [e, hxl]
      exact Nat.le_trans (Nat.mul_le_mul hl hk) (by decide)
    · have e : (k : Int).toNat = k := by omega
      rw [e]
      refine q p _ _ _ H2 ⟨rfl, rfl⟩ s2 (x1.trans ((hid_ex (WL.Ex.new hn)).trans x2)) hp ?_
      exact dpa_flat hd2 k
/-- xs + ys, xs the frame's own, ys new -/
theorem dn_catO {i : Nat} {l : Addr} (ho : δ[i]? = some (.own l ds)) (hb : DN F tb δ fun es δ' => ∃ ds', δ'[i]? = some (.own l ds') ∧ ds'.length + es.length ≤ 100000 ∧ PL (ds' ++ es) δ') : DN F (tOp rCat (tVar i) tb) δ PL := fun A H σ s Q q =>
  ⟨.ref l, (s.sd.own i l ds ho).1, hb A H σ s _ fun b zs es δ1 H1 ⟨ds', ho1, hz, p⟩ s1 x1 hn hd => by
    obtain ⟨_, m, xs, hx, ha⟩ := s1.sd.own i l ds' ho1
    have hbl : l ≠ b := ne_of_none hx hn
    have s2 := s1.ex (WL.Ex.new (o := .lst zs) hn)
    refine ⟨l, b, xs, zs, rfl, rfl, by rw [upd_ne hbl]; exact hx, upd_same, by rw [ha.len, hd.len]; exact Nat.le_trans hz (by decide), fun p' hp => ?_⟩
    exact q p' _ _ _ _ p s2 (x1.trans (hid_ex (WL.Ex.new hn))) hp (dpa_ex (hid_ex (WL.Ex.new hn)) (ha.app hd))⟩
/-- a, b = e, ys: ys new and the frame's own -/
theorem dq_parO {i j : Nat} (h : DE F te δ P) (hn : ∀ d δ1, P d δ1 → DN F tn δ1 fun ds δ2 => ∀ l, DS F u ((δ2.set i (.dat d)).set j (.own l ds)) N R B C) : DS F (tSeq (tPar i j (tCons te (tCons tn tNil))) u) δ N R B C := fun A H σ D s E =>
  h A H σ s _ fun v d δ1 H1 p s1 x1 hv => hn d δ1 p A H1 σ s1 _ fun l xs ds δ2 H2 hu s2 x2 hl hd => by
    refine ⟨v, .ref l, rfl, ?_⟩
    have s3 : St F A H2 (σ.set i (some v)) (δ2.set i (.dat d)) := s2.set (dp_ex x2 hv)
    exact hu l (l :: A) _ _ D (s3.setOwn hl hd) (E.adv (by rw [hid_own hl]; exact x1.trans x2))
/-- a, b, c = e, [], v -/
theorem dq_par3O {i j k : Nat} {v : V} {e : PyData} (h : DE F te δ P) (hv : ∀ H, Dt F.K H v e) (hu : ∀ d δ1 l, P d δ1 → DS F u (((δ1.set i (.dat d)).set j (.own l [])).set k (.dat e)) N R B C) : DS F (tSeq (tPar3 i j k (tCons te (tCons (tLst tNil) (tCons (tC v) tNil)))) u) δ N R B C := fun A H σ D s E =>
  h A H σ s _ fun x d δ1 H1 p s1 x1 hx => ⟨Nat.zero_le _, fun l hl => by
    refine ⟨x, .ref l, v, rfl, ?_⟩
    have s3 : St F A H1 (σ.set i (some x)) (δ1.set i (.dat d)) := s1.set hx
    have s4 : St F (l :: A) (upd H1 l (.lst [])) ((σ.set i (some x)).set j (some (.ref l))) ((δ1.set i (.dat d)).set j (.own l [])) := s3.setOwn hl .nil
    exact hu d δ1 l p (l :: A) _ _ D (s4.set (hv _)) (E.adv (by rw [hid_own hl]; exact x1))⟩
/-- tuple(range(n)) -/
theorem dv_tupRg {n : Nat} (h : DV F te δ (.int n)) (hn : n ≤ 100000) : DV F (tTupRgN (tRg1 te)) δ (.tuple (rangeD n)) := fun A H σ s Q q =>
  h A H σ s _ fun v d δ1 H1 ⟨e1, e2⟩ s1 x1 hd => by
    subst e1; subst e2
    refine ⟨(n : Int), dp_int hd, RgOk.of_le (by omega) (by omega) (by omega) (by omega), fun p o hp hod => ?_⟩
    have e : rgV 0 n = (List.range n).map fun (i : Nat) => V.int i := by
      unfold rgV
      have e1 : ((n : Int) - 0).toNat = n := by omega
      rw [e1]
      exact List.map_congr_left fun i _ => by rw [Int.zero_add]
    rw [e]
    have hl : ∀ (H : Hp) (l : List Nat), DtAll F.K H (l.map fun (i : Nat) => V.int i) (l.map fun (i : Nat) => PyData.int i) := fun H l => by
      induction l with
      | nil => exact .nil
      | cons a l ih => exact .cons (.int _) ih
    exact q _ _ _ _ ⟨rfl, rfl⟩ (s1.ex (WL.Ex.new hp)) (x1.trans (hid_ex (WL.Ex.new hp))) (dt_new (s1.live.out hp) hp hod (hl _ (List.range n)))
/-- x = [..], a name of the frame's own, the old list dropped -/
theorem dq_cut (h : DS F t δ N1 R B C) (hu : ∀ δ1, N1 δ1 → DS F u δ1 N R B C) : DS F (tSeq t u) δ N R B C := ds_seq h hu
/-- names forgotten -/
theorem ds_forget (js : List Nat) (h : DS F t (wipeD δ js) N R B C) : DS F t δ N R B C := fun A H σ D s E =>
  h A H σ D (s.le ⟨wipeD_len δ js, fun i z hz => (wipeD_get hz).imp id fun q => q.1⟩) E
/-- an owned list that nobody changes any longer -/
theorem ds_freeze {i : Nat} {l : Addr} (ho : δ[i]? = some (.own l ds)) (hM : F.M = [] ∨ ∃ (j : Nat) (l' : Addr) (ds' : List PyData), j ≠ i ∧ F.M = [l'] ∧ δ[j]? = some (.own l' ds')) (h : DS F t (δ.set i (.dat (.list ds))) N R B C) : DS F t δ N R B C := fun A H σ D s E => by
  obtain ⟨s1, h1⟩ := s.sd.freeze ho
  have x : Ex (hid A H) (hid (A.filter fun a => decide (a ≠ l)) H) := hid_sub fun a ha => (List.mem_filter.mp ha).1
  have hn : F.H0 l = none := by
    rcases s.mine i l ds ho with z | z
    · rcases hM with e | ⟨j, l', ds', hj, e, hj2⟩
      · rw [e] at z; cases z
      · rw [e] at z
        exact absurd (List.mem_singleton.mp z).symm (s.sd.sep j i l' ds' l ds hj2 ho hj)
    · exact z
  refine h _ H σ D ⟨s1, ⟨s.bs.kept, fun a ha => List.mem_filter.mpr ⟨s.bs.sub a ha, ?_⟩, s.bs.ml, s.bs.lv⟩, mine_put s.mineF fun _ a ha => nomatch ha⟩ (E.adv x)
  simp only [decide_eq_true_eq, ne_eq]
  rintro rfl
  exact s.bs.lv a ha hn
end
end WL
end
section
set_option Elab.async false
set_option linter.all false
set_option maxRecDepth 100000
namespace WL
open PySem PySem.Spec PyProof.Rows L2
open AutoSeq1 (wpAny_loadPart')
/-! ### t.count(x) -/
def tTM (K : PySem.W.Frag) (r : V → List V → Hp → VK → Prop) (to : TE) (t : TA) : TE := fun σ H Q => to σ H fun x H1 => (∃ a, x = .ref a ∧ Nd K H1 a) ∧ t σ H1 fun xs H2 => r x xs H2 Q
theorem Nd.ob {X : Cx} {pins : List (Addr × Obj)} {σ : List (Option V)} {H : Hp} {s : Shared} (I : Inv X pins σ H s) {a : Addr} (h : Nd X.K H a) : s.TypeIs (.ref a) "tuple" ∧ ∀ b, Value.ref a = .ref b → ∃ ob, s.heap.get? b = some ob ∧ ob.dict = none := by
  rcases h with ⟨o, xs, h1, h2⟩ | ⟨o, h1, h2, h3⟩
  · obtain ⟨e, _, _, _, ob, e2, hc, _⟩ := I.hok a _ h1
    rw [e] at e2; cases e2
    exact ⟨⟨o, e, hc⟩, fun b hb => by cases hb; exact ⟨o, e, h2⟩⟩
  · exact ⟨⟨o, I.kIn a o h1, h2⟩, fun b hb => by cases hb; exact ⟨o, I.kIn a o h1, h3⟩⟩
section
variable {X : Cx} {o e : Expr} {es : List Expr} {to : TE} {t : TA} {name : Str} {apos cpos : Pos} {id : String} {r : V → List V → Hp → VK → Prop}
theorem pe_tm (slot : Slot "tuple" name id) (hty : typeOf (.builtin id) = pure (.type "method_descriptor")) (hm : MtR X id r) (ho : PE X o to) (ha : PA X (e :: es) t)
    (hbase : attributeBase o name X.env (eval o X.env) = eval o X.env := by rfl)
    (hfew : ((backTo cpos (starEach (e :: es) X.env)).all (fun x => !x.1) && (backToKw cpos (keywordEach [] X.env)).all (fun x => x.1.isSome)
      && decide ((e :: es).length + ([] : List Keyword).length + (if ([] : List Keyword).isEmpty then 0 else 1) < 30)) = true := by rfl)
    (hline : (apos.endLine == cpos.line) = true := by rfl) (hs : starEach (e :: es) X.env = (false, eval e X.env) :: starEach es X.env := by rfl) (hplain : (backTo cpos (starEach es X.env)).any (·.1) = false := by rfl) :
    PE X (.Call (.Attribute o name apos) (e :: es) [] cpos) (tTM X.K r to t) := by
  refine ⟨fun pins s σ H Q I h => ?_⟩
  refine wpAny_Call_method_late hbase hfew hline rfl (thn (ho.run pins s σ H _ I h) fun v s1 ⟨x, H1, I1, r1, ⟨a, ex, nd⟩, q1⟩ => ?_)
  subst ex
  cases r1
  obtain ⟨h1, h2⟩ := nd.ob I1
  refine ⟨"tuple", id, PySem.F.plainAttrs_tuple, slot, hty, h1, h2, ?_⟩
  have hA := ha.run cpos pins s1 σ H1 _ I1 q1
  rw [hs] at hA ⊢
  refine Calls.callWith_builtin (by show (false || (backTo cpos (starEach es X.env)).any (·.1)) = false; rw [hplain] <;> rfl) (Calls.evalArgs_plain ?_)
  exact thn hA fun us s2 ⟨vs, H2, I2, r2, q2⟩ => hm pins s2 σ H2 (.ref a) vs (.ref a) us Q I2 rfl r2 q2
def rTCount (K : PySem.W.Frag) : V → List V → Hp → VK → Prop := fun x xs H Q => ∃ (a : Addr) (zs : List V) (y : V) (d : PyData) (ds : List PyData), x = .ref a ∧ xs = [y] ∧ SqT K H a zs ∧ DpAll K H zs ds ∧ Dp K H y d ∧ PyData.plainAll ds = true ∧ d.plain = true ∧ d.depth ≤ 30 ∧ Q (.int (ds.countP fun z => PyData.eqv z d)) H
theorem mt_tcount (hu : X.A.units + 64 < cLine) : MtR X "tuple.count" (rTCount X.K) := by
  intro pins s σ H x xs v us Q I rx rs h
  obtain ⟨a, zs, y, d, ds, rfl, rfl, hT, hA, hd, h1, h2, h3, q⟩ := h
  cases rx
  obtain ⟨its, rv, p, _⟩ := I.tuple hT
  cases rs with
  | cons r1 r2 =>
    cases r2
    obtain ⟨as, k1⟩ := Dp.readsAll I ds zs its hA rv
    obtain ⟨bs, k2⟩ := Dp.reads I d y _ hd r1
    exact PySem.SeqAt.count_tuple_data (show s.heap.IsTuple a its.toArray from p) (by simpa using k1) k2 h1 h2 (by have := Nat.min_le_right (PyData.depthAll ds) d.depth; omega) ⟨.int _, H, I.tok _, ⟨_, rfl⟩, q⟩
end
theorem pe_tcount {X : Cx} {o e : Expr} {to te : TE} {apos cpos : Pos} (K' : PySem.W.Frag) (ho : PE X o to) (he : PE X e te) (hu : X.A.units + 64 < cLine) (hK : X.K = K' := by rfl)
    (hbase : attributeBase o "count" X.env (eval o X.env) = eval o X.env := by rfl)
    (hfew : ((backTo cpos (starEach [e] X.env)).all (fun x => !x.1) && (backToKw cpos (keywordEach [] X.env)).all (fun x => x.1.isSome)
      && decide ([e].length + ([] : List Keyword).length + (if ([] : List Keyword).isEmpty then 0 else 1) < 30)) = true := by rfl)
    (hline : (apos.endLine == cpos.line) = true := by rfl) (hs : starEach [e] X.env = (false, eval e X.env) :: starEach [] X.env := by rfl) :
    PE X (.Call (.Attribute o "count" apos) [e] [] cpos) (tTM K' (rTCount K') to (tCons te tNil)) := by
  subst hK
  exact pe_tm PySem.F.slot_tuple_count PySem.F.type_tuple_count (mt_tcount hu) ho (pa_cons he pa_nil hs) hbase hfew hline hs rfl
/-! ### t * n -/
theorem tuple_mulOne (l : Addr) (items : Array Value) (n : Nat) (dd : Option Addr) (sl : Array (Option Value)) (x : Int) (u : Tok) (c0 : (decide (x < -(2 ^ 63)) || decide (x ≥ 2 ^ 63)) = false) (c1 : (items.isEmpty || x == 1) = true) :
    Meets (Builtin.«tuple.__mul__» ⟨[.ref l, .int x u], []⟩) (fun _ R s => s.heap.get? l = some { cls := .type "tuple", dict := dd, data := .seq items n, slots := sl } ∧ R (.ok (.ret (Value.ref l))) s) :=
  .of_wp fun prog w A R s h => by
    obtain ⟨hp, g, d, tk, os⟩ := s
    obtain ⟨hl, h⟩ := h
    have f1 := AutoSeq1.idx_int
    wp_walk using wpAny_loadPart' hl
    refine wpAny_ite_false (decide_eq_false (by rw [c0]; exact Bool.false_ne_true)) ?_
    wp_walk using wpAny_loadPart' hl
    exact ⟨_, rfl, h⟩
theorem tuple_mulZero (l : Addr) (items : Array Value) (n : Nat) (dd : Option Addr) (sl : Array (Option Value)) (x : Int) (u : Tok) (c0 : (decide (x < -(2 ^ 63)) || decide (x ≥ 2 ^ 63)) = false) (c1 : (items.isEmpty || x == 1) = false) (c2 : (decide (x ≤ 0) || items.isEmpty) = true) :
    Meets (Builtin.«tuple.__mul__» ⟨[.ref l, .int x u], []⟩) (fun _ R s => s.heap.get? l = some { cls := .type "tuple", dict := dd, data := .seq items n, slots := sl } ∧
      R (.ok (.ret (Value.ref s.heap.objs.size))) { s with heap := s.heap.push (nt #[]), toks := s.toks }) :=
  .of_wp fun prog w A R s h => by
    obtain ⟨hp, g, d, tk, os⟩ := s
    obtain ⟨hl, h⟩ := h
    have f1 := AutoSeq1.idx_int
    wp_walk using wpAny_loadPart' hl
    refine wpAny_ite_false (decide_eq_false (by rw [c0]; exact Bool.false_ne_true)) ?_
    wp_walk using wpAny_loadPart' hl
    repeat (first
      | (refine wpAny_ite_false (decide_eq_false (by rw [c1]; exact Bool.false_ne_true)) ?_; wp_walk using wpAny_loadPart' hl)
      | (refine wpAny_ite_true (decide_eq_true c2) ?_; wp_walk using wpAny_loadPart' hl))
    exact ⟨_, rfl, h⟩
/-- t * n, n from 0 -/
def rRepN (K : PySem.W.Frag) : R2 := fun x y H Q => ∃ (l : Addr) (k : Nat) (xs : List V), x = .ref l ∧ y = .int k ∧ SqT K H l xs ∧ xs ≠ [] ∧ k ≤ 1000 ∧ xs.length ≤ 1000 ∧ (k = 1 → Q (.ref l) H) ∧
  (k ≠ 1 → ∀ (p : Addr) (o : Obj), H p = none → o.dict = none → Q (.ref p) (upd H p (.frz o (.tup (List.replicate k xs).flatten))))
theorem op_repN {X : Cx} : OpR X (binaryOp .Mult) (rRepN X.K) := by
  intro pins s σ H x y v u Q I rx ry h
  obtain ⟨l, k, xs, rfl, rfl, hT, hne, h2, hz, q1, q2⟩ := h
  cases rx
  obtain ⟨t, rfl⟩ := ry
  obtain ⟨its, r, ⟨⟨cls, dd, data, sl⟩, ho, hc, n, hd⟩, hs⟩ := I.tuple hT
  simp only at hc hd
  subst hc hd
  have hle : its.length = xs.length := r.length.symm
  have hi : its.toArray.isEmpty = false := by
    cases its with
    | nil => exact absurd (List.eq_nil_of_length_eq_zero hle.symm) hne
    | cons a b => rfl
  have c0 : (decide ((k : Int) < -(2 ^ 63)) || decide ((k : Int) ≥ 2 ^ 63)) = false := by
    rw [decide_eq_false (by omega), decide_eq_false (by omega)]; rfl
  have road : ∀ {Qf : Value → Shared → Prop}, wpAny (model X.prog X.w) X.A (call (.builtin "tuple.__mul__") [.ref l, .int k t]) Qf X.xe s → wpAny (model X.prog X.w) X.A (binaryOp .Mult (.ref l) (.int k t)) Qf X.xe s := fun {Qf} hc =>
    wpAny_binaryOp_repeat_ref (T := "tuple") (U := "int") (by decide) ⟨_, ho, rfl⟩ (fun s' => typeIs_int s' k t) noFill_tuple_mul F.fills_int_mul F.slot_int_rmul repeat_tuple F.slot_int_index.lookup
      (call_meets F.slot_int_rmul (typeIs_int s k t) F.entry_int_rmul (F.args_int_rmul_2 _ _) (int_rmul_tuple k t l its.toArray n dd sl) ⟨ho, rfl, ⟨_, ho, rfl⟩, hc⟩)
  refine road ?_
  by_cases hk1 : k = 1
  · subst hk1
    exact call_meets F.slot_tuple_mul ⟨_, ho, rfl⟩ F.entry_tuple_mul (F.args_tuple_mul_2 _ _) (tuple_mulOne l its.toArray n dd sl _ t c0 (by simp)) ⟨ho, .ref l, H, I, rfl, q1 rfl⟩
  · have c1 : (its.toArray.isEmpty || (k : Int) == 1) = false := by
      rw [hi, Bool.false_or]
      exact beq_eq_false_iff_ne.mpr (by omega)
    by_cases hk0 : k = 0
    · subst hk0
      refine call_meets F.slot_tuple_mul ⟨_, ho, rfl⟩ F.entry_tuple_mul (F.args_tuple_mul_2 _ _) (tuple_mulZero l its.toArray n dd sl _ t c0 c1 (by simp)) ⟨ho, ?_⟩
      exact ⟨.ref s.heap.objs.size, _, I.laid (t' := s.toks) (o := .frz (nt #[]) (.tup [])) (fun b ob q => Heap.get?_push_of_some _ q) (Nat.le_refl _) (okN (us := []) (by decide) .nil (Heap.get?_push_size _ rfl)), rfl, q2 hk1 _ _ (I.hok.fresh (Nat.le_refl _)) rfl⟩
    · have hm : ((its.toArray.size : Nat) : Int) * (k : Int) ≤ 1000000 := by
        have a1 : its.length * k ≤ 1000 * 1000 := Nat.mul_le_mul (by omega) h2
        rw [List.size_toArray]
        have : ((its.length * k : Nat) : Int) = (its.length : Int) * (k : Int) := Int.natCast_mul _ _
        omega
      have flen : (List.replicate k its).flatten.length ≤ sizeLine := by
        rw [PyProof.Rows.lm_len_rep_flat, hle, sizeLine_eq]
        have a1 : k * xs.length ≤ 1000 * 1000 := Nat.mul_le_mul h2 hz
        omega
      have c2 : (decide ((k : Int) ≤ 0) || its.toArray.isEmpty) = false := by
        rw [hi, Bool.or_false]
        exact decide_eq_false (by omega)
      have c4 : Builtin.Tuple.tupleTooMany (((its.toArray.size : Nat) : Int) * (k : Int)) = false := by
        unfold Builtin.Tuple.tupleTooMany
        rw [sizeLine_eq]
        exact decide_eq_false (by omega)
      have ek : (k : Int).toNat = k := by omega
      refine call_meets F.slot_tuple_mul ⟨_, ho, rfl⟩ F.entry_tuple_mul (F.args_tuple_mul_2 _ _) (tuple_mulW l its.toArray n dd sl _ t c0 c1 c2 (by omega) c4 (by rw [ek, size_rep, List.size_toArray]; exact flen)) ⟨ho, ?_⟩
      rw [ek, size_rep]
      have rr : ∀ m, Vals (List.replicate m xs).flatten (List.replicate m its).flatten := fun m => by
        induction m with
        | zero => exact .nil
        | succ m ih => rw [List.replicate_succ, List.replicate_succ, List.flatten_cons, List.flatten_cons]; exact r.append ih
      exact ⟨.ref s.heap.objs.size, _, I.laid (t' := s.toks) (o := .frz (nt (List.replicate k its).flatten.toArray) (.tup (List.replicate k xs).flatten)) (fun b ob q => Heap.get?_push_of_some _ q) (Nat.le_refl _) (okN (by rw [(rr k).length]; exact flen) (rr k) (Heap.get?_push_size _ rfl)), rfl, q2 hk1 _ _ (I.hok.fresh (Nat.le_refl _)) rfl⟩
end WL
end
section
set_option Elab.async false
set_option linter.all false
set_option maxRecDepth 100000
namespace WL
open PySem PySem.Spec PyProof.Rows L2
section
variable {F : Fx} {te ta tb tn tm : TE} {tt : TT} {tl : TA} {t u : TS} {g : TG} {δ δ' δ'' : List WSlot} {d : PyData} {ds es : List PyData} {P : PyData → List WSlot → Prop} {PL PA PB : List PyData → List WSlot → Prop} {N N1 B C : List WSlot → Prop} {R : PyData → List WSlot → Prop}
theorem dv_tcount (ha : DV F ta δ (.tuple ds)) (hb : DV F tb δ d) (h1 : PyData.plainAll ds = true) (h2 : d.plain = true) (h3 : d.depth ≤ 30) : DV F (tTM F.K (rTCount F.K) ta (tCons tb tNil)) δ (.int (ds.countP fun z => PyData.eqv z d)) := fun A H σ s Q q =>
  ha A H σ s _ fun v d1 δ1 H1 ⟨e1, e2⟩ s1 x1 hv => by
    subst e1; subst e2
    cases hv with
    | tup k1 k2 k3 =>
      refine ⟨⟨_, rfl, k2.ex hid_le⟩, hb A H1 σ s1 _ fun y d2 δ2 H2 ⟨e3, e4⟩ s2 x2 hy => ?_⟩
      subst e3; subst e4
      exact ⟨_, _, y, _, ds, rfl, rfl, sqt_ex (x2.trans hid_le) k1, (dpa_ex (x2.trans hid_le) k3).dp, (dp_ex hid_le hy).dp, h1, h2, h3, q _ _ _ H2 ⟨rfl, rfl⟩ s2 (x1.trans x2) (.int _)⟩
theorem plain_dN : ∀ ws : List Nat, PyData.plainAll (ws.map fun n : Nat => PyData.int n) = true
  | [] => rfl
  | _ :: r => plain_dN r
theorem count_dN (h : Nat) : ∀ ws : List Nat, (ws.map fun n : Nat => PyData.int n).countP (fun z => PyData.eqv z (.int h)) = ws.count h
  | [] => rfl
  | w :: r => by
    rw [List.map_cons, List.countP_cons, count_dN h r, List.count_cons]
    congr 1
    show (if ((w : Int) == (h : Int)) = true then 1 else 0) = _
    by_cases e : w = h
    · subst e; simp
    · have : ¬ (w : Int) = h := by omega
      simp [e, this]
/-- w.count(h) -/
theorem dv_count {ws : List Nat} {h : Nat} (ha : DV F ta δ (.tuple (ws.map fun n : Nat => PyData.int n))) (hb : DV F tb δ (.int h)) : DV F (tTM F.K (rTCount F.K) ta (tCons tb tNil)) δ (.int (ws.count h)) :=
  (dv_tcount ha hb (plain_dN ws) rfl (Nat.zero_le _)).is (by rw [count_dN])
theorem dv_repN {k : Nat} (ha : DV F ta δ (.tuple ds)) (hb : DV F tb δ (.int k)) (h0 : ds ≠ []) (hk : k ≤ 1000) (hl : ds.length ≤ 1000) : DV F (tOp (rRepN F.K) ta tb) δ (.tuple (List.replicate k ds).flatten) := dv_op ha hb fun A H x y l h1 h2 Q q => by
  obtain ⟨a, xs, e, a1, a2⟩ := dp_tup h1
  subst e
  rw [dp_int h2]
  refine ⟨a, k, xs, rfl, rfl, sqt_ex hid_le a1, ?_, hk, by rw [a2.len]; exact hl, fun e => ?_, fun _ p o hp hd => ?_⟩
  · rintro rfl; cases a2; exact h0 rfl
  · subst e
    refine q _ _ H rfl (WL.Ex.refl _) ?_
    have e : (List.replicate 1 ds).flatten = ds := by simp
    rw [e]; exact h1
  · exact q _ _ _ rfl (WL.Ex.new hp) (dt_new (l.out hp) hp hd (dpa_flat a2 k))
theorem ints_of {K : PySem.W.Frag} {H : Hp} : ∀ {ns : List Int} {vs : List V}, DtAll K H vs (ns.map PyData.int) → vs = ns.map V.int
  | [], _, h => by cases h; rfl
  | n :: ns, _, h => by
    cases h with
    | cons h1 h2 => rw [dp_int h1, ints_of h2]; rfl
theorem dv_sum {ns : List Int} (h : DLs F ta δ (ns.map .int)) : DV F (tCB (rSum F.K) (tCons ta tNil)) δ (.int ns.sum) := fun A H σ s Q q =>
  h A H σ s _ fun a xs ds' δ1 H1 ⟨e1, e2⟩ s1 x1 h1 h2 => by
    subst e1; subst e2
    exact ⟨a, ns, rfl, by rw [← ints_of h2]; exact h1, q _ _ _ H1 ⟨rfl, rfl⟩ s1 x1 (.int _)⟩
/-- a, b = [()], [()] -/
theorem dq_par2U {i j : Nat} (hu : ∀ l l', DS F u ((δ.set i (.own l [.tuple []])).set j (.own l' [.tuple []])) N R B C) :
    DS F (tSeq (tPar i j (tCons (tLst (tCons (tTupN tNil) tNil)) (tCons (tLst (tCons (tTupN tNil) tNil)) tNil))) u) δ N R B C := fun A H σ D s E =>
  ⟨Nat.zero_le _, fun p o hp hod => ⟨(by show 1 ≤ sizeLine; decide), fun l hl => ⟨Nat.zero_le _, fun p2 o2 hp2 hod2 => ⟨(by show 1 ≤ sizeLine; decide), fun l2 hl2 => by
    refine ⟨.ref l, .ref l2, rfl, ?_⟩
    have s1 := s.ex (WL.Ex.new (o := .frz o (.tup [])) hp)
    have d1 : DtAll F.K (hid A (upd H p (.frz o (.tup [])))) [.ref p] [.tuple []] := .cons (dt_new (s.live.out hp) hp hod .nil) .nil
    have s2 := s1.setOwn (i := i) hl d1
    have s3 := s2.ex (WL.Ex.new (o := .frz o2 (.tup [])) hp2)
    have d2 := DtAll.cons (dt_new (K := F.K) (s2.live.out hp2) hp2 hod2 (DtAll.nil)) DtAll.nil
    have s4 := s3.setOwn (i := j) hl2 d2
    refine hu l l2 _ _ _ D s4 (E.adv ?_)
    rw [hid_own hl2]
    refine (hid_ex (WL.Ex.new (o := .frz o (.tup [])) hp)).trans ?_
    have := hid_own (A := A) (o := .lst [.ref p]) hl
    exact (this ▸ WL.Ex.refl _ : Ex (hid A (upd H p (.frz o (.tup [])))) (hid (l :: A) (upd (upd H p (.frz o (.tup []))) l (.lst [.ref p])))).trans (hid_ex (WL.Ex.new hp2))⟩⟩⟩⟩
/-- xs + ys, both the frame's own -/
theorem dn_catOO {i k : Nat} {l l' : Addr} (ho : δ[i]? = some (.own l ds)) (ho' : δ[k]? = some (.own l' es)) (hz : ds.length + es.length ≤ 100000) : DN F (tOp rCat (tVar i) (tVar k)) δ (is1 δ (ds ++ es)) := fun A H σ s Q q => by
  obtain ⟨e1, m1, xs, hx, ha⟩ := s.sd.own i l ds ho
  obtain ⟨e2, m2, ys, hy, hb⟩ := s.sd.own k l' es ho'
  exact ⟨.ref l, e1, .ref l', e2, l, l', xs, ys, rfl, rfl, hx, hy, by rw [ha.len, hb.len]; exact Nat.le_trans hz (by decide), fun p hp => q p _ _ δ H ⟨rfl, rfl⟩ s (WL.Ex.refl _) hp (ha.app hb)⟩
/-- a name of the frame's own list handed on -/
theorem St.move {A : List Addr} {H : Hp} {σ : List (Option V)} {j k : Nat} {l : Addr} (s : St F A H σ δ) (hk : δ[k]? = some (.own l es)) (hjk : j ≠ k) : St F A H (σ.set j (some (.ref l))) ((δ.set k .no).set j (.own l es)) := by
  obtain ⟨e1, m, xs, hx, ha⟩ := s.sd.own k l es hk
  have key : ∀ (q : Nat) (s' : WSlot), ((δ.set k .no).set j (.own l es))[q]? = some s' → (q = j ∧ s' = .own l es) ∨ (q ≠ j ∧ q = k ∧ s' = .no) ∨ (q ≠ j ∧ q ≠ k ∧ δ[q]? = some s') := fun q s' h => by
    by_cases hqj : j = q
    · subst hqj
      rw [List.getElem?_set_self'] at h
      cases z : (δ.set k .no)[j]? with
      | none => rw [z] at h; simp at h
      | some y => rw [z] at h; simp at h; exact .inl ⟨rfl, h.symm⟩
    · rw [List.getElem?_set_ne hqj] at h
      by_cases hqk : k = q
      · subst hqk
        rw [List.getElem?_set_self'] at h
        cases z : δ[k]? with
        | none => rw [z] at h; simp at h
        | some y => rw [z] at h; simp at h; exact .inr (.inl ⟨Ne.symm hqj, rfl, h.symm⟩)
      · rw [List.getElem?_set_ne hqk] at h
        exact .inr (.inr ⟨Ne.symm hqj, Ne.symm hqk, h⟩)
  refine ⟨⟨by rw [List.length_set, List.length_set, List.length_set]; exact s.sd.len, s.sd.live, fun q w h => ?_, fun q1 q2 w1 w2 h1 h2 hne a ha hb => ?_⟩, s.bs, fun q w h a ha => ?_⟩
  · rcases key q _ h with ⟨rfl, e⟩ | ⟨_, _, e⟩ | ⟨n1, n2, e⟩
    · subst e
      refine ⟨?_, m, xs, hx, ha⟩
      have hq : q < δ.length := by
        have := (List.getElem?_eq_some_iff.mp h).1
        rw [List.length_set, List.length_set] at this; exact this
      rw [List.getElem?_set_self (by rw [s.sd.len]; exact hq)]
    · subst e; exact True.intro
    · rw [List.getElem?_set_ne (Ne.symm n1)]
      exact s.sd.all q w e
  · rcases key q1 _ h1 with ⟨a1, e1⟩ | ⟨_, _, e1⟩ | ⟨a1, b1, e1⟩
    · subst e1
      rcases key q2 _ h2 with ⟨a2, e2⟩ | ⟨_, _, e2⟩ | ⟨a2, b2, e2⟩
      · exact hne (a1.trans a2.symm)
      · subst e2; cases hb
      · exact s.sd.apart k q2 _ _ hk e2 (Ne.symm b2) a ha hb
    · subst e1; cases ha
    · rcases key q2 _ h2 with ⟨a2, e2⟩ | ⟨_, _, e2⟩ | ⟨a2, b2, e2⟩
      · subst e2
        exact s.sd.apart q1 k _ _ e1 hk b1 a ha hb
      · subst e2; cases hb
      · exact s.sd.apart _ _ _ _ e1 e2 hne a ha hb
  · rcases key q _ h with ⟨_, e⟩ | ⟨_, _, e⟩ | ⟨_, _, e⟩
    · subst e; exact s.mineF k _ hk a ha
    · subst e; cases ha
    · exact s.mineF q w e a ha
/-- a last statement, as if something stood behind it -/
theorem dq_last (h : DS F (tSeq t tNext) δ N R B C) : DS F t δ N R B C := fun A H σ D s E => h A H σ D s E
/-- a, b = [..], ys: ys the frame's own, no longer under its old name -/
theorem dq_parMove {i j k : Nat} (h : DN F tm δ fun ds δ1 => ∃ l es, δ1[k]? = some (.own l es) ∧ i ≠ k ∧ j ≠ k ∧ i ≠ j ∧ ∀ p, DS F u (((δ1.set i (.own p ds)).set k .no).set j (.own l es)) N R B C) : DS F (tSeq (tPar i j (tCons tm (tCons (tVar k) tNil))) u) δ N R B C := fun A H σ D s E =>
  h A H σ s _ fun p xs ds δ1 H1 ⟨l, es, hk, hik, hjk, hij, hu⟩ s1 x1 hp hd => by
    refine ⟨.ref l, (s1.sd.own k l es hk).1, .ref p, .ref l, rfl, ?_⟩
    have s2 := s1.setOwn (i := i) hp hd
    have s3 := s2.move (j := j) (k := k) (l := l) (es := es) (by rw [List.getElem?_set_ne hik]; exact hk) hjk
    exact hu p (p :: A) _ _ D s3 (E.adv (by rw [hid_own hp]; exact x1))
end
end WL
end
section
set_option Elab.async false
set_option linter.all false
set_option maxRecDepth 100000
/-! enumerate over a tuple -/
namespace WL
open PySem PySem.Spec PyProof.Rows L2
open Sem (wp)
open AutoSeq1 (wpAny_loadPart')
/-- the iterator of the tuple at l, new -/
abbrev tit (l : Addr) : Obj := { cls := .type "tuple_iterator", data := .fields #[.ref l, .int 0 0] }
/-- an enumerate over the iterator at i, new -/
abbrev tne (i : Addr) : Obj := { cls := .type "enumerate", data := .fields #[.none, .bool false, .ref i, rawInt 0, .none, .none] }
theorem newEnumT (l : Addr) (items : Array Value) (n : Nat) (dct : Option Addr) (sl : Array (Option Value)) :
    Meets (Builtin.«enumerate.__new__» ⟨[.type "enumerate", .ref l], []⟩) (fun _ R s => s.heap.get? l = some { cls := .type "tuple", dict := dct, data := .seq items n, slots := sl } ∧
      R (.ok (.ret (.ref (s.heap.push (tit l)).objs.size))) { s with heap := (s.heap.push (tit l)).push (tne s.heap.objs.size) }) :=
  .of_wp fun prog w A R s h => by
    obtain ⟨hp, g, d, tk, os⟩ := s
    obtain ⟨hl, h⟩ := h
    have hsub := sub_enumerate
    have hT : Heap.IsTuple (Shared.heap ⟨hp, g, d, tk, os⟩) l items := ⟨_, hl, rfl, n, rfl⟩
    wp_walk using wpAny_loadPart' hl
    refine wpAny_stack_any fun st => wpAny_pure ?_
    split
    · rename_i c _ _ _ _ _
      cases (c == Value.type "enumerate")
      all_goals (wp_walk using wpAny_loadPart' hl, wpAny_pyIter_tuple hT; exact ⟨_, rfl, h⟩)
    · wp_walk using wpAny_loadPart' hl, wpAny_pyIter_tuple hT
      exact ⟨_, rfl, h⟩
theorem callEnumT {prog : Program} {w : World} {A : Around} {E : Value → Shared → Prop} {s : Shared} {l : Addr} {items : Array Value} {Q : Value → Shared → Prop} (hT : s.heap.IsTuple l items)
    (h : ∀ h', IsEnum h' (s.heap.objs.size + 1) s.heap.objs.size 0 .none → h'.IsTupleIter s.heap.objs.size l 0 →
      (∀ b o, s.heap.get? b = some o → h'.get? b = some o) → Q (.ref (s.heap.objs.size + 1)) { s with heap := h' }) :
    wpAny (model prog w) A (call (.type "enumerate") [.ref l]) Q E s := by
  obtain ⟨⟨c, dct, dt, sl⟩, hl, hc, n, hd⟩ := hT
  obtain rfl : c = .type "tuple" := hc
  obtain rfl : dt = .seq items n := hd
  have hz : (s.heap.push (tit l)).objs.size = s.heap.objs.size + 1 := Heap.size_push ..
  refine callType_new F.called_enumerate (by decide) (F.typeCall_enumerate_1 _) (F.newCall_enumerate_1 _) (fun obj => F.args_object_init_2 obj _) F.entry_enumerate_new (newEnumT l items n dct sl) ⟨hl, ?_⟩
  have he : IsEnum ((s.heap.push (tit l)).push (tne s.heap.objs.size)) (s.heap.objs.size + 1) s.heap.objs.size 0 .none := by
    have q := Heap.get?_push_size (s.heap.push (tit l)) (o := tne s.heap.objs.size) rfl
    rw [hz] at q
    exact q
  show _ ∧ _
  rw [hz]
  exact ⟨⟨_, he, rfl⟩, h _ he ⟨_, Heap.get?_push_of_some _ (Heap.get?_push_size _ rfl), rfl, rfl⟩ fun b o x => Heap.get?_push_of_some _ (Heap.get?_push_of_some _ x)⟩
/-- an iterator at its end gives nothing -/
theorem endDraws {prog : Program} {w : World} {A : Around} (hh : A.handled = none) (it t : Addr) (items : Array Value) (i : Nat) (hx : items[i]? = none) :
    Draws prog w A it [it, t] i (fun _ _ => True) (fun j h => j = i ∧ h.IsTupleIter it t j ∧ h.IsTuple t items) where
  live := fun _ _ st => let ⟨o, ho, _⟩ := st.2.1; ⟨o, ho⟩
  frame := fun _ _ _ st hk => ⟨st.1, st.2.1.at fun o e => hk it (by simp) o e, st.2.2.at fun o e => hk t (by simp) o e⟩
  item := fun j s Q E hj st _ => absurd st.1 (Nat.ne_of_lt hj)
  done := fun s Q E st hE => wpAny_nextOf_tuple_end hh st.2.1 st.2.2 hx hE
/-- the tuple at a, each item in a new pair -/
def Iet (K : PySem.W.Frag) (a : Addr) : It where
  go := fun i H => ∃ (xs : List V) (x : V), SqT K H a xs ∧ xs[i]? = some x
  yld := fun i H v H' => ∃ (T : Addr) (x : V) (o : Obj), v = .ref T ∧ H T = none ∧ o.dict = none ∧ H' = upd H T (.frz o (.tup [.int (i : Nat), x])) ∧ ∀ xs, SqT K H a xs → xs[i]? = some x
  stop := fun i H => ∃ xs : List V, SqT K H a xs ∧ xs.length ≤ i
theorem turnEnumT {P : Program} {w : World} {K : PySem.W.Frag} {elts : List Expr} {kk : Nat} {tpos : Pos} (a e it : Addr) :
    Turn P w K (.Tuple elts kk tpos) (Iet K a) [e, it] e (fun i h => (∃ old, IsEnum h e it ((i : Nat) : Int) old) ∧ h.IsTupleIter it a i ∧ e ≠ it) where
  mem := by simp
  obj := fun i h st b hb => by
    obtain ⟨⟨old, he⟩, ⟨o, ho, hc, hd⟩, _⟩ := st
    rcases (by simpa using hb : b = e ∨ b = it) with z | z
    · rw [z]; exact ⟨_, he, fun v q => nomatch q⟩
    · rw [z]; exact ⟨o, ho, fun v q => by rw [hd] at q; cases q⟩
  keep := fun i h h' st k => let ⟨⟨old, he⟩, hi, hne⟩ := st; ⟨⟨old, k e (by simp) _ he⟩, hi.at fun o q => k it (by simp) o q, hne⟩
  item := by
    intro X hP hw hK hc i pins s σ H E I hf st hg
    subst hP hw hK
    obtain ⟨⟨old, he⟩, hit, hne⟩ := st
    obtain ⟨xs, x, hq, hx⟩ := hg
    obtain ⟨its, rv, p, hz⟩ := I.tuple hq
    have hT : s.heap.IsTuple a its.toArray := p
    obtain ⟨oa, hoa, hca, _⟩ := id hT
    have hae : e ≠ a := by
      rintro rfl
      rw [he] at hoa
      cases hoa
      injection hca with q
      exact absurd q (by decide)
    have hai : a ≠ it := by
      rintro rfl
      obtain ⟨oi, hoi, hci, _⟩ := id hit
      rw [hoi] at hoa
      cases hoa
      rw [hca] at hci
      injection hci with q
      exact absurd q (by decide)
    have hlt : i < its.toArray.size := by
      have := (List.getElem?_eq_some_iff.mp hx).1
      rw [List.size_toArray, ← rv.length]; exact this
    have hel : e < s.heap.objs.size := Heap.lt_size he
    have hil : it < s.heap.objs.size := by obtain ⟨_, q, _⟩ := id hit; exact Heap.lt_size q
    refine wpAny_pyNext_enum_itemD (Draws.tuple (prog := X.prog) (w := X.w) (A := X.A.in1) (I.ok.hd hc) it a hai its.toArray) he ⟨hit, hT⟩ hlt hne (by simp; exact ⟨hne, hae⟩) fun u h' tk hu ho hst hnew hsz hk => ?_
    obtain ⟨v, hv, rv2⟩ := rv.get hx
    have euv : u = v := by
      have q : its[i]? = some u := by simpa using hu
      rw [hv] at q; exact (Option.some.inj q).symm
    subst euv
    refine ⟨_, rfl, wpAny_letOwnedTupleGo_enum (s := { s with heap := h', toks := tk + 1 }) ho fun h'' he' sb => ?_⟩
    have hT2 : h''.get? s.heap.objs.size = some { cls := .type "tuple", data := .seq #[.int i tk, u] } := (sb.2 _ (Nat.ne_of_gt hel)).trans hnew
    have new : ObjOk X.prog X.w (upd H s.heap.objs.size (.frz (nt #[.int i tk, u]) (.tup [.int (i : Nat), x]))) h'' s.heap.objs.size (.frz (nt #[.int i tk, u]) (.tup [.int (i : Nat), x])) :=
      okN (us := [.int i tk, u]) (by show 2 ≤ sizeLine; decide) (.cons ⟨_, rfl⟩ (.cons rv2 .nil)) hT2
    have I1 : Inv X pins σ (upd H s.heap.objs.size (.frz (nt #[.int i tk, u]) (.tup [.int (i : Nat), x]))) { s with heap := h'', toks := tk + 1 } :=
      I.turnedNew (ch := [e, it]) (fun b ob hb q => (sb.2 b (fun z => hb (by simp [z]))).trans (hk b ob (fun z => hb (by simp [z])) (fun z => hb (by simp [z])) q)) hf (Nat.le_refl _) new
    refine ⟨.ref s.heap.objs.size, _, I1, rfl, ⟨_, x, _, rfl, I.hok.fresh (Nat.le_refl _), rfl, rfl, fun ys hy => by rw [I.tuple_inj hy hq]; exact hx⟩, ⟨⟨u, ?_⟩, hst.1.at fun o q => (sb.2 it (Ne.symm hne)).trans q, hne⟩, fun b hb => ?_⟩
    · have e1 : ((i + 1 : Nat) : Int) = (i : Int) + 1 := by omega
      rw [e1]; exact he'
    · have hb' : b < s.heap.objs.size := by
        rcases (by simpa using hb : b = e ∨ b = it) with z | z
        · rw [z]; exact hel
        · rw [z]; exact hil
      rw [upd_ne (Nat.ne_of_lt hb')]
      exact (hf b hb).1
  done := by
    intro X hP hw hK hc i pins s σ H E I hf st hg
    subst hP hw hK
    obtain ⟨⟨old, he⟩, hit, hne⟩ := st
    obtain ⟨xs, hq, hx⟩ := hg
    obtain ⟨its, rv, p, hz⟩ := I.tuple hq
    have hT : s.heap.IsTuple a its.toArray := p
    obtain ⟨f0, f1, f2, f3, f4, f5⟩ := hf it (by simp)
    have hl := rv.length
    exact wpAny_pyNext_enum_endD (endDraws (A := X.A.in1) (prog := X.prog) (w := X.w) (I.ok.hd hc) it a its.toArray i (by simp; omega)) he ⟨rfl, hit, hT⟩ fun h' eb => ⟨rfl, I.turned (t' := s.toks) (fun b o hb q => eb b o hb q) f0 f1 f3 f4 f5⟩
  self := fun A i s Q E st h => let ⟨⟨_, he⟩, _⟩ := st; wpAny_pyIter_enum he h
def iEnumT (K : PySem.W.Frag) (ta : TA) : TI := fun σ H R => ta σ H fun vs H1 => ∃ a xs, vs = [.ref a] ∧ SqT K H1 a xs ∧ R (Iet K a) H1
theorem pi_enumT {X : Cx} {e : Expr} {ta : TA} {p pos tpos : Pos} {elts : List Expr} {kk : Nat} (hg : Gl X "enumerate") (hm : X.mg "enumerate" = none) (ha : PA X [e] ta) (hs : starEach [e] X.env = [(false, eval e X.env)] := by rfl) :
    PI X (.Tuple elts kk tpos) (.Call (.Name "enumerate" p) [e] [] pos) (iEnumT X.K ta) := by
  refine ⟨fun pins s σ H R I h => ?_⟩
  refine Call_ (ld_blt I hg hm boot_enumerate (PyProof.Rows.callWith_type1 (thn (ha.run pos pins s σ H _ I h) fun us s1 ⟨vs, H1, I1, r1, a, xs, ex, hq, q⟩ => ?_) hs rfl))
  subst ex
  cases r1 with
  | cons r rr =>
    cases rr
    cases r
    obtain ⟨its, rv, p', hz⟩ := I1.tuple hq
    refine callEnumT (show s1.heap.IsTuple a its.toArray from p') fun h' he hit hk => wpAny_pyIter_enum he ?_
    refine ⟨s1.heap.objs.size + 1, [s1.heap.objs.size + 1, s1.heap.objs.size], _, _, H1, rfl, I1.kept (t' := s1.toks) hk, turnEnumT a (s1.heap.objs.size + 1) s1.heap.objs.size, ⟨⟨.none, he⟩, hit, Nat.succ_ne_self _⟩, fun b hb => ?_, q⟩
    have hle : s1.heap.objs.size ≤ b := by
      rcases (by simpa using hb : b = s1.heap.objs.size + 1 ∨ b = s1.heap.objs.size) with z | z
      · rw [z]; exact Nat.le_add_right _ _
      · rw [z]; exact Nat.le_refl _
    exact I1.fpOk hle (I1.hok.fresh hle)
/-- (0, first), (1, second), .. -/
def enumD (ds : List PyData) : List PyData := ds.zipIdx.map fun p => .tuple [.int (p.2 : Nat), p.1]
theorem enumD_len (ds : List PyData) : (enumD ds).length = ds.length := by simp [enumD]
theorem enumD_get {ds : List PyData} {i : Nat} {d : PyData} (h : (enumD ds)[i]? = some d) : ∃ x, ds[i]? = some x ∧ d = .tuple [.int (i : Nat), x] := by
  unfold enumD at h
  rw [List.getElem?_map, List.getElem?_zipIdx] at h
  cases e : ds[i]? with
  | none => rw [e] at h; cases h
  | some x => rw [e] at h; simp at h; exact ⟨x, rfl, h.symm⟩
theorem enumD_at {ds : List PyData} {i : Nat} {x : PyData} (h : ds[i]? = some x) : (enumD ds)[i]? = some (.tuple [.int (i : Nat), x]) := by
  unfold enumD
  rw [List.getElem?_map, List.getElem?_zipIdx, h]; simp
theorem di_enumT {F : Fx} {te : TE} {δ : List WSlot} {es : List PyData} (h : DV F te δ (.tuple es)) : DI F (iEnumT F.K (tCons te tNil)) δ (is1 δ (enumD es)) := fun A H σ s R' q => h A H σ s _ fun v d δ' H1 ⟨e1, e2⟩ s1 x1 hd => by
  subst e1; subst e2
  obtain ⟨a, xs, rfl, h1, h2⟩ := dp_tup hd
  refine ⟨a, xs, rfl, sqt_ex hid_le h1, q _ (enumD es) _ H1 ⟨rfl, rfl⟩ s1 x1 ⟨fun i A2 H2 hi e => ?_, fun A2 H2 e => ⟨xs, sqt_ex (e.trans hid_le) h1, by rw [enumD_len]; exact Nat.le_of_eq h2.len⟩, fun i A2 H2 x H3 hi e l y => ?_⟩⟩
  · rw [enumD_len] at hi
    exact ⟨xs, xs[i]'(by rw [h2.len]; exact hi), sqt_ex (e.trans hid_le) h1, by simp [h2.len, hi]⟩
  · obtain ⟨T, z, o, rfl, hT, hod, rfl, y2⟩ := y
    obtain ⟨d, ed, hd⟩ := (dpa_ex e h2).getV (y2 xs (sqt_ex (e.trans hid_le) h1))
    exact ⟨WL.Ex.new hT, _, enumD_at ed, dt_new (l.out hT) hT hod (.cons (.int _) (.cons hd .nil))⟩
end WL
end
section
set_option Elab.async false
set_option linter.all false
set_option maxRecDepth 100000
/-! Dicts whose keys are data: ints, texts, None, tuples of such to depth 8. -/
namespace WL
open PySem PySem.Spec PyProof.Rows L2
/-! ### data as keys -/
mutual
def keyD : PyData → NestedKey
  | .int i => .num i
  | .str x => .text x
  | .tuple ds => .tup (keysD ds)
  | _ => .none
def keysD : List PyData → List NestedKey
  | [] => []
  | d :: ds => keyD d :: keysD ds
end
mutual
def keyOk : PyData → Bool
  | .int _ => true
  | .str _ => true
  | .none => true
  | .tuple ds => keysOk ds
  | _ => false
def keysOk : List PyData → Bool
  | [] => true
  | d :: ds => keyOk d && keysOk ds
end
mutual
theorem keyD_inj : ∀ (d e : PyData), keyOk d = true → keyOk e = true → keyD d = keyD e → d = e
  | .int i, e, _, he, h => by cases e <;> simp [keyD] at h <;> first | (rw [h]) | (simp [keyOk] at he)
  | .str x, e, _, he, h => by cases e <;> simp [keyD] at h <;> first | (rw [h]) | (simp [keyOk] at he)
  | .none, e, _, he, h => by cases e <;> simp [keyD] at h <;> first | rfl | (simp [keyOk] at he)
  | .tuple ds, e, hd, he, h => by
    cases e with
    | tuple es =>
      simp only [keyD, NestedKey.tup.injEq] at h
      rw [keysD_inj ds es (by simpa [keyOk] using hd) (by simpa [keyOk] using he) h]
    | _ => simp [keyD] at h
  | .bool _, _, hd, _, _ => by simp [keyOk] at hd
  | .list _, _, hd, _, _ => by simp [keyOk] at hd
  | .dict _, _, hd, _, _ => by simp [keyOk] at hd
theorem keysD_inj : ∀ (ds es : List PyData), keysOk ds = true → keysOk es = true → keysD ds = keysD es → ds = es
  | [], es, _, _, h => by cases es with | nil => rfl | cons e es => simp [keysD] at h
  | d :: ds, es, hd, he, h => by
    cases es with
    | nil => simp [keysD] at h
    | cons e es =>
      simp only [keysD, List.cons.injEq] at h
      simp only [keysOk, Bool.and_eq_true] at hd he
      rw [keyD_inj d e hd.1 he.1 h.1, keysD_inj ds es hd.2 he.2 h.2]
end
/-- d may be a key -/
def KeyOk (d : PyData) : Bool := keyOk d && decide ((keyD d).depth ≤ 8)
theorem KeyOk.ok {d : PyData} (h : KeyOk d = true) : keyOk d = true := (Bool.and_eq_true_iff.mp h).1
theorem KeyOk.deep {d : PyData} (h : KeyOk d = true) : (keyD d).depth ≤ 8 := of_decide_eq_true (Bool.and_eq_true_iff.mp h).2
theorem KeyOk.inj {d e : PyData} (h : KeyOk d = true) (k : KeyOk e = true) (q : keyD d = keyD e) : d = e := keyD_inj d e (KeyOk.ok h) (KeyOk.ok k) q
section
variable {X : Cx} {pins : List (Addr × Obj)} {σ : L2.St} {H : Hp} {s : Shared}
mutual
theorem nested_is (I : Inv X pins σ H s) : ∀ (d : PyData) (v : V) (u : Value), keyOk d = true → Dt X.K H v d → RelV v u → NestedIs s.heap (keyD d) u
  | .int i, v, u, _, h, r => by rw [dp_int h] at r; obtain ⟨t, rfl⟩ := r; exact .int i t
  | .str x, v, u, _, h, r => by rw [dp_str h] at r; obtain ⟨t, rfl⟩ := r; exact .text x t
  | .none, v, u, _, h, r => by rw [dp_non h] at r; cases r; exact .none
  | .tuple ds, v, u, k, h, r => by
    obtain ⟨a, xs, rfl, h1, h2⟩ := dp_tup h
    cases r
    obtain ⟨its, rv, ⟨o, ho, hc, n, hd⟩, _⟩ := I.tuple h1
    exact .tup ho hc hd (nested_all I ds xs its (by simpa [keyOk] using k) h2 rv)
  | .bool _, _, _, k, _, _ => by simp [keyOk] at k
  | .list _, _, _, k, _, _ => by simp [keyOk] at k
  | .dict _, _, _, k, _, _ => by simp [keyOk] at k
theorem nested_all (I : Inv X pins σ H s) : ∀ (ds : List PyData) (vs : List V) (us : List Value), keysOk ds = true → DtAll X.K H vs ds → Vals vs us → NestedAll s.heap (keysD ds) us
  | [], _, _, _, h, r => by cases h; cases r; exact .nil
  | d :: ds, _, _, k, h, r => by
    simp only [keysOk, Bool.and_eq_true] at k
    cases h with
    | cons h1 h2 => cases r with
      | cons r1 r2 => exact .cons (nested_is I d _ _ k.1 h1 r1) (nested_all I ds _ _ k.2 h2 r2)
end
end
/-! ### the dict as it stands -/
abbrev DEnt := PyData × Addr × V
def KRel (e : DEnt) (x : NestedKey × Addr × Value) : Prop := keyD e.1 = x.1 ∧ e.2.1 = x.2.1 ∧ RelV e.2.2 x.2.2
def dkEnt (w : World) (x : NestedKey × Addr × Value) : DictEntry := ⟨x.1.hash w, .ref x.2.1, x.2.2⟩
/-- the dict at a with the entries es (key, the key's tuple, value) -/
def DkO (w : World) (a : Addr) (es : List DEnt) : HO := .ext fun h => (a == sysModules) = false ∧ es.length ≤ sizeLine ∧ (es.map fun e => keyD e.1).Nodup ∧
  ∃ xs, Paired KRel es xs ∧ ∃ o ea ep, h.get? a = some o ∧ o.ExactDict ∧ o.data = .dict ea ep ∧ ea.toList = xs.map (dkEnt w)
/-- the keys are what they are said to be -/
def KeysAt (K : PySem.W.Frag) (H : Hp) (es : List DEnt) : Prop := ∀ e ∈ es, KeyOk e.1 = true ∧ Dt K H (.ref e.2.1) e.1
theorem KeysAt.ex {K : PySem.W.Frag} {H H' : Hp} {es : List DEnt} (x : Ex H H') (h : KeysAt K H es) : KeysAt K H' es := fun e he => ⟨(h e he).1, dp_ex x (h e he).2⟩
theorem keys_eq {es : List DEnt} {xs : List (NestedKey × Addr × Value)} (h : Paired KRel es xs) : xs.map (·.1) = es.map fun e => keyD e.1 := by
  induction h with
  | nil => rfl
  | cons r _ ih => rw [List.map_cons, List.map_cons, ih, r.1]
section
variable {X : Cx} {pins : List (Addr × Obj)} {σ : L2.St} {H : Hp} {s : Shared} {a : Addr} {es : List DEnt}
theorem dk_is (I : Inv X pins σ H s) (h : ObjOk X.prog X.w H s.heap a (DkO X.w a es)) (hk : KeysAt X.K H es) : (a == sysModules) = false ∧ es.length ≤ sizeLine ∧ ∃ xs, Paired KRel es xs ∧ s.heap.DictOfH (nestedKind X.prog X.w) a xs := by
  obtain ⟨⟨h1, h2, h3, xs, h4, o, ea, ep, ho, hc, hd, he⟩, _, _⟩ := h
  refine ⟨h1, h2, xs, h4, o, ea, ep, ho, hc, hd, he, fun x hx => ?_, by rw [keys_eq h4]; exact h3⟩
  obtain ⟨i, hi, e⟩ := List.getElem_of_mem hx
  have hl : es.length = xs.length := Paired.length h4
  have key : ∀ {es : List DEnt} {xs : List (NestedKey × Addr × Value)}, Paired KRel es xs → ∀ x ∈ xs, ∃ e ∈ es, KRel e x := by
    intro es xs h
    induction h with
    | nil => intro x hx; cases hx
    | cons r _ ih =>
      intro x hx
      rcases List.mem_cons.mp hx with e | hx
      · subst e; exact ⟨_, List.mem_cons_self, r⟩
      · obtain ⟨e, he, q⟩ := ih x hx
        exact ⟨e, List.mem_cons_of_mem _ he, q⟩
  obtain ⟨e, he2, q1, q2, _⟩ := key h4 x hx
  obtain ⟨k1, k2⟩ := hk e he2
  exact ⟨by rw [← q1, ← q2]; exact nested_is I e.1 _ _ (KeyOk.ok k1) k2 rfl, by rw [← q1]; exact (KeyOk.deep k1)⟩
theorem dk_key (I : Inv X pins σ H s) {d : PyData} {b : Addr} (k : KeyOk d = true) (h : Dt X.K H (.ref b) d) : (nestedKind X.prog X.w).is s.heap (keyD d) b := ⟨nested_is I d _ _ (KeyOk.ok k) h rfl, KeyOk.deep k⟩
/-- what stands at the key k -/
def dkAt (es : List DEnt) (k : NestedKey) : Option V := (es.find? fun e => decide (keyD e.1 = k)).map (·.2.2)
theorem dk_at {xs : List (NestedKey × Addr × Value)} {k : NestedKey} (h : Paired KRel es xs) : RelO (dkAt es k) ((atKey xs k).map (·.2)) := by
  unfold dkAt atKey
  induction h with
  | nil => exact True.intro
  | @cons e x es xs r _ ih =>
    rw [List.find?_cons, List.find?_cons, ← r.1]
    cases decide (keyD e.1 = k) with
    | true => exact r.2.2
    | false => exact ih
/-- behind a[d] = v, b the key's tuple -/
def dkPut (es : List DEnt) (d : PyData) (b : Addr) (v : V) : List DEnt := if (dkAt es (keyD d)).isSome then es.map (fun e => if keyD e.1 = keyD d then (e.1, e.2.1, v) else e) else es ++ [(d, b, v)]
theorem dkPut_len (es : List DEnt) (d : PyData) (b : Addr) (v : V) : (dkPut es d b v).length ≤ es.length + 1 := by
  unfold dkPut; split
  · rw [List.length_map]; omega
  · rw [List.length_append]; exact Nat.le_refl _
theorem dkPut_keys {K : PySem.W.Frag} {H : Hp} {es : List DEnt} {d : PyData} {b : Addr} {v : V} (h : KeysAt K H es) (hd : KeyOk d = true) (hb : Dt K H (.ref b) d) : KeysAt K H (dkPut es d b v) := by
  unfold dkPut; split
  · intro e he
    obtain ⟨e0, h0, rfl⟩ := List.mem_map.mp he
    split
    · exact h e0 h0
    · exact h e0 h0
  · intro e he
    rcases List.mem_append.mp he with z | z
    · exact h e z
    · rw [List.mem_singleton.mp z]; exact ⟨hd, hb⟩
theorem dk_put {xs : List (NestedKey × Addr × Value)} {d : PyData} {b : Addr} {v : V} {u : Value} (h : Paired KRel es xs) (r : RelV v u) : Paired KRel (dkPut es d b v) (storedH xs (keyD d) b u) := by
  have hs : (dkAt es (keyD d)).isSome = (atKey xs (keyD d)).isSome := by
    have := (dk_at (k := keyD d) h).isSome_eq
    rw [Option.isSome_map] at this
    exact this
  unfold dkPut storedH
  rw [hs]
  split
  · rename_i hz
    clear hz hs
    induction h with
    | nil => exact .nil
    | @cons e x es xs q _ ih =>
      rw [List.map_cons, List.map_cons]
      refine .cons ?_ ih
      unfold putAt
      rw [q.1]
      split
      · exact ⟨q.1, q.2.1, r⟩
      · exact q
  · rename_i hz
    clear hz hs
    induction h with
    | nil => exact .cons ⟨rfl, rfl, r⟩ .nil
    | cons q _ ih => exact .cons q ih
/-- the dict laid -/
theorem dk_obj {P : Program} {w : World} {H' : Hp} {h' : Heap} {xs : List (NestedKey × Addr × Value)} (h1 : (a == sysModules) = false) (h2 : es.length ≤ sizeLine) (h4 : Paired KRel es xs) (dd : h'.DictOfH (nestedKind P w) a xs) : ObjOk P w H' h' a (DkO w a es) := by
  obtain ⟨o, ea, ep, ho, hc, hd, he, _, hn⟩ := dd
  refine ⟨⟨h1, h2, by rw [← keys_eq h4]; exact hn, xs, h4, o, ea, ep, ho, hc, hd, he⟩, ⟨o, ho⟩, fun k1 k2 ⟨g1, g2, g3, ys, g4, o', ea', ep', go, gr⟩ hk => ⟨g1, g2, g3, ys, g4, o', ea', ep', hk _ go, gr⟩⟩
theorem dk_nil {P : Program} {w : World} {H : Hp} (h : Heap) (hb : sysModules < h.objs.size) : ObjOk P w H (h.push { cls := .type "dict", data := .dict #[] }) h.objs.size (DkO w h.objs.size []) :=
  dk_obj (beq_eq_false_iff_ne.mpr (Ne.symm (Nat.ne_of_lt hb))) (Nat.zero_le _) .nil (Heap.DictOfH.new h)
end
/-! ### readings and rules -/
section
variable {X : Cx} {pins : List (Addr × Obj)} {σ : L2.St} {H : Hp} {s : Shared} {a b : Addr} {es : List DEnt} {d : PyData} {v : V} {A : Around} {E : Value → Shared → Prop}
theorem dkr_get {Q : Value → Shared → Prop} (hu : A.units + 9 < cLine) (I : Inv X pins σ H s) (e : Rd H a (DkO X.w a es)) (hk : KeysAt X.K H es) (k : KeyOk d = true) (hb : Dt X.K H (.ref b) d) (hv : dkAt es (keyD d) = some v) (h : ∀ w' s', Inv X pins σ H s' → RelV v w' → Q w' s') :
    wpAny (model X.prog X.w) A (getItem (.ref a) (.ref b)) Q E s := by
  obtain ⟨_, _, xs, rel, dd⟩ := dk_is I (e.ok I.hok) hk
  obtain ⟨w', hw, rw'⟩ := RelO.some_of (v := v) (o := (atKey xs (keyD d)).map (·.2)) (by rw [← hv]; exact dk_at rel)
  obtain ⟨p, hp, hp2⟩ := Option.map_eq_some_iff.mp hw
  refine wpAny_getItem_heap (knd := nestedKind X.prog X.w) (by show A.units + 1 + 8 < cLine; omega) (dk_key I k hb) dd hp ?_
  rw [hp2]
  exact h w' _ (I.tok _) rw'
theorem dkr_in {Q : Value → Shared → Prop} (hu : A.units + 9 < cLine) (I : Inv X pins σ H s) (e : Rd H a (DkO X.w a es)) (hk : KeysAt X.K H es) (k : KeyOk d = true) (hb : Dt X.K H (.ref b) d) (h : ∀ s', Inv X pins σ H s' → Q (.bool (dkAt es (keyD d)).isSome) s') :
    wpAny (model X.prog X.w) A (compareOp .In (.ref b) (.ref a)) Q E s := by
  obtain ⟨h1, _, xs, rel, dd⟩ := dk_is I (e.ok I.hok) hk
  refine wpAny_in_heap (knd := nestedKind X.prog X.w) (by show A.units + 1 + 8 < cLine; omega) (dk_key I k hb) h1 dd ?_
  have q := (dk_at (k := keyD d) rel).isSome_eq
  rw [Option.isSome_map] at q
  rw [← q]
  exact h _ (I.tok _)
theorem dkr_notIn {Q : Value → Shared → Prop} (hu : A.units + 9 < cLine) (I : Inv X pins σ H s) (e : Rd H a (DkO X.w a es)) (hk : KeysAt X.K H es) (k : KeyOk d = true) (hb : Dt X.K H (.ref b) d) (h : ∀ s', Inv X pins σ H s' → Q (.bool (!(dkAt es (keyD d)).isSome)) s') :
    wpAny (model X.prog X.w) A (compareOp .NotIn (.ref b) (.ref a)) Q E s := by
  obtain ⟨h1, _, xs, rel, dd⟩ := dk_is I (e.ok I.hok) hk
  refine wpAny_notIn_heap (knd := nestedKind X.prog X.w) (by show A.units + 1 + 8 < cLine; omega) (dk_key I k hb) h1 dd ?_
  have q := (dk_at (k := keyD d) rel).isSome_eq
  rw [Option.isSome_map] at q
  rw [← q]
  exact h _ (I.tok _)
theorem dkr_set {r : Value} {Q : Unit → Shared → Prop} (hu : A.units + 9 < cLine) (I : Inv X pins σ H s) (e : H a = some (DkO X.w a es)) (hk : KeysAt X.K H es) (k : KeyOk d = true) (hb : Dt X.K H (.ref b) d) (rv : RelV v r) (hl : es.length < sizeLine)
    (h : ∀ s', Inv X pins σ (upd H a (DkO X.w a (dkPut es d b v))) s' → Q () s') : wpAny (model X.prog X.w) A (setItem (.ref a) (.ref b) r) Q E s := by
  obtain ⟨h1, h2, xs, rel, dd⟩ := dk_is I (I.hok a _ e) hk
  have hz : xs.length ≤ sizeLine := by rw [← Paired.length rel]; exact h2
  refine wpAny_setItem_heap (knd := nestedKind X.prog X.w) (hsz := hz) (by show A.units + 1 + 8 < cLine; omega) (dk_key I k hb) dd fun h' dd' hs => h _ ?_
  have he : ∃ q, h'.get? a = some q := let ⟨q, _, _, hq, _⟩ := dd'; ⟨q, hq⟩
  exact d_write I (by rw [e]; exact True.intro) hs he (dk_obj h1 (Nat.le_trans (dkPut_len es d b v) hl) (dk_put rel rv) dd')
end
/-- {}, to be a dict of data -/
def tDkNew (w : World) : TE := fun _ H Q => ∀ p, H p = none → Q (.ref p) (upd H p (DkO w p []))
theorem pe_dknew {X : Cx} {pos : Pos} : PE X (.Dict [] [] pos) (tDkNew X.w) := ⟨fun pins s σ H Q I h =>
  wpAny_Dict_empty ⟨.ref s.heap.objs.size, _, I.laid (a := s.heap.objs.size) (o := DkO X.w s.heap.objs.size []) (t' := s.toks) (fun _ _ q => Heap.get?_push_of_some _ q) (Nat.le_refl _) (dk_nil s.heap I.big), rfl, h _ (I.hok.fresh (Nat.le_refl _))⟩⟩
/-- d[y]; y in d; y not in d -/
def rDkGet (K : PySem.W.Frag) (w : World) : R2 := fun x y H Q => ∃ a b es d v, x = .ref a ∧ y = .ref b ∧ Rd H a (DkO w a es) ∧ KeysAt K H es ∧ KeyOk d = true ∧ Dt K H (.ref b) d ∧ dkAt es (keyD d) = some v ∧ Q v H
def rDkIn (K : PySem.W.Frag) (w : World) : R2 := fun y x H Q => ∃ a b es d, x = .ref a ∧ y = .ref b ∧ Rd H a (DkO w a es) ∧ KeysAt K H es ∧ KeyOk d = true ∧ Dt K H (.ref b) d ∧ Q (.bl (dkAt es (keyD d)).isSome) H
def rDkNotIn (K : PySem.W.Frag) (w : World) : R2 := fun y x H Q => ∃ a b es d, x = .ref a ∧ y = .ref b ∧ Rd H a (DkO w a es) ∧ KeysAt K H es ∧ KeyOk d = true ∧ Dt K H (.ref b) d ∧ Q (.bl (!(dkAt es (keyD d)).isSome)) H
def rDkSet (K : PySem.W.Frag) (w : World) : TSet := fun o i v H Q => ∃ a b es d, o = .ref a ∧ i = .ref b ∧ H a = some (DkO w a es) ∧ KeysAt K H es ∧ KeyOk d = true ∧ Dt K H (.ref b) d ∧ es.length < sizeLine ∧ Q (upd H a (DkO w a (dkPut es d b v)))
section
variable {X : Cx}
theorem op_dkIn (hu : X.A.units + 9 < cLine) : OpR X (compareOp .In) (rDkIn X.K X.w) := by
  intro pins s σ H x y v u Q I rx ry h
  obtain ⟨a, b, es, d, rfl, rfl, e, hk, k, hb, q⟩ := h
  cases rx; cases ry
  exact dkr_in hu I e hk k hb fun s' I' => ⟨.bl _, H, I', rfl, q⟩
theorem op_dkNotIn (hu : X.A.units + 9 < cLine) : OpR X (compareOp .NotIn) (rDkNotIn X.K X.w) := by
  intro pins s σ H x y v u Q I rx ry h
  obtain ⟨a, b, es, d, rfl, rfl, e, hk, k, hb, q⟩ := h
  cases rx; cases ry
  exact dkr_notIn hu I e hk k hb fun s' I' => ⟨.bl _, H, I', rfl, q⟩
theorem set_dk (hu : X.A.units + 9 < cLine) : PSet X (rDkSet X.K X.w) := by
  intro pins s σ H o i v ov iv u Q I ro ri rv h
  obtain ⟨a, b, es, d, rfl, rfl, e, hk, k, hb, hl, q⟩ := h
  cases ro; cases ri
  exact dkr_set hu I e hk k hb rv hl fun s' I' => ⟨_, I', q⟩
theorem dk_typeIs {pins : List (Addr × Obj)} {σ : L2.St} {H : Hp} {s : Shared} {a : Addr} {es : List DEnt} (I : Inv X pins σ H s) (e : Rd H a (DkO X.w a es)) : s.TypeIs (.ref a) "dict" ∧ ∀ b, Value.ref a = .ref b → ∃ ob, s.heap.get? b = some ob ∧ ob.dict = none := by
  obtain ⟨⟨_, _, _, xs, _, o, ea, ep, ho, hc, hd, _⟩, _, _⟩ := (show ObjOk X.prog X.w H s.heap a (DkO X.w a es) from e.ok I.hok)
  exact ⟨⟨o, ho, hc.1⟩, fun b q => by cases q; exact ⟨o, ho, hc.2.1⟩⟩
theorem pe_dkget {o i : Expr} {pos : Pos} {td ty : TE} (hu : X.A.units + 9 < cLine) (ho : PE X o td) (hi : PE X i ty) (hs : NoSl i) : PE X (.Subscript o i pos) (tOp (rDkGet X.K X.w) td ty) := by
  refine ⟨fun pins s σ H Q I h => ?_⟩
  refine subD_of PySem.F.slot_dict_getitem.lookup hs (thn (ho.run pins s σ H _ I h) fun u s1 ⟨x, H1, I1, rx, q1⟩ => thn (hi.run pins s1 σ H1 _ I1 q1) fun iv s2 ⟨y, H2, I2, ry, a, b, es, d, v, ex, ey, e, hk, k, hb, hv, q2⟩ => ?_)
  subst ex; subst ey
  obtain rfl : u = Value.ref a := rx
  obtain rfl : iv = Value.ref b := ry
  exact ⟨(dk_typeIs I2 e).1, dkr_get hu I2 e hk k hb hv fun w' s3 I3 rw' => ⟨v, H2, I3, rw', q2⟩⟩
end
end WL
end
section
set_option Elab.async false
set_option linter.all false
set_option maxRecDepth 100000
/-! Walks over a locked dict whose keys are data. -/
namespace WL
open PySem PySem.Spec PyProof.Rows L2
section
variable {X : Cx} {pins : List (Addr × Obj)} {σ : L2.St} {H : Hp} {s : Shared} {d : Addr} {o : Obj} {es : List DEnt}
theorem frzD (I : Inv X pins σ H s) (h : H d = some (.frz o (DkO X.w d es))) :
    (d == sysModules) = false ∧ s.heap.get? d = some o ∧ o.ExactDict ∧ ∃ (ea : Array DictEntry) (ep : Nat), o.data = .dict ea ep ∧ ea.size = es.length ∧ s.heap.DictRaw d ea ep ∧
      ∀ (i : Nat) (e : DEnt), es[i]? = some e → ∃ en : DictEntry, ea[i]? = some en ∧ en.key = .ref e.2.1 ∧ RelV e.2.2 en.val := by
  obtain ⟨hd, ⟨hs, z, _, xs, pr, o', ea, ep, ho, hx, hdt, he⟩, _, _⟩ := I.hok d _ h
  rw [hd] at ho
  cases ho
  have l1 : ea.size = xs.length := by
    have := congrArg List.length he
    rw [List.length_map, Array.length_toList] at this
    exact this
  have l2 : es.length = xs.length := Paired.length pr
  refine ⟨hs, hd, hx, ea, ep, hdt, by omega, ⟨o, hd, hx, hdt⟩, fun i e hi => ?_⟩
  have key : ∀ {es : List DEnt} {xs : List (NestedKey × Addr × Value)} (i : Nat) (e : DEnt), Paired KRel es xs → es[i]? = some e → ∃ x, xs[i]? = some x ∧ KRel e x := by
    intro es xs i e h
    induction h generalizing i with
    | nil => intro q; simp at q
    | cons r _ ih =>
      intro q
      cases i with
      | zero => simp at q; subst q; exact ⟨_, rfl, r⟩
      | succ i =>
        obtain ⟨x, h1, h2⟩ := ih i (by simpa using q)
        exact ⟨x, by simpa using h1, h2⟩
  obtain ⟨x, hx2, q1, q2, q3⟩ := key i e pr hi
  refine ⟨dkEnt X.w x, ?_, by rw [q2]; rfl, q3⟩
  rw [← Array.getElem?_toList, he, List.getElem?_map, hx2]; rfl
end
/-- the values of the locked dict at d -/
def Idv (w : World) (d : Addr) (o : Obj) (es : List DEnt) : It :=
  ⟨fun i H => H d = some (.frz o (DkO w d es)) ∧ i < es.length, fun i H x H' => H' = H ∧ ∃ e : DEnt, es[i]? = some e ∧ x = e.2.2, fun i H => H d = some (.frz o (DkO w d es)) ∧ es.length ≤ i⟩
/-- the pairs, each a new tuple -/
def Idi (w : World) (d : Addr) (o : Obj) (es : List DEnt) : It :=
  ⟨fun i H => H d = some (.frz o (DkO w d es)) ∧ i < es.length, fun i H x H' => ∃ (T : Addr) (e : DEnt) (ot : Obj), es[i]? = some e ∧ x = .ref T ∧ H T = none ∧ ot.dict = none ∧ H' = upd H T (.frz ot (.tup [.ref e.2.1, e.2.2])), fun i H => H d = some (.frz o (DkO w d es)) ∧ es.length ≤ i⟩
section
variable {P : Program} {w : World} {K : PySem.W.Frag} {tg : Expr} {d : Addr} {o : Obj} {es : List DEnt} {ep : Nat}
theorem turn_dkv (it : Addr) (hod : ∃ ea, o.data = .dict ea ep) : Turn P w K tg (Idv w d o es) [it] it (fun i h => h.IsValIter it d i es.length ep) where
  mem := by simp
  obj := fun i h st b hb => by
    have e : b = it := by simpa using hb
    subst e
    obtain ⟨oi, e, c, dd⟩ := st
    exact ⟨oi, e, fun v z => by rw [dd] at z; cases z⟩
  keep := fun i h h' st k => st.at fun oi e => k it (by simp) oi e
  item := by
    intro X hP hw hK hc i pins s σ H E I hf st hg
    subst hP hw hK
    obtain ⟨hd, hi⟩ := hg
    obtain ⟨f0, f1, f2, f3, f4, f5⟩ := hf it (by simp)
    obtain ⟨hs, hgd, hx, ea, ep', hdt, hsz, hm, ent⟩ := frzD I hd
    obtain ⟨ea', hod⟩ := hod
    obtain ⟨rfl, rfl⟩ := dict_ep hod hdt
    obtain ⟨e, he⟩ : ∃ e, es[i]? = some e := ⟨es[i], List.getElem?_eq_getElem hi⟩
    obtain ⟨en, hen, _, hv⟩ := ent i e he
    rw [← hsz] at st
    refine wpAny_pyNext_values_item_raw st hm (by rw [hsz]; exact hi) fun h' st' sb => ?_
    have I1 : Inv X pins σ H { s with heap := h' } := I.turned (t' := s.toks) (fun b ob hb e => (sb.2 b hb).trans e) f0 f1 f3 f4 f5
    obtain ⟨oi, e2, c, dd⟩ := id st'
    obtain ⟨hi2, hen2⟩ := Array.getElem?_eq_some_iff.mp hen
    refine ⟨_, rfl, go_of (s := { s with heap := h' }) e2 c dd (by decide) ⟨e.2.2, H, I1, by rw [hen2]; exact hv, ⟨rfl, e, he, rfl⟩, ?_, fun b hb => (hf b hb).1⟩⟩
    show h'.IsValIter it d (i + 1) es.length _
    rw [← hsz]; exact st'
  done := by
    intro X hP hw hK hc i pins s σ H E I hf st hg
    subst hP hw hK
    obtain ⟨hd, hi⟩ := hg
    obtain ⟨f0, f1, f2, f3, f4, f5⟩ := hf it (by simp)
    obtain ⟨hs, hgd, hx, ea, ep', hdt, hsz, hm, ent⟩ := frzD I hd
    obtain ⟨ea', hod⟩ := hod
    obtain ⟨rfl, rfl⟩ := dict_ep hod hdt
    rw [← hsz] at st
    exact wpAny_pyNext_values_end_raw (I.ok.hd hc) st hm (by rw [hsz]; exact hi) fun h' eb => ⟨rfl, I.turned (t' := s.toks) (fun b ob hb e => eb b ob hb e) f0 f1 f3 f4 f5⟩
  self := fun A i s Q E st h => wpAny_pyIter_valiter st h
theorem turn_dki {elts : List Expr} {kk : Nat} {tpos : Pos} (it : Addr) (hod : ∃ ea, o.data = .dict ea ep) :
    Turn P w K (.Tuple elts kk tpos) (Idi w d o es) [it] it (fun i h => ∃ ok ov, IsItemIter h it d i es.length ep ok ov) where
  mem := by simp
  obj := fun i h st b hb => by
    have e : b = it := by simpa using hb
    subst e
    obtain ⟨ok, ov, e⟩ := st
    exact ⟨_, e, fun v z => nomatch z⟩
  keep := fun i h h' st k => let ⟨ok, ov, e⟩ := st; ⟨ok, ov, k it (by simp) _ e⟩
  item := by
    intro X hP hw hK hc i pins s σ H E I hf st hg
    subst hP hw hK
    obtain ⟨hd, hi⟩ := hg
    obtain ⟨hs, hgd, hx, ea, ep', hdt, hsz, hm, ent⟩ := frzD I hd
    obtain ⟨ea', hod⟩ := hod
    obtain ⟨rfl, rfl⟩ := dict_ep hod hdt
    obtain ⟨e, he⟩ : ∃ e, es[i]? = some e := ⟨es[i], List.getElem?_eq_getElem hi⟩
    obtain ⟨en, hen, hkey, hv⟩ := ent i e he
    obtain ⟨hi2, hen2⟩ := Array.getElem?_eq_some_iff.mp hen
    obtain ⟨ok, ov, hit⟩ := st
    rw [← hsz] at hit
    have hlt : it < s.heap.objs.size := Heap.lt_size hit
    refine wpAny_pyNext_items_item_raw hit hm hi2 fun h' ho hT hz hk => ?_
    refine ⟨_, rfl, wpAny_letOwnedTupleGo_items (s := { s with heap := h' }) ho fun h'' he' sb => ?_⟩
    have hT2 : h''.get? s.heap.objs.size = some { cls := .type "tuple", data := .seq #[.ref e.2.1, en.val] } := by
      have := (sb.2 _ (Nat.ne_of_gt hlt)).trans hT
      rw [hen2, hkey] at this; exact this
    have new : ObjOk X.prog X.w (upd H s.heap.objs.size (.frz (nt #[.ref e.2.1, en.val]) (.tup [.ref e.2.1, e.2.2]))) h'' s.heap.objs.size (.frz (nt #[.ref e.2.1, en.val]) (.tup [.ref e.2.1, e.2.2])) :=
      okN (us := [.ref e.2.1, en.val]) (by show 2 ≤ sizeLine; decide) (.cons rfl (.cons hv .nil)) hT2
    have I1 : Inv X pins σ (upd H s.heap.objs.size (.frz (nt #[.ref e.2.1, en.val]) (.tup [.ref e.2.1, e.2.2]))) { s with heap := h'' } :=
      I.turnedNew (t' := s.toks) (ch := [it]) (fun b ob hb q => (sb.2 b (by simpa using hb)).trans (hk b ob (by simpa using hb) q)) hf (Nat.le_refl _) new
    refine ⟨.ref s.heap.objs.size, _, I1, rfl, ⟨_, e, _, he, rfl, I.hok.fresh (Nat.le_refl _), rfl, rfl⟩, ⟨_, _, by rw [← hsz]; exact he'⟩, fun b hb => ?_⟩
    have q : b = it := by simpa using hb
    rw [q, upd_ne (Nat.ne_of_lt hlt)]
    exact (hf it (by simp)).1
  done := by
    intro X hP hw hK hc i pins s σ H E I hf st hg
    subst hP hw hK
    obtain ⟨hd, hi⟩ := hg
    obtain ⟨f0, f1, f2, f3, f4, f5⟩ := hf it (by simp)
    obtain ⟨hs, hgd, hx, ea, ep', hdt, hsz, hm, ent⟩ := frzD I hd
    obtain ⟨ea', hod⟩ := hod
    obtain ⟨rfl, rfl⟩ := dict_ep hod hdt
    obtain ⟨ok, ov, hit⟩ := st
    rw [← hsz] at hit
    exact wpAny_pyNext_items_end_raw (I.ok.hd hc) hit hm (by rw [hsz]; exact hi) fun h' eb => ⟨rfl, I.turned (t' := s.toks) (fun b ob hb e => eb b ob hb e) f0 f1 f3 f4 f5⟩
  self := fun A i s Q E st h => let ⟨_, _, e⟩ := st; wpAny_pyIter_itemiter e h
end
/-- d.items(), d.values() of a locked dict -/
def iDkI (w : World) (td : TE) : TI := fun σ H R => td σ H fun x H1 => ∃ d o es, x = .ref d ∧ H1 d = some (.frz o (DkO w d es)) ∧ R (Idi w d o es) H1
def iDkV (w : World) (td : TE) : TI := fun σ H R => td σ H fun x H1 => ∃ d o es, x = .ref d ∧ H1 d = some (.frz o (DkO w d es)) ∧ R (Idv w d o es) H1
section
variable {X : Cx} {tg e : Expr} {td : TE} {apos cpos : Pos}
theorem pi_dkV (he : PE X e td) (hbase : attributeBase e "values" X.env (eval e X.env) = eval e X.env := by rfl) (hline : (apos.endLine == cpos.line) = true := by rfl) : PI X tg (.Call (.Attribute e "values" apos) [] [] cpos) (iDkV X.w td) := by
  refine ⟨fun pins s σ H R I h => ?_⟩
  refine wpAny_Call_method (T := "dict") (id := "dict.values") hbase rfl hline F.plainAttrs_dict F.slot_dict_values F.type_dict_values (thn (he.run pins s σ H _ I h) fun u s1 ⟨x, H1, I1, rx, d, o, es, ex, hd, q⟩ => ?_)
  subst ex
  obtain rfl : u = Value.ref d := rx
  obtain ⟨hs, hgd, hx, ea, ep, hdt, hsz, hm, _⟩ := frzD I1 hd
  refine ⟨hm.typeIs, fun b q => by cases q; exact ⟨o, hgd, hx.2.1⟩, ?_⟩
  have I2 : Inv X pins σ H1 { s1 with heap := s1.heap.push { cls := .type "dict_values", data := .fields #[.ref d] } } := I1.kept (t' := s1.toks) fun b ob q => Heap.get?_push_of_some _ q
  have fin : wpAny (model X.prog X.w) X.A (pyIter (.ref s1.heap.objs.size)) (PIE X pins σ tg R) X.xe { s1 with heap := s1.heap.push { cls := .type "dict_values", data := .fields #[.ref d] } } := by
    refine wpAny_pyIter_values_raw (d := d) ⟨_, Heap.get?_push_size _ rfl, rfl, rfl⟩ (hm.at fun ob z => Heap.get?_push_of_some _ z) (pi_one (tk := s1.toks) I2 _ (turn_dkv _ ⟨_, hdt⟩) ⟨_, Heap.get?_push_size _ rfl, rfl, ?_⟩ q)
    rw [hsz] <;> rfl
  show wpAny _ _ (callWith cpos (.builtin "dict.values") [.ref d] [] []) _ X.xe s1
  exact method_meetsIn F.slot_dict_values F.entry_dict_values rfl (PySem.evalArgs_none ⟨rfl, hm.typeIs, F.args_dict_values_1 _, _, meets_dict_values_raw d hs, ⟨_, _, hm⟩, fin⟩)
theorem pi_dkI {elts : List Expr} {kk : Nat} {tpos : Pos} (he : PE X e td) (hbase : attributeBase e "items" X.env (eval e X.env) = eval e X.env := by rfl) (hline : (apos.endLine == cpos.line) = true := by rfl) :
    PI X (.Tuple elts kk tpos) (.Call (.Attribute e "items" apos) [] [] cpos) (iDkI X.w td) := by
  refine ⟨fun pins s σ H R I h => ?_⟩
  refine wpAny_Call_method (T := "dict") (id := "dict.items") hbase rfl hline F.plainAttrs_dict F.slot_dict_items F.type_dict_items (thn (he.run pins s σ H _ I h) fun u s1 ⟨x, H1, I1, rx, d, o, es, ex, hd, q⟩ => ?_)
  subst ex
  obtain rfl : u = Value.ref d := rx
  obtain ⟨hs, hgd, hx, ea, ep, hdt, hsz, hm, _⟩ := frzD I1 hd
  refine ⟨hm.typeIs, fun b q => by cases q; exact ⟨o, hgd, hx.2.1⟩, ?_⟩
  have I2 : Inv X pins σ H1 { s1 with heap := s1.heap.push { cls := .type "dict_items", data := .fields #[.ref d] } } := I1.kept (t' := s1.toks) fun b ob q => Heap.get?_push_of_some _ q
  have fin : wpAny (model X.prog X.w) X.A (pyIter (.ref s1.heap.objs.size)) (PIE X pins σ (.Tuple elts kk tpos) R) X.xe { s1 with heap := s1.heap.push { cls := .type "dict_items", data := .fields #[.ref d] } } := by
    refine wpAny_pyIter_items_raw (d := d) ⟨_, Heap.get?_push_size _ rfl, rfl, rfl⟩ (hm.at fun ob z => Heap.get?_push_of_some _ z) (pi_one (tk := s1.toks) I2 _ (turn_dki _ ⟨_, hdt⟩) ⟨.none, .none, ?_⟩ q)
    rw [← hsz]
    exact Heap.get?_push_size _ rfl
  show wpAny _ _ (callWith cpos (.builtin "dict.items") [.ref d] [] []) _ X.xe s1
  exact method_meetsIn F.slot_dict_items F.entry_dict_items rfl (PySem.evalArgs_none ⟨rfl, hm.typeIs, F.args_dict_items_1 _, _, meets_dict_items_raw d hs, ⟨_, _, hm⟩, fin⟩)
end
end WL
end
section
set_option Elab.async false
set_option linter.all false
set_option maxRecDepth 100000
/-! setdefault, len, truth and displays of dicts whose keys are data. -/
namespace WL
open PySem PySem.Spec PyProof.Rows L2
section
variable {X : Cx} {pins : List (Addr × Obj)} {σ : L2.St} {H : Hp} {s : Shared} {a b : Addr} {es : List DEnt} {d : PyData} {A : Around} {E : Value → Shared → Prop}
/-- d.setdefault(k, v) -/
def rDkDef (K : PySem.W.Frag) (w : World) : V → List V → Hp → VK → Prop := fun x xs H Q => ∃ (a b : Addr) (es : List DEnt) (d : PyData) (v : V), x = .ref a ∧ xs = [.ref b, v] ∧ H a = some (DkO w a es) ∧ KeysAt K H es ∧ KeyOk d = true ∧ Dt K H (.ref b) d ∧ es.length < sizeLine ∧
  ((∃ v0, dkAt es (keyD d) = some v0 ∧ Q v0 H) ∨ (dkAt es (keyD d) = none ∧ Q v (upd H a (DkO w a (dkPut es d b v)))))
theorem mt_dkDef (hu : X.A.units + 9 < cLine) : MtR X "dict.setdefault" (rDkDef X.K X.w) := by
  intro pins s σ H x xs v us Q I rx rxs h
  obtain ⟨a, b, es, d, v0, rfl, rfl, e, hk, k, hb, hl, q⟩ := h
  cases rx
  cases rxs with
  | cons r1 r2 => cases r2 with
    | cons r2 r3 =>
      cases r3; cases r1
      obtain ⟨h1, h2, ys, rel, dd⟩ := dk_is I (I.hok a _ e) hk
      have hz : ys.length ≤ sizeLine := by rw [← Paired.length rel]; exact h2
      have at_ := dk_at (k := keyD d) rel
      refine call_setdefault_heap (knd := nestedKind X.prog X.w) (hsz := hz) (by show X.A.units + 1 + 8 < cLine; omega) (dk_key I k hb) h1 dd (fun p hp => ?_) (fun hn h' dd' hs => ?_)
      · rw [hp] at at_
        rcases q with ⟨w0, hw, q⟩ | ⟨hw, _⟩
        · rw [hw] at at_
          exact ⟨w0, H, I.tok _, at_, q⟩
        · rw [hw] at at_; exact at_.elim
      · rw [hn] at at_
        rcases q with ⟨w0, hw, _⟩ | ⟨_, q⟩
        · rw [hw] at at_; exact at_.elim
        · have he : ∃ o, h'.get? a = some o := let ⟨o, _, _, ho, _⟩ := dd'; ⟨o, ho⟩
          exact ⟨v0, _, d_write I (by rw [e]; exact True.intro) hs he (dk_obj h1 (Nat.le_trans (dkPut_len es d b v0) hl) (dk_put rel r2) dd'), r2, q⟩
/-- len(d) -/
def rDkLen (w : World) : List V → Hp → VK → Prop := fun xs H Q => ∃ (p : Addr) (es : List DEnt), xs = [.ref p] ∧ Rd H p (DkO w p es) ∧ Q (.int ((es.length : Nat) : Int)) H
theorem dk_raw (I : Inv X pins σ H s) (e : Rd H a (DkO X.w a es)) : (a == sysModules) = false ∧ es.length ≤ sizeLine ∧ ∃ (ea : Array DictEntry) (ep : Nat), s.heap.DictRaw a ea ep ∧ ea.size = es.length := by
  obtain ⟨⟨h1, h2, _, xs, h4, o, ea, ep, ho, hc, hd, he⟩, _, _⟩ := (show ObjOk X.prog X.w H s.heap a (DkO X.w a es) from e.ok I.hok)
  refine ⟨h1, h2, ea, ep, ⟨o, ho, hc, hd⟩, ?_⟩
  have := congrArg List.length he
  rw [Array.length_toList, List.length_map, ← Paired.length h4] at this
  exact this
theorem call_dkLen : CallR X (.builtin "len") (rDkLen X.w) := by
  intro pins s σ H xs us Q I r h
  obtain ⟨p, es, rfl, hp, q⟩ := h
  obtain ⟨u, rfl, rx⟩ := vals1 r
  obtain rfl : u = .ref p := rx
  obtain ⟨h1, h2, ea, ep, hr, hs⟩ := dk_raw I hp
  have hz := sizeLine_eq
  refine call_len_slot (n := (es.length : Nat)) hr.typeIs F.slot_dict_len (fun Q' hq => call_len_raw h1 hr (by rw [hs]; exact hq)) (by omega) (by omega) ?_
  exact ⟨.int ((es.length : Nat) : Int), H, I.tok _, ⟨_, rfl⟩, q⟩
/-- the truth of a dict whose keys are tuples -/
theorem truthyH {K : Type} [DecidableEq K] {prog : Program} {w : World} {knd : HeapKind prog w K} {d : Addr} {xs : List (K × Addr × Value)} {Q : Bool → Shared → Prop} (hd : (d == sysModules) = false) (hm : s.heap.DictOfH knd d xs) (hfit : (xs.length : Int) < 2 ^ 63)
    (h : Q (!xs.isEmpty) { s with toks := s.toks + 1 + 1 }) : wpAny (model prog w) A (truthy (.ref d)) Q E s := by
  have hne : ((xs.length : Int) != 0) = !xs.isEmpty := by cases xs <;> simp <;> omega
  have lenB : wpAny (model prog w) A (runValue (.builtin "len" ⟨[.ref d], []⟩)) (fun r s' => r = .int xs.length (s.toks + 1) ∧ Q (!xs.isEmpty) s') E s := by
    refine wpAny_runValue (codeAny_builtin entry_len ?_)
    rw [Around.under_plainId plain_len _]
    refine wpAny_mono (wpAny_len_body_dictH (Q := fun r s' => r = .int xs.length (s.toks + 1) ∧ Q (!xs.isEmpty) s') hd hm hfit ⟨rfl, h⟩) (fun fin s' h' => ?_) fun _ _ e => e
    obtain ⟨r, rfl, hq⟩ := h'
    exact hq
  have fin : wpAny (model prog w) A (runValue (.builtin "len" ⟨[.ref d], []⟩)) (fun r s' => ∃ t, r = .int xs.length t ∧ Q ((xs.length : Int) != 0) s') E s := wpAny_mono lenB (fun r s' ⟨e, q⟩ => ⟨_, e, by rw [hne]; exact q⟩) fun _ _ e => e
  unfold truthy
  first
    | refine wpAny_bind (wpAny_callSpecial?_none (name := Str.ofString "__bool__") hm.typeIs noBool_dict ?_)
    | refine wpAny_bind (wpAny_pure (wpAny_bind (wpAny_callSpecial?_none (name := Str.ofString "__bool__") hm.typeIs noBool_dict ?_)))
  first
    | refine wpAny_bind (wpAny_specialOf (name := Str.ofString "__len__") hm.typeIs F.slot_dict_len.lookup ?_)
    | refine wpAny_bind (wpAny_pure (wpAny_bind (wpAny_specialOf (name := Str.ofString "__len__") hm.typeIs F.slot_dict_len.lookup ?_)))
  first
    | exact wpAny_bind (wpAny_mono fin (fun r s' h' => by obtain ⟨t, rfl, hq⟩ := h'; exact wpAny_pure hq) fun _ _ e => e)
    | exact wpAny_bind (wpAny_pure (wpAny_bind (wpAny_mono fin (fun r s' h' => by obtain ⟨t, rfl, hq⟩ := h'; exact wpAny_pure hq) fun _ _ e => e)))
/-- while d: .. -/
def rDkTru (K : PySem.W.Frag) (w : World) : V → Hp → (Bool → Hp → Prop) → Prop := fun x H Q => ∃ (p : Addr) (es : List DEnt), x = .ref p ∧ Rd H p (DkO w p es) ∧ KeysAt K H es ∧ Q (!es.isEmpty) H
theorem tru_dk : TruR X (rDkTru X.K X.w) := by
  intro pins s σ H x v Q I rx h
  obtain ⟨p, es, rfl, hp, hk, q⟩ := h
  cases rx
  obtain ⟨h1, h2, xs, rel, dd⟩ := dk_is I (hp.ok I.hok) hk
  have hz := sizeLine_eq
  have hl : es.length = xs.length := Paired.length rel
  have he : es.isEmpty = xs.isEmpty := by cases rel <;> rfl
  exact truthyH h1 dd (by rw [← hl]; omega) ⟨H, I.tok _, by rw [← he]; exact q⟩
/-- {k: v} -/
def tDkOne (K : PySem.W.Frag) (w : World) (tk tv : TE) : TE := fun σ H Q => ∀ p, H p = none → tk σ (upd H p (DkO w p [])) fun x H1 => tv σ H1 fun v H2 => ∃ b d, x = .ref b ∧ KeyOk d = true ∧ Dt K H2 (.ref b) d ∧ H2 p = some (DkO w p []) ∧ Q (.ref p) (upd H2 p (DkO w p [(d, b, v)]))
theorem pe_dkOne {k v : Expr} {tk tv : TE} {pos : Pos} (hu : X.A.units + 8 < cLine) (hk : PE X k tk) (hv : PE X v tv) : PE X (.Dict [some k] [v] pos) (tDkOne X.K X.w tk tv) := by
  refine ⟨fun pins s σ H Q I h => ?_⟩
  have hn := I.hok.fresh (Nat.le_refl s.heap.objs.size)
  have I1 := I.laid (a := s.heap.objs.size) (o := DkO X.w s.heap.objs.size []) (h' := s.heap.push { cls := .type "dict", data := .dict #[] }) (t' := s.toks) (fun _ _ q => Heap.get?_push_of_some _ q) (Nat.le_refl _) (dk_nil s.heap I.big)
  rw [arm_eval_Dict, zip_pairTrees [some k] [v] X.env pos rfl rfl, dictDisplay_pairs (pairTrees [some k] [v] X.env pos) (by intro z; cases z) (by show 1 < 17; decide)]
  refine wpAny_bind (wpAny_standAt (wpAny_bind (wpAny_subDictH (knd := nestedKind X.prog X.w) (Q := fun d s' => wpAny (model X.prog X.w) X.A (pure (Value.ref d)) (EP X pins σ Q) X.xe s') hu (by show 1 ≤ 15; decide) ?_)))
  refine pairTrees_cons_walk (thn (hk.run pins _ σ _ _ I1 (h _ hn)) fun kv s1 ⟨x, H1, J1, r1, q1⟩ => thn (hv.run pins s1 σ H1 _ J1 q1) fun vv s2 ⟨y, H2, J2, r2, b, d, ex, kd, hb, hp, q2⟩ => pairTrees_nil_walk ?_)
  subst ex
  obtain rfl : kv = Value.ref b := r1
  obtain ⟨h1, h2, xs, rel, dd⟩ := dk_is (es := []) J2 (J2.hok _ _ hp) (fun e he => by cases he)
  cases rel
  refine ⟨[(keyD d, b, vv)], ⟨rfl, rfl, dk_key J2 kd hb, True.intro⟩, dd, fun h' tk dd' hs => wpAny_pure ⟨.ref s.heap.objs.size, _, ?_, rfl, q2⟩⟩
  have he : ∃ o, h'.get? s.heap.objs.size = some o := let ⟨o, _, _, ho, _⟩ := dd'; ⟨o, ho⟩
  exact d_write (t' := tk) J2 (by rw [hp]; exact True.intro) hs he (dk_obj h1 (by show 1 ≤ sizeLine; decide) (.cons ⟨rfl, rfl, r2⟩ .nil) dd')
end
end WL
end
section
set_option Elab.async false
set_option linter.all false
set_option maxRecDepth 100000
/-! xs.extend(ys): ys any list of data. -/
namespace WL
open PySem PySem.Spec PyProof.Rows L2
open AutoSeq1 (wpAny_loadPart')
theorem extendAny (l : Addr) (us : Array Value) (n : Nat) (b : Addr) (ws : Array Value) (n2 : Nat) (dd : Option Addr) (sl : Array (Option Value)) (h0 : ¬(!us.isEmpty && Builtin.List.listTooLong (us.size + ws.size)) = true) (h1 : us.size ≤ sizeLine) (h2 : us.size + ws.size ≤ sizeLine + 1) :
    Meets (Builtin.«list.extend» ⟨[.ref l, .ref b], []⟩) (fun _ R s => s.heap.get? l = some { cls := .type "list", data := .seq us n } ∧ s.heap.get? b = some { cls := .type "list", dict := dd, data := .seq ws n2, slots := sl } ∧
      R (.ok (.ret Value.none)) { s with heap := s.heap.update l (Obj.mapSeq fun x => x ++ ws), toks := s.toks }) :=
  .of_wp fun prog w A R s ⟨hl, hb, h⟩ => by
    obtain ⟨hp, gg, dr, tk, os⟩ := s
    have f2 := F.sub_list_list
    have hz : (us ++ ws).size ≤ sizeLine + 1 := by rw [Array.size_append]; exact h2
    wp_walk using (wpAny_updateSeq hl rfl (hz := h1) (_hz' := hz)), wpAny_loadPart' hl, wpAny_loadPart' hb
    exact ⟨_, rfl, h⟩
section
variable {X : Cx}
def rExtQ (K : PySem.W.Frag) : V → List V → Hp → VK → Prop := fun x vs H Q => ∃ l b xs zs, x = .ref l ∧ vs = [.ref b] ∧ H l = some (.lst xs) ∧ SqL K H b zs ∧ xs.length + zs.length ≤ sizeLine ∧ Q .non (upd H l (.lst (xs ++ zs)))
theorem mt_extQ : MtM X "list.extend" (rExtQ X.K) := by
  intro pins s σ H x vs v us Q I rx rv h
  obtain ⟨l, b, xs, zs, rfl, rfl, hH, hB, hz, q⟩ := h
  cases rx
  obtain ⟨u, rfl, ru⟩ := rv.one
  cases ru
  obtain ⟨_, its, n, r, hl, e⟩ := I.lstM hH
  obtain ⟨ws, r2, ⟨⟨cc, dd, dt, sl⟩, n2, e2, hc, hd, hdt⟩, _⟩ := I.list hB
  simp only at hc hd hdt
  subst hc hd hdt
  have k1 := r.length
  have k2 := r2.length
  have hs : its.toArray.size + ws.toArray.size ≤ sizeLine := by rw [List.size_toArray, List.size_toArray]; omega
  have hlong : ¬ (!its.toArray.isEmpty && Builtin.List.listTooLong (its.toArray.size + ws.toArray.size)) = true := by
    rw [notLongL hs, Bool.and_false]; simp
  refine call_meets F.slot_list_extend ⟨_, e, rfl⟩ F.entry_list_extend (F.args_list_extend_2 _ _) (extendAny l its.toArray n b ws.toArray n2 none sl hlong (by omega) (by omega)) ⟨e, e2, ?_⟩
  exact ⟨.non, _, I.lset (its' := its ++ ws) hH e (by simp) (r.append r2) (by rw [List.length_append]; omega), rfl, q⟩
end
theorem DL.mono {F : Fx} {te : TE} {δ : List WSlot} {P P' : List PyData → List WSlot → Prop} (h : DL F te δ P) (w : ∀ ds δ', P ds δ' → P' ds δ') : DL F te δ P' := fun A H σ s Q q => h A H σ s Q fun a xs ds δ' H2 p => q a xs ds δ' H2 (w ds δ' p)
theorem ds_extend {F : Fx} {δ : List WSlot} {te : TE} {N B C : List WSlot → Prop} {R : PyData → List WSlot → Prop} {i : Nat} {l : Addr} {ds : List PyData} (ho : δ[i]? = some (.own l ds)) (h : DL F te δ fun es δ1 => ∃ ds1, δ1[i]? = some (.own l ds1) ∧ ds1.length + es.length ≤ 100000 ∧ N (δ1.set i (.own l (ds1 ++ es)))) :
    DS F (tDrop (tBM F.K "list" (rExtQ F.K) (tVar i) (tCons te tNil))) δ N R B C := fun A H σ D s E => by
  obtain ⟨e1, m, xs, e2, q⟩ := s.sd.own i l ds ho
  refine ⟨.ref l, e1, .inl ⟨rfl, _, SqL.of e2⟩, ?_⟩
  refine h A H σ s _ fun a zs es δ1 H1 ⟨ds1, ho1, hlen, p⟩ s1 x1 hq hd => ?_
  obtain ⟨_, m1, ys, f2, f3⟩ := s1.sd.own i l ds1 ho1
  refine ⟨l, a, ys, zs, rfl, rfl, f2, hq, by rw [f3.len, hd.len]; exact Nat.le_trans hlen (by decide), ?_⟩
  exact E.nx _ A _ σ p (s1.mutOwn ho1 (f3.app hd)) (by rw [hid_mut m1]; exact x1)
end WL
end
section
set_option Elab.async false
set_option linter.all false
set_option maxRecDepth 100000
/-! (a, *xs): xs a list of data -/
namespace WL
open PySem PySem.Spec PyProof.Rows L2
theorem da_star {F : Fx} {te : TE} {tl : TA} {δ : List WSlot} {P PA : List PyData → List WSlot → Prop} (h : DL F te δ P) (hr : ∀ es δ1, P es δ1 → DA F tl δ1 fun ds δ2 => PA (es ++ ds) δ2) : DA F (StX.tStar F.K te tl) δ PA := fun A H σ s Q q =>
  h A H σ s _ fun a xs es δ1 H1 p s1 x1 hq hd => by
    refine ⟨a, xs, rfl, .inr hq, hr es δ1 p A H1 σ s1 _ fun vs ds δ2 H2 p2 s2 x2 h2 => ?_⟩
    exact q _ _ δ2 H2 p2 s2 (x1.trans x2) ((dpa_ex x2 hd).app h2)
end WL
end
section
set_option Elab.async false
set_option linter.all false
set_option maxRecDepth 100000
/-! xs[i] += n of an owned list of ints -/
namespace WL
open PySem PySem.Spec PyProof.Rows L2
def rGetL : V → V → Hp → VK → Prop := fun x y H Q => ∃ p xs i z, x = .ref p ∧ y = .int i ∧ 0 ≤ i ∧ H p = some (.lst xs) ∧ xs[i.toNat]? = some z ∧ Q z H
theorem get_listN {X : Cx} : PGet X rGetL := by
  intro pins s σ H x y v u Q I rx ry h
  obtain ⟨p, xs, i, z, rfl, rfl, h0, hp, hz, q⟩ := h
  cases rx
  obtain ⟨t, rfl⟩ := ry
  obtain ⟨its, r, pl, hl⟩ := I.list (SqL.of hp)
  obtain ⟨w, ew, rw'⟩ := r.get hz
  have hs := r.length
  have hn := line63
  have hi : i.toNat < its.length := (List.getElem?_eq_some_iff.mp ew).1
  refine wpAny_getItem_list pl.isList h0 (by omega) (by simpa using ew) ?_
  exact ⟨z, H, I, rw', q⟩
theorem ds_augL {F : Fx} {δ : List WSlot} {ti te : TE} {N B C : List WSlot → Prop} {R : PyData → List WSlot → Prop} {i : Nat} {l : Addr} {ds : List PyData} {k : Nat} {a b : Int} (ho : δ[i]? = some (.own l ds)) (hi : DV F ti δ (.int k)) (hd : ds[k]? = some (.int a)) (he : DV F te δ (.int b))
    (hn : N (δ.set i (.own l (ds.set k (.int (a + b)))))) : DS F (tAugS (tVar i) ti te rGetL (ipI fun i j => i + j) rSetL) δ N R B C := fun A H σ D s E => by
  obtain ⟨e1, m, xs, hx, q⟩ := s.sd.own i l ds ho
  refine ⟨.ref l, e1, hi A H σ s _ fun v d δ1 H1 ⟨r1, r2⟩ s1 x1 hv => ?_⟩
  subst r1; subst r2
  obtain ⟨_, m1, ys, hy, q1⟩ := s1.sd.own i l ds ho
  obtain ⟨z, hz, dz⟩ := q1.get hd
  rw [dp_int hv]
  refine ⟨l, ys, k, z, rfl, rfl, by omega, hy, by simpa using hz, he A H1 σ s1 _ fun v2 d2 δ2 H2 ⟨r3, r4⟩ s2 x2 hv2 => ?_⟩
  subst r3; subst r4
  obtain ⟨_, m2, zs, hzs, q2⟩ := s2.sd.own i l ds ho
  refine ⟨a, b, dp_int dz, dp_int hv2, ?_⟩
  have hk : k < ds.length := (List.getElem?_eq_some_iff.mp hd).1
  have hix : ixN zs.length (k : Int) = some k := by
    rw [q2.len]; unfold ixN; rw [if_pos (by omega), if_pos (by omega)]; rfl
  refine ⟨l, zs, k, k, rfl, rfl, hzs, hix, ?_⟩
  exact E.nx _ A _ σ hn (s2.mutOwn ho (q2.set (.int _) k)) (by rw [hid_mut m2]; exact x1.trans x2)
end WL
end
section
set_option Elab.async false
set_option linter.all false
set_option maxRecDepth 100000
/-! What a frame owns, changed. -/
namespace WL
open PySem PySem.Spec PyProof.Rows L2
section
variable {F : Fx} {A A' : List Addr} {H H' : Hp} {σ : List (Option V)} {δ : List WSlot} {i : Nat} {b b' : Box}
/-- nothing but what the box owns is changed; what is new may be owned -/
structure BoxStep (A A' : List Addr) (H H' : Hp) (foot foot' : List Addr) : Prop where
  keep : ∀ a o, H a = some o → a ∉ foot → H' a = some o
  grow : ∀ a ∈ A, a ∈ A'
  new : ∀ a ∈ A', a ∈ A ∨ H a = none
  live : ∀ a ∈ A', H' a ≠ none
  foot : ∀ a ∈ foot', a ∈ A' ∧ (a ∈ foot ∨ H a = none)
theorem BoxStep.ex {foot foot' : List Addr} (S : BoxStep A A' H H' foot foot') (hf : ∀ a ∈ foot, a ∈ A) : Ex (hid A H) (hid A' H') := fun a o h => by
  obtain ⟨h1, h2⟩ := hid_some h
  rw [hid_out fun z => ?_]
  · exact S.keep a o h2 fun z => h1 (hf a z)
  · rcases S.new a z with y | y
    · exact h1 y
    · rw [h2] at y; cases y
theorem BoxStep.bs {foot foot' : List Addr} (S : BoxStep A A' H H' foot foot') (s : Bs F.H0 F.A0 F.M A H) (hm : ∀ a ∈ foot, a ∈ F.M ∨ F.H0 a = none) : Bs F.H0 F.A0 F.M A' H' := by
  refine ⟨fun a o h => ?_, fun a ha => S.grow a (s.sub a ha), s.ml, s.lv⟩
  obtain ⟨h1, h2⟩ := hid_some h
  refine S.keep a o (s.kept a o h) fun z => ?_
  rcases hm a z with y | y
  · exact h1 y
  · rw [h2] at y; cases y
/-- the box at a slot is changed -/
theorem St.putBox (s : St F A H σ δ) (hi : δ[i]? = some (.box b)) (hr : b'.root = b.root) (S : BoxStep A A' H H' b.foot b'.foot) (hh : b'.holds H' (hid A' H')) : St F A' H' σ (δ.set i (.box b')) := by
  obtain ⟨e1, hA, h0⟩ := s.sd.box i b hi
  refine ⟨s.sd.put0 S.live (S.ex hA) (fun j w hji hj a ha => ?_) ⟨by rw [hr]; exact e1, fun a ha => (S.foot a ha).1, hh⟩, S.bs s.bs (s.mineF i _ hi), mine_put s.mineF fun _ a ha => ?_⟩
  · have hA2 := s.sd.inA hj a ha
    have nf : a ∉ b.foot := s.sd.apart j i w _ hj hi hji a ha
    cases q : H a with
    | none => exact absurd q (s.live a hA2)
    | some o =>
      refine ⟨by rw [S.keep a o q nf], S.grow a hA2, fun z => ?_⟩
      rcases (S.foot a z).2 with y | y
      · exact nf y
      · rw [q] at y; cases y
  · rcases (S.foot a ha).2 with y | y
    · exact s.mineF i _ hi a y
    · exact H0none s y
/-- a name gets what is new -/
theorem St.newBox (s : St F A H σ δ) (S : BoxStep A A' H H' [] b.foot) (hh : b.holds H' (hid A' H')) : St F A' H' (σ.set i (some b.root)) (δ.set i (.box b)) := by
  refine ⟨s.sd.put S.live (S.ex fun a ha => by cases ha) (fun j w hji hj a ha => ?_) ⟨rfl, fun a ha => (S.foot a ha).1, hh⟩, S.bs s.bs (fun a ha => by cases ha), mine_put s.mineF fun _ a ha => ?_⟩
  · have hA2 := s.sd.inA hj a ha
    cases q : H a with
    | none => exact absurd q (s.live a hA2)
    | some o =>
      refine ⟨by rw [S.keep a o q (by simp)], S.grow a hA2, fun z => ?_⟩
      rcases (S.foot a z).2 with y | y
      · cases y
      · rw [q] at y; cases y
  · rcases (S.foot a ha).2 with y | y
    · cases y
    · exact H0none s y
/-- what may be said of a box without changing it -/
theorem St.seeBox (s : St F A H σ δ) (hi : δ[i]? = some (.box b)) : σ[i]? = some (some b.root) ∧ (∀ a ∈ b.foot, a ∈ A) ∧ b.holds H (hid A H) := s.sd.box i b hi
end
/-- a box that a callee is handed, and hands back changed: x tells its state; the other arguments are data -/
def spB {α : Type} (K : PySem.W.Frag) (mk : α → Box) (rel : α → List PyData → (PyData → α → Prop) → Prop) : Sp := fun vs H Q _ => ∃ (A : List Addr) (x : α) (us : List V) (es : List PyData) (Pd : PyData → α → Prop), vs = (mk x).root :: us ∧ Live A H ∧ (∀ a ∈ (mk x).foot, a ∈ A) ∧
  (mk x).holds H (hid A H) ∧ DtAll K (hid A H) us es ∧ rel x es Pd ∧
  ∀ v d x' A' H', Pd d x' → (mk x').root = (mk x).root → BoxStep A A' H H' (mk x).foot (mk x').foot → (mk x').holds H' (hid A' H') → Dt K (hid A' H') v d → Q v H'
section
variable {F : Fx} {α : Type} {mk : α → Box} {rel : α → List PyData → (PyData → α → Prop) → Prop} {E : XK} {tl : TA} {i : Nat} {x : α} {δ : List WSlot} {N B C : List WSlot → Prop} {R : PyData → List WSlot → Prop} {es : List PyData} {Pd : PyData → α → Prop}
/-- x = f(book, ..), the box changed: a statement, for new things may be owned -/
theorem ds_setCallB {j : Nat} (ho : δ[i]? = some (.box (mk x))) (hij : i ≠ j) (h : DAs F tl δ es) (hr : rel x es Pd) (hn : ∀ d x', Pd d x' → N ((δ.set i (.box (mk x'))).set j (.dat d))) :
    DS F (tAsg (tCall (spB F.K mk rel) [] E (tCons (tVar i) tl)) (gName j)) δ N R B C := fun A H σ D s Ed => by
  refine ⟨(mk x).root, (s.sd.box i _ ho).1, h A H σ s _ fun vs es' δ1 H1 ⟨e1, e2⟩ s1 x1 h1 => ?_⟩
  subst e1; subst e2
  obtain ⟨r1, r2, r3⟩ := s1.sd.box i _ ho
  refine ⟨A, x, vs, _, Pd, by rw [List.append_nil], s1.live, r2, r3, h1, hr, fun v d x' A' H' p hroot S hh hv => ?_⟩
  have s2 := s1.putBox ho hroot S hh
  exact Ed.nx _ A' H' _ (hn d x' p) (s2.set hv) (x1.trans (S.ex r2))
/-- return f(book, ..) -/
theorem ds_retCallB (ho : δ[i]? = some (.box (mk x))) (h : DAs F tl δ es) (hr : rel x es Pd) (hn : ∀ d x', Pd d x' → R d (δ.set i (.box (mk x')))) :
    DS F (tRet (tCall (spB F.K mk rel) [] E (tCons (tVar i) tl))) δ N R B C := fun A H σ D s Ed => by
  refine ⟨(mk x).root, (s.sd.box i _ ho).1, h A H σ s _ fun vs es' δ1 H1 ⟨e1, e2⟩ s1 x1 h1 => ?_⟩
  subst e1; subst e2
  obtain ⟨r1, r2, r3⟩ := s1.sd.box i _ ho
  refine ⟨A, x, vs, _, Pd, by rw [List.append_nil], s1.live, r2, r3, h1, hr, fun v d x' A' H' p hroot S hh hv => ?_⟩
  exact Ed.rt d v _ A' H' _ (hn d x' p) (s1.putBox ho hroot S hh) (x1.trans (S.ex r2)) hv
end
end WL
end
section
set_option Elab.async false
set_option linter.all false
set_option maxRecDepth 100000
/-! A def that is handed a box first. -/
namespace WL
open PySem PySem.Spec PyProof.Rows L2
section
variable {P : Program} {w : World} {K : PySem.W.Frag} {mg : Str → Option Value} {base : Heap} {α : Type} {mk : α → Box}
theorem st_box {H : Hp} {A0 : List Addr} {N : List Str} {vs : List V} {ds : List PyData} {b : Box} (hN : 0 < N.length) (lv : Live A0 H) (hf : ∀ a ∈ b.foot, a ∈ A0) (hh : b.holds H (hid A0 H)) (hv : DtAll K (hid A0 H) vs ds) :
    St ⟨K, H, A0, b.foot⟩ A0 H (L2.start N (b.root :: vs)) (.box b :: env0 N.tail ds) := by
  obtain ⟨n0, N', rfl⟩ : ∃ n0 N', N = n0 :: N' := by
    cases N with
    | nil => cases hN
    | cons a b => exact ⟨a, b, rfl⟩
  have s0 := st_start (K := K) (N := N') lv hv
  have e1 : L2.start (n0 :: N') (b.root :: vs) = some b.root :: L2.start N' vs := by unfold L2.start; simp
  have nf : ∀ (i : Nat) (w : WSlot), (env0 N' ds)[i]? = some w → ∀ a ∈ w.foot, False := fun i w h a ha => by
    rcases env0_get h with e | ⟨d', _, e⟩
    · subst e; cases ha
    · subst e; cases ha
  rw [e1]
  refine ⟨⟨?_, lv, fun i w h => ?_, fun i j w w' h1 h2 hne a ha hb => ?_⟩, Bs.start H A0 _ lv hf, fun i w h a ha => ?_⟩
  · rw [List.length_cons]
    show _ = (WSlot.box b :: env0 N' ds).length
    rw [List.length_cons]
    exact congrArg (· + 1) s0.sd.len
  · cases i with
    | zero => simp at h; subst h; exact ⟨rfl, hf, hh⟩
    | succ i => exact s0.sd.all i w (by simpa using h)
  · cases i with
    | zero => cases j with
      | zero => exact hne rfl
      | succ j => exact nf j w' (by simpa using h2) a hb
    | succ i => exact nf i w (by simpa using h1) a ha
  · cases i with
    | zero => simp at h; subst h; exact .inl ha
    | succ i => exact (nf i w (by simpa using h) a ha).elim
/-- what a frame that was handed b leaves -/
theorem left_box {H H' : Hp} {A0 A' : List Addr} {σ : List (Option V)} {δ : List WSlot} {b b' : Box} (s : St ⟨K, H, A0, b.foot⟩ A' H' σ δ) (h : δ[0]? = some (.box b')) :
    BoxStep A0 (A0 ++ b'.foot) H H' b.foot b'.foot ∧ b'.holds H' (hid (A0 ++ b'.foot) H') ∧ Ex (hid A' H') (hid (A0 ++ b'.foot) H') := by
  obtain ⟨_, hA, hh⟩ := s.sd.box 0 b' h
  have sub : ∀ a ∈ A0 ++ b'.foot, a ∈ A' := fun a ha => (List.mem_append.mp ha).elim (s.bs.sub a) (hA a)
  have x : Ex (hid A' H') (hid (A0 ++ b'.foot) H') := hid_sub sub
  refine ⟨⟨fun a o e n => s.bs.kept a o (by rw [hid_out n]; exact e), fun a ha => List.mem_append_left _ ha, fun a ha => ?_, fun a ha => s.sd.live a (sub a ha), fun a ha => ⟨List.mem_append_right _ ha, s.mineF 0 _ h a ha⟩⟩, b'.loc (fun _ _ => rfl) x hh, x⟩
  rcases List.mem_append.mp ha with z | z
  · exact .inl z
  · rcases s.mineF 0 _ h a z with y | y
    · exact .inl (s.bs.ml a y)
    · exact .inr y
theorem fnB {x qual : Str} {st : Stmt} {f : Addr} {fd : FuncData} {N ps : List Str} {k : Nat} {rel : α → List PyData → (PyData → α → Prop) → Prop} (G : Fun K x qual st f fd) (S : FnScope N ps (defScope st)) (hlen : ∀ y es Pd, rel y es Pd → es.length + 1 = ps.length) (hN : 0 < N.length)
    (hb : ∀ (cdv : Value) (A : Around) (outer : List Env) (s : Shared) (H : Hp) (E : XK), Room k (A.deeper (envOfC qual (defScope st) s.heap.objs.size f cdv)) →
      ∃ t, PSs (cxOf CX0 P w K mg base N qual (defScope st) f cdv A outer s H E).nox (defBody st) t ∧
        ∀ A0 y es Pd, rel y es Pd → DS ⟨K, H, A0, (mk y).foot⟩ t (.box (mk y) :: env0 N.tail es) (fun δ' => ∃ y', δ'[0]? = some (.box (mk y')) ∧ (mk y').root = (mk y).root ∧ Pd .none y') (fun d δ' => ∃ y', δ'[0]? = some (.box (mk y')) ∧ (mk y').root = (mk y).root ∧ Pd d y') (fun _ => False) (fun _ => False)) :
    FnOk P w K mg base CX0 (k + 1) f fd ps (spB K mk rel) :=
  G.ok S (fun vs H Q E ⟨A0, y, us, es, Pd, e, lv, hf, hh, hv, hr, q⟩ => by rw [e, List.length_cons, hv.len]; exact hlen y es Pd hr) fun cdv A outer s H vs Q E hr ⟨A0, y, us, es, Pd, e, lv, hf, hh, hv, hrel, q⟩ => by
    subst e
    obtain ⟨t, ht, hD⟩ := hb cdv A outer s H E hr
    refine ⟨t, ht, hD A0 y es Pd hrel A0 H _ _ (st_box hN lv hf hh hv) ⟨fun δ' A' H' σ' ⟨y', h0, hroot, p⟩ s' x => ?_, fun d v δ' A' H' σ' ⟨y', h0, hroot, p⟩ s' x hd' => ?_, fun _ _ _ _ z => z.elim, fun _ _ _ _ z => z.elim⟩⟩
    · obtain ⟨q1, q2, _⟩ := left_box s' h0
      exact q .non .none y' _ H' p hroot q1 q2 .non
    · obtain ⟨q1, q2, q3⟩ := left_box s' h0
      exact q v d y' _ H' p hroot q1 q2 (dp_ex q3 hd')
end
end WL
end
section
set_option Elab.async false
set_option linter.all false
set_option maxRecDepth 100000
/-! A box whose addresses stay: handed on within expressions. -/
namespace WL
open PySem PySem.Spec PyProof.Rows L2
/-- a def that is handed a box first and changes it in place -/
def spI {α : Type} (K : PySem.W.Frag) (mk : α → Box) (rel : α → List PyData → (PyData → α → Prop) → Prop) : Sp := fun vs H Q _ => ∃ (A : List Addr) (x : α) (us : List V) (es : List PyData) (Pd : PyData → α → Prop), vs = (mk x).root :: us ∧ Live A H ∧ (∀ a ∈ (mk x).foot, a ∈ A) ∧
  (mk x).holds H (hid A H) ∧ DtAll K (hid A H) us es ∧ rel x es Pd ∧
  ∀ v d x' H', Pd d x' → (mk x').root = (mk x).root → (mk x').foot = (mk x).foot → BoxStep A A H H' (mk x).foot (mk x).foot → (mk x').holds H' (hid A H') → Dt K (hid A H') v d → Q v H'
section
variable {F : Fx} {α : Type} {mk : α → Box} {rel : α → List PyData → (PyData → α → Prop) → Prop} {E : XK} {te : TE} {tl : TA} {i : Nat} {x : α} {δ : List WSlot} {N B C : List WSlot → Prop} {R : PyData → List WSlot → Prop} {es : List PyData} {Pd : PyData → α → Prop} {P : PyData → List WSlot → Prop} {PA : List PyData → List WSlot → Prop}
theorem BoxStep.of {A : List Addr} {H H' : Hp} {f f' : List Addr} (S : BoxStep A A H H' f f) (e : f' = f) : BoxStep A A H H' f f' := e ▸ S
theorem de_callI (ho : δ[i]? = some (.box (mk x))) (h : DA F tl δ PA) (hr : ∀ es δ1, PA es δ1 → ∃ x1 Pd, δ1[i]? = some (.box (mk x1)) ∧ rel x1 es Pd ∧ ∀ d x', Pd d x' → P d (δ1.set i (.box (mk x')))) :
    DE F (tCall (spI F.K mk rel) [] E (tCons (tVar i) tl)) δ P := fun A H σ s Q q => by
  refine ⟨(mk x).root, (s.sd.box i _ ho).1, h A H σ s _ fun vs es' δ1 H1 p s1 x1 h1 => ?_⟩
  obtain ⟨y, Pd, ho1, hrel, hp⟩ := hr es' δ1 p
  obtain ⟨r1, r2, r3⟩ := s1.sd.box i _ ho1
  have e0 : (mk x).root = (mk y).root := by
    have := (s.sd.box i _ ho).1
    rw [r1] at this
    exact (Option.some.inj (Option.some.inj this)).symm
  refine ⟨A, y, vs, _, Pd, by rw [List.append_nil, e0], s1.live, r2, r3, h1, hrel, fun v d x' H' p hroot hfoot S hh hv => ?_⟩
  exact q v d _ H' (hp d x' p) (s1.putBox ho1 hroot (S.of hfoot) hh) (x1.trans (S.ex r2)) hv
theorem dv_callI (ho : δ[i]? = some (.box (mk x))) (h : DAs F tl δ es) (hr : rel x es Pd) (hp : ∀ d x', Pd d x' → P d (δ.set i (.box (mk x')))) :
    DE F (tCall (spI F.K mk rel) [] E (tCons (tVar i) tl)) δ P := de_callI ho h fun es' δ1 ⟨e1, e2⟩ => by
  subst e1; subst e2
  exact ⟨x, Pd, ho, hr, hp⟩
/-- a box's root is an instance of the class at C, without an attribute m -/
def InsOf (mk : α → Box) (C : Addr) (m : Str) : Prop := ∀ (x : α) H Hh, (mk x).holds H Hh → ∃ a dx fs, (mk x).root = .ref a ∧ H a = some (.ins C dx fs) ∧ fs.lookup m = none
theorem de_methI {C : Addr} {m : Str} (hI : InsOf mk C m) (ho : δ[i]? = some (.box (mk x))) (h : DA F tl δ PA) (hr : ∀ es δ1, PA es δ1 → ∃ x1 Pd, δ1[i]? = some (.box (mk x1)) ∧ rel x1 es Pd ∧ ∀ d x', Pd d x' → P d (δ1.set i (.box (mk x')))) :
    DE F (tMeth C m (spI F.K mk rel) [] E (tVar i) tl) δ P := fun A H σ s Q q => by
  obtain ⟨a, dx, fs, z1, z2, z3⟩ := hI x H _ (s.sd.box i _ ho).2.2
  refine ⟨(mk x).root, (s.sd.box i _ ho).1, a, dx, fs, z1, z2, z3, h A H σ s _ fun vs es' δ1 H1 p s1 x1 h1 => ?_⟩
  obtain ⟨y, Pd, ho1, hrel, hp⟩ := hr es' δ1 p
  obtain ⟨r1, r2, r3⟩ := s1.sd.box i _ ho1
  have e0 : (mk x).root = (mk y).root := by
    have := (s.sd.box i _ ho).1
    rw [r1] at this
    exact (Option.some.inj (Option.some.inj this)).symm
  refine ⟨A, y, vs, _, Pd, by rw [List.append_nil, e0], s1.live, r2, r3, h1, hrel, fun v d x' H' p hroot hfoot S hh hv => ?_⟩
  exact q v d _ H' (hp d x' p) (s1.putBox ho1 hroot (S.of hfoot) hh) (x1.trans (S.ex r2)) hv
theorem dv_methI {C : Addr} {m : Str} (hI : InsOf mk C m) (ho : δ[i]? = some (.box (mk x))) (h : DAs F tl δ es) (hr : rel x es Pd) (hp : ∀ d x', Pd d x' → P d (δ.set i (.box (mk x')))) :
    DE F (tMeth C m (spI F.K mk rel) [] E (tVar i) tl) δ P := de_methI hI ho h fun es' δ1 ⟨e1, e2⟩ => by
  subst e1; subst e2
  exact ⟨x, Pd, ho, hr, hp⟩
end
section
variable {P : Program} {w : World} {K : PySem.W.Frag} {mg : Str → Option Value} {base : Heap} {α : Type} {mk : α → Box}
theorem left_boxI {H H' : Hp} {A0 A' : List Addr} {σ : List (Option V)} {δ : List WSlot} {b b' : Box} (s : St ⟨K, H, A0, b.foot⟩ A' H' σ δ) (hf : ∀ a ∈ b.foot, a ∈ A0) (h : δ[0]? = some (.box b')) (he : b'.foot = b.foot) :
    BoxStep A0 A0 H H' b.foot b.foot ∧ b'.holds H' (hid A0 H') ∧ Ex (hid A' H') (hid A0 H') := by
  obtain ⟨_, hA, hh⟩ := s.sd.box 0 b' h
  have x : Ex (hid A' H') (hid A0 H') := hid_sub s.bs.sub
  exact ⟨⟨fun a o e n => s.bs.kept a o (by rw [hid_out n]; exact e), fun a ha => ha, fun a ha => .inl ha, fun a ha => s.sd.live a (s.bs.sub a ha), fun a ha => ⟨hf a ha, .inl ha⟩⟩, b'.loc (fun _ _ => rfl) x hh, x⟩
theorem fnI {x qual : Str} {st : Stmt} {f : Addr} {fd : FuncData} {N ps : List Str} {k : Nat} {rel : α → List PyData → (PyData → α → Prop) → Prop} (G : Fun K x qual st f fd) (S : FnScope N ps (defScope st)) (hlen : ∀ y es Pd, rel y es Pd → es.length + 1 = ps.length) (hN : 0 < N.length)
    (hb : ∀ (cdv : Value) (A : Around) (outer : List Env) (s : Shared) (H : Hp) (E : XK), Room k (A.deeper (envOfC qual (defScope st) s.heap.objs.size f cdv)) →
      ∃ t, PSs (cxOf CX0 P w K mg base N qual (defScope st) f cdv A outer s H E).nox (defBody st) t ∧
        ∀ A0 y es Pd, rel y es Pd → DS ⟨K, H, A0, (mk y).foot⟩ t (.box (mk y) :: env0 N.tail es) (fun δ' => ∃ y', δ'[0]? = some (.box (mk y')) ∧ (mk y').root = (mk y).root ∧ (mk y').foot = (mk y).foot ∧ Pd .none y') (fun d δ' => ∃ y', δ'[0]? = some (.box (mk y')) ∧ (mk y').root = (mk y).root ∧ (mk y').foot = (mk y).foot ∧ Pd d y') (fun _ => False) (fun _ => False)) :
    FnOk P w K mg base CX0 (k + 1) f fd ps (spI K mk rel) :=
  G.ok S (fun vs H Q E ⟨A0, y, us, es, Pd, e, lv, hf, hh, hv, hr, q⟩ => by rw [e, List.length_cons, hv.len]; exact hlen y es Pd hr) fun cdv A outer s H vs Q E hr ⟨A0, y, us, es, Pd, e, lv, hf, hh, hv, hrel, q⟩ => by
    subst e
    obtain ⟨t, ht, hD⟩ := hb cdv A outer s H E hr
    refine ⟨t, ht, hD A0 y es Pd hrel A0 H _ _ (st_box hN lv hf hh hv) ⟨fun δ' A' H' σ' ⟨y', h0, hroot, hft, p⟩ s' x => ?_, fun d v δ' A' H' σ' ⟨y', h0, hroot, hft, p⟩ s' x hd' => ?_, fun _ _ _ _ z => z.elim, fun _ _ _ _ z => z.elim⟩⟩
    · obtain ⟨q1, q2, _⟩ := left_boxI s' hf h0 hft
      exact q .non .none y' H' p hroot hft q1 q2 .non
    · obtain ⟨q1, q2, q3⟩ := left_boxI s' hf h0 hft
      exact q v d y' H' p hroot hft q1 q2 (dp_ex q3 hd')
end
end WL
end
section
set_option Elab.async false
set_option linter.all false
set_option maxRecDepth 100000
/-! The book of terms as it lies: an instance, three lists, a dict. -/
namespace WL
open PySem PySem.Spec PyProof.Rows L2
structure BkA where
  b : Addr
  dx : Addr
  at_ : Addr
  lt : Addr
  ld : Addr
  lm : Addr
  nd : Addr
def tbF (A : BkA) : List (Str × V) := [("atoms", .ref A.at_), ("terms", .ref A.lt), ("depths", .ref A.ld), ("makings", .ref A.lm), ("numbers", .ref A.nd)]
theorem lk_ne {k k' : Str} {v : V} {l : List (Str × V)} (h : (k == k') = false) : List.lookup k ((k', v) :: l) = List.lookup k l := by
  rw [List.lookup_cons, h]
theorem lk_eq {k : Str} {v : V} {l : List (Str × V)} : List.lookup k ((k, v) :: l) = some v := by
  rw [List.lookup_cons, beq_self_eq_true]
theorem tb_atoms (A : BkA) : (tbF A).lookup ("atoms" : Str) = some (V.ref A.at_) := lk_eq
theorem tb_terms (A : BkA) : (tbF A).lookup ("terms" : Str) = some (V.ref A.lt) := by
  unfold tbF
  rw [lk_ne (by decide +kernel)]; exact lk_eq
theorem tb_depths (A : BkA) : (tbF A).lookup ("depths" : Str) = some (V.ref A.ld) := by
  unfold tbF
  rw [lk_ne (by decide +kernel), lk_ne (by decide +kernel)]; exact lk_eq
theorem tb_makings (A : BkA) : (tbF A).lookup ("makings" : Str) = some (V.ref A.lm) := by
  unfold tbF
  rw [lk_ne (by decide +kernel), lk_ne (by decide +kernel), lk_ne (by decide +kernel)]; exact lk_eq
theorem tb_numbers (A : BkA) : (tbF A).lookup ("numbers" : Str) = some (V.ref A.nd) := by
  unfold tbF
  rw [lk_ne (by decide +kernel), lk_ne (by decide +kernel), lk_ne (by decide +kernel), lk_ne (by decide +kernel)]; exact lk_eq
theorem tb_no (A : BkA) {m : Str} (h1 : (m == ("atoms" : Str)) = false) (h2 : (m == ("terms" : Str)) = false) (h3 : (m == ("depths" : Str)) = false) (h4 : (m == ("makings" : Str)) = false) (h5 : (m == ("numbers" : Str)) = false) : (tbF A).lookup m = none := by
  unfold tbF
  rw [lk_ne h1, lk_ne h2, lk_ne h3, lk_ne h4, lk_ne h5]; rfl
/-- a dict's pairs, as data and value -/
def kvAt (kvs : List (PyData × V)) (d : PyData) : Option V := (kvs.find? fun e => decide (keyD e.1 = keyD d)).map (·.2)
def kvOf (es : List DEnt) : List (PyData × V) := es.map fun e => (e.1, e.2.2)
theorem kvAt_of (es : List DEnt) (d : PyData) : dkAt es (keyD d) = kvAt (kvOf es) d := by
  unfold dkAt kvAt kvOf
  rw [List.find?_map, Option.map_map]
  rfl
theorem kvPut_new {es : List DEnt} {d : PyData} {b : Addr} {v : V} (h : kvAt (kvOf es) d = none) : dkPut es d b v = es ++ [(d, b, v)] := by
  unfold dkPut
  rw [kvAt_of, h, if_neg (by simp)]
/-- what lies there -/
structure RbS where
  A : BkA
  at_ : List PyData
  ts : List PyData
  ds : List PyData
  ms : List PyData
  kvs : List (PyData × V)
structure RbH (K : PySem.W.Frag) (w : World) (C : Addr) (x : RbS) (H Hh : Hp) : Prop where
  ins : H x.A.b = some (.ins C x.A.dx (tbF x.A))
  lt : ∃ xs, H x.A.lt = some (.lst xs) ∧ DtAll K Hh xs x.ts
  ld : ∃ xs, H x.A.ld = some (.lst xs) ∧ DtAll K Hh xs x.ds
  lm : ∃ xs, H x.A.lm = some (.lst xs) ∧ DtAll K Hh xs x.ms
  nd : ∃ es, H x.A.nd = some (DkO w x.A.nd es) ∧ KeysAt K Hh es ∧ kvOf es = x.kvs
  at_ : Dt K Hh (.ref x.A.at_) (.tuple x.at_)
  n1 : x.A.lt ≠ x.A.ld
  n2 : x.A.lt ≠ x.A.lm
  n3 : x.A.ld ≠ x.A.lm
def BkA.foot (A : BkA) : List Addr := [A.b, A.lt, A.ld, A.lm, A.nd]
def rb (K : PySem.W.Frag) (w : World) (C : Addr) (x : RbS) : Box where
  root := .ref x.A.b
  foot := x.A.foot
  holds := RbH K w C x
  loc := fun {H H' Hh Hh'} k e h => by
    have k1 := k x.A.b (by simp [BkA.foot])
    have k2 := k x.A.lt (by simp [BkA.foot])
    have k3 := k x.A.ld (by simp [BkA.foot])
    have k4 := k x.A.lm (by simp [BkA.foot])
    have k5 := k x.A.nd (by simp [BkA.foot])
    obtain ⟨xs, a1, a2⟩ := h.lt
    obtain ⟨ys, b1, b2⟩ := h.ld
    obtain ⟨zs, c1, c2⟩ := h.lm
    obtain ⟨es, d1, d2, d3⟩ := h.nd
    exact ⟨by rw [k1]; exact h.ins, ⟨xs, by rw [k2]; exact a1, dpa_ex e a2⟩, ⟨ys, by rw [k3]; exact b1, dpa_ex e b2⟩, ⟨zs, by rw [k4]; exact c1, dpa_ex e c2⟩, ⟨es, by rw [k5]; exact d1, d2.ex e, d3⟩, dp_ex e h.at_, h.n1, h.n2, h.n3⟩
/-- what the class must have -/
structure TbC (K : PySem.W.Frag) (C : Addr) : Prop where
  cl : Cls K C
  atoms : NoAttr K C "atoms"
  terms : NoAttr K C "terms"
  depths : NoAttr K C "depths"
  makings : NoAttr K C "makings"
  numbers : NoAttr K C "numbers"
section
variable {F : Fx} {w : World} {C : Addr} {A : List Addr} {H H' : Hp} {σ : List (Option V)} {δ : List WSlot} {i : Nat} {x : RbS} {te ti : TE} {tl : TA}
theorem foot_in (s : St F A H σ δ) (ho : δ[i]? = some (.box (rb F.K w C x))) {a : Addr} (h : a ∈ x.A.foot) : a ∈ A := (s.sd.box i _ ho).2.1 a h
theorem RbH.ne {K : PySem.W.Frag} (h : RbH K w C x H H') : x.A.b ≠ x.A.lt ∧ x.A.b ≠ x.A.ld ∧ x.A.b ≠ x.A.lm ∧ x.A.b ≠ x.A.nd ∧ x.A.lt ≠ x.A.nd ∧ x.A.ld ≠ x.A.nd ∧ x.A.lm ≠ x.A.nd := by
  obtain ⟨xs, a1, _⟩ := h.lt
  obtain ⟨ys, b1, _⟩ := h.ld
  obtain ⟨zs, c1, _⟩ := h.lm
  obtain ⟨es, d1, _, _⟩ := h.nd
  have h0 := h.ins
  refine ⟨fun e => ?_, fun e => ?_, fun e => ?_, fun e => ?_, fun e => ?_, fun e => ?_, fun e => ?_⟩
  · rw [e, a1] at h0; cases h0
  · rw [e, b1] at h0; cases h0
  · rw [e, c1] at h0; cases h0
  · rw [e, d1] at h0; cases h0
  · rw [e, d1] at a1; cases a1
  · rw [e, d1] at b1; cases b1
  · rw [e, d1] at c1; cases c1
/-- self.f -/
theorem fld_rb (c : Cls F.K C) {f : Str} {v : V} (hn : NoAttr F.K C f) (hl : (tbF x.A).lookup f = some v) (s : St F A H σ δ) (ho : δ[i]? = some (.box (rb F.K w C x))) {Q : VK} (q : Q v H) : tFld F.K (tVar i) f σ H Q := by
  obtain ⟨e1, _, h⟩ := s.sd.box i _ ho
  exact ⟨_, e1, x.A.b, C, x.A.dx, tbF x.A, v, rfl, h.ins, c, hn, hl, q⟩
theorem dv_rbAtoms (c : TbC F.K C) (ho : δ[i]? = some (.box (rb F.K w C x))) : DV F (tFld F.K (tVar i) "atoms") δ (.tuple x.at_) := fun A H σ s Q q =>
  fld_rb c.cl c.atoms (tb_atoms x.A) s ho (q _ _ δ H ⟨rfl, rfl⟩ s (WL.Ex.refl _) (s.sd.box i _ ho).2.2.at_)
theorem dl_rbTerms (c : TbC F.K C) (ho : δ[i]? = some (.box (rb F.K w C x))) : DLs F (tFld F.K (tVar i) "terms") δ x.ts := fun A H σ s Q q => by
  obtain ⟨xs, a1, a2⟩ := (s.sd.box i _ ho).2.2.lt
  exact fld_rb c.cl c.terms (tb_terms x.A) s ho (q _ xs _ δ H ⟨rfl, rfl⟩ s (WL.Ex.refl _) (.inl (.inl a1)) a2)
theorem dl_rbDepths (c : TbC F.K C) (ho : δ[i]? = some (.box (rb F.K w C x))) : DLs F (tFld F.K (tVar i) "depths") δ x.ds := fun A H σ s Q q => by
  obtain ⟨xs, a1, a2⟩ := (s.sd.box i _ ho).2.2.ld
  exact fld_rb c.cl c.depths (tb_depths x.A) s ho (q _ xs _ δ H ⟨rfl, rfl⟩ s (WL.Ex.refl _) (.inl (.inl a1)) a2)
theorem dv_rbTermAt (c : TbC F.K C) (ho : δ[i]? = some (.box (rb F.K w C x))) {k : Int} {d : PyData} (hi : DV F ti δ (.int k)) (hk : atI x.ts k = some d) : DV F (tOp (rIxL F.K) (tFld F.K (tVar i) "terms") ti) δ d := fun A H σ s Q q => by
  refine fld_rb c.cl c.terms (tb_terms x.A) s ho ?_
  refine hi A H σ s _ fun v d' δ2 H2 ⟨e3, e4⟩ s2 x2 hv => ?_
  subst e3; subst e4
  obtain ⟨xs, a1, a2⟩ := (s2.sd.box i _ ho).2.2.lt
  obtain ⟨u, eu, hu⟩ := atI_of a2 hk
  rw [dp_int hv]
  exact ⟨_, xs, k, u, rfl, rfl, .inl (.inl a1), eu, q u d _ H2 ⟨rfl, rfl⟩ s2 x2 hu⟩
theorem dv_rbDepthAt (c : TbC F.K C) (ho : δ[i]? = some (.box (rb F.K w C x))) {k : Int} {d : PyData} (hi : DV F ti δ (.int k)) (hk : atI x.ds k = some d) : DV F (tOp (rIxL F.K) (tFld F.K (tVar i) "depths") ti) δ d := fun A H σ s Q q => by
  refine fld_rb c.cl c.depths (tb_depths x.A) s ho ?_
  refine hi A H σ s _ fun v d' δ2 H2 ⟨e3, e4⟩ s2 x2 hv => ?_
  subst e3; subst e4
  obtain ⟨xs, a1, a2⟩ := (s2.sd.box i _ ho).2.2.ld
  obtain ⟨u, eu, hu⟩ := atI_of a2 hk
  rw [dp_int hv]
  exact ⟨_, xs, k, u, rfl, rfl, .inl (.inl a1), eu, q u d _ H2 ⟨rfl, rfl⟩ s2 x2 hu⟩
/-- key not in self.numbers -/
theorem dv_rbNotIn (c : TbC F.K C) (ho : δ[i]? = some (.box (rb F.K w C x))) {d : PyData} (h : DV F te δ d) (hd : KeyOk d = true) (hr : ∃ ds, d = .tuple ds) : DV F (tOp (rDkNotIn F.K w) te (tFld F.K (tVar i) "numbers")) δ (.bool (!(kvAt x.kvs d).isSome)) := fun A H σ s Q q =>
  h A H σ s _ fun v d' δ1 H1 ⟨e1, e2⟩ s1 x1 hv => by
    subst e1; subst e2
    obtain ⟨ds, rfl⟩ := hr
    obtain ⟨b, xs, rfl, _, _⟩ := dp_tup hv
    refine fld_rb c.cl c.numbers (tb_numbers x.A) s1 ho ?_
    obtain ⟨es, a1, a2, a3⟩ := (s1.sd.box i _ ho).2.2.nd
    refine ⟨_, b, es, _, rfl, rfl, .inl a1, a2.ex hid_le, hd, dp_ex hid_le hv, ?_⟩
    rw [kvAt_of, a3]
    exact q _ _ _ H1 ⟨rfl, rfl⟩ s1 x1 (.bl _)
/-- self.numbers[key] -/
theorem dv_rbNum (c : TbC F.K C) (ho : δ[i]? = some (.box (rb F.K w C x))) {d : PyData} {n : Int} (h : DV F te δ d) (hd : KeyOk d = true) (hr : ∃ ds, d = .tuple ds) (hk : kvAt x.kvs d = some (.int n)) : DV F (tOp (rDkGet F.K w) (tFld F.K (tVar i) "numbers") te) δ (.int n) := fun A H σ s Q q => by
  refine fld_rb c.cl c.numbers (tb_numbers x.A) s ho ?_
  refine h A H σ s _ fun v d' δ1 H1 ⟨e1, e2⟩ s1 x1 hv => ?_
  subst e1; subst e2
  obtain ⟨ds, rfl⟩ := hr
  obtain ⟨b, xs, rfl, _, _⟩ := dp_tup hv
  obtain ⟨es, a1, a2, a3⟩ := (s1.sd.box i _ ho).2.2.nd
  refine ⟨_, b, es, _, .int n, rfl, rfl, .inl a1, a2.ex hid_le, hd, dp_ex hid_le hv, ?_, q _ _ _ H1 ⟨rfl, rfl⟩ s1 x1 (.int n)⟩
  rw [kvAt_of, a3, hk]
/-- one of its things is changed -/
theorem step_rb (s : St F A H σ δ) (ho : δ[i]? = some (.box (rb F.K w C x))) {l : Addr} {o : HO} (hl : l ∈ x.A.foot) : BoxStep A A H (upd H l o) x.A.foot x.A.foot := by
  refine ⟨fun a u e n => ?_, fun a h => h, fun a h => .inl h, fun a h => ?_, fun a h => ⟨foot_in s ho h, .inl h⟩⟩
  · rw [upd_ne fun z => n (by rw [z]; exact hl)]; exact e
  · by_cases e : a = l
    · subst e; rw [upd_same]; intro z; cases z
    · rw [upd_ne e]; exact s.live a h
variable {N B Cc : List WSlot → Prop} {R : PyData → List WSlot → Prop}
theorem ds_rbTerm (c : TbC F.K C) (ho : δ[i]? = some (.box (rb F.K w C x))) {d : PyData} (hlen : x.ts.length < sizeLine) (h : DV F te δ d) (hn : N (δ.set i (.box (rb F.K w C { x with ts := x.ts ++ [d] })))) :
    DS F (tDrop (tBM F.K "list" rAppend (tFld F.K (tVar i) "terms") (tCons te tNil))) δ N R B Cc := fun A H σ D s E => by
  refine fld_rb (Q := fun y H1 => tyV F.K "list" y H1 ∧ tCons te tNil σ H1 fun xs H2 => rAppend y xs H2 fun _ H1 => D.nx σ H1) c.cl c.terms (tb_terms x.A) s ho ?_
  obtain ⟨xs, a1, a2⟩ := (s.sd.box i _ ho).2.2.lt
  refine ⟨.inl ⟨rfl, _, SqL.of a1⟩, ?_⟩
  refine h A H σ s _ fun v d' δ1 H1 ⟨e1, e2⟩ s1 x1 hd => ?_
  subst e1; subst e2
  have h1 := (s1.sd.box i _ ho).2.2
  obtain ⟨ys, b1, b2⟩ := h1.lt
  obtain ⟨n1, n2, n3, n4, n5, n6, n7⟩ := h1.ne
  refine ⟨_, ys, v, rfl, rfl, b1, by rw [b2.len]; exact hlen, ?_⟩
  have hm : x.A.lt ∈ x.A.foot := by simp [BkA.foot]
  have S := step_rb (o := .lst (ys ++ [v])) s1 ho hm
  have eh : hid A (upd H1 x.A.lt (.lst (ys ++ [v]))) = hid A H1 := hid_mut (foot_in s1 ho hm)
  refine E.nx _ A _ σ hn (s1.putBox ho rfl S ?_) (by rw [eh]; exact x1)
  obtain ⟨es, c1, c2, c3⟩ := h1.nd
  obtain ⟨us, f1, f2⟩ := h1.ld
  obtain ⟨zs, g1, g2⟩ := h1.lm
  rw [eh]
  exact ⟨by rw [upd_ne n1]; exact h1.ins, ⟨_, upd_same, b2.app (.cons hd .nil)⟩, ⟨us, by rw [upd_ne (Ne.symm h1.n1)]; exact f1, f2⟩, ⟨zs, by rw [upd_ne (Ne.symm h1.n2)]; exact g1, g2⟩, ⟨es, by rw [upd_ne (Ne.symm n5)]; exact c1, c2, c3⟩, h1.at_, h1.n1, h1.n2, h1.n3⟩
theorem ds_rbDepth (c : TbC F.K C) (ho : δ[i]? = some (.box (rb F.K w C x))) {d : PyData} (hlen : x.ds.length < sizeLine) (h : DV F te δ d) (hn : N (δ.set i (.box (rb F.K w C { x with ds := x.ds ++ [d] })))) :
    DS F (tDrop (tBM F.K "list" rAppend (tFld F.K (tVar i) "depths") (tCons te tNil))) δ N R B Cc := fun A H σ D s E => by
  refine fld_rb (Q := fun y H1 => tyV F.K "list" y H1 ∧ tCons te tNil σ H1 fun xs H2 => rAppend y xs H2 fun _ H1 => D.nx σ H1) c.cl c.depths (tb_depths x.A) s ho ?_
  obtain ⟨xs, a1, a2⟩ := (s.sd.box i _ ho).2.2.ld
  refine ⟨.inl ⟨rfl, _, SqL.of a1⟩, ?_⟩
  refine h A H σ s _ fun v d' δ1 H1 ⟨e1, e2⟩ s1 x1 hd => ?_
  subst e1; subst e2
  have h1 := (s1.sd.box i _ ho).2.2
  obtain ⟨ys, b1, b2⟩ := h1.ld
  obtain ⟨n1, n2, n3, n4, n5, n6, n7⟩ := h1.ne
  refine ⟨_, ys, v, rfl, rfl, b1, by rw [b2.len]; exact hlen, ?_⟩
  have hm : x.A.ld ∈ x.A.foot := by simp [BkA.foot]
  have S := step_rb (o := .lst (ys ++ [v])) s1 ho hm
  have eh : hid A (upd H1 x.A.ld (.lst (ys ++ [v]))) = hid A H1 := hid_mut (foot_in s1 ho hm)
  refine E.nx _ A _ σ hn (s1.putBox ho rfl S ?_) (by rw [eh]; exact x1)
  obtain ⟨es, c1, c2, c3⟩ := h1.nd
  obtain ⟨us, f1, f2⟩ := h1.lt
  obtain ⟨zs, g1, g2⟩ := h1.lm
  rw [eh]
  exact ⟨by rw [upd_ne n2]; exact h1.ins, ⟨us, by rw [upd_ne h1.n1]; exact f1, f2⟩, ⟨_, upd_same, b2.app (.cons hd .nil)⟩, ⟨zs, by rw [upd_ne (Ne.symm h1.n3)]; exact g1, g2⟩, ⟨es, by rw [upd_ne (Ne.symm n6)]; exact c1, c2, c3⟩, h1.at_, h1.n1, h1.n2, h1.n3⟩
theorem ds_rbMaking (c : TbC F.K C) (ho : δ[i]? = some (.box (rb F.K w C x))) {d : PyData} (hlen : x.ms.length < sizeLine) (h : DV F te δ d) (hn : N (δ.set i (.box (rb F.K w C { x with ms := x.ms ++ [d] })))) :
    DS F (tDrop (tBM F.K "list" rAppend (tFld F.K (tVar i) "makings") (tCons te tNil))) δ N R B Cc := fun A H σ D s E => by
  refine fld_rb (Q := fun y H1 => tyV F.K "list" y H1 ∧ tCons te tNil σ H1 fun xs H2 => rAppend y xs H2 fun _ H1 => D.nx σ H1) c.cl c.makings (tb_makings x.A) s ho ?_
  obtain ⟨xs, a1, a2⟩ := (s.sd.box i _ ho).2.2.lm
  refine ⟨.inl ⟨rfl, _, SqL.of a1⟩, ?_⟩
  refine h A H σ s _ fun v d' δ1 H1 ⟨e1, e2⟩ s1 x1 hd => ?_
  subst e1; subst e2
  have h1 := (s1.sd.box i _ ho).2.2
  obtain ⟨ys, b1, b2⟩ := h1.lm
  obtain ⟨n1, n2, n3, n4, n5, n6, n7⟩ := h1.ne
  refine ⟨_, ys, v, rfl, rfl, b1, by rw [b2.len]; exact hlen, ?_⟩
  have hm : x.A.lm ∈ x.A.foot := by simp [BkA.foot]
  have S := step_rb (o := .lst (ys ++ [v])) s1 ho hm
  have eh : hid A (upd H1 x.A.lm (.lst (ys ++ [v]))) = hid A H1 := hid_mut (foot_in s1 ho hm)
  refine E.nx _ A _ σ hn (s1.putBox ho rfl S ?_) (by rw [eh]; exact x1)
  obtain ⟨es, c1, c2, c3⟩ := h1.nd
  obtain ⟨us, f1, f2⟩ := h1.lt
  obtain ⟨zs, g1, g2⟩ := h1.ld
  rw [eh]
  exact ⟨by rw [upd_ne n3]; exact h1.ins, ⟨us, by rw [upd_ne h1.n2]; exact f1, f2⟩, ⟨zs, by rw [upd_ne h1.n3]; exact g1, g2⟩, ⟨_, upd_same, b2.app (.cons hd .nil)⟩, ⟨es, by rw [upd_ne (Ne.symm n7)]; exact c1, c2, c3⟩, h1.at_, h1.n1, h1.n2, h1.n3⟩
/-- self.numbers[key] = n, the key being new -/
theorem ds_rbPut (c : TbC F.K C) (ho : δ[i]? = some (.box (rb F.K w C x))) {d : PyData} {n : Int} (hlen : x.kvs.length < sizeLine) (h : DV F te δ (.int n)) (hd : DV F ti δ d) (ok : KeyOk d = true) (hr : ∃ ds, d = .tuple ds) (hk : kvAt x.kvs d = none) (hn : N (δ.set i (.box (rb F.K w C { x with kvs := x.kvs ++ [(d, .int n)] })))) :
    DS F (tAsg te (gSub (tFld F.K (tVar i) "numbers") ti (rDkSet F.K w))) δ N R B Cc := fun A H σ D s E =>
  h A H σ s _ fun v d' δ1 H1 ⟨e1, e2⟩ s1 x1 hv => by
    subst e1; subst e2
    refine fld_rb c.cl c.numbers (tb_numbers x.A) s1 ho ?_
    refine hd A H1 σ s1 _ fun u d' δ2 H2 ⟨e3, e4⟩ s2 x2 hu => ?_
    subst e3; subst e4
    obtain ⟨ds, rfl⟩ := hr
    obtain ⟨b, xs, rfl, _, _⟩ := dp_tup hu
    have h1 := (s2.sd.box i _ ho).2.2
    obtain ⟨es, c1, c2, c3⟩ := h1.nd
    obtain ⟨n1, n2, n3, n4, n5, n6, n7⟩ := h1.ne
    rw [dp_int hv]
    refine ⟨_, b, es, _, rfl, rfl, c1, c2.ex hid_le, ok, dp_ex hid_le hu, ?_, ?_⟩
    · have : es.length = x.kvs.length := by rw [← c3]; unfold kvOf; rw [List.length_map]
      omega
    · rw [kvPut_new (by rw [c3]; exact hk)]
      have hm : x.A.nd ∈ x.A.foot := by simp [BkA.foot]
      have S := step_rb (o := DkO w x.A.nd (es ++ [(.tuple ds, b, .int n)])) s2 ho hm
      have eh : hid A (upd H2 x.A.nd (DkO w x.A.nd (es ++ [(.tuple ds, b, .int n)]))) = hid A H2 := hid_mut (foot_in s2 ho hm)
      refine E.nx _ A _ σ hn (s2.putBox ho rfl S ?_) (by rw [eh]; exact x1.trans x2)
      obtain ⟨us, f1, f2⟩ := h1.lt
      obtain ⟨ws, i1, i2⟩ := h1.ld
      obtain ⟨zs, g1, g2⟩ := h1.lm
      rw [eh]
      refine ⟨by rw [upd_ne n4]; exact h1.ins, ⟨us, by rw [upd_ne n5]; exact f1, f2⟩, ⟨ws, by rw [upd_ne n6]; exact i1, i2⟩, ⟨zs, by rw [upd_ne n7]; exact g1, g2⟩, ⟨_, upd_same, fun e he => ?_, ?_⟩, h1.at_, h1.n1, h1.n2, h1.n3⟩
      · rcases List.mem_append.mp he with z | z
        · exact c2 e z
        · rw [List.mem_singleton.mp z]; exact ⟨ok, hu⟩
      · unfold kvOf at c3 ⊢
        rw [List.map_append, c3]; rfl
end
end WL
end
section
set_option Elab.async false
set_option linter.all false
set_option maxRecDepth 100000
/-! max of a tuple of ints; min of a list of texts with default=None -/
namespace WL
open PySem PySem.Spec PyProof.Rows L2
def minS (x : Str) (xs : List Str) : Str := xs.foldl (fun a y => if y.cps.toList < a.cps.toList then y else a) x
theorem minD_strs (n : Str) : ∀ ns : List Str, PySem.W.minD (.str n) (ns.map .str) = .str (minS n ns) := by
  intro ns
  unfold PySem.W.minD minS
  induction ns generalizing n with
  | nil => rfl
  | cons k r ih =>
    rw [List.map_cons, List.foldl_cons, List.foldl_cons, ← ih]
    (try dsimp only)
    rw [PySem.W.dataLt_str]
    by_cases hk : k.cps.toList < n.cps.toList
    · rw [if_pos (decide_eq_true hk), if_pos hk]
    · rw [if_neg (by simpa using hk), if_neg hk]
def maxI (x : Int) (xs : List Int) : Int := xs.foldl max x
section
variable {X : Cx}
def rMaxT (K : PySem.W.Frag) : List V → Hp → VK → Prop := fun xs H Q => ∃ (a : Addr) (n : Int) (ns : List Int), xs = [.ref a] ∧ SqT K H a ((n :: ns).map V.int) ∧ Q (.int (maxI n ns)) H
theorem alikeInts (ns : List Int) : PySem.W.AlikeAll (ns.map PyData.int) := by
  refine ⟨fun x hx y hy => ?_, fun x hx => ?_⟩
  · obtain ⟨i, _, rfl⟩ := List.mem_map.mp hx
    obtain ⟨j, _, rfl⟩ := List.mem_map.mp hy
    rfl
  · obtain ⟨i, _, rfl⟩ := List.mem_map.mp hx
    intro z; cases z
theorem alikeStrs (ns : List Str) : PySem.W.AlikeAll (ns.map PyData.str) := by
  refine ⟨fun x hx y hy => ?_, fun x hx => ?_⟩
  · obtain ⟨i, _, rfl⟩ := List.mem_map.mp hx
    obtain ⟨j, _, rfl⟩ := List.mem_map.mp hy
    rfl
  · obtain ⟨i, _, rfl⟩ := List.mem_map.mp hx
    intro z; cases z
theorem depthInts : ∀ ns : List Int, PyData.depthAll (ns.map PyData.int) = 0
  | [] => rfl
  | n :: ns => by
    show max (PyData.int n).depth (PyData.depthAll (ns.map PyData.int)) = 0
    rw [depthInts ns]; rfl
theorem depthStrs : ∀ ns : List Str, PyData.depthAll (ns.map PyData.str) = 0
  | [] => rfl
  | n :: ns => by
    show max (PyData.str n).depth (PyData.depthAll (ns.map PyData.str)) = 0
    rw [depthStrs ns]; rfl
theorem dpInts {K : PySem.W.Frag} {H : Hp} : ∀ ns : List Int, DpAll K H (ns.map V.int) (ns.map PyData.int)
  | [] => .nil
  | n :: ns => .cons (.int n) (dpInts ns)
theorem dpStrs {K : PySem.W.Frag} {H : Hp} : ∀ ns : List Str, DpAll K H (ns.map V.str) (ns.map PyData.str)
  | [] => .nil
  | n :: ns => .cons (.str n) (dpStrs ns)
theorem cr_maxT (hc : X.calm = true) (hu : X.A.units + 64 < cLine) : CallR X (.builtin "max") (rMaxT X.K) := by
  intro pins s σ H vs us Q I r h
  obtain ⟨a, n, ns, rfl, hs, q⟩ := h
  obtain ⟨its, rv, hl, _⟩ := I.tuple hs
  rw [Vals.ref1 r]
  obtain ⟨as, hr⟩ := Dp.readsAll I _ _ _ (dpInts (n :: ns)) rv
  refine PySem.W.max_tuple_data (x := .int n) (xs := ns.map .int) (I.ok.hd hc) (let ⟨o, ho, hc, n, hd⟩ := hl; ⟨o, ho, hc, n, hd⟩) (vs := its.toArray) (by simpa using hr) (alikeInts (n :: ns)) (by
    have := depthInts (n :: ns)
    rw [List.map_cons] at this
    omega) fun i v h' tk bs hi hrd hk => ?_
  rw [PySem.W.maxD_ints] at hrd
  cases hrd with
  | int i t => exact ⟨.int _, H, I.kept hk, ⟨_, rfl⟩, q⟩
def rMinS (K : PySem.W.Frag) : List V → List V → Hp → VK → Prop := fun xs ks H Q => ∃ (a : Addr) (zs : List Str), xs = [.ref a] ∧ ks = [.non] ∧ SqL K H a (zs.map V.str) ∧ (zs = [] → Q .non H) ∧ (∀ y ys, zs = y :: ys → Q (.str (minS y ys)) H)
theorem cr_minS (hc : X.calm = true) (hu : X.A.units + 64 < cLine) : CallRK X (.builtin "min") [Str.ofString "default"] (rMinS X.K) := by
  intro pins s σ H vs zs us ws Q I r rz h
  obtain ⟨a, xs, rfl, rfl, hs, q0, q⟩ := h
  obtain rfl := Vals.ref1 r
  obtain ⟨w1, rfl, e1⟩ := vals1 rz
  obtain rfl : w1 = Value.none := e1
  obtain ⟨its, rv, hl, _⟩ := I.list hs
  obtain ⟨as, hr⟩ := Dp.readsAll I _ _ _ (dpStrs xs) rv
  refine PySem.W.min_list_default (xs := xs.map .str) (I.ok.hd hc) hl.isList (vs := its.toArray) (by simpa using hr) (alikeStrs xs) (by
    have := depthStrs xs
    omega) (fun e h' tk hk => ?_) fun y ys i v h' tk bs e hi hrd hk => ?_
  · exact ⟨.non, H, I.kept hk, rfl, q0 (List.map_eq_nil_iff.mp e)⟩
  · cases xs with
    | nil => cases e
    | cons z zs =>
      rw [List.map_cons] at e
      injection e with e1 e2
      subst e1; subst e2
      rw [minD_strs] at hrd
      cases hrd with
      | str i t => exact ⟨.str _, H, I.kept hk, ⟨_, rfl⟩, q z zs rfl⟩
end
theorem dv_maxT {F : Fx} {te : TE} {δ : List WSlot} {n : Int} {ns : List Int} (h : DV F te δ (.tuple ((n :: ns).map PyData.int))) : DV F (tCB (rMaxT F.K) (tCons te tNil)) δ (.int (maxI n ns)) :=
  dv_cb1 h fun A H v l hv Q q => by
    obtain ⟨a, xs, rfl, t1, t2⟩ := dp_tup hv
    have e : xs = (n :: ns).map V.int := by
      have : ∀ {is : List Int} {vs : List V}, DtAll F.K (hid A H) vs (is.map PyData.int) → vs = is.map V.int := by
        intro is
        induction is with
        | nil => intro vs h; cases h; rfl
        | cons i r ih => intro vs h; cases h with | cons h1 h2 => rw [dp_int h1, ih h2]; rfl
      exact this t2
    subst e
    exact ⟨a, n, ns, rfl, sqt_ex hid_le t1, q _ H (WL.Ex.refl _) (.int _)⟩
theorem dv_maxL {F : Fx} {te : TE} {δ : List WSlot} {n : Int} {ns : List Int} (h : DLs F te δ ((n :: ns).map PyData.int)) : DV F (tCB (rMax F.K) (tCons te tNil)) δ (.int (maxI n ns)) := fun A H σ s Q q =>
  h A H σ s _ fun a xs ds' δ1 H1 ⟨e1, e2⟩ s1 x1 h1 h2 => by
    subst e1; subst e2
    have e : xs = (n :: ns).map V.int := by
      have : ∀ {is : List Int} {vs : List V}, DtAll F.K (hid A H1) vs (is.map PyData.int) → vs = is.map V.int := by
        intro is
        induction is with
        | nil => intro vs h; cases h; rfl
        | cons i r ih => intro vs h; cases h with | cons h1 h2 => rw [dp_int h1, ih h2]; rfl
      exact this h2
    subst e
    refine ⟨a, n :: ns, rfl, h1, Nat.succ_pos _, fun m hm hle => ?_⟩
    have em : m = maxI n ns := by
      have h3 : ∀ (ns : List Int) (n : Int), n ≤ maxI n ns ∧ (∀ y ∈ ns, y ≤ maxI n ns) ∧ (maxI n ns = n ∨ maxI n ns ∈ ns) := by
        intro ns
        induction ns with
        | nil => intro n; exact ⟨Int.le_refl _, fun y hy => (by cases hy), .inl rfl⟩
        | cons k r ih =>
          intro n
          have := ih (max n k)
          show n ≤ maxI (max n k) r ∧ _ ∧ _
          obtain ⟨a1, a2, a3⟩ := this
          refine ⟨by omega, fun y hy => ?_, ?_⟩
          · rcases List.mem_cons.mp hy with e | hy
            · subst e; show y ≤ maxI (max n y) r; omega
            · exact a2 y hy
          · rcases a3 with e | e
            · show maxI (max n k) r = n ∨ maxI (max n k) r ∈ k :: r
              rw [e]
              by_cases hk : n ≤ k
              · exact .inr (by rw [show max n k = k by omega]; exact List.mem_cons_self)
              · exact .inl (by omega)
            · exact .inr (List.mem_cons_of_mem _ e)
      obtain ⟨b1, b2, b3⟩ := h3 ns n
      have c1 : m ≤ maxI n ns := by
        rcases List.mem_cons.mp hm with e | e
        · rw [e]; exact b1
        · exact b2 m e
      have c2 : maxI n ns ≤ m := by
        rcases b3 with e | e
        · rw [e]; exact hle n List.mem_cons_self
        · exact hle _ (List.mem_cons_of_mem _ e)
      omega
    rw [em]
    exact q _ _ _ H1 ⟨rfl, rfl⟩ s1 x1 (.int _)
end WL
end
section
set_option Elab.async false
set_option linter.all false
set_option maxRecDepth 100000
/-! New instances: a constructor fills the fields of a box. -/
namespace WL
open PySem PySem.Spec PyProof.Rows L2
theorem pi_tupN {X : Cx} {tg e : Expr} {te : TE} (K : PySem.W.Frag) (he : PE X e te) (hK : X.K = K := by rfl) : PI X tg e (iTup K te) := hK ▸ pi_tup he
/-- what is true of things at ft -/
structure Loc (ft : List Addr) where
  p : Hp → Hp → Prop
  loc : ∀ {H H' Hh Hh' : Hp}, (∀ a ∈ ft, H' a = H a) → Ex Hh Hh' → p H Hh → p H' Hh'
def Loc.tt : Loc [] := ⟨fun _ _ => True, fun _ _ h => h⟩
def Loc.dat {ft : List Addr} (L : Loc ft) (K : PySem.W.Frag) (v : V) (d : PyData) : Loc ft := ⟨fun H Hh => L.p H Hh ∧ Dt K Hh v d, fun k e h => ⟨L.loc k e h.1, dp_ex e h.2⟩⟩
def Loc.lst {ft : List Addr} (L : Loc ft) (K : PySem.W.Frag) (l : Addr) (ds : List PyData) : Loc (l :: ft) :=
  ⟨fun H Hh => l ∉ ft ∧ L.p H Hh ∧ ∃ xs, H l = some (.lst xs) ∧ DtAll K Hh xs ds, fun k e h => by
    obtain ⟨n, h1, xs, h2, h3⟩ := h
    exact ⟨n, L.loc (fun a ha => k a (List.mem_cons_of_mem _ ha)) e h1, xs, by rw [k l List.mem_cons_self]; exact h2, dpa_ex e h3⟩⟩
def Loc.dk {ft : List Addr} (L : Loc ft) (w : World) (l : Addr) : Loc (l :: ft) :=
  ⟨fun H Hh => l ∉ ft ∧ L.p H Hh ∧ H l = some (DkO w l []), fun k e h => by
    obtain ⟨n, h1, h2⟩ := h
    exact ⟨n, L.loc (fun a ha => k a (List.mem_cons_of_mem _ ha)) e h1, by rw [k l List.mem_cons_self]; exact h2⟩⟩
def insB (C p dx : Addr) (fs : List (Str × V)) {ft : List Addr} (L : Loc ft) : Box where
  root := .ref p
  foot := p :: ft
  holds := fun H Hh => p ∉ ft ∧ H p = some (.ins C dx fs) ∧ L.p H Hh
  loc := fun k e h => ⟨h.1, by rw [k p List.mem_cons_self]; exact h.2.1, L.loc (fun a ha => k a (List.mem_cons_of_mem _ ha)) e h.2.2⟩
section
variable {F : Fx} {C p dx : Addr} {fs : List (Str × V)} {ft : List Addr} {L : Loc ft} {A : List Addr} {H H' : Hp} {σ : List (Option V)} {δ : List WSlot} {i : Nat} {te : TE} {f : Str} {d : PyData} {N B Cc : List WSlot → Prop} {R : PyData → List WSlot → Prop}
theorem ds_insD (hc : Cls F.K C) (hn : NoAttr F.K C f) (hl : fs.length < 1000) (ho : δ[i]? = some (.box (insB C p dx fs L))) (h : DV F te δ d) (hN : ∀ v, N (δ.set i (.box (insB C p dx (putF f v fs) (L.dat F.K v d))))) : DS F (sFld F.K (tVar i) te f) δ N R B Cc := fun A H σ D s E =>
  h A H σ s _ fun v d' δ1 H1 ⟨e1, e2⟩ s1 x1 hv => by
    subst e1; subst e2
    obtain ⟨r1, r2, r3, r4, r5⟩ := s1.sd.box i _ ho
    refine ⟨.ref p, r1, p, C, dx, fs, rfl, r4, hc, hn, hl, ?_⟩
    have hp : p ∈ A := r2 p List.mem_cons_self
    have eh : hid A (upd H1 p (.ins C dx (putF f v fs))) = hid A H1 := hid_mut hp
    refine E.nx _ A _ σ (hN v) (s1.putBox (b' := insB C p dx (putF f v fs) (L.dat F.K v d')) ho rfl ⟨fun a o e n => ?_, fun a h => h, fun a h => .inl h, fun a h => ?_, fun a h => ⟨r2 a h, .inl h⟩⟩ ?_) (by rw [eh]; exact x1)
    · rw [upd_ne fun z => n (by rw [z]; exact List.mem_cons_self)]; exact e
    · by_cases e : a = p
      · subst e; rw [upd_same]; intro z; cases z
      · rw [upd_ne e]; exact s1.live a h
    · rw [eh]
      exact ⟨r3, upd_same, L.loc (fun a ha => upd_ne fun e => r3 (by rw [← e]; exact ha)) (WL.Ex.refl _) r5, hv⟩
/-- .. a new thing that is owned -/
theorem ins_new (s1 : St F A H σ δ) (ho : δ[i]? = some (.box (insB C p dx fs L))) {l : Addr} {o : HO} {fs' : List (Str × V)} {L' : Loc (l :: ft)} (hn : H l = none) (h' : ∀ H', H' l = some o → (∀ a ∈ ft, H' a = H a) → L.p H' (hid A H) → L'.p H' (hid A H)) :
    St F (l :: A) (upd (upd H l o) p (.ins C dx fs')) σ (δ.set i (.box (insB C p dx fs' L'))) ∧ Ex (hid A H) (hid (l :: A) (upd (upd H l o) p (.ins C dx fs'))) := by
  obtain ⟨r1, r2, r3, r4, r5⟩ := s1.sd.box i _ ho
  have hp : p ∈ A := r2 p List.mem_cons_self
  have hlA : l ∉ A := s1.live.out hn
  have hpl : p ≠ l := fun e => hlA (by rw [← e]; exact hp)
  have eh : hid (l :: A) (upd (upd H l o) p (.ins C dx fs')) = hid A H := by rw [hid_mut (List.mem_cons_of_mem _ hp), hid_own hn]
  refine ⟨s1.putBox (b' := insB C p dx fs' L') ho rfl ⟨fun a u e n => ?_, fun a h => List.mem_cons_of_mem _ h, fun a h => ?_, fun a h => ?_, fun a h => ?_⟩ ?_, by rw [eh]; exact WL.Ex.refl _⟩
  · rw [upd_ne fun z => n (by rw [z]; exact List.mem_cons_self), upd_ne fun z => by rw [z, hn] at e; cases e]; exact e
  · rcases List.mem_cons.mp h with e | h
    · exact .inr (by rw [e]; exact hn)
    · exact .inl h
  · by_cases e : a = p
    · subst e; rw [upd_same]; intro z; cases z
    · rw [upd_ne e]
      by_cases e2 : a = l
      · subst e2; rw [upd_same]; intro z; cases z
      · rw [upd_ne e2]
        rcases List.mem_cons.mp h with e | h
        · exact absurd e e2
        · exact s1.live a h
  · rcases List.mem_cons.mp h with e | h
    · subst e; exact ⟨List.mem_cons_of_mem _ hp, .inl List.mem_cons_self⟩
    · rcases List.mem_cons.mp h with e | h
      · subst e; exact ⟨List.mem_cons_self, .inr hn⟩
      · exact ⟨List.mem_cons_of_mem _ (r2 a (List.mem_cons_of_mem _ h)), .inl (List.mem_cons_of_mem _ h)⟩
  · rw [eh]
    have hlf : ∀ a ∈ ft, (upd (upd H l o) p (.ins C dx fs')) a = H a := fun a ha => by
      rw [upd_ne fun e => r3 (by rw [← e]; exact ha), upd_ne fun e => hlA (by rw [← e]; exact r2 a (List.mem_cons_of_mem _ ha))]
    refine ⟨fun z => ?_, upd_same, h' _ (by rw [upd_ne (Ne.symm hpl), upd_same]) hlf (L.loc hlf (WL.Ex.refl _) r5)⟩
    rcases List.mem_cons.mp z with e | z
    · exact hpl e
    · exact r3 z
theorem ds_insL (hc : Cls F.K C) (hn : NoAttr F.K C f) (hl : fs.length < 1000) (ho : δ[i]? = some (.box (insB C p dx fs L))) {ds : List PyData} (h : DN F te δ (is1 δ ds)) (hN : ∀ l, N (δ.set i (.box (insB C p dx (putF f (.ref l) fs) (L.lst F.K l ds))))) : DS F (sFld F.K (tVar i) te f) δ N R B Cc := fun A H σ D s E =>
  h A H σ s _ fun l xs ds' δ1 H1 ⟨e1, e2⟩ s1 x1 hnew hv => by
    subst e1; subst e2
    obtain ⟨r1, r2, r3, r4, r5⟩ := s1.sd.box i _ ho
    have hp : p ∈ A := r2 p List.mem_cons_self
    have hlA : l ∉ A := s1.live.out hnew
    refine ⟨.ref p, r1, p, C, dx, fs, rfl, by rw [upd_ne fun e => hlA (by rw [← e]; exact hp)]; exact r4, hc, hn, hl, ?_⟩
    obtain ⟨s2, x2⟩ := ins_new (fs' := putF f (.ref l) fs) (L' := L.lst F.K l ds') (o := .lst xs) s1 ho hnew fun H' h1 h2 h3 => ⟨fun z => hlA (r2 l (List.mem_cons_of_mem _ z)), h3, xs, h1, hv⟩
    exact E.nx _ _ _ σ (hN l) s2 (x1.trans x2)
theorem ds_insK {w : World} (hc : Cls F.K C) (hn : NoAttr F.K C f) (hl : fs.length < 1000) (ho : δ[i]? = some (.box (insB C p dx fs L))) (hN : ∀ l, N (δ.set i (.box (insB C p dx (putF f (.ref l) fs) (L.dk w l))))) : DS F (sFld F.K (tVar i) (tDkNew w) f) δ N R B Cc := fun A H σ D s E => by
  intro l hnew
  obtain ⟨r1, r2, r3, r4, r5⟩ := s.sd.box i _ ho
  have hp : p ∈ A := r2 p List.mem_cons_self
  have hlA : l ∉ A := s.live.out hnew
  refine ⟨.ref p, r1, p, C, dx, fs, rfl, by rw [upd_ne fun e => hlA (by rw [← e]; exact hp)]; exact r4, hc, hn, hl, ?_⟩
  obtain ⟨s2, x2⟩ := ins_new (fs' := putF f (.ref l) fs) (L' := L.dk w l) (o := DkO w l []) s ho hnew fun H' h1 h2 h3 => ⟨fun z => hlA (r2 l (List.mem_cons_of_mem _ z)), h3, h1⟩
  exact E.nx _ _ _ σ (hN l) s2 x2
end
theorem dn_listRg {F : Fx} {te : TE} {δ : List WSlot} {n : Nat} (h : DV F te δ (.int n)) (hn : n ≤ 100000) : DN F (tLstRg (tRg1 te)) δ (is1 δ (rangeD n)) := fun A H σ s Q q =>
  h A H σ s _ fun v d δ1 H1 ⟨e1, e2⟩ s1 x1 hd => by
    subst e1; subst e2
    refine ⟨(n : Int), dp_int hd, RgOk.of_le (by omega) (by omega) (by omega) (by omega), fun p hp => ?_⟩
    have e : rgV 0 n = (List.range n).map fun (i : Nat) => V.int i := by
      unfold rgV
      have e1 : ((n : Int) - 0).toNat = n := by omega
      rw [e1]
      exact List.map_congr_left fun i _ => by rw [Int.zero_add]
    rw [e]
    have hl : ∀ (H : Hp) (l : List Nat), DtAll F.K H (l.map fun (i : Nat) => V.int i) (l.map fun (i : Nat) => PyData.int i) := fun H l => by
      induction l with
      | nil => exact .nil
      | cons a l ih => exact .cons (.int _) ih
    exact q _ _ _ _ _ ⟨rfl, rfl⟩ s1 x1 hp (hl _ (List.range n))
/-- what a constructor promises: a box -/
def spNew (K : PySem.W.Frag) (C : Addr) (rel : List PyData → (Box → Prop) → Prop) : Sp := fun vs H Q _ => ∃ (A : List Addr) (p dx : Addr) (us : List V) (ds : List PyData) (Pb : Box → Prop), vs = .ref p :: us ∧ Live A H ∧ p ∈ A ∧ H p = some (.ins C dx []) ∧ DtAll K (hid A H) us ds ∧ rel ds Pb ∧
  ∀ b A' H', Pb b → b.root = .ref p → BoxStep A A' H H' [p] b.foot → b.holds H' (hid A' H') → Q .non H'
theorem ds_setNew {F : Fx} {C : Addr} {rel : List PyData → (Box → Prop) → Prop} {E : XK} {tl : TA} {δ : List WSlot} {N B Cc : List WSlot → Prop} {R : PyData → List WSlot → Prop} {es : List PyData} {Pb : Box → Prop} {j : Nat} (h : DAs F tl δ es) (hr : rel es Pb) (hN : ∀ b, Pb b → N (δ.set j (.box b))) :
    DS F (tAsg (tMake C (spNew F.K C rel) [] E tl) (gName j)) δ N R B Cc := fun A H σ D s Ed =>
  h A H σ s _ fun vs es' δ1 H1 ⟨e1, e2⟩ s1 x1 hv => by
    subst e1; subst e2
    intro x dx nx ndx ne
    have hxA : x ∉ A := s1.live.out nx
    have hdA : dx ∉ A := s1.live.out ndx
    have eh : hid (x :: A) (upd (upd H1 dx (.own x)) x (.ins C dx [])) = hid A (upd H1 dx (.own x)) := hid_own (by rw [upd_ne (Ne.symm ne)]; exact nx)
    have ex : Ex (hid A H1) (hid (x :: A) (upd (upd H1 dx (.own x)) x (.ins C dx []))) := by rw [eh]; exact hid_ex (WL.Ex.new ndx)
    refine ⟨x :: A, x, dx, vs, _, Pb, by rw [List.append_nil], fun a ha => ?_, List.mem_cons_self, upd_same, dpa_ex ex hv, hr, fun b A' H' pb hroot S hh => ⟨rfl, ?_⟩⟩
    · by_cases e : a = x
      · subst e; rw [upd_same]; intro z; cases z
      · rw [upd_ne e]
        rcases List.mem_cons.mp ha with q | q
        · exact absurd q e
        · rw [upd_ne fun z => hdA (by rw [← z]; exact q)]; exact s1.live a q
    · have S2 : BoxStep A A' H1 H' [] b.foot := by
        refine ⟨fun a o e _ => S.keep a o ?_ fun z => ?_, fun a ha => S.grow a (List.mem_cons_of_mem _ ha), fun a ha => ?_, S.live, fun a ha => ⟨(S.foot a ha).1, .inr ?_⟩⟩
        · rw [upd_ne (ne_of_none e nx), upd_ne (ne_of_none e ndx)]; exact e
        · rw [List.mem_singleton.mp z, nx] at e; cases e
        · rcases S.new a ha with q | q
          · rcases List.mem_cons.mp q with q | q
            · exact .inr (by rw [q]; exact nx)
            · exact .inl q
          · refine .inr ?_
            by_cases e : a = x
            · rw [e]; exact nx
            · rw [upd_ne e] at q
              by_cases e2 : a = dx
              · rw [e2]; exact ndx
              · rw [upd_ne e2] at q; exact q
        · rcases (S.foot a ha).2 with q | q
          · rw [List.mem_singleton.mp q]; exact nx
          · by_cases e : a = x
            · rw [e]; exact nx
            · rw [upd_ne e] at q
              by_cases e2 : a = dx
              · rw [e2]; exact ndx
              · rw [upd_ne e2] at q; exact q
      have := s1.newBox (i := j) S2 hh
      rw [hroot] at this
      exact Ed.nx _ A' H' _ (hN b pb) this (x1.trans (S2.ex fun a ha => by cases ha))
section
variable {P : Program} {w : World} {K : PySem.W.Frag} {mg : Str → Option Value} {base : Heap}
theorem fnNew {x qual : Str} {st : Stmt} {f C : Addr} {fd : FuncData} {N ps : List Str} {k : Nat} {rel : List PyData → (Box → Prop) → Prop} (G : Fun K x qual st f fd) (S : FnScope N ps (defScope st)) (hlen : ∀ es Pb, rel es Pb → es.length + 1 = ps.length) (hN : 0 < N.length)
    (hb : ∀ (cdv : Value) (A : Around) (outer : List Env) (s : Shared) (H : Hp) (E : XK), Room k (A.deeper (envOfC qual (defScope st) s.heap.objs.size f cdv)) →
      ∃ t, PSs (cxOf CX0 P w K mg base N qual (defScope st) f cdv A outer s H E).nox (defBody st) t ∧
        ∀ A0 p dx es Pb, rel es Pb → DS ⟨K, H, A0, [p]⟩ t (.box (insB C p dx [] Loc.tt) :: env0 N.tail es) (fun δ' => ∃ b, δ'[0]? = some (.box b) ∧ b.root = .ref p ∧ Pb b) (fun _ _ => False) (fun _ => False) (fun _ => False)) :
    FnOk P w K mg base CX0 (k + 1) f fd ps (spNew K C rel) :=
  G.ok S (fun vs H Q E ⟨A0, p, dx, us, es, Pb, e, lv, hf, hh, hv, hr, q⟩ => by rw [e, List.length_cons, hv.len]; exact hlen es Pb hr) fun cdv A outer s H vs Q E hr ⟨A0, p, dx, us, es, Pb, e, lv, hf, hh, hv, hrel, q⟩ => by
    subst e
    obtain ⟨t, ht, hD⟩ := hb cdv A outer s H E hr
    have s0 := st_box (b := insB C p dx [] Loc.tt) (K := K) hN lv (fun a ha => by rw [List.mem_singleton.mp ha]; exact hf) ⟨by simp, hh, True.intro⟩ hv
    refine ⟨t, ht, hD A0 p dx es Pb hrel A0 H _ _ s0 ⟨fun δ' A' H' σ' ⟨b, h0, hroot, pb⟩ s' x => ?_, fun _ _ _ _ _ _ z => z.elim, fun _ _ _ _ z => z.elim, fun _ _ _ _ z => z.elim⟩⟩
    obtain ⟨q1, q2, _⟩ := left_box (b := insB C p dx [] Loc.tt) s' h0
    exact q b _ H' pb hroot q1 q2
end
end WL
end
section
set_option Elab.async false
set_option linter.all false
set_option maxRecDepth 100000
/-! Dicts as boxes; locked while they are walked; defs that are handed several boxes. -/
namespace WL
open PySem PySem.Spec PyProof.Rows L2
def ftAll (δ : List WSlot) : List Addr := δ.flatMap WSlot.foot
theorem ftAll_mem {δ : List WSlot} {a : Addr} : a ∈ ftAll δ ↔ ∃ (i : Nat) (w : WSlot), δ[i]? = some w ∧ a ∈ w.foot := by
  unfold ftAll
  rw [List.mem_flatMap]
  constructor
  · rintro ⟨w, hw, ha⟩
    obtain ⟨i, hi, e⟩ := List.getElem_of_mem hw
    exact ⟨i, w, List.getElem?_eq_some_iff.mpr ⟨hi, e⟩, ha⟩
  · rintro ⟨i, w, h, ha⟩
    exact ⟨w, List.mem_of_getElem? h, ha⟩
/-- a frame of its own that begins here -/
theorem St.fresh {F : Fx} {A : List Addr} {H : Hp} {σ : List (Option V)} {δ : List WSlot} (s : St F A H σ δ) : St ⟨F.K, H, A, ftAll δ⟩ A H σ δ :=
  ⟨s.sd, Bs.start H A _ s.sd.live fun a ha => by
    obtain ⟨i, w, h, ha⟩ := ftAll_mem.mp ha
    exact s.sd.inA h a ha, fun i w h a ha => .inl (ftAll_mem.mpr ⟨i, w, h, ha⟩)⟩
/-- .. and ends: back to the elder frame -/
theorem St.back {F : Fx} {A A' : List Addr} {H H' : Hp} {σ σ' : List (Option V)} {δ δ' : List WSlot} (s : St F A H σ δ) (s' : St ⟨F.K, H, A, ftAll δ⟩ A' H' σ' δ') : St F A' H' σ' δ' := by
  refine ⟨s'.sd, ⟨fun a o h => ?_, fun a ha => s'.bs.sub a (s.bs.sub a ha), s.bs.ml, s.bs.lv⟩, fun i w h a ha => ?_⟩
  · obtain ⟨h1, h2⟩ := hid_some h
    have hn : a ∉ ftAll δ := fun z => by
      obtain ⟨i, w, hw, ha⟩ := ftAll_mem.mp z
      rcases s.mineF i w hw a ha with y | y
      · exact h1 y
      · rw [y] at h2; cases h2
    exact s'.bs.kept a o (by rw [hid_out hn]; exact s.bs.kept a o h)
  · rcases s'.mineF i w h a ha with z | z
    · obtain ⟨j, w2, hw, ha2⟩ := ftAll_mem.mp z
      exact s.mineF j w2 hw a ha2
    · exact H0none s z
/-! ### dicts -/
def kvPut (kvs : List (PyData × V)) (d : PyData) (v : V) : List (PyData × V) := if (kvAt kvs d).isSome then kvs.map (fun e => if keyD e.1 = keyD d then (e.1, v) else e) else kvs ++ [(d, v)]
theorem kvPut_of (es : List DEnt) (d : PyData) (b : Addr) (v : V) : kvOf (dkPut es d b v) = kvPut (kvOf es) d v := by
  unfold dkPut kvPut
  rw [kvAt_of]
  split
  · unfold kvOf
    rw [List.map_map, List.map_map]
    refine List.map_congr_left fun e _ => ?_
    show ((fun e : DEnt => (e.1, e.2.2)) (if keyD e.1 = keyD d then (e.1, e.2.1, v) else e)) = (if keyD e.1 = keyD d then (e.1, v) else (e.1, e.2.2))
    by_cases h : keyD e.1 = keyD d
    · rw [if_pos h, if_pos h]
    · rw [if_neg h, if_neg h]
  · unfold kvOf; rw [List.map_append]; rfl
/-- a dict with such pairs -/
def dkB (K : PySem.W.Frag) (w : World) (d : Addr) (kvs : List (PyData × V)) : Box where
  root := .ref d
  foot := [d]
  holds := fun H Hh => ∃ es, H d = some (DkO w d es) ∧ KeysAt K Hh es ∧ kvOf es = kvs
  loc := fun k e ⟨es, h1, h2, h3⟩ => ⟨es, by rw [k d (by simp)]; exact h1, h2.ex e, h3⟩
/-- .. while it is locked -/
def dkL (K : PySem.W.Frag) (w : World) (d : Addr) (od : Obj) (es : List DEnt) : Box where
  root := .ref d
  foot := [d]
  holds := fun H Hh => H d = some (.frz od (DkO w d es)) ∧ KeysAt K Hh es
  loc := fun k e ⟨h1, h2⟩ => ⟨by rw [k d (by simp)]; exact h1, h2.ex e⟩
/-- a name for a thing that another name owns -/
def alB (v : V) : Box := ⟨v, [], fun _ _ => True, fun _ _ h => h⟩
section
variable {F : Fx} {w : World} {A : List Addr} {H H' : Hp} {σ : List (Option V)} {δ : List WSlot} {i : Nat} {te ti : TE} {t tb : TS} {d : Addr} {kvs : List (PyData × V)} {N B C : List WSlot → Prop} {R : PyData → List WSlot → Prop}
theorem step_d (s : St F A H σ δ) {b : Box} (ho : δ[i]? = some (.box b)) {o : HO} (hd : d ∈ b.foot) : BoxStep A A H (upd H d o) b.foot b.foot := by
  have hA := (s.sd.box i _ ho).2.1
  refine ⟨fun a u e n => ?_, fun a h => h, fun a h => .inl h, fun a h => ?_, fun a h => ⟨hA a h, .inl h⟩⟩
  · rw [upd_ne fun z => n (by rw [z]; exact hd)]; exact e
  · by_cases e : a = d
    · subst e; rw [upd_same]; intro z; cases z
    · rw [upd_ne e]; exact s.live a h
theorem ds_lock (ho : δ[i]? = some (.box (dkB F.K w d kvs)))
    (h : ∀ od es, kvOf es = kvs → DS F t (δ.set i (.box (dkL F.K w d od es))) (fun δ' => δ'[i]? = some (.box (dkL F.K w d od es)) ∧ N (δ'.set i (.box (dkB F.K w d kvs)))) (fun _ _ => False) (fun _ => False) (fun _ => False)) : DS F (tLock t) δ N R B C := fun A H σ D s E => by
  obtain ⟨r1, r2, es, r3, r4, r5⟩ := s.sd.box i _ ho
  have hdA : d ∈ A := r2 d (by simp [dkB])
  refine ⟨d, DkO w d es, r3, True.intro, fun od => ?_⟩
  have e1 : hid A (upd H d (.frz od (DkO w d es))) = hid A H := hid_mut hdA
  have s1 : St F A (upd H d (.frz od (DkO w d es))) σ (δ.set i (.box (dkL F.K w d od es))) := s.putBox (b' := dkL F.K w d od es) ho rfl (step_d s ho (by simp [dkB])) ⟨upd_same, by rw [e1]; exact r4⟩
  refine h od es r5 A _ σ _ s1 ⟨fun δ' A' H' σ' ⟨h0, n⟩ s' x' => ?_, fun _ _ _ _ _ _ z => z.elim, fun _ _ _ _ z => z.elim, fun _ _ _ _ z => z.elim⟩
  obtain ⟨q1, q2, q3, q4⟩ := s'.sd.box i _ h0
  have hdA' : d ∈ A' := q2 d (by simp [dkL])
  refine ⟨q3, ?_⟩
  have e2 : hid A' (upd H' d (DkO w d es)) = hid A' H' := hid_mut hdA'
  refine E.nx _ A' _ σ' n (s'.putBox (b' := dkB F.K w d kvs) h0 rfl (step_d s' h0 (by simp [dkL])) ⟨es, upd_same, by rw [e2]; exact q4, r5⟩) ?_
  rw [e2, ← e1]; exact x'
/-- for a, b in d.items(): the dict locked -/
theorem ds_items {od : Obj} {es : List DEnt} {ja jb : Nat} (vs : List WSlot) (hv : ∀ (k : Nat) (e : DEnt), es[k]? = some e → ∃ ws, vs[k]? = some ws ∧ ws.foot = [] ∧ ∀ A H, ws.says F.K A H (some (some e.2.2)))
    (ho : δ[i]? = some (.box (dkL F.K w d od es))) (Inv : Nat → List WSlot → Prop) (h0 : Inv 0 δ) (hk : ∀ n δn, Inv n δn → δn[i]? = some (.box (dkL F.K w d od es)))
    (hs : ∀ n (e : DEnt) ws δn, es[n]? = some e → vs[n]? = some ws → Inv n δn → DS F tb ((δn.set ja (.dat e.1)).set jb ws) (Inv (n + 1)) R N (Inv (n + 1))) (hd : ∀ δ', Inv es.length δ' → N δ') :
    DS F (tFor (iDkI w (tVar i)) (gTup F.K 2 (gCons (gName ja) (gCons (gName jb) gNil))) tb) δ N R B C := fun A H σ D s E => by
  obtain ⟨r1, r2, r3, r4⟩ := s.sd.box i _ ho
  refine ⟨.ref d, r1, d, od, es, rfl, r3, ?_⟩
  refine ⟨fun n m σ' H' => m = es.length - n ∧ n ≤ es.length ∧ ∃ A' δ', Inv n δ' ∧ St F A' H' σ' δ' ∧ Ex (hid A H) (hid A' H'), ⟨es.length, by omega, Nat.zero_le _, A, δ, h0, s, WL.Ex.refl _⟩, ?_⟩
  rintro n m σ' H' ⟨rfl, hle, A', δ', hI, s', x'⟩
  obtain ⟨q1, q2, q3, q4⟩ := s'.sd.box i _ (hk n δ' hI)
  by_cases hlt : n < es.length
  · refine .inr ⟨⟨q3, hlt⟩, fun σ2 H2 => ∃ A2 δ2, Inv (n + 1) δ2 ∧ St F A2 H2 σ2 δ2 ∧ Ex (hid A H) (hid A2 H2), fun σ2 H2 ⟨A2, δ2, p1, p2, p3⟩ => ⟨es.length - (n + 1), by omega, rfl, hlt, A2, δ2, p1, p2, p3⟩, ?_⟩
    rintro x H2 ⟨T, e, ot, he, rfl, hT, hot, rfl⟩
    obtain ⟨ws, hws, hft, hsay⟩ := hv n e he
    have s2 : St F A' (upd H' T (.frz ot (.tup [.ref e.2.1, e.2.2]))) σ' δ' := s'.ex (WL.Ex.new hT)
    have x2 : Ex (hid A' H') (hid A' (upd H' T (.frz ot (.tup [.ref e.2.1, e.2.2])))) := hid_ex (WL.Ex.new hT)
    refine ⟨T, [.ref e.2.1, e.2.2], rfl, .inl (.inr ⟨ot, upd_same⟩), rfl, .ref e.2.1, [e.2.2], rfl, e.2.2, [], rfl, rfl, ?_⟩
    have hkey : Dt F.K (hid A' (upd H' T (.frz ot (.tup [.ref e.2.1, e.2.2])))) (.ref e.2.1) e.1 := dp_ex x2 (q4 e (List.mem_of_getElem? he)).2
    have s3 := s2.set (i := ja) hkey
    have s4 : St F A' (upd H' T (.frz ot (.tup [.ref e.2.1, e.2.2]))) ((σ'.set ja (some (.ref e.2.1))).set jb (some e.2.2)) ((δ'.set ja (.dat e.1)).set jb ws) := by
      refine ⟨s3.sd.put s3.sd.live (WL.Ex.refl _) (fun j w' _ hj a ha => ⟨rfl, s3.sd.inA hj a ha, by rw [hft]; simp⟩) (hsay _ _), s3.bs, mine_put s3.mineF fun _ a ha => by rw [hft] at ha; cases ha⟩
    have x3 := x'.trans x2
    exact hs n e ws δ' he hws hI A' _ _ _ s4 ⟨fun δ3 A3 H3 σ3 n s3 e3 => ⟨A3, δ3, n, s3, x3.trans e3⟩, fun d v δ3 A3 H3 σ3 n s3 e3 hv => E.rt d v δ3 A3 H3 σ3 n s3 (x3.trans e3) hv,
      fun δ3 A3 H3 σ3 n s3 e3 => E.nx δ3 A3 H3 σ3 n s3 (x3.trans e3), fun δ3 A3 H3 σ3 n s3 e3 => ⟨A3, δ3, n, s3, x3.trans e3⟩⟩
  · have e : n = es.length := by omega
    subst e
    exact .inl ⟨⟨q3, Nat.le_refl _⟩, E.nx δ' A' H' σ' (hd δ' hI) s' x'⟩
theorem ds_values {od : Obj} {es : List DEnt} {jb : Nat} (vs : List WSlot) (hv : ∀ (k : Nat) (e : DEnt), es[k]? = some e → ∃ ws, vs[k]? = some ws ∧ ws.foot = [] ∧ ∀ A H, ws.says F.K A H (some (some e.2.2)))
    (ho : δ[i]? = some (.box (dkL F.K w d od es))) (Inv : Nat → List WSlot → Prop) (h0 : Inv 0 δ) (hk : ∀ n δn, Inv n δn → δn[i]? = some (.box (dkL F.K w d od es)))
    (hs : ∀ n (e : DEnt) ws δn, es[n]? = some e → vs[n]? = some ws → Inv n δn → DS F tb (δn.set jb ws) (Inv (n + 1)) R N (Inv (n + 1))) (hd : ∀ δ', Inv es.length δ' → N δ') :
    DS F (tFor (iDkV w (tVar i)) (gName jb) tb) δ N R B C := fun A H σ D s E => by
  obtain ⟨r1, r2, r3, r4⟩ := s.sd.box i _ ho
  refine ⟨.ref d, r1, d, od, es, rfl, r3, ?_⟩
  refine ⟨fun n m σ' H' => m = es.length - n ∧ n ≤ es.length ∧ ∃ A' δ', Inv n δ' ∧ St F A' H' σ' δ' ∧ Ex (hid A H) (hid A' H'), ⟨es.length, by omega, Nat.zero_le _, A, δ, h0, s, WL.Ex.refl _⟩, ?_⟩
  rintro n m σ' H' ⟨rfl, hle, A', δ', hI, s', x'⟩
  obtain ⟨q1, q2, q3, q4⟩ := s'.sd.box i _ (hk n δ' hI)
  by_cases hlt : n < es.length
  · refine .inr ⟨⟨q3, hlt⟩, fun σ2 H2 => ∃ A2 δ2, Inv (n + 1) δ2 ∧ St F A2 H2 σ2 δ2 ∧ Ex (hid A H) (hid A2 H2), fun σ2 H2 ⟨A2, δ2, p1, p2, p3⟩ => ⟨es.length - (n + 1), by omega, rfl, hlt, A2, δ2, p1, p2, p3⟩, ?_⟩
    rintro x H2 ⟨rfl, e, he, rfl⟩
    obtain ⟨ws, hws, hft, hsay⟩ := hv n e he
    have s4 : St F A' H2 (σ'.set jb (some e.2.2)) (δ'.set jb ws) := by
      refine ⟨s'.sd.put s'.sd.live (WL.Ex.refl _) (fun j w' _ hj a ha => ⟨rfl, s'.sd.inA hj a ha, by rw [hft]; simp⟩) (hsay _ _), s'.bs, mine_put s'.mineF fun _ a ha => by rw [hft] at ha; cases ha⟩
    exact hs n e ws δ' he hws hI A' _ _ _ s4 ⟨fun δ3 A3 H3 σ3 n s3 e3 => ⟨A3, δ3, n, s3, x'.trans e3⟩, fun d v δ3 A3 H3 σ3 n s3 e3 hv => E.rt d v δ3 A3 H3 σ3 n s3 (x'.trans e3) hv,
      fun δ3 A3 H3 σ3 n s3 e3 => E.nx δ3 A3 H3 σ3 n s3 (x'.trans e3), fun δ3 A3 H3 σ3 n s3 e3 => ⟨A3, δ3, n, s3, x'.trans e3⟩⟩
  · have e : n = es.length := by omega
    subst e
    exact .inl ⟨⟨q3, Nat.le_refl _⟩, E.nx δ' A' H' σ' (hd δ' hI) s' x'⟩
/-! a dict at a name: asked, read, stored -/
theorem dv_dkNotIn (ho : δ[i]? = some (.box (dkB F.K w d kvs))) {ds : List PyData} (h : DV F te δ (.tuple ds)) (hd : KeyOk (.tuple ds) = true) : DV F (tOp (rDkNotIn F.K w) te (tVar i)) δ (.bool (!(kvAt kvs (.tuple ds)).isSome)) := fun A H σ s Q q =>
  h A H σ s _ fun v d' δ1 H1 ⟨e1, e2⟩ s1 x1 hv => by
    subst e1; subst e2
    obtain ⟨b, xs, rfl, _, _⟩ := dp_tup hv
    obtain ⟨r1, r2, es, r3, r4, r5⟩ := s1.sd.box i _ ho
    refine ⟨_, r1, _, b, es, _, rfl, rfl, .inl r3, r4.ex hid_le, hd, dp_ex hid_le hv, ?_⟩
    rw [kvAt_of, r5]
    exact q _ _ _ H1 ⟨rfl, rfl⟩ s1 x1 (.bl _)
theorem dv_dkGetS (ho : δ[i]? = some (.box (dkB F.K w d kvs))) {ds : List PyData} {z : Str} (h : DV F te δ (.tuple ds)) (hd : KeyOk (.tuple ds) = true) (hk : kvAt kvs (.tuple ds) = some (.str z)) : DV F (tOp (rDkGet F.K w) (tVar i) te) δ (.str z) := fun A H σ s Q q => by
  refine ⟨_, (s.sd.box i _ ho).1, h A H σ s _ fun v d' δ1 H1 ⟨e1, e2⟩ s1 x1 hv => ?_⟩
  subst e1; subst e2
  obtain ⟨b, xs, rfl, _, _⟩ := dp_tup hv
  obtain ⟨r1, r2, es, r3, r4, r5⟩ := s1.sd.box i _ ho
  refine ⟨_, b, es, _, .str z, rfl, rfl, .inl r3, r4.ex hid_le, hd, dp_ex hid_le hv, by rw [kvAt_of, r5, hk], q _ _ _ H1 ⟨rfl, rfl⟩ s1 x1 (.str z)⟩
theorem ds_dkPutS (ho : δ[i]? = some (.box (dkB F.K w d kvs))) {ds : List PyData} {z : Str} (hlen : kvs.length < sizeLine) (h : DV F te δ (.str z)) (hi : DV F ti δ (.tuple ds)) (hd : KeyOk (.tuple ds) = true) (hn : N (δ.set i (.box (dkB F.K w d (kvPut kvs (.tuple ds) (.str z)))))) :
    DS F (tAsg te (gSub (tVar i) ti (rDkSet F.K w))) δ N R B C := fun A H σ D s E =>
  h A H σ s _ fun v d' δ1 H1 ⟨e1, e2⟩ s1 x1 hv => by
    subst e1; subst e2
    refine ⟨_, (s1.sd.box i _ ho).1, hi A H1 σ s1 _ fun u d' δ2 H2 ⟨e3, e4⟩ s2 x2 hu => ?_⟩
    subst e3; subst e4
    obtain ⟨b, xs, rfl, _, _⟩ := dp_tup hu
    obtain ⟨r1, r2, es, r3, r4, r5⟩ := s2.sd.box i _ ho
    rw [dp_str hv]
    refine ⟨_, b, es, _, rfl, rfl, r3, r4.ex hid_le, hd, dp_ex hid_le hu, ?_, ?_⟩
    · have : es.length = kvs.length := by rw [← r5]; unfold kvOf; rw [List.length_map]
      omega
    · have eh : hid A (upd H2 d (DkO w d (dkPut es (.tuple ds) b (.str z)))) = hid A H2 := hid_mut (r2 d (by simp [dkB]))
      exact E.nx _ A _ σ hn (s2.putBox (b' := dkB F.K w d (kvPut kvs (.tuple ds) (.str z))) ho rfl (step_d s2 ho (by simp [dkB])) ⟨_, upd_same, by rw [eh]; exact dkPut_keys r4 hd hu, by rw [kvPut_of, r5]⟩) (by rw [eh]; exact x1.trans x2)
theorem dv_dkLen (ho : δ[i]? = some (.box (dkB F.K w d kvs))) : DV F (tCB (rDkLen w) (tCons (tVar i) tNil)) δ (.int (kvs.length : Nat)) := fun A H σ s Q q => by
  obtain ⟨r1, r2, es, r3, r4, r5⟩ := s.sd.box i _ ho
  refine ⟨_, r1, d, es, rfl, .inl r3, ?_⟩
  have : es.length = kvs.length := by rw [← r5]; unfold kvOf; rw [List.length_map]
  rw [this]
  exact q _ _ _ H ⟨rfl, rfl⟩ s (WL.Ex.refl _) (.int _)
end
end WL
end
section
set_option Elab.async false
set_option linter.all false
set_option maxRecDepth 100000
/-! Defs that are handed several boxes and change them in place. -/
namespace WL
open PySem PySem.Spec PyProof.Rows L2
def spG (K : PySem.W.Frag) (rel : List WSlot → (PyData → List WSlot → Prop) → Prop) : Sp := fun vs H Q _ => ∃ (A : List Addr) (δ0 : List WSlot) (Pd : PyData → List WSlot → Prop), SD K A H (vs.map some) δ0 ∧ rel δ0 Pd ∧
  ∀ v d δ1 H', Pd d δ1 → BoxStep A A H H' (ftAll δ0) (ftAll δ0) → SD K A H' (vs.map some) δ1 → Dt K (hid A H') v d → Q v H'
/-- what a frame hands back of what it was handed -/
def Left (δ0 δ' δ1 : List WSlot) : Prop := δ1.length = δ0.length ∧ ∀ (j : Nat) (w : WSlot), δ1[j]? = some w → w = .no ∨ ∃ b b0 : Box, w = .box b ∧ δ'[j]? = some w ∧ δ0[j]? = some (.box b0) ∧ b.root = b0.root ∧ ∀ a ∈ b.foot, a ∈ ftAll δ0
section
variable {F : Fx} {K : PySem.W.Frag} {A A' : List Addr} {H H' : Hp} {σ : List (Option V)} {δ δ0 δ1 δ2 : List WSlot} {M : List Addr}
theorem St.stepG (s : St F A H σ δ) (S : BoxStep A A H H' M M) (hl : δ2.length = δ.length) (hM : ∀ a ∈ M, a ∈ F.M ∨ F.H0 a = none) (hMA : ∀ a ∈ M, a ∈ A)
    (h : ∀ (j : Nat) (w : WSlot), δ2[j]? = some w → (δ[j]? = some w ∧ ∀ a ∈ w.foot, a ∉ M) ∨ ∃ w0, δ[j]? = some w0 ∧ (∀ a ∈ w.foot, a ∈ w0.foot) ∧ w.says F.K A H' σ[j]?) : St F A H' σ δ2 := by
  have x : Ex (hid A H) (hid A H') := S.ex hMA
  have from_ : ∀ (j : Nat) (w : WSlot), δ2[j]? = some w → ∃ w0, δ[j]? = some w0 ∧ ∀ a ∈ w.foot, a ∈ w0.foot := fun j w hj => by
    rcases h j w hj with ⟨e, _⟩ | ⟨w0, e, q, _⟩
    · exact ⟨w, e, fun _ h => h⟩
    · exact ⟨w0, e, q⟩
  refine ⟨⟨by rw [hl]; exact s.sd.len, S.live, fun j w hj => ?_, fun i j w w' h1 h2 hne a ha hb => ?_⟩, S.bs s.bs hM, fun j w hj a ha => ?_⟩
  · rcases h j w hj with ⟨e, q⟩ | ⟨w0, e, q, hs⟩
    · refine WSlot.says_loc (fun a ha hA => ⟨?_, hA⟩) x (s.sd.all j w e)
      cases q2 : H a with
      | none => exact absurd q2 (s.live a hA)
      | some o => rw [S.keep a o q2 (q a ha)]
    · exact hs
  · obtain ⟨w1, e1, q1⟩ := from_ i w h1
    obtain ⟨w2, e2, q2⟩ := from_ j w' h2
    exact s.sd.apart i j w1 w2 e1 e2 hne a (q1 a ha) (q2 a hb)
  · obtain ⟨w1, e1, q1⟩ := from_ j w hj
    exact s.mineF j w1 e1 a (q1 a ha)
theorem sd_start {N : List Str} {vs : List V} (h : SD K A H (vs.map some) δ0) : St ⟨K, H, A, ftAll δ0⟩ A H (L2.start N vs) (δ0 ++ List.replicate (N.length - vs.length) .no) := by
  have hl : δ0.length = vs.length := by rw [← h.len, List.length_map]
  have at_ : ∀ (i : Nat) (w : WSlot), (δ0 ++ List.replicate (N.length - vs.length) WSlot.no)[i]? = some w → w = .no ∨ δ0[i]? = some w := fun i w e => by
    by_cases hi : i < δ0.length
    · rw [List.getElem?_append_left hi] at e; exact .inr e
    · rw [List.getElem?_append_right (by omega), List.getElem?_replicate] at e
      split at e
      · simp at e; exact .inl e.symm
      · cases e
  refine ⟨⟨by rw [start_len, List.length_append, List.length_replicate, hl], h.live, fun i w e => ?_, fun i j w w' h1 h2 hne a ha hb => ?_⟩, Bs.start H A _ h.live fun a ha => ?_, fun i w e a ha => ?_⟩
  · rcases at_ i w e with z | z
    · subst z; exact True.intro
    · have hi : i < vs.length := by rw [← hl]; exact (List.getElem?_eq_some_iff.mp z).1
      have e2 : (L2.start N vs)[i]? = (vs.map some)[i]? := by
        unfold L2.start
        rw [List.getElem?_append_left (by rw [List.length_map]; exact hi)]
      rw [e2]; exact h.all i w z
  · rcases at_ i w h1 with z | z
    · subst z; cases ha
    · rcases at_ j w' h2 with y | y
      · subst y; cases hb
      · exact h.apart i j w w' z y hne a ha hb
  · obtain ⟨i, w, e, ha⟩ := ftAll_mem.mp ha
    exact h.inA e a ha
  · rcases at_ i w e with z | z
    · subst z; cases ha
    · exact .inl (ftAll_mem.mpr ⟨i, w, z, ha⟩)
theorem sd_left {vs : List V} (h : SD K A H (vs.map some) δ0) (s' : St ⟨K, H, A, ftAll δ0⟩ A' H' σ δ) (l : Left δ0 δ δ1) : BoxStep A A H H' (ftAll δ0) (ftAll δ0) ∧ SD K A H' (vs.map some) δ1 ∧ Ex (hid A' H') (hid A H') := by
  have x : Ex (hid A' H') (hid A H') := hid_sub s'.bs.sub
  have fA : ∀ a ∈ ftAll δ0, a ∈ A := fun a ha => by
    obtain ⟨i, w, e, ha⟩ := ftAll_mem.mp ha
    exact h.inA e a ha
  have lv : ∀ a ∈ A, H' a ≠ none := fun a ha => s'.sd.live a (s'.bs.sub a ha)
  refine ⟨⟨fun a o e n => s'.bs.kept a o (by rw [hid_out n]; exact e), fun a h => h, fun a h => .inl h, lv, fun a ha => ⟨fA a ha, .inl ha⟩⟩, ⟨?_, lv, fun j w hj => ?_, fun i j w w' h1 h2 hne a ha hb => ?_⟩, x⟩
  · rw [l.1, ← h.len]
  · rcases l.2 j w hj with z | ⟨b, b0, rfl, e1, e2, e3, e4⟩
    · subst z; exact True.intro
    · obtain ⟨_, _, q3⟩ := s'.sd.box j b e1
      exact ⟨by rw [e3]; exact (h.box j b0 e2).1, fun a ha => fA a (e4 a ha), b.loc (fun _ _ => rfl) x q3⟩
  · rcases l.2 i w h1 with z | ⟨b, b0, rfl, e1, _⟩
    · subst z; cases ha
    · rcases l.2 j w' h2 with y | ⟨b', b0', rfl, e2, _⟩
      · subst y; cases hb
      · exact s'.sd.apart i j _ _ e1 e2 hne a ha hb
end
section
variable {P : Program} {w : World} {K : PySem.W.Frag} {mg : Str → Option Value} {base : Heap}
theorem fnG {x qual : Str} {st : Stmt} {f : Addr} {fd : FuncData} {N ps : List Str} {k : Nat} {rel : List WSlot → (PyData → List WSlot → Prop) → Prop} (G : Fun K x qual st f fd) (S : FnScope N ps (defScope st)) (hlen : ∀ es Pd, rel es Pd → es.length = ps.length)
    (hb : ∀ (cdv : Value) (A : Around) (outer : List Env) (s : Shared) (H : Hp) (E : XK), Room k (A.deeper (envOfC qual (defScope st) s.heap.objs.size f cdv)) →
      ∃ t, PSs (cxOf CX0 P w K mg base N qual (defScope st) f cdv A outer s H E).nox (defBody st) t ∧
        ∀ A0 δ0 Pd, rel δ0 Pd → DS ⟨K, H, A0, ftAll δ0⟩ t (δ0 ++ List.replicate (N.length - ps.length) .no) (fun δ' => ∃ δ1, Left δ0 δ' δ1 ∧ Pd .none δ1) (fun d δ' => ∃ δ1, Left δ0 δ' δ1 ∧ Pd d δ1) (fun _ => False) (fun _ => False)) :
    FnOk P w K mg base CX0 (k + 1) f fd ps (spG K rel) :=
  G.ok S (fun vs H Q E ⟨A0, δ0, Pd, h, hr, q⟩ => by rw [← hlen δ0 Pd hr, ← h.len, List.length_map]) fun cdv A outer s H vs Q E hr ⟨A0, δ0, Pd, h, hrel, q⟩ => by
    obtain ⟨t, ht, hD⟩ := hb cdv A outer s H E hr
    have hl : vs.length = ps.length := by rw [← hlen δ0 Pd hrel, ← h.len, List.length_map]
    have s0 := sd_start (N := N) h
    rw [hl] at s0
    refine ⟨t, ht, hD A0 δ0 Pd hrel A0 H _ _ s0 ⟨fun δ' A' H' σ' ⟨δ1, l, p⟩ s' x => ?_, fun d v δ' A' H' σ' ⟨δ1, l, p⟩ s' x hd' => ?_, fun _ _ _ _ z => z.elim, fun _ _ _ _ z => z.elim⟩⟩
    · obtain ⟨q1, q2, q3⟩ := sd_left h s' l
      exact q .non .none δ1 H' p q1 q2 .non
    · obtain ⟨q1, q2, q3⟩ := sd_left h s' l
      exact q v d δ1 H' p q1 q2 (dp_ex q3 hd')
end
end WL
end
section
set_option Elab.async false
set_option linter.all false
set_option maxRecDepth 100000
/-! Methods of such dicts; any box that is locked at its root. -/
namespace WL
open PySem PySem.Spec PyProof.Rows L2
/-- d.m(..) of such a dict -/
def tDM (w : World) (r : V → List V → Hp → VK → Prop) (to : TE) (t : TA) : TE := fun σ H Q => to σ H fun x H1 => (∃ a es, x = .ref a ∧ Rd H1 a (DkO w a es)) ∧ t σ H1 fun xs H2 => r x xs H2 Q
theorem pe_dm {X : Cx} {o e : Expr} {es : List Expr} {name : Str} {id : String} {apos cpos : Pos} {r : V → List V → Hp → VK → Prop} {to : TE} {t : TA} (slot : Slot "dict" name id) (hty : typeOf (.builtin id) = pure (.type "method_descriptor")) (hm : MtR X id r) (ho : PE X o to) (ha : PA X (e :: es) t)
    (hbase : attributeBase o name X.env (eval o X.env) = eval o X.env := by rfl)
    (hfew : ((backTo cpos (starEach (e :: es) X.env)).all (fun x => !x.1) && (backToKw cpos (keywordEach [] X.env)).all (fun x => x.1.isSome)
      && decide ((e :: es).length + ([] : List Keyword).length + (if ([] : List Keyword).isEmpty then 0 else 1) < 30)) = true := by rfl)
    (hline : (apos.endLine == cpos.line) = true := by rfl) (hs : starEach (e :: es) X.env = (false, eval e X.env) :: starEach es X.env := by rfl) (hplain : (backTo cpos (starEach es X.env)).any (·.1) = false := by rfl) :
    PE X (.Call (.Attribute o name apos) (e :: es) [] cpos) (tDM X.w r to t) := by
  refine ⟨fun pins s σ H Q I h => ?_⟩
  refine wpAny_Call_method_late hbase hfew hline rfl (thn (ho.run pins s σ H _ I h) fun v s1 ⟨x, H1, I1, r1, ⟨a, ds, ex, hd⟩, q1⟩ => ?_)
  subst ex
  obtain rfl : v = Value.ref a := r1
  obtain ⟨h1, h2⟩ := dk_typeIs I1 hd
  refine ⟨"dict", id, PySem.F.plainAttrs_dict, slot, hty, h1, h2, ?_⟩
  have hA := ha.run cpos pins s1 σ H1 _ I1 q1
  rw [hs] at hA ⊢
  refine Calls.callWith_builtin (by show (false || (backTo cpos (starEach es X.env)).any (·.1)) = false; rw [hplain] <;> rfl) (Calls.evalArgs_plain ?_)
  exact thn hA fun us s2 ⟨vs, H2, I2, r2, q2⟩ => hm pins s2 σ H2 (.ref a) vs (.ref a) us Q I2 rfl r2 q2
/-- b with the dict at its root d locked as od -/
structure LockOf (K : PySem.W.Frag) (w : World) (d : Addr) (b : Box) (bl : Obj → List DEnt → Box) (kvs : List (PyData × V)) : Prop where
  f : d ∈ b.foot
  rl : ∀ od es, (bl od es).root = b.root
  fl : ∀ od es, (bl od es).foot = b.foot
  lock : ∀ H Hh od, b.holds H Hh → ∃ es, H d = some (DkO w d es) ∧ kvOf es = kvs ∧ (bl od es).holds (upd H d (.frz od (DkO w d es))) Hh
  unlock : ∀ H Hh od es, kvOf es = kvs → (bl od es).holds H Hh → b.holds (upd H d (DkO w d es)) Hh
  at_ : ∀ H Hh od es, (bl od es).holds H Hh → H d = some (.frz od (DkO w d es)) ∧ KeysAt K Hh es
section
variable {F : Fx} {w : World} {A : List Addr} {H H' : Hp} {σ : List (Option V)} {δ : List WSlot} {i : Nat} {te ti : TE} {t tb : TS} {d : Addr} {kvs : List (PyData × V)} {N B C : List WSlot → Prop} {R : PyData → List WSlot → Prop} {b : Box} {bl : Obj → List DEnt → Box}
theorem ds_lockG (L : LockOf F.K w d b bl kvs) (ho : δ[i]? = some (.box b))
    (h : ∀ od es, kvOf es = kvs → DS F t (δ.set i (.box (bl od es))) (fun δ' => δ'[i]? = some (.box (bl od es)) ∧ N (δ'.set i (.box b))) (fun _ _ => False) (fun _ => False) (fun _ => False)) : DS F (tLock t) δ N R B C := fun A H σ D s E => by
  obtain ⟨r1, r2, r3⟩ := s.sd.box i _ ho
  have hdA : d ∈ A := r2 d L.f
  obtain ⟨es0, h0, _⟩ := L.lock H _ ⟨.none, none, .seq #[] 0, #[]⟩ r3
  refine ⟨d, DkO w d es0, h0, True.intro, fun od => ?_⟩
  obtain ⟨es, h1, h2, h3⟩ := L.lock H _ od r3
  have ee : DkO w d es0 = DkO w d es := by rw [h0] at h1; exact Option.some.inj h1
  rw [ee]
  have e1 : hid A (upd H d (.frz od (DkO w d es))) = hid A H := hid_mut hdA
  have S1 : BoxStep A A H (upd H d (.frz od (DkO w d es))) b.foot (bl od es).foot := (step_d s ho L.f).of (L.fl od es)
  have s1 : St F A (upd H d (.frz od (DkO w d es))) σ (δ.set i (.box (bl od es))) := s.putBox ho (L.rl od es) S1 (by rw [e1]; exact h3)
  refine h od es h2 A _ σ _ s1 ⟨fun δ' A' H' σ' ⟨h0, n⟩ s' x' => ?_, fun _ _ _ _ _ _ z => z.elim, fun _ _ _ _ z => z.elim, fun _ _ _ _ z => z.elim⟩
  obtain ⟨q1, q2, q3⟩ := s'.sd.box i _ h0
  have hdA' : d ∈ A' := q2 d (by rw [L.fl]; exact L.f)
  refine ⟨(L.at_ _ _ _ _ q3).1, ?_⟩
  have e2 : hid A' (upd H' d (DkO w d es)) = hid A' H' := hid_mut hdA'
  have S2 : BoxStep A' A' H' (upd H' d (DkO w d es)) (bl od es).foot b.foot := (step_d s' h0 (by rw [L.fl]; exact L.f)).of (L.fl od es).symm
  refine E.nx _ A' _ σ' n (s'.putBox h0 (L.rl od es).symm S2 (by rw [e2]; exact L.unlock _ _ od es h2 q3)) ?_
  rw [e2, ← e1]; exact x'
theorem ds_itemsG {od : Obj} {es : List DEnt} {ja jb : Nat} {bl : Box} (hroot : bl.root = .ref d) (hbl : ∀ H Hh, bl.holds H Hh → H d = some (.frz od (DkO w d es)) ∧ KeysAt F.K Hh es) (vs : List WSlot) (hv : ∀ (k : Nat) (e : DEnt), es[k]? = some e → ∃ ws, vs[k]? = some ws ∧ ws.foot = [] ∧ ∀ A H, ws.says F.K A H (some (some e.2.2)))
    (ho : δ[i]? = some (.box bl)) (Inv : Nat → List WSlot → Prop) (h0 : Inv 0 δ) (hk : ∀ n δn, Inv n δn → δn[i]? = some (.box bl))
    (hs : ∀ n (e : DEnt) ws δn, es[n]? = some e → vs[n]? = some ws → Inv n δn → DS F tb ((δn.set ja (.dat e.1)).set jb ws) (Inv (n + 1)) R N (Inv (n + 1))) (hd : ∀ δ', Inv es.length δ' → N δ') :
    DS F (tFor (iDkI w (tVar i)) (gTup F.K 2 (gCons (gName ja) (gCons (gName jb) gNil))) tb) δ N R B C := fun A H σ D s E => by
  obtain ⟨r1, r2, r3⟩ := s.sd.box i _ ho
  rw [hroot] at r1
  refine ⟨.ref d, r1, d, od, es, rfl, (hbl _ _ r3).1, ?_⟩
  refine ⟨fun n m σ' H' => m = es.length - n ∧ n ≤ es.length ∧ ∃ A' δ', Inv n δ' ∧ St F A' H' σ' δ' ∧ Ex (hid A H) (hid A' H'), ⟨es.length, by omega, Nat.zero_le _, A, δ, h0, s, WL.Ex.refl _⟩, ?_⟩
  rintro n m σ' H' ⟨rfl, hle, A', δ', hI, s', x'⟩
  obtain ⟨q1, q2, q0⟩ := s'.sd.box i _ (hk n δ' hI)
  obtain ⟨q3, q4⟩ := hbl _ _ q0
  by_cases hlt : n < es.length
  · refine .inr ⟨⟨q3, hlt⟩, fun σ2 H2 => ∃ A2 δ2, Inv (n + 1) δ2 ∧ St F A2 H2 σ2 δ2 ∧ Ex (hid A H) (hid A2 H2), fun σ2 H2 ⟨A2, δ2, p1, p2, p3⟩ => ⟨es.length - (n + 1), by omega, rfl, hlt, A2, δ2, p1, p2, p3⟩, ?_⟩
    rintro x H2 ⟨T, e, ot, he, rfl, hT, hot, rfl⟩
    obtain ⟨ws, hws, hft, hsay⟩ := hv n e he
    have s2 : St F A' (upd H' T (.frz ot (.tup [.ref e.2.1, e.2.2]))) σ' δ' := s'.ex (WL.Ex.new hT)
    have x2 : Ex (hid A' H') (hid A' (upd H' T (.frz ot (.tup [.ref e.2.1, e.2.2])))) := hid_ex (WL.Ex.new hT)
    refine ⟨T, [.ref e.2.1, e.2.2], rfl, .inl (.inr ⟨ot, upd_same⟩), rfl, .ref e.2.1, [e.2.2], rfl, e.2.2, [], rfl, rfl, ?_⟩
    have hkey : Dt F.K (hid A' (upd H' T (.frz ot (.tup [.ref e.2.1, e.2.2])))) (.ref e.2.1) e.1 := dp_ex x2 (q4 e (List.mem_of_getElem? he)).2
    have s3 := s2.set (i := ja) hkey
    have s4 : St F A' (upd H' T (.frz ot (.tup [.ref e.2.1, e.2.2]))) ((σ'.set ja (some (.ref e.2.1))).set jb (some e.2.2)) ((δ'.set ja (.dat e.1)).set jb ws) := by
      refine ⟨s3.sd.put s3.sd.live (WL.Ex.refl _) (fun j w' _ hj a ha => ⟨rfl, s3.sd.inA hj a ha, by rw [hft]; simp⟩) (hsay _ _), s3.bs, mine_put s3.mineF fun _ a ha => by rw [hft] at ha; cases ha⟩
    have x3 := x'.trans x2
    exact hs n e ws δ' he hws hI A' _ _ _ s4 ⟨fun δ3 A3 H3 σ3 n s3 e3 => ⟨A3, δ3, n, s3, x3.trans e3⟩, fun d v δ3 A3 H3 σ3 n s3 e3 hv => E.rt d v δ3 A3 H3 σ3 n s3 (x3.trans e3) hv,
      fun δ3 A3 H3 σ3 n s3 e3 => E.nx δ3 A3 H3 σ3 n s3 (x3.trans e3), fun δ3 A3 H3 σ3 n s3 e3 => ⟨A3, δ3, n, s3, x3.trans e3⟩⟩
  · have e : n = es.length := by omega
    subst e
    exact .inl ⟨⟨q3, Nat.le_refl _⟩, E.nx δ' A' H' σ' (hd δ' hI) s' x'⟩
theorem ds_valuesG {od : Obj} {es : List DEnt} {jb : Nat} {bl : Box} (hroot : bl.root = .ref d) (hbl : ∀ H Hh, bl.holds H Hh → H d = some (.frz od (DkO w d es)) ∧ KeysAt F.K Hh es) (vs : List WSlot) (hv : ∀ (k : Nat) (e : DEnt), es[k]? = some e → ∃ ws, vs[k]? = some ws ∧ ws.foot = [] ∧ ∀ A H, ws.says F.K A H (some (some e.2.2)))
    (ho : δ[i]? = some (.box bl)) (Inv : Nat → List WSlot → Prop) (h0 : Inv 0 δ) (hk : ∀ n δn, Inv n δn → δn[i]? = some (.box bl))
    (hs : ∀ n (e : DEnt) ws δn, es[n]? = some e → vs[n]? = some ws → Inv n δn → DS F tb (δn.set jb ws) (Inv (n + 1)) R N (Inv (n + 1))) (hd : ∀ δ', Inv es.length δ' → N δ') :
    DS F (tFor (iDkV w (tVar i)) (gName jb) tb) δ N R B C := fun A H σ D s E => by
  obtain ⟨r1, r2, r3⟩ := s.sd.box i _ ho
  rw [hroot] at r1
  refine ⟨.ref d, r1, d, od, es, rfl, (hbl _ _ r3).1, ?_⟩
  refine ⟨fun n m σ' H' => m = es.length - n ∧ n ≤ es.length ∧ ∃ A' δ', Inv n δ' ∧ St F A' H' σ' δ' ∧ Ex (hid A H) (hid A' H'), ⟨es.length, by omega, Nat.zero_le _, A, δ, h0, s, WL.Ex.refl _⟩, ?_⟩
  rintro n m σ' H' ⟨rfl, hle, A', δ', hI, s', x'⟩
  obtain ⟨q1, q2, q0⟩ := s'.sd.box i _ (hk n δ' hI)
  obtain ⟨q3, q4⟩ := hbl _ _ q0
  by_cases hlt : n < es.length
  · refine .inr ⟨⟨q3, hlt⟩, fun σ2 H2 => ∃ A2 δ2, Inv (n + 1) δ2 ∧ St F A2 H2 σ2 δ2 ∧ Ex (hid A H) (hid A2 H2), fun σ2 H2 ⟨A2, δ2, p1, p2, p3⟩ => ⟨es.length - (n + 1), by omega, rfl, hlt, A2, δ2, p1, p2, p3⟩, ?_⟩
    rintro x H2 ⟨rfl, e, he, rfl⟩
    obtain ⟨ws, hws, hft, hsay⟩ := hv n e he
    have s4 : St F A' H2 (σ'.set jb (some e.2.2)) (δ'.set jb ws) := by
      refine ⟨s'.sd.put s'.sd.live (WL.Ex.refl _) (fun j w' _ hj a ha => ⟨rfl, s'.sd.inA hj a ha, by rw [hft]; simp⟩) (hsay _ _), s'.bs, mine_put s'.mineF fun _ a ha => by rw [hft] at ha; cases ha⟩
    exact hs n e ws δ' he hws hI A' _ _ _ s4 ⟨fun δ3 A3 H3 σ3 n s3 e3 => ⟨A3, δ3, n, s3, x'.trans e3⟩, fun d v δ3 A3 H3 σ3 n s3 e3 hv => E.rt d v δ3 A3 H3 σ3 n s3 (x'.trans e3) hv,
      fun δ3 A3 H3 σ3 n s3 e3 => E.nx δ3 A3 H3 σ3 n s3 (x'.trans e3), fun δ3 A3 H3 σ3 n s3 e3 => ⟨A3, δ3, n, s3, x'.trans e3⟩⟩
  · have e : n = es.length := by omega
    subst e
    exact .inl ⟨⟨q3, Nat.le_refl _⟩, E.nx δ' A' H' σ' (hd δ' hI) s' x'⟩
end
/-! ### a dict of dicts -/
/-- key, the dict there, its pairs -/
abbrev LyE := PyData × Addr × List (PyData × V)
def lyKvs (ents : List LyE) : List (PyData × V) := ents.map fun e => (e.1, V.ref e.2.1)
def lyIns (K : PySem.W.Frag) (w : World) (ents : List LyE) (H Hh : Hp) : Prop := ∀ e ∈ ents, ∃ es, H e.2.1 = some (DkO w e.2.1 es) ∧ KeysAt K Hh es ∧ kvOf es = e.2.2
theorem lyIns.loc {K : PySem.W.Frag} {w : World} {ents : List LyE} {H H' Hh Hh' : Hp} (k : ∀ e ∈ ents, H' e.2.1 = H e.2.1) (x : Ex Hh Hh') (h : lyIns K w ents H Hh) : lyIns K w ents H' Hh' := fun e he => by
  obtain ⟨es, h1, h2, h3⟩ := h e he
  exact ⟨es, by rw [k e he]; exact h1, h2.ex x, h3⟩
def lyFoot (p : Addr) (ents : List LyE) : List Addr := p :: ents.map (·.2.1)
def lyB (K : PySem.W.Frag) (w : World) (p : Addr) (ents : List LyE) : Box where
  root := .ref p
  foot := lyFoot p ents
  holds := fun H Hh => (∃ es, H p = some (DkO w p es) ∧ KeysAt K Hh es ∧ kvOf es = lyKvs ents) ∧ lyIns K w ents H Hh ∧ (lyFoot p ents).Nodup
  loc := fun k e ⟨⟨es, h1, h2, h3⟩, h4, h5⟩ => ⟨⟨es, by rw [k p (by simp [lyFoot])]; exact h1, h2.ex e, h3⟩, h4.loc (fun e he => k _ (List.mem_cons_of_mem _ (List.mem_map.mpr ⟨e, he, rfl⟩))) e, h5⟩
def lyL (K : PySem.W.Frag) (w : World) (p : Addr) (ents : List LyE) (od : Obj) (es : List DEnt) : Box where
  root := .ref p
  foot := lyFoot p ents
  holds := fun H Hh => (H p = some (.frz od (DkO w p es)) ∧ KeysAt K Hh es) ∧ lyIns K w ents H Hh ∧ (lyFoot p ents).Nodup
  loc := fun k e ⟨⟨h1, h2⟩, h4, h5⟩ => ⟨⟨by rw [k p (by simp [lyFoot])]; exact h1, h2.ex e⟩, h4.loc (fun e he => k _ (List.mem_cons_of_mem _ (List.mem_map.mpr ⟨e, he, rfl⟩))) e, h5⟩
theorem lyIns.upd {K : PySem.W.Frag} {w : World} {p : Addr} {ents : List LyE} {H Hh : Hp} {o : HO} (nd : (lyFoot p ents).Nodup) (h : lyIns K w ents H Hh) : lyIns K w ents (upd H p o) Hh :=
  h.loc (fun e he => upd_ne fun z => (List.nodup_cons.mp nd).1 (by rw [← z]; exact List.mem_map.mpr ⟨e, he, rfl⟩)) (WL.Ex.refl _)
theorem ly_lock (K : PySem.W.Frag) (w : World) (p : Addr) (ents : List LyE) : LockOf K w p (lyB K w p ents) (lyL K w p ents) (lyKvs ents) where
  f := List.mem_cons_self
  rl := fun _ _ => rfl
  fl := fun _ _ => rfl
  lock := fun H Hh od ⟨⟨es, h1, h2, h3⟩, h4, h5⟩ => ⟨es, h1, h3, ⟨upd_same, h2⟩, h4.upd h5, h5⟩
  unlock := fun H Hh od es e ⟨⟨h1, h2⟩, h4, h5⟩ => ⟨⟨es, upd_same, h2, e⟩, h4.upd h5, h5⟩
  at_ := fun H Hh od es ⟨h1, _⟩ => h1
end WL
end
section
set_option Elab.async false
set_option linter.all false
set_option maxRecDepth 100000
/-! A dict of dicts at a name. -/
namespace WL
open PySem PySem.Spec PyProof.Rows L2
section
variable {F : Fx} {w : World} {A : List Addr} {H H' : Hp} {σ : List (Option V)} {δ : List WSlot} {i : Nat} {te ti : TE} {t tb : TS} {p : Addr} {ents : List LyE} {N B C : List WSlot → Prop} {R : PyData → List WSlot → Prop}
theorem ds_setDk {K : PySem.W.Frag} (hn : ∀ p, N (δ.set i (.box (lyB F.K w p [])))) : DS F (tAsg (tDkNew w) (gName i)) δ N R B C := fun A H σ D s E => by
  intro p hp
  have hpA : p ∉ A := s.live.out hp
  have S : BoxStep A (p :: A) H (upd H p (DkO w p [])) [] (lyB F.K w p []).foot := by
    refine ⟨fun a o e _ => by rw [upd_ne (ne_of_none e hp)]; exact e, fun a h => List.mem_cons_of_mem _ h, fun a h => ?_, fun a h => ?_, fun a h => ?_⟩
    · rcases List.mem_cons.mp h with e | h
      · exact .inr (by rw [e]; exact hp)
      · exact .inl h
    · by_cases e : a = p
      · subst e; rw [upd_same]; intro z; cases z
      · rw [upd_ne e]
        rcases List.mem_cons.mp h with q | h
        · exact absurd q e
        · exact s.live a h
    · have e : a = p := by simpa [lyB, lyFoot] using h
      subst e; exact ⟨List.mem_cons_self, .inr hp⟩
  exact E.nx _ (p :: A) _ _ (hn p) (s.newBox (i := i) (b := lyB F.K w p []) S ⟨⟨[], upd_same, fun e he => (by cases he), rfl⟩, fun e he => (by cases he), by simp [lyFoot]⟩) (S.ex fun a ha => by cases ha)
theorem find_ent {K : PySem.W.Frag} {es : List DEnt} {key : PyData} (h : kvOf es = lyKvs ents) : dkAt es (keyD key) = (ents.find? fun e => decide (keyD e.1 = keyD key)).map fun e => V.ref e.2.1 := by
  rw [kvAt_of, h]
  unfold kvAt lyKvs
  rw [List.find?_map, Option.map_map]
  rfl
theorem ds_layDef (ho : δ[i]? = some (.box (lyB F.K w p ents))) {ds : List PyData} (h : DV F te δ (.tuple ds)) (hd : KeyOk (.tuple ds) = true) (hz : ents.length < sizeLine)
    (h1 : (kvAt (lyKvs ents) (.tuple ds)).isSome = true → N δ) (h0 : kvAt (lyKvs ents) (.tuple ds) = none → ∀ q, N (δ.set i (.box (lyB F.K w p (ents ++ [(.tuple ds, q, [])]))))) :
    DS F (tDrop (tDM w (rDkDef F.K w) (tVar i) (tCons te (tCons (tDkNew w) tNil)))) δ N R B C := fun A H σ D s E => by
  obtain ⟨r1, r2, ⟨es, r3, r4, r5⟩, r6, r7⟩ := s.sd.box i _ ho
  refine ⟨.ref p, r1, ⟨p, es, rfl, .inl r3⟩, ?_⟩
  refine h A H σ s _ fun v d' δ1 H1 ⟨e1, e2⟩ s1 x1 hv => ?_
  subst e1; subst e2
  obtain ⟨b, xs, rfl, _, _⟩ := dp_tup hv
  intro q hq
  have hqA : q ∉ A := s1.live.out hq
  have s2 := s1.ex (WL.Ex.new (o := DkO w q []) hq)
  have x2 : Ex (hid A H1) (hid A (upd H1 q (DkO w q []))) := hid_ex (WL.Ex.new hq)
  obtain ⟨u1, u2, ⟨es2, u3', u4, u5⟩, u6, u7⟩ := s1.sd.box i _ ho
  have hpq : p ≠ q := fun z => hqA (by rw [← z]; exact u2 p List.mem_cons_self)
  have u3 : upd H1 q (DkO w q []) p = some (DkO w p es2) := by rw [upd_ne hpq]; exact u3'
  have hl : es2.length = ents.length := by
    have := congrArg List.length u5
    unfold kvOf lyKvs at this
    rwa [List.length_map, List.length_map] at this
  refine ⟨p, b, es2, _, .ref q, rfl, rfl, u3, (u4.ex x2).ex hid_le, hd, dp_ex hid_le (dp_ex x2 hv), by omega, ?_⟩
  rw [kvAt_of, u5]
  cases e : kvAt (lyKvs ents) (.tuple ds) with
  | some v0 => exact .inl ⟨v0, rfl, E.nx _ A _ σ (h1 (by rw [e]; rfl)) s2 (x1.trans x2)⟩
  | none =>
    refine .inr ⟨rfl, ?_⟩
    rw [kvPut_new (by rw [u5]; exact e)]
    have hp : p ∈ A := u2 p List.mem_cons_self
    have hqp : q ≠ p := fun z => hqA (by rw [z]; exact hp)
    have hqf : q ∉ lyFoot p ents := fun z => hqA (u2 q z)
    have eh : hid (q :: A) (upd (upd H1 q (DkO w q [])) p (DkO w p (es2 ++ [(.tuple ds, b, .ref q)]))) = hid A H1 := by rw [hid_mut (List.mem_cons_of_mem _ hp), hid_own hq]
    let b' : Box := lyB F.K w p (ents ++ [(.tuple ds, q, [])])
    have hf' : lyFoot p (ents ++ [((PyData.tuple ds, q, []) : LyE)]) = lyFoot p ents ++ [q] := by unfold lyFoot; simp
    have S : BoxStep A (q :: A) H1 (upd (upd H1 q (DkO w q [])) p (DkO w p (es2 ++ [(.tuple ds, b, .ref q)]))) (lyB F.K w p ents).foot b'.foot := by
      refine ⟨fun a o e n => ?_, fun a h => List.mem_cons_of_mem _ h, fun a h => ?_, fun a h => ?_, fun a h => ?_⟩
      · rw [upd_ne fun z => n (by rw [z]; exact List.mem_cons_self), upd_ne (ne_of_none e hq)]; exact e
      · rcases List.mem_cons.mp h with e | h
        · exact .inr (by rw [e]; exact hq)
        · exact .inl h
      · by_cases e : a = p
        · subst e; rw [upd_same]; intro z; cases z
        · rw [upd_ne e]
          by_cases e2 : a = q
          · subst e2; rw [upd_same]; intro z; cases z
          · rw [upd_ne e2]
            rcases List.mem_cons.mp h with z | h
            · exact absurd z e2
            · exact s1.live a h
      · have h : a ∈ lyFoot p ents ++ [q] := by rw [← hf']; exact h
        rcases List.mem_append.mp h with z | z
        · exact ⟨List.mem_cons_of_mem _ (u2 a z), .inl z⟩
        · rw [List.mem_singleton.mp z]; exact ⟨List.mem_cons_self, .inr hq⟩
    refine E.nx _ (q :: A) _ σ (h0 e q) (s1.putBox (b' := b') ho rfl S ⟨⟨_, upd_same, fun z hz => ?_, ?_⟩, fun z hz => ?_, ?_⟩) (by rw [eh]; exact x1)
    · rw [eh]
      rcases List.mem_append.mp hz with h | h
      · exact u4 z h
      · rw [List.mem_singleton.mp h]; exact ⟨hd, hv⟩
    · unfold kvOf lyKvs at u5 ⊢
      rw [List.map_append, List.map_append, u5]; rfl
    · rw [eh]
      rcases List.mem_append.mp hz with h | h
      · obtain ⟨k1, k2, k3, k4⟩ := (s1.sd.box i _ ho).2.2.2.1 z h
        have hzf : z.2.1 ∈ lyFoot p ents := List.mem_cons_of_mem _ (List.mem_map.mpr ⟨z, h, rfl⟩)
        refine ⟨k1, ?_, k3, k4⟩
        rw [upd_ne fun e => (List.nodup_cons.mp u7).1 (by rw [← e]; exact List.mem_map.mpr ⟨z, h, rfl⟩), upd_ne fun e => hqf (by rw [← e]; exact hzf)]
        exact k2
      · rw [List.mem_singleton.mp h]
        exact ⟨[], by rw [upd_ne hqp, upd_same], fun e he => (by cases he), rfl⟩
    · rw [hf']
      refine List.nodup_append.mpr ⟨u7, by simp, fun a ha b hb => ?_⟩
      rw [List.mem_singleton.mp hb]
      exact fun z => hqf (by rw [← z]; exact ha)
end
end WL
end
section
set_option Elab.async false
set_option linter.all false
set_option maxRecDepth 100000
/-! Comprehensions over things that the frame owns. -/
namespace WL
open PySem PySem.Spec PyProof.Rows L2
/-- a walk over data while PP holds of the heap -/
structure WalkP (K : PySem.W.Frag) (A : List Addr) (H : Hp) (PP : Hp → Prop) (J : It) (es : List PyData) : Prop where
  go : ∀ i A2 H2, i < es.length → Ex (hid A H) (hid A2 H2) → PP H2 → J.go i H2
  stop : ∀ A2 H2, Ex (hid A H) (hid A2 H2) → PP H2 → J.stop es.length H2
  yld : ∀ i A2 H2 x H3, i < es.length → Ex (hid A H) (hid A2 H2) → Live A2 H2 → PP H2 → J.yld i H2 x H3 → Ex H2 H3 ∧ ∃ d, es[i]? = some d ∧ Dt K (hid A2 H3) x d
def DIp (F : Fx) (PP : Hp → Prop) (wi : TI) (δ : List WSlot) (P : List PyData → List WSlot → Prop) : Prop := ∀ A H σ, St F A H σ δ → ∀ R : It → Hp → Prop,
  (∀ J es δ' H1, P es δ' → St F A H1 σ δ' → Ex (hid A H) (hid A H1) → WalkP F.K A H1 PP J es → R J H1) → wi σ H R
section
variable {F : Fx} {te ta tb : TE} {tt : TT} {tl : TA} {t u : TS} {g : TG} {δ δ' δ'' : List WSlot} {d : PyData} {ds es : List PyData} {P : PyData → List WSlot → Prop} {PL : List PyData → List WSlot → Prop} {vs : List Nat} {wi : TI}
theorem dn_lcP {PP : Hp → Prop} {PI : List PyData → List WSlot → Prop} (hi : DIp F PP wi δ PI)
    (h : ∀ es δ1, PI es δ1 → es.length ≤ 100000 ∧ ∃ Inv : Nat → List PyData → List WSlot → Prop, Inv 0 [] δ1 ∧
      (∀ H0' i acc d δi, es[i]? = some d → Inv i acc δi → ∃ δg, DW (F.at H0') g vs d (wipeD δi vs) δg ∧
        DT (F.at H0') tt δg fun b δ2 => (b = true → DE (F.at H0') te δ2 fun y δ3 => ∃ δn, Back δi δ3 δn ∧ Inv (i + 1) (acc ++ [y]) δn) ∧ (b = false → ∃ δn, Back δi δ2 δn ∧ Inv (i + 1) acc δn)) ∧
      (∀ i acc δi, Inv i acc δi → ∀ F' A' H' σ', F'.K = F.K → St F' A' H' σ' δi → PP H') ∧ ∀ acc δ', Inv es.length acc δ' → PL acc δ') : DN F (tLc wi g tt te vs) δ PL := fun A H σ s Q q =>
  hi A H σ s _ fun J es δ1 H1 p s1 x1 w => by
    obtain ⟨hz, Inv, i0, hs, hPP, hd⟩ := h es δ1 p
    intro D hD
    have hDA : D ∉ A := s1.live.out hD
    have hDM : D ∉ F.M := fun z => hDA (s1.bs.sub _ (s1.bs.ml _ z))
    have hD0 : F.H0 D = none := by
      cases e : F.H0 D with
      | none => rfl
      | some o =>
        have z := s1.bs.kept D o (by rw [hid_out hDM]; exact e)
        rw [hD] at z; cases z
    -- the state at a turn
    let T : Nat → List PyData → List WSlot → Hp → Prop := fun i acc δi H' => Inv i acc δi ∧ St F (D :: A) H' σ δi ∧ Ex (hid A H1) (hid (D :: A) H') ∧ (∀ (j : Nat) (w : WSlot), δi[j]? = some w → ∀ a ∈ w.foot, a ∈ A) ∧ acc.length ≤ i ∧ ∃ xs, H' D = some (.lst xs) ∧ DtAll F.K (hid (D :: A) H') xs acc
    refine ⟨fun i m H' => m = es.length - i ∧ i ≤ es.length ∧ ∃ acc δi, T i acc δi H', ⟨es.length, by omega, Nat.zero_le _, [], δ1, i0, ?_, ?_, ?_, Nat.le_refl _, [], upd_same, .nil⟩, ?_⟩
    · -- the start
      refine ⟨s1.sd.step (fun a ha => ?_) (fun j w hj a ha => ?_) (by rw [hid_own hD]; exact WL.Ex.refl _), s1.bs.own hD, s1.mineF⟩
      · rcases List.mem_cons.mp ha with e | ha
        · subst e; rw [upd_same]; intro z; cases z
        · rw [upd_ne fun e => hDA (by rw [← e]; exact ha)]; exact s1.sd.live a ha
      · have hA := s1.sd.inA hj a ha
        exact ⟨upd_ne fun e => hDA (by rw [← e]; exact hA), List.mem_cons_of_mem _ hA⟩
    · rw [hid_own hD]; exact WL.Ex.refl _
    · exact fun j w hj => s1.sd.inA hj
    · rintro i m H' ⟨rfl, hle, acc, δi, hI, s', x', hown, hacc, xs, hx, ha⟩
      have pp : PP H' := hPP i acc δi hI F (D :: A) H' σ rfl s'
      by_cases hlt : i < es.length
      · refine .inr ⟨w.go i _ H' hlt x' pp, fun H2 => ∃ acc δi, T (i + 1) acc δi H2, fun H2 ⟨acc, δi, q2⟩ => ⟨es.length - (i + 1), by omega, rfl, hlt, acc, δi, q2⟩, fun x H2 y => ?_⟩
        obtain ⟨e2, d, ed, hxd⟩ := w.yld i _ H' x H2 hlt x' s'.live pp y
        -- the entry with the new list
        let H0' : Hp := fun a => if a = D then some (.lst xs) else F.H0 a
        have hH0 : ∀ a, a ≠ D → H0' a = F.H0 a := fun a z => if_neg z
        have hH0D : H0' D = some (.lst xs) := if_pos rfl
        obtain ⟨δg, hg, ht⟩ := hs H0' i acc d δi ed hI
        have sF : St (F.at H0') (D :: A) H2 (L2.wipe σ vs) (wipeD δi vs) := by
          have s2 := ((s'.ex e2).wipe vs)
          refine ⟨s2.sd, ⟨fun a o hao => ?_, s2.bs.sub, s2.bs.ml, fun a ha => ?_⟩, fun j w hj a ha => ?_⟩
          · obtain ⟨z1, z2⟩ := hid_some hao
            by_cases hax : a = D
            · subst hax
              rw [show (F.at H0').H0 a = H0' a from rfl, hH0D] at z2
              cases z2; exact e2 _ _ hx
            · rw [show (F.at H0').H0 a = H0' a from rfl, hH0 a hax] at z2
              exact s2.bs.kept a o (by rw [hid_out z1]; exact z2)
          · show H0' a ≠ none
            by_cases hax : a = D
            · subst hax; rw [hH0D]; intro z; cases z
            · rw [hH0 a hax]; exact s2.bs.lv a ha
          · have hlA : a ∈ A := by
              rcases wipeD_get hj with e | ⟨h1, _⟩
              · subst e; cases ha
              · exact hown j w h1 a ha
            rcases s2.mineF j w hj a ha with z | z
            · exact .inl z
            · refine .inr ?_
              show H0' a = none
              rw [hH0 a fun e => hDA (by rw [← e]; exact hlA)]; exact z
        refine hg (D :: A) H2 _ x sF hxd _ fun σ2 s2 hw => ⟨by rw [hw, wipe_wipe fun v hv => hv], ?_⟩
        -- what a turn comes to
        have fin : ∀ (H4 : Hp) (σ2 : List (Option V)) (δ3 δn : List WSlot), St (F.at H0') (D :: A) H4 σ2 δ3 → Ex (hid (D :: A) H2) (hid (D :: A) H4) → Back δi δ3 δn → St F (D :: A) H4 σ δn ∧ H4 D = some (.lst xs) ∧ (∀ (j : Nat) (w : WSlot), δn[j]? = some w → ∀ a ∈ w.foot, a ∈ A) := by
          intro H4 σ2 δ3 δn s4 x4 bk
          have hl : ∀ (j : Nat) (w : WSlot), δn[j]? = some w → ∀ a ∈ w.foot, a ∈ A := fun j w hj a ha => by
            rcases bk.at hj with e | ⟨_, w0, h0, hs⟩
            · rw [e] at ha; cases ha
            · exact hown j w0 h0 a (hs a ha)
          refine ⟨⟨⟨by rw [bk.len]; exact s'.sd.len, s4.sd.live, fun j w hj => ?_, fun j1 j2 w w' h1 h2 hne a ha hb => ?_⟩, ⟨fun a o hao => ?_, s'.bs.sub, s'.bs.ml, s'.bs.lv⟩, fun j w hj a ha => ?_⟩, ?_, hl⟩
          · cases w with
            | no => exact True.intro
            | dat d' =>
              obtain ⟨v, e, q1⟩ := s'.sd.dat j d' (bk.dat j d' hj)
              exact ⟨v, e, dp_ex ((hid_ex e2).trans x4) q1⟩
            | own l ds =>
              obtain ⟨h3, ds0, h0⟩ := bk.own j l ds hj
              obtain ⟨_, f2, ys, f3, f4⟩ := s4.sd.own j l ds h3
              exact ⟨(s'.sd.own j l ds0 h0).1, f2, ys, f3, f4⟩
            | box b =>
              obtain ⟨h3, b0, h0, hr, _⟩ := bk.box j b hj
              obtain ⟨_, f2, f3⟩ := s4.sd.box j b h3
              exact ⟨by rw [← hr]; exact (s'.sd.box j b0 h0).1, f2, f3⟩
          · rcases bk.at h1 with e | ⟨_, w1, k1, q1⟩
            · rw [e] at ha; cases ha
            · rcases bk.at h2 with e | ⟨_, w2, k2, q2⟩
              · rw [e] at hb; cases hb
              · exact s'.sd.apart _ _ _ _ k1 k2 hne a (q1 a ha) (q2 a hb)
          · obtain ⟨z1, z2⟩ := hid_some hao
            have hax : a ≠ D := fun e => by rw [e, hD0] at z2; cases z2
            exact s4.bs.kept a o (by rw [hid_out z1]; show H0' a = some o; rw [hH0 a hax]; exact z2)
          · rcases bk.at hj with e | ⟨_, w0, h0, hs⟩
            · rw [e] at ha; cases ha
            · exact s'.mineF j w0 h0 a (hs a ha)
          · exact s4.bs.kept D _ (by rw [hid_out hDM]; exact hH0D)
        refine ht (D :: A) H2 σ2 s2 _ fun b δ2 H3 pb s3 x3 => ?_
        cases b with
        | false =>
          rw [if_neg Bool.false_ne_true]
          obtain ⟨δn, bk, hI2⟩ := pb.2 rfl
          obtain ⟨s5, hx5, hl5⟩ := fin H3 σ2 δ2 δn s3 x3 bk
          exact ⟨acc, δn, hI2, s5, x'.trans ((hid_ex e2).trans x3), hl5, Nat.le_succ_of_le hacc, xs, hx5, dpa_ex ((hid_ex e2).trans x3) ha⟩
        | true =>
          rw [if_pos rfl]
          refine pb.1 rfl (D :: A) H3 σ2 s3 _ fun v y δ3 H4 ⟨δn, bk, hI2⟩ s4 x4 hv => ?_
          obtain ⟨s5, hx5, hl5⟩ := fin H4 σ2 δ3 δn s4 (x3.trans x4) bk
          have hla : xs.length = acc.length := ha.len
          refine ⟨xs, hx5, by rw [hla]; exact Nat.lt_of_le_of_lt (Nat.le_trans hacc (Nat.le_of_lt (Nat.lt_of_lt_of_le hlt hz))) (by decide), acc ++ [y], δn, hI2, ?_, ?_, hl5, by rw [List.length_append]; exact Nat.succ_le_succ hacc, xs ++ [v], upd_same, ?_⟩
          · have hmD : D ∈ D :: A := List.mem_cons_self
            refine ⟨s5.sd.step (fun a ha => ?_) (fun j w hj a ha => ⟨upd_ne fun e => hDA (by rw [← e]; exact hl5 j w hj a ha), s5.sd.inA hj a ha⟩) (by rw [hid_mut hmD]; exact WL.Ex.refl _), s5.bs.mut (.inr hD0), s5.mineF⟩
            by_cases e : a = D
            · subst e; rw [upd_same]; intro z; cases z
            · rw [upd_ne e]; exact s5.sd.live a ha
          · rw [hid_mut List.mem_cons_self]
            exact x'.trans ((hid_ex e2).trans (x3.trans x4))
          · rw [hid_mut List.mem_cons_self]
            exact (dpa_ex ((hid_ex e2).trans (x3.trans x4)) ha).app (.cons hv .nil)
      · have e : i = es.length := by omega
        subst e
        refine .inl ⟨w.stop _ H' x' pp, ?_⟩
        -- the end: the list is new
        let H2 : Hp := fun a => if a = D then none else H' a
        have k1 : ∀ a, a ≠ D → H2 a = H' a := fun a z => if_neg z
        have k2 : H2 D = none := if_pos rfl
        have k3 : upd H2 D (.lst xs) = H' := by
          funext a
          by_cases z : a = D
          · subst z; rw [upd_same, hx]
          · rw [upd_ne z, k1 a z]
        have k4 : hid A H2 = hid (D :: A) H' := by
          rw [← k3, hid_own k2]
        have s6 : St F A H2 σ δi := by
          refine ⟨s'.sd.step (fun a ha => ?_) (fun j w hj a ha => ⟨k1 a fun e => hDA (by rw [← e]; exact hown j w hj a ha), hown j w hj a ha⟩) (by rw [k4]; exact WL.Ex.refl _), ⟨fun a o hao => ?_, s1.bs.sub, s1.bs.ml, s1.bs.lv⟩, s'.mineF⟩
          · rw [k1 a fun e => hDA (by rw [← e]; exact ha)]; exact s'.sd.live a (List.mem_cons_of_mem _ ha)
          · have z := s'.bs.kept a o hao
            have hax : a ≠ D := fun e => by
              have z2 := (hid_some hao).2
              rw [e, hD0] at z2; cases z2
            rw [k1 a hax]; exact z
        have := q D xs acc δi H2 (hd acc δi hI) s6 (by rw [k4]; exact x1.trans x') k2 (by rw [k4]; exact ha)
        rw [k3] at this
        exact this
/-- d.items() of a locked dict by another name: the pairs, their values texts -/
theorem di_dkA {w : World} {i : Nat} {d : Addr} {od : Obj} {es : List DEnt} {zs : List Str} (ho : δ[i]? = some (.box (alB (.ref d)))) (hz : es.map (·.2.2) = zs.map V.str)
    (hP : ∀ A H σ, St F A H σ δ → H d = some (.frz od (DkO w d es)) ∧ KeysAt F.K (hid A H) es) :
    DIp F (fun H => H d = some (.frz od (DkO w d es))) (iDkI w (tVar i)) δ (is1 δ (List.zipWith (fun (e : DEnt) z => PyData.tuple [e.1, .str z]) es zs)) := fun A H σ s R q => by
  obtain ⟨r1, _, _⟩ := s.sd.box i _ ho
  obtain ⟨h1, h2⟩ := hP A H σ s
  have hl : es.length = zs.length := by
    have := congrArg List.length hz
    rwa [List.length_map, List.length_map] at this
  have hzl : (List.zipWith (fun (e : DEnt) z => PyData.tuple [e.1, .str z]) es zs).length = es.length := by rw [List.length_zipWith, hl, Nat.min_self]
  refine ⟨.ref d, r1, d, od, es, rfl, h1, q _ _ δ H ⟨rfl, rfl⟩ s (WL.Ex.refl _) ⟨fun n A2 H2 hn x pp => ⟨pp, by rw [← hzl]; exact hn⟩, fun A2 H2 x pp => ⟨pp, by rw [hzl]; exact Nat.le_refl _⟩, ?_⟩⟩
  rintro n A2 H2 v H3 hn x lv pp ⟨T, e, ot, he, rfl, hT, hot, rfl⟩
  rw [hzl] at hn
  obtain ⟨z, hz1⟩ : ∃ z, zs[n]? = some z := ⟨zs[n]'(by omega), List.getElem?_eq_getElem (by omega)⟩
  have hval : e.2.2 = V.str z := by
    have := congrArg (·[n]?) hz
    simp only [List.getElem?_map, he, hz1, Option.map_some] at this
    exact Option.some.inj this
  have x3 : Ex (hid A2 H2) (hid A2 (upd H2 T (.frz ot (.tup [.ref e.2.1, e.2.2])))) := hid_ex (WL.Ex.new hT)
  refine ⟨WL.Ex.new hT, .tuple [e.1, .str z], by rw [List.getElem?_zipWith, he, hz1], ?_⟩
  exact dt_new (lv.out hT) hT hot (.cons (dp_ex x (h2 e (List.mem_of_getElem? he)).2) (.cons (by rw [hval]; exact .str z) .nil))
end
end WL
end
section
set_option Elab.async false
set_option linter.all false
set_option maxRecDepth 100000
/-! Two frames over one heap. -/
namespace WL
open PySem PySem.Spec PyProof.Rows L2
section
variable {F : Fx} {A A' : List Addr} {H H' : Hp} {σ σ1 σ2 σ1' σ2' : List (Option V)} {δ δ1 δ2 δ1' δ2' : List WSlot}
theorem app_at {α : Type} {l1 l2 : List α} {i : Nat} {w : α} (h : (l1 ++ l2)[i]? = some w) : (i < l1.length ∧ l1[i]? = some w) ∨ (l1.length ≤ i ∧ l2[i - l1.length]? = some w) := by
  by_cases hi : i < l1.length
  · rw [List.getElem?_append_left hi] at h; exact .inl ⟨hi, h⟩
  · rw [List.getElem?_append_right (by omega)] at h; exact .inr ⟨by omega, h⟩
theorem app_l {α : Type} {l1 l2 : List α} {i : Nat} {w : α} (h : l1[i]? = some w) : (l1 ++ l2)[i]? = some w := by
  rw [List.getElem?_append_left (List.getElem?_eq_some_iff.mp h).1]; exact h
theorem app_r {α : Type} {l1 l2 : List α} {i : Nat} {w : α} (h : l2[i]? = some w) : (l1 ++ l2)[l1.length + i]? = some w := by
  rw [List.getElem?_append_right (by omega), Nat.add_sub_cancel_left]; exact h
theorem ft_app {a : Addr} : a ∈ ftAll (δ1 ++ δ2) ↔ a ∈ ftAll δ1 ∨ a ∈ ftAll δ2 := by unfold ftAll; rw [List.flatMap_append, List.mem_append]
theorem St.left (s : St F A H (σ1 ++ σ2) (δ1 ++ δ2)) (hl : σ1.length = δ1.length) : St ⟨F.K, H, A, ftAll δ1⟩ A H σ1 δ1 := by
  have at_ : ∀ (i : Nat) (w : WSlot), δ1[i]? = some w → w.says F.K A H σ1[i]? := fun i w h => by
    have := s.sd.all i w (app_l h)
    rwa [List.getElem?_append_left (by rw [hl]; exact (List.getElem?_eq_some_iff.mp h).1)] at this
  refine ⟨⟨hl, s.sd.live, at_, fun i j w w' h1 h2 hne => s.sd.apart i j w w' (app_l h1) (app_l h2) hne⟩, Bs.start H A _ s.sd.live fun a ha => ?_, fun i w h a ha => .inl (ftAll_mem.mpr ⟨i, w, h, ha⟩)⟩
  obtain ⟨i, w, h, ha⟩ := ftAll_mem.mp ha
  exact WSlot.says_in (at_ i w h) a ha
theorem St.right (s : St F A H (σ1 ++ σ2) (δ1 ++ δ2)) (hl : σ1.length = δ1.length) : St ⟨F.K, H, A, ftAll δ2⟩ A H σ2 δ2 := by
  have hl2 : σ2.length = δ2.length := by
    have := s.sd.len
    rw [List.length_append, List.length_append, hl] at this; omega
  have at_ : ∀ (i : Nat) (w : WSlot), δ2[i]? = some w → w.says F.K A H σ2[i]? := fun i w h => by
    have := s.sd.all _ w (app_r (l1 := δ1) h)
    rwa [← hl, List.getElem?_append_right (by omega), Nat.add_sub_cancel_left] at this
  refine ⟨⟨hl2, s.sd.live, at_, fun i j w w' h1 h2 hne => s.sd.apart _ _ w w' (app_r (l1 := δ1) h1) (app_r (l1 := δ1) h2) (by omega)⟩, Bs.start H A _ s.sd.live fun a ha => ?_, fun i w h a ha => .inl (ftAll_mem.mpr ⟨i, w, h, ha⟩)⟩
  obtain ⟨i, w, h, ha⟩ := ftAll_mem.mp ha
  exact WSlot.says_in (at_ i w h) a ha
/-- one of the two goes on; the other stays -/
theorem St.join (s : St F A H σ δ) {M : List Addr} (hM : ∀ a ∈ M, ∃ (i : Nat) (w : WSlot), δ[i]? = some w ∧ a ∈ w.foot) (s' : Bs H A M A' H') (x : Ex (hid A H) (hid A' H')) : (∀ a o, H a = some o → a ∉ M → H' a = some o) ∧ Bs F.H0 F.A0 F.M A' H' := by
  refine ⟨fun a o e n => s'.kept a o (by rw [hid_out n]; exact e), fun a o h => ?_, fun a ha => s'.sub a (s.bs.sub a ha), s.bs.ml, s.bs.lv⟩
  obtain ⟨h1, h2⟩ := hid_some h
  refine s'.kept a o ?_
  rw [hid_out fun z => ?_]
  · exact s.bs.kept a o h
  · obtain ⟨i, w, hi, ha⟩ := hM a z
    rcases s.mineF i w hi a ha with y | y
    · exact h1 y
    · rw [y] at h2; cases h2
theorem St.backR (s : St F A H (σ1 ++ σ2) (δ1 ++ δ2)) (hl : σ1.length = δ1.length) (s' : St ⟨F.K, H, A, ftAll δ2⟩ A' H' σ2' δ2') (x : Ex (hid A H) (hid A' H')) : St F A' H' (σ1 ++ σ2') (δ1 ++ δ2') := by
  obtain ⟨kp, bs⟩ := s.join (fun a ha => by
    obtain ⟨i, w, h, ha⟩ := ftAll_mem.mp ha
    exact ⟨_, w, app_r (l1 := δ1) h, ha⟩) s'.bs x
  have apd : ∀ (i : Nat) (w : WSlot), δ1[i]? = some w → ∀ a ∈ w.foot, a ∉ ftAll δ2 := fun i w h a ha z => by
    obtain ⟨j, w2, h2, ha2⟩ := ftAll_mem.mp z
    have hi := (List.getElem?_eq_some_iff.mp h).1
    exact s.sd.apart i _ w w2 (app_l h) (app_r (l1 := δ1) h2) (by omega) a ha ha2
  have same : ∀ (i : Nat) (w : WSlot), δ1[i]? = some w → ∀ a ∈ w.foot, H' a = H a ∧ a ∈ A ∧ H a ≠ none := fun i w h a ha => by
    have hA := s.sd.inA (app_l (l2 := δ2) h) a ha
    cases q : H a with
    | none => exact absurd q (s.sd.live a hA)
    | some o => exact ⟨by rw [kp a o q (apd i w h a ha)], hA, fun z => by cases z⟩
  refine ⟨⟨by rw [List.length_append, List.length_append, hl, s'.sd.len], s'.sd.live, fun i w h => ?_, fun i j w w' h1 h2 hne a ha hb => ?_⟩, bs, fun i w h a ha => ?_⟩
  · rcases app_at h with ⟨hi, h⟩ | ⟨hi, h⟩
    · rw [List.getElem?_append_left (by rw [hl]; exact hi)]
      have := s.sd.all i w (app_l h)
      rw [List.getElem?_append_left (by rw [hl]; exact hi)] at this
      exact WSlot.says_loc (fun a ha hA => ⟨(same i w h a ha).1, s'.bs.sub a hA⟩) x this
    · rw [List.getElem?_append_right (by omega), hl]
      exact s'.sd.all _ w h
  · have mx : ∀ (i j : Nat) (w w' : WSlot), δ1[i]? = some w → δ2'[j]? = some w' → ∀ a ∈ w.foot, a ∉ w'.foot := fun i j w w' h1 h2 a ha hb => by
      obtain ⟨_, _, q3⟩ := same i w h1 a ha
      rcases s'.mineF j w' h2 a hb with z | z
      · exact apd i w h1 a ha z
      · exact q3 z
    rcases app_at h1 with ⟨hi, h1⟩ | ⟨hi, h1⟩ <;> rcases app_at h2 with ⟨hj, h2⟩ | ⟨hj, h2⟩
    · exact s.sd.apart i j w w' (app_l h1) (app_l h2) hne a ha hb
    · exact mx i _ w w' h1 h2 a ha hb
    · exact mx j _ w' w h2 h1 a hb ha
    · exact s'.sd.apart _ _ w w' h1 h2 (by omega) a ha hb
  · rcases app_at h with ⟨hi, h⟩ | ⟨hi, h⟩
    · exact s.mineF i w (app_l h) a ha
    · rcases s'.mineF _ w h a ha with z | z
      · obtain ⟨j, w2, h2, ha2⟩ := ftAll_mem.mp z
        exact s.mineF _ w2 (app_r (l1 := δ1) h2) a ha2
      · exact H0none s z
theorem St.backL (s : St F A H (σ1 ++ σ2) (δ1 ++ δ2)) (hl : σ1.length = δ1.length) (hl' : δ1'.length = δ1.length) (s' : St ⟨F.K, H, A, ftAll δ1⟩ A' H' σ1' δ1') (x : Ex (hid A H) (hid A' H')) : St F A' H' (σ1' ++ σ2) (δ1' ++ δ2) := by
  obtain ⟨kp, bs⟩ := s.join (fun a ha => by
    obtain ⟨i, w, h, ha⟩ := ftAll_mem.mp ha
    exact ⟨_, w, app_l (l2 := δ2) h, ha⟩) s'.bs x
  have hl2 : σ2.length = δ2.length := by
    have := s.sd.len
    rw [List.length_append, List.length_append, hl] at this; omega
  have hs1 : σ1'.length = δ1'.length := s'.sd.len
  have apd : ∀ (i : Nat) (w : WSlot), δ2[i]? = some w → ∀ a ∈ w.foot, a ∉ ftAll δ1 := fun i w h a ha z => by
    obtain ⟨j, w2, h2, ha2⟩ := ftAll_mem.mp z
    have hi := (List.getElem?_eq_some_iff.mp h2).1
    exact s.sd.apart _ j w w2 (app_r (l1 := δ1) h) (app_l h2) (by omega) a ha ha2
  have same : ∀ (i : Nat) (w : WSlot), δ2[i]? = some w → ∀ a ∈ w.foot, H' a = H a ∧ a ∈ A ∧ H a ≠ none := fun i w h a ha => by
    have hA := s.sd.inA (app_r (l1 := δ1) h) a ha
    cases q : H a with
    | none => exact absurd q (s.sd.live a hA)
    | some o => exact ⟨by rw [kp a o q (apd i w h a ha)], hA, fun z => by cases z⟩
  refine ⟨⟨by rw [List.length_append, List.length_append, hs1, hl2], s'.sd.live, fun i w h => ?_, fun i j w w' h1 h2 hne a ha hb => ?_⟩, bs, fun i w h a ha => ?_⟩
  · rcases app_at h with ⟨hi, h⟩ | ⟨hi, h⟩
    · rw [List.getElem?_append_left (by rw [hs1]; exact hi)]
      exact s'.sd.all _ w h
    · rw [List.getElem?_append_right (by omega), hs1]
      have := s.sd.all _ w (app_r (l1 := δ1) h)
      rw [← hl, List.getElem?_append_right (by omega), Nat.add_sub_cancel_left] at this
      exact WSlot.says_loc (fun a ha hA => ⟨(same _ w h a ha).1, s'.bs.sub a hA⟩) x this
  · have mx : ∀ (i j : Nat) (w w' : WSlot), δ2[i]? = some w → δ1'[j]? = some w' → ∀ a ∈ w.foot, a ∉ w'.foot := fun i j w w' h1 h2 a ha hb => by
      obtain ⟨_, _, q3⟩ := same i w h1 a ha
      rcases s'.mineF j w' h2 a hb with z | z
      · exact apd i w h1 a ha z
      · exact q3 z
    rcases app_at h1 with ⟨hi, h1⟩ | ⟨hi, h1⟩ <;> rcases app_at h2 with ⟨hj, h2⟩ | ⟨hj, h2⟩
    · exact s'.sd.apart i j w w' h1 h2 hne a ha hb
    · exact mx _ i w' w h2 h1 a hb ha
    · exact mx _ j w w' h1 h2 a ha hb
    · exact s.sd.apart _ _ w w' (app_r (l1 := δ1) h1) (app_r (l1 := δ1) h2) (by omega) a ha hb
  · rcases app_at h with ⟨hi, h⟩ | ⟨hi, h⟩
    · rcases s'.mineF _ w h a ha with z | z
      · obtain ⟨j, w2, h2, ha2⟩ := ftAll_mem.mp z
        exact s.mineF _ w2 (app_l h2) a ha2
      · exact H0none s z
    · exact s.mineF _ w (app_r (l1 := δ1) h) a ha
/-- what one name owns another one owns -/
theorem St.moveB (s : St F A H σ δ) {i j : Nat} {b : Box} {w0 : WSlot} (hi : δ[i]? = some w0) (h0 : w0.foot = []) (hj : δ[j]? = some (.box b)) (hne : i ≠ j) (hv : σ[i]? = some (some b.root)) : St F A H σ ((δ.set j (.box (alB b.root))).set i (.box b)) := by
  obtain ⟨r1, r2, r3⟩ := s.sd.box j b hj
  have cs : ∀ (k : Nat) (w : WSlot), ((δ.set j (.box (alB b.root))).set i (.box b))[k]? = some w → (k = i ∧ w = .box b) ∨ (k = j ∧ w = .box (alB b.root)) ∨ (k ≠ i ∧ k ≠ j ∧ δ[k]? = some w) := fun k w h => by
    rcases set_get h with ⟨e1, e2, _⟩ | ⟨e1, h⟩
    · exact .inl ⟨e1, e2⟩
    · rcases set_get h with ⟨e2, e3, _⟩ | ⟨e2, h⟩
      · exact .inr (.inl ⟨e2, e3⟩)
      · exact .inr (.inr ⟨e1, e2, h⟩)
  refine ⟨⟨by rw [List.length_set, List.length_set]; exact s.sd.len, s.sd.live, fun k w h => ?_, fun k l w w' h1 h2 hkl a ha hb => ?_⟩, s.bs, fun k w h a ha => ?_⟩
  · rcases cs k w h with ⟨rfl, rfl⟩ | ⟨rfl, rfl⟩ | ⟨_, _, h⟩
    · exact ⟨hv, r2, r3⟩
    · exact ⟨r1, (fun a ha => by cases ha), True.intro⟩
    · exact s.sd.all k w h
  · rcases cs k w h1 with ⟨ek, ew⟩ | ⟨ek, ew⟩ | ⟨k1, k2, g1⟩
    · rcases cs l w' h2 with ⟨el, ew'⟩ | ⟨el, ew'⟩ | ⟨l1, l2, g2⟩
      · exact hkl (ek.trans el.symm)
      · rw [ew'] at hb; cases hb
      · rw [ew] at ha; exact s.sd.apart j l _ _ hj g2 (Ne.symm l2) a ha hb
    · rw [ew] at ha; cases ha
    · rcases cs l w' h2 with ⟨el, ew'⟩ | ⟨el, ew'⟩ | ⟨l1, l2, g2⟩
      · rw [ew'] at hb; exact s.sd.apart k j _ _ g1 hj k2 a ha hb
      · rw [ew'] at hb; cases hb
      · exact s.sd.apart k l _ _ g1 g2 hkl a ha hb
  · rcases cs k w h with ⟨rfl, rfl⟩ | ⟨rfl, rfl⟩ | ⟨_, _, h⟩
    · exact s.mineF j _ hj a ha
    · cases ha
    · exact s.mineF k w h a ha
/-- a second frame begins, that is handed a box and data -/
theorem St.pair (s : St F A H σ δ) {i : Nat} {b : Box} (hi : δ[i]? = some (.box b)) {v : V} {d : PyData} (hv : Dt F.K (hid A H) v d) : St F A H (σ ++ [some b.root, some v, none]) (δ.set i (.box (alB b.root)) ++ [.box b, .dat d, .no]) := by
  obtain ⟨r1, r2, r3⟩ := s.sd.box i b hi
  have hl := s.sd.len
  have s1 : St F A H (σ ++ [some b.root, some v, none]) (δ ++ [.no, .dat d, .no]) := by
    refine ⟨⟨by rw [List.length_append, List.length_append, hl]; rfl, s.sd.live, fun k w h => ?_, fun k l w w' h1 h2 hkl a ha hb => ?_⟩, s.bs, fun k w h a ha => ?_⟩
    · rcases app_at h with ⟨hk, h⟩ | ⟨hk, h⟩
      · rw [List.getElem?_append_left (by rw [hl]; exact hk)]; exact s.sd.all k w h
      · rw [List.getElem?_append_right (by omega), hl]
        match k - δ.length, h with
        | 0, h => simp at h; subst h; exact True.intro
        | 1, h => simp at h; subst h; exact ⟨v, rfl, hv⟩
        | 2, h => simp at h; subst h; exact True.intro
        | n + 3, h => simp at h
    · have nf : ∀ (k : Nat) (w : WSlot), ([.no, .dat d, .no] : List WSlot)[k]? = some w → w.foot = [] := fun k w h => by
        match k, h with
        | 0, h => simp at h; subst h; rfl
        | 1, h => simp at h; subst h; rfl
        | 2, h => simp at h; subst h; rfl
        | n + 3, h => simp at h
      rcases app_at h1 with ⟨_, h1⟩ | ⟨_, h1⟩
      · rcases app_at h2 with ⟨_, h2⟩ | ⟨_, h2⟩
        · exact s.sd.apart k l w w' h1 h2 hkl a ha hb
        · rw [nf _ _ h2] at hb; cases hb
      · rw [nf _ _ h1] at ha; cases ha
    · rcases app_at h with ⟨_, h⟩ | ⟨_, h⟩
      · exact s.mineF k w h a ha
      · match k - δ.length, h with
        | 0, h => simp at h; subst h; cases ha
        | 1, h => simp at h; subst h; cases ha
        | 2, h => simp at h; subst h; cases ha
        | n + 3, h => simp at h
  have hi2 := (List.getElem?_eq_some_iff.mp hi).1
  have := s1.moveB (i := δ.length) (j := i) (w0 := .no) (by rw [List.getElem?_append_right (Nat.le_refl _), Nat.sub_self]; rfl) rfl (app_l hi) (by omega) (by rw [List.getElem?_append_right (by omega), hl, Nat.sub_self]; rfl)
  have e : ((δ ++ [WSlot.no, WSlot.dat d, WSlot.no]).set i (.box (alB b.root))).set δ.length (.box b) = δ.set i (.box (alB b.root)) ++ [.box b, .dat d, .no] := by
    rw [List.set_append_left _ _ hi2, List.set_append_right _ _ (by rw [List.length_set]; exact Nat.le_refl _), List.length_set, Nat.sub_self]; rfl
  rw [e] at this; exact this
/-- .. and is gone -/
theorem St.drop2 (s : St F A H (σ1 ++ σ2) (δ1 ++ δ2)) (hl : σ1.length = δ1.length) : St F A H σ1 δ1 := by
  have s' := s.left hl
  exact ⟨s'.sd, s.bs, fun i w h a ha => s.mineF i w (app_l h) a ha⟩
/-- a new thing that no name holds -/
theorem St.ownNew (s : St F A H σ δ) {p : Addr} {o : HO} (hp : H p = none) : St F (p :: A) (upd H p o) σ δ := by
  have hpA : p ∉ A := s.live.out hp
  refine ⟨s.sd.step (fun a ha => ?_) (fun i w h a ha => ⟨upd_ne fun z => hpA (by rw [← z]; exact s.sd.inA h a ha), List.mem_cons_of_mem _ (s.sd.inA h a ha)⟩) (by rw [hid_own hp]; exact WL.Ex.refl _), s.bs.own hp, s.mineF⟩
  by_cases e : a = p
  · subst e; rw [upd_same]; intro z; cases z
  · rw [upd_ne e]
    rcases List.mem_cons.mp ha with q | q
    · exact absurd q e
    · exact s.sd.live a q
end
section
variable {F : Fx} {w : World} {δ : List WSlot} {N B C : List WSlot → Prop} {R : PyData → List WSlot → Prop} {i : Nat}
/-- {k: {d: z}} -/
theorem ds_layOne {tk ta : TE} {d1 d2 : List PyData} {z : Str} (hk : ∀ H0 A0 M0, DV ⟨F.K, H0, A0, M0⟩ tk δ (.tuple d1)) (ha : ∀ H0 A0 M0, DV ⟨F.K, H0, A0, M0⟩ ta δ (.tuple d2)) (k1 : KeyOk (.tuple d1) = true) (k2 : KeyOk (.tuple d2) = true)
    (hn : ∀ p q, N (δ.set i (.box (lyB F.K w p [(.tuple d1, q, [(.tuple d2, .str z)])])))) : DS F (tAsg (tDkOne F.K w tk (tDkOne F.K w ta (tC (.str z)))) (gName i)) δ N R B C := fun A H σ D s E => by
  intro p hp
  have hpA : p ∉ A := s.live.out hp
  have s1 := s.ownNew (o := DkO w p []) hp
  refine hk _ _ _ (p :: A) _ σ s1.fresh _ fun v1 e1 δ1 H1 ⟨f1, f2⟩ t1 x1 hv1 => ?_
  subst f1; subst f2
  have kp1 : H1 p = some (DkO w p []) := t1.bs.kept p _ (by
    rw [hid_out fun y => ?_]
    · exact upd_same
    · obtain ⟨j, w', hj, ha2⟩ := ftAll_mem.mp y
      exact hpA (s.sd.inA hj p ha2))
  have u1 : St F (p :: A) H1 σ δ1 := s1.back t1
  obtain ⟨b1, xs1, rfl, _, _⟩ := dp_tup hv1
  intro q hq
  have hqA : q ∉ p :: A := u1.live.out hq
  have hqp : q ≠ p := fun y => hqA (by rw [y]; exact List.mem_cons_self)
  have u2 := u1.ownNew (o := DkO w q []) hq
  have ex2 : Ex (hid (p :: A) H1) (hid (q :: p :: A) (upd H1 q (DkO w q []))) := by rw [hid_own hq]; exact WL.Ex.refl _
  refine ha _ _ _ (q :: p :: A) _ σ u2.fresh _ fun v2 e2 δ2 H2 ⟨f1, f2⟩ t2 x2 hv2 => ?_
  subst f1; subst f2
  have nft : ∀ a, a ∉ A → a ∉ ftAll δ2 := fun a n y => by
    obtain ⟨j, w', hj, ha2⟩ := ftAll_mem.mp y
    exact n (s.sd.inA hj a ha2)
  have hqA' : q ∉ A := fun y => hqA (List.mem_cons_of_mem _ y)
  have kp2 : H2 p = some (DkO w p []) := t2.bs.kept p _ (by rw [hid_out (nft p hpA)]; show upd H1 q _ p = _; rw [upd_ne (Ne.symm hqp)]; exact kp1)
  have kq2 : H2 q = some (DkO w q []) := t2.bs.kept q _ (by rw [hid_out (nft q hqA')]; exact upd_same)
  obtain ⟨b2, xs2, rfl, _, _⟩ := dp_tup hv2
  have u3 : St F (q :: p :: A) H2 σ δ2 := u2.back t2
  let Hf := upd (upd H2 q (DkO w q [(.tuple d2, b2, .str z)])) p (DkO w p [(.tuple d1, b1, .ref q)])
  have eh : hid (q :: p :: A) Hf = hid (q :: p :: A) H2 := by
    show hid _ (upd (upd _ _ _) _ _) = _
    rw [hid_mut (List.mem_cons_of_mem _ List.mem_cons_self), hid_mut List.mem_cons_self]
  refine ⟨b2, .tuple d2, rfl, k2, dp_ex hid_le hv2, kq2, b1, .tuple d1, rfl, k1, ?_, ?_, ?_⟩
  · have h3 : Dt F.K (hid (q :: p :: A) H2) (.ref b1) (.tuple d1) := dp_ex (ex2.trans x2) hv1
    have h4 : Ex (hid (q :: p :: A) H2) (upd H2 q (DkO w q [(.tuple d2, b2, .str z)])) := by
      have : hid (q :: p :: A) (upd H2 q (DkO w q [(.tuple d2, b2, .str z)])) = hid (q :: p :: A) H2 := hid_mut List.mem_cons_self
      rw [← this]; exact hid_le
    exact dp_ex h4 h3
  · rw [upd_ne (Ne.symm hqp)]; exact kp2
  · have xH : Ex (hid A H) (hid (q :: p :: A) Hf) := by
      rw [eh]
      refine WL.Ex.trans ?_ (x1.trans (ex2.trans x2))
      rw [hid_own hp]; exact WL.Ex.refl _
    -- from the first frame on
    let b' : Box := lyB F.K w p [(.tuple d1, q, [(.tuple d2, .str z)])]
    have hH : ∀ a o, H a = some o → a ∉ ftAll δ2 → H2 a = some o := fun a o e n => by
      have hap : a ≠ p := ne_of_none e hp
      have e1 : H1 a = some o := t1.bs.kept a o (by rw [hid_out n]; show upd H p _ a = _; rw [upd_ne hap]; exact e)
      have haq : a ≠ q := ne_of_none e1 hq
      exact t2.bs.kept a o (by rw [hid_out n]; show upd H1 q _ a = _; rw [upd_ne haq]; exact e1)
    have hqn : H q = none := by
      cases e : H q with
      | none => rfl
      | some o =>
        have e1 : H1 q = some o := t1.bs.kept q o (by rw [hid_out (nft q hqA')]; show upd H p _ q = _; rw [upd_ne hqp]; exact e)
        rw [hq] at e1; cases e1
    have hd : Dt F.K (hid (q :: p :: A) H2) (.ref b1) (.tuple d1) := dp_ex (ex2.trans x2) hv1
    refine E.nx _ (q :: p :: A) Hf _ (hn p q) ?_ xH
    have s0 : St F (q :: p :: A) Hf (σ.set i (some (.ref p))) (δ2.set i .no) := by
      have hA2 : ∀ (j : Nat) (w' : WSlot), δ2[j]? = some w' → ∀ a ∈ w'.foot, a ≠ p ∧ a ≠ q := fun j w' hj a ha2 => ⟨fun y => hpA (by rw [← y]; exact s.sd.inA hj a ha2), fun y => hqA' (by rw [← y]; exact s.sd.inA hj a ha2)⟩
      have lv : ∀ a ∈ q :: p :: A, Hf a ≠ none := fun a ha2 => by
        show upd (upd _ _ _) _ _ a ≠ none
        by_cases e : a = p
        · subst e; rw [upd_same]; intro y; cases y
        · rw [upd_ne e]
          by_cases e2 : a = q
          · subst e2; rw [upd_same]; intro y; cases y
          · rw [upd_ne e2]; exact u3.sd.live a ha2
      refine ⟨u3.sd.put (w0 := .no) lv (by rw [eh]; exact WL.Ex.refl _) (fun j w' _ hj a ha2 => ⟨?_, u3.sd.inA hj a ha2, fun y => nomatch y⟩) True.intro, ?_, mine_put u3.mineF fun _ a ha2 => nomatch ha2⟩
      · show upd (upd _ _ _) _ _ a = _
        obtain ⟨n1, n2⟩ := hA2 j w' hj a ha2
        rw [upd_ne n1, upd_ne n2]
      · refine ⟨fun a o h => ?_, u3.bs.sub, u3.bs.ml, u3.bs.lv⟩
        have := u3.bs.kept a o h
        have e0 : a ≠ p := fun y => by
          have := s.bs.kept a o h; rw [y, hp] at this; cases this
        have e1 : a ≠ q := fun y => by
          have := s.bs.kept a o h; rw [y, hqn] at this; cases this
        show upd (upd _ _ _) _ _ a = _
        rw [upd_ne e0, upd_ne e1]; exact this
    have e3 : (δ2.set i .no).set i (.box b') = δ2.set i (.box b') := by rw [List.set_set]
    have e4 : (σ.set i (some (.ref p))).set i (some b'.root) = σ.set i (some (.ref p)) := by rw [List.set_set]; rfl
    have ft : ∀ a ∈ b'.foot, a = p ∨ a = q := fun a ha2 => by simpa [b', lyB, lyFoot] using ha2
    have fin : SD F.K (q :: p :: A) Hf ((σ.set i (some (.ref p))).set i (some b'.root)) ((δ2.set i .no).set i (.box b')) := by
      refine s0.sd.put s0.sd.live (WL.Ex.refl _) (fun j w' hji hj a ha2 => ⟨rfl, s0.sd.inA hj a ha2, fun y => ?_⟩) ⟨rfl, fun a ha2 => ?_, ⟨[(.tuple d1, b1, .ref q)], upd_same, fun e he => ?_, rfl⟩, fun e he => ?_, ?_⟩
      · have hj2 : δ2[j]? = some w' := by
          rcases set_get hj with ⟨e1, _, _⟩ | ⟨_, h⟩
          · exact absurd e1 hji
          · exact h
        rcases ft a y with e | e
        · exact hpA (by rw [← e]; exact s.sd.inA hj2 a ha2)
        · exact hqA' (by rw [← e]; exact s.sd.inA hj2 a ha2)
      · rcases ft a ha2 with e | e <;> rw [e] <;> simp
      · rw [List.mem_singleton.mp he, eh]; exact ⟨k1, hd⟩
      · rw [List.mem_singleton.mp he]
        refine ⟨[(.tuple d2, b2, .str z)], ?_, fun e2 he2 => ?_, rfl⟩
        · show upd (upd _ _ _) _ _ q = _
          rw [upd_ne hqp, upd_same]
        · rw [List.mem_singleton.mp he2, eh]; exact ⟨k2, hv2⟩
      · show [p, q].Nodup
        simp [Ne.symm hqp]
    rw [e3, e4] at fin
    refine ⟨fin, s0.bs, fun j w' hj a ha2 => ?_⟩
    rcases set_get hj with ⟨_, rfl, _⟩ | ⟨_, h⟩
    · rcases ft a ha2 with e | e
      · rw [e]; exact H0none s hp
      · rw [e]; exact H0none s hqn
    · exact s.mineF j w' h a ha2
end
end WL
end
section
set_option Elab.async false
set_option linter.all false
set_option maxRecDepth 100000
/-! What does not wake a generator leaves it as it is: runs beside generators that must not be woken. -/
namespace WL
open PySem
/-- no frame of a generator among them -/
def NoG (fs : List Frame) : Prop := ∀ f ∈ fs, ∀ g k l c p, f ≠ Frame.gen g k l c p
theorem NoG.nil : NoG [] := fun _ h => nomatch h
theorem NoG.app {a b : List Frame} (h : NoG a) (k : NoG b) : NoG (a ++ b) := fun f hf => (List.mem_append.mp hf).elim (h f) (k f)
theorem NoG.tail {f : Frame} {a : List Frame} (h : NoG (f :: a)) : NoG a := fun x hx => h x (List.mem_cons_of_mem _ hx)
theorem NoG.ret (k : Result → Sem PySem.Fin) (h : Option Value) (g : Bool) (l : List Value) (c : Code) (p : Pos) (kp : List Value) : NoG [.ret k h g l c p kp] := fun f hf => by
  rw [List.mem_singleton.mp hf]; intros; intro z; cases z
theorem NoG.split : ∀ {fs : List Frame}, NoG fs → splitAtGen fs = none
  | [], _ => rfl
  | .ret k h g l c p kp :: fs, n => by
    show (splitAtGen fs).map _ = none
    rw [NoG.split n.tail]; rfl
  | .gen g k l c p :: fs, n => absurd rfl (n _ List.mem_cons_self g k l c p)
/-- a sleeping generator that can't be woken -/
def bad : GenState → GenState
  | .suspended _ l c p fs cl => .suspended (fun _ => .unsupported "") l c p fs cl
  | x => x
def sleeps : GenState → Prop
  | .suspended .. => True
  | _ => False
theorem bad_seen (x : GenState) : (bad x).seen = x.seen := by cases x <;> rfl
theorem bad_bare (x : GenState) : (bad x).bare = x.bare := by cases x <;> rfl
def okS : GenState → Prop
  | .suspended _ _ _ _ fs _ => NoG fs
  | _ => True
def okE : End → Prop
  | .susp _ _ _ _ _ _ fs => NoG fs
  | _ => True
theorem okE.state {e : End} (h : okE e) : okS e.genState := by
  cases e with
  | ret r => exact True.intro
  | susp v g l k c p fs => exact h
/-- G stands beside `gs`: at B's places gs has what can't be woken -/
structure SimG (B : Nat → Option GenState) (gs G : Array GenState) : Prop where
  size : G.size = gs.size
  hit : ∀ i y, B i = some y → sleeps y ∧ gs[i]? = some (bad y) ∧ G[i]? = some y
  free : ∀ i, B i = none → G[i]? = gs[i]? ∧ ∀ x, gs[i]? = some x → okS x
section
variable {M : Model} {B : Nat → Option GenState}
theorem never {Γ : Ctx} {p : Pos} {m : String} {fs : List Frame} {s s' : Shared} {e : End} (h : Runs M Γ p (.unsupported m) fs s e s') : False := by
  generalize ht : (Sem.unsupported m : Sem PySem.Fin) = t at h
  induction h with
  | segRet _ _ ih _ => exact ih ht
  | segGen _ _ ih _ => exact ih ht
  | segSuspOut _ _ ih => exact ih ht
  | segSuspGen _ _ _ _ ih _ => exact ih ht
  | _ => cases ht
theorem SimG.other {gs G : Array GenState} (S : SimG B gs G) {i : Nat} {x : GenState} (h : gs[i]? = some x) (hn : ¬ sleeps x) : B i = none ∧ G[i]? = some x := by
  cases hB : B i with
  | none => exact ⟨rfl, (S.free i hB).1.trans h⟩
  | some y =>
    obtain ⟨h1, h2, _⟩ := S.hit i y hB
    rw [h] at h2
    cases y with
    | suspended k l c p fs cl => cases h2; exact absurd True.intro hn
    | fresh c => exact h1.elim
    | running => exact h1.elim
    | finished => exact h1.elim
theorem SimG.set {gs G : Array GenState} (S : SimG B gs G) {g : Nat} (hB : B g = none) {x : GenState} (hx : okS x) : SimG B (gs.setIfInBounds g x) (G.setIfInBounds g x) := by
  refine ⟨by simp [S.size], fun i y hi => ?_, fun i hi => ?_⟩
  · have hg : g ≠ i := fun e => by rw [e, hi] at hB; cases hB
    rw [Array.getElem?_setIfInBounds_ne hg, Array.getElem?_setIfInBounds_ne hg]; exact S.hit i y hi
  · by_cases hg : g = i
    · subst hg
      have e : (G.setIfInBounds g x)[g]? = (gs.setIfInBounds g x)[g]? := by simp [Array.getElem?_setIfInBounds, S.size]
      refine ⟨e, fun y hy => ?_⟩
      have e2 : (gs.setIfInBounds g x)[g]? = if g < gs.size then some x else none := by simp [Array.getElem?_setIfInBounds]
      rw [e2] at hy
      split at hy
      · cases hy; exact hx
      · cases hy
    · rw [Array.getElem?_setIfInBounds_ne hg, Array.getElem?_setIfInBounds_ne hg]; exact S.free i hi
theorem SimG.push {gs G : Array GenState} (S : SimG B gs G) (c : Code) : SimG B (gs.push (.fresh c)) (G.push (.fresh c)) := by
  refine ⟨by simp [S.size], fun i y hi => ?_, fun i hi => ?_⟩
  · obtain ⟨h1, h2, h3⟩ := S.hit i y hi
    have k2 : i < gs.size := (Array.getElem?_eq_some_iff.mp h2).1
    refine ⟨h1, ?_, ?_⟩
    · rw [Array.getElem?_push, if_neg (by omega)]; exact h2
    · rw [Array.getElem?_push, if_neg (by rw [S.size]; omega)]; exact h3
  · obtain ⟨h1, h2⟩ := S.free i hi
    rw [Array.getElem?_push, Array.getElem?_push, S.size]
    refine ⟨by rw [h1], fun x hx => ?_⟩
    split at hx
    · cases hx; exact True.intro
    · exact h2 x hx
/-- a run beside what can't be woken is a run beside what it stands for, which stays as it is -/
theorem sim_runs {Γ : Ctx} {p : Pos} {t : Sem PySem.Fin} {fs : List Frame} {s s' : Shared} {e : End} (h : Runs M Γ p t fs s e s') : NoG fs → ∀ G, SimG B s.gens G →
    ∃ G', Runs M Γ p t fs { s with gens := G } e { s' with gens := G' } ∧ SimG B s'.gens G' ∧ okE e := by
  induction h with
  | done => exact fun _ G S => ⟨G, .done, S, True.intro⟩
  | raise => exact fun _ G S => ⟨G, .raise, S, True.intro⟩
  | again hq _ ih => exact fun n G S => let ⟨G', r, q⟩ := ih n G S; ⟨G', .again hq r, q⟩
  | rule _ ih => exact fun n G S => let ⟨G', r, q⟩ := ih n G S; ⟨G', .rule r, q⟩
  | «at» _ ih => exact fun n G S => let ⟨G', r, q⟩ := ih n G S; ⟨G', .at r, q⟩
  | load ho _ ih => exact fun n G S => let ⟨G', r, q⟩ := ih n G S; ⟨G', .load ho r, q⟩
  | update ho _ ih => exact fun n G S => let ⟨G', r, q⟩ := ih n G S; ⟨G', .update ho r, q⟩
  | loadIfAlive _ ih => exact fun n G S => let ⟨G', r, q⟩ := ih n G S; ⟨G', .loadIfAlive r, q⟩
  | point _ ih => exact fun n G S => let ⟨G', r, q⟩ := ih n G S; ⟨G', .point r, q⟩
  | alloc _ ih => exact fun n G S => let ⟨G', r, q⟩ := ih n G S; ⟨G', .alloc r, q⟩
  | fresh _ ih => exact fun n G S => let ⟨G', r, q⟩ := ih n G S; ⟨G', .fresh r, q⟩
  | ask _ ih => exact fun n G S => let ⟨G', r, q⟩ := ih n G S; ⟨G', .ask r, q⟩
  | choose hn _ ih => exact fun n G S => let ⟨G', r, q⟩ := ih n G S; ⟨G', .choose hn r, q⟩
  | os _ ih => exact fun n G S => let ⟨G', r, q⟩ := ih n G S; ⟨G', .os r, q⟩
  | handled _ ih => exact fun n G S => let ⟨G', r, q⟩ := ih n G S; ⟨G', .handled r, q⟩
  | stack _ ih => exact fun n G S => let ⟨G', r, q⟩ := ih n G S; ⟨G', .stack r, q⟩
  | thread _ ih => exact fun n G S => let ⟨G', r, q⟩ := ih n G S; ⟨G', .thread r, q⟩
  | @genState g st Γ p k s e s2 hst _ ih =>
    intro n G S
    obtain ⟨G', r, q⟩ := ih n G S
    cases hB : B g with
    | none => exact ⟨G', .genState (by show G[g]? = _; rw [(S.free g hB).1]; exact hst) r, q⟩
    | some y =>
      obtain ⟨_, h2, h3⟩ := S.hit g y hB
      have e1 : st = bad y := Option.some.inj (hst.symm.trans h2)
      rw [e1, bad_seen] at r
      exact ⟨G', .genState h3 r, q⟩
  | newGen _ ih =>
    intro n G S
    obtain ⟨G', r, q⟩ := ih n _ (S.push _)
    refine ⟨G', .newGen ?_, q⟩
    rw [← S.size] at r
    exact r
  | call _ _ ih1 ih2 =>
    intro n G S
    obtain ⟨G1, r1, S1, _⟩ := ih1 NoG.nil G S
    obtain ⟨G2, r2, q⟩ := ih2 NoG.nil G1 S1
    exact ⟨G2, .call r1 r2, q⟩
  | callSusp _ ih =>
    intro n G S
    obtain ⟨G1, r1, S1, k⟩ := ih NoG.nil G S
    exact ⟨G1, .callSusp r1, S1, NoG.app k (NoG.ret _ _ _ _ _ _ _)⟩
  | yield => exact fun _ G S => ⟨G, .yield, S, NoG.nil⟩
  | @resumeFresh Γ p g l k s c e₁ s₁ e s' hg _ hq _ ih1 ih2 =>
    intro n G S
    obtain ⟨hB, hG⟩ := S.other hg (fun z => z)
    obtain ⟨G1, r1, S1, k1⟩ := ih1 NoG.nil _ (S.set hB (x := .running) True.intro)
    obtain ⟨G2, r2, q⟩ := ih2 NoG.nil _ (S1.set hB k1.state)
    exact ⟨G2, .resumeFresh hG r1 hq r2, q⟩
  | @resumeSuspended Γ p g r l k s k₀ l₀ c₀ p₀ fs cl e₁ s₁ e s' hg hr hq _ ih1 ih2 =>
    intro n G S
    cases hB : B g with
    | some y =>
      obtain ⟨h1, h2, _⟩ := S.hit g y hB
      rw [hg] at h2
      cases y with
      | suspended k l c p fs cl => cases h2; exact (never hr).elim
      | fresh c => exact h1.elim
      | running => exact h1.elim
      | finished => exact h1.elim
    | none =>
      obtain ⟨hG, hok⟩ := S.free g hB
      obtain ⟨G1, r1, S1, k1⟩ := ih1 (hok _ hg) _ (S.set hB (x := .running) True.intro)
      obtain ⟨G2, r2, q⟩ := ih2 NoG.nil _ (S1.set hB k1.state)
      exact ⟨G2, .resumeSuspended (hG.trans hg) r1 hq r2, q⟩
  | resumeJustStarted hg hv _ ih =>
    intro n G S
    obtain ⟨G', r, q⟩ := ih n G S
    exact ⟨G', .resumeJustStarted (S.other hg (fun z => z)).2 hv r, q⟩
  | resumeThrowFresh hg _ ih =>
    intro n G S
    obtain ⟨hB, hG⟩ := S.other hg (fun z => z)
    obtain ⟨G', r, q⟩ := ih n _ (S.set hB (x := .finished) True.intro)
    exact ⟨G', .resumeThrowFresh hG r, q⟩
  | resumeRunning hg _ ih =>
    intro n G S
    obtain ⟨G', r, q⟩ := ih n G S
    exact ⟨G', .resumeRunning (S.other hg (fun z => z)).2 r, q⟩
  | resumeFinished hg _ ih =>
    intro n G S
    obtain ⟨G', r, q⟩ := ih n G S
    exact ⟨G', .resumeFinished (S.other hg (fun z => z)).2 r, q⟩
  | segRet _ _ ih1 ih2 =>
    intro n G S
    obtain ⟨G1, r1, S1, _⟩ := ih1 NoG.nil G S
    obtain ⟨G2, r2, q⟩ := ih2 n.tail G1 S1
    exact ⟨G2, .segRet r1 r2, q⟩
  | segGen _ _ _ _ => exact fun n => absurd rfl (n _ List.mem_cons_self _ _ _ _ _)
  | segSuspOut hs _ ih =>
    intro n G S
    obtain ⟨G1, r1, S1, k⟩ := ih NoG.nil G S
    exact ⟨G1, .segSuspOut hs r1, S1, NoG.app k n⟩
  | segSuspGen hs _ _ _ _ _ =>
    intro n
    rw [NoG.split n] at hs; cases hs
theorem SimG.back {gs G : Array GenState} (S : SimG B gs G) (s : Shared) (h : s.gens = gs) : ({ ({ s with gens := G } : Shared) with gens := gs } : Shared) = s := by
  cases s; cases h; rfl
theorem sim_wakes {Γ : Ctx} {p : Pos} {g : Nat} {r : Resume} {s s' : Shared} {res : GenResult} (h : Wakes M Γ p g r s res s') {G : Array GenState} (S : SimG B s.gens G) :
    ∃ G', Wakes M Γ p g r { s with gens := G } res { s' with gens := G' } ∧ SimG B s'.gens G' := by
  unfold Wakes at h ⊢
  cases hg : s.gens[g]? with
  | none => rw [hg] at h; exact h.elim
  | some x =>
    rw [hg] at h
    cases x with
    | fresh c =>
      obtain ⟨hB, hG⟩ := S.other hg (fun z => z)
      simp only [hG]
      cases r with
      | throw x =>
        obtain ⟨h1, rfl⟩ := h
        exact ⟨_, ⟨h1, rfl⟩, S.set hB (x := .finished) True.intro⟩
      | send v =>
        cases v with
        | none =>
          obtain ⟨e₁, s₁, hr, hq, h1, rfl⟩ := h
          obtain ⟨G1, r1, S1, k1⟩ := sim_runs hr NoG.nil _ (S.set hB (x := .running) True.intro)
          exact ⟨_, ⟨e₁, _, r1, hq, h1, rfl⟩, S1.set hB k1.state⟩
        | _ =>
          obtain ⟨h1, rfl⟩ := h
          exact ⟨G, ⟨h1, rfl⟩, S⟩
    | suspended k l c p0 fs cl =>
      obtain ⟨e₁, s₁, hr, hq, h1, rfl⟩ := h
      cases hB : B g with
      | some y =>
        obtain ⟨h1, h2, _⟩ := S.hit g y hB
        rw [hg] at h2
        cases y with
        | suspended => cases h2; exact (never hr).elim
        | fresh c => exact h1.elim
        | running => exact h1.elim
        | finished => exact h1.elim
      | none =>
        obtain ⟨hG, hok⟩ := S.free g hB
        rw [hg] at hG
        simp only [hG]
        obtain ⟨G1, r1, S1, k1⟩ := sim_runs hr (hok _ hg) _ (S.set hB (x := .running) True.intro)
        exact ⟨_, ⟨e₁, _, r1, hq, h1, rfl⟩, S1.set hB k1.state⟩
    | running =>
      obtain ⟨h1, rfl⟩ := h
      simp only [(S.other hg (fun z => z)).2]
      exact ⟨G, ⟨h1, rfl⟩, S⟩
    | finished =>
      obtain ⟨h1, rfl⟩ := h
      simp only [(S.other hg (fun z => z)).2]
      exact ⟨G, ⟨h1, rfl⟩, S⟩
/-- the same of what is wanted behind a term -/
theorem sim_wp {α : Type} (Γ : Ctx) (t : Sem α) : ∀ (Q : α → Pos → Shared → Prop) (E : Value → Pos → Shared → Prop) (p : Pos) (s : Shared) (G : Array GenState), SimG B s.gens G → Sem.wp M Γ t Q E p s →
    Sem.wp M Γ t (fun a p' s' => ∃ gs, SimG B gs s'.gens ∧ Q a p' { s' with gens := gs }) (fun e p' s' => ∃ gs, SimG B gs s'.gens ∧ E e p' { s' with gens := gs }) p { s with gens := G } := by
  induction t with
  | pure a => intro Q E p s G S h; exact ⟨s.gens, S, h⟩
  | raise e => intro Q E p s G S h; exact ⟨s.gens, S, h⟩
  | unsupported _ => intro Q E p s G S h; exact h
  | finish _ => intro Q E p s G S h; exact h
  | rule _ k ih => intro Q E p s G S h; exact ih () Q E p s G S h
  | «at» p' k ih => intro Q E p s G S h; exact ih () Q E p' s G S h
  | load a _ k ih => intro Q E p s G S h; obtain ⟨o, ho, h⟩ := h; exact ⟨o, ho, ih o Q E p s G S h⟩
  | update a _ f k ih => intro Q E p s G S h; exact ⟨h.1, ih () Q E p { s with heap := s.heap.update a f } G S h.2⟩
  | loadIfAlive a k ih => intro Q E p s G S h; exact ih _ Q E p s G S h
  | point _ k ih => intro Q E p s G S h; exact ih () Q E p s G S h
  | register _ _ => intro Q E p s G S h; exact h
  | alloc o k ih => intro Q E p s G S h; exact ih _ Q E p { s with heap := s.heap.push o } G S h
  | fresh k ih => intro Q E p s G S h; exact ih _ Q E p { s with toks := s.toks + 1 } G S h
  | ask k ih => intro Q E p s G S h; exact ih _ Q E p s G S h
  | choose src m k ih => intro Q E p s G S h; exact ⟨h.1, ih _ Q E p { s with drawn := s.drawn.bump src } G S h.2⟩
  | os q _ k ih => intro Q E p s G S h; exact ih _ Q E p { s with os := (Os.step s.os q).1 } G S h
  | call c hd _ _ k ih =>
    intro Q E p s G S h
    obtain ⟨r, s', hr, h⟩ := h
    obtain ⟨G', r1, S1, _⟩ := sim_runs hr NoG.nil G S
    exact ⟨r, _, r1, ih r Q E p s' G' S1 h⟩
  | handled own k ih => intro Q E p s G S h; exact ih _ Q E p s G S h
  | genState g k ih =>
    intro Q E p s G S h
    obtain ⟨st, hs, h⟩ := h
    cases hB : B g with
    | none => exact ⟨st, by show G[g]? = _; rw [(S.free g hB).1]; exact hs, ih _ Q E p s G S h⟩
    | some y =>
      obtain ⟨_, h2, h3⟩ := S.hit g y hB
      have e1 : st = bad y := Option.some.inj (hs.symm.trans h2)
      rw [e1, bad_seen] at h
      exact ⟨y, h3, ih _ Q E p s G S h⟩
  | newGen c k ih =>
    intro Q E p s G S h
    have := ih s.gens.size Q E p { s with gens := s.gens.push (.fresh c) } (G.push (.fresh c)) (S.push c) h
    show Sem.wp M Γ (k G.size) _ _ p { s with gens := G.push (.fresh c) }
    rw [S.size]; exact this
  | resume g r _ k ih =>
    intro Q E p s G S h
    obtain ⟨res, s', hw, h⟩ := h
    obtain ⟨G', w1, S1⟩ := sim_wakes hw S
    exact ⟨res, _, w1, ih res Q E p s' G' S1 h⟩
  | yield _ _ _ _ => intro Q E p s G S h; exact h
  | stack k ih => intro Q E p s G S h; exact ih _ Q E p s G S h
  | fork _ _ => intro Q E p s G S h; exact h
  | thread k ih => intro Q E p s G S h; exact ih _ Q E p s G S h
  | await _ _ _ _ _ => intro Q E p s G S h; exact h
/-- all that sleep can't be woken -/
def lull (gs : Array GenState) : Array GenState := gs.map bad
def asleep (gs : Array GenState) (i : Nat) : Option GenState := match gs[i]? with
  | some x => (match x with | .suspended .. => some x | _ => none)
  | none => none
theorem lull_sim (gs : Array GenState) : SimG (asleep gs) (lull gs) gs := by
  refine ⟨by simp [lull], fun i y h => ?_, fun i h => ?_⟩
  · unfold asleep at h
    cases hg : gs[i]? with
    | none => rw [hg] at h; cases h
    | some x =>
      rw [hg] at h
      cases x with
      | suspended k l c p fs cl => cases h; exact ⟨True.intro, by simp [lull, hg], rfl⟩
      | _ => cases h
  · unfold asleep at h
    cases hg : gs[i]? with
    | none => exact ⟨by simp [lull, hg], fun x hx => by simp [lull, hg] at hx⟩
    | some x =>
      rw [hg] at h
      cases x with
      | suspended k l c p fs cl => cases h
      | _ => exact ⟨by simp [lull, hg, bad], fun x hx => by simp [lull, hg, bad] at hx; subst hx; exact True.intro⟩
/-- THE RULE: what runs where no generator can be woken runs in the same way where they sleep, and they sleep on -/
theorem wpAny_lulled {α : Type} {A : Around} {t : Sem α} {Q : α → Shared → Prop} {E : Value → Shared → Prop} {s : Shared} (h : wpAny M A t Q E { s with gens := lull s.gens }) :
    wpAny M A t (fun a s' => ∃ gs, SimG (asleep s.gens) gs s'.gens ∧ Q a { s' with gens := gs }) (fun e s' => ∃ gs, SimG (asleep s.gens) gs s'.gens ∧ E e { s' with gens := gs }) s := fun Γ p hΓ => by
  have := sim_wp (M := M) Γ t _ _ p { s with gens := lull s.gens } s.gens (lull_sim s.gens) (h Γ p hΓ)
  exact this
end
end WL
end
section
set_option Elab.async false
set_option linter.all false
set_option maxRecDepth 100000
/-! A generator's frame, told anew at each wake. -/
namespace WL
open PySem PySem.Spec PyProof.Rows L2
/-! ### a heap cut off -/
def cutH (h : Heap) (n : Nat) : Heap := { h with objs := h.objs.extract 0 n }
theorem cutH_size {h : Heap} {n : Nat} (hn : n ≤ h.objs.size) : (cutH h n).objs.size = n := by
  show (h.objs.extract 0 n).size = n
  rw [Array.size_extract]; omega
theorem cutH_get {h : Heap} {n b : Nat} (hb : b < n) : (cutH h n).get? b = h.get? b := by
  have this : (h.objs.extract 0 n)[b]? = h.objs[b]? := by
    rw [Array.getElem?_extract]
    by_cases q : b < h.objs.size
    · rw [if_pos (show b < min n h.objs.size - 0 by omega)]; simp
    · rw [if_neg (show ¬ b < min n h.objs.size - 0 by omega), Array.getElem?_eq_none (by omega)]
  unfold cutH Heap.get?
  simp only [this]
theorem cutH_some {h : Heap} {n b : Nat} {o : Obj} (e : (cutH h n).get? b = some o) : b < n ∧ h.get? b = some o := by
  have hb : b < n := by
    have q : b < (h.objs.extract 0 n).size := Heap.lt_size e
    rw [Array.size_extract] at q
    omega
  exact ⟨hb, by rw [← cutH_get hb]; exact e⟩
def cutS (s : Shared) (n : Nat) : Shared := { s with heap := cutH s.heap n }
/-- a generator def's names: the parameters first, no cells -/
structure GNm (N ps : List Str) (sc : Scope) : Prop where
  kind : sc.kind = .function
  co : sc.isCoroutine = false
  gen : sc.isGenerator = true
  nd : N.Nodup
  pre : N.take ps.length = ps
  par : ∀ x ∈ ps, sc.names.lookup x = some .local
  flat : ∀ y ∈ sc.names, y.2 ≠ .free ∧ y.2 ≠ .cell
  none : ∀ n, cellsFrom n sc.names [] = []
/-- the context of a generator's frame whose locals stand at L, told from the state s on -/
def gX (P : Program) (w : World) (K : PySem.W.Frag) (mg : Str → Option Value) (base : Heap) (N : List Str) (qual : Str) (sc : Scope) (f : Addr) (cd : Value) (A : Around) (outer : List Env) (L : Addr) (s : Shared) (H : Hp) (pn : List (Addr × Obj)) : Cx where
  prog := P
  w := w
  K := K
  mg := mg
  base := base
  A := A.deeper (envOfC qual sc L f cd)
  N := N
  s_0 := cutS s L
  H_0 := H
  env := envOfC qual sc L f cd
  outer := outer
  stack := envOfC qual sc L f cd :: outer
  ex := []
  fn := fun _ => true
  calm := true
  pn := pn
  xe := fun _ _ => False
/-- what the locals' dict at L says of the names -/
def LocAt (N : List Str) (sc : Scope) (L : Addr) (σ : List (Option V)) (h : Heap) : Prop :=
  ∃ m, h.Ns L m ∧ ∀ (i : Nat) (x : Str) (v : V), N[i]? = some x → σ[i]? = some (some v) → sc.names.lookup x = some .local → ∃ u, RelV v u ∧ m x = some u
theorem LocAt.keep {N : List Str} {sc : Scope} {L : Addr} {σ : List (Option V)} {h h' : Heap} (x : LocAt N sc L σ h) (k : ∀ o, h.get? L = some o → h'.get? L = some o) : LocAt N sc L σ h' := by
  obtain ⟨m, ⟨o, es, ep, e, r⟩, q⟩ := x
  exact ⟨m, ⟨o, es, ep, k o e, r⟩, q⟩
section
variable {P : Program} {w : World} {K : PySem.W.Frag} {mg : Str → Option Value} {base : Heap} {N ps : List Str} {qual : Str} {sc : Scope} {f : Addr} {cd : Value} {A : Around} {outer : List Env} {L : Nat} {s : Shared} {H : Hp} {pn pins : List (Addr × Obj)} {σ : List (Option V)}
theorem flat_kind (S : GNm N ps sc) {x : Str} {k : NameKind} (h : sc.names.lookup x = some k) : k ≠ .free ∧ k ≠ .cell := S.flat _ (PySem.mem_of_lookup h)
/-- the frame's invariant, anchored at s -/
theorem anchored (S : GNm N ps sc) (hd : A.handled = none) (e0 : Env0 P w K mg base A outer s H) (hL : L < s.heap.objs.size) (hb : base.objs.size ≤ L) (hf : ∀ b ∈ frs outer, (b : Nat) < L) (hn : H L = none) (hl : LocAt N sc L σ s.heap) (len : σ.length = N.length)
    (hp : ∀ p ∈ pn ++ pins, s.heap.get? p.1 = some p.2 ∧ H p.1 = none ∧ p.1 ≠ L ∧ p.1 ∉ frs outer ∧ ∀ v, p.2.data ≠ .cell v) : Inv (gX P w K mg base N qual sc f cd A outer L s H pn) pins σ H s := by
  have noC : ∀ x c, (gX P w K mg base N qual sc f cd A outer L s H pn).env.cells.lookup x = some c → False := fun x c h => by
    have h2 : (cellsFrom (L + 1) sc.names []).lookup x = some c := h
    rw [S.none] at h2; cases h2
  have hk : ∀ x k, (gX P w K mg base N qual sc f cd A outer L s H pn).env.kindOf x = some k → k ≠ .free ∧ k ≠ .cell := fun x k h => flat_kind S h
  have cs : (cutS s L).heap.objs.size = L := cutH_size (Nat.le_of_lt hL)
  have up : ∀ b o, (cutS s L).heap.get? b = some o → s.heap.get? b = some o := fun b o e => (cutH_some e).2
  have cg : ∀ b : Nat, b < L → (cutS s L).heap.get? b = s.heap.get? b := fun b hb => cutH_get hb
  have fr : ∀ l : List Env, (∀ b ∈ frs l, (b : Nat) < L) → s.heap.FunFrames base l → (cutS s L).heap.FunFrames base l := by
    intro l
    induction l with
    | nil => intro _ _; trivial
    | cons env r ih =>
      intro hs ⟨h1, ⟨B, o, e1, e2, e3, e4⟩, h3⟩
      have hB : B ∈ frs (env :: r) := by unfold frs; rw [List.filterMap_cons, e1]; exact List.mem_cons_self
      exact ⟨h1, ⟨B, o, e1, e2, by rw [cg B (hs B hB)]; exact e3, e4⟩, ih (fun b hb => hs b (by unfold frs; rw [List.filterMap_cons, e1]; exact List.mem_cons_of_mem _ hb)) h3⟩
  refine ⟨⟨e0.mod, S.kind, rfl, rfl, Nat.le_of_eq cs, fun x y c h => (noC x c h).elim, fun x h => ?_, fun x c _ h => (noC x c h).elim, fun _ => hd, Around.frames_deeper e0.frames, .inr ⟨rfl, rfl⟩, (fun b z => by cases z),
    fun b o e => ⟨?_, (e0.bs b o e).2⟩, by show base.objs.size ≤ (cutS s L).heap.objs.size; rw [cs]; exact hb, (fun b o _ z => by cases z), (fun b z => by cases z), fr outer hf e0.funs, e0.frf⟩, rfl, e0.bare, ?_, ?_, fun x c h => (noC x c h).elim, hn, fun x c h => (noC x c h).elim, hp, e0.hok, len⟩
  · rcases h with h | h
    · exact absurd rfl (hk x _ h).2
    · exact absurd rfl (hk x _ h).1
  · show (cutS s L).heap.get? b = some o
    rw [cg b (Nat.lt_of_lt_of_le (Heap.lt_size e) hb)]
    exact (e0.bs b o e).1
  · exact ⟨fun b o e _ _ _ => up b o e, fun b o e _ _ _ => ⟨o.slots, up b o e⟩, fun b o _ n _ => n, fun b o e _ => ⟨o, up b o e⟩, fun b xs e => e, fun b o u e => e, fun b ps e => ⟨#[], by rw [Array.append_empty]; exact e⟩⟩
  · obtain ⟨m, h1, h2⟩ := hl
    refine ⟨m, h1, fun i x v e1 e2 e3 => ?_⟩
    have hx : sc.names.lookup x = some .local := by
      rcases e3 with e | e | e
      · exact e
      · exact absurd rfl (flat_kind S e).2
      · exact absurd rfl (flat_kind S e).1
    obtain ⟨u, r, q⟩ := h2 i x v e1 e2 hx
    exact ⟨u, r, .inl ⟨hx, q⟩⟩
/-- .. and what it leaves at a yield -/
theorem left_at (S : GNm N ps sc) {s1 : Shared} {H1 : Hp} (I : Inv (gX P w K mg base N qual sc f cd A outer L s H pn) pins σ H1 s1) : LocAt N sc L σ s1.heap := by
  obtain ⟨m, h1, h2⟩ := I.loc
  refine ⟨m, h1, fun i x v e1 e2 e3 => ?_⟩
  obtain ⟨u, r, l⟩ := h2 i x v e1 e2 (.inl e3)
  refine ⟨u, r, ?_⟩
  rcases l with ⟨_, q⟩ | ⟨k, _⟩
  · exact q
  · rcases k with k | k
    · exact absurd rfl (flat_kind S (show sc.names.lookup x = some .cell from k)).2
    · exact absurd rfl (flat_kind S (show sc.names.lookup x = some .free from k)).1
end
/-- the consumer behind a turn of the generator -/
theorem consumed {X : Cx} {N : List Str} {qual : Str} {sc : Scope} {f : Addr} {cd : Value} {A : Around} {L : Nat} {s s1 : Shared} {H H1 : Hp} {pn pins ip : List (Addr × Obj)} {σ σg : List (Option V)}
    (I : Inv X pins σ H s) (J : Inv (gX X.prog X.w X.K X.mg X.base N qual sc f cd A X.stack L s H pn) ip σg H1 s1) (h0 : X.s_0.heap.objs.size ≤ L) (hl : (X.env.locals : Nat) < L) (hc : ∀ x c, X.env.cells.lookup x = some c → (c : Nat) < L)
    (hp : ∀ p ∈ X.pn ++ pins, (p.1 : Nat) < L ∨ p ∈ pn) (hfs : ∀ b ∈ frs X.stack, (b : Nat) < L) : Inv X pins σ H1 s1 := by
  let ch : List Addr := (List.range s.heap.objs.size).filter fun b => decide (L ≤ b) && decide (∀ p ∈ X.pn ++ pins, p.1 ≠ b)
  have inch : ∀ b ∈ ch, L ≤ (b : Nat) ∧ ∀ p ∈ X.pn ++ pins, p.1 ≠ b := fun b hb => by
    have := (List.mem_filter.mp hb).2
    rw [Bool.and_eq_true] at this
    exact ⟨of_decide_eq_true this.1, of_decide_eq_true this.2⟩
  have off : ∀ (b : Nat) (o : Obj), s.heap.get? b = some o → b ∉ ch → b < L ∨ ∃ p ∈ X.pn ++ pins, p.1 = b := fun b o e hb => by
    by_cases h1 : L ≤ b
    · refine .inr ?_
      by_cases h2 : ∀ p ∈ X.pn ++ pins, p.1 ≠ b
      · exact absurd (List.mem_filter.mpr ⟨List.mem_range.mpr (Heap.lt_size e), by rw [decide_eq_true h1, decide_eq_true h2]; rfl⟩) hb
      · apply Classical.byContradiction
        intro z
        exact h2 fun p hp e => z ⟨p, hp, e⟩
    · exact .inl (by omega)
  have pinned : ∀ (b : Nat) (o : Obj), s.heap.get? b = some o → L ≤ b → (∃ p ∈ X.pn ++ pins, p.1 = b) → s1.heap.get? b = some o ∧ H1 b = none := by
    rintro b o e hL ⟨p, hp1, rfl⟩
    have k1 := (I.pin p hp1).1
    rw [e] at k1
    rcases hp p hp1 with z | z
    · exact absurd (Nat.lt_of_lt_of_le z hL) (Nat.lt_irrefl _)
    · obtain ⟨q1, q2, _⟩ := J.pin p (List.mem_append_left _ z)
      exact ⟨by rw [q1, Option.some.inj k1], q2⟩
  have low : ∀ b : Nat, b < L → ∀ o, s.heap.get? b = some o → (cutS s L).heap.get? b = some o := fun b hb o e => (cutH_get hb).trans e
  refine I.call' (ch := ch) (J.os.trans rfl) ⟨fun b o e n hb hx => ?_, fun b o e n hb hx => ?_, fun b o e n hx => ?_, fun b o e hx => ?_, J.base.tups, J.base.frzs, J.base.tbls⟩ J.hok J.bare fun b hb => ?_
  · rcases off b o e hx with h | h
    · exact J.base.keep b o (low b h o e) n hb (by intro z; cases z)
    · by_cases hL : L ≤ (b : Nat)
      · exact (pinned b o e hL h).1
      · exact J.base.keep b o (low b (by omega) o e) n hb (by intro z; cases z)
  · exact J.base.slot b o (low b (hfs b hb) o e) n hb (by intro z; cases z)
  · rcases off b o e hx with h | h
    · exact J.base.free b o (low b h o e) n (by intro z; cases z)
    · by_cases hL : L ≤ (b : Nat)
      · exact (pinned b o e hL h).2
      · exact J.base.free b o (low b (by omega) o e) n (by intro z; cases z)
  · rcases off b o e hx with h | h
    · exact J.base.there b o (low b h o e) (by intro z; cases z)
    · by_cases hL : L ≤ (b : Nat)
      · exact ⟨o, (pinned b o e hL h).1⟩
      · exact J.base.there b o (low b (by omega) o e) (by intro z; cases z)
  · obtain ⟨h1, h2⟩ := inch b hb
    exact ⟨.inr (Nat.le_trans h0 h1), fun z => by rw [z] at h1; exact absurd (Nat.lt_of_lt_of_le hl h1) (Nat.lt_irrefl _), fun x c e z => by have := hc x c e; rw [z] at this; exact absurd (Nat.lt_of_lt_of_le this h1) (Nat.lt_irrefl _), h2⟩
end WL
end
section
set_option Elab.async false
set_option linter.all false
set_option maxRecDepth 100000
/-! for x in g(..): a generator def whose body is a while that yields first, walked with a body. -/
namespace WL
open PySem PySem.Spec PyProof.Rows L2 GenW
/-- the generator's frame as it sleeps -/
structure Asl (N : List Str) (sc : Scope) (a L : Nat) (go : Obj) (σg : List (Option V)) (H : Hp) (s : Shared) : Prop where
  obj : s.heap.get? a = some go
  loc : LocAt N sc L σg s.heap
  na : H a = none
  nL : H L = none
  len : σg.length = N.length
/-- what is fixed while a consumer walks a generator -/
structure Fix (X : Cx) (pins : List (Addr × Obj)) (N ps : List Str) (qual : Str) (sc : Scope) (f : Addr) (cd : Value) (a L : Nat) (go : Obj) (g : Nat) : Prop where
  S : GNm N ps sc
  hd : X.A.in1.handled = none
  fr : X.A.in1.frames = some X.stack
  bs : X.base.objs.size ≤ L
  fs : ∀ b ∈ frs X.stack, (b : Nat) < L
  s0 : X.s_0.heap.objs.size ≤ L
  lo : (X.env.locals : Nat) < L
  ce : ∀ x c, X.env.cells.lookup x = some c → (c : Nat) < L
  pi : ∀ p ∈ X.pn ++ pins, (p.1 : Nat) < L
  al : L < a
  gob : ∀ v, go.data ≠ .cell v
  gen : ∀ h : Heap, h.get? a = some go → h.IsGen a g
section
variable {X : Cx} {pins : List (Addr × Obj)} {N ps : List Str} {qual : Str} {sc : Scope} {f : Addr} {cd : Value} {a L : Nat} {go : Obj} {g : Nat}
/-- the generator's invariant at a wake -/
theorem Fix.woken (F : Fix X pins N ps qual sc f cd a L go g) {σ σg : List (Option V)} {H : Hp} {s : Shared} (I : Inv X pins σ H s) (G : Asl N sc a L go σg H s) :
    Inv (gX X.prog X.w X.K X.mg X.base N qual sc f cd X.A.in1 X.stack L s H [(a, go)]) [] σg H s := by
  obtain ⟨e1, e2, e3, e4, e5, e6, e7, e8⟩ := I.env0
  have hL : L < s.heap.objs.size := by obtain ⟨m, hm, _⟩ := G.loc; exact hm.lt
  refine anchored F.S F.hd ⟨F.fr, e2, e3, e4, e5, e6, e7, e8⟩ hL F.bs F.fs G.nL G.loc G.len fun p hp => ?_
  rw [List.append_nil] at hp
  rw [List.mem_singleton.mp hp]
  exact ⟨G.obj, G.na, Nat.ne_of_gt F.al, fun z => absurd (Nat.lt_trans (F.fs a z) F.al) (Nat.lt_irrefl _), F.gob⟩
/-- .. and both behind the turn -/
theorem Fix.turned (F : Fix X pins N ps qual sc f cd a L go g) {σ σg : List (Option V)} {H H1 : Hp} {s s1 : Shared} (I : Inv X pins σ H s) (J : Inv (gX X.prog X.w X.K X.mg X.base N qual sc f cd X.A.in1 X.stack L s H [(a, go)]) [] σg H1 s1) :
    Inv X pins σ H1 s1 ∧ Asl N sc a L go σg H1 s1 := by
  obtain ⟨q1, q2, _⟩ := J.pin (a, go) (List.mem_append_left _ (List.mem_singleton.mpr rfl))
  exact ⟨consumed I J F.s0 F.lo F.ce (fun p hp => .inl (F.pi p hp)) F.fs, q1, left_at F.S J, q2, J.free, J.len⟩
/-- the reading of a generator's while, from its test on: it hands out to the consumer's turn, or ends -/
def LoopT (c : TT) (te : TE) (gt : TG) (tb : TS) (D : Ends) (W : Nat → List (Option V) → List (Option V) → Hp → Prop) (m : Nat) (σc σg : List (Option V)) (H : Hp) : Prop :=
  c σg H fun b H2 => if b = true then te σg H2 fun x H3 => gt x σc H3 fun σ2 H4 =>
    tb { D with nx := fun σ' H' => ∃ m', m' < m ∧ W m' σ' σg H', ct := fun σ' H' => ∃ m', m' < m ∧ W m' σ' σg H', bk := D.nx } σ2 H4 else D.nx σc H2
/-- what stands at a yield -/
def YP (X : Cx) (pins : List (Addr × Obj)) (N : List Str) (sc : Scope) (a L : Nat) (go : Obj) (gt : TG) (tb : TS) (D : Ends) (W : Nat → List (Option V) → List (Option V) → Hp → Prop) : Protocol := fun n _ v s kap =>
  ∃ (m : Nat) (x : V) (σc σg : List (Option V)) (H : Hp), m ≤ n ∧ RelV x v ∧ Inv X pins σc H s ∧ Asl N sc a L go σg H s ∧
    (gt x σc H fun σ2 H4 => tb { D with nx := fun σ' H' => ∃ m', m' < m ∧ W m' σ' σg H', ct := fun σ' H' => ∃ m', m' < m ∧ W m' σ' σg H', bk := D.nx } σ2 H4) ∧
    ∀ (s' : Shared) (m' : Nat) (σ' : List (Option V)) (H' : Hp), m' < m → Inv X pins σ' H' s' → Asl N sc a L go σg H' s' → W m' σ' σg H' → kap (.send .none) s'
/-- what stands at the end -/
def RP (X : Cx) (pins : List (Addr × Obj)) (a : Nat) (go : Obj) (D : Ends) : GenEnd := fun _ _ r s => (r = .ok (.ret .none) ∨ r = .ok .next) ∧ ∃ σc H, Inv X pins σc H s ∧ D.nx σc H
theorem gloop (F : Fix X pins N ps qual sc f cd a L go g) {test e : Expr} {rest fb : List Stmt} {yp ypos : Pos} {c : TT} {te : TE} {tr tb : TS} {gt : TG} {D : Ends} {W : Nat → List (Option V) → List (Option V) → Hp → Prop}
    (hc : ∀ s H, PT (gX X.prog X.w X.K X.mg X.base N qual sc f cd X.A.in1 X.stack L s H [(a, go)]) test c) (he : ∀ s H, PE (gX X.prog X.w X.K X.mg X.base N qual sc f cd X.A.in1 X.stack L s H [(a, go)]) e te)
    (hr : ∀ s H, PSs (gX X.prog X.w X.K X.mg X.base N qual sc f cd X.A.in1 X.stack L s H [(a, go)]) rest tr)
    (step : ∀ m σc σg H, W m σc σg H → tr { nx := fun σg1 H1 => LoopT c te gt tb D W m σc σg1 H1, rt := fun _ _ => False } σg H)
    (hi : interactive (envOfC qual sc L f cd) = false) (hco : sc.isCoroutine = false) {K : Flow → Sem PySem.Fin} {J : Value → Sem PySem.Fin} {p : Pos} {gd : Bool → Bool} {lv : List Value → List Value} (hgd : gd false = false)
    (hK : ∀ n s₀ s, (∃ σc H, Inv X pins σc H s ∧ D.nx σc H) → Seg (model X.prog X.w) X.A.in1 (RP X pins a go D) (YP X pins N sc a L go gt tb D W) n s₀ (.func fb (envOfC qual sc L f cd)) (K .next) [] s) :
    ∀ (m n : Nat) (s₀ s : Shared) (σc σg : List (Option V)) (H : Hp), m < n → Inv X pins σc H s → Asl N sc a L go σg H s → LoopT c te gt tb D W m σc σg H →
      Seg (model X.prog X.w) X.A.in1 (RP X pins a go D) (YP X pins N sc a L go gt tb D W) n s₀ (.whileLoop test (.Expr (.Yield (some e) yp) ypos :: rest) [] (envOfC qual sc L f cd)) ((model X.prog X.w).den (.whileLoop test (.Expr (.Yield (some e) yp) ypos :: rest) [] (envOfC qual sc L f cd)))
        (.ret (fun r => ((match r with | .ok f => (.pure f : Sem Flow) | .error e => .raise e).onRaise (cameBack (envOfC qual sc L f cd))).wrap K J gd lv) none (gd false) (lv []) (.func fb (envOfC qual sc L f cd)) p [] :: []) s := by
  have ov : X.A.in1.over (.whileLoop test (.Expr (.Yield (some e) yp) ypos :: rest) [] (envOfC qual sc L f cd)) (.ret (fun r => ((match r with | .ok f => (.pure f : Sem Flow) | .error e => .raise e).onRaise (cameBack (envOfC qual sc L f cd))).wrap K J gd lv) none (gd false) (lv []) (.func fb (envOfC qual sc L f cd)) p [] :: []) = X.A.in1.deeper (envOfC qual sc L f cd) :=
    (over_loop rfl rfl).trans over_func
  intro m
  induction m using Nat.strongRecOn with
  | ind m ih =>
    intro n s₀ s σc σg H hmn I G hT
    obtain ⟨n, rfl⟩ : ∃ k, n = k + 1 := ⟨n - 1, by omega⟩
    refine seg_whileLoop ?_
    rw [ov]
    refine wpAny_mono ((hc s H).run _ s σg H _ (F.woken I G) hT) (fun b s' hb => ?_) fun x s' hx => hx.elim
    obtain ⟨H2, J2, q2⟩ := hb
    cases b with
    | false =>
      rw [if_neg Bool.false_ne_true]
      rw [if_neg Bool.false_ne_true] at q2
      refine seg_execs_nil ?_
      exact seg_leaf (.ok .next) (hK _ s₀ s' ⟨σc, H2, (F.turned I J2).1, q2⟩)
    | true =>
      rw [if_pos rfl]
      rw [if_pos rfl] at q2
      refine seg_execs_cons ?_
      refine seg_Expr_Yield (by rfl) rfl (by show (gd false || _) = false; rw [hgd]; rfl) ?_ hco hi
      rw [ov]
      refine wpAny_mono ((he s H).run _ s' σg H2 _ J2 q2) (fun v s2 hv => ?_) fun x s2 hx => hx.elim
      obtain ⟨x, H3, J3, rv, q3⟩ := hv
      obtain ⟨I3, G3⟩ := F.turned I J3
      intro kap hk
      refine ⟨m, x, σc, σg, H3, by omega, rv, I3, G3, q3, fun s3 m' σ' H' hm I' G' w' => hk .none s3 ?_⟩
      show Seg _ _ _ _ _ _ _ ((execs rest (envOfC qual sc L f cd)).wrap _ _ _ _) _ s3
      refine seg_wrap ?_
      rw [ov]
      refine wpAny_mono ((hr s3 H').run _ s3 σg H' _ (F.woken I' G') (step m' σ' σg H' w')) (fun fl s4 hs => ?_) fun x s4 hx => hx.elim
      cases fl with
      | next =>
        obtain ⟨σg1, H4, J4, q4⟩ := hs
        obtain ⟨I4, G4⟩ := F.turned I' J4
        exact seg_again rfl (ih m' hm n s3 s4 σ' σg1 H4 (by omega) I4 G4 q4)
      | brk => obtain ⟨_, _, _, q⟩ := hs; exact q.elim
      | cont => obtain ⟨_, _, _, q⟩ := hs; exact q.elim
      | ret u => obtain ⟨_, _, _, _, _, q⟩ := hs; exact q.elim
end
end WL
end
section
set_option Elab.async false
set_option linter.all false
set_option maxRecDepth 100000
/-! One turn of a generator that raises nothing; it sleeps behind it, or is at its end. -/
namespace WL
open PySem PySem.Spec PyProof.Rows L2 GenW
open Sem (wp)
/-- what is promised of a generator with one turn less to go -/
def nextGoes (M : Model) (A : Around) (R : GenEnd) (Y : Protocol) (n : Nat) (gs : GenState) : Resume → Shared → Prop := fun r s => match n with
  | 0 => False
  | m + 1 => gs.Goes M A R Y m r s
theorem resumeS {M : Model} {A : Around} {R : GenEnd} {Y : Protocol} {n : Nat} {E : Value → Shared → Prop} {s : Shared} {g : Nat} {gs : GenState} {r : Resume} {l : List Value} {α : Type} {k : GenResult → Sem α} {Q : α → Shared → Prop}
    (hg : s.gens[g]? = some gs) (hgo : gs.Goes M A R Y n r (s.setGen g .running)) (hR : ∀ x s1, R n (s.setGen g .running) x s1 → wpAny M A (k (End.ret x).result) Q E (s1.setGen g .finished))
    (hY : ∀ v s1 gs', sleeps gs' → gs'.bare = true → Y (n - 1) (s.setGen g .running) v s1 (nextGoes M A R Y n gs') → wpAny M A (k (.yielded v)) Q E (s1.setGen g gs')) :
    wpAny M A (.resume g r l k) Q E s := fun Γ p hΓ => by
  have go : ∀ (e : End) (s1 : Shared), SegEnd R Y n (Seg.next M A R Y n) (s.setGen g .running) e s1 → e.quiet = true ∧ wp M Γ (k e.result) (fun a _ s' => Q a s') (fun e _ s' => E e s') p (s1.setGen g e.genState) := fun e s1 h => by
    cases e with
    | ret x => exact ⟨rfl, hR x s1 h Γ p hΓ⟩
    | susp v g0 l0 k0 c0 p0 fs0 =>
      refine ⟨h.1, hY v s1 (End.susp v g0 l0 k0 c0 p0 fs0).genState True.intro (End.bare_of_quiet h.1) ?_ Γ p hΓ⟩
      cases n <;> exact h.2
  rw [Sem.wp_resume]
  cases gs with
  | running => exact hgo.elim
  | finished => exact hgo.elim
  | fresh c =>
    obtain ⟨rfl, hs⟩ := hgo
    obtain ⟨e, s1, hr, he⟩ := seg_iff.mp hs (Γ.wake c p) p rfl (hΓ.wake c p)
    obtain ⟨hq, hw⟩ := go e s1 he
    exact ⟨_, _, by unfold Wakes; rw [hg]; exact ⟨e, s1, hr, hq, rfl, rfl⟩, hw⟩
  | suspended k0 l0 c0 p0 fs0 cl =>
    obtain ⟨e, s1, hr, he⟩ := seg_iff.mp hgo (Γ.wake c0 p) p0 rfl (hΓ.wake c0 p)
    obtain ⟨hq, hw⟩ := go e s1 he
    exact ⟨_, _, by unfold Wakes; rw [hg]; exact ⟨e, s1, hr, hq, rfl, rfl⟩, hw⟩
section
variable {P : Program} {w : World} {A : Around} {E : Value → Shared → Prop} {s : Shared}
theorem nextS {a : Addr} {g n : Nat} {gs : GenState} {R : GenEnd} {Y : Protocol} {Q : Option Value → Shared → Prop} (hh : A.handled = none) (hl : s.heap.NoLimit) (hroom : A.depth < recursionLimit) (hg : s.heap.IsGen a g) (hgs : s.gens[g]? = some gs)
    (hgo : gs.Goes (model P w) A.in1 R Y n (.send .none) (s.setGen g .running)) (hok : ∀ n s0 r s1, R n s0 r s1 → r = .ok (.ret .none) ∨ r = .ok .next)
    (hY : ∀ v s1 gs', sleeps gs' → gs'.bare = true → Y (n - 1) (s.setGen g .running) v s1 (nextGoes (model P w) A.in1 R Y n gs') → Q (some v) (s1.setGen g gs'))
    (hP : ∀ r s1, R n (s.setGen g .running) r s1 → ∀ h', (∀ b o, s1.heap.get? b = some o → h'.get? b = some o) → Q none { s1.setGen g .finished with heap := h' }) :
    wpAny (model P w) A (pyNext (.ref a)) Q E s := by
  unfold pyNext
  refine wpAny_bind (wpAny_attempt (wpAny_callSpecial?_slot (name := Str.ofString "__next__") hg.typeIs slot_gen_next (wpAny_call_entry slot_gen_next hg.typeIs entry_gen_next ?_ (args_gen_next _))))
  show wpAny _ A.in1 (Builtin.Generator.genWake (.ref a) (.send .none)) _ _ s
  unfold Builtin.Generator.genWake
  refine wpAny_bind (wpAny_holding (wpAny_genNumber hg (wpAny_bind (wpAny_genState hgs ?_))))
  cases gs with
  | running => exact hgo.elim
  | finished => exact hgo.elim
  | _ =>
    refine wpAny_bind (wpAny_roomToWake hl hroom ?_)
    show wpAny _ A.in1 (.resume g (.send .none) [] _) _ _ s
    refine resumeS hgs hgo (fun x s1 hx => ?_) (fun v s1 gs' hs hb hv => ?_)
    · have hres : End.result (.ret x) = .returned .none := by
        rcases hok _ _ _ _ hx with hr | hr <;> rw [hr] <;> rfl
      first | rw [hres] | simp only [hres]
      show wpAny _ A.in1 (newExc (.type "StopIteration") [] >>= _) _ _ _
      refine wpAny_bind ?_
      simp only [newExc, newTuple]
      refine wpAny_bind (wpAny_newObj_type ?_ (by size_fits))
      refine wpAny_bind (m := firstArgMember _ _) (wpAny_of_eq (a := Value.none) (by first | rfl | (simp only [firstArgMember]; rfl)) ?_)
      refine wpAny_newObj_type ?_ (by size_fits)
      simp only [raiseNew]
      refine wpAny_bind (wpAny_bind (wpAny_handled ?_))
      first | rw [show A.in1.handled = none from hh] | rw [hh]
      refine wpAny_throw ?_
      refine wpAny_bind (wpAny_isInstance (T := "StopIteration") (b := true) ⟨_, Heap.get?_push_size _ rfl, rfl⟩ isSubtype_stop ?_)
      exact wpAny_pure (hP x s1 hx _ fun b o q => Heap.get?_push_of_some _ (Heap.get?_push_of_some _ q))
    · exact wpAny_pure ⟨v, rfl, wpAny_pure (hY v s1 gs' hs hb hv)⟩
end
end WL
end
section
set_option Elab.async false
set_option linter.all false
set_option maxRecDepth 100000
/-! The consumer's loop over a generator. -/
namespace WL
open PySem PySem.Spec PyProof.Rows L2 GenW
theorem inv_gens {X : Cx} {pins : List (Addr × Obj)} {σ : List (Option V)} {H : Hp} {s : Shared} {G : Array GenState} (I : Inv X pins σ H s) (hb : AllBare G) : Inv X pins σ H { s with gens := G } :=
  ⟨I.ok, I.os, hb, I.base, I.loc, I.cell, I.free, I.freeC, I.pin, I.hok, I.len⟩
theorem bare_lull {gs : Array GenState} (h : AllBare gs) : AllBare (lull gs) := fun y hy => by
  obtain ⟨x, hx, rfl⟩ := Array.mem_map.mp hy
  rw [bad_bare]; exact h x hx
theorem SimG.bare {B : Nat → Option GenState} {gs G : Array GenState} (S : SimG B gs G) (h : AllBare gs) : AllBare G := fun y hy => by
  obtain ⟨i, hi, rfl⟩ := Array.mem_iff_getElem.mp hy
  have e : G[i]? = some G[i] := Array.getElem?_eq_getElem hi
  cases hB : B i with
  | none =>
    have := (S.free i hB).1
    rw [e] at this
    exact h _ (Array.mem_of_getElem? this.symm)
  | some x =>
    obtain ⟨_, h2, h3⟩ := S.hit i x hB
    rw [e] at h3
    rw [Option.some.inj h3, ← bad_bare]
    exact h _ (Array.mem_of_getElem? h2)
theorem asleep_at {gs : Array GenState} {g : Nat} {x : GenState} (h : gs[g]? = some x) (hs : sleeps x) : asleep gs g = some x := by
  unfold asleep
  rw [h]
  cases x with
  | suspended => rfl
  | fresh c => exact hs.elim
  | running => exact hs.elim
  | finished => exact hs.elim
theorem setGen_get {s : Shared} {g : Nat} {x y : GenState} (h : s.gens[g]? = some y) : (s.setGen g x).gens[g]? = some x := by
  show (s.gens.setIfInBounds g x)[g]? = some x
  have := (Array.getElem?_eq_some_iff.mp h).1
  simp [this]
theorem bare_set {s : Shared} {g : Nat} {x : GenState} (h : AllBare s.gens) (hx : x.bare = true) : AllBare (s.setGen g x).gens := allBare_setGen h hx
section
variable {X : Cx} {pins : List (Addr × Obj)} {N ps : List Str} {qual : Str} {sc : Scope} {f : Addr} {cd : Value} {a L : Nat} {go : Obj} {g : Nat}
/-- the generator stands ahead of a turn -/
def TI (X : Cx) (pins : List (Addr × Obj)) (N : List Str) (sc : Scope) (a L : Nat) (go : Obj) (g : Nat) (gt : TG) (tb : TS) (D : Ends) (W : Nat → List (Option V) → List (Option V) → Hp → Prop) (n : Nat) (s : Shared) : Prop :=
  ∃ σc σg H gs, s.gens[g]? = some gs ∧ Inv X pins σc H s ∧ Asl N sc a L go σg H s ∧ gs.Goes (model X.prog X.w) X.A.in1 (RP X pins a go D) (YP X pins N sc a L go gt tb D W) n (.send .none) (s.setGen g .running)
theorem walk_gen (F : Fix X pins N ps qual sc f cd a L go g) (hx : ∀ e s, ¬ X.xe e s) (hp : PassesOwn (model X.prog X.w) X.A X.env X.xe) (hh : X.A.handled = none) (hroom : X.A.depth < recursionLimit) (ffs : ∀ b ∈ X.fs, (b : Nat) < L)
    (hcls : go.cls = .type "generator") (hdat : ∃ vs, go.data = .fields vs) {tg : Expr} {body : List Stmt} {gt : TG} {tb : TS} {D : Ends} {W : Nat → List (Option V) → List (Option V) → Hp → Prop} (hg : PG X tg gt) (hb : PSs X body tb)
    (n : Nat) (s : Shared) (h : TI X pins N sc a L go g gt tb D W n s) :
    codeAny (model X.prog X.w) X.A (.forLoop tg (.ref a) body [] X.env) (fun r s' => match r with | .ok fl => SP X pins D fl s' | .error e => cameBackBy (model X.prog X.w) X.A X.env X.xe e s') s := by
  refine codeAny_forLoop_any (TI X pins N sc a L go g gt tb D W) ?_ n h
  rintro n s ⟨σc, σg, H, gs, hgs, I, G, hgo⟩
  have fpok : ∀ (H1 : Hp) (b : Nat), L ≤ b → H1 b = none → FpOk X pins H1 b := fun H1 b hb hn =>
    ⟨hn, fun z => by rw [z] at hb; exact absurd (Nat.lt_of_lt_of_le F.lo hb) (Nat.lt_irrefl _), fun z => absurd (Nat.lt_of_lt_of_le (ffs b z) hb) (Nat.lt_irrefl _), .inr (Nat.le_trans F.s0 hb),
      fun x c e z => by have := F.ce x c e; rw [z] at this; exact absurd (Nat.lt_of_lt_of_le this hb) (Nat.lt_irrefl _), fun p hp z => by have := F.pi p hp; rw [z] at this; exact absurd (Nat.lt_of_lt_of_le this hb) (Nat.lt_irrefl _)⟩
  have hgn : g + 1 ≤ s.gens.size := (Array.getElem?_eq_some_iff.mp hgs).1
  refine wpAny_passesOwn hp (wpAny_gsz (n := g + 1) hgn (wpAny_mono (nextS (E := fun _ _ => False) (Q := fun r s4 => match r with
      | none => ∃ σc H, Inv X pins σc H s4 ∧ D.nx σc H
      | some v => ∃ (m : Nat) (x : V) (σc σg : List (Option V)) (H : Hp) (gs' : GenState), sleeps gs' ∧ (g + 1 ≤ s4.gens.size → s4.gens[g]? = some gs') ∧ RelV x v ∧ Inv X pins σc H s4 ∧ Asl N sc a L go σg H s4 ∧
        (gt x σc H fun σ2 H4 => tb { D with nx := fun σ' H' => ∃ m', m' < m ∧ W m' σ' σg H', ct := fun σ' H' => ∃ m', m' < m ∧ W m' σ' σg H', bk := D.nx } σ2 H4) ∧
        ∀ (s' : Shared) (m' : Nat) (σ' : List (Option V)) (H' : Hp), m' < m → Inv X pins σ' H' s' → Asl N sc a L go σg H' s' → W m' σ' σg H' → nextGoes (model X.prog X.w) X.A.in1 (RP X pins a go D) (YP X pins N sc a L go gt tb D W) n gs' (.send .none) s')
    hh I.nolimit hroom (F.gen _ G.obj) hgs hgo (fun _ _ _ _ q => q.1) (fun v s1 gs' hsl hbr hy => ?_) (fun r s1 hr h' hk => ?_)) (fun r s4 h4 => ?_) fun _ _ z => z.elim))
  · obtain ⟨m, x, σ1, σ2, H1, _, rv, I1, G1, q, kp⟩ := hy
    refine ⟨m, x, σ1, σ2, H1, gs', hsl, fun hz => setGen_at ?_, rv, inv_gens I1 (bare_set I1.bare hbr), ⟨G1.obj, G1.loc, G1.na, G1.nL, G1.len⟩, q, kp⟩
    rw [setGen_size] at hz
    exact hz
  · obtain ⟨_, σ1, H1, I1, q⟩ := hr
    exact ⟨σ1, H1, (inv_gens I1 (bare_set (s := s1) (g := g) (x := .finished) I1.bare rfl)).kept (t' := s1.toks) hk, q⟩
  intro hz
  cases r with
  | none =>
    obtain ⟨σ1, H1, I1, q⟩ := h4
    exact wpAny_execs_nil ⟨σ1, H1, I1, q⟩
  | some v =>
    obtain ⟨m, x, σ1, σ2, H1, gs', hsl, hg', rv, I1, G1, q, kp⟩ := h4
    replace hg' := hg' hz
    obtain ⟨vs, hdat⟩ := hdat
    refine wpAny_passesOwn hp (go_of G1.obj hcls hdat (by decide) ?_)
    obtain ⟨mL, ⟨oL, esL, epL, eL, dL, rL⟩, qL⟩ := id G1.loc
    have I1p : Inv X (pins ++ pinsAt [a, L] s4.heap) σ1 H1 s4 := I1.pinned (fun b hb => by
      rcases List.mem_cons.mp hb with e | hb
      · rw [e]; exact fpok H1 a (Nat.le_of_lt F.al) G1.na
      · rw [List.mem_singleton.mp hb]; exact fpok H1 L (Nat.le_refl _) G1.nL) fun b hb => by
      rcases List.mem_cons.mp hb with e | hb
      · rw [e]; exact ⟨go, G1.obj, F.gob⟩
      · rw [List.mem_singleton.mp hb]; exact ⟨oL, eL, fun v z => by rw [dL] at z; cases z⟩
    have pa : (a, go) ∈ X.pn ++ (pins ++ pinsAt [a, L] s4.heap) := List.mem_append_right _ (List.mem_append_right _ (mem_pinsAt (List.mem_cons_self ..) G1.obj))
    have pL : (L, oL) ∈ X.pn ++ (pins ++ pinsAt [a, L] s4.heap) := List.mem_append_right _ (List.mem_append_right _ (mem_pinsAt (by simp) eL))
    refine wpAny_passesOwn hp (wpAny_mono (wpAny_lulled (hg.run _ { s4 with gens := lull s4.gens } σ1 H1 x v _ (inv_gens I1p (bare_lull I1.bare)) rv q)) (fun _ s6 h6 => ?_) fun e s' h' => ?_)
    rotate_left
    · obtain ⟨_, _, z⟩ := h'
      exact (hx _ _ z).elim
    obtain ⟨g6, S6, σ6, H6, I6, q6⟩ := h6
    have b6 : AllBare s6.gens := S6.bare I6.bare
    have I6' : Inv X (pins ++ pinsAt [a, L] s4.heap) σ6 H6 s6 := inv_gens (s := { s6 with gens := g6 }) (G := s6.gens) I6 b6
    have e6 : s6.gens[g]? = some gs' := (S6.hit g gs' (asleep_at hg' hsl)).2.2
    refine wpAny_passesOwn hp (wpAny_mono (wpAny_lulled (hb.run _ { s6 with gens := lull s6.gens } σ6 H6 _ (inv_gens I6' (bare_lull b6)) q6)) (fun fl s7 h7 => ?_) fun e s' h' => ?_)
    rotate_left
    · obtain ⟨_, _, z⟩ := h'
      exact (hx _ _ z).elim
    obtain ⟨g7, S7, q7⟩ := h7
    have e7 : s7.gens[g]? = some gs' := (S7.hit g gs' (asleep_at e6 hsl)).2.2
    have again : ∀ {σ7 : List (Option V)} {H7 : Hp}, Inv X (pins ++ pinsAt [a, L] s4.heap) σ7 H7 { s7 with gens := g7 } → (∃ m', m' < m ∧ W m' σ7 σ2 H7) → ∃ k, k < n ∧ TI X pins N sc a L go g gt tb D W k s7 := fun {σ7 H7} I7 ⟨m', hm, w7⟩ => by
      have b7 : AllBare s7.gens := S7.bare I7.bare
      have I7' : Inv X (pins ++ pinsAt [a, L] s4.heap) σ7 H7 s7 := inv_gens (s := { s7 with gens := g7 }) (G := s7.gens) I7 b7
      obtain ⟨u1, u2, _⟩ := I7'.pin _ pa
      obtain ⟨w1, w2, _⟩ := I7'.pin _ pL
      have G7 : Asl N sc a L go σ2 H7 s7 := ⟨u1, G1.loc.keep fun o e => by rw [eL] at e; cases e; exact w1, u2, w2, G1.len⟩
      have := kp (s7.setGen g .running) m' σ7 H7 hm (inv_gens I7'.unpinned (bare_set b7 rfl)) ⟨G7.obj, G7.loc, G7.na, G7.nL, G7.len⟩ w7
      cases n with
      | zero => exact this.elim
      | succ k => exact ⟨k, Nat.lt_succ_self k, σ7, σ2, H7, gs', e7, I7'.unpinned, G7, this⟩
    cases fl with
    | next => obtain ⟨σ7, H7, I7, n7⟩ := q7; exact again I7 n7
    | cont => obtain ⟨σ7, H7, I7, n7⟩ := q7; exact again I7 n7
    | brk => obtain ⟨σ7, H7, I7, q7⟩ := q7; exact ⟨σ7, H7, (inv_gens (s := { s7 with gens := g7 }) (G := s7.gens) I7 (S7.bare I7.bare)).unpinned, q7⟩
    | ret u => obtain ⟨x7, σ7, H7, I7, r7, q7⟩ := q7; exact ⟨x7, σ7, H7, (inv_gens (s := { s7 with gens := g7 }) (G := s7.gens) I7 (S7.bare I7.bare)).unpinned, r7, q7⟩
end
end WL
end
section
set_option Elab.async false
set_option linter.all false
set_option maxRecDepth 100000
/-! for x in g(e, ..): body — the rule. -/
namespace WL
open PySem PySem.Spec PyProof.Rows L2 GenW
theorem GNm.scope {N ps : List Str} {sc : Scope} (S : GNm N ps sc) : GScope N ps sc := ⟨S.kind, S.co, S.gen, S.nd, S.pre, fun x hx => .inl (S.par x hx), fun y hy => (S.flat y hy).1⟩
/-- a generator just made -/
structure Born (X : Cx) (pins : List (Addr × Obj)) (σ : List (Option V)) (H : Hp) (N : List Str) (sc : Scope) (vs : List V) (c : Nat → Code) (a L : Nat) (go : Obj) (g : Nat) (s : Shared) : Prop where
  gens : s.gens[g]? = some (.fresh (c L))
  inv : Inv X pins σ H s
  asl : Asl N sc a L go (start N vs) H s
  cls : go.cls = .type "generator"
  dat : ∃ us, go.data = .fields us
  gen : ∀ h : Heap, h.get? a = some go → h.IsGen a g
  al : L < a
  s0 : X.s_0.heap.objs.size ≤ L
  bs : X.base.objs.size ≤ L
  fs : ∀ b ∈ frs X.stack, (b : Nat) < L
  ffs : ∀ b ∈ X.fs, (b : Nat) < L
  lo : (X.env.locals : Nat) < L
  ce : ∀ x c, X.env.cells.lookup x = some c → (c : Nat) < L
  pi : ∀ p ∈ X.pn ++ pins, (p.1 : Nat) < L
theorem call_gen {X : Cx} {pins : List (Addr × Obj)} {σ : List (Option V)} {H : Hp} {s : Shared} {f : Addr} {name qual : Str} {params : Arguments} {fb : List Stmt} {sc : Scope} {dV kV doc pm cdv ct oc : Value} {an od : Option Addr} {osl : Array (Option Value)} {N ps : List Str} {vs : List V} {us : List Value}
    (lk : X.K.lookup f = some ⟨oc, od, .func (PySem.W.fnOf name qual params fb sc dV kV doc pm an cdv ct), osl⟩) (hcd : PySem.W.codeIn X.K cdv qual = true) (S : GNm N ps sc) (hl : vs.length = ps.length) (r : Vals vs us)
    (hb : BindsTo s (PySem.W.fnOf name qual params fb sc dV kV doc pm an cdv ct) ⟨us, []⟩ (ps.zip us)) (hr : Room 1 X.A) (I : Inv X pins σ H s) :
    codeAny (model X.prog X.w) X.A (.call (.ref f) ⟨us, []⟩) (fun r s' => match r with
      | .ok (.ret u) => ∃ (a L : Nat) (go : Obj) (g : Nat), u = .ref a ∧ Born X pins σ H N sc vs (fun L => .func fb (envOfC qual sc L f cdv)) a L go g s'
      | _ => False) s := by
  have e0 := I.env0
  have KX : X.K.In s.heap := e0.mod.kin.keeps fun b o e => (e0.bs b o e).1
  have lim : s.heap.NoLimit := I.nolimit
  have hkind : ∀ y ∈ ps.zip us, sc.names.lookup y.1 = some .local ∨ (sc.names.lookup y.1 = some .cell ∧ ((cellsFrom (s.heap.objs.size + 1) sc.names []).lookup y.1).isSome = true) := fun y hy => .inl (S.par _ (List.of_mem_zip hy).1)
  refine codeAny_call_generator hr.depth (KX _ _ lk) rfl S.co S.gen rfl (PySem.W.codeRec_of KX hcd) (hb _ _ _ _ ?_)
  refine wpAny_newFunctionEnv_cells S.kind hkind fun env he s1 x => ?_
  subst he
  have J := inv_startG (E := fun _ _ _ => False) S.scope hr.hd e0 hl r x
  have kp : ∀ b o, s.heap.get? b = some o → s1.heap.get? b = some o := x.toInCall.keep
  refine ⟨lim.keeps kp, ?_⟩
  obtain ⟨h1, tk, es1, hk1⟩ := x.done
  have os1 : s1.os = s.os := by rw [es1]
  have gen1 : s1.gens = s.gens := by rw [es1]
  have lt1 : s.heap.objs.size < s1.heap.objs.size := x.toInCall.ns.lt
  have loc : LocAt N sc s.heap.objs.size (start N vs) s1.heap := by
    obtain ⟨m, q1, q2⟩ := J.loc
    refine ⟨m, q1, fun i y v e1 e2 e3 => ?_⟩
    obtain ⟨u, ru, lu⟩ := q2 i y v e1 e2 (.inl e3)
    refine ⟨u, ru, ?_⟩
    rcases lu with ⟨_, q⟩ | ⟨k, _⟩
    · exact q
    · rcases k with k | k
      · exact absurd rfl (flat_kind S (show sc.names.lookup y = some .cell from k)).2
      · exact absurd rfl (flat_kind S (show sc.names.lookup y = some .free from k)).1
  have main : ∀ (go : Obj) (nm qn : Value) (tk2 : Nat), go.cls = .type "generator" → go.data = .fields #[.int s1.gens.size 0, nm, qn] → go.slots = #[] → (∀ h : Heap, (h.push go).get? h.objs.size = some go) →
      Born X pins σ H N sc vs (fun L => .func fb (envOfC qual sc L f cdv)) s1.heap.objs.size s.heap.objs.size go s1.gens.size { s1 with gens := s1.gens.push (.fresh (.func fb (envOfC qual sc s.heap.objs.size f cdv))), toks := tk2, heap := s1.heap.push go } := by
    intro go nm qn tk2 hgc hgd hgs hgp
    have up : ∀ b o, s.heap.get? b = some o → (s1.heap.push go).get? b = some o := fun b o e => Heap.get?_push_of_some _ (kp b o e)
    have lt : ∀ {b : Nat} {o : Obj}, s.heap.get? b = some o → b < s.heap.objs.size := fun e => Heap.lt_size e
    refine ⟨Array.getElem?_push_size .., I.call' (ch := []) os1 (Un.kept up) (I.hok.kept up) (AllBare.push (by rw [gen1]; exact e0.bare) rfl) (fun b z => by cases z),
      ⟨hgp _, loc.keep fun o e => Heap.get?_push_of_some _ e, I.hok.fresh (Nat.le_of_lt lt1), I.hok.fresh (Nat.le_refl _), J.len⟩, hgc, ⟨_, hgd⟩, fun h e => ⟨go, nm, qn, e, hgc, hgd, hgs⟩, lt1, I.sz, Nat.le_trans I.ok.bsz I.sz, fun b hb => ?_, fun b hb => ?_, I.lt, fun y c e => ?_, fun p hp => ?_⟩
    · obtain ⟨_, o, ho, _⟩ := I.stack.mem hb
      exact lt ho
    · obtain ⟨_, o, ho, _⟩ := I.funs.mem hb
      exact lt ho
    · obtain ⟨v, o, ho, _⟩ := I.cell y c e
      exact lt ho
    · exact lt (I.pin p hp).1
  exact ⟨_, _, _, _, rfl, main _ _ _ _ rfl rfl rfl fun h => Heap.get?_push_size _ rfl⟩
/-- the reading of `for x in g(..): body`, the generator's def being: pre; while c: yield te; tr -/
def tForG (N : List Str) (ta : TA) (tpre : TS) (c : TT) (te : TE) (tr : TS) (gt : TG) (tb : TS) : TS := fun D σ H => ta σ H fun vs H1 => vs.length ≤ N.length ∧ ∃ (W : Nat → List (Option V) → List (Option V) → Hp → Prop) (m : Nat),
  (∀ m σc σg H, W m σc σg H → tr { nx := fun σg1 H1 => LoopT c te gt tb D W m σc σg1 H1, rt := fun _ _ => False } σg H) ∧
  tpre { nx := fun σg H2 => LoopT c te gt tb D W m σ σg H2, rt := fun _ _ => False } (start N vs) H1
section
variable {X : Cx} {x qual : Str} {gst : Stmt} {f : Addr} {fd : FuncData} {N ps : List Str} {tg test e : Expr} {rest : List Stmt} {pre : Stmt} {yp ypos wpos : Pos}
theorem ps_forG {args : List Expr} {a0 : Expr} {p cpos fpos : Pos} {body : List Stmt} {ta : TA} {tpre tr tb : TS} {c : TT} {te : TE} {gt : TG} (FG : Fun X.K x qual gst f fd) (S : GNm N ps (defScope gst))
    (hbody : defBody gst = [pre, .While test (.Expr (.Yield (some e) yp) ypos :: rest) [] wpos]) (hb : Binds X.K fd ps []) (hx : ∀ e s, ¬ X.xe e s) (hp : PassesOwn (model X.prog X.w) X.A X.env X.xe) (hr : Room 1 X.A)
    (hg : Gl X x) (hm : X.mg x = some (.ref f)) (hpa : PA X (a0 :: args) ta) (htg : PG X tg gt) (hbd : PSs X body tb)
    (hpre : ∀ cd L s H pn, PS (gX X.prog X.w X.K X.mg X.base N qual (defScope gst) f cd X.A.in1 X.stack L s H pn) pre tpre) (hc : ∀ cd L s H pn, PT (gX X.prog X.w X.K X.mg X.base N qual (defScope gst) f cd X.A.in1 X.stack L s H pn) test c)
    (he : ∀ cd L s H pn, PE (gX X.prog X.w X.K X.mg X.base N qual (defScope gst) f cd X.A.in1 X.stack L s H pn) e te) (hrs : ∀ cd L s H pn, PSs (gX X.prog X.w X.K X.mg X.base N qual (defScope gst) f cd X.A.in1 X.stack L s H pn) rest tr)
    (hni : ∀ cd L, interactive (envOfC qual (defScope gst) L f cd) = false := by intro _ _; rfl) (hfr : X.A.in1.frames = X.A.frames := by rfl) (hdb : (x == ("__debug__" : Str)) = false := by decide) (hse : starEach (a0 :: args) X.env = (false, eval a0 X.env) :: starEach args X.env := by rfl) (hpl : (backTo cpos (starEach args X.env)).any (·.1) = false := by rfl)
    (hs : ∀ y, foldedSetIterable (.Call (.Name x p) (a0 :: args) [] cpos) X.env y = pure y := by intro _; rfl) (hvl : ∀ (Q : List V → Hp → Prop) σ H, ta σ H Q → ta σ H fun vs H' => vs.length = ps.length ∧ Q vs H') :
    PS X (.For tg (.Call (.Name x p) (a0 :: args) [] cpos) body [] fpos) (tForG N ta tpre c te tr gt tb) := by
  refine ⟨fun pins s σ H D I h => ?_⟩
  obtain ⟨oc, od, kV, doc, pm, an, cdv, ct, osl, rfl, lk, hcd⟩ := FG.ex
  refine wpAny_For ?_ hs
  refine wpAny_Call_Name_kw (ld_glob I hg hm ?_ hdb)
  refine PySem.W.callWith_K (h₀ := X.base) I.ok.mod.kin FG.kp (thn (hpa.run cpos pins s σ H _ I (hvl _ σ H h)) fun us s1 ⟨vs, H1, I1, r, hl, q⟩ => ⟨I1.kIn, ?_⟩) hse hpl
  obtain ⟨hvN, W, m, step, start⟩ := q
  have hbt := hb s1 us I1.kIn (by rw [List.append_nil, ← r.length]; exact hl)
  rw [List.append_nil] at hbt
  refine wpAny_call (codeAny_mono (call_gen (N := N) lk hcd S hl r hbt hr I1) fun res s2 h2 => ?_)
  cases res with
  | error z => exact h2.elim
  | ok fl =>
    cases fl with
    | next => exact h2.elim
    | brk => exact h2.elim
    | cont => exact h2.elim
    | ret u =>
      obtain ⟨a, L, go, g, rfl, B⟩ := h2
      refine wpAny_pyIter_gen (B.gen _ B.asl.obj) ?_
      have F : Fix X pins N ps qual (defScope gst) f cdv a L go g := ⟨S, hr.hd, hfr.trans I.ok.frames, B.bs, B.fs, B.s0, B.lo, B.ce, B.pi, B.al, (fun v z => by obtain ⟨us', hu⟩ := B.dat; rw [hu] at z; cases z), B.gen⟩
      refine walk_gen F hx hp hr.hd hr.depth B.ffs B.cls B.dat htg hbd (W := W) (m + 1) s2 ⟨σ, L2.start N vs, H1, _, B.gens, B.inv, B.asl, rfl, ?_⟩
      have bt : AllBare (s2.setGen g .running).gens := bare_set B.inv.bare rfl
      have I2 : Inv X pins σ H1 (s2.setGen g .running) := inv_gens B.inv bt
      have G2 : Asl N (defScope gst) a L go (L2.start N vs) H1 (s2.setGen g .running) := ⟨B.asl.obj, B.asl.loc, B.asl.na, B.asl.nL, B.asl.len⟩
      refine seg_func ?_
      rw [hbody]
      refine seg_execs_cons ?_
      refine seg_wrap ?_
      rw [over_func]
      refine wpAny_mono ((hpre cdv L (s2.setGen g .running) H1 [(a, go)]).run _ _ (L2.start N vs) H1 _ (F.woken I2 G2) start) (fun fl s3 h3 => ?_) fun z s3 hz => hz.elim
      cases fl with
      | brk => obtain ⟨_, _, _, z⟩ := h3; exact z.elim
      | cont => obtain ⟨_, _, _, z⟩ := h3; exact z.elim
      | ret u => obtain ⟨_, _, _, _, _, z⟩ := h3; exact z.elim
      | next =>
        obtain ⟨σg, H3, J3, q3⟩ := h3
        obtain ⟨I3, G3⟩ := F.turned I2 J3
        refine seg_execs_cons ?_
        refine seg_While fun pw => ?_
        refine gloop F (fun s H => hc cdv L s H _) (fun s H => he cdv L s H _) (fun s H => hrs cdv L s H _) step (hni cdv L) S.co rfl (fun n s0 s4 h4 => ?_) m (m + 1) _ s3 σ σg H3 (Nat.lt_succ_self m) I3 G3 q3
        refine seg_execs_nil ?_
        exact seg_end (.ok (.ret .none)) ⟨.inl rfl, h4⟩
end
end WL
end
section
set_option Elab.async false
set_option linter.all false
set_option maxRecDepth 100000
namespace WL
open PySem PySem.Spec PyProof.Rows L2
def topS (i : Nat) : Stmt := PySem.Challenge.pw_weavelines_k02_whole_judges.main.body.getD i (.Pass ⟨0, 0, 0, 0⟩)

abbrev st_is_between : Stmt := topS 13
theorem sc_is_between : FnScope ["value", "low", "high"] ["value", "low", "high"] (defScope st_is_between) := ⟨rfl, rfl, rfl, by decide +kernel, rfl, by decide +kernel, by decide +kernel⟩

abbrev st_is_number : Stmt := topS 14
theorem sc_is_number : FnScope ["value", "many"] ["value", "many"] (defScope st_is_number) := ⟨rfl, rfl, rfl, by decide +kernel, rfl, by decide +kernel, by decide +kernel⟩

abbrev st_is_tuple : Stmt := topS 15
theorem sc_is_tuple : FnScope ["value", "least", "most"] ["value", "least", "most"] (defScope st_is_tuple) := ⟨rfl, rfl, rfl, by decide +kernel, rfl, by decide +kernel, by decide +kernel⟩

abbrev st_check_machine : Stmt := topS 16
theorem sc_check_machine : FnScope ["machine", "cells", "functions", "reads"] ["machine"] (defScope st_check_machine) := ⟨rfl, rfl, rfl, by decide +kernel, rfl, by decide +kernel, by decide +kernel⟩

abbrev st_is_term : Stmt := topS 17
theorem sc_is_term : FnScope ["machine", "value", "deepest", "cells", "functions", "part"] ["machine", "value", "deepest"] (defScope st_is_term) := ⟨rfl, rfl, rfl, by decide +kernel, rfl, by decide +kernel, by decide +kernel⟩

abbrev st_is_line : Stmt := topS 18
theorem sc_is_line : FnScope ["machine", "value", "cells", "functions", "cell", "function", "sources", "source"] ["machine", "value"] (defScope st_is_line) := ⟨rfl, rfl, rfl, by decide +kernel, rfl, by decide +kernel, by decide +kernel⟩

abbrev st_check_hands : Stmt := topS 19
theorem sc_check_hands : FnScope ["machine", "hands", "hand", "row", "index", "line"] ["machine", "hands"] (defScope st_check_hands) := ⟨rfl, rfl, rfl, by decide +kernel, rfl, by decide +kernel, by decide +kernel⟩

abbrev st_is_weaving : Stmt := topS 20
theorem sc_is_weaving : FnScope ["hands", "value", "hand", "row"] ["hands", "value"] (defScope st_is_weaving) := ⟨rfl, rfl, rfl, by decide +kernel, rfl, by decide +kernel, by decide +kernel⟩

abbrev st_is_wish : Stmt := topS 21
theorem sc_is_wish : FnScope ["machine", "value"] ["machine", "value"] (defScope st_is_wish) := ⟨rfl, rfl, rfl, by decide +kernel, rfl, by decide +kernel, by decide +kernel⟩

abbrev st_check_wishes : Stmt := topS 22
theorem sc_check_wishes : FnScope ["machine", "hands", "wishes"] ["machine", "hands", "wishes"] (defScope st_check_wishes) := ⟨rfl, rfl, rfl, by decide +kernel, rfl, by decide +kernel, by decide +kernel⟩

abbrev st_check_wish_rows : Stmt := topS 23
theorem sc_check_wish_rows : FnScope ["machine", "wishes", "hand", "row", "index", "wish"] ["machine", "wishes"] (defScope st_check_wish_rows) := ⟨rfl, rfl, rfl, by decide +kernel, rfl, by decide +kernel, by decide +kernel⟩

abbrev st_TermBook___init : Stmt := inClass (topS 25) 0
theorem sc_TermBook___init : FnScope ["self", "machine", "cells"] ["self", "machine"] (defScope st_TermBook___init) := ⟨rfl, rfl, rfl, by decide +kernel, rfl, by decide +kernel, by decide +kernel⟩

abbrev st_TermBook_made : Stmt := inClass (topS 25) 1
theorem sc_TermBook_made : FnScope ["self", "function", "parts", "key", "part"] ["self", "function", "parts"] (defScope st_TermBook_made) := ⟨rfl, rfl, rfl, by decide +kernel, rfl, by decide +kernel, by decide +kernel⟩

abbrev st_TermBook_number_of : Stmt := inClass (topS 25) 2
theorem sc_TermBook_number_of : FnScope ["self", "term", "part"] ["self", "term"] (defScope st_TermBook_number_of) := ⟨rfl, rfl, rfl, by decide +kernel, rfl, by decide +kernel, by decide +kernel⟩

abbrev st_numbered : Stmt := topS 26
theorem sc_numbered : FnScope ["book", "wishes", "row", "cell", "term"] ["book", "wishes"] (defScope st_numbered) := ⟨rfl, rfl, rfl, by decide +kernel, rfl, by decide +kernel, by decide +kernel⟩

abbrev st_DepthBook___init : Stmt := inClass (topS 27) 0
theorem sc_DepthBook___init : FnScope ["self", "machine"] ["self", "machine"] (defScope st_DepthBook___init) := ⟨rfl, rfl, rfl, by decide +kernel, rfl, by decide +kernel, by decide +kernel⟩

abbrev st_DepthBook_made : Stmt := inClass (topS 27) 1
theorem sc_DepthBook_made : FnScope ["self", "function", "parts"] ["self", "function", "parts"] (defScope st_DepthBook_made) := ⟨rfl, rfl, rfl, by decide +kernel, rfl, by decide +kernel, by decide +kernel⟩

abbrev st_held_after : Stmt := topS 28
theorem sc_held_after : FnScope ["book", "line", "held", "cell", "function", "sources", "new", "source"] ["book", "line", "held"] (defScope st_held_after) := ⟨rfl, rfl, rfl, by decide +kernel, rfl, by decide +kernel, by decide +kernel⟩

abbrev st_held_behind : Stmt := topS 29
theorem sc_held_behind : FnScope ["book", "hands", "weaving", "held", "done", "hand"] ["book", "hands", "weaving"] (defScope st_held_behind) := ⟨rfl, rfl, rfl, by decide +kernel, rfl, by decide +kernel, by decide +kernel⟩

abbrev st_steps_from : Stmt := topS 32
theorem sc_steps_from : FnScope ["hands", "moments", "steps", "hand", "done", "later"] ["hands", "moments"] (defScope st_steps_from) := ⟨rfl, rfl, rfl, by decide +kernel, rfl, by decide +kernel, by decide +kernel⟩

abbrev st_add_ways : Stmt := topS 33
theorem sc_add_ways : FnScope ["book", "hand", "line", "ways", "later_ways", "figure", "held", "way", "new", "longer"] ["book", "hand", "line", "ways", "later_ways"] (defScope st_add_ways) := ⟨rfl, rfl, rfl, by decide +kernel, rfl, by decide +kernel, by decide +kernel⟩

abbrev st_next_layer : Stmt := topS 34
theorem sc_next_layer : FnScope ["book", "hands", "layer", "after", "moments", "ways", "hand", "line", "later"] ["book", "hands", "layer"] (defScope st_next_layer) := ⟨rfl, rfl, rfl, by decide +kernel, rfl, by decide +kernel, by decide +kernel⟩

abbrev st_check_depth : Stmt := topS 36
theorem sc_check_depth : FnScope ["machine", "hands", "book", "_"] ["machine", "hands"] (defScope st_check_depth) := ⟨rfl, rfl, rfl, by decide +kernel, rfl, by decide +kernel, by decide +kernel⟩

abbrev st_check_width : Stmt := topS 37
theorem sc_check_width : FnScope ["layer", "ways"] ["layer"] (defScope st_check_width) := ⟨rfl, rfl, rfl, by decide +kernel, rfl, by decide +kernel, by decide +kernel⟩

abbrev st_keeps : Stmt := topS 39
theorem sc_keeps : FnScope ["machine", "hands", "wishes"] ["machine", "hands", "wishes"] (defScope st_keeps) := ⟨rfl, rfl, rfl, by decide +kernel, rfl, by decide +kernel, by decide +kernel⟩

abbrev st_harm : Stmt := topS 40
theorem sc_harm : FnScope ["machine", "hands", "wishes"] ["machine", "hands", "wishes"] (defScope st_harm) := ⟨rfl, rfl, rfl, by decide +kernel, rfl, by decide +kernel, by decide +kernel⟩

abbrev st_shows_harm : Stmt := topS 41
theorem sc_shows_harm : FnScope ["machine", "hands", "wishes", "value", "book", "wished", "moments", "hand"] ["machine", "hands", "wishes", "value"] (defScope st_shows_harm) := ⟨rfl, rfl, rfl, by decide +kernel, rfl, by decide +kernel, by decide +kernel⟩

abbrev st_check_judged : Stmt := topS 42
theorem sc_check_judged : FnScope ["machine", "hands", "wishes"] ["machine", "hands", "wishes"] (defScope st_check_judged) := ⟨rfl, rfl, rfl, by decide +kernel, rfl, by decide +kernel, by decide +kernel⟩

abbrev st_due_wishes : Stmt := topS 43
theorem sc_due_wishes : FnScope ["hands", "wished", "moments", "due", "hand", "row"] ["hands", "wished", "moments"] (defScope st_due_wishes) := ⟨rfl, rfl, rfl, by decide +kernel, rfl, by decide +kernel, by decide +kernel⟩

abbrev st_is_harmed : Stmt := topS 44
theorem sc_is_harmed : FnScope ["held", "due", "cell", "number"] ["held", "due"] (defScope st_is_harmed) := ⟨rfl, rfl, rfl, by decide +kernel, rfl, by decide +kernel, by decide +kernel⟩

abbrev st_least_harm : Stmt := topS 45
theorem sc_least_harm : FnScope ["hands", "wished", "layer", "harmful", "moments", "ways", "due", "held", "way"] ["hands", "wished", "layer"] (defScope st_least_harm) := ⟨rfl, rfl, rfl, by decide +kernel, rfl, by decide +kernel, by decide +kernel⟩

abbrev st_find_harm : Stmt := topS 46
theorem sc_find_harm : FnScope ["machine", "hands", "wishes", "book", "wished", "least", "layer", "figure"] ["machine", "hands", "wishes"] (defScope st_find_harm) := ⟨rfl, rfl, rfl, by decide +kernel, rfl, by decide +kernel, by decide +kernel⟩

abbrev st_law_taken : Stmt := topS 48
theorem sc_law_taken : FnScope ["row", "many", "found", "cell"] ["row", "many"] (defScope st_law_taken) := ⟨rfl, rfl, rfl, by decide +kernel, rfl, by decide +kernel, by decide +kernel⟩

abbrev st_law_pick : Stmt := topS 49
theorem sc_law_pick : FnScope ["row", "things"] ["row", "things"] (defScope st_law_pick) := ⟨rfl, rfl, rfl, by decide +kernel, rfl, by decide +kernel, by decide +kernel⟩

abbrev st_law_alike : Stmt := topS 50
theorem sc_law_alike : FnScope ["found", "due", "k"] ["found", "due"] (defScope st_law_alike) := ⟨rfl, rfl, rfl, by decide +kernel, rfl, by decide +kernel, by decide +kernel⟩

abbrev st_law_is : Stmt := topS 51
theorem sc_law_is : FnScope ["found", "due"] ["found", "due"] (defScope st_law_is) := ⟨rfl, rfl, rfl, by decide +kernel, rfl, by decide +kernel, by decide +kernel⟩

abbrev st_law_machine : Stmt := topS 52
theorem sc_law_machine : FnScope ["row", "most", "cells", "many", "function"] ["row", "most"] (defScope st_law_machine) := ⟨rfl, rfl, rfl, by decide +kernel, rfl, by decide +kernel, by decide +kernel⟩

abbrev st_law_every_line : Stmt := topS 53
theorem sc_law_every_line : FnScope ["machine", "cells", "functions", "found", "cell", "function", "reads", "one", "other"] ["machine"] (defScope st_law_every_line) := ⟨rfl, rfl, rfl, by decide +kernel, rfl, by decide +kernel, by decide +kernel⟩

abbrev st_law_did : Stmt := topS 54
theorem sc_law_did : FnScope ["held", "line", "terms", "source", "term"] ["held", "line"] (defScope st_law_did) := ⟨rfl, rfl, rfl, by decide +kernel, rfl, by decide +kernel, by decide +kernel⟩

abbrev st_law_hands : Stmt := topS 55
theorem sc_law_hands : FnScope ["row", "machine", "many", "most", "lines", "found", "left", "hand", "own", "turn", "line"] ["row", "machine", "many", "most"] (defScope st_law_hands) := ⟨rfl, rfl, rfl, by decide +kernel, rfl, by decide +kernel, by decide +kernel⟩

abbrev st_law_weavings : Stmt := topS 56
theorem sc_law_weavings : FnScope ["lengths", "found", "here", "turn", "longer", "weaving", "left", "hand"] ["lengths"] (defScope st_law_weavings) := ⟨rfl, rfl, rfl, by decide +kernel, rfl, by decide +kernel, by decide +kernel⟩

abbrev st_law_woven : Stmt := topS 57
theorem sc_law_woven : FnScope ["machine", "hands", "weaving", "held", "at", "hand"] ["machine", "hands", "weaving"] (defScope st_law_woven) := ⟨rfl, rfl, rfl, by decide +kernel, rfl, by decide +kernel, by decide +kernel⟩

abbrev st_law_kept : Stmt := topS 58
theorem sc_law_kept : FnScope ["hands", "wishes", "weaving", "held", "hand", "own", "cell", "term"] ["hands", "wishes", "weaving", "held"] (defScope st_law_kept) := ⟨rfl, rfl, rfl, by decide +kernel, rfl, by decide +kernel, by decide +kernel⟩

abbrev st_law_wishes : Stmt := topS 59
theorem sc_law_wishes : FnScope ["row", "machine", "hands", "found", "hand", "held", "cell"] ["row", "machine", "hands"] (defScope st_law_wishes) := ⟨rfl, rfl, rfl, by decide +kernel, rfl, by decide +kernel, by decide +kernel⟩

abbrev st_law : Stmt := topS 60
theorem sc_law : FnScope ["script", "row", "machine", "many", "hands", "wishes", "weavings", "own", "bad", "one", "due", "value", "fine"] ["script"] (defScope st_law) := ⟨rfl, rfl, rfl, by decide +kernel, rfl, by decide +kernel, by decide +kernel⟩

theorem pe_fldN {X : Cx} {e : Expr} {f : Str} {pos : Pos} {ta : TE} (K : PySem.W.Frag) (he : PE X e ta) (hb : attributeBase e f X.env (eval e X.env) = eval e X.env) (hK : X.K = K := by rfl) : PE X (.Attribute e f pos) (tFld K ta f) := hK ▸ pe_fld he hb
theorem hu9 {A : Around} {k : Nat} (hr : Room k A) : A.units + 9 < cLine := Nat.lt_of_le_of_lt (Nat.add_le_add_left (by decide : 9 ≤ 64) _) hr.units
theorem hu65 {A : Around} {k : Nat} (hr : Room k A) : A.units + 64 < cLine := hr.units
/-- a method -/
structure MethAt (K : PySem.W.Frag) (C : Addr) (x qual : Str) (st : Stmt) (ps : List Str) where
  f : Addr
  fd : FuncData
  F : Fun K x qual st f fd
  m : Meth K C x f
  b : Binds K fd ps []
/-- a constructor -/
structure InitAt (K : PySem.W.Frag) (C : Addr) (qual : Str) (st : Stmt) (ps : List Str) where
  f : Addr
  fd : FuncData
  F : Fun K "__init__" qual st f fd
  m : Mk K C f
  b : Binds K fd ps []
/-- a def of the top -/
structure DefAt (K : PySem.W.Frag) (mg : Str → Option Value) (x : Str) (st : Stmt) (ps : List Str) where
  f : Addr
  fd : FuncData
  F : Fun K x x st f fd
  m : mg x = some (.ref f)
  b : Binds K fd ps []
/-- .. with defaults -/
structure DefDAt (K : PySem.W.Frag) (mg : Str → Option Value) (x : Str) (st : Stmt) (ps : List Str) (dvs : List V) where
  f : Addr
  fd : FuncData
  F : FunD K x x (defArgs st) (defBody st) (defScope st) dvs [] f fd
  m : mg x = some (.ref f)
  b : Binds K fd ps []
  bd : ∃ ds, Vals dvs ds ∧ Binds K fd ps ds
structure Top (K : PySem.W.Frag) (mg : Str → Option Value) where
  is_between : DefAt K mg "is_between" st_is_between ["value", "low", "high"]
  is_number : DefAt K mg "is_number" st_is_number ["value", "many"]
  is_tuple : DefAt K mg "is_tuple" st_is_tuple ["value", "least", "most"]
  check_machine : DefAt K mg "check_machine" st_check_machine ["machine"]
  is_term : DefDAt K mg "is_term" st_is_term ["machine", "value", "deepest"] [.int 8]
  is_line : DefAt K mg "is_line" st_is_line ["machine", "value"]
  check_hands : DefAt K mg "check_hands" st_check_hands ["machine", "hands"]
  is_weaving : DefAt K mg "is_weaving" st_is_weaving ["hands", "value"]
  is_wish : DefAt K mg "is_wish" st_is_wish ["machine", "value"]
  check_wishes : DefAt K mg "check_wishes" st_check_wishes ["machine", "hands", "wishes"]
  check_wish_rows : DefAt K mg "check_wish_rows" st_check_wish_rows ["machine", "wishes"]
  numbered : DefAt K mg "numbered" st_numbered ["book", "wishes"]
  held_after : DefAt K mg "held_after" st_held_after ["book", "line", "held"]
  held_behind : DefAt K mg "held_behind" st_held_behind ["book", "hands", "weaving"]
  steps_from : DefAt K mg "steps_from" st_steps_from ["hands", "moments"]
  add_ways : DefAt K mg "add_ways" st_add_ways ["book", "hand", "line", "ways", "later_ways"]
  next_layer : DefAt K mg "next_layer" st_next_layer ["book", "hands", "layer"]
  check_depth : DefAt K mg "check_depth" st_check_depth ["machine", "hands"]
  check_width : DefAt K mg "check_width" st_check_width ["layer"]
  keeps : DefAt K mg "keeps" st_keeps ["machine", "hands", "wishes"]
  harm : DefAt K mg "harm" st_harm ["machine", "hands", "wishes"]
  shows_harm : DefAt K mg "shows_harm" st_shows_harm ["machine", "hands", "wishes", "value"]
  check_judged : DefAt K mg "check_judged" st_check_judged ["machine", "hands", "wishes"]
  due_wishes : DefAt K mg "due_wishes" st_due_wishes ["hands", "wished", "moments"]
  is_harmed : DefAt K mg "is_harmed" st_is_harmed ["held", "due"]
  least_harm : DefAt K mg "least_harm" st_least_harm ["hands", "wished", "layer"]
  find_harm : DefAt K mg "find_harm" st_find_harm ["machine", "hands", "wishes"]
  law_taken : DefAt K mg "_law_taken" st_law_taken ["row", "many"]
  law_pick : DefAt K mg "_law_pick" st_law_pick ["row", "things"]
  law_alike : DefAt K mg "_law_alike" st_law_alike ["found", "due"]
  law_is : DefAt K mg "_law_is" st_law_is ["found", "due"]
  law_machine : DefAt K mg "_law_machine" st_law_machine ["row", "most"]
  law_every_line : DefAt K mg "_law_every_line" st_law_every_line ["machine"]
  law_did : DefAt K mg "_law_did" st_law_did ["held", "line"]
  law_hands : DefAt K mg "_law_hands" st_law_hands ["row", "machine", "many", "most"]
  law_weavings : DefAt K mg "_law_weavings" st_law_weavings ["lengths"]
  law_woven : DefAt K mg "_law_woven" st_law_woven ["machine", "hands", "weaving"]
  law_kept : DefAt K mg "_law_kept" st_law_kept ["hands", "wishes", "weaving", "held"]
  law_wishes : DefAt K mg "_law_wishes" st_law_wishes ["row", "machine", "hands"]
  law : DefAt K mg "law" st_law ["script"]
  tb : Addr
  tb_m : mg "TermBook" = some (.ref tb)
  tb_c : TbC K tb
  tb_init : InitAt K tb "TermBook.__init__" st_TermBook___init ["self", "machine"]
  tb_made : MethAt K tb "made" "TermBook.made" st_TermBook_made ["self", "function", "parts"]
  tb_number_of : MethAt K tb "number_of" "TermBook.number_of" st_TermBook_number_of ["self", "term"]
  db : Addr
  db_m : mg "DepthBook" = some (.ref db)
  db_cl : Cls K db
  db_atoms : NoAttr K db "atoms"
  db_init : InitAt K db "DepthBook.__init__" st_DepthBook___init ["self", "machine"]
  db_made : MethAt K db "made" "DepthBook.made" st_DepthBook_made ["self", "function", "parts"]
  c_MOST_CELLS : ∃ t, mg "MOST_CELLS" = some (.int 4 t)
  c_MOST_FUNCTIONS : ∃ t, mg "MOST_FUNCTIONS" = some (.int 3 t)
  c_MOST_READ : ∃ t, mg "MOST_READ" = some (.int 2 t)
  c_MOST_HANDS : ∃ t, mg "MOST_HANDS" = some (.int 3 t)
  c_MOST_LINES : ∃ t, mg "MOST_LINES" = some (.int 12 t)
  c_DEEPEST : ∃ t, mg "DEEPEST" = some (.int 8 t)
  c_MOST_HELD : ∃ t, mg "MOST_HELD" = some (.int 3000 t)
  n_len : mg "len" = none
  n_int : mg "int" = none
  n_tuple : mg "tuple" = none
  n_list : mg "list" = none
  n_all : mg "all" = none
  n_any : mg "any" = none
  n_isinstance : mg "isinstance" = none
  n_range : mg "range" = none
  n_enumerate : mg "enumerate" = none
  n_sum : mg "sum" = none
  n_min : mg "min" = none
  n_max : mg "max" = none
  n_str : mg "str" = none
  n_bool : mg "bool" = none
  n_zip : mg "zip" = none
end WL
end
section
set_option Elab.async false
set_option linter.all false
set_option maxRecDepth 100000
namespace WL
open PySem PySem.Spec PyProof.Rows L2
section
variable {F : Fx} {te ta tb tc : TE} {tt : TT} {tl : TA} {δ : List WSlot} {d : PyData} {ds es : List PyData}
/-! ### chains, isinstance -/
theorem dv_chainLe {i j k : Int} (ha : DV F ta δ (.int i)) (hb : DV F tb δ (.int j)) (hc : DV F tc δ (.int k)) :
    DV F (tChain (rI0 fun i j => .bl (decide (i ≤ j))) (rI0 fun i j => .bl (decide (i ≤ j))) ta tb tc) δ (.bool (decide (i ≤ j) && decide (j ≤ k))) := fun A H σ s Q q =>
  ha A H σ s _ fun v d1 δ1 H1 ⟨e1, e2⟩ s1 x1 h1 => by
    subst e1; subst e2
    refine hb A H1 σ s1 _ fun u d2 δ2 H2 ⟨e3, e4⟩ s2 x2 h2 => ?_
    subst e3; subst e4
    refine ⟨i, j, dp_int h1, dp_int h2, decide (i ≤ j), rfl, ?_⟩
    by_cases hij : i ≤ j
    · rw [decide_eq_true hij, if_pos rfl]
      refine hc A H2 σ s2 _ fun y d3 δ3 H3 ⟨e5, e6⟩ s3 x3 h3 => ?_
      subst e5; subst e6
      refine ⟨j, k, dp_int h2, dp_int h3, q _ (.bool (decide (i ≤ j) && decide (j ≤ k))) _ H3 ⟨rfl, rfl⟩ s3 (x1.trans (x2.trans x3)) ?_⟩
      rw [decide_eq_true hij, Bool.true_and]; exact .bl _
    · rw [decide_eq_false hij, if_neg Bool.false_ne_true]
      refine q _ (.bool (decide (i ≤ j) && decide (j ≤ k))) _ H2 ⟨rfl, rfl⟩ s2 (x1.trans x2) ?_
      rw [decide_eq_false hij, Bool.false_and]; exact .bl _
def tyD : PyData → String
  | .none => "NoneType" | .bool _ => "bool" | .int _ => "int" | .str _ => "str" | .list _ => "list" | .tuple _ => "tuple" | .dict _ => "dict"
theorem tyx_of {K : PySem.W.Frag} {H : Hp} {v : V} {d : PyData} (h : Dt K H v d) : TyX K H v (.type (tyD d)) := by
  cases h with
  | non => exact .base .non
  | bl b => exact .base (.bl b)
  | int i => exact .base (.int i)
  | str x => exact .base (.str x)
  | lst h1 h2 =>
    rcases h1 with (h1 | ⟨o, h1⟩) | ⟨o, its, n, h1, h3, _⟩
    · exact .base (.lst h1)
    · exact .base (.frz h1)
    · exact .kList h1 h3
  | tup h1 _ h2 =>
    rcases h1 with (h1 | ⟨o, h1⟩) | ⟨o, its, n, h1, h3, _⟩
    · exact .base (.tup h1)
    · exact .fTuple h1
    · exact .kTuple h1 h3
/-- isinstance(x, T) -/
theorem dv_isi {T : String} {b : Bool} (h : DV F te δ d) (hb : kitB (tyD d) T = some b) : DV F (tCB (rIsi F.K) (tCons te (tCons (tC (.ty T)) tNil))) δ (.bool b) := fun A H σ s Q q =>
  h A H σ s _ fun v d1 δ1 H1 ⟨e1, e2⟩ s1 x1 h1 => by
    subst e1; subst e2
    exact ⟨v, .ty T, _, _, b, rfl, .ty T, tyx_of (dp_ex hid_le h1), kit_ty hb, q _ _ _ H1 ⟨rfl, rfl⟩ s1 x1 (.bl _)⟩
theorem dv_isiT {T U : String} {a b : Bool} (h : DV F te δ d) (ha : kitB (tyD d) T = some a) (hb : kitB (tyD d) U = some b) : DV F (tCB (rIsiT F.K) (tCons te (tCons (tTup (tCons (tC (.ty T)) (tCons (tC (.ty U)) tNil))) tNil))) δ (.bool (a || b)) := fun A H σ s Q q =>
  h A H σ s _ fun v d1 δ1 H1 ⟨e1, e2⟩ s1 x1 h1 => by
    subst e1; subst e2
    refine ⟨(by show 2 ≤ sizeLine; decide), fun p hp => ?_⟩
    have ho : p ∉ A := s1.live.out hp
    have x2 := WL.Ex.new (o := .tup [.ty T, .ty U]) hp
    refine ⟨v, p, [.ty T, .ty U], _, [.type T, .type U], a || b, rfl, upd_same, .cons (.ty T) (.cons (.ty U) .nil), tyx_of (dp_ex (hid_le.trans x2) h1), ?_, q _ _ _ _ ⟨rfl, rfl⟩ (s1.ex x2) (x1.trans (hid_ex x2)) (.bl _)⟩
    refine kitAny_cons (kit_ty ha) (fun e => ?_) fun e => by rw [e]; rfl
    rw [e, Bool.false_or]
    refine kitAny_cons (kit_ty hb) (fun e => ?_) fun e => e
    rw [e]; exact kitAny_nil
def isIntD : PyData → Bool | .int _ => true | .bool _ => true | _ => false
def isBoolD : PyData → Bool | .bool _ => true | _ => false
def isTupD : PyData → Bool | .tuple _ => true | _ => false
def isListD : PyData → Bool | .list _ => true | _ => false
def isStrD : PyData → Bool | .str _ => true | _ => false
theorem kit_int : ∀ d : PyData, kitB (tyD d) "int" = some (isIntD d)
  | .none => (by decide +kernel : kitB "NoneType" "int" = some false)
  | .bool _ => (by decide +kernel : kitB "bool" "int" = some true)
  | .int _ => (by decide +kernel : kitB "int" "int" = some true)
  | .str _ => (by decide +kernel : kitB "str" "int" = some false)
  | .list _ => (by decide +kernel : kitB "list" "int" = some false)
  | .tuple _ => (by decide +kernel : kitB "tuple" "int" = some false)
  | .dict _ => (by decide +kernel : kitB "dict" "int" = some false)
theorem kit_bool : ∀ d : PyData, kitB (tyD d) "bool" = some (isBoolD d)
  | .none => (by decide +kernel : kitB "NoneType" "bool" = some false)
  | .bool _ => (by decide +kernel : kitB "bool" "bool" = some true)
  | .int _ => (by decide +kernel : kitB "int" "bool" = some false)
  | .str _ => (by decide +kernel : kitB "str" "bool" = some false)
  | .list _ => (by decide +kernel : kitB "list" "bool" = some false)
  | .tuple _ => (by decide +kernel : kitB "tuple" "bool" = some false)
  | .dict _ => (by decide +kernel : kitB "dict" "bool" = some false)
theorem kit_tuple : ∀ d : PyData, kitB (tyD d) "tuple" = some (isTupD d)
  | .none => (by decide +kernel : kitB "NoneType" "tuple" = some false)
  | .bool _ => (by decide +kernel : kitB "bool" "tuple" = some false)
  | .int _ => (by decide +kernel : kitB "int" "tuple" = some false)
  | .str _ => (by decide +kernel : kitB "str" "tuple" = some false)
  | .list _ => (by decide +kernel : kitB "list" "tuple" = some false)
  | .tuple _ => (by decide +kernel : kitB "tuple" "tuple" = some true)
  | .dict _ => (by decide +kernel : kitB "dict" "tuple" = some false)
theorem kit_list : ∀ d : PyData, kitB (tyD d) "list" = some (isListD d)
  | .none => (by decide +kernel : kitB "NoneType" "list" = some false)
  | .bool _ => (by decide +kernel : kitB "bool" "list" = some false)
  | .int _ => (by decide +kernel : kitB "int" "list" = some false)
  | .str _ => (by decide +kernel : kitB "str" "list" = some false)
  | .list _ => (by decide +kernel : kitB "list" "list" = some true)
  | .tuple _ => (by decide +kernel : kitB "tuple" "list" = some false)
  | .dict _ => (by decide +kernel : kitB "dict" "list" = some false)
theorem kit_str : ∀ d : PyData, kitB (tyD d) "str" = some (isStrD d)
  | .none => (by decide +kernel : kitB "NoneType" "str" = some false)
  | .bool _ => (by decide +kernel : kitB "bool" "str" = some false)
  | .int _ => (by decide +kernel : kitB "int" "str" = some false)
  | .str _ => (by decide +kernel : kitB "str" "str" = some true)
  | .list _ => (by decide +kernel : kitB "list" "str" = some false)
  | .tuple _ => (by decide +kernel : kitB "tuple" "str" = some false)
  | .dict _ => (by decide +kernel : kitB "dict" "str" = some false)
end
section
variable {P : Program} {w : World} {K : PySem.W.Frag} {mg : Str → Option Value} {base : Heap}
/-! ### is_between, is_number, is_tuple -/
def betw (d : PyData) (lo hi : Int) : Bool := match d with | .int i => decide (lo ≤ i) && decide (i ≤ hi) | _ => false
inductive rel_is_between : List PyData → (PyData → Prop) → Prop
  | mk (d : PyData) (lo hi : Int) : rel_is_between [d, .int lo, .int hi] fun z => z = .bool (betw d lo hi)
theorem ok_is_between (T : Top K mg) : FnOk P w K mg base CX0 1 T.is_between.f T.is_between.fd ["value", "low", "high"] (spP K rel_is_between) :=
  fnP T.is_between.F sc_is_between (fun ds Pd h => by cases h; rfl) fun cdv A outer s H E hr => by
    refine ⟨_, (pss_one (ps_ret (pe_and (pe_callB (r := rIsi K) call_isi (by rfl) T.n_isinstance (by decide +kernel) (pa_cons (pv 0) (pa_cons (pe_bltn (v := .ty "int") (u := .type "int") (by rfl) T.n_int (by decide +kernel) rfl) pa_nil))) (pe_and (pe_not (pe_callB (r := rIsi K) call_isi (by rfl) T.n_isinstance (by decide +kernel) (pa_cons (pv 0) (pa_cons (pe_bltn (v := .ty "bool") (u := .type "bool") (by rfl) T.n_bool (by decide +kernel) rfl) pa_nil)))) (pe_one (pe_chain op_le op_le (pv 1) (pv 0) (pv 2))))))), fun A0 ds Pd hrel => ?_⟩
    cases hrel with
    | mk d lo hi =>
      have v0 : ∀ F : Fx, DV F (tVar 0) (env0 ["value", "low", "high"] [d, .int lo, .int hi]) d := fun F => de_var rfl
      cases d with
      | int i =>
        refine ds_retV (dv_andV (b := betw (.int i) lo hi) (dv_isi (v0 _) (kit_int _)) fun _ => (dv_andV (dv_notV (dv_isi (v0 _) (kit_bool _))) fun _ => dv_chainLe (de_var rfl) (v0 _) (de_var rfl)).is rfl) ?_
        rfl
      | bool b => exact ds_retV (dv_andV (b := false) (dv_isi (v0 _) (kit_int _)) fun _ => (dv_andV (b := false) (dv_notV (dv_isi (v0 _) (kit_bool _))) fun e => by cases e).is rfl) rfl
      | none => exact ds_retV (dv_andV (b := false) (dv_isi (v0 _) (kit_int _)) fun e => by cases e) rfl
      | str x => exact ds_retV (dv_andV (b := false) (dv_isi (v0 _) (kit_int _)) fun e => by cases e) rfl
      | list x => exact ds_retV (dv_andV (b := false) (dv_isi (v0 _) (kit_int _)) fun e => by cases e) rfl
      | tuple x => exact ds_retV (dv_andV (b := false) (dv_isi (v0 _) (kit_int _)) fun e => by cases e) rfl
      | dict x => exact ds_retV (dv_andV (b := false) (dv_isi (v0 _) (kit_int _)) fun e => by cases e) rfl
inductive rel_is_number : List PyData → (PyData → Prop) → Prop
  | mk (d : PyData) (n : Int) : rel_is_number [d, .int n] fun z => z = .bool (betw d 0 (n - 1))
theorem ok_is_number (T : Top K mg) : FnOk P w K mg base CX0 2 T.is_number.f T.is_number.fd ["value", "many"] (spP K rel_is_number) :=
  fnP T.is_number.F sc_is_number (fun ds Pd h => by cases h; rfl) fun cdv A outer s H E hr => by
    refine ⟨_, (pss_one (ps_ret (pe_call (ok_is_between T) (hr.mono (by omega)) rfl T.is_between.m T.is_between.F.kp T.is_between.b .nil pass0 (pa_cons (pv 0) (pa_cons pe_int (pa_cons (pe_op op_sub (pv 1) pe_int) pa_nil)))))), fun A0 ds Pd hrel => ?_⟩
    cases hrel with
    | mk d n => exact ds_retV (dv_call (das_cons (de_var rfl) (das2 de_int (dv_I0 (de_var rfl) de_int fun _ => .int _))) (.mk d 0 (n - 1))) rfl
def isTupN (d : PyData) (lo hi : Int) : Bool := match d with | .tuple ds => decide (lo ≤ ds.length) && decide ((ds.length : Int) ≤ hi) | _ => false
inductive rel_is_tuple : List PyData → (PyData → Prop) → Prop
  | mk (d : PyData) (lo hi : Int) : rel_is_tuple [d, .int lo, .int hi] fun z => z = .bool (isTupN d lo hi)
theorem ok_is_tuple (T : Top K mg) : FnOk P w K mg base CX0 1 T.is_tuple.f T.is_tuple.fd ["value", "least", "most"] (spP K rel_is_tuple) :=
  fnP T.is_tuple.F sc_is_tuple (fun ds Pd h => by cases h; rfl) fun cdv A outer s H E hr => by
    refine ⟨_, (pss_one (ps_ret (pe_and (pe_callB (r := rIsi K) call_isi (by rfl) T.n_isinstance (by decide +kernel) (pa_cons (pv 0) (pa_cons (pe_bltn (v := .ty "tuple") (u := .type "tuple") (by rfl) T.n_tuple (by decide +kernel) rfl) pa_nil))) (pe_one (pe_chain op_le op_le (pv 1) (pe_callB (r := rLenQ K) call_len_seq (by rfl) T.n_len PySem.boot_len (pa_cons (pv 0) pa_nil)) (pv 2)))))), fun A0 ds Pd hrel => ?_⟩
    cases hrel with
    | mk d lo hi =>
      have v0 : ∀ F : Fx, DV F (tVar 0) (env0 ["value", "least", "most"] [d, .int lo, .int hi]) d := fun F => de_var rfl
      cases d with
      | tuple x => exact ds_retV (dv_andV (dv_isi (v0 _) (kit_tuple _)) fun _ => dv_chainLe (de_var rfl) (dv_len (v0 _) rfl) (de_var rfl)) rfl
      | int i => exact ds_retV (dv_andV (b := false) (dv_isi (v0 _) (kit_tuple _)) fun e => by cases e) rfl
      | bool b => exact ds_retV (dv_andV (b := false) (dv_isi (v0 _) (kit_tuple _)) fun e => by cases e) rfl
      | none => exact ds_retV (dv_andV (b := false) (dv_isi (v0 _) (kit_tuple _)) fun e => by cases e) rfl
      | str x => exact ds_retV (dv_andV (b := false) (dv_isi (v0 _) (kit_tuple _)) fun e => by cases e) rfl
      | list x => exact ds_retV (dv_andV (b := false) (dv_isi (v0 _) (kit_tuple _)) fun e => by cases e) rfl
      | dict x => exact ds_retV (dv_andV (b := false) (dv_isi (v0 _) (kit_tuple _)) fun e => by cases e) rfl
end
end WL
end
section
set_option Elab.async false
set_option linter.all false
set_option maxRecDepth 100000
namespace WL
open PySem PySem.Spec PyProof.Rows L2

/-! ### the data -/
abbrev dN (n : Nat) : PyData := .int n
def encM (n : Nat) (fs : List Nat) : PyData := .tuple [dN n, .tuple (fs.map dN)]
structure MachOk (n : Nat) (fs : List Nat) : Prop where
  n1 : 1 ≤ n
  n4 : n ≤ 4
  f1 : 1 ≤ fs.length
  f3 : fs.length ≤ 3
  fr : ∀ f ∈ fs, 1 ≤ f ∧ f ≤ 2
structure Ln where
  cell : Nat
  fn : Option Nat
  src : List Nat
def encF : Option Nat → PyData | none => .none | some f => dN f
def encL (l : Ln) : PyData := .tuple [dN l.cell, encF l.fn, .tuple (l.src.map dN)]
structure LnOk (n : Nat) (fs : List Nat) (l : Ln) : Prop where
  cell : l.cell < n
  src : ∀ s ∈ l.src, s < n
  fn : match l.fn with
    | none => ∃ s, l.src = [s] ∧ s ≠ l.cell
    | some f => ∃ r, fs[f]? = some r ∧ l.src.length = r
def encR (row : List Ln) : PyData := .tuple (row.map encL)
def encH (hands : List (List Ln)) : PyData := .tuple (hands.map encR)
structure HandsOk (n : Nat) (fs : List Nat) (hands : List (List Ln)) : Prop where
  h1 : 1 ≤ hands.length
  h3 : hands.length ≤ 3
  rows : ∀ row ∈ hands, row.length ≤ 12
  lns : ∀ row ∈ hands, ∀ l ∈ row, LnOk n fs l
theorem betw_t {i lo hi : Int} (h1 : lo ≤ i) (h2 : i ≤ hi) : betw (.int i) lo hi = true := by
  show (decide (lo ≤ i) && decide (i ≤ hi)) = true
  rw [decide_eq_true h1, decide_eq_true h2]; rfl
theorem tupN_t {ds : List PyData} {lo hi : Int} (h1 : lo ≤ ds.length) (h2 : (ds.length : Int) ≤ hi) : isTupN (.tuple ds) lo hi = true := by
  show (decide (lo ≤ (ds.length : Int)) && decide ((ds.length : Int) ≤ hi)) = true
  rw [decide_eq_true h1, decide_eq_true h2]; rfl
theorem LnOk.len {n : Nat} {fs : List Nat} {l : Ln} (h : LnOk n fs l) (hm : MachOk n fs) : 1 ≤ l.src.length ∧ l.src.length ≤ 2 := by
  have := h.fn
  cases e : l.fn with
  | none => rw [e] at this; obtain ⟨s, h1, _⟩ := this; rw [h1]; exact ⟨Nat.le_refl 1, Nat.le_succ 1⟩
  | some f =>
    rw [e] at this
    obtain ⟨r, h1, h2⟩ := this
    rw [h2]
    exact hm.fr r (List.mem_of_getElem? h1)
section
variable {F : Fx} {te ta tb tc : TE} {δ : List WSlot} {ds : List PyData}
theorem dv_allB (h : DLs F ta δ ds) (ht : ∀ d ∈ ds, d = .bool true) : DV F (tCB (rAll F.K) (tCons ta tNil)) δ (.bool true) := by
  have e : ds = (List.replicate ds.length true).map PyData.bool := by
    rw [List.map_replicate]
    exact List.eq_replicate_iff.mpr ⟨rfl, ht⟩
  have e2 : (List.replicate ds.length true).all id = true := by
    rw [List.all_replicate]; simp
  rw [e] at h
  have := dv_all h
  rw [e2] at this
  exact this
end
section
variable {P : Program} {w : World} {K : PySem.W.Frag} {mg : Str → Option Value} {base : Heap}
inductive rel_check_machine : List PyData → (PyData → Prop) → Prop
  | mk (n : Nat) (fs : List Nat) (h : MachOk n fs) : rel_check_machine [encM n fs] fun z => z = .none
theorem ok_check_machine (T : Top K mg) : FnOk P w K mg base CX0 2 T.check_machine.f T.check_machine.fd ["machine"] (spP K rel_check_machine) :=
  fnP T.check_machine.F sc_check_machine (fun ds Pd h => by cases h; rfl) fun cdv A outer s H E hr => by
    refine ⟨_, (pss_cons (ps_if (pt_not (pt_val (pe_call (ok_is_tuple T) (hr.mono (by omega)) rfl T.is_tuple.m T.is_tuple.F.kp T.is_tuple.b .nil pass0 (pa_cons (pv 0) (pa_cons pe_int (pa_cons pe_int pa_nil)))))) (pss_one ps_never) pss_nil)
    (pss_cons (ps_asg (pv 0) (pg_tup rfl (pgs_cons (pg_name (i := 1) sc_check_machine.nd rfl (by first | exact Or.inl rfl | exact Or.inr rfl)) (pgs_cons (pg_name (i := 2) sc_check_machine.nd rfl (by first | exact Or.inl rfl | exact Or.inr rfl)) pgs_nil))))
    (pss_cons (ps_if (pt_not (pt_val (pe_call (ok_is_between T) (hr.mono (by omega)) rfl T.is_between.m T.is_between.F.kp T.is_between.b .nil pass0 (pa_cons (pv 1) (pa_cons pe_int (pa_cons (pe_glob (v := .int 4) rfl T.c_MOST_CELLS.choose_spec ⟨_, rfl⟩) pa_nil)))))) (pss_one ps_never) pss_nil)
    (pss_cons (ps_if (pt_not (pt_val (pe_call (ok_is_tuple T) (hr.mono (by omega)) rfl T.is_tuple.m T.is_tuple.F.kp T.is_tuple.b .nil pass0 (pa_cons (pv 2) (pa_cons pe_int (pa_cons (pe_glob (v := .int 3) rfl T.c_MOST_FUNCTIONS.choose_spec ⟨_, rfl⟩) pa_nil)))))) (pss_one ps_never) pss_nil)
    (pss_one (ps_if (pt_not (pt_val (pe_callB (r := rAll K) (cr_all rfl) (by rfl) T.n_all (by decide +kernel) (pa_cons (pe_lc (own := [("reads", 3)]) rfl sc_check_machine.nd (pi_tup (pv 2)) (blkOk_by (own := [("reads", 3)]) (N := ["machine", "cells", "functions", "reads"]) (sc := (defScope (topS 16))) (by decide +kernel)) (fun _ _ _ _ _ => (pg_name (i := 3) sc_check_machine.nd rfl (by first | exact Or.inl rfl | exact Or.inr rfl))) (fun _ _ _ _ _ => pts_nil) (fun _ _ _ _ _ => (pe_call (ok_is_between T) (hr.mono (by omega)) rfl T.is_between.m T.is_between.F.kp T.is_between.b .nil pass0 (pa_cons (pv 3) (pa_cons pe_int (pa_cons (pe_glob (v := .int 2) rfl T.c_MOST_READ.choose_spec ⟨_, rfl⟩) pa_nil)))))) pa_nil)))) (pss_one ps_never) pss_nil)))))), fun A0 ds Pd hrel => ?_⟩
    cases hrel with
    | mk n fs h =>
      refine dq_out (b := false) ((db_not (db_B (dv_call (das_cons (de_var rfl) (das2 de_int de_int)) (.mk (encM n fs) 2 2)))).is rfl) (fun e => by cases e) fun _ => ?_
      refine dq_asgV (de_var rfl) dg2 ?_
      refine dq_out (b := false) ((db_not (db_B (dv_call (das_cons (de_var rfl) (das2 de_int de_int)) (.mk (dN n) 1 4)))).is (by rw [betw_t (by have := h.n1; omega) (by have := h.n4; omega)]; rfl)) (fun e => by cases e) fun _ => ?_
      refine dq_out (b := false) ((db_not (db_B (dv_call (das_cons (de_var rfl) (das2 de_int de_int)) (.mk (.tuple (fs.map dN)) 1 3)))).is (by rw [tupN_t (by have := h.f1; rw [List.length_map]; omega) (by have := h.f3; rw [List.length_map]; omega)]; rfl)) (fun e => by cases e) fun _ => ?_
      refine ds_ifB (b := false) ((db_not (db_B (dv_allB (DN.dl (dn_map (fun d => .bool (betw d 1 2)) (di_tup (de_var rfl)) (by have := h.f3; rw [List.length_map]; omega)
        fun H0' d hd => ⟨_, dw_name (by decide), by repeat' (first | exact True.intro | refine ⟨?_, ?_⟩), dv_call (das_cons (de_var rfl) (das2 de_int de_int)) (.mk d 1 2)⟩)) ?_))).is rfl) (fun e => by cases e) fun _ => ds_next rfl
      intro d hd
      obtain ⟨x, hx, rfl⟩ := List.mem_map.mp hd
      obtain ⟨f, hf, rfl⟩ := List.mem_map.mp hx
      rw [betw_t (by have := (h.fr f hf).1; omega) (by have := (h.fr f hf).2; omega)]
inductive rel_is_line : List PyData → (PyData → Prop) → Prop
  | mk (n : Nat) (fs : List Nat) (l : Ln) (h : MachOk n fs) (hl : LnOk n fs l) : rel_is_line [encM n fs, encL l] fun z => z = .bool true
theorem ok_is_line (T : Top K mg) : FnOk P w K mg base CX0 3 T.is_line.f T.is_line.fd ["machine", "value"] (spP K rel_is_line) :=
  fnP T.is_line.F sc_is_line (fun ds Pd h => by cases h; rfl) fun cdv A outer s H E hr => by
    refine ⟨_, (pss_cons (ps_asg (pv 0) (pg_tup rfl (pgs_cons (pg_name (i := 2) sc_is_line.nd rfl (by first | exact Or.inl rfl | exact Or.inr rfl)) (pgs_cons (pg_name (i := 3) sc_is_line.nd rfl (by first | exact Or.inl rfl | exact Or.inr rfl)) pgs_nil))))
    (pss_cons (ps_if (pt_not (pt_val (pe_call (ok_is_tuple T) (hr.mono (by omega)) rfl T.is_tuple.m T.is_tuple.F.kp T.is_tuple.b .nil pass0 (pa_cons (pv 1) (pa_cons pe_int (pa_cons pe_int pa_nil)))))) (pss_one (ps_ret pe_bl)) pss_nil)
    (pss_cons (ps_asg (pv 1) (pg_tup rfl (pgs_cons (pg_name (i := 4) sc_is_line.nd rfl (by first | exact Or.inl rfl | exact Or.inr rfl)) (pgs_cons (pg_name (i := 5) sc_is_line.nd rfl (by first | exact Or.inl rfl | exact Or.inr rfl)) (pgs_cons (pg_name (i := 6) sc_is_line.nd rfl (by first | exact Or.inl rfl | exact Or.inr rfl)) pgs_nil)))))
    (pss_cons (ps_if (PW.pt (pw_or (pt_not (pt_val (pe_call (ok_is_number T) (hr.mono (by omega)) rfl T.is_number.m T.is_number.F.kp T.is_number.b .nil pass0 (pa_cons (pv 4) (pa_cons (pv 2) pa_nil))))) (pw_or1 (pt_not (pt_val (pe_call (ok_is_tuple T) (hr.mono (by omega)) rfl T.is_tuple.m T.is_tuple.F.kp T.is_tuple.b .nil pass0 (pa_cons (pv 6) (pa_cons pe_int (pa_cons (pe_glob (v := .int 2) rfl T.c_MOST_READ.choose_spec ⟨_, rfl⟩) pa_nil))))))))) (pss_one (ps_ret pe_bl)) pss_nil)
    (pss_cons (ps_if (pt_not (pt_val (pe_callB (r := rAll K) (cr_all rfl) (by rfl) T.n_all (by decide +kernel) (pa_cons (pe_lc (own := [("source", 7)]) rfl sc_is_line.nd (pi_tup (pv 6)) (blkOk_by (own := [("source", 7)]) (N := ["machine", "value", "cells", "functions", "cell", "function", "sources", "source"]) (sc := (defScope (topS 18))) (by decide +kernel)) (fun _ _ _ _ _ => (pg_name (i := 7) sc_is_line.nd rfl (by first | exact Or.inl rfl | exact Or.inr rfl))) (fun _ _ _ _ _ => pts_nil) (fun _ _ _ _ _ => (pe_call (ok_is_number T) (hr.mono (by omega)) rfl T.is_number.m T.is_number.F.kp T.is_number.b .nil pass0 (pa_cons (pv 7) (pa_cons (pv 2) pa_nil))))) pa_nil)))) (pss_one (ps_ret pe_bl)) pss_nil)
    (pss_cons (ps_if (pt_cmpR op_isN (pv 5) pe_non (nomark _)) (pss_one (ps_ret (pe_and (pe_cmpR op_eq (pe_callB (r := rLenQ K) call_len_seq (by rfl) T.n_len PySem.boot_len (pa_cons (pv 6) pa_nil)) pe_int (nomark _)) (pe_one (pe_cmpR op_ne (pe_ix (r := rIxT K) ix_tup (pv 6) pe_int (fun _ _ => rfl)) (pv 4) (nomark _)))))) pss_nil)
    (pss_one (ps_ret (pe_and (pe_call (ok_is_number T) (hr.mono (by omega)) rfl T.is_number.m T.is_number.F.kp T.is_number.b .nil pass0 (pa_cons (pv 5) (pa_cons (pe_callB (r := rLenQ K) call_len_seq (by rfl) T.n_len PySem.boot_len (pa_cons (pv 3) pa_nil)) pa_nil))) (pe_one (pe_cmpR op_eq (pe_callB (r := rLenQ K) call_len_seq (by rfl) T.n_len PySem.boot_len (pa_cons (pv 6) pa_nil)) (pe_ix (r := rIxT K) ix_tup (pv 3) (pv 5) (fun _ _ => rfl)) (nomark _)))))))))))), fun A0 ds Pd hrel => ?_⟩
    cases hrel with
    | mk n fs l h hl =>
      have hln := hl.len h
      refine dq_asgV (de_var rfl) dg2 ?_
      refine dq_out (b := false) ((db_not (db_B (dv_call (das_cons (de_var rfl) (das2 de_int de_int)) (.mk (encL l) 3 3)))).is rfl) (fun e => by cases e) fun _ => ?_
      refine dq_asgV (de_var rfl) dg3 ?_
      refine dq_out (b := false) ((db_or (b := false) ((db_not (db_B (dv_call (das2 (de_var rfl) (de_var rfl)) (.mk (dN l.cell) n)))).is (by rw [betw_t (by omega) (by have := hl.cell; omega)]))
        fun _ => (db_not (db_B (dv_call (das_cons (de_var rfl) (das2 de_int de_int)) (.mk (.tuple (l.src.map dN)) 1 2)))).is (by rw [tupN_t (by rw [List.length_map]; omega) (by rw [List.length_map]; omega)]; rfl)).is rfl) (fun e => by cases e) fun _ => ?_
      refine dq_out (b := false) ((db_not (db_B (dv_allB (DN.dl (dn_map (fun d => .bool (betw d 0 ((n : Int) - 1))) (di_tup (de_var rfl)) (by rw [List.length_map]; omega)
        fun H0' d hd => ⟨_, dw_name (by decide), by repeat' (first | exact True.intro | refine ⟨?_, ?_⟩), dv_call (das2 (de_var rfl) (de_var rfl)) (.mk d n)⟩)) ?_))).is rfl) (fun e => by cases e) fun _ => ?_
      · intro d hd
        obtain ⟨x, hx, rfl⟩ := List.mem_map.mp hd
        obtain ⟨f, hf, rfl⟩ := List.mem_map.mp hx
        rw [betw_t (by omega) (by have := hl.src f hf; omega)]
      obtain ⟨c, fn, src⟩ := l
      have hfn := hl.fn
      cases fn with
      | none =>
        obtain ⟨x, hs, hne⟩ := hfn
        dsimp only at hs
        subst hs
        refine dq_out (b := true) (db_test (dv_isN (d := .none) (de_var rfl))) (fun _ => ?_) fun e => by cases e
        refine ds_retV (dv_andV (a := true) (b := true) ((dv_eqI (dv_len (d := .tuple [dN x]) (de_var rfl) rfl) de_int).is rfl) fun _ => (dv_neI (dv_ixT (ds := [dN x]) (d := dN x) (de_var rfl) de_int rfl) (de_var (d := dN c) rfl)).is ?_) rfl
        have : ¬ (x : Int) = c := by simp only at hne; omega
        rw [decide_eq_false this]; rfl
      | some f =>
        obtain ⟨r, hr1, hr2⟩ := hfn
        have hfl : f < fs.length := (List.getElem?_eq_some_iff.mp hr1).1
        refine dq_out (b := false) (db_test (dv_isN (d := dN f) (de_var rfl))) (fun e => by cases e) fun _ => ?_
        refine ds_retV (dv_andV (a := true) (b := true) ((dv_call (das2 (de_var (d := dN f) rfl) (dv_len (de_var rfl) rfl)) (.mk (dN f) ((seqOf (.tuple (fs.map dN))).length : Nat))).is ?_) fun _ => (dv_eqI (dv_len (de_var rfl) rfl) (dv_ixT (de_var rfl) (de_var (d := dN f) rfl) (d := dN r) ?_)).is ?_) rfl
        · rw [betw_t (by omega) (by show (f : Int) ≤ ((fs.map dN).length : Nat) - 1; rw [List.length_map]; omega)]
        · exact atI_nat (by rw [List.getElem?_map, hr1]; rfl)
        · have : ((seqOf (.tuple (src.map dN))).length : Int) = (r : Nat) := by
            show ((src.map dN).length : Int) = _
            rw [List.length_map]
            exact congrArg Int.ofNat hr2
          rw [decide_eq_true this]
end
end WL
end
section
set_option Elab.async false
set_option linter.all false
set_option maxRecDepth 100000
namespace WL
open PySem PySem.Spec PyProof.Rows L2
section
variable {P : Program} {w : World} {K : PySem.W.Frag} {mg : Str → Option Value} {base : Heap}
inductive rel_check_hands : List PyData → (PyData → Prop) → Prop
  | mk (n : Nat) (fs : List Nat) (hands : List (List Ln)) (h : MachOk n fs) (hh : HandsOk n fs hands) : rel_check_hands [encM n fs, encH hands] fun z => z = .none
theorem ok_check_hands (T : Top K mg) : FnOk P w K mg base CX0 4 T.check_hands.f T.check_hands.fd ["machine", "hands"] (spP K rel_check_hands) :=
  fnP T.check_hands.F sc_check_hands (fun ds Pd h => by cases h; rfl) fun cdv A outer s H E hr => by
    refine ⟨_, (pss_cons (ps_if (pt_not (pt_val (pe_call (ok_is_tuple T) (hr.mono (by omega)) rfl T.is_tuple.m T.is_tuple.F.kp T.is_tuple.b .nil pass0 (pa_cons (pv 1) (pa_cons pe_int (pa_cons (pe_glob (v := .int 3) rfl T.c_MOST_HANDS.choose_spec ⟨_, rfl⟩) pa_nil)))))) (pss_one ps_never) pss_nil)
    (pss_one (ps_for PassesOwn.never rfl (pi_enumT rfl T.n_enumerate (pa_cons (pv 1) pa_nil)) (pg_tup rfl (pgs_cons (pg_name (i := 2) sc_check_hands.nd rfl (by first | exact Or.inl rfl | exact Or.inr rfl)) (pgs_cons (pg_name (i := 3) sc_check_hands.nd rfl (by first | exact Or.inl rfl | exact Or.inr rfl)) pgs_nil))) (pss_cons (ps_if (pt_not (pt_val (pe_call (ok_is_tuple T) (hr.mono (by omega)) rfl T.is_tuple.m T.is_tuple.F.kp T.is_tuple.b .nil pass0 (pa_cons (pv 3) (pa_cons pe_int (pa_cons (pe_glob (v := .int 12) rfl T.c_MOST_LINES.choose_spec ⟨_, rfl⟩) pa_nil)))))) (pss_one ps_never) pss_nil)
    (pss_one (ps_for PassesOwn.never rfl (pi_enumT rfl T.n_enumerate (pa_cons (pv 3) pa_nil)) (pg_tup rfl (pgs_cons (pg_name (i := 4) sc_check_hands.nd rfl (by first | exact Or.inl rfl | exact Or.inr rfl)) (pgs_cons (pg_name (i := 5) sc_check_hands.nd rfl (by first | exact Or.inl rfl | exact Or.inr rfl)) pgs_nil))) (pss_one (ps_if (pt_not (pt_val (pe_call (ok_is_line T) (hr.mono (by omega)) rfl T.is_line.m T.is_line.F.kp T.is_line.b .nil pass0 (pa_cons (pv 0) (pa_cons (pv 5) pa_nil))))) (pss_one ps_never) pss_nil)))))))), fun A0 ds Pd hrel => ?_⟩
    cases hrel with
    | mk n fs hands h hh =>
      refine dq_out (b := false) ((db_not (db_B (dv_call (das_cons (de_var rfl) (das2 de_int de_int)) (.mk (encH hands) 1 3)))).is (by unfold encH; rw [tupN_t (by have := hh.h1; rw [List.length_map]; omega) (by have := hh.h3; rw [List.length_map]; omega)]; rfl)) (fun e => by cases e) fun _ => ?_
      refine ds_forV (fun i δ => ∃ s2 s3 s4 s5, δ = [.dat (encM n fs), .dat (encH hands), s2, s3, s4, s5]) (di_enumT (de_var rfl)) ⟨_, _, _, _, rfl⟩ ?_ fun δ' _ => rfl
      rintro i d δi hd ⟨s2, s3, s4, s5, rfl⟩
      obtain ⟨x, hx, rfl⟩ := enumD_get hd
      rw [List.getElem?_map] at hx
      obtain ⟨row, hrow, rfl⟩ := Option.map_eq_some_iff.mp hx
      have hmem := List.mem_of_getElem? hrow
      refine ⟨_, dg2, ?_⟩
      refine dq_out (b := false) ((db_not (db_B (dv_call (das_cons (de_var (d := encR row) rfl) (das2 de_int de_int)) (.mk (encR row) 0 12)))).is (by unfold encR; rw [tupN_t (by omega) (by have := hh.rows row hmem; rw [List.length_map]; omega)]; rfl)) (fun e => by cases e) fun _ => ?_
      refine ds_forV (fun j δ => ∃ s4 s5, δ = [.dat (encM n fs), .dat (encH hands), .dat (.int (i : Nat)), .dat (encR row), s4, s5]) (di_enumT (de_var (d := encR row) rfl)) ⟨_, _, rfl⟩ ?_ fun δ' ⟨s4, s5, e⟩ => ⟨_, _, _, _, e⟩
      rintro j d δj hd ⟨s4, s5, rfl⟩
      obtain ⟨x, hx, rfl⟩ := enumD_get hd
      rw [List.getElem?_map] at hx
      obtain ⟨l, hl, rfl⟩ := Option.map_eq_some_iff.mp hx
      refine ⟨_, dg2, ?_⟩
      exact ds_ifB (b := false) ((db_not (db_B (dv_call (das2 (de_var rfl) (de_var (d := encL l) rfl)) (.mk n fs l h (hh.lns row hmem l (List.mem_of_getElem? hl)))))).is rfl) (fun e => by cases e) fun _ => ds_next ⟨_, _, rfl⟩

/-! ### the law's draws -/
def RowOk (ns : List Int) (ds : List PyData) : Prop := ∃ i c r : Int, 0 ≤ i ∧ ds = [.list (ns.map .int), .int i, .int c, .int r]
inductive rel_taken : List PyData → List PyData → (PyData → List PyData → Prop) → Prop
  | mk (ns : List Int) (ds : List PyData) (m : Nat) (h : RowOk ns ds) (h1 : 0 < m) (h2 : m ≤ 10000) (h3 : ns.length ≤ 63) : rel_taken ds [dN m] fun d ds' => (∃ x : Nat, x < m ∧ d = dN x) ∧ RowOk ns ds'
theorem mod_lt {i : Int} {m : Nat} (h : 0 < m) : ∃ x : Nat, x < m ∧ (PyData.int (i % (m : Int))) = dN x := by
  have h1 : 0 ≤ i % (m : Int) := Int.emod_nonneg _ (by omega)
  have h2 : i % (m : Int) < m := Int.emod_lt_of_pos _ (by omega)
  refine ⟨(i % (m : Int)).toNat, by omega, ?_⟩
  show PyData.int _ = PyData.int _
  congr 1; omega
theorem ok_law_taken (T : Top K mg) : FnOk P w K mg base CX0 1 T.law_taken.f T.law_taken.fd ["row", "many"] (spO K rel_taken) :=
  fnO T.law_taken.F sc_law_taken (fun ds es Pd h => by cases h; rfl) (by decide) fun cdv A outer s H E hr => by
    refine ⟨_, (pss_cons (ps_if (pt_cmpR op_gt (pe_ix (r := rIxL K) ix_list (pv 0) pe_int (fun _ _ => rfl)) pe_int (nomark _)) (pss_cons (ps_set (i := 2) sc_law_taken.nd rfl (by first | exact Or.inl rfl | exact Or.inr rfl) (pe_op op_mod (pe_callTy call_int1 (by rfl) T.n_int (by decide +kernel) (pa_cons (pe_ix (r := rIxL K) ix_list (pv 0) pe_int (fun _ _ => rfl)) pa_nil)) (pv 1)))
    (pss_cons (ps_asg (pe_op op_fdiv (pe_ix (r := rIxL K) ix_list (pv 0) pe_int (fun _ _ => rfl)) (pv 1)) (pg_sub (pv 0) pe_int set_list))
    (pss_one (ps_ret (pv 2))))) pss_nil)
    (pss_cons (ps_asg (pe_op op_add (pe_ix (r := rIxL K) ix_list (pv 0) pe_int (fun _ _ => rfl)) pe_int) (pg_sub (pv 0) pe_int set_list))
    (pss_cons (ps_if (pt_cmpR op_gt (pe_ix (r := rIxL K) ix_list (pv 0) pe_int (fun _ _ => rfl)) (pe_callB (r := rLenQ K) call_len_seq (by rfl) T.n_len PySem.boot_len (pa_cons (pe_ix (r := rIxL K) ix_list (pv 0) pe_int (fun _ _ => rfl)) pa_nil)) (nomark _)) (pss_cons (ps_asg (pe_op op_mod (pe_callTy call_int1 (by rfl) T.n_int (by decide +kernel) (pa_cons (pe_op op_add (pe_op op_mul (pe_ix (r := rIxL K) ix_list (pv 0) pe_int (fun _ _ => rfl)) pe_int) pe_int) pa_nil)) pe_int) (pg_sub (pv 0) pe_int set_list))
    (pss_one (ps_ret (pe_op op_mod (pe_callTy call_int1 (by rfl) T.n_int (by decide +kernel) (pa_cons (pe_op op_fdiv (pe_ix (r := rIxL K) ix_list (pv 0) pe_int (fun _ _ => rfl)) pe_int) pa_nil)) (pv 1))))) pss_nil)
    (pss_cons (ps_set (i := 3) sc_law_taken.nd rfl (by first | exact Or.inl rfl | exact Or.inr rfl) (pe_ix (r := rIxL K) ix_list (pe_ix (r := rIxL K) ix_list (pv 0) pe_int (fun _ _ => rfl)) (pe_op op_sub (pe_ix (r := rIxL K) ix_list (pv 0) pe_int (fun _ _ => rfl)) pe_int) (fun _ _ => rfl)))
    (pss_cons (ps_asg (pe_op op_mod (pe_callTy call_int1 (by rfl) T.n_int (by decide +kernel) (pa_cons (pe_op op_add (pe_op op_add (pe_op op_mul (pe_ix (r := rIxL K) ix_list (pv 0) pe_int (fun _ _ => rfl)) pe_int) (pv 3)) pe_int) pa_nil)) pe_int) (pg_sub (pv 0) pe_int set_list))
    (pss_cons (ps_if (pt_cmpR op_ge (pv 3) (pe_op op_pow pe_int pe_int) (nomark _)) (pss_one (ps_asg (pe_op op_fdiv (pv 3) (pv 1)) (pg_sub (pv 0) pe_int set_list))) pss_nil)
    (pss_one (ps_ret (pe_op op_mod (pe_callTy call_int1 (by rfl) T.n_int (by decide +kernel) (pa_cons (pv 3) pa_nil)) (pv 1)))))))))), fun A0 l ds es Pd hrel => ?_⟩
    cases hrel with
    | mk ns _ m h h1 h2 h3 =>
      obtain ⟨i, c, r, hi, rfl⟩ := h
      have cm : CDiv 0 (m : Int) := ⟨by omega, by omega⟩
      refine dq_out (b := decide (0 < r)) (db_test (dv_I0 (dv_ixO (l := l) (d := .int r) rfl de_int rfl) de_int fun _ => .bl _)) (fun e => ?_) fun e => ?_
      · refine dq_setV (dv_I (dv_intI (dv_ixO (l := l) (d := .int r) rfl de_int rfl)) (de_var rfl) (by show (0 : Int) < m; omega) fun _ => .int _) ?_
        refine dq_setitem (l := l) (j := 3) rfl (dv_I (dv_ixO (l := l) (d := .int r) rfl de_int rfl) (de_var rfl) cm fun _ => .int _) de_int rfl ?_
        exact ds_retV (de_var rfl) ⟨_, rfl, mod_lt h1, i, c, _, hi, rfl⟩
      · refine dq_setitem (l := l) (j := 1) rfl (dv_I0 (dv_ixO (l := l) (d := .int i) rfl de_int rfl) de_int fun _ => .int _) de_int rfl ?_
        refine dq_out (b := decide ((ns.length : Int) < i + 1)) (db_test (dv_I0 (dv_ixO (l := l) (d := .int (i + 1)) rfl de_int rfl) ((dv_lenL (dl_v (dv_ixO (l := l) (d := .list (ns.map .int)) rfl de_int rfl))).is (e := .int ns.length) (by rw [List.length_map])) fun _ => .bl _)) (fun e => ?_) fun e => ?_
        · refine dq_setitem (l := l) (j := 2) rfl (dv_I (dv_intI (dv_I0 (dv_I (dv_ixO (l := l) (d := .int c) rfl de_int rfl) de_int (.inr (by decide)) fun _ => .int _) de_int fun _ => .int _)) de_int (by decide) fun _ => .int _) de_int rfl ?_
          exact ds_retV (dv_I (dv_intI (dv_I (dv_ixO (l := l) (d := .int ((c * 48271 + 11) % 2147483647)) rfl de_int rfl) de_int ⟨by decide, by decide⟩ fun _ => .int _)) (de_var rfl) (by show (0 : Int) < m; omega) fun _ => .int _) ⟨_, rfl, mod_lt h1, i + 1, _, r, by omega, rfl⟩
        · have hlt : ¬ (ns.length : Int) < i + 1 := of_decide_eq_false e
          obtain ⟨x, hx⟩ : ∃ x, ns[i.toNat]? = some x := ⟨ns[i.toNat]'(by omega), by rw [List.getElem?_eq_getElem]⟩
          have hat : atI (ns.map PyData.int) (i + 1 - 1) = some (.int x) := by
            have e1 : i + 1 - 1 = (i.toNat : Int) := by omega
            rw [e1]; exact atI_nat (by rw [List.getElem?_map, hx]; rfl)
          refine dq_setV (dv_ixL (dv_ixO (l := l) (d := .list (ns.map .int)) rfl de_int rfl) (dv_I0 (dv_ixO (l := l) (d := .int (i + 1)) rfl de_int rfl) de_int fun _ => .int _) hat) ?_
          refine dq_setitem (l := l) (j := 2) rfl (dv_I (dv_intI (dv_I0 (dv_I0 (dv_I (dv_ixO (l := l) (d := .int c) rfl de_int rfl) de_int (.inr (by decide)) fun _ => .int _) (de_var (d := .int x) rfl) fun _ => .int _) de_int fun _ => .int _)) de_int (by decide) fun _ => .int _) de_int rfl ?_
          refine ds_seq (N1 := fun δ1 => ∃ r' : Int, δ1 = [.own l [.list (ns.map .int), .int (i + 1), .int ((c * 48271 + x + 11) % 2147483647), .int r'], .dat (dN m), .no, .dat (.int x)]) ?_ ?_
          · refine ds_ifB (b := decide ((10 : Int) ^ (18 : Int).toNat ≤ x)) (db_test (dv_I0 (de_var (d := .int x) rfl) (dv_I de_int de_int ⟨by decide, by decide, by decide⟩ fun _ => .int _) fun _ => .bl _)) (fun _ => ?_) fun _ => ds_next ⟨r, rfl⟩
            exact ds_setitemV (l := l) (j := 3) rfl (dv_I (de_var (d := .int x) rfl) (de_var rfl) cm fun _ => .int _) de_int rfl ⟨_, rfl⟩
          · rintro δ1 ⟨r', rfl⟩
            exact ds_retV (dv_I (dv_intI (de_var (d := .int x) rfl)) (de_var rfl) (by show (0 : Int) < m; omega) fun _ => .int _) ⟨_, rfl, mod_lt h1, i + 1, _, r', by omega, rfl⟩
inductive rel_pick : List PyData → List PyData → (PyData → List PyData → Prop) → Prop
  | mk (ns : List Int) (ds things : List PyData) (h : RowOk ns ds) (h1 : 0 < things.length) (h2 : things.length ≤ 10000) (h3 : ns.length ≤ 63) : rel_pick ds [.list things] fun d ds' => (∃ x : Nat, things[x]? = some d) ∧ RowOk ns ds'
theorem ok_law_pick (T : Top K mg) : FnOk P w K mg base CX0 2 T.law_pick.f T.law_pick.fd ["row", "things"] (spO K rel_pick) :=
  fnO T.law_pick.F sc_law_pick (fun ds es Pd h => by cases h; rfl) (by decide) fun cdv A outer s H E hr => by
    refine ⟨_, (pss_one (ps_ret (pe_ix (r := rIxL K) ix_list (pv 1) (pe_call (ok_law_taken T) (hr.mono (by omega)) rfl T.law_taken.m T.law_taken.F.kp T.law_taken.b .nil pass0 (pa_cons (pv 0) (pa_cons (pe_callB (r := rLenQ K) call_len_seq (by rfl) T.n_len PySem.boot_len (pa_cons (pv 1) pa_nil)) pa_nil))) (fun _ _ => rfl)))), fun A0 l ds es Pd hrel => ?_⟩
    cases hrel with
    | mk ns _ things h h1 h2 h3 =>
      refine ds_ret (de_op (Pb := fun _ d δ' => ∃ (x : Nat) (ds' : List PyData), x < things.length ∧ d = dN x ∧ RowOk ns ds' ∧ δ' = [.own l ds', .dat (.list things)]) (de_var rfl) ?_ ?_)
      · rintro d1 δ1 ⟨rfl, rfl⟩
        refine de_callO (l := l) rfl (das1 (dv_len (de_var rfl) rfl)) fun es δ1 ⟨e1, e2⟩ => ?_
        subst e1; subst e2
        exact ⟨ds, _, rfl, .mk ns ds things.length h h1 h2 h3, fun d ds' ⟨⟨x, hx, hd⟩, hR⟩ => ⟨x, ds', hx, hd, hR, rfl⟩⟩
      · rintro d1 δ1 d2 δ2 ⟨rfl, rfl⟩ ⟨x, ds', hx, rfl, hR, rfl⟩
        obtain ⟨z, hz⟩ : ∃ z, things[x]? = some z := ⟨things[x], List.getElem?_eq_getElem hx⟩
        exact fun A H v u l h1 h2 Q q => rd_ixL (atI_nat hz) A H v u l h1 h2 Q fun v d H2 p => q v d H2 ⟨ds', rfl, ⟨x, by rw [p]; exact hz⟩, hR⟩
end
end WL
end
section
set_option Elab.async false
set_option linter.all false
set_option maxRecDepth 100000
namespace WL
open PySem PySem.Spec PyProof.Rows L2
section
variable {P : Program} {w : World} {K : PySem.W.Frag} {mg : Str → Option Value} {base : Heap}
inductive rel_law_is : List PyData → (PyData → Prop) → Prop
  | mk (a b : Bool) : rel_law_is [.bool a, .bool b] fun z => z = .bool (a == b)
theorem ok_law_is (T : Top K mg) : FnOk P w K mg base CX0 1 T.law_is.f T.law_is.fd ["found", "due"] (spP K rel_law_is) :=
  fnP T.law_is.F sc_law_is (fun ds Pd h => by cases h; rfl) fun cdv A outer s H E hr => by
    refine ⟨_, (pss_one (ps_ret (pe_and (pe_callB (r := rIsi K) call_isi (by rfl) T.n_isinstance (by decide +kernel) (pa_cons (pv 0) (pa_cons (pe_bltn (v := .ty "bool") (u := .type "bool") (by rfl) T.n_bool (by decide +kernel) rfl) pa_nil))) (pe_one (pe_cmpR (r := rEqD K) (op_eqD hr.units) (pv 0) (pv 1) (nomark _)))))), fun A0 ds Pd hrel => ?_⟩
    cases hrel with
    | mk a b => exact ds_retV (dv_andV (a := true) (dv_isi (de_var rfl) (kit_bool _)) fun _ => dv_eqD (de_var rfl) (de_var rfl) (by cases a <;> decide) (by cases b <;> decide)) rfl

/-! ### a machine drawn -/
inductive rel_law_machine : List PyData → List PyData → (PyData → List PyData → Prop) → Prop
  | mk (ns : List Int) (ds : List PyData) (m : Nat) (h : RowOk ns ds) (h1 : 1 ≤ m) (h2 : m ≤ 4) (h3 : ns.length ≤ 63) : rel_law_machine ds [dN m] fun d ds' => (∃ n fs, MachOk n fs ∧ n ≤ m ∧ fs.length ≤ 2 ∧ d = encM n fs) ∧ RowOk ns ds'
theorem ok_law_machine (T : Top K mg) : FnOk P w K mg base CX0 2 T.law_machine.f T.law_machine.fd ["row", "most"] (spO K rel_law_machine) :=
  fnO T.law_machine.F sc_law_machine (fun ds es Pd h => by cases h; rfl) (by decide) fun cdv A outer s H E hr => by
    refine ⟨_, (pss_cons (ps_par (i := 2) (j := 3) rfl sc_law_machine.nd rfl rfl (by decide) rfl rfl (pa_cons (pe_op op_add pe_int (pe_call (ok_law_taken T) (hr.mono (by omega)) rfl T.law_taken.m T.law_taken.F.kp T.law_taken.b .nil pass0 (pa_cons (pv 0) (pa_cons (pv 1) pa_nil)))) (pa_cons (pe_op op_add pe_int (pe_call (ok_law_taken T) (hr.mono (by omega)) rfl T.law_taken.m T.law_taken.F.kp T.law_taken.b .nil pass0 (pa_cons (pv 0) (pa_cons pe_int pa_nil)))) pa_nil)) rfl)
    (pss_one (ps_ret (pe_tupN (pa_cons (pv 2) (pa_cons (pe_callTy (r := rTupN K) call_tupN (by rfl) T.n_tuple (by decide +kernel) (pa_cons (pe_lc (own := [("function", 4)]) rfl sc_law_machine.nd (pi_range1 rfl T.n_range (pa_cons (pv 3) pa_nil)) (blkOk_by (own := [("function", 4)]) (N := ["row", "most", "cells", "many", "function"]) (sc := (defScope (topS 52))) (by decide +kernel)) (fun _ _ _ _ _ => (pg_name (i := 4) sc_law_machine.nd rfl (by first | exact Or.inl rfl | exact Or.inr rfl))) (fun _ _ _ _ _ => pts_nil) (fun _ _ _ _ _ => (pe_op op_add pe_int (pe_call (ok_law_taken T) (hr.mono (by omega)) rfl T.law_taken.m T.law_taken.F.kp T.law_taken.b .nil pass0 (pa_cons (pv 0) (pa_cons pe_int pa_nil)))))) pa_nil)) pa_nil)))))), fun A0 l ds es Pd hrel => ?_⟩
    cases hrel with
    | mk ns _ m h h1 h2 h3 =>
      have draw : ∀ (F : Fx) (δ0 : List WSlot) (k : Nat) (te : TE) (rds : List PyData), F.K = K → True := fun _ _ _ _ _ _ => trivial
      refine ds_seq (N1 := fun δ1 => ∃ rds n k, RowOk ns rds ∧ n < m ∧ k < 2 ∧ δ1 = [.own l rds, .dat (dN m), .dat (dN (n + 1)), .dat (dN (k + 1)), .no]) ?_ ?_
      · refine ds_par (da_cons (P := fun d δ1 => ∃ rds n, RowOk ns rds ∧ n < m ∧ d = dN (n + 1) ∧ δ1 = [.own l rds, .dat (dN m), .no, .no, .no]) ?_ ?_)
        · refine de_op (Pb := fun _ d δ' => ∃ rds n, RowOk ns rds ∧ n < m ∧ d = dN n ∧ δ' = [.own l rds, .dat (dN m), .no, .no, .no]) de_int ?_ ?_
          · rintro d1 δ1 ⟨rfl, rfl⟩
            refine de_callO (l := l) rfl (das1 (de_var rfl)) fun es δ1 ⟨e1, e2⟩ => ?_
            subst e1; subst e2
            exact ⟨ds, _, rfl, .mk ns ds m h (by omega) (by omega) h3, fun d ds' ⟨⟨x, hx, hd⟩, hR⟩ => ⟨ds', x, hR, hx, hd, rfl⟩⟩
          · rintro d1 δ1 d2 δ2 ⟨rfl, rfl⟩ ⟨rds, n, hR, hn, rfl, rfl⟩
            exact fun A H x y lv k1 k2 Q q => rd_I0 (e := dN (n + 1)) (fun _ => (show (dN (n + 1)) = .int (1 + (n : Nat)) from congrArg PyData.int (by omega)) ▸ .int _) A H x y lv k1 k2 Q fun v d H2 p => q v d H2 ⟨rds, n, hR, hn, p, rfl⟩
        · rintro d1 δ1 ⟨rds, n, hR, hn, rfl, rfl⟩
          refine da_cons (P := fun d δ1 => ∃ rds k, RowOk ns rds ∧ k < 2 ∧ d = dN (k + 1) ∧ δ1 = [.own l rds, .dat (dN m), .no, .no, .no]) ?_ ?_
          · refine de_op (Pb := fun _ d δ' => ∃ rds n, RowOk ns rds ∧ n < 2 ∧ d = dN n ∧ δ' = [.own l rds, .dat (dN m), .no, .no, .no]) de_int ?_ ?_
            · rintro d1 δ1 ⟨rfl, rfl⟩
              refine de_callO (l := l) rfl (das1 de_int) fun es δ1 ⟨e1, e2⟩ => ?_
              subst e1; subst e2
              exact ⟨rds, _, rfl, .mk ns rds 2 hR (by omega) (by omega) h3, fun d ds' ⟨⟨x, hx, hd⟩, hR⟩ => ⟨ds', x, hR, hx, hd, rfl⟩⟩
            · rintro d1 δ1 d2 δ2 ⟨rfl, rfl⟩ ⟨rds, n, hR, hn, rfl, rfl⟩
              exact fun A H x y lv k1 k2 Q q => rd_I0 (e := dN (n + 1)) (fun _ => (show (dN (n + 1)) = .int (1 + (n : Nat)) from congrArg PyData.int (by omega)) ▸ .int _) A H x y lv k1 k2 Q fun v d H2 p => q v d H2 ⟨rds, n, hR, hn, p, rfl⟩
          · rintro d2 δ2 ⟨rds, k, hR, hk, rfl, rfl⟩
            exact da_end ⟨_, _, rfl, rds, n, k, hR, hn, hk, rfl⟩
      · rintro δ1 ⟨rds, n, k, hR, hn, hk, rfl⟩
        refine ds_ret (de_tup (PA := fun ds δ' => ∃ (rds : List PyData) (fs : List Nat), RowOk ns rds ∧ fs.length = k + 1 ∧ (∀ f ∈ fs, 1 ≤ f ∧ f ≤ 2) ∧ ds = [dN (n + 1), .tuple (fs.map dN)] ∧ δ'[0]? = some (.own l rds)) (da_cons (P := is1 _ _) (de_var (d := dN (n + 1)) rfl) ?_) ?_ ?_)
        · rintro d1 δ1 ⟨rfl, rfl⟩
          refine da_cons (P := fun d δ' => ∃ (rds : List PyData) (fs : List Nat), RowOk ns rds ∧ fs.length = k + 1 ∧ (∀ f ∈ fs, 1 ≤ f ∧ f ≤ 2) ∧ d = .tuple (fs.map dN) ∧ δ'[0]? = some (.own l rds)) ?_ ?_
          · refine de_tupL (PL := fun ds δ' => ∃ (rds : List PyData) (fs : List Nat), RowOk ns rds ∧ fs.length = k + 1 ∧ (∀ f ∈ fs, 1 ≤ f ∧ f ≤ 2) ∧ ds = fs.map dN ∧ δ'[0]? = some (.own l rds)) (DN.dl (dn_lc (di_rangeV (n := k + 1) (de_var rfl) (by omega)) ?_)) ?_
            · rintro es δ1 ⟨rfl, rfl⟩
              refine ⟨by rw [rangeD_len]; omega, fun i acc δ => ∃ (rds : List PyData) (fs : List Nat), RowOk ns rds ∧ fs.length = i ∧ (∀ f ∈ fs, 1 ≤ f ∧ f ≤ 2) ∧ acc = fs.map dN ∧ δ = [.own l rds, .dat (dN m), .dat (dN (n + 1)), .dat (dN (k + 1)), .no], ⟨rds, [], hR, rfl, (fun f hf => by cases hf), rfl, rfl⟩, ?_, ?_⟩
              · rintro H0' i acc d δi hd ⟨rds, fs, hR, hl, hf, rfl, rfl⟩
                refine ⟨_, dw_name (by decide), db_yes.mono fun b δ2 ⟨e1, e2⟩ => ⟨fun _ => ?_, fun e => by rw [e1] at e; cases e⟩⟩
                subst e2
                refine de_op (Pb := fun _ d' δ' => ∃ rds n, RowOk ns rds ∧ n < 2 ∧ d' = dN n ∧ δ'[0]? = some (.own l rds)) de_int ?_ ?_
                · rintro d1 δ1 ⟨rfl, rfl⟩
                  refine de_callO (l := l) rfl (das1 de_int) fun es δ1 ⟨e1, e2⟩ => ?_
                  subst e1; subst e2
                  exact ⟨rds, _, rfl, .mk ns rds 2 hR (by omega) (by omega) h3, fun d ds' ⟨⟨x, hx, hd⟩, hR⟩ => ⟨ds', x, hR, hx, hd, rfl⟩⟩
                · rintro d1 δ1 d2 δ2 ⟨rfl, rfl⟩ ⟨rds', x, hR', hx, rfl, h0⟩
                  refine fun A H x' y lv k1 k2 Q q => rd_I0 (e := dN (x + 1)) (fun _ => (show (dN (x + 1)) = .int (1 + (x : Nat)) from congrArg PyData.int (by omega)) ▸ .int _) A H x' y lv k1 k2 Q fun v d H2 p => q v d H2 ?_
                  subst p
                  refine ⟨[.own l rds', .dat (dN m), .dat (dN (n + 1)), .dat (dN (k + 1)), .no], ⟨rfl, fun j d' hj => ?_, fun j l' ds' hj => ?_, by intro k b hj; rcases k with _ | _ | _ | _ | _ | _ | _ | _ | k <;> simp at hj⟩, rds', fs ++ [x + 1], hR', by simp [hl], fun f hf' => ?_, by simp, rfl⟩
                  · rcases j with _ | j
                    · simp at hj
                    · simpa using hj
                  · rcases j with _ | _ | _ | _ | _ | j <;> simp at hj
                    obtain ⟨rfl, rfl⟩ := hj
                    exact ⟨h0, rds, rfl⟩
                  · rcases List.mem_append.mp hf' with h | h
                    · exact hf f h
                    · rw [List.mem_singleton.mp h]; omega
              · rintro acc δ' ⟨rds, fs, hR, hl, hf, rfl, rfl⟩
                rw [rangeD_len] at hl
                exact ⟨rds, fs, hR, hl, hf, rfl, rfl⟩
            · rintro ds δ' ⟨rds, fs, hR, hl, hf, rfl, h0⟩
              exact ⟨rds, fs, hR, hl, hf, rfl, h0⟩
          · rintro d2 δ2 ⟨rds, fs, hR, hl, hf, rfl, h0⟩
            exact da_end ⟨rds, fs, hR, hl, hf, rfl, h0⟩
        · rintro ds δ' ⟨rds, fs, hR, hl, hf, rfl, h0⟩
          show 2 ≤ 100000; decide
        · rintro ds δ' ⟨rds, fs, hR, hl, hf, rfl, h0⟩
          exact ⟨rds, h0, ⟨n + 1, fs, ⟨by omega, by omega, by omega, by omega, hf⟩, by omega, by omega, rfl⟩, hR⟩
end
end WL
end
section
set_option Elab.async false
set_option linter.all false
set_option maxRecDepth 100000
namespace WL
open PySem PySem.Spec PyProof.Rows L2
theorem rangeD_map (n : Nat) : rangeD n = (List.range n).map fun i => dN i := rfl
section
variable {P : Program} {w : World} {K : PySem.W.Frag} {mg : Str → Option Value} {base : Heap}
/-! ### all lines of a machine -/
def LinesOk (n : Nat) (fs : List Nat) (L : List Ln) : Prop := ∀ l ∈ L, LnOk n fs l
theorem LinesOk.app {n : Nat} {fs : List Nat} {L M : List Ln} (h : LinesOk n fs L) (k : LinesOk n fs M) : LinesOk n fs (L ++ M) := fun l hl => (List.mem_append.mp hl).elim (h l) (k l)
inductive rel_every : List PyData → (PyData → Prop) → Prop
  | mk (n : Nat) (fs : List Nat) (h : MachOk n fs) : rel_every [encM n fs] fun z => ∃ L : List Ln, LinesOk n fs L ∧ 0 < L.length ∧ L.length ≤ 400 ∧ z = .list (L.map encL)
theorem ok_law_every_line (T : Top K mg) : FnOk P w K mg base CX0 1 T.law_every_line.f T.law_every_line.fd ["machine"] (spP K rel_every) :=
  fnP T.law_every_line.F sc_law_every_line (fun ds Pd h => by cases h; rfl) fun cdv A outer s H E hr => by
    refine ⟨_, (pss_cons (ps_asg (pv 0) (pg_tup rfl (pgs_cons (pg_name (i := 1) sc_law_every_line.nd rfl (by first | exact Or.inl rfl | exact Or.inr rfl)) (pgs_cons (pg_name (i := 2) sc_law_every_line.nd rfl (by first | exact Or.inl rfl | exact Or.inr rfl)) pgs_nil))))
    (pss_cons (ps_set (i := 3) sc_law_every_line.nd rfl (by first | exact Or.inl rfl | exact Or.inr rfl) (pe_lst pa_nil))
    (pss_cons (ps_for PassesOwn.never rfl (pi_range1 rfl T.n_range (pa_cons (pv 1) pa_nil)) (pg_name (i := 4) sc_law_every_line.nd rfl (by first | exact Or.inl rfl | exact Or.inr rfl)) (pss_cons (ps_for PassesOwn.never rfl (pi_enumT rfl T.n_enumerate (pa_cons (pv 2) pa_nil)) (pg_tup rfl (pgs_cons (pg_name (i := 5) sc_law_every_line.nd rfl (by first | exact Or.inl rfl | exact Or.inr rfl)) (pgs_cons (pg_name (i := 6) sc_law_every_line.nd rfl (by first | exact Or.inl rfl | exact Or.inr rfl)) pgs_nil))) (pss_one (ps_for PassesOwn.never rfl (pi_range1 rfl T.n_range (pa_cons (pv 1) pa_nil)) (pg_name (i := 7) sc_law_every_line.nd rfl (by first | exact Or.inl rfl | exact Or.inr rfl)) (pss_one (ps_if (pt_cmpR op_eq (pv 6) pe_int (nomark _)) (pss_one (ps_expr (pe_bm PySem.F.plainAttrs_list PySem.F.slot_list_append PySem.F.type_list_append mt_append (pv 3) (pa_cons (pe_tupN (pa_cons (pv 4) (pa_cons (pv 5) (pa_cons (pe_tupN (pa_cons (pv 7) pa_nil)) pa_nil)))) pa_nil)))) (pss_one (ps_set (i := 3) sc_law_every_line.nd rfl (by first | exact Or.inl rfl | exact Or.inr rfl) (pe_op op_cat (pv 3) (pe_lc (own := [("other", 8)]) rfl sc_law_every_line.nd (pi_range1 rfl T.n_range (pa_cons (pv 1) pa_nil)) (blkOk_by (own := [("other", 8)]) (N := ["machine", "cells", "functions", "found", "cell", "function", "reads", "one", "other"]) (sc := (defScope (topS 53))) (by decide +kernel)) (fun _ _ _ _ _ => (pg_name (i := 8) sc_law_every_line.nd rfl (by first | exact Or.inl rfl | exact Or.inr rfl))) (fun _ _ _ _ _ => pts_nil) (fun _ _ _ _ _ => (pe_tupN (pa_cons (pv 4) (pa_cons (pv 5) (pa_cons (pe_tupN (pa_cons (pv 7) (pa_cons (pv 8) pa_nil))) pa_nil))))))))))))))
    (pss_one (ps_set (i := 3) sc_law_every_line.nd rfl (by first | exact Or.inl rfl | exact Or.inr rfl) (pe_op op_cat (pv 3) (pe_lc (own := [("one", 7)]) rfl sc_law_every_line.nd (pi_range1 rfl T.n_range (pa_cons (pv 1) pa_nil)) (blkOk_by (own := [("one", 7)]) (N := ["machine", "cells", "functions", "found", "cell", "function", "reads", "one", "other"]) (sc := (defScope (topS 53))) (by decide +kernel)) (fun _ _ _ _ _ => (pg_name (i := 7) sc_law_every_line.nd rfl (by first | exact Or.inl rfl | exact Or.inr rfl))) (fun _ _ _ _ _ => pts_one (pt_cmpR op_ne (pv 7) (pv 4) (nomark _))) (fun _ _ _ _ _ => (pe_tupN (pa_cons (pv 4) (pa_cons pe_non (pa_cons (pe_tupN (pa_cons (pv 7) pa_nil)) pa_nil)))))))))))
    (pss_one (ps_ret (pv 3)))))), fun A0 ds Pd hrel => ?_⟩
    cases hrel with
    | mk n fs h =>
      refine dq_asgV (de_var rfl) dg2 (dq_nil fun l0 => ?_)
      refine ds_seq (N1 := fun δ => ∃ (L : List Ln) (l : Addr) (s4 s5 s6 s7 s8 : WSlot), LinesOk n fs L ∧ 0 < L.length ∧ L.length ≤ 400 ∧ δ = [.dat (encM n fs), .dat (dN n), .dat (.tuple (fs.map dN)), .own l (L.map encL), s4, s5, s6, s7, s8]) ?_ ?_
      · refine ds_forV (fun i δ => ∃ (L : List Ln) (l : Addr) (s4 s5 s6 s7 s8 : WSlot), LinesOk n fs L ∧ (0 < i → 0 < L.length) ∧ L.length ≤ 100 * i ∧ δ = [.dat (encM n fs), .dat (dN n), .dat (.tuple (fs.map dN)), .own l (L.map encL), s4, s5, s6, s7, s8])
          (di_rangeV (n := n) (de_var rfl) (by have := h.n4; omega)) ⟨[], l0, _, _, _, _, _, (fun l hl => by cases hl), fun z => absurd z (Nat.lt_irrefl 0), Nat.le_refl _, rfl⟩ ?_ ?_
        · rintro c d δi hd ⟨L, l, s4, s5, s6, s7, s8, hL, hpos, hlen, rfl⟩
          obtain ⟨rfl, hc⟩ := rangeD_get hd
          refine ⟨_, dg_name, ?_⟩
          refine ds_seq (N1 := fun δ => ∃ (L : List Ln) (l : Addr) (s5 s6 s7 s8 : WSlot), LinesOk n fs L ∧ 0 < L.length ∧ L.length ≤ 100 * c + 20 * fs.length ∧ δ = [.dat (encM n fs), .dat (dN n), .dat (.tuple (fs.map dN)), .own l (L.map encL), .dat (dN c), s5, s6, s7, s8]) ?_ ?_
          · refine ds_forV (fun j δ => ∃ (L : List Ln) (l : Addr) (s5 s6 s7 s8 : WSlot), LinesOk n fs L ∧ (0 < j → 0 < L.length) ∧ L.length ≤ 100 * c + 20 * j ∧ δ = [.dat (encM n fs), .dat (dN n), .dat (.tuple (fs.map dN)), .own l (L.map encL), .dat (dN c), s5, s6, s7, s8])
              (di_enumT (de_var rfl)) ⟨L, l, _, _, _, _, hL, fun z => absurd z (Nat.lt_irrefl 0), by omega, rfl⟩ ?_ ?_
            · rintro fi d δj hd ⟨L, l, s5, s6, s7, s8, hL, hpos, hlen, rfl⟩
              obtain ⟨x, hx, rfl⟩ := enumD_get hd
              rw [List.getElem?_map] at hx
              obtain ⟨r, hr1, rfl⟩ := Option.map_eq_some_iff.mp hx
              have hrr := h.fr r (List.mem_of_getElem? hr1)
              refine ⟨_, dg2, ?_⟩
              refine ds_forV (fun k δ => ∃ (L : List Ln) (l : Addr) (s7 s8 : WSlot), LinesOk n fs L ∧ (0 < k → 0 < L.length) ∧ L.length ≤ 100 * c + 20 * fi + 4 * k ∧ δ = [.dat (encM n fs), .dat (dN n), .dat (.tuple (fs.map dN)), .own l (L.map encL), .dat (dN c), .dat (dN fi), .dat (dN r), s7, s8])
                (di_rangeV (n := n) (de_var rfl) (by have := h.n4; omega)) ⟨L, l, _, _, hL, fun z => absurd z (Nat.lt_irrefl 0), by omega, rfl⟩ ?_ ?_
              · rintro o d δk hd ⟨L, l, s7, s8, hL, hpos, hlen, rfl⟩
                obtain ⟨rfl, ho⟩ := rangeD_get hd
                have hn4 := h.n4
                have hfl : fi < fs.length := (List.getElem?_eq_some_iff.mp hr1).1
                have hf3 := h.f3
                have hLl : (L.map encL).length = L.length := List.length_map _
                refine ⟨_, dg_name, ?_⟩
                refine ds_ifB (b := decide ((r : Int) = 1)) (db_test (dv_eqI (de_var (d := dN r) rfl) de_int)) (fun e => ?_) fun e => ?_
                · have hr1' : r = 1 := by have := of_decide_eq_true e; omega
                  subst hr1'
                  refine ds_append (l := l) rfl ((dv_tup (das_cons (de_var (d := dN c) rfl) (das2 (de_var (d := dN fi) rfl) (dv_tup (das1 (de_var (d := dN o) rfl)) (by show 1 ≤ 100000; decide)))) (by show 3 ≤ 100000; decide)).mono fun d δ1 ⟨e1, e2⟩ => ?_)
                  subst e1; subst e2
                  refine ⟨_, rfl, by rw [hLl]; omega, L ++ [⟨c, some fi, [o]⟩], l, _, _, hL.app ?_, fun _ => by simp, by rw [List.length_append]; show L.length + 1 ≤ _; omega, by rw [List.map_append]; rfl⟩
                  intro z hz
                  rw [List.mem_singleton.mp hz]
                  exact ⟨hc, fun s hs => by rw [List.mem_singleton.mp hs]; exact ho, 1, hr1, rfl⟩
                · have hr2 : r = 2 := by have := of_decide_eq_false e; omega
                  subst hr2
                  refine ds_forget [8] (ds_setN (dn_catO (l := l) rfl ((dn_map (fun d => .tuple [dN c, dN fi, .tuple [dN o, d]]) (di_rangeV (n := n) (de_var rfl) (by omega)) (by rw [rangeD_len]; omega) fun H0' d hd => ⟨_, dw_name (by decide), by repeat' (first | exact True.intro | rfl | refine ⟨?_, ?_⟩), dv_tup (das_cons (de_var (d := dN c) rfl) (das2 (de_var (d := dN fi) rfl) (dv_tup (das2 (de_var (d := dN o) rfl) (de_var rfl)) (by show 2 ≤ 100000; decide)))) (by show 3 ≤ 100000; decide)⟩).mono fun es δ1 ⟨e1, e2⟩ => ?_)))
                  subst e1; subst e2
                  refine ⟨_, rfl, by rw [hLl, List.length_map, rangeD_len]; omega, fun l' => ⟨L ++ (List.range n).map fun q => ⟨c, some fi, [o, q]⟩, l', .dat (dN o), .no, hL.app ?_, fun _ => by rw [List.length_append, List.length_map, List.length_range]; omega, by rw [List.length_append, List.length_map, List.length_range]; omega, ?_⟩⟩
                  · intro z hz
                    obtain ⟨q, hq, rfl⟩ := List.mem_map.mp hz
                    have hq2 := List.mem_range.mp hq
                    exact ⟨hc, fun s hs => by rcases List.mem_cons.mp hs with e | hs; exact e ▸ ho; rw [List.mem_singleton.mp hs]; exact hq2, 2, hr1, rfl⟩
                  · rw [List.map_append, rangeD_map, List.map_map, List.map_map]; rfl
              · rintro δ' ⟨L, l, s7, s8, hL, hpos, hlen, rfl⟩
                rw [rangeD_len] at hpos hlen
                have := h.n4; have := h.n1
                exact ⟨L, l, _, _, _, _, hL, fun _ => hpos (by omega), by omega, rfl⟩
            · rintro δ' ⟨L, l, s5, s6, s7, s8, hL, hpos, hlen, rfl⟩
              rw [enumD_len, List.length_map] at hpos hlen
              exact ⟨L, l, _, _, _, _, hL, hpos (by have := h.f1; omega), hlen, rfl⟩
          · rintro δ1 ⟨L, l, s5, s6, s7, s8, hL, hpos, hlen, rfl⟩
            have hn4 := h.n4; have hf3 := h.f3
            have hLl : (L.map encL).length = L.length := List.length_map _
            let keep : PyData → Bool := fun d => match d with | .int i => !decide (i = (c : Int)) | _ => false
            refine ds_forget [5, 6, 7, 8] (ds_setN (dn_catO (l := l) rfl ((dn_lcM (fun d => .tuple [dN c, .none, .tuple [d]]) keep (di_rangeV (n := n) (de_var rfl) (by omega)) (by rw [rangeD_len]; omega) fun H0' d hd => ?_).mono fun es δ1 ⟨e1, e2⟩ => ?_)))
            · obtain ⟨q, hq, rfl⟩ := List.mem_map.mp hd
              exact ⟨_, dw_name (by decide), by repeat' (first | exact True.intro | rfl | refine ⟨?_, ?_⟩), db_test (dv_neI (de_var rfl) (de_var (d := dN c) rfl)), fun _ => dv_tup (das_cons (de_var (d := dN c) rfl) (das2 de_non (dv_tup (das1 (de_var rfl)) (by show 1 ≤ 100000; decide)))) (by show 3 ≤ 100000; decide)⟩
            · subst e1; subst e2
              have hle : ((List.range n).filter fun (q : Nat) => !decide ((q : Int) = (c : Int))).length ≤ n := Nat.le_trans (List.length_filter_le _ _) (by rw [List.length_range]; exact Nat.le_refl _)
              have heq : ((rangeD n).filter keep).map (fun d => PyData.tuple [dN c, .none, .tuple [d]]) = (((List.range n).filter fun (q : Nat) => !decide ((q : Int) = (c : Int))).map fun q => (⟨c, none, [q]⟩ : Ln)).map encL := by
                rw [rangeD_map, List.filter_map, List.map_map, List.map_map]; rfl
              refine ⟨_, rfl, by rw [hLl, heq, List.length_map, List.length_map]; omega, fun l' => ⟨L ++ ((List.range n).filter fun (q : Nat) => !decide ((q : Int) = (c : Int))).map fun q => ⟨c, none, [q]⟩, l', .dat (dN c), .no, .no, .no, .no, hL.app ?_, fun _ => by rw [List.length_append]; omega, by rw [List.length_append, List.length_map]; omega, by rw [List.map_append, heq]; rfl⟩⟩
              intro z hz
              obtain ⟨q, hq, rfl⟩ := List.mem_map.mp hz
              have hq2 := List.mem_filter.mp hq
              exact ⟨hc, fun s hs => by rw [List.mem_singleton.mp hs]; exact List.mem_range.mp hq2.1, q, rfl, fun e => by have := hq2.2; rw [e] at this; simp at this⟩
        · rintro δ' ⟨L, l, s4, s5, s6, s7, s8, hL, hpos, hlen, rfl⟩
          rw [rangeD_len] at hpos hlen
          exact ⟨L, l, _, _, _, _, _, hL, hpos (by have := h.n1; omega), by have := h.n4; omega, rfl⟩
      · rintro δ1 ⟨L, l, s4, s5, s6, s7, s8, hL, hpos, hlen, rfl⟩
        exact ds_retO (l := l) rfl ⟨L, hL, hpos, hlen, rfl⟩ (.inl rfl)
end
end WL
end
section
set_option Elab.async false
set_option linter.all false
set_option maxRecDepth 100000
namespace WL
open PySem PySem.Spec PyProof.Rows L2
/-! ### terms, what lines do -/
inductive Tm where
  | atom (c : Nat)
  | f1 (f : Nat) (a : Tm)
  | f2 (f : Nat) (a b : Tm)
  deriving DecidableEq
def encT : Tm → PyData
  | .atom c => dN c
  | .f1 f a => .tuple [dN f, encT a]
  | .f2 f a b => .tuple [dN f, encT a, encT b]
def encHeld (h : List Tm) : PyData := .tuple (h.map encT)
def tmAt (h : List Tm) (s : Nat) : Tm := (h[s]?).getD (.atom 0)
def newT (h : List Tm) (l : Ln) : Tm := match l.fn, l.src with
  | none, s :: _ => tmAt h s
  | some f, [a] => .f1 f (tmAt h a)
  | some f, [a, b] => .f2 f (tmAt h a) (tmAt h b)
  | _, _ => .atom 0
def did (h : List Tm) (l : Ln) : List Tm := h.set l.cell (newT h l)
theorem did_len (h : List Tm) (l : Ln) : (did h l).length = h.length := List.length_set
theorem tmAt_get {h : List Tm} {s : Nat} (hs : s < h.length) : h[s]? = some (tmAt h s) := by
  unfold tmAt; rw [List.getElem?_eq_getElem hs]; rfl
theorem held_at {h : List Tm} {s : Nat} (hs : s < h.length) : atI (h.map encT) (s : Int) = some (encT (tmAt h s)) := atI_nat (by rw [List.getElem?_map, tmAt_get hs]; rfl)
theorem set_cut {α : Type} (t : α) : ∀ (l : List α) (i : Nat), i < l.length → l.take i ++ [t] ++ l.drop (i + 1) = l.set i t
  | [], _, h => by simp at h
  | x :: r, 0, _ => by simp
  | x :: r, i + 1, h => by
    have := set_cut t r i (by simpa using h)
    simp only [List.take_succ_cons, List.cons_append, List.drop_succ_cons, List.set_cons_succ]
    rw [this]
theorem cutD_take {ds : List PyData} {c : Nat} (h : c ≤ ds.length) : cutD ds none (some (c : Int)) = ds.take c := by
  unfold cutD
  rw [HT.sIx_nat, HT.sIx_none, Nat.min_eq_left h]; rfl
theorem cutD_drop {ds : List PyData} {c : Nat} (h : c ≤ ds.length) : cutD ds (some (c : Int)) none = ds.drop c := by
  unfold cutD
  rw [HT.sIx_nat, HT.sIx_none, Nat.min_eq_left h]
  exact List.take_of_length_le (by rw [List.length_drop]; omega)
section
variable {P : Program} {w : World} {K : PySem.W.Frag} {mg : Str → Option Value} {base : Heap}
inductive rel_did : List PyData → (PyData → Prop) → Prop
  | mk (n : Nat) (fs : List Nat) (h : MachOk n fs) (held : List Tm) (l : Ln) (hn : held.length = n) (hl : LnOk n fs l) : rel_did [encHeld held, encL l] fun z => z = encHeld (did held l)
theorem ok_law_did (T : Top K mg) : FnOk P w K mg base CX0 1 T.law_did.f T.law_did.fd ["held", "line"] (spP K rel_did) :=
  fnP T.law_did.F sc_law_did (fun ds Pd h => by cases h; rfl) fun cdv A outer s H E hr => by
    refine ⟨_, (pss_cons (ps_set (i := 2) sc_law_did.nd rfl (by first | exact Or.inl rfl | exact Or.inr rfl) (pe_callTy (r := rTupN K) call_tupN (by rfl) T.n_tuple (by decide +kernel) (pa_cons (pe_lc (own := [("source", 3)]) rfl sc_law_did.nd (pi_tup (pe_ix (r := rIxT K) ix_tup (pv 1) pe_int (fun _ _ => rfl))) (blkOk_by (own := [("source", 3)]) (N := ["held", "line", "terms", "source", "term"]) (sc := (defScope (topS 54))) (by decide +kernel)) (fun _ _ _ _ _ => (pg_name (i := 3) sc_law_did.nd rfl (by first | exact Or.inl rfl | exact Or.inr rfl))) (fun _ _ _ _ _ => pts_nil) (fun _ _ _ _ _ => (pe_ix (r := rIxT K) ix_tup (pv 0) (pv 3) (fun _ _ => rfl)))) pa_nil)))
    (pss_cons (ps_set (i := 4) sc_law_did.nd rfl (by first | exact Or.inl rfl | exact Or.inr rfl) (pe_ifExp (pt_cmpR op_isN (pe_ix (r := rIxT K) ix_tup (pv 1) pe_int (fun _ _ => rfl)) pe_non (nomark _)) (pe_ix (r := rIxT K) ix_tup (pv 2) pe_int (fun _ _ => rfl)) (pe_op (r := rCatN K) op_catN (pe_tupN (pa_cons (pe_ix (r := rIxT K) ix_tup (pv 1) pe_int (fun _ _ => rfl)) pa_nil)) (pv 2))))
    (pss_one (ps_ret (pe_op (r := rCatN K) op_catN (pe_op (r := rCatN K) op_catN (pe_slice (r := rSlN K) sl_tupN (pv 0) po_none (po_some (pe_ix (r := rIxT K) ix_tup (pv 1) pe_int (fun _ _ => rfl)))) (pe_tupN (pa_cons (pv 4) pa_nil))) (pe_slice (r := rSlN K) sl_tupN (pv 0) (po_some (pe_op op_add (pe_ix (r := rIxT K) ix_tup (pv 1) pe_int (fun _ _ => rfl)) pe_int)) po_none)))))), fun A0 ds Pd hrel => ?_⟩
    cases hrel with
    | mk n fs h held l hn hl =>
      have hn4 := h.n4
      have hln := hl.len h
      obtain ⟨c, fn, src⟩ := l
      have hc : c < held.length := by rw [hn]; exact hl.cell
      refine dq_setV (DE.mono (de_tupL (P := is1 _ (.tuple (src.map fun s => encT (tmAt held s)))) (DN.dl (dn_map (fun d => match d with | .int i => encT (tmAt held i.toNat) | _ => .none) (di_tup (es := src.map dN) (dv_ixT (de_var rfl) de_int rfl)) (by rw [List.length_map]; exact Nat.le_trans hln.2 (by decide)) fun H0' d hd => ?_)) ?_) fun _ _ e => e) ?_
      · obtain ⟨x, hx, rfl⟩ := List.mem_map.mp hd
        have hx2 : x < held.length := by rw [hn]; exact hl.src x hx
        exact ⟨_, dw_name (by decide), by repeat' (first | exact True.intro | rfl | refine ⟨?_, ?_⟩), dv_ixT (de_var rfl) (de_var rfl) (held_at hx2)⟩
      · rintro ds δ' ⟨rfl, e⟩
        exact ⟨by rw [List.map_map]; rfl, e⟩
      refine dq_setV (d := encT (newT held ⟨c, fn, src⟩)) ?_ ?_
      · have hfn := hl.fn
        cases fn with
        | none =>
          obtain ⟨x, hs, hne⟩ := hfn
          dsimp only at hs
          subst hs
          exact dv_if (b := true) (db_test (dv_isN (dv_ixT (d := .none) (de_var rfl) de_int rfl))) (fun _ => dv_ixT (de_var rfl) de_int rfl) fun e => by cases e
        | some f =>
          refine dv_if (b := false) (db_test (dv_isN (dv_ixT (d := dN f) (de_var rfl) de_int rfl))) (fun e => by cases e) fun _ => ?_
          refine (dv_catT (dv_tup (das1 (dv_ixT (d := dN f) (de_var rfl) de_int rfl)) (by show 1 ≤ 100000; decide)) (de_var rfl) (by rw [List.length_map]; show 1 + src.length ≤ 100000; dsimp only at hln; omega)).is ?_
          match src, hln with
          | [a], _ => rfl
          | [a, b], _ => rfl
          | [], h => exact absurd h.1 (Nat.not_succ_le_zero 0)
          | a :: b :: e :: r, h => exact absurd h.2 (by simp)
      · have hlen : (held.map encT).length = held.length := List.length_map _
        refine ds_retV (dv_catT (dv_catT (dv_slT (ds := held.map encT) (de_var rfl) do_none (do_some (dv_ixT (d := dN c) (de_var rfl) de_int rfl))) (dv_tup (das1 (de_var rfl)) (by show 1 ≤ 100000; decide)) ?_) (dv_slT (ds := held.map encT) (de_var rfl) (do_some (dv_I0 (dv_ixT (d := dN c) (de_var rfl) de_int rfl) de_int (e := dN (c + 1)) fun _ => .int _)) do_none) ?_) ?_
        · rw [cutD_take (by omega), List.length_take]; show min c _ + 1 ≤ _; omega
        · rw [cutD_take (by omega), List.length_append, List.length_take, cutD_drop (by omega), List.length_drop]; show min c _ + 1 + _ ≤ _; omega
        · show PyData.tuple _ = encHeld _
          rw [cutD_take (by omega), cutD_drop (by omega), set_cut _ _ _ (by omega)]
          unfold encHeld did
          rw [List.map_set]
end
end WL
end
section
set_option Elab.async false
set_option linter.all false
set_option maxRecDepth 100000
namespace WL
open PySem PySem.Spec PyProof.Rows L2
/-- how many lines are no copies -/
def works : List Ln → Nat
  | [] => 0
  | l :: r => (if l.fn.isSome then 1 else 0) + works r
def worksH : List (List Ln) → Nat
  | [] => 0
  | r :: h => works r + worksH h
theorem works_app (a b : List Ln) : works (a ++ b) = works a + works b := by
  induction a with
  | nil => simp [works]
  | cons x a ih => simp only [List.cons_append, works, ih]; omega
theorem worksH_app (a b : List (List Ln)) : worksH (a ++ b) = worksH a + worksH b := by
  induction a with
  | nil => simp [worksH]
  | cons x a ih => simp only [List.cons_append, worksH, ih]; omega
section
variable {P : Program} {w : World} {K : PySem.W.Frag} {mg : Str → Option Value} {base : Heap}
/-! ### rows drawn -/
structure Drawn (n : Nat) (fs : List Nat) (many most : Nat) (hands : List (List Ln)) : Prop where
  len : hands.length = many
  rows : ∀ r ∈ hands, r.length ≤ most ∧ LinesOk n fs r
  six : worksH hands ≤ 6
inductive rel_law_hands : List PyData → List PyData → (PyData → List PyData → Prop) → Prop
  | mk (ns : List Int) (ds : List PyData) (n : Nat) (fs : List Nat) (many most : Nat) (h : RowOk ns ds) (hm : MachOk n fs) (h1 : many ≤ 3) (h2 : most ≤ 4) (h3 : ns.length ≤ 63) :
    rel_law_hands ds [encM n fs, dN many, dN most] fun d ds' => (∃ hands, Drawn n fs many most hands ∧ d = encH hands) ∧ RowOk ns ds'
theorem ok_law_hands (T : Top K mg) : FnOk P w K mg base CX0 3 T.law_hands.f T.law_hands.fd ["row", "machine", "many", "most"] (spO K rel_law_hands) :=
  fnO T.law_hands.F sc_law_hands (fun ds es Pd h => by cases h; rfl) (by decide) fun cdv A outer s H E hr => by
    refine ⟨_, (pss_cons (ps_par3 (i := 4) (j := 5) (l := 6) rfl sc_law_hands.nd rfl rfl rfl (by decide) (by decide) (by decide) rfl rfl rfl (pa_cons (pe_call (ok_law_every_line T) (hr.mono (by omega)) rfl T.law_every_line.m T.law_every_line.F.kp T.law_every_line.b .nil pass0 (pa_cons (pv 1) pa_nil)) (pa_cons (pe_lst pa_nil) (pa_cons pe_int pa_nil))) rfl)
    (pss_cons (ps_for PassesOwn.never rfl (pi_range1 rfl T.n_range (pa_cons (pv 2) pa_nil)) (pg_name (i := 7) sc_law_hands.nd rfl (by first | exact Or.inl rfl | exact Or.inr rfl)) (pss_cons (ps_set (i := 8) sc_law_hands.nd rfl (by first | exact Or.inl rfl | exact Or.inr rfl) (pe_lst pa_nil))
    (pss_cons (ps_for PassesOwn.never rfl (pi_range1 rfl T.n_range (pa_cons (pe_call (ok_law_taken T) (hr.mono (by omega)) rfl T.law_taken.m T.law_taken.F.kp T.law_taken.b .nil pass0 (pa_cons (pv 0) (pa_cons (pe_op op_add (pv 3) pe_int) pa_nil))) pa_nil)) (pg_name (i := 9) sc_law_hands.nd rfl (by first | exact Or.inl rfl | exact Or.inr rfl)) (pss_cons (ps_set (i := 10) sc_law_hands.nd rfl (by first | exact Or.inl rfl | exact Or.inr rfl) (pe_call (ok_law_pick T) (hr.mono (by omega)) rfl T.law_pick.m T.law_pick.F.kp T.law_pick.b .nil pass0 (pa_cons (pv 0) (pa_cons (pv 4) pa_nil))))
    (pss_one (ps_if (PW.pt (pw_or (pt_cmpR op_gt (pv 6) pe_int (nomark _)) (pw_or1 (pt_cmpR op_isN (pe_ix (r := rIxT K) ix_tup (pv 10) pe_int (fun _ _ => rfl)) pe_non (nomark _))))) (pss_cons (ps_expr (pe_bm PySem.F.plainAttrs_list PySem.F.slot_list_append PySem.F.type_list_append mt_append (pv 8) (pa_cons (pv 10) pa_nil)))
    (pss_one (ps_set (i := 6) sc_law_hands.nd rfl (by first | exact Or.inl rfl | exact Or.inr rfl) (pe_op op_sub (pv 6) (pe_ifExp (pt_cmpR op_notN (pe_ix (r := rIxT K) ix_tup (pv 10) pe_int (fun _ _ => rfl)) pe_non (nomark _)) pe_int pe_int))))) pss_nil))))
    (pss_one (ps_expr (pe_bm PySem.F.plainAttrs_list PySem.F.slot_list_append PySem.F.type_list_append mt_append (pv 5) (pa_cons (pe_callTy (r := rTupN K) call_tupN (by rfl) T.n_tuple (by decide +kernel) (pa_cons (pv 8) pa_nil)) pa_nil)))))))
    (pss_one (ps_ret (pe_callTy (r := rTupN K) call_tupN (by rfl) T.n_tuple (by decide +kernel) (pa_cons (pv 5) pa_nil)))))), fun A0 l ds es Pd hrel => ?_⟩
    cases hrel with
    | mk ns _ n fs many most h hm h1 h2 h3 =>
      refine dq_par3O (e := dN 6) (P := fun d δ1 => ∃ L : List Ln, LinesOk n fs L ∧ 0 < L.length ∧ L.length ≤ 400 ∧ d = .list (L.map encL) ∧ δ1 = [.own l ds, .dat (encM n fs), .dat (dN many), .dat (dN most), .no, .no, .no, .no, .no, .no, .no]) (de_call (PA := is1 _ _) (das1 (de_var rfl)) fun es δ1 ⟨e1, e2⟩ => ?_) (fun _ => .int _) ?_
      · subst e1; subst e2
        exact ⟨_, .mk n fs hm, fun d ⟨L, a, b, c, e⟩ => ⟨L, a, b, c, e, rfl⟩⟩
      rintro d δ1 lf ⟨L, hL, hL0, hL1, rfl, rfl⟩
      have hLl : (L.map encL).length = L.length := List.length_map _
      refine ds_seq (N1 := fun δ => ∃ (rds : List PyData) (hands : List (List Ln)) (s6 s7 s8 s9 s10 : WSlot), RowOk ns rds ∧ Drawn n fs many most hands ∧ δ = [.own l rds, .dat (encM n fs), .dat (dN many), .dat (dN most), .dat (.list (L.map encL)), .own lf (hands.map encR), s6, s7, s8, s9, s10]) ?_ ?_
      · refine ds_forV (fun i δ => ∃ (rds : List PyData) (hands : List (List Ln)) (x : Int) (s7 s8 s9 s10 : WSlot), RowOk ns rds ∧ hands.length = i ∧ (∀ r ∈ hands, r.length ≤ most ∧ LinesOk n fs r) ∧ 0 ≤ x ∧ x + worksH hands = 6 ∧ δ = [.own l rds, .dat (encM n fs), .dat (dN many), .dat (dN most), .dat (.list (L.map encL)), .own lf (hands.map encR), .dat (.int x), s7, s8, s9, s10])
          (di_rangeV (n := many) (de_var rfl) (by omega)) ⟨ds, [], 6, _, _, _, _, h, rfl, (fun r hr => by cases hr), by decide, rfl, rfl⟩ ?_ ?_
        · rintro i d δi hd ⟨rds, hands, x, s7, s8, s9, s10, hR, hl, hrows, hx0, hx, rfl⟩
          have him : i < many := (rangeD_get hd).2
          refine ⟨_, dg_name, dq_nil fun lo => ?_⟩
          refine ds_seq (N1 := fun δ => ∃ (rds : List PyData) (own : List Ln) (x : Int) (s9 s10 : WSlot), RowOk ns rds ∧ own.length ≤ most ∧ LinesOk n fs own ∧ 0 ≤ x ∧ x + worksH hands + works own = 6 ∧ δ = [.own l rds, .dat (encM n fs), .dat (dN many), .dat (dN most), .dat (.list (L.map encL)), .own lf (hands.map encR), .dat (.int x), .dat d, .own lo (own.map encL), s9, s10]) ?_ ?_
          · refine ds_for (PI := fun es δ => ∃ (t : Nat) (rds : List PyData), t < most + 1 ∧ RowOk ns rds ∧ es = rangeD t ∧ δ = [.own l rds, .dat (encM n fs), .dat (dN many), .dat (dN most), .dat (.list (L.map encL)), .own lf (hands.map encR), .dat (.int x), .dat d, .own lo [], s9, s10]) (di_range (P := fun d' δ => ∃ (t : Nat) (rds : List PyData), t < most + 1 ∧ RowOk ns rds ∧ d' = dN t ∧ δ = [.own l rds, .dat (encM n fs), .dat (dN many), .dat (dN most), .dat (.list (L.map encL)), .own lf (hands.map encR), .dat (.int x), .dat d, .own lo [], s9, s10]) (de_callO (l := l) rfl (das1 (dv_I0 (de_var rfl) de_int (e := dN (most + 1)) fun _ => .int _)) fun es δ1 ⟨e1, e2⟩ => ?_) ?_) ?_
            · subst e1; subst e2
              exact ⟨rds, _, rfl, .mk ns rds (most + 1) hR (by omega) (by omega) h3, fun d ds' ⟨⟨t, ht, hd⟩, hR⟩ => ⟨t, ds', ht, hR, hd, rfl⟩⟩
            · rintro d' δ' ⟨t, rds, ht, hR, rfl, rfl⟩
              exact ⟨t, rfl, by omega, t, rds, ht, hR, rfl, rfl⟩
            · rintro es δ1 ⟨t, rds, ht, hR, rfl, rfl⟩
              refine ⟨fun j δ => ∃ (rds : List PyData) (own : List Ln) (x : Int) (s9 s10 : WSlot), RowOk ns rds ∧ own.length ≤ j ∧ LinesOk n fs own ∧ 0 ≤ x ∧ x + worksH hands + works own = 6 ∧ δ = [.own l rds, .dat (encM n fs), .dat (dN many), .dat (dN most), .dat (.list (L.map encL)), .own lf (hands.map encR), .dat (.int x), .dat d, .own lo (own.map encL), s9, s10], ⟨rds, [], x, _, _, hR, Nat.le_refl _, (fun l hl => by cases hl), hx0, by simpa [works] using hx, rfl⟩, ?_, ?_⟩
              · rintro j d2 δj hd2 ⟨rds, own, x, s9, s10, hR, ho, hok, hx0, hx, rfl⟩
                refine ⟨_, dg_name, ?_⟩
                refine ds_seq (N1 := fun δ => ∃ (rds : List PyData) (z : Ln), RowOk ns rds ∧ LnOk n fs z ∧ δ = [.own l rds, .dat (encM n fs), .dat (dN many), .dat (dN most), .dat (.list (L.map encL)), .own lf (hands.map encR), .dat (.int x), .dat d, .own lo (own.map encL), .dat d2, .dat (encL z)]) ?_ ?_
                · refine ds_set (de_callO (l := l) rfl (das1 (de_var rfl)) fun es δ1 ⟨e1, e2⟩ => ?_)
                  subst e1; subst e2
                  refine ⟨rds, _, rfl, .mk ns rds _ hR (by rw [hLl]; exact hL0) (by rw [hLl]; omega) h3, fun d' ds' ⟨⟨q, hq⟩, hR⟩ => ?_⟩
                  rw [List.getElem?_map] at hq
                  obtain ⟨z, hz, rfl⟩ := Option.map_eq_some_iff.mp hq
                  exact ⟨ds', z, hR, hL z (List.mem_of_getElem? hz), rfl⟩
                · rintro δ1 ⟨rds, z, hR, hz, rfl⟩
                  have hown : (own.map encL).length = own.length := List.length_map _
                  have hj : j < t := by
                    have := (rangeD_get hd2).2; exact this
                  have v1 : ∀ F : Fx, DV F (tOp (rIxT F.K) (tVar 10) (tC (.int 1))) [.own l rds, .dat (encM n fs), .dat (dN many), .dat (dN most), .dat (.list (L.map encL)), .own lf (hands.map encR), .dat (.int x), .dat d, .own lo (own.map encL), .dat d2, .dat (encL z)] (encF z.fn) := fun F => dv_ixT (ds := [dN z.cell, encF z.fn, .tuple (z.src.map dN)]) (de_var rfl) de_int rfl
                  have isf : isNone (encF z.fn) = !z.fn.isSome := by cases z.fn <;> rfl
                  refine ds_ifB (b := decide (0 < x) || isNone (encF z.fn)) (db_or (db_test (dv_I0 (de_var (d := .int x) rfl) de_int fun _ => .bl _)) fun _ => db_test (dv_isN (v1 _))) (fun e => ?_) fun e => ?_
                  · refine ds_seq (N1 := fun δ => δ = [.own l rds, .dat (encM n fs), .dat (dN many), .dat (dN most), .dat (.list (L.map encL)), .own lf (hands.map encR), .dat (.int x), .dat d, .own lo ((own ++ [z]).map encL), .dat d2, .dat (encL z)]) ?_ ?_
                    · refine ds_append (l := lo) rfl ((de_var (d := encL z) rfl).mono fun d' δ' ⟨e1, e2⟩ => ?_)
                      subst e1; subst e2
                      exact ⟨_, rfl, by rw [hown]; omega, by rw [List.map_append]; rfl⟩
                    · rintro δ1 rfl
                      have v2 : ∀ F : Fx, DV F (tOp (rIxT F.K) (tVar 10) (tC (.int 1))) [.own l rds, .dat (encM n fs), .dat (dN many), .dat (dN most), .dat (.list (L.map encL)), .own lf (hands.map encR), .dat (.int x), .dat d, .own lo ((own ++ [z]).map encL), .dat d2, .dat (encL z)] (encF z.fn) := fun F => dv_ixT (ds := [dN z.cell, encF z.fn, .tuple (z.src.map dN)]) (de_var rfl) de_int rfl
                      have hw : works (own ++ [z]) = works own + if z.fn.isSome then 1 else 0 := by rw [works_app]; simp [works]
                      have hok2 : LinesOk n fs (own ++ [z]) := hok.app fun q hq => by rw [List.mem_singleton.mp hq]; exact hz
                      refine ds_setV (d := .int (x - if z.fn.isSome then 1 else 0)) (dv_I0 (de_var (d := .int x) rfl) (dv_if (b := z.fn.isSome) ((db_test (dv_notN (v2 _))).is (by rw [isf]; simp)) (fun e => de_int.is (e := .int (if z.fn.isSome then 1 else 0)) (by rw [e]; rfl)) fun e => de_int.is (e := .int (if z.fn.isSome then 1 else 0)) (by rw [e]; rfl)) fun _ => .int _) ⟨rds, own ++ [z], _, _, _, hR, by rw [List.length_append]; show own.length + 1 ≤ j + 1; omega, hok2, ?_, ?_, rfl⟩
                      · rw [isf] at e
                        cases hs : z.fn.isSome with
                        | false => simp; exact hx0
                        | true => rw [hs] at e; simp at e; simp; omega
                      · rw [hw]
                        cases z.fn.isSome <;> simp <;> omega
                  · exact ds_next ⟨rds, own, x, _, _, hR, by omega, hok, hx0, hx, rfl⟩
              · rintro δ' ⟨rds, own, x, s9, s10, hR, ho, hok, hx0, hx, rfl⟩
                rw [rangeD_len] at ho
                exact ⟨rds, own, x, _, _, hR, by omega, hok, hx0, hx, rfl⟩
          · rintro δ1 ⟨rds, own, x, s9, s10, hR, ho, hok, hx0, hx, rfl⟩
            refine ds_append (l := lf) rfl ((dv_tupL (dl_own (l := lo) rfl)).mono fun d' δ' ⟨e1, e2⟩ => ?_)
            subst e1; subst e2
            refine ⟨_, rfl, by rw [List.length_map]; omega, rds, hands ++ [own], x, _, _, _, _, hR, by rw [List.length_append, hl]; rfl, fun r hr => ?_, hx0, ?_, by rw [List.map_append]; rfl⟩
            · rcases List.mem_append.mp hr with q | q
              · exact hrows r q
              · rw [List.mem_singleton.mp q]; exact ⟨ho, hok⟩
            · rw [worksH_app]; show x + ((worksH hands + (works own + 0) : Nat) : Int) = 6; omega
        · rintro δ' ⟨rds, hands, x, s7, s8, s9, s10, hR, hl, hrows, hx0, hx, rfl⟩
          rw [rangeD_len] at hl
          exact ⟨rds, hands, _, _, _, _, _, hR, ⟨hl, hrows, by omega⟩, rfl⟩
      · rintro δ1 ⟨rds, hands, s6, s7, s8, s9, s10, hR, hD, rfl⟩
        exact ds_ret ((dv_tupL (dl_own (l := lf) rfl)).mono fun d' δ' ⟨e1, e2⟩ => by
          subst e1; subst e2
          exact ⟨rds, rfl, ⟨hands, hD, rfl⟩, hR⟩)
end
end WL
end
section
set_option Elab.async false
set_option linter.all false
set_option maxRecDepth 100000
namespace WL
open PySem PySem.Spec PyProof.Rows L2
/-! ### weavings -/
def lineAt (hands : List (List Ln)) (h k : Nat) : Ln := ((hands[h]?).bind fun r => r[k]?).getD ⟨0, none, []⟩
def wovenR (n : Nat) (hands : List (List Ln)) : List Nat → List Tm
  | [] => (List.range n).map .atom
  | h :: r => did (wovenR n hands r) (lineAt hands h (r.count h))
/-- what the cells hold behind a weaving -/
def woven (n : Nat) (hands : List (List Ln)) (ws : List Nat) : List Tm := wovenR n hands ws.reverse
theorem woven_nil (n : Nat) (hands : List (List Ln)) : woven n hands [] = (List.range n).map .atom := rfl
theorem woven_snoc (n : Nat) (hands : List (List Ln)) (ws : List Nat) (h : Nat) : woven n hands (ws ++ [h]) = did (woven n hands ws) (lineAt hands h (ws.count h)) := by
  unfold woven
  rw [List.reverse_append]
  show did (wovenR n hands ws.reverse) (lineAt hands h (ws.reverse.count h)) = _
  rw [List.count_reverse]
theorem woven_len (n : Nat) (hands : List (List Ln)) (ws : List Nat) : (woven n hands ws).length = n := by
  unfold woven
  induction ws.reverse with
  | nil => simp [wovenR]
  | cons h r ih => simp only [wovenR, did_len]; exact ih
/-- each hand at most as often as it has lines -/
structure ValidW (hands : List (List Ln)) (ws : List Nat) : Prop where
  lt : ∀ h ∈ ws, h < hands.length
  le : ∀ h r, hands[h]? = some r → ws.count h ≤ r.length
def encW (ws : List Nat) : PyData := .tuple (ws.map dN)
theorem ixN_nat {n j : Nat} (hj : j < n) : ixN n (j : Int) = some j := by
  unfold ixN
  rw [if_pos (by omega), if_pos (by omega)]
  rfl
theorem line_at {hands : List (List Ln)} {ws : List Nat} {h : Nat} {ys : List Nat} (hv : ValidW hands (ws ++ h :: ys)) : ∃ r, hands[h]? = some r ∧ ws.count h < r.length ∧ r[ws.count h]? = some (lineAt hands h (ws.count h)) := by
  have hl := hv.lt h (by simp)
  have e : hands[h]? = some hands[h] := List.getElem?_eq_getElem hl
  have hc := hv.le h _ e
  rw [List.count_append, List.count_cons_self] at hc
  refine ⟨_, e, by omega, ?_⟩
  unfold lineAt
  rw [e]
  show _ = some (((hands[h])[ws.count h]?).getD _)
  rw [List.getElem?_eq_getElem (show ws.count h < (hands[h]).length by omega)]; rfl
section
variable {P : Program} {w : World} {K : PySem.W.Frag} {mg : Str → Option Value} {base : Heap}
inductive rel_woven : List PyData → (PyData → Prop) → Prop
  | mk (n : Nat) (fs : List Nat) (hm : MachOk n fs) (hands : List (List Ln)) (hh : ∀ r ∈ hands, LinesOk n fs r) (h3 : hands.length ≤ 3) (ws : List Nat) (hv : ValidW hands ws) : rel_woven [encM n fs, encH hands, encW ws] fun z => z = encHeld (woven n hands ws)
theorem ok_law_woven (T : Top K mg) : FnOk P w K mg base CX0 2 T.law_woven.f T.law_woven.fd ["machine", "hands", "weaving"] (spP K rel_woven) :=
  fnP T.law_woven.F sc_law_woven (fun ds Pd h => by cases h; rfl) fun cdv A outer s H E hr => by
    refine ⟨_, (pss_cons (ps_par (i := 3) (j := 4) rfl sc_law_woven.nd rfl rfl (by decide) rfl rfl (pa_cons (pe_tupRgN rfl rfl T.n_tuple (prg_1 rfl T.n_range (pe_ix (r := rIxT K) ix_tup (pv 0) pe_int (fun _ _ => rfl)))) (pa_cons (pe_op op_rep (pe_lst (pa_cons pe_int pa_nil)) (pe_callB (r := rLenQ K) call_len_seq (by rfl) T.n_len PySem.boot_len (pa_cons (pv 1) pa_nil))) pa_nil)) rfl)
    (pss_cons (ps_for PassesOwn.never rfl (pi_tup (pv 2)) (pg_name (i := 5) sc_law_woven.nd rfl (by first | exact Or.inl rfl | exact Or.inr rfl)) (pss_cons (ps_set (i := 3) sc_law_woven.nd rfl (by first | exact Or.inl rfl | exact Or.inr rfl) (pe_call (ok_law_did T) (hr.mono (by omega)) rfl T.law_did.m T.law_did.F.kp T.law_did.b .nil pass0 (pa_cons (pv 3) (pa_cons (pe_ix (r := rIxT K) ix_tup (pe_ix (r := rIxT K) ix_tup (pv 1) (pv 5) (fun _ _ => rfl)) (pe_ix (r := rIxL K) ix_list (pv 4) (pv 5) (fun _ _ => rfl)) (fun _ _ => rfl)) pa_nil))))
    (pss_one (ps_asg (pe_op op_add (pe_ix (r := rIxL K) ix_list (pv 4) (pv 5) (fun _ _ => rfl)) pe_int) (pg_sub (pv 4) (pv 5) set_list)))))
    (pss_one (ps_ret (pv 3))))), fun A0 ds Pd hrel => ?_⟩
    cases hrel with
    | mk n fs hm hands hh h3 ws hv =>
      have hn4 := hm.n4
      refine dq_parO (dv_tupRg (n := n) (dv_ixT (de_var rfl) de_int rfl) (by omega)) ?_
      rintro d δ1 ⟨rfl, rfl⟩
      refine (dn_rep (k := hands.length) (dn_lst (das1 de_int) fun ds δ' ⟨e, _⟩ => by rw [e]; show 1 ≤ 100000; decide) ((dv_len (de_var rfl) rfl).is (by show PyData.int _ = _; unfold encH seqOf; rw [List.length_map])) (by omega) (by show 1 ≤ 1000; decide)).mono fun es δ' ⟨e1, e2⟩ => ?_
      subst e1; subst e2
      intro l
      have hat : (List.replicate hands.length [dN 0]).flatten = (List.range hands.length).map fun (h : Nat) => dN (([] : List Nat).count h) := by
        show _ = (List.range hands.length).map fun (_ : Nat) => dN 0
        rw [List.map_const', List.length_range]
        induction hands.length with
        | zero => rfl
        | succ m ih => rw [List.replicate_succ, List.flatten_cons, ih]; rfl
      refine ds_seq (N1 := fun δ => ∃ s5, ∃ ds, δ = [.dat (encM n fs), .dat (encH hands), .dat (encW ws), .dat (encHeld (woven n hands ws)), .own l ds, s5]) ?_ ?_
      · refine ds_forV (fun i δ => ∃ s5, δ = [.dat (encM n fs), .dat (encH hands), .dat (encW ws), .dat (encHeld (woven n hands (ws.take i))), .own l ((List.range hands.length).map fun h => dN ((ws.take i).count h)), s5])
          (di_tup (de_var rfl)) ⟨.no, ?_⟩ ?_ ?_
        · have : (rangeD n) = (woven n hands (ws.take 0)).map encT := by
            rw [List.take_zero, woven_nil, List.map_map]; rfl
          show [_, _, _, WSlot.dat (PyData.tuple (rangeD n)), WSlot.own l (List.replicate hands.length [dN 0]).flatten, _] = _
          rw [this, hat]; rfl
        · rintro i d δi hd ⟨s5, rfl⟩
          rw [List.getElem?_map] at hd
          obtain ⟨h, hh2, rfl⟩ := Option.map_eq_some_iff.mp hd
          have hil : i < ws.length := (List.getElem?_eq_some_iff.mp hh2).1
          have esp : ws = ws.take i ++ h :: ws.drop (i + 1) := by
            have := List.take_append_drop i ws
            rw [List.drop_eq_getElem_cons hil] at this
            rw [List.getElem?_eq_getElem hil] at hh2
            rw [← Option.some.inj hh2]; exact this.symm
          have et : ws.take (i + 1) = ws.take i ++ [h] := by rw [List.take_succ, hh2]; rfl
          obtain ⟨r, hr1, hr2, hr3⟩ := line_at (by rw [← esp]; exact hv)
          have hhl : h < hands.length := (List.getElem?_eq_some_iff.mp hr1).1
          have hatk : atI ((List.range hands.length).map fun h => dN ((ws.take i).count h)) (h : Int) = some (dN ((ws.take i).count h)) := atI_nat (by rw [List.getElem?_map, List.getElem?_range hhl]; rfl)
          refine ⟨_, dg_name, ?_⟩
          refine dq_setV (d := encHeld (woven n hands (ws.take (i + 1)))) ((dv_call (das2 (de_var rfl) (dv_ixT (ds := r.map encL) (dv_ixT (ds := hands.map encR) (d := encR r) (de_var rfl) (de_var (d := dN h) rfl) (atI_nat (by rw [List.getElem?_map, hr1]; rfl))) (dv_ixO (l := l) rfl (de_var (d := dN h) rfl) hatk) (atI_nat (by rw [List.getElem?_map, hr3]; rfl)))) (.mk n fs hm (woven n hands (ws.take i)) _ (woven_len _ _ _) (hh r (List.mem_of_getElem? hr1) _ (List.mem_of_getElem? hr3)))).is (by rw [et, woven_snoc])) ?_
          refine ds_setitemV (l := l) (j := h) rfl (dv_I0 (dv_ixO (l := l) rfl (de_var (d := dN h) rfl) hatk) de_int fun _ => .int _) (de_var (d := dN h) rfl) (ixN_nat (by rw [List.length_map, List.length_range]; exact hhl)) ⟨.dat (dN h), ?_⟩
          have : ((List.range hands.length).map fun h => dN ((ws.take i).count h)).set h (.int (((ws.take i).count h : Nat) + 1)) = (List.range hands.length).map fun h => dN ((ws.take (i + 1)).count h) := by
            apply List.ext_getElem?
            intro j
            by_cases hj : h = j
            · subst hj
              rw [List.getElem?_set_self (by rw [List.length_map, List.length_range]; exact hhl), List.getElem?_map, List.getElem?_range hhl]
              show _ = some (dN ((ws.take (i + 1)).count h))
              rw [et, List.count_append, List.count_singleton_self]; rfl
            · rw [List.getElem?_set_ne hj, List.getElem?_map, List.getElem?_map]
              have hcj : (ws.take (i + 1)).count j = (ws.take i).count j := by rw [et, List.count_append, List.count_singleton]; simp [hj]
              cases e : (List.range hands.length)[j]? with
              | none => rfl
              | some z =>
                have : z = j := by
                  have := (List.getElem?_eq_some_iff.mp e); obtain ⟨hlt, he⟩ := this; rw [List.getElem_range] at he; exact he.symm
                subst this
                show some (dN ((ws.take i).count z)) = some (dN ((ws.take (i + 1)).count z))
                rw [hcj]
          show [_, _, _, _, WSlot.own l (((List.range hands.length).map fun h => dN ((ws.take i).count h)).set h _), _] = _
          rw [this]
        · rintro δ' ⟨s5, rfl⟩
          refine ⟨s5, (List.range hands.length).map fun h => dN (ws.count h), ?_⟩
          rw [List.length_map, List.take_length]
      · rintro δ1 ⟨s5, ds, rfl⟩
        exact ds_retV (de_var rfl) rfl
end
end WL
end
section
set_option Elab.async false
set_option linter.all false
set_option maxRecDepth 100000
namespace WL
open PySem PySem.Spec PyProof.Rows L2
/-! ### all weavings -/
def lenAt (lens : List Nat) (h : Nat) : Nat := (lens[h]?).getD 0
def nextW (lens : List Nat) (w : List Nat) : List (List Nat) := ((List.range lens.length).filter fun h => decide (w.count h < lenAt lens h)).map fun h => w ++ [h]
def lev (lens : List Nat) : Nat → List (List Nat)
  | 0 => [[]]
  | t + 1 => (lev lens t).flatMap (nextW lens)
def foundAt (lens : List Nat) : Nat → List (List Nat)
  | 0 => [[]]
  | t + 1 => foundAt lens t ++ lev lens (t + 1)
/-- all weavings, the shorter first -/
def weavs (lens : List Nat) : List (List Nat) := foundAt lens lens.sum
theorem nextW_len (lens w : List Nat) (h3 : lens.length ≤ 3) : (nextW lens w).length ≤ 3 := by
  unfold nextW
  rw [List.length_map]
  exact Nat.le_trans (List.length_filter_le _ _) (by rw [List.length_range]; exact h3)
theorem flat_len (lens : List Nat) (h3 : lens.length ≤ 3) : ∀ l : List (List Nat), (l.flatMap (nextW lens)).length ≤ 3 * l.length
  | [] => by simp
  | a :: l => by
    rw [List.flatMap_cons, List.length_append, List.length_cons]
    have := flat_len lens h3 l
    have := nextW_len lens a h3
    omega
theorem lev_len (lens : List Nat) (h3 : lens.length ≤ 3) : ∀ t, (lev lens t).length ≤ 3 ^ t
  | 0 => by simp [lev]
  | t + 1 => by
    show ((lev lens t).flatMap (nextW lens)).length ≤ _
    have := flat_len lens h3 (lev lens t)
    have := lev_len lens h3 t
    rw [Nat.pow_succ]; omega
theorem found_len (lens : List Nat) (h3 : lens.length ≤ 3) : ∀ t, (foundAt lens t).length ≤ 3 ^ (t + 1)
  | 0 => by simp [foundAt]
  | t + 1 => by
    show (foundAt lens t ++ lev lens (t + 1)).length ≤ _
    rw [List.length_append]
    have := found_len lens h3 t
    have := lev_len lens h3 (t + 1)
    rw [Nat.pow_succ 3 (t + 1)]; omega
theorem lev_mem (lens : List Nat) : ∀ (t : Nat) (v : List Nat), v ∈ lev lens t → v.length = t
  | 0, v, h => by rw [List.mem_singleton.mp h]; rfl
  | t + 1, v, h => by
    obtain ⟨u, hu, hv⟩ := List.mem_flatMap.mp h
    obtain ⟨x, _, rfl⟩ := List.mem_map.mp hv
    rw [List.length_append, lev_mem lens t u hu]; rfl
theorem pow3 {t : Nat} (h : t ≤ 9) : 3 ^ t ≤ 19683 := Nat.pow_le_pow_right (by decide) h
theorem sum_dN : ∀ lens : List Nat, (lens.map fun n : Nat => (n : Int)).sum = (lens.sum : Nat)
  | [] => rfl
  | a :: l => by rw [List.map_cons, List.sum_cons, List.sum_cons, sum_dN l]; omega
section
variable {P : Program} {w : World} {K : PySem.W.Frag} {mg : Str → Option Value} {base : Heap}
inductive rel_weavs : List PyData → (PyData → Prop) → Prop
  | mk (lens : List Nat) (h3 : lens.length ≤ 3) (h8 : lens.sum ≤ 8) : rel_weavs [.list (lens.map dN)] fun z => z = .list ((weavs lens).map encW)
theorem ok_law_weavings (T : Top K mg) : FnOk P w K mg base CX0 1 T.law_weavings.f T.law_weavings.fd ["lengths"] (spP K rel_weavs) :=
  fnP T.law_weavings.F sc_law_weavings (fun ds Pd h => by cases h; rfl) fun cdv A outer s H E hr => by
    refine ⟨_, (pss_cons (ps_par (i := 1) (j := 2) rfl sc_law_weavings.nd rfl rfl (by decide) rfl rfl (pa_cons (pe_lst (pa_cons (pe_tupN pa_nil) pa_nil)) (pa_cons (pe_lst (pa_cons (pe_tupN pa_nil) pa_nil)) pa_nil)) rfl)
    (pss_cons (ps_for PassesOwn.never rfl (pi_range1 rfl T.n_range (pa_cons (pe_callB (r := rSum K) (cr_sum rfl) (by rfl) T.n_sum (by decide +kernel) (pa_cons (pv 0) pa_nil)) pa_nil)) (pg_name (i := 3) sc_law_weavings.nd rfl (by first | exact Or.inl rfl | exact Or.inr rfl)) (pss_cons (ps_set (i := 4) sc_law_weavings.nd rfl (by first | exact Or.inl rfl | exact Or.inr rfl) (pe_lst pa_nil))
    (pss_cons (ps_for PassesOwn.never rfl (pi_list (pv 2)) (pg_name (i := 5) sc_law_weavings.nd rfl (by first | exact Or.inl rfl | exact Or.inr rfl)) (pss_cons (ps_setLc (i := 6) (own := [("hand", 7)]) rfl sc_law_weavings.nd rfl rfl (sw_true rfl rfl rfl (by decide +kernel)) (pi_range1 rfl T.n_range (pa_cons (pe_callB (r := rLenQ K) call_len_seq (by rfl) T.n_len PySem.boot_len (pa_cons (pv 0) pa_nil)) pa_nil)) (blkOk_by (own := [("hand", 7)]) (N := ["lengths", "found", "here", "turn", "longer", "weaving", "left", "hand"]) (sc := (defScope (topS 56))) (by decide +kernel)) (fun _ _ _ _ _ => (pg_name (i := 7) sc_law_weavings.nd rfl (by first | exact Or.inl rfl | exact Or.inr rfl))) (fun _ _ _ _ _ => pts_one (pt_cmpR op_lt (pe_tcount K (pv 5) (pv 7) hr.units) (pe_ix (r := rIxL K) ix_list (pv 0) (pv 7) (fun _ _ => rfl)) (nomark _))) (fun _ _ _ _ _ => (pv 7)))
    (pss_one (ps_set (i := 4) sc_law_weavings.nd rfl (by first | exact Or.inl rfl | exact Or.inr rfl) (pe_op op_cat (pv 4) (pe_lc (own := [("hand", 7)]) rfl sc_law_weavings.nd (pi_list (pv 6)) (blkOk_by (own := [("hand", 7)]) (N := ["lengths", "found", "here", "turn", "longer", "weaving", "left", "hand"]) (sc := (defScope (topS 56))) (by decide +kernel)) (fun _ _ _ _ _ => (pg_name (i := 7) sc_law_weavings.nd rfl (by first | exact Or.inl rfl | exact Or.inr rfl))) (fun _ _ _ _ _ => pts_nil) (fun _ _ _ _ _ => (pe_op (r := rCatN K) op_catN (pv 5) (pe_tupN (pa_cons (pv 7) pa_nil))))))))))
    (pss_one (ps_par (i := 1) (j := 2) rfl sc_law_weavings.nd rfl rfl (by decide) rfl rfl (pa_cons (pe_op op_cat (pv 1) (pv 4)) (pa_cons (pv 4) pa_nil)) rfl)))))
    (pss_one (ps_ret (pv 1))))), fun A0 ds Pd hrel => ?_⟩
    cases hrel with
    | mk lens h3 h8 =>
      refine dq_par2U fun lf lh => ?_
      refine ds_seq (N1 := fun δ => ∃ (lf lh : Addr) (s3 s4 s5 s6 : WSlot), δ = [.dat (.list (lens.map dN)), .own lf ((weavs lens).map encW), .own lh ((lev lens lens.sum).map encW), s3, s4, s5, s6, .no]) ?_ ?_
      · refine ds_forV (fun t δ => ∃ (lf lh : Addr) (s3 s4 s5 s6 : WSlot), δ = [.dat (.list (lens.map dN)), .own lf ((foundAt lens t).map encW), .own lh ((lev lens t).map encW), s3, s4, s5, s6, .no])
          (di_rangeV (n := lens.sum) ((dv_sum (ns := lens.map fun n : Nat => (n : Int)) (dl_v ((de_var (d := .list (lens.map dN)) rfl).is (by rw [List.map_map]; rfl)))).is (by rw [sum_dN])) (by omega)) ⟨lf, lh, _, _, _, _, rfl⟩ ?_ ?_
        · rintro t d δi hd ⟨lf, lh, s3, s4, s5, s6, rfl⟩
          obtain ⟨rfl, ht⟩ := rangeD_get hd
          have hfl := found_len lens h3 t
          have hll := lev_len lens h3 (t + 1)
          have hl0 := lev_len lens h3 t
          have p1 : 3 ^ (t + 1) ≤ 19683 := pow3 (by omega)
          have p0 : 3 ^ t ≤ 19683 := pow3 (by omega)
          refine ⟨_, dg_name, dq_nil fun ll => ?_⟩
          refine ds_freeze (i := 2) (l := lh) rfl (.inl rfl) ?_
          refine ds_seq (N1 := fun δ => ∃ (ll : Addr) (s5 s6 : WSlot), δ = [.dat (.list (lens.map dN)), .own lf ((foundAt lens t).map encW), .dat (.list ((lev lens t).map encW)), .dat (dN t), .own ll ((lev lens (t + 1)).map encW), s5, s6, .no]) ?_ ?_
          · refine ds_forV (fun j δ => ∃ (ll : Addr) (s5 s6 : WSlot), δ = [.dat (.list (lens.map dN)), .own lf ((foundAt lens t).map encW), .dat (.list ((lev lens t).map encW)), .dat (dN t), .own ll ((((lev lens t).take j).flatMap (nextW lens)).map encW), s5, s6, .no])
              (di_list (de_var rfl)) ⟨ll, s5, s6, rfl⟩ ?_ ?_
            · rintro j d δj hd ⟨ll, s5, s6, rfl⟩
              rw [List.getElem?_map] at hd
              obtain ⟨v, hv, rfl⟩ := Option.map_eq_some_iff.mp hd
              have ej : (lev lens t).take (j + 1) = (lev lens t).take j ++ [v] := by rw [List.take_succ, hv]; rfl
              let keep : PyData → Bool := fun d => match d with | .int i => decide (((v.count i.toNat : Nat) : Int) < ((lenAt lens i.toNat : Nat) : Int)) | _ => false
              have hkeep : (rangeD lens.length).filter keep = ((List.range lens.length).filter fun h => decide (v.count h < lenAt lens h)).map dN := by
                show ((List.range lens.length).map fun i => dN i).filter keep = _
                rw [List.filter_map]
                congr 1
                apply List.filter_congr
                intro h _
                show decide (((v.count h : Nat) : Int) < ((lenAt lens h : Nat) : Int)) = _
                exact decide_eq_decide.mpr (by omega)
              refine ⟨_, dg_name, ?_⟩
              refine ds_forget [6] ?_
              refine dq_setV (d := .list (((List.range lens.length).filter fun h => decide (v.count h < lenAt lens h)).map dN)) ((DN.dv (dn_lcM (fun d => d) keep (di_rangeV (n := lens.length) ((dv_len (de_var rfl) rfl).is (by show PyData.int _ = _; unfold seqOf; rw [List.length_map])) (by omega)) (by rw [rangeD_len]; omega) fun H0' d hd => ?_)).is (by rw [List.map_id', hkeep])) ?_
              · obtain ⟨h, hh, rfl⟩ := List.mem_map.mp hd
                have hhl := List.mem_range.mp hh
                refine ⟨_, dw_name (by decide), by repeat' (first | exact True.intro | rfl | refine ⟨?_, ?_⟩), db_test (dv_I0 (dv_count (ws := v) (de_var rfl) (de_var (d := dN h) rfl)) (dv_ixL (d := dN (lenAt lens h)) (de_var rfl) (de_var (d := dN h) rfl) (atI_nat ?_)) fun _ => .bl _), fun _ => de_var rfl⟩
                rw [List.getElem?_map]
                unfold lenAt
                rw [List.getElem?_eq_getElem hhl]; rfl
              · have hlen : ((((lev lens t).take j).flatMap (nextW lens)).map encW).length ≤ 3 * 19683 := by
                  rw [List.length_map]
                  have h1 := flat_len lens h3 ((lev lens t).take j)
                  have h2 : ((lev lens t).take j).length ≤ (lev lens t).length := by rw [List.length_take]; omega
                  omega
                have hfil : ((List.range lens.length).filter fun h => decide (v.count h < lenAt lens h)).length ≤ 3 := Nat.le_trans (List.length_filter_le _ _) (by rw [List.length_range]; exact h3)
                refine ds_setN (dn_catO (l := ll) rfl ((dn_map (fun d => .tuple (v.map dN ++ [d])) (di_list (de_var rfl)) (by rw [List.length_map]; omega) fun H0' d hd => ⟨_, dw_name (by decide), by repeat' (first | exact True.intro | rfl | refine ⟨?_, ?_⟩), dv_catT (de_var (d := encW v) rfl) (dv_tup (das1 (de_var rfl)) (by show 1 ≤ 100000; decide)) ?_⟩).mono fun es δ1 ⟨e1, e2⟩ => ?_))
                · rw [List.length_map, lev_mem lens t v (List.mem_of_getElem? hv)]; show t + 1 ≤ _; omega
                · subst e1; subst e2
                  refine ⟨_, rfl, ?_, fun ll' => ⟨ll', .dat (encW v), .dat (.list (((List.range lens.length).filter fun h => decide (v.count h < lenAt lens h)).map dN)), ?_⟩⟩
                  · simp only [List.length_map] at hlen ⊢; omega
                  · have : (((lev lens t).take j).flatMap (nextW lens)).map encW ++ (((List.range lens.length).filter fun h => decide (v.count h < lenAt lens h)).map dN).map (fun d => PyData.tuple (v.map dN ++ [d])) = (((lev lens t).take (j + 1)).flatMap (nextW lens)).map encW := by
                      rw [ej, List.flatMap_append, List.map_append]
                      congr 1
                      rw [List.flatMap_singleton]
                      unfold nextW
                      rw [List.map_map, List.map_map]
                      apply List.map_congr_left
                      intro h _
                      show PyData.tuple _ = PyData.tuple ((v ++ [h]).map dN)
                      rw [List.map_append]; rfl
                    show [_, _, _, _, WSlot.own ll' (_ ++ _), _, _, _] = _
                    rw [this]
            · rintro δ' ⟨ll, s5, s6, rfl⟩
              rw [List.length_map, List.take_length]
              exact ⟨ll, s5, s6, rfl⟩
          · rintro δ1 ⟨ll, s5, s6, rfl⟩
            have p2 : 3 ^ (t + 1 + 1) ≤ 59049 := Nat.pow_le_pow_right (n := 3) (by decide) (show t + 1 + 1 ≤ 10 by omega)
            refine dq_last ?_
            refine dq_parMove ((dn_catOO (i := 1) (k := 4) (l := lf) (l' := ll) rfl rfl (by rw [List.length_map, List.length_map]; omega)).mono fun ds δ2 ⟨e1, e2⟩ => ?_)
            subst e1; subst e2
            refine ⟨ll, _, rfl, by decide, by decide, by decide, fun p => ds_next ⟨p, ll, .dat (dN t), .no, s5, s6, ?_⟩⟩
            show [_, WSlot.own p (_ ++ _), _, _, _, _, _, _] = _
            rw [← List.map_append]; rfl
        · rintro δ' ⟨lf, lh, s3, s4, s5, s6, rfl⟩
          rw [rangeD_len]
          exact ⟨lf, lh, s3, s4, s5, s6, rfl⟩
      · rintro δ1 ⟨lf, lh, s3, s4, s5, s6, rfl⟩
        exact ds_retO (l := lf) rfl rfl (.inl rfl)
end
end WL
end
section
set_option Elab.async false
set_option linter.all false
set_option maxRecDepth 100000
namespace WL
open PySem PySem.Spec PyProof.Rows L2
/-! ### terms compared -/
def Tm.dep : Tm → Nat
  | .atom _ => 0
  | .f1 _ a => a.dep + 1
  | .f2 _ a b => max a.dep b.dep + 1
theorem enc_depth : ∀ t : Tm, (encT t).depth = t.dep
  | .atom _ => rfl
  | .f1 f a => by show max 0 (max (encT a).depth 0) + 1 = _; rw [enc_depth a]; simp [Tm.dep]
  | .f2 f a b => by show max 0 (max (encT a).depth (max (encT b).depth 0)) + 1 = _; rw [enc_depth a, enc_depth b]; simp [Tm.dep]
theorem enc_lay : ∀ t : Tm, (encT t).canLay0 = true
  | .atom _ => rfl
  | .f1 f a => by show (true && ((encT a).canLay0 && true)) = true; rw [enc_lay a]; rfl
  | .f2 f a b => by show (true && ((encT a).canLay0 && ((encT b).canLay0 && true))) = true; rw [enc_lay a, enc_lay b]; rfl
theorem enc_shaped {t : Tm} (h : t.dep ≤ 60) : SeqAt.shaped (encT t) = true := by
  unfold SeqAt.shaped
  rw [enc_lay, enc_depth, decide_eq_true (by omega)]; rfl
theorem eqv_nat (a b : Nat) : PyData.eqv (dN a) (dN b) = decide (a = b) := by
  show ((a : Int) == (b : Int)) = _
  by_cases h : a = b
  · subst h; simp
  · have : ¬ (a : Int) = b := by omega
    simp [h, this]
theorem enc_eqv : ∀ a b : Tm, PyData.eqv (encT a) (encT b) = decide (a = b)
  | .atom c, .atom d => by rw [show encT (.atom c) = dN c from rfl, show encT (.atom d) = dN d from rfl, eqv_nat]; simp
  | .atom c, .f1 g b => by simp [encT, PyData.eqv]
  | .atom c, .f2 g b b' => by simp [encT, PyData.eqv]
  | .f1 f a, .atom d => by simp [encT, PyData.eqv]
  | .f2 f a a', .atom d => by simp [encT, PyData.eqv]
  | .f1 f a, .f1 g b => by
    show (PyData.eqv (dN f) (dN g) && (PyData.eqv (encT a) (encT b) && true)) = _
    rw [eqv_nat, enc_eqv a b]; simp
  | .f2 f a a', .f2 g b b' => by
    show (PyData.eqv (dN f) (dN g) && (PyData.eqv (encT a) (encT b) && (PyData.eqv (encT a') (encT b') && true))) = _
    rw [eqv_nat, enc_eqv a b, enc_eqv a' b']; simp
  | .f1 f a, .f2 g b b' => by
    show (PyData.eqv (dN f) (dN g) && (PyData.eqv (encT a) (encT b) && false)) = _
    simp
  | .f2 f a a', .f1 g b => by
    show (PyData.eqv (dN f) (dN g) && (PyData.eqv (encT a) (encT b) && false)) = _
    simp
/-! ### wishes -/
abbrev Wish := Nat × Tm
def encWi (x : Wish) : PyData := .tuple [dN x.1, encT x.2]
def encOwn (o : List Wish) : PyData := .tuple (o.map encWi)
def encWs (w : List (List Wish)) : PyData := .tuple (w.map encOwn)
def rowLen (hands : List (List Ln)) (h : Nat) : Nat := ((hands[h]?).map List.length).getD 0
/-- the wished cells of a hand hold what is wished -/
def ownKept (held : List Tm) (o : List Wish) : Bool := o.all fun x => decide (tmAt held x.1 = x.2)
/-- .. of each hand whose lines are all done -/
def keptAt (hands : List (List Ln)) (wishes : List (List Wish)) (ws : List Nat) (held : List Tm) (h : Nat) : Bool := !(decide (ws.count h = rowLen hands h)) || ownKept held ((wishes[h]?).getD [])
def kept (hands : List (List Ln)) (wishes : List (List Wish)) (ws : List Nat) (held : List Tm) : Bool := (List.range wishes.length).all (keptAt hands wishes ws held)
structure WishesOk (n : Nat) (wishes : List (List Wish)) : Prop where
  lt : ∀ o ∈ wishes, ∀ x ∈ o, x.1 < n ∧ x.2.dep ≤ 60
  few : ∀ o ∈ wishes, o.length ≤ 100
section
variable {P : Program} {w : World} {K : PySem.W.Frag} {mg : Str → Option Value} {base : Heap}
inductive rel_kept : List PyData → (PyData → Prop) → Prop
  | mk (n : Nat) (hands : List (List Ln)) (wishes : List (List Wish)) (ws : List Nat) (held : List Tm) (hl : wishes.length = hands.length) (hw : WishesOk n wishes) (hn : held.length = n) (hd : ∀ t ∈ held, t.dep ≤ 60) :
    rel_kept [encH hands, encWs wishes, encW ws, encHeld held] fun z => z = .bool (kept hands wishes ws held)
theorem ok_law_kept (T : Top K mg) : FnOk P w K mg base CX0 1 T.law_kept.f T.law_kept.fd ["hands", "wishes", "weaving", "held"] (spP K rel_kept) :=
  fnP T.law_kept.F sc_law_kept (fun ds Pd h => by cases h; rfl) fun cdv A outer s H E hr => by
    refine ⟨_, (pss_cons (ps_for PassesOwn.never rfl (pi_enumT rfl T.n_enumerate (pa_cons (pv 1) pa_nil)) (pg_tup rfl (pgs_cons (pg_name (i := 4) sc_law_kept.nd rfl (by first | exact Or.inl rfl | exact Or.inr rfl)) (pgs_cons (pg_name (i := 5) sc_law_kept.nd rfl (by first | exact Or.inl rfl | exact Or.inr rfl)) pgs_nil))) (pss_one (ps_if (PW.pt (pw_and (pt_cmpR op_eq (pe_tcount K (pv 2) (pv 4) hr.units) (pe_callB (r := rLenQ K) call_len_seq (by rfl) T.n_len PySem.boot_len (pa_cons (pe_ix (r := rIxT K) ix_tup (pv 0) (pv 4) (fun _ _ => rfl)) pa_nil)) (nomark _)) (pw_and1 (pt_cmpR (r := rNeD K) (op_neD hr.units) (pe_lc (own := [("cell", 6), ("term", 7)]) (g := gTup K 2 (gCons (gName 6) (gCons (gName 7) gNil))) rfl sc_law_kept.nd (pi_tup (pv 5)) (blkOk_by (own := [("cell", 6), ("term", 7)]) (N := ["hands", "wishes", "weaving", "held", "hand", "own", "cell", "term"]) (sc := (defScope (topS 58))) (by decide +kernel)) (fun _ _ _ _ _ => (pg_tup rfl (pgs_cons (pg_name (i := 6) sc_law_kept.nd rfl (by first | exact Or.inl rfl | exact Or.inr rfl)) (pgs_cons (pg_name (i := 7) sc_law_kept.nd rfl (by first | exact Or.inl rfl | exact Or.inr rfl)) pgs_nil)))) (fun _ _ _ _ _ => pts_one (pt_cmpR (r := rNeD K) (op_neD hr.units) (pe_ix (r := rIxT K) ix_tup (pv 3) (pv 6) (fun _ _ => rfl)) (pv 7) (nomark _))) (fun _ _ _ _ _ => pe_int)) (pe_lst pa_nil) (nomark _))))) (pss_one (ps_ret pe_bl)) pss_nil)))
    (pss_one (ps_ret pe_bl))), fun A0 ds Pd hrel => ?_⟩
    cases hrel with
    | mk n hands wishes ws held hl hw hn hd =>
      refine ds_seq (N1 := fun δ => kept hands wishes ws held = true) ?_ ?_
      · refine ds_forV (fun i δ => (∀ h, h < i → keptAt hands wishes ws held h = true) ∧ ∃ s4 s5, δ = [.dat (encH hands), .dat (encWs wishes), .dat (encW ws), .dat (encHeld held), s4, s5, .no, .no]) (di_enumT (de_var rfl)) ⟨(fun h hh => absurd hh (Nat.not_lt_zero h)), _, _, rfl⟩ ?_ ?_
        · rintro i d δi hd1 ⟨hk, s4, s5, rfl⟩
          obtain ⟨x, hx, rfl⟩ := enumD_get hd1
          rw [List.getElem?_map] at hx
          obtain ⟨own, hown, rfl⟩ := Option.map_eq_some_iff.mp hx
          have hmem := List.mem_of_getElem? hown
          have hil : i < wishes.length := (List.getElem?_eq_some_iff.mp hown).1
          obtain ⟨row, hrow⟩ : ∃ row, hands[i]? = some row := ⟨hands[i]'(by omega), List.getElem?_eq_getElem (by omega)⟩
          have erow : rowLen hands i = row.length := by unfold rowLen; rw [hrow]; rfl
          let keep : PyData → Bool := fun d => match d with | .tuple [.int c, t] => !PyData.eqv (encT (tmAt held c.toNat)) t | _ => false
          refine ⟨_, dg2, ?_⟩
          refine ds_ifB (b := decide ((ws.count i : Int) = (row.length : Nat)) && !(ownKept held own)) (db_and (db_test (dv_eqI (dv_count (ws := ws) (de_var rfl) (de_var (d := dN i) rfl)) ((dv_len (d := encR row) (dv_ixT (ds := hands.map encR) (de_var rfl) (de_var (d := dN i) rfl) (atI_nat (by rw [List.getElem?_map, hrow]; rfl))) rfl).is (e := .int (row.length : Nat)) (by show PyData.int _ = _; unfold encR seqOf; rw [List.length_map])))) fun _ =>
            (db_test (dv_neD (DN.dv (dn_lcM (fun _ => dN 1) keep (di_tup (es := own.map encWi) (de_var rfl)) (by rw [List.length_map]; have := hw.few own hmem; omega) fun H0' d hd2 => ?_)) (dv_lst da_nil (by decide)) ?_ rfl)).is ?_) (fun e => ?_) fun e => ?_
          · obtain ⟨y, hy, rfl⟩ := List.mem_map.mp hd2
            obtain ⟨c, t⟩ := y
            have hc := hw.lt own hmem _ hy
            have hcl : c < held.length := by rw [hn]; exact hc.1
            refine ⟨_, dw2 (by decide) (by decide), by repeat' (first | exact True.intro | rfl | refine ⟨?_, ?_⟩), ?_, fun _ => de_int⟩
            refine db_test (dv_neD (dv_ixT (ds := held.map encT) (de_var rfl) (de_var (d := dN c) rfl) (held_at hcl)) (de_var (d := encT t) rfl) (enc_shaped (hd _ (List.mem_of_getElem? (tmAt_get hcl)))) (enc_shaped hc.2))
          · generalize (List.filter keep (List.map encWi own)) = l
            have hL : ∀ l : List PyData, PyData.canLayAll0 (l.map fun _ => dN 1) = true ∧ PyData.depthAll (l.map fun _ => dN 1) = 0 := fun l => by
              induction l with
              | nil => exact ⟨rfl, rfl⟩
              | cons a l ih => exact ⟨by show (true && _) = true; rw [ih.1]; rfl, by show max 0 _ = 0; rw [ih.2]; rfl⟩
            unfold SeqAt.shaped
            show (PyData.canLayAll0 _ && decide (PyData.depthAll _ + 1 ≤ 64)) = true
            rw [(hL l).1, (hL l).2]; rfl
          · have hall : ∀ o : List Wish, (∀ x ∈ o, x.1 < n ∧ x.2.dep ≤ 60) → (!PyData.eqv (.list (((o.map encWi).filter keep).map fun _ => dN 1)) (.list [])) = !(ownKept held o) := fun o ho => by
              induction o with
              | nil => rfl
              | cons y o ih =>
                have ih := ih fun x hx => ho x (List.mem_cons_of_mem _ hx)
                obtain ⟨c, t⟩ := y
                have hk2 : keep (encWi (c, t)) = !decide (tmAt held c = t) := by
                  show (!PyData.eqv (encT (tmAt held c)) (encT t)) = _
                  rw [enc_eqv]
                rw [List.map_cons, List.filter_cons, hk2]
                show _ = !(decide (tmAt held c = t) && ownKept held o)
                cases hdec : decide (tmAt held c = t) with
                | true => rw [Bool.true_and]; simpa using ih
                | false => rfl
            exact hall own (hw.lt own hmem)
          · refine ds_retV de_bl ?_
            have hk0 : keptAt hands wishes ws held i = false := by
              unfold keptAt
              rw [erow, hown]
              rw [Bool.and_eq_true] at e
              have e1 := of_decide_eq_true e.1
              rw [decide_eq_true (show ws.count i = row.length by omega)]
              have e2 := e.2
              show (!true || ownKept held own) = false
              cases hok : ownKept held own with
              | false => rfl
              | true => rw [hok] at e2; cases e2
            have : kept hands wishes ws held = false := by
              unfold kept
              rw [List.all_eq_false]
              exact ⟨i, List.mem_range.mpr hil, by rw [hk0]; exact Bool.false_ne_true⟩
            rw [this]
          · refine ds_next ⟨fun h hh => ?_, _, _, rfl⟩
            by_cases hhi : h = i
            · subst hhi
              unfold keptAt
              rw [erow, hown]
              show (!decide (ws.count h = row.length) || ownKept held own) = true
              cases hok : ownKept held own with
              | true => simp
              | false =>
                rw [hok] at e
                simp at e
                simp
                omega
            · exact hk h (by omega)
        · rintro δ' ⟨hk, s4, s5, rfl⟩
          rw [enumD_len, List.length_map] at hk
          unfold kept
          rw [List.all_eq_true]
          exact fun h hh => hk h (List.mem_range.mp hh)
      · intro δ1 hk
        intro A H σ D s E
        exact E.rt (.bool true) (.bl true) δ1 A H σ (by rw [hk]) s (WL.Ex.refl _) (.bl true)
end
end WL
end
section
set_option Elab.async false
set_option linter.all false
set_option maxRecDepth 100000
namespace WL
open PySem PySem.Spec PyProof.Rows L2
/-! ### terms of a machine -/
def TmOk (n : Nat) (fs : List Nat) : Tm → Prop
  | .atom c => c < n
  | .f1 f a => fs[f]? = some 1 ∧ TmOk n fs a
  | .f2 f a b => fs[f]? = some 2 ∧ TmOk n fs a ∧ TmOk n fs b
structure HeldOk (n : Nat) (fs : List Nat) (D : Nat) (held : List Tm) : Prop where
  len : held.length = n
  ok : ∀ t ∈ held, TmOk n fs t
  dep : ∀ t ∈ held, t.dep ≤ D
theorem HeldOk.mono {n D D' : Nat} {fs : List Nat} {held : List Tm} (h : HeldOk n fs D held) (hd : D ≤ D') : HeldOk n fs D' held := ⟨h.len, h.ok, fun t ht => Nat.le_trans (h.dep t ht) hd⟩
theorem HeldOk.at {n D : Nat} {fs : List Nat} {held : List Tm} (h : HeldOk n fs D held) {s : Nat} (hs : s < n) : TmOk n fs (tmAt held s) ∧ (tmAt held s).dep ≤ D := by
  have := List.mem_of_getElem? (tmAt_get (h := held) (s := s) (by rw [h.len]; exact hs))
  exact ⟨h.ok _ this, h.dep _ this⟩
def wk (l : Ln) : Nat := if l.fn.isSome then 1 else 0
theorem newT_ok {n D : Nat} {fs : List Nat} {held : List Tm} {l : Ln} (hm : MachOk n fs) (hl : LnOk n fs l) (h : HeldOk n fs D held) : TmOk n fs (newT held l) ∧ (newT held l).dep ≤ D + wk l := by
  obtain ⟨c, fn, src⟩ := l
  cases fn with
  | none =>
    obtain ⟨s, e, _⟩ := hl.fn
    simp only at e
    subst e
    have := h.at (hl.src s (by simp))
    exact ⟨this.1, Nat.le_trans this.2 (Nat.le_add_right _ _)⟩
  | some f =>
    obtain ⟨r, e, el⟩ := hl.fn
    simp only at el
    have hr := hm.fr r (List.mem_of_getElem? e)
    rcases src with _ | ⟨a, _ | ⟨b, _ | ⟨z, q⟩⟩⟩
    · simp at el; omega
    · have ha := h.at (hl.src a (by simp))
      simp at el; subst el
      refine ⟨⟨e, ha.1⟩, ?_⟩
      show (tmAt held a).dep + 1 ≤ D + 1
      omega
    · have ha := h.at (hl.src a (by simp))
      have hb := h.at (hl.src b (by simp))
      simp at el; subst el
      refine ⟨⟨e, ha.1, hb.1⟩, ?_⟩
      show max (tmAt held a).dep (tmAt held b).dep + 1 ≤ D + 1
      omega
    · simp at el; omega
theorem did_ok {n D : Nat} {fs : List Nat} {held : List Tm} {l : Ln} (hm : MachOk n fs) (hl : LnOk n fs l) (h : HeldOk n fs D held) : HeldOk n fs (D + wk l) (did held l) := by
  have hn := newT_ok hm hl h
  refine ⟨by rw [did_len, h.len], fun t ht => ?_, fun t ht => ?_⟩
  · rcases List.mem_or_eq_of_mem_set ht with k | k
    · exact h.ok t k
    · rw [k]; exact hn.1
  · rcases List.mem_or_eq_of_mem_set ht with k | k
    · exact Nat.le_trans (h.dep t k) (Nat.le_add_right _ _)
    · rw [k]; exact hn.2
theorem init_ok {n : Nat} {fs : List Nat} : HeldOk n fs 0 ((List.range n).map .atom) :=
  ⟨by simp, fun t ht => by obtain ⟨x, hx, rfl⟩ := List.mem_map.mp ht; exact List.mem_range.mp hx, fun t ht => by obtain ⟨x, hx, rfl⟩ := List.mem_map.mp ht; exact Nat.le_refl 0⟩
/-- the works done when c h lines of each hand are done -/
def wT : List (List Ln) → (Nat → Nat) → Nat
  | [], _ => 0
  | r :: hs, c => works (r.take (c 0)) + wT hs fun i => c (i + 1)
theorem works_take (r : List Ln) (k : Nat) : works (r.take k) ≤ works r := by
  have := works_app (r.take k) (r.drop k)
  rw [List.take_append_drop] at this
  omega
theorem wT_le : ∀ (hands : List (List Ln)) (c : Nat → Nat), wT hands c ≤ worksH hands
  | [], _ => Nat.le_refl _
  | r :: hs, c => by
    have := works_take r (c 0)
    have := wT_le hs fun i => c (i + 1)
    show works _ + wT hs _ ≤ works r + worksH hs
    omega
theorem wT_cong : ∀ (hands : List (List Ln)) {c c' : Nat → Nat}, (∀ i, c i = c' i) → wT hands c = wT hands c'
  | [], _, _, _ => rfl
  | r :: hs, c, c', h => by
    show works _ + wT hs _ = works _ + wT hs _
    rw [h 0, wT_cong hs fun i => h (i + 1)]
theorem wT_step : ∀ (hands : List (List Ln)) (h : Nat) (row : List Ln) (l : Ln) (c c' : Nat → Nat), hands[h]? = some row → row[c h]? = some l → c' h = c h + 1 → (∀ i, i ≠ h → c' i = c i) → wT hands c' = wT hands c + wk l
  | [], _, _, _, _, _, h0, _, _, _ => by simp at h0
  | r :: hs, 0, row, l, c, c', h0, h1, h2, h3 => by
    simp at h0; subst h0
    show works (r.take (c' 0)) + wT hs _ = works (r.take (c 0)) + wT hs _ + wk l
    rw [wT_cong hs (fun i => h3 (i + 1) (by omega)), h2, List.take_succ, h1, works_app]
    show works (r.take (c 0)) + (wk l + 0) + _ = _
    omega
  | r :: hs, h + 1, row, l, c, c', h0, h1, h2, h3 => by
    have := wT_step hs h row l (fun i => c (i + 1)) (fun i => c' (i + 1)) (by simpa using h0) h1 h2 fun i hi => h3 (i + 1) (by omega)
    show works (r.take (c' 0)) + wT hs _ = works (r.take (c 0)) + wT hs _ + wk l
    rw [h3 0 (by omega), this]; omega
theorem wT_zero : ∀ hands : List (List Ln), wT hands (fun _ => 0) = 0
  | [] => rfl
  | r :: hs => by
    show works (r.take 0) + wT hs _ = 0
    rw [wT_zero hs, List.take_zero]; rfl
theorem woven_ok {n : Nat} {fs : List Nat} (hm : MachOk n fs) {hands : List (List Ln)} (hh : ∀ r ∈ hands, LinesOk n fs r) {ws : List Nat} (hv : ValidW hands ws) : ∀ i, i ≤ ws.length → HeldOk n fs (wT hands fun h => (ws.take i).count h) (woven n hands (ws.take i))
  | 0, _ => by rw [List.take_zero, woven_nil]; exact HeldOk.mono init_ok (Nat.zero_le _)
  | i + 1, hi => by
    have ih := woven_ok hm hh hv i (by omega)
    obtain ⟨h, hh2⟩ : ∃ h, ws[i]? = some h := ⟨ws[i], List.getElem?_eq_getElem (by omega)⟩
    have esp : ws = ws.take i ++ h :: ws.drop (i + 1) := by
      have := List.take_append_drop i ws
      rw [List.drop_eq_getElem_cons (by omega)] at this
      rw [List.getElem?_eq_getElem (by omega)] at hh2
      rw [← Option.some.inj hh2]; exact this.symm
    have et : ws.take (i + 1) = ws.take i ++ [h] := by rw [List.take_succ, hh2]; rfl
    obtain ⟨r, hr1, hr2, hr3⟩ := line_at (by rw [← esp]; exact hv)
    have hl := hh r (List.mem_of_getElem? hr1) _ (List.mem_of_getElem? hr3)
    have := did_ok hm hl ih
    rw [et, woven_snoc]
    rw [wT_step hands h r _ (fun h => (ws.take i).count h) (fun k => (ws.take i ++ [h]).count k) hr1 hr3 (by rw [List.count_append, List.count_singleton_self]) fun k hk => by rw [List.count_append, List.count_singleton]; simp [Ne.symm hk]]
    exact this
theorem woven_good {n : Nat} {fs : List Nat} (hm : MachOk n fs) {hands : List (List Ln)} (hh : ∀ r ∈ hands, LinesOk n fs r) {ws : List Nat} (hv : ValidW hands ws) : HeldOk n fs (worksH hands) (woven n hands ws) := by
  have := woven_ok hm hh hv ws.length (Nat.le_refl _)
  rw [List.take_length] at this
  exact this.mono (wT_le _ _)
/-! ### wishes drawn -/
structure OwnOk (n : Nat) (fs : List Nat) (o : List Wish) : Prop where
  lt : ∀ x ∈ o, x.1 < n ∧ TmOk n fs x.2 ∧ x.2.dep ≤ 7
  inc : (o.map (·.1)).Pairwise (· < ·)
structure WishOk (n : Nat) (fs : List Nat) (many : Nat) (wishes : List (List Wish)) : Prop where
  len : wishes.length = many
  ok : ∀ o ∈ wishes, OwnOk n fs o
  few : ∀ o ∈ wishes, o.length ≤ 4
section
variable {P : Program} {w : World} {K : PySem.W.Frag} {mg : Str → Option Value} {base : Heap}
theorem rd_eqI {F : Fx} {i j : Int} : RD F rEq (.int i) (.int j) fun z => z = .bool (decide (i = j)) := fun A H x y l h1 h2 Q q => by
  rw [dp_int h1, dp_int h2]
  refine ⟨rfl, ?_⟩
  have e : decide (V.int i = V.int j) = decide (i = j) := by simp
  rw [e]
  exact q _ _ H rfl (WL.Ex.refl _) (.bl _)
theorem de_taken {F : Fx} {δ : List WSlot} {E : XK} {tm : TE} {i : Nat} {l : Addr} {ns : List Int} {ds : List PyData} {m : Nat} (ho : δ[i]? = some (.own l ds)) (hR : RowOk ns ds) (h3 : ns.length ≤ 63) (h1 : 0 < m) (h2 : m ≤ 10000) (hm : DV F tm δ (dN m)) :
    DE F (tCall (spO F.K rel_taken) [] E (tCons (tVar i) (tCons tm tNil))) δ fun d δ' => ∃ x rds, x < m ∧ RowOk ns rds ∧ d = dN x ∧ δ' = δ.set i (.own l rds) :=
  de_callO ho (das1 hm) fun es δ1 ⟨e1, e2⟩ => by
    subst e1; subst e2
    exact ⟨ds, _, ho, .mk ns ds m hR h1 h2 h3, fun d ds' ⟨⟨x, hx, hd⟩, hR⟩ => ⟨x, ds', hx, hR, hd, rfl⟩⟩
theorem dt_taken0 {F : Fx} {δ : List WSlot} {E : XK} {tm : TE} {i : Nat} {l : Addr} {ns : List Int} {ds : List PyData} {m : Nat} (ho : δ[i]? = some (.own l ds)) (hR : RowOk ns ds) (h3 : ns.length ≤ 63) (h1 : 0 < m) (h2 : m ≤ 10000) (hm : DV F tm δ (dN m)) :
    DT F (tTest (tOp rEq (tCall (spO F.K rel_taken) [] E (tCons (tVar i) (tCons tm tNil))) (tC (.int 0)))) δ fun _ δ' => ∃ rds, RowOk ns rds ∧ δ' = δ.set i (.own l rds) :=
  dt_test (de_op (Pb := fun d1 d δ' => d = .int 0 ∧ ∃ x rds, RowOk ns rds ∧ d1 = dN x ∧ δ' = δ.set i (.own l rds)) (de_taken ho hR h3 h1 h2 hm) (fun d1 δ1 ⟨x, rds, _, hR, e1, e2⟩ => de_int.mono fun d' δ' ⟨e3, e4⟩ => ⟨e3, x, rds, hR, e1, by rw [e4, e2]⟩)
    fun d1 δ1 d2 δ2 _ ⟨e, x, rds, hR, e1, e2⟩ => by
      subst e; subst e1
      exact fun A H x y lv k1 k2 Q q => rd_eqI A H x y lv k1 k2 Q fun v d H2 p => q v d H2 ⟨_, p, rds, hR, e2⟩)
def menuT (r : Nat) : List Tm := [.atom 0, if r = 1 then .f1 0 (.atom 0) else .f2 0 (.atom 0) (.atom 0)]
inductive rel_law_wishes : List PyData → List PyData → (PyData → List PyData → Prop) → Prop
  | mk (ns : List Int) (ds : List PyData) (n : Nat) (fs : List Nat) (hands : List (List Ln)) (h : RowOk ns ds) (hm : MachOk n fs) (hh : ∀ r ∈ hands, LinesOk n fs r) (h3 : hands.length ≤ 3) (h12 : ∀ r ∈ hands, r.length ≤ 12) (six : worksH hands ≤ 6) (h63 : ns.length ≤ 63) :
    rel_law_wishes ds [encM n fs, encH hands] fun d ds' => (∃ wishes, WishOk n fs hands.length wishes ∧ d = encWs wishes) ∧ RowOk ns ds'
theorem ok_law_wishes (T : Top K mg) : FnOk P w K mg base CX0 3 T.law_wishes.f T.law_wishes.fd ["row", "machine", "hands"] (spO K rel_law_wishes) :=
  fnO T.law_wishes.F sc_law_wishes (fun ds es Pd h => by cases h; rfl) (by decide) fun cdv A outer s H E hr => by
    refine ⟨_, (pss_cons (ps_set (i := 3) sc_law_wishes.nd rfl (by first | exact Or.inl rfl | exact Or.inr rfl) (pe_lst pa_nil))
    (pss_cons (ps_for PassesOwn.never rfl (pi_range1 rfl T.n_range (pa_cons (pe_callB (r := rLenQ K) call_len_seq (by rfl) T.n_len PySem.boot_len (pa_cons (pv 2) pa_nil)) pa_nil)) (pg_name (i := 4) sc_law_wishes.nd rfl (by first | exact Or.inl rfl | exact Or.inr rfl)) (pss_cons (ps_set (i := 5) sc_law_wishes.nd rfl (by first | exact Or.inl rfl | exact Or.inr rfl) (pe_call (ok_law_woven T) (hr.mono (by omega)) rfl T.law_woven.m T.law_woven.F.kp T.law_woven.b .nil pass0 (pa_cons (pv 1) (pa_cons (pv 2) (pa_cons (pe_op (r := rRepN K) op_repN (pe_tupN (pa_cons (pv 4) pa_nil)) (pe_callB (r := rLenQ K) call_len_seq (by rfl) T.n_len PySem.boot_len (pa_cons (pe_ix (r := rIxT K) ix_tup (pv 2) (pv 4) (fun _ _ => rfl)) pa_nil))) pa_nil)))))
    (pss_cons (ps_if (pt_cmpR op_eq (pe_call (ok_law_taken T) (hr.mono (by omega)) rfl T.law_taken.m T.law_taken.F.kp T.law_taken.b .nil pass0 (pa_cons (pv 0) (pa_cons pe_int pa_nil))) pe_int (nomark _)) (pss_one (ps_set (i := 5) sc_law_wishes.nd rfl (by first | exact Or.inl rfl | exact Or.inr rfl) (pe_callTy (r := rTupN K) call_tupN (by rfl) T.n_tuple (by decide +kernel) (pa_cons (pe_lc (own := [("cell", 6)]) rfl sc_law_wishes.nd (pi_range1 rfl T.n_range (pa_cons (pe_ix (r := rIxT K) ix_tup (pv 1) pe_int (fun _ _ => rfl)) pa_nil)) (blkOk_by (own := [("cell", 6)]) (N := ["row", "machine", "hands", "found", "hand", "held", "cell"]) (sc := (defScope (topS 59))) (by decide +kernel)) (fun _ _ _ _ _ => (pg_name (i := 6) sc_law_wishes.nd rfl (by first | exact Or.inl rfl | exact Or.inr rfl))) (fun _ _ _ _ _ => pts_nil) (fun _ _ _ _ _ => (pe_call (ok_law_pick T) (hr.mono (by omega)) rfl T.law_pick.m T.law_pick.F.kp T.law_pick.b .nil pass0 (pa_cons (pv 0) (pa_cons (pe_lst (pa_cons pe_int (pa_cons (pe_op (r := rCatN K) op_catN (pe_tupN (pa_cons pe_int pa_nil)) (pe_op (r := rRepN K) op_repN (pe_tupN (pa_cons pe_int pa_nil)) (pe_ix (r := rIxT K) ix_tup (pe_ix (r := rIxT K) ix_tup (pv 1) pe_int (fun _ _ => rfl)) pe_int (fun _ _ => rfl)))) pa_nil))) pa_nil))))) pa_nil)))) pss_nil)
    (pss_one (ps_expr (pe_bm PySem.F.plainAttrs_list PySem.F.slot_list_append PySem.F.type_list_append mt_append (pv 3) (pa_cons (pe_callTy (r := rTupN K) call_tupN (by rfl) T.n_tuple (by decide +kernel) (pa_cons (pe_lc (own := [("cell", 6)]) rfl sc_law_wishes.nd (pi_range1 rfl T.n_range (pa_cons (pe_ix (r := rIxT K) ix_tup (pv 1) pe_int (fun _ _ => rfl)) pa_nil)) (blkOk_by (own := [("cell", 6)]) (N := ["row", "machine", "hands", "found", "hand", "held", "cell"]) (sc := (defScope (topS 59))) (by decide +kernel)) (fun _ _ _ _ _ => (pg_name (i := 6) sc_law_wishes.nd rfl (by first | exact Or.inl rfl | exact Or.inr rfl))) (fun _ _ _ _ _ => pts_one (pt_cmpR op_eq (pe_call (ok_law_taken T) (hr.mono (by omega)) rfl T.law_taken.m T.law_taken.F.kp T.law_taken.b .nil pass0 (pa_cons (pv 0) (pa_cons pe_int pa_nil))) pe_int (nomark _))) (fun _ _ _ _ _ => (pe_tupN (pa_cons (pv 6) (pa_cons (pe_ix (r := rIxT K) ix_tup (pv 5) (pv 6) (fun _ _ => rfl)) pa_nil))))) pa_nil)) pa_nil)))))))
    (pss_one (ps_ret (pe_callTy (r := rTupN K) call_tupN (by rfl) T.n_tuple (by decide +kernel) (pa_cons (pv 3) pa_nil)))))), fun A0 l ds es Pd hrel => ?_⟩
    cases hrel with
    | mk ns _ n fs hands hR hm hh h3 h12 six h63 =>
      have hn4 := hm.n4
      have hn1 := hm.n1
      obtain ⟨r0, hr0⟩ : ∃ r0, fs[0]? = some r0 := ⟨fs[0]'(by have := hm.f1; omega), List.getElem?_eq_getElem (by have := hm.f1; omega)⟩
      have hr12 := hm.fr r0 (List.mem_of_getElem? hr0)
      have hat0 : atI (fs.map dN) 0 = some (dN r0) := by
        show atI _ ((0 : Nat) : Int) = _
        exact atI_nat (by rw [List.getElem?_map, hr0]; rfl)
      refine dq_nil fun lf => ?_
      refine ds_seq (N1 := fun δ => ∃ (rds : List PyData) (wishes : List (List Wish)) (s4 s5 : WSlot), RowOk ns rds ∧ WishOk n fs hands.length wishes ∧ δ = [.own l rds, .dat (encM n fs), .dat (encH hands), .own lf (wishes.map encOwn), s4, s5, .no]) ?_ ?_
      · refine ds_forV (fun i δ => ∃ (rds : List PyData) (wishes : List (List Wish)) (s4 s5 : WSlot), RowOk ns rds ∧ WishOk n fs i wishes ∧ δ = [.own l rds, .dat (encM n fs), .dat (encH hands), .own lf (wishes.map encOwn), s4, s5, .no])
          (di_rangeV (n := hands.length) ((dv_len (d := encH hands) (de_var rfl) rfl).is (by show PyData.int _ = _; unfold encH seqOf; rw [List.length_map])) (by omega)) ⟨ds, [], _, _, hR, ⟨rfl, (fun o ho => by cases ho), (fun o ho => by cases ho)⟩, rfl⟩ ?_ ?_
        · rintro i d δi hd ⟨rds, wishes, s4, s5, hR, hW, rfl⟩
          obtain ⟨rfl, hi⟩ := rangeD_get hd
          obtain ⟨row, hrow⟩ : ∃ row, hands[i]? = some row := ⟨hands[i], List.getElem?_eq_getElem hi⟩
          have hrl := h12 row (List.mem_of_getElem? hrow)
          have hv : ValidW hands (List.replicate row.length i) := ⟨fun h hh => by rw [(List.mem_replicate.mp hh).2]; exact hi, fun h r hr => by
            by_cases e : h = i
            · subst e; rw [hrow] at hr; rw [← Option.some.inj hr, List.count_replicate_self]; exact Nat.le_refl _
            · rw [List.count_replicate, if_neg (by simpa using (Ne.symm e))]; exact Nat.zero_le _⟩
          have hH := (woven_good hm hh hv).mono six
          refine ⟨_, dg_name, ?_⟩
          refine dq_setV (d := encHeld (woven n hands (List.replicate row.length i))) (dv_call (das_cons (de_var rfl) (das2 (de_var rfl) ((dv_repN (ds := [dN i]) (k := row.length) (dv_tup (das1 (de_var (d := dN i) rfl)) (by show 1 ≤ 100000; decide)) ((dv_len (d := encR row) (dv_ixT (ds := hands.map encR) (de_var rfl) (de_var (d := dN i) rfl) (atI_nat (by rw [List.getElem?_map, hrow]; rfl))) rfl).is (by show PyData.int _ = _; unfold encR seqOf; rw [List.length_map])) (by simp) (by omega) (by show 1 ≤ 1000; decide)).is (e := encW (List.replicate row.length i)) (by
            unfold encW; congr 1; rw [List.map_replicate]
            induction row.length with
            | zero => rfl
            | succ m ih => rw [List.replicate_succ, List.replicate_succ, List.flatten_cons, ih]; rfl)))) (.mk n fs hm hands hh h3 _ hv)) ?_
          refine ds_seq (N1 := fun δ => ∃ (rds : List PyData) (held : List Tm), RowOk ns rds ∧ HeldOk n fs 6 held ∧ δ = [.own l rds, .dat (encM n fs), .dat (encH hands), .own lf (wishes.map encOwn), .dat (dN i), .dat (encHeld held), .no]) ?_ ?_
          · refine ds_if (dt_taken0 (i := 0) (l := l) rfl hR h63 (m := 5) (by decide) (by decide) de_int) ?_ ?_
            · rintro δ1 ⟨rds, hR, rfl⟩
              refine ds_set (de_tupL (PL := fun ds δ' => ∃ (rds : List PyData) (held : List Tm), RowOk ns rds ∧ HeldOk n fs 6 held ∧ ds = held.map encT ∧ δ' = [.own l rds, .dat (encM n fs), .dat (encH hands), .own lf (wishes.map encOwn), .dat (dN i), .dat (encHeld (woven n hands (List.replicate row.length i))), .no]) (DN.dl (dn_lc (di_rangeV (n := n) (dv_ixT (ds := [dN n, .tuple (fs.map dN)]) (de_var rfl) de_int rfl) (by omega)) ?_)) ?_)
              · rintro es δ1 ⟨rfl, rfl⟩
                refine ⟨by rw [rangeD_len]; omega, fun j acc δ => ∃ (rds : List PyData) (held : List Tm), RowOk ns rds ∧ held.length = j ∧ (∀ t ∈ held, t ∈ menuT r0) ∧ acc = held.map encT ∧ δ = [.own l rds, .dat (encM n fs), .dat (encH hands), .own lf (wishes.map encOwn), .dat (dN i), .dat (encHeld (woven n hands (List.replicate row.length i))), .no], ⟨rds, [], hR, rfl, (fun t ht => by cases ht), rfl, rfl⟩, ?_, ?_⟩
                · rintro H0' j acc d δj hd ⟨rds, held, hR, hl, hok, rfl, rfl⟩
                  refine ⟨_, dw_name (by decide), db_yes.mono fun b δ2 ⟨e1, e2⟩ => ⟨fun _ => ?_, fun e => by rw [e1] at e; cases e⟩⟩
                  subst e2
                  refine de_callO (i := 0) (l := l) (ds := rds) rfl (das1 ((dv_lst (das2 de_int (dv_catT (dv_tup (das1 de_int) (by show 1 ≤ 100000; decide)) (dv_repN (k := r0) (dv_tup (das1 de_int) (by show 1 ≤ 100000; decide)) (dv_ixT (ds := fs.map dN) (dv_ixT (ds := [dN n, .tuple (fs.map dN)]) (de_var rfl) de_int rfl) de_int hat0) (by simp) (by omega) (by show 1 ≤ 1000; decide)) ?_)) (by show 2 ≤ 100000; decide)).is (e := .list ((menuT r0).map encT)) ?_)) fun es δ1 ⟨e1, e2⟩ => ?_
                  · rcases show r0 = 1 ∨ r0 = 2 by omega with rfl | rfl <;> decide
                  · rcases show r0 = 1 ∨ r0 = 2 by omega with rfl | rfl <;> rfl
                  · subst e1; subst e2
                    refine ⟨rds, _, rfl, .mk ns rds _ hR (by show 0 < 2; decide) (by show 2 ≤ 10000; decide) h63, fun d' ds' ⟨⟨q, hq⟩, hR⟩ => ?_⟩
                    rw [List.getElem?_map] at hq
                    obtain ⟨t, ht, rfl⟩ := Option.map_eq_some_iff.mp hq
                    refine ⟨[.own l ds', .dat (encM n fs), .dat (encH hands), .own lf (wishes.map encOwn), .dat (dN i), .dat (encHeld (woven n hands (List.replicate row.length i))), .no], ⟨rfl, fun k d' hj => ?_, fun k l' ds2 hj => ?_, by intro k b hj; rcases k with _ | _ | _ | _ | _ | _ | _ | _ | k <;> simp at hj⟩, ds', held ++ [t], hR, by simp [hl], fun z hz => ?_, by simp, rfl⟩
                    · rcases k with _ | k
                      · simp at hj
                      · simpa using hj
                    · rcases k with _ | _ | _ | _ | _ | _ | _ | k <;> simp at hj
                      · obtain ⟨rfl, rfl⟩ := hj
                        exact ⟨rfl, _, rfl⟩
                      · obtain ⟨rfl, rfl⟩ := hj
                        exact ⟨rfl, _, rfl⟩
                    · rcases List.mem_append.mp hz with h | h
                      · exact hok z h
                      · rw [List.mem_singleton.mp h]; exact List.mem_of_getElem? ht
                · rintro acc δ' ⟨rds, held, hR, hl, hok, rfl, rfl⟩
                  rw [rangeD_len] at hl
                  have hmenu : ∀ t ∈ menuT r0, TmOk n fs t ∧ t.dep ≤ 6 := fun t ht => by
                    rcases show r0 = 1 ∨ r0 = 2 by omega with rfl | rfl
                    · rcases List.mem_cons.mp ht with rfl | ht
                      · exact ⟨by show 0 < n; omega, by decide⟩
                      · rw [List.mem_singleton.mp ht]; exact ⟨⟨hr0, by show 0 < n; omega⟩, by decide⟩
                    · rcases List.mem_cons.mp ht with rfl | ht
                      · exact ⟨by show 0 < n; omega, by decide⟩
                      · rw [List.mem_singleton.mp ht]; exact ⟨⟨hr0, by show 0 < n; omega, by show 0 < n; omega⟩, by decide⟩
                  exact ⟨rds, held, hR, ⟨hl, fun t ht => (hmenu t (hok t ht)).1, fun t ht => (hmenu t (hok t ht)).2⟩, rfl, rfl⟩
              · rintro ds δ' ⟨rds, held, hR, hH2, rfl, rfl⟩
                exact ⟨rds, held, hR, hH2, rfl⟩
            · rintro δ1 ⟨rds, hR, rfl⟩
              exact ds_next ⟨rds, _, hR, hH, rfl⟩
          · rintro δ1 ⟨rds, held, hR, hH2, rfl⟩
            refine ds_append (l := lf) rfl (de_tupL (PL := fun ds δ' => ∃ (rds : List PyData) (o : List Wish), RowOk ns rds ∧ OwnOk n fs o ∧ o.length ≤ 4 ∧ ds = o.map encWi ∧ δ' = [.own l rds, .dat (encM n fs), .dat (encH hands), .own lf (wishes.map encOwn), .dat (dN i), .dat (encHeld held), .no]) (DN.dl (dn_lc (di_rangeV (n := n) (dv_ixT (ds := [dN n, .tuple (fs.map dN)]) (de_var rfl) de_int rfl) (by omega)) ?_)) ?_)
            · rintro es δ1 ⟨rfl, rfl⟩
              refine ⟨by rw [rangeD_len]; omega, fun j acc δ => ∃ (rds : List PyData) (o : List Wish), RowOk ns rds ∧ OwnOk n fs o ∧ (∀ x ∈ o, x.1 < j) ∧ o.length ≤ j ∧ acc = o.map encWi ∧ δ = [.own l rds, .dat (encM n fs), .dat (encH hands), .own lf (wishes.map encOwn), .dat (dN i), .dat (encHeld held), .no], ⟨rds, [], hR, ⟨(fun x hx => by cases hx), List.Pairwise.nil⟩, (fun x hx => by cases hx), Nat.le_refl _, rfl, rfl⟩, ?_, ?_⟩
              · rintro H0' j acc d δj hd ⟨rds0, o, hR, hO, hlt, hl, rfl, rfl⟩
                obtain ⟨rfl, hj⟩ := rangeD_get hd
                refine ⟨_, dw_name (by decide), (dt_taken0 (i := 0) (l := l) rfl hR h63 (m := 2) (by decide) (by decide) de_int).mono fun b δ2 ⟨rds, hR, e⟩ => ?_⟩
                subst e
                have hB : ∀ δ3 : List WSlot, δ3 = [.own l rds, .dat (encM n fs), .dat (encH hands), .own lf (wishes.map encOwn), .dat (dN i), .dat (encHeld held), .dat (dN j)] → Back [.own l rds0, .dat (encM n fs), .dat (encH hands), .own lf (wishes.map encOwn), .dat (dN i), .dat (encHeld held), .no] δ3 [.own l rds, .dat (encM n fs), .dat (encH hands), .own lf (wishes.map encOwn), .dat (dN i), .dat (encHeld held), .no] := fun δ3 e => by
                  subst e
                  refine ⟨rfl, fun k d' hj => ?_, fun k l' ds2 hj => ?_, by intro k b hj; rcases k with _ | _ | _ | _ | _ | _ | _ | _ | k <;> simp at hj⟩
                  · rcases k with _ | k
                    · simp at hj
                    · simpa using hj
                  · rcases k with _ | _ | _ | _ | _ | _ | _ | k <;> simp at hj
                    · obtain ⟨rfl, rfl⟩ := hj
                      exact ⟨rfl, _, rfl⟩
                    · obtain ⟨rfl, rfl⟩ := hj
                      exact ⟨rfl, _, rfl⟩
                refine ⟨fun _ => ?_, fun _ => ⟨_, hB _ rfl, rds, o, hR, hO, fun x hx => Nat.lt_succ_of_lt (hlt x hx), by omega, rfl, rfl⟩⟩
                have hjl : j < held.length := by rw [hH2.len]; exact hj
                refine (dv_tup (das2 (de_var (d := dN j) rfl) (dv_ixT (ds := held.map encT) (de_var rfl) (de_var (d := dN j) rfl) (held_at hjl))) (by show 2 ≤ 100000; decide)).mono fun y δ3 ⟨e1, e2⟩ => ?_
                subst e1
                refine ⟨_, hB _ e2, rds, o ++ [(j, tmAt held j)], hR, ⟨fun x hx => ?_, ?_⟩, fun x hx => ?_, by rw [List.length_append]; show o.length + 1 ≤ j + 1; omega, by rw [List.map_append]; rfl, rfl⟩
                · rcases List.mem_append.mp hx with h | h
                  · exact hO.lt x h
                  · rw [List.mem_singleton.mp h]
                    have := hH2.at hj
                    exact ⟨hj, this.1, by show (tmAt held j).dep ≤ 7; omega⟩
                · rw [List.map_append, List.pairwise_append]
                  refine ⟨hO.inc, by simp, fun a ha b hb => ?_⟩
                  obtain ⟨x, hx, rfl⟩ := List.mem_map.mp ha
                  simp at hb; subst hb
                  exact hlt x hx
                · rcases List.mem_append.mp hx with h | h
                  · exact Nat.lt_succ_of_lt (hlt x h)
                  · rw [List.mem_singleton.mp h]; exact Nat.lt_succ_self j
              · rintro acc δ' ⟨rds, o, hR, hO, hlt, hl, rfl, rfl⟩
                rw [rangeD_len] at hl
                exact ⟨rds, o, hR, hO, by omega, rfl, rfl⟩
            · rintro ds δ' ⟨rds, o, hR, hO, ho4, rfl, rfl⟩
              refine ⟨_, rfl, by rw [List.length_map, hW.len]; omega, rds, wishes ++ [o], _, _, hR, ⟨by rw [List.length_append, hW.len]; rfl, fun q hq => ?_, fun q hq => ?_⟩, by rw [List.map_append]; rfl⟩
              · rcases List.mem_append.mp hq with h | h
                · exact hW.ok q h
                · rw [List.mem_singleton.mp h]; exact hO
              · rcases List.mem_append.mp hq with h | h
                · exact hW.few q h
                · rw [List.mem_singleton.mp h]; exact ho4
        · rintro δ' ⟨rds, wishes, s4, s5, hR, hW, rfl⟩
          rw [rangeD_len] at hW
          exact ⟨rds, wishes, s4, s5, hR, hW, rfl⟩
      · rintro δ1 ⟨rds, wishes, s4, s5, hR, hW, rfl⟩
        exact ds_ret ((dv_tupL (dl_own (l := lf) rfl)).mono fun d' δ' ⟨e1, e2⟩ => by
          subst e1; subst e2
          exact ⟨rds, rfl, ⟨wishes, hW, rfl⟩, hR⟩)
end
end WL
end
section
set_option Elab.async false
set_option linter.all false
set_option maxRecDepth 100000
namespace WL
open PySem PySem.Spec PyProof.Rows L2
section
variable {P : Program} {w : World} {K : PySem.W.Frag} {mg : Str → Option Value} {base : Heap}
/-- no call -/
theorem fn_none {f : Addr} {fd : FuncData} {ps : List Str} : FnOk P w K mg base CX0 0 f fd ps (spP K fun _ _ => False) :=
  ⟨fun _ _ _ _ ⟨_, _, _, _, _, h, _⟩ => h.elim, fun _ _ _ _ _ _ _ _ _ _ _ _ _ ⟨_, _, _, _, _, h, _⟩ => h.elim⟩
inductive rel_alike (rel : List PyData → (PyData → Prop) → Prop) : List PyData → (PyData → Prop) → Prop
  | non : rel_alike rel [.none, .none] fun z => z = .bool true
  | int (i : Int) : rel_alike rel [.int i, .int i] fun z => z = .bool true
  | tup (ds : List PyData) (h : ∀ d ∈ ds, rel [d, d] fun z => z = .bool true) (hl : ds.length ≤ 1000) : rel_alike rel [.tuple ds, .tuple ds] fun z => z = .bool true
theorem alike_step (T : Top K mg) {k : Nat} {rel : List PyData → (PyData → Prop) → Prop} (G : FnOk P w K mg base CX0 k T.law_alike.f T.law_alike.fd ["found", "due"] (spP K rel)) :
    FnOk P w K mg base CX0 (k + 1) T.law_alike.f T.law_alike.fd ["found", "due"] (spP K (rel_alike rel)) :=
  fnP T.law_alike.F sc_law_alike (fun ds Pd h => by cases h <;> rfl) fun cdv A outer s H E hr => by
    refine ⟨_, (pss_cons (ps_if (pt_val (pe_callB (r := rIsiT K) call_isiT (by rfl) T.n_isinstance (by decide +kernel) (pa_cons (pv 1) (pa_cons (pe_tup (pa_cons (pe_bltn (v := .ty "tuple") (u := .type "tuple") (by rfl) T.n_tuple (by decide +kernel) rfl) (pa_cons (pe_bltn (v := .ty "list") (u := .type "list") (by rfl) T.n_list (by decide +kernel) rfl) pa_nil))) pa_nil)))) (pss_cons (ps_if (PW.pt (pw_or (pt_not (pt_val (pe_callB (r := rIsiT K) call_isiT (by rfl) T.n_isinstance (by decide +kernel) (pa_cons (pv 0) (pa_cons (pe_tup (pa_cons (pe_bltn (v := .ty "tuple") (u := .type "tuple") (by rfl) T.n_tuple (by decide +kernel) rfl) (pa_cons (pe_bltn (v := .ty "list") (u := .type "list") (by rfl) T.n_list (by decide +kernel) rfl) pa_nil))) pa_nil))))) (pw_or1 (pt_cmpR (r := rNeD K) (op_neD hr.units) (pe_callB (r := rIsi K) call_isi (by rfl) T.n_isinstance (by decide +kernel) (pa_cons (pv 0) (pa_cons (pe_bltn (v := .ty "list") (u := .type "list") (by rfl) T.n_list (by decide +kernel) rfl) pa_nil))) (pe_callB (r := rIsi K) call_isi (by rfl) T.n_isinstance (by decide +kernel) (pa_cons (pv 1) (pa_cons (pe_bltn (v := .ty "list") (u := .type "list") (by rfl) T.n_list (by decide +kernel) rfl) pa_nil))) (nomark _))))) (pss_one (ps_ret pe_bl)) pss_nil)
    (pss_cons (ps_if (pt_cmpR op_ne (pe_callB (r := rLenQ K) call_len_seq (by rfl) T.n_len PySem.boot_len (pa_cons (pv 0) pa_nil)) (pe_callB (r := rLenQ K) call_len_seq (by rfl) T.n_len PySem.boot_len (pa_cons (pv 1) pa_nil)) (nomark _)) (pss_one (ps_ret pe_bl)) pss_nil)
    (pss_one (ps_ret (pe_cmpR (r := rEqD K) (op_eqD hr.units) (pe_lc (own := [("k", 2)]) rfl sc_law_alike.nd (pi_range1 rfl T.n_range (pa_cons (pe_callB (r := rLenQ K) call_len_seq (by rfl) T.n_len PySem.boot_len (pa_cons (pv 1) pa_nil)) pa_nil)) (blkOk_by (own := [("k", 2)]) (N := ["found", "due", "k"]) (sc := (defScope (topS 50))) (by decide +kernel)) (fun _ _ _ _ _ => (pg_name (i := 2) sc_law_alike.nd rfl (by first | exact Or.inl rfl | exact Or.inr rfl))) (fun _ _ _ _ _ => pts_one (pt_not (pt_val (pe_call G (hr.mono (by omega)) rfl T.law_alike.m T.law_alike.F.kp T.law_alike.b .nil pass0 (pa_cons (pe_ix (r := rIxT K) ix_tup (pv 0) (pv 2) (fun _ _ => rfl)) (pa_cons (pe_ix (r := rIxT K) ix_tup (pv 1) (pv 2) (fun _ _ => rfl)) pa_nil)))))) (fun _ _ _ _ _ => (pv 2))) (pe_lst pa_nil) (nomark _)))))) pss_nil)
    (pss_cons (ps_if (PW.pt (pw_or (pt_cmpR op_isN (pv 1) pe_non (nomark _)) (pw_or1 (pt_val (pe_callB (r := rIsi K) call_isi (by rfl) T.n_isinstance (by decide +kernel) (pa_cons (pv 1) (pa_cons (pe_bltn (v := .ty "str") (u := .type "str") (by rfl) T.n_str (by decide +kernel) rfl) pa_nil))))))) (pss_one (ps_ret (pe_and (pe_cmpR (r := rEqD K) (op_eqD hr.units) (pv 0) (pv 1) (nomark _)) (pe_one (pe_cmpR (r := rEqD K) (op_eqD hr.units) (pe_callB (r := rIsi K) call_isi (by rfl) T.n_isinstance (by decide +kernel) (pa_cons (pv 0) (pa_cons (pe_bltn (v := .ty "str") (u := .type "str") (by rfl) T.n_str (by decide +kernel) rfl) pa_nil))) (pe_callB (r := rIsi K) call_isi (by rfl) T.n_isinstance (by decide +kernel) (pa_cons (pv 1) (pa_cons (pe_bltn (v := .ty "str") (u := .type "str") (by rfl) T.n_str (by decide +kernel) rfl) pa_nil))) (nomark _)))))) pss_nil)
    (pss_one (ps_ret (pe_and (pe_callB (r := rIsi K) call_isi (by rfl) T.n_isinstance (by decide +kernel) (pa_cons (pv 0) (pa_cons (pe_bltn (v := .ty "int") (u := .type "int") (by rfl) T.n_int (by decide +kernel) rfl) pa_nil))) (pe_and (pe_cmpR (r := rEqD K) (op_eqD hr.units) (pe_callB (r := rIsi K) call_isi (by rfl) T.n_isinstance (by decide +kernel) (pa_cons (pv 0) (pa_cons (pe_bltn (v := .ty "bool") (u := .type "bool") (by rfl) T.n_bool (by decide +kernel) rfl) pa_nil))) (pe_callB (r := rIsi K) call_isi (by rfl) T.n_isinstance (by decide +kernel) (pa_cons (pv 1) (pa_cons (pe_bltn (v := .ty "bool") (u := .type "bool") (by rfl) T.n_bool (by decide +kernel) rfl) pa_nil))) (nomark _)) (pe_one (pe_cmpR (r := rEqD K) (op_eqD hr.units) (pv 0) (pv 1) (nomark _))))))))), fun A0 ds Pd hrel => ?_⟩
    cases hrel with
    | non =>
      refine dq_out (b := false) ((db_B (dv_isiT (de_var (d := .none) rfl) (kit_tuple _) (kit_list _))).is rfl) (fun e => by cases e) fun _ => ?_
      refine dq_out (b := true) ((db_or (a := true) (b := false) (db_test ((dv_isN (de_var (d := .none) rfl)).is rfl)) fun e => by cases e).is rfl) (fun _ => ?_) (fun e => by cases e)
      exact ds_retV (dv_andV (a := true) (b := true) ((dv_eqD (de_var (d := .none) rfl) (de_var (d := .none) rfl) rfl rfl).is rfl) fun _ => (dv_eqD (dv_isi (de_var (d := .none) rfl) (kit_str _)) (dv_isi (de_var (d := .none) rfl) (kit_str _)) rfl rfl).is rfl) rfl
    | int i =>
      refine dq_out (b := false) ((db_B (dv_isiT (de_var (d := .int i) rfl) (kit_tuple _) (kit_list _))).is rfl) (fun e => by cases e) fun _ => ?_
      refine dq_out (b := false) ((db_or (a := false) (b := false) (db_test ((dv_isN (de_var (d := .int i) rfl)).is rfl)) fun e => (db_B (dv_isi (de_var (d := .int i) rfl) (kit_str _))).is rfl).is rfl) (fun e => by cases e) (fun _ => ?_)
      exact ds_retV (dv_andV (a := true) (b := true) (dv_isi (de_var (d := .int i) rfl) (kit_int _)) fun _ => (dv_andV (a := true) (b := true) ((dv_eqD (dv_isi (de_var (d := .int i) rfl) (kit_bool _)) (dv_isi (de_var (d := .int i) rfl) (kit_bool _)) rfl rfl).is rfl) fun _ => (dv_eqD (de_var (d := .int i) rfl) (de_var (d := .int i) rfl) rfl rfl).is (by show PyData.bool (i == i) = _; rw [beq_self_eq_true])).is rfl) rfl
    | tup ds h hl =>
      refine dq_out (b := true) ((db_B (dv_isiT (de_var (d := .tuple ds) rfl) (kit_tuple _) (kit_list _))).is rfl) (fun _ => ?_) (fun e => by cases e)
      refine dq_out (b := false) ((db_or (a := false) (b := false) ((db_not (db_B (dv_isiT (de_var (d := .tuple ds) rfl) (kit_tuple _) (kit_list _)))).is rfl) fun _ => (db_test (dv_neD (dv_isi (de_var (d := .tuple ds) rfl) (kit_list _)) (dv_isi (de_var (d := .tuple ds) rfl) (kit_list _)) rfl rfl)).is rfl).is rfl) (fun e => by cases e) fun _ => ?_
      refine dq_out (b := false) ((db_test (dv_neI (dv_len (de_var (d := .tuple ds) rfl) rfl) (dv_len (de_var (d := .tuple ds) rfl) rfl))).is (by simp)) (fun e => by cases e) fun _ => ?_
      refine ds_retV (d := .bool true) ((dv_eqD (d := .list []) (e := .list []) ((DN.dv (dn_lcM (fun d => d) (fun _ => false) (di_rangeV (n := ds.length) ((dv_len (d := .tuple ds) (de_var rfl) rfl).is rfl) (by omega)) (by rw [rangeD_len]; omega) fun H0' d hd => ?_)).is (by congr 1; simp)) (dv_lst da_nil (by decide)) rfl rfl).is rfl) rfl
      obtain ⟨k, hk, rfl⟩ := List.mem_map.mp hd
      have hk2 := List.mem_range.mp hk
      have hat : atI ds (k : Int) = some ds[k] := atI_nat (List.getElem?_eq_getElem hk2)
      exact ⟨_, dw_name (by decide), by repeat' (first | exact True.intro | rfl | refine ⟨?_, ?_⟩), (db_not (db_B (dv_call (das2 (dv_ixT (ds := ds) (de_var rfl) (de_var (d := dN k) rfl) hat) (dv_ixT (ds := ds) (de_var rfl) (de_var (d := dN k) rfl) hat)) (h _ (List.getElem_mem hk2))))).is rfl, fun e => by cases e⟩
theorem ok_law_alike (T : Top K mg) : FnOk P w K mg base CX0 2 T.law_alike.f T.law_alike.fd ["found", "due"] (spP K (rel_alike (rel_alike fun _ _ => False))) := alike_step T (alike_step T fn_none)
end
end WL
end
section
set_option Elab.async false
set_option linter.all false
set_option maxRecDepth 100000
namespace WL
open PySem PySem.Spec PyProof.Rows L2
theorem dtAll_app {K : PySem.W.Frag} {H : Hp} {vs us : List V} {ds es : List PyData} (h : DtAll K H vs ds) (k : DtAll K H us es) : DtAll K H (vs ++ us) (ds ++ es) := by
  induction vs generalizing ds with
  | nil => cases h; exact k
  | cons v vs ih => cases h with | cons h1 h2 => exact .cons h1 (ih h2)
def Tm.parts : Tm → List Tm
  | .atom _ => []
  | .f1 _ a => [a]
  | .f2 _ a b => [a, b]
theorem term_cases {n : Nat} {fs : List Nat} {t : Tm} (h : TmOk n fs t) : (∃ c, t = .atom c ∧ c < n) ∨ ∃ (f : Nat) (ps : List Tm), fs[f]? = some ps.length ∧ t.parts = ps ∧ encT t = .tuple (dN f :: ps.map encT) := by
  cases t with
  | atom c => exact .inl ⟨c, rfl, h⟩
  | f1 f a => exact .inr ⟨f, [a], h.1, rfl, rfl⟩
  | f2 f a b => exact .inr ⟨f, [a, b], h.1, rfl, rfl⟩
section
variable {P : Program} {w : World} {K : PySem.W.Frag} {mg : Str → Option Value} {base : Heap}
/-- fnP of a def with defaults -/
theorem fnPD {x qual : Str} {st : Stmt} {f : Addr} {fd : FuncData} {N ps : List Str} {dvs : List V} {k : Nat} {rel : List PyData → (PyData → Prop) → Prop} (G : FunD K x qual (defArgs st) (defBody st) (defScope st) dvs [] f fd) (S : FnScope N ps (defScope st)) (hlen : ∀ ds Pd, rel ds Pd → ds.length = ps.length)
    (hb : ∀ (cdv : Value) (A : Around) (outer : List Env) (s : Shared) (H : Hp) (E : XK), Room k (A.deeper (envOfC qual (defScope st) s.heap.objs.size f cdv)) →
      ∃ t, PSs (cxOf CX0 P w K mg base N qual (defScope st) f cdv A outer s H E).nox (defBody st) t ∧
        ∀ A0 ds Pd, rel ds Pd → DS ⟨K, H, A0, []⟩ t (env0 N ds) (fun _ => Pd .none) (fun d _ => Pd d) (fun _ => False) (fun _ => False)) :
    FnOk P w K mg base CX0 (k + 1) f fd ps (spP K rel) :=
  G.ok S (fun vs H Q E ⟨A0, ds, Pd, lv, hv, hr, q⟩ => by rw [hv.len]; exact hlen ds Pd hr) fun cdv A outer s H vs Q E hr ⟨A0, ds, Pd, lv, hv, hrel, q⟩ => by
    obtain ⟨t, ht, hd⟩ := hb cdv A outer s H E hr
    refine ⟨t, PSs.nox ht, hd A0 ds Pd hrel A0 H _ _ (st_start lv hv) ⟨fun δ' A' H' σ' n s' x => ?_, fun d v δ' A' H' σ' n s' x hd' => ?_, fun _ _ _ _ z => z.elim, fun _ _ _ _ z => z.elim⟩⟩
    · exact q .non .none H' n (fun a o h => s'.bs.kept a o (by rw [hid_nil]; exact h)) .non
    · exact q v d H' n (fun a o h => s'.bs.kept a o (by rw [hid_nil]; exact h)) (dp_ex (hid_sub s'.bs.sub) hd')
theorem dv_callD {F : Fx} {δ : List WSlot} {tl : TA} {ds : List PyData} {d : PyData} {rel : List PyData → (PyData → Prop) → Prop} {E : XK} {i : Int} (h : DAs F tl δ ds) (hr : rel (ds ++ [.int i]) fun z => z = d) : DV F (tCall (spP F.K rel) [.int i] E tl) δ d := fun A H σ s Q q =>
  h A H σ s _ fun vs ds' δ1 H1 ⟨e1, e2⟩ s1 x1 h1 => by
    subst e1; subst e2
    exact ⟨A, _, _, s1.live, dtAll_app h1 (.cons (.int i) .nil), hr, fun v d' H2 p2 e3 hd => q v d' _ H2 ⟨p2, rfl⟩ (s1.ex e3) (x1.trans (hid_ex e3)) hd⟩
inductive rel_term (rel : List PyData → (PyData → Prop) → Prop) : List PyData → (PyData → Prop) → Prop
  | mk (n : Nat) (fs : List Nat) (hm : MachOk n fs) (t : Tm) (ht : TmOk n fs t) (d : Nat) (hd : t.dep < d) (hr : ∀ p ∈ t.parts, rel [encM n fs, encT p, dN (d - 1)] fun z => z = .bool true) :
    rel_term rel [encM n fs, encT t, dN d] fun z => z = .bool true
theorem term_step (T : Top K mg) {k : Nat} (h2 : 2 ≤ k) {rel : List PyData → (PyData → Prop) → Prop} (G : FnOk P w K mg base CX0 k T.is_term.f T.is_term.fd ["machine", "value", "deepest"] (spP K rel)) :
    FnOk P w K mg base CX0 (k + 1) T.is_term.f T.is_term.fd ["machine", "value", "deepest"] (spP K (rel_term rel)) :=
  fnPD T.is_term.F sc_is_term (fun ds Pd h => by cases h; rfl) fun cdv A outer s H E hr => by
    refine ⟨_, (pss_cons (ps_asg (pv 0) (pg_tup rfl (pgs_cons (pg_name (i := 3) sc_is_term.nd rfl (by first | exact Or.inl rfl | exact Or.inr rfl)) (pgs_cons (pg_name (i := 4) sc_is_term.nd rfl (by first | exact Or.inl rfl | exact Or.inr rfl)) pgs_nil))))
    (pss_cons (ps_if (pt_cmpR op_lt (pv 2) pe_int (nomark _)) (pss_one (ps_ret pe_bl)) pss_nil)
    (pss_cons (ps_if (pt_not (pt_val (pe_callB (r := rIsi K) call_isi (by rfl) T.n_isinstance (by decide +kernel) (pa_cons (pv 1) (pa_cons (pe_bltn (v := .ty "tuple") (u := .type "tuple") (by rfl) T.n_tuple (by decide +kernel) rfl) pa_nil))))) (pss_one (ps_ret (pe_call (ok_is_number T) (hr.mono (by omega)) rfl T.is_number.m T.is_number.F.kp T.is_number.b .nil pass0 (pa_cons (pv 1) (pa_cons (pv 3) pa_nil))))) pss_nil)
    (pss_cons (ps_if (PW.pt (pw_or (pt_cmpR op_eq (pe_callB (r := rLenQ K) call_len_seq (by rfl) T.n_len PySem.boot_len (pa_cons (pv 1) pa_nil)) pe_int (nomark _)) (pw_or1 (pt_not (pt_val (pe_call (ok_is_number T) (hr.mono (by omega)) rfl T.is_number.m T.is_number.F.kp T.is_number.b .nil pass0 (pa_cons (pe_ix (r := rIxT K) ix_tup (pv 1) pe_int (fun _ _ => rfl)) (pa_cons (pe_callB (r := rLenQ K) call_len_seq (by rfl) T.n_len PySem.boot_len (pa_cons (pv 4) pa_nil)) pa_nil)))))))) (pss_one (ps_ret pe_bl)) pss_nil)
    (pss_cons (ps_if (pt_cmpR op_ne (pe_callB (r := rLenQ K) call_len_seq (by rfl) T.n_len PySem.boot_len (pa_cons (pv 1) pa_nil)) (pe_op op_add pe_int (pe_ix (r := rIxT K) ix_tup (pv 4) (pe_ix (r := rIxT K) ix_tup (pv 1) pe_int (fun _ _ => rfl)) (fun _ _ => rfl))) (nomark _)) (pss_one (ps_ret pe_bl)) pss_nil)
    (pss_one (ps_ret (pe_callB (r := rAll K) (cr_all rfl) (by rfl) T.n_all (by decide +kernel) (pa_cons (pe_lc (own := [("part", 5)]) rfl sc_is_term.nd (pi_tup (pe_slice (r := rSlN K) sl_tupN (pv 1) (po_some pe_int) po_none)) (blkOk_by (own := [("part", 5)]) (N := ["machine", "value", "deepest", "cells", "functions", "part"]) (sc := (defScope (topS 17))) (by decide +kernel)) (fun _ _ _ _ _ => (pg_name (i := 5) sc_is_term.nd rfl (by first | exact Or.inl rfl | exact Or.inr rfl))) (fun _ _ _ _ _ => pts_nil) (fun _ _ _ _ _ => (pe_call G (hr.mono (by omega)) rfl T.is_term.m T.is_term.F.kp T.is_term.b .nil pass0 (pa_cons (pv 0) (pa_cons (pv 5) (pa_cons (pe_op op_sub (pv 2) pe_int) pa_nil)))))) pa_nil))))))))), fun A0 ds Pd hrel => ?_⟩
    cases hrel with
    | mk n fs hm t ht d hd hrec =>
      refine dq_asgV (de_var rfl) dg2 ?_
      refine dq_out (b := false) ((db_test (dv_I0 (de_var (d := dN d) rfl) de_int fun _ => .bl _)).is (decide_eq_false (by omega))) (fun e => by cases e) fun _ => ?_
      rcases term_cases ht with ⟨c, rfl, hc⟩ | ⟨f, ps, hf, hps, et⟩
      · refine dq_out (b := true) ((db_not (db_B (dv_isi (de_var (d := dN c) rfl) (kit_tuple _)))).is rfl) (fun _ => ?_) fun e => by cases e
        exact ds_retV ((dv_call (das2 (de_var (d := dN c) rfl) (de_var (d := dN n) rfl)) (.mk (dN c) n)).is (by rw [betw_t (by omega) (by omega)])) rfl
      · rw [et]
        have hfl : f < fs.length := (List.getElem?_eq_some_iff.mp hf).1
        have h0 : atI (dN f :: ps.map encT) 0 = some (dN f) := by
          show atI _ ((0 : Nat) : Int) = _
          exact atI_nat rfl
        have hat : atI (fs.map dN) (f : Int) = some (dN ps.length) := atI_nat (by rw [List.getElem?_map, hf]; rfl)
        refine dq_out (b := false) ((db_not (db_B (dv_isi (de_var (d := .tuple (dN f :: ps.map encT)) rfl) (kit_tuple _)))).is rfl) (fun e => by cases e) fun _ => ?_
        refine dq_out (b := false) ((db_or (a := false) (b := false) ((db_test (dv_eqI (dv_len (de_var (d := .tuple (dN f :: ps.map encT)) rfl) rfl) de_int)).is (decide_eq_false (by show ¬ (((dN f :: ps.map encT).length : Nat) : Int) = 0; rw [List.length_cons]; omega)))
          fun _ => (db_not (db_B (dv_call (das2 (dv_ixT (ds := dN f :: ps.map encT) (d := dN f) (de_var rfl) de_int h0) (dv_len (d := .tuple (fs.map dN)) (de_var rfl) rfl)) (.mk (dN f) _)))).is (by rw [betw_t (by omega) (by show (f : Int) ≤ ((fs.map dN).length : Nat) - 1; rw [List.length_map]; omega)]; rfl)).is rfl) (fun e => by cases e) fun _ => ?_
        refine dq_out (b := false) ((db_test (dv_neI (dv_len (de_var (d := .tuple (dN f :: ps.map encT)) rfl) rfl) (dv_I0 (e := dN (ps.length + 1)) de_int (dv_ixT (ds := fs.map dN) (d := dN ps.length) (de_var rfl) (dv_ixT (ds := dN f :: ps.map encT) (d := dN f) (de_var rfl) de_int h0) hat) fun _ => (show dN (ps.length + 1) = .int (1 + (ps.length : Nat)) from congrArg PyData.int (by omega)) ▸ .int _))).is (by
          show (!decide (((dN f :: ps.map encT).length : Int) = ((ps.length + 1 : Nat) : Int))) = false
          rw [List.length_cons, List.length_map, decide_eq_true rfl]; rfl)) (fun e => by cases e) fun _ => ?_
        refine ds_retV (dv_allB (DN.dl (dn_map (fun _ => .bool true) (di_tup (es := ps.map encT) ((dv_slT (ds := dN f :: ps.map encT) (lo := some (1 : Nat)) (hi := none) (de_var rfl) (do_some de_int) do_none).is (by rw [cutD_drop (by rw [List.length_cons]; omega)]; rfl))) ?_ fun H0' d' hd' => ?_)) fun d' hd' => ?_) rfl
        · rw [List.length_map]
          have := hm.fr _ (List.mem_of_getElem? hf)
          omega
        · obtain ⟨p, hp, rfl⟩ := List.mem_map.mp hd'
          refine ⟨_, dw_name (by decide), by repeat' (first | exact True.intro | rfl | refine ⟨?_, ?_⟩), dv_call (das_cons (de_var rfl) (das2 (de_var (d := encT p) rfl) (dv_I0 (e := dN (d - 1)) (de_var (d := dN d) rfl) de_int fun _ => (show dN (d - 1) = .int ((d : Int) - 1) from congrArg PyData.int (by omega)) ▸ .int _))) (hrec p ?_)⟩
          rw [hps]; exact hp
        · obtain ⟨_, _, rfl⟩ := List.mem_map.mp hd'
          rfl
/-- terms of depth below k -/
def relT : Nat → List PyData → (PyData → Prop) → Prop
  | 0 => fun _ _ => False
  | k + 1 => rel_term (relT k)
theorem relT_of {n : Nat} {fs : List Nat} (hm : MachOk n fs) : ∀ (k : Nat) (t : Tm) (d : Nat), TmOk n fs t → t.dep < k → t.dep < d → relT k [encM n fs, encT t, dN d] fun z => z = .bool true
  | 0, _, _, _, h, _ => absurd h (Nat.not_lt_zero _)
  | k + 1, t, d, ht, hk, hd => .mk n fs hm t ht d hd fun p hp => by
    cases t with
    | atom c => cases hp
    | f1 f a =>
      rw [List.mem_singleton.mp hp]
      have e : (Tm.f1 f a).dep = a.dep + 1 := rfl
      exact relT_of hm k a (d - 1) ht.2 (by omega) (by omega)
    | f2 f a b =>
      have e : (Tm.f2 f a b).dep = max a.dep b.dep + 1 := rfl
      rcases List.mem_cons.mp hp with rfl | hp
      · exact relT_of hm k p (d - 1) ht.2.1 (by omega) (by omega)
      · rw [List.mem_singleton.mp hp]
        exact relT_of hm k b (d - 1) ht.2.2 (by omega) (by omega)
theorem ok_is_termK (T : Top K mg) : ∀ k : Nat, FnOk P w K mg base CX0 (k + 2) T.is_term.f T.is_term.fd ["machine", "value", "deepest"] (spP K (relT k))
  | 0 => fn_none.mono (Nat.zero_le _)
  | k + 1 => term_step T (by omega) (ok_is_termK T k)
theorem ok_is_term (T : Top K mg) : FnOk P w K mg base CX0 10 T.is_term.f T.is_term.fd ["machine", "value", "deepest"] (spP K (relT 8)) := ok_is_termK T 8
inductive rel_is_wish : List PyData → (PyData → Prop) → Prop
  | mk (n : Nat) (fs : List Nat) (hm : MachOk n fs) (x : Wish) (h1 : x.1 < n) (h2 : TmOk n fs x.2) (h3 : x.2.dep ≤ 7) : rel_is_wish [encM n fs, encWi x] fun z => z = .bool true
theorem ok_is_wish (T : Top K mg) : FnOk P w K mg base CX0 11 T.is_wish.f T.is_wish.fd ["machine", "value"] (spP K rel_is_wish) :=
  fnP T.is_wish.F sc_is_wish (fun ds Pd h => by cases h; rfl) fun cdv A outer s H E hr => by
    refine ⟨_, (pss_one (ps_ret (pe_and (pe_call (ok_is_tuple T) (hr.mono (by omega)) rfl T.is_tuple.m T.is_tuple.F.kp T.is_tuple.b .nil pass0 (pa_cons (pv 1) (pa_cons pe_int (pa_cons pe_int pa_nil)))) (pe_and (pe_call (ok_is_number T) (hr.mono (by omega)) rfl T.is_number.m T.is_number.F.kp T.is_number.b .nil pass0 (pa_cons (pe_ix (r := rIxT K) ix_tup (pv 1) pe_int (fun _ _ => rfl)) (pa_cons (pe_ix (r := rIxT K) ix_tup (pv 0) pe_int (fun _ _ => rfl)) pa_nil))) (pe_one (pe_call (ok_is_term T) (hr.mono (by omega)) rfl T.is_term.m T.is_term.F.kp T.is_term.bd.choose_spec.2 T.is_term.bd.choose_spec.1 pass0 (pa_cons (pv 0) (pa_cons (pe_ix (r := rIxT K) ix_tup (pv 1) pe_int (fun _ _ => rfl)) pa_nil)))))))), fun A0 ds Pd hrel => ?_⟩
    cases hrel with
    | mk n fs hm x h1 h2 h3 =>
      obtain ⟨c, t⟩ := x
      have h3 : t.dep ≤ 7 := h3
      have h1 : c < n := h1
      refine ds_retV (dv_andV (a := true) (b := true) ((dv_call (das_cons (de_var rfl) (das2 de_int de_int)) (.mk (encWi (c, t)) 2 2)).is rfl) fun _ => (dv_andV (a := true) (b := true) ((dv_call (das2 (dv_ixT (ds := [dN c, encT t]) (d := dN c) (de_var rfl) de_int rfl) (dv_ixT (ds := [dN n, .tuple (fs.map dN)]) (d := dN n) (de_var rfl) de_int rfl)) (.mk (dN c) n)).is (by rw [betw_t (by omega) (by omega)])) fun _ => ?_).is rfl) rfl
      exact dv_callD (i := 8) (das2 (de_var rfl) (dv_ixT (ds := [dN c, encT t]) (d := encT t) (de_var rfl) de_int rfl)) (relT_of hm 8 t 8 h2 (by omega) (by omega))
end
end WL
end
section
set_option Elab.async false
set_option linter.all false
set_option maxRecDepth 100000
namespace WL
open PySem PySem.Spec PyProof.Rows L2
section
variable {P : Program} {w : World} {K : PySem.W.Frag} {mg : Str → Option Value} {base : Heap}
theorem ds_expr {F : Fx} {te : TE} {δ : List WSlot} {N B C : List WSlot → Prop} {R : PyData → List WSlot → Prop} (h : DE F te δ fun _ δ' => N δ') : DS F (tDrop te) δ N R B C := fun A H σ D s E =>
  h A H σ s _ fun v d δ' H2 p s2 x2 hd => E.nx δ' A H2 σ p s2 x2
theorem dq_expr {F : Fx} {te : TE} {u : TS} {δ : List WSlot} {d : PyData} {N B C : List WSlot → Prop} {R : PyData → List WSlot → Prop} (h : DV F te δ d) (hu : DS F u δ N R B C) : DS F (tSeq (tDrop te) u) δ N R B C :=
  ds_seq (N1 := fun δ' => δ' = δ) (ds_expr (h.mono fun _ _ ⟨_, e⟩ => e)) fun δ1 e => by subst e; exact hu
inductive rel_check_wish_rows : List PyData → (PyData → Prop) → Prop
  | mk (n : Nat) (fs : List Nat) (hm : MachOk n fs) (k : Nat) (h3 : k ≤ 3) (wishes : List (List Wish)) (hw : WishOk n fs k wishes) : rel_check_wish_rows [encM n fs, encWs wishes] fun z => z = .none
theorem ok_check_wish_rows (T : Top K mg) : FnOk P w K mg base CX0 12 T.check_wish_rows.f T.check_wish_rows.fd ["machine", "wishes"] (spP K rel_check_wish_rows) :=
  fnP T.check_wish_rows.F sc_check_wish_rows (fun ds Pd h => by cases h; rfl) fun cdv A outer s H E hr => by
    refine ⟨_, (pss_one (ps_for PassesOwn.never rfl (pi_enumT rfl T.n_enumerate (pa_cons (pv 1) pa_nil)) (pg_tup rfl (pgs_cons (pg_name (i := 2) sc_check_wish_rows.nd rfl (by first | exact Or.inl rfl | exact Or.inr rfl)) (pgs_cons (pg_name (i := 3) sc_check_wish_rows.nd rfl (by first | exact Or.inl rfl | exact Or.inr rfl)) pgs_nil))) (pss_cons (ps_if (pt_not (pt_val (pe_callB (r := rIsi K) call_isi (by rfl) T.n_isinstance (by decide +kernel) (pa_cons (pv 3) (pa_cons (pe_bltn (v := .ty "tuple") (u := .type "tuple") (by rfl) T.n_tuple (by decide +kernel) rfl) pa_nil))))) (pss_one ps_never) pss_nil)
    (pss_one (ps_for PassesOwn.never rfl (pi_enumT rfl T.n_enumerate (pa_cons (pv 3) pa_nil)) (pg_tup rfl (pgs_cons (pg_name (i := 4) sc_check_wish_rows.nd rfl (by first | exact Or.inl rfl | exact Or.inr rfl)) (pgs_cons (pg_name (i := 5) sc_check_wish_rows.nd rfl (by first | exact Or.inl rfl | exact Or.inr rfl)) pgs_nil))) (pss_cons (ps_if (pt_not (pt_val (pe_call (ok_is_wish T) (hr.mono (by omega)) rfl T.is_wish.m T.is_wish.F.kp T.is_wish.b .nil pass0 (pa_cons (pv 0) (pa_cons (pv 5) pa_nil))))) (pss_one ps_never) pss_nil)
    (pss_one (ps_if (PW.pt (pw_and (pt_cmpR op_gt (pv 4) pe_int (nomark _)) (pw_and1 (pt_cmpR op_le (pe_ix (r := rIxT K) ix_tup (pv 5) pe_int (fun _ _ => rfl)) (pe_ix (r := rIxT K) ix_tup (pe_ix (r := rIxT K) ix_tup (pv 3) (pe_op op_sub (pv 4) pe_int) (fun _ _ => rfl)) pe_int (fun _ _ => rfl)) (nomark _))))) (pss_one ps_never) pss_nil)))))))), fun A0 ds Pd hrel => ?_⟩
    cases hrel with
    | mk n fs hm k h3 wishes hw =>
      refine ds_forV (fun i δ => ∃ s3 s4 s5 s6, δ = [.dat (encM n fs), .dat (encWs wishes), s3, s4, s5, s6]) (di_enumT (de_var rfl)) ⟨_, _, _, _, rfl⟩ ?_ fun δ' _ => rfl
      rintro i d δi hd ⟨s3, s4, s5, s6, rfl⟩
      obtain ⟨x, hx, rfl⟩ := enumD_get hd
      rw [List.getElem?_map] at hx
      obtain ⟨own, hown, rfl⟩ := Option.map_eq_some_iff.mp hx
      have hmem := List.mem_of_getElem? hown
      have hO := hw.ok own hmem
      refine ⟨_, dg2, ?_⟩
      refine dq_out (b := false) ((db_not (db_B (dv_isi (de_var (d := encOwn own) rfl) (kit_tuple _)))).is rfl) (fun e => by cases e) fun _ => ?_
      refine ds_forV (fun j δ => ∃ s5 s6, δ = [.dat (encM n fs), .dat (encWs wishes), .dat (.int (i : Nat)), .dat (encOwn own), s5, s6]) (di_enumT (de_var (d := encOwn own) rfl)) ⟨_, _, rfl⟩ ?_ fun δ' ⟨s5, s6, e⟩ => ⟨_, _, _, _, e⟩
      rintro j d δj hd ⟨s5, s6, rfl⟩
      obtain ⟨x, hx, rfl⟩ := enumD_get hd
      rw [List.getElem?_map] at hx
      obtain ⟨y, hy, rfl⟩ := Option.map_eq_some_iff.mp hx
      have hyl := hO.lt y (List.mem_of_getElem? hy)
      have hjl : j < own.length := (List.getElem?_eq_some_iff.mp hy).1
      obtain ⟨c, t⟩ := y
      refine ⟨_, dg2, ?_⟩
      refine dq_out (b := false) ((db_not (db_B (dv_call (das2 (de_var rfl) (de_var (d := encWi (c, t)) rfl)) (.mk n fs hm (c, t) hyl.1 hyl.2.1 hyl.2.2)))).is rfl) (fun e => by cases e) fun _ => ?_
      by_cases hj : 0 < j
      · obtain ⟨y0, hy0⟩ : ∃ y0, own[j - 1]? = some y0 := ⟨own[j - 1], List.getElem?_eq_getElem (by omega)⟩
        obtain ⟨c0, t0⟩ := y0
        have hlt : c0 < c := by
          have hp := List.pairwise_iff_getElem.mp hO.inc (j - 1) j (by rw [List.length_map]; omega) (by rw [List.length_map]; omega) (by omega)
          rw [List.getElem_map, List.getElem_map] at hp
          obtain ⟨q1, q2⟩ := List.getElem?_eq_some_iff.mp hy0
          obtain ⟨q3, q4⟩ := List.getElem?_eq_some_iff.mp hy
          rw [q2, q4] at hp; exact hp
        have hat : atI (own.map encWi) (((j - 1 : Nat) : Int)) = some (encWi (c0, t0)) := atI_nat (by rw [List.getElem?_map, hy0]; rfl)
        refine ds_ifB (b := false) ((db_and (a := true) (b := false) ((db_test (dv_I0 (de_var (d := dN j) rfl) de_int fun _ => .bl _)).is (decide_eq_true (by omega))) fun _ => (db_test (dv_I0 (dv_ixT (ds := [dN c, encT t]) (d := dN c) (de_var rfl) de_int rfl) (dv_ixT (ds := [dN c0, encT t0]) (d := dN c0) (dv_ixT (ds := own.map encWi) (d := encWi (c0, t0)) (de_var rfl) (dv_I0 (e := dN (j - 1)) (de_var (d := dN j) rfl) de_int fun _ => (show dN (j - 1) = .int ((j : Int) - 1) from congrArg PyData.int (by omega)) ▸ .int _) hat) de_int rfl) fun _ => .bl _)).is (decide_eq_false (by omega))).is rfl) (fun e => by cases e) fun _ => ds_next ⟨_, _, rfl⟩
      · refine ds_ifB (b := false) ((db_and (a := false) (b := false) ((db_test (dv_I0 (de_var (d := dN j) rfl) de_int fun _ => .bl _)).is (decide_eq_false (by omega))) fun e => by cases e).is rfl) (fun e => by cases e) fun _ => ds_next ⟨_, _, rfl⟩
inductive rel_check_wishes : List PyData → (PyData → Prop) → Prop
  | mk (n : Nat) (fs : List Nat) (hm : MachOk n fs) (hands : List (List Ln)) (h3 : hands.length ≤ 3) (wishes : List (List Wish)) (hw : WishOk n fs hands.length wishes) : rel_check_wishes [encM n fs, encH hands, encWs wishes] fun z => z = .none
theorem ok_check_wishes (T : Top K mg) : FnOk P w K mg base CX0 13 T.check_wishes.f T.check_wishes.fd ["machine", "hands", "wishes"] (spP K rel_check_wishes) :=
  fnP T.check_wishes.F sc_check_wishes (fun ds Pd h => by cases h; rfl) fun cdv A outer s H E hr => by
    refine ⟨_, (pss_cons (ps_if (pt_not (pt_val (pe_call (ok_is_tuple T) (hr.mono (by omega)) rfl T.is_tuple.m T.is_tuple.F.kp T.is_tuple.b .nil pass0 (pa_cons (pv 2) (pa_cons (pe_callB (r := rLenQ K) call_len_seq (by rfl) T.n_len PySem.boot_len (pa_cons (pv 1) pa_nil)) (pa_cons (pe_callB (r := rLenQ K) call_len_seq (by rfl) T.n_len PySem.boot_len (pa_cons (pv 1) pa_nil)) pa_nil)))))) (pss_one ps_never) pss_nil)
    (pss_one (ps_expr (pe_call (ok_check_wish_rows T) (hr.mono (by omega)) rfl T.check_wish_rows.m T.check_wish_rows.F.kp T.check_wish_rows.b .nil pass0 (pa_cons (pv 0) (pa_cons (pv 2) pa_nil)))))), fun A0 ds Pd hrel => ?_⟩
    cases hrel with
    | mk n fs hm hands h3 wishes hw =>
      have hlH : ∀ F : Fx, ∀ δ, δ[1]? = some (.dat (encH hands)) → DV F (tCB (rLenQ F.K) (tCons (tVar 1) tNil)) δ (.int (hands.length : Nat)) := fun F δ e => (dv_len (d := encH hands) (de_var e) rfl).is (by show PyData.int _ = _; unfold encH seqOf; rw [List.length_map])
      refine dq_out (b := false) ((db_not (db_B (dv_call (das_cons (de_var (d := encWs wishes) rfl) (das2 (hlH _ _ rfl) (hlH _ _ rfl))) (.mk (encWs wishes) _ _)))).is (by unfold encWs; rw [tupN_t (by rw [List.length_map, hw.len]; omega) (by rw [List.length_map, hw.len]; omega)]; rfl)) (fun e => by cases e) fun _ => ?_
      exact ds_expr ((dv_call (das2 (de_var rfl) (de_var rfl)) (.mk n fs hm hands.length h3 wishes hw)).mono fun _ _ _ => rfl)
/-- what the law hands over -/
structure Judged (n : Nat) (fs : List Nat) (hands : List (List Ln)) (wishes : List (List Wish)) : Prop where
  m : MachOk n fs
  h : HandsOk n fs hands
  w : WishOk n fs hands.length wishes
inductive rel_check_judged : List PyData → (PyData → Prop) → Prop
  | mk (n : Nat) (fs : List Nat) (hands : List (List Ln)) (wishes : List (List Wish)) (h : Judged n fs hands wishes) : rel_check_judged [encM n fs, encH hands, encWs wishes] fun z => z = .none
theorem ok_check_judged (T : Top K mg) : FnOk P w K mg base CX0 14 T.check_judged.f T.check_judged.fd ["machine", "hands", "wishes"] (spP K rel_check_judged) :=
  fnP T.check_judged.F sc_check_judged (fun ds Pd h => by cases h; rfl) fun cdv A outer s H E hr => by
    refine ⟨_, (pss_cons (ps_expr (pe_call (ok_check_machine T) (hr.mono (by omega)) rfl T.check_machine.m T.check_machine.F.kp T.check_machine.b .nil pass0 (pa_cons (pv 0) pa_nil)))
    (pss_cons (ps_expr (pe_call (ok_check_hands T) (hr.mono (by omega)) rfl T.check_hands.m T.check_hands.F.kp T.check_hands.b .nil pass0 (pa_cons (pv 0) (pa_cons (pv 1) pa_nil))))
    (pss_one (ps_expr (pe_call (ok_check_wishes T) (hr.mono (by omega)) rfl T.check_wishes.m T.check_wishes.F.kp T.check_wishes.b .nil pass0 (pa_cons (pv 0) (pa_cons (pv 1) (pa_cons (pv 2) pa_nil)))))))), fun A0 ds Pd hrel => ?_⟩
    cases hrel with
    | mk n fs hands wishes h =>
      refine dq_expr (dv_call (das1 (de_var rfl)) (.mk n fs h.m)) ?_
      refine dq_expr (dv_call (das2 (de_var rfl) (de_var rfl)) (.mk n fs hands h.m h.h)) ?_
      exact ds_expr ((dv_call (das_cons (de_var rfl) (das2 (de_var rfl) (de_var rfl))) (.mk n fs h.m hands h.h.h3 wishes h.w)).mono fun _ _ _ => rfl)
end
end WL
end
section
set_option Elab.async false
set_option linter.all false
set_option maxRecDepth 100000
namespace WL
open PySem PySem.Spec PyProof.Rows L2
/-- each hand at most as often as it has lines -/
def fits (hands : List (List Ln)) (ws : List Nat) : Bool := (List.range hands.length).all fun h => decide (ws.count h ≤ rowLen hands h)
section
variable {P : Program} {w : World} {K : PySem.W.Frag} {mg : Str → Option Value} {base : Heap}
inductive rel_is_weaving : List PyData → (PyData → Prop) → Prop
  | odd (hands : List (List Ln)) (d : PyData) (h : isTupD d = false) : rel_is_weaving [encH hands, d] fun z => z = .bool false
  | off (hands : List (List Ln)) (ds : List PyData) (h3 : ds.length ≤ 100) (h : ds.all (fun d => betw d 0 ((hands.length : Int) - 1)) = false) : rel_is_weaving [encH hands, .tuple ds] fun z => z = .bool false
  | nums (hands : List (List Ln)) (ws : List Nat) (h3 : ws.length ≤ 100) (hl : hands.length ≤ 3) (h : ∀ x ∈ ws, x < hands.length) : rel_is_weaving [encH hands, encW ws] fun z => z = .bool (fits hands ws)
theorem ok_is_weaving (T : Top K mg) : FnOk P w K mg base CX0 3 T.is_weaving.f T.is_weaving.fd ["hands", "value"] (spP K rel_is_weaving) :=
  fnP T.is_weaving.F sc_is_weaving (fun ds Pd h => by cases h <;> rfl) fun cdv A outer s H E hr => by
    refine ⟨_, (pss_cons (ps_if (pt_not (pt_val (pe_callB (r := rIsi K) call_isi (by rfl) T.n_isinstance (by decide +kernel) (pa_cons (pv 1) (pa_cons (pe_bltn (v := .ty "tuple") (u := .type "tuple") (by rfl) T.n_tuple (by decide +kernel) rfl) pa_nil))))) (pss_one (ps_ret pe_bl)) pss_nil)
    (pss_cons (ps_if (pt_not (pt_val (pe_callB (r := rAll K) (cr_all rfl) (by rfl) T.n_all (by decide +kernel) (pa_cons (pe_lc (own := [("hand", 2)]) rfl sc_is_weaving.nd (pi_tup (pv 1)) (blkOk_by (own := [("hand", 2)]) (N := ["hands", "value", "hand", "row"]) (sc := (defScope (topS 20))) (by decide +kernel)) (fun _ _ _ _ _ => (pg_name (i := 2) sc_is_weaving.nd rfl (by first | exact Or.inl rfl | exact Or.inr rfl))) (fun _ _ _ _ _ => pts_nil) (fun _ _ _ _ _ => (pe_call (ok_is_number T) (hr.mono (by omega)) rfl T.is_number.m T.is_number.F.kp T.is_number.b .nil pass0 (pa_cons (pv 2) (pa_cons (pe_callB (r := rLenQ K) call_len_seq (by rfl) T.n_len PySem.boot_len (pa_cons (pv 0) pa_nil)) pa_nil))))) pa_nil)))) (pss_one (ps_ret pe_bl)) pss_nil)
    (pss_one (ps_ret (pe_callB (r := rAll K) (cr_all rfl) (by rfl) T.n_all (by decide +kernel) (pa_cons (pe_lc (own := [("hand", 2), ("row", 3)]) (g := gTup K 2 (gCons (gName 2) (gCons (gName 3) gNil))) rfl sc_is_weaving.nd (pi_enumT rfl T.n_enumerate (pa_cons (pv 0) pa_nil)) (blkOk_by (own := [("hand", 2), ("row", 3)]) (N := ["hands", "value", "hand", "row"]) (sc := (defScope (topS 20))) (by decide +kernel)) (fun _ _ _ _ _ => (pg_tup rfl (pgs_cons (pg_name (i := 2) sc_is_weaving.nd rfl (by first | exact Or.inl rfl | exact Or.inr rfl)) (pgs_cons (pg_name (i := 3) sc_is_weaving.nd rfl (by first | exact Or.inl rfl | exact Or.inr rfl)) pgs_nil)))) (fun _ _ _ _ _ => pts_nil) (fun _ _ _ _ _ => (pe_cmpR op_le (pe_tcount K (pv 1) (pv 2) hr.units) (pe_callB (r := rLenQ K) call_len_seq (by rfl) T.n_len PySem.boot_len (pa_cons (pv 3) pa_nil)) (nomark _)))) pa_nil)))))), fun A0 ds Pd hrel => ?_⟩
    have hlH : ∀ (F : Fx) (hands : List (List Ln)), ∀ δ, δ[0]? = some (.dat (encH hands)) → DV F (tCB (rLenQ F.K) (tCons (tVar 0) tNil)) δ (.int (hands.length : Nat)) := fun F hands δ e => (dv_len (d := encH hands) (de_var e) rfl).is (by show PyData.int _ = _; unfold encH seqOf; rw [List.length_map])
    have first : ∀ (F : Fx) (hands : List (List Ln)) (ds : List PyData) (hF : F.K = K), True := fun _ _ _ _ => trivial
    cases hrel with
    | odd hands d h =>
      exact dq_out (b := true) ((db_not (db_B (dv_isi (de_var (d := d) rfl) (kit_tuple _)))).is (by rw [h]; rfl)) (fun _ => ds_retV de_bl rfl) fun e => by cases e
    | off hands ds h3 h =>
      refine dq_out (b := false) ((db_not (db_B (dv_isi (de_var (d := .tuple ds) rfl) (kit_tuple _)))).is rfl) (fun e => by cases e) fun _ => ?_
      refine dq_out (b := true) ((db_not (db_B (dv_all (bs := ds.map fun d => betw d 0 ((hands.length : Int) - 1)) (DN.dl ((dn_map (fun d => .bool (betw d 0 ((hands.length : Int) - 1))) (di_tup (de_var (d := .tuple ds) rfl)) (by omega) fun H0' d hd => ⟨_, dw_name (by decide), by repeat' (first | exact True.intro | rfl | refine ⟨?_, ?_⟩), dv_call (das2 (de_var rfl) (hlH _ _ _ rfl)) (.mk d _)⟩).mono fun es δ' ⟨e1, e2⟩ => ⟨by rw [e1, List.map_map]; rfl, e2⟩))))).is ?_) (fun _ => ds_retV de_bl rfl) fun e => by cases e
      rw [List.all_map]
      show (!(ds.all fun d => betw d 0 ((hands.length : Int) - 1))) = true
      rw [h]; rfl
    | nums hands ws h3 hl h =>
      refine dq_out (b := false) ((db_not (db_B (dv_isi (de_var (d := encW ws) rfl) (kit_tuple _)))).is rfl) (fun e => by cases e) fun _ => ?_
      refine dq_out (b := false) ((db_not (db_B (dv_allB (DN.dl (dn_map (fun d => .bool (betw d 0 ((hands.length : Int) - 1))) (di_tup (de_var (d := encW ws) rfl)) (by rw [List.length_map]; omega) fun H0' d hd => ⟨_, dw_name (by decide), by repeat' (first | exact True.intro | rfl | refine ⟨?_, ?_⟩), dv_call (das2 (de_var rfl) (hlH _ _ _ rfl)) (.mk d _)⟩)) ?_))).is rfl) (fun e => by cases e) fun _ => ?_
      · intro d hd
        obtain ⟨x, hx, rfl⟩ := List.mem_map.mp hd
        obtain ⟨y, hy, rfl⟩ := List.mem_map.mp hx
        rw [betw_t (by omega) (by have := h y hy; omega)]
      · let f : PyData → Bool := fun d => match d with | .tuple [.int i, r] => decide (((ws.count i.toNat : Nat) : Int) ≤ ((seqOf r).length : Nat)) | _ => false
        refine ds_retV (dv_all (bs := (enumD (hands.map encR)).map f) (DN.dl ((dn_map (fun d => .bool (f d)) (di_enumT (de_var (d := encH hands) rfl)) (by rw [enumD_len, List.length_map]; omega) fun H0' d hd => ?_).mono fun es δ' ⟨e1, e2⟩ => ⟨by rw [e1, List.map_map]; rfl, e2⟩))) ?_
        · obtain ⟨i, hi, hd⟩ := List.getElem_of_mem hd
          obtain ⟨r, hr2, rfl⟩ := enumD_get (List.getElem?_eq_some_iff.mpr ⟨hi, hd⟩)
          rw [List.getElem?_map] at hr2
          obtain ⟨row, hrow, rfl⟩ := Option.map_eq_some_iff.mp hr2
          exact ⟨_, dw2 (by decide) (by decide), by repeat' (first | exact True.intro | rfl | refine ⟨?_, ?_⟩), dv_I0 (dv_count (ws := ws) (de_var rfl) (de_var (d := dN i) rfl)) (dv_len (d := encR row) (de_var rfl) rfl) fun _ => .bl _⟩
        · have key : ∀ (i : Nat) (row : List Ln), hands[i]? = some row → f (.tuple [.int (i : Nat), encR row]) = decide (ws.count i ≤ rowLen hands i) := fun i row e => by
            show decide (((ws.count i : Nat) : Int) ≤ (((row.map encL).length : Nat) : Int)) = _
            rw [List.length_map, show rowLen hands i = row.length by unfold rowLen; rw [e]; rfl]
            exact decide_eq_decide.mpr (by omega)
          show PyData.bool _ = PyData.bool _
          congr 1
          rw [List.all_map, Bool.eq_iff_iff, fits, List.all_eq_true, List.all_eq_true]
          constructor
          · intro h2 i hi
            have hil := List.mem_range.mp hi
            have e : hands[i]? = some hands[i] := List.getElem?_eq_getElem hil
            rw [← key i _ e]
            exact h2 _ (List.mem_of_getElem? (enumD_at (by rw [List.getElem?_map, e]; rfl)))
          · intro h2 d hd
            obtain ⟨i, hi, hd⟩ := List.getElem_of_mem hd
            obtain ⟨r, hr2, rfl⟩ := enumD_get (List.getElem?_eq_some_iff.mpr ⟨hi, hd⟩)
            rw [List.getElem?_map] at hr2
            obtain ⟨row, hrow, rfl⟩ := Option.map_eq_some_iff.mp hr2
            refine (key i row hrow).trans ?_
            exact h2 i (List.mem_range.mpr (List.getElem?_eq_some_iff.mp hrow).1)
end
end WL
end
section
set_option Elab.async false
set_option linter.all false
set_option maxRecDepth 100000
namespace WL
open PySem PySem.Spec PyProof.Rows L2
/-! ### moments, steps, wishes that are due -/
def encMo (ms : List Nat) : PyData := .tuple (ms.map dN)
def msAt (ms : List Nat) (h : Nat) : Nat := (ms[h]?).getD 0
def stepAt (hands : List (List Ln)) (ms : List Nat) (h : Nat) : Nat × Ln × List Nat := (h, lineAt hands h (msAt ms h), ms.set h (msAt ms h + 1))
def canStep (hands : List (List Ln)) (ms : List Nat) (h : Nat) : Bool := decide (msAt ms h < rowLen hands h)
def stepsTo (hands : List (List Ln)) (ms : List Nat) (k : Nat) : List (Nat × Ln × List Nat) := ((List.range k).filter (canStep hands ms)).map (stepAt hands ms)
def encStep (x : Nat × Ln × List Nat) : PyData := .tuple [dN x.1, encL x.2.1, encMo x.2.2]
theorem stepsTo_succ (hands : List (List Ln)) (ms : List Nat) (k : Nat) : stepsTo hands ms (k + 1) = stepsTo hands ms k ++ if canStep hands ms k then [stepAt hands ms k] else [] := by
  unfold stepsTo
  rw [List.range_succ, List.filter_append, List.map_append]
  congr 1
  cases h : canStep hands ms k <;> simp [h]
def encPr (x : Nat × Nat) : PyData := .tuple [dN x.1, dN x.2]
def encPrs (l : List (Nat × Nat)) : PyData := .list (l.map encPr)
def duesAt (hands : List (List Ln)) (wn : List (List (Nat × Nat))) (ms : List Nat) (h : Nat) : List (Nat × Nat) := if msAt ms h = rowLen hands h then (wn[h]?).getD [] else []
def duesTo (hands : List (List Ln)) (wn : List (List (Nat × Nat))) (ms : List Nat) (k : Nat) : List (Nat × Nat) := (List.range k).flatMap (duesAt hands wn ms)
theorem duesTo_succ (hands : List (List Ln)) (wn : List (List (Nat × Nat))) (ms : List Nat) (k : Nat) : duesTo hands wn ms (k + 1) = duesTo hands wn ms k ++ duesAt hands wn ms k := by
  unfold duesTo
  rw [List.range_succ, List.flatMap_append, List.flatMap_singleton]
/-- a wished cell holds another number -/
def harmed (held : List Nat) (due : List (Nat × Nat)) : Bool := due.any fun x => !decide (((held[x.1]?).getD 0 : Int) = x.2)
section
variable {P : Program} {w : World} {K : PySem.W.Frag} {mg : Str → Option Value} {base : Heap}
inductive rel_steps : List PyData → (PyData → Prop) → Prop
  | mk (hands : List (List Ln)) (ms : List Nat) (hl : ms.length = hands.length) (h3 : hands.length ≤ 3) : rel_steps [encH hands, encMo ms] fun z => z = .list ((stepsTo hands ms hands.length).map encStep)
theorem ok_steps_from (T : Top K mg) : FnOk P w K mg base CX0 1 T.steps_from.f T.steps_from.fd ["hands", "moments"] (spP K rel_steps) :=
  fnP T.steps_from.F sc_steps_from (fun ds Pd h => by cases h; rfl) fun cdv A outer s H E hr => by
    refine ⟨_, (pss_cons (ps_set (i := 2) sc_steps_from.nd rfl (by first | exact Or.inl rfl | exact Or.inr rfl) (pe_lst pa_nil))
    (pss_cons (ps_for PassesOwn.never rfl (pi_enumT rfl T.n_enumerate (pa_cons (pv 1) pa_nil)) (pg_tup rfl (pgs_cons (pg_name (i := 3) sc_steps_from.nd rfl (by first | exact Or.inl rfl | exact Or.inr rfl)) (pgs_cons (pg_name (i := 4) sc_steps_from.nd rfl (by first | exact Or.inl rfl | exact Or.inr rfl)) pgs_nil))) (pss_one (ps_if (pt_cmpR op_lt (pv 4) (pe_callB (r := rLenQ K) call_len_seq (by rfl) T.n_len PySem.boot_len (pa_cons (pe_ix (r := rIxT K) ix_tup (pv 0) (pv 3) (fun _ _ => rfl)) pa_nil)) (nomark _)) (pss_cons (ps_set (i := 5) sc_steps_from.nd rfl (by first | exact Or.inl rfl | exact Or.inr rfl) (pe_op (r := rCatN K) op_catN (pe_op (r := rCatN K) op_catN (pe_slice (r := rSlN K) sl_tupN (pv 1) po_none (po_some (pv 3))) (pe_tupN (pa_cons (pe_op op_add (pv 4) pe_int) pa_nil))) (pe_slice (r := rSlN K) sl_tupN (pv 1) (po_some (pe_op op_add (pv 3) pe_int)) po_none)))
    (pss_one (ps_expr (pe_bm PySem.F.plainAttrs_list PySem.F.slot_list_append PySem.F.type_list_append mt_append (pv 2) (pa_cons (pe_tupN (pa_cons (pv 3) (pa_cons (pe_ix (r := rIxT K) ix_tup (pe_ix (r := rIxT K) ix_tup (pv 0) (pv 3) (fun _ _ => rfl)) (pv 4) (fun _ _ => rfl)) (pa_cons (pv 5) pa_nil)))) pa_nil))))) pss_nil)))
    (pss_one (ps_ret (pv 2))))), fun A0 ds Pd hrel => ?_⟩
    cases hrel with
    | mk hands ms hl h3 =>
      refine dq_nil fun l => ?_
      refine ds_seq (N1 := fun δ => ∃ s3 s4 s5, δ = [.dat (encH hands), .dat (encMo ms), .own l ((stepsTo hands ms hands.length).map encStep), s3, s4, s5]) ?_ ?_
      · refine ds_forV (fun i δ => ∃ s3 s4 s5, δ = [.dat (encH hands), .dat (encMo ms), .own l ((stepsTo hands ms i).map encStep), s3, s4, s5]) (di_enumT (de_var (d := encMo ms) rfl)) ⟨_, _, _, rfl⟩ ?_ ?_
        · rintro i d δi hd ⟨s3, s4, s5, rfl⟩
          obtain ⟨x, hx, rfl⟩ := enumD_get hd
          rw [List.getElem?_map] at hx
          obtain ⟨m, hm, rfl⟩ := Option.map_eq_some_iff.mp hx
          have hil : i < ms.length := (List.getElem?_eq_some_iff.mp hm).1
          have em : msAt ms i = m := by unfold msAt; rw [hm]; rfl
          obtain ⟨row, hrow⟩ : ∃ row, hands[i]? = some row := ⟨hands[i]'(by omega), List.getElem?_eq_getElem (by omega)⟩
          have erow : rowLen hands i = row.length := by unfold rowLen; rw [hrow]; rfl
          have hath : atI (hands.map encR) (i : Int) = some (encR row) := atI_nat (by rw [List.getElem?_map, hrow]; rfl)
          have ecan : canStep hands ms i = decide ((m : Int) < (row.length : Nat)) := by
            unfold canStep; rw [em, erow]; exact decide_eq_decide.mpr (by omega)
          refine ⟨_, dg2, ?_⟩
          refine ds_ifB (b := decide ((m : Int) < (row.length : Nat))) (db_test (dv_I0 (de_var (d := dN m) rfl) ((dv_len (d := encR row) (dv_ixT (ds := hands.map encR) (de_var rfl) (de_var (d := dN i) rfl) hath) rfl).is (e := .int (row.length : Nat)) (by show PyData.int _ = _; unfold encR seqOf; rw [List.length_map])) fun _ => .bl _)) (fun e => ?_) fun e => ?_
          · have hm2 : m < row.length := by have := of_decide_eq_true e; omega
            have eline : row[m]? = some (lineAt hands i m) := by
              unfold lineAt; rw [hrow]
              show _ = some ((row[m]?).getD _)
              rw [List.getElem?_eq_getElem hm2]; rfl
            have hcut : (ms.map dN).take i ++ [dN (m + 1)] ++ (ms.map dN).drop (i + 1) = (ms.set i (m + 1)).map dN := by
              rw [set_cut (dN (m + 1)) (ms.map dN) i (by rw [List.length_map]; exact hil), List.map_set]
            refine dq_setV (d := encMo (ms.set i (m + 1))) ((dv_catT (ds := (ms.map dN).take i ++ [dN (m + 1)]) (es := (ms.map dN).drop (i + 1)) (dv_catT (ds := (ms.map dN).take i) (es := [dN (m + 1)]) ((dv_slT (ds := ms.map dN) (lo := none) (hi := some (i : Nat)) (de_var rfl) do_none (do_some (de_var (d := dN i) rfl))).is (by rw [cutD_take (by rw [List.length_map]; omega)]))
              (dv_tup (das1 (dv_I0 (e := dN (m + 1)) (de_var (d := dN m) rfl) de_int fun _ => .int _)) (by show 1 ≤ 100000; decide)) ?_) ((dv_slT (ds := ms.map dN) (lo := some ((i + 1 : Nat) : Int)) (hi := none) (de_var rfl) (do_some ((dv_I0 (e := dN (i + 1)) (de_var (d := dN i) rfl) de_int fun _ => .int _))) do_none).is (by rw [cutD_drop (by rw [List.length_map]; omega)])) ?_).is (by rw [hcut]; rfl)) ?_
            · rw [List.length_take, List.length_map]; show _ + 1 ≤ 100000; omega
            · rw [List.length_append, List.length_take, List.length_drop, List.length_map]; show _ + 1 + _ ≤ 100000; omega
            · refine ds_append (l := l) rfl ((dv_tup (das_cons (de_var (d := dN i) rfl) (das2 (dv_ixT (ds := row.map encL) (d := encL (lineAt hands i m)) (dv_ixT (ds := hands.map encR) (d := encR row) (de_var rfl) (de_var (d := dN i) rfl) hath) (de_var (d := dN m) rfl) (atI_nat (by rw [List.getElem?_map, eline]; rfl))) (de_var rfl))) (by show 3 ≤ 100000; decide)).mono fun d' δ' ⟨e1, e2⟩ => ?_)
              subst e1; subst e2
              refine ⟨_, rfl, ?_, .dat (dN i), .dat (dN m), .dat (encMo (ms.set i (m + 1))), ?_⟩
              · have : (stepsTo hands ms i).length ≤ i := by
                  unfold stepsTo; rw [List.length_map]
                  exact Nat.le_trans (List.length_filter_le _ _) (by rw [List.length_range]; exact Nat.le_refl _)
                rw [List.length_map]; omega
              · rw [stepsTo_succ, ecan, e, if_pos rfl, List.map_append]
                show [_, _, WSlot.own l (_ ++ [PyData.tuple [dN i, encL (lineAt hands i m), encMo (ms.set i (m + 1))]]), _, _, _] = _
                have : stepAt hands ms i = (i, lineAt hands i m, ms.set i (m + 1)) := by unfold stepAt; rw [em]
                rw [this]; rfl
          · refine ds_next ⟨.dat (dN i), .dat (dN m), s5, ?_⟩
            rw [stepsTo_succ, ecan, e, if_neg Bool.false_ne_true, List.append_nil]; rfl
        · rintro δ' ⟨s3, s4, s5, rfl⟩
          rw [enumD_len, List.length_map, hl]
          exact ⟨s3, s4, s5, rfl⟩
      · rintro δ1 ⟨s3, s4, s5, rfl⟩
        exact ds_retO (l := l) rfl rfl (.inl rfl)
inductive rel_harmed : List PyData → (PyData → Prop) → Prop
  | mk (held : List Nat) (due : List (Nat × Nat)) (hc : ∀ x ∈ due, x.1 < held.length) (hz : due.length ≤ 1000) : rel_harmed [.tuple (held.map dN), encPrs due] fun z => z = .bool (harmed held due)
theorem ok_is_harmed (T : Top K mg) : FnOk P w K mg base CX0 1 T.is_harmed.f T.is_harmed.fd ["held", "due"] (spP K rel_harmed) :=
  fnP T.is_harmed.F sc_is_harmed (fun ds Pd h => by cases h; rfl) fun cdv A outer s H E hr => by
    refine ⟨_, (pss_one (ps_ret (pe_callB (r := rAny K) (cr_any rfl) (by rfl) T.n_any (by decide +kernel) (pa_cons (pe_lc (own := [("cell", 2), ("number", 3)]) (g := gTup K 2 (gCons (gName 2) (gCons (gName 3) gNil))) rfl sc_is_harmed.nd (pi_list (pv 1)) (blkOk_by (own := [("cell", 2), ("number", 3)]) (N := ["held", "due", "cell", "number"]) (sc := (defScope (topS 44))) (by decide +kernel)) (fun _ _ _ _ _ => (pg_tup rfl (pgs_cons (pg_name (i := 2) sc_is_harmed.nd rfl (by first | exact Or.inl rfl | exact Or.inr rfl)) (pgs_cons (pg_name (i := 3) sc_is_harmed.nd rfl (by first | exact Or.inl rfl | exact Or.inr rfl)) pgs_nil)))) (fun _ _ _ _ _ => pts_nil) (fun _ _ _ _ _ => (pe_cmpR op_ne (pe_ix (r := rIxT K) ix_tup (pv 0) (pv 2) (fun _ _ => rfl)) (pv 3) (nomark _)))) pa_nil)))), fun A0 ds Pd hrel => ?_⟩
    cases hrel with
    | mk held due hc hz =>
      let f : PyData → Bool := fun d => match d with | .tuple [.int c, .int k] => !decide (((held[c.toNat]?).getD 0 : Int) = k) | _ => false
      refine ds_retV (dv_any (bs := (due.map encPr).map f) (DN.dl ((dn_map (fun d => .bool (f d)) (di_list (es := due.map encPr) (de_var rfl)) (by rw [List.length_map]; omega) fun H0' d hd => ?_).mono fun es δ' ⟨e1, e2⟩ => ⟨e1.trans List.map_map.symm, e2⟩))) ?_
      · obtain ⟨x, hx, rfl⟩ := List.mem_map.mp hd
        obtain ⟨c, k⟩ := x
        have hcl : c < held.length := hc _ hx
        have hat : atI (held.map dN) (c : Int) = some (dN ((held[c]?).getD 0)) := atI_nat (by rw [List.getElem?_map, List.getElem?_eq_getElem hcl]; rfl)
        exact ⟨_, dw2 (by decide) (by decide), by repeat' (first | exact True.intro | rfl | refine ⟨?_, ?_⟩), dv_neI (dv_ixT (ds := held.map dN) (d := dN ((held[c]?).getD 0)) (de_var rfl) (de_var (d := dN c) rfl) hat) (de_var (d := dN k) rfl)⟩
      · show PyData.bool _ = PyData.bool _
        congr 1
        rw [List.any_map, List.any_map]
        rfl
inductive rel_dues : List PyData → (PyData → Prop) → Prop
  | mk (hands : List (List Ln)) (wn : List (List (Nat × Nat))) (ms : List Nat) (hl : ms.length = hands.length) (hw : wn.length = hands.length) (h3 : hands.length ≤ 3) (hz : ∀ o ∈ wn, o.length ≤ 100) :
    rel_dues [encH hands, .list (wn.map encPrs), encMo ms] fun z => z = encPrs (duesTo hands wn ms hands.length)
theorem ok_due_wishes (T : Top K mg) : FnOk P w K mg base CX0 1 T.due_wishes.f T.due_wishes.fd ["hands", "wished", "moments"] (spP K rel_dues) :=
  fnP T.due_wishes.F sc_due_wishes (fun ds Pd h => by cases h; rfl) fun cdv A outer s H E hr => by
    refine ⟨_, (pss_cons (ps_set (i := 3) sc_due_wishes.nd rfl (by first | exact Or.inl rfl | exact Or.inr rfl) (pe_lst pa_nil))
    (pss_cons (ps_for PassesOwn.never rfl (pi_enumT rfl T.n_enumerate (pa_cons (pv 0) pa_nil)) (pg_tup rfl (pgs_cons (pg_name (i := 4) sc_due_wishes.nd rfl (by first | exact Or.inl rfl | exact Or.inr rfl)) (pgs_cons (pg_name (i := 5) sc_due_wishes.nd rfl (by first | exact Or.inl rfl | exact Or.inr rfl)) pgs_nil))) (pss_one (ps_if (pt_cmpR op_eq (pe_ix (r := rIxT K) ix_tup (pv 2) (pv 4) (fun _ _ => rfl)) (pe_callB (r := rLenQ K) call_len_seq (by rfl) T.n_len PySem.boot_len (pa_cons (pv 5) pa_nil)) (nomark _)) (pss_one (ps_expr (pe_bm (r := rExtQ K) PySem.F.plainAttrs_list PySem.F.slot_list_extend PySem.F.type_list_extend mt_extQ (pv 3) (pa_cons (pe_ix (r := rIxL K) ix_list (pv 1) (pv 4) (fun _ _ => rfl)) pa_nil)))) pss_nil)))
    (pss_one (ps_ret (pv 3))))), fun A0 ds Pd hrel => ?_⟩
    cases hrel with
    | mk hands wn ms hl hw h3 hz =>
      refine dq_nil fun l => ?_
      refine ds_seq (N1 := fun δ => ∃ s4 s5, δ = [.dat (encH hands), .dat (.list (wn.map encPrs)), .dat (encMo ms), .own l ((duesTo hands wn ms hands.length).map encPr), s4, s5]) ?_ ?_
      · refine ds_forV (fun i δ => (duesTo hands wn ms i).length ≤ 100 * i ∧ ∃ s4 s5, δ = [.dat (encH hands), .dat (.list (wn.map encPrs)), .dat (encMo ms), .own l ((duesTo hands wn ms i).map encPr), s4, s5]) (di_enumT (de_var (d := encH hands) rfl)) ⟨Nat.le_refl _, _, _, rfl⟩ ?_ ?_
        · rintro i d δi hd ⟨hle, s4, s5, rfl⟩
          obtain ⟨x, hx, rfl⟩ := enumD_get hd
          rw [List.getElem?_map] at hx
          obtain ⟨row, hrow, rfl⟩ := Option.map_eq_some_iff.mp hx
          have hil : i < hands.length := (List.getElem?_eq_some_iff.mp hrow).1
          have erow : rowLen hands i = row.length := by unfold rowLen; rw [hrow]; rfl
          have hms : ms[i]? = some (msAt ms i) := by unfold msAt; rw [List.getElem?_eq_getElem (by omega)]; rfl
          obtain ⟨own, hown⟩ : ∃ own, wn[i]? = some own := ⟨wn[i]'(by omega), List.getElem?_eq_getElem (by omega)⟩
          have ho := hz own (List.mem_of_getElem? hown)
          refine ⟨_, dg2, ?_⟩
          refine ds_ifB (b := decide ((msAt ms i : Int) = (row.length : Nat))) (db_test (dv_eqI (dv_ixT (ds := ms.map dN) (d := dN (msAt ms i)) (de_var rfl) (de_var (d := dN i) rfl) (atI_nat (by rw [List.getElem?_map, hms]; rfl))) ((dv_len (d := encR row) (de_var rfl) rfl).is (e := .int (row.length : Nat)) (by show PyData.int _ = _; unfold encR seqOf; rw [List.length_map])))) (fun e => ?_) fun e => ?_
          · have e1 : duesAt hands wn ms i = own := by
              unfold duesAt
              rw [erow, if_pos (by have := of_decide_eq_true e; omega), hown]; rfl
            refine ds_extend (l := l) rfl (DL.mono (dl_v (ds := own.map encPr) (dv_ixL (ds := wn.map encPrs) (d := encPrs own) (de_var rfl) (de_var (d := dN i) rfl) (atI_nat (by rw [List.getElem?_map, hown]; rfl)))) fun es δ' ⟨q1, q2⟩ => ?_)
            subst q1; subst q2
            refine ⟨_, rfl, by rw [List.length_map, List.length_map]; omega, ?_, .dat (dN i), .dat (encR row), ?_⟩
            · rw [duesTo_succ, e1, List.length_append]; omega
            · rw [duesTo_succ, e1, List.map_append]; rfl
          · have e1 : duesAt hands wn ms i = [] := by
              unfold duesAt
              rw [erow, if_neg (by have := of_decide_eq_false e; omega)]
            refine ds_next ⟨?_, .dat (dN i), .dat (encR row), ?_⟩
            · rw [duesTo_succ, e1, List.append_nil]; omega
            · rw [duesTo_succ, e1, List.append_nil]; rfl
        · rintro δ' ⟨_, s4, s5, rfl⟩
          rw [enumD_len, List.length_map]
          exact ⟨s4, s5, rfl⟩
      · rintro δ1 ⟨s4, s5, rfl⟩
        exact ds_retO (l := l) rfl rfl (.inl rfl)
end
end WL
end
section
set_option Elab.async false
set_option linter.all false
set_option maxRecDepth 100000
namespace WL
open PySem PySem.Spec PyProof.Rows L2
/-! ### the book of terms -/
def ix (ts : List Tm) (t : Tm) : Nat := ts.idxOf t
def mkOf (ts : List Tm) : Tm → PyData
  | .atom _ => .none
  | .f1 f a => .tuple [dN f, .tuple [dN (ix ts a)]]
  | .f2 f a b => .tuple [dN f, .tuple [dN (ix ts a), dN (ix ts b)]]
def mkT (f : Nat) : List Tm → Tm
  | [a] => .f1 f a
  | [a, b] => .f2 f a b
  | _ => .atom 0
structure TbOk (n : Nat) (ts : List Tm) : Prop where
  pre : ts.take n = (List.range n).map .atom
  nd : ts.Nodup
  cl : ∀ t ∈ ts, ∀ p ∈ t.parts, p ∈ ts
  na : ∀ t ∈ ts.drop n, t.parts ≠ []
structure Tb where
  A : BkA
  n : Nat
  ts : List Tm
  ok : TbOk n ts
theorem ix_get {ts : List Tm} {t : Tm} (h : t ∈ ts) : ts[ix ts t]? = some t := by
  unfold ix
  have hl := List.idxOf_lt_length_iff.mpr h
  rw [List.getElem?_eq_getElem hl, List.getElem_idxOf hl]
theorem ix_inj {ts : List Tm} {t u : Tm} (h : t ∈ ts) (k : u ∈ ts) (e : ix ts t = ix ts u) : t = u := by
  have h1 := ix_get h
  rw [e, ix_get k] at h1
  exact (Option.some.inj h1).symm
theorem ix_app {ts us : List Tm} {t : Tm} (h : t ∈ ts) : ix (ts ++ us) t = ix ts t := by
  unfold ix; rw [List.idxOf_append, if_pos h]
theorem mkOf_app {ts us : List Tm} {t : Tm} (h : ∀ p ∈ t.parts, p ∈ ts) : mkOf (ts ++ us) t = mkOf ts t := by
  cases t with
  | atom c => rfl
  | f1 f a => show PyData.tuple _ = PyData.tuple _; rw [ix_app (h a (by simp [Tm.parts]))]
  | f2 f a b => show PyData.tuple _ = PyData.tuple _; rw [ix_app (h a (by simp [Tm.parts])), ix_app (h b (by simp [Tm.parts]))]
theorem dN_inj {a b : Nat} (h : dN a = dN b) : a = b := by
  injection h with h; omega
theorem mkOf_inj {ts : List Tm} {t u : Tm} (ht : t.parts ≠ []) (h : ∀ p ∈ t.parts, p ∈ ts) (k : ∀ p ∈ u.parts, p ∈ ts) (e : mkOf ts t = mkOf ts u) : t = u := by
  cases t with
  | atom c => exact absurd rfl ht
  | f1 f a => cases u with
    | atom c => cases e
    | f1 g b =>
      unfold mkOf at e
      injection e with e; injection e with e1 e; injection e with e _; injection e with e; injection e with e _
      rw [dN_inj e1, ix_inj (h a (by simp [Tm.parts])) (k b (by simp [Tm.parts])) (dN_inj e)]
    | f2 g b c =>
      unfold mkOf at e
      injection e with e; injection e with e1 e; injection e with e _; injection e with e; injection e with _ e; cases e
  | f2 f a b => cases u with
    | atom c => cases e
    | f1 g c =>
      unfold mkOf at e
      injection e with e; injection e with e1 e; injection e with e _; injection e with e; injection e with _ e; cases e
    | f2 g c d =>
      unfold mkOf at e
      injection e with e; injection e with e1 e; injection e with e _; injection e with e; injection e with e2 e; injection e with e3 e
      rw [dN_inj e1, ix_inj (h a (by simp [Tm.parts])) (k c (by simp [Tm.parts])) (dN_inj e2), ix_inj (h b (by simp [Tm.parts])) (k d (by simp [Tm.parts])) (dN_inj e3)]
theorem mkOf_ok (ts : List Tm) (t : Tm) (h : t.parts ≠ []) : KeyOk (mkOf ts t) = true ∧ ∃ ds, mkOf ts t = .tuple ds := by
  cases t with
  | atom c => exact absurd rfl h
  | f1 f a => exact ⟨rfl, _, rfl⟩
  | f2 f a b => exact ⟨rfl, _, rfl⟩
def Tb.raw (x : Tb) : RbS := ⟨x.A, rangeD x.n, x.ts.map encT, x.ts.map fun t => dN (t.dep + 1), x.ts.map (mkOf x.ts), (x.ts.drop x.n).map fun t => (mkOf x.ts t, V.int (ix x.ts t))⟩
def tb (K : PySem.W.Frag) (w : World) (C : Addr) (x : Tb) : Box := rb K w C x.raw
/-- a term is there, or is put behind -/
def addT (ts : List Tm) (t : Tm) : List Tm := if t ∈ ts then ts else ts ++ [t]
theorem addT_mem (ts : List Tm) (t : Tm) : t ∈ addT ts t := by
  unfold addT; split
  · assumption
  · simp
theorem addT_sub (ts : List Tm) (t u : Tm) (h : u ∈ ts) : u ∈ addT ts t := by
  unfold addT; split
  · exact h
  · exact List.mem_append_left _ h
theorem addT_ix (ts : List Tm) (t u : Tm) (h : u ∈ ts) : ix (addT ts t) u = ix ts u := by
  unfold addT; split
  · rfl
  · exact ix_app h
theorem addT_len (ts : List Tm) (t : Tm) : (addT ts t).length ≤ ts.length + 1 := by
  unfold addT; split
  · omega
  · simp
theorem TbOk.le {n : Nat} {ts : List Tm} (h : TbOk n ts) : n ≤ ts.length := by
  have := congrArg List.length h.pre
  rw [List.length_take, List.length_map, List.length_range] at this
  omega
theorem TbOk.add {n : Nat} {ts : List Tm} (h : TbOk n ts) {t : Tm} (hp : t.parts ≠ []) (hc : ∀ p ∈ t.parts, p ∈ ts) : TbOk n (addT ts t) := by
  unfold addT
  split
  · exact h
  · rename_i hn
    have hl := h.le
    refine ⟨by rw [List.take_append_of_le_length hl]; exact h.pre, List.nodup_append.mpr ⟨h.nd, by simp, fun a ha b hb => ?_⟩, fun u hu p hp => ?_, fun u hu => ?_⟩
    · rw [List.mem_singleton.mp hb]; rintro rfl; exact hn ha
    · rcases List.mem_append.mp hu with z | z
      · exact List.mem_append_left _ (h.cl u z p hp)
      · rw [List.mem_singleton.mp z] at hp; exact List.mem_append_left _ (hc p hp)
    · rw [List.drop_append_of_le_length hl] at hu
      rcases List.mem_append.mp hu with z | z
      · exact h.na u z
      · rw [List.mem_singleton.mp z]; exact hp
theorem find_map_key {ts : List Tm} (n : Nat) (h : TbOk n ts) {t : Tm} (hp : t.parts ≠ []) (hc : ∀ p ∈ t.parts, p ∈ ts) :
    kvAt ((ts.drop n).map fun u => (mkOf ts u, V.int (ix ts u))) (mkOf ts t) = if t ∈ ts then some (.int (ix ts t)) else none := by
  unfold kvAt
  rw [List.find?_map, Option.map_map]
  have hd : ∀ u ∈ ts.drop n, (decide (keyD (mkOf ts u) = keyD (mkOf ts t)) = true ↔ u = t) := fun u hu => by
    rw [decide_eq_true_iff]
    constructor
    · intro e
      have hu2 := List.mem_of_mem_drop hu
      exact mkOf_inj (h.na u hu) (h.cl u hu2) hc (KeyOk.inj (mkOf_ok ts u (h.na u hu)).1 (mkOf_ok ts t hp).1 e)
    · rintro rfl; rfl
  by_cases hm : t ∈ ts
  · rw [if_pos hm]
    have hm2 : t ∈ ts.drop n := by
      have := List.take_append_drop n ts
      rw [← this] at hm
      rcases List.mem_append.mp hm with z | z
      · rw [h.pre] at z
        obtain ⟨c, _, rfl⟩ := List.mem_map.mp z
        exact absurd rfl hp
      · exact z
    cases e : (ts.drop n).find? ((fun e => decide (keyD e.1 = keyD (mkOf ts t))) ∘ fun u => (mkOf ts u, V.int (ix ts u))) with
    | none =>
      have := List.find?_eq_none.mp e t hm2
      exact absurd ((hd t hm2).mpr rfl) this
    | some u =>
      have h1 := List.find?_some e
      have h2 := List.mem_of_find?_eq_some e
      have := (hd u h2).mp h1
      subst this; rfl
  · rw [if_neg hm]
    cases e : (ts.drop n).find? ((fun e => decide (keyD e.1 = keyD (mkOf ts t))) ∘ fun u => (mkOf ts u, V.int (ix ts u))) with
    | none => rfl
    | some u =>
      have h1 := List.find?_some e
      have h2 := List.mem_of_find?_eq_some e
      have := (hd u h2).mp h1
      subst this
      exact absurd (List.mem_of_mem_drop h2) hm
/-- the book has grown by what a term is -/
structure Grown (x y : Tb) (t : Tm) : Prop where
  A : y.A = x.A
  n : y.n = x.n
  ts : y.ts = addT x.ts t
theorem mkT_parts {f : Nat} {qs : List Tm} (h : qs.length = 1 ∨ qs.length = 2) : (mkT f qs).parts = qs := by
  match qs, h with
  | [a], _ => rfl
  | [a, b], _ => rfl
  | [], h => simp at h
  | a :: b :: c :: r, h => simp at h
theorem mkT_enc {f : Nat} {qs : List Tm} (h : qs.length = 1 ∨ qs.length = 2) : encT (mkT f qs) = .tuple (dN f :: qs.map encT) := by
  match qs, h with
  | [a], _ => rfl
  | [a, b], _ => rfl
  | [], h => simp at h
  | a :: b :: c :: r, h => simp at h
theorem mkT_key {ts : List Tm} {f : Nat} {qs : List Tm} (h : qs.length = 1 ∨ qs.length = 2) : mkOf ts (mkT f qs) = .tuple [dN f, .tuple (qs.map fun q => dN (ix ts q))] := by
  match qs, h with
  | [a], _ => rfl
  | [a, b], _ => rfl
  | [], h => simp at h
  | a :: b :: c :: r, h => simp at h
theorem mkT_dep {f : Nat} {q : Tm} {qs : List Tm} (h : (q :: qs).length = 1 ∨ (q :: qs).length = 2) : (1 : Int) + maxI ((q.dep + 1 : Nat) : Int) (qs.map fun t => ((t.dep + 1 : Nat) : Int)) = ((mkT f (q :: qs)).dep + 1 : Nat) := by
  match qs, h with
  | [], _ => show (1 : Int) + ((q.dep + 1 : Nat) : Int) = ((q.dep + 1 + 1 : Nat) : Int); omega
  | [b], _ => show (1 : Int) + max ((q.dep + 1 : Nat) : Int) ((b.dep + 1 : Nat) : Int) = ((max q.dep b.dep + 1 + 1 : Nat) : Int); omega
  | a :: b :: r, h => simp at h
section
variable {P : Program} {w : World} {K : PySem.W.Frag} {mg : Str → Option Value} {base : Heap}
inductive rel_made : Tb → List PyData → (PyData → Tb → Prop) → Prop
  | mk (x : Tb) (f : Nat) (qs : List Tm) (h12 : qs.length = 1 ∨ qs.length = 2) (hq : ∀ q ∈ qs, q ∈ x.ts) (hl : x.ts.length < 1000000) :
    rel_made x [dN f, .tuple (qs.map fun q => dN (ix x.ts q))] fun d y => Grown x y (mkT f qs) ∧ d = dN (ix y.ts (mkT f qs))
theorem ok_tb_made (T : Top K mg) : FnOk P w K mg base CX0 1 T.tb_made.f T.tb_made.fd ["self", "function", "parts"] (spI K (tb K w T.tb) rel_made) :=
  fnI T.tb_made.F sc_TermBook_made (fun y es Pd h => by cases h; rfl) (by decide) fun cdv A outer s H E hr => by
    refine ⟨_, (pss_cons (ps_set (i := 3) sc_TermBook_made.nd rfl (by first | exact Or.inl rfl | exact Or.inr rfl) (pe_tupN (pa_cons (pv 1) (pa_cons (pv 2) pa_nil))))
    (pss_cons (ps_if (pt_cmpR (r := rDkNotIn K w) (op_dkNotIn (hu9 hr)) (pv 3) (pe_fldN K (pv 0) rfl) rfl) (pss_cons (ps_asg (pe_callB (r := rLenQ K) call_len_seq (by rfl) T.n_len PySem.boot_len (pa_cons (pe_fldN K (pv 0) rfl) pa_nil)) (pg_sub (pe_fldN K (pv 0) rfl) (pv 3) (set_dk (hu9 hr))))
    (pss_cons (ps_expr (pe_bm PySem.F.plainAttrs_list PySem.F.slot_list_append PySem.F.type_list_append mt_append (pe_fldN K (pv 0) rfl) (pa_cons (pe_tupN (pa_cons (pv 1) (StX.pa_star (pe_lc (own := [("part", 4)]) rfl sc_TermBook_made.nd (pi_tup (pv 2)) (blkOk_by (own := [("part", 4)]) (N := ["self", "function", "parts", "key", "part"]) (sc := (defScope (inClass (topS 25) 1))) (by decide +kernel)) (fun _ _ _ _ _ => (pg_name (i := 4) sc_TermBook_made.nd rfl (by first | exact Or.inl rfl | exact Or.inr rfl))) (fun _ _ _ _ _ => pts_nil) (fun _ _ _ _ _ => (pe_ix (r := rIxL K) ix_list (pe_fldN K (pv 0) rfl) (pv 4) (fun _ _ => rfl)))) pa_nil))) pa_nil)))
    (pss_cons (ps_expr (pe_bm PySem.F.plainAttrs_list PySem.F.slot_list_append PySem.F.type_list_append mt_append (pe_fldN K (pv 0) rfl) (pa_cons (pe_op op_add pe_int (pe_callB (r := rMax K) (cr_max rfl) (by rfl) T.n_max (by decide +kernel) (pa_cons (pe_lc (own := [("part", 4)]) rfl sc_TermBook_made.nd (pi_tup (pv 2)) (blkOk_by (own := [("part", 4)]) (N := ["self", "function", "parts", "key", "part"]) (sc := (defScope (inClass (topS 25) 1))) (by decide +kernel)) (fun _ _ _ _ _ => (pg_name (i := 4) sc_TermBook_made.nd rfl (by first | exact Or.inl rfl | exact Or.inr rfl))) (fun _ _ _ _ _ => pts_nil) (fun _ _ _ _ _ => (pe_ix (r := rIxL K) ix_list (pe_fldN K (pv 0) rfl) (pv 4) (fun _ _ => rfl)))) pa_nil))) pa_nil)))
    (pss_one (ps_expr (pe_bm PySem.F.plainAttrs_list PySem.F.slot_list_append PySem.F.type_list_append mt_append (pe_fldN K (pv 0) rfl) (pa_cons (pv 3) pa_nil))))))) pss_nil)
    (pss_one (ps_ret (pe_dkget (hu9 hr) (pe_fldN K (pv 0) rfl) (pv 3) (fun _ _ => rfl)))))), fun A0 x es Pd hrel => ?_⟩
    cases hrel with
    | mk f qs h12 hq hl =>
      have c := T.tb_c
      have hpp : (mkT f qs).parts = qs := mkT_parts h12
      have hpn : (mkT f qs).parts ≠ [] := by rw [hpp]; intro z; rw [z] at h12; simp at h12
      have hpc : ∀ p ∈ (mkT f qs).parts, p ∈ x.ts := by rw [hpp]; exact hq
      have hz : x.ts.length < sizeLine := by have : 1000000 < sizeLine := by decide
                                             omega
      obtain ⟨kok, kds⟩ := mkOf_ok x.ts (mkT f qs) hpn
      have hfind := find_map_key x.n x.ok hpn hpc
      refine dq_setV (d := mkOf x.ts (mkT f qs)) ((dv_tup (das2 (de_var rfl) (de_var rfl)) (by show 2 ≤ 100000; decide)).is (mkT_key h12).symm) ?_
      by_cases hm : mkT f qs ∈ x.ts
      · rw [if_pos hm] at hfind
        refine ds_seq (N1 := fun δ => δ = [.box (tb K w T.tb x), .dat (dN f), .dat (.tuple (qs.map fun q => dN (ix x.ts q))), .dat (mkOf x.ts (mkT f qs)), .no]) (ds_ifB (b := false) (db_test ((dv_rbNotIn (x := x.raw) c rfl (de_var rfl) kok kds).is (by show PyData.bool (!(kvAt x.raw.kvs _).isSome) = _; rw [show kvAt x.raw.kvs _ = _ from hfind]; rfl))) (fun e => by cases e) fun _ => ds_next rfl) ?_
        rintro δ1 rfl
        exact ds_retV (dv_rbNum (x := x.raw) c rfl (de_var rfl) kok kds hfind) ⟨x, rfl, rfl, rfl, ⟨rfl, rfl, by unfold addT; rw [if_pos hm]⟩, rfl⟩
      · rw [if_neg hm] at hfind
        have ets : addT x.ts (mkT f qs) = x.ts ++ [mkT f qs] := by unfold addT; rw [if_neg hm]
        let y : Tb := ⟨x.A, x.n, x.ts ++ [mkT f qs], ets ▸ x.ok.add hpn hpc⟩
        have eix : ix y.ts (mkT f qs) = x.ts.length := by
          show List.idxOf _ (x.ts ++ [_]) = _
          rw [List.idxOf_append, if_neg hm]; simp
        have eraw : y.raw = ⟨x.A, rangeD x.n, x.ts.map encT ++ [encT (mkT f qs)], (x.ts.map fun t => dN (t.dep + 1)) ++ [dN ((mkT f qs).dep + 1)], x.ts.map (mkOf x.ts) ++ [mkOf x.ts (mkT f qs)], ((x.ts.drop x.n).map fun t => (mkOf x.ts t, V.int (ix x.ts t))) ++ [(mkOf x.ts (mkT f qs), V.int (x.ts.length : Nat))]⟩ := by
          have e1 : (x.ts ++ [mkT f qs]).map (mkOf (x.ts ++ [mkT f qs])) = x.ts.map (mkOf x.ts) ++ [mkOf x.ts (mkT f qs)] := by
            rw [List.map_append]
            congr 1
            · exact List.map_congr_left fun t ht => mkOf_app (x.ok.cl t ht)
            · show [mkOf _ _] = _; rw [mkOf_app hpc]
          have e2 : ((x.ts ++ [mkT f qs]).drop x.n).map (fun t => (mkOf (x.ts ++ [mkT f qs]) t, V.int (ix (x.ts ++ [mkT f qs]) t))) = ((x.ts.drop x.n).map fun t => (mkOf x.ts t, V.int (ix x.ts t))) ++ [(mkOf x.ts (mkT f qs), V.int (x.ts.length : Nat))] := by
            rw [List.drop_append_of_le_length x.ok.le, List.map_append]
            congr 1
            · refine List.map_congr_left fun t ht => ?_
              have ht2 := List.mem_of_mem_drop ht
              rw [mkOf_app (x.ok.cl t ht2), ix_app ht2]
            · show [(mkOf _ _, V.int (ix _ _))] = _; rw [mkOf_app hpc, show ix (x.ts ++ [mkT f qs]) (mkT f qs) = x.ts.length from eix]
          show RbS.mk x.A (rangeD x.n) _ _ _ _ = _
          rw [show y.ts = x.ts ++ [mkT f qs] from rfl, show y.n = x.n from rfl, e1, e2, List.map_append, List.map_append]; rfl
        refine ds_seq (N1 := fun δ => δ = [.box (tb K w T.tb y), .dat (dN f), .dat (.tuple (qs.map fun q => dN (ix x.ts q))), .dat (mkOf x.ts (mkT f qs)), .no]) (ds_ifB (b := true) (db_test ((dv_rbNotIn (x := x.raw) c rfl (de_var rfl) kok kds).is (by show PyData.bool (!(kvAt x.raw.kvs _).isSome) = _; rw [show kvAt x.raw.kvs _ = _ from hfind]; rfl))) (fun _ => ?_) fun e => by cases e) ?_
        · let x1 : RbS := { x.raw with kvs := x.raw.kvs ++ [(mkOf x.ts (mkT f qs), .int (x.ts.length : Nat))] }
          let x2 : RbS := { x1 with ts := x1.ts ++ [encT (mkT f qs)] }
          let x3 : RbS := { x2 with ds := x2.ds ++ [dN ((mkT f qs).dep + 1)] }
          let env : RbS → List WSlot := fun z => [.box (rb K w T.tb z), .dat (dN f), .dat (.tuple (qs.map fun q => dN (ix x.ts q))), .dat (mkOf x.ts (mkT f qs)), .no]
          refine ds_seq (N1 := fun δ => δ = env x1) (ds_rbPut (x := x.raw) c rfl (by show (List.map _ _).length < _; rw [List.length_map, List.length_drop]; omega) ((dv_lenL (dl_rbTerms (x := x.raw) c rfl)).is (e := .int (x.ts.length : Nat)) (by show PyData.int _ = _; rw [show x.raw.ts = x.ts.map encT from rfl, List.length_map])) (de_var rfl) kok kds hfind rfl) ?_
          rintro δ1 rfl
          refine ds_seq (N1 := fun δ => δ = env x2) (ds_rbTerm (x := x1) c rfl (by show (List.map _ _).length < _; rw [List.length_map]; exact hz) ?_ rfl) ?_
          · refine DV.is (de_tup (P := is1 _ (.tuple (dN f :: qs.map encT))) (PA := is1 _ (dN f :: qs.map encT)) (da_cons (de_var (d := dN f) rfl) fun d δ1 ⟨e1, e2⟩ => ?_) (fun ds δ' ⟨e, _⟩ => by rw [e, List.length_cons, List.length_map]; omega) fun ds δ' ⟨e1, e2⟩ => ⟨by rw [e1], e2⟩) (mkT_enc h12).symm
            subst e1; subst e2
            refine da_star (P := is1 _ (qs.map encT)) (DN.dl ((dn_map (fun d => match d with | .int k => ((x.ts.map encT)[k.toNat]?).getD .none | _ => .none) (di_tup (es := qs.map fun q => dN (ix x.ts q)) (de_var rfl)) (by rw [List.length_map]; omega) fun H0' d hd => ?_).mono fun es δ' ⟨e1, e2⟩ => ⟨?_, e2⟩)) fun es δ1 ⟨e1, e2⟩ => ?_
            · obtain ⟨q, hq2, rfl⟩ := List.mem_map.mp hd
              have hg := ix_get (hq q hq2)
              have hg2 : (x.ts.map encT)[ix x.ts q]? = some (encT q) := by rw [List.getElem?_map, hg]; rfl
              refine ⟨_, dw_name (by decide), by repeat' (first | exact True.intro | rfl | refine ⟨?_, ?_⟩), (dv_rbTermAt (x := x1) c rfl (de_var (d := dN (ix x.ts q)) rfl) (d := encT q) (atI_nat hg2)).is ?_⟩
              show encT q = ((x.ts.map encT)[((ix x.ts q : Nat) : Int).toNat]?).getD .none
              rw [Int.toNat_natCast, hg2]; rfl
            · rw [e1, List.map_map]
              refine List.map_congr_left fun q hq2 => ?_
              have hg2 : (x.ts.map encT)[ix x.ts q]? = some (encT q) := by rw [List.getElem?_map, ix_get (hq q hq2)]; rfl
              show ((x.ts.map encT)[((ix x.ts q : Nat) : Int).toNat]?).getD .none = encT q
              rw [Int.toNat_natCast, hg2]; rfl
            · subst e1; subst e2
              exact fun A H σ s Q q => da_nil A H σ s Q fun vs ds δ' H2 ⟨e1, e2⟩ => by
                subst e1; subst e2
                exact q vs _ _ H2 ⟨by rw [List.append_nil], rfl⟩
          rintro δ1 rfl
          refine ds_seq (N1 := fun δ => δ = env x3) (ds_rbDepth (x := x2) c rfl (by show (List.map _ _).length < _; rw [List.length_map]; exact hz) ?_ rfl) ?_
          · obtain ⟨q0, qs0, rfl⟩ : ∃ q0 qs0, qs = q0 :: qs0 := by
              cases qs with
              | nil => simp at h12
              | cons a b => exact ⟨a, b, rfl⟩
            refine (dv_I0 (e := .int (1 + maxI ((q0.dep + 1 : Nat) : Int) (qs0.map fun t => ((t.dep + 1 : Nat) : Int)))) de_int (dv_maxL (DN.dl ((dn_map (fun d => match d with | .int k => ((x.ts.map fun t => dN (t.dep + 1))[k.toNat]?).getD .none | _ => .none) (di_tup (es := (q0 :: qs0).map fun q => dN (ix x.ts q)) (de_var rfl)) (by rw [List.length_map]; omega) fun H0' d hd => ?_).mono fun es δ' ⟨e1, e2⟩ => ⟨?_, e2⟩))) fun _ => .int _).is (by show PyData.int _ = _; rw [mkT_dep (f := f) h12])
            · obtain ⟨q, hq2, rfl⟩ := List.mem_map.mp hd
              have hg := ix_get (hq q hq2)
              have hg2 : (x.ts.map fun t => dN (t.dep + 1))[ix x.ts q]? = some (dN (q.dep + 1)) := by rw [List.getElem?_map, hg]; rfl
              refine ⟨_, dw_name (by decide), by repeat' (first | exact True.intro | rfl | refine ⟨?_, ?_⟩), (dv_rbDepthAt (x := x2) c rfl (de_var (d := dN (ix x.ts q)) rfl) (d := dN (q.dep + 1)) (atI_nat hg2)).is ?_⟩
              show dN (q.dep + 1) = ((x.ts.map fun t => dN (t.dep + 1))[((ix x.ts q : Nat) : Int).toNat]?).getD .none
              rw [Int.toNat_natCast, hg2]; rfl
            · rw [e1]
              have key : ∀ q ∈ q0 :: qs0, ((x.ts.map fun t => dN (t.dep + 1))[((ix x.ts q : Nat) : Int).toNat]?).getD .none = dN (q.dep + 1) := fun q hq2 => by
                have hg2 : (x.ts.map fun t => dN (t.dep + 1))[ix x.ts q]? = some (dN (q.dep + 1)) := by rw [List.getElem?_map, ix_get (hq q hq2)]; rfl
                rw [Int.toNat_natCast, hg2]; rfl
              rw [List.map_map, show (((q0.dep + 1 : Nat) : Int) :: qs0.map fun t => ((t.dep + 1 : Nat) : Int)) = (q0 :: qs0).map fun t => ((t.dep + 1 : Nat) : Int) from rfl, List.map_map]
              exact List.map_congr_left fun q hq2 => key q hq2
          rintro δ1 rfl
          refine ds_rbMaking (x := x3) c rfl (by show (List.map _ _).length < _; rw [List.length_map]; exact hz) (de_var rfl) ?_
          show _ = [WSlot.box (rb K w T.tb y.raw), _, _, _, _]
          rw [eraw]; rfl
        · rintro δ1 rfl
          refine ds_retV (dv_rbNum (x := y.raw) (n := (x.ts.length : Nat)) (d := mkOf x.ts (mkT f qs)) c rfl (de_var rfl) kok kds ?_) ⟨y, rfl, rfl, rfl, ⟨rfl, rfl, ets.symm⟩, by rw [eix]⟩
          have := find_map_key y.n y.ok hpn (fun p hp => List.mem_append_left _ (hpc p hp))
          rw [if_pos (by simp [y]), show mkOf y.ts (mkT f qs) = mkOf x.ts (mkT f qs) from mkOf_app hpc, eix] at this
          exact this
end
end WL
end
section
set_option Elab.async false
set_option linter.all false
set_option maxRecDepth 100000
namespace WL
open PySem PySem.Spec PyProof.Rows L2
theorem putF_new {f : Str} {v : V} : ∀ {fs : List (Str × V)}, fs.lookup f = none → putF f v fs = fs ++ [(f, v)]
  | [], _ => rfl
  | (g, x) :: r, h => by
    have hne : (f == g) = false := by
      cases e : (f == g) with
      | false => rfl
      | true => rw [List.lookup_cons, e] at h; cases h
    rw [lk_ne hne] at h
    show (if g = f then _ else (g, x) :: putF f v r) = _
    rw [if_neg (fun e => by subst e; simp at hne), putF_new h]; rfl
theorem tbF_put (A : BkA) : putF "numbers" (.ref A.nd) (putF "makings" (.ref A.lm) (putF "depths" (.ref A.ld) (putF "terms" (.ref A.lt) (putF "atoms" (.ref A.at_) ([] : List (Str × V)))))) = tbF A := by
  have e1 : putF ("atoms" : Str) (V.ref A.at_) ([] : List (Str × V)) = [(("atoms" : Str), V.ref A.at_)] := rfl
  rw [e1, putF_new (f := "terms") (by rw [lk_ne (by decide +kernel)]; rfl)]
  rw [putF_new (f := "depths") (by show List.lookup _ [_, _] = _; rw [lk_ne (by decide +kernel), lk_ne (by decide +kernel)]; rfl)]
  rw [putF_new (f := "makings") (by show List.lookup _ [_, _, _] = _; rw [lk_ne (by decide +kernel), lk_ne (by decide +kernel), lk_ne (by decide +kernel)]; rfl)]
  rw [putF_new (f := "numbers") (by show List.lookup _ [_, _, _, _] = _; rw [lk_ne (by decide +kernel), lk_ne (by decide +kernel), lk_ne (by decide +kernel), lk_ne (by decide +kernel)]; rfl)]
  rfl
/-- a box seen otherwise -/
theorem DS.swap {F : Fx} {t : TS} {δ : List WSlot} {N B C : List WSlot → Prop} {R : PyData → List WSlot → Prop} {i : Nat} (h : DS F t δ (fun δ' => ∃ b, δ'[i]? = some (.box b) ∧ ∀ H Hh, b.holds H Hh → ∃ b' : Box, b'.root = b.root ∧ (∀ a ∈ b'.foot, a ∈ b.foot) ∧ b'.holds H Hh ∧ N (δ'.set i (.box b'))) R B C) : DS F t δ N R B C := fun A H σ D s E =>
  h A H σ D s ⟨fun δ' A' H' σ' ⟨b, h0, q⟩ s' x => by
    obtain ⟨r1, r2, r3⟩ := s'.sd.box i _ h0
    obtain ⟨b', e1, e2, e3, n⟩ := q _ _ r3
    exact E.nx _ A' H' σ' n (s'.putBox h0 e1 ⟨fun a o e _ => e, fun a h => h, fun a h => .inl h, fun a h => s'.live a h, fun a h => ⟨r2 a (e2 a h), .inl (e2 a h)⟩⟩ e3) x, E.rt, E.bk, E.ct⟩
theorem rep_flat (n : Nat) (d : PyData) : (List.replicate n [d]).flatten = (List.range n).map fun _ => d := by
  rw [List.map_const', List.length_range]
  induction n with
  | zero => rfl
  | succ m ih => rw [List.replicate_succ, List.flatten_cons, ih]; rfl
theorem atoms_ok (n : Nat) : TbOk n ((List.range n).map .atom) where
  pre := List.take_of_length_le (by rw [List.length_map, List.length_range]; exact Nat.le_refl _)
  nd := by
    rw [List.nodup_iff_pairwise_ne, List.pairwise_map]
    exact (List.nodup_iff_pairwise_ne.mp List.nodup_range).imp fun h e => h (by injection e)
  cl := fun t ht p hp => by obtain ⟨c, _, rfl⟩ := List.mem_map.mp ht; cases hp
  na := fun t ht => by rw [List.drop_eq_nil_of_le (by rw [List.length_map, List.length_range]; exact Nat.le_refl _)] at ht; cases ht
section
variable {P : Program} {w : World} {K : PySem.W.Frag} {mg : Str → Option Value} {base : Heap}
inductive rel_tbNew (K : PySem.W.Frag) (w : World) (C : Addr) : List PyData → (Box → Prop) → Prop
  | mk (n : Nat) (fs : List Nat) (h : n ≤ 4) : rel_tbNew K w C [encM n fs] fun b => ∃ x : Tb, b = tb K w C x ∧ x.n = n ∧ x.ts = (List.range n).map .atom
theorem ok_tb_init (T : Top K mg) : FnOk P w K mg base CX0 1 T.tb_init.f T.tb_init.fd ["self", "machine"] (spNew K T.tb (rel_tbNew K w T.tb)) :=
  fnNew T.tb_init.F sc_TermBook___init (fun es Pb h => by cases h; rfl) (by decide) fun cdv A outer s H E hr => by
    refine ⟨_, (pss_cons (ps_set (i := 2) sc_TermBook___init.nd rfl (by first | exact Or.inl rfl | exact Or.inr rfl) (pe_ix (r := rIxT K) ix_tup (pv 1) pe_int (fun _ _ => rfl)))
    (pss_cons (ps_fld (pv 0) (pe_tupRgN rfl rfl T.n_tuple (prg_1 rfl T.n_range (pv 2))) rfl)
    (pss_cons (ps_fld (pv 0) (pe_listRg rfl rfl T.n_list (prg_1 rfl T.n_range (pv 2))) rfl)
    (pss_cons (ps_fld (pv 0) (pe_op op_rep (pe_lst (pa_cons pe_int pa_nil)) (pv 2)) rfl)
    (pss_cons (ps_fld (pv 0) (pe_op op_rep (pe_lst (pa_cons pe_non pa_nil)) (pv 2)) rfl)
    (pss_one (ps_fld (pv 0) pe_dknew rfl))))))), fun A0 p dx es Pb hrel => ?_⟩
    cases hrel with
    | mk n fs hn4 =>
      have c := T.tb_c
      refine dq_setV (d := dN n) (dv_ixT (de_var rfl) de_int rfl) ?_
      have l1 : ∀ fs : List (Str × V), fs.length ≤ 10 → fs.length < 1000 := fun _ h => by omega
      refine ds_seq (N1 := fun δ => ∃ v1, δ = [.box (insB T.tb p dx (putF "atoms" v1 []) (Loc.tt.dat K v1 (.tuple (rangeD n)))), .dat (encM n fs), .dat (dN n)]) (ds_insD c.cl c.atoms (by simp) rfl (dv_tupRg (n := n) (de_var rfl) (by omega)) fun v => ⟨v, rfl⟩) ?_
      rintro δ1 ⟨v1, rfl⟩
      refine ds_seq (N1 := fun δ => ∃ l2, δ = [.box (insB T.tb p dx (putF "terms" (.ref l2) (putF "atoms" v1 [])) ((Loc.tt.dat K v1 (.tuple (rangeD n))).lst K l2 (rangeD n))), .dat (encM n fs), .dat (dN n)]) (ds_insL c.cl c.terms (by simp [putF]) rfl (dn_listRg (n := n) (de_var rfl) (by omega)) fun v => ⟨v, rfl⟩) ?_
      rintro δ1 ⟨l2, rfl⟩
      refine ds_seq (N1 := fun δ => ∃ l3, δ = [.box (insB T.tb p dx (putF "depths" (.ref l3) (putF "terms" (.ref l2) (putF "atoms" v1 []))) (((Loc.tt.dat K v1 (.tuple (rangeD n))).lst K l2 (rangeD n)).lst K l3 (List.replicate n [dN 1]).flatten)), .dat (encM n fs), .dat (dN n)]) (ds_insL c.cl c.depths (by show List.length (putF _ _ [_]) < 1000; unfold putF; split <;> simp [putF]) rfl (dn_rep (k := n) (dn_lst (das1 (d := dN 1) de_int) fun ds δ' ⟨e, _⟩ => by rw [e]; show 1 ≤ 100000; decide) (de_var rfl) (by omega) (by show 1 ≤ 1000; decide)) fun v => ⟨v, rfl⟩) ?_
      rintro δ1 ⟨l3, rfl⟩
      have len2 : (putF ("terms" : Str) (V.ref l2) (putF ("atoms" : Str) v1 ([] : List (Str × V)))).length ≤ 2 := by show List.length (putF _ _ [_]) ≤ 2; unfold putF; split <;> simp [putF]
      have lenP : ∀ (f : Str) (v : V) (fs : List (Str × V)), (putF f v fs).length ≤ fs.length + 1 := fun f v fs => by
        induction fs with
        | nil => simp [putF]
        | cons a r ih => unfold putF; split
                         · simp
                         · simp only [List.length_cons]; omega
      have len3 := lenP ("depths" : Str) (.ref l3) (putF ("terms" : Str) (V.ref l2) (putF ("atoms" : Str) v1 ([] : List (Str × V))))
      refine ds_seq (N1 := fun δ => ∃ l4, δ = [.box (insB T.tb p dx (putF "makings" (.ref l4) (putF "depths" (.ref l3) (putF "terms" (.ref l2) (putF "atoms" v1 [])))) ((((Loc.tt.dat K v1 (.tuple (rangeD n))).lst K l2 (rangeD n)).lst K l3 (List.replicate n [dN 1]).flatten).lst K l4 (List.replicate n [PyData.none]).flatten)), .dat (encM n fs), .dat (dN n)]) (ds_insL c.cl c.makings (by omega) rfl (dn_rep (k := n) (dn_lst (das1 (d := .none) de_non) fun ds δ' ⟨e, _⟩ => by rw [e]; show 1 ≤ 100000; decide) (de_var rfl) (by omega) (by show 1 ≤ 1000; decide)) fun v => ⟨v, rfl⟩) ?_
      rintro δ1 ⟨l4, rfl⟩
      have len4 := lenP ("makings" : Str) (.ref l4) (putF ("depths" : Str) (.ref l3) (putF ("terms" : Str) (V.ref l2) (putF ("atoms" : Str) v1 ([] : List (Str × V)))))
      refine DS.swap (i := 0) (ds_insK (w := w) c.cl c.numbers (by omega) rfl fun l5 => ⟨_, rfl, ?_⟩)
      rintro Hx Hh ⟨q1, q2, q3, ⟨q4, ⟨q5, ⟨q6, ⟨_, qa⟩, ⟨xs, b1, b2⟩⟩, ⟨ys, c1, c2⟩⟩, ⟨zs, d1, d2⟩⟩, e1⟩
      obtain ⟨at_, _, rfl, _, _⟩ := dp_tup qa
      let BA : BkA := ⟨p, dx, at_, l2, l3, l4, l5⟩
      let x : Tb := ⟨BA, n, (List.range n).map .atom, atoms_ok n⟩
      have rep := fun d => rep_flat n d
      refine ⟨tb K w T.tb x, rfl, fun a ha => ?_, ?_, ⟨_, rfl, rfl, x, rfl, rfl, rfl⟩⟩
      · show a ∈ [p, l5, l4, l3, l2]
        have ha : a ∈ [p, l2, l3, l4, l5] := ha
        simp only [List.mem_cons, List.mem_nil_iff, or_false] at ha ⊢
        rcases ha with h | h | h | h | h <;> simp [h]
      · refine ⟨by show Hx p = some (.ins T.tb dx (tbF BA)); rw [← tbF_put BA]; exact q2, ⟨xs, b1, ?_⟩, ⟨ys, c1, ?_⟩, ⟨zs, d1, ?_⟩, ⟨[], e1, fun e he => by (cases he), ?_⟩, qa, fun e => ?_, fun e => ?_, fun e => ?_⟩
        · have : (List.map encT ((List.range n).map Tm.atom)) = rangeD n := by rw [List.map_map]; rfl
          show DtAll K Hh xs (List.map encT ((List.range n).map Tm.atom))
          rw [this]; exact b2
        · have : (List.map (fun t : Tm => dN (t.dep + 1)) ((List.range n).map Tm.atom)) = (List.range n).map fun _ => dN 1 := by rw [List.map_map]; rfl
          show DtAll K Hh ys (List.map (fun t : Tm => dN (t.dep + 1)) ((List.range n).map Tm.atom))
          rw [this, ← rep]; exact c2
        · have : (List.map (mkOf ((List.range n).map Tm.atom)) ((List.range n).map Tm.atom)) = (List.range n).map fun _ => PyData.none := by rw [List.map_map]; rfl
          show DtAll K Hh zs (List.map (mkOf ((List.range n).map Tm.atom)) ((List.range n).map Tm.atom))
          rw [this, ← rep]; exact d2
        · show [] = List.map _ (((List.range n).map Tm.atom).drop n)
          rw [List.drop_eq_nil_of_le (by rw [List.length_map, List.length_range]; exact Nat.le_refl _)]; rfl
        · exact q5 (by rw [show l2 = l3 from e]; simp)
        · exact q4 (by rw [← show l2 = l4 from e]; simp)
        · exact q4 (by rw [← show l3 = l4 from e]; simp)
/-! ### terms to numbers -/
def Tm.sz : Tm → Nat
  | .atom _ => 0
  | .f1 _ a => a.sz + 1
  | .f2 _ a b => a.sz + b.sz + 1
structure Exts (x y : Tb) (k : Nat) : Prop where
  A : y.A = x.A
  n : y.n = x.n
  ts : ∃ us, y.ts = x.ts ++ us ∧ us.length ≤ k
theorem Exts.refl (x : Tb) (k : Nat) : Exts x x k := ⟨rfl, rfl, [], by simp, Nat.zero_le _⟩
theorem Exts.trans {x y z : Tb} {k l m : Nat} (a : Exts x y k) (b : Exts y z l) (h : k + l ≤ m) : Exts x z m := by
  obtain ⟨us, e1, l1⟩ := a.ts
  obtain ⟨vs, e2, l2⟩ := b.ts
  exact ⟨b.A.trans a.A, b.n.trans a.n, us ++ vs, by rw [e2, e1, List.append_assoc], by rw [List.length_append]; omega⟩
theorem Exts.mono {x y : Tb} {k l : Nat} (a : Exts x y k) (h : k ≤ l) : Exts x y l := ⟨a.A, a.n, let ⟨us, e, q⟩ := a.ts; ⟨us, e, Nat.le_trans q h⟩⟩
theorem Exts.mem {x y : Tb} {k : Nat} (a : Exts x y k) {t : Tm} (h : t ∈ x.ts) : t ∈ y.ts := by obtain ⟨us, e, _⟩ := a.ts; rw [e]; exact List.mem_append_left _ h
theorem Exts.ix {x y : Tb} {k : Nat} (a : Exts x y k) {t : Tm} (h : t ∈ x.ts) : ix y.ts t = ix x.ts t := by obtain ⟨us, e, _⟩ := a.ts; rw [e]; exact ix_app h
theorem Exts.len {x y : Tb} {k : Nat} (a : Exts x y k) : y.ts.length ≤ x.ts.length + k := by obtain ⟨us, e, l⟩ := a.ts; rw [e, List.length_append]; omega
theorem Grown.exts {x y : Tb} {t : Tm} (h : Grown x y t) : Exts x y 1 := ⟨h.A, h.n, by
  rw [h.ts]; unfold addT; split
  · exact ⟨[], by simp, Nat.zero_le _⟩
  · exact ⟨[t], rfl, Nat.le_refl _⟩⟩
def NumPost (x : Tb) (t : Tm) : PyData → Tb → Prop := fun d y => Exts x y t.sz ∧ t ∈ y.ts ∧ d = dN (ix y.ts t)
inductive relN (K : PySem.W.Frag) : Nat → Tb → List PyData → (PyData → Tb → Prop) → Prop
  | mk (k : Nat) (x : Tb) (fs : List Nat) (t : Tm) (hm : MachOk x.n fs) (ht : TmOk x.n fs t) (hk : t.dep < k) (hl : x.ts.length + t.sz < 1000000) : relN K k x [encT t] (NumPost x t)
theorem atom_mem (x : Tb) {c : Nat} (h : c < x.n) : Tm.atom c ∈ x.ts ∧ ix x.ts (.atom c) = c := by
  have hp := x.ok.pre
  have h1 : x.ts[c]? = some (.atom c) := by
    have : (x.ts.take x.n)[c]? = some (.atom c) := by rw [hp, List.getElem?_map, List.getElem?_range h]; rfl
    rw [List.getElem?_take_of_lt h] at this
    exact this
  obtain ⟨hl, e⟩ := List.getElem?_eq_some_iff.mp h1
  refine ⟨List.mem_of_getElem? h1, ?_⟩
  unfold ix
  rw [← e]
  exact x.ok.nd.idxOf_getElem c hl
theorem noI {α : Type} {mk : α → Box} {f : Addr} {fd : FuncData} {ps : List Str} {k : Nat} {rel : α → List PyData → (PyData → α → Prop) → Prop} (h : ∀ x es Pd, ¬ rel x es Pd) : FnOk P w K mg base CX0 k f fd ps (spI K mk rel) :=
  ⟨fun _ _ _ _ ⟨_, _, _, _, _, _, _, _, _, _, z, _⟩ => (h _ _ _ z).elim, fun _ _ _ _ _ _ _ _ _ _ _ _ _ ⟨_, _, _, _, _, _, _, _, _, _, z, _⟩ => (h _ _ _ z).elim⟩
theorem tb_ins (K : PySem.W.Frag) (w : World) (C : Addr) {m : Str} (h1 : (m == ("atoms" : Str)) = false) (h2 : (m == ("terms" : Str)) = false) (h3 : (m == ("depths" : Str)) = false) (h4 : (m == ("makings" : Str)) = false) (h5 : (m == ("numbers" : Str)) = false) : InsOf (tb K w C) C m :=
  fun x H Hh h => ⟨_, _, _, rfl, h.ins, tb_no _ h1 h2 h3 h4 h5⟩
end
end WL
end
section
set_option Elab.async false
set_option linter.all false
set_option maxRecDepth 100000
namespace WL
open PySem PySem.Spec PyProof.Rows L2
def szs (ps : List Tm) : Nat := (ps.map Tm.sz).sum
theorem szs_snoc (ps : List Tm) (p : Tm) : szs (ps ++ [p]) = szs ps + p.sz := by unfold szs; simp
theorem sz_mkT {f : Nat} {ps : List Tm} (h : ps.length = 1 ∨ ps.length = 2) : (mkT f ps).sz = szs ps + 1 := by
  match ps, h with
  | [a], _ => simp [mkT, szs, Tm.sz]
  | [a, b], _ => simp [mkT, szs, Tm.sz]
  | [], h => simp at h
  | a :: b :: c :: r, h => simp at h
theorem term_mkT {n : Nat} {fs : List Nat} (hm : MachOk n fs) {t : Tm} (h : TmOk n fs t) : (∃ c, t = .atom c ∧ c < n) ∨ ∃ (f : Nat) (ps : List Tm), (ps.length = 1 ∨ ps.length = 2) ∧ t = mkT f ps ∧ (∀ p ∈ ps, TmOk n fs p ∧ p.dep < t.dep) := by
  cases t with
  | atom c => exact .inl ⟨c, rfl, h⟩
  | f1 f a => exact .inr ⟨f, [a], .inl rfl, rfl, fun p hp => by rw [List.mem_singleton.mp hp]; exact ⟨h.2, by show a.dep < a.dep + 1; omega⟩⟩
  | f2 f a b => exact .inr ⟨f, [a, b], .inr rfl, rfl, fun p hp => by
      rcases List.mem_cons.mp hp with rfl | hp
      · exact ⟨h.2.1, by show p.dep < max p.dep b.dep + 1; omega⟩
      · rw [List.mem_singleton.mp hp]; exact ⟨h.2.2, by show b.dep < max a.dep b.dep + 1; omega⟩⟩
theorem szs_take (ps : List Tm) (i : Nat) : szs (ps.take i) ≤ szs ps := by
  have h := List.take_append_drop i ps
  have : szs ps = szs (ps.take i) + szs (ps.drop i) := by
    unfold szs
    rw [← List.sum_append, ← List.map_append, h]
  omega
theorem take_snoc {α : Type} {l : List α} {i : Nat} {a : α} (h : l[i]? = some a) : l.take (i + 1) = l.take i ++ [a] := by
  rw [List.take_succ, h]; rfl
theorem back3 {x y : Box} {a : WSlot} {s2 : WSlot} {z : WSlot} (hr : x.root = y.root) (hf : y.foot = x.foot) (ha : ∃ d, a = .dat d) : Back [.box x, a, s2] [.box y, a, z] [.box y, a, .no] := by
  obtain ⟨d, rfl⟩ := ha
  refine ⟨rfl, fun j d' h => ?_, fun j l ds h => ?_, fun j b h => ?_⟩
  · match j, h with
    | 0, h => simp at h
    | 1, h => simpa using h
    | 2, h => simp at h
    | j + 3, h => simp at h
  · match j, h with
    | 0, h => simp at h
    | 1, h => simp at h
    | 2, h => simp at h
    | j + 3, h => simp at h
  · match j, h with
    | 0, h => simp at h; subst h; exact ⟨rfl, x, rfl, hr, fun a ha => by rw [← hf]; exact ha⟩
    | 1, h => simp at h
    | 2, h => simp at h
    | j + 3, h => simp at h
section
variable {P : Program} {w : World} {K : PySem.W.Frag} {mg : Str → Option Value} {base : Heap}
theorem tb_root {x y : Tb} {C : Addr} (h : y.A = x.A) : (tb K w C y).root = (tb K w C x).root ∧ (tb K w C y).foot = (tb K w C x).foot := by
  show V.ref y.A.b = V.ref x.A.b ∧ y.A.foot = x.A.foot
  rw [h]; exact ⟨rfl, rfl⟩
theorem num_step (T : Top K mg) {k j : Nat} (h1 : 1 ≤ k) (G : FnOk P w K mg base CX0 k T.tb_number_of.f T.tb_number_of.fd ["self", "term"] (spI K (tb K w T.tb) (relN K j))) :
    FnOk P w K mg base CX0 (k + 1) T.tb_number_of.f T.tb_number_of.fd ["self", "term"] (spI K (tb K w T.tb) (relN K (j + 1))) :=
  fnI T.tb_number_of.F sc_TermBook_number_of (fun y es Pd h => by cases h; rfl) (by decide) fun cdv A outer s H E hr => by
    refine ⟨_, (pss_cons (ps_if (pt_not (pt_val (pe_callB (r := rIsi K) call_isi (by rfl) T.n_isinstance (by decide +kernel) (pa_cons (pv 1) (pa_cons (pe_bltn (v := .ty "tuple") (u := .type "tuple") (by rfl) T.n_tuple (by decide +kernel) rfl) pa_nil))))) (pss_one (ps_ret (pv 1))) pss_nil)
    (pss_one (ps_ret (pe_meth (pv 0) T.tb_c.cl T.tb_made.m (ok_tb_made T) (hr.mono (by omega)) T.tb_made.b .nil pass0 (pa_cons (pe_ix (r := rIxT K) ix_tup (pv 1) pe_int (fun _ _ => rfl)) (pa_cons (pe_callTy (r := rTupN K) call_tupN (by rfl) T.n_tuple (by decide +kernel) (pa_cons (pe_lc (own := [("part", 2)]) rfl sc_TermBook_number_of.nd (pi_tup (pe_slice (r := rSlN K) sl_tupN (pv 1) (po_some pe_int) po_none)) (blkOk_by (own := [("part", 2)]) (N := ["self", "term", "part"]) (sc := (defScope (inClass (topS 25) 2))) (by decide +kernel)) (fun _ _ _ _ _ => (pg_name (i := 2) sc_TermBook_number_of.nd rfl (by first | exact Or.inl rfl | exact Or.inr rfl))) (fun _ _ _ _ _ => pts_nil) (fun _ _ _ _ _ => (pe_meth (pv 0) T.tb_c.cl T.tb_number_of.m G (hr.mono (by omega)) T.tb_number_of.b .nil pass0 (pa_cons (pv 2) pa_nil)))) pa_nil)) pa_nil)))))), fun A0 x es Pd hrel => ?_⟩
    cases hrel with
    | mk fs t hm ht hk hl =>
      rcases term_mkT hm ht with ⟨c, rfl, hc⟩ | ⟨f, ps, h12, rfl, hps⟩
      · refine dq_out (b := true) ((db_not (db_B (dv_isi (de_var (d := dN c) rfl) (kit_tuple _)))).is rfl) (fun _ => ?_) fun e => by cases e
        obtain ⟨m1, m2⟩ := atom_mem x hc
        exact ds_retV (de_var (d := dN c) rfl) ⟨x, rfl, rfl, rfl, Exts.refl x _, m1, by rw [m2]⟩
      · have hE := mkT_enc (f := f) h12
        have hsz : (mkT f ps).sz = szs ps + 1 := sz_mkT h12
        rw [hE]
        refine dq_out (b := false) ((db_not (db_B (dv_isi (de_var (d := .tuple (dN f :: ps.map encT)) rfl) (kit_tuple _)))).is rfl) (fun e => by cases e) fun _ => ?_
        have h0 : atI (dN f :: ps.map encT) (0 : Int) = some (dN f) := atI_nat (show (dN f :: ps.map encT)[0]? = some (dN f) from rfl)
        have hins : ∀ m : Str, m = "made" ∨ m = "number_of" → InsOf (tb K w T.tb) T.tb m := fun m hm => by
          rcases hm with rfl | rfl
          · exact tb_ins K w T.tb (by decide +kernel) (by decide +kernel) (by decide +kernel) (by decide +kernel) (by decide +kernel)
          · exact tb_ins K w T.tb (by decide +kernel) (by decide +kernel) (by decide +kernel) (by decide +kernel) (by decide +kernel)
        refine ds_ret (de_methI (PA := fun es δ1 => ∃ y, δ1 = [.box (tb K w T.tb y), .dat (.tuple (dN f :: ps.map encT)), .no] ∧ Exts x y (szs ps) ∧ (∀ p ∈ ps, p ∈ y.ts) ∧ es = [dN f, .tuple (ps.map fun p => dN (ix y.ts p))]) (hins _ (.inl rfl)) (x := x) rfl ?_ ?_)
        · refine da_cons (P := is1 _ (dN f)) (dv_ixT (ds := dN f :: ps.map encT) (d := dN f) (de_var rfl) de_int h0) fun d δ1 ⟨e1, e2⟩ => ?_
          subst e1; subst e2
          refine da_cons (P := fun d δ1 => ∃ y, δ1 = [.box (tb K w T.tb y), .dat (.tuple (dN f :: ps.map encT)), .no] ∧ Exts x y (szs ps) ∧ (∀ p ∈ ps, p ∈ y.ts) ∧ d = .tuple (ps.map fun p => dN (ix y.ts p))) (de_tupL (PL := fun ds δ1 => ∃ y, δ1 = [.box (tb K w T.tb y), .dat (.tuple (dN f :: ps.map encT)), .no] ∧ Exts x y (szs ps) ∧ (∀ p ∈ ps, p ∈ y.ts) ∧ ds = ps.map fun p => dN (ix y.ts p)) (DN.dl (dn_lc (PI := is1 _ (ps.map encT)) (di_tup ((dv_slT (ds := dN f :: ps.map encT) (lo := some (1 : Nat)) (hi := none) (de_var rfl) (do_some de_int) do_none).is (by rw [cutD_drop (by rw [List.length_cons]; omega)]; rfl))) ?_)) ?_) ?_
          · rintro es δ1 ⟨rfl, rfl⟩
            refine ⟨by rw [List.length_map]; omega, fun i acc δi => ∃ y s2, δi = [.box (tb K w T.tb y), .dat (.tuple (dN f :: ps.map encT)), s2] ∧ (s2 = .no) ∧ Exts x y (szs (ps.take i)) ∧ (∀ p ∈ ps.take i, p ∈ y.ts) ∧ acc = (ps.take i).map fun p => dN (ix y.ts p), ⟨x, .no, rfl, rfl, Exts.refl x _, by simp, by simp⟩, ?_, ?_⟩
            · rintro H0' i acc d δi hd ⟨y, s2, rfl, rfl, hx, hin, rfl⟩
              rw [List.getElem?_map] at hd
              obtain ⟨p, hp, rfl⟩ := Option.map_eq_some_iff.mp hd
              obtain ⟨hpok, hpd⟩ := hps p (List.mem_of_getElem? hp)
              refine ⟨_, dw_name (by decide), fun A H σ s Q q => q true _ H ⟨fun _ => ?_, fun e => by cases e⟩ s (WL.Ex.refl _)⟩
              have hszi : szs (ps.take i) + p.sz ≤ szs ps := by
                have := szs_take ps (i + 1)
                rw [take_snoc hp, szs_snoc] at this; exact this
              have hlen := hx.len
              refine dv_methI (hins _ (.inr rfl)) (x := y) rfl (das1 (de_var (d := encT p) rfl)) (.mk j y fs p (by rw [hx.n]; exact hm) (by rw [hx.n]; exact hpok) (by omega) (by omega)) fun d z hz => ?_
              obtain ⟨z1, z2, rfl⟩ := hz
              obtain ⟨r1, r2⟩ := tb_root (K := K) (w := w) (C := T.tb) z1.A
              refine ⟨_, back3 (y := tb K w T.tb z) r1.symm r2 ⟨_, rfl⟩, z, .no, rfl, rfl, hx.trans z1 (by rw [take_snoc hp, szs_snoc]; omega), fun q hq => ?_, ?_⟩
              · rw [take_snoc hp] at hq
                rcases List.mem_append.mp hq with h | h
                · exact z1.mem (hin q h)
                · rw [List.mem_singleton.mp h]; exact z2
              · rw [take_snoc hp, List.map_append]
                congr 1
                exact List.map_congr_left fun q hq => by rw [z1.ix (hin q hq)]
            · rintro acc δ' ⟨y, s2, rfl, rfl, hx, hin, rfl⟩
              rw [List.length_map, List.take_length] at hx hin ⊢
              exact ⟨y, rfl, hx, hin, rfl⟩
          · rintro ds δ' ⟨y, e1, e2, e3, rfl⟩
            exact ⟨y, e1, e2, e3, rfl⟩
          · rintro d δ1 ⟨y, rfl, e2, e3, rfl⟩
            exact fun A H σ s Q q => da_nil A H σ s Q fun vs ds δ' H2 ⟨e1, e4⟩ => by
              subst e1; subst e4
              exact q vs _ _ H2 ⟨y, rfl, e2, e3, rfl⟩
        · rintro es δ1 ⟨y, rfl, hx, hin, rfl⟩
          have hlen := hx.len
          refine ⟨y, _, rfl, .mk y f ps h12 hin (by omega), fun d z ⟨hg, hd⟩ => ?_⟩
          have hxz := hx.trans hg.exts (m := (mkT f ps).sz) (by omega)
          obtain ⟨r1, r2⟩ := tb_root (K := K) (w := w) (C := T.tb) hxz.A
          exact ⟨z, rfl, r1, r2, hxz, by rw [hg.ts]; exact addT_mem _ _, hd⟩
theorem ok_tb_numK (T : Top K mg) : ∀ j : Nat, FnOk P w K mg base CX0 (j + 1) T.tb_number_of.f T.tb_number_of.fd ["self", "term"] (spI K (tb K w T.tb) (relN K j))
  | 0 => noI fun x es Pd h => by cases h with | mk fs t _ _ hk => exact absurd hk (Nat.not_lt_zero _)
  | j + 1 => num_step T (by omega) (ok_tb_numK T j)
theorem ok_tb_number_of (T : Top K mg) : FnOk P w K mg base CX0 9 T.tb_number_of.f T.tb_number_of.fd ["self", "term"] (spI K (tb K w T.tb) (relN K 8)) := ok_tb_numK T 8
end
end WL
end
section
set_option Elab.async false
set_option linter.all false
set_option maxRecDepth 100000
namespace WL
open PySem PySem.Spec PyProof.Rows L2
theorem back_of {δ δ3 δn : List WSlot} (hl : δn.length = δ.length) (h : ∀ (j : Nat) (w : WSlot), δn[j]? = some w → w = .no ∨ (∃ d, w = .dat d ∧ δ[j]? = some w) ∨ ∃ b b0 : Box, w = .box b ∧ δ3[j]? = some w ∧ δ[j]? = some (.box b0) ∧ b0.root = b.root ∧ ∀ a ∈ b.foot, a ∈ b0.foot) : Back δ δ3 δn := by
  refine ⟨hl, fun j d e => ?_, fun j l ds e => ?_, fun j b e => ?_⟩
  · rcases h j _ e with z | ⟨d', z, q⟩ | ⟨b, b0, z, _⟩
    · cases z
    · exact q
    · cases z
  · rcases h j _ e with z | ⟨d', z, q⟩ | ⟨b, b0, z, _⟩ <;> cases z
  · rcases h j _ e with z | ⟨d', z, q⟩ | ⟨b, b0, z, q1, q2, q3, q4⟩
    · cases z
    · cases z
    · injection z with z; subst z; exact ⟨q1, b0, q2, q3, q4⟩
theorem back_cons {b0 b : Box} {r r3 rn : List WSlot} (hr : b.root = b0.root) (hf : b.foot = b0.foot) (hl : rn.length = r.length) (h : ∀ (j : Nat) (w : WSlot), rn[j]? = some w → w = .no ∨ ∃ d, w = .dat d ∧ r[j]? = some w) : Back (.box b0 :: r) (.box b :: r3) (.box b :: rn) :=
  back_of (by simp [hl]) fun j w e => by
    cases j with
    | zero => simp at e; subst e; exact .inr (.inr ⟨b, b0, rfl, rfl, rfl, hr.symm, fun a ha => by rw [← hf]; exact ha⟩)
    | succ j =>
      rcases h j w (by simpa using e) with z | ⟨d, z, q⟩
      · exact .inl z
      · exact .inr (.inl ⟨d, z, by simpa using q⟩)
def szO (own : List Wish) : Nat := (own.map fun w => w.2.sz).sum
def szW (ws : List (List Wish)) : Nat := (ws.map szO).sum
theorem szO_snoc (o : List Wish) (x : Wish) : szO (o ++ [x]) = szO o + x.2.sz := by unfold szO; simp
theorem szW_snoc (o : List (List Wish)) (x : List Wish) : szW (o ++ [x]) = szW o + szO x := by unfold szW; simp
theorem szO_take (ps : List Wish) (i : Nat) : szO (ps.take i) ≤ szO ps := by
  have h := List.take_append_drop i ps
  have : szO ps = szO (ps.take i) + szO (ps.drop i) := by
    unfold szO
    rw [← List.sum_append, ← List.map_append, h]
  omega
theorem szW_take (ps : List (List Wish)) (i : Nat) : szW (ps.take i) ≤ szW ps := by
  have h := List.take_append_drop i ps
  have : szW ps = szW (ps.take i) + szW (ps.drop i) := by
    unfold szW
    rw [← List.sum_append, ← List.map_append, h]
  omega
def numO (ts : List Tm) (own : List Wish) : List (Nat × Nat) := own.map fun w => (w.1, ix ts w.2)
def numW (ts : List Tm) (ws : List (List Wish)) : List (List (Nat × Nat)) := ws.map (numO ts)
theorem numO_ext {x y : Tb} {k : Nat} (h : Exts x y k) {own : List Wish} (hm : ∀ w ∈ own, w.2 ∈ x.ts) : numO y.ts own = numO x.ts own :=
  List.map_congr_left fun w hw => by rw [h.ix (hm w hw)]
section
variable {P : Program} {w : World} {K : PySem.W.Frag} {mg : Str → Option Value} {base : Heap}
inductive rel_numbered : Tb → List PyData → (PyData → Tb → Prop) → Prop
  | mk (x : Tb) (fs : List Nat) (hm : MachOk x.n fs) (wishes : List (List Wish)) (k : Nat) (hk : k ≤ 3) (hw : WishOk x.n fs k wishes) (hl : x.ts.length + szW wishes < 1000000) :
    rel_numbered x [encWs wishes] fun d y => Exts x y (szW wishes) ∧ (∀ own ∈ wishes, ∀ z ∈ own, z.2 ∈ y.ts) ∧ d = .list ((numW y.ts wishes).map encPrs)
theorem ok_numbered (T : Top K mg) : FnOk P w K mg base CX0 10 T.numbered.f T.numbered.fd ["book", "wishes"] (spI K (tb K w T.tb) rel_numbered) :=
  fnI T.numbered.F sc_numbered (fun y es Pd h => by cases h; rfl) (by decide) fun cdv A outer s H E hr => by
    refine ⟨_, (pss_one (ps_ret (pe_lc (own := [("row", 2)]) rfl sc_numbered.nd (pi_tup (pv 1)) (blkOk_by (own := [("row", 2)]) (N := ["book", "wishes", "row", "cell", "term"]) (sc := (defScope (topS 26))) (by decide +kernel)) (fun _ _ _ _ _ => (pg_name (i := 2) sc_numbered.nd rfl (by first | exact Or.inl rfl | exact Or.inr rfl))) (fun _ _ _ _ _ => pts_nil) (fun _ _ _ _ _ => (pe_lc (own := [("cell", 3), ("term", 4)]) (g := gTup K 2 (gCons (gName 3) (gCons (gName 4) gNil))) rfl sc_numbered.nd (pi_tupN K (pv 2)) (blkOk_by (own := [("cell", 3), ("term", 4)]) (N := _) (sc := _) (by rfl)) (fun _ _ _ _ _ => (pg_tup rfl (pgs_cons (pg_name (i := 3) sc_numbered.nd rfl (by first | exact Or.inl rfl | exact Or.inr rfl)) (pgs_cons (pg_name (i := 4) sc_numbered.nd rfl (by first | exact Or.inl rfl | exact Or.inr rfl)) pgs_nil)))) (fun _ _ _ _ _ => pts_nil) (fun _ _ _ _ _ => (pe_tupN (pa_cons (pv 3) (pa_cons (pe_meth (pv 0) T.tb_c.cl T.tb_number_of.m (ok_tb_number_of (P := P) (w := w) (base := base) T) hr T.tb_number_of.b .nil pass0 (pa_cons (pv 4) pa_nil)) pa_nil))))))))), fun A0 x es Pd hrel => ?_⟩
    cases hrel with
    | mk fs hm wishes k hk hw hl =>
      have hins : InsOf (tb K w T.tb) T.tb "number_of" := tb_ins K w T.tb (by decide +kernel) (by decide +kernel) (by decide +kernel) (by decide +kernel) (by decide +kernel)
      have hwl : wishes.length ≤ 3 := by rw [hw.len]; exact hk
      refine ds_ret (DE.mono (DN.de (PL := fun ds δ' => ∃ y, δ' = [.box (tb K w T.tb y), .dat (encWs wishes), .no, .no, .no] ∧ Exts x y (szW wishes) ∧ (∀ own ∈ wishes, ∀ z ∈ own, z.2 ∈ y.ts) ∧ ds = (numW y.ts wishes).map encPrs) (dn_lc (PI := is1 _ (wishes.map encOwn)) (di_tup (es := wishes.map encOwn) (de_var rfl)) ?_)) ?_)
      · rintro es δ1 ⟨rfl, rfl⟩
        refine ⟨by rw [List.length_map]; omega, fun i acc δi => ∃ y, δi = [.box (tb K w T.tb y), .dat (encWs wishes), .no, .no, .no] ∧ Exts x y (szW (wishes.take i)) ∧ (∀ own ∈ wishes.take i, ∀ z ∈ own, z.2 ∈ y.ts) ∧ acc = (numW y.ts (wishes.take i)).map encPrs, ⟨x, rfl, Exts.refl x _, by simp, by simp [numW]⟩, ?_, ?_⟩
        · rintro H0' i acc d δi hd ⟨y, rfl, hx, hin, rfl⟩
          rw [List.getElem?_map] at hd
          obtain ⟨own, hown, rfl⟩ := Option.map_eq_some_iff.mp hd
          have hO := hw.ok own (List.mem_of_getElem? hown)
          have hsz : szW (wishes.take i) + szO own ≤ szW wishes := by
            have := szW_take wishes (i + 1)
            rw [take_snoc hown, szW_snoc] at this; exact this
          have hlen := hx.len
          refine ⟨_, dw_name (by decide), fun A H σ s Q kk => kk true _ H ⟨fun _ => ?_, fun e => by cases e⟩ s (WL.Ex.refl _)⟩
          have hol : own.length ≤ 4 := hw.few own (List.mem_of_getElem? hown)
          refine DE.mono (DN.de (PL := fun ds δ' => ∃ z, δ' = [.box (tb K w T.tb z), .dat (encWs wishes), .dat (encOwn own), .no, .no] ∧ Exts y z (szO own) ∧ (∀ q ∈ own, q.2 ∈ z.ts) ∧ ds = (numO z.ts own).map encPr) (dn_lc (PI := is1 _ (own.map encWi)) (di_tup (es := own.map encWi) (de_var rfl)) ?_)) ?_
          · rintro es δ1 ⟨rfl, rfl⟩
            refine ⟨by rw [List.length_map]; omega, fun j acc δi => ∃ z, δi = [.box (tb K w T.tb z), .dat (encWs wishes), .dat (encOwn own), .no, .no] ∧ Exts y z (szO (own.take j)) ∧ (∀ q ∈ own.take j, q.2 ∈ z.ts) ∧ acc = (numO z.ts (own.take j)).map encPr, ⟨y, rfl, Exts.refl y _, by simp, by simp [numO]⟩, ?_, ?_⟩
            · rintro H0'' j acc d δi hd ⟨z, rfl, hz, hzin, rfl⟩
              rw [List.getElem?_map] at hd
              obtain ⟨q, hq, rfl⟩ := Option.map_eq_some_iff.mp hd
              obtain ⟨q1, q2, q3⟩ := hO.lt q (List.mem_of_getElem? hq)
              have hsq : szO (own.take j) + q.2.sz ≤ szO own := by
                have := szO_take own (j + 1)
                rw [take_snoc hq, szO_snoc] at this; exact this
              have hlz := hz.len
              have hxz := hx.trans hz (Nat.le_refl _)
              refine ⟨_, dw2 (by decide) (by decide), fun A H σ s Q kk => kk true _ H ⟨fun _ => ?_, fun e => by cases e⟩ s (WL.Ex.refl _)⟩
              refine de_tup (PA := fun ds δ' => ∃ v, δ' = [.box (tb K w T.tb v), .dat (encWs wishes), .dat (encOwn own), .dat (dN q.1), .dat (encT q.2)] ∧ Exts z v q.2.sz ∧ q.2 ∈ v.ts ∧ ds = [dN q.1, dN (ix v.ts q.2)]) ?_ ?_ ?_
              · refine da_cons (de_var (d := dN q.1) rfl) fun d δ1 ⟨e1, e2⟩ => ?_
                subst e1; subst e2
                refine da_cons (P := fun d δ' => ∃ v, δ' = [.box (tb K w T.tb v), .dat (encWs wishes), .dat (encOwn own), .dat (dN q.1), .dat (encT q.2)] ∧ Exts z v q.2.sz ∧ q.2 ∈ v.ts ∧ d = dN (ix v.ts q.2)) (dv_methI hins (x := z) rfl (das1 (de_var (d := encT q.2) rfl)) (.mk 8 z fs q.2 (by rw [hxz.n]; exact hm) (by rw [hxz.n]; exact q2) (by omega) (by omega)) fun d v hv => ?_) ?_
                · obtain ⟨v1, v2, rfl⟩ := hv
                  exact ⟨v, rfl, v1, v2, rfl⟩
                · rintro d δ1 ⟨v, rfl, e2, e3, rfl⟩
                  exact fun A H σ s Q kk => da_nil A H σ s Q fun vs ds δ' H2 ⟨e1, e4⟩ => by
                    subst e1; subst e4
                    exact kk vs _ _ H2 ⟨v, rfl, e2, e3, rfl⟩
              · rintro ds δ' ⟨v, _, _, _, rfl⟩
                show 2 ≤ 100000; decide
              · rintro ds δ' ⟨v, rfl, e2, e3, rfl⟩
                obtain ⟨r1, r2⟩ := tb_root (K := K) (w := w) (C := T.tb) e2.A
                refine ⟨[.box (tb K w T.tb v), .dat (encWs wishes), .dat (encOwn own), .no, .no], back_cons r1 r2 rfl fun j w e => ?_, v, rfl, hz.trans e2 (by rw [take_snoc hq, szO_snoc]; omega), fun u hu => ?_, ?_⟩
                · match j, e with
                  | 0, e => simp at e; subst e; exact .inr ⟨_, rfl, rfl⟩
                  | 1, e => simp at e; subst e; exact .inr ⟨_, rfl, rfl⟩
                  | 2, e => simp at e; exact .inl e.symm
                  | 3, e => simp at e; exact .inl e.symm
                  | j + 4, e => simp at e
                · rw [take_snoc hq] at hu
                  rcases List.mem_append.mp hu with h | h
                  · exact e2.mem (hzin u h)
                  · rw [List.mem_singleton.mp h]; exact e3
                · rw [take_snoc hq]
                  unfold numO
                  rw [List.map_append, List.map_append]
                  congr 1
                  exact congrArg (List.map encPr) (numO_ext e2 hzin).symm
            · rintro acc δ' ⟨z, rfl, hz, hzin, rfl⟩
              rw [List.length_map, List.take_length] at hz hzin ⊢
              exact ⟨z, rfl, hz, hzin, rfl⟩
          · rintro d δ' ⟨ds, rfl, z, rfl, hz, hzin, rfl⟩
            obtain ⟨r1, r2⟩ := tb_root (K := K) (w := w) (C := T.tb) hz.A
            refine ⟨[.box (tb K w T.tb z), .dat (encWs wishes), .no, .no, .no], back_cons r1 r2 rfl fun j w e => ?_, z, rfl, hx.trans hz (by rw [take_snoc hown, szW_snoc]; omega), fun o ho => ?_, ?_⟩
            · match j, e with
              | 0, e => simp at e; subst e; exact .inr ⟨_, rfl, rfl⟩
              | 1, e => simp at e; exact .inl e.symm
              | 2, e => simp at e; exact .inl e.symm
              | 3, e => simp at e; exact .inl e.symm
              | j + 4, e => simp at e
            · rw [take_snoc hown] at ho
              rcases List.mem_append.mp ho with h | h
              · exact fun q hq => hz.mem (hin o h q hq)
              · rw [List.mem_singleton.mp h]; exact hzin
            · rw [take_snoc hown]
              unfold numW
              rw [List.map_append, List.map_append]
              congr 1
              exact congrArg (List.map encPrs) (List.map_congr_left fun o ho => (numO_ext hz (hin o ho)).symm)
        · rintro acc δ' ⟨y, rfl, hx, hin, rfl⟩
          rw [List.length_map, List.take_length] at hx hin ⊢
          exact ⟨y, rfl, hx, hin, rfl⟩
      · rintro d δ' ⟨ds, rfl, y, rfl, hx, hin, rfl⟩
        obtain ⟨r1, r2⟩ := tb_root (K := K) (w := w) (C := T.tb) hx.A
        exact ⟨y, rfl, r1, r2, hx, hin, rfl⟩
end
end WL
end
section
set_option Elab.async false
set_option linter.all false
set_option maxRecDepth 100000
namespace WL
open PySem PySem.Spec PyProof.Rows L2
theorem flat1 (n : Nat) : (List.replicate n [dN 1]).flatten = List.replicate n (dN 1) := by
  induction n with
  | zero => rfl
  | succ m ih => rw [List.replicate_succ, List.flatten_cons, ih]; rfl
/-! ### the book of depths -/
structure DbS where
  b : Addr
  dx : Addr
  at_ : Addr
  n : Nat
structure DbH (K : PySem.W.Frag) (C : Addr) (x : DbS) (H Hh : Hp) : Prop where
  ins : H x.b = some (.ins C x.dx [(("atoms" : Str), V.ref x.at_)])
  at_ : Dt K Hh (.ref x.at_) (.tuple ((List.replicate x.n 1).map dN))
def db (K : PySem.W.Frag) (C : Addr) (x : DbS) : Box where
  root := .ref x.b
  foot := [x.b]
  holds := DbH K C x
  loc := fun k e h => ⟨by rw [k x.b (by simp)]; exact h.ins, dp_ex e h.at_⟩
/-! ### books, as their readers see them -/
/-- contents c with the number n: lists -/
def HasL {β : Type} (has : β → Nat → Prop) : List β → List Nat → Prop
  | [], [] => True
  | c :: cs, n :: ns => has c n ∧ HasL has cs ns
  | _, _ => False
section
variable {β : Type} {has has' : β → Nat → Prop}
theorem HasL.len : ∀ {cs : List β} {ns : List Nat}, HasL has cs ns → cs.length = ns.length
  | [], [], _ => rfl
  | c :: cs, n :: ns, h => by rw [List.length_cons, List.length_cons, HasL.len h.2]
  | [], _ :: _, h => h.elim
  | _ :: _, [], h => h.elim
theorem HasL.mono (w : ∀ c n, has c n → has' c n) : ∀ {cs : List β} {ns : List Nat}, HasL has cs ns → HasL has' cs ns
  | [], [], _ => True.intro
  | c :: cs, n :: ns, h => ⟨w c n h.1, HasL.mono w h.2⟩
  | [], _ :: _, h => h.elim
  | _ :: _, [], h => h.elim
theorem HasL.get : ∀ {cs : List β} {ns : List Nat} {i : Nat} {c : β}, HasL has cs ns → cs[i]? = some c → ∃ n, ns[i]? = some n ∧ has c n
  | [], [], i, c, _, e => by simp at e
  | a :: cs, n :: ns, 0, c, h, e => by simp at e; subst e; exact ⟨n, rfl, h.1⟩
  | a :: cs, n :: ns, i + 1, c, h, e => by
    obtain ⟨m, e1, e2⟩ := HasL.get (i := i) h.2 (by simpa using e)
    exact ⟨m, by simpa using e1, e2⟩
  | [], _ :: _, _, _, h, _ => h.elim
  | _ :: _, [], _, _, h, _ => h.elim
theorem HasL.set {c : β} {n : Nat} (hc : has c n) : ∀ {cs : List β} {ns : List Nat} (i : Nat), HasL has cs ns → HasL has (cs.set i c) (ns.set i n)
  | [], [], _, _ => True.intro
  | a :: cs, m :: ns, 0, h => ⟨hc, h.2⟩
  | a :: cs, m :: ns, i + 1, h => ⟨h.1, HasL.set hc i h.2⟩
  | [], _ :: _, _, h => h.elim
  | _ :: _, [], _, h => h.elim
theorem HasL.inj (w : ∀ c d n, has c n → has d n → c = d) : ∀ {cs ds : List β} {ns : List Nat}, HasL has cs ns → HasL has ds ns → cs = ds
  | [], [], [], _, _ => rfl
  | c :: cs, d :: ds, n :: ns, h, k => by rw [w c d n h.1 k.1, HasL.inj w h.2 k.2]
  | [], _, _ :: _, h, _ => h.elim
  | _ :: _, _, [], h, _ => h.elim
  | [], _ :: _, [], _, k => k.elim
  | _ :: _, [], _ :: _, _, k => k.elim
theorem HasL.func (w : ∀ c n m, has c n → has c m → n = m) : ∀ {cs : List β} {ns ms : List Nat}, HasL has cs ns → HasL has cs ms → ns = ms
  | [], [], [], _, _ => rfl
  | c :: cs, n :: ns, m :: ms, h, k => by rw [w c n m h.1 k.1, HasL.func w h.2 k.2]
  | [], _ :: _, _, h, _ => h.elim
  | _ :: _, [], _, h, _ => h.elim
  | [], [], _ :: _, _, k => k.elim
  | _ :: _, _ :: _, [], _, k => k.elim
end
structure BookI (P : Program) (w : World) (K : PySem.W.Frag) (mg : Str → Option Value) (base : Heap) where
  β : Type
  dec : DecidableEq β
  α : Type
  bx : α → Box
  C : Addr
  cl : Cls K C
  f : Addr
  fd : FuncData
  m : Meth K C "made" f
  b : Binds K fd ["self", "function", "parts"] []
  has : α → β → Nat → Prop
  le : α → α → Prop
  size : α → Nat
  atomB : Nat → β
  mkB : Nat → List β → β
  okB : List β → Prop
  wd : α → Nat
  refl : ∀ x, le x x
  trans : ∀ {x y z}, le x y → le y z → le x z
  same : ∀ {x y}, le x y → (bx y).root = (bx x).root ∧ (bx y).foot = (bx x).foot ∧ wd y = wd x
  mono : ∀ {x y c n}, le x y → has x c n → has y c n
  inj : ∀ {x c d n}, has x c n → has x d n → c = d
  func : ∀ {x c n m}, has x c n → has x c m → n = m
  ins : InsOf bx C "made"
  atoms : ∀ {F : Fx} {i : Nat} {δ : List WSlot} {x : α}, F.K = K → δ[i]? = some (.box (bx x)) → ∃ ns, HasL (has x) ((List.range (wd x)).map atomB) ns ∧ DV F (tFld F.K (tVar i) "atoms") δ (.tuple (ns.map dN))
  rel : α → List PyData → (PyData → α → Prop) → Prop
  ok : FnOk P w K mg base CX0 1 f fd ["self", "function", "parts"] (spI K bx rel)
  can : ∀ x g qs ns, (qs.length = 1 ∨ qs.length = 2) → HasL (has x) qs ns → size x < 1000000 → okB qs → ∃ Pd, rel x [dN g, .tuple (ns.map dN)] Pd ∧ ∀ d y, Pd d y → le x y ∧ size y ≤ size x + 1 ∧ ∃ n, d = dN n ∧ has y (mkB g qs) n
theorem HasL.map_fst {β : Type} {has : β → Nat → Prop} {cs : List β} {ns : List Nat} (h : HasL has cs ns) : True := trivial
section
variable {P : Program} {w : World} {K : PySem.W.Frag} {mg : Str → Option Value} {base : Heap}
inductive rel_dbNew (K : PySem.W.Frag) (C : Addr) : List PyData → (Box → Prop) → Prop
  | mk (n : Nat) (fs : List Nat) (hm : MachOk n fs) : rel_dbNew K C [encM n fs] fun b => ∃ x : DbS, b = db K C x ∧ x.n = n
theorem ok_db_init (T : Top K mg) : FnOk P w K mg base CX0 1 T.db_init.f T.db_init.fd ["self", "machine"] (spNew K T.db (rel_dbNew K T.db)) :=
  fnNew T.db_init.F sc_DepthBook___init (fun es Pb h => by cases h; rfl) (by decide) fun cdv A outer s H E hr => by
    refine ⟨_, (pss_one (ps_fld (pv 0) (pe_op (r := rRepN K) op_repN (pe_tupN (pa_cons pe_int pa_nil)) (pe_ix (r := rIxT K) ix_tup (pv 1) pe_int (fun _ _ => rfl))) rfl)), fun A0 p dx es Pb hrel => ?_⟩
    cases hrel with
    | mk n fs hm =>
      refine DS.swap (i := 0) (ds_insD T.db_cl T.db_atoms (by simp) rfl (dv_repN (k := n) (ds := [dN 1]) (dv_tup (das1 (d := dN 1) de_int) (by show 1 ≤ 100000; decide)) (dv_ixT (de_var rfl) de_int rfl) (by simp) (by have := hm.n4; omega) (by show 1 ≤ 1000; decide)) fun v => ⟨_, rfl, ?_⟩)
      rintro Hx Hh ⟨q1, q2, _, qa⟩
      obtain ⟨at_, _, rfl, _, _⟩ := dp_tup qa
      refine ⟨db K T.db ⟨p, dx, at_, n⟩, rfl, fun a ha => ha, ⟨q2, ?_⟩, ⟨_, rfl, rfl, ⟨p, dx, at_, n⟩, rfl, rfl⟩⟩
      have : (List.replicate n [dN 1]).flatten = (List.replicate n 1).map dN := by rw [List.map_replicate]; exact flat1 n
      rw [← this]; exact qa
end
end WL
end
section
set_option Elab.async false
set_option linter.all false
set_option maxRecDepth 100000
namespace WL
open PySem PySem.Spec PyProof.Rows L2
def mkN (qs : List Nat) : Nat := 1 + qs.foldl max 0
theorem hasL_map {β γ : Type} {has : β → Nat → Prop} (f : γ → β) (g : γ → Nat) : ∀ l : List γ, (∀ a ∈ l, has (f a) (g a)) → HasL has (l.map f) (l.map g)
  | [], _ => True.intro
  | a :: l, h => ⟨h a List.mem_cons_self, hasL_map f g l fun b hb => h b (List.mem_cons_of_mem _ hb)⟩
section
variable {P : Program} {w : World} {K : PySem.W.Frag} {mg : Str → Option Value} {base : Heap}
inductive rel_dbMade : DbS → List PyData → (PyData → DbS → Prop) → Prop
  | mk (x : DbS) (g : Nat) (n0 : Nat) (ns : List Nat) (h : ∀ n ∈ n0 :: ns, n < 8) : rel_dbMade x [dN g, .tuple ((n0 :: ns).map dN)] fun d y => y = x ∧ d = .int (1 + maxI n0 (ns.map fun n : Nat => (n : Int)))
theorem maxI_lt : ∀ (ns : List Int) (n b : Int), n < b → (∀ m ∈ ns, m < b) → maxI n ns < b
  | [], n, b, h, _ => h
  | k :: r, n, b, h, q => maxI_lt r (max n k) b (by have := q k List.mem_cons_self; omega) fun m hm => q m (List.mem_cons_of_mem _ hm)
theorem ok_db_made (T : Top K mg) : FnOk P w K mg base CX0 1 T.db_made.f T.db_made.fd ["self", "function", "parts"] (spI K (db K T.db) rel_dbMade) :=
  fnI T.db_made.F sc_DepthBook_made (fun y es Pd h => by cases h; rfl) (by decide) fun cdv A outer s H E hr => by
    refine ⟨_, (pss_cons (ps_if (pt_cmpR op_ge (pe_callB (r := rMaxT K) (cr_maxT rfl (hu65 hr)) (by rfl) T.n_max (by decide +kernel) (pa_cons (pv 2) pa_nil)) (pe_glob (v := .int 8) rfl T.c_DEEPEST.choose_spec ⟨_, rfl⟩) (nomark _)) (pss_one ps_never) pss_nil)
    (pss_one (ps_ret (pe_op op_add pe_int (pe_callB (r := rMaxT K) (cr_maxT rfl (hu65 hr)) (by rfl) T.n_max (by decide +kernel) (pa_cons (pv 2) pa_nil)))))), fun A0 x es Pd hrel => ?_⟩
    cases hrel with
    | mk g n0 ns h =>
      have e : ((n0 :: ns).map dN) = ((n0 : Int) :: ns.map fun n : Nat => (n : Int)).map PyData.int := by
        rw [List.map_cons, List.map_cons, List.map_map]; rfl
      have hmx : ∀ F : Fx, F.K = K → DV F (tCB (rMaxT F.K) (tCons (tVar 2) tNil)) [.box (db K T.db x), .dat (dN g), .dat (.tuple ((n0 :: ns).map dN))] (.int (maxI n0 (ns.map fun n : Nat => (n : Int)))) := fun F hF => by
        refine dv_maxT (de_var ?_)
        rw [e]; rfl
      have hlt : maxI (n0 : Int) (ns.map fun n : Nat => (n : Int)) < 8 := maxI_lt _ _ _ (by have := h n0 List.mem_cons_self; omega) fun m hm => by
        obtain ⟨k, hk, rfl⟩ := List.mem_map.mp hm
        have := h k (List.mem_cons_of_mem _ hk); omega
      refine dq_out (b := false) ((db_test (dv_I0 (hmx _ rfl) de_int fun _ => .bl _)).is (decide_eq_false (by omega))) (fun e => by cases e) fun _ => ?_
      exact ds_retV (dv_I0 de_int (hmx _ rfl) fun _ => .int _) ⟨x, rfl, rfl, rfl, rfl, rfl⟩
/-- the book of depths as a book -/
def dbI (T : Top K mg) : BookI P w K mg base where
  β := Nat
  dec := inferInstance
  α := DbS
  bx := db K T.db
  C := T.db
  cl := T.db_cl
  f := T.db_made.f
  fd := T.db_made.fd
  m := T.db_made.m
  b := T.db_made.b
  has := fun _ c n => c = n
  le := fun x y => x = y
  size := fun _ => 0
  atomB := fun _ => 1
  mkB := fun _ => mkN
  okB := fun qs => ∀ q ∈ qs, q < 8
  wd := fun x => x.n
  refl := fun _ => rfl
  trans := fun a b => a.trans b
  same := fun h => by subst h; exact ⟨rfl, rfl, rfl⟩
  mono := fun _ h => h
  inj := fun h k => h.trans k.symm
  func := fun h k => h.symm.trans k
  ins := fun x H Hh h => ⟨_, _, _, rfl, h.ins, by rw [lk_ne (by decide +kernel)]; rfl⟩
  atoms := fun {F i δ x} hF ho => ⟨List.replicate x.n 1, by
      have := hasL_map (has := fun c n : Nat => c = n) (fun _ : Nat => 1) (fun _ => 1) (List.range x.n) fun _ _ => rfl
      rw [List.map_const', List.length_range] at this
      rw [List.map_const', List.length_range]; exact this, fun A H σ s Q q => by
      subst hF
      obtain ⟨e1, _, h⟩ := s.sd.box i _ ho
      exact ⟨_, e1, x.b, _, _, _, _, rfl, h.ins, T.db_cl, T.db_atoms, lk_eq, q _ _ δ H ⟨rfl, rfl⟩ s (WL.Ex.refl _) h.at_⟩⟩
  rel := rel_dbMade
  ok := ok_db_made T
  can := fun x g qs ns h12 hq _ hok => by
    have e : qs = ns := HasL.inj (has := fun c n : Nat => c = n) (fun c d n h k => h.trans k.symm) hq (by
      have : ∀ ns : List Nat, HasL (fun c n : Nat => c = n) ns ns := fun ns => by
        induction ns with
        | nil => exact True.intro
        | cons a r ih => exact ⟨rfl, ih⟩
      exact this ns)
    subst e
    match qs, h12 with
    | [], h => simp at h
    | n0 :: ns, h => exact ⟨_, .mk x g n0 ns hok, fun d y ⟨e1, e2⟩ => ⟨e1.symm, Nat.zero_le _, mkN (n0 :: ns), by
        rw [e2]
        match ns, h with
        | [], _ => show PyData.int (1 + (n0 : Int)) = dN (1 + max 0 n0); exact congrArg PyData.int (by omega)
        | [b], _ => show PyData.int (1 + max (n0 : Int) b) = dN (1 + max (max 0 n0) b); exact congrArg PyData.int (by omega)
        | a :: b :: r, h => simp at h, rfl⟩⟩
/-- the book of terms as a book -/
def tbI (T : Top K mg) : BookI P w K mg base where
  β := Tm
  dec := inferInstance
  α := Tb
  bx := tb K w T.tb
  C := T.tb
  cl := T.tb_c.cl
  f := T.tb_made.f
  fd := T.tb_made.fd
  m := T.tb_made.m
  b := T.tb_made.b
  has := fun x c n => c ∈ x.ts ∧ ix x.ts c = n
  le := fun x y => ∃ k, Exts x y k
  size := fun x => x.ts.length
  atomB := Tm.atom
  mkB := mkT
  okB := fun _ => True
  wd := fun x => x.n
  refl := fun x => ⟨0, Exts.refl x 0⟩
  trans := fun ⟨k, a⟩ ⟨l, b⟩ => ⟨k + l, a.trans b (Nat.le_refl _)⟩
  same := fun ⟨k, a⟩ => ⟨(tb_root (K := K) (w := w) (C := T.tb) a.A).1, (tb_root (K := K) (w := w) (C := T.tb) a.A).2, a.n⟩
  mono := fun ⟨k, a⟩ h => ⟨a.mem h.1, (a.ix h.1).trans h.2⟩
  inj := fun h k => ix_inj h.1 k.1 (h.2.trans k.2.symm)
  func := fun h k => h.2.symm.trans k.2
  ins := tb_ins K w T.tb (by decide +kernel) (by decide +kernel) (by decide +kernel) (by decide +kernel) (by decide +kernel)
  atoms := fun {F i δ x} hF ho => ⟨List.range x.n, by
      have := hasL_map (has := fun c n => c ∈ x.ts ∧ ix x.ts c = n) Tm.atom id (List.range x.n) fun c hc => atom_mem x (List.mem_range.mp hc)
      rw [List.map_id] at this; exact this, by subst hF; exact dv_rbAtoms T.tb_c ho⟩
  rel := rel_made
  ok := ok_tb_made T
  can := fun x g qs ns h12 hq hs _ => by
    have e : ns = qs.map fun q => ix x.ts q := by
      have : ∀ (qs : List Tm) (ns : List Nat), HasL (fun c n => c ∈ x.ts ∧ ix x.ts c = n) qs ns → ns = (qs.map fun q => ix x.ts q) ∧ ∀ q ∈ qs, q ∈ x.ts := fun qs => by
        induction qs with
        | nil => intro ns h; cases ns with
          | nil => exact ⟨rfl, by simp⟩
          | cons a b => exact h.elim
        | cons q r ih => intro ns h; cases ns with
          | nil => exact h.elim
          | cons a b =>
            obtain ⟨e1, e2⟩ := ih b h.2
            refine ⟨by rw [List.map_cons, ← e1, h.1.2], fun u hu => ?_⟩
            rcases List.mem_cons.mp hu with z | z
            · rw [z]; exact h.1.1
            · exact e2 u z
      exact (this qs ns hq).1
    have hin : ∀ q ∈ qs, q ∈ x.ts := fun q hqm => by
      obtain ⟨i, hi, e⟩ := List.getElem_of_mem hqm
      obtain ⟨n, _, h⟩ := hq.get (List.getElem?_eq_some_iff.mpr ⟨hi, e⟩)
      exact h.1
    subst e
    refine ⟨fun d y => Grown x y (mkT g qs) ∧ d = dN (ix y.ts (mkT g qs)), by rw [List.map_map]; exact .mk x g qs h12 hin hs, fun d y ⟨hg, hd⟩ => ⟨⟨1, hg.exts⟩, by rw [hg.ts]; exact addT_len _ _, _, hd, by rw [hg.ts]; exact addT_mem _ _, rfl⟩⟩
end
end WL
end
section
set_option Elab.async false
set_option linter.all false
set_option maxRecDepth 100000
namespace WL
open PySem PySem.Spec PyProof.Rows L2
section
variable {P : Program} {w : World} {K : PySem.W.Frag} {mg : Str → Option Value} {base : Heap}
namespace BookI
variable (B : BookI P w K mg base)
def atB (h : List B.β) (s : Nat) : B.β := (h[s]?).getD (B.atomB 0)
def newB (h : List B.β) (l : Ln) : B.β := match l.fn with
  | none => B.atB h (l.src.headD 0)
  | some f => B.mkB f (l.src.map (B.atB h))
def stepB (h : List B.β) (l : Ln) : List B.β := h.set l.cell (B.newB h l)
/-- the line may be done -/
def okL (h : List B.β) (l : Ln) : Prop := l.fn ≠ none → B.okB (l.src.map (B.atB h))
end BookI
theorem BookI.at_has (B : BookI P w K mg base) {x : B.α} {held : List B.β} {ns : List Nat} (h : HasL (B.has x) held ns) {s : Nat} (hs : s < held.length) : ∃ n, ns[s]? = some n ∧ B.has x (B.atB held s) n := by
  have e : held[s]? = some (B.atB held s) := by unfold atB; rw [List.getElem?_eq_getElem hs]; rfl
  exact h.get e
theorem BookI.step_len (B : BookI P w K mg base) (h : List B.β) (l : Ln) : (B.stepB h l).length = h.length := List.length_set
inductive rel_after (B : BookI P w K mg base) : B.α → List PyData → (PyData → B.α → Prop) → Prop
  | mk (x : B.α) (fs : List Nat) (l : Ln) (held : List B.β) (ns : List Nat) (hm : MachOk (B.wd x) fs) (hl : LnOk (B.wd x) fs l) (hlen : held.length = B.wd x) (hh : HasL (B.has x) held ns) (hs : B.size x < 1000000) (ho : B.okL held l) :
    rel_after B x [encL l, .tuple (ns.map dN)] fun d y => B.le x y ∧ B.size y ≤ B.size x + 1 ∧ ∃ ms, d = .tuple (ms.map dN) ∧ HasL (B.has y) (B.stepB held l) ms
theorem ok_held_after (T : Top K mg) (BI : BookI P w K mg base) : FnOk P w K mg base CX0 2 T.held_after.f T.held_after.fd ["book", "line", "held"] (spI K BI.bx (rel_after BI)) :=
  fnI T.held_after.F sc_held_after (fun y es Pd h => by cases h; rfl) (by decide) fun cdv A outer s H E hr => by
    refine ⟨_, (pss_cons (ps_asg (pv 1) (pg_tup rfl (pgs_cons (pg_name (i := 3) sc_held_after.nd rfl (by first | exact Or.inl rfl | exact Or.inr rfl)) (pgs_cons (pg_name (i := 4) sc_held_after.nd rfl (by first | exact Or.inl rfl | exact Or.inr rfl)) (pgs_cons (pg_name (i := 5) sc_held_after.nd rfl (by first | exact Or.inl rfl | exact Or.inr rfl)) pgs_nil)))))
    (pss_cons (ps_if (pt_cmpR op_isN (pv 4) pe_non (nomark _)) (pss_one (ps_set (i := 6) sc_held_after.nd rfl (by first | exact Or.inl rfl | exact Or.inr rfl) (pe_ix (r := rIxT K) ix_tup (pv 2) (pe_ix (r := rIxT K) ix_tup (pv 5) pe_int (fun _ _ => rfl)) (fun _ _ => rfl)))) (pss_one (ps_set (i := 6) sc_held_after.nd rfl (by first | exact Or.inl rfl | exact Or.inr rfl) (pe_meth (pv 0) BI.cl BI.m BI.ok (hr.mono (by omega)) BI.b .nil pass0 (pa_cons (pv 4) (pa_cons (pe_callTy (r := rTupN K) call_tupN (by rfl) T.n_tuple (by decide +kernel) (pa_cons (pe_lc (own := [("source", 7)]) rfl sc_held_after.nd (pi_tup (pv 5)) (blkOk_by (own := [("source", 7)]) (N := ["book", "line", "held", "cell", "function", "sources", "new", "source"]) (sc := (defScope (topS 28))) (by decide +kernel)) (fun _ _ _ _ _ => (pg_name (i := 7) sc_held_after.nd rfl (by first | exact Or.inl rfl | exact Or.inr rfl))) (fun _ _ _ _ _ => pts_nil) (fun _ _ _ _ _ => (pe_ix (r := rIxT K) ix_tup (pv 2) (pv 7) (fun _ _ => rfl)))) pa_nil)) pa_nil))))))
    (pss_one (ps_ret (pe_op (r := rCatN K) op_catN (pe_op (r := rCatN K) op_catN (pe_slice (r := rSlN K) sl_tupN (pv 2) po_none (po_some (pv 3))) (pe_tupN (pa_cons (pv 6) pa_nil))) (pe_slice (r := rSlN K) sl_tupN (pv 2) (po_some (pe_op op_add (pv 3) pe_int)) po_none)))))), fun A0 x es Pd hrel => ?_⟩
    cases hrel with
    | mk fs l held ns hm hl hlen hh hs ho =>
      obtain ⟨c, fn, src⟩ := l
      have hln := hl.len hm
      have hn4 := hm.n4
      have hnl : ns.length = BI.wd x := by rw [← hh.len]; exact hlen
      have hc : c < BI.wd x := hl.cell
      have hat : ∀ s, s ∈ src → ∃ n, ns[s]? = some n ∧ BI.has x (BI.atB held s) n := fun s hs2 => BI.at_has hh (by rw [hlen]; exact hl.src s hs2)
      refine dq_asgV (d := encL ⟨c, fn, src⟩) (de_var rfl) dg3 ?_
      refine ds_seq (N1 := fun δ => ∃ y n, δ = [.box (BI.bx y), .dat (encL ⟨c, fn, src⟩), .dat (.tuple (ns.map dN)), .dat (dN c), .dat (encF fn), .dat (.tuple (src.map dN)), .dat (dN n), .no] ∧ BI.le x y ∧ BI.size y ≤ BI.size x + 1 ∧ BI.has y (BI.newB held ⟨c, fn, src⟩) n) ?_ ?_
      · cases fn with
        | none =>
          obtain ⟨s, hsrc, _⟩ := hl.fn
          have hsrc : src = [s] := hsrc
          subst hsrc
          obtain ⟨n, e1, e2⟩ := hat s (by simp)
          exact ds_ifB (b := true) (db_test (dv_isN (de_var (d := .none) rfl))) (fun _ => ds_setV (dv_ixT (ds := ns.map dN) (d := dN n) (de_var rfl) (dv_ixT (ds := [dN s]) (d := dN s) (de_var rfl) de_int rfl) (atI_nat (by rw [List.getElem?_map, e1]; rfl))) ⟨x, n, rfl, BI.refl x, Nat.le_succ _, e2⟩) fun e => by cases e
        | some f =>
          refine ds_ifB (b := false) (db_test (dv_isN (de_var (d := dN f) rfl))) (fun e => by cases e) fun _ => ?_
          let g : Nat → Nat := fun s => (ns[s]?).getD 0
          have hg : ∀ s ∈ src, ns[s]? = some (g s) ∧ BI.has x (BI.atB held s) (g s) := fun s hs2 => by
            obtain ⟨n, e1, e2⟩ := hat s hs2
            have : g s = n := by show (ns[s]?).getD 0 = n; rw [e1]; rfl
            rw [this]; exact ⟨e1, e2⟩
          obtain ⟨Pd, hrel, hpd⟩ := BI.can x f (src.map (BI.atB held)) (src.map g) (by rw [List.length_map]; have h1 : 1 ≤ src.length := hln.1; have h2 : src.length ≤ 2 := hln.2; omega) (hasL_map _ _ src fun s hs2 => (hg s hs2).2) hs (ho (by simp))
          refine ds_set (dv_methI BI.ins (x := x) rfl (das2 (de_var (d := dN f) rfl) (dv_tupL (ds := (src.map g).map dN) (DN.dl ((dn_map (fun d => match d with | .int k => ((ns.map dN)[k.toNat]?).getD .none | _ => .none) (di_tup (es := src.map dN) (de_var rfl)) (by rw [List.length_map]; have h2 : src.length ≤ 2 := hln.2; omega) fun H0' d hd => ?_).mono fun es δ' ⟨e1, e2⟩ => ⟨?_, e2⟩)))) hrel fun d y hy => ?_)
          · obtain ⟨s, hs2, rfl⟩ := List.mem_map.mp hd
            have hg2 : (ns.map dN)[s]? = some (dN (g s)) := by rw [List.getElem?_map, (hg s hs2).1]; rfl
            refine ⟨_, dw_name (by decide), by repeat' (first | exact True.intro | rfl | refine ⟨?_, ?_⟩), (dv_ixT (ds := ns.map dN) (d := dN (g s)) (de_var rfl) (de_var (d := dN s) rfl) (atI_nat hg2)).is ?_⟩
            show dN (g s) = ((ns.map dN)[((s : Nat) : Int).toNat]?).getD .none
            rw [Int.toNat_natCast, hg2]; rfl
          · rw [e1, List.map_map, List.map_map]
            refine List.map_congr_left fun s hs2 => ?_
            have hg2 : (ns.map dN)[s]? = some (dN (g s)) := by rw [List.getElem?_map, (hg s hs2).1]; rfl
            show ((ns.map dN)[((s : Nat) : Int).toNat]?).getD .none = dN (g s)
            rw [Int.toNat_natCast, hg2]; rfl
          · obtain ⟨h1, h2, n, rfl, h3⟩ := hpd d y hy
            exact ⟨y, n, rfl, h1, h2, h3⟩
      · rintro δ1 ⟨y, n, rfl, h1, h2, h3⟩
        obtain ⟨r1, r2, _⟩ := BI.same h1
        refine ds_retV (d := .tuple ((ns.set c n).map dN)) ((dv_catT (dv_catT (dv_slT (ds := ns.map dN) (lo := none) (hi := some (c : Nat)) (de_var rfl) do_none (do_some (de_var (d := dN c) rfl))) (dv_tup (das1 (de_var (d := dN n) rfl)) (by show 1 ≤ 100000; decide)) ?_) (dv_slT (ds := ns.map dN) (lo := some ((c + 1 : Nat) : Int)) (hi := none) (de_var rfl) (do_some (dv_I0 (e := dN (c + 1)) (de_var (d := dN c) rfl) de_int fun _ => .int _)) do_none) ?_).is ?_) ⟨y, rfl, r1, r2, h1, h2, ns.set c n, rfl, ?_⟩
        · rw [cutD_take (by rw [List.length_map]; omega), List.length_take, List.length_map]; show min c _ + 1 ≤ _; omega
        · rw [cutD_take (by rw [List.length_map]; omega), List.length_append, List.length_take, cutD_drop (by rw [List.length_map]; omega), List.length_drop, List.length_map]; show min c _ + 1 + _ ≤ _; omega
        · rw [cutD_take (by rw [List.length_map]; omega), cutD_drop (by rw [List.length_map]; omega), set_cut _ _ _ (by rw [List.length_map]; omega), List.map_set]
        · exact HasL.set h3 c (hh.mono fun _ _ h => BI.mono h1 h)
end
end WL
end
section
set_option Elab.async false
set_option linter.all false
set_option maxRecDepth 100000
namespace WL
open PySem PySem.Spec PyProof.Rows L2
section
variable {P : Program} {w : World} {K : PySem.W.Frag} {mg : Str → Option Value} {base : Heap}
namespace BookI
variable (B : BookI P w K mg base)
def wovenBR (n : Nat) (hands : List (List Ln)) : List Nat → List B.β
  | [] => (List.range n).map B.atomB
  | h :: r => B.stepB (wovenBR n hands r) (lineAt hands h (r.count h))
/-- what the cells hold behind a weaving, as a book tells it -/
def wovenB (n : Nat) (hands : List (List Ln)) (ws : List Nat) : List B.β := B.wovenBR n hands ws.reverse
theorem wovenB_nil (n : Nat) (hands : List (List Ln)) : B.wovenB n hands [] = (List.range n).map B.atomB := rfl
theorem wovenB_snoc (n : Nat) (hands : List (List Ln)) (ws : List Nat) (h : Nat) : B.wovenB n hands (ws ++ [h]) = B.stepB (B.wovenB n hands ws) (lineAt hands h (ws.count h)) := by
  unfold wovenB
  rw [List.reverse_append]
  show B.stepB (B.wovenBR n hands ws.reverse) (lineAt hands h (ws.reverse.count h)) = _
  rw [List.count_reverse]
theorem wovenB_len (n : Nat) (hands : List (List Ln)) (ws : List Nat) : (B.wovenB n hands ws).length = n := by
  unfold wovenB
  induction ws.reverse with
  | nil => simp [wovenBR]
  | cons h r ih => simp only [wovenBR, B.step_len]; exact ih
/-- each line that is done may be done -/
def okW (n : Nat) (hands : List (List Ln)) (ws : List Nat) : Prop := ∀ us h vs, ws = us ++ h :: vs → B.okL (B.wovenB n hands us) (lineAt hands h (us.count h))
end BookI
inductive rel_behind (B : BookI P w K mg base) : B.α → List PyData → (PyData → B.α → Prop) → Prop
  | mk (x : B.α) (fs : List Nat) (hm : MachOk (B.wd x) fs) (hands : List (List Ln)) (hh : ∀ r ∈ hands, LinesOk (B.wd x) fs r) (h3 : hands.length ≤ 3) (ws : List Nat) (hv : ValidW hands ws) (hs : B.size x + ws.length < 1000000) (ho : B.okW (B.wd x) hands ws) :
    rel_behind B x [encH hands, encW ws] fun d y => B.le x y ∧ B.size y ≤ B.size x + ws.length ∧ ∃ ms, d = .tuple (ms.map dN) ∧ HasL (B.has y) (B.wovenB (B.wd x) hands ws) ms
theorem ok_held_behind (T : Top K mg) (BI : BookI P w K mg base) : FnOk P w K mg base CX0 3 T.held_behind.f T.held_behind.fd ["book", "hands", "weaving"] (spI K BI.bx (rel_behind BI)) :=
  fnI T.held_behind.F sc_held_behind (fun y es Pd h => by cases h; rfl) (by decide) fun cdv A outer s H E hr => by
    refine ⟨_, (pss_cons (ps_set (i := 3) sc_held_behind.nd rfl (by first | exact Or.inl rfl | exact Or.inr rfl) (pe_fldN K (pv 0) rfl))
    (pss_cons (ps_set (i := 4) sc_held_behind.nd rfl (by first | exact Or.inl rfl | exact Or.inr rfl) (pe_op op_rep (pe_lst (pa_cons pe_int pa_nil)) (pe_callB (r := rLenQ K) call_len_seq (by rfl) T.n_len PySem.boot_len (pa_cons (pv 1) pa_nil))))
    (pss_cons (ps_for PassesOwn.never rfl (pi_tup (pv 2)) (pg_name (i := 5) sc_held_behind.nd rfl (by first | exact Or.inl rfl | exact Or.inr rfl)) (pss_cons (ps_set (i := 3) sc_held_behind.nd rfl (by first | exact Or.inl rfl | exact Or.inr rfl) (pe_call (ok_held_after T BI) (hr.mono (by omega)) rfl T.held_after.m T.held_after.F.kp T.held_after.b .nil pass0 (pa_cons (pv 0) (pa_cons (pe_ix (r := rIxT K) ix_tup (pe_ix (r := rIxT K) ix_tup (pv 1) (pv 5) (fun _ _ => rfl)) (pe_ix (r := rIxL K) ix_list (pv 4) (pv 5) (fun _ _ => rfl)) (fun _ _ => rfl)) (pa_cons (pv 3) pa_nil)))))
    (pss_one (ps_augS (pv 4) (pv 5) get_listN pe_int ip_add set_list))))
    (pss_one (ps_ret (pv 3)))))), fun A0 x es Pd hrel => ?_⟩
    cases hrel with
    | mk fs hm hands hh h3 ws hv hs ho =>
      have hn4 := hm.n4
      obtain ⟨ns0, hns0, hat0⟩ := BI.atoms (F := ⟨K, H, A0, (BI.bx x).foot⟩) (i := 0) (δ := .box (BI.bx x) :: env0 ["hands", "weaving", "held", "done", "hand"] [encH hands, encW ws]) (x := x) rfl rfl
      refine dq_setV (d := .tuple (ns0.map dN)) hat0 ?_
      refine dq_setN (dn_rep (k := hands.length) (dn_lst (das1 de_int) fun ds δ' ⟨e, _⟩ => by rw [e]; show 1 ≤ 100000; decide) ((dv_len (d := encH hands) (de_var rfl) rfl).is (by show PyData.int _ = _; unfold encH seqOf; rw [List.length_map])) (by omega) (by show 1 ≤ 1000; decide)) fun es δ1 l ⟨e1, e2⟩ => ?_
      subst e1; subst e2
      have hat : (List.replicate hands.length [dN 0]).flatten = (List.range hands.length).map fun (h : Nat) => dN (([] : List Nat).count h) := by
        show _ = (List.range hands.length).map fun (_ : Nat) => dN 0
        exact rep_flat hands.length (dN 0)
      refine ds_seq (N1 := fun δ => ∃ y ns s5 ds, δ = [.box (BI.bx y), .dat (encH hands), .dat (encW ws), .dat (.tuple (ns.map dN)), .own l ds, s5] ∧ BI.le x y ∧ BI.size y ≤ BI.size x + ws.length ∧ HasL (BI.has y) (BI.wovenB (BI.wd x) hands ws) ns) ?_ ?_
      · refine ds_forV (fun i δ => ∃ y ns s5, δ = [.box (BI.bx y), .dat (encH hands), .dat (encW ws), .dat (.tuple (ns.map dN)), .own l ((List.range hands.length).map fun h => dN ((ws.take i).count h)), s5] ∧ BI.le x y ∧ BI.size y ≤ BI.size x + i ∧ HasL (BI.has y) (BI.wovenB (BI.wd x) hands (ws.take i)) ns)
          (di_tup (es := ws.map dN) (de_var rfl)) ⟨x, ns0, .no, ?_, BI.refl x, Nat.le_refl _, hns0⟩ ?_ ?_
        · rw [List.take_zero, ← hat]; rfl
        · rintro i d δi hd ⟨y, ns, s5, rfl, hle, hsz, hhas⟩
          rw [List.getElem?_map] at hd
          obtain ⟨h, hh2, rfl⟩ := Option.map_eq_some_iff.mp hd
          have hil : i < ws.length := (List.getElem?_eq_some_iff.mp hh2).1
          have esp : ws = ws.take i ++ h :: ws.drop (i + 1) := by
            have := List.take_append_drop i ws
            rw [List.drop_eq_getElem_cons hil] at this
            rw [List.getElem?_eq_getElem hil] at hh2
            rw [← Option.some.inj hh2]; exact this.symm
          have et : ws.take (i + 1) = ws.take i ++ [h] := by rw [List.take_succ, hh2]; rfl
          obtain ⟨r, hr1, hr2, hr3⟩ := line_at (by rw [← esp]; exact hv)
          have hhl : h < hands.length := (List.getElem?_eq_some_iff.mp hr1).1
          have hatk : ((List.range hands.length).map fun h => dN ((ws.take i).count h))[h]? = some (dN ((ws.take i).count h)) := by rw [List.getElem?_map, List.getElem?_range hhl]; rfl
          have hwd := (BI.same hle).2.2
          refine ⟨_, dg_name, ?_⟩
          refine dq_set (P := fun d δ1 => ∃ z ms, δ1 = [.box (BI.bx z), .dat (encH hands), .dat (encW ws), .dat (.tuple (ns.map dN)), .own l ((List.range hands.length).map fun h => dN ((ws.take i).count h)), .dat (dN h)] ∧ BI.le y z ∧ BI.size z ≤ BI.size y + 1 ∧ d = .tuple (ms.map dN) ∧ HasL (BI.has z) (BI.wovenB (BI.wd x) hands (ws.take (i + 1))) ms)
            (dv_callI (x := y) rfl (das2 (dv_ixT (ds := r.map encL) (dv_ixT (ds := hands.map encR) (d := encR r) (de_var rfl) (de_var (d := dN h) rfl) (atI_nat (by rw [List.getElem?_map, hr1]; rfl))) (dv_ixO (l := l) rfl (de_var (d := dN h) rfl) (atI_nat hatk)) (atI_nat (by rw [List.getElem?_map, hr3]; rfl))) (de_var rfl))
              (.mk y fs _ _ ns (by rw [hwd]; exact hm) (by rw [hwd]; exact hh r (List.mem_of_getElem? hr1) _ (List.mem_of_getElem? hr3)) (by rw [hwd, BI.wovenB_len]) hhas (by omega) (ho _ _ _ esp)) fun d z ⟨z1, z2, ms, z3, z4⟩ => ⟨z, ms, rfl, z1, z2, z3, by rw [et, BI.wovenB_snoc]; exact z4⟩) ?_
          rintro d δ1 ⟨z, ms, rfl, z1, z2, rfl, z4⟩
          refine ds_augL (l := l) rfl (de_var (d := dN h) rfl) hatk de_int ⟨z, ms, .dat (dN h), ?_, BI.trans hle z1, by omega, z4⟩
          have : ((List.range hands.length).map fun h => dN ((ws.take i).count h)).set h (.int (((ws.take i).count h : Nat) + 1)) = (List.range hands.length).map fun h => dN ((ws.take (i + 1)).count h) := by
            apply List.ext_getElem?
            intro j
            by_cases hj : h = j
            · subst hj
              rw [List.getElem?_set_self (by rw [List.length_map, List.length_range]; exact hhl), List.getElem?_map, List.getElem?_range hhl]
              show _ = some (dN ((ws.take (i + 1)).count h))
              rw [et, List.count_append, List.count_singleton_self]; rfl
            · rw [List.getElem?_set_ne hj, List.getElem?_map, List.getElem?_map]
              have hcj : (ws.take (i + 1)).count j = (ws.take i).count j := by rw [et, List.count_append, List.count_singleton]; simp [hj]
              cases e : (List.range hands.length)[j]? with
              | none => rfl
              | some z =>
                have : z = j := by
                  have := (List.getElem?_eq_some_iff.mp e); obtain ⟨hlt, he⟩ := this; rw [List.getElem_range] at he; exact he.symm
                subst this
                show some (dN ((ws.take i).count z)) = some (dN ((ws.take (i + 1)).count z))
                rw [hcj]
          show [_, _, _, _, WSlot.own l (((List.range hands.length).map fun h => dN ((ws.take i).count h)).set h _), _] = _
          rw [this]
        · rintro δ' ⟨y, ns, s5, rfl, hle, hsz, hhas⟩
          rw [List.length_map] at hsz hhas
          rw [List.take_length] at hhas
          exact ⟨y, ns, s5, _, rfl, hle, hsz, hhas⟩
      · rintro δ1 ⟨y, ns, s5, ds, rfl, hle, hsz, hhas⟩
        obtain ⟨r1, r2, _⟩ := BI.same hle
        exact ds_retV (de_var rfl) ⟨y, rfl, r1, r2, hle, hsz, ns, rfl, hhas⟩
end
end WL
end
section
set_option Elab.async false
set_option linter.all false
set_option maxRecDepth 100000
namespace WL
open PySem PySem.Spec PyProof.Rows L2
theorem sz_le : ∀ t : Tm, t.sz + 1 ≤ 2 ^ t.dep
  | .atom _ => Nat.le_refl _
  | .f1 _ a => by
    have := sz_le a
    show a.sz + 1 + 1 ≤ 2 ^ (a.dep + 1)
    rw [Nat.pow_succ]; omega
  | .f2 _ a b => by
    have h1 := sz_le a
    have h2 := sz_le b
    have h3 : 2 ^ a.dep ≤ 2 ^ max a.dep b.dep := Nat.pow_le_pow_right (by decide) (Nat.le_max_left _ _)
    have h4 : 2 ^ b.dep ≤ 2 ^ max a.dep b.dep := Nat.pow_le_pow_right (by decide) (Nat.le_max_right _ _)
    show a.sz + b.sz + 1 + 1 ≤ 2 ^ (max a.dep b.dep + 1)
    rw [Nat.pow_succ]; omega
theorem sz_7 {t : Tm} (h : t.dep ≤ 7) : t.sz ≤ 127 := by
  have h1 := sz_le t
  have h2 : 2 ^ t.dep ≤ 2 ^ 7 := Nat.pow_le_pow_right (by decide) h
  have : 2 ^ 7 = 128 := by decide
  omega
theorem szO_le {n : Nat} {fs : List Nat} {o : List Wish} (h : OwnOk n fs o) : szO o ≤ 127 * o.length := by
  have : ∀ o : List Wish, (∀ x ∈ o, x.2.dep ≤ 7) → szO o ≤ 127 * o.length := fun o => by
    induction o with
    | nil => intro _; exact Nat.le_refl _
    | cons x o ih =>
      intro q
      have h1 := ih fun y hy => q y (List.mem_cons_of_mem _ hy)
      have h2 := sz_7 (q x List.mem_cons_self)
      have : szO (x :: o) = x.2.sz + szO o := by unfold szO; simp
      rw [this, List.length_cons]; omega
  exact this o fun x hx => (h.lt x hx).2.2
theorem szW_le {n k : Nat} {fs : List Nat} {ws : List (List Wish)} (h : WishOk n fs k ws) (hk : k ≤ 3) : szW ws ≤ 1600 := by
  have : ∀ ws : List (List Wish), (∀ o ∈ ws, szO o ≤ 508) → szW ws ≤ 508 * ws.length := fun ws => by
    induction ws with
    | nil => intro _; exact Nat.le_refl _
    | cons x o ih =>
      intro q
      have h1 := ih fun y hy => q y (List.mem_cons_of_mem _ hy)
      have h2 := q x List.mem_cons_self
      have : szW (x :: o) = szO x + szW o := by unfold szW; simp
      rw [this, List.length_cons]; omega
  have h1 := this ws fun o ho => by
    have h1 := szO_le (h.ok o ho)
    have h2 := h.few o ho
    omega
  have := h.len
  omega
section
variable {P : Program} {w : World} {K : PySem.W.Frag} {mg : Str → Option Value} {base : Heap}
theorem tb_newB (T : Top K mg) {n : Nat} {fs : List Nat} (hm : MachOk n fs) {l : Ln} (hl : LnOk n fs l) (held : List Tm) : (tbI (P := P) (w := w) (base := base) T).newB held l = newT held l := by
  obtain ⟨c, fn, src⟩ := l
  have hln := hl.len hm
  cases fn with
  | none =>
    obtain ⟨s, hsrc, _⟩ := hl.fn
    have hsrc : src = [s] := hsrc
    subst hsrc; rfl
  | some f =>
    match src, hln with
    | [a], _ => rfl
    | [a, b], _ => rfl
    | [], h => exact absurd h.1 (Nat.not_succ_le_zero 0)
    | a :: b :: e :: r, h => exact absurd h.2 (by simp)
theorem db_newB (T : Top K mg) {n : Nat} {fs : List Nat} (hm : MachOk n fs) {l : Ln} (hl : LnOk n fs l) (held : List Tm) : (dbI (P := P) (w := w) (base := base) T).newB (held.map fun t => t.dep + 1) l = (newT held l).dep + 1 := by
  obtain ⟨c, fn, src⟩ := l
  have hln := hl.len hm
  have hat : ∀ s, (dbI (P := P) (w := w) (base := base) T).atB (held.map fun t => t.dep + 1) s = (tmAt held s).dep + 1 := fun s => by
    show ((held.map fun t => t.dep + 1)[s]?).getD 1 = ((held[s]?).getD (.atom 0)).dep + 1
    rw [List.getElem?_map]
    cases held[s]? <;> rfl
  cases fn with
  | none =>
    obtain ⟨s, hsrc, _⟩ := hl.fn
    have hsrc : src = [s] := hsrc
    subst hsrc; exact hat s
  | some f =>
    match src, hln with
    | [a], _ =>
      show mkN [_] = (tmAt held a).dep + 1 + 1
      rw [hat]; show 1 + max 0 ((tmAt held a).dep + 1) = _; omega
    | [a, b], _ =>
      show mkN [_, _] = max (tmAt held a).dep (tmAt held b).dep + 1 + 1
      rw [hat, hat]; show 1 + max (max 0 ((tmAt held a).dep + 1)) ((tmAt held b).dep + 1) = _; omega
    | [], h => exact absurd h.1 (Nat.not_succ_le_zero 0)
    | a :: b :: e :: r, h => exact absurd h.2 (by simp)
theorem valid_pre {hands : List (List Ln)} {us vs : List Nat} (h : ValidW hands (us ++ vs)) : ValidW hands us :=
  ⟨fun x hx => h.lt x (List.mem_append_left _ hx), fun x r hr => by have := h.le x r hr; rw [List.count_append] at this; omega⟩
theorem line_ok {n : Nat} {fs : List Nat} {hands : List (List Ln)} (hh : ∀ r ∈ hands, LinesOk n fs r) {us vs : List Nat} {h : Nat} (hv : ValidW hands (us ++ h :: vs)) : LnOk n fs (lineAt hands h (us.count h)) := by
  obtain ⟨r, hr1, hr2, hr3⟩ := line_at hv
  exact hh r (List.mem_of_getElem? hr1) _ (List.mem_of_getElem? hr3)
theorem list_ind {p : List Nat → Prop} (h0 : p []) (hs : ∀ l a, p l → p (l ++ [a])) (l : List Nat) : p l := by
  have : ∀ l : List Nat, p l.reverse := fun l => by
    induction l with
    | nil => exact h0
    | cons a l ih => rw [List.reverse_cons]; exact hs _ _ ih
  rw [← List.reverse_reverse l]; exact this _
theorem tb_woven (T : Top K mg) {n : Nat} {fs : List Nat} (hm : MachOk n fs) {hands : List (List Ln)} (hh : ∀ r ∈ hands, LinesOk n fs r) : ∀ ws : List Nat, ValidW hands ws → (tbI (P := P) (w := w) (base := base) T).wovenB n hands ws = woven n hands ws :=
  list_ind (fun _ => rfl) fun ws h ih hv => by
    rw [BookI.wovenB_snoc, woven_snoc, ih (valid_pre hv)]
    show List.set _ _ _ = List.set _ _ _
    rw [tb_newB T hm (line_ok hh hv)]
theorem db_woven (T : Top K mg) {n : Nat} {fs : List Nat} (hm : MachOk n fs) {hands : List (List Ln)} (hh : ∀ r ∈ hands, LinesOk n fs r) : ∀ ws : List Nat, ValidW hands ws → (dbI (P := P) (w := w) (base := base) T).wovenB n hands ws = (woven n hands ws).map fun t => t.dep + 1 :=
  list_ind (fun _ => by rw [BookI.wovenB_nil, woven_nil, List.map_map]; rfl) fun ws h ih hv => by
    rw [BookI.wovenB_snoc, woven_snoc, ih (valid_pre hv)]
    show List.set _ _ _ = List.map _ (List.set _ _ _)
    rw [db_newB T hm (line_ok hh hv), List.map_set]
theorem tb_okW (T : Top K mg) (n : Nat) (hands : List (List Ln)) (ws : List Nat) : (tbI (P := P) (w := w) (base := base) T).okW n hands ws := fun _ _ _ _ _ => True.intro
theorem db_okW (T : Top K mg) {n : Nat} {fs : List Nat} (hm : MachOk n fs) {hands : List (List Ln)} (hh : ∀ r ∈ hands, LinesOk n fs r) (h6 : worksH hands ≤ 6) {ws : List Nat} (hv : ValidW hands ws) : (dbI (P := P) (w := w) (base := base) T).okW n hands ws := fun us h vs e _ q hq => by
  obtain ⟨s, hs, rfl⟩ := List.mem_map.mp hq
  subst e
  have hv1 := valid_pre hv
  have hg := woven_good hm hh hv1
  have hl := line_ok hh hv
  have h1 := (hg.at (hl.src s hs)).2
  let W : List Nat := (dbI (P := P) (w := w) (base := base) T).wovenB n hands us
  have eW : W = (woven n hands us).map fun t => t.dep + 1 := db_woven T hm hh us hv1
  show (W[s]?).getD 1 < 8
  rw [eW, List.getElem?_map]
  have : ((woven n hands us)[s]?).map (fun t : Tm => t.dep + 1) = some ((tmAt (woven n hands us) s).dep + 1) := by
    rw [tmAt_get (by rw [woven_len]; exact hl.src s hs)]; rfl
  rw [this]
  show (tmAt _ s).dep + 1 < 8
  omega
/-- harm as numbers tell it -/
theorem harm_num {has : Tm → Nat → Prop} (hi : ∀ c d n, has c n → has d n → c = d) (hf : ∀ c n m, has c n → has c m → n = m) {ts : List Tm} (hix : ∀ t ∈ ts, has t (ix ts t)) {hands : List (List Ln)} {wishes : List (List Wish)} {held : List Tm} {ns : List Nat} {ws : List Nat} (hl : wishes.length = hands.length)
    (hh : HasL has held ns) (hin : ∀ o ∈ wishes, ∀ z ∈ o, z.2 ∈ ts ∧ z.1 < held.length) :
    harmed ns (duesTo hands (numW ts wishes) ((List.range hands.length).map fun h => ws.count h) hands.length) = !kept hands wishes ws held := by
  unfold harmed duesTo kept
  rw [List.any_flatMap, List.not_all_eq_any_not, hl]
  rw [Bool.eq_iff_iff, List.any_eq_true, List.any_eq_true]
  have key : ∀ h ∈ List.range hands.length, ((duesAt hands (numW ts wishes) ((List.range hands.length).map fun h => ws.count h) h).any fun x => !decide (((ns[x.1]?).getD 0 : Int) = x.2)) = !keptAt hands wishes ws held h := fun h hh2 => by
    have hlt := List.mem_range.mp hh2
    have e1 : msAt ((List.range hands.length).map fun h => ws.count h) h = ws.count h := by unfold msAt; rw [List.getElem?_map, List.getElem?_range hlt]; rfl
    unfold duesAt keptAt
    rw [e1]
    by_cases hc : ws.count h = rowLen hands h
    · rw [if_pos hc, decide_eq_true hc]
      obtain ⟨own, hown⟩ : ∃ own, wishes[h]? = some own := ⟨wishes[h]'(by omega), List.getElem?_eq_getElem (by omega)⟩
      have e2 : ((numW ts wishes)[h]?).getD [] = numO ts own := by unfold numW; rw [List.getElem?_map, hown]; rfl
      rw [e2, hown]
      show _ = !(false || ownKept held own)
      rw [Bool.false_or]
      unfold numO ownKept
      rw [List.any_map, List.not_all_eq_any_not]
      have hown2 := hin own (List.mem_of_getElem? hown)
      clear e2 hown
      induction own with
      | nil => rfl
      | cons y o ih =>
        rw [List.any_cons, List.any_cons, ih fun z hz => hown2 z (List.mem_cons_of_mem _ hz)]
        congr 1
        obtain ⟨q1, q2⟩ := hown2 y List.mem_cons_self
        obtain ⟨n, n1, n2⟩ := hh.get (tmAt_get q2)
        show (!decide (((ns[y.1]?).getD 0 : Int) = ((ix ts y.2 : Nat) : Int))) = !decide (tmAt held y.1 = y.2)
        rw [n1]
        congr 1
        rw [decide_eq_decide]
        constructor
        · intro e
          have e : n = ix ts y.2 := by have : ((n : Nat) : Int) = ((ix ts y.2 : Nat) : Int) := e; omega
          exact hi _ _ n n2 (by rw [e]; exact hix _ q1)
        · intro e
          rw [e] at n2
          have := hf _ _ _ n2 (hix _ q1)
          show ((n : Nat) : Int) = _
          rw [this]
    · rw [if_neg hc, decide_eq_false hc]; rfl
  constructor
  · rintro ⟨h, h1, h2⟩; exact ⟨h, h1, by rw [← key h h1]; exact h2⟩
  · rintro ⟨h, h1, h2⟩; exact ⟨h, h1, by rw [key h h1]; exact h2⟩
inductive rel_shows : List PyData → (PyData → Prop) → Prop
  | odd (n : Nat) (fs : List Nat) (hands : List (List Ln)) (wishes : List (List Wish)) (hj : Judged n fs hands wishes) (d : PyData) (h : isTupD d = false) : rel_shows [encM n fs, encH hands, encWs wishes, d] fun z => z = .bool false
  | off (n : Nat) (fs : List Nat) (hands : List (List Ln)) (wishes : List (List Wish)) (hj : Judged n fs hands wishes) (ds : List PyData) (h3 : ds.length ≤ 100) (h : ds.all (fun d => betw d 0 ((hands.length : Int) - 1)) = false) : rel_shows [encM n fs, encH hands, encWs wishes, .tuple ds] fun z => z = .bool false
  | nums (n : Nat) (fs : List Nat) (hands : List (List Ln)) (wishes : List (List Wish)) (hj : Judged n fs hands wishes) (ws : List Nat) (h3 : ws.length ≤ 100) (h : ∀ x ∈ ws, x < hands.length) : rel_shows [encM n fs, encH hands, encWs wishes, encW ws] fun z => z = .bool (fits hands ws && !kept hands wishes ws (woven n hands ws))
theorem fits_valid {hands : List (List Ln)} {ws : List Nat} (h : ∀ x ∈ ws, x < hands.length) (hf : fits hands ws = true) : ValidW hands ws := ⟨h, fun x r hr => by
  unfold fits at hf
  rw [List.all_eq_true] at hf
  have := of_decide_eq_true (hf x (List.mem_range.mpr (List.getElem?_eq_some_iff.mp hr).1))
  rw [show rowLen hands x = r.length by unfold rowLen; rw [hr]; rfl] at this
  exact this⟩
theorem ok_shows_harm (T : Top K mg) : FnOk P w K mg base CX0 15 T.shows_harm.f T.shows_harm.fd ["machine", "hands", "wishes", "value"] (spP K rel_shows) :=
  fnP T.shows_harm.F sc_shows_harm (fun ds Pd h => by cases h <;> rfl) fun cdv A outer s H E hr => by
    refine ⟨_, (pss_cons (ps_expr (pe_call (ok_check_judged T) (hr.mono (by omega)) rfl T.check_judged.m T.check_judged.F.kp T.check_judged.b .nil pass0 (pa_cons (pv 0) (pa_cons (pv 1) (pa_cons (pv 2) pa_nil)))))
    (pss_cons (ps_if (pt_not (pt_val (pe_call (ok_is_weaving T) (hr.mono (by omega)) rfl T.is_weaving.m T.is_weaving.F.kp T.is_weaving.b .nil pass0 (pa_cons (pv 1) (pa_cons (pv 3) pa_nil))))) (pss_one (ps_ret pe_bl)) pss_nil)
    (pss_cons (ps_set (i := 4) sc_shows_harm.nd rfl (by first | exact Or.inl rfl | exact Or.inr rfl) (pe_make T.tb_init.m (ok_tb_init T) (hr.mono (by omega)) rfl T.tb_m T.tb_init.b .nil pass0 (pa_cons (pv 0) pa_nil)))
    (pss_cons (ps_set (i := 5) sc_shows_harm.nd rfl (by first | exact Or.inl rfl | exact Or.inr rfl) (pe_call (ok_numbered T) (hr.mono (by omega)) rfl T.numbered.m T.numbered.F.kp T.numbered.b .nil pass0 (pa_cons (pv 4) (pa_cons (pv 2) pa_nil))))
    (pss_cons (ps_set (i := 6) sc_shows_harm.nd rfl (by first | exact Or.inl rfl | exact Or.inr rfl) (pe_callTy (r := rTupN K) call_tupN (by rfl) T.n_tuple (by decide +kernel) (pa_cons (pe_lc (own := [("hand", 7)]) rfl sc_shows_harm.nd (pi_range1 rfl T.n_range (pa_cons (pe_callB (r := rLenQ K) call_len_seq (by rfl) T.n_len PySem.boot_len (pa_cons (pv 1) pa_nil)) pa_nil)) (blkOk_by (own := [("hand", 7)]) (N := ["machine", "hands", "wishes", "value", "book", "wished", "moments", "hand"]) (sc := (defScope (topS 41))) (by decide +kernel)) (fun _ _ _ _ _ => (pg_name (i := 7) sc_shows_harm.nd rfl (by first | exact Or.inl rfl | exact Or.inr rfl))) (fun _ _ _ _ _ => pts_nil) (fun _ _ _ _ _ => (pe_tcount K (pv 3) (pv 7) hr.units))) pa_nil)))
    (pss_one (ps_ret (pe_call (ok_is_harmed T) (hr.mono (by omega)) rfl T.is_harmed.m T.is_harmed.F.kp T.is_harmed.b .nil pass0 (pa_cons (pe_call (ok_held_behind T (tbI T)) (hr.mono (by omega)) rfl T.held_behind.m T.held_behind.F.kp T.held_behind.b .nil pass0 (pa_cons (pv 4) (pa_cons (pv 1) (pa_cons (pv 3) pa_nil)))) (pa_cons (pe_call (ok_due_wishes T) (hr.mono (by omega)) rfl T.due_wishes.m T.due_wishes.F.kp T.due_wishes.b .nil pass0 (pa_cons (pv 1) (pa_cons (pv 5) (pa_cons (pv 6) pa_nil)))) pa_nil)))))))))), fun A0 ds Pd hrel => ?_⟩
    cases hrel with
    | odd n fs hands wishes hj d h =>
      refine dq_expr (dv_call (das_cons (de_var rfl) (das2 (de_var rfl) (de_var rfl))) (.mk n fs hands wishes hj)) ?_
      exact dq_out (b := true) ((db_not (db_B (dv_call (das2 (de_var rfl) (de_var rfl)) (.odd hands d h)))).is rfl) (fun _ => ds_retV de_bl rfl) fun e => by cases e
    | off n fs hands wishes hj ds h3 h =>
      refine dq_expr (dv_call (das_cons (de_var rfl) (das2 (de_var rfl) (de_var rfl))) (.mk n fs hands wishes hj)) ?_
      exact dq_out (b := true) ((db_not (db_B (dv_call (das2 (de_var rfl) (de_var rfl)) (.off hands ds h3 h)))).is rfl) (fun _ => ds_retV de_bl rfl) fun e => by cases e
    | nums n fs hands wishes hj ws h3 h =>
      have hH3 := hj.h.h3
      refine dq_expr (dv_call (das_cons (de_var rfl) (das2 (de_var rfl) (de_var rfl))) (.mk n fs hands wishes hj)) ?_
      refine dq_out (b := !fits hands ws) ((db_not (db_B (dv_call (das2 (de_var rfl) (de_var rfl)) (.nums hands ws h3 hH3 h)))).is rfl) (fun e => ds_retV de_bl (by
        have : fits hands ws = false := by simpa using e
        rw [this]; rfl)) fun e => ?_
      have hfit : fits hands ws = true := by simpa using e
      have hv := fits_valid h hfit
      refine ds_seq (N1 := fun δ => ∃ x : Tb, δ = [.dat (encM n fs), .dat (encH hands), .dat (encWs wishes), .dat (encW ws), .box (tb K w T.tb x), .no, .no, .no] ∧ x.n = n ∧ x.ts = (List.range n).map .atom) (ds_setNew (das1 (de_var rfl)) (.mk n fs hj.m.n4) fun b ⟨x, e1, e2, e3⟩ => ⟨x, by rw [e1]; rfl, e2, e3⟩) ?_
      rintro δ1 ⟨x, rfl, rfl, hts⟩
      have hsz := szW_le hj.w hH3
      have hlen : x.ts.length ≤ 4 := by rw [hts, List.length_map, List.length_range]; exact hj.m.n4
      refine dq_set (P := fun d δ1 => ∃ y, δ1 = [.dat (encM x.n fs), .dat (encH hands), .dat (encWs wishes), .dat (encW ws), .box (tb K w T.tb y), .no, .no, .no] ∧ Exts x y (szW wishes) ∧ (∀ own ∈ wishes, ∀ z ∈ own, z.2 ∈ y.ts) ∧ d = .list ((numW y.ts wishes).map encPrs))
        (dv_callI (x := x) rfl (das1 (de_var rfl)) (.mk x fs hj.m wishes hands.length hH3 hj.w (by omega)) fun d y ⟨y1, y2, y3⟩ => ⟨y, rfl, y1, y2, y3⟩) ?_
      rintro d δ1 ⟨y, rfl, y1, y2, rfl⟩
      have hly := y1.len
      refine dq_setV (d := encMo ((List.range hands.length).map fun h => ws.count h)) ((dv_tupL (ds := ((List.range hands.length).map fun h => dN (ws.count h))) (DN.dl ((dn_map (fun d => match d with | .int k => dN (ws.count k.toNat) | _ => .none) (di_rangeV (n := hands.length) ((dv_len (d := encH hands) (de_var rfl) rfl).is (by show PyData.int _ = _; unfold encH seqOf; rw [List.length_map])) (by omega)) (by rw [rangeD_len]; omega) fun H0' d hd => ?_).mono fun es δ' ⟨e1, e2⟩ => ⟨?_, e2⟩))).is ?_) ?_
      · obtain ⟨i, hi, rfl⟩ := List.mem_map.mp hd
        refine ⟨_, dw_name (by decide), by repeat' (first | exact True.intro | rfl | refine ⟨?_, ?_⟩), (dv_count (ws := ws) (de_var rfl) (de_var (d := dN i) rfl)).is ?_⟩
        show dN (ws.count i) = dN (ws.count ((i : Nat) : Int).toNat)
        rw [Int.toNat_natCast]
      · unfold encMo; rw [List.map_map]; rfl
      · let BI := tbI (P := P) (w := w) (base := base) T
        have hvb := BookI.wovenB_len BI y.n hands ws
        refine ds_ret (de_call (PA := fun es δ1 => ∃ z ms, δ1 = [.dat (encM x.n fs), .dat (encH hands), .dat (encWs wishes), .dat (encW ws), .box (tb K w T.tb z), .dat (.list ((numW y.ts wishes).map encPrs)), .dat (encMo ((List.range hands.length).map fun h => ws.count h)), .no] ∧ BI.le y z ∧ HasL (BI.has z) (woven x.n hands ws) ms ∧ es = [.tuple (ms.map dN), encPrs (duesTo hands (numW y.ts wishes) ((List.range hands.length).map fun h => ws.count h) hands.length)]) ?_ ?_)
        · refine da_cons (P := fun d δ1 => ∃ z ms, δ1 = [.dat (encM x.n fs), .dat (encH hands), .dat (encWs wishes), .dat (encW ws), .box (tb K w T.tb z), .dat (.list ((numW y.ts wishes).map encPrs)), .dat (encMo ((List.range hands.length).map fun h => ws.count h)), .no] ∧ BI.le y z ∧ HasL (BI.has z) (woven x.n hands ws) ms ∧ d = .tuple (ms.map dN))
            (dv_callI (mk := BI.bx) (x := y) rfl (das2 (de_var rfl) (de_var rfl)) (.mk y fs (by show MachOk y.n fs; rw [y1.n]; exact hj.m) hands (fun r hr2 l hl => by show LnOk y.n fs l; rw [y1.n]; exact hj.h.lns r hr2 l hl) hH3 ws hv (by show y.ts.length + ws.length < 1000000; omega) (tb_okW T _ _ _)) fun d z ⟨z1, z2, ms, z3, z4⟩ => ⟨z, ms, rfl, z1, ?_, z3⟩) ?_
          · rintro d δ1 ⟨z, ms, rfl, z1, z2, rfl⟩
            refine da_cons (P := is1 _ _) (dv_call (das_cons (de_var rfl) (das2 (de_var rfl) (de_var rfl))) (.mk hands (numW y.ts wishes) _ (by rw [List.length_map, List.length_range]) (by unfold numW; rw [List.length_map, hj.w.len]) hH3 fun o ho => ?_)) fun d δ1 ⟨e1, e2⟩ => ?_
            · obtain ⟨o', ho', rfl⟩ := List.mem_map.mp ho
              unfold numO; rw [List.length_map]
              have := hj.w.few o' ho'; omega
            · subst e1; subst e2
              exact fun A H σ s Q kk => da_nil A H σ s Q fun vs ds δ' H2 ⟨e1, e4⟩ => by
                subst e1; subst e4
                exact kk vs _ _ H2 ⟨z, ms, rfl, z1, z2, rfl⟩
          · have e1 : BI.wovenB (BI.wd y) hands ws = woven x.n hands ws := by
              show BI.wovenB y.n hands ws = _
              rw [y1.n]
              exact tb_woven T hj.m (fun r hr2 l hl => hj.h.lns r hr2 l hl) ws hv
            rw [← e1]; exact z4
        · rintro es δ1 ⟨z, ms, rfl, z1, z2, rfl⟩
          obtain ⟨k0, zx⟩ := z1
          have hml : ms.length = x.n := z2.len.symm.trans (woven_len _ _ _)
          have hdl : ∀ q ∈ duesTo hands (numW y.ts wishes) ((List.range hands.length).map fun h => ws.count h) hands.length, q.1 < x.n := fun q hq => by
            obtain ⟨h, _, hq⟩ := List.mem_flatMap.mp hq
            unfold duesAt at hq
            split at hq
            · unfold numW at hq
              rw [List.getElem?_map] at hq
              cases e : wishes[h]? with
              | none => rw [e] at hq; simp at hq
              | some o =>
                rw [e] at hq
                obtain ⟨u, hu, rfl⟩ := List.mem_map.mp hq
                exact ((hj.w.ok o (List.mem_of_getElem? e)).lt u hu).1
            · simp at hq
          have hdz : ∀ k, (duesTo hands (numW y.ts wishes) ((List.range hands.length).map fun h => ws.count h) k).length ≤ 4 * k := fun k => by
            induction k with
            | zero => exact Nat.le_refl _
            | succ k ih =>
              rw [duesTo_succ, List.length_append]
              have : (duesAt hands (numW y.ts wishes) ((List.range hands.length).map fun h => ws.count h) k).length ≤ 4 := by
                unfold duesAt
                split
                · unfold numW
                  rw [List.getElem?_map]
                  cases e : wishes[k]? with
                  | none => simp
                  | some o => show (numO y.ts o).length ≤ 4; unfold numO; rw [List.length_map]; exact hj.w.few o (List.mem_of_getElem? e)
                · simp
              omega
          refine ⟨_, .mk ms _ (fun q hq => by rw [hml]; exact hdl q hq) (by have := hdz hands.length; omega), fun d hd => ?_⟩
          rw [hd, hfit, Bool.true_and]
          congr 1
          refine harm_num (has := fun c n => c ∈ z.ts ∧ ix z.ts c = n) (fun c d n h k => ix_inj h.1 k.1 (h.2.trans k.2.symm)) (fun c n m h k => h.2.symm.trans k.2) (fun t ht => ⟨zx.mem ht, zx.ix ht⟩) (by rw [hj.w.len]) z2 fun o ho q hq => ⟨y2 o ho q hq, by rw [woven_len]; exact ((hj.w.ok o ho).lt q hq).1⟩
      · rename_i e1; rw [e1]; unfold rangeD; rw [List.map_map]
        refine List.map_congr_left fun i hi => ?_
        show dN (ws.count ((i : Nat) : Int).toNat) = _
        rw [Int.toNat_natCast]
end
end WL
end
section
set_option Elab.async false
set_option linter.all false
set_option maxRecDepth 100000
namespace WL
open PySem PySem.Spec PyProof.Rows L2
/-! ### ways, as the program keeps them -/
def figS (n : Nat) : Str := toString (n : Int)
def wayS (ws : List Nat) : Str := ws.foldl (fun s n => s ++ figS n) ""
theorem wayS_snoc (ws : List Nat) (n : Nat) : wayS (ws ++ [n]) = wayS ws ++ figS n := by unfold wayS; rw [List.foldl_append]; rfl
def ltW (a b : List Nat) : Bool := decide ((wayS a).cps.toList < (wayS b).cps.toList)
section
variable {β : Type} [DecidableEq β]
abbrev Ways (β : Type) := List (List β × List Nat)
def wAt (ws : Ways β) (h : List β) : Option (List Nat) := (ws.find? fun e => decide (e.1 = h)).map (·.2)
def putR (ws : Ways β) (h : List β) (way : List Nat) : Ways β := if (wAt ws h).isSome then ws.map (fun e => if e.1 = h then (e.1, way) else e) else ws ++ [(h, way)]
def putW (ws : Ways β) (h : List β) (way : List Nat) : Ways β := if (match wAt ws h with | none => true | some old => ltW way old) = true then putR ws h way else ws
def addW (step : List β → List β) (hand : Nat) (ws1 ws2 : Ways β) : Ways β := ws1.foldl (fun acc e => putW acc (step e.1) (e.2 ++ [hand])) ws2
theorem addW_snoc (step : List β → List β) (hand : Nat) (ws1 ws2 : Ways β) (e : List β × List Nat) : addW step hand (ws1 ++ [e]) ws2 = putW (addW step hand ws1 ws2) (step e.1) (e.2 ++ [hand]) := by unfold addW; rw [List.foldl_append]; rfl
theorem putR_len (ws : Ways β) (h : List β) (way : List Nat) : (putR ws h way).length ≤ ws.length + 1 := by
  unfold putR; split
  · rw [List.length_map]; omega
  · simp
theorem putW_cases (ws : Ways β) (h : List β) (way : List Nat) : (putW ws h way = putR ws h way ∧ ∀ old, wAt ws h = some old → ltW way old = true) ∨ (putW ws h way = ws ∧ ∃ old, wAt ws h = some old ∧ ltW way old = false) := by
  unfold putW
  cases q : wAt ws h with
  | none => exact .inl ⟨if_pos rfl, fun old e => by cases e⟩
  | some old =>
    cases c : ltW way old with
    | true => exact .inl ⟨if_pos c, fun old' e => by rw [← Option.some.inj e]; exact c⟩
    | false => exact .inr ⟨if_neg (by show ¬ ltW way old = true; rw [c]; exact Bool.false_ne_true), old, rfl, c⟩
theorem putW_len (ws : Ways β) (h : List β) (way : List Nat) : (putW ws h way).length ≤ ws.length + 1 := by
  unfold putW
  by_cases h1 : (match wAt ws h with | none => true | some old => ltW way old) = true
  · rw [if_pos h1]; exact putR_len ws h way
  · rw [if_neg h1]; omega
theorem addW_len (step : List β → List β) (hand : Nat) : ∀ (ws1 ws2 : Ways β), (addW step hand ws1 ws2).length ≤ ws2.length + ws1.length
  | [], ws2 => Nat.le_refl _
  | e :: r, ws2 => by
    have h1 := addW_len step hand r (putW ws2 (step e.1) (e.2 ++ [hand]))
    have h2 := putW_len ws2 (step e.1) (e.2 ++ [hand])
    show (addW step hand r (putW ws2 (step e.1) (e.2 ++ [hand]))).length ≤ _
    rw [List.length_cons]; omega
end
/-- the pairs of the dict are these ways -/
def WayKv {β : Type} (has : β → Nat → Prop) : List (PyData × V) → Ways β → Prop
  | [], [] => True
  | k :: ks, e :: es => (∃ ns, k.1 = .tuple (ns.map dN) ∧ HasL has e.1 ns ∧ k.2 = .str (wayS e.2)) ∧ WayKv has ks es
  | _, _ => False
section
variable {β : Type} {has has' : β → Nat → Prop}
theorem WayKv.len : ∀ {ks : List (PyData × V)} {es : Ways β}, WayKv has ks es → ks.length = es.length
  | [], [], _ => rfl
  | k :: ks, e :: es, h => by rw [List.length_cons, List.length_cons, WayKv.len h.2]
  | [], _ :: _, h => h.elim
  | _ :: _, [], h => h.elim
theorem WayKv.mono (w : ∀ c n, has c n → has' c n) : ∀ {ks : List (PyData × V)} {es : Ways β}, WayKv has ks es → WayKv has' ks es
  | [], [], _ => True.intro
  | k :: ks, e :: es, h => ⟨let ⟨ns, h1, h2, h3⟩ := h.1; ⟨ns, h1, h2.mono w, h3⟩, WayKv.mono w h.2⟩
  | [], _ :: _, h => h.elim
  | _ :: _, [], h => h.elim
theorem WayKv.app : ∀ {ks ks' : List (PyData × V)} {es es' : Ways β}, WayKv has ks es → WayKv has ks' es' → WayKv has (ks ++ ks') (es ++ es')
  | [], _, [], _, _, h => h
  | k :: ks, _, e :: es, _, h, q => ⟨h.1, WayKv.app h.2 q⟩
  | [], _, _ :: _, _, h, _ => h.elim
  | _ :: _, _, [], _, h, _ => h.elim
theorem WayKv.get : ∀ {ks : List (PyData × V)} {es : Ways β} {i : Nat} {k : PyData × V}, WayKv has ks es → ks[i]? = some k → ∃ e ns, es[i]? = some e ∧ k.1 = .tuple (ns.map dN) ∧ HasL has e.1 ns ∧ k.2 = .str (wayS e.2)
  | [], [], i, k, _, q => by simp at q
  | k :: ks, e :: es, 0, k', h, q => by
    simp at q; subst q
    obtain ⟨ns, h1, h2, h3⟩ := h.1
    exact ⟨e, ns, rfl, h1, h2, h3⟩
  | k :: ks, e :: es, i + 1, k', h, q => by
    obtain ⟨e', ns, h1, h2⟩ := WayKv.get (i := i) h.2 (by simpa using q)
    exact ⟨e', ns, by simpa using h1, h2⟩
  | [], _ :: _, _, _, h, _ => h.elim
  | _ :: _, [], _, _, h, _ => h.elim
theorem keyOk_nats : ∀ ns : List Nat, keysOk (ns.map dN) = true
  | [] => rfl
  | n :: ns => by
    show (keyOk (dN n) && keysOk (ns.map dN)) = true
    rw [keyOk_nats ns]; rfl
theorem nestedDepth_nats : ∀ ns : List Nat, NestedKey.depthAll (keysD (ns.map dN)) = 0
  | [] => rfl
  | n :: ns => by
    show max (keyD (dN n)).depth (NestedKey.depthAll (keysD (ns.map dN))) = 0
    rw [nestedDepth_nats ns]; rfl
theorem key_nats (ns : List Nat) : KeyOk (.tuple (ns.map dN)) = true := by
  unfold KeyOk
  have h1 : keyOk (.tuple (ns.map dN)) = true := keyOk_nats ns
  have h2 : (keyD (.tuple (ns.map dN))).depth = 1 := by
    show NestedKey.depthAll (keysD (ns.map dN)) + 1 = 1
    rw [nestedDepth_nats]
  rw [h1, h2]; rfl
theorem dN_map_inj : ∀ {a b : List Nat}, a.map dN = b.map dN → a = b
  | [], [], _ => rfl
  | x :: a, y :: b, h => by
    rw [List.map_cons, List.map_cons] at h
    injection h with h1 h2
    rw [dN_inj h1, dN_map_inj h2]
  | [], _ :: _, h => by cases h
  | _ :: _, [], h => by cases h
theorem key_eq (ns ms : List Nat) : keyD (.tuple (ns.map dN)) = keyD (.tuple (ms.map dN)) ↔ ns = ms :=
  ⟨fun h => by
    have := KeyOk.inj (key_nats ns) (key_nats ms) h
    injection this with h
    exact dN_map_inj h, fun h => by rw [h]⟩
variable [DecidableEq β]
theorem way_key (hi : ∀ c d n, has c n → has d n → c = d) (hf : ∀ c n m, has c n → has c m → n = m) {h h' : List β} {ns ms : List Nat} (a : HasL has h ns) (b : HasL has h' ms) : keyD (.tuple (ns.map dN)) = keyD (.tuple (ms.map dN)) ↔ h = h' := by
  rw [key_eq]
  exact ⟨fun e => HasL.inj hi a (e ▸ b), fun e => by subst e; exact HasL.func hf a b⟩
theorem WayKv.at_ (hi : ∀ c d n, has c n → has d n → c = d) (hf : ∀ c n m, has c n → has c m → n = m) {h : List β} {ms : List Nat} (hh : HasL has h ms) : ∀ {ks : List (PyData × V)} {es : Ways β}, WayKv has ks es → kvAt ks (.tuple (ms.map dN)) = (wAt es h).map fun way => V.str (wayS way)
  | [], [], _ => rfl
  | k :: ks, e :: es, q => by
    obtain ⟨⟨ns, h1, h2, h3⟩, q2⟩ := q
    have ih := WayKv.at_ hi hf hh q2
    unfold kvAt wAt at ih ⊢
    rw [List.find?_cons, List.find?_cons, h1]
    have hk := way_key hi hf h2 hh
    by_cases e1 : e.1 = h
    · rw [decide_eq_true (hk.mpr e1), decide_eq_true e1]
      show some k.2 = some (V.str (wayS e.2))
      rw [h3]
    · rw [decide_eq_false (fun z => e1 (hk.mp z)), decide_eq_false e1]; exact ih
  | [], _ :: _, h => h.elim
  | _ :: _, [], h => h.elim
theorem WayKv.put (hi : ∀ c d n, has c n → has d n → c = d) (hf : ∀ c n m, has c n → has c m → n = m) {h : List β} {ms : List Nat} (hh : HasL has h ms) (way : List Nat) {ks : List (PyData × V)} {es : Ways β} (q : WayKv has ks es) : WayKv has (kvPut ks (.tuple (ms.map dN)) (.str (wayS way))) (putR es h way) := by
  unfold kvPut putR
  rw [WayKv.at_ hi hf hh q]
  cases e : wAt es h with
  | none =>
    rw [if_neg (by simp), if_neg (by simp)]
    exact q.app ⟨⟨ms, rfl, hh, rfl⟩, True.intro⟩
  | some old =>
    rw [if_pos (by simp), if_pos (by simp)]
    clear e
    have key : ∀ (ks : List (PyData × V)) (es : Ways β), WayKv has ks es → WayKv has (ks.map fun e => if keyD e.1 = keyD (.tuple (ms.map dN)) then (e.1, V.str (wayS way)) else e) (es.map fun e => if e.1 = h then (e.1, way) else e) := by
      intro ks
      induction ks with
      | nil => intro es q; cases es with
        | nil => exact True.intro
        | cons _ _ => exact q.elim
      | cons k ks ih => intro es q; cases es with
        | nil => exact q.elim
        | cons e es =>
          obtain ⟨⟨ns, h1, h2, h3⟩, q2⟩ := q
          refine ⟨?_, ih es q2⟩
          have hk := way_key hi hf h2 hh
          by_cases e1 : e.1 = h
          · have a1 : (if keyD k.1 = keyD (.tuple (ms.map dN)) then (k.1, V.str (wayS way)) else k) = (k.1, V.str (wayS way)) := by rw [h1, if_pos (hk.mpr e1)]
            have a2 : (if e.1 = h then (e.1, way) else e) = (e.1, way) := if_pos e1
            dsimp only
            rw [a1, a2]; exact ⟨ns, h1, h2, rfl⟩
          · have a1 : (if keyD k.1 = keyD (.tuple (ms.map dN)) then (k.1, V.str (wayS way)) else k) = k := by rw [h1, if_neg (fun z => e1 (hk.mp z))]
            have a2 : (if e.1 = h then (e.1, way) else e) = e := if_neg e1
            dsimp only
            rw [a1, a2]; exact ⟨ns, h1, h2, h3⟩
    exact key ks es q
end
theorem dv_strI {F : Fx} {te : TE} {δ : List WSlot} {i : Int} (h : DV F te δ (.int i)) (hi : i.natAbs.log2 < 1920) : DV F (tCB (fun xs H Q => ∃ i, xs = [.int i] ∧ i.natAbs.log2 < 1920 ∧ Q (.str (toString i)) H) (tCons te tNil)) δ (.str (toString i)) :=
  dv_cb1 h fun A H v l hv Q q => by rw [dp_int hv]; exact ⟨i, rfl, hi, q _ H (WL.Ex.refl _) (.str _)⟩
theorem dv_addS {F : Fx} {ta tb : TE} {δ : List WSlot} {a b : Str} (ha : DV F ta δ (.str a)) (hb : DV F tb δ (.str b)) (hl : a.length + b.length ≤ sizeLine) : DV F (tOp (fun x y H Q => ∃ i j, x = .str i ∧ y = .str j ∧ i.length + j.length ≤ sizeLine ∧ Q (.str (i ++ j)) H) ta tb) δ (.str (a ++ b)) := dv_op ha hb fun A H x y l h1 h2 Q q => by
  rw [dp_str h1, dp_str h2]
  exact ⟨a, b, rfl, rfl, hl, q _ _ H rfl (WL.Ex.refl _) (.str _)⟩
theorem dv_ltS {F : Fx} {ta tb : TE} {δ : List WSlot} {a b : Str} (ha : DV F ta δ (.str a)) (hb : DV F tb δ (.str b)) : DV F (tOp (fun x y H Q => ∃ i j, x = .str i ∧ y = .str j ∧ Q (.bl (decide (i.cps.toList < j.cps.toList))) H) ta tb) δ (.bool (decide (a.cps.toList < b.cps.toList))) := dv_op ha hb fun A H x y l h1 h2 Q q => by
  rw [dp_str h1, dp_str h2]
  exact ⟨a, b, rfl, rfl, q _ _ H rfl (WL.Ex.refl _) (.bl _)⟩
section
variable {P : Program} {w : World} {K : PySem.W.Frag} {mg : Str → Option Value} {base : Heap}
/-- the ways as a book has them -/
def BookI.addB (B : BookI P w K mg base) (l : Ln) (hand : Nat) (ws1 ws2 : Ways B.β) : Ways B.β := @addW B.β B.dec (fun h => B.stepB h l) hand ws1 ws2
inductive rel_addWays (B : BookI P w K mg base) : List WSlot → (PyData → List WSlot → Prop) → Prop
  | mk (x : B.α) (fs : List Nat) (hand : Nat) (l : Ln) (d1 d2 : Addr) (kvs1 kvs2 : List (PyData × V)) (ws1 ws2 : Ways B.β) (hm : MachOk (B.wd x) fs) (hl : LnOk (B.wd x) fs l) (h3 : hand < 3)
      (hok : ∀ e ∈ ws1, e.1.length = B.wd x ∧ B.okL e.1 l ∧ (wayS e.2).length ≤ 1000) (h1 : WayKv (B.has x) kvs1 ws1) (h2 : WayKv (B.has x) kvs2 ws2) (hs : B.size x + ws1.length < 1000000) (hz : ws2.length + ws1.length < 1000000) :
    rel_addWays B [.box (B.bx x), .dat (dN hand), .dat (encL l), .box (dkB K w d1 kvs1), .box (dkB K w d2 kvs2)] fun _ δ1 => ∃ y kvs2', B.le x y ∧ B.size y ≤ B.size x + ws1.length ∧ WayKv (B.has y) kvs2' (B.addB l hand ws1 ws2) ∧ δ1 = [.box (B.bx y), .no, .no, .box (dkB K w d1 kvs1), .box (dkB K w d2 kvs2')]
theorem figS_len {n : Nat} (h : n < 3) : (figS n).length ≤ 10 := by
  match n, h with
  | 0, _ => decide +kernel
  | 1, _ => decide +kernel
  | 2, _ => decide +kernel
  | n + 3, h => omega
theorem ok_add_ways (T : Top K mg) (BI : BookI P w K mg base) : FnOk P w K mg base CX0 3 T.add_ways.f T.add_ways.fd ["book", "hand", "line", "ways", "later_ways"] (spG K (rel_addWays BI)) :=
  fnG T.add_ways.F sc_add_ways (fun es Pd h => by cases h; rfl) fun cdv A outer s H E hr => by
    refine ⟨_, (pss_cons (ps_set (i := 5) sc_add_ways.nd rfl (by first | exact Or.inl rfl | exact Or.inr rfl) (pe_callTy call_str_int (by rfl) T.n_str (by decide +kernel) (pa_cons (pv 1) pa_nil)))
    (pss_one (ps_lock (ps_for PassesOwn.never rfl (pi_dkI (pv 3)) (pg_tup rfl (pgs_cons (pg_name (i := 6) sc_add_ways.nd rfl (by first | exact Or.inl rfl | exact Or.inr rfl)) (pgs_cons (pg_name (i := 7) sc_add_ways.nd rfl (by first | exact Or.inl rfl | exact Or.inr rfl)) pgs_nil))) (pss_cons (ps_set (i := 8) sc_add_ways.nd rfl (by first | exact Or.inl rfl | exact Or.inr rfl) (pe_call (ok_held_after T BI) (hr.mono (by omega)) rfl T.held_after.m T.held_after.F.kp T.held_after.b .nil pass0 (pa_cons (pv 0) (pa_cons (pv 2) (pa_cons (pv 6) pa_nil)))))
    (pss_cons (ps_set (i := 9) sc_add_ways.nd rfl (by first | exact Or.inl rfl | exact Or.inr rfl) (pe_op op_add_str (pv 7) (pv 5)))
    (pss_one (ps_if (PW.pt (pw_or (pt_cmpR (r := rDkNotIn K w) (op_dkNotIn (hu9 hr)) (pv 8) (pv 4) rfl) (pw_or1 (pt_cmpR op_lt_str (pv 9) (pe_dkget (hu9 hr) (pv 4) (pv 8) (fun _ _ => rfl)) (nomark _))))) (pss_one (ps_asg (pv 9) (pg_sub (pv 4) (pv 8) (set_dk (hu9 hr))))) pss_nil)))))))), fun A0 δ0 Pd hrel => ?_⟩
    cases hrel with
    | mk x fs hand l d1 d2 kvs1 kvs2 ws1 ws2 hm hl h3 hok h1 h2 hs hz =>
      letI := BI.dec
      have hsl : 1000000 < sizeLine := by decide
      refine dq_setV (d := .str (figS hand)) (dv_strI (de_var (d := dN hand) rfl) (by match hand, h3 with | 0, _ => decide | 1, _ => decide | 2, _ => decide | n + 3, h => omega)) ?_
      refine ds_lock (i := 3) (w := w) (d := d1) (kvs := kvs1) rfl fun od es hes => ?_
      have hlen1 : es.length = ws1.length := by rw [← h1.len, ← hes]; unfold kvOf; rw [List.length_map]
      refine ds_items (i := 3) (d := d1) (od := od) (es := es) (ws1.map fun e => .dat (.str (wayS e.2))) (fun k e he => ?_) rfl
        (fun n δ => ∃ y kvs2' s6 s7 s8 s9, δ = [.box (BI.bx y), .dat (dN hand), .dat (encL l), .box (dkL K w d1 od es), .box (dkB K w d2 kvs2'), .dat (.str (figS hand)), s6, s7, s8, s9] ∧ BI.le x y ∧ BI.size y ≤ BI.size x + n ∧ WayKv (BI.has y) kvs2' (BI.addB l hand (ws1.take n) ws2))
        ⟨x, kvs2, _, _, _, _, rfl, BI.refl x, Nat.le_refl _, h2⟩ (fun n δn ⟨y, kvs2', s6, s7, s8, s9, e, _⟩ => by rw [e]; rfl) ?_ ?_
      · have hek : kvs1[k]? = some (e.1, e.2.2) := by rw [← hes]; unfold kvOf; rw [List.getElem?_map, he]; rfl
        obtain ⟨e', ns, q1, _, _, q4⟩ := h1.get hek
        have q4 : e.2.2 = .str (wayS e'.2) := q4
        exact ⟨.dat (.str (wayS e'.2)), by rw [List.getElem?_map, q1]; rfl, rfl, fun A H => ⟨_, rfl, by rw [q4]; exact .str _⟩⟩
      · rintro n e ws δn he hws ⟨y, kvs2', s6, s7, s8, s9, rfl, hle, hsz, hkv⟩
        have hek : kvs1[n]? = some (e.1, e.2.2) := by rw [← hes]; unfold kvOf; rw [List.getElem?_map, he]; rfl
        obtain ⟨e', ns, q1, q2, q3, q4⟩ := h1.get hek
        rw [List.getElem?_map, q1] at hws
        have hws : ws = .dat (.str (wayS e'.2)) := (Option.some.inj hws).symm
        subst hws
        have q2 : e.1 = .tuple (ns.map dN) := q2
        rw [q2]
        have hmem := List.mem_of_getElem? q1
        obtain ⟨o1, o2, o3⟩ := hok e' hmem
        have hnl : n < ws1.length := (List.getElem?_eq_some_iff.mp q1).1
        have hwd := (BI.same hle).2.2
        have hte : ws1.take (n + 1) = ws1.take n ++ [e'] := take_snoc q1
        refine dq_set (P := fun d δ1 => ∃ z ms, δ1 = [.box (BI.bx z), .dat (dN hand), .dat (encL l), .box (dkL K w d1 od es), .box (dkB K w d2 kvs2'), .dat (.str (figS hand)), .dat (.tuple (ns.map dN)), .dat (.str (wayS e'.2)), s8, s9] ∧ BI.le y z ∧ BI.size z ≤ BI.size y + 1 ∧ d = .tuple (ms.map dN) ∧ HasL (BI.has z) (BI.stepB e'.1 l) ms)
          (dv_callI (x := y) rfl (das2 (de_var rfl) (de_var rfl)) (.mk y fs l e'.1 ns (by rw [hwd]; exact hm) (by rw [hwd]; exact hl) (by rw [hwd]; exact o1) (q3.mono fun _ _ h => BI.mono hle h) (by omega) o2) fun d z ⟨z1, z2, ms, z3, z4⟩ => ⟨z, ms, rfl, z1, z2, z3, z4⟩) ?_
        rintro d δ1 ⟨z, ms, rfl, z1, z2, rfl, z4⟩
        refine dq_setV (d := .str (wayS (e'.2 ++ [hand]))) ((dv_addS (a := wayS e'.2) (b := figS hand) (de_var rfl) (de_var rfl) (by have := figS_len h3; omega)).is (by rw [wayS_snoc])) ?_
        have hi : ∀ c d n, BI.has z c n → BI.has z d n → c = d := fun c d n h k => BI.inj h k
        have hf : ∀ c n m, BI.has z c n → BI.has z c m → n = m := fun c n m h k => BI.func h k
        have hkvz : WayKv (BI.has z) kvs2' (BI.addB l hand (ws1.take n) ws2) := hkv.mono fun _ _ h => BI.mono z1 h
        have hat := WayKv.at_ hi hf z4 hkvz
        have hleT := BI.trans hle z1
        have hlk : kvs2'.length ≤ ws2.length + ws1.length := by
          rw [hkv.len]
          have := addW_len (fun h => BI.stepB h l) hand (ws1.take n) ws2
          rw [List.length_take] at this
          have e0 : BI.addB l hand (ws1.take n) ws2 = addW (fun h => BI.stepB h l) hand (ws1.take n) ws2 := rfl
          rw [e0]; omega
        have eput : BI.addB l hand (ws1.take (n + 1)) ws2 = putW (BI.addB l hand (ws1.take n) ws2) (BI.stepB e'.1 l) (e'.2 ++ [hand]) := by
          rw [hte]; exact addW_snoc _ _ _ _ _
        refine ds_ifB (b := (!(kvAt kvs2' (.tuple (ms.map dN))).isSome) || (match wAt (BI.addB l hand (ws1.take n) ws2) (BI.stepB e'.1 l) with | none => true | some old => ltW (e'.2 ++ [hand]) old)) (db_or (db_test (dv_dkNotIn (kvs := kvs2') rfl (de_var rfl) (key_nats ms))) fun hb => ?_) (fun hb => ?_) fun hb => ?_
        · rw [hat] at hb
          cases ew : wAt (BI.addB l hand (ws1.take n) ws2) (BI.stepB e'.1 l) with
          | none => rw [ew] at hb; cases hb
          | some old =>
            rw [ew] at hat
            exact db_test (dv_ltS (de_var rfl) (dv_dkGetS (kvs := kvs2') rfl (de_var rfl) (key_nats ms) hat))
        · have hcond : (match wAt (BI.addB l hand (ws1.take n) ws2) (BI.stepB e'.1 l) with | none => true | some old => ltW (e'.2 ++ [hand]) old) = true := by
            rw [hat] at hb
            cases ew : wAt (BI.addB l hand (ws1.take n) ws2) (BI.stepB e'.1 l) with
            | none => rfl
            | some old => rw [ew] at hb; simpa using hb
          refine ds_dkPutS (kvs := kvs2') rfl (by omega) (de_var rfl) (de_var rfl) (key_nats ms) ⟨z, _, _, _, _, _, rfl, hleT, by omega, ?_⟩
          rw [eput]
          unfold putW
          rw [if_pos hcond]
          exact WayKv.put hi hf z4 _ hkvz
        · have hcond : ¬ (match wAt (BI.addB l hand (ws1.take n) ws2) (BI.stepB e'.1 l) with | none => true | some old => ltW (e'.2 ++ [hand]) old) = true := by
            rw [Bool.or_eq_false_iff] at hb
            rw [hb.2]; exact Bool.false_ne_true
          refine ds_next ⟨z, _, _, _, _, _, rfl, hleT, by omega, ?_⟩
          rw [eput]
          unfold putW
          rw [if_neg hcond]
          exact hkvz
      · rintro δ' ⟨y, kvs2', s6, s7, s8, s9, rfl, hle, hsz, hkv⟩
        rw [hlen1] at hsz hkv
        rw [List.take_length] at hkv
        refine ⟨rfl, [.box (BI.bx y), .no, .no, .box (dkB K w d1 kvs1), .box (dkB K w d2 kvs2')], ⟨rfl, fun j w' hj => ?_⟩, y, kvs2', hle, hsz, hkv, rfl⟩
        obtain ⟨r1, r2, _⟩ := BI.same hle
        match j, hj with
        | 0, hj => simp at hj; subst hj; exact .inr ⟨_, _, rfl, rfl, rfl, r1, fun a ha => ftAll_mem.mpr ⟨0, _, rfl, by rw [r2] at ha; exact ha⟩⟩
        | 1, hj => simp at hj; exact .inl hj.symm
        | 2, hj => simp at hj; exact .inl hj.symm
        | 3, hj => simp at hj; subst hj; exact .inr ⟨_, _, rfl, rfl, rfl, rfl, fun a ha => ftAll_mem.mpr ⟨3, _, rfl, ha⟩⟩
        | 4, hj => simp at hj; subst hj; exact .inr ⟨_, _, rfl, rfl, rfl, rfl, fun a ha => ftAll_mem.mpr ⟨4, _, rfl, ha⟩⟩
        | j + 5, hj => simp at hj
end
end WL
end
section
set_option Elab.async false
set_option linter.all false
set_option maxRecDepth 100000
namespace WL
open PySem PySem.Spec PyProof.Rows L2
/-! ### layers -/
section
variable {β : Type} [DecidableEq β]
abbrev Lay (β : Type) := List (List Nat × Ways β)
def lAt (L : Lay β) (ms : List Nat) : Option (Ways β) := (L.find? fun e => decide (e.1 = ms)).map (·.2)
def defL (L : Lay β) (ms : List Nat) : Lay β := if (lAt L ms).isSome then L else L ++ [(ms, [])]
def updL (L : Lay β) (ms : List Nat) (f : Ways β → Ways β) : Lay β := L.map fun e => if e.1 = ms then (e.1, f e.2) else e
def stepL (f : Ways β → Ways β) (later : List Nat) (L : Lay β) : Lay β := updL (defL L later) later f
def tot (L : Lay β) : Nat := (L.map fun e => e.2.length).sum
end
theorem nodup_inj {α γ : Type} {f : α → γ} : ∀ {l : List α}, (l.map f).Nodup → ∀ {a b : α}, a ∈ l → b ∈ l → f a = f b → a = b
  | [], _, a, _, ha, _, _ => by cases ha
  | x :: l, h, a, b, ha, hb, e => by
    rw [List.map_cons, List.nodup_cons] at h
    rcases List.mem_cons.mp ha with e1 | h1
    · rcases List.mem_cons.mp hb with e2 | h2
      · rw [e1, e2]
      · exact absurd (List.mem_map.mpr ⟨b, h2, by rw [← e, e1]⟩) h.1
    · rcases List.mem_cons.mp hb with e2 | h2
      · exact absurd (List.mem_map.mpr ⟨a, h1, by rw [e, e2]⟩) h.1
      · exact nodup_inj h.2 h1 h2 e
/-- the dict of dicts is this layer -/
def EntsL {β : Type} (has : β → Nat → Prop) : List LyE → Lay β → Prop
  | [], [] => True
  | e :: es, m :: ms => (e.1 = encMo m.1 ∧ WayKv has e.2.2 m.2) ∧ EntsL has es ms
  | _, _ => False
section
variable {β : Type} {has has' : β → Nat → Prop}
theorem EntsL.len : ∀ {es : List LyE} {L : Lay β}, EntsL has es L → es.length = L.length
  | [], [], _ => rfl
  | e :: es, m :: L, h => by rw [List.length_cons, List.length_cons, EntsL.len h.2]
  | [], _ :: _, h => h.elim
  | _ :: _, [], h => h.elim
theorem EntsL.mono (w : ∀ c n, has c n → has' c n) : ∀ {es : List LyE} {L : Lay β}, EntsL has es L → EntsL has' es L
  | [], [], _ => True.intro
  | e :: es, m :: L, h => ⟨⟨h.1.1, h.1.2.mono w⟩, EntsL.mono w h.2⟩
  | [], _ :: _, h => h.elim
  | _ :: _, [], h => h.elim
theorem EntsL.app : ∀ {es es' : List LyE} {L L' : Lay β}, EntsL has es L → EntsL has es' L' → EntsL has (es ++ es') (L ++ L')
  | [], _, [], _, _, h => h
  | e :: es, _, m :: L, _, h, q => ⟨h.1, EntsL.app h.2 q⟩
  | [], _, _ :: _, _, h, _ => h.elim
  | _ :: _, _, [], _, h, _ => h.elim
theorem EntsL.get : ∀ {es : List LyE} {L : Lay β} {i : Nat} {e : LyE}, EntsL has es L → es[i]? = some e → ∃ m, L[i]? = some m ∧ e.1 = encMo m.1 ∧ WayKv has e.2.2 m.2
  | [], [], i, k, _, q => by simp at q
  | e :: es, m :: L, 0, k, h, q => by simp at q; subst q; exact ⟨m, rfl, h.1⟩
  | e :: es, m :: L, i + 1, k, h, q => by
    obtain ⟨m', h1, h2⟩ := EntsL.get (i := i) h.2 (by simpa using q)
    exact ⟨m', by simpa using h1, h2⟩
  | [], _ :: _, _, _, h, _ => h.elim
  | _ :: _, [], _, _, h, _ => h.elim
theorem encMo_inj {a b : List Nat} (h : encMo a = encMo b) : a = b := by
  unfold encMo at h
  injection h with h
  exact dN_map_inj h
theorem EntsL.keys : ∀ {es : List LyE} {L : Lay β}, EntsL has es L → es.map (·.1) = L.map fun m => encMo m.1
  | [], [], _ => rfl
  | e :: es, m :: L, h => by rw [List.map_cons, List.map_cons, EntsL.keys h.2, h.1.1]
  | [], _ :: _, h => h.elim
  | _ :: _, [], h => h.elim
theorem EntsL.at_ (ms : List Nat) : ∀ {es : List LyE} {L : Lay β}, EntsL has es L → ((lAt L ms).isNone = true ∧ kvAt (lyKvs es) (encMo ms) = none) ∨ ∃ e ways, e ∈ es ∧ e.1 = encMo ms ∧ lAt L ms = some ways ∧ WayKv has e.2.2 ways ∧ (ms, ways) ∈ L ∧ kvAt (lyKvs es) (encMo ms) = some (.ref e.2.1)
  | [], [], _ => .inl ⟨rfl, rfl⟩
  | e :: es, m :: L, h => by
    have ih := EntsL.at_ ms h.2
    unfold lAt kvAt lyKvs at ih ⊢
    rw [List.map_cons, List.find?_cons, List.find?_cons]
    have hk : (keyD e.1 = keyD (encMo ms)) ↔ m.1 = ms := by rw [h.1.1]; exact key_eq m.1 ms
    by_cases e1 : m.1 = ms
    · right
      refine ⟨e, m.2, List.mem_cons_self, by rw [h.1.1, e1], ?_, h.1.2, by rw [← e1]; exact List.mem_cons_self, ?_⟩
      · rw [decide_eq_true e1]; rfl
      · show Option.map _ (match decide (keyD e.1 = keyD (encMo ms)) with | true => _ | false => _) = _
        rw [decide_eq_true (hk.mpr e1)]; rfl
    · have d1 : decide (m.1 = ms) = false := decide_eq_false e1
      have d2 : decide (keyD e.1 = keyD (encMo ms)) = false := decide_eq_false fun z => e1 (hk.mp z)
      rw [d1]
      show (_ ∧ Option.map _ (match decide (keyD e.1 = keyD (encMo ms)) with | true => _ | false => _) = none) ∨ _
      rw [d2]
      rcases ih with ⟨h1, h2⟩ | ⟨e', ways, h1, h2, h3, h4, h5, h6⟩
      · exact .inl ⟨h1, h2⟩
      · refine .inr ⟨e', ways, List.mem_cons_of_mem _ h1, h2, h3, h4, List.mem_cons_of_mem _ h5, ?_⟩
        exact h6
  | [], _ :: _, h => h.elim
  | _ :: _, [], h => h.elim
variable [DecidableEq β]
/-- one of the inner dicts is changed -/
theorem EntsL.upd {es : List LyE} {L : Lay β} (h : EntsL has es L) (na : (es.map (·.2.1)).Nodup) (nk : (L.map (·.1)).Nodup) {e0 : LyE} (he : e0 ∈ es) {later : List Nat} (hk : e0.1 = encMo later) {kvs' : List (PyData × V)} {f : Ways β → Ways β} (hw : ∀ ways, lAt L later = some ways → WayKv has kvs' (f ways)) :
    EntsL has (es.map fun e => if e.2.1 = e0.2.1 then (e.1, e.2.1, kvs') else e) (updL L later f) := by
  have nk2 : (es.map (·.1)).Nodup := by
    rw [h.keys]
    have : (L.map fun m => encMo m.1) = (L.map (·.1)).map encMo := by rw [List.map_map]; rfl
    rw [this, List.nodup_iff_pairwise_ne, List.pairwise_map]
    exact (List.nodup_iff_pairwise_ne.mp nk).imp fun hne e => hne (encMo_inj e)
  have key : ∀ e ∈ es, e.2.1 = e0.2.1 ↔ e.1 = encMo later := fun e hm => by
    constructor
    · intro z; rw [nodup_inj (f := fun e : LyE => e.2.1) na hm he z]; exact hk
    · intro z; rw [nodup_inj (f := fun e : LyE => e.1) nk2 hm he (z.trans hk.symm)]
  have hat : ∀ m ∈ L, m.1 = later → lAt L later = some m.2 := fun m hm e => by
    unfold lAt
    cases q : L.find? fun e => decide (e.1 = later) with
    | none => exact absurd (decide_eq_true e) (List.find?_eq_none.mp q m hm)
    | some m' =>
      have h1 : m'.1 = later := of_decide_eq_true (List.find?_some (p := fun e : List Nat × Ways β => decide (e.1 = later)) q)
      have h2 := List.mem_of_find?_eq_some q
      rw [nodup_inj (f := fun m : List Nat × Ways β => m.1) nk h2 hm (h1.trans e.symm)]; rfl
  clear na nk nk2
  unfold updL
  have gen : ∀ (es' : List LyE) (L' : Lay β), (∀ e ∈ es', e ∈ es) → (∀ m ∈ L', m ∈ L) → EntsL has es' L' → EntsL has (es'.map fun e => if e.2.1 = e0.2.1 then (e.1, e.2.1, kvs') else e) (L'.map fun e => if e.1 = later then (e.1, f e.2) else e) := by
    intro es'
    induction es' with
    | nil => intro L' _ _ q; cases L' with
      | nil => exact True.intro
      | cons _ _ => exact q.elim
    | cons e es' ih => intro L' s1 s2 q; cases L' with
      | nil => exact q.elim
      | cons m L' =>
        refine ⟨?_, ih L' (fun z hz => s1 z (List.mem_cons_of_mem _ hz)) (fun z hz => s2 z (List.mem_cons_of_mem _ hz)) q.2⟩
        obtain ⟨q1, q2⟩ := q.1
        have ke := key e (s1 e List.mem_cons_self)
        by_cases hl : m.1 = later
        · have h1 : e.2.1 = e0.2.1 := ke.mpr (by rw [q1, hl])
          have a1 : (if e.2.1 = e0.2.1 then (e.1, e.2.1, kvs') else e) = (e.1, e.2.1, kvs') := if_pos h1
          have a2 : (if m.1 = later then (m.1, f m.2) else m) = (m.1, f m.2) := if_pos hl
          dsimp only
          rw [a1, a2]
          exact ⟨q1, hw _ (hat m (s2 m List.mem_cons_self) hl)⟩
        · have h1 : ¬ e.2.1 = e0.2.1 := fun z => hl (encMo_inj (q1.symm.trans (ke.mp z)))
          have a1 : (if e.2.1 = e0.2.1 then (e.1, e.2.1, kvs') else e) = e := if_neg h1
          have a2 : (if m.1 = later then (m.1, f m.2) else m) = m := if_neg hl
          dsimp only
          rw [a1, a2]
          exact ⟨q1, q2⟩
  exact gen es L (fun _ h => h) (fun _ h => h) h
end
section
variable {P : Program} {w : World} {K : PySem.W.Frag} {mg : Str → Option Value} {base : Heap}
/-- add_ways(book, hand, line, ways, after[later]) -/
theorem ds_layAdd (BI : BookI P w K mg base) {A0 : List Addr} {H0 : Hp} {M0 : List Addr} {E : XK} {x : BI.α} {s1 s4 : WSlot} {p p' : Addr} {ents ents' : List LyE} {od : Obj} {es : List DEnt} {d1 : Addr} {kvs1 : List (PyData × V)} {key1 : PyData} {hand : Nat} {l : Ln} {later : List Nat} {e0 : LyE} {N B C : List WSlot → Prop} {R : PyData → List WSlot → Prop}
    {Pd : PyData → List WSlot → Prop} (hf1 : s1.foot = []) (hf4 : s4.foot = []) (h1 : (key1, d1, kvs1) ∈ ents) (h0 : e0 ∈ ents') (hk0 : kvAt (lyKvs ents') (encMo later) = some (.ref e0.2.1))
    (hrel : rel_addWays BI [.box (BI.bx x), .dat (dN hand), .dat (encL l), .box (dkB K w d1 kvs1), .box (dkB K w e0.2.1 e0.2.2)] Pd)
    (hform : (lyFoot p' ents').Nodup → ∀ d δ1, Pd d δ1 → ∃ y kvs2', BI.le x y ∧ δ1 = [.box (BI.bx y), .no, .no, .box (dkB K w d1 kvs1), .box (dkB K w e0.2.1 kvs2')] ∧ N [.box (BI.bx y), s1, .box (lyL K w p ents od es), .box (lyB K w p' (ents'.map fun e => if e.2.1 = e0.2.1 then (e.1, e.2.1, kvs2') else e)), s4, .box (alB (.ref d1)), .dat (dN hand), .dat (encL l), .dat (encMo later)]) :
    DS ⟨K, H0, A0, M0⟩ (tDrop (tCall (spG K (rel_addWays BI)) [] E (tCons (tVar 0) (tCons (tVar 6) (tCons (tVar 7) (tCons (tVar 5) (tCons (tOp (rDkGet K w) (tVar 3) (tVar 8)) tNil)))))))
      [.box (BI.bx x), s1, .box (lyL K w p ents od es), .box (lyB K w p' ents'), s4, .box (alB (.ref d1)), .dat (dN hand), .dat (encL l), .dat (encMo later)] N R B C := fun A H σ D s Ed => by
  obtain ⟨r0, f0, b0⟩ := s.sd.box 0 _ rfl
  obtain ⟨r2, f2, ⟨b2, b2'⟩, b3, b4⟩ := s.sd.box 2 _ rfl
  obtain ⟨r3, f3, ⟨es', c1, c2, c3⟩, c4, c5⟩ := s.sd.box 3 _ rfl
  obtain ⟨r5, _, _⟩ := s.sd.box 5 _ rfl
  obtain ⟨v6, r6, t6⟩ := s.sd.dat 6 _ rfl
  obtain ⟨v7, r7, t7⟩ := s.sd.dat 7 _ rfl
  obtain ⟨v8, r8, t8⟩ := s.sd.dat 8 _ rfl
  obtain ⟨a8, xs8, rfl, _, _⟩ := dp_tup t8
  refine ⟨_, r0, v6, r6, v7, r7, _, r5, _, r3, _, r8, p', a8, es', encMo later, .ref e0.2.1, rfl, rfl, .inl c1, c2.ex hid_le, key_nats later, dp_ex hid_le t8, by rw [kvAt_of, c3]; exact hk0, ?_⟩
  obtain ⟨es1, g1, g2, g3⟩ := b3 _ h1
  obtain ⟨es0, i1, i2, i3⟩ := c4 _ h0
  have m1 : d1 ∈ lyFoot p ents := List.mem_cons_of_mem _ (List.mem_map.mpr ⟨_, h1, rfl⟩)
  have m0 : e0.2.1 ∈ lyFoot p' ents' := List.mem_cons_of_mem _ (List.mem_map.mpr ⟨_, h0, rfl⟩)
  have ap02 : ∀ a ∈ (BI.bx x).foot, a ∉ lyFoot p ents := s.sd.apart 0 2 _ _ rfl rfl (by decide)
  have ap03 : ∀ a ∈ (BI.bx x).foot, a ∉ lyFoot p' ents' := s.sd.apart 0 3 _ _ rfl rfl (by decide)
  have ap23 : ∀ a ∈ lyFoot p ents, a ∉ lyFoot p' ents' := s.sd.apart 2 3 _ _ rfl rfl (by decide)
  have hne : d1 ≠ e0.2.1 := fun z => ap23 d1 m1 (by rw [z]; exact m0)
  let δ0 : List WSlot := [.box (BI.bx x), .dat (dN hand), .dat (encL l), .box (dkB K w d1 kvs1), .box (dkB K w e0.2.1 e0.2.2)]
  have hft : ∀ a, a ∈ ftAll δ0 ↔ a ∈ (BI.bx x).foot ∨ a = d1 ∨ a = e0.2.1 := fun a => by
    show a ∈ List.flatMap WSlot.foot [_, _, _, _, _] ↔ _
    simp [WSlot.foot, dkB]
  have sd0 : SD K A H ([(BI.bx x).root, v6, v7, .ref d1, .ref e0.2.1].map some) δ0 := by
    refine ⟨rfl, s.live, fun j w' hj => ?_, fun i j w1 w2 h1' h2' hij a ha hb => ?_⟩
    · match j, hj with
      | 0, hj => simp [δ0] at hj; subst hj; exact ⟨rfl, f0, b0⟩
      | 1, hj => simp [δ0] at hj; subst hj; exact ⟨v6, rfl, t6⟩
      | 2, hj => simp [δ0] at hj; subst hj; exact ⟨v7, rfl, t7⟩
      | 3, hj => simp [δ0] at hj; subst hj; exact ⟨rfl, fun a ha => by rw [List.mem_singleton.mp ha]; exact f2 _ m1, es1, g1, g2, g3⟩
      | 4, hj => simp [δ0] at hj; subst hj; exact ⟨rfl, fun a ha => by rw [List.mem_singleton.mp ha]; exact f3 _ m0, es0, i1, i2, i3⟩
      | j + 5, hj => simp [δ0] at hj
    · have cs : ∀ (j : Nat) (w' : WSlot), δ0[j]? = some w' → ∀ a ∈ w'.foot, (j = 0 ∧ a ∈ (BI.bx x).foot) ∨ (j = 3 ∧ a = d1) ∨ (j = 4 ∧ a = e0.2.1) := fun j w' hj a ha => by
        match j, hj with
        | 0, hj => simp [δ0] at hj; subst hj; exact .inl ⟨rfl, ha⟩
        | 1, hj => simp [δ0] at hj; subst hj; cases ha
        | 2, hj => simp [δ0] at hj; subst hj; cases ha
        | 3, hj => simp [δ0] at hj; subst hj; exact .inr (.inl ⟨rfl, List.mem_singleton.mp ha⟩)
        | 4, hj => simp [δ0] at hj; subst hj; exact .inr (.inr ⟨rfl, List.mem_singleton.mp ha⟩)
        | j + 5, hj => simp [δ0] at hj
      rcases cs i w1 h1' a ha with ⟨e1, q1⟩ | ⟨e1, q1⟩ | ⟨e1, q1⟩ <;> rcases cs j w2 h2' a hb with ⟨e2, q2⟩ | ⟨e2, q2⟩ | ⟨e2, q2⟩
      · omega
      · exact ap02 a q1 (by rw [q2]; exact m1)
      · exact ap03 a q1 (by rw [q2]; exact m0)
      · exact ap02 a q2 (by rw [q1]; exact m1)
      · omega
      · exact hne (q1.symm.trans q2)
      · exact ap03 a q2 (by rw [q1]; exact m0)
      · exact hne (q2.symm.trans q1)
      · omega
  refine ⟨A, δ0, Pd, sd0, hrel, fun v d δ1 H' pd S sd1 hv => ?_⟩
  obtain ⟨y, kvs2', hle, rfl, hN⟩ := hform c5 d δ1 pd
  obtain ⟨sr, sf, _⟩ := BI.same hle
  have hMA : ∀ a ∈ ftAll δ0, a ∈ A := fun a ha => by
    rcases (hft a).mp ha with h | h | h
    · exact f0 a h
    · rw [h]; exact f2 _ m1
    · rw [h]; exact f3 _ m0
  have hx : Ex (hid A H) (hid A H') := S.ex hMA
  have kp : ∀ a, a ∉ ftAll δ0 → a ∈ A → H' a = H a := fun a n ha => by
    cases q : H a with
    | none => exact absurd q (s.live a ha)
    | some o => exact S.keep a o q n
  obtain ⟨_, _, y0⟩ := sd1.box 0 _ rfl
  obtain ⟨_, _, esy1, y1, y2, y3⟩ := sd1.box 3 _ rfl
  obtain ⟨_, _, esy2, z1, z2, z3⟩ := sd1.box 4 _ rfl
  let ents'' : List LyE := ents'.map fun e => if e.2.1 = e0.2.1 then (e.1, e.2.1, kvs2') else e
  have ha'' : ents''.map (·.2.1) = ents'.map (·.2.1) := by
    show List.map _ (List.map _ _) = _
    rw [List.map_map]
    refine List.map_congr_left fun e _ => ?_
    show (if e.2.1 = e0.2.1 then (e.1, e.2.1, kvs2') else e).2.1 = e.2.1
    split <;> rfl
  have hk'' : lyKvs ents'' = lyKvs ents' := by
    unfold lyKvs
    show List.map _ (List.map _ _) = _
    rw [List.map_map]
    refine List.map_congr_left fun e _ => ?_
    show ((fun e : LyE => (e.1, V.ref e.2.1)) (if e.2.1 = e0.2.1 then (e.1, e.2.1, kvs2') else e)) = (e.1, V.ref e.2.1)
    split <;> rfl
  have hft'' : lyFoot p' ents'' = lyFoot p' ents' := by unfold lyFoot; rw [ha'']
  have np : p ∉ ftAll δ0 := fun z => by
    rcases (hft p).mp z with h | h | h
    · exact ap02 p h List.mem_cons_self
    · exact (List.nodup_cons.mp b4).1 (by rw [h]; exact List.mem_map.mpr ⟨_, h1, rfl⟩)
    · exact ap23 p List.mem_cons_self (by rw [h]; exact m0)
  have np' : p' ∉ ftAll δ0 := fun z => by
    rcases (hft p').mp z with h | h | h
    · exact ap03 p' h List.mem_cons_self
    · exact ap23 d1 m1 (by rw [← h]; exact List.mem_cons_self)
    · exact (List.nodup_cons.mp c5).1 (by rw [h]; exact List.mem_map.mpr ⟨_, h0, rfl⟩)
  refine Ed.nx _ A H' σ hN (s.stepG S rfl (fun a ha => ?_) hMA fun j w' hj => ?_) hx
  · rcases (hft a).mp ha with h | h | h
    · exact s.mineF 0 _ rfl a h
    · exact s.mineF 2 _ rfl a (by rw [h]; exact m1)
    · exact s.mineF 3 _ rfl a (by rw [h]; exact m0)
  · match j, hj with
    | 0, hj =>
      simp at hj; subst hj
      exact .inr ⟨_, rfl, fun a ha => (by show a ∈ (BI.bx x).foot; rw [← sf]; exact ha), by rw [sr]; exact r0, fun a ha => f0 a (by rw [← sf]; exact ha), y0⟩
    | 1, hj => simp at hj; subst hj; exact .inl ⟨rfl, fun a ha => by rw [hf1] at ha; cases ha⟩
    | 2, hj =>
      simp at hj; subst hj
      refine .inr ⟨_, rfl, fun a ha => ha, r2, f2, ⟨by rw [kp p np (f2 p List.mem_cons_self)]; exact b2, b2'.ex hx⟩, fun e he => ?_, b4⟩
      have me : e.2.1 ∈ lyFoot p ents := List.mem_cons_of_mem _ (List.mem_map.mpr ⟨e, he, rfl⟩)
      by_cases hd : e.2.1 = d1
      · have : e = (key1, d1, kvs1) := nodup_inj (f := fun e : LyE => e.2.1) (List.nodup_cons.mp b4).2 he h1 hd
        rw [this]; exact ⟨esy1, y1, y2, y3⟩
      · obtain ⟨q1, q2, q3, q4⟩ := b3 e he
        refine ⟨q1, ?_, q3.ex hx, q4⟩
        rw [kp _ (fun z => ?_) (f2 _ me)]
        · exact q2
        · rcases (hft _).mp z with h | h | h
          · exact ap02 _ h me
          · exact hd h
          · exact ap23 _ me (by rw [h]; exact m0)
    | 3, hj =>
      simp at hj; subst hj
      refine .inr ⟨_, rfl, fun a ha => (by show a ∈ lyFoot p' ents'; rw [← hft'']; exact ha), r3, fun a ha => f3 a (by show a ∈ lyFoot p' ents'; rw [← hft'']; exact ha), ⟨es', by rw [kp p' np' (f3 p' List.mem_cons_self)]; exact c1, c2.ex hx, by rw [c3]; exact hk''.symm⟩, fun e he => ?_, by show (lyFoot p' ents'').Nodup; rw [hft'']; exact c5⟩
      obtain ⟨e1, he1, rfl⟩ := List.mem_map.mp he
      have me : e1.2.1 ∈ lyFoot p' ents' := List.mem_cons_of_mem _ (List.mem_map.mpr ⟨e1, he1, rfl⟩)
      by_cases hd : e1.2.1 = e0.2.1
      · rw [if_pos hd, hd]; exact ⟨esy2, z1, z2, z3⟩
      · rw [if_neg hd]
        obtain ⟨q1, q2, q3, q4⟩ := c4 e1 he1
        refine ⟨q1, ?_, q3.ex hx, q4⟩
        rw [kp _ (fun z => ?_) (f3 _ me)]
        · exact q2
        · rcases (hft _).mp z with h | h | h
          · exact ap03 _ h me
          · exact ap23 d1 m1 (by rw [← h]; exact me)
          · exact hd h
    | 4, hj => simp at hj; subst hj; exact .inl ⟨rfl, fun a ha => by rw [hf4] at ha; cases ha⟩
    | 5, hj => simp at hj; subst hj; exact .inl ⟨rfl, fun a ha => by cases ha⟩
    | 6, hj => simp at hj; subst hj; exact .inl ⟨rfl, fun a ha => by cases ha⟩
    | 7, hj => simp at hj; subst hj; exact .inl ⟨rfl, fun a ha => by cases ha⟩
    | 8, hj => simp at hj; subst hj; exact .inl ⟨rfl, fun a ha => by cases ha⟩
    | j + 9, hj => simp at hj
end
end WL
end
section
set_option Elab.async false
set_option linter.all false
set_option maxRecDepth 100000
namespace WL
open PySem PySem.Spec PyProof.Rows L2
section
variable {β : Type} [DecidableEq β]
theorem defL_nodup {L : Lay β} {ms : List Nat} (h : (L.map (·.1)).Nodup) : ((defL L ms).map (·.1)).Nodup := by
  unfold defL
  split
  · exact h
  · rename_i hn
    rw [List.map_append]
    refine List.nodup_append.mpr ⟨h, by simp, fun a ha b hb => ?_⟩
    have hb : b = ms := by simpa using hb
    subst hb
    rintro rfl
    obtain ⟨e, he, hk⟩ := List.mem_map.mp ha
    refine hn ?_
    unfold lAt
    cases q : L.find? fun e => decide (e.1 = a) with
    | none => exact absurd (decide_eq_true hk) (List.find?_eq_none.mp q e he)
    | some _ => rfl
theorem updL_keys (L : Lay β) (ms : List Nat) (f : Ways β → Ways β) : (updL L ms f).map (·.1) = L.map (·.1) := by
  unfold updL
  rw [List.map_map]
  refine List.map_congr_left fun e _ => ?_
  show (if e.1 = ms then (e.1, f e.2) else e).1 = e.1
  split <;> rfl
theorem tot_cons (e : List Nat × Ways β) (L : Lay β) : tot (e :: L) = e.2.length + tot L := by unfold tot; simp
theorem tot_app (L L' : Lay β) : tot (L ++ L') = tot L + tot L' := by unfold tot; simp
theorem updL_tot {ms : List Nat} {f : Ways β → Ways β} {g : Nat} (hf : ∀ w, (f w).length ≤ w.length + g) : ∀ {L : Lay β}, (L.map (·.1)).Nodup → tot (updL L ms f) ≤ tot L + g
  | [], _ => Nat.zero_le _
  | e :: L, h => by
    rw [List.map_cons, List.nodup_cons] at h
    show tot ((if e.1 = ms then (e.1, f e.2) else e) :: updL L ms f) ≤ _
    by_cases h1 : e.1 = ms
    · rw [if_pos h1, tot_cons, tot_cons]
      have : updL L ms f = L := by
        unfold updL
        have : L.map (fun e => if e.1 = ms then (e.1, f e.2) else e) = L.map id := List.map_congr_left fun z hz => by
          rw [if_neg fun q => h.1 (by rw [h1, ← q]; exact List.mem_map.mpr ⟨z, hz, rfl⟩)]; rfl
        rw [this, List.map_id]
      rw [this]
      have := hf e.2
      show (f e.2).length + tot L ≤ _
      omega
    · rw [if_neg h1, tot_cons, tot_cons]
      have := updL_tot (ms := ms) hf h.2
      omega
theorem defL_tot (L : Lay β) (ms : List Nat) : tot (defL L ms) = tot L := by
  unfold defL
  split
  · rfl
  · rw [tot_app]; rfl
theorem defL_len (L : Lay β) (ms : List Nat) : (defL L ms).length ≤ L.length + 1 := by
  unfold defL
  split
  · omega
  · simp
theorem defL_at (L : Lay β) (ms : List Nat) : ∃ w, lAt (defL L ms) ms = some w := by
  unfold defL
  cases h : lAt L ms with
  | some w => rw [if_pos (by simp)]; exact ⟨w, h⟩
  | none =>
    rw [if_neg (by simp)]
    unfold lAt at h ⊢
    rw [List.find?_append]
    cases q : L.find? fun e => decide (e.1 = ms) with
    | some _ => rw [q] at h; cases h
    | none => exact ⟨[], by simp⟩
end
section
variable {P : Program} {w : World} {K : PySem.W.Frag} {mg : Str → Option Value} {base : Heap}
abbrev Stp := Nat × Ln × List Nat
namespace BookI
variable (B : BookI P w K mg base)
def foldS (ways : Ways B.β) (steps : List Stp) (acc : Lay B.β) : Lay B.β := letI := B.dec; steps.foldl (fun acc st => stepL (B.addB st.2.1 st.1 ways) st.2.2 acc) acc
def nextL (hands : List (List Ln)) (L : Lay B.β) : Lay B.β := L.foldl (fun acc e => B.foldS e.2 (stepsTo hands e.1 hands.length) acc) []
theorem addB_len (l : Ln) (hand : Nat) (ws1 ws2 : Ways B.β) : (B.addB l hand ws1 ws2).length ≤ ws2.length + ws1.length := letI := B.dec; addW_len _ _ _ _
theorem foldS_snoc (ways : Ways B.β) (steps : List Stp) (st : Stp) (acc : Lay B.β) : B.foldS ways (steps ++ [st]) acc = (letI := B.dec; stepL (B.addB st.2.1 st.1 ways) st.2.2 (B.foldS ways steps acc)) := by
  unfold foldS; rw [List.foldl_append]; rfl
theorem foldS_ok (ways : Ways B.β) : ∀ (steps : List Stp) (acc : Lay B.β), (acc.map (·.1)).Nodup → ((B.foldS ways steps acc).map (·.1)).Nodup ∧ tot (B.foldS ways steps acc) ≤ tot acc + steps.length * ways.length ∧ (B.foldS ways steps acc).length ≤ acc.length + steps.length
  | [], acc, h => ⟨h, by simp [foldS], Nat.le_refl _⟩
  | st :: steps, acc, h => by
    letI := B.dec
    have n1 : ((stepL (B.addB st.2.1 st.1 ways) st.2.2 acc).map (·.1)).Nodup := by
      unfold stepL; rw [updL_keys]; exact defL_nodup h
    have t1 : tot (stepL (B.addB st.2.1 st.1 ways) st.2.2 acc) ≤ tot acc + ways.length := by
      have := updL_tot (ms := st.2.2) (f := B.addB st.2.1 st.1 ways) (g := ways.length) (fun w => B.addB_len _ _ _ _) (defL_nodup (ms := st.2.2) h)
      rw [defL_tot] at this; exact this
    have l1 : (stepL (B.addB st.2.1 st.1 ways) st.2.2 acc).length ≤ acc.length + 1 := by
      show (List.map _ (defL acc st.2.2)).length ≤ _
      rw [List.length_map]; exact defL_len _ _
    obtain ⟨a1, a2, a3⟩ := foldS_ok ways steps _ n1
    refine ⟨a1, ?_, ?_⟩
    · show tot (B.foldS ways steps (stepL (B.addB st.2.1 st.1 ways) st.2.2 acc)) ≤ _
      rw [List.length_cons, Nat.add_mul]; omega
    · show (B.foldS ways steps (stepL (B.addB st.2.1 st.1 ways) st.2.2 acc)).length ≤ _
      rw [List.length_cons]; omega
end BookI
theorem stepsTo_len (hands : List (List Ln)) (ms : List Nat) (k : Nat) : (stepsTo hands ms k).length ≤ k := by
  unfold stepsTo; rw [List.length_map]
  exact Nat.le_trans (List.length_filter_le _ _) (by rw [List.length_range]; exact Nat.le_refl _)
theorem BookI.next_ok (B : BookI P w K mg base) {hands : List (List Ln)} (h3 : hands.length ≤ 3) : ∀ (L acc : Lay B.β), (acc.map (·.1)).Nodup → let r := L.foldl (fun acc e => B.foldS e.2 (stepsTo hands e.1 hands.length) acc) acc; (r.map (·.1)).Nodup ∧ tot r ≤ tot acc + 3 * tot L ∧ r.length ≤ acc.length + 3 * L.length
  | [], acc, h => ⟨h, Nat.le_refl _, Nat.le_refl _⟩
  | e :: L, acc, h => by
    letI := B.dec
    obtain ⟨a1, a2, a3⟩ := B.foldS_ok e.2 (stepsTo hands e.1 hands.length) acc h
    obtain ⟨b1, b2, b3⟩ := B.next_ok h3 L _ a1
    have hs := stepsTo_len hands e.1 hands.length
    have hm : (stepsTo hands e.1 hands.length).length * e.2.length ≤ 3 * e.2.length := Nat.mul_le_mul_right _ (by omega)
    refine ⟨b1, ?_, ?_⟩
    · rw [tot_cons]
      show tot (L.foldl _ (B.foldS e.2 (stepsTo hands e.1 hands.length) acc)) ≤ _
      omega
    · show (L.foldl _ (B.foldS e.2 (stepsTo hands e.1 hands.length) acc)).length ≤ _
      rw [List.length_cons]; omega
/-- a def that is handed boxes and hands back a new one -/
def spL (K : PySem.W.Frag) (rel : List WSlot → (Box → List WSlot → Prop) → Prop) : Sp := fun vs H Q _ => ∃ (A : List Addr) (δ0 : List WSlot) (Pb : Box → List WSlot → Prop), SD K A H (vs.map some) δ0 ∧ rel δ0 Pb ∧
  ∀ b δ1 A' H', Pb b δ1 → BoxStep A A' H H' (ftAll δ0) (ftAll δ0 ++ b.foot) → (∀ a ∈ b.foot, H a = none) → SD K A' H' (vs.map some) δ1 → (∀ a ∈ b.foot, a ∈ A') → b.holds H' (hid A' H') → Q b.root H'
theorem sd_leftB {A A' : List Addr} {H H' : Hp} {σ : List (Option V)} {δ δ0 δ1 : List WSlot} {vs : List V} {b : Box} (h : SD K A H (vs.map some) δ0) (s' : St ⟨K, H, A, ftAll δ0⟩ A' H' σ δ) (l : Left δ0 δ δ1) (hA : ∀ a ∈ b.foot, a ∈ A') (hn : ∀ a ∈ b.foot, H a = none) (hb : b.holds H' (hid A' H')) :
    BoxStep A (A ++ b.foot) H H' (ftAll δ0) (ftAll δ0 ++ b.foot) ∧ SD K (A ++ b.foot) H' (vs.map some) δ1 ∧ b.holds H' (hid (A ++ b.foot) H') := by
  have sub : ∀ a ∈ A ++ b.foot, a ∈ A' := fun a ha => (List.mem_append.mp ha).elim (s'.bs.sub a) (hA a)
  have x : Ex (hid A' H') (hid (A ++ b.foot) H') := hid_sub sub
  have fA : ∀ a ∈ ftAll δ0, a ∈ A := fun a ha => by
    obtain ⟨i, w, e, ha⟩ := ftAll_mem.mp ha
    exact h.inA e a ha
  have lv : ∀ a ∈ A ++ b.foot, H' a ≠ none := fun a ha => s'.sd.live a (sub a ha)
  refine ⟨⟨fun a o e n => s'.bs.kept a o (by rw [hid_out n]; exact e), fun a h => List.mem_append_left _ h, fun a ha => ?_, lv, fun a ha => ?_⟩, ⟨?_, lv, fun j w hj => ?_, fun i j w w' h1 h2 hne a ha hb => ?_⟩, b.loc (fun _ _ => rfl) x hb⟩
  · rcases List.mem_append.mp ha with z | z
    · exact .inl z
    · exact .inr (hn a z)
  · rcases List.mem_append.mp ha with z | z
    · exact ⟨List.mem_append_left _ (fA a z), .inl z⟩
    · exact ⟨List.mem_append_right _ z, .inr (hn a z)⟩
  · rw [l.1, ← h.len]
  · rcases l.2 j w hj with z | ⟨b', b0, rfl, e1, e2, e3, e4⟩
    · subst z; exact True.intro
    · obtain ⟨_, _, q3⟩ := s'.sd.box j b' e1
      exact ⟨by rw [e3]; exact (h.box j b0 e2).1, fun a ha => List.mem_append_left _ (fA a (e4 a ha)), b'.loc (fun _ _ => rfl) x q3⟩
  · rcases l.2 i w h1 with z | ⟨b', b0, rfl, e1, _⟩
    · subst z; cases ha
    · rcases l.2 j w' h2 with y | ⟨b'', b0', rfl, e2, _⟩
      · subst y; cases hb
      · exact s'.sd.apart i j _ _ e1 e2 hne a ha hb
/-- the moments and the steps of a layer -/
structure LayOk (B : BookI P w K mg base) (n : Nat) (hands : List (List Ln)) (L : Lay B.β) : Prop where
  ms : ∀ e ∈ L, e.1.length = hands.length
  st : ∀ e ∈ L, ∀ q ∈ e.2, q.1.length = n ∧ (wayS q.2).length ≤ 1000 ∧ ∀ s ∈ stepsTo hands e.1 hands.length, B.okL q.1 s.2.1
theorem stepsTo_ok {n : Nat} {fs : List Nat} {hands : List (List Ln)} (hh : ∀ r ∈ hands, LinesOk n fs r) {ms : List Nat} {s : Stp} (h : s ∈ stepsTo hands ms hands.length) : LnOk n fs s.2.1 ∧ s.1 < hands.length := by
  unfold stepsTo at h
  obtain ⟨k, hk, rfl⟩ := List.mem_map.mp h
  obtain ⟨h1, h2⟩ := List.mem_filter.mp hk
  have hkl := List.mem_range.mp h1
  refine ⟨?_, hkl⟩
  have e : hands[k]? = some hands[k] := List.getElem?_eq_getElem hkl
  have h2 := of_decide_eq_true h2
  rw [show rowLen hands k = (hands[k]).length by unfold rowLen; rw [e]; rfl] at h2
  have e2 : (hands[k])[msAt ms k]? = some (lineAt hands k (msAt ms k)) := by
    unfold lineAt; rw [e]
    show _ = some (((hands[k])[msAt ms k]?).getD _)
    rw [List.getElem?_eq_getElem h2]; rfl
  exact hh _ (List.mem_of_getElem? e) _ (List.mem_of_getElem? e2)
inductive rel_next (B : BookI P w K mg base) : List WSlot → (Box → List WSlot → Prop) → Prop
  | mk (x : B.α) (fs : List Nat) (hands : List (List Ln)) (p : Addr) (ents : List LyE) (L : Lay B.β) (hm : MachOk (B.wd x) fs) (hh : ∀ r ∈ hands, LinesOk (B.wd x) fs r) (h3 : hands.length ≤ 3) (hL : LayOk B (B.wd x) hands L) (he : EntsL (B.has x) ents L) (hs : B.size x + 3 * tot L < 900000) (hz : 3 * L.length < 900000) :
    rel_next B [.box (B.bx x), .dat (encH hands), .box (lyB K w p ents)] fun b δ1 => ∃ y p' ents', B.le x y ∧ B.size y ≤ B.size x + 3 * tot L ∧ EntsL (B.has y) ents' (B.nextL hands L) ∧ b = lyB K w p' ents' ∧ δ1 = [.box (B.bx y), .no, .box (lyB K w p ents)]
theorem ds_run {F : Fx} {A : List Addr} {H : Hp} {σ : List (Option V)} {δ : List WSlot} {t u : TS} {D : Ends} {N1 : List WSlot → Prop} (h : DS F t δ N1 (fun _ _ => False) (fun _ => False) (fun _ => False)) (s : St F A H σ δ)
    (hu : ∀ δ1 A' H' σ', N1 δ1 → St F A' H' σ' δ1 → Ex (hid A H) (hid A' H') → u D σ' H') : tSeq t u D σ H :=
  h A H σ { D with nx := u D } s ⟨fun δ' A' H' σ' n s' x => hu δ' A' H' σ' n s' x, fun _ _ _ _ _ _ z => z.elim, fun _ _ _ _ z => z.elim, fun _ _ _ _ z => z.elim⟩
theorem ok_next_layer (T : Top K mg) (BI : BookI P w K mg base) : FnOk P w K mg base CX0 4 T.next_layer.f T.next_layer.fd ["book", "hands", "layer"] (spL K (rel_next BI)) :=
  T.next_layer.F.ok sc_next_layer (fun vs H Q E ⟨A0, δ0, Pb, h, hr, q⟩ => by
      have : δ0.length = 3 := by cases hr; rfl
      rw [← List.length_map (f := some), h.len, this]; rfl) fun cdv A outer s H vs Q E hr ⟨A0, δ0, Pb, hsd, hrel, q⟩ => by
    have hl : vs.length = 3 := by
      have : δ0.length = 3 := by cases hrel; rfl
      rw [← List.length_map (f := some), hsd.len, this]
    have s0 := sd_start (N := ["book", "hands", "layer", "after", "moments", "ways", "hand", "line", "later"]) hsd
    rw [hl] at s0
    refine ⟨_, (pss_cons (ps_set (i := 3) sc_next_layer.nd rfl (by first | exact Or.inl rfl | exact Or.inr rfl) pe_dknew)
    (pss_cons (ps_lock (ps_for PassesOwn.never rfl (pi_dkI (pv 2)) (pg_tup rfl (pgs_cons (pg_name (i := 4) sc_next_layer.nd rfl (by first | exact Or.inl rfl | exact Or.inr rfl)) (pgs_cons (pg_name (i := 5) sc_next_layer.nd rfl (by first | exact Or.inl rfl | exact Or.inr rfl)) pgs_nil))) (pss_one (ps_for PassesOwn.never rfl (pi_list (pe_call (ok_steps_from T) (hr.mono (by omega)) rfl T.steps_from.m T.steps_from.F.kp T.steps_from.b .nil pass0 (pa_cons (pv 1) (pa_cons (pv 4) pa_nil)))) (pg_tup rfl (pgs_cons (pg_name (i := 6) sc_next_layer.nd rfl (by first | exact Or.inl rfl | exact Or.inr rfl)) (pgs_cons (pg_name (i := 7) sc_next_layer.nd rfl (by first | exact Or.inl rfl | exact Or.inr rfl)) (pgs_cons (pg_name (i := 8) sc_next_layer.nd rfl (by first | exact Or.inl rfl | exact Or.inr rfl)) pgs_nil)))) (pss_cons (ps_expr (pe_dm (r := rDkDef K w) PySem.F.slot_dict_setdefault PySem.F.type_dict_setdefault (mt_dkDef (hu9 hr)) (pv 3) (pa_cons (pv 8) (pa_cons pe_dknew pa_nil))))
    (pss_one (ps_expr (pe_call (ok_add_ways T BI) (hr.mono (by omega)) rfl T.add_ways.m T.add_ways.F.kp T.add_ways.b .nil pass0 (pa_cons (pv 0) (pa_cons (pv 6) (pa_cons (pv 7) (pa_cons (pv 5) (pa_cons (pe_dkget (hu9 hr) (pv 3) (pv 8) (fun _ _ => rfl)) pa_nil)))))))))))))
    (pss_one (ps_ret (pv 3))))), ?_⟩
    cases hrel with
    | mk x fs hands p ents L hm hh h3 hL he hs hz =>
      letI := BI.dec
      have hsl : 1000000 < sizeLine := by decide
      refine ds_run (N1 := fun δ => ∃ p', δ = [.box (BI.bx x), .dat (encH hands), .box (lyB K w p ents), .box (lyB K w p' []), .no, .no, .no, .no, .no]) (ds_setDk (K := K) fun p' => ⟨p', rfl⟩) s0 ?_
      rintro δ1 A1 H1 σ1 ⟨p', rfl⟩ s1 x1
      refine ds_run (N1 := fun δ => ∃ y ents' s4 s5 s6 s7 s8, δ = [.box (BI.bx y), .dat (encH hands), .box (lyB K w p ents), .box (lyB K w p' ents'), s4, s5, s6, s7, s8] ∧ BI.le x y ∧ BI.size y ≤ BI.size x + 3 * tot L ∧ EntsL (BI.has y) ents' (BI.nextL hands L)) ?_ s1 ?_
      · refine ds_lockG (i := 2) (ly_lock K w p ents) rfl fun od es hes => ?_
        have hel : es.length = ents.length := by
          have := congrArg List.length hes
          unfold kvOf lyKvs at this
          rwa [List.length_map, List.length_map] at this
        have hen : ∀ (k : Nat) (e : DEnt), es[k]? = some e → ∃ ee, ents[k]? = some ee ∧ e.1 = ee.1 ∧ e.2.2 = V.ref ee.2.1 := fun k e hk => by
          have h1 : (kvOf es)[k]? = some (e.1, e.2.2) := by unfold kvOf; rw [List.getElem?_map, hk]; rfl
          rw [hes] at h1
          unfold lyKvs at h1
          rw [List.getElem?_map] at h1
          obtain ⟨ee, e1, e2⟩ := Option.map_eq_some_iff.mp h1
          injection e2 with e3 e4
          exact ⟨ee, e1, e3.symm, e4.symm⟩
        let part : Nat → Lay BI.β := fun n => (L.take n).foldl (fun acc e => BI.foldS e.2 (stepsTo hands e.1 hands.length) acc) []
        have tot_take : ∀ n, tot (L.take n) ≤ tot L := fun n => by
          have := List.take_append_drop n L
          have h2 := tot_app (L.take n) (L.drop n)
          rw [this] at h2; omega
        refine ds_itemsG (i := 2) (d := p) (od := od) (es := es) (bl := lyL K w p ents od es) rfl (fun _ _ h => h.1) (ents.map fun e => .box (alB (.ref e.2.1))) (fun k e hk => ?_) rfl
          (fun n δ => ∃ y ents' s4 s5 s6 s7 s8, δ = [.box (BI.bx y), .dat (encH hands), .box (lyL K w p ents od es), .box (lyB K w p' ents'), s4, s5, s6, s7, s8] ∧ (s4.foot = [] ∧ s5.foot = []) ∧ BI.le x y ∧ BI.size y ≤ BI.size x + 3 * tot (L.take n) ∧ EntsL (BI.has y) ents' (part n))
          ⟨x, [], _, _, _, _, _, rfl, ⟨rfl, rfl⟩, BI.refl x, Nat.le_add_right _ _, True.intro⟩ (fun n δn ⟨y, ents', s4, s5, s6, s7, s8, e, _⟩ => by rw [e]; rfl) ?_ ?_
        · obtain ⟨ee, e1, e2, e3⟩ := hen k e hk
          exact ⟨.box (alB (.ref ee.2.1)), by rw [List.getElem?_map, e1]; rfl, rfl, fun A H => ⟨by rw [e3]; rfl, (fun a ha => by cases ha), True.intro⟩⟩
        · rintro n e ws δn hk hws ⟨y, ents', s4, s5, s6, s7, s8, rfl, ⟨hf4, hf5⟩, hle, hsz, hent⟩
          obtain ⟨ee, e1, e2, e3⟩ := hen n e hk
          rw [List.getElem?_map, e1] at hws
          have hws : ws = .box (alB (.ref ee.2.1)) := (Option.some.inj hws).symm
          subst hws
          obtain ⟨m, hm1, hm2, hm3⟩ := he.get e1
          have hmem := List.mem_of_getElem? hm1
          have hmlen := hL.ms m hmem
          have hnl : n < L.length := (List.getElem?_eq_some_iff.mp hm1).1
          have hkey : e.1 = encMo m.1 := e2.trans hm2
          rw [hkey]
          have htk : L.take (n + 1) = L.take n ++ [m] := take_snoc hm1
          have htot1 : tot (L.take (n + 1)) = tot (L.take n) + m.2.length := by rw [htk, tot_app, tot_cons]; rfl
          have htotle := tot_take (n + 1)
          obtain ⟨pk, pt, pl⟩ := BI.next_ok h3 (L.take n) [] (by simp)
          have hpart1 : part (n + 1) = BI.foldS m.2 (stepsTo hands m.1 hands.length) (part n) := by
            show List.foldl _ [] (L.take (n + 1)) = _
            rw [htk, List.foldl_append]; rfl
          have hsl3 := stepsTo_len hands m.1 hands.length
          have htl : (L.take n).length = n := by rw [List.length_take]; omega
          refine ds_forV (es := (stepsTo hands m.1 hands.length).map encStep) (fun j δ => ∃ z ents'' s6 s7 s8, δ = [.box (BI.bx z), .dat (encH hands), .box (lyL K w p ents od es), .box (lyB K w p' ents''), .dat (encMo m.1), .box (alB (.ref ee.2.1)), s6, s7, s8] ∧ BI.le x z ∧ BI.size z ≤ BI.size x + 3 * tot (L.take n) + j * m.2.length ∧ EntsL (BI.has z) ents'' (BI.foldS m.2 ((stepsTo hands m.1 hands.length).take j) (part n)))
            (di_list (dv_call (das2 (de_var rfl) (de_var rfl)) (.mk hands m.1 hmlen h3))) ⟨y, ents', _, _, _, rfl, hle, by omega, by rw [List.take_zero]; exact hent⟩ ?_ ?_
          · rintro j d δj hd ⟨z, ents'', s6, s7, s8, rfl, hlez, hszz, hentz⟩
            rw [List.getElem?_map] at hd
            obtain ⟨st, hst, rfl⟩ := Option.map_eq_some_iff.mp hd
            obtain ⟨hand, ln, later⟩ := st
            have hstm := List.mem_of_getElem? hst
            obtain ⟨hlok, hhl⟩ := stepsTo_ok hh hstm
            have hjl : j < (stepsTo hands m.1 hands.length).length := (List.getElem?_eq_some_iff.mp hst).1
            have htj : (stepsTo hands m.1 hands.length).take (j + 1) = (stepsTo hands m.1 hands.length).take j ++ [(hand, ln, later)] := take_snoc hst
            obtain ⟨qk, qt, ql⟩ := BI.foldS_ok m.2 ((stepsTo hands m.1 hands.length).take j) (part n) pk
            have hjt : ((stepsTo hands m.1 hands.length).take j).length = j := by rw [List.length_take]; omega
            rw [hjt] at qt ql
            have hj3 : j * m.2.length + m.2.length ≤ 3 * m.2.length := by
              have : (j + 1) * m.2.length ≤ 3 * m.2.length := Nat.mul_le_mul_right _ (by omega)
              rw [Nat.add_mul] at this; omega
            have pt : tot (part n) ≤ 0 + 3 * tot (L.take n) := pt
            have pl : (part n).length ≤ 0 + 3 * (L.take n).length := pl
            have hwdz := (BI.same hlez).2.2
            refine ⟨_, dg3, ?_⟩
            let acc : Lay BI.β := BI.foldS m.2 ((stepsTo hands m.1 hands.length).take j) (part n)
            have hlen'' : ents''.length = acc.length := hentz.len
            have ql : acc.length ≤ (part n).length + j := ql
            -- after.setdefault(later, {})
            refine ds_seq (N1 := fun δ => ∃ ents3, δ = [.box (BI.bx z), .dat (encH hands), .box (lyL K w p ents od es), .box (lyB K w p' ents3), .dat (encMo m.1), .box (alB (.ref ee.2.1)), .dat (dN hand), .dat (encL ln), .dat (encMo later)] ∧ EntsL (BI.has z) ents3 (defL acc later)) ?_ ?_
            · refine ds_layDef (i := 3) (p := p') (ents := ents'') rfl (de_var (d := encMo later) rfl) (key_nats later) (by rw [hlen'']; show acc.length < _; omega) (fun hsome => ⟨ents'', rfl, ?_⟩) fun hnone q => ⟨_, rfl, ?_⟩
              · rcases hentz.at_ later with ⟨_, h2⟩ | ⟨e', ways, _, _, h3', _⟩
                · rw [show kvAt (lyKvs ents'') (.tuple (later.map dN)) = none from h2] at hsome; cases hsome
                · unfold defL; rw [if_pos (by rw [h3']; rfl)]; exact hentz
              · rcases hentz.at_ later with ⟨h1', _⟩ | ⟨e', ways, _, _, _, _, _, h6⟩
                · unfold defL
                  rw [if_neg (by cases hq : lAt acc later with
                    | none => simp
                    | some _ => rw [hq] at h1'; cases h1')]
                  exact hentz.app ⟨⟨rfl, True.intro⟩, True.intro⟩
                · rw [show kvAt (lyKvs ents'') (.tuple (later.map dN)) = _ from h6] at hnone; cases hnone
            · rintro δ3 ⟨ents3, rfl, hent3⟩
              obtain ⟨w0, hw0⟩ := defL_at acc later
              rcases hent3.at_ later with ⟨h1', _⟩ | ⟨e0, ways, g1, g2, g3, g4, g5, g6⟩
              · rw [hw0] at h1'; cases h1'
              · have hdtot : tot (defL acc later) = tot acc := defL_tot _ _
                have hways : ways.length ≤ tot acc := by
                  rw [← hdtot]
                  have : ∀ (L' : Lay BI.β), (later, ways) ∈ L' → ways.length ≤ tot L' := fun L' => by
                    induction L' with
                    | nil => intro h; cases h
                    | cons a L' ih => intro h; rw [tot_cons]; rcases List.mem_cons.mp h with h | h
                                      · rw [← h]; exact Nat.le_add_right _ _
                                      · have := ih h; omega
                  exact this _ g5
                have qt : tot acc ≤ tot (part n) + j * m.2.length := qt
                refine ds_layAdd BI (x := z) rfl rfl (key1 := ee.1) (kvs1 := ee.2.2) (List.mem_of_getElem? e1) g1 g6 (.mk z fs hand ln _ _ _ _ m.2 ways (by rw [hwdz]; exact hm) (by rw [hwdz]; exact hlok) (by omega) (fun q hq => ?_) (hm3.mono fun _ _ h => BI.mono hlez h) g4 (by omega) (by omega)) fun hnd d δ1 ⟨y2, k2, p1, p2, p3, p4⟩ => ⟨y2, k2, p1, p4, ?_⟩
                · obtain ⟨o1, o2, o3⟩ := hL.st m hmem q hq
                  exact ⟨by rw [hwdz]; exact o1, o3 _ hstm, o2⟩
                · have hlxy := BI.trans hlez p1
                  refine ⟨y2, _, _, _, _, rfl, hlxy, by rw [Nat.add_mul]; omega, ?_⟩
                  rw [htj, BI.foldS_snoc]
                  have h3e := hent3.mono (has' := BI.has y2) fun _ _ h => BI.mono p1 h
                  refine EntsL.upd h3e (List.nodup_cons.mp hnd).2 (defL_nodup qk) g1 g2 fun ways' hw' => ?_
                  rw [show lAt (defL acc later) later = some ways from g3] at hw'
                  rw [← Option.some.inj hw']; exact p3
          · rintro δ' ⟨z, ents'', s6, s7, s8, rfl, hlez, hszz, hentz⟩
            rw [List.length_map] at hszz hentz
            rw [List.take_length] at hentz
            have hmul : (stepsTo hands m.1 hands.length).length * m.2.length ≤ 3 * m.2.length := Nat.mul_le_mul_right _ (by omega)
            refine ⟨z, ents'', _, _, _, _, _, rfl, ⟨rfl, rfl⟩, hlez, by omega, ?_⟩
            rw [hpart1]; exact hentz
        · rintro δ' ⟨y, ents', s4, s5, s6, s7, s8, rfl, hf, hle, hsz, hent⟩
          have hle2 : es.length = L.length := by rw [hel]; exact he.len
          rw [hle2] at hsz hent
          rw [List.take_length] at hsz
          have hp : part L.length = BI.nextL hands L := by show List.foldl _ [] (L.take L.length) = _; rw [List.take_length]; rfl
          rw [hp] at hent
          exact ⟨rfl, y, ents', _, _, _, _, _, rfl, hle, hsz, hent⟩
      · rintro δ1 A2 H2 σ2 ⟨y, ents', s4, s5, s6, s7, s8, rfl, hle, hsz, hent⟩ s2 x2
        obtain ⟨r3, f3, h3'⟩ := s2.sd.box 3 _ rfl
        obtain ⟨sr, sf, _⟩ := BI.same hle
        have hnew : ∀ a ∈ (lyB K w p' ents').foot, H a = none := fun a ha => by
          rcases s2.mineF 3 _ rfl a ha with z | z
          · exfalso
            obtain ⟨i, w', hi, ha2⟩ := ftAll_mem.mp z
            match i, hi with
            | 0, hi => simp at hi; subst hi; exact s2.sd.apart 3 0 _ _ rfl rfl (by decide) a ha (by show a ∈ (BI.bx y).foot; rw [sf]; exact ha2)
            | 1, hi => simp at hi; subst hi; cases ha2
            | 2, hi => simp at hi; subst hi; exact s2.sd.apart 3 2 _ _ rfl rfl (by decide) a ha ha2
            | i + 3, hi => simp at hi
          · exact z
        have lf : Left [.box (BI.bx x), .dat (encH hands), .box (lyB K w p ents)] [.box (BI.bx y), .dat (encH hands), .box (lyB K w p ents), .box (lyB K w p' ents'), s4, s5, s6, s7, s8] [.box (BI.bx y), .no, .box (lyB K w p ents)] := ⟨rfl, fun j w' hj => by
          match j, hj with
          | 0, hj => simp at hj; subst hj; exact .inr ⟨_, _, rfl, rfl, rfl, sr, fun a ha => ftAll_mem.mpr ⟨0, _, rfl, by show a ∈ (BI.bx x).foot; rw [← sf]; exact ha⟩⟩
          | 1, hj => simp at hj; exact .inl hj.symm
          | 2, hj => simp at hj; subst hj; exact .inr ⟨_, _, rfl, rfl, rfl, rfl, fun a ha => ftAll_mem.mpr ⟨2, _, rfl, ha⟩⟩
          | j + 3, hj => simp at hj⟩
        obtain ⟨S, sd', hb⟩ := sd_leftB (b := lyB K w p' ents') hsd s2 lf f3 hnew h3'
        exact ⟨_, r3, q _ _ _ _ ⟨y, p', ents', hle, hsz, hent, rfl, rfl⟩ S hnew sd' (fun a ha => List.mem_append_right _ ha) hb⟩
end
end WL
end
section
set_option Elab.async false
set_option linter.all false
set_option maxRecDepth 100000
namespace WL
open PySem PySem.Spec PyProof.Rows L2
/-- .. one of the inner dicts locked, too -/
def lyLL (K : PySem.W.Frag) (w : World) (p : Addr) (ents : List LyE) (od : Obj) (es : List DEnt) (e1 : LyE) (od1 : Obj) (es1 : List DEnt) : Box where
  root := .ref p
  foot := lyFoot p ents
  holds := fun H Hh => e1 ∈ ents ∧ (H p = some (.frz od (DkO w p es)) ∧ KeysAt K Hh es) ∧ (H e1.2.1 = some (.frz od1 (DkO w e1.2.1 es1)) ∧ KeysAt K Hh es1) ∧ lyIns K w (ents.filter fun e => decide (e.2.1 ≠ e1.2.1)) H Hh ∧ (lyFoot p ents).Nodup
  loc := fun {H H' Hh Hh'} k x ⟨h0, ⟨h1, h2⟩, ⟨h3, h4⟩, h5, h6⟩ => by
    have kin : ∀ e ∈ ents, H' e.2.1 = H e.2.1 := fun e he => k _ (List.mem_cons_of_mem _ (List.mem_map.mpr ⟨e, he, rfl⟩))
    exact ⟨h0, ⟨by rw [k p List.mem_cons_self]; exact h1, h2.ex x⟩, ⟨by rw [kin e1 h0]; exact h3, h4.ex x⟩, h5.loc (fun e he => kin e (List.mem_filter.mp he).1) x, h6⟩
theorem ly_lock2 (K : PySem.W.Frag) (w : World) (p : Addr) (ents : List LyE) (od : Obj) (es : List DEnt) {e1 : LyE} (h1 : e1 ∈ ents) : LockOf K w e1.2.1 (lyL K w p ents od es) (lyLL K w p ents od es e1) e1.2.2 where
  f := List.mem_cons_of_mem _ (List.mem_map.mpr ⟨e1, h1, rfl⟩)
  rl := fun _ _ => rfl
  fl := fun _ _ => rfl
  lock := fun H Hh od1 ⟨⟨a1, a2⟩, a3, a4⟩ => by
    obtain ⟨es1, b1, b2, b3⟩ := a3 e1 h1
    have hne : p ≠ e1.2.1 := fun z => (List.nodup_cons.mp a4).1 (by rw [z]; exact List.mem_map.mpr ⟨e1, h1, rfl⟩)
    refine ⟨es1, b1, b3, h1, ⟨by rw [upd_ne hne]; exact a1, a2⟩, ⟨upd_same, b2⟩, fun e he => ?_, a4⟩
    obtain ⟨m1, m2⟩ := List.mem_filter.mp he
    obtain ⟨es2, c1, c2, c3⟩ := a3 e m1
    exact ⟨es2, by rw [upd_ne (of_decide_eq_true m2)]; exact c1, c2, c3⟩
  unlock := fun H Hh od1 es1 hk ⟨_, ⟨a1, a2⟩, ⟨a3, a4⟩, a5, a6⟩ => by
    have hne : p ≠ e1.2.1 := fun z => (List.nodup_cons.mp a6).1 (by rw [z]; exact List.mem_map.mpr ⟨e1, h1, rfl⟩)
    refine ⟨⟨by rw [upd_ne hne]; exact a1, a2⟩, fun e he => ?_, a6⟩
    by_cases hd : e.2.1 = e1.2.1
    · have : e = e1 := nodup_inj (f := fun e : LyE => e.2.1) (List.nodup_cons.mp a6).2 he h1 hd
      subst this
      exact ⟨es1, upd_same, a4, hk⟩
    · obtain ⟨es2, c1, c2, c3⟩ := a5 e (List.mem_filter.mpr ⟨he, decide_eq_true hd⟩)
      exact ⟨es2, by rw [upd_ne hd]; exact c1, c2, c3⟩
  at_ := fun H Hh od1 es1 h => h.2.2.1
/-- len of an inner dict by another name -/
theorem dv_lyLen {F : Fx} {w : World} {δ : List WSlot} {i j : Nat} {p : Addr} {ents : List LyE} {od : Obj} {es : List DEnt} {e1 : LyE} (h1 : e1 ∈ ents) (ho : δ[i]? = some (.box (lyL F.K w p ents od es))) (hj : δ[j]? = some (.box (alB (.ref e1.2.1)))) : DV F (tCB (rDkLen w) (tCons (tVar j) tNil)) δ (.int (e1.2.2.length : Nat)) := fun A H σ s Q q => by
  obtain ⟨_, _, _, r4, _⟩ := s.sd.box i _ ho
  obtain ⟨es1, q1, q2, q3⟩ := r4 e1 h1
  refine ⟨_, (s.sd.box j _ hj).1, e1.2.1, es1, rfl, .inl q1, ?_⟩
  have : es1.length = e1.2.2.length := by rw [← q3]; unfold kvOf; rw [List.length_map]
  rw [this]
  exact q _ _ _ H ⟨rfl, rfl⟩ s (WL.Ex.refl _) (.int _)
def minO : List Str → PyData
  | [] => .none
  | y :: ys => .str (minS y ys)
theorem dv_minS {F : Fx} {δ : List WSlot} {i : Nat} {l : Addr} {zs : List Str} (ho : δ[i]? = some (.own l (zs.map .str))) : DV F (tCKw (rMinS F.K) (tCons (tVar i) tNil) (tCons (tC .non) tNil)) δ (minO zs) := fun A H σ s Q q => by
  obtain ⟨e1, m, xs, e2, hd⟩ := s.sd.own i l _ ho
  have e : xs = zs.map V.str := by
    have : ∀ {zs : List Str} {vs : List V}, DtAll F.K (hid A H) vs (zs.map PyData.str) → vs = zs.map V.str := by
      intro zs
      induction zs with
      | nil => intro vs h; cases h; rfl
      | cons z r ih => intro vs h; cases h with | cons h1 h2 => rw [dp_str h1, ih h2]; rfl
    exact this hd
  subst e
  refine ⟨_, e1, l, zs, rfl, rfl, .inl (.inl e2), fun h0 => ?_, fun y ys h0 => ?_⟩
  · subst h0; exact q _ _ _ H ⟨rfl, rfl⟩ s (WL.Ex.refl _) .non
  · subst h0; exact q _ _ _ H ⟨rfl, rfl⟩ s (WL.Ex.refl _) (.str _)
theorem en_of {es : List DEnt} {ents : List LyE} (hes : kvOf es = lyKvs ents) : es.length = ents.length ∧ ∀ (k : Nat) (e : DEnt), es[k]? = some e → ∃ ee, ents[k]? = some ee ∧ e.1 = ee.1 ∧ e.2.2 = V.ref ee.2.1 := by
  constructor
  · have := congrArg List.length hes
    unfold kvOf lyKvs at this
    rwa [List.length_map, List.length_map] at this
  · intro k e hk
    have h1 : (kvOf es)[k]? = some (e.1, e.2.2) := by unfold kvOf; rw [List.getElem?_map, hk]; rfl
    rw [hes] at h1
    unfold lyKvs at h1
    rw [List.getElem?_map] at h1
    obtain ⟨ee, e1, e2⟩ := Option.map_eq_some_iff.mp h1
    injection e2 with e3 e4
    exact ⟨ee, e1, e3.symm, e4.symm⟩
/-- the ways of a layer that are bad -/
def harmW {β : Type} (bad : List Nat → List β → Bool) (L : Lay β) : List (List Nat) := L.flatMap fun e => (e.2.filter fun q => bad e.1 q.1).map (·.2)
theorem harmW_app {β : Type} (bad : List Nat → List β → Bool) (L L' : Lay β) : harmW bad (L ++ L') = harmW bad L ++ harmW bad L' := by unfold harmW; rw [List.flatMap_append]
theorem harmW_len {β : Type} (bad : List Nat → List β → Bool) : ∀ (L : Lay β), (harmW bad L).length ≤ tot L
  | [] => Nat.le_refl _
  | e :: L => by
    have := harmW_len bad L
    have e1 : harmW bad (e :: L) = (e.2.filter fun q => bad e.1 q.1).map (·.2) ++ harmW bad L := rfl
    have e2 : tot (e :: L) = e.2.length + tot L := by unfold tot; simp
    rw [e1, e2, List.length_append, List.length_map]
    have := List.length_filter_le (fun q => bad e.1 q.1) e.2
    omega
def leastD (ws : List (List Nat)) : PyData := minO (ws.map wayS)
section
variable {P : Program} {w : World} {K : PySem.W.Frag} {mg : Str → Option Value} {base : Heap}
inductive rel_width (K : PySem.W.Frag) (w : World) : List WSlot → (PyData → List WSlot → Prop) → Prop
  | mk (p : Addr) (ents : List LyE) (h : ∀ e ∈ ents, e.2.2.length ≤ 3000) : rel_width K w [.box (lyB K w p ents)] fun _ δ1 => δ1 = [.box (lyB K w p ents)]
theorem ok_check_width (T : Top K mg) : FnOk P w K mg base CX0 1 T.check_width.f T.check_width.fd ["layer"] (spG K (rel_width K w)) :=
  fnG T.check_width.F sc_check_width (fun es Pd h => by cases h; rfl) fun cdv A outer s H E hr => by
    refine ⟨_, (pss_one (ps_lock (ps_for PassesOwn.never rfl (pi_dkV (pv 0)) (pg_name (i := 1) sc_check_width.nd rfl (by first | exact Or.inl rfl | exact Or.inr rfl)) (pss_one (ps_if (pt_cmpR op_gt (pe_callB (r := rDkLen w) call_dkLen (by rfl) T.n_len PySem.boot_len (pa_cons (pv 1) pa_nil)) (pe_glob (v := .int 3000) rfl T.c_MOST_HELD.choose_spec ⟨_, rfl⟩) (nomark _)) (pss_one ps_never) pss_nil))))), fun A0 δ0 Pd hrel => ?_⟩
    cases hrel with
    | mk p ents h =>
      refine ds_lockG (i := 0) (ly_lock K w p ents) rfl fun od es hes => ?_
      obtain ⟨hel, hen⟩ := en_of hes
      refine ds_valuesG (i := 0) (d := p) (od := od) (es := es) (bl := lyL K w p ents od es) rfl (fun _ _ h => h.1) (ents.map fun e => .box (alB (.ref e.2.1))) (fun k e hk => ?_) rfl
        (fun n δ => ∃ s1, δ = [.box (lyL K w p ents od es), s1]) ⟨_, rfl⟩ (fun n δn ⟨s1, e⟩ => by rw [e]; rfl) ?_ ?_
      · obtain ⟨ee, e1, e2, e3⟩ := hen k e hk
        exact ⟨.box (alB (.ref ee.2.1)), by rw [List.getElem?_map, e1]; rfl, rfl, fun A H => ⟨by rw [e3]; rfl, (fun a ha => by cases ha), True.intro⟩⟩
      · rintro n e ws δn hk hws ⟨s1, rfl⟩
        obtain ⟨ee, e1, e2, e3⟩ := hen n e hk
        rw [List.getElem?_map, e1] at hws
        have hws : ws = .box (alB (.ref ee.2.1)) := (Option.some.inj hws).symm
        subst hws
        have hm := List.mem_of_getElem? e1
        have := h ee hm
        exact ds_ifB (b := false) ((db_test (dv_I0 (dv_lyLen (i := 0) (j := 1) hm rfl rfl) de_int fun _ => .bl _)).is (decide_eq_false (by omega))) (fun e => by cases e) fun _ => ds_next ⟨_, rfl⟩
      · rintro δ' ⟨s1, rfl⟩
        refine ⟨rfl, [.box (lyB K w p ents)], ⟨rfl, fun j w' hj => ?_⟩, rfl⟩
        match j, hj with
        | 0, hj => simp at hj; subst hj; exact .inr ⟨_, _, rfl, rfl, rfl, rfl, fun a ha => ftAll_mem.mpr ⟨0, _, rfl, ha⟩⟩
        | j + 1, hj => simp at hj
inductive rel_least (K : PySem.W.Frag) (w : World) : List WSlot → (PyData → List WSlot → Prop) → Prop
  | mk {β : Type} (has : β → Nat → Prop) (n : Nat) (hands : List (List Ln)) (wn : List (List (Nat × Nat))) (p : Addr) (ents : List LyE) (L : Lay β) (bad : List Nat → List β → Bool) (h3 : hands.length ≤ 3) (hw : wn.length = hands.length) (hz : ∀ o ∈ wn, o.length ≤ 100 ∧ ∀ q ∈ o, q.1 < n) (he : EntsL has ents L)
      (hm : ∀ e ∈ L, e.1.length = hands.length) (hn : ∀ e ∈ L, ∀ q ∈ e.2, q.1.length = n) (hb : ∀ e ∈ L, ∀ q ∈ e.2, ∀ ns, HasL has q.1 ns → harmed ns (duesTo hands wn e.1 hands.length) = bad e.1 q.1) (ht : tot L ≤ 90000) :
    rel_least K w [.dat (encH hands), .dat (.list (wn.map encPrs)), .box (lyB K w p ents)] fun d δ1 => d = leastD (harmW bad L) ∧ δ1 = [.no, .no, .box (lyB K w p ents)]
theorem ok_least_harm (T : Top K mg) : FnOk P w K mg base CX0 2 T.least_harm.f T.least_harm.fd ["hands", "wished", "layer"] (spG K (rel_least K w)) :=
  fnG T.least_harm.F sc_least_harm (fun es Pd h => by cases h; rfl) fun cdv A outer s H E hr => by
    refine ⟨_, (pss_cons (ps_set (i := 3) sc_least_harm.nd rfl (by first | exact Or.inl rfl | exact Or.inr rfl) (pe_lst pa_nil))
    (pss_cons (ps_lock (ps_for PassesOwn.never rfl (pi_dkI (pv 2)) (pg_tup rfl (pgs_cons (pg_name (i := 4) sc_least_harm.nd rfl (by first | exact Or.inl rfl | exact Or.inr rfl)) (pgs_cons (pg_name (i := 5) sc_least_harm.nd rfl (by first | exact Or.inl rfl | exact Or.inr rfl)) pgs_nil))) (pss_cons (ps_set (i := 6) sc_least_harm.nd rfl (by first | exact Or.inl rfl | exact Or.inr rfl) (pe_call (ok_due_wishes T) (hr.mono (by omega)) rfl T.due_wishes.m T.due_wishes.F.kp T.due_wishes.b .nil pass0 (pa_cons (pv 0) (pa_cons (pv 1) (pa_cons (pv 4) pa_nil)))))
    (pss_one (ps_lock (ps_expr (pe_bm (r := rExtQ K) PySem.F.plainAttrs_list PySem.F.slot_list_extend PySem.F.type_list_extend mt_extQ (pv 3) (pa_cons (pe_lc (own := [("held", 7), ("way", 8)]) (g := gTup K 2 (gCons (gName 7) (gCons (gName 8) gNil))) rfl sc_least_harm.nd (pi_dkI (pv 5)) (blkOk_by (own := [("held", 7), ("way", 8)]) (N := ["hands", "wished", "layer", "harmful", "moments", "ways", "due", "held", "way"]) (sc := (defScope (topS 45))) (by decide +kernel)) (fun _ _ _ _ _ => (pg_tup rfl (pgs_cons (pg_name (i := 7) sc_least_harm.nd rfl (by first | exact Or.inl rfl | exact Or.inr rfl)) (pgs_cons (pg_name (i := 8) sc_least_harm.nd rfl (by first | exact Or.inl rfl | exact Or.inr rfl)) pgs_nil)))) (fun _ _ _ _ _ => pts_one (pt_val (pe_call (ok_is_harmed T) (hr.mono (by omega)) rfl T.is_harmed.m T.is_harmed.F.kp T.is_harmed.b .nil pass0 (pa_cons (pv 7) (pa_cons (pv 6) pa_nil))))) (fun _ _ _ _ _ => (pv 8))) pa_nil))))))))
    (pss_one (ps_ret (pe_callBK (cr_minS rfl (hu65 hr)) (by rfl) T.n_min (by decide +kernel) (pa_cons (pv 3) pa_nil) (pk_cons pe_non pk_nil)))))), fun A0 δ0 Pd hrel => ?_⟩
    cases hrel with
    | mk has n hands wn p ents L bad h3 hw hz he hm hn hb ht =>
      refine dq_nil fun l => ?_
      refine ds_seq (N1 := fun δ => ∃ s4 s5 s6 s7 s8, δ = [.dat (encH hands), .dat (.list (wn.map encPrs)), .box (lyB K w p ents), .own l ((harmW bad L).map fun z => .str (wayS z)), s4, s5, s6, s7, s8]) ?_ ?_
      · refine ds_lockG (i := 2) (ly_lock K w p ents) rfl fun od es hes => ?_
        obtain ⟨hel, hen⟩ := en_of hes
        refine ds_itemsG (i := 2) (d := p) (od := od) (es := es) (bl := lyL K w p ents od es) rfl (fun _ _ h => h.1) (ents.map fun e => .box (alB (.ref e.2.1))) (fun k e hk => ?_) rfl
          (fun i δ => ∃ s4 s5 s6, δ = [.dat (encH hands), .dat (.list (wn.map encPrs)), .box (lyL K w p ents od es), .own l ((harmW bad (L.take i)).map fun z => .str (wayS z)), s4, s5, s6, .no, .no]) ⟨_, _, _, rfl⟩ (fun n δn ⟨s4, s5, s6, e⟩ => by rw [e]; rfl) ?_ ?_
        · obtain ⟨ee, e1, e2, e3⟩ := hen k e hk
          exact ⟨.box (alB (.ref ee.2.1)), by rw [List.getElem?_map, e1]; rfl, rfl, fun A H => ⟨by rw [e3]; rfl, (fun a ha => by cases ha), True.intro⟩⟩
        · rintro i e ws δn hk hws ⟨s4, s5, s6, rfl⟩
          obtain ⟨ee, e1, e2, e3⟩ := hen i e hk
          rw [List.getElem?_map, e1] at hws
          have hws : ws = .box (alB (.ref ee.2.1)) := (Option.some.inj hws).symm
          subst hws
          obtain ⟨m, hm1, hm2, hm3⟩ := he.get e1
          have hmem := List.mem_of_getElem? hm1
          have hmE := List.mem_of_getElem? e1
          have hkey : e.1 = encMo m.1 := e2.trans hm2
          rw [hkey]
          have htk : L.take (i + 1) = L.take i ++ [m] := take_snoc hm1
          have hapE : harmW bad (L.take (i + 1)) = harmW bad (L.take i) ++ (m.2.filter fun q => bad m.1 q.1).map (·.2) := by
            rw [htk, harmW_app]; unfold harmW; simp
          refine dq_setV (d := encPrs (duesTo hands wn m.1 hands.length)) (dv_call (das_cons (de_var rfl) (das2 (de_var rfl) (de_var rfl))) (.mk hands wn m.1 (hm m hmem) hw h3 fun o ho => (hz o ho).1)) ?_
          refine ds_lockG (i := 2) (ly_lock2 K w p ents od es hmE) rfl fun od1 es1 hes1 => ?_
          -- what is listed
          have hlen1 : es1.length = m.2.length := by rw [← hm3.len, ← hes1]; unfold kvOf; rw [List.length_map]
          have hval : es1.map (·.2.2) = (m.2.map fun q => wayS q.2).map V.str := by
            apply List.ext_getElem?
            intro k
            rw [List.getElem?_map, List.map_map, List.getElem?_map]
            cases hk1 : es1[k]? with
            | none =>
              have : m.2[k]? = none := by rw [List.getElem?_eq_none_iff] at hk1 ⊢; omega
              rw [this]; rfl
            | some e' =>
              have h1 : ee.2.2[k]? = some (e'.1, e'.2.2) := by rw [← hes1]; unfold kvOf; rw [List.getElem?_map, hk1]; rfl
              obtain ⟨q, ns, q1, _, _, q4⟩ := hm3.get h1
              rw [q1]
              have q4 : e'.2.2 = V.str (wayS q.2) := q4
              show some e'.2.2 = some (V.str (wayS q.2))
              rw [q4]
          let items : List PyData := List.zipWith (fun (e : DEnt) z => PyData.tuple [e.1, .str z]) es1 (m.2.map fun q => wayS q.2)
          have hitem : ∀ (k : Nat) (d : PyData), items[k]? = some d → ∃ q ns, m.2[k]? = some q ∧ HasL has q.1 ns ∧ d = .tuple [.tuple (ns.map dN), .str (wayS q.2)] := fun k d hd => by
            show ∃ q ns, _
            have hd : (List.zipWith (fun (e : DEnt) z => PyData.tuple [e.1, .str z]) es1 (m.2.map fun q => wayS q.2))[k]? = some d := hd
            rw [List.getElem?_zipWith, List.getElem?_map] at hd
            cases hk1 : es1[k]? with
            | none => rw [hk1] at hd; cases hd
            | some e' =>
              have h1 : ee.2.2[k]? = some (e'.1, e'.2.2) := by rw [← hes1]; unfold kvOf; rw [List.getElem?_map, hk1]; rfl
              obtain ⟨q, ns, q1, q2, q3, q4⟩ := hm3.get h1
              rw [hk1, q1] at hd
              have q2 : e'.1 = .tuple (ns.map dN) := q2
              refine ⟨q, ns, q1, q3, ?_⟩
              rw [← Option.some.inj hd, q2]
          have hil : items.length = m.2.length := by show (List.zipWith _ _ _).length = _; rw [List.length_zipWith, List.length_map, hlen1, Nat.min_self]
          have htotm : m.2.length ≤ tot L := by
            have : ∀ (L' : Lay _), m ∈ L' → m.2.length ≤ tot L' := fun L' => by
              induction L' with
              | nil => intro h; cases h
              | cons a L' ih =>
                intro h
                have et : tot (a :: L') = a.2.length + tot L' := by unfold tot; simp
                rw [et]
                rcases List.mem_cons.mp h with h | h
                · rw [← h]; exact Nat.le_add_right _ _
                · have := ih h; omega
            exact this L hmem
          let env : WSlot → List WSlot := fun _ => [.dat (encH hands), .dat (.list (wn.map encPrs)), .box (lyLL K w p ents od es ee od1 es1), .own l ((harmW bad (L.take i)).map fun z => .str (wayS z)), .dat (encMo m.1), .box (alB (.ref ee.2.1)), .dat (encPrs (duesTo hands wn m.1 hands.length)), .no, .no]
          have hduel : ∀ q ∈ duesTo hands wn m.1 hands.length, q.1 < n := fun q hq => by
            obtain ⟨h, _, hq⟩ := List.mem_flatMap.mp hq
            unfold duesAt at hq
            split at hq
            · cases e : wn[h]? with
              | none => rw [e] at hq; simp at hq
              | some o => rw [e] at hq; exact (hz o (List.mem_of_getElem? e)).2 q hq
            · simp at hq
          have hduez : ∀ k, (duesTo hands wn m.1 k).length ≤ 100 * k := fun k => by
            induction k with
            | zero => exact Nat.le_refl _
            | succ k ih =>
              rw [duesTo_succ, List.length_append]
              have : (duesAt hands wn m.1 k).length ≤ 100 := by
                unfold duesAt
                split
                · cases e : wn[k]? with
                  | none => simp
                  | some o => exact (hz o (List.mem_of_getElem? e)).1
                · simp
              omega
          refine ds_extend (l := l) rfl (DL.mono (DN.dl (dn_lcP (PP := fun H => H ee.2.1 = some (.frz od1 (DkO w ee.2.1 es1))) (PI := is1 _ items) (PL := is1 (env .no) (((m.2.filter fun q => bad m.1 q.1).map (·.2)).map fun z => .str (wayS z))) (di_dkA (i := 5) (d := ee.2.1) (od := od1) (es := es1) rfl hval fun A H σ s => (s.sd.box 2 _ rfl).2.2.2.2.1) ?_)) ?_)
          · rintro es' δ1 ⟨rfl, rfl⟩
            refine ⟨by rw [hil]; omega, fun k acc δi => δi = env .no ∧ acc = (((m.2.take k).filter fun q => bad m.1 q.1).map (·.2)).map fun z => .str (wayS z), ⟨rfl, rfl⟩, ?_, ?_, ?_⟩
            · rintro H0' k acc d δi hd ⟨rfl, rfl⟩
              obtain ⟨q, ns, q1, q2, rfl⟩ := hitem k d hd
              have hq := List.mem_of_getElem? q1
              have htkq : m.2.take (k + 1) = m.2.take k ++ [q] := take_snoc q1
              have hnl : ns.length = n := by rw [← q2.len]; exact hn m hmem q hq
              refine ⟨_, dw2 (by decide) (by decide), ?_⟩
              refine (db_B (dv_call (das2 (de_var (d := .tuple (ns.map dN)) rfl) (de_var rfl)) (.mk ns _ (fun z hz' => by rw [hnl]; exact hduel z hz') (by have := hduez hands.length; omega)))).mono fun b δ2 ⟨f1, f2⟩ => ?_
              subst f2
              rw [hb m hmem q hq ns q2] at f1
              refine ⟨fun eb => ?_, fun eb => ⟨_, Back.self (by repeat' (first | exact True.intro | rfl | refine ⟨?_, ?_⟩)), rfl, ?_⟩⟩
              · refine (de_var (F := (⟨K, H, A0, _⟩ : Fx).at H0') (d := .str (wayS q.2)) rfl).mono fun y δ3 ⟨g1, g2⟩ => ?_
                subst g2
                refine ⟨_, Back.self (by repeat' (first | exact True.intro | rfl | refine ⟨?_, ?_⟩)), rfl, ?_⟩
                rw [htkq, List.filter_append, List.map_append, List.map_append, g1]
                have : bad m.1 q.1 = true := by rw [← f1]; exact eb
                simp [this]
              · rw [htkq, List.filter_append]
                have : bad m.1 q.1 = false := by rw [← f1]; exact eb
                simp [this]
            · rintro k acc δi ⟨rfl, rfl⟩ F' A' H' σ' hF s'
              exact (s'.sd.box 2 _ rfl).2.2.2.2.1.1
            · rintro acc δ' ⟨rfl, rfl⟩
              rw [hil, List.take_length]; exact ⟨rfl, rfl⟩
          · rintro ds δ' ⟨rfl, rfl⟩
            refine ⟨_, rfl, ?_, rfl, ?_⟩
            · rw [List.length_map, List.length_map, List.length_map, ← List.length_map (f := fun q : List _ × List Nat => q.2), ← List.length_append, ← hapE]
              have h1 := harmW_len bad (L.take (i + 1))
              have h2 : tot (L.take (i + 1)) ≤ tot L := by
                have h3 := List.take_append_drop (i + 1) L
                have h4 : tot (L.take (i + 1) ++ L.drop (i + 1)) = tot (L.take (i + 1)) + tot (L.drop (i + 1)) := by unfold tot; rw [List.map_append, List.sum_append]
                rw [h3] at h4; omega
              omega
            · refine ⟨.dat (encMo m.1), .box (alB (.ref ee.2.1)), .dat (encPrs (duesTo hands wn m.1 hands.length)), ?_⟩
              rw [hapE, List.map_append]; rfl
        · rintro δ' ⟨s4, s5, s6, rfl⟩
          refine ⟨rfl, s4, s5, s6, .no, .no, ?_⟩
          rw [hel, he.len, List.take_length]; rfl
      · rintro δ1 ⟨s4, s5, s6, s7, s8, rfl⟩
        refine ds_retV (d := leastD (harmW bad L)) ((dv_minS (i := 3) (l := l) (zs := (harmW bad L).map wayS) (by rw [List.map_map]; rfl)).is rfl) ⟨[.no, .no, .box (lyB K w p ents)], ⟨rfl, fun j w' hj => ?_⟩, rfl, rfl⟩
        match j, hj with
        | 0, hj => simp at hj; exact .inl hj.symm
        | 1, hj => simp at hj; exact .inl hj.symm
        | 2, hj => simp at hj; subst hj; exact .inr ⟨_, _, rfl, rfl, rfl, rfl, fun a ha => ftAll_mem.mpr ⟨2, _, rfl, ha⟩⟩
        | j + 3, hj => simp at hj
end
end WL
end
section
set_option Elab.async false
set_option linter.all false
set_option maxRecDepth 100000
namespace WL
open PySem PySem.Spec PyProof.Rows L2
/-! ### the order of words -/
theorem lw_trans : ∀ {a b c : List Nat}, ¬ b < a → ¬ c < b → ¬ c < a
  | [], _, c, _, _, h => by cases c <;> simp at h
  | x :: a, [], c, h, _, _ => absurd (List.nil_lt_cons x a) h
  | x :: a, y :: b, [], _, h2, _ => absurd (List.nil_lt_cons y b) h2
  | x :: a, y :: b, z :: c, h1, h2, h3 => by
    rw [List.cons_lt_cons_iff] at h1 h2 h3
    by_cases e1 : y < x
    · exact h1 (.inl e1)
    · by_cases e2 : z < y
      · exact h2 (.inl e2)
      · rcases h3 with h3 | ⟨h3, h4⟩
        · omega
        · subst h3
          have e : y = z := by omega
          subst e
          exact lw_trans (fun q => h1 (.inr ⟨rfl, q⟩)) (fun q => h2 (.inr ⟨rfl, q⟩)) h4
theorem lw_irrefl : ∀ a : List Nat, ¬ a < a
  | [], h => by simp at h
  | x :: a, h => by
    rw [List.cons_lt_cons_iff] at h
    rcases h with h | ⟨_, h⟩
    · omega
    · exact lw_irrefl a h
theorem lw_asymm {a b : List Nat} (h : a < b) : ¬ b < a := fun k => by
  have : ∀ {a b : List Nat}, a < b → b < a → False := by
    intro a
    induction a with
    | nil => intro b _ k; cases b <;> simp at k
    | cons x a ih => intro b h k; cases b with
      | nil => simp at h
      | cons y b =>
        rw [List.cons_lt_cons_iff] at h k
        rcases h with h | ⟨rfl, h⟩
        · rcases k with k | ⟨e, _⟩ <;> omega
        · rcases k with k | ⟨_, k⟩
          · omega
          · exact ih h k
  exact this h k
theorem lw_app {c : List Nat} : ∀ {a b : List Nat}, a.length = b.length → ¬ b < a → ¬ b ++ c < a ++ c
  | [], [], _, _, k => lw_irrefl c (by simpa using k)
  | x :: a, y :: b, hl, h, k => by
    rw [List.cons_append, List.cons_append, List.cons_lt_cons_iff] at k
    rw [List.cons_lt_cons_iff] at h
    rcases k with k | ⟨e, k⟩
    · exact h (.inl k)
    · exact lw_app (by simpa using hl) (fun q => h (.inr ⟨e, q⟩)) k
  | [], _ :: _, hl, _, _ => by simp at hl
  | _ :: _, [], hl, _, _ => by simp at hl
theorem lw_map : ∀ {a b : List Nat}, a.map (· + 48) < b.map (· + 48) ↔ a < b
  | [], [] => by simp
  | [], y :: b => by simp
  | x :: a, [] => by simp
  | x :: a, y :: b => by
    rw [List.map_cons, List.map_cons, List.cons_lt_cons_iff, List.cons_lt_cons_iff, lw_map (a := a) (b := b)]
    constructor
    · rintro (h | ⟨h, k⟩)
      · exact .inl (by omega)
      · exact .inr ⟨by omega, k⟩
    · rintro (h | ⟨h, k⟩)
      · exact .inl (by omega)
      · exact .inr ⟨by omega, k⟩
def sW (a : List Nat) : List Nat := (wayS a).cps.toList
theorem sW_snoc (a : List Nat) (n : Nat) : sW (a ++ [n]) = sW a ++ (figS n).cps.toList := by
  unfold sW
  rw [wayS_snoc]
  show ((wayS a).cps ++ (figS n).cps).toList = _
  rw [Array.toList_append]
theorem fig_cps {n : Nat} (h : n < 3) : (figS n).cps.toList = [n + 48] := by
  match n, h with
  | 0, _ => decide +kernel
  | 1, _ => decide +kernel
  | 2, _ => decide +kernel
  | n + 3, h => omega
theorem sW_map : ∀ a : List Nat, (∀ x ∈ a, x < 3) → sW a = a.map (· + 48) :=
  list_ind (fun _ => by decide +kernel) fun l a ih h => by
    rw [sW_snoc, ih fun x hx => h x (List.mem_append_left _ hx), fig_cps (h a (by simp)), List.map_append]; rfl
/-- a is no later than b -/
def leS (a b : List Nat) : Prop := ¬ sW b < sW a
theorem leS_refl (a : List Nat) : leS a a := lw_irrefl _
theorem leS_trans {a b c : List Nat} (h : leS a b) (k : leS b c) : leS a c := lw_trans h k
theorem leS_app {a b : List Nat} (h : leS a b) (ha : ∀ x ∈ a, x < 3) (hb : ∀ x ∈ b, x < 3) (hl : a.length = b.length) (n : Nat) : leS (a ++ [n]) (b ++ [n]) := by
  unfold leS at h ⊢
  rw [sW_snoc, sW_snoc]
  exact lw_app (by rw [sW_map a ha, sW_map b hb, List.length_map, List.length_map, hl]) h
theorem leS_word {a b : List Nat} (ha : ∀ x ∈ a, x < 3) (hb : ∀ x ∈ b, x < 3) : leS a b ↔ ¬ b < a := by
  unfold leS
  rw [sW_map a ha, sW_map b hb, lw_map]
section
variable {β : Type} [DecidableEq β]
theorem wAt_mem {ws : Ways β} {h : List β} {way : List Nat} (e : wAt ws h = some way) : (h, way) ∈ ws := by
  unfold wAt at e
  cases q : ws.find? fun e => decide (e.1 = h) with
  | none => rw [q] at e; cases e
  | some z =>
    rw [q] at e
    have h1 := of_decide_eq_true (List.find?_some (p := fun e : List β × List Nat => decide (e.1 = h)) q)
    have h2 := List.mem_of_find?_eq_some q
    have e : z.2 = way := by simpa using e
    rw [← h1, ← e]; exact h2
theorem lAt_mem {L : Lay β} {ms : List Nat} {ways : Ways β} (e : lAt L ms = some ways) : (ms, ways) ∈ L := by
  unfold lAt at e
  cases q : L.find? fun e => decide (e.1 = ms) with
  | none => rw [q] at e; cases e
  | some z =>
    rw [q] at e
    have h1 := of_decide_eq_true (List.find?_some (p := fun e : List Nat × Ways β => decide (e.1 = ms)) q)
    have h2 := List.mem_of_find?_eq_some q
    have e : z.2 = ways := by simpa using e
    rw [← h1, ← e]; exact h2
theorem wAt_cons (e : List β × List Nat) (ws : Ways β) (h : List β) : wAt (e :: ws) h = if e.1 = h then some e.2 else wAt ws h := by
  unfold wAt
  rw [List.find?_cons]
  by_cases q : e.1 = h
  · rw [if_pos q, decide_eq_true q]; rfl
  · rw [if_neg q, decide_eq_false q]
theorem wAt_app (ws ws' : Ways β) (h : List β) : wAt (ws ++ ws') h = (wAt ws h).or (wAt ws' h) := by
  induction ws with
  | nil => rfl
  | cons e ws ih =>
    rw [List.cons_append, wAt_cons, wAt_cons, ih]
    split <;> rfl
theorem wAt_map (ws : Ways β) (h0 h : List β) (way : List Nat) : wAt (ws.map fun e => if e.1 = h0 then (e.1, way) else e) h = if h = h0 then (wAt ws h).map fun _ => way else wAt ws h := by
  induction ws with
  | nil => simp [wAt]
  | cons e ws ih =>
    rw [List.map_cons, wAt_cons, wAt_cons, ih]
    by_cases q : e.1 = h0
    · rw [if_pos q]
      by_cases q2 : e.1 = h
      · rw [if_pos q2, if_pos q2, if_pos (q2.symm.trans q)]; rfl
      · rw [if_neg q2, if_neg q2]
    · rw [if_neg q]
      by_cases q2 : e.1 = h
      · rw [if_pos q2, if_pos q2, if_neg (fun z => q (q2.trans z))]
      · rw [if_neg q2, if_neg q2]
theorem putR_at (ws : Ways β) (h0 h : List β) (way : List Nat) : wAt (putR ws h0 way) h = if h = h0 then some way else wAt ws h := by
  unfold putR
  cases q : wAt ws h0 with
  | none =>
    rw [if_neg (by simp), wAt_app, wAt_cons]
    by_cases e : h = h0
    · subst e; rw [q, if_pos rfl, if_pos rfl]; rfl
    · rw [if_neg (Ne.symm e), if_neg e]
      show (wAt ws h).or (wAt [] h) = _
      cases wAt ws h <;> rfl
  | some old =>
    rw [if_pos (by simp), wAt_map]
    by_cases e : h = h0
    · subst e; rw [if_pos rfl, if_pos rfl, q]; rfl
    · rw [if_neg e, if_neg e]
theorem putW_at (ws : Ways β) (h0 h : List β) (way : List Nat) : (∀ old, wAt ws h = some old → ∃ w', wAt (putW ws h0 way) h = some w' ∧ leS w' old) ∧ (h = h0 → ∃ w', wAt (putW ws h0 way) h = some w' ∧ leS w' way) := by
  rcases putW_cases ws h0 way with ⟨e0, c⟩ | ⟨e0, o, c1, c2⟩
  · rw [e0, putR_at]
    constructor
    · intro old ho
      by_cases e : h = h0
      · subst e
        rw [if_pos rfl]
        exact ⟨way, rfl, lw_asymm (of_decide_eq_true (c old ho))⟩
      · rw [if_neg e]; exact ⟨old, ho, leS_refl _⟩
    · intro e; rw [if_pos e]; exact ⟨way, rfl, leS_refl _⟩
  · rw [e0]
    constructor
    · exact fun old ho => ⟨old, ho, leS_refl _⟩
    · intro e
      subst e
      exact ⟨o, c1, of_decide_eq_false c2⟩
theorem addW_at (step : List β → List β) (hand : Nat) (h : List β) : ∀ (ws1 ws2 : Ways β), (∀ old, wAt ws2 h = some old → ∃ w', wAt (addW step hand ws1 ws2) h = some w' ∧ leS w' old) ∧ ∀ e ∈ ws1, step e.1 = h → ∃ w', wAt (addW step hand ws1 ws2) h = some w' ∧ leS w' (e.2 ++ [hand])
  | [], ws2 => ⟨fun old ho => ⟨old, ho, leS_refl _⟩, fun e he => by cases he⟩
  | e :: r, ws2 => by
    obtain ⟨p1, p2⟩ := putW_at ws2 (step e.1) h (e.2 ++ [hand])
    obtain ⟨q1, q2⟩ := addW_at step hand h r (putW ws2 (step e.1) (e.2 ++ [hand]))
    constructor
    · intro old ho
      obtain ⟨w1, a1, a2⟩ := p1 old ho
      obtain ⟨w2, b1, b2⟩ := q1 w1 a1
      exact ⟨w2, b1, leS_trans b2 a2⟩
    · intro e' he hs
      rcases List.mem_cons.mp he with rfl | he
      · obtain ⟨w1, a1, a2⟩ := p2 hs.symm
        obtain ⟨w2, b1, b2⟩ := q1 w1 a1
        exact ⟨w2, b1, leS_trans b2 a2⟩
      · exact q2 e' he hs
theorem putR_mem {ws : Ways β} {h0 : List β} {way : List Nat} {e : List β × List Nat} (he : e ∈ putR ws h0 way) : e ∈ ws ∨ e = (h0, way) := by
  unfold putR at he
  split at he
  · obtain ⟨z, hz, rfl⟩ := List.mem_map.mp he
    by_cases q : z.1 = h0
    · rw [if_pos q]; exact .inr (by rw [q])
    · rw [if_neg q]; exact .inl hz
  · rcases List.mem_append.mp he with h | h
    · exact .inl h
    · exact .inr (List.mem_singleton.mp h)
theorem addW_mem (step : List β → List β) (hand : Nat) {e : List β × List Nat} : ∀ {ws1 ws2 : Ways β}, e ∈ addW step hand ws1 ws2 → e ∈ ws2 ∨ ∃ q ∈ ws1, e = (step q.1, q.2 ++ [hand])
  | [], ws2, h => .inl h
  | q :: r, ws2, h => by
    rcases addW_mem step hand (ws1 := r) (ws2 := putW ws2 (step q.1) (q.2 ++ [hand])) h with h | ⟨z, hz, e1⟩
    · have : e ∈ ws2 ∨ e = (step q.1, q.2 ++ [hand]) := by
        rcases putW_cases ws2 (step q.1) (q.2 ++ [hand]) with ⟨e0, _⟩ | ⟨e0, _⟩
        · rw [e0] at h; exact putR_mem h
        · rw [e0] at h; exact .inl h
      rcases this with h | h
      · exact .inl h
      · exact .inr ⟨q, List.mem_cons_self, h⟩
    · exact .inr ⟨z, List.mem_cons_of_mem _ hz, e1⟩
theorem lAt_cons (e : List Nat × Ways β) (L : Lay β) (ms : List Nat) : lAt (e :: L) ms = if e.1 = ms then some e.2 else lAt L ms := by
  unfold lAt
  rw [List.find?_cons]
  by_cases q : e.1 = ms
  · rw [if_pos q, decide_eq_true q]; rfl
  · rw [if_neg q, decide_eq_false q]
theorem updL_at (L : Lay β) (later ms : List Nat) (f : Ways β → Ways β) : lAt (updL L later f) ms = if ms = later then (lAt L ms).map f else lAt L ms := by
  unfold updL
  induction L with
  | nil => simp [lAt]
  | cons e L ih =>
    rw [List.map_cons, lAt_cons, lAt_cons, ih]
    by_cases q : e.1 = later
    · rw [if_pos q]
      by_cases q2 : e.1 = ms
      · rw [if_pos q2, if_pos q2, if_pos (q2.symm.trans q)]; rfl
      · rw [if_neg q2, if_neg q2]
    · rw [if_neg q]
      by_cases q2 : e.1 = ms
      · rw [if_pos q2, if_pos q2, if_neg (fun z => q (q2.trans z))]
      · rw [if_neg q2, if_neg q2]
theorem defL_keep (L : Lay β) (later ms : List Nat) {ways : Ways β} (h : lAt L ms = some ways) : lAt (defL L later) ms = some ways := by
  unfold defL
  split
  · exact h
  · unfold lAt at h ⊢
    rw [List.find?_append]
    cases q : L.find? fun e => decide (e.1 = ms) with
    | none => rw [q] at h; cases h
    | some z => rw [q] at h; exact h
/-- a weaving with what is held is covered -/
def Cov (L : Lay β) (ms : List Nat) (h : List β) (way : List Nat) : Prop := ∃ ways, lAt L ms = some ways ∧ ∃ w', wAt ways h = some w' ∧ leS w' way
theorem Cov.mono {L : Lay β} {ms : List Nat} {h : List β} {a b : List Nat} (c : Cov L ms h a) (k : leS a b) : Cov L ms h b := let ⟨ways, e, w', e2, q⟩ := c; ⟨ways, e, w', e2, leS_trans q k⟩
end
end WL
end
section
set_option Elab.async false
set_option linter.all false
set_option maxRecDepth 100000
namespace WL
open PySem PySem.Spec PyProof.Rows L2
def cnts (hands : List (List Ln)) (ws : List Nat) : List Nat := (List.range hands.length).map fun h => ws.count h
def totLen (hands : List (List Ln)) : Nat := (hands.map List.length).sum
structure Val (hands : List (List Ln)) (ws : List Nat) (k : Nat) (ms : List Nat) : Prop where
  v : ValidW hands ws
  l : ws.length = k
  m : ms = cnts hands ws
theorem cnts_at {hands : List (List Ln)} {ws : List Nat} {h : Nat} (hh : h < hands.length) : msAt (cnts hands ws) h = ws.count h := by
  unfold msAt cnts; rw [List.getElem?_map, List.getElem?_range hh]; rfl
theorem cnts_snoc {hands : List (List Ln)} {ws : List Nat} {h : Nat} (hh : h < hands.length) : cnts hands (ws ++ [h]) = (cnts hands ws).set h (ws.count h + 1) := by
  apply List.ext_getElem?
  intro j
  by_cases hj : h = j
  · subst hj
    rw [List.getElem?_set_self (by unfold cnts; rw [List.length_map, List.length_range]; exact hh)]
    unfold cnts
    rw [List.getElem?_map, List.getElem?_range hh]
    show some ((ws ++ [h]).count h) = _
    rw [List.count_append, List.count_singleton_self]
  · rw [List.getElem?_set_ne hj]
    unfold cnts
    rw [List.getElem?_map, List.getElem?_map]
    have hc : (ws ++ [h]).count j = ws.count j := by rw [List.count_append, List.count_singleton]; simp [hj]
    cases e : (List.range hands.length)[j]? with
    | none => rfl
    | some z =>
      obtain ⟨hlt, he⟩ := List.getElem?_eq_some_iff.mp e
      rw [List.getElem_range] at he
      subst he
      show some ((ws ++ [h]).count j) = some (ws.count j)
      rw [hc]
theorem rowLen_at {hands : List (List Ln)} {h : Nat} {r : List Ln} (e : hands[h]? = some r) : rowLen hands h = r.length := by unfold rowLen; rw [e]; rfl
theorem val_snoc {hands : List (List Ln)} {ws : List Nat} {h : Nat} (hv : ValidW hands ws) (hh : h < hands.length) (hc : ws.count h < rowLen hands h) : ValidW hands (ws ++ [h]) :=
  ⟨fun x hx => by
    rcases List.mem_append.mp hx with q | q
    · exact hv.lt x q
    · rw [List.mem_singleton.mp q]; exact hh, fun x r hr => by
    have := hv.le x r hr
    rw [List.count_append, List.count_singleton]
    by_cases e : h = x
    · subst e; rw [rowLen_at hr] at hc; simp; omega
    · simp [e]; exact this⟩
theorem val_last {hands : List (List Ln)} {ws : List Nat} {h : Nat} (hv : ValidW hands (ws ++ [h])) : h < hands.length ∧ ws.count h < rowLen hands h := by
  have h1 := hv.lt h (by simp)
  have e : hands[h]? = some hands[h] := List.getElem?_eq_getElem h1
  have h2 := hv.le h _ e
  rw [List.count_append, List.count_singleton_self] at h2
  exact ⟨h1, by rw [rowLen_at e]; omega⟩
theorem step_in {hands : List (List Ln)} {ws : List Nat} {h : Nat} (hh : h < hands.length) (hc : ws.count h < rowLen hands h) : (h, lineAt hands h (ws.count h), cnts hands (ws ++ [h])) ∈ stepsTo hands (cnts hands ws) hands.length := by
  unfold stepsTo
  refine List.mem_map.mpr ⟨h, List.mem_filter.mpr ⟨List.mem_range.mpr hh, ?_⟩, ?_⟩
  · unfold canStep; rw [cnts_at hh]; exact decide_eq_true hc
  · unfold stepAt; rw [cnts_at hh, cnts_snoc hh]
theorem step_of {hands : List (List Ln)} {ws : List Nat} {st : Stp} (h : st ∈ stepsTo hands (cnts hands ws) hands.length) : st.1 < hands.length ∧ ws.count st.1 < rowLen hands st.1 ∧ st.2.1 = lineAt hands st.1 (ws.count st.1) ∧ st.2.2 = cnts hands (ws ++ [st.1]) := by
  unfold stepsTo at h
  obtain ⟨k, hk, rfl⟩ := List.mem_map.mp h
  obtain ⟨h1, h2⟩ := List.mem_filter.mp hk
  have hkl := List.mem_range.mp h1
  unfold canStep at h2
  rw [cnts_at hkl] at h2
  refine ⟨hkl, of_decide_eq_true h2, ?_, ?_⟩
  · show lineAt hands k (msAt (cnts hands ws) k) = _; rw [cnts_at hkl]; rfl
  · show (cnts hands ws).set k (msAt (cnts hands ws) k + 1) = _
    rw [cnts_at hkl]; exact (cnts_snoc hkl).symm
theorem sum_count {hands : List (List Ln)} : ∀ ws : List Nat, (∀ x ∈ ws, x < hands.length) → ((List.range hands.length).map fun h => ws.count h).sum = ws.length := by
  intro ws
  have gen : ∀ (n : Nat) (ws : List Nat), (∀ x ∈ ws, x < n) → ((List.range n).map fun h => ws.count h).sum = ws.length := by
    intro n ws
    induction ws with
    | nil =>
      intro _
      have : ∀ l : List Nat, (l.map fun h => ([] : List Nat).count h).sum = 0 := fun l => by
        induction l with
        | nil => rfl
        | cons a l ih => rw [List.map_cons, List.sum_cons, ih]; rfl
      exact this _
    | cons a ws ih =>
      intro h
      have ih := ih fun x hx => h x (List.mem_cons_of_mem _ hx)
      have ha := h a List.mem_cons_self
      rw [List.length_cons, ← ih]
      have : ∀ m, a < m → ((List.range m).map fun h => (a :: ws).count h).sum = ((List.range m).map fun h => ws.count h).sum + 1 := fun m => by
        have low : ∀ m, m ≤ a → ((List.range m).map fun h => (a :: ws).count h).sum = ((List.range m).map fun h => ws.count h).sum := fun m => by
          induction m with
          | zero => intro _; rfl
          | succ m ihm =>
            intro hm
            rw [List.range_succ, List.map_append, List.map_append, List.sum_append, List.sum_append, ihm (by omega)]
            have : (a :: ws).count m = ws.count m := List.count_cons_of_ne (by omega)
            simp [this]
        induction m with
        | zero => intro hm; omega
        | succ m ihm =>
          intro hm
          rw [List.range_succ, List.map_append, List.map_append, List.sum_append, List.sum_append]
          by_cases e : a = m
          · subst e
            rw [low a (Nat.le_refl _)]
            simp
            omega
          · rw [ihm (by omega)]
            have : (a :: ws).count m = ws.count m := List.count_cons_of_ne (by omega)
            simp [this]; omega
      exact this n ha
  exact gen hands.length ws
theorem sum_rows (hands : List (List Ln)) : ((List.range hands.length).map fun h => rowLen hands h).sum = totLen hands := by
  unfold totLen
  congr 1
  apply List.ext_getElem?
  intro j
  rw [List.getElem?_map, List.getElem?_map]
  by_cases hj : j < hands.length
  · rw [List.getElem?_range hj, List.getElem?_eq_getElem hj]
    show some (rowLen hands j) = some _
    rw [rowLen_at (List.getElem?_eq_getElem hj)]
  · rw [List.getElem?_eq_none (by rw [List.length_range]; omega), List.getElem?_eq_none (by omega)]; rfl
theorem sum_le' : ∀ {l : List Nat} {f g : Nat → Nat}, (∀ x ∈ l, f x ≤ g x) → (l.map f).sum ≤ (l.map g).sum
  | [], _, _, _ => Nat.le_refl _
  | a :: l, f, g, h => by
    have := sum_le' (l := l) fun x hx => h x (List.mem_cons_of_mem _ hx)
    have := h a List.mem_cons_self
    rw [List.map_cons, List.map_cons, List.sum_cons, List.sum_cons]; omega
theorem val_len {hands : List (List Ln)} {ws : List Nat} (hv : ValidW hands ws) : ws.length ≤ totLen hands := by
  rw [← sum_count ws hv.lt, ← sum_rows]
  exact sum_le' fun x hx => by
    have hx := List.mem_range.mp hx
    have e : hands[x]? = some hands[x] := List.getElem?_eq_getElem hx
    rw [rowLen_at e]; exact hv.le x _ e
theorem val_more {hands : List (List Ln)} {ws : List Nat} (hv : ValidW hands ws) (hl : ws.length < totLen hands) : ∃ h, h < hands.length ∧ ws.count h < rowLen hands h := by
  refine Classical.byContradiction fun hn => ?_
  have : totLen hands ≤ ws.length := by
    rw [← sum_count ws hv.lt, ← sum_rows]
    exact sum_le' fun x hx => by
      have hx := List.mem_range.mp hx
      refine Classical.byContradiction fun z => hn ⟨x, hx, by omega⟩
  omega
theorem val_exists (hands : List (List Ln)) : ∀ k, k ≤ totLen hands → ∃ ws, ValidW hands ws ∧ ws.length = k
  | 0, _ => ⟨[], ⟨(fun x hx => by cases hx), fun h r _ => Nat.zero_le _⟩, rfl⟩
  | k + 1, h => by
    obtain ⟨ws, hv, hl⟩ := val_exists hands k (by omega)
    obtain ⟨x, hx, hc⟩ := val_more hv (by omega)
    exact ⟨ws ++ [x], val_snoc hv hx hc, by rw [List.length_append, hl]; rfl⟩
section
variable {P : Program} {w : World} {K : PySem.W.Frag} {mg : Str → Option Value} {base : Heap}
namespace BookI
variable (B : BookI P w K mg base)
def lay (n : Nat) (hands : List (List Ln)) : Nat → Lay B.β
  | 0 => [(List.replicate hands.length 0, [((List.range n).map B.atomB, [])])]
  | k + 1 => B.nextL hands (lay n hands k)
end BookI
/-- a layer holds what weavings of length k give, and each of them -/
structure Sound (B : BookI P w K mg base) (n : Nat) (hands : List (List Ln)) (k : Nat) (L : Lay B.β) : Prop where
  ms : ∀ e ∈ L, ∃ ws, Val hands ws k e.1
  st : ∀ e ∈ L, ∀ q ∈ e.2, Val hands q.2 k e.1 ∧ q.1 = B.wovenB n hands q.2
theorem BookI.fold_sound (B : BookI P w K mg base) {n : Nat} {hands : List (List Ln)} {k : Nat} {m : List Nat × Ways B.β} (h1 : ∃ ws, Val hands ws k m.1) (h2 : ∀ q ∈ m.2, Val hands q.2 k m.1 ∧ q.1 = B.wovenB n hands q.2) :
    ∀ (steps : List Stp) (acc : Lay B.β), (∀ s ∈ steps, s ∈ stepsTo hands m.1 hands.length) → Sound B n hands (k + 1) acc → Sound B n hands (k + 1) (B.foldS m.2 steps acc)
  | [], acc, _, h => h
  | st :: steps, acc, hs, h => by
    letI := B.dec
    refine B.fold_sound h1 h2 steps _ (fun s hx => hs s (List.mem_cons_of_mem _ hx)) ?_
    have hst := hs st List.mem_cons_self
    obtain ⟨ws0, v0, l0, m0⟩ := h1
    have so := hst
    rw [m0] at so
    obtain ⟨s1, s2, s3, s4⟩ := step_of so
    have hnew : Val hands (ws0 ++ [st.1]) (k + 1) st.2.2 := ⟨val_snoc v0 s1 s2, by rw [List.length_append, l0]; rfl, s4⟩
    have hdef : ∀ e ∈ defL acc st.2.2, (∃ ws, Val hands ws (k + 1) e.1) ∧ ∀ q ∈ e.2, Val hands q.2 (k + 1) e.1 ∧ q.1 = B.wovenB n hands q.2 := fun e he => by
      unfold defL at he
      split at he
      · exact ⟨h.ms e he, h.st e he⟩
      · rcases List.mem_append.mp he with he | he
        · exact ⟨h.ms e he, h.st e he⟩
        · rw [List.mem_singleton.mp he]; exact ⟨⟨_, hnew⟩, fun q hq => by cases hq⟩
    have hupd : ∀ e ∈ updL (defL acc st.2.2) st.2.2 (B.addB st.2.1 st.1 m.2), (∃ ws, Val hands ws (k + 1) e.1) ∧ ∀ q ∈ e.2, Val hands q.2 (k + 1) e.1 ∧ q.1 = B.wovenB n hands q.2 := fun e he => by
      unfold updL at he
      obtain ⟨e0, he0, rfl⟩ := List.mem_map.mp he
      obtain ⟨a1, a2⟩ := hdef e0 he0
      by_cases hk : e0.1 = st.2.2
      · rw [if_pos hk]
        refine ⟨a1, fun q hq => ?_⟩
        rcases addW_mem (fun h => B.stepB h st.2.1) st.1 hq with hq | ⟨z, hz, rfl⟩
        · exact a2 q hq
        · obtain ⟨⟨zv, zl, zm⟩, ze⟩ := h2 z hz
          have so := hst
          rw [zm] at so
          obtain ⟨t1, t2, t3, t4⟩ := step_of so
          refine ⟨⟨val_snoc zv t1 t2, by rw [List.length_append, zl]; rfl, by rw [hk, t4]⟩, ?_⟩
          show B.stepB z.1 st.2.1 = B.wovenB n hands (z.2 ++ [st.1])
          rw [B.wovenB_snoc, ze, t3]
      · rw [if_neg hk]; exact ⟨a1, a2⟩
    exact ⟨fun e he => (hupd e he).1, fun e he => (hupd e he).2⟩
theorem BookI.next_sound (B : BookI P w K mg base) {n : Nat} {hands : List (List Ln)} {k : Nat} : ∀ (L acc : Lay B.β), Sound B n hands k L → Sound B n hands (k + 1) acc → Sound B n hands (k + 1) (L.foldl (fun acc e => B.foldS e.2 (stepsTo hands e.1 hands.length) acc) acc)
  | [], acc, _, h => h
  | e :: L, acc, hL, h => B.next_sound L _ ⟨fun x hx => hL.ms x (List.mem_cons_of_mem _ hx), fun x hx => hL.st x (List.mem_cons_of_mem _ hx)⟩ (B.fold_sound (hL.ms e List.mem_cons_self) (hL.st e List.mem_cons_self) _ _ (fun s hs => hs) h)
theorem BookI.lay_sound (B : BookI P w K mg base) (n : Nat) (hands : List (List Ln)) : ∀ k, Sound B n hands k (B.lay n hands k)
  | 0 => by
    have hv : Val hands [] 0 (List.replicate hands.length 0) := ⟨⟨(fun x hx => by cases hx), fun h r _ => Nat.zero_le _⟩, rfl, by
      unfold cnts
      rw [show ((List.range hands.length).map fun h => ([] : List Nat).count h) = (List.range hands.length).map fun _ => 0 from rfl, List.map_const', List.length_range]⟩
    refine ⟨fun e he => ?_, fun e he q hq => ?_⟩
    · rw [List.mem_singleton.mp he]; exact ⟨[], hv⟩
    · rw [List.mem_singleton.mp he] at hq ⊢
      rw [List.mem_singleton.mp hq]
      exact ⟨hv, rfl⟩
  | k + 1 => B.next_sound _ [] (B.lay_sound n hands k) ⟨fun e he => (by cases he), fun e he => (by cases he)⟩
theorem BookI.step_cov (B : BookI P w K mg base) (acc : Lay B.β) (m2 : Ways B.β) (st : Stp) : letI := B.dec
    (∀ ms h way, Cov acc ms h way → Cov (stepL (B.addB st.2.1 st.1 m2) st.2.2 acc) ms h way) ∧ ∀ e ∈ m2, Cov (stepL (B.addB st.2.1 st.1 m2) st.2.2 acc) st.2.2 (B.stepB e.1 st.2.1) (e.2 ++ [st.1]) := by
  letI := B.dec
  constructor
  · rintro ms h way ⟨ways, e1, w', e2, q⟩
    have e3 := defL_keep acc st.2.2 ms e1
    unfold stepL Cov
    rw [updL_at, e3]
    by_cases hk : ms = st.2.2
    · rw [if_pos hk]
      obtain ⟨w2, a1, a2⟩ := (addW_at (fun h => B.stepB h st.2.1) st.1 h m2 ways).1 w' e2
      exact ⟨_, rfl, w2, a1, leS_trans a2 q⟩
    · rw [if_neg hk]; exact ⟨ways, rfl, w', e2, q⟩
  · intro e he
    obtain ⟨w0, e0⟩ := defL_at acc st.2.2
    unfold stepL Cov
    rw [updL_at, e0, if_pos rfl]
    obtain ⟨w2, a1, a2⟩ := (addW_at (fun h => B.stepB h st.2.1) st.1 (B.stepB e.1 st.2.1) m2 w0).2 e he rfl
    exact ⟨_, rfl, w2, a1, a2⟩
theorem BookI.fold_cov (B : BookI P w K mg base) (m2 : Ways B.β) : letI := B.dec; ∀ (steps : List Stp) (acc : Lay B.β), (∀ ms h way, Cov acc ms h way → Cov (B.foldS m2 steps acc) ms h way) ∧ ∀ st ∈ steps, ∀ e ∈ m2, Cov (B.foldS m2 steps acc) st.2.2 (B.stepB e.1 st.2.1) (e.2 ++ [st.1]) := by
  letI := B.dec
  intro steps
  induction steps with
  | nil => exact fun acc => ⟨fun _ _ _ h => h, fun st hs => by cases hs⟩
  | cons st steps ih =>
    intro acc
    obtain ⟨a1, a2⟩ := B.step_cov acc m2 st
    obtain ⟨b1, b2⟩ := ih (stepL (B.addB st.2.1 st.1 m2) st.2.2 acc)
    refine ⟨fun ms h way c => b1 _ _ _ (a1 _ _ _ c), fun s hs e he => ?_⟩
    rcases List.mem_cons.mp hs with rfl | hs
    · exact b1 _ _ _ (a2 e he)
    · exact b2 s hs e he
theorem BookI.next_cov (B : BookI P w K mg base) (hands : List (List Ln)) : letI := B.dec; ∀ (L acc : Lay B.β), (∀ ms h way, Cov acc ms h way → Cov (L.foldl (fun acc e => B.foldS e.2 (stepsTo hands e.1 hands.length) acc) acc) ms h way) ∧
    ∀ m ∈ L, ∀ st ∈ stepsTo hands m.1 hands.length, ∀ e ∈ m.2, Cov (L.foldl (fun acc e => B.foldS e.2 (stepsTo hands e.1 hands.length) acc) acc) st.2.2 (B.stepB e.1 st.2.1) (e.2 ++ [st.1]) := by
  letI := B.dec
  intro L
  induction L with
  | nil => exact fun acc => ⟨fun _ _ _ h => h, fun m hm => by cases hm⟩
  | cons m L ih =>
    intro acc
    obtain ⟨a1, a2⟩ := B.fold_cov m.2 (stepsTo hands m.1 hands.length) acc
    obtain ⟨b1, b2⟩ := ih (B.foldS m.2 (stepsTo hands m.1 hands.length) acc)
    refine ⟨fun ms h way c => b1 _ _ _ (a1 _ _ _ c), fun m' hm st hs e he => ?_⟩
    rcases List.mem_cons.mp hm with rfl | hm
    · exact b1 _ _ _ (a2 st hs e he)
    · exact b2 m' hm st hs e he
theorem BookI.lay_cov (B : BookI P w K mg base) (n : Nat) (hands : List (List Ln)) (h3 : hands.length ≤ 3) : letI := B.dec; ∀ (k : Nat) (ws : List Nat), ValidW hands ws → ws.length = k → Cov (B.lay n hands k) (cnts hands ws) (B.wovenB n hands ws) ws := by
  letI := B.dec
  intro k
  induction k with
  | zero =>
    intro ws hv hl
    have e : ws = [] := List.eq_nil_of_length_eq_zero hl
    subst e
    have hc : cnts hands [] = List.replicate hands.length 0 := by
      unfold cnts
      rw [show ((List.range hands.length).map fun h => ([] : List Nat).count h) = (List.range hands.length).map fun _ => 0 from rfl, List.map_const', List.length_range]
    refine ⟨[((List.range n).map B.atomB, [])], ?_, [], ?_, leS_refl _⟩
    · show lAt [(List.replicate hands.length 0, _)] _ = _
      rw [lAt_cons, if_pos hc.symm]
    · rw [wAt_cons, if_pos (B.wovenB_nil n hands).symm]
  | succ k ih =>
    intro ws hv hl
    obtain ⟨us, h, rfl⟩ : ∃ us h, ws = us ++ [h] := by
      have hne : ws ≠ [] := fun z => by rw [z] at hl; simp at hl
      exact ⟨ws.dropLast, ws.getLast hne, (List.dropLast_concat_getLast hne).symm⟩
    have hvu : ValidW hands us := valid_pre hv
    obtain ⟨hh, hc⟩ := val_last hv
    have hlu : us.length = k := by rw [List.length_append] at hl; simpa using hl
    obtain ⟨ways, e1, w', e2, q⟩ := ih us hvu hlu
    have hmem := lAt_mem e1
    have hmem2 := wAt_mem e2
    have := (B.next_cov hands (B.lay n hands k) []).2 _ hmem _ (step_in hh hc) _ hmem2
    have hs := (B.lay_sound n hands k).st _ hmem _ hmem2
    have hw : B.stepB (B.wovenB n hands us) (lineAt hands h (us.count h)) = B.wovenB n hands (us ++ [h]) := (B.wovenB_snoc n hands us h).symm
    rw [show ((h, lineAt hands h (us.count h), cnts hands (us ++ [h])) : Stp).2.1 = lineAt hands h (us.count h) from rfl, hw] at this
    refine this.mono (leS_app q (fun x hx => ?_) (fun x hx => ?_) ?_ h)
    · have := hs.1.v.lt x hx; omega
    · have := hvu.lt x hx; omega
    · rw [hs.1.l, hlu]
theorem BookI.lay_size (B : BookI P w K mg base) (n : Nat) (hands : List (List Ln)) (h3 : hands.length ≤ 3) : letI := B.dec; ∀ k, ((B.lay n hands k).map (·.1)).Nodup ∧ tot (B.lay n hands k) ≤ 3 ^ k ∧ (B.lay n hands k).length ≤ 3 ^ k := by
  letI := B.dec
  intro k
  induction k with
  | zero => exact ⟨by simp [BookI.lay], by simp [BookI.lay, tot], by simp [BookI.lay]⟩
  | succ k ih =>
    obtain ⟨a1, a2, a3⟩ := ih
    obtain ⟨b1, b2, b3⟩ := B.next_ok h3 (B.lay n hands k) [] (by simp)
    refine ⟨b1, ?_, ?_⟩
    · have : tot (B.nextL hands (B.lay n hands k)) ≤ 0 + 3 * tot (B.lay n hands k) := b2
      show tot (B.nextL hands (B.lay n hands k)) ≤ _
      rw [Nat.pow_succ]; omega
    · have : (B.nextL hands (B.lay n hands k)).length ≤ 0 + 3 * (B.lay n hands k).length := b3
      show (B.nextL hands (B.lay n hands k)).length ≤ _
      rw [Nat.pow_succ]; omega
theorem wayS_len : ∀ a : List Nat, (∀ x ∈ a, x < 3) → (wayS a).length ≤ 10 * a.length :=
  list_ind (fun _ => by decide +kernel) fun l a ih h => by
    have h1 := ih fun x hx => h x (List.mem_append_left _ hx)
    have h2 := figS_len (h a (by simp))
    rw [wayS_snoc, List.length_append]
    have : (wayS l ++ figS a).length = (wayS l).length + (figS a).length := by
      show (((wayS l).cps ++ (figS a).cps)).size = (wayS l).cps.size + (figS a).cps.size
      rw [Array.size_append]
    rw [this]
    show _ ≤ 10 * (l.length + 1)
    omega
theorem BookI.lay_ok (B : BookI P w K mg base) (n : Nat) {hands : List (List Ln)} (h3 : hands.length ≤ 3) (ht : totLen hands ≤ 50) (hok : ∀ ws, ValidW hands ws → B.okW n hands ws) (k : Nat) : LayOk B n hands (B.lay n hands k) := by
  have hs := B.lay_sound n hands k
  refine ⟨fun e he => ?_, fun e he q hq => ?_⟩
  · obtain ⟨ws, _, _, hm⟩ := hs.ms e he
    rw [hm]; unfold cnts; rw [List.length_map, List.length_range]
  · obtain ⟨⟨hv, hl, hm⟩, hw⟩ := hs.st e he q hq
    have hlen := val_len hv
    refine ⟨by rw [hw]; exact B.wovenB_len n hands q.2, ?_, fun s hsm => ?_⟩
    · have := wayS_len q.2 fun x hx => by have := hv.lt x hx; omega
      omega
    · rw [hm] at hsm
      obtain ⟨t1, t2, t3, t4⟩ := step_of hsm
      rw [hw, t3]
      exact hok (q.2 ++ [s.1]) (val_snoc hv t1 t2) q.2 s.1 [] rfl
theorem BookI.lay_end (B : BookI P w K mg base) (n : Nat) {hands : List (List Ln)} (h3 : hands.length ≤ 3) : (B.lay n hands (totLen hands + 1)) = [] ∧ ∀ k, k ≤ totLen hands → B.lay n hands k ≠ [] := by
  letI := B.dec
  constructor
  · cases e : B.lay n hands (totLen hands + 1) with
    | nil => rfl
    | cons m L =>
      obtain ⟨ws, hv, hl, _⟩ := (B.lay_sound n hands (totLen hands + 1)).ms m (by rw [e]; exact List.mem_cons_self)
      have := val_len hv
      omega
  · intro k hk e
    obtain ⟨ws, hv, hl⟩ := val_exists hands k hk
    obtain ⟨ways, e1, _⟩ := B.lay_cov n hands h3 k ws hv hl
    rw [e] at e1; cases e1
end
end WL
end
section
set_option Elab.async false
set_option linter.all false
set_option maxRecDepth 100000
namespace WL
open PySem PySem.Spec PyProof.Rows L2
theorem hu8 {A : Around} {k : Nat} (hr : Room k A) : A.units + 8 < cLine := Nat.lt_of_le_of_lt (Nat.add_le_add_left (by decide : 8 ≤ 64) _) hr.units
abbrev st_layers : Stmt := topS 35
def whTest : Stmt → Expr | .While t _ _ _ => t | _ => .Name "" ⟨0, 0, 0, 0⟩
def whBody : Stmt → List Stmt | .While _ b _ _ => b | _ => []
def yExpr : Stmt → Expr | .Expr (.Yield (some e) _) _ => e | _ => .Name "" ⟨0, 0, 0, 0⟩
abbrev layPre : Stmt := (defBody st_layers).getD 0 (.Pass ⟨0, 0, 0, 0⟩)
abbrev layW : Stmt := (defBody st_layers).getD 1 (.Pass ⟨0, 0, 0, 0⟩)
abbrev layTest : Expr := whTest layW
abbrev layE : Expr := yExpr ((whBody layW).getD 0 (.Pass ⟨0, 0, 0, 0⟩))
abbrev layRest : List Stmt := (whBody layW).tail
theorem gn_layers : GNm ["book", "hands", "layer"] ["book", "hands"] (defScope st_layers) := ⟨rfl, rfl, rfl, by decide +kernel, rfl, by decide +kernel, by decide +kernel, fun n => rfl⟩
structure GTop (K : PySem.W.Frag) (mg : Str → Option Value) extends Top K mg where
  layers : DefAt K mg "layers" st_layers ["book", "hands"]
def tLayPre (K : PySem.W.Frag) (w : World) : TS := tAsg (tDkOne K w (tOp (rRepN K) (tTupN (tCons (tC (.int 0)) tNil)) (tCB (rLenQ K) (tCons (tVar 1) tNil))) (tDkOne K w (tFld K (tVar 0) "atoms") (tC (.str "")))) (gName 2)
def tLayTest (K : PySem.W.Frag) (w : World) : TT := fun σ H Q => tVar 2 σ H fun x H' => rDkTru K w x H' Q
section
variable {P : Program} {w : World} {K : PySem.W.Frag} {mg : Str → Option Value} {base : Heap}
def tLayRest (BI : BookI P w K mg base) : TS := tAsg (tCall (spL K (rel_next BI)) [] E0 (tCons (tVar 0) (tCons (tVar 1) (tCons (tVar 2) tNil)))) (gName 2)
section
variable {f : Addr} {cd : Value} {A : Around} {outer : List Env} {L : Addr} {s : Shared} {H : Hp} {pn : List (Addr × Obj)}
theorem lay_pre (T : GTop K mg) (hr : Room 4 (A.deeper (envOfC "layers" (defScope st_layers) L f cd))) : PS (gX P w K mg base ["book", "hands", "layer"] "layers" (defScope st_layers) f cd A outer L s H pn) layPre (tLayPre K w) :=
  ps_set (i := 2) gn_layers.nd rfl (by first | exact Or.inl rfl | exact Or.inr rfl) (pe_dkOne (hu8 hr) (pe_op (r := rRepN K) op_repN (pe_tupN (pa_cons pe_int pa_nil)) (pe_callB (r := rLenQ K) call_len_seq (by rfl) T.n_len PySem.boot_len (pa_cons (pv 1) pa_nil))) (pe_dkOne (hu8 hr) (pe_fldN K (pv 0) rfl) pe_str))
theorem lay_test (hr : Room 4 (A.deeper (envOfC "layers" (defScope st_layers) L f cd))) : PT (gX P w K mg base ["book", "hands", "layer"] "layers" (defScope st_layers) f cd A outer L s H pn) layTest (tLayTest K w) :=
  pt_truthR (pv 2) tru_dk (fun _ => rfl)
theorem lay_e : PE (gX P w K mg base ["book", "hands", "layer"] "layers" (defScope st_layers) f cd A outer L s H pn) layE (tVar 2) := pv 2
theorem lay_rest (T : GTop K mg) (BI : BookI P w K mg base) (hr : Room 4 (A.deeper (envOfC "layers" (defScope st_layers) L f cd))) : PSs (gX P w K mg base ["book", "hands", "layer"] "layers" (defScope st_layers) f cd A outer L s H pn) layRest (tLayRest BI) :=
  pss_one (ps_set (i := 2) gn_layers.nd rfl (by first | exact Or.inl rfl | exact Or.inr rfl) (pe_call (ok_next_layer T.toTop BI) hr rfl T.next_layer.m T.next_layer.F.kp T.next_layer.b .nil pass0 (pa_cons (pv 0) (pa_cons (pv 1) (pa_cons (pv 2) pa_nil)))))
end
/-- for x in layers(book, hands): body -/
theorem ps_layers (T : GTop K mg) (BI : BookI P w K mg base) {X : Cx} (hP : X.prog = P) (hw : X.w = w) (hK : X.K = K) (hmg : X.mg = mg) (hB : X.base = base) {tg : Expr} {a0 a1 : Expr} {p cpos fpos : Pos} {body : List Stmt} {i0 i1 : Nat} {tb : TS} {gt : TG}
    (hx : ∀ e s, ¬ X.xe e s) (hp : PassesOwn (model X.prog X.w) X.A X.env X.xe) (hr : Room 6 X.A) (hg : Gl X "layers") (hpa : PA X [a0, a1] (tCons (tVar i0) (tCons (tVar i1) tNil))) (htg : PG X tg gt) (hbd : PSs X body tb)
    (hse : starEach [a0, a1] X.env = (false, eval a0 X.env) :: starEach [a1] X.env := by rfl) (hpl : (backTo cpos (starEach [a1] X.env)).any (·.1) = false := by rfl)
    (hs : ∀ y, foldedSetIterable (.Call (.Name "layers" p) [a0, a1] [] cpos) X.env y = pure y := by intro _; rfl) :
    PS X (.For tg (.Call (.Name "layers" p) [a0, a1] [] cpos) body [] fpos) (tForG ["book", "hands", "layer"] (tCons (tVar i0) (tCons (tVar i1) tNil)) (tLayPre K w) (tLayTest K w) (tVar 2) (tLayRest BI) gt tb) := by
  subst hP; subst hw; subst hK; subst hmg; subst hB
  have r4 : ∀ cd L, Room 4 (X.A.in1.deeper (envOfC "layers" (defScope st_layers) L T.layers.f cd)) := fun cd L => hr.in1.deeper _
  exact ps_forG T.layers.F gn_layers (pre := layPre) (test := layTest) (e := layE) (rest := layRest) rfl T.layers.b hx hp (hr.mono (by omega)) hg T.layers.m hpa htg hbd (fun cd L s H pn => lay_pre T (r4 cd L)) (fun cd L s H pn => lay_test (r4 cd L)) (fun cd L s H pn => lay_e) (fun cd L s H pn => lay_rest T BI (r4 cd L))
    (hse := hse) (hpl := hpl) (hs := hs) (hvl := fun Q σ H ⟨v, e, u, e2, q⟩ => ⟨v, e, u, e2, rfl, q⟩)
/-- layer = next_layer(book, hands, layer) -/
theorem ds_nextL (BI : BookI P w K mg base) {H0 : Hp} {A0 M0 : List Addr} {x : BI.α} {fs : List Nat} {hands : List (List Ln)} {p : Addr} {ents : List LyE} {L : Lay BI.β} {N B C : List WSlot → Prop} {R : PyData → List WSlot → Prop} (hm : MachOk (BI.wd x) fs) (hh : ∀ r ∈ hands, LinesOk (BI.wd x) fs r) (h3 : hands.length ≤ 3) (hL : LayOk BI (BI.wd x) hands L) (he : EntsL (BI.has x) ents L) (hs : BI.size x + 3 * tot L < 900000) (hz : 3 * L.length < 900000)
    (hn : ∀ y p' ents', BI.le x y → BI.size y ≤ BI.size x + 3 * tot L → EntsL (BI.has y) ents' (BI.nextL hands L) → N [.box (BI.bx y), .dat (encH hands), .box (lyB K w p' ents')]) :
    DS ⟨K, H0, A0, M0⟩ (tLayRest BI) [.box (BI.bx x), .dat (encH hands), .box (lyB K w p ents)] N R B C := fun A H σ D s E => by
  obtain ⟨r0, f0, b0⟩ := s.sd.box 0 _ rfl
  obtain ⟨v1, r1, t1⟩ := s.sd.dat 1 _ rfl
  obtain ⟨r2, f2, b2⟩ := s.sd.box 2 _ rfl
  have hσ : σ = [(BI.bx x).root, v1, .ref p].map some := by
    have hl := s.sd.len
    match σ, hl, r0, r1, r2 with
    | [a, b, c], _, r0, r1, r2 =>
      simp at r0 r1 r2
      rw [r0, r1, r2]; rfl
  refine ⟨_, r0, _, r1, _, r2, A, [.box (BI.bx x), .dat (encH hands), .box (lyB K w p ents)], _, by rw [List.append_nil]; show SD K A H ([(BI.bx x).root, v1, V.ref p].map some) _; rw [← hσ]; exact s.sd, .mk x fs hands p ents L hm hh h3 hL he hs hz, fun b δ1 A' H' pb S hnew sd1 hA' hb => ?_⟩
  obtain ⟨y, p', ents', y1, y2, y3, rfl, rfl⟩ := pb
  rw [List.append_nil] at sd1
  have sd1 : SD K A' H' ([(BI.bx x).root, v1, V.ref p].map some) [.box (BI.bx y), .no, .box (lyB K w p ents)] := sd1
  obtain ⟨sr, sf, _⟩ := BI.same y1
  have hM : ∀ a ∈ ftAll [.box (BI.bx x), .dat (encH hands), .box (lyB K w p ents)], a ∈ A := fun a ha => by
    obtain ⟨i, w', hi, ha⟩ := ftAll_mem.mp ha
    exact s.sd.inA hi a ha
  have hx : Ex (hid A H) (hid A' H') := S.ex hM
  obtain ⟨_, _, y0⟩ := sd1.box 0 _ rfl
  have hx0A : ∀ a ∈ (BI.bx x).foot, H a ≠ none := fun a ha => s.sd.live a (f0 a ha)
  refine E.nx _ A' H' _ (hn y p' ents' y1 y2 y3) ⟨⟨by rw [hσ]; rfl, S.live, fun j w' hj => ?_, fun i j w1 w2 h1 h2 hne a ha hb2 => ?_⟩, S.bs s.bs (fun a ha => ?_), fun j w' hj a ha => ?_⟩ hx
  · rw [hσ]
    match j, hj with
    | 0, hj => simp at hj; subst hj; exact ⟨by rw [sr]; rfl, fun a ha => S.grow a (f0 a (by rw [← sf]; exact ha)), y0⟩
    | 1, hj => simp at hj; subst hj; exact ⟨v1, rfl, dp_ex hx t1⟩
    | 2, hj => simp at hj; subst hj; exact ⟨rfl, hA', hb⟩
    | j + 3, hj => simp at hj
  · have cs : ∀ (j : Nat) (w' : WSlot), [WSlot.box (BI.bx y), .dat (encH hands), .box (lyB K w p' ents')][j]? = some w' → ∀ a ∈ w'.foot, (j = 0 ∧ H a ≠ none) ∨ (j = 2 ∧ H a = none) := fun j w' hj a ha => by
      match j, hj with
      | 0, hj => simp at hj; subst hj; exact .inl ⟨rfl, hx0A a (by rw [← sf]; exact ha)⟩
      | 1, hj => simp at hj; subst hj; cases ha
      | 2, hj => simp at hj; subst hj; exact .inr ⟨rfl, hnew a ha⟩
      | j + 3, hj => simp at hj
    rcases cs i w1 h1 a ha with ⟨e1, q1⟩ | ⟨e1, q1⟩ <;> rcases cs j w2 h2 a hb2 with ⟨e2, q2⟩ | ⟨e2, q2⟩
    · omega
    · exact q1 q2
    · exact q2 q1
    · omega
  · obtain ⟨i, w', hi, ha⟩ := ftAll_mem.mp ha
    exact s.mineF i w' hi a ha
  · match j, hj with
    | 0, hj => simp at hj; subst hj; exact s.mineF 0 _ rfl a (by show a ∈ (BI.bx x).foot; rw [← sf]; exact ha)
    | 1, hj => simp at hj; subst hj; cases ha
    | 2, hj => simp at hj; subst hj; exact H0none s (hnew a ha)
    | j + 3, hj => simp at hj
end
end WL
end
section
set_option Elab.async false
set_option linter.all false
set_option maxRecDepth 100000
namespace WL
open PySem PySem.Spec PyProof.Rows L2
theorem pow3_le {k : Nat} (h : k ≤ 8) : 3 ^ k ≤ 6561 := Nat.pow_le_pow_right (by decide) h
theorem flat_rep (n : Nat) (d : PyData) : (List.replicate n [d]).flatten = List.replicate n d := by
  induction n with
  | zero => rfl
  | succ m ih => rw [List.replicate_succ, List.flatten_cons, ih]; rfl
section
variable {P : Program} {w : World} {K : PySem.W.Frag} {mg : Str → Option Value} {base : Heap}
/-- both frames, at layer k -/
structure LoopSt (F : Fx) (w : World) (BI : BookI P w K mg base) (x : BI.α) (sz n : Nat) (hands : List (List Ln)) (k : Nat) (A : List Addr) (H : Hp) (σc σg : List (Option V)) (δc : List WSlot) (y : BI.α) (p : Addr) (ents : List LyE) : Prop where
  st : St F A H (σc ++ σg) (δc ++ [.box (BI.bx y), .dat (encH hands), .box (lyB K w p ents)])
  l : σc.length = δc.length
  e : EntsL (BI.has y) ents (BI.lay n hands k)
  s : BI.size y ≤ sz + 2 * 3 ^ k
  wd : BI.wd y = n
  le : BI.le x y
theorem LoopSt.g2 {F : Fx} {BI : BookI P w K mg base} {x : BI.α} {sz n : Nat} {hands : List (List Ln)} {k : Nat} {A : List Addr} {H : Hp} {σc σg : List (Option V)} {δc : List WSlot} {y : BI.α} {p : Addr} {ents : List LyE} (q : LoopSt F w BI x sz n hands k A H σc σg δc y p ents) : σg[2]? = some (some (V.ref p)) ∧ (lyB K w p ents).holds H (hid A H) := by
  obtain ⟨r1, _, r3⟩ := q.st.sd.box (δc.length + 2) (lyB K w p ents) (app_r (l2 := [WSlot.box (BI.bx y), .dat (encH hands), .box (lyB K w p ents)]) rfl)
  rw [← q.l, List.getElem?_append_right (by omega), Nat.add_sub_cancel_left] at r1
  exact ⟨r1, r3⟩
/-- for x in layers(book, hands): body -/
theorem ds_layers (BI : BookI P w K mg base) {F : Fx} (hK : F.K = K) {i ih j : Nat} {x : BI.α} {fs : List Nat} {hands : List (List Ln)} {δ : List WSlot} {tb : TS} {Iv : Nat → List WSlot → Prop} {N B C : List WSlot → Prop} {R : PyData → List WSlot → Prop}
    (hi : δ[i]? = some (.box (BI.bx x))) (hih : δ[ih]? = some (.dat (encH hands))) (hj : j < δ.length)
    (hm : MachOk (BI.wd x) fs) (hh : ∀ r ∈ hands, LinesOk (BI.wd x) fs r) (h3 : hands.length ≤ 3) (ht : totLen hands ≤ 8) (hok : ∀ ws, ValidW hands ws → BI.okW (BI.wd x) hands ws) (hs : BI.size x < 100000)
    (hlen : ∀ k δk, Iv k δk → δk.length = δ.length ∧ ∃ s, δk[j]? = some s ∧ s.foot = [])
    (h0 : Iv 0 (δ.set i (.box (alB (BI.bx x).root))))
    (hbody : ∀ k δk y p ents, k ≤ totLen hands → Iv k δk → BI.le x y → EntsL (BI.has y) ents (BI.lay (BI.wd x) hands k) → ∀ H0 A0 M0, DS ⟨F.K, H0, A0, M0⟩ tb (δk.set j (.box (lyB K w p ents)))
      (fun δ' => δ'[j]? = some (.box (lyB K w p ents)) ∧ δ'.length = δ.length ∧ Iv (k + 1) (δ'.set j (.box (alB (.ref p))))) (fun _ _ => False) (fun _ => False)
      (fun δ' => δ'[j]? = some (.box (lyB K w p ents)) ∧ δ'.length = δ.length ∧ Iv (k + 1) (δ'.set j (.box (alB (.ref p))))))
    (hn : ∀ δ', Iv (totLen hands + 1) δ' → N δ') :
    DS F (tForG ["book", "hands", "layer"] (tCons (tVar i) (tCons (tVar ih) tNil)) (tLayPre K w) (tLayTest K w) (tVar 2) (tLayRest BI) (gName j) tb) δ N R B C := fun A0 H0 σ D s E => by
  subst hK
  letI := BI.dec
  have hl0 : σ.length = δ.length := s.sd.len
  obtain ⟨r0, f0, b0⟩ := s.sd.box i _ hi
  obtain ⟨v1, r1, t1⟩ := s.sd.dat ih _ hih
  refine ⟨_, r0, v1, r1, (by show 2 ≤ 3; decide), ?_⟩
  let W : Nat → List (Option V) → List (Option V) → Hp → Prop := fun m σc σg H => ∃ k A δc y p ents, m = totLen hands - k ∧ k ≤ totLen hands ∧ Iv (k + 1) δc ∧ LoopSt F w BI x (BI.size x) (BI.wd x) hands k A H σc σg δc y p ents ∧ Ex (hid A0 H0) (hid A H)
  -- at the test of the generator's while
  have loopAt : ∀ (k m : Nat) (A : List Addr) (H : Hp) (σc σg : List (Option V)) (δc : List WSlot) (y : BI.α) (p : Addr) (ents : List LyE), k ≤ totLen hands + 1 → (k ≤ totLen hands → totLen hands - k < m) → Iv k δc → LoopSt F w BI x (BI.size x) (BI.wd x) hands k A H σc σg δc y p ents → Ex (hid A0 H0) (hid A H) →
      LoopT (tLayTest F.K w) (tVar 2) (gName j) tb D W m σc σg H := fun k m A H σc σg δc y p ents hk hmk iv q x0 => by
    obtain ⟨g2, ⟨es, c1, c2, c3⟩, c4, c5⟩ := q.g2
    refine ⟨_, g2, p, es, rfl, .inl c1, c2.ex hid_le, ?_⟩
    have hel : es.length = (BI.lay (BI.wd x) hands k).length := by rw [(en_of c3).1, q.e.len]
    obtain ⟨end1, end2⟩ := BI.lay_end (BI.wd x) h3
    by_cases hke : k = totLen hands + 1
    · subst hke
      have : es = [] := List.eq_nil_of_length_eq_zero (by rw [hel, end1]; rfl)
      rw [this]
      show (if (false : Bool) = true then _ else _)
      rw [if_neg (by decide)]
      exact E.nx _ A H σc (hn _ iv) (q.st.drop2 q.l) x0
    · have hkl : k ≤ totLen hands := by omega
      have hne : es ≠ [] := fun z => end2 k hkl (List.eq_nil_of_length_eq_zero (by rw [← hel, z]; rfl))
      have hnb : (!es.isEmpty) = true := by cases es with
        | nil => exact absurd rfl hne
        | cons _ _ => rfl
      dsimp only
      rw [if_pos hnb]
      refine ⟨_, g2, ?_⟩
      obtain ⟨hlk, s0, hs0, hf0⟩ := hlen k δc iv
      have hjc : j < δc.length := by rw [hlk]; exact hj
      -- the name gets an alias, then what the generator owns
      have st1 : St F A H ((σc.set j (some (.ref p))) ++ σg) ((δc.set j (.box (alB (.ref p)))) ++ [.box (BI.bx y), .dat (encH hands), .box (lyB F.K w p ents)]) := by
        have := q.st.newBox (i := j) (b := alB (.ref p)) (A' := A) (H' := H) ⟨fun a o h _ => h, fun a h => h, fun a h => .inl h, fun a h => q.st.live a h, fun a h => by cases h⟩ True.intro
        rw [List.set_append_left _ _ (by rw [q.l]; exact hjc), List.set_append_left _ _ hjc] at this
        exact this
      have hl1 : (σc.set j (some (V.ref p))).length = (δc.set j (.box (alB (.ref p)))).length := by rw [List.length_set, List.length_set, q.l]
      have st2 := st1.moveB (i := j) (j := δc.length + 2) (b := lyB F.K w p ents) (w0 := .box (alB (.ref p))) (by rw [List.getElem?_append_left (by rw [List.length_set]; exact hjc), List.getElem?_set_self hjc]) rfl
        (by
          rw [List.getElem?_append_right (by rw [List.length_set]; omega), List.length_set, Nat.add_sub_cancel_left]; rfl) (by omega) (by rw [List.getElem?_append_left (by rw [List.length_set, q.l]; exact hjc), List.getElem?_set_self (by rw [q.l]; exact hjc)]; rfl)
      have e2 : (((δc.set j (WSlot.box (alB (.ref p)))) ++ [WSlot.box (BI.bx y), .dat (encH hands), .box (lyB F.K w p ents)]).set (δc.length + 2) (.box (alB (lyB F.K w p ents).root))).set j (.box (lyB F.K w p ents)) = (δc.set j (.box (lyB F.K w p ents))) ++ [.box (BI.bx y), .dat (encH hands), .box (alB (.ref p))] := by
        rw [List.set_append_right _ _ (by rw [List.length_set]; omega), List.set_append_left _ _ (by rw [List.length_set]; exact hjc), List.set_set, List.length_set, Nat.add_sub_cancel_left]; rfl
      rw [e2] at st2
      have hl2 : (σc.set j (some (V.ref p))).length = (δc.set j (.box (lyB F.K w p ents))).length := by rw [List.length_set, List.length_set, q.l]
      have back : ∀ (δ' : List WSlot) (A' : List Addr) (H' : Hp) (σ' : List (Option V)), (δ'[j]? = some (.box (lyB F.K w p ents)) ∧ δ'.length = δ.length ∧ Iv (k + 1) (δ'.set j (.box (alB (.ref p))))) → St ⟨F.K, H, A, ftAll (δc.set j (.box (lyB F.K w p ents)))⟩ A' H' σ' δ' → Ex (hid A H) (hid A' H') → ∃ m', m' < m ∧ W m' σ' σg H' := fun δ' A' H' σ' ⟨n1, n2, n3⟩ s' x' => by
        have hlc : δ'.length = δc.length := by rw [n2, hlk]
        have hjd : j < δ'.length := by rw [hlc]; exact hjc
        have st3 := st2.backL hl2 (by rw [hlc, List.length_set]) s' x'
        have hs3 : σ'.length = δ'.length := s'.sd.len
        obtain ⟨ra, _, _⟩ := s'.sd.box j _ n1
        have hg2 : (σ' ++ σg)[δ'.length + 2]? = some (some (V.ref p)) := by
          rw [← hs3, List.getElem?_append_right (by omega), Nat.add_sub_cancel_left]; exact g2
        have st4 := st3.moveB (i := δ'.length + 2) (j := j) (b := lyB F.K w p ents) (w0 := .box (alB (.ref p))) (app_r (l2 := [WSlot.box (BI.bx y), .dat (encH hands), .box (alB (.ref p))]) rfl) rfl (app_l n1) (by omega) hg2
        have e4 : (((δ' ++ [WSlot.box (BI.bx y), .dat (encH hands), .box (alB (.ref p))]).set j (.box (alB (lyB F.K w p ents).root))).set (δ'.length + 2) (.box (lyB F.K w p ents))) = (δ'.set j (.box (alB (.ref p)))) ++ [.box (BI.bx y), .dat (encH hands), .box (lyB F.K w p ents)] := by
          rw [List.set_append_left _ _ hjd, List.set_append_right _ _ (by rw [List.length_set]; omega), List.length_set, Nat.add_sub_cancel_left]; rfl
        rw [e4] at st4
        exact ⟨totLen hands - k, hmk hkl, k, A', _, y, p, ents, rfl, hkl, n3, ⟨st4, by rw [List.length_set]; exact hs3, q.e, q.s, q.wd, q.le⟩, x0.trans x'⟩
      exact hbody k δc y p ents hkl iv q.le q.e H A _ A H _ { D with nx := fun σ' H' => ∃ m', m' < m ∧ W m' σ' σg H', ct := fun σ' H' => ∃ m', m' < m ∧ W m' σ' σg H', bk := D.nx } (st2.left hl2)
        ⟨fun δ' A' H' σ' n s' x' => back δ' A' H' σ' n s' x', fun _ _ _ _ _ _ z => z.elim, fun _ _ _ _ z => z.elim, fun δ' A' H' σ' n s' x' => back δ' A' H' σ' n s' x'⟩
  refine ⟨W, totLen hands + 1, ?_, ?_⟩
  · -- the next layer
    rintro m σc σg H ⟨k, A, δc, y, p, ents, rfl, hk, iv, q, x0⟩
    have hk8 : 3 ^ k ≤ 6561 := pow3_le (by omega)
    obtain ⟨z1, z2, z3⟩ := BI.lay_size (BI.wd x) hands h3 k
    have hq := q.s
    refine ds_nextL BI (H0 := H) (A0 := A) (M0 := ftAll [.box (BI.bx y), .dat (encH hands), .box (lyB F.K w p ents)]) (N := fun δ' => ∃ y' p' ents', δ' = [.box (BI.bx y'), .dat (encH hands), .box (lyB F.K w p' ents')] ∧ EntsL (BI.has y') ents' (BI.lay (BI.wd x) hands (k + 1)) ∧ BI.size y' ≤ BI.size x + 2 * 3 ^ (k + 1) ∧ BI.wd y' = BI.wd x ∧ BI.le x y') (R := fun _ _ => False) (B := fun _ => False) (C := fun _ => False)
      (by rw [q.wd]; exact hm) (by rw [q.wd]; exact hh) h3 (by rw [q.wd]; exact BI.lay_ok (BI.wd x) h3 (by omega) hok k) q.e (by omega) (by omega) (fun y' p' ents' l1 l2 l3 => ⟨y', p', ents', rfl, l3, by rw [Nat.pow_succ]; omega, by rw [(BI.same l1).2.2, q.wd], BI.trans q.le l1⟩) A H σg _ (q.st.right q.l) ⟨?_, fun _ _ _ _ _ _ z => z.elim, fun _ _ _ _ z => z.elim, fun _ _ _ _ z => z.elim⟩
    rintro δ' A' H' σ' ⟨y', p', ents', rfl, l3, l4, l5, l6⟩ s' x'
    exact loopAt (k + 1) _ A' H' σc σ' δc y' p' ents' (by omega) (fun h => by omega) iv ⟨q.st.backR q.l s' x', q.l, l3, l4, l5, l6⟩ (x0.trans x')
  · -- the first one
    have sp := s.pair hi t1
    have hlp : σ.length = (δ.set i (.box (alB (BI.bx x).root))).length := by rw [List.length_set]; exact hl0
    obtain ⟨ns, hns, hat⟩ := BI.atoms (F := ⟨F.K, H0, A0, ftAll [.box (BI.bx x), .dat (encH hands), .no]⟩) (i := 0) (δ := [.box (BI.bx x), .dat (encH hands), .no]) (x := x) rfl rfl
    refine ds_layOne (F := ⟨F.K, H0, A0, ftAll [.box (BI.bx x), .dat (encH hands), .no]⟩) (w := w) (i := 2) (d1 := (List.replicate hands.length [dN 0]).flatten) (d2 := ns.map dN) (z := "") (δ := [.box (BI.bx x), .dat (encH hands), .no])
      (N := fun δ' => ∃ p ents, δ' = [.box (BI.bx x), .dat (encH hands), .box (lyB F.K w p ents)] ∧ EntsL (BI.has x) ents (BI.lay (BI.wd x) hands 0)) (R := fun _ _ => False) (B := fun _ => False) (C := fun _ => False)
      (fun H1 A1 M1 => dv_repN (k := hands.length) (ds := [dN 0]) (dv_tup (das1 (d := dN 0) de_int) (by show 1 ≤ 100000; decide)) ((dv_len (d := encH hands) (de_var rfl) rfl).is (by show PyData.int ((hands.map encR).length : Nat) = _; rw [List.length_map])) (by simp) (by omega) (by show 1 ≤ 1000; decide))
      (fun H1 A1 M1 => by
        obtain ⟨ns', hns', hat'⟩ := BI.atoms (F := ⟨F.K, H1, A1, M1⟩) (i := 0) (δ := [.box (BI.bx x), .dat (encH hands), .no]) (x := x) rfl rfl
        have : ns' = ns := HasL.func (has := BI.has x) (fun c n m a b => BI.func a b) hns' hns
        rw [← this]; exact hat')
      (by rw [flat_rep, show List.replicate hands.length (dN 0) = (List.replicate hands.length 0).map dN by rw [List.map_replicate]]; exact key_nats _) (key_nats ns)
      (fun p q => ⟨p, _, rfl, ⟨⟨by show PyData.tuple _ = PyData.tuple _; rw [flat_rep, List.map_replicate], ⟨ns, rfl, hns, rfl⟩, True.intro⟩, True.intro⟩⟩) A0 H0 _ _ (sp.right hlp) ⟨?_, fun _ _ _ _ _ _ z => z.elim, fun _ _ _ _ z => z.elim, fun _ _ _ _ z => z.elim⟩
    rintro δ' A' H' σ' ⟨p, ents, rfl, l3⟩ s' x'
    exact loopAt 0 _ A' H' σ σ' _ x p ents (by omega) (fun h => by omega) h0 ⟨sp.backR hlp s' x', hlp, l3, by omega, rfl, BI.refl x⟩ x'
end
end WL
end
section
set_option Elab.async false
set_option linter.all false
set_option maxRecDepth 100000
namespace WL
open PySem PySem.Spec PyProof.Rows L2
def tVars (js : List Nat) : TA := js.foldr (fun j t => tCons (tVar j) t) tNil
theorem tVars_run {K : PySem.W.Frag} {A : List Addr} {H : Hp} {σ : List (Option V)} {δ : List WSlot} (s : SD K A H σ δ) : ∀ (js : List Nat), (∀ j ∈ js, (∃ b, δ[j]? = some (.box b)) ∨ ∃ d, δ[j]? = some (.dat d)) →
    ∃ vs : List V, vs.length = js.length ∧ (∀ (k j : Nat), js[k]? = some j → (vs.map some)[k]? = σ[j]?) ∧ ∀ Q : List V → Hp → Prop, Q vs H → tVars js σ H Q
  | [], _ => ⟨[], rfl, fun _ _ h => by simp at h, fun Q q => q⟩
  | j :: js, h => by
    obtain ⟨vs, h1, h2, h3⟩ := tVars_run s js fun i hi => h i (List.mem_cons_of_mem _ hi)
    have : ∃ v, σ[j]? = some (some v) := by
      rcases h j List.mem_cons_self with ⟨b, e⟩ | ⟨d, e⟩
      · exact ⟨_, (s.box j b e).1⟩
      · obtain ⟨v, e, _⟩ := s.dat j d e; exact ⟨v, e⟩
    obtain ⟨v, e⟩ := this
    refine ⟨v :: vs, by rw [List.length_cons, List.length_cons, h1], fun k i hk => ?_, fun Q q => ⟨v, e, h3 _ q⟩⟩
    match k, hk with
    | 0, hk => simp at hk; subst hk; exact e.symm
    | k + 1, hk => simp at hk; simpa using h2 k i hk
/-- f(names ..): boxes and data, all left as they are -/
theorem de_callR {F : Fx} {E : XK} {δ δ0 : List WSlot} {js : List Nat} {rel : List WSlot → (PyData → List WSlot → Prop) → Prop} {Pd : PyData → List WSlot → Prop} {P : PyData → List WSlot → Prop} (hnd : js.Nodup) (hl : δ0.length = js.length) (hw : ∀ (k j : Nat), js[k]? = some j → δ[j]? = δ0[k]?)
    (hk : ∀ w ∈ δ0, (∃ b, w = .box b) ∨ ∃ d, w = .dat d) (hrel : rel δ0 Pd) (hsame : ∀ d δ1, Pd d δ1 → ∀ (k : Nat) (b : Box), δ0[k]? = some (.box b) → δ1[k]? = some (.box b)) (hP : ∀ d δ1, Pd d δ1 → P d δ) : DE F (tCall (spG F.K rel) [] E (tVars js)) δ P := fun A H σ s Q q => by
  have at_ : ∀ j ∈ js, ∃ k, js[k]? = some j := fun j hj => List.getElem?_of_mem hj
  have at0 : ∀ (k : Nat) (w : WSlot), δ0[k]? = some w → ∃ j, js[k]? = some j ∧ δ[j]? = some w := fun k w h => by
    have hkl := (List.getElem?_eq_some_iff.mp h).1
    have hj := List.getElem?_eq_getElem (l := js) (i := k) (by rw [← hl]; exact hkl)
    exact ⟨_, hj, by rw [hw k _ hj]; exact h⟩
  obtain ⟨vs, v1, v2, v3⟩ := tVars_run s.sd js fun j hj => by
    obtain ⟨k, hkj⟩ := at_ j hj
    have hkl := (List.getElem?_eq_some_iff.mp hkj).1
    have h0 := List.getElem?_eq_getElem (l := δ0) (i := k) (by rw [hl]; exact hkl)
    rw [hw k j hkj, h0]
    rcases hk _ (List.mem_of_getElem? h0) with ⟨b, e⟩ | ⟨d, e⟩
    · exact .inl ⟨b, by rw [e]⟩
    · exact .inr ⟨d, by rw [e]⟩
  refine v3 _ ?_
  have sd0 : SD F.K A H (vs.map some) δ0 := by
    refine ⟨by rw [List.length_map, v1, hl], s.live, fun k w h => ?_, fun k l w w' h1 h2 hne a ha hb => ?_⟩
    · obtain ⟨j, hj, e⟩ := at0 k w h
      rw [v2 k j hj]; exact s.sd.all j w e
    · obtain ⟨i, hi, e1⟩ := at0 k w h1
      obtain ⟨j, hj, e2⟩ := at0 l w' h2
      refine s.sd.apart i j w w' e1 e2 (fun z => hne ?_) a ha hb
      subst z
      have hkl := (List.getElem?_eq_some_iff.mp hi).1
      exact (List.getElem?_inj hkl hnd).mp (hi.trans hj.symm)
  have hMA : ∀ a ∈ ftAll δ0, a ∈ A := fun a ha => by
    obtain ⟨k, w, h, ha⟩ := ftAll_mem.mp ha
    exact sd0.inA h a ha
  refine ⟨A, δ0, Pd, by rw [List.append_nil]; exact sd0, hrel, fun v d δ1 H' pd S sd1 hv => ?_⟩
  refine q v d δ H' (hP d δ1 pd) (s.stepG S rfl (fun a ha => ?_) hMA fun j w hj => ?_) (S.ex hMA) hv
  · obtain ⟨k, w, h, ha⟩ := ftAll_mem.mp ha
    obtain ⟨j, hj, e⟩ := at0 k w h
    exact s.mineF j w e a ha
  · by_cases hm : j ∈ js
    · obtain ⟨k, hkj⟩ := at_ j hm
      have e0 : δ0[k]? = some w := by rw [← hw k j hkj]; exact hj
      rcases hk w (List.mem_of_getElem? e0) with ⟨b, rfl⟩ | ⟨d', rfl⟩
      · refine .inr ⟨_, hj, fun a ha => ha, ?_⟩
        have := sd1.all k _ (hsame d δ1 pd k b e0)
        rw [List.append_nil, v2 k j hkj] at this; exact this
      · exact .inl ⟨hj, fun a ha => by cases ha⟩
    · refine .inl ⟨hj, fun a ha z => ?_⟩
      obtain ⟨k, w', h, ha'⟩ := ftAll_mem.mp z
      obtain ⟨i, hi, e⟩ := at0 k w' h
      exact s.sd.apart j i w w' hj e (fun y => hm (by rw [y]; exact List.mem_of_getElem? hi)) a ha ha'
/-! ### check_depth -/
section
variable {P : Program} {w : World} {K : PySem.W.Frag} {mg : Str → Option Value} {base : Heap}
/-- few lines and few works -/
structure Small (n : Nat) (fs : List Nat) (hands : List (List Ln)) : Prop where
  m : MachOk n fs
  h : ∀ r ∈ hands, LinesOk n fs r
  h3 : hands.length ≤ 3
  t7 : totLen hands ≤ 7
  h6 : worksH hands ≤ 6
inductive rel_depth : List PyData → (PyData → Prop) → Prop
  | mk (n : Nat) (fs : List Nat) (hands : List (List Ln)) (h : Small n fs hands) : rel_depth [encM n fs, encH hands] fun d => d = .none
theorem ok_check_depth (T : Top K mg) (G : GTop K mg) : FnOk P w K mg base CX0 8 T.check_depth.f T.check_depth.fd ["machine", "hands"] (spP K rel_depth) :=
  fnP T.check_depth.F sc_check_depth (fun ds Pd h => by cases h; rfl) fun cdv A outer s H E hr => by
    refine ⟨_, (pss_cons (ps_set (i := 2) sc_check_depth.nd rfl (by first | exact Or.inl rfl | exact Or.inr rfl) (pe_make T.db_init.m (ok_db_init T) (hr.mono (by omega)) rfl T.db_m T.db_init.b .nil pass0 (pa_cons (pv 0) pa_nil)))
    (pss_one (ps_layers G (dbI T) rfl rfl rfl rfl rfl (fun _ _ h => h) PassesOwn.never (hr.mono (by omega)) rfl (pa_cons (pv 2) (pa_cons (pv 1) pa_nil)) (pg_name (i := 3) sc_check_depth.nd rfl (by first | exact Or.inl rfl | exact Or.inr rfl)) (pss_one ps_pass)))), fun A0 ds Pd hrel => ?_⟩
    cases hrel with
    | mk n fs hands hsm =>
      refine ds_seq (N1 := fun δ => ∃ x : DbS, δ = [.dat (encM n fs), .dat (encH hands), .box (db K T.db x), .no] ∧ x.n = n) (ds_setNew (das1 (de_var rfl)) (.mk n fs hsm.m) fun b ⟨x, e1, e2⟩ => ⟨x, by rw [e1]; rfl, e2⟩) ?_
      rintro δ1 ⟨x, rfl, rfl⟩
      let BI := dbI (P := P) (w := w) (base := base) T
      refine ds_layers (F := ⟨K, H, A0, []⟩) BI rfl (i := 2) (ih := 1) (j := 3) (x := x) (fs := fs) (hands := hands) (Iv := fun k δ => ∃ s, δ = [.dat (encM x.n fs), .dat (encH hands), .box (alB (.ref x.b)), s] ∧ s.foot = []) rfl rfl (by show 3 < 4; decide) hsm.m hsm.h hsm.h3 (by have := hsm.t7; omega) (fun ws hv => db_okW T hsm.m hsm.h hsm.h6 hv) (by show 0 < 100000; decide)
        (fun k δk ⟨s, e, e2⟩ => by rw [e]; exact ⟨rfl, s, rfl, e2⟩) ⟨.no, rfl, rfl⟩ ?_ (fun δ' _ => rfl)
      rintro k δk y p ents hk ⟨s, rfl, hs0⟩ _ he H0 A1 M0
      exact ds_next ⟨rfl, rfl, _, rfl, rfl⟩
end
end WL
end
section
set_option Elab.async false
set_option linter.all false
set_option maxRecDepth 100000
namespace WL
open PySem PySem.Spec PyProof.Rows L2
/-! ### the least harmful weaving -/
def keptM (hands : List (List Ln)) (wishes : List (List Wish)) (ms : List Nat) (held : List Tm) : Bool := (List.range hands.length).all fun h => !(decide (msAt ms h = rowLen hands h)) || ownKept held ((wishes[h]?).getD [])
theorem keptM_eq {hands : List (List Ln)} {wishes : List (List Wish)} (hl : wishes.length = hands.length) (ws : List Nat) (held : List Tm) : keptM hands wishes (cnts hands ws) held = kept hands wishes ws held := by
  unfold keptM kept keptAt
  rw [hl]
  rw [Bool.eq_iff_iff, List.all_eq_true, List.all_eq_true]
  constructor
  · intro k h hh
    have := k h hh
    rwa [cnts_at (List.mem_range.mp hh)] at this
  · intro k h hh
    rw [cnts_at (List.mem_range.mp hh)]
    exact k h hh
theorem minS_mem (y : Str) : ∀ ys : List Str, minS y ys ∈ y :: ys ∧ ∀ z ∈ y :: ys, ¬ z.cps.toList < (minS y ys).cps.toList := by
  intro ys
  unfold minS
  induction ys generalizing y with
  | nil => exact ⟨List.mem_cons_self, fun z hz => by rw [List.mem_singleton.mp hz]; exact lw_irrefl _⟩
  | cons a r ih =>
    rw [List.foldl_cons]
    by_cases h : a.cps.toList < y.cps.toList
    · rw [if_pos h]
      obtain ⟨h1, h2⟩ := ih a
      refine ⟨List.mem_cons_of_mem _ h1, fun z hz => ?_⟩
      rcases List.mem_cons.mp hz with e | hz
      · rw [e]
        exact lw_trans (h2 a List.mem_cons_self) (lw_asymm h)
      · exact h2 z hz
    · rw [if_neg h]
      obtain ⟨h1, h2⟩ := ih y
      refine ⟨?_, fun z hz => ?_⟩
      · rcases List.mem_cons.mp h1 with e | h1
        · rw [e]; exact List.mem_cons_self
        · exact List.mem_cons_of_mem _ (List.mem_cons_of_mem _ h1)
      · rcases List.mem_cons.mp hz with e | hz
        · rw [e]; exact h2 y List.mem_cons_self
        · rcases List.mem_cons.mp hz with e | hz
          · rw [e]
            exact lw_trans (h2 y List.mem_cons_self) h
          · exact h2 z (List.mem_cons_of_mem _ hz)
/-- of all harmful weavings none is less -/
def isLeast (n : Nat) (hands : List (List Ln)) (wishes : List (List Wish)) (ws : List Nat) : Prop :=
  ValidW hands ws ∧ kept hands wishes ws (woven n hands ws) = false ∧ ∀ vs, ValidW hands vs → kept hands wishes vs (woven n hands vs) = false → ws.length < vs.length ∨ (ws.length = vs.length ∧ ¬ vs < ws)
/-- what is found in the layers before k -/
def Best (n : Nat) (hands : List (List Ln)) (wishes : List (List Wish)) (k : Nat) (d : PyData) : Prop :=
  (d = .none ∧ ∀ vs, ValidW hands vs → vs.length < k → kept hands wishes vs (woven n hands vs) = true) ∨ ∃ ws, d = .str (wayS ws) ∧ isLeast n hands wishes ws
section
variable {P : Program} {w : World} {K : PySem.W.Frag} {mg : Str → Option Value} {base : Heap}
theorem best_step (T : Top K mg) {n : Nat} {fs : List Nat} {hands : List (List Ln)} {wishes : List (List Wish)} (hm : MachOk n fs) (hh : ∀ r ∈ hands, LinesOk n fs r) (h3 : hands.length ≤ 3) (hl : wishes.length = hands.length) {k : Nat}
    (hb : ∀ vs, ValidW hands vs → vs.length < k → kept hands wishes vs (woven n hands vs) = true) :
    Best n hands wishes (k + 1) (leastD (harmW (fun ms held => !keptM hands wishes ms held) ((tbI (P := P) (w := w) (base := base) T).lay n hands k))) := by
  let BI := tbI (P := P) (w := w) (base := base) T
  letI := BI.dec
  obtain ⟨_, so⟩ := BI.lay_sound n hands k
  have wv : ∀ ws, ValidW hands ws → BI.wovenB n hands ws = woven n hands ws := tb_woven T hm hh
  -- what is listed is harmful
  have h1 : ∀ ws ∈ harmW (fun ms held => !keptM hands wishes ms held) (BI.lay n hands k), ValidW hands ws ∧ ws.length = k ∧ kept hands wishes ws (woven n hands ws) = false := fun ws hws => by
    obtain ⟨e, he, hq⟩ := List.mem_flatMap.mp hws
    obtain ⟨q, hq2, rfl⟩ := List.mem_map.mp hq
    obtain ⟨hq3, hbad⟩ := List.mem_filter.mp hq2
    obtain ⟨⟨v1, v2, v3⟩, v4⟩ := so e he q hq3
    refine ⟨v1, v2, ?_⟩
    have hbad : (!keptM hands wishes e.1 q.1) = true := hbad
    rw [v3, v4, wv _ v1, keptM_eq hl] at hbad
    simpa using hbad
  -- .. and nothing harmful is less
  have h2 : ∀ vs, ValidW hands vs → vs.length = k → kept hands wishes vs (woven n hands vs) = false → ∃ ws ∈ harmW (fun ms held => !keptM hands wishes ms held) (BI.lay n hands k), leS ws vs := fun vs hv hlen hk => by
    obtain ⟨ways, e1, w', e2, e3⟩ := BI.lay_cov n hands h3 k vs hv hlen
    refine ⟨w', List.mem_flatMap.mpr ⟨_, lAt_mem e1, List.mem_map.mpr ⟨_, List.mem_filter.mpr ⟨wAt_mem e2, ?_⟩, rfl⟩⟩, e3⟩
    show (!keptM hands wishes (cnts hands vs) (BI.wovenB n hands vs)) = true
    rw [wv _ hv, keptM_eq hl, hk]; rfl
  have small : ∀ ws, ValidW hands ws → ∀ x ∈ ws, x < 3 := fun ws hv x hx => Nat.lt_of_lt_of_le (hv.lt x hx) h3
  generalize hL : harmW (fun ms held => !keptM hands wishes ms held) (BI.lay n hands k) = L at h1 h2
  cases L with
  | nil =>
    refine .inl ⟨rfl, fun vs hv hlt => ?_⟩
    cases e : kept hands wishes vs (woven n hands vs) with
    | true => rfl
    | false =>
      by_cases hk : vs.length = k
      · obtain ⟨ws, hws, _⟩ := h2 vs hv hk e; cases hws
      · rw [hb vs hv (by omega)] at e; cases e
  | cons y ys =>
    obtain ⟨m1, m2⟩ := minS_mem (wayS y) (ys.map wayS)
    have m1 : minS (wayS y) (ys.map wayS) ∈ (y :: ys).map wayS := m1
    obtain ⟨ws, hws, hwe⟩ := List.mem_map.mp m1
    obtain ⟨v1, v2, v3⟩ := h1 ws hws
    refine .inr ⟨ws, by show PyData.str _ = _; rw [hwe], v1, v3, fun vs hv hk => ?_⟩
    rcases Nat.lt_trichotomy vs.length k with h | h | h
    · rw [hb vs hv h] at hk; cases hk
    · refine .inr ⟨by omega, ?_⟩
      obtain ⟨us, hus, hle⟩ := h2 vs hv h hk
      have : leS ws us := by
        unfold leS sW
        rw [hwe]
        exact m2 _ (by
          show wayS us ∈ (y :: ys).map wayS
          exact List.mem_map.mpr ⟨us, hus, rfl⟩)
      exact (leS_word (small _ v1) (small _ hv)).mp (leS_trans this hle)
    · exact .inl (by omega)
end
/-! ### a text, walked -/
theorem str_eq {a b : Str} (h : a.cps = b.cps) : a = b := by cases a; cases b; cases h; rfl
section
variable {F : Fx} {te : TE} {δ : List WSlot}
theorem di_str {x : Str} (h : DV F te δ (.str x)) : DI F (iStr te) δ (is1 δ (x.cps.toList.map fun c => .str ⟨#[c]⟩)) := fun A H σ s R' q => h A H σ s _ fun v d δ' H1 ⟨e1, e2⟩ s1 x1 hd => by
  subst e1; subst e2
  rw [dp_str hd]
  refine ⟨x, rfl, q _ _ _ H1 ⟨rfl, rfl⟩ s1 x1 ⟨fun i A2 H2 hi e => ?_, fun A2 H2 e => ?_, fun i A2 H2 y H3 hi e l hy => ?_⟩⟩
  · show i < x.cps.size
    rw [List.length_map, Array.length_toList] at hi; exact hi
  · show x.cps.size ≤ _
    rw [List.length_map, Array.length_toList]; exact Nat.le_refl _
  · obtain ⟨rfl, c, hc, rfl⟩ := hy
    refine ⟨WL.Ex.refl _, .str ⟨#[c]⟩, ?_, .str _⟩
    rw [List.getElem?_map, Array.getElem?_toList, hc]; rfl
end
end WL
end
section
set_option Elab.async false
set_option linter.all false
set_option maxRecDepth 100000
namespace WL
open PySem PySem.Spec PyProof.Rows L2
section
variable {F : Fx} {te : TE} {δ : List WSlot}
/-- int(a figure) -/
theorem dv_intS {a : Str} {n : Int} (h : DV F te δ (.str a)) (hn : PySem.intText? a = some n) (hl : a.length ≤ 640) : DV F (tCB (fun xs H Q => ∃ a n, xs = [.str a] ∧ PySem.intText? a = some n ∧ a.length ≤ 640 ∧ Q (.int n) H) (tCons te tNil)) δ (.int n) :=
  dv_cb1 h fun A H v l hv Q q => by rw [dp_str hv]; exact ⟨a, n, rfl, hn, hl, q _ H (WL.Ex.refl _) (.int n)⟩
theorem fig_int {n : Nat} (h : n < 3) : PySem.intText? ⟨#[n + 48]⟩ = some (n : Int) := by
  match n, h with
  | 0, _ => decide +kernel
  | 1, _ => decide +kernel
  | 2, _ => decide +kernel
  | n + 3, h => omega
end
theorem len_le_tot {β : Type} [DecidableEq β] : ∀ {L : Lay β} {e : List Nat × Ways β}, e ∈ L → e.2.length ≤ tot L
  | m :: L, e, h => by
    rw [tot_cons]
    rcases List.mem_cons.mp h with rfl | h
    · omega
    · have := len_le_tot h; omega
section
variable {P : Program} {w : World} {K : PySem.W.Frag} {mg : Str → Option Value} {base : Heap}
inductive rel_find : List PyData → (PyData → Prop) → Prop
  | mk (n : Nat) (fs : List Nat) (hands : List (List Ln)) (wishes : List (List Wish)) (hj : Judged n fs hands wishes) (hs : Small n fs hands) : rel_find [encM n fs, encH hands, encWs wishes] fun d => (d = .none ∧ ∀ vs, ValidW hands vs → kept hands wishes vs (woven n hands vs) = true) ∨ ∃ ws, d = encW ws ∧ isLeast n hands wishes ws
theorem ok_find_harm (T : Top K mg) (G : GTop K mg) : FnOk P w K mg base CX0 12 T.find_harm.f T.find_harm.fd ["machine", "hands", "wishes"] (spP K rel_find) :=
  fnP T.find_harm.F sc_find_harm (fun ds Pd h => by cases h; rfl) fun cdv A outer s H E hr => by
    refine ⟨_, (pss_cons (ps_expr (pe_call (ok_check_depth T G) (hr.mono (by omega)) rfl T.check_depth.m T.check_depth.F.kp T.check_depth.b .nil pass0 (pa_cons (pv 0) (pa_cons (pv 1) pa_nil))))
    (pss_cons (ps_set (i := 3) sc_find_harm.nd rfl (by first | exact Or.inl rfl | exact Or.inr rfl) (pe_make T.tb_init.m (ok_tb_init T) (hr.mono (by omega)) rfl T.tb_m T.tb_init.b .nil pass0 (pa_cons (pv 0) pa_nil)))
    (pss_cons (ps_set (i := 4) sc_find_harm.nd rfl (by first | exact Or.inl rfl | exact Or.inr rfl) (pe_call (ok_numbered T) (hr.mono (by omega)) rfl T.numbered.m T.numbered.F.kp T.numbered.b .nil pass0 (pa_cons (pv 3) (pa_cons (pv 2) pa_nil))))
    (pss_cons (ps_set (i := 5) sc_find_harm.nd rfl (by first | exact Or.inl rfl | exact Or.inr rfl) pe_non)
    (pss_cons (ps_layers G (tbI T) rfl rfl rfl rfl rfl (fun _ _ h => h) PassesOwn.never (hr.mono (by omega)) rfl (pa_cons (pv 3) (pa_cons (pv 1) pa_nil)) (pg_name (i := 6) sc_find_harm.nd rfl (by first | exact Or.inl rfl | exact Or.inr rfl)) (pss_cons (ps_expr (pe_call (ok_check_width T) (hr.mono (by omega)) rfl T.check_width.m T.check_width.F.kp T.check_width.b .nil pass0 (pa_cons (pv 6) pa_nil)))
    (pss_one (ps_if (pt_cmpR op_isN (pv 5) pe_non (nomark _)) (pss_one (ps_set (i := 5) sc_find_harm.nd rfl (by first | exact Or.inl rfl | exact Or.inr rfl) (pe_call (ok_least_harm T) (hr.mono (by omega)) rfl T.least_harm.m T.least_harm.F.kp T.least_harm.b .nil pass0 (pa_cons (pv 1) (pa_cons (pv 4) (pa_cons (pv 6) pa_nil)))))) pss_nil))))
    (pss_cons (ps_if (pt_cmpR op_isN (pv 5) pe_non (nomark _)) (pss_one (ps_ret pe_non)) pss_nil)
    (pss_one (ps_ret (pe_callTy (r := rTupN K) call_tupN (by rfl) T.n_tuple (by decide +kernel) (pa_cons (pe_lc (own := [("figure", 7)]) rfl sc_find_harm.nd (pi_str (pv 5)) (blkOk_by (own := [("figure", 7)]) (N := ["machine", "hands", "wishes", "book", "wished", "least", "layer", "figure"]) (sc := (defScope (topS 46))) (by decide +kernel)) (fun _ _ _ _ _ => (pg_name (i := 7) sc_find_harm.nd rfl (by first | exact Or.inl rfl | exact Or.inr rfl))) (fun _ _ _ _ _ => pts_nil) (fun _ _ _ _ _ => (pe_callTy call_int_str (by rfl) T.n_int (by decide +kernel) (pa_cons (pv 7) pa_nil)))) pa_nil)))))))))), fun A0 ds Pd hrel => ?_⟩
    cases hrel with
    | mk n fs hands wishes hj hsm =>
      have hH3 := hj.h.h3
      have ht7 := hsm.t7
      have hWl : wishes.length = hands.length := hj.w.len
      refine dq_expr (dv_call (das2 (de_var rfl) (de_var rfl)) (.mk n fs hands hsm)) ?_
      refine ds_seq (N1 := fun δ => ∃ x : Tb, δ = [.dat (encM n fs), .dat (encH hands), .dat (encWs wishes), .box (tb K w T.tb x), .no, .no, .no, .no] ∧ x.n = n ∧ x.ts = (List.range n).map .atom) (ds_setNew (das1 (de_var rfl)) (.mk n fs hj.m.n4) fun b ⟨x, e1, e2, e3⟩ => ⟨x, by rw [e1]; rfl, e2, e3⟩) ?_
      rintro δ1 ⟨x, rfl, rfl, hts⟩
      have hsz := szW_le hj.w hH3
      have hlen : x.ts.length ≤ 4 := by rw [hts, List.length_map, List.length_range]; exact hj.m.n4
      refine dq_set (P := fun d δ1 => ∃ y, δ1 = [.dat (encM x.n fs), .dat (encH hands), .dat (encWs wishes), .box (tb K w T.tb y), .no, .no, .no, .no] ∧ Exts x y (szW wishes) ∧ (∀ own ∈ wishes, ∀ z ∈ own, z.2 ∈ y.ts) ∧ d = .list ((numW y.ts wishes).map encPrs))
        (dv_callI (x := x) rfl (das1 (de_var rfl)) (.mk x fs hj.m wishes hands.length hH3 hj.w (by omega)) fun d y ⟨y1, y2, y3⟩ => ⟨y, rfl, y1, y2, y3⟩) ?_
      rintro d δ1 ⟨y, rfl, y1, y2, rfl⟩
      have hly := y1.len
      refine dq_setV (d := .none) de_non ?_
      let BI := tbI (P := P) (w := w) (base := base) T
      have hyn : BI.wd y = x.n := y1.n
      have hwz : ∀ o ∈ numW y.ts wishes, o.length ≤ 100 ∧ ∀ q ∈ o, q.1 < x.n := fun o ho => by
        obtain ⟨o', ho', rfl⟩ := List.mem_map.mp ho
        have := hj.w.few o' ho'
        refine ⟨by unfold numO; rw [List.length_map]; omega, fun q hq => ?_⟩
        obtain ⟨u, hu, rfl⟩ := List.mem_map.mp hq
        exact ((hj.w.ok o' ho').lt u hu).1
      refine ds_seq (N1 := fun δ => ∃ d s, δ = [.dat (encM x.n fs), .dat (encH hands), .dat (encWs wishes), .box (alB (tb K w T.tb y).root), .dat (.list ((numW y.ts wishes).map encPrs)), .dat d, s, .no] ∧ Best x.n hands wishes (totLen hands + 1) d)
        (ds_layers (F := ⟨K, H, A0, []⟩) BI rfl (i := 3) (ih := 1) (j := 6) (x := y) (fs := fs) (hands := hands) (Iv := fun k δ => ∃ d s, δ = [.dat (encM x.n fs), .dat (encH hands), .dat (encWs wishes), .box (alB (tb K w T.tb y).root), .dat (.list ((numW y.ts wishes).map encPrs)), .dat d, s, .no] ∧ s.foot = [] ∧ Best x.n hands wishes k d) rfl rfl (by show 6 < 8; decide) (by rw [hyn]; exact hj.m) (by rw [hyn]; exact hsm.h) hH3 (by omega) (fun ws hv => tb_okW T _ _ _) (by show y.ts.length < 100000; omega)
          (fun k δk ⟨d, s, e, e2, _⟩ => by rw [e]; exact ⟨rfl, s, rfl, e2⟩) ⟨.none, .no, rfl, rfl, .inl ⟨rfl, fun vs _ h => absurd h (Nat.not_lt_zero _)⟩⟩ ?_ (fun δ' ⟨d, s, e, _, b⟩ => ⟨d, s, e, b⟩)) ?_
      · rintro k δk z p ents hk ⟨d, s0, rfl, hs0, hbest⟩ hle he H1 A1 M1
        obtain ⟨z1, z2, z3⟩ := BI.lay_size (BI.wd y) hands hH3 k
        have hk7 : 3 ^ k ≤ 2187 := Nat.pow_le_pow_right (by decide) (by omega : k ≤ 7)
        obtain ⟨k0, zx⟩ := hle
        refine ds_seq (N1 := fun δ => δ = [.dat (encM x.n fs), .dat (encH hands), .dat (encWs wishes), .box (alB (tb K w T.tb y).root), .dat (.list ((numW y.ts wishes).map encPrs)), .dat d, .box (lyB K w p ents), .no]) (ds_expr (de_callR (F := ⟨K, H1, A1, M1⟩) (js := [6]) (δ0 := [.box (lyB K w p ents)]) (by decide) rfl (fun i j h => ?_) (fun w' h => .inl ⟨_, List.mem_singleton.mp h⟩) (.mk p ents fun e hm => ?_) (fun d δ1 h i b hb => by rw [h]; exact hb) (fun d δ1 h => rfl))) ?_
        · match i, h with
          | 0, h => simp at h; subst h; rfl
          | i + 1, h => simp at h
        · obtain ⟨i, hi⟩ := List.getElem?_of_mem hm
          obtain ⟨m, m1, _, m3⟩ := he.get hi
          rw [m3.len]
          letI := BI.dec
          have := len_le_tot (List.mem_of_getElem? m1)
          omega
        · rintro δ1 rfl
          refine ds_ifB (b := isNone d) (db_test (dv_isN (de_var rfl))) (fun hN => ?_) fun hN => ?_
          · have hd : d = .none := by cases d <;> first | rfl | cases hN
            subst hd
            have hb0 : ∀ vs, ValidW hands vs → vs.length < k → kept hands wishes vs (woven x.n hands vs) = true := by
              rcases hbest with ⟨_, h⟩ | ⟨ws, h, _⟩
              · exact h
              · cases h
            have hst := best_step (P := P) (w := w) (base := base) T hj.m hsm.h hH3 hWl hb0
            obtain ⟨so1, so2⟩ := BI.lay_sound (BI.wd y) hands k
            have lo := BI.lay_ok (BI.wd y) (hands := hands) hH3 (by omega) (fun ws hv => tb_okW T _ _ _) k
            refine ds_set (de_callR (F := ⟨K, H1, A1, M1⟩) (js := [1, 4, 6]) (δ0 := [.dat (encH hands), .dat (.list ((numW y.ts wishes).map encPrs)), .box (lyB K w p ents)]) (by decide) rfl (fun i j h => ?_) (fun w' h => ?_)
              (rel_least.mk (BI.has z) x.n hands (numW y.ts wishes) p ents (BI.lay (BI.wd y) hands k) (fun ms held => !keptM hands wishes ms held) hH3 (by unfold numW; rw [List.length_map]; exact hWl) hwz he lo.ms (fun e he q hq => by rw [(lo.st e he q hq).1]; exact hyn) (fun e he q hq ns hns => ?_) (by omega))
              (fun d δ1 ⟨_, h⟩ i b hb => ?_) (fun d δ1 ⟨h, _⟩ => ⟨rfl, rfl, d, _, rfl, rfl, by rw [h, hyn]; exact hst⟩))
            · match i, h with
              | 0, h => simp at h; subst h; rfl
              | 1, h => simp at h; subst h; rfl
              | 2, h => simp at h; subst h; rfl
              | i + 3, h => simp at h
            · simp at h
              rcases h with rfl | rfl | rfl
              · exact .inr ⟨_, rfl⟩
              · exact .inr ⟨_, rfl⟩
              · exact .inl ⟨_, rfl⟩
            · obtain ⟨⟨v1, v2, v3⟩, v4⟩ := so2 e he q hq
              rw [v3]
              refine Eq.trans ?_ (congrArg Bool.not (keptM_eq hWl q.2 q.1).symm)
              refine harm_num (has := BI.has z) (fun c d n h k => BI.inj h k) (fun c n m h k => BI.func h k) (fun t ht => ⟨zx.mem ht, zx.ix ht⟩) hWl hns fun o ho u hu => ⟨y2 o ho u hu, Nat.lt_of_lt_of_eq ((hj.w.ok o ho).lt u hu).1 ((lo.st e he q hq).1.trans hyn).symm⟩
            · rw [h]
              match i, hb with
              | 0, hb => simp at hb
              | 1, hb => simp at hb
              | 2, hb => exact hb
              | i + 3, hb => simp at hb
          · refine ds_next ⟨rfl, rfl, d, _, rfl, rfl, ?_⟩
            rcases hbest with ⟨h, _⟩ | h
            · rw [h] at hN; cases hN
            · exact .inr h
      · rintro δ1 ⟨d, s1, rfl, hbest⟩
        refine dq_out (b := isNone d) (db_test (dv_isN (de_var rfl))) (fun hN => ?_) fun hN => ?_
        · have hd : d = .none := by cases d <;> first | rfl | cases hN
          subst hd
          refine ds_retV de_non ?_
          rcases hbest with ⟨_, h⟩ | ⟨ws, h, _⟩
          · exact .inl ⟨rfl, fun vs hv => h vs hv (by have := val_len hv; omega)⟩
          · cases h
        · rcases hbest with ⟨h, _⟩ | ⟨ws, rfl, hle⟩
          · rw [h] at hN; cases hN
          · have hsm3 : ∀ u ∈ ws, u < 3 := fun u hu => Nat.lt_of_lt_of_le (hle.1.lt u hu) hH3
            have hcp : (wayS ws).cps.toList = ws.map (· + 48) := sW_map ws hsm3
            have hwl := val_len hle.1
            refine ds_retV (d := encW ws) ((dv_tupL (ds := ((wayS ws).cps.toList.map fun c => PyData.str ⟨#[c]⟩).map (fun d => match d with | .str s => (match PySem.intText? s with | some i => .int i | none => .none) | _ => .none)) (DN.dl (dn_map _ (di_str (de_var rfl)) (by rw [List.length_map, hcp, List.length_map]; omega) fun H0' d hd => ?_))).is ?_) (.inr ⟨ws, rfl, hle⟩)
            · rw [hcp] at hd
              obtain ⟨c, hc, rfl⟩ := List.mem_map.mp hd
              obtain ⟨u, hu, rfl⟩ := List.mem_map.mp hc
              have e := fig_int (hsm3 u hu)
              refine ⟨_, dw_name (by decide), by cases s1 <;> repeat' (first | exact True.intro | rfl | refine ⟨?_, ?_⟩), ?_⟩
              dsimp only
              rw [e]
              exact dv_intS (de_var rfl) e (by show 1 ≤ 640; decide)
            · unfold encW
              rw [hcp, List.map_map, List.map_map]
              congr 1
              refine List.map_congr_left fun u hu => ?_
              show (match PySem.intText? ⟨#[u + 48]⟩ with | some i => PyData.int i | none => .none) = _
              rw [fig_int (hsm3 u hu)]
end
end WL
end
section
set_option Elab.async false
set_option linter.all false
set_option maxRecDepth 100000
namespace WL
open PySem PySem.Spec PyProof.Rows L2
/-- what is found -/
def HarmIs (n : Nat) (hands : List (List Ln)) (wishes : List (List Wish)) (d : PyData) : Prop := (d = .none ∧ ∀ vs, ValidW hands vs → kept hands wishes vs (woven n hands vs) = true) ∨ ∃ ws, d = encW ws ∧ isLeast n hands wishes ws
theorem w_anti {a b : List Nat} (h1 : ¬ a < b) (h2 : ¬ b < a) : a = b := List.le_antisymm (by simpa using h2) (by simpa using h1)
theorem isLeast_one {n : Nat} {hands : List (List Ln)} {wishes : List (List Wish)} {a b : List Nat} (h : isLeast n hands wishes a) (k : isLeast n hands wishes b) : a = b := by
  have h1 := h.2.2 b k.1 k.2.1
  have h2 := k.2.2 a h.1 h.2.1
  exact w_anti (by rcases h2 with z | ⟨_, z⟩ <;> rcases h1 with y | ⟨y, _⟩ <;> first | exact z | omega) (by rcases h1 with z | ⟨_, z⟩ <;> rcases h2 with y | ⟨y, _⟩ <;> first | exact z | omega)
theorem harmIs_one {n : Nat} {hands : List (List Ln)} {wishes : List (List Wish)} {d e : PyData} (h : HarmIs n hands wishes d) (k : HarmIs n hands wishes e) : d = e := by
  rcases h with ⟨rfl, h⟩ | ⟨ws, rfl, h⟩ <;> rcases k with ⟨rfl, k⟩ | ⟨us, rfl, k⟩
  · rfl
  · have := h us k.1; rw [k.2.1] at this; cases this
  · have := k ws h.1; rw [h.2.1] at this; cases this
  · rw [isLeast_one h k]
section
variable {P : Program} {w : World} {K : PySem.W.Frag} {mg : Str → Option Value} {base : Heap}
inductive rel_keeps : List PyData → (PyData → Prop) → Prop
  | mk (n : Nat) (fs : List Nat) (hands : List (List Ln)) (wishes : List (List Wish)) (hj : Judged n fs hands wishes) (hs : Small n fs hands) (e : PyData) (he : HarmIs n hands wishes e) : rel_keeps [encM n fs, encH hands, encWs wishes] fun d => d = .bool (isNone e)
inductive rel_harm : List PyData → (PyData → Prop) → Prop
  | mk (n : Nat) (fs : List Nat) (hands : List (List Ln)) (wishes : List (List Wish)) (hj : Judged n fs hands wishes) (hs : Small n fs hands) (e : PyData) (he : HarmIs n hands wishes e) : rel_harm [encM n fs, encH hands, encWs wishes] fun d => d = e
theorem dv_find {F : Fx} {E : XK} {tl : TA} {δ : List WSlot} {n : Nat} {fs : List Nat} {hands : List (List Ln)} {wishes : List (List Wish)} (h : DAs F tl δ [encM n fs, encH hands, encWs wishes]) (hj : Judged n fs hands wishes) (hs : Small n fs hands) {e : PyData} (he : HarmIs n hands wishes e) : DV F (tCall (spP F.K rel_find) [] E tl) δ e :=
  de_call h fun ds δ1 ⟨e1, e2⟩ => by
    subst e1; subst e2
    exact ⟨_, .mk n fs hands wishes hj hs, fun d hd => ⟨harmIs_one hd he, rfl⟩⟩
theorem ok_keeps (T : Top K mg) (G : GTop K mg) : FnOk P w K mg base CX0 15 T.keeps.f T.keeps.fd ["machine", "hands", "wishes"] (spP K rel_keeps) :=
  fnP T.keeps.F sc_keeps (fun ds Pd h => by cases h; rfl) fun cdv A outer s H E hr => by
    refine ⟨_, (pss_cons (ps_expr (pe_call (ok_check_judged T) (hr.mono (by omega)) rfl T.check_judged.m T.check_judged.F.kp T.check_judged.b .nil pass0 (pa_cons (pv 0) (pa_cons (pv 1) (pa_cons (pv 2) pa_nil)))))
    (pss_one (ps_ret (pe_cmpR op_isN (pe_call (ok_find_harm T G) (hr.mono (by omega)) rfl T.find_harm.m T.find_harm.F.kp T.find_harm.b .nil pass0 (pa_cons (pv 0) (pa_cons (pv 1) (pa_cons (pv 2) pa_nil)))) pe_non (nomark _))))), fun A0 ds Pd hrel => ?_⟩
    cases hrel with
    | mk n fs hands wishes hj hs e he =>
      refine dq_expr (dv_call (das_cons (de_var rfl) (das2 (de_var rfl) (de_var rfl))) (.mk n fs hands wishes hj)) ?_
      exact ds_retV (dv_isN (dv_find (das_cons (de_var rfl) (das2 (de_var rfl) (de_var rfl))) hj hs he)) rfl
theorem ok_harm (T : Top K mg) (G : GTop K mg) : FnOk P w K mg base CX0 15 T.harm.f T.harm.fd ["machine", "hands", "wishes"] (spP K rel_harm) :=
  fnP T.harm.F sc_harm (fun ds Pd h => by cases h; rfl) fun cdv A outer s H E hr => by
    refine ⟨_, (pss_cons (ps_expr (pe_call (ok_check_judged T) (hr.mono (by omega)) rfl T.check_judged.m T.check_judged.F.kp T.check_judged.b .nil pass0 (pa_cons (pv 0) (pa_cons (pv 1) (pa_cons (pv 2) pa_nil)))))
    (pss_one (ps_ret (pe_call (ok_find_harm T G) (hr.mono (by omega)) rfl T.find_harm.m T.find_harm.F.kp T.find_harm.b .nil pass0 (pa_cons (pv 0) (pa_cons (pv 1) (pa_cons (pv 2) pa_nil))))))), fun A0 ds Pd hrel => ?_⟩
    cases hrel with
    | mk n fs hands wishes hj hs e he =>
      refine dq_expr (dv_call (das_cons (de_var rfl) (das2 (de_var rfl) (de_var rfl))) (.mk n fs hands wishes hj)) ?_
      exact ds_retV (dv_find (das_cons (de_var rfl) (das2 (de_var rfl) (de_var rfl))) hj hs he) rfl
end
end WL
end
section
set_option Elab.async false
set_option linter.all false
set_option maxRecDepth 100000
namespace WL
open PySem PySem.Spec PyProof.Rows L2
/-! ### all but tables of code stays -/
abbrev ExtN : Hp → Hp → Prop := LamX.ExtN
theorem extN_ex {H H' : Hp} (e : Ex H H') : ExtN H H' := fun a o h _ => e a o h
theorem rd_extN {H H' : Hp} {a : Addr} {u : HO} (hu : ∀ ps, u ≠ .tbl ps) (e : ExtN H H') (h : Rd H a u) : Rd H' a u := by
  rcases h with h | ⟨o, h⟩
  · exact .inl (e _ _ h hu)
  · exact .inr ⟨o, e _ _ h fun ps z => by cases z⟩
mutual
theorem dp_extN {K : PySem.W.Frag} {H H' : Hp} (e : ExtN H H') : ∀ {d : PyData} {v : V}, Dt K H v d → Dt K H' v d
  | _, _, .non => .non
  | _, _, .bl b => .bl b
  | _, _, .int i => .int i
  | _, _, .str x => .str x
  | _, _, .lst h1 h2 => .lst (h1.imp (rd_extN (fun ps z => by cases z) e) id) (dpa_extN e h2)
  | _, _, .tup h1 h3 h2 => .tup (h1.imp (rd_extN (fun ps z => by cases z) e) id) (h3.imp (fun ⟨o, xs, q, r⟩ => ⟨o, xs, e _ _ q (fun ps z => by cases z), r⟩) id) (dpa_extN e h2)
theorem dpa_extN {K : PySem.W.Frag} {H H' : Hp} (e : ExtN H H') : ∀ {ds : List PyData} {vs : List V}, DtAll K H vs ds → DtAll K H' vs ds
  | _, _, .nil => .nil
  | _, _, .cons h1 h2 => .cons (dp_extN e h1) (dpa_extN e h2)
end
/-- the frame begins anew: what it owned but one list is data now -/
theorem reroot {K : PySem.W.Frag} {A : List Addr} {H H2 : Hp} {σ : List (Option V)} {δ δ2 : List WSlot} {r : Nat} {lr : Addr} {rds : List PyData} (s : SD K A H σ δ) (e : ExtN H H2) (hr : δ[r]? = some (.own lr rds)) (hl : δ2.length = δ.length)
    (h : ∀ (j : Nat) (w : WSlot), δ2[j]? = some w → w = .no ∨ (∃ d, w = .dat d ∧ (δ[j]? = some (.dat d) ∨ ∃ l ds, δ[j]? = some (.own l ds) ∧ d = .list ds ∧ j ≠ r)) ∨ (j = r ∧ w = .own lr rds)) :
    St ⟨K, H2, [lr], [lr]⟩ [lr] H2 σ δ2 := by
  obtain ⟨q1, q2, xs, q3, q4⟩ := s.own r lr rds hr
  have q3' : H2 lr = some (.lst xs) := e _ _ q3 fun ps z => by cases z
  have eh : ExtN (hid A H) (hid [lr] H2) := fun a o ha hn => by
    obtain ⟨h1, h2⟩ := hid_some ha
    rw [hid_out fun z => h1 (by rw [List.mem_singleton.mp z]; exact q2)]
    exact e _ _ h2 hn
  have foot : ∀ (j : Nat) (w : WSlot), δ2[j]? = some w → ∀ a ∈ w.foot, j = r ∧ a = lr := fun j w hj a ha => by
    rcases h j w hj with z | ⟨d, z, _⟩ | ⟨z1, z⟩
    · subst z; cases ha
    · subst z; cases ha
    · subst z; exact ⟨z1, List.mem_singleton.mp ha⟩
  refine ⟨⟨by rw [hl]; exact s.len, fun a ha => ?_, fun j w hj => ?_, fun i j w w' h1 h2 hne a ha hb => ?_⟩, Bs.start H2 [lr] [lr] (fun a ha => ?_) (fun a ha => ha), fun j w hj a ha => ?_⟩
  · rw [List.mem_singleton.mp ha, q3']; intro z; cases z
  · rcases h j w hj with z | ⟨d, z, k | ⟨l, ds, k1, k2, k3⟩⟩ | ⟨z1, z⟩
    · subst z; exact True.intro
    · subst z
      obtain ⟨v, e1, e2⟩ := s.dat j d k
      exact ⟨v, e1, dp_extN eh e2⟩
    · subst z; subst k2
      obtain ⟨p1, p2, ys, p3, p4⟩ := s.own j l ds k1
      refine ⟨_, p1, .lst (.inl (.inl ?_)) (dpa_extN eh p4)⟩
      rw [hid_out fun z => ?_]
      · exact e _ _ p3 fun ps z => by cases z
      · refine s.apart j r _ _ k1 hr k3 l (by simp [WSlot.foot]) ?_
        rw [List.mem_singleton.mp z]; simp [WSlot.foot]
    · subst z; subst z1
      exact ⟨q1, List.mem_singleton_self _, xs, q3', dpa_extN eh q4⟩
  · obtain ⟨e1, _⟩ := foot i w h1 a ha
    obtain ⟨e2, _⟩ := foot j w' h2 a hb
    exact hne (e1.trans e2.symm)
  · rw [List.mem_singleton.mp ha, q3']; intro z; cases z
  · obtain ⟨_, e1⟩ := foot j w hj a ha
    exact .inl (by rw [e1]; exact List.mem_singleton_self _)
/-! ### the weavings that the law lays -/
theorem lev_iff (hands : List (List Ln)) : ∀ (t : Nat) (ws : List Nat), ws ∈ lev (hands.map List.length) t ↔ ValidW hands ws ∧ ws.length = t
  | 0, ws => by
    show ws ∈ [[]] ↔ _
    rw [List.mem_singleton]
    constructor
    · rintro rfl; exact ⟨⟨fun h hh => (by cases hh), fun h r hr => (by simp)⟩, rfl⟩
    · rintro ⟨_, h⟩; exact List.eq_nil_of_length_eq_zero h
  | t + 1, ws => by
    have la : ∀ h, lenAt (hands.map List.length) h = rowLen hands h := fun h => by unfold lenAt rowLen; rw [List.getElem?_map]
    show ws ∈ (lev _ t).flatMap (nextW _) ↔ _
    rw [List.mem_flatMap]
    constructor
    · rintro ⟨u, hu, hw⟩
      obtain ⟨hv, hl⟩ := (lev_iff hands t u).mp hu
      obtain ⟨x, hx, rfl⟩ := List.mem_map.mp hw
      obtain ⟨hx1, hx2⟩ := List.mem_filter.mp hx
      have hx1 := List.mem_range.mp hx1
      rw [List.length_map] at hx1
      have hx2 := of_decide_eq_true hx2
      rw [la] at hx2
      exact ⟨val_snoc hv hx1 hx2, by rw [List.length_append, hl]; rfl⟩
    · rintro ⟨hv, hl⟩
      have hne : ws ≠ [] := fun z => by rw [z] at hl; cases hl
      have es := List.dropLast_concat_getLast hne
      have hv' : ValidW hands (ws.dropLast ++ [ws.getLast hne]) := by rw [es]; exact hv
      obtain ⟨h1, h2⟩ := val_last hv'
      refine ⟨ws.dropLast, (lev_iff hands t _).mpr ⟨valid_pre hv', by rw [List.length_dropLast, hl]; rfl⟩, ?_⟩
      have : ws.dropLast ++ [ws.getLast hne] ∈ nextW (hands.map List.length) ws.dropLast := List.mem_map.mpr ⟨_, List.mem_filter.mpr ⟨List.mem_range.mpr (by rw [List.length_map]; exact h1), decide_eq_true (by rw [la]; exact h2)⟩, rfl⟩
      rwa [es] at this
theorem found_iff (hands : List (List Ln)) : ∀ (t : Nat) (ws : List Nat), ws ∈ foundAt (hands.map List.length) t ↔ ValidW hands ws ∧ ws.length ≤ t
  | 0, ws => (lev_iff hands 0 ws).trans ⟨fun ⟨a, b⟩ => ⟨a, Nat.le_of_eq b⟩, fun ⟨a, b⟩ => ⟨a, Nat.le_zero.mp b⟩⟩
  | t + 1, ws => by
    show ws ∈ foundAt _ t ++ lev _ (t + 1) ↔ _
    rw [List.mem_append, found_iff hands t, lev_iff hands (t + 1)]
    constructor
    · rintro (⟨a, b⟩ | ⟨a, b⟩)
      · exact ⟨a, by omega⟩
      · exact ⟨a, by omega⟩
    · rintro ⟨a, b⟩
      by_cases e : ws.length = t + 1
      · exact .inr ⟨a, e⟩
      · exact .inl ⟨a, by omega⟩
theorem weavs_iff (hands : List (List Ln)) (ws : List Nat) : ws ∈ weavs (hands.map List.length) ↔ ValidW hands ws := by
  unfold weavs
  rw [found_iff]
  exact ⟨fun h => h.1, fun h => ⟨h, val_len h⟩⟩
/-! ### equal data -/
theorem eqv_nats : ∀ a b : List Nat, PyData.eqv (encW a) (encW b) = decide (a = b)
  | [], [] => rfl
  | [], y :: b => rfl
  | x :: a, [] => rfl
  | x :: a, y :: b => by
    have ih : PyData.eqv (encW a) (encW b) = decide (a = b) := eqv_nats a b
    show (PyData.eqv (dN x) (dN y) && PyData.eqv (encW a) (encW b)) = _
    rw [ih, eqv_nat]; simp
def allW (bads : List (List Nat)) (ws : List Nat) : Bool := (bads.map encW).any fun z => PyData.eqv z (encW ws)
theorem allW_eq (bads : List (List Nat)) (ws : List Nat) : allW bads ws = decide (ws ∈ bads) := by
  unfold allW
  rw [List.any_map]
  rw [Bool.eq_iff_iff, List.any_eq_true, decide_eq_true_iff]
  constructor
  · rintro ⟨x, hx, e⟩
    have e : PyData.eqv (encW x) (encW ws) = true := e
    rw [eqv_nats] at e
    rw [← of_decide_eq_true e]; exact hx
  · intro h
    exact ⟨ws, h, by show PyData.eqv (encW ws) (encW ws) = true; rw [eqv_nats]; exact decide_eq_true rfl⟩
theorem fits_of {hands : List (List Ln)} {ws : List Nat} (hv : ValidW hands ws) : fits hands ws = true := by
  unfold fits
  rw [List.all_eq_true]
  intro h hh
  have hlt := List.mem_range.mp hh
  have e : hands[h]? = some hands[h] := List.getElem?_eq_getElem hlt
  have := hv.le h _ e
  exact decide_eq_true (by rw [show rowLen hands h = (hands[h]).length by unfold rowLen; rw [e]; rfl]; exact this)
/-- what the law's harmful ones are -/
def badWs (n : Nat) (hands : List (List Ln)) (wishes : List (List Wish)) : List (List Nat) := (weavs (hands.map List.length)).filter fun ws => !kept hands wishes ws (woven n hands ws)
theorem badWs_iff {n : Nat} {hands : List (List Ln)} {wishes : List (List Wish)} {ws : List Nat} : ws ∈ badWs n hands wishes ↔ ValidW hands ws ∧ kept hands wishes ws (woven n hands ws) = false := by
  unfold badWs
  rw [List.mem_filter, weavs_iff]
  simp
theorem bad_fits {n : Nat} {hands : List (List Ln)} {wishes : List (List Wish)} {ws : List Nat} (h : ∀ x ∈ ws, x < hands.length) : decide (ws ∈ badWs n hands wishes) = (fits hands ws && !kept hands wishes ws (woven n hands ws)) := by
  rw [Bool.eq_iff_iff, decide_eq_true_iff, badWs_iff, Bool.and_eq_true]
  constructor
  · rintro ⟨a, b⟩; exact ⟨fits_of a, by rw [b]; rfl⟩
  · rintro ⟨a, b⟩; exact ⟨fits_valid h a, by simpa using b⟩
/-- .. and the least of them -/
theorem bad_none {n : Nat} {hands : List (List Ln)} {wishes : List (List Wish)} (h : badWs n hands wishes = []) : HarmIs n hands wishes .none := .inl ⟨rfl, fun vs hv => by
  cases e : kept hands wishes vs (woven n hands vs) with
  | true => rfl
  | false =>
    have := badWs_iff.mpr ⟨hv, e⟩
    rw [h] at this; cases this⟩
theorem bad_least {n : Nat} {hands : List (List Ln)} {wishes : List (List Wish)} {ws : List Nat} (h : ws ∈ badWs n hands wishes) (hl : ∀ us ∈ badWs n hands wishes, ws.length < us.length ∨ (ws.length = us.length ∧ ¬ us < ws)) : HarmIs n hands wishes (encW ws) := .inr ⟨ws, rfl, (badWs_iff.mp h).1, (badWs_iff.mp h).2, fun vs hv hk => hl vs (badWs_iff.mpr ⟨hv, hk⟩)⟩
/-! ### min(bad, key=lambda one: (len(one), one)), as it is read -/
def tMinLam (K : PySem.W.Frag) (T : List (Addr × Str)) (i : Nat) : TE := fun σ H Q => LamX.Tabs T H ∧ ∃ (l : Addr) (xs : List V) (wss : List (List Nat)), σ[i]? = some (some (.ref l)) ∧ SqL K H l xs ∧ DtAll K H xs (wss.map encW) ∧ wss ≠ [] ∧ wss.length ≤ 30000 ∧ (∀ ws ∈ wss, ws.length ≤ 100) ∧
  ∀ (j : Nat) (x : V) (ws : List Nat), xs[j]? = some x → wss[j]? = some ws → (∀ us ∈ wss, ws.length < us.length ∨ (ws.length = us.length ∧ ¬ us < ws)) → ∀ H1, ExtN H H1 → Q x H1
end WL
end
section
set_option Elab.async false
set_option linter.all false
set_option maxRecDepth 100000
namespace WL
open PySem PySem.Spec PyProof.Rows L2
theorem lay_nats : ∀ ws : List Nat, PyData.canLayAll0 (ws.map dN) = true
  | [] => rfl
  | x :: ws => by show (true && PyData.canLayAll0 (ws.map dN)) = true; rw [lay_nats ws]; rfl
theorem lay_ws : ∀ bs : List (List Nat), PyData.canLayAll0 (bs.map encW) = true
  | [] => rfl
  | x :: bs => by show (PyData.canLayAll0 (x.map dN) && PyData.canLayAll0 (bs.map encW)) = true; rw [lay_nats, lay_ws bs]; rfl
theorem dep_nats : ∀ ws : List Nat, PyData.depthAll (ws.map dN) = 0
  | [] => rfl
  | x :: ws => by show max 0 (PyData.depthAll (ws.map dN)) = 0; rw [dep_nats ws]; rfl
theorem dep_w (ws : List Nat) : (encW ws).depth ≤ 1 := by show PyData.depthAll (ws.map dN) + 1 ≤ 1; rw [dep_nats]; decide
theorem dep_ws : ∀ bs : List (List Nat), PyData.depthAll (bs.map encW) ≤ 1
  | [] => by show 0 ≤ 1; decide
  | x :: bs => by
    show max (encW x).depth (PyData.depthAll (bs.map encW)) ≤ 1
    have := dep_w x; have := dep_ws bs; omega
theorem shaped_w (ws : List Nat) : SeqAt.shaped (encW ws) = true := by
  unfold SeqAt.shaped
  have := dep_w ws
  rw [show (encW ws).canLay0 = true from lay_nats ws, decide_eq_true (by omega)]; rfl
theorem shaped_ws (bs : List (List Nat)) : SeqAt.shaped (.list (bs.map encW)) = true := by
  unfold SeqAt.shaped
  have h := dep_ws bs
  have : (PyData.list (bs.map encW)).depth ≤ 2 := by show PyData.depthAll (bs.map encW) + 1 ≤ 2; omega
  rw [show (PyData.list (bs.map encW)).canLay0 = true from lay_ws bs, decide_eq_true (by omega)]; rfl
section
variable {F : Fx} {ta tb te : TE} {δ : List WSlot} {d : PyData}
theorem dv_inD {ds : List PyData} (ha : DV F ta δ d) (hb : DV F tb δ (.list ds)) (h1 : SeqAt.shaped d = true) (h2 : SeqAt.shaped (.list ds) = true) : DV F (tOp (rInD F.K) ta tb) δ (.bool (ds.any fun z => PyData.eqv z d)) := dv_op ha hb fun A H x y l k1 k2 Q q =>
  ⟨d, ds, (dp_ex hid_le k1).dp, (dp_ex hid_le k2).dp, h1, h2, q _ _ H rfl (WL.Ex.refl _) (.bl _)⟩
theorem di_listE {PI : List PyData → List WSlot → Prop} (h : DE F te δ fun d δ' => ∃ es, d = .list es ∧ PI es δ') : DI F (iList F.K te) δ PI := fun A H σ s R' q => h A H σ s _ fun v d δ' H1 ⟨es, e1, p⟩ s1 x1 hd => by
  subst e1
  obtain ⟨a, xs, rfl, h1, h2⟩ := dp_lst hd
  refine ⟨a, rfl, ⟨xs, sql_ex hid_le h1⟩, q _ es _ H1 p s1 x1 ⟨fun i A2 H2 hi e => ?_, fun A2 H2 e => ⟨xs, sql_ex (e.trans hid_le) h1, Nat.le_of_eq h2.len⟩, fun i A2 H2 x H3 hi e l y => ?_⟩⟩
  · exact ⟨xs, xs[i]'(by rw [h2.len]; exact hi), sql_ex (e.trans hid_le) h1, by simp [h2.len, hi]⟩
  · obtain ⟨rfl, y2⟩ := y
    refine ⟨WL.Ex.refl _, ?_⟩
    obtain ⟨d, ed, hd⟩ := (dpa_ex e h2).getV (y2 xs (sql_ex (e.trans hid_le) h1))
    exact ⟨d, ed, hd⟩
theorem de_pick {E : XK} {tm : TE} {i : Nat} {l : Addr} {ns : List Int} {ds things : List PyData} (ho : δ[i]? = some (.own l ds)) (hR : RowOk ns ds) (h3 : ns.length ≤ 63) (h1 : 0 < things.length) (h2 : things.length ≤ 10000) (hm : DV F tm δ (.list things)) :
    DE F (tCall (spO F.K rel_pick) [] E (tCons (tVar i) (tCons tm tNil))) δ fun d δ' => ∃ rds, RowOk ns rds ∧ d ∈ things ∧ δ' = δ.set i (.own l rds) :=
  de_callO ho (das1 hm) fun es δ1 ⟨e1, e2⟩ => by
    subst e1; subst e2
    exact ⟨ds, _, ho, .mk ns ds things hR h1 h2 h3, fun d ds' ⟨⟨x, hx⟩, hR⟩ => ⟨ds', hR, List.mem_of_getElem? hx, rfl⟩⟩
end
/-- a value that is shown to shows_harm -/
def VOk (n : Nat) (fs : List Nat) (hands : List (List Ln)) (wishes : List (List Wish)) (v : PyData) : Prop := SeqAt.shaped v = true ∧ ∃ b, rel_shows [encM n fs, encH hands, encWs wishes, v] (fun z => z = .bool b) ∧
  ((isTupD v = false ∧ b = false) ∨ ∃ ds, v = .tuple ds ∧ ds.length ≤ 100 ∧ (((badWs n hands wishes).map encW).any (fun z => PyData.eqv z v) && PyData.eqv (.list ((ds.filter isBoolD).map fun _ => dN 1)) (.list [])) = b)
section
variable {n : Nat} {fs : List Nat} {hands : List (List Ln)} {wishes : List (List Wish)}
theorem vok_odd (hj : Judged n fs hands wishes) {v : PyData} (h : isTupD v = false) (hs : SeqAt.shaped v = true) : VOk n fs hands wishes v := ⟨hs, false, .odd n fs hands wishes hj v h, .inl ⟨h, rfl⟩⟩
theorem noB (ws : List Nat) : (ws.map dN).filter isBoolD = [] := by
  rw [List.filter_eq_nil_iff]
  intro a ha
  obtain ⟨x, _, rfl⟩ := List.mem_map.mp ha
  intro z; cases z
theorem vok_w (hj : Judged n fs hands wishes) {ws : List Nat} (h : ∀ x ∈ ws, x < hands.length) (hl : ws.length ≤ 100) : VOk n fs hands wishes (encW ws) := ⟨shaped_w ws, _, .nums n fs hands wishes hj ws hl h, .inr ⟨_, rfl, by rw [List.length_map]; exact hl, by
  rw [noB]
  show (allW (badWs n hands wishes) ws && true) = _
  rw [Bool.and_true, allW_eq, bad_fits h]⟩⟩
theorem vok_many (hj : Judged n fs hands wishes) : VOk n fs hands wishes (.tuple [dN hands.length]) := ⟨shaped_w [hands.length], false, .off n fs hands wishes hj [dN hands.length] (by show 1 ≤ 100; decide) (by
  show (betw (dN hands.length) 0 ((hands.length : Int) - 1) && true) = false
  rw [Bool.and_true]
  show (decide ((0 : Int) ≤ (hands.length : Nat)) && decide (((hands.length : Nat) : Int) ≤ (hands.length : Int) - 1)) = false
  rw [show decide (((hands.length : Nat) : Int) ≤ (hands.length : Int) - 1) = false from decide_eq_false (by omega), Bool.and_false]), .inr ⟨_, rfl, by show 1 ≤ 100; decide, by
  show (allW (badWs n hands wishes) [hands.length] && _) = false
  rw [allW_eq, decide_eq_false fun z => ?_, Bool.false_and]
  exact Nat.lt_irrefl _ ((badWs_iff.mp z).1.lt hands.length (by simp))⟩⟩
theorem vok_true (hj : Judged n fs hands wishes) : VOk n fs hands wishes (.tuple [.bool true]) := ⟨by decide +kernel, false, .off n fs hands wishes hj [.bool true] (by show 1 ≤ 100; decide) rfl, .inr ⟨_, rfl, by show 1 ≤ 100; decide, by
  show (_ && PyData.eqv (.list [dN 1]) (.list [])) = false
  rw [show PyData.eqv (.list [dN 1]) (.list []) = false from by decide +kernel, Bool.and_false]⟩⟩
end
theorem decW_ex (ws : List Nat) : ∃ f : PyData → List Nat, True := ⟨fun _ => [], trivial⟩
def decW : PyData → List Nat
  | .tuple ds => ds.map fun d => match d with | .int i => i.toNat | _ => 0
  | _ => []
theorem decW_enc (ws : List Nat) : decW (encW ws) = ws := by
  show (ws.map dN).map _ = ws
  rw [List.map_map]
  have : ∀ x ∈ ws, ((fun d : PyData => match d with | .int i => i.toNat | _ => 0) ∘ dN) x = id x := fun x _ => by show ((x : Nat) : Int).toNat = x; exact Int.toNat_natCast x
  rw [List.map_congr_left this, List.map_id]
section
variable {P : Program} {w : World} {K : PySem.W.Frag} {mg : Str → Option Value} {base : Heap}
def lawS (ns : List Int) (s1 s2 : WSlot) (M : PyData) (many : Nat) (hands : List (List Ln)) (wishes : List (List Wish)) (bads : List PyData) (due v f : WSlot) : List WSlot :=
  [s1, s2, .dat M, .dat (dN many), .dat (encH hands), .dat (encWs wishes), .dat (.list ((weavs (hands.map List.length)).map encW)), .no, .dat (.list bads), .no, due, v, f]
theorem tabs_hid {TL : List (Addr × Str)} {A : List Addr} {H : Hp} (h : LamX.Tabs TL (hid A H)) : LamX.Tabs TL H := h.ext fun a o e => hid_le a o e
/-- due = min(..) if bad != [] else None; the rest -/
theorem due_step {TL : List (Addr × Str)} {u : TS} {D : Ends} {H : Hp} {lr : Addr} {rds : List PyData} {σ : List (Option V)} {n : Nat} {M : PyData} {many : Nat} {hands : List (List Ln)} {wishes : List (List Wish)} (ns : List Int) (ht : totLen hands ≤ 7) (h3 : hands.length ≤ 3)
    (s : St ⟨K, H, [lr], [lr]⟩ [lr] H σ (lawS ns .no (.own lr rds) M many hands wishes ((badWs n hands wishes).map encW) .no .no .no)) (hT : LamX.Tabs TL (hid [lr] H))
    (hu : ∀ H2 σ2 due, HarmIs n hands wishes due → St ⟨K, H2, [lr], [lr]⟩ [lr] H2 σ2 (lawS ns .no (.own lr rds) M many hands wishes ((badWs n hands wishes).map encW) (.dat due) .no .no) → u D σ2 H2) :
    tSeq (tAsg (tIf (tTest (tOp (rNeD K) (tVar 8) (tLst tNil))) (tMinLam K TL 8) (tC .non)) (gName 10)) u D σ H := by
  have hbl : (badWs n hands wishes).length ≤ 30000 := by
    refine Nat.le_trans (List.length_filter_le _ _) ?_
    unfold weavs
    have h1 := found_len (hands.map List.length) (by rw [List.length_map]; exact h3) (hands.map List.length).sum
    have h2 : 3 ^ ((hands.map List.length).sum + 1) ≤ 6561 := pow3_le (by have : (hands.map List.length).sum ≤ 7 := ht; omega)
    omega
  have hb : DB ⟨K, H, [lr], [lr]⟩ (tTest (tOp (rNeD K) (tVar 8) (tLst tNil))) (lawS ns .no (.own lr rds) M many hands wishes ((badWs n hands wishes).map encW) .no .no .no) (!PyData.eqv (.list ((badWs n hands wishes).map encW)) (.list [])) :=
    db_test (dv_neD (de_var rfl) (dv_lst da_nil (by decide)) (shaped_ws _) (shaped_ws []))
  show tTest (tOp (rNeD K) (tVar 8) (tLst tNil)) σ H _
  refine hb [lr] H σ s _ fun b δ1 H1 ⟨e1, e2⟩ s1 x1 => ?_
  subst e2
  have T1 : LamX.Tabs TL H1 := tabs_hid (hT.ext fun a o e => x1 a o e)
  have next : ∀ (x : V) (due : PyData) (H2 : Hp), ExtN H1 H2 → HarmIs n hands wishes due → Dt K (hid [lr] H2) x due → u D (σ.set 10 (some x)) H2 := fun x due H2 e hD hx => by
    refine hu H2 _ due hD ?_
    have := reroot (δ2 := lawS ns .no (.own lr rds) M many hands wishes ((badWs n hands wishes).map encW) .no .no .no) s1.sd e (r := 1) (lr := lr) (rds := rds) rfl rfl fun j w' hj => by
      match j, hj with
      | 0, hj => simp [lawS] at hj; exact .inl hj.symm
      | 1, hj => simp [lawS] at hj; exact .inr (.inr ⟨rfl, hj.symm⟩)
      | 2, hj => simp [lawS] at hj; exact .inr (.inl ⟨_, hj.symm, .inl rfl⟩)
      | 3, hj => simp [lawS] at hj; exact .inr (.inl ⟨_, hj.symm, .inl rfl⟩)
      | 4, hj => simp [lawS] at hj; exact .inr (.inl ⟨_, hj.symm, .inl rfl⟩)
      | 5, hj => simp [lawS] at hj; exact .inr (.inl ⟨_, hj.symm, .inl rfl⟩)
      | 6, hj => have hj : some _ = some w' := hj; exact .inr (.inl ⟨_, (Option.some.inj hj).symm, .inl rfl⟩)
      | 7, hj => simp [lawS] at hj; exact .inl hj.symm
      | 8, hj => have hj : some _ = some w' := hj; exact .inr (.inl ⟨_, (Option.some.inj hj).symm, .inl rfl⟩)
      | 9, hj => simp [lawS] at hj; exact .inl hj.symm
      | 10, hj => simp [lawS] at hj; exact .inl hj.symm
      | 11, hj => simp [lawS] at hj; exact .inl hj.symm
      | 12, hj => simp [lawS] at hj; exact .inl hj.symm
      | j + 13, hj => simp [lawS] at hj
    exact this.set hx
  cases hbs : badWs n hands wishes with
  | nil =>
    rw [hbs] at e1
    have : b = false := e1
    subst this
    rw [if_neg (by decide)]
    exact next .non .none H1 (LamX.ExtN.refl H1) (bad_none hbs) .non
  | cons y ys =>
    rw [hbs] at e1
    have : b = true := e1
    subst this
    rw [if_pos rfl]
    obtain ⟨v, v1, v2⟩ := s1.sd.dat 8 (.list ((badWs n hands wishes).map encW)) rfl
    obtain ⟨a, xs, rfl, k1, k2⟩ := dp_lst v2
    refine ⟨T1, a, xs, badWs n hands wishes, v1, sql_ex hid_le k1, dpa_ex hid_le k2, (by rw [hbs]; intro z; cases z), hbl, fun ws hws => ?_, fun j x ws hx hws hle H2 e => ?_⟩
    · have := val_len (badWs_iff.mp hws).1; omega
    · refine next x (encW ws) H2 e (bad_least (List.mem_of_getElem? hws) hle) ?_
      have eh : ExtN (hid [lr] H1) (hid [lr] H2) := fun a o ha hn => by
        obtain ⟨q1, q2⟩ := hid_some ha
        rw [hid_out q1]; exact e _ _ q2 hn
      obtain ⟨d, hd, hdt⟩ := (dpa_extN eh k2).getV hx
      rw [List.getElem?_map, hws] at hd
      have : encW ws = d := Option.some.inj hd
      rw [this]; exact hdt
end
end WL
end
section
set_option Elab.async false
set_option linter.all false
set_option maxRecDepth 100000
namespace WL
open PySem PySem.Spec PyProof.Rows L2
def asgVal : Stmt → Expr | .Assign _ v _ => v | _ => .Name "" ⟨0, 0, 0, 0⟩
def ifThenE : Expr → Expr | .IfExp _ a _ _ => a | e => e
abbrev minExpr : Expr := ifThenE (asgVal ((defBody st_law).getD 6 (.Pass ⟨0, 0, 0, 0⟩)))
abbrev lawN : List Str := ["script", "row", "machine", "many", "hands", "wishes", "weavings", "own", "bad", "one", "due", "value", "fine"]
def spLaw (K : PySem.W.Frag) (TL : List (Addr × Str)) : Sp := fun vs H Q _ => LamX.Tabs TL H ∧ ∃ (a : Addr) (ns : List Int), vs = [.ref a] ∧ ns.length ≤ 63 ∧ SqL K H a (ns.map V.int) ∧ ∀ H', Q (.bl true) H'
theorem hu66 {A : Around} {k : Nat} (hr : Room k A) : A.units + 65 < cLine := by have := hr.un; omega
section
variable {P : Program} {w : World} {K : PySem.W.Frag} {mg : Str → Option Value} {base : Heap}
theorem ok_law (T : Top K mg) (G : GTop K mg) (TL : List (Addr × Str))
    (hmin : ∀ (cdv : Value) (A : Around) (outer : List Env) (s : Shared) (H : Hp) (E : XK), T.law.fd.code = cdv → Room 18 (A.deeper (envOfC "law" (defScope st_law) s.heap.objs.size T.law.f cdv)) →
      PE (cxOf CX0 P w K mg base lawN "law" (defScope st_law) T.law.f cdv A outer s H E).nox minExpr (tMinLam K TL 8)) :
    FnOk P w K mg base CX0 19 T.law.f T.law.fd ["script"] (spLaw K TL) := by
  obtain ⟨oc, od, kV, doc, pm, an, cdv, ct, osl, hfd, lk, hcd⟩ := T.law.F.ex
  have hcode : T.law.fd.code = cdv := by rw [hfd]
  rw [hfd] at lk
  suffices h : FnOk P w K mg base CX0 19 T.law.f (PySem.W.fnOf "law" "law" (defArgs st_law) (defBody st_law) (defScope st_law) .none kV doc pm an cdv ct) ["script"] (spLaw K TL) by rw [hfd]; exact h
  refine fn_of lk hcd sc_law (fun vs H Q E ⟨_, a, ns, h, _⟩ => by rw [h]; rfl) fun A outer s H vs Q E hr hsp => ?_
  have hmin := hmin cdv A outer s H E hcode hr
  refine ⟨_, PSs.nox (pss_cons (ps_set (i := 1) sc_law.nd rfl (by first | exact Or.inl rfl | exact Or.inr rfl) (pe_lst (pa_cons (pv 0) (pa_cons pe_int (pa_cons pe_int (pa_cons pe_int pa_nil))))))
    (pss_cons (ps_set (i := 2) sc_law.nd rfl (by first | exact Or.inl rfl | exact Or.inr rfl) (pe_call (ok_law_machine T) (hr.mono (by omega)) rfl T.law_machine.m T.law_machine.F.kp T.law_machine.b .nil pass0 (pa_cons (pv 1) (pa_cons pe_int pa_nil))))
    (pss_cons (ps_set (i := 3) sc_law.nd rfl (by first | exact Or.inl rfl | exact Or.inr rfl) (pe_op op_add pe_int (pe_call (ok_law_taken T) (hr.mono (by omega)) rfl T.law_taken.m T.law_taken.F.kp T.law_taken.b .nil pass0 (pa_cons (pv 1) (pa_cons pe_int pa_nil)))))
    (pss_cons (ps_set (i := 4) sc_law.nd rfl (by first | exact Or.inl rfl | exact Or.inr rfl) (pe_call (ok_law_hands T) (hr.mono (by omega)) rfl T.law_hands.m T.law_hands.F.kp T.law_hands.b .nil pass0 (pa_cons (pv 1) (pa_cons (pv 2) (pa_cons (pv 3) (pa_cons (pe_ifExp (pt_cmpR op_lt (pv 3) pe_int (nomark _)) pe_int pe_int) pa_nil))))))
    (pss_cons (ps_asg (pe_tupN (pa_cons (pe_call (ok_law_wishes T) (hr.mono (by omega)) rfl T.law_wishes.m T.law_wishes.F.kp T.law_wishes.b .nil pass0 (pa_cons (pv 1) (pa_cons (pv 2) (pa_cons (pv 4) pa_nil)))) (pa_cons (pe_call (ok_law_weavings T) (hr.mono (by omega)) rfl T.law_weavings.m T.law_weavings.F.kp T.law_weavings.b .nil pass0 (pa_cons (pe_lc (own := [("own", 7)]) rfl sc_law.nd (pi_tup (pv 4)) (blkOk_by (own := [("own", 7)]) (N := ["script", "row", "machine", "many", "hands", "wishes", "weavings", "own", "bad", "one", "due", "value", "fine"]) (sc := (defScope (topS 60))) (by decide +kernel)) (fun _ _ _ _ _ => (pg_name (i := 7) sc_law.nd rfl (by first | exact Or.inl rfl | exact Or.inr rfl))) (fun _ _ _ _ _ => pts_nil) (fun _ _ _ _ _ => (pe_callB (r := rLenQ K) call_len_seq (by rfl) T.n_len PySem.boot_len (pa_cons (pv 7) pa_nil)))) pa_nil)) pa_nil))) (pg_tup rfl (pgs_cons (pg_name (i := 5) sc_law.nd rfl (by first | exact Or.inl rfl | exact Or.inr rfl)) (pgs_cons (pg_name (i := 6) sc_law.nd rfl (by first | exact Or.inl rfl | exact Or.inr rfl)) pgs_nil))))
    (pss_cons (ps_setLc (i := 8) (own := [("one", 9)]) rfl sc_law.nd rfl rfl (sw_true rfl rfl rfl (by decide +kernel)) (pi_list (pv 6)) (blkOk_by (own := [("one", 9)]) (N := ["script", "row", "machine", "many", "hands", "wishes", "weavings", "own", "bad", "one", "due", "value", "fine"]) (sc := (defScope (topS 60))) (by decide +kernel)) (fun _ _ _ _ _ => (pg_name (i := 9) sc_law.nd rfl (by first | exact Or.inl rfl | exact Or.inr rfl))) (fun _ _ _ _ _ => pts_one (pt_not (pt_val (pe_call (ok_law_kept T) (hr.mono (by omega)) rfl T.law_kept.m T.law_kept.F.kp T.law_kept.b .nil pass0 (pa_cons (pv 4) (pa_cons (pv 5) (pa_cons (pv 9) (pa_cons (pe_call (ok_law_woven T) (hr.mono (by omega)) rfl T.law_woven.m T.law_woven.F.kp T.law_woven.b .nil pass0 (pa_cons (pv 2) (pa_cons (pv 4) (pa_cons (pv 9) pa_nil)))) pa_nil)))))))) (fun _ _ _ _ _ => (pv 9)))
    (pss_cons (ps_set (i := 10) sc_law.nd rfl (by first | exact Or.inl rfl | exact Or.inr rfl) (pe_ifExp (pt_cmpR (r := rNeD K) (op_neD hr.units) (pv 8) (pe_lst pa_nil) (nomark _)) hmin pe_non))
    (pss_cons (ps_if (PW.pt (pw_or (pt_not (pt_val (pe_call (ok_law_is T) (hr.mono (by omega)) rfl T.law_is.m T.law_is.F.kp T.law_is.b .nil pass0 (pa_cons (pe_call (ok_keeps T G) (hr.mono (by omega)) rfl T.keeps.m T.keeps.F.kp T.keeps.b .nil pass0 (pa_cons (pv 2) (pa_cons (pv 4) (pa_cons (pv 5) pa_nil)))) (pa_cons (pe_cmpR op_isN (pv 10) pe_non (nomark _)) pa_nil))))) (pw_or1 (pt_not (pt_val (pe_call (ok_law_alike T) (hr.mono (by omega)) rfl T.law_alike.m T.law_alike.F.kp T.law_alike.b .nil pass0 (pa_cons (pe_call (ok_harm T G) (hr.mono (by omega)) rfl T.harm.m T.harm.F.kp T.harm.b .nil pass0 (pa_cons (pv 2) (pa_cons (pv 4) (pa_cons (pv 5) pa_nil)))) (pa_cons (pv 10) pa_nil)))))))) (pss_one (ps_ret pe_bl)) pss_nil)
    (pss_cons (ps_for PassesOwn.never rfl (pi_list (pe_lst (pa_cons (pv 10) (pa_cons (pe_call (ok_law_pick T) (hr.mono (by omega)) rfl T.law_pick.m T.law_pick.F.kp T.law_pick.b .nil pass0 (pa_cons (pv 1) (pa_cons (pv 6) pa_nil))) (pa_cons (pe_call (ok_law_pick T) (hr.mono (by omega)) rfl T.law_pick.m T.law_pick.F.kp T.law_pick.b .nil pass0 (pa_cons (pv 1) (pa_cons (pe_lst (pa_cons pe_non (pa_cons (pe_lst (pa_cons pe_int pa_nil)) (pa_cons (pe_tupN (pa_cons (pv 3) pa_nil)) (pa_cons (pe_op (r := rRepN K) op_repN (pe_tupN (pa_cons pe_int pa_nil)) pe_int) (pa_cons (pe_tupN (pa_cons pe_bl pa_nil)) (pa_cons pe_str pa_nil))))))) pa_nil))) pa_nil))))) (pg_name (i := 11) sc_law.nd rfl (by first | exact Or.inl rfl | exact Or.inr rfl)) (pss_cons (ps_set (i := 12) sc_law.nd rfl (by first | exact Or.inl rfl | exact Or.inr rfl) (pe_and (pe_callB (r := rIsi K) call_isi (by rfl) T.n_isinstance (by decide +kernel) (pa_cons (pv 11) (pa_cons (pe_bltn (v := .ty "tuple") (u := .type "tuple") (by rfl) T.n_tuple (by decide +kernel) rfl) pa_nil))) (pe_and (pe_cmpR (r := rInD K) (op_inD (hu66 hr)) (pv 11) (pv 8) rfl) (pe_one (pe_cmpR (r := rEqD K) (op_eqD hr.units) (pe_lc (own := [("one", 9)]) rfl sc_law.nd (pi_tup (pv 11)) (blkOk_by (own := [("one", 9)]) (N := ["script", "row", "machine", "many", "hands", "wishes", "weavings", "own", "bad", "one", "due", "value", "fine"]) (sc := (defScope (topS 60))) (by decide +kernel)) (fun _ _ _ _ _ => (pg_name (i := 9) sc_law.nd rfl (by first | exact Or.inl rfl | exact Or.inr rfl))) (fun _ _ _ _ _ => pts_one (pt_val (pe_callB (r := rIsi K) call_isi (by rfl) T.n_isinstance (by decide +kernel) (pa_cons (pv 9) (pa_cons (pe_bltn (v := .ty "bool") (u := .type "bool") (by rfl) T.n_bool (by decide +kernel) rfl) pa_nil))))) (fun _ _ _ _ _ => pe_int)) (pe_lst pa_nil) (nomark _))))))
    (pss_one (ps_if (pt_not (pt_val (pe_call (ok_law_is T) (hr.mono (by omega)) rfl T.law_is.m T.law_is.F.kp T.law_is.b .nil pass0 (pa_cons (pe_call (ok_shows_harm T) (hr.mono (by omega)) rfl T.shows_harm.m T.shows_harm.F.kp T.shows_harm.b .nil pass0 (pa_cons (pv 2) (pa_cons (pv 4) (pa_cons (pv 5) (pa_cons (pv 11) pa_nil))))) (pa_cons (pv 12) pa_nil))))) (pss_one (ps_ret pe_bl)) pss_nil))))
    (pss_one (ps_ret pe_bl))))))))))), ?_⟩
  obtain ⟨hT, a, ns, rfl, h63, hS, hQ⟩ := hsp
  have s0 : St ⟨K, H, [], []⟩ [] H (L2.start lawN [.ref a]) [.dat (.list (ns.map .int)), .no, .no, .no, .no, .no, .no, .no, .no, .no, .no, .no, .no] := by
    have : DtAll K (hid [] H) [.ref a] [.list (ns.map .int)] := by
      rw [hid_nil]
      refine .cons (.lst hS ?_) .nil
      clear hS h63
      induction ns with
      | nil => exact .nil
      | cons i r ih => exact .cons (.int i) ih
    exact st_start (N := lawN) (fun a ha => by cases ha) this
  -- row
  refine ds_run (N1 := fun δ => ∃ lr rds, RowOk ns rds ∧ δ = [.dat (.list (ns.map .int)), .own lr rds, .no, .no, .no, .no, .no, .no, .no, .no, .no, .no, .no]) (ds_setN (dn_lst (PA := is1 _ [.list (ns.map .int), .int 0, .int 4302, .int 0]) (das_cons (de_var rfl) (das_cons de_int (das2 de_int de_int))) (fun ds δ' ⟨e, _⟩ => by rw [e]; show 4 ≤ 100000; decide) |>.mono fun ds δ' ⟨e1, e2⟩ l => ⟨l, ds, ⟨0, 4302, 0, by decide, e1⟩, by rw [e2]; rfl⟩)) s0 ?_
  rintro δ1 A1 H1 σ1 ⟨lr, rds, hR, rfl⟩ s1 x1
  -- machine
  refine ds_run (N1 := fun δ => ∃ rds n fs, RowOk ns rds ∧ MachOk n fs ∧ δ = [.dat (.list (ns.map .int)), .own lr rds, .dat (encM n fs), .no, .no, .no, .no, .no, .no, .no, .no, .no, .no]) (ds_set (de_callO (l := lr) rfl (das1 (de_int (i := 3))) fun es δ1 ⟨e1, e2⟩ => by
    subst e1; subst e2
    exact ⟨rds, _, rfl, .mk ns rds 3 hR (by decide) (by decide) h63, fun d ds' ⟨⟨n, fs, hm, _, _, hd⟩, hR⟩ => ⟨ds', n, fs, hR, hm, by rw [hd]; rfl⟩⟩)) s1 ?_
  rintro δ2 A2 H2 σ2 ⟨rds, n, fs, hR, hm, rfl⟩ s2 x2
  -- many
  refine ds_run (N1 := fun δ => ∃ rds many, RowOk ns rds ∧ 1 ≤ many ∧ many ≤ 3 ∧ δ = [.dat (.list (ns.map .int)), .own lr rds, .dat (encM n fs), .dat (dN many), .no, .no, .no, .no, .no, .no, .no, .no, .no]) (ds_set (de_op (Pa := is1 _ (.int 1)) (Pb := fun _ d δ' => ∃ x rds', x < 3 ∧ RowOk ns rds' ∧ d = dN x ∧ δ' = [.dat (.list (ns.map .int)), .own lr rds', .dat (encM n fs), .no, .no, .no, .no, .no, .no, .no, .no, .no, .no]) de_int
    (fun d1 δ1 ⟨e1, e2⟩ => by
      subst e2
      exact (de_taken (ns := ns) (ds := rds) (m := 3) rfl hR h63 (by decide) (by decide) de_int).mono fun d δ' ⟨x, rds', h1, h2, h3, h4⟩ => ⟨x, rds', h1, h2, h3, by rw [h4]; rfl⟩)
    fun d1 δ1 d2 δ2 ⟨e1, e2⟩ ⟨x, rds', h1, h2, h3, h4⟩ => by
      subst e1; subst h3; subst h4
      intro A H x' y' lv k1 k2 Q q
      rw [dp_int k1, dp_int k2]
      refine ⟨_, _, rfl, rfl, q _ (dN (1 + x)) H ⟨rds', 1 + x, h2, by omega, by omega, rfl⟩ (WL.Ex.refl _) ?_⟩
      have : (1 : Int) + ((x : Nat) : Int) = ((1 + x : Nat) : Int) := by omega
      show Dt K (hid A H) (V.int ((1 : Int) + ((x : Nat) : Int))) (PyData.int ((1 + x : Nat) : Int))
      rw [this]; exact .int _)) s2 ?_
  rintro δ3 A3 H3 σ3 ⟨rds, many, hR, hm1, hm3, rfl⟩ s3 x3
  -- hands
  refine ds_run (N1 := fun δ => ∃ rds hands, RowOk ns rds ∧ Drawn n fs many (if many < 3 then 3 else 2) hands ∧ δ = [.dat (.list (ns.map .int)), .own lr rds, .dat (encM n fs), .dat (dN many), .dat (encH hands), .no, .no, .no, .no, .no, .no, .no, .no])
    (ds_set (de_callO (l := lr) rfl (das_cons (de_var rfl) (das2 (de_var rfl) (dv_if (d := dN (if many < 3 then 3 else 2)) (b := decide (((many : Nat) : Int) < 3)) (db_test (dv_I0 (de_var (d := dN many) rfl) de_int fun _ => .bl _)) (fun e => by
        have : many < 3 := by have := of_decide_eq_true e; omega
        rw [if_pos this]; exact de_int) fun e => by
        have : ¬ many < 3 := by have := of_decide_eq_false e; omega
        rw [if_neg this]; exact de_int))) fun es δ1 ⟨e1, e2⟩ => by
      subst e1; subst e2
      exact ⟨rds, _, rfl, .mk ns rds n fs many (if many < 3 then 3 else 2) hR hm hm3 (by split <;> decide) h63, fun d ds' ⟨⟨hands, hd, he⟩, hR⟩ => ⟨ds', hands, hR, hd, by rw [he]; rfl⟩⟩)) s3 ?_
  rintro δ4 A4 H4 σ4 ⟨rds, hands, hR, hdr, rfl⟩ s4 x4
  have hlen := hdr.len
  have h3 : hands.length ≤ 3 := by omega
  have hrows : ∀ r ∈ hands, r.length ≤ (if many < 3 then 3 else 2) := fun r hr => (hdr.rows r hr).1
  have htot : totLen hands ≤ 7 := by
    have : ∀ (c : Nat) (l : List (List Ln)), (∀ r ∈ l, r.length ≤ c) → totLen l ≤ l.length * c := fun c l => by
      induction l with
      | nil => intro _; exact Nat.zero_le _
      | cons r l ih =>
        intro h
        have h1 := h r List.mem_cons_self
        have h2 := ih fun r hr => h r (List.mem_cons_of_mem _ hr)
        show r.length + totLen l ≤ (l.length + 1) * c
        rw [Nat.succ_mul]; omega
    have := this _ hands hrows
    rw [hlen] at this
    split at this <;> omega
  have hLn : ∀ r ∈ hands, LinesOk n fs r := fun r hr => (hdr.rows r hr).2
  have h12 : ∀ r ∈ hands, r.length ≤ 12 := fun r hr => by have := hrows r hr; split at this <;> omega
  -- wishes, weavings
  refine ds_run (N1 := fun δ => ∃ rds wishes, RowOk ns rds ∧ WishOk n fs hands.length wishes ∧ δ = [.dat (.list (ns.map .int)), .own lr rds, .dat (encM n fs), .dat (dN many), .dat (encH hands), .dat (encWs wishes), .dat (.list ((weavs (hands.map List.length)).map encW)), .no, .no, .no, .no, .no, .no])
    (ds_asg (de_tup (PA := fun ds δ' => ∃ rds wishes, RowOk ns rds ∧ WishOk n fs hands.length wishes ∧ ds = [encWs wishes, .list ((weavs (hands.map List.length)).map encW)] ∧ δ' = [.dat (.list (ns.map .int)), .own lr rds, .dat (encM n fs), .dat (dN many), .dat (encH hands), .no, .no, .no, .no, .no, .no, .no, .no])
      (da_cons (P := fun d δ' => ∃ rds wishes, RowOk ns rds ∧ WishOk n fs hands.length wishes ∧ d = encWs wishes ∧ δ' = [.dat (.list (ns.map .int)), .own lr rds, .dat (encM n fs), .dat (dN many), .dat (encH hands), .no, .no, .no, .no, .no, .no, .no, .no])
      (de_callO (l := lr) rfl (das2 (de_var rfl) (de_var rfl)) fun es δ1 ⟨e1, e2⟩ => by
        subst e1; subst e2
        exact ⟨rds, _, rfl, .mk ns rds n fs hands hR hm hLn h3 h12 hdr.six h63, fun d ds' ⟨⟨wishes, hw, he⟩, hR⟩ => ⟨ds', wishes, hR, hw, he, rfl⟩⟩)
      fun d δ' ⟨rds, wishes, hR, hw, e1, e2⟩ => by
        subst e1; subst e2
        have hlist : DV ⟨K, H, [], []⟩ (tLc (iTup K (tVar 4)) (gName 7) tYes (tCB (rLenQ K) (tCons (tVar 7) tNil)) [7]) [.dat (.list (ns.map .int)), .own lr rds, .dat (encM n fs), .dat (dN many), .dat (encH hands), .no, .no, .no, .no, .no, .no, .no, .no] (.list ((hands.map List.length).map dN)) := (DN.dv (dn_map (fun d => dN (seqOf d).length) (di_tup (F := ⟨K, H, [], []⟩) (te := tVar 4) (es := hands.map encR) (de_var rfl)) (by rw [List.length_map]; omega) fun H0' d hd => ⟨_, dw_name (by decide), by repeat' (first | exact True.intro | rfl | refine ⟨?_, ?_⟩), dv_len (de_var rfl) (by obtain ⟨r, _, rfl⟩ := List.mem_map.mp hd; rfl)⟩)).is (by
          congr 1
          rw [List.map_map, List.map_map]
          refine List.map_congr_left fun r _ => ?_
          show dN (r.map encL).length = dN r.length
          rw [List.length_map])
        refine fun A H σ s Q q => das1 (dv_call (das1 hlist) (.mk (hands.map List.length) (by rw [List.length_map]; exact h3) (by show totLen hands ≤ 8; omega))) A H σ s _ fun vs ds δ'' H' ⟨e1, e2⟩ => ?_
        subst e1; subst e2
        exact q vs _ _ H' ⟨rds, wishes, hR, hw, rfl, rfl⟩)
      (fun ds δ' ⟨_, _, _, _, e, _⟩ => by rw [e]; show 2 ≤ 100000; decide) fun ds δ' ⟨rds, wishes, hR, hw, e1, e2⟩ => by
        subst e1; subst e2
        exact ⟨_, dg2, rds, wishes, hR, hw, rfl⟩)) s4 ?_
  rintro δ5 A5 H5 σ5 ⟨rds, wishes, hR, hw, rfl⟩ s5 x5
  have hj : Judged n fs hands wishes := ⟨hm, ⟨by omega, h3, h12, fun r hr l hl => hLn r hr l hl⟩, hw⟩
  have hsm : Small n fs hands := ⟨hm, hLn, h3, htot, hdr.six⟩
  have hwk : WishesOk n wishes := ⟨fun o ho x hx => ⟨((hw.ok o ho).lt x hx).1, by have := ((hw.ok o ho).lt x hx).2.2; omega⟩, fun o ho => by have := hw.few o ho; omega⟩
  have hwl : (weavs (hands.map List.length)).length ≤ 6561 := by
    have h1 := found_len (hands.map List.length) (by rw [List.length_map]; exact h3) (hands.map List.length).sum
    have h2 : 3 ^ ((hands.map List.length).sum + 1) ≤ 6561 := pow3_le (by have : (hands.map List.length).sum ≤ 7 := htot; omega)
    unfold weavs; omega
  have hw0 : 0 < (weavs (hands.map List.length)).length := List.length_pos_of_mem ((weavs_iff hands []).mpr ⟨fun h hh => (by cases hh), fun h r hr => (by simp)⟩)
  -- bad
  refine ds_run (N1 := fun δ => ∃ lb, δ = [.dat (.list (ns.map .int)), .own lr rds, .dat (encM n fs), .dat (dN many), .dat (encH hands), .dat (encWs wishes), .dat (.list ((weavs (hands.map List.length)).map encW)), .no, .own lb ((badWs n hands wishes).map encW), .no, .no, .no, .no])
    (ds_setN ((dn_lcM (fun d => d) (fun d => !kept hands wishes (decW d) (woven n hands (decW d))) (di_list (de_var rfl)) (by rw [List.length_map]; omega) fun H0' d hd => by
      obtain ⟨ws, hws, rfl⟩ := List.mem_map.mp hd
      have hv := (weavs_iff hands ws).mp hws
      have hH := (woven_good hm hLn hv).mono hdr.six
      refine ⟨_, dw_name (by decide), by repeat' (first | exact True.intro | rfl | refine ⟨?_, ?_⟩), (db_not (db_B (dv_call (das_cons (de_var rfl) (das_cons (de_var rfl) (das2 (de_var (d := encW ws) rfl) (dv_call (das_cons (de_var rfl) (das2 (de_var rfl) (de_var (d := encW ws) rfl))) (.mk n fs hm hands hLn h3 ws hv))))) (.mk n hands wishes ws (woven n hands ws) hw.len hwk (woven_len _ _ _) fun t ht => by have := hH.dep t ht; omega)))).is (by rw [decW_enc]), fun _ => de_var rfl⟩).mono fun es δ' ⟨e1, e2⟩ l => ⟨l, by
        rw [e2, e1, List.map_id'', List.filter_map]
        · have : (weavs (hands.map List.length)).filter ((fun d => !kept hands wishes (decW d) (woven n hands (decW d))) ∘ encW) = badWs n hands wishes := by
            unfold badWs
            refine List.filter_congr fun ws _ => ?_
            show (!kept hands wishes (decW (encW ws)) (woven n hands (decW (encW ws)))) = _
            rw [decW_enc]
          rw [this]; rfl
        · intro d; rfl⟩)) s5 ?_
  rintro δ6 A6 H6 σ6 ⟨lb, rfl⟩ s6 x6
  have hTt : LamX.Tabs TL (hid A6 H6) := hT.ext fun a o e => (x1.trans (x2.trans (x3.trans (x4.trans (x5.trans x6))))) a o (by rw [hid_nil]; exact e)
  have hlr : lr ∈ A6 := (s6.sd.own 1 lr rds rfl).2.1
  have s7 : St ⟨K, H6, [lr], [lr]⟩ [lr] H6 σ6 (lawS ns .no (.own lr rds) (encM n fs) many hands wishes ((badWs n hands wishes).map encW) .no .no .no) :=
    reroot s6.sd (LamX.ExtN.refl H6) (r := 1) (lr := lr) (rds := rds) rfl rfl fun j w' hj => by
      match j, hj with
      | 0, hj => simp [lawS] at hj; exact .inl hj.symm
      | 1, hj => simp [lawS] at hj; exact .inr (.inr ⟨rfl, hj.symm⟩)
      | 2, hj => simp [lawS] at hj; exact .inr (.inl ⟨_, hj.symm, .inl rfl⟩)
      | 3, hj => simp [lawS] at hj; exact .inr (.inl ⟨_, hj.symm, .inl rfl⟩)
      | 4, hj => simp [lawS] at hj; exact .inr (.inl ⟨_, hj.symm, .inl rfl⟩)
      | 5, hj => simp [lawS] at hj; exact .inr (.inl ⟨_, hj.symm, .inl rfl⟩)
      | 6, hj => have hj : some _ = some w' := hj; exact .inr (.inl ⟨_, (Option.some.inj hj).symm, .inl rfl⟩)
      | 7, hj => simp [lawS] at hj; exact .inl hj.symm
      | 8, hj => have hj : some _ = some w' := hj; exact .inr (.inl ⟨_, (Option.some.inj hj).symm, .inr ⟨lb, _, rfl, rfl, by decide⟩⟩)
      | 9, hj => simp [lawS] at hj; exact .inl hj.symm
      | 10, hj => simp [lawS] at hj; exact .inl hj.symm
      | 11, hj => simp [lawS] at hj; exact .inl hj.symm
      | 12, hj => simp [lawS] at hj; exact .inl hj.symm
      | j + 13, hj => simp [lawS] at hj
  have hT7 : LamX.Tabs TL (hid [lr] H6) := hTt.ext fun a o e => hid_sub (A := A6) (B := [lr]) (fun a ha => by rw [List.mem_singleton.mp ha]; exact hlr) a o e
  refine due_step ns htot h3 s7 hT7 fun H7 σ7 due hD s8 => ?_
  suffices h : DS ⟨K, H7, [lr], [lr]⟩ _ (lawS ns .no (.own lr rds) (encM n fs) many hands wishes ((badWs n hands wishes).map encW) (.dat due) .no .no) (fun _ => False) (fun d _ => d = .bool true) (fun _ => False) (fun _ => False) from
    h [lr] H7 σ7 _ s8 ⟨fun _ _ _ _ z => z.elim, fun d v δ' A' H' σ' e s' x' hv => by
      subst e
      rw [dp_bl hv]; exact hQ H', fun _ _ _ _ z => z.elim, fun _ _ _ _ z => z.elim⟩
  unfold lawS
  have halike : rel_alike (rel_alike fun _ _ => False) [due, due] fun z => z = .bool true := by
    rcases hD with ⟨rfl, _⟩ | ⟨ws, rfl, hl⟩
    · exact .non
    · refine .tup _ (fun d hd => ?_) (by rw [List.length_map]; have := val_len hl.1; omega)
      obtain ⟨x, _, rfl⟩ := List.mem_map.mp hd
      exact .int _
  have hdue : VOk n fs hands wishes due := by
    rcases hD with ⟨rfl, _⟩ | ⟨ws, rfl, hl⟩
    · exact vok_odd hj rfl (by decide +kernel)
    · exact vok_w hj hl.1.lt (by have := val_len hl.1; omega)
  refine dq_out (b := false) ((db_or (a := false) (b := false) ((db_not (db_B (dv_call (das2 (dv_call (das_cons (de_var rfl) (das2 (de_var rfl) (de_var rfl))) (.mk n fs hands wishes hj hsm due hD)) (dv_isN (de_var rfl))) (.mk (isNone due) (isNone due))))).is (by simp)) fun _ => (db_not (db_B (dv_call (das2 (dv_call (das_cons (de_var rfl) (das2 (de_var rfl) (de_var rfl))) (rel_harm.mk n fs hands wishes hj hsm due hD)) (de_var rfl)) halike))).is rfl).is rfl) (fun e => by cases e) fun _ => ?_
  refine ds_seq (N1 := fun _ => True) (ds_for (PI := fun es δ => ∃ rds, RowOk ns rds ∧ (∀ v ∈ es, VOk n fs hands wishes v) ∧ δ = lawS ns .no (.own lr rds) (encM n fs) many hands wishes ((badWs n hands wishes).map encW) (.dat due) .no .no) (di_listE (de_lst (PA := fun es δ => es.length = 3 ∧ ∃ rds, RowOk ns rds ∧ (∀ v ∈ es, VOk n fs hands wishes v) ∧ δ = lawS ns .no (.own lr rds) (encM n fs) many hands wishes ((badWs n hands wishes).map encW) (.dat due) .no .no)
    (da_cons (de_var (d := due) rfl) fun d1 δ1 ⟨e1, e2⟩ => by
      subst e1; subst e2
      refine da_cons ((de_pick (ns := ns) (ds := rds) (things := (weavs (hands.map List.length)).map encW) rfl hR h63 (by rw [List.length_map]; exact hw0) (by rw [List.length_map]; omega) (de_var rfl)).mono fun d δ' p => p) fun d2 δ2 ⟨rds2, hR2, hd2, e2⟩ => ?_
      subst e2
      obtain ⟨ws, hws, rfl⟩ := List.mem_map.mp hd2
      have hv := (weavs_iff hands ws).mp hws
      have ok2 : VOk n fs hands wishes (encW ws) := vok_w hj hv.lt (by have := val_len hv; omega)
      refine da_cons (de_pick (ns := ns) (ds := rds2) (things := [.none, .list [dN 0], .tuple [dN many], .tuple ((List.replicate 9 [dN 0]).flatten), .tuple [.bool true], .str "0"]) rfl hR2 h63 (by show 0 < 6; decide) (by show 6 ≤ 10000; decide)
        (dv_lst (das_cons de_non (das_cons (dv_lst (das1 (de_int (i := 0))) (by decide)) (das_cons (dv_tup (das1 (de_var rfl)) (by show 1 ≤ 100000; decide)) (das_cons (dv_repN (k := 9) (dv_tup (das1 (de_int (i := 0))) (by show 1 ≤ 100000; decide)) de_int (by simp) (by decide) (by show 1 ≤ 1000; decide)) (das2 (dv_tup (das1 de_bl) (by show 1 ≤ 100000; decide)) de_str))))) (by show 6 ≤ 100000; decide))) fun d3 δ3 ⟨rds3, hR3, hd3, e3⟩ => ?_
      subst e3
      have ok3 : VOk n fs hands wishes d3 := by
        simp only [List.mem_cons, List.not_mem_nil, or_false] at hd3
        rcases hd3 with rfl | rfl | rfl | rfl | rfl | rfl
        · exact vok_odd hj rfl (by decide +kernel)
        · exact vok_odd hj rfl (by decide +kernel)
        · have := vok_many hj; rwa [hlen] at this
        · exact vok_w hj (ws := List.replicate 9 0) (fun x hx => by rw [(List.mem_replicate.mp hx).2]; omega) (by decide)
        · exact vok_true hj
        · exact vok_odd hj rfl (by decide +kernel)
      exact fun A H σ s Q q => da_nil A H σ s _ fun vs ds δ' H' ⟨e1, e2⟩ => by
        subst e1; subst e2
        exact q vs _ _ H' ⟨rfl, rds3, hR3, (fun v hv => by
          simp only [List.mem_cons, List.not_mem_nil, or_false] at hv
          rcases hv with rfl | rfl | rfl
          · exact hdue
          · exact ok2
          · exact ok3), rfl⟩) (fun es δ' ⟨h, _⟩ => by rw [h]; decide) fun es δ' ⟨_, h⟩ => ⟨es, rfl, h⟩)) ?_) ?_
  · rintro es δ1 ⟨rds, hR, hes, rfl⟩
    refine ⟨fun _ δ => ∃ v f, δ = lawS ns .no (.own lr rds) (encM n fs) many hands wishes ((badWs n hands wishes).map encW) (.dat due) v f, ⟨_, _, rfl⟩, ?_, fun _ _ => trivial⟩
    rintro i v δi hi ⟨v0, f0, rfl⟩
    obtain ⟨hsh, b, hrel, hf⟩ := hes v (List.mem_of_getElem? hi)
    refine ⟨_, dg_name, ?_⟩
    unfold lawS
    refine dq_setV (d := .bool b) ?_ ?_
    · rcases hf with ⟨h1, rfl⟩ | ⟨ds, rfl, hl, rfl⟩
      · exact (dv_andV (a := false) (b := false) ((dv_isi (de_var rfl) (kit_tuple _)).is (by rw [h1])) fun e => by cases e).is rfl
      · refine (dv_andV (a := true) (dv_isi (de_var rfl) (kit_tuple _)) fun _ => dv_andV (dv_inD (de_var rfl) (de_var rfl) hsh (shaped_ws _)) fun _ => dv_eqD (DN.dv (dn_lcM (fun _ => dN 1) isBoolD (di_tup (de_var rfl)) (by omega) fun H0' d hd => ?_)) (dv_lst da_nil (by decide)) ?_ (by decide +kernel)).is rfl
        · exact ⟨_, dw_name (by decide), by cases f0 <;> repeat' (first | exact True.intro | rfl | refine ⟨?_, ?_⟩), db_B (dv_isi (de_var rfl) (kit_bool _)), fun _ => de_int⟩
        · have : ∀ l : List PyData, PyData.canLayAll0 (l.map fun _ => dN 1) = true ∧ PyData.depthAll (l.map fun _ => dN 1) = 0 := fun l => by
            induction l with
            | nil => exact ⟨rfl, rfl⟩
            | cons a l ih => exact ⟨by show (true && PyData.canLayAll0 (l.map fun _ => dN 1)) = true; rw [ih.1]; rfl, by show max 0 (PyData.depthAll (l.map fun _ => dN 1)) = 0; rw [ih.2]; rfl⟩
          obtain ⟨k1, k2⟩ := this (ds.filter isBoolD)
          unfold SeqAt.shaped
          rw [show (PyData.list ((ds.filter isBoolD).map fun _ => dN 1)).canLay0 = true from k1, decide_eq_true (by show PyData.depthAll ((ds.filter isBoolD).map fun _ => dN 1) + 1 ≤ 64; rw [k2]; decide)]; rfl
    · exact ds_ifB (b := false) ((db_not (db_B (dv_call (das2 (dv_call (das_cons (de_var rfl) (das_cons (de_var rfl) (das2 (de_var rfl) (de_var rfl)))) hrel) (de_var rfl)) (.mk b b)))).is (by simp)) (fun e => by cases e) fun _ => ds_next ⟨_, _, rfl⟩
  · intro δ1 _
    exact ds_retV de_bl rfl
end
end WL
end
section
set_option Elab.async false
set_option linter.all false
set_option maxRecDepth 100000
namespace WL
open PySem PySem.Spec PyProof.Rows L2
/-! ### (len(one), one) < (len(other), other) -/
theorem dl_w : ∀ a b : List Nat, PySem.W.dataLt (encW a) (encW b) = decide (a < b)
  | [], [] => by
    rw [show encW [] = .tuple [] from rfl, PySem.W.dataLt_tuple]; decide
  | [], y :: b => by
    rw [show encW [] = .tuple [] from rfl, show encW (y :: b) = .tuple (dN y :: b.map dN) from rfl, PySem.W.dataLt_tuple]
    have h1 : ([] : List Nat) < y :: b := List.Lex.nil
    rw [decide_eq_true h1, PySem.W.keyToksAll, PySem.W.keyToksAll]
    rfl
  | x :: a, [] => by
    rw [show encW [] = .tuple [] from rfl, show encW (x :: a) = .tuple (dN x :: a.map dN) from rfl, PySem.W.dataLt_tuple]
    have h1 : ¬ (x :: a : List Nat) < [] := fun h => by cases h
    rw [decide_eq_false h1, PySem.W.keyToksAll, PySem.W.keyToksAll]
    rfl
  | x :: a, y :: b => by
    have ih : PySem.W.dataLt (encW a) (encW b) = decide (a < b) := dl_w a b
    rw [show encW (x :: a) = .tuple (dN x :: a.map dN) from rfl, show encW (y :: b) = .tuple (dN y :: b.map dN) from rfl, PySem.W.dataLt_tuple]
    rw [show encW a = .tuple (a.map dN) from rfl, show encW b = .tuple (b.map dN) from rfl, PySem.W.dataLt_tuple] at ih
    by_cases e : x = y
    · subst e
      rw [PySem.W.dataLt_all_yes (x := dN x) (y := dN x) rfl (by rw [eqv_nat]; exact decide_eq_true rfl), ih]
      rw [decide_eq_decide, List.cons_lt_cons_iff]
      constructor
      · intro h; exact .inr ⟨rfl, h⟩
      · rintro (h | ⟨_, h⟩)
        · exact absurd h (Nat.lt_irrefl _)
        · exact h
    · rw [PySem.W.dataLt_all_no (x := dN x) (y := dN y) rfl (by rw [eqv_nat]; exact decide_eq_false e)]
      show PySem.W.dataLt (.int (x : Nat)) (.int (y : Nat)) = _
      rw [PySem.W.dataLt_int, decide_eq_decide, List.cons_lt_cons_iff]
      constructor
      · intro h; exact .inl (by omega)
      · rintro (h | ⟨h, _⟩)
        · omega
        · exact absurd h e
def keyW (ws : List Nat) : PyData := .tuple [.int (ws.length : Nat), encW ws]
def ltK (a b : List Nat) : Bool := decide (a.length < b.length ∨ (a.length = b.length ∧ a < b))
theorem alike_nats : ∀ a b : List Nat, PySem.W.alikeAll (a.map dN) (b.map dN) = true
  | [], _ => by show PySem.W.alikeAll [] _ = true; rw [PySem.W.alikeAll]
  | x :: a, [] => by show PySem.W.alikeAll (dN x :: a.map dN) [] = true; rw [PySem.W.alikeAll]
  | x :: a, y :: b => by
    show PySem.W.alikeAll (dN x :: a.map dN) (dN y :: b.map dN) = true
    rw [PySem.W.alikeAll, alike_nats a b, Bool.and_true]; rfl
theorem alike_w (a b : List Nat) : PySem.W.alike (encW a) (encW b) = true := by
  show PySem.W.alike (.tuple (a.map dN)) (.tuple (b.map dN)) = true
  rw [PySem.W.alike]; exact alike_nats a b
theorem alike_key (a b : List Nat) : PySem.W.alike (keyW a) (keyW b) = true := by
  show PySem.W.alike (.tuple [.int (a.length : Nat), encW a]) (.tuple [.int (b.length : Nat), encW b]) = true
  rw [PySem.W.alike, PySem.W.alikeAll, PySem.W.alikeAll, alike_w, PySem.W.alikeAll]; rfl
theorem dl_key (a b : List Nat) : PySem.W.dataLt (keyW a) (keyW b) = ltK a b := by
  show PySem.W.dataLt (.tuple [dN a.length, encW a]) (.tuple [dN b.length, encW b]) = _
  rw [PySem.W.dataLt_tuple]
  unfold ltK
  by_cases e : a.length = b.length
  · rw [PySem.W.dataLt_all_yes (x := dN a.length) (y := dN b.length) rfl (by rw [eqv_nat]; exact decide_eq_true e)]
    by_cases e2 : a = b
    · rw [PySem.W.dataLt_all_yes (alike_w a b) (by rw [eqv_nats]; exact decide_eq_true e2)]
      rw [decide_eq_false (by
        rintro (h | ⟨_, h⟩)
        · omega
        · rw [e2] at h; exact lw_irrefl _ h)]
      decide
    · rw [PySem.W.dataLt_all_no (alike_w a b) (by rw [eqv_nats]; exact decide_eq_false e2), dl_w, decide_eq_decide]
      exact ⟨fun h => .inr ⟨e, h⟩, fun h => by
        rcases h with h | ⟨_, h⟩
        · omega
        · exact h⟩
  · rw [PySem.W.dataLt_all_no (x := dN a.length) (y := dN b.length) rfl (by rw [eqv_nat]; exact decide_eq_false e)]
    show PySem.W.dataLt (.int (a.length : Nat)) (.int (b.length : Nat)) = _
    rw [PySem.W.dataLt_int, decide_eq_decide]
    exact ⟨fun h => .inl (by omega), fun h => by
      rcases h with h | ⟨h, _⟩
      · omega
      · exact absurd h e⟩
theorem dep_key (a : List Nat) : (keyW a).depth ≤ 2 := by
  show PyData.depthAll [PyData.int (a.length : Nat), encW a] + 1 ≤ 2
  show max 0 (max (encW a).depth 0) + 1 ≤ 2
  have := dep_w a; omega
/-- the least, as it is sought -/
theorem best_is (wss : List (List Nat)) : ∀ k, k < wss.length → argBest (fun i j => ltK (wss.getD i []) (wss.getD j [])) k ≤ k ∧
    ∀ i ≤ k, ltK (wss.getD i []) (wss.getD (argBest (fun i j => ltK (wss.getD i []) (wss.getD j [])) k) []) = false
  | 0, _ => ⟨Nat.le_refl _, fun i hi => by
    have : i = 0 := by omega
    subst this
    show ltK (wss.getD 0 []) (wss.getD 0 []) = false
    exact decide_eq_false (by rintro (h | ⟨_, h⟩); · omega
                              · exact lw_irrefl _ h)⟩
  | k + 1, hk => by
    obtain ⟨h1, h2⟩ := best_is wss k (by omega)
    have irr : ∀ a, ltK a a = false := fun a => decide_eq_false (by
      rintro (h | ⟨_, h⟩)
      · omega
      · exact lw_irrefl _ h)
    have tr : ∀ {a b c : List Nat}, ltK a b = false → ltK c b = true → ltK a c = false := fun {a b c} h k => by
      have h := of_decide_eq_false h
      have k := of_decide_eq_true k
      refine decide_eq_false ?_
      rintro (z | ⟨z1, z2⟩)
      · rcases k with k | ⟨k1, k2⟩
        · exact h (.inl (by omega))
        · exact h (.inl (by omega))
      · rcases k with k | ⟨k1, k2⟩
        · exact h (.inl (by omega))
        · refine h (.inr ⟨by omega, ?_⟩)
          by_cases q : a < b
          · exact q
          · exact absurd z2 (lw_trans (lw_asymm k2) q)
    have ea : argBest (fun i j => ltK (wss.getD i []) (wss.getD j [])) (k + 1) = if ltK (wss.getD (k + 1) []) (wss.getD (argBest (fun i j => ltK (wss.getD i []) (wss.getD j [])) k) []) = true then k + 1 else argBest (fun i j => ltK (wss.getD i []) (wss.getD j [])) k := rfl
    rw [ea]
    by_cases hb : ltK (wss.getD (k + 1) []) (wss.getD (argBest (fun i j => ltK (wss.getD i []) (wss.getD j [])) k) []) = true
    · rw [if_pos hb]
      refine ⟨Nat.le_refl _, fun i hi => ?_⟩
      by_cases e : i = k + 1
      · subst e; exact irr _
      · exact tr (h2 i (by omega)) hb
    · rw [if_neg hb]
      refine ⟨by omega, fun i hi => ?_⟩
      by_cases e : i = k + 1
      · subst e; simpa using hb
      · exact h2 i (by omega)
theorem best_le (wss : List (List Nat)) (h0 : wss ≠ []) {ws : List Nat} (hw : wss[argBest (fun i j => ltK (wss.getD i []) (wss.getD j [])) (wss.length - 1)]? = some ws) : ∀ us ∈ wss, ws.length < us.length ∨ (ws.length = us.length ∧ ¬ us < ws) := fun us hus => by
  have hl : 0 < wss.length := List.length_pos_iff.mpr h0
  obtain ⟨_, h⟩ := best_is wss (wss.length - 1) (by omega)
  obtain ⟨i, hi⟩ := List.getElem?_of_mem hus
  have hil := (List.getElem?_eq_some_iff.mp hi).1
  have := of_decide_eq_false (h i (by omega))
  rw [List.getD_eq_getElem?_getD, List.getD_eq_getElem?_getD, hi, hw] at this
  simp only [Option.getD_some] at this
  rcases Nat.lt_trichotomy ws.length us.length with z | z | z
  · exact .inl z
  · exact .inr ⟨z, fun y => this (.inr ⟨z.symm, y⟩)⟩
  · exact absurd (.inl z) this
end WL
end
section
set_option Elab.async false
set_option linter.all false
set_option maxRecDepth 100000
namespace WL
open PySem PySem.Spec PyProof.Rows L2
/-! ### min(xs, key=lambda one: (len(one), one)) -/
def tKey (K : PySem.W.Frag) : TE := tTupN (tCons (tCB (rLenQ K) (tCons (tVar 0) tNil)) (tCons (tVar 0) tNil))
abbrev lamO (q : Str) (params : Arguments) (body : Expr) (scope : Scope) (pm : Value) (c' : Addr) (ctv : Value) : Obj := PySem.W.kla_obj "<lambda>" q params body scope [] pm c' ctv
section
variable {X : Cx} {pins : List (Addr × Obj)} {σ : List (Option V)} {H : Hp} {s : Shared}
/-- one turn of the key -/
theorem lam_turn {A1 : Around} {f c' : Addr} {pm ctv : Value} {q : Str} {params : Arguments} {body : Expr} {scope : Scope} {a : Addr} {xs : List V} {E : Value → Shared → Prop} {Q : Value → Shared → Prop} (I : Inv X pins σ H s) (hA : A1.frames = some X.stack) (hr : Room 3 A1)
    (S : FnScope ["one"] ["one"] scope) (hf : s.heap.get? f = some (lamO q params body scope pm c' ctv)) (hfn : H f = none) (hfr : f ∉ frs X.stack) (hc : H c' = some (LamX.CodeO c' q)) (hbind : ∀ u, bindArgs (PySem.W.kla_fn "<lambda>" q params body scope [] pm (.ref c') ctv) ⟨[u], []⟩ = pure [(("one" : Str), u)])
    (hbody : ∀ (A : Around) (s : Shared) (H : Hp), Room 2 (A.deeper (envOfC q scope s.heap.objs.size f (.ref c'))) → PE (cxOf CX0 X.prog X.w X.K X.mg X.base ["one"] q scope f (.ref c') A X.stack s H E0) body (tKey X.K))
    (hx : SqT X.K H a xs)
    (h : ∀ (p : Addr) (o : Obj) (us : List Value) (n : Nat) (s' : Shared), Inv X pins σ H s' → (∀ b o, s.heap.get? b = some o → H b = none → b ∉ frs X.stack → s'.heap.get? b = some o) → s.heap.get? p = none → H p = none → p ∉ frs X.stack → s'.heap.get? p = some o → o.cls = .type "tuple" → o.data = .seq us.toArray n → Vals [.int (xs.length : Nat), .ref a] us → Q (.ref p) s') :
    wpAny (model X.prog X.w) A1 (call (.ref f) [.ref a]) Q E s := by
  have e0 : Env0 X.prog X.w X.K X.mg X.base A1 X.stack s H := by
    obtain ⟨_, e2, e3, e4, e5, e6, e7, e8⟩ := I.env0
    exact ⟨hA, e2, e3, e4, e5, e6, e7, e8⟩
  obtain ⟨⟨oc, vs, t, hoc, hdc, hvc⟩, _, _⟩ := I.hok c' _ hc
  have rc : codeAny (model X.prog X.w) A1 (.call (.ref f) ⟨[.ref a], []⟩) (CR CX0 X.stack X.prog X.w H s (fun v H' => ∃ p o, v = .ref p ∧ H p = none ∧ H' = upd H p (.frz o (.tup [.int (xs.length : Nat), .ref a]))) E0) s := by
    refine PySem.W.kla_callFunE hr.depth hf rfl S.co S.gen rfl ⟨c', oc, vs, t, rfl, hoc, hdc, hvc⟩ ?_
    rw [hbind]
    have hkind : ∀ y ∈ [(("one" : Str), Value.ref a)], scope.names.lookup y.1 = some .local ∨ (scope.names.lookup y.1 = some .cell ∧ ((cellsFrom (s.heap.objs.size + 1) scope.names []).lookup y.1).isSome = true) := fun y hy => by
      rw [List.mem_singleton.mp hy]
      rcases S.par "one" (by simp) with z | z
      · exact .inl z
      · exact .inr ⟨z, PySem.W.cellsFrom_some _ _ _ (.inl z)⟩
    refine wpAny_pure (wpAny_newFunctionEnv_cells S.kind hkind fun env he s1 x => ?_)
    subst he
    refine ⟨I.nolimit.keeps x.toInCall.keep, ?_⟩
    have J : Inv (cxOf CX0 X.prog X.w X.K X.mg X.base ["one"] q scope f (.ref c') A1 X.stack s H E0) [] (L2.start ["one"] [.ref a]) H s1 := inv_start S hr.hd e0 rfl (.cons rfl .nil) x
    refine PySem.W.kla_codeExpr (wpAny_mono ((hbody A1 s H (hr.deeper _)).run [] s1 _ H (fun v H' => ∃ p o, v = .ref p ∧ H p = none ∧ H' = upd H p (.frz o (.tup [.int (xs.length : Nat), .ref a]))) J ⟨_, rfl, a, xs, rfl, .inr hx, _, rfl, by show 2 ≤ sizeLine; decide, fun p o hp ho => ⟨p, o, rfl, hp, rfl⟩⟩) (fun v s' hq => ?_) fun e s' hq => hq)
    obtain ⟨w', H', J', rv, q⟩ := hq
    exact ⟨w', H', J'.os, J'.bare, J'.base, J'.hok, rv, q⟩
  refine wpAny_call (codeAny_mono rc fun r s' hq => ?_)
  cases r with
  | error e => exact (show False from hq).elim
  | ok fl =>
    cases fl with
    | next => exact False.elim hq
    | brk => exact False.elim hq
    | cont => exact False.elim hq
    | ret u =>
      obtain ⟨v, H', os, bare, un, hok, rv, p, o, rfl, hp, rfl⟩ := hq
      obtain rfl : u = Value.ref p := rv
      have hps : s.heap.get? p = none := by
        cases e : s.heap.get? p with
        | none => rfl
        | some o' =>
          have := un.free p o' e hp (by simp)
          rw [upd_same] at this; cases this
      have un1 : Un (frs X.stack) [] H H s.heap s'.heap := ⟨un.keep, un.slot, fun _ _ _ n _ => n, un.there, fun _ _ z => z, fun _ _ _ z => z, fun b ps z => ⟨#[], by simpa using z⟩⟩
      have hok1 : HOk X.prog X.w H s'.heap := fun b ob hb => by
        have h1 := hok b ob (by rw [upd_ne (ne_of_none hb hp)]; exact hb)
        refine h1.stay (fun d u _ e => e) (fun d z => ?_) fun d ys z => ?_
        · by_cases e : d = p
          · subst e; rw [upd_same] at z; cases z
          · rw [upd_ne e] at z; exact z
        · by_cases e : d = p
          · subst e; rw [upd_same] at z; cases z
          · rw [upd_ne e] at z; exact z
      have I1 : Inv X pins σ H s' := I.call' os un1 hok1 bare (fun b z => absurd z (by simp))
      obtain ⟨g1, _, its, r2, ob, g2, g3, n, g4⟩ := hok p _ upd_same
      rw [g1] at g2
      cases g2
      have hpf : p ∉ frs X.stack := fun z => by
        obtain ⟨_, o', ho, _⟩ := I.env0.funs.mem z
        rw [hps] at ho; cases ho
      exact h p o its n s' I1 (fun b ob e n hb => un.keep b ob e n hb (by simp)) hps hp hpf g1 g3 g4 r2
end
section
variable {X : Cx}
theorem pe_minLam {T : List (Addr × Str)} {c P : Addr} {params : Arguments} {body : Expr} {scope : Scope} {p p1 pos kpos lpos : Pos} {x1 : Str} (hg : Gl X "min") (hm : X.mg "min" = none) (hN : PE X (.Name x1 p1) (tVar 8)) (hcalm : X.calm = true)
    (TB : LamX.TabB X.base X.mg c P) (hcode : X.env.code = .ref c) (hmT : (P, X.env.qual ++ "<lambda>") ∈ T) (hu : ∀ p ∈ T, p.1 = P → p.2 = X.env.qual ++ "<lambda>") (hr : Room 8 X.A)
    (S : FnScope ["one"] ["one"] scope) (hnf : ∀ y ∈ scope.names, y.2 ≠ .free) (hcl : cloFrom X.env.cells scope.names [] = []) (hdef : defaultsOf params X.env = ([], []))
    (hbind : ∀ (q : Str) (pm cv ctv u : Value), bindArgs (PySem.W.kla_fn "<lambda>" q params body scope [] pm cv ctv) ⟨[u], []⟩ = pure [(("one" : Str), u)])
    (hbody : ∀ (f c' : Addr) (A : Around) (s : Shared) (H : Hp), Room 2 (A.deeper (envOfC (X.env.qual ++ "<lambda>") scope s.heap.objs.size f (.ref c'))) → PE (cxOf CX0 X.prog X.w X.K X.mg X.base ["one"] (X.env.qual ++ "<lambda>") scope f (.ref c') A X.stack s H E0) body (tKey X.K))
    (hse : starEach [.Name x1 p1] X.env = (false, eval (.Name x1 p1) X.env) :: starEach [] X.env := by rfl) :
    PE X (.Call (.Name "min" p) [.Name x1 p1] [⟨some "key", .Lambda params body scope lpos, kpos⟩] pos) (tMinLam X.K T 8) := by
  refine ⟨fun pins s σ H Q I h => ?_⟩
  obtain ⟨hTab, l, xs, wss, hσ, hS, hD, h0, hz, hws, hQ⟩ := h
  refine wpAny_Call_Name_kw (ld_blt I hg hm (u := .builtin "min") (by rfl) ?_)
  refine PyProof.Rows.callWith_kw (thn ((pa_cons hN pa_nil).run pos pins s σ H (fun vs H1 => vs = [.ref l] ∧ H1 = H) I ⟨_, hσ, rfl, rfl⟩) fun us s1 ⟨vs, H1, I1, r1, q1⟩ => ?_)
  obtain ⟨rfl, rfl⟩ := q1
  rw [Vals.ref1 r1]
  show wpAny _ _ (evalAll ((do let v ← eval (.Lambda params body scope lpos) X.env; standAt pos; pure v) :: [])) _ _ s1
  refine wpAny_evalAll_cons (wpAny_bind (LamX.lam_make2 I1 TB hcode hmT hu hTab hdef (fun y hy e => absurd e (hnf y hy)) fun f c' pm ctv H2 s2 I2 eN T2 hf hfn hfr hco => wpAny_bind (wpAny_standAt (wpAny_pure ?_))))
  refine wpAny_evalAll_nil ?_
  show wpAny (model X.prog X.w) X.A (call (.builtin "min") [.ref l] [(Str.ofString "key", .ref f)]) _ _ s2
  rw [hcl] at hf
  have hS2 : SqL X.K H2 l xs := hS.imp (rd_extN (fun ps z => by cases z) eN) id
  have hD2 : DtAll X.K H2 xs (wss.map encW) := dpa_extN eN hD
  obtain ⟨its, rv, hl, _⟩ := I2.list hS2
  have hxl : xs.length = wss.length := by rw [hD.len, List.length_map]
  have hil : its.length = xs.length := rv.length.symm
  -- the items are tuples
  have item : ∀ (i : Nat) (u : Value), its[i]? = some u → ∃ a ys ws, xs[i]? = some (.ref a) ∧ u = .ref a ∧ wss[i]? = some ws ∧ SqT X.K H2 a ys ∧ ys.length = ws.length ∧ Dt X.K H2 (.ref a) (encW ws) := fun i u hu => by
    have hi := (List.getElem?_eq_some_iff.mp hu).1
    have hx : xs[i]? = some (xs[i]'(by omega)) := List.getElem?_eq_getElem (by omega)
    obtain ⟨u', e1, r1⟩ := rv.get hx
    rw [hu] at e1
    cases e1
    obtain ⟨d, hd, hdt⟩ := hD2.getV hx
    rw [List.getElem?_map] at hd
    obtain ⟨ws, hw, rfl⟩ := Option.map_eq_some_iff.mp hd
    obtain ⟨a, ys, e2, k1, k2⟩ := dp_tup hdt
    rw [e2] at r1
    refine ⟨a, ys, ws, by rw [hx, e2], r1, hw, k1, by rw [k2.len, List.length_map], by rw [e2] at hdt; exact hdt⟩
  have uniq : ∀ its', Vals xs its' → its' = its := fun its' r' => by
    apply List.ext_getElem?
    intro i
    by_cases hi : i < xs.length
    · have hx : xs[i]? = some xs[i] := List.getElem?_eq_getElem hi
      obtain ⟨u1, e1, r1⟩ := rv.get hx
      obtain ⟨u2, e2, r2⟩ := r'.get hx
      obtain ⟨a, ys, ws, g1, g2, _⟩ := item i u1 e1
      rw [hx] at g1
      have g1 : xs[i] = V.ref a := Option.some.inj g1
      rw [g1] at r2
      have r2 : u2 = Value.ref a := r2
      rw [e1, e2, g2, r2]
    · rw [List.getElem?_eq_none (by rw [← r'.length]; omega), List.getElem?_eq_none (by omega)]
  have nofr : ∀ b, s2.heap.objs.size ≤ b → b ∉ frs X.stack := fun b hb z => by
    obtain ⟨_, o, ho, _⟩ := I2.env0.funs.mem z
    exact absurd (Heap.lt_size ho) (Nat.not_lt.mpr hb)
  have hh : X.A.in1.handled = none := hr.hd
  refine PySem.call_min_walkK (PySem.W.iter_listW (A := X.A.in1) hh hl.isList fun s3 e3 W st hfp hwr hk3 => ?_)
  subst e3
  let Ia := s2.heap.objs.size
  let s3 : Shared := { s2 with heap := s2.heap.push { cls := .type "list_iterator", data := .fields #[.ref l, .int 0 0] } }
  let Sa := s3.heap.objs.size
  have hIS : s2.heap.objs.size ≤ Sa := by show _ ≤ (s2.heap.push _).objs.size; rw [Heap.size_push]; exact Nat.le_succ _
  have HI : H2 Ia = none := I2.hok.fresh (Nat.le_refl _)
  have HS : H2 Sa = none := I2.hok.fresh hIS
  let J : Shared → Prop := fun s' => Inv X pins σ H2 s' ∧ s'.heap.get? f = some (lamO (X.env.qual ++ "<lambda>") params body scope pm c' ctv)
  let Vk : Nat → Value → Shared → Prop := fun i k s' => ∃ (a b : Addr) (o : Obj) (us : List Value) (n : Nat) (ws : List Nat), k = .ref a ∧ a ∉ frs X.stack ∧ a ≠ Sa ∧ a ≠ Ia ∧ H2 a = none ∧ s'.heap.get? a = some o ∧ o.cls = .type "tuple" ∧ o.data = .seq us.toArray n ∧ Vals [.int (ws.length : Nat), .ref b] us ∧ wss[i]? = some ws ∧ Dt X.K H2 (.ref b) (encW ws)
  have hn : 0 < its.toArray.size := by
    rw [List.size_toArray, hil, hxl]; exact List.length_pos_iff.mpr h0
  have KR : PySem.KeyRun X.prog X.w X.A.in1 (.ref f) .Lt Sa [Ia] (fun a b => b = a) its.toArray.size (fun i v => its.toArray[i]? = some v) (fun i s' => s'.heap.IsListIter Ia l i ∧ s'.heap.IsList l its.toArray) J Vk (fun i j => ltK (wss.getD i []) (wss.getD j [])) := by
    refine ⟨fun s4 s5 hJ m => ?_, fun i k s4 s5 hV m => ?_, fun i v s4 oS Q' E' hi hP hJ hSt hSo hQ' => ?_, fun i j ki kj s4 Q' E' hJ hVi hVj hq => ?_⟩
    · obtain ⟨I4, f4⟩ := hJ
      have fo : ∀ b ∈ [Sa, Ia], FpOk X pins H2 b := fun b hb => by
        simp only [List.mem_cons, List.not_mem_nil, or_false] at hb
        rcases hb with rfl | rfl
        · exact I2.fpOk hIS HS
        · exact I2.fpOk (Nat.le_refl _) HI
      have := I4.turnedL (h' := s5.heap) (t' := s5.toks) (ch := [Sa, Ia]) (fun b o hb e => m.heap b o hb e) fo
      obtain ⟨hp5, g5, d5, t5, o5⟩ := s5
      have h1 : g5 = s4.gens := m.gens
      have h2 : d5 = s4.drawn := m.drawn
      have h3 : o5 = s4.os := m.os
      subst h1; subst h2; subst h3
      refine ⟨this, m.heap f _ (fun z => ?_) f4⟩
      simp only [List.mem_cons, List.not_mem_nil, or_false] at z
      have hfl := Heap.lt_size hf
      rcases z with z | z
      · rw [z] at hfl; exact absurd hfl (Nat.not_lt.mpr hIS)
      · rw [z] at hfl; exact absurd hfl (Nat.lt_irrefl _)
    · obtain ⟨a, b, o, us, n, ws, e1, e2, e3, e4, e5, e6, r⟩ := hV
      exact ⟨a, b, o, us, n, ws, e1, e2, e3, e4, e5, m.heap a o (by simp [e3, e4]) e6, r⟩
    · obtain ⟨I4, f4⟩ := hJ
      rw [List.getElem?_toArray] at hP
      obtain ⟨a, ys, ws, g1, rfl, g3, g4, g5, g6⟩ := item i v hP
      have hIa : ∃ oI, s4.heap.get? Ia = some oI := let ⟨oI, e, _⟩ := hSt.1; ⟨oI, e⟩
      refine lam_turn I4 (I4.env0.frames) ((hr.mono (by decide : 3 + 1 ≤ 8)).in1) S f4 hfn hfr hco (fun u => hbind _ _ _ _ _) (fun A s H hr2 => hbody f c' A s H hr2) g4 fun p o us n s5 I5 kp hps hp hpf k1 k2 k3 k4 => ?_
      have hlist : s5.heap.IsList l its.toArray := by
        obtain ⟨its', rv', hl', _⟩ := I5.list hS2
        rw [uniq its' rv'] at hl'
        exact hl'.isList
      refine hQ' _ s5 ⟨I5, kp f _ f4 hfn hfr⟩ ⟨?_, hlist⟩ (kp Sa oS hSo HS (nofr _ hIS)) ⟨p, a, _, us, n, ws, rfl, hpf, fun z => ?_, fun z => ?_, hp, k1, k2, k3, by rw [← g5]; exact k4, g3, g6⟩ fun j k' hV => ?_
      · obtain ⟨oI, q1, q2⟩ := hSt.1
        exact ⟨oI, kp Ia oI q1 HI (nofr _ (Nat.le_refl _)), q2⟩
      · rw [z, hSo] at hps; cases hps
      · obtain ⟨oI, q1⟩ := hIa
        rw [z, q1] at hps; cases hps
      · obtain ⟨a', b', o', us', n', ws', e1, e2, e3, e4, e5, e6, r⟩ := hV
        exact ⟨a', b', o', us', n', ws', e1, e2, e3, e4, e5, kp a' o' e6 e5 e2, r⟩
    · obtain ⟨I4, f4⟩ := hJ
      have rd : ∀ i k, Vk i k s4 → ∃ as, Reads s4.heap k (keyW (wss.getD i [])) as := fun i k hV => by
        obtain ⟨a, b, o, us, n, ws, rfl, _, _, _, _, e6, e7, e8, e9, e10, e11⟩ := hV
        have hw : wss.getD i [] = ws := by rw [List.getD_eq_getElem?_getD, e10]; rfl
        rw [hw]
        cases e9 with
        | cons r1 r2 =>
          cases r2 with
          | cons r3 r4 =>
            cases r4
            obtain ⟨t, rfl⟩ := r1
            obtain ⟨bs, rb⟩ := Dp.reads I4 (encW ws) (.ref b) _ e11.dp r3
            exact ⟨_, .tuple e6 e7 e8 (.cons (.int _ t) (.cons rb .nil))⟩
      obtain ⟨as, ra⟩ := rd i ki hVi
      obtain ⟨bs, rb⟩ := rd j kj hVj
      refine PySem.W.rcLt_alike _ _ X.A.in1 s4 ki kj as bs ra rb (alike_key _ _) (by intro z; cases z) ?_ X.prog X.w E' Q' (by rw [dl_key]; exact hq)
      have h1 := dep_key (wss.getD i [])
      have h2 := hr.un
      show X.A.units + 1 + min (keyW (wss.getD i [])).depth (keyW (wss.getD j [])).depth < cLine
      have := Nat.min_le_left (keyW (wss.getD i [])).depth (keyW (wss.getD j [])).depth
      omega
  refine ⟨Ia, [Ia, l], [Ia], fun a b => b = a, its.toArray.size, fun i v => its.toArray[i]? = some v, fun i s' => s'.heap.IsListIter Ia l i ∧ s'.heap.IsList l its.toArray, J, Vk, fun i j => ltK (wss.getD i []) (wss.getD j []), rfl, W, st, hfp, hn, KR, ⟨I2.kept (t' := s2.toks) hk3, hk3 f _ hf⟩, fun v s' hP hJ => ?_⟩
  have hP : its.toArray[argBest (fun i j => ltK (wss.getD i []) (wss.getD j [])) (its.toArray.size - 1)]? = some v := hP
  rw [List.getElem?_toArray] at hP
  obtain ⟨a, ys, ws, g1, g2, g3, _⟩ := item _ v hP
  have hsz : its.toArray.size - 1 = wss.length - 1 := by rw [List.size_toArray, hil, hxl]
  rw [hsz] at g3 g1
  exact ⟨.ref a, H2, hJ.1, g2, hQ _ (.ref a) ws g1 g3 (best_le wss h0 g3) H2 eN⟩
end
end WL
end
section
set_option Elab.async false
set_option linter.all false
set_option maxRecDepth 100000
set_option maxHeartbeats 0
namespace WLH
open PySem PySem.Spec PyProof.Rows L2 WL
def d_is_between : He.DefD := ⟨("is_between", none), "is_between", "is_between", defArgs st_is_between, defBody st_is_between, defScope st_is_between, [], []⟩
def d_is_number : He.DefD := ⟨("is_number", none), "is_number", "is_number", defArgs st_is_number, defBody st_is_number, defScope st_is_number, [], []⟩
def d_is_tuple : He.DefD := ⟨("is_tuple", none), "is_tuple", "is_tuple", defArgs st_is_tuple, defBody st_is_tuple, defScope st_is_tuple, [], []⟩
def d_check_machine : He.DefD := ⟨("check_machine", none), "check_machine", "check_machine", defArgs st_check_machine, defBody st_check_machine, defScope st_check_machine, [], []⟩
def d_is_line : He.DefD := ⟨("is_line", none), "is_line", "is_line", defArgs st_is_line, defBody st_is_line, defScope st_is_line, [], []⟩
def d_check_hands : He.DefD := ⟨("check_hands", none), "check_hands", "check_hands", defArgs st_check_hands, defBody st_check_hands, defScope st_check_hands, [], []⟩
def d_is_weaving : He.DefD := ⟨("is_weaving", none), "is_weaving", "is_weaving", defArgs st_is_weaving, defBody st_is_weaving, defScope st_is_weaving, [], []⟩
def d_is_wish : He.DefD := ⟨("is_wish", none), "is_wish", "is_wish", defArgs st_is_wish, defBody st_is_wish, defScope st_is_wish, [], []⟩
def d_check_wishes : He.DefD := ⟨("check_wishes", none), "check_wishes", "check_wishes", defArgs st_check_wishes, defBody st_check_wishes, defScope st_check_wishes, [], []⟩
def d_check_wish_rows : He.DefD := ⟨("check_wish_rows", none), "check_wish_rows", "check_wish_rows", defArgs st_check_wish_rows, defBody st_check_wish_rows, defScope st_check_wish_rows, [], []⟩
def d_numbered : He.DefD := ⟨("numbered", none), "numbered", "numbered", defArgs st_numbered, defBody st_numbered, defScope st_numbered, [], []⟩
def d_held_after : He.DefD := ⟨("held_after", none), "held_after", "held_after", defArgs st_held_after, defBody st_held_after, defScope st_held_after, [], []⟩
def d_held_behind : He.DefD := ⟨("held_behind", none), "held_behind", "held_behind", defArgs st_held_behind, defBody st_held_behind, defScope st_held_behind, [], []⟩
def d_steps_from : He.DefD := ⟨("steps_from", none), "steps_from", "steps_from", defArgs st_steps_from, defBody st_steps_from, defScope st_steps_from, [], []⟩
def d_add_ways : He.DefD := ⟨("add_ways", none), "add_ways", "add_ways", defArgs st_add_ways, defBody st_add_ways, defScope st_add_ways, [], []⟩
def d_next_layer : He.DefD := ⟨("next_layer", none), "next_layer", "next_layer", defArgs st_next_layer, defBody st_next_layer, defScope st_next_layer, [], []⟩
def d_check_depth : He.DefD := ⟨("check_depth", none), "check_depth", "check_depth", defArgs st_check_depth, defBody st_check_depth, defScope st_check_depth, [], []⟩
def d_check_width : He.DefD := ⟨("check_width", none), "check_width", "check_width", defArgs st_check_width, defBody st_check_width, defScope st_check_width, [], []⟩
def d_keeps : He.DefD := ⟨("keeps", none), "keeps", "keeps", defArgs st_keeps, defBody st_keeps, defScope st_keeps, [], []⟩
def d_harm : He.DefD := ⟨("harm", none), "harm", "harm", defArgs st_harm, defBody st_harm, defScope st_harm, [], []⟩
def d_shows_harm : He.DefD := ⟨("shows_harm", none), "shows_harm", "shows_harm", defArgs st_shows_harm, defBody st_shows_harm, defScope st_shows_harm, [], []⟩
def d_check_judged : He.DefD := ⟨("check_judged", none), "check_judged", "check_judged", defArgs st_check_judged, defBody st_check_judged, defScope st_check_judged, [], []⟩
def d_due_wishes : He.DefD := ⟨("due_wishes", none), "due_wishes", "due_wishes", defArgs st_due_wishes, defBody st_due_wishes, defScope st_due_wishes, [], []⟩
def d_is_harmed : He.DefD := ⟨("is_harmed", none), "is_harmed", "is_harmed", defArgs st_is_harmed, defBody st_is_harmed, defScope st_is_harmed, [], []⟩
def d_least_harm : He.DefD := ⟨("least_harm", none), "least_harm", "least_harm", defArgs st_least_harm, defBody st_least_harm, defScope st_least_harm, [], []⟩
def d_find_harm : He.DefD := ⟨("find_harm", none), "find_harm", "find_harm", defArgs st_find_harm, defBody st_find_harm, defScope st_find_harm, [], []⟩
def d_law_taken : He.DefD := ⟨("_law_taken", none), "_law_taken", "_law_taken", defArgs st_law_taken, defBody st_law_taken, defScope st_law_taken, [], []⟩
def d_law_pick : He.DefD := ⟨("_law_pick", none), "_law_pick", "_law_pick", defArgs st_law_pick, defBody st_law_pick, defScope st_law_pick, [], []⟩
def d_law_alike : He.DefD := ⟨("_law_alike", none), "_law_alike", "_law_alike", defArgs st_law_alike, defBody st_law_alike, defScope st_law_alike, [], []⟩
def d_law_is : He.DefD := ⟨("_law_is", none), "_law_is", "_law_is", defArgs st_law_is, defBody st_law_is, defScope st_law_is, [], []⟩
def d_law_machine : He.DefD := ⟨("_law_machine", none), "_law_machine", "_law_machine", defArgs st_law_machine, defBody st_law_machine, defScope st_law_machine, [], []⟩
def d_law_every_line : He.DefD := ⟨("_law_every_line", none), "_law_every_line", "_law_every_line", defArgs st_law_every_line, defBody st_law_every_line, defScope st_law_every_line, [], []⟩
def d_law_did : He.DefD := ⟨("_law_did", none), "_law_did", "_law_did", defArgs st_law_did, defBody st_law_did, defScope st_law_did, [], []⟩
def d_law_hands : He.DefD := ⟨("_law_hands", none), "_law_hands", "_law_hands", defArgs st_law_hands, defBody st_law_hands, defScope st_law_hands, [], []⟩
def d_law_weavings : He.DefD := ⟨("_law_weavings", none), "_law_weavings", "_law_weavings", defArgs st_law_weavings, defBody st_law_weavings, defScope st_law_weavings, [], []⟩
def d_law_woven : He.DefD := ⟨("_law_woven", none), "_law_woven", "_law_woven", defArgs st_law_woven, defBody st_law_woven, defScope st_law_woven, [], []⟩
def d_law_kept : He.DefD := ⟨("_law_kept", none), "_law_kept", "_law_kept", defArgs st_law_kept, defBody st_law_kept, defScope st_law_kept, [], []⟩
def d_law_wishes : He.DefD := ⟨("_law_wishes", none), "_law_wishes", "_law_wishes", defArgs st_law_wishes, defBody st_law_wishes, defScope st_law_wishes, [], []⟩
def d_law : He.DefD := ⟨("law", none), "law", "law", defArgs st_law, defBody st_law, defScope st_law, [], []⟩
def d_layers : He.DefD := ⟨("layers", none), "layers", "layers", defArgs st_layers, defBody st_layers, defScope st_layers, [], []⟩
def d_is_term : He.DefD := ⟨("is_term", none), "is_term", "is_term", defArgs st_is_term, defBody st_is_term, defScope st_is_term, [.int 8], []⟩
def d_tb_made : He.DefD := ⟨("TermBook", some "made"), "made", "TermBook.made", defArgs st_TermBook_made, defBody st_TermBook_made, defScope st_TermBook_made, [], []⟩
def d_tb_number_of : He.DefD := ⟨("TermBook", some "number_of"), "number_of", "TermBook.number_of", defArgs st_TermBook_number_of, defBody st_TermBook_number_of, defScope st_TermBook_number_of, [], []⟩
def d_db_made : He.DefD := ⟨("DepthBook", some "made"), "made", "DepthBook.made", defArgs st_DepthBook_made, defBody st_DepthBook_made, defScope st_DepthBook_made, [], []⟩
def d_tb_init : He.DefD := ⟨("TermBook", some "__init__"), "__init__", "TermBook.__init__", defArgs st_TermBook___init, defBody st_TermBook___init, defScope st_TermBook___init, [], []⟩
def d_db_init : He.DefD := ⟨("DepthBook", some "__init__"), "__init__", "DepthBook.__init__", defArgs st_DepthBook___init, defBody st_DepthBook___init, defScope st_DepthBook___init, [], []⟩
def fn0 : List He.DefD := [d_is_between, d_is_number, d_is_tuple, d_check_machine, d_is_line, d_check_hands, d_is_weaving, d_is_wish, d_check_wishes, d_check_wish_rows, d_numbered, d_held_after, d_held_behind, d_steps_from, d_add_ways, d_next_layer, d_check_depth, d_check_width, d_keeps, d_harm, d_shows_harm, d_check_judged, d_due_wishes, d_is_harmed, d_least_harm, d_find_harm, d_law_taken, d_law_pick, d_law_alike, d_law_is]
def fn1 : List He.DefD := [d_law_machine, d_law_every_line, d_law_did, d_law_hands, d_law_weavings, d_law_woven, d_law_kept, d_law_wishes, d_law, d_layers, d_is_term, d_tb_made, d_tb_number_of, d_db_made, d_tb_init, d_db_init]
def fn : List He.DefD := fn0 ++ fn1
def fa0 : List He.Fa := [.glo "is_between", .glo "is_number", .glo "is_tuple", .glo "check_machine", .glo "is_line", .glo "check_hands", .glo "is_weaving", .glo "is_wish", .glo "check_wishes", .glo "check_wish_rows", .glo "numbered", .glo "held_after", .glo "held_behind", .glo "steps_from", .glo "add_ways", .glo "next_layer", .glo "check_depth", .glo "check_width", .glo "keeps", .glo "harm", .glo "shows_harm", .glo "check_judged", .glo "due_wishes", .glo "is_harmed", .glo "least_harm", .glo "find_harm", .glo "_law_taken", .glo "_law_pick", .glo "_law_alike", .glo "_law_is"]
def fa1 : List He.Fa := [.glo "_law_machine", .glo "_law_every_line", .glo "_law_did", .glo "_law_hands", .glo "_law_weavings", .glo "_law_woven", .glo "_law_kept", .glo "_law_wishes", .glo "law", .glo "layers", .glo "is_term", .glo "TermBook", .cls "TermBook", .mkr "TermBook", .glo "DepthBook", .cls "DepthBook", .mkr "DepthBook", .noat "TermBook" "atoms", .noat "TermBook" "terms", .noat "TermBook" "depths", .noat "TermBook" "makings", .noat "TermBook" "numbers", .noat "DepthBook" "atoms", .meth "TermBook" "made", .meth "TermBook" "number_of", .meth "DepthBook" "made", .int "MOST_CELLS" 4, .int "MOST_FUNCTIONS" 3, .int "MOST_READ" 2, .int "MOST_HANDS" 3]
def fa2 : List He.Fa := [.int "MOST_LINES" 12, .int "DEEPEST" 8, .int "MOST_HELD" 3000, .free "len", .free "int", .free "tuple", .free "list", .free "all", .free "any", .free "isinstance", .free "range", .free "enumerate", .free "sum", .free "min", .free "max", .free "str", .free "bool", .free "zip"]
def fa : List He.Fa := fa0 ++ fa1 ++ fa2
def loose0 : List PySem.Str := ["WeaveError", "BadMachine", "BadHands", "BadWishes", "TooMany", "MOST_CELLS", "MOST_FUNCTIONS", "MOST_READ", "MOST_HANDS", "MOST_LINES", "DEEPEST", "is_between", "is_number", "is_tuple", "check_machine", "is_term", "is_line", "check_hands", "is_weaving", "is_wish", "check_wishes", "check_wish_rows", "TermBook", "numbered", "DepthBook", "held_after", "held_behind", "MOST_HELD", "steps_from", "add_ways"]
def loose1 : List PySem.Str := ["next_layer", "layers", "check_depth", "check_width", "keeps", "harm", "shows_harm", "check_judged", "due_wishes", "is_harmed", "least_harm", "find_harm", "_law_taken", "_law_pick", "_law_alike", "_law_is", "_law_machine", "_law_every_line", "_law_did", "_law_hands", "_law_weavings", "_law_woven", "_law_kept", "_law_wishes"]
def loose : List PySem.Str := loose0 ++ loose1
abbrev R : PySem.W.OpenRow := PySem.W.OpenLaw.row PySem.Challenge.rw_weavelines_k02_whole_judges
def tf : List He.Defn := [("law", none)]
abbrev hk : PySem.W.Hook := He.hookX 4 fa fn [] tf (fun _ => true)
def ob (s : PySem.W.SharedT) : He.AlX := He.obsX 4 fa fn [] tf (fun _ => true) (HandSHeadRun.getT s)
theorem ob_eq (s : PySem.W.SharedT) : ob s = hk.obs s.abs := He.obsX_eq (HandSHeadRun.getT_eq s)

/-! ### the law's promise -/
def lamQ : Str := (envOfC "law" (defScope st_law) 0 0 .none).qual ++ "<lambda>"
section
variable {P : Program} {w : World} {K : PySem.W.Frag} {mg : Str → Option Value} {base : Heap}
theorem ok_law2 (T : Top K mg) (G : GTop K mg) {c Pt : Addr} (hc : T.law.fd.code = .ref c) (TB : LamX.TabB base mg c Pt) : FnOk P w K mg base CX0 19 T.law.f T.law.fd ["script"] (spLaw K [(Pt, lamQ)]) := by
  refine ok_law T G [(Pt, lamQ)] fun cdv A outer s H E e hr => ?_
  rw [hc] at e
  subst e
  refine pe_minLam (X := (cxOf CX0 P w K mg base lawN "law" (defScope st_law) T.law.f (.ref c) A outer s H E).nox) (c := c) (P := Pt) rfl T.n_min (pv 8) rfl TB rfl (List.mem_singleton.mpr rfl) (fun p hp _ => by rw [List.mem_singleton.mp hp]; rfl) (hr.mono (by omega)) ⟨rfl, rfl, rfl, by decide +kernel, rfl, by decide +kernel, by decide +kernel⟩ (by decide +kernel) rfl rfl (fun _ _ _ _ _ => rfl) fun f c' A s H hr2 => ?_
  exact pe_tupN (pa_cons (pe_callB (r := rLenQ K) call_len_seq (by rfl) T.n_len PySem.boot_len (pa_cons (pv 0) pa_nil)) (pa_cons (pv 0) pa_nil))
end

theorem is_term_bd {K : PySem.W.Frag} {f : Addr} {fd : FuncData} (F : FunD K "is_term" "is_term" (defArgs st_is_term) (defBody st_is_term) (defScope st_is_term) [.int 8] [] f fd) : ∃ ds, Vals [V.int 8] ds ∧ Binds K fd ["machine", "value", "deepest"] ds :=
  F.binds1 2 0 (by simp) rfl fun _ _ _ _ _ _ _ us its h1 h2 => match us, its, h1, h2 with | [_, _], [_], _, _ => ⟨_, rfl, rfl⟩
theorem is_term_b {K : PySem.W.Frag} {f : Addr} {fd : FuncData} (F : FunD K "is_term" "is_term" (defArgs st_is_term) (defBody st_is_term) (defScope st_is_term) [.int 8] [] f fd) : Binds K fd ["machine", "value", "deepest"] [] := by
  obtain ⟨ds, h1, h2⟩ := F.binds1 (ps := ["machine", "value", "deepest"]) 3 1 (by simp) rfl fun _ _ _ _ _ _ _ us its h1 h2 => match us, its, h1, h2 with | [_, _, _], [_], _, _ => ⟨_, rfl, rfl⟩
  cases h1
  exact h2
theorem fun_of {K : PySem.W.Frag} {x qual : Str} {st : Stmt} {f : Addr} {fd : FuncData} (F : FunD K x qual (defArgs st) (defBody st) (defScope st) [] [] f fd) : Fun K x qual st f fd := by
  obtain ⟨oc, od, dV, kV, doc, pm, an, cdv, ct, osl, rfl, lk, hcd, hD, hK⟩ := F.ex
  rcases hD with ⟨_, rfl⟩ | ⟨e, _⟩
  · exact ⟨⟨oc, od, kV, doc, pm, an, cdv, ct, osl, rfl, lk, hcd⟩, F.kp⟩
  · exact absurd rfl e
section
variable {K : PySem.W.Frag} {mg : Str → Option Value} {h : Heap} {w : World}
theorem defAt_of {x : Str} {st : Stmt} {ps : List Str} (F : ∃ fd, FunD K x x (defArgs st) (defBody st) (defScope st) [] [] (He.ga K x) fd) (m : mg x = some (.ref (He.ga K x)))
    (hb : ∀ (kV doc pm : Value) (an : Option Addr) (cdv ct : Value) (us : List Value), us.length = ps.length → bindArgs (PySem.W.fnOf x x (defArgs st) (defBody st) (defScope st) .none kV doc pm an cdv ct) ⟨us, []⟩ = pure (ps.zip us)) : ∃ D : DefAt K mg x st ps, D.f = He.ga K x := by
  obtain ⟨fd, F⟩ := F
  exact ⟨⟨_, fd, fun_of F, m, F.bindsN hb⟩, rfl⟩
theorem methAt_of {C m qual : Str} {st : Stmt} {ps : List Str} (F : ∃ fd, FunD K m qual (defArgs st) (defBody st) (defScope st) [] [] (He.ma K (He.ga K C) m) fd) (hm : Meth K (He.ga K C) m (He.ma K (He.ga K C) m))
    (hb : ∀ (kV doc pm : Value) (an : Option Addr) (cdv ct : Value) (us : List Value), us.length = ps.length → bindArgs (PySem.W.fnOf m qual (defArgs st) (defBody st) (defScope st) .none kV doc pm an cdv ct) ⟨us, []⟩ = pure (ps.zip us)) : ∃ D : MethAt K (He.ga K C) m qual st ps, True := by
  obtain ⟨fd, F⟩ := F
  exact ⟨⟨_, fd, fun_of F, hm, F.bindsN hb⟩, trivial⟩
theorem initAt_of {C qual : Str} {st : Stmt} {ps : List Str} (F : ∃ fd, FunD K "__init__" qual (defArgs st) (defBody st) (defScope st) [] [] (He.ma K (He.ga K C) "__init__") fd) (hm : Mk K (He.ga K C) (He.ma K (He.ga K C) "__init__"))
    (hb : ∀ (kV doc pm : Value) (an : Option Addr) (cdv ct : Value) (us : List Value), us.length = ps.length → bindArgs (PySem.W.fnOf "__init__" qual (defArgs st) (defBody st) (defScope st) .none kV doc pm an cdv ct) ⟨us, []⟩ = pure (ps.zip us)) : ∃ D : InitAt K (He.ga K C) qual st ps, True := by
  obtain ⟨fd, F⟩ := F
  exact ⟨⟨_, fd, fun_of F, hm, F.bindsN hb⟩, trivial⟩

theorem top_of (X : K.In h) (G : h.Ns mainGlobals mg) (c : He.SaysD fa fn K) : ∃ (T : Top K mg) (G2 : GTop K mg), T.law.f = He.ga K "law" := by
  obtain ⟨D_is_between, e_is_between⟩ := defAt_of (x := "is_between") (st := st_is_between) (ps := ["value", "low", "high"]) (c.def_ 0 (d := d_is_between) rfl) (He.glo_ok X G (c.fact 0 (f := .glo "is_between") rfl)) (fun _ _ _ _ _ _ us hl => match us, hl with | [_, _, _], _ => rfl)
  obtain ⟨D_is_number, e_is_number⟩ := defAt_of (x := "is_number") (st := st_is_number) (ps := ["value", "many"]) (c.def_ 1 (d := d_is_number) rfl) (He.glo_ok X G (c.fact 1 (f := .glo "is_number") rfl)) (fun _ _ _ _ _ _ us hl => match us, hl with | [_, _], _ => rfl)
  obtain ⟨D_is_tuple, e_is_tuple⟩ := defAt_of (x := "is_tuple") (st := st_is_tuple) (ps := ["value", "least", "most"]) (c.def_ 2 (d := d_is_tuple) rfl) (He.glo_ok X G (c.fact 2 (f := .glo "is_tuple") rfl)) (fun _ _ _ _ _ _ us hl => match us, hl with | [_, _, _], _ => rfl)
  obtain ⟨D_check_machine, e_check_machine⟩ := defAt_of (x := "check_machine") (st := st_check_machine) (ps := ["machine"]) (c.def_ 3 (d := d_check_machine) rfl) (He.glo_ok X G (c.fact 3 (f := .glo "check_machine") rfl)) (fun _ _ _ _ _ _ us hl => match us, hl with | [_], _ => rfl)
  obtain ⟨D_is_line, e_is_line⟩ := defAt_of (x := "is_line") (st := st_is_line) (ps := ["machine", "value"]) (c.def_ 4 (d := d_is_line) rfl) (He.glo_ok X G (c.fact 4 (f := .glo "is_line") rfl)) (fun _ _ _ _ _ _ us hl => match us, hl with | [_, _], _ => rfl)
  obtain ⟨D_check_hands, e_check_hands⟩ := defAt_of (x := "check_hands") (st := st_check_hands) (ps := ["machine", "hands"]) (c.def_ 5 (d := d_check_hands) rfl) (He.glo_ok X G (c.fact 5 (f := .glo "check_hands") rfl)) (fun _ _ _ _ _ _ us hl => match us, hl with | [_, _], _ => rfl)
  obtain ⟨D_is_weaving, e_is_weaving⟩ := defAt_of (x := "is_weaving") (st := st_is_weaving) (ps := ["hands", "value"]) (c.def_ 6 (d := d_is_weaving) rfl) (He.glo_ok X G (c.fact 6 (f := .glo "is_weaving") rfl)) (fun _ _ _ _ _ _ us hl => match us, hl with | [_, _], _ => rfl)
  obtain ⟨D_is_wish, e_is_wish⟩ := defAt_of (x := "is_wish") (st := st_is_wish) (ps := ["machine", "value"]) (c.def_ 7 (d := d_is_wish) rfl) (He.glo_ok X G (c.fact 7 (f := .glo "is_wish") rfl)) (fun _ _ _ _ _ _ us hl => match us, hl with | [_, _], _ => rfl)
  obtain ⟨D_check_wishes, e_check_wishes⟩ := defAt_of (x := "check_wishes") (st := st_check_wishes) (ps := ["machine", "hands", "wishes"]) (c.def_ 8 (d := d_check_wishes) rfl) (He.glo_ok X G (c.fact 8 (f := .glo "check_wishes") rfl)) (fun _ _ _ _ _ _ us hl => match us, hl with | [_, _, _], _ => rfl)
  obtain ⟨D_check_wish_rows, e_check_wish_rows⟩ := defAt_of (x := "check_wish_rows") (st := st_check_wish_rows) (ps := ["machine", "wishes"]) (c.def_ 9 (d := d_check_wish_rows) rfl) (He.glo_ok X G (c.fact 9 (f := .glo "check_wish_rows") rfl)) (fun _ _ _ _ _ _ us hl => match us, hl with | [_, _], _ => rfl)
  obtain ⟨D_numbered, e_numbered⟩ := defAt_of (x := "numbered") (st := st_numbered) (ps := ["book", "wishes"]) (c.def_ 10 (d := d_numbered) rfl) (He.glo_ok X G (c.fact 10 (f := .glo "numbered") rfl)) (fun _ _ _ _ _ _ us hl => match us, hl with | [_, _], _ => rfl)
  obtain ⟨D_held_after, e_held_after⟩ := defAt_of (x := "held_after") (st := st_held_after) (ps := ["book", "line", "held"]) (c.def_ 11 (d := d_held_after) rfl) (He.glo_ok X G (c.fact 11 (f := .glo "held_after") rfl)) (fun _ _ _ _ _ _ us hl => match us, hl with | [_, _, _], _ => rfl)
  obtain ⟨D_held_behind, e_held_behind⟩ := defAt_of (x := "held_behind") (st := st_held_behind) (ps := ["book", "hands", "weaving"]) (c.def_ 12 (d := d_held_behind) rfl) (He.glo_ok X G (c.fact 12 (f := .glo "held_behind") rfl)) (fun _ _ _ _ _ _ us hl => match us, hl with | [_, _, _], _ => rfl)
  obtain ⟨D_steps_from, e_steps_from⟩ := defAt_of (x := "steps_from") (st := st_steps_from) (ps := ["hands", "moments"]) (c.def_ 13 (d := d_steps_from) rfl) (He.glo_ok X G (c.fact 13 (f := .glo "steps_from") rfl)) (fun _ _ _ _ _ _ us hl => match us, hl with | [_, _], _ => rfl)
  obtain ⟨D_add_ways, e_add_ways⟩ := defAt_of (x := "add_ways") (st := st_add_ways) (ps := ["book", "hand", "line", "ways", "later_ways"]) (c.def_ 14 (d := d_add_ways) rfl) (He.glo_ok X G (c.fact 14 (f := .glo "add_ways") rfl)) (fun _ _ _ _ _ _ us hl => match us, hl with | [_, _, _, _, _], _ => rfl)
  obtain ⟨D_next_layer, e_next_layer⟩ := defAt_of (x := "next_layer") (st := st_next_layer) (ps := ["book", "hands", "layer"]) (c.def_ 15 (d := d_next_layer) rfl) (He.glo_ok X G (c.fact 15 (f := .glo "next_layer") rfl)) (fun _ _ _ _ _ _ us hl => match us, hl with | [_, _, _], _ => rfl)
  obtain ⟨D_check_depth, e_check_depth⟩ := defAt_of (x := "check_depth") (st := st_check_depth) (ps := ["machine", "hands"]) (c.def_ 16 (d := d_check_depth) rfl) (He.glo_ok X G (c.fact 16 (f := .glo "check_depth") rfl)) (fun _ _ _ _ _ _ us hl => match us, hl with | [_, _], _ => rfl)
  obtain ⟨D_check_width, e_check_width⟩ := defAt_of (x := "check_width") (st := st_check_width) (ps := ["layer"]) (c.def_ 17 (d := d_check_width) rfl) (He.glo_ok X G (c.fact 17 (f := .glo "check_width") rfl)) (fun _ _ _ _ _ _ us hl => match us, hl with | [_], _ => rfl)
  obtain ⟨D_keeps, e_keeps⟩ := defAt_of (x := "keeps") (st := st_keeps) (ps := ["machine", "hands", "wishes"]) (c.def_ 18 (d := d_keeps) rfl) (He.glo_ok X G (c.fact 18 (f := .glo "keeps") rfl)) (fun _ _ _ _ _ _ us hl => match us, hl with | [_, _, _], _ => rfl)
  obtain ⟨D_harm, e_harm⟩ := defAt_of (x := "harm") (st := st_harm) (ps := ["machine", "hands", "wishes"]) (c.def_ 19 (d := d_harm) rfl) (He.glo_ok X G (c.fact 19 (f := .glo "harm") rfl)) (fun _ _ _ _ _ _ us hl => match us, hl with | [_, _, _], _ => rfl)
  obtain ⟨D_shows_harm, e_shows_harm⟩ := defAt_of (x := "shows_harm") (st := st_shows_harm) (ps := ["machine", "hands", "wishes", "value"]) (c.def_ 20 (d := d_shows_harm) rfl) (He.glo_ok X G (c.fact 20 (f := .glo "shows_harm") rfl)) (fun _ _ _ _ _ _ us hl => match us, hl with | [_, _, _, _], _ => rfl)
  obtain ⟨D_check_judged, e_check_judged⟩ := defAt_of (x := "check_judged") (st := st_check_judged) (ps := ["machine", "hands", "wishes"]) (c.def_ 21 (d := d_check_judged) rfl) (He.glo_ok X G (c.fact 21 (f := .glo "check_judged") rfl)) (fun _ _ _ _ _ _ us hl => match us, hl with | [_, _, _], _ => rfl)
  obtain ⟨D_due_wishes, e_due_wishes⟩ := defAt_of (x := "due_wishes") (st := st_due_wishes) (ps := ["hands", "wished", "moments"]) (c.def_ 22 (d := d_due_wishes) rfl) (He.glo_ok X G (c.fact 22 (f := .glo "due_wishes") rfl)) (fun _ _ _ _ _ _ us hl => match us, hl with | [_, _, _], _ => rfl)
  obtain ⟨D_is_harmed, e_is_harmed⟩ := defAt_of (x := "is_harmed") (st := st_is_harmed) (ps := ["held", "due"]) (c.def_ 23 (d := d_is_harmed) rfl) (He.glo_ok X G (c.fact 23 (f := .glo "is_harmed") rfl)) (fun _ _ _ _ _ _ us hl => match us, hl with | [_, _], _ => rfl)
  obtain ⟨D_least_harm, e_least_harm⟩ := defAt_of (x := "least_harm") (st := st_least_harm) (ps := ["hands", "wished", "layer"]) (c.def_ 24 (d := d_least_harm) rfl) (He.glo_ok X G (c.fact 24 (f := .glo "least_harm") rfl)) (fun _ _ _ _ _ _ us hl => match us, hl with | [_, _, _], _ => rfl)
  obtain ⟨D_find_harm, e_find_harm⟩ := defAt_of (x := "find_harm") (st := st_find_harm) (ps := ["machine", "hands", "wishes"]) (c.def_ 25 (d := d_find_harm) rfl) (He.glo_ok X G (c.fact 25 (f := .glo "find_harm") rfl)) (fun _ _ _ _ _ _ us hl => match us, hl with | [_, _, _], _ => rfl)
  obtain ⟨D_law_taken, e_law_taken⟩ := defAt_of (x := "_law_taken") (st := st_law_taken) (ps := ["row", "many"]) (c.def_ 26 (d := d_law_taken) rfl) (He.glo_ok X G (c.fact 26 (f := .glo "_law_taken") rfl)) (fun _ _ _ _ _ _ us hl => match us, hl with | [_, _], _ => rfl)
  obtain ⟨D_law_pick, e_law_pick⟩ := defAt_of (x := "_law_pick") (st := st_law_pick) (ps := ["row", "things"]) (c.def_ 27 (d := d_law_pick) rfl) (He.glo_ok X G (c.fact 27 (f := .glo "_law_pick") rfl)) (fun _ _ _ _ _ _ us hl => match us, hl with | [_, _], _ => rfl)
  obtain ⟨D_law_alike, e_law_alike⟩ := defAt_of (x := "_law_alike") (st := st_law_alike) (ps := ["found", "due"]) (c.def_ 28 (d := d_law_alike) rfl) (He.glo_ok X G (c.fact 28 (f := .glo "_law_alike") rfl)) (fun _ _ _ _ _ _ us hl => match us, hl with | [_, _], _ => rfl)
  obtain ⟨D_law_is, e_law_is⟩ := defAt_of (x := "_law_is") (st := st_law_is) (ps := ["found", "due"]) (c.def_ 29 (d := d_law_is) rfl) (He.glo_ok X G (c.fact 29 (f := .glo "_law_is") rfl)) (fun _ _ _ _ _ _ us hl => match us, hl with | [_, _], _ => rfl)
  obtain ⟨D_law_machine, e_law_machine⟩ := defAt_of (x := "_law_machine") (st := st_law_machine) (ps := ["row", "most"]) (c.def_ 30 (d := d_law_machine) rfl) (He.glo_ok X G (c.fact 30 (f := .glo "_law_machine") rfl)) (fun _ _ _ _ _ _ us hl => match us, hl with | [_, _], _ => rfl)
  obtain ⟨D_law_every_line, e_law_every_line⟩ := defAt_of (x := "_law_every_line") (st := st_law_every_line) (ps := ["machine"]) (c.def_ 31 (d := d_law_every_line) rfl) (He.glo_ok X G (c.fact 31 (f := .glo "_law_every_line") rfl)) (fun _ _ _ _ _ _ us hl => match us, hl with | [_], _ => rfl)
  obtain ⟨D_law_did, e_law_did⟩ := defAt_of (x := "_law_did") (st := st_law_did) (ps := ["held", "line"]) (c.def_ 32 (d := d_law_did) rfl) (He.glo_ok X G (c.fact 32 (f := .glo "_law_did") rfl)) (fun _ _ _ _ _ _ us hl => match us, hl with | [_, _], _ => rfl)
  obtain ⟨D_law_hands, e_law_hands⟩ := defAt_of (x := "_law_hands") (st := st_law_hands) (ps := ["row", "machine", "many", "most"]) (c.def_ 33 (d := d_law_hands) rfl) (He.glo_ok X G (c.fact 33 (f := .glo "_law_hands") rfl)) (fun _ _ _ _ _ _ us hl => match us, hl with | [_, _, _, _], _ => rfl)
  obtain ⟨D_law_weavings, e_law_weavings⟩ := defAt_of (x := "_law_weavings") (st := st_law_weavings) (ps := ["lengths"]) (c.def_ 34 (d := d_law_weavings) rfl) (He.glo_ok X G (c.fact 34 (f := .glo "_law_weavings") rfl)) (fun _ _ _ _ _ _ us hl => match us, hl with | [_], _ => rfl)
  obtain ⟨D_law_woven, e_law_woven⟩ := defAt_of (x := "_law_woven") (st := st_law_woven) (ps := ["machine", "hands", "weaving"]) (c.def_ 35 (d := d_law_woven) rfl) (He.glo_ok X G (c.fact 35 (f := .glo "_law_woven") rfl)) (fun _ _ _ _ _ _ us hl => match us, hl with | [_, _, _], _ => rfl)
  obtain ⟨D_law_kept, e_law_kept⟩ := defAt_of (x := "_law_kept") (st := st_law_kept) (ps := ["hands", "wishes", "weaving", "held"]) (c.def_ 36 (d := d_law_kept) rfl) (He.glo_ok X G (c.fact 36 (f := .glo "_law_kept") rfl)) (fun _ _ _ _ _ _ us hl => match us, hl with | [_, _, _, _], _ => rfl)
  obtain ⟨D_law_wishes, e_law_wishes⟩ := defAt_of (x := "_law_wishes") (st := st_law_wishes) (ps := ["row", "machine", "hands"]) (c.def_ 37 (d := d_law_wishes) rfl) (He.glo_ok X G (c.fact 37 (f := .glo "_law_wishes") rfl)) (fun _ _ _ _ _ _ us hl => match us, hl with | [_, _, _], _ => rfl)
  obtain ⟨D_law, e_law⟩ := defAt_of (x := "law") (st := st_law) (ps := ["script"]) (c.def_ 38 (d := d_law) rfl) (He.glo_ok X G (c.fact 38 (f := .glo "law") rfl)) (fun _ _ _ _ _ _ us hl => match us, hl with | [_], _ => rfl)
  obtain ⟨D_layers, e_layers⟩ := defAt_of (x := "layers") (st := st_layers) (ps := ["book", "hands"]) (c.def_ 39 (d := d_layers) rfl) (He.glo_ok X G (c.fact 39 (f := .glo "layers") rfl)) (fun _ _ _ _ _ _ us hl => match us, hl with | [_, _], _ => rfl)
  obtain ⟨D_is_term, _⟩ : ∃ D : DefDAt K mg "is_term" st_is_term ["machine", "value", "deepest"] [.int 8], True := by
    obtain ⟨fd, F⟩ := c.def_ 40 (d := d_is_term) rfl
    have F : FunD K "is_term" "is_term" (defArgs st_is_term) (defBody st_is_term) (defScope st_is_term) [.int 8] [] (He.ga K "is_term") fd := F
    refine ⟨⟨_, fd, F, He.glo_ok X G (c.fact 40 (f := .glo "is_term") rfl), ?_, ?_⟩, trivial⟩
    · exact is_term_b F
    · exact is_term_bd F
  obtain ⟨D_tb_made, _⟩ := methAt_of (C := "TermBook") (m := "made") (qual := "TermBook.made") (st := st_TermBook_made) (ps := ["self", "function", "parts"]) (c.def_ 41 (d := d_tb_made) rfl) (He.meth_ok (c.fact 53 (f := .meth "TermBook" "made") rfl)) (fun _ _ _ _ _ _ us hl => match us, hl with | [_, _, _], _ => rfl)
  obtain ⟨D_tb_number_of, _⟩ := methAt_of (C := "TermBook") (m := "number_of") (qual := "TermBook.number_of") (st := st_TermBook_number_of) (ps := ["self", "term"]) (c.def_ 42 (d := d_tb_number_of) rfl) (He.meth_ok (c.fact 54 (f := .meth "TermBook" "number_of") rfl)) (fun _ _ _ _ _ _ us hl => match us, hl with | [_, _], _ => rfl)
  obtain ⟨D_db_made, _⟩ := methAt_of (C := "DepthBook") (m := "made") (qual := "DepthBook.made") (st := st_DepthBook_made) (ps := ["self", "function", "parts"]) (c.def_ 43 (d := d_db_made) rfl) (He.meth_ok (c.fact 55 (f := .meth "DepthBook" "made") rfl)) (fun _ _ _ _ _ _ us hl => match us, hl with | [_, _, _], _ => rfl)
  obtain ⟨D_tb_init, _⟩ := initAt_of (C := "TermBook") (qual := "TermBook.__init__") (st := st_TermBook___init) (ps := ["self", "machine"]) (c.def_ 44 (d := d_tb_init) rfl) (He.mkr_ok (c.fact 43 (f := .mkr "TermBook") rfl)) (fun _ _ _ _ _ _ us hl => match us, hl with | [_, _], _ => rfl)
  obtain ⟨D_db_init, _⟩ := initAt_of (C := "DepthBook") (qual := "DepthBook.__init__") (st := st_DepthBook___init) (ps := ["self", "machine"]) (c.def_ 45 (d := d_db_init) rfl) (He.mkr_ok (c.fact 46 (f := .mkr "DepthBook") rfl)) (fun _ _ _ _ _ _ us hl => match us, hl with | [_, _], _ => rfl)
  let T : Top K mg :=
    { is_between := D_is_between,
      is_number := D_is_number,
      is_tuple := D_is_tuple,
      check_machine := D_check_machine,
      is_line := D_is_line,
      check_hands := D_check_hands,
      is_weaving := D_is_weaving,
      is_wish := D_is_wish,
      check_wishes := D_check_wishes,
      check_wish_rows := D_check_wish_rows,
      numbered := D_numbered,
      held_after := D_held_after,
      held_behind := D_held_behind,
      steps_from := D_steps_from,
      add_ways := D_add_ways,
      next_layer := D_next_layer,
      check_depth := D_check_depth,
      check_width := D_check_width,
      keeps := D_keeps,
      harm := D_harm,
      shows_harm := D_shows_harm,
      check_judged := D_check_judged,
      due_wishes := D_due_wishes,
      is_harmed := D_is_harmed,
      least_harm := D_least_harm,
      find_harm := D_find_harm,
      law_taken := D_law_taken,
      law_pick := D_law_pick,
      law_alike := D_law_alike,
      law_is := D_law_is,
      law_machine := D_law_machine,
      law_every_line := D_law_every_line,
      law_did := D_law_did,
      law_hands := D_law_hands,
      law_weavings := D_law_weavings,
      law_woven := D_law_woven,
      law_kept := D_law_kept,
      law_wishes := D_law_wishes,
      law := D_law,
      is_term := D_is_term,
      tb_made := D_tb_made,
      tb_number_of := D_tb_number_of,
      db_made := D_db_made,
      tb_init := D_tb_init,
      db_init := D_db_init,
      tb := He.ga K "TermBook",
      db := He.ga K "DepthBook",
      tb_m := He.glo_ok X G (c.fact 41 (f := .glo "TermBook") rfl),
      db_m := He.glo_ok X G (c.fact 44 (f := .glo "DepthBook") rfl),
      tb_c := ⟨He.cls_ok (c.fact 42 (f := .cls "TermBook") rfl), He.noat_ok (c.fact 47 (f := .noat "TermBook" "atoms") rfl), He.noat_ok (c.fact 48 (f := .noat "TermBook" "terms") rfl), He.noat_ok (c.fact 49 (f := .noat "TermBook" "depths") rfl), He.noat_ok (c.fact 50 (f := .noat "TermBook" "makings") rfl), He.noat_ok (c.fact 51 (f := .noat "TermBook" "numbers") rfl)⟩,
      db_cl := He.cls_ok (c.fact 45 (f := .cls "DepthBook") rfl),
      db_atoms := He.noat_ok (c.fact 52 (f := .noat "DepthBook" "atoms") rfl),
      c_MOST_CELLS := He.int_ok X G (c.fact 56 (f := .int "MOST_CELLS" 4) rfl),
      c_MOST_FUNCTIONS := He.int_ok X G (c.fact 57 (f := .int "MOST_FUNCTIONS" 3) rfl),
      c_MOST_READ := He.int_ok X G (c.fact 58 (f := .int "MOST_READ" 2) rfl),
      c_MOST_HANDS := He.int_ok X G (c.fact 59 (f := .int "MOST_HANDS" 3) rfl),
      c_MOST_LINES := He.int_ok X G (c.fact 60 (f := .int "MOST_LINES" 12) rfl),
      c_DEEPEST := He.int_ok X G (c.fact 61 (f := .int "DEEPEST" 8) rfl),
      c_MOST_HELD := He.int_ok X G (c.fact 62 (f := .int "MOST_HELD" 3000) rfl),
      n_len := He.free_ok X G (c.fact 63 (f := .free "len") rfl),
      n_int := He.free_ok X G (c.fact 64 (f := .free "int") rfl),
      n_tuple := He.free_ok X G (c.fact 65 (f := .free "tuple") rfl),
      n_list := He.free_ok X G (c.fact 66 (f := .free "list") rfl),
      n_all := He.free_ok X G (c.fact 67 (f := .free "all") rfl),
      n_any := He.free_ok X G (c.fact 68 (f := .free "any") rfl),
      n_isinstance := He.free_ok X G (c.fact 69 (f := .free "isinstance") rfl),
      n_range := He.free_ok X G (c.fact 70 (f := .free "range") rfl),
      n_enumerate := He.free_ok X G (c.fact 71 (f := .free "enumerate") rfl),
      n_sum := He.free_ok X G (c.fact 72 (f := .free "sum") rfl),
      n_min := He.free_ok X G (c.fact 73 (f := .free "min") rfl),
      n_max := He.free_ok X G (c.fact 74 (f := .free "max") rfl),
      n_str := He.free_ok X G (c.fact 75 (f := .free "str") rfl),
      n_bool := He.free_ok X G (c.fact 76 (f := .free "bool") rfl),
      n_zip := He.free_ok X G (c.fact 77 (f := .free "zip") rfl) }
  exact ⟨T, { T with layers := D_layers }, e_law⟩
end

theorem lawAt {K : PySem.W.Frag} {mg : Str → Option Value} {h : Heap} {w : World} {fa' : Addr} (X : K.In h) (G : h.Ns mainGlobals mg) (c : He.SaysX fa fn [] tf (fun _ => true) w h K) (hfa : mg "law" = some (.ref fa')) :
    LamX.LawAtS PySem.Challenge.rw_weavelines_k02_whole_judges w K CX0 19 63 "script" mg fa' h := by
  obtain ⟨T, G2, hf⟩ := top_of X G c.t.d
  have e := hfa.symm.trans T.law.m
  have e : fa' = T.law.f := by injection e with e; injection e
  subst e
  obtain ⟨oc, od, kV, doc, pm, an, cdv, ct, osl, hfd, lk, hcd⟩ := T.law.F.ex
  obtain ⟨cc, rfl⟩ := He.codeIn_ref hcd
  have hcode : T.law.fd.code = .ref cc := by rw [hfd]
  have hcc : (He.cT K ("law", none)).1 = cc := He.codeOf_eq (p := ("law", none)) (by rw [show He.fAd K ("law", none) = T.law.f from hf.symm]; exact lk) hcode
  have hm : (("law", none) : He.Defn) ∈ tf := List.mem_singleton.mpr rfl
  refine ⟨T.law.fd, [He.cT K ("law", none)], spLaw K [((He.cT K ("law", none)).2, lamQ)], fun p hp => ?_, fun p hp => ?_, fun p hp => ?_, fun s u => ?_, fun H a ns hn _ hT hS => ?_, fun base hK hG TB => ?_⟩
  · rw [List.mem_singleton.mp hp]; exact c.empty _ hm
  · rw [List.mem_singleton.mp hp]; exact c.out _ hm
  · rw [List.mem_singleton.mp hp]; exact PySem.W.codeHd_of_K X (c.hd _ hm)
  · rw [hfd]
    exact .of_eq rfl
  · refine ⟨fun p hp => ?_, a, ns, rfl, hn, hS, fun _ => rfl⟩
    rw [List.mem_singleton.mp hp]
    exact LamX.TabS.nil (hT _ (List.mem_singleton.mpr rfl))
  · have tb := TB _ (List.mem_singleton.mpr rfl)
    rw [hcc] at tb
    exact ok_law2 T G2 hcode tb
end WLH
end
section
set_option Elab.async false
set_option linter.all false
set_option maxRecDepth 100000
set_option maxHeartbeats 0
namespace WLH
open PySem PySem.Spec PyProof.Rows L2 WL
theorem run (w : World) : HandSHeadRun.RunEq R (PySem.W.view R.prog [60]) hk ob 6000 loose w := by
  intro os
  kernel_rfl

end WLH
open PySem PySem.W PySem.Calls PyProof.Rows
theorem PySem.Challenge.cw_weavelines_k02_whole_judges_holds : PySem.Challenge.rw_weavelines_k02_whole_judges.Holds := by
  w_on; o_law
  refine HandSHeadRun.head_any (r := OpenLaw.row PySem.Challenge.rw_weavelines_k02_whole_judges) (q := view (OpenLaw.row PySem.Challenge.rw_weavelines_k02_whole_judges).prog [60]) (H := WLH.hk) (ob := WLH.ob) (M := 6000) (loose := WLH.loose) (d := HandSHeadRun.topDef (OpenLaw.row PySem.Challenge.rw_weavelines_k02_whole_judges).prog 60) (kwd := []) WLH.ob_eq
    (by kernel_rfl) (fun s => by kernel_rfl) WLH.run (by kernel_rfl) (by kernel_rfl) (by kernel_rfl) (by rfl) (by first | assumption | decide +kernel) (by decide +kernel) ⟨rfl, rfl, rfl, rfl, rfl, by decide +kernel⟩ ?hw ?hc
  case hw => w_witness2
  case hc =>
    refine LamX.walk_ofTsE (l := PySem.Challenge.rw_weavelines_k02_whole_judges) (n := 63) (k := 19) (x := "script") (CX := fun _ => L2.CX0) rfl (by decide) (by kernel_rfl) ⟨rfl, by decide, by decide⟩ ?F (fun _ _ _ _ _ z => z)
    intro w mg fa h Y G hmg0
    obtain ⟨K, KX, c⟩ := Y
    have hmg : mg ("law" : PySem.Str) = some (.ref fa) := by
      have e : (HandSHeadRun.topDef (OpenLaw.row PySem.Challenge.rw_weavelines_k02_whole_judges).prog 60).name = ("law" : PySem.Str) := by kernel_rfl
      rw [← e]
      exact hmg0
    exact ⟨K, KX, WLH.lawAt KX G c hmg⟩
end
