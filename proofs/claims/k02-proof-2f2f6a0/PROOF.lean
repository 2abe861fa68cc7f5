import PyProof.Rows.All
import Wide.All
import OpenK.AllK
import Wide.FinOn
import HandS.ForMost
import HandS.Wide
import HandS.IsInst
import HandS.EndBits
import HandS.RaiseMore
import HandS.Evl
import HandS.Flow
import HandS.More
import HandS.NoneIn
import HandS.Walk
import PySem.Challenge.RW_soonknown_k02_what_is_a_value
set_option Elab.async false
set_option linter.all false
set_option maxRecDepth 100000
set_option maxHeartbeats 4000000
/-! Rules and words that the proofs of this program share. -/
namespace Sk
open PySem PySem.Spec PyProof.Rows L2 Evl

/-! ## powers of great ints -/
def CPowB (i j : Int) : Prop := 0 ≤ j ∧ (Builtin.Int.intBits i : Int) * j ≤ 2 ^ 27
theorem op_powB {X : Cx} : OpR X (binaryOp .Pow) (rI CPowB fun i j => .int (i ^ j.toNat)) := by
  intro pins s σ H x y u v Q I rx ry h
  obtain ⟨i, j, rfl, rfl, hc, q⟩ := h
  obtain ⟨t, rfl⟩ := rx
  obtain ⟨t', rfl⟩ := ry
  exact pow_int hc.1 hc.2 ⟨.int _, H, I.tok _, ⟨_, rfl⟩, q⟩
theorem bits_of {i : Int} {n : Nat} (h : i.natAbs < 2 ^ n) (h0 : 0 < n) : Builtin.Int.intBits i ≤ n := by
  unfold Builtin.Int.intBits
  split
  · omega
  · have := PySem.Flt.log2_lt_of h0 h
    omega
theorem abs_of_bits {i : Int} {n : Nat} (h : Builtin.Int.intBits i ≤ n) : i.natAbs < 2 ^ n := by
  unfold Builtin.Int.intBits at h
  split at h
  · rename_i e
    have e' : i = 0 := by simpa using e
    subst e'
    exact Nat.two_pow_pos n
  · rename_i e
    have e' : i ≠ 0 := by simpa using e
    have h1 : i.natAbs ≠ 0 := by omega
    have h2 := Nat.lt_log2_self (n := i.natAbs)
    exact Nat.lt_of_lt_of_le h2 (Nat.pow_le_pow_right (by decide) (by omega))

/-! ## the heap beside the source of draws -/
/-- the heap without what stands at st -/
def Hd (st : Addr) (H : Hp) : Hp := fun a => if a = st then none else H a
theorem hd_some {st a : Addr} {H : Hp} {o : HO} (h : Hd st H a = some o) : a ≠ st ∧ H a = some o := by
  unfold Hd at h
  split at h
  · cases h
  · exact ⟨by assumption, h⟩
theorem hd_of {st a : Addr} {H : Hp} {o : HO} (n : a ≠ st) (h : H a = some o) : Hd st H a = some o := by
  unfold Hd; rw [if_neg n]; exact h
theorem hd_le {st : Addr} {H : Hp} : Ex (Hd st H) H := fun _ _ h => (hd_some h).2
/-- what was there beside st is there -/
def Gr (st : Addr) (H H' : Hp) : Prop := Ex (Hd st H) (Hd st H')
theorem Gr.refl {st : Addr} {H : Hp} : Gr st H H := Ex.refl _
theorem Gr.trans {st : Addr} {H H1 H2 : Hp} (a : Gr st H H1) (b : Gr st H1 H2) : Gr st H H2 := Ex.trans a b
/-- the source: two numbers -/
def Strm (st : Addr) (H : Hp) : Prop := ∃ d s : Int, H st = some (.lst [.int d, .int s]) ∧ 0 ≤ d ∧ d.natAbs < 2 ^ 1100000 ∧ 0 ≤ s ∧ s < 2 ^ 31
theorem Strm.some {st : Addr} {H : Hp} (h : Strm st H) : ∃ o, H st = some o := let ⟨_, _, e, _⟩ := h; ⟨_, e⟩
theorem gr_upd {st : Addr} {H : Hp} {o : HO} : Gr st H (upd H st o) := fun a u h => by
  obtain ⟨n, e⟩ := hd_some h
  exact hd_of n (by rw [upd_ne n]; exact e)
theorem gr_new {st p : Addr} {H : Hp} {o : HO} (h : H p = none) : Gr st H (upd H p o) := fun a u e => by
  obtain ⟨n, e⟩ := hd_some e
  exact hd_of n (by rw [upd_ne (ne_of_none e h)]; exact e)
theorem gr_ex {st : Addr} {H H' : Hp} (h : Ex H H') : Gr st H H' := fun a u e => by
  obtain ⟨n, e⟩ := hd_some e
  exact hd_of n (h _ _ e)
theorem Strm.new {st p : Addr} {H : Hp} {o : HO} (h : Strm st H) (hp : H p = none) : Strm st (upd H p o) := by
  obtain ⟨d, s, e, r⟩ := h
  exact ⟨d, s, by rw [upd_ne (ne_of_none e hp)]; exact e, r⟩
theorem Strm.ne {st p : Addr} {H : Hp} (h : Strm st H) (hp : H p = none) : p ≠ st := by
  obtain ⟨o, e⟩ := h.some
  intro z; subst z; rw [e] at hp; cases hp
/-- fresh behind is fresh before -/
theorem Gr.back {st p : Addr} {H H' : Hp} (g : Gr st H H') (s : Strm st H') (h : H' p = none) : Hd st H p = none := by
  cases e : Hd st H p with
  | none => rfl
  | some o =>
    have := (hd_some (g _ _ e)).2
    rw [h] at this; cases this
/-- behind: the source still stands, the rest is there -/
structure Aft (st : Addr) (H H' : Hp) : Prop where
  gr : Gr st H H'
  sm : Strm st H'
theorem Aft.trans {st : Addr} {H H1 H2 : Hp} (a : Aft st H H1) (b : Aft st H1 H2) : Aft st H H2 := ⟨a.gr.trans b.gr, b.sm⟩
theorem Aft.of {st : Addr} {H : Hp} (s : Strm st H) : Aft st H H := ⟨.refl, s⟩
theorem Aft.new {st p : Addr} {H H1 : Hp} {o : HO} (a : Aft st H H1) (h : H1 p = none) : Aft st H (upd H1 p o) := ⟨a.gr.trans (gr_new h), a.sm.new h⟩
/-- a thing of one's own that H does not know changes -/
theorem Aft.mut {st p : Addr} {H H1 : Hp} {o : HO} (a : Aft st H H1) (n : p ≠ st) (h : Hd st H p = none) : Aft st H (upd H1 p o) := by
  refine ⟨fun b u e => ?_, ?_⟩
  · have hb : b ≠ p := by intro z; subst z; rw [h] at e; cases e
    obtain ⟨nb, e1⟩ := hd_some (a.gr _ _ e)
    exact hd_of nb (by rw [upd_ne hb]; exact e1)
  · obtain ⟨d, s, e, r⟩ := a.sm
    exact ⟨d, s, by rw [upd_ne (Ne.symm n)]; exact e, r⟩
theorem Aft.at {st p : Addr} {H H1 : Hp} {o : HO} (a : Aft st H H1) (n : p ≠ st) (h : H p = some o) : H1 p = some o := (hd_some (a.gr _ _ (hd_of n h))).2
end Sk

/-! Data of any depth in the abstract heap; its repr. -/
namespace Sk
open PySem PySem.Spec PyProof.Rows L2 Evl
mutual
inductive Rx (h : Heap) : Value → PyData → Prop
  | none : Rx h .none .none
  | bool (b) : Rx h (.bool b) (.bool b)
  | int (i t) : Rx h (.int i t) (.int i)
  | str (x t) : Rx h (.str x t) (.str x)
  | list {a o vs n ds} (e : h.get? a = some o) (c : o.cls = .type "list") (q : o.data = .seq vs n) (r : RxAll h vs.toList ds) : Rx h (.ref a) (.list ds)
  | tuple {a o vs n ds} (e : h.get? a = some o) (c : o.cls = .type "tuple") (q : o.data = .seq vs n) (r : RxAll h vs.toList ds) : Rx h (.ref a) (.tuple ds)
  | dict {a o es n kvs} (l : (a == sysModules) = false) (e : h.get? a = some o) (c : o.cls = .type "dict") (q : o.data = .dict es n) (r : RxAll h (es.toList.map (·.key)) (kvs.map (·.1)))
      (r2 : RxAll h (es.toList.map (·.val)) (kvs.map (·.2))) : Rx h (.ref a) (.dict kvs)
inductive RxAll (h : Heap) : List Value → List PyData → Prop
  | nil : RxAll h [] []
  | cons {v vs d ds} (x : Rx h v d) (r : RxAll h vs ds) : RxAll h (v :: vs) (d :: ds)
end
mutual
theorem Rx.reads {h : Heap} : ∀ {v : Value} {d : PyData}, Rx h v d → ∃ as, Reads h v d as
  | _, _, .none => ⟨_, .none⟩
  | _, _, .bool b => ⟨_, .bool b⟩
  | _, _, .int i t => ⟨_, .int i t⟩
  | _, _, .str x t => ⟨_, .str x t⟩
  | _, _, .list e c q r => let ⟨_, z⟩ := r.reads; ⟨_, .list e c q z⟩
  | _, _, .tuple e c q r => let ⟨_, z⟩ := r.reads; ⟨_, .tuple e c q z⟩
  | _, _, .dict _ e c q r r2 => let ⟨_, z⟩ := r.reads; let ⟨_, z2⟩ := r2.reads; ⟨_, .dict e c q z z2⟩
theorem RxAll.reads {h : Heap} : ∀ {v : List Value} {d : List PyData}, RxAll h v d → ∃ as, ReadsAll h v d as
  | _, _, .nil => ⟨_, .nil⟩
  | _, _, .cons x r => let ⟨_, z⟩ := x.reads; let ⟨_, z2⟩ := r.reads; ⟨_, .cons z z2⟩
end
def FitsAll (ds : List PyData) : Prop := ∀ t ∈ PyData.shownAll ds, t.length ≤ sizeLine
theorem fits_list {xs : List PyData} (h : (PyData.list xs).shown.length ≤ sizeLine) : (listText (PyData.shownAll xs)).length ≤ sizeLine ∧ FitsAll xs := by
  have z : (listText (PyData.shownAll xs)).length ≤ sizeLine := by simpa only [PyData.shown] using h
  exact ⟨z, fun t m => Nat.le_trans (listText_mem_le m) z⟩
theorem fits_tuple {xs : List PyData} (h : (PyData.tuple xs).shown.length ≤ sizeLine) : (tupleText (PyData.shownAll xs)).length ≤ sizeLine ∧ FitsAll xs := by
  have z : (tupleText (PyData.shownAll xs)).length ≤ sizeLine := by simpa only [PyData.shown] using h
  exact ⟨z, fun t m => Nat.le_trans (tupleText_mem_le m) z⟩
theorem fits_dict {kvs : List (PyData × PyData)} (h : (PyData.dict kvs).shown.length ≤ sizeLine) : (dictText (PyData.shownKv kvs)).length ≤ sizeLine ∧ FitsAll (kvs.map (·.1)) ∧ FitsAll (kvs.map (·.2)) := by
  have z : (dictText (PyData.shownKv kvs)).length ≤ sizeLine := by simpa only [PyData.shown] using h
  refine ⟨z, fun t m => ?_, fun t m => ?_⟩
  · obtain ⟨p, hp, l⟩ := PyData.shownKv_key_le kvs t m
    exact Nat.le_trans l (Nat.le_trans (dictText_mem_le hp) z)
  · obtain ⟨p, hp, l⟩ := PyData.shownKv_val_le kvs t m
    exact Nat.le_trans l (Nat.le_trans (dictText_mem_le hp) z)
/-- what is needed of the parts of a dict -/
theorem two_dict {prog : Program} {w : World} {h : Heap} {es : List DictEntry} {kvs : List (PyData × PyData)} {b1 b2 : List Addr} (k1 : ReprAllK prog w b1 h (PyData.depthAll (kvs.map (·.1))) (es.map (·.key)) (PyData.shownAll (kvs.map (·.1))))
    (k2 : ReprAllK prog w b2 h (PyData.depthAll (kvs.map (·.2))) (es.map (·.val)) (PyData.shownAll (kvs.map (·.2)))) : ReprEntriesK prog w (b1 ++ b2) h (PyData.depthKv kvs) es (PyData.shownKv kvs) := by
  rw [PyData.shownKv_eq]
  exact .of_two es _ _ (k1.more_le (fun _ m => List.mem_append.mpr (.inl m)) (PyData.depthAll_keys_le kvs)) (k2.more_le (fun _ m => List.mem_append.mpr (.inr m)) (PyData.depthAll_vals_le kvs))
mutual
theorem Rx.repr {prog : Program} {w : World} {h : Heap} : ∀ {v : Value} {d : PyData}, Rx h v d → d.showable = true → d.shown.length ≤ sizeLine → ∃ bs, ReadAtMost h d.depth bs ∧ ReprK prog w bs h d.depth v d.shown
  | _, _, .none, _, _ => ⟨[], (fun _ m => nomatch m), by simp only [PyData.shown]; exact .of_is .none _ _ _⟩
  | _, _, .bool b, _, _ => ⟨[], (fun _ m => nomatch m), by simp only [PyData.shown]; exact .of_is (.bool b) _ _ _⟩
  | _, _, .int i t, s, _ => ⟨[], (fun _ m => nomatch m), by simp only [PyData.shown]; exact .of_is (.int t (by simpa [PyData.showable] using s)) _ _ _⟩
  | _, _, .str x t, _, z => ⟨[], (fun _ m => nomatch m), by simp only [PyData.shown] at z ⊢; exact .of_is (.str x t z) _ _ _⟩
  | _, _, .list (a := a) (vs := vs) (ds := xs) e c q r, s, z => by
    obtain ⟨z1, z2⟩ := fits_list z
    obtain ⟨bs, hb, hk⟩ := r.repr (prog := prog) (w := w) (by simpa [PyData.showable] using s) z2
    obtain ⟨as, rr⟩ := (Rx.list e c q r).reads
    have na : a ∉ bs := not_mem_of_deeper rr (by simp only [PyData.depth]; omega) hb
    refine ⟨a :: bs, .cons rr (by simp only [PyData.depth]; omega) hb, ?_⟩
    simp only [PyData.depth, PyData.shown]
    obtain ⟨l⟩ := vs
    cases l with
    | nil =>
      cases (show RxAll h [] xs from r)
      simp only [PyData.shownAll, listText_nil]
      exact ReprK.listEmpty e c q
    | cons x l => exact .list e c q na (by simpa using hk.length_eq) fun i y m => hk.item i y (by simpa using m)
  | _, _, .tuple (a := a) (ds := xs) e c q r, s, z => by
    obtain ⟨z1, z2⟩ := fits_tuple z
    obtain ⟨bs, hb, hk⟩ := r.repr (prog := prog) (w := w) (by simpa [PyData.showable] using s) z2
    obtain ⟨as, rr⟩ := (Rx.tuple e c q r).reads
    have na : a ∉ bs := not_mem_of_deeper rr (by simp only [PyData.depth]; omega) hb
    refine ⟨a :: bs, .cons rr (by simp only [PyData.depth]; omega) hb, ?_⟩
    simp only [PyData.depth, PyData.shown]
    exact .tuple e c q na hk
  | _, _, .dict (a := a) (es := es) (kvs := kvs) l e c q r r2, s, z => by
    obtain ⟨z1, z2, z3⟩ := fits_dict z
    obtain ⟨s1, s2⟩ := PyData.showableKv_split kvs (by simpa [PyData.showable] using s)
    obtain ⟨b1, hb1, k1⟩ := r.repr (prog := prog) (w := w) s1 z2
    obtain ⟨b2, hb2, k2⟩ := r2.repr (prog := prog) (w := w) s2 z3
    obtain ⟨as, rr⟩ := (Rx.dict l e c q r r2).reads
    have hb : ReadAtMost h (PyData.depthKv kvs) (b1 ++ b2) := .append (hb1.mono (PyData.depthAll_keys_le kvs)) (hb2.mono (PyData.depthAll_vals_le kvs))
    have na : a ∉ b1 ++ b2 := not_mem_of_deeper rr (by simp only [PyData.depth]; omega) hb
    refine ⟨a :: (b1 ++ b2), .cons rr (by simp only [PyData.depth]; omega) hb, ?_⟩
    simp only [PyData.depth, PyData.shown]
    exact .dict e c q l na (two_dict k1 k2)
theorem RxAll.repr {prog : Program} {w : World} {h : Heap} : ∀ {vs : List Value} {ds : List PyData}, RxAll h vs ds → PyData.showableAll ds = true → FitsAll ds → ∃ bs, ReadAtMost h (PyData.depthAll ds) bs ∧ ReprAllK prog w bs h (PyData.depthAll ds) vs (PyData.shownAll ds)
  | _, _, .nil, _, _ => ⟨[], (fun _ m => nomatch m), by simp only [PyData.shownAll]; exact .nil⟩
  | _, _, .cons (d := d) (ds := ds) x r, s, z => by
    obtain ⟨s1, s2⟩ : d.showable = true ∧ PyData.showableAll ds = true := by simpa [PyData.showableAll] using s
    unfold FitsAll at z
    simp only [PyData.shownAll, List.mem_cons] at z
    obtain ⟨b1, hb1, k1⟩ := x.repr (prog := prog) (w := w) s1 (z _ (.inl rfl))
    obtain ⟨b2, hb2, k2⟩ := r.repr (prog := prog) (w := w) s2 fun t m => z t (.inr m)
    refine ⟨b1 ++ b2, .append (hb1.mono ?_) (hb2.mono ?_), ?_⟩
    · simp only [PyData.depthAll]; omega
    · simp only [PyData.depthAll]; omega
    · simp only [PyData.depthAll, PyData.shownAll]
      exact .cons ((k1.more fun _ m => List.mem_append.mpr (.inl m)).level_le (by omega)) (k2.more_le (fun _ m => List.mem_append.mpr (.inr m)) (by omega))
end
/-- repr(v), where no repr is running -/
theorem call_repr_rx {prog : Program} {w : World} {A : Around} {E : Value → Shared → Prop} {s : Shared} {v : Value} {d : PyData} {Q : Value → Shared → Prop} (r : Rx s.heap v d) (hs : d.showable = true) (hz : d.shown.length ≤ sizeLine) (hg : A.guards = some [])
    (hu : A.units + (d.depth + 1) < cLine) (hQ : ∀ h' u tk, (∀ b o, s.heap.get? b = some o → h'.get? b = some o) → Q (.str d.shown u) { s with heap := h', toks := tk }) : wpAny (model prog w) A (call (.builtin "repr") [v]) Q E s := by
  have id : ∀ b o, s.heap.get? b = some o → s.heap.get? b = some o := fun _ _ z => z
  have hg1 : A.in1.guards = some [] := hg
  have here : ∀ u tk, Q (.str d.shown u) { s with toks := tk } := fun u tk => hQ s.heap u tk id
  cases r with
  | none => simp only [PyData.shown] at here; exact PySem.P.repr_of_none (here _ _)
  | bool b => simp only [PyData.shown] at here; exact PySem.P.repr_of_bool (here _ _)
  | int i t => simp only [PyData.shown] at here; exact PySem.P.repr_of_int (by simpa [PyData.showable] using hs) (here _ _)
  | str x t => simp only [PyData.shown] at here hz; exact PySem.P.repr_of_str (here _ _) hz
  | @list a o vs n xs e c q r =>
    obtain ⟨z1, z2⟩ := fits_list hz
    obtain ⟨bs, hb, hk⟩ := r.repr (prog := prog) (w := w) (by simpa [PyData.showable] using hs) z2
    obtain ⟨as, rr⟩ := (Rx.list e c q r).reads
    have na : a ∉ bs := not_mem_of_deeper rr (by simp only [PyData.depth]; omega) hb
    simp only [PyData.depth] at hu
    simp only [PyData.shown] at hQ
    refine call_repr_slot (by omega) ⟨o, e, c⟩ F.slot_list_repr.toG ?_
    obtain ⟨l⟩ := vs
    cases l with
    | nil =>
      cases (show RxAll s.heap [] xs from r)
      simp only [PyData.shownAll, listText_nil] at hQ
      exact call_list_repr_empty ⟨o, e, c⟩ e q ⟨_, _, rfl, hQ s.heap _ _ id⟩
    | cons x l =>
      exact call_list_reprK e c q na (by simpa using hk.length_eq) (fun i y m => hk.item i y (by simpa using m)) hg1 (fun b _ => .nil b) (by show A.units + 1 + _ < cLine; omega) id (fun h' u tk k => ⟨_, _, rfl, hQ h' u tk k⟩) z1
  | @tuple a o vs n xs e c q r =>
    obtain ⟨z1, z2⟩ := fits_tuple hz
    obtain ⟨bs, hb, hk⟩ := r.repr (prog := prog) (w := w) (by simpa [PyData.showable] using hs) z2
    obtain ⟨as, rr⟩ := (Rx.tuple e c q r).reads
    have na : a ∉ bs := not_mem_of_deeper rr (by simp only [PyData.depth]; omega) hb
    simp only [PyData.depth] at hu
    simp only [PyData.shown] at hQ
    refine call_repr_slot (by omega) ⟨o, e, c⟩ F.slot_tuple_repr ?_
    exact call_tuple_reprK e c q na hk hg1 (fun b _ => .nil b) (by show A.units + 1 + _ < cLine; omega) id (fun h' u tk k => ⟨_, _, rfl, hQ h' u tk k⟩) z1
  | @dict a o es n kvs l e c q r r2 =>
    obtain ⟨z1, z2, z3⟩ := fits_dict hz
    obtain ⟨s1, s2⟩ := PyData.showableKv_split kvs (by simpa [PyData.showable] using hs)
    obtain ⟨b1, hb1, k1⟩ := r.repr (prog := prog) (w := w) s1 z2
    obtain ⟨b2, hb2, k2⟩ := r2.repr (prog := prog) (w := w) s2 z3
    obtain ⟨as, rr⟩ := (Rx.dict l e c q r r2).reads
    have hb : ReadAtMost s.heap (PyData.depthKv kvs) (b1 ++ b2) := .append (hb1.mono (PyData.depthAll_keys_le kvs)) (hb2.mono (PyData.depthAll_vals_le kvs))
    have na : a ∉ b1 ++ b2 := not_mem_of_deeper rr (by simp only [PyData.depth]; omega) hb
    simp only [PyData.depth] at hu
    simp only [PyData.shown] at hQ
    refine call_repr_slot (by omega) ⟨o, e, c⟩ F.slot_dict_repr ?_
    exact call_dict_reprK e c q l na (two_dict k1 k2) hg1 (fun b _ => .nil b) (by show A.units + 1 + _ < cLine; omega) id (fun h' u tk k => ⟨_, _, rfl, hQ h' u tk k⟩) z1
end Sk

/-! Data of any depth over the abstract heap. -/
namespace Sk
open PySem PySem.Spec PyProof.Rows L2 Evl
mutual
inductive Dq (H : Hp) : V → PyData → Prop
  | non : Dq H .non .none
  | bl (b : Bool) : Dq H (.bl b) (.bool b)
  | int (i : Int) : Dq H (.int i) (.int i)
  | str (x : Str) : Dq H (.str x) (.str x)
  | lst {a xs ds} (e : H a = some (.lst xs)) (r : DqAll H xs ds) : Dq H (.ref a) (.list ds)
  | tup {a xs ds} (e : H a = some (.tup xs)) (r : DqAll H xs ds) : Dq H (.ref a) (.tuple ds)
  | dct {a kvs ds} (e : H a = some (.dK kvs)) (r : DqKv H kvs ds) : Dq H (.ref a) (.dict ds)
inductive DqAll (H : Hp) : List V → List PyData → Prop
  | nil : DqAll H [] []
  | cons {v vs d ds} (x : Dq H v d) (r : DqAll H vs ds) : DqAll H (v :: vs) (d :: ds)
inductive DqKv (H : Hp) : List (Key × V) → List (PyData × PyData) → Prop
  | nil : DqKv H [] []
  | cons {k : Str} {v d kvs ds} (x : Dq H v d) (r : DqKv H kvs ds) : DqKv H ((.inr k, v) :: kvs) ((.str k, d) :: ds)
end
mutual
theorem Dq.mono {H H' : Hp} (e : Ex H H') : ∀ {v d}, Dq H v d → Dq H' v d
  | _, _, .non => .non
  | _, _, .bl b => .bl b
  | _, _, .int i => .int i
  | _, _, .str x => .str x
  | _, _, .lst h r => .lst (e _ _ h) (r.mono e)
  | _, _, .tup h r => .tup (e _ _ h) (r.mono e)
  | _, _, .dct h r => .dct (e _ _ h) (r.mono e)
theorem DqAll.mono {H H' : Hp} (e : Ex H H') : ∀ {v d}, DqAll H v d → DqAll H' v d
  | _, _, .nil => .nil
  | _, _, .cons x r => .cons (x.mono e) (r.mono e)
theorem DqKv.mono {H H' : Hp} (e : Ex H H') : ∀ {v d}, DqKv H v d → DqKv H' v d
  | _, _, .nil => .nil
  | _, _, .cons x r => .cons (x.mono e) (r.mono e)
end
theorem DqAll.length {H : Hp} : ∀ {xs ds}, DqAll H xs ds → xs.length = ds.length
  | _, _, .nil => rfl
  | _, _, .cons _ r => congrArg Nat.succ r.length
theorem DqAll.get {H : Hp} : ∀ {xs ds}, DqAll H xs ds → ∀ {i : Nat} {v : V}, xs[i]? = some v → ∃ d, ds[i]? = some d ∧ Dq H v d
  | _, _, .nil, _, _, e => by simp at e
  | _, _, .cons x r, 0, _, e => by simp at e; subst e; exact ⟨_, rfl, x⟩
  | _, _, .cons x r, i + 1, _, e => by
    obtain ⟨d, h1, h2⟩ := r.get (i := i) (by simpa using e)
    exact ⟨d, by simpa using h1, h2⟩
theorem DqAll.snoc {H : Hp} : ∀ {xs ds}, DqAll H xs ds → ∀ {v d}, Dq H v d → DqAll H (xs ++ [v]) (ds ++ [d])
  | _, _, .nil, _, _, x => .cons x .nil
  | _, _, .cons y r, _, _, x => .cons y (r.snoc x)
theorem DqKv.length {H : Hp} : ∀ {xs ds}, DqKv H xs ds → xs.length = ds.length
  | _, _, .nil => rfl
  | _, _, .cons _ r => congrArg Nat.succ r.length
/-- the names -/
def keyS : PyData → Str
  | .str k => k
  | _ => Str.empty
theorem DqKv.keys {H : Hp} : ∀ {xs ds}, DqKv H xs ds → xs.map (·.1) = (ds.map fun p => keyS p.1).map Sum.inr
  | _, _, .nil => rfl
  | _, _, .cons _ r => by simp only [List.map_cons, r.keys, keyS]
/-- what stands under a name -/
def getD (ds : List (PyData × PyData)) (k : Str) : Option PyData := (ds.find? fun p => decide (keyS p.1 = k)).map (·.2)
theorem DqKv.val {H : Hp} {k : Str} : ∀ {xs ds}, DqKv H xs ds → ∀ {d}, getD ds k = some d → ∃ v, valV xs (.inr k) = some v ∧ Dq H v d
  | _, _, .nil, _, e => by simp [getD] at e
  | _, _, .cons (k := k') (v := v) (d := d') (ds := ds) x r, d, e => by
    by_cases hk : k' = k
    · subst hk
      simp [getD, keyS] at e
      subst e
      exact ⟨v, by simp [valV], x⟩
    · have e' : getD ds k = some d := by simpa [getD, keyS, hk] using e
      obtain ⟨u, h1, h2⟩ := r.val e'
      refine ⟨u, ?_, h2⟩
      rw [← h1]
      simp [valV, hk]
section
variable {X : Cx} {pins : List (Addr × Obj)} {σ : L2.St} {H : Hp} {s : Shared}
mutual
theorem Dq.rx (I : Inv X pins σ H s) : ∀ {v : V} {d : PyData} {u : Value}, Dq H v d → RelV v u → Rx s.heap u d
  | _, _, _, .non, r => by cases r; exact .none
  | _, _, _, .bl b, r => by cases r; exact .bool b
  | _, _, _, .int i, r => by obtain ⟨t, rfl⟩ := r; exact .int i t
  | _, _, _, .str x, r => by obtain ⟨t, rfl⟩ := r; exact .str x t
  | _, _, _, .lst e ra, r => by
    cases r
    obtain ⟨_, its, n, rv, z⟩ := I.hok _ _ e
    exact .list z rfl rfl (by simpa using ra.rx I rv)
  | _, _, _, .tup e ra, r => by
    cases r
    obtain ⟨_, its, rv, o, z, c, n, q⟩ := I.hok _ _ e
    exact .tuple z c q (by simpa using ra.rx I rv)
  | _, _, _, .dct e ra, r => by
    cases r
    obtain ⟨_, low, vs, rel, o, es, ep, z, c, q, _, pr, _⟩ := dk_of I.hok e
    obtain ⟨h1, h2⟩ := ra.rx I rel pr
    exact .dict low z c.1 q h1 h2
theorem DqAll.rx (I : Inv X pins σ H s) : ∀ {v : List V} {d : List PyData} {u : List Value}, DqAll H v d → Vals v u → RxAll s.heap u d
  | _, _, _, .nil, r => by cases r; exact .nil
  | _, _, _, .cons x ra, r => by
    cases r with
    | cons r1 r2 => exact .cons (x.rx I r1) (ra.rx I r2)
theorem DqKv.rx (I : Inv X pins σ H s) : ∀ {kvs : List (Key × V)} {ds : List (PyData × PyData)} {vs : List (Key × Value)} {es : List DictEntry}, DqKv H kvs ds → KV kvs vs → Pairs (mixKind X.prog X.w) es vs →
    RxAll s.heap (es.map (·.key)) (ds.map (·.1)) ∧ RxAll s.heap (es.map (·.val)) (ds.map (·.2))
  | _, _, _, _, .nil, r, p => by
    cases r
    cases p
    exact ⟨.nil, .nil⟩
  | _, _, _, _, .cons (k := k) x ra, r, p => by
    cases r with
    | @cons a b _ _ r1 r2 =>
      obtain ⟨kb, vb⟩ := b
      obtain ⟨h1, h2⟩ := r1
      have h1' : (Sum.inr k : Key) = kb := h1
      subst h1'
      cases p with
      | @cons e kv _ _ p1 p2 p3 =>
        obtain ⟨g1, g2⟩ := ra.rx I r2 p3
        have hk : keyIs (.inr k) e.key = true := p1
        obtain ⟨t, ek⟩ := Value.isStrOf_shape (show Value.isStrOf k e.key = true from hk)
        have ev : e.val = vb := p2
        simp only [List.map_cons]
        rw [ek, ev]
        exact ⟨.cons (.str k t) g1, .cons (x.rx I h2) g2⟩
end
end
/-- repr(v), no repr running around -/
theorem call_reprQ {X : Cx} (hg : X.A.guards = some []) (hu : X.A.units + 64 < cLine) : CallR X (.builtin "repr") (fun xs H Q => ∃ x d, xs = [x] ∧ Dq H x d ∧ d.showable = true ∧ d.shown.length ≤ sizeLine ∧ d.depth ≤ 60 ∧ Q (.str d.shown) H) := by
  intro pins s σ H xs us Q I r h
  obtain ⟨x, d, rfl, hd, hs, hz, hl, q⟩ := h
  obtain ⟨u, rfl, ru⟩ := vals1 r
  exact call_repr_rx (hd.rx I ru) hs hz hg (by omega) fun h' u' tk k => ⟨.str d.shown, H, I.kept k, ⟨_, rfl⟩, q⟩
end Sk

/-! A law's entry where it is known that no repr runs around. -/
namespace Sk
open PySem PySem.Spec PyProof.Rows L2 Evl
/-- the promise of the law's def, called from outside -/
def LawOk (P : Program) (w : World) (K : PySem.W.Frag) (mg : Str → Option Value) (base : Heap) (f : Addr) (fd : FuncData) (x : Str) (sp : Sp) : Prop :=
  ∀ (s : Shared) (H : Hp) (args : Args) (u : Value) (v : V) (Q : VK), Env0 P w K mg base callerA [] s H → BindsTo s fd args [(x, u)] → RelV v u → sp [v] H Q E0 → codeAny (model P w) callerA (.call (.ref f) args) (CR CX0 [] P w H s Q E0) s
/-- by its body -/
theorem law_of {P : Program} {w : World} {K : PySem.W.Frag} {mg : Str → Option Value} {base : Heap} {k : Nat} {f : Addr} {fd : FuncData} {x qual : Str} {st : Stmt} {N : List Str} {y : Str} {sp : Sp} (F : Fun K x qual st f fd) (S : FnScope N [y] (defScope st)) (hr : Room (k + 1) callerA)
    (hbody : ∀ (cdv : Value) (s : Shared) (H : Hp) (v : V) (Q : VK), Room k (callerA.deeper (envOfC qual (defScope st) s.heap.objs.size f cdv)) → (callerA.deeper (envOfC qual (defScope st) s.heap.objs.size f cdv)).guards = some [] → sp [v] H Q E0 →
      ∃ t, PSs (cxOf CX0 P w K mg base N qual (defScope st) f cdv callerA [] s H E0).nox (defBody st) t ∧ t { nx := fun _ H' => Q .non H', rt := Q } (start N [v]) H) : LawOk P w K mg base f fd y sp := by
  intro s H args u v Q e0 hb rv hsp
  obtain ⟨oc, od, kV, doc, pm, an, cdv, ct, osl, rfl, lk, hcd⟩ := F.ex
  have keep : ∀ b o, base.get? b = some o → s.heap.get? b = some o := fun b o z => (e0.bs b o z).1
  have kin := e0.mod.kin.keeps keep
  have kind : ∀ q ∈ [(y, u)], (defScope st).names.lookup q.1 = some .local ∨ ((defScope st).names.lookup q.1 = some .cell ∧ ((cellsFrom (s.heap.objs.size + 1) (defScope st).names []).lookup q.1).isSome = true) := by
    intro q hq
    obtain rfl := List.mem_singleton.mp hq
    exact (S.par y (List.mem_singleton.mpr rfl)).imp (fun z => z) fun z => ⟨z, PySem.W.cellsFrom_some _ _ _ (.inl z)⟩
  refine codeAny_call_function hr.depth (kin _ _ lk) rfl S.co S.gen rfl (PySem.W.codeRec_of kin hcd) (hb _ _ _ _ (wpAny_newFunctionEnv_cells S.kind kind fun env he s1 z => ?_))
  subst he
  refine ⟨(e0.mod.nolimit.keeps keep).keeps z.toInCall.keep, codeAny_func ?_⟩
  obtain ⟨t, ht, hq⟩ := hbody cdv s H v Q (hr.deeper _) rfl hsp
  have I : Inv (cxOf CX0 P w K mg base N qual (defScope st) f cdv callerA [] s H E0) [] (start N [v]) H s1 := inv_start (us := [u]) S hr.hd e0 rfl (.cons rv .nil) z
  refine wpAny_mono (ht.nox.run [] s1 _ H _ I hq) (fun fl s' hs => ?_) fun e s' hs => hs
  cases fl with
  | ret r =>
    obtain ⟨v', _, H', J, rr, q⟩ := hs
    exact ⟨v', H', J.os, J.bare, J.base, J.hok, rr, q⟩
  | next =>
    obtain ⟨_, H', J, q⟩ := hs
    exact ⟨.non, H', J.os, J.bare, J.base, J.hok, rfl, q⟩
  | brk => obtain ⟨_, _, _, q⟩ := hs; exact q.elim
  | cont => obtain ⟨_, _, _, q⟩ := hs; exact q.elim
/-- from the heap behind the top -/
theorem law_enter {P : Program} {w : World} {K : PySem.W.Frag} {mg mb : Str → Option Value} {fa a : Addr} {fd : FuncData} {x : Str} {sp : Sp} {s : Shared} {vs : List Value} {ns : List Int} (KX : K.In s.heap) (hns : s.heap.Ns mainGlobals mg) (hb : s.heap.Ns builtinsNs mb)
    (hbb : ∀ n : Str, n ≠ "__name__" → mb n = bootBuiltins n) (hlim : s.heap.NoLimit) (hg : s.gens = #[]) (ha : s.heap.get? a = some { cls := .type "list", data := .seq vs.toArray }) (hi : IntsAre vs ns) (hl : ns.length ≤ sizeLine)
    (F : ∀ base : Heap, K.In base → base.Ns mainGlobals mg → LawOk P w K mg base fa fd x sp) (hbind : ∀ (s : Shared) (u : Value), BindsTo s fd ⟨[u], []⟩ [(x, u)])
    (hsp : ∀ H : Hp, Only H → SqL K H a (ns.map V.int) → sp [.ref a] H (fun v _ => v = .bl true) E0) :
    codeAny (model P w) callerA (.call (.ref fa) ⟨[.ref a], []⟩) (fun r s' => r = .ok (.ret (.bool true)) ∧ OldK s.heap s'.heap ∧ s'.os = s.os ∧ AllBare s'.gens) s := by
  have rv := vals_ints hi
  have lenV := hi.length
  suffices core : ∀ H : Hp, Only H → SqL K H a (ns.map V.int) → HOk P w H s.heap → (∀ b, H b ≠ none → b = a ∧ K.lookup a = none) →
      codeAny (model P w) callerA (.call (.ref fa) ⟨[.ref a], []⟩) (fun r s' => r = .ok (.ret (.bool true)) ∧ OldK s.heap s'.heap ∧ s'.os = s.os ∧ AllBare s'.gens) s by
    cases hk : K.lookup a with
    | some o =>
      have e := KX a o hk
      rw [ha] at e
      cases e
      refine core (fun _ => none) (fun _ => .inl rfl) (.inr ⟨_, vs.toArray, _, hk, rfl, rfl, rfl, ?_, by simpa using rv⟩) (fun b u z => nomatch z) fun b z => absurd rfl z
      rw [List.size_toArray, lenV]; exact hl
    | none =>
      let ob : Obj := { cls := .type "list", data := .seq vs.toArray }
      have at_ : ∀ b u, (fun b => if b = a then some (HO.frz ob (.lst (ns.map V.int))) else none : Hp) b = some u → b = a ∧ u = .frz ob (.lst (ns.map V.int)) := by
        intro b u z
        by_cases h : b = a
        · subst h; simp at z; exact ⟨rfl, z.symm⟩
        · simp [h] at z
      refine core (fun b => if b = a then some (.frz ob (.lst (ns.map V.int))) else none) (fun b => ?_) (.inl (.inr ⟨ob, by simp⟩)) (fun b u z => ?_) fun b z => ?_
      · by_cases h : b = a
        · exact .inr ⟨ob, ns.map V.int, by simp [h]⟩
        · exact .inl (by simp [h])
      · obtain ⟨rfl, rfl⟩ := at_ b u z
        exact ⟨ha, by rw [List.length_map]; exact hl, vs, _, rv, ha⟩
      · by_cases h : b = a
        · exact ⟨h, hk⟩
        · exact absurd (by simp [h]) z
  intro H hO hS hok hA
  have dictNone : ∀ {b o es ep}, s.heap.get? b = some o → o.data = .dict es ep → H b = none := by
    intro b o es ep e d
    cases q : H b with
    | none => rfl
    | some u =>
      have := (hA b (by simp [q])).1
      subst this
      rw [ha] at e; cases e; cases d
  have nsK : ∀ {b m}, s.heap.Ns b m → (hidT s.heap H).Ns b m := fun ⟨o, es, ep, e, d, r⟩ => ⟨o, es, ep, hidT_get e (dictNone e d), d, r⟩
  have kin : K.In (hidT s.heap H) := fun b o e => hidT_get (KX b o e) (by
    cases q : H b with
    | none => rfl
    | some u =>
      obtain ⟨rfl, n⟩ := hA b (by simp [q])
      rw [n] at e; cases e)
  have e0 : Env0 P w K mg (hidT s.heap H) callerA [] s H := by
    refine ⟨rfl, ⟨kin, nsK hns, ⟨mb, nsK hb, hbb⟩, ?_⟩, fun b o e => of_hidT e, Nat.le_of_eq (hidT_size _ _), trivial, fun b z => ?_, hok, .of_eq hg⟩
    · obtain ⟨mc, h1, h2⟩ := hlim
      exact ⟨mc, nsK h1, h2⟩
    · cases (show b ∈ ([] : List Addr) from z)
  refine codeAny_mono (F _ kin (nsK hns) s H ⟨[.ref a], []⟩ (.ref a) (.ref a) _ e0 (hbind s (.ref a)) rfl (hsp H hO hS)) fun r s' h => ?_
  rcases r with e | fl
  · exact (show False from h).elim
  cases fl with
  | next => exact (show False from h).elim
  | brk => exact (show False from h).elim
  | cont => exact (show False from h).elim
  | ret u =>
    obtain ⟨v, H', os, bare, un, hok', r', q⟩ := h
    cases (show v = .bl true from q)
    cases (show u = Value.bool true from r')
    refine ⟨rfl, .of_keep fun b o e => ?_, os, bare⟩
    cases q : H b with
    | none => exact un.keep b o e q (fun z => by cases (show b ∈ ([] : List Addr) from z)) (fun z => by cases z)
    | some u =>
      rcases hO b with z | ⟨ob, xs, z⟩
      · rw [q] at z; cases z
      · have e1 := (hok b _ z).1
        rw [e] at e1; cases e1
        exact (hok' b _ (un.frzs b _ _ z)).1
/-- the end of a law row: the script has at most n ints of bounded size -/
theorem walk_law {l : PySem.W.OpenLaw} {n : Nat} {q : Program} {loose : List Str} {XP : (Str → Option Value) → Heap → Prop} {YP : World → Heap → Prop} {d : DefRec} {K : Params → PySem.W.Frag} {sp : World → Sp} {x : Str} (hn : l.most = some n) (hn2 : n ≤ sizeLine) (hdf : d.params.defaults = [])
    (hY : ∀ (w : World) (h : Heap), YP w h → (K w.params).In h)
    (F : ∀ (w : World) (mg : Str → Option Value) (fa : Addr) (h : Heap), (K w.params).In h → h.Ns mainGlobals mg → mg d.name = some (.ref fa) → ∃ fd : FuncData, (∀ (s : Shared) (u : Value), BindsTo s fd ⟨[u], []⟩ [(x, u)]) ∧
        ∀ base : Heap, (K w.params).In base → base.Ns mainGlobals mg → LawOk l.prog w (K w.params) mg base fa fd x (sp w))
    (hsp : ∀ (w : World) (H : Hp) (a : Addr) (ns : List Int), ns.length ≤ n → (∀ z ∈ ns, Builtin.Int.intBits z ≤ 1048576) → SqL (K w.params) H a (ns.map V.int) → sp w [.ref a] H (fun v _ => v = .bl true) E0) :
    PySem.W.WalkO q loose XP YP l.row.toRowW d [] (fun f vs => PySem.call f vs) := by
  refine Att.attach_callB hn hdf fun w s₀ s₁ mg mb fa o pm cd doc a vs ns G Y ho hd hcd hmg hobj hints hlen hbits hg => ?_
  obtain ⟨fd, hb, hF⟩ := F w mg fa _ (hY w _ Y) G.T.g hmg
  exact law_enter (hY w _ Y) G.T.g G.T.b G.T.builtins G.T.nolimit hg hobj hints (Nat.le_trans hlen hn2) hF hb fun H _ hS => hsp w H a ns hlen hbits hS
end Sk

/-! Values and their documents, in plain Lean. -/
namespace Sk
open PySem PySem.Spec PyProof.Rows L2 Evl
/-! ## sorted names -/
def leS (a b : Str) : Bool := !ltCps b.cps.toList a.cps.toList
def sortS (ks : List Str) : List Str := ks.mergeSort leS
theorem leS_iff {a b : Str} : leS a b = true ↔ ¬ b.cps.toList < a.cps.toList := by
  unfold leS; rw [ltCps_eq]; simp
theorem leS_trans {a b c : Str} (h1 : leS a b = true) (h2 : leS b c = true) : leS a c = true := by
  rw [leS_iff] at *
  have g1 : a.cps.toList ≤ b.cps.toList := h1
  have g2 : b.cps.toList ≤ c.cps.toList := h2
  exact List.le_trans g1 g2
theorem leS_total (a b : Str) : (leS a b || leS b a) = true := by
  rw [Bool.or_eq_true, leS_iff, leS_iff]
  by_cases h : b.cps.toList < a.cps.toList
  · exact .inr fun z => List.lt_irrefl _ (List.lt_trans h z)
  · exact .inl h
theorem leS_anti {a b : Str} (h1 : leS a b = true) (h2 : leS b a = true) : a = b := by
  rw [leS_iff] at *
  exact ext_toList (List.le_antisymm (show a.cps.toList ≤ b.cps.toList from h1) h2)
theorem rising_pairwise : ∀ (p : Str) (l : List Str), risingS p l = true → (p :: l).Pairwise fun a b => leS a b = true
  | p, [], _ => by simp
  | p, x :: r, h => by
    unfold risingS at h
    rw [Bool.and_eq_true] at h
    have ih := rising_pairwise x r h.2
    refine List.pairwise_cons.mpr ⟨fun y hy => ?_, ih⟩
    rcases List.mem_cons.mp hy with rfl | hy
    · exact h.1
    · exact leS_trans h.1 (List.rel_of_pairwise_cons ih hy)
theorem sorted_eq {ys ks : List Str} (hp : ys.Perm ks) (hs : sortedS ys = true) : ys = sortS ks := by
  have h1 : ys.Pairwise fun a b => leS a b = true := by
    cases ys with
    | nil => exact .nil
    | cons x r => exact rising_pairwise x r hs
  have h2 := List.pairwise_mergeSort (le := leS) (fun a b c => leS_trans) leS_total ks
  exact List.Perm.eq_of_pairwise (fun a b _ _ => leS_anti) h1 h2 (hp.trans (List.mergeSort_perm ks leS).symm)
theorem sortS_perm (ks : List Str) : (sortS ks).Perm ks := List.mergeSort_perm ks leS
/-! ## documents -/
def quo (x : Str) : Str := ("\"" : Str) ++ x ++ "\""
def lookS (l : List (Str × Str)) (k : Str) : Str := ((l.find? fun p => decide (p.1 = k)).map (·.2)).getD Str.empty
def memS (l : List (Str × Str)) (k : Str) : Str := quo k ++ ":" ++ lookS l k
mutual
def doc : PyData → Str
  | .bool b => if b then "true" else "false"
  | .int i => Str.ofString (toString i)
  | .str x => quo x
  | .list xs => ("[" : Str) ++ Str.join "," (docAll xs) ++ "]"
  | .dict kvs => ("{" : Str) ++ Str.join "," ((sortS (kvs.map fun p => keyS p.1)).map (memS (docKv kvs))) ++ "}"
  | .none => Str.empty
  | .tuple _ => Str.empty
def docAll : List PyData → List Str
  | [] => []
  | x :: r => doc x :: docAll r
def docKv : List (PyData × PyData) → List (Str × Str)
  | [] => []
  | (k, x) :: r => (keyS k, doc x) :: docKv r
end
theorem docAll_get : ∀ (xs : List PyData) (i : Nat) (x : PyData), xs[i]? = some x → (docAll xs)[i]? = some (doc x)
  | [], _, _, h => by simp at h
  | y :: r, 0, x, h => by simp at h; subst h; simp [docAll]
  | y :: r, i + 1, x, h => by simp only [docAll, List.getElem?_cons_succ] at h ⊢; exact docAll_get r i x h
theorem docAll_len : ∀ xs : List PyData, (docAll xs).length = xs.length
  | [] => by simp [docAll]
  | x :: r => by simp [docAll, docAll_len r]
theorem docAll_mem : ∀ (xs : List PyData) (t : Str), t ∈ docAll xs → ∃ x ∈ xs, t = doc x
  | [], _, h => by simp [docAll] at h
  | y :: r, t, h => by
    simp only [docAll, List.mem_cons] at h
    rcases h with rfl | h
    · exact ⟨y, by simp, rfl⟩
    · obtain ⟨x, hx, e⟩ := docAll_mem r t h
      exact ⟨x, by simp [hx], e⟩
theorem lookS_get : ∀ (ds : List (PyData × PyData)) (k : Str) (d : PyData), getD ds k = some d → lookS (docKv ds) k = doc d
  | [], _, _, h => by simp [getD] at h
  | (a, x) :: r, k, d, h => by
    by_cases e : keyS a = k
    · simp [getD, e] at h
      subst h
      simp [docKv, lookS, e]
    · have h' : getD r k = some d := by simpa [getD, e] using h
      rw [← lookS_get r k d h']
      simp [docKv, lookS, e]
theorem getD_mem : ∀ (ds : List (PyData × PyData)) (k : Str), k ∈ ds.map (fun p => keyS p.1) → ∃ d, getD ds k = some d ∧ ∃ p ∈ ds, p.2 = d
  | [], _, h => by simp at h
  | (a, x) :: r, k, h => by
    by_cases e : keyS a = k
    · exact ⟨x, by simp [getD, e], (a, x), by simp, rfl⟩
    · simp only [List.map_cons, List.mem_cons] at h
      rcases h with h | h
      · exact absurd h.symm e
      · obtain ⟨d, h1, p, h2, h3⟩ := getD_mem r k h
        exact ⟨d, by simpa [getD, e] using h1, p, by simp [h2], h3⟩
/-! ## the values that are drawn: of depth at most n -/
def okS (m : Nat) (x : Str) : Prop := x.length ≤ m ∧ ∀ c ∈ x.cps.toList, c < 128
def Gd (b : Bool) : Nat → PyData → Prop
  | 0, .int i => b = true ∧ i = 0
  | 0, _ => False
  | _ + 1, .bool _ => True
  | _ + 1, .int i => -1000000000 ≤ i ∧ i ≤ 1000000000
  | _ + 1, .str x => okS 12 x
  | n + 1, .list xs => xs.length ≤ 8 ∧ ∀ x ∈ xs, Gd b n x
  | n + 1, .dict kvs => kvs.length ≤ 8 ∧ (∀ p ∈ kvs, p.1 = .str (keyS p.1) ∧ okS 8 (keyS p.1) ∧ Gd b n p.2) ∧ (kvs.map fun p => keyS p.1).Nodup ∧ (n = 0 → kvs = [])
  | _ + 1, .none => False
  | _ + 1, .tuple _ => False
variable {b : Bool}
theorem gd0 {d : PyData} (h : Gd b 0 d) : b = true ∧ d = .int 0 := by
  cases d with
  | int i => exact ⟨h.1, by rw [h.2]⟩
  | none => exact h.elim
  | bool _ => exact h.elim
  | str _ => exact h.elim
  | list _ => exact h.elim
  | tuple _ => exact h.elim
  | dict _ => exact h.elim
theorem Gd.up : ∀ {n : Nat} {d : PyData}, Gd b n d → Gd b (n + 1) d
  | 0, d, h => by
    obtain ⟨_, rfl⟩ := gd0 h
    exact ⟨by decide, by decide⟩
  | _ + 1, .bool _, h => h
  | _ + 1, .int i, h => h
  | _ + 1, .str x, h => h
  | n + 1, .list xs, h => ⟨h.1, fun x m => (h.2 x m).up⟩
  | n + 1, .dict kvs, h => ⟨h.1, fun p m => ⟨(h.2.1 p m).1, (h.2.1 p m).2.1, (h.2.1 p m).2.2.up⟩, h.2.2.1, fun z => nomatch z⟩
  | _ + 1, .none, h => h.elim
  | _ + 1, .tuple _, h => h.elim
theorem Gd.wide : ∀ {n : Nat} {d : PyData}, Gd false n d → Gd b n d
  | 0, _, h => by
    cases (gd0 h).1
  | _ + 1, .bool _, h => h
  | _ + 1, .int i, h => h
  | _ + 1, .str x, h => h
  | n + 1, .list xs, h => ⟨h.1, fun x m => (h.2 x m).wide⟩
  | n + 1, .dict kvs, h => ⟨h.1, fun p m => ⟨(h.2.1 p m).1, (h.2.1 p m).2.1, (h.2.1 p m).2.2.wide⟩, h.2.2⟩
  | _ + 1, .none, h => h.elim
  | _ + 1, .tuple _, h => h.elim
theorem Gd.le {n m : Nat} {d : PyData} (h : Gd b n d) (l : n ≤ m) : Gd b m d := by
  induction l with
  | refl => exact h
  | step _ ih => exact ih.up
/-! ## how long they are -/
theorem join_le (sep : Str) (B : Nat) : ∀ ts : List Str, (∀ t ∈ ts, t.length ≤ B) → (Str.join sep ts).length ≤ ts.length * (B + sep.length)
  | [], _ => by show (0 : Nat) ≤ _; omega
  | [x], h => by
    have := h x (by simp)
    show x.length ≤ 1 * (B + sep.length)
    omega
  | x :: y :: r, h => by
    have ih := join_le sep B (y :: r) fun t m => h t (List.mem_cons_of_mem _ m)
    have := h x (by simp)
    show (x ++ sep ++ Str.join sep (y :: r)).length ≤ _
    rw [strLen_append, strLen_append]
    simp only [List.length_cons] at ih ⊢
    rw [Nat.succ_mul]
    omega
def bnd : Nat → Nat
  | 0 => 1
  | 1 => 122
  | n + 2 => 690 + 8 * bnd (n + 1)
theorem bnd_ge : ∀ n : Nat, 122 ≤ bnd (n + 1)
  | 0 => Nat.le_refl _
  | n + 1 => by show 122 ≤ 690 + 8 * bnd (n + 1); omega
theorem bnd_le {n : Nat} (h : n ≤ 6) : bnd n ≤ 7300000 := by
  match n, h with
  | 0, _ => decide
  | 1, _ => decide
  | 2, _ => decide
  | 3, _ => decide
  | 4, _ => decide
  | 5, _ => decide
  | 6, _ => decide
theorem all0 : ∀ {xs : List PyData}, (∀ x ∈ xs, Gd b 0 x) → xs = List.replicate xs.length (.int 0)
  | [], _ => rfl
  | x :: r, h => by
    obtain ⟨_, e⟩ := gd0 (h x (by simp))
    have ih := all0 (xs := r) fun y m => h y (by simp [m])
    rw [List.length_cons, List.replicate_succ, ← ih, e]
theorem int_len {i : Int} (h0 : -1000000000 ≤ i) (h1 : i ≤ 1000000000) : (Str.ofString (toString i)).length ≤ 11 := by
  have e : (10 : Nat) ^ 10 = 10000000000 := by decide
  have := int_text_length_le10 (a := i) (k := 10) (by decide) (by rw [e]; omega)
  rw [PySem.ofString_length]
  exact this
theorem quo_len (x : Str) : (quo x).length = x.length + 2 := by
  unfold quo; rw [strLen_append, strLen_append]
  show 1 + x.length + 1 = x.length + 2
  omega
theorem sortS_nil : sortS [] = [] := by simp [sortS]
theorem doc_len : ∀ {n : Nat} {d : PyData}, Gd b n d → (doc d).length ≤ bnd n
  | 0, _, h => by
    obtain ⟨_, rfl⟩ := gd0 h
    simp only [doc]
    decide +kernel
  | n + 1, .bool b, _ => by
    have := bnd_ge n
    cases b
    · show 5 ≤ _; omega
    · show 4 ≤ _; omega
  | n + 1, .int i, h => by
    have := bnd_ge n
    have := int_len h.1 h.2
    simp only [doc]; omega
  | n + 1, .str x, h => by
    have := bnd_ge n
    have := h.1
    simp only [doc]; rw [quo_len]; omega
  | 1, .list xs, h => by
    have z := join_le "," 1 (docAll xs) fun t m => by
      obtain ⟨x, hx, e⟩ := docAll_mem xs t m
      obtain ⟨_, ex⟩ := gd0 (h.2 x hx)
      rw [e, ex]
      simp only [doc]
      decide +kernel
    rw [docAll_len] at z
    have e1 : (Str.ofString ",").length = 1 := rfl
    rw [e1] at z
    have := h.1
    simp only [doc]
    rw [strLen_append, strLen_append]
    show 1 + _ + 1 ≤ 122
    omega
  | n + 2, .list xs, h => by
    have z := join_le "," (bnd (n + 1)) (docAll xs) fun t m => by
      obtain ⟨x, hx, e⟩ := docAll_mem xs t m
      rw [e]
      exact doc_len (h.2 x hx)
    rw [docAll_len] at z
    have e1 : (Str.ofString ",").length = 1 := rfl
    rw [e1] at z
    have z2 : xs.length * (bnd (n + 1) + 1) ≤ 8 * (bnd (n + 1) + 1) := Nat.mul_le_mul_right _ h.1
    simp only [doc]
    rw [strLen_append, strLen_append]
    show 1 + _ + 1 ≤ 690 + 8 * bnd (n + 1)
    omega
  | 1, .dict kvs, h => by
    cases h.2.2.2 rfl
    simp only [doc, List.map_nil, sortS_nil]
    show 2 ≤ 122
    decide
  | n + 2, .dict kvs, h => by
    have z := join_le "," (bnd (n + 1) + 11) ((sortS (kvs.map fun p => keyS p.1)).map (memS (docKv kvs))) fun t m => by
      obtain ⟨k, hk, rfl⟩ := List.mem_map.mp m
      have hk' := (sortS_perm _).mem_iff.mp hk
      obtain ⟨d, hd, p, hp, ep⟩ := getD_mem kvs k hk'
      obtain ⟨q, hq, eq⟩ := List.mem_map.mp hk'
      have hl := (h.2.1 q hq).2.1.1
      rw [eq] at hl
      have hx := doc_len (h.2.1 p hp).2.2
      rw [ep] at hx
      unfold memS
      rw [strLen_append, strLen_append, quo_len, lookS_get kvs k d hd]
      have e1 : (Str.ofString ":").length = 1 := rfl
      rw [e1]
      omega
    rw [List.length_map, (sortS_perm _).length_eq, List.length_map] at z
    have e1 : (Str.ofString ",").length = 1 := rfl
    rw [e1] at z
    have z2 : kvs.length * (bnd (n + 1) + 11 + 1) ≤ 8 * (bnd (n + 1) + 11 + 1) := Nat.mul_le_mul_right _ h.1
    simp only [doc]
    rw [strLen_append, strLen_append]
    show 1 + _ + 1 ≤ 690 + 8 * bnd (n + 1)
    omega
  | _ + 1, .none, h => h.elim
  | _ + 1, .tuple _, h => h.elim
/-! ## how long their reprs are -/
theorem rep_len {m : Nat} {x : Str} (h : okS m x) : (reprText x).length ≤ 10 * m + 2 := by
  have := PySem.StrLaws.reprText_len x fun c hc => Nat.lt_of_lt_of_le (h.2 c hc) (by decide)
  have := h.1
  omega
theorem lsum_le (B : Nat) : ∀ ts : List Str, (∀ t ∈ ts, t.length ≤ B) → (ts.map (·.length)).sum ≤ ts.length * B
  | [], _ => by simp
  | x :: r, h => by
    have ih := lsum_le B r fun t m => h t (List.mem_cons_of_mem _ m)
    have := h x (by simp)
    simp only [List.map_cons, List.sum_cons, List.length_cons, Nat.succ_mul]
    omega
theorem shownAll_mem : ∀ (xs : List PyData) (t : Str), t ∈ PyData.shownAll xs → ∃ x ∈ xs, t = x.shown
  | [], _, h => by simp [PyData.shownAll] at h
  | y :: r, t, h => by
    simp only [PyData.shownAll, List.mem_cons] at h
    rcases h with rfl | h
    · exact ⟨y, by simp, rfl⟩
    · obtain ⟨x, hx, e⟩ := shownAll_mem r t h
      exact ⟨x, by simp [hx], e⟩
theorem shownAll_len : ∀ xs : List PyData, (PyData.shownAll xs).length = xs.length
  | [] => by simp [PyData.shownAll]
  | x :: r => by simp [PyData.shownAll, shownAll_len r]
theorem shownKv_mem : ∀ (xs : List (PyData × PyData)) (t : Str), t ∈ PyData.shownKv xs → ∃ p ∈ xs, t = p.1.shown ++ ": " ++ p.2.shown
  | [], _, h => by simp [PyData.shownKv] at h
  | (a, b) :: r, t, h => by
    simp only [PyData.shownKv, List.mem_cons] at h
    rcases h with rfl | h
    · exact ⟨(a, b), by simp, rfl⟩
    · obtain ⟨x, hx, e⟩ := shownKv_mem r t h
      exact ⟨x, by simp [hx], e⟩
theorem shownKv_len : ∀ xs : List (PyData × PyData), (PyData.shownKv xs).length = xs.length
  | [] => by simp [PyData.shownKv]
  | (a, b) :: r => by simp [PyData.shownKv, shownKv_len r]
theorem shown_len : ∀ {n : Nat} {d : PyData}, Gd b n d → d.shown.length ≤ bnd n
  | 0, _, h => by
    obtain ⟨_, rfl⟩ := gd0 h
    simp only [PyData.shown]
    decide +kernel
  | n + 1, .bool b, _ => by
    have := bnd_ge n
    cases b
    · simp only [PyData.shown]; show 5 ≤ _; omega
    · simp only [PyData.shown]; show 4 ≤ _; omega
  | n + 1, .int i, h => by
    have := bnd_ge n
    have := int_len h.1 h.2
    simp only [PyData.shown]; omega
  | n + 1, .str x, h => by
    have := bnd_ge n
    have := rep_len h
    simp only [PyData.shown]; omega
  | 1, .list xs, h => by
    have z := lsum_le 1 (PyData.shownAll xs) fun t m => by
      obtain ⟨x, hx, e⟩ := shownAll_mem xs t m
      obtain ⟨_, ex⟩ := gd0 (h.2 x hx)
      rw [e, ex]
      simp only [PyData.shown]
      decide +kernel
    have z1 := textFrom_len_le (PyData.shownAll xs) 0 "["
    rw [shownAll_len] at z z1
    have e1 : (Str.ofString "[").length = 1 := rfl
    rw [e1] at z1
    have := h.1
    simp only [PyData.shown]
    unfold listText
    rw [strLen_append]
    show _ + 1 ≤ 122
    omega
  | n + 2, .list xs, h => by
    have z := lsum_le (bnd (n + 1)) (PyData.shownAll xs) fun t m => by
      obtain ⟨x, hx, e⟩ := shownAll_mem xs t m
      rw [e]
      exact shown_len (h.2 x hx)
    have z1 := textFrom_len_le (PyData.shownAll xs) 0 "["
    rw [shownAll_len] at z z1
    have z2 : xs.length * bnd (n + 1) ≤ 8 * bnd (n + 1) := Nat.mul_le_mul_right _ h.1
    have e1 : (Str.ofString "[").length = 1 := rfl
    rw [e1] at z1
    have := h.1
    simp only [PyData.shown]
    unfold listText
    rw [strLen_append]
    show _ + 1 ≤ 690 + 8 * bnd (n + 1)
    omega
  | 1, .dict kvs, h => by
    cases h.2.2.2 rfl
    simp only [PyData.shown, PyData.shownKv]
    show 2 ≤ 122
    decide
  | n + 2, .dict kvs, h => by
    have z := join_le ", " (bnd (n + 1) + 84) (PyData.shownKv kvs) fun t m => by
      obtain ⟨p, hp, e⟩ := shownKv_mem kvs t m
      obtain ⟨g1, g2, g3⟩ := h.2.1 p hp
      have hx := shown_len g3
      have hk := rep_len g2
      rw [e, strLen_append, strLen_append, g1]
      simp only [PyData.shown]
      have e1 : (Str.ofString ": ").length = 2 := rfl
      rw [e1]
      omega
    rw [shownKv_len] at z
    have e1 : (Str.ofString ", ").length = 2 := rfl
    rw [e1] at z
    have z2 : kvs.length * (bnd (n + 1) + 84 + 2) ≤ 8 * (bnd (n + 1) + 84 + 2) := Nat.mul_le_mul_right _ h.1
    simp only [PyData.shown]
    unfold dictText
    rw [strLen_append, strLen_append]
    show 1 + _ + 1 ≤ 690 + 8 * bnd (n + 1)
    omega
  | _ + 1, .none, h => h.elim
  | _ + 1, .tuple _, h => h.elim
theorem all_show : ∀ xs : List PyData, (∀ x ∈ xs, x.showable = true) → PyData.showableAll xs = true
  | [], _ => by simp [PyData.showableAll]
  | x :: r, h => by simp [PyData.showableAll, h x (by simp), all_show r fun y m => h y (by simp [m])]
theorem kv_show : ∀ xs : List (PyData × PyData), (∀ p ∈ xs, p.1.showable = true ∧ p.2.showable = true) → PyData.showableKv xs = true
  | [], _ => by simp [PyData.showableKv]
  | (a, b) :: r, h => by
    have := h (a, b) (by simp)
    simp [PyData.showableKv, this.1, this.2, kv_show r fun y m => h y (by simp [m])]
theorem Gd.show : ∀ {n : Nat} {d : PyData}, Gd b n d → d.showable = true
  | 0, _, h => by
    obtain ⟨_, rfl⟩ := gd0 h
    decide +kernel
  | n + 1, .bool b, _ => by simp [PyData.showable]
  | n + 1, .int i, h => by
    have : i.natAbs.log2 < 1920 := by
      have h1 : i.natAbs < 2 ^ 1920 := Nat.lt_of_le_of_lt (show i.natAbs ≤ 1000000000 by have := h.1; have := h.2; omega) (by decide)
      exact PySem.Flt.log2_lt_of (by decide) h1
    simpa [PyData.showable] using this
  | n + 1, .str x, h => by simp [PyData.showable]
  | n + 1, .list xs, h => by
    simp only [PyData.showable]
    exact all_show xs fun x m => (h.2 x m).show
  | n + 1, .dict kvs, h => by
    simp only [PyData.showable]
    refine kv_show kvs fun p m => ?_
    obtain ⟨g1, _, g3⟩ := h.2.1 p m
    exact ⟨by rw [g1]; simp [PyData.showable], g3.show⟩
  | _ + 1, .none, h => h.elim
  | _ + 1, .tuple _, h => h.elim
theorem depthAll_le {n : Nat} : ∀ xs : List PyData, (∀ x ∈ xs, x.depth ≤ n) → PyData.depthAll xs ≤ n
  | [], _ => by simp [PyData.depthAll]
  | x :: r, h => by
    have := h x (by simp)
    have := depthAll_le r fun y m => h y (by simp [m])
    simp only [PyData.depthAll]; omega
theorem depthKv_le {n : Nat} : ∀ xs : List (PyData × PyData), (∀ p ∈ xs, p.1.depth ≤ n ∧ p.2.depth ≤ n) → PyData.depthKv xs ≤ n
  | [], _ => by simp [PyData.depthKv]
  | (a, b) :: r, h => by
    obtain ⟨g1, g2⟩ := h (a, b) (by simp)
    simp only at g1 g2
    have := depthKv_le r fun y m => h y (by simp [m])
    simp only [PyData.depthKv]; omega
theorem Gd.depth : ∀ {n : Nat} {d : PyData}, Gd b n d → d.depth ≤ n
  | 0, _, h => by
    obtain ⟨_, rfl⟩ := gd0 h
    simp [PyData.depth]
  | n + 1, .bool b, _ => by simp [PyData.depth]
  | n + 1, .int i, h => by simp [PyData.depth]
  | n + 1, .str x, h => by simp [PyData.depth]
  | n + 1, .list xs, h => by
    have := depthAll_le xs fun x m => (h.2 x m).depth
    simp only [PyData.depth]; omega
  | n + 1, .dict kvs, h => by
    have := depthKv_le (n := n) kvs fun p m => by
      obtain ⟨g1, _, g3⟩ := h.2.1 p m
      exact ⟨by rw [g1]; simp [PyData.depth], g3.depth⟩
    simp only [PyData.depth]; omega
  | _ + 1, .none, h => h.elim
  | _ + 1, .tuple _, h => h.elim
end Sk

/-! isinstance of data. -/
namespace Sk
open PySem PySem.Spec PyProof.Rows L2 Evl
theorem kbb : kitB "bool" "bool" = some true := by decide +kernel
theorem kbi : kitB "bool" "int" = some true := by decide +kernel
theorem kbs : kitB "bool" "str" = some false := by decide +kernel
theorem kbl : kitB "bool" "list" = some false := by decide +kernel
theorem kbd : kitB "bool" "dict" = some false := by decide +kernel
theorem kbt : kitB "bool" "tuple" = some false := by decide +kernel
theorem kib : kitB "int" "bool" = some false := by decide +kernel
theorem kii : kitB "int" "int" = some true := by decide +kernel
theorem kis : kitB "int" "str" = some false := by decide +kernel
theorem kil : kitB "int" "list" = some false := by decide +kernel
theorem kid : kitB "int" "dict" = some false := by decide +kernel
theorem kit : kitB "int" "tuple" = some false := by decide +kernel
theorem ksb : kitB "str" "bool" = some false := by decide +kernel
theorem ksi : kitB "str" "int" = some false := by decide +kernel
theorem kss : kitB "str" "str" = some true := by decide +kernel
theorem ksl : kitB "str" "list" = some false := by decide +kernel
theorem ksd : kitB "str" "dict" = some false := by decide +kernel
theorem kst : kitB "str" "tuple" = some false := by decide +kernel
theorem klb : kitB "list" "bool" = some false := by decide +kernel
theorem kli : kitB "list" "int" = some false := by decide +kernel
theorem kls : kitB "list" "str" = some false := by decide +kernel
theorem kll : kitB "list" "list" = some true := by decide +kernel
theorem kld : kitB "list" "dict" = some false := by decide +kernel
theorem klt : kitB "list" "tuple" = some false := by decide +kernel
theorem kdb : kitB "dict" "bool" = some false := by decide +kernel
theorem kdi : kitB "dict" "int" = some false := by decide +kernel
theorem kds : kitB "dict" "str" = some false := by decide +kernel
theorem kdl : kitB "dict" "list" = some false := by decide +kernel
theorem kdd : kitB "dict" "dict" = some true := by decide +kernel
theorem kdt : kitB "dict" "tuple" = some false := by decide +kernel
theorem ktb : kitB "tuple" "bool" = some false := by decide +kernel
theorem kti : kitB "tuple" "int" = some false := by decide +kernel
theorem kts : kitB "tuple" "str" = some false := by decide +kernel
theorem ktl : kitB "tuple" "list" = some false := by decide +kernel
theorem ktd : kitB "tuple" "dict" = some false := by decide +kernel
theorem ktt : kitB "tuple" "tuple" = some true := by decide +kernel
def tyD : PyData → String
  | .none => "NoneType"
  | .bool _ => "bool"
  | .int _ => "int"
  | .str _ => "str"
  | .list _ => "list"
  | .tuple _ => "tuple"
  | .dict _ => "dict"
theorem Dq.ty {K : PySem.W.Frag} {H : Hp} : ∀ {v : V} {d : PyData}, Dq H v d → TyX K H v (.type (tyD d))
  | _, _, .non => .base .non
  | _, _, .bl b => .base (.bl b)
  | _, _, .int i => .base (.int i)
  | _, _, .str x => .base (.str x)
  | _, _, .lst e _ => .base (.lst e)
  | _, _, .tup e _ => .base (.tup e)
  | _, _, .dct e _ => .base (.dK e)
theorem call_isD {X : Cx} : CallR X (.builtin "isinstance") (fun xs H Q => ∃ x T d b, xs = [x, .ty T] ∧ Dq H x d ∧ kitB (tyD d) T = some b ∧ Q (.bl b) H) := by
  intro pins s σ H xs us Q I r h
  obtain ⟨x, T, d, b, rfl, hd, hk, q⟩ := h
  exact call_isi pins s σ H _ us Q I r ⟨x, .ty T, _, _, b, rfl, .ty T, hd.ty, kit_ty hk, q⟩
theorem tyes {σ : L2.St} {H : Hp} {A B : Hp → Prop} (h : A H) : tYes σ H fun b H3 => if b = true then A H3 else B H3 := by
  show (if true = true then A H else B H)
  rw [if_pos rfl]
  exact h
/-- a document read off -/
theorem Dq.lst_inv {H : Hp} {v : V} {xs : List PyData} (h : Dq H v (.list xs)) : ∃ a vs, v = .ref a ∧ H a = some (.lst vs) ∧ DqAll H vs xs := by
  cases h with
  | lst e r => exact ⟨_, _, rfl, e, r⟩
theorem Dq.dct_inv {H : Hp} {v : V} {xs : List (PyData × PyData)} (h : Dq H v (.dict xs)) : ∃ a vs, v = .ref a ∧ H a = some (.dK vs) ∧ DqKv H vs xs := by
  cases h with
  | dct e r => exact ⟨_, _, rfl, e, r⟩
theorem take_snoc {α : Type} {l : List α} {i : Nat} {x : α} (h : l[i]? = some x) : l.take (i + 1) = l.take i ++ [x] := by
  rw [List.take_add_one, h]; rfl
end Sk

/-! xs[::k]; texts of one sign joined; a dict with one more name. -/
namespace Sk
open PySem PySem.Spec PyProof.Rows L2 Evl
theorem vals_pick {xs : List V} {us : List Value} (r : Vals xs us) : ∀ L : List Nat, Vals (L.filterMap (xs[·]?)) (L.filterMap (us[·]?))
  | [] => .nil
  | i :: L => by
    have ih := vals_pick r L
    simp only [List.filterMap_cons]
    cases h : xs[i]? with
    | none => rw [r.none_of h]; exact ih
    | some x =>
      obtain ⟨u, e, ru⟩ := r.get h
      rw [e]
      exact .cons ru ih
theorem pick_mem {xs : List V} (L : List Nat) : ∀ z ∈ L.filterMap (xs[·]?), z ∈ xs := by
  intro z h
  obtain ⟨i, _, e⟩ := List.mem_filterMap.mp h
  exact List.mem_of_getElem? e
def tStep (K : PySem.W.Frag) (te tk : TE) : TE := fun σ H Q => te σ H fun x H1 => tk σ H1 fun y H2 => ∃ a xs k, x = .ref a ∧ y = .int k ∧ k ≠ 0 ∧ SqL K H2 a xs ∧
  ∀ p zs, H2 p = none → (∀ z ∈ zs, z ∈ xs) → zs.length ≤ xs.length → Q (.ref p) (upd H2 p (.lst zs))
theorem pe_step {X : Cx} {e k : Expr} {te tk : TE} {p3 pos : Pos} (he : PE X e te) (hk : PE X k tk) : PE X (.Subscript e (.Slice none none (some k) p3) pos) (tStep X.K te tk) := by
  refine ⟨fun pins s σ H Q I h => Subscript_ (thn (he.run pins s σ H _ I h) fun v s1 ⟨x, H1, I1, r1, q1⟩ => ?_)⟩
  refine wpAny_Slice (thn (po_none.run pins s1 σ H1 (fun o H2 => o = none ∧ H2 = H1) I1 ⟨rfl, rfl⟩) fun vl s2 ⟨l, H2, I2, pl, el, e2⟩ => ?_)
  cases el
  cases e2
  refine thn (po_none.run pins s2 σ H1 (fun o H2 => o = none ∧ H2 = H1) I2 ⟨rfl, rfl⟩) fun vu s3 ⟨l, H2, I3, pu, el, e2⟩ => ?_
  cases el
  cases e2
  rw [evalPart_some]
  refine thn (hk.run pins s3 σ H1 _ I3 q1) fun vk s4 ⟨y, H4, I4, r4, a, xs, n, ex, ey, hn, hs, q⟩ => ?_
  subst ex
  subst ey
  cases r1
  obtain ⟨t, rfl⟩ := r4
  let s5 : Shared := { s4 with heap := s4.heap.push { cls := .type "slice", data := .fields #[vl, vu, .int n t] } }
  have I5 : Inv X pins σ H4 s5 := I4.kept (t' := s4.toks) fun b ob z => Heap.get?_push_of_some _ z
  obtain ⟨its, r, ht, hz⟩ := I5.list hs
  have hlen := r.length
  show wpAny (model X.prog X.w) X.A (subscriptTail e (.Slice none none (some k) p3) (.ref a) (.ref s4.heap.objs.size)) (EP X pins σ Q) X.xe s5
  refine tail_any (ops := [.ref a, .ref s4.heap.objs.size]) ht.isList.typeIs PySem.slot_list_getitem.lookup ?_ (by with_unfolding_all rfl)
  refine wpAny_getItem_list_slice ht.isList (.new _ vl vu _) pl pu (.int n t) (fun z => hn (Option.some.inj z)) ?_ (by rw [List.size_toArray]; omega)
  have hsz := slicePick_size_le its.toArray none none (some n)
  rw [List.size_toArray] at hsz
  generalize hL : sliceRange (sliceBounds none none (some n) its.toArray.size).1 (sliceBounds none none (some n) its.toArray.size).2.1 (sliceBounds none none (some n) its.toArray.size).2.2 = L
  have e1 : slicePick its.toArray none none (some n) = (L.filterMap (its[·]?)).toArray := by
    unfold slicePick
    rw [hL]
    simp
  rw [e1, List.size_toArray] at hsz
  rw [e1]
  have hsz2 : (L.filterMap (its[·]?)).length ≤ its.length := hsz
  have rz := vals_pick r L
  have hl2 := rz.length
  refine ⟨.ref _, _, I5.laid (t' := s4.toks) (o := .lst (L.filterMap (xs[·]?))) (fun b ob z => Heap.get?_push_of_some _ z) (Nat.le_refl _) ?_, rfl, q _ _ (I5.hok.fresh (Nat.le_refl _)) (pick_mem L) (by rw [hl2, hlen]; exact hsz2)⟩
  exact ⟨by rw [hl2]; exact Nat.le_trans hsz2 (by rw [← hlen]; exact hz), _, 0, rz, Heap.get?_push_size _ rfl⟩
/-! ## one sign each, joined -/
def one (c : Nat) : Str := ⟨#[c]⟩
theorem tl_app (a b : Str) : (a ++ b).cps.toList = a.cps.toList ++ b.cps.toList := by
  show (a.cps ++ b.cps).toList = _
  simp
theorem join_one : ∀ cs : List Nat, (Str.join Str.empty (cs.map one)).cps.toList = cs
  | [] => rfl
  | [c] => rfl
  | c :: d :: r => by
    have ih := join_one (d :: r)
    show ((one c ++ Str.empty) ++ Str.join Str.empty ((d :: r).map one)).cps.toList = c :: d :: r
    rw [tl_app, tl_app, ih]
    rfl
theorem sum_one : ∀ cs : List Nat, ((cs.map one).map (·.length)).sum = cs.length
  | [] => rfl
  | c :: r => by
    have ih := sum_one r
    simp only [List.map_cons, List.sum_cons, List.length_cons]
    rw [ih]
    show 1 + r.length = r.length + 1
    omega
/-! ## a name put into a record -/
def putD (ds : List (PyData × PyData)) (k : Str) (d : PyData) : List (PyData × PyData) :=
  if (ds.any fun p => decide (keyS p.1 = k)) = true then ds.map (fun p => if keyS p.1 = k then (p.1, d) else p) else ds ++ [(.str k, d)]
theorem any_keys {H : Hp} {k : Str} : ∀ {kvs ds}, DqKv H kvs ds → (kvs.any fun kv => decide (kv.1 = (.inr k : Key))) = ds.any fun p => decide (keyS p.1 = k)
  | _, _, .nil => rfl
  | _, _, .cons (k := k') x r => by
    simp only [List.any_cons, any_keys r, keyS]
    congr 1
    by_cases e : k' = k
    · simp [e]
    · have : ¬ (Sum.inr k' : Key) = Sum.inr k := fun z => e (Sum.inr.inj z)
      simp [e]
theorem map_put {H : Hp} {k : Str} {v : V} {d : PyData} (h : Dq H v d) : ∀ {kvs : List (Key × V)} {ds : List (PyData × PyData)}, DqKv H kvs ds → DqKv H (kvs.map fun kv => if kv.1 = (.inr k : Key) then (kv.1, v) else kv) (ds.map fun p => if keyS p.1 = k then (p.1, d) else p)
  | _, _, .nil => .nil
  | _, _, .cons (k := k') x r => by
    have ih := map_put (k := k) h r
    by_cases e : k' = k
    · subst e
      simp only [List.map_cons]
      rw [if_pos trivial, if_pos (show keyS (PyData.str k') = k' from rfl)]
      exact .cons h ih
    · have e2 : ¬ (Sum.inr k' : Key) = Sum.inr k := fun z => e (Sum.inr.inj z)
      simp only [List.map_cons]
      rw [if_neg e2, if_neg (show ¬ keyS (PyData.str k') = k from e)]
      exact .cons x ih
theorem snoc_put {H : Hp} {k : Str} {v : V} {d : PyData} (h : Dq H v d) : ∀ {kvs ds}, DqKv H kvs ds → DqKv H (kvs ++ [(.inr k, v)]) (ds ++ [(.str k, d)])
  | _, _, .nil => .cons h .nil
  | _, _, .cons x r => .cons x (snoc_put h r)
theorem DqKv.put {H : Hp} {k : Str} {v : V} {d : PyData} {kvs ds} (r : DqKv H kvs ds) (h : Dq H v d) : DqKv H (putK kvs (.inr k) v) (putD ds k d) := by
  unfold putK putD
  rw [any_keys r]
  split
  · exact map_put h r
  · exact snoc_put h r
theorem putD_len (ds : List (PyData × PyData)) (k : Str) (d : PyData) : (putD ds k d).length ≤ ds.length + 1 := by
  unfold putD
  split <;> simp
theorem putD_keys (ds : List (PyData × PyData)) (k : Str) (d : PyData) : (putD ds k d).map (fun p => keyS p.1) = if k ∈ ds.map (fun p => keyS p.1) then ds.map (fun p => keyS p.1) else ds.map (fun p => keyS p.1) ++ [k] := by
  unfold putD
  by_cases h : k ∈ ds.map fun p => keyS p.1
  · have h' : (ds.any fun p => decide (keyS p.1 = k)) = true := by
      obtain ⟨p, hp, e⟩ := List.mem_map.mp h
      exact List.any_eq_true.mpr ⟨p, hp, by simp [e]⟩
    rw [if_pos h, if_pos h', List.map_map]
    refine List.map_congr_left fun p hp => ?_
    simp only [Function.comp]
    split <;> rfl
  · have h' : ¬ (ds.any fun p => decide (keyS p.1 = k)) = true := fun z => by
      obtain ⟨p, hp, e⟩ := List.any_eq_true.mp z
      exact h (List.mem_map.mpr ⟨p, hp, by simpa using e⟩)
    rw [if_neg h, if_neg h', List.map_append]
    rfl
/-- the parts of a record: whatever it has -/
def GdK (b : Bool) (n m : Nat) (ds : List (PyData × PyData)) : Prop := ds.length ≤ m ∧ (∀ p ∈ ds, p.1 = .str (keyS p.1) ∧ okS 8 (keyS p.1) ∧ Gd b n p.2) ∧ (ds.map fun p => keyS p.1).Nodup
theorem GdK.nil {b : Bool} {n : Nat} : GdK b n 0 [] := ⟨Nat.le_refl _, (fun _ h => nomatch h), by simp⟩
theorem GdK.put {b : Bool} {n m : Nat} {ds : List (PyData × PyData)} (g : GdK b n m ds) {k : Str} {d : PyData} (hk : okS 8 k) (hd : Gd b n d) : GdK b n (m + 1) (putD ds k d) := by
  refine ⟨?_, ?_, ?_⟩
  · have := putD_len ds k d
    have := g.1
    omega
  · intro p hp
    unfold putD at hp
    split at hp
    · obtain ⟨q, hq, rfl⟩ := List.mem_map.mp hp
      have z := g.2.1 q hq
      split
      · exact ⟨z.1, z.2.1, hd⟩
      · exact z
    · rcases List.mem_append.mp hp with hp | hp
      · exact g.2.1 p hp
      · cases List.mem_singleton.mp hp
        exact ⟨rfl, hk, hd⟩
  · rw [putD_keys]
    split
    · exact g.2.2
    · rename_i h
      exact List.nodup_append.mpr ⟨g.2.2, by simp, fun a ha b hb e => by
        cases List.mem_singleton.mp hb
        exact h (e ▸ ha)⟩
end Sk

/-! What is new between two heaps. -/
namespace Sk
open PySem PySem.Spec PyProof.Rows L2 Evl
def Nw (G H : Hp) : Hp := fun a => if G a = none then H a else none
theorem nw_some {G H : Hp} {a : Addr} {o : HO} (h : Nw G H a = some o) : G a = none ∧ H a = some o := by
  unfold Nw at h
  split at h
  · exact ⟨by assumption, h⟩
  · cases h
theorem nw_of {G H : Hp} {a : Addr} {o : HO} (n : G a = none) (h : H a = some o) : Nw G H a = some o := by
  unfold Nw; rw [if_pos n]; exact h
theorem nw_le {G H : Hp} : Ex (Nw G H) H := fun _ _ h => (nw_some h).2
theorem nw_ne {G H : Hp} {st a : Addr} {o : HO} (s : Strm st G) (h : Nw G H a = some o) : a ≠ st := by
  obtain ⟨u, e⟩ := s.some
  intro z; subst z
  rw [(nw_some h).1] at e; cases e
theorem nw_hd {G H : Hp} {st : Addr} (s : Strm st G) : Ex (Nw G H) (Hd st H) := fun a o h => hd_of (nw_ne s h) (nw_some h).2
theorem nw_aft {G H H' : Hp} {st : Addr} (s : Strm st G) (a : Aft st H H') : Ex (Nw G H) (Nw G H') := fun b o h => nw_of (nw_some h).1 (a.at (nw_ne s h) (nw_some h).2)
theorem nw_back {G G' H : Hp} (d : ∀ a, G' a = none → G a = none) : Ex (Nw G' H) (Nw G H) := fun b o h => nw_of (d b (nw_some h).1) (nw_some h).2
theorem Aft.none {H H' : Hp} {st : Addr} (a : Aft st H H') {b : Addr} (h : H' b = none) : H b = none := by
  obtain ⟨u, e⟩ := a.sm.some
  have n : b ≠ st := by intro z; subst z; rw [h] at e; cases e
  cases q : H b with
  | none => rfl
  | some o => rw [a.at n q] at h; cases h
theorem nw_upd {G H : Hp} {b : Addr} {o u : HO} (h : G b = some u) : Nw G (upd H b o) = Nw G H := by
  funext a
  unfold Nw
  split
  · rename_i z
    exact upd_ne (by intro e; subst e; rw [h] at z; cases z)
  · rfl
theorem nw_new {G H : Hp} {b : Addr} {o : HO} (h : H b = none) : Ex (Nw G H) (Nw G (upd H b o)) := fun a u e => nw_of (nw_some e).1 (by rw [upd_ne (ne_of_none (nw_some e).2 h)]; exact (nw_some e).2)
theorem upd_none {H : Hp} {a b : Addr} {o : HO} (h : upd H b o a = none) : H a = none := by
  unfold upd at h
  split at h
  · cases h
  · exact h
end Sk

/-! A call by names alone. -/
namespace Sk
open PySem PySem.Spec PyProof.Rows L2 Evl
theorem pe_callK0 {X : Cx} {CX : CXT} {k : Nat} {f : Addr} {fd : FuncData} {ps ks : List Str} {sp : Sp} {E : XK} {x : Str} {p pos : Pos} {kws : List Keyword} {tk : TA} {g : List Value → List Value → List Value} {gV : List V → List V → List V} (F : FnOk X.prog X.w X.K X.mg X.base CX k f fd ps sp)
    (hr : Room k X.A) (hg : Gl X x) (hm : X.mg x = some (.ref f)) (hk : PySem.W.keepIn X.K (.ref f) = true) (hb : KBinds X.K fd ps ks g gV) (hx : Passes CX X E) (hkw : PK X kws tk) (hall : (backToKw pos (keywordEach kws X.env)).all (·.1.isSome) = true := by rfl)
    (hks : (backToKw pos (keywordEach kws X.env)).filterMap (·.1) = ks := by rfl) (hdb : (x == ("__debug__" : Str)) = false := by decide)
    (hpl : ((backTo pos (starEach [] X.env)).any (·.1) || (backToKw pos (keywordEach kws X.env)).any (·.1.isNone)) = false := by rfl) : PE X (.Call (.Name x p) [] kws pos) (tCallK sp gV E tNil tk) := by
  refine ⟨fun pins s σ H Q I h => wpAny_Call_Name_kw (ld_glob I hg hm (PySem.W.callWith_KW0 (h₀ := X.base) I.ok.mod.kin hk hall (thn (hkw.run pos pins s σ H _ I h) fun ws s2 ⟨zs, H2, I2, rz, q2⟩ => ⟨I2.kIn, ?_⟩) hpl) hdb)⟩
  rw [hks]
  exact run_fnk (us := []) (vs := []) F hr hb hx I2 .nil rz q2
def gNoPos {α : Type} (us ws : List α) : List α := if us.isEmpty = true then ws else []
theorem kb_of {K : PySem.W.Frag} {x qual : Str} {st : Stmt} {f : Addr} {fd : FuncData} {ps ks : List Str} (F : Fun K x qual st f fd) (h0 : ps ≠ [])
    (h : ∀ (kV doc pm : Value) (an : Option Addr) (cdv ct : Value) (ws : List Value), ws.length = ps.length → bindArgs (PySem.W.fnOf x qual (defArgs st) (defBody st) (defScope st) .none kV doc pm an cdv ct) ⟨[], ks.zip ws⟩ = pure (ps.zip ws)) : KBinds K fd ps ks gNoPos gNoPos := by
  obtain ⟨oc, od, kV, doc, pm, an, cdv, ct, osl, rfl, lk, hcd⟩ := F.ex
  refine ⟨fun s us ws _ hl => ?_, fun {vs us zs ws} r rz => ?_⟩
  · unfold gNoPos at hl ⊢
    cases us with
    | nil => exact .of_eq (h kV doc pm an cdv ct ws hl)
    | cons u us =>
      cases ps with
      | nil => exact absurd rfl h0
      | cons p ps => simp at hl
  · cases r with
    | nil => exact rz
    | cons _ _ => exact .nil
end Sk

/-! The dict {None: 0}; list(d.values()). -/
namespace Sk
open PySem PySem.Spec PyProof.Rows L2 Evl
def nEn (t : Nat) : DictEntry := ⟨reduceHash 0xFCA86420, .none, .int 0 t⟩
def NDx (a : Addr) (o : Obj) (h : Heap) : Prop := h.get? a = some o ∧ o.ExactDict ∧ (∃ ep t : Nat, o.data = .dict #[nEn t] ep) ∧ (a == sysModules) = false
def NoneD (a : Addr) (o : Obj) : HO := .ext (NDx a o)
theorem noneD_ok {P : Program} {w : World} {H : Hp} {h : Heap} {a : Addr} {o : Obj} (x : NDx a o h) : ObjOk P w H h a (NoneD a o) :=
  ⟨x, ⟨o, x.1⟩, fun _ _ q k => ⟨k o q.1, q.2⟩⟩
theorem one_pair {P : Program} {w : World} {es : Array DictEntry} {v : Value} (p : Pairs (noneKind P w) es.toList [(none, v)]) (k : KeysOf (noneKind P w) es) : es = #[⟨reduceHash 0xFCA86420, .none, v⟩] := by
  obtain ⟨l⟩ := es
  have p' : Pairs (noneKind P w) l [(none, v)] := p
  cases p' with
  | cons h1 h2 h3 =>
    cases h3
    rename_i e
    obtain ⟨hs, ky, vl⟩ := e
    have e1 : ky = .none := nk_none (show nkIs none ky = true from h1)
    have e2 : vl = v := h2
    subst e1 e2
    obtain ⟨k, hk, hh⟩ := k ⟨hs, .none, vl⟩ (by simp)
    cases k with
    | some k => exact absurd (show keyIs k .none = true from hk) (keyIs_none k)
    | none =>
      have e3 : hs = reduceHash 0xFCA86420 := hh
      subst e3
      rfl
section
variable {X : Cx} {pins : List (Addr × Obj)} {σ : L2.St} {H : Hp} {s : Shared}
theorem noneD_inv {a : Addr} {o : Obj} (I : Inv X pins σ H s) (h : H a = some (NoneD a o)) : NDx a o s.heap := (show ObjOk X.prog X.w H s.heap a (NoneD a o) from I.hok _ _ h).1
theorem noneD_dict {a : Addr} {o : Obj} (I : Inv X pins σ H s) (h : H a = some (NoneD a o)) : (a == sysModules) = false ∧ ∃ t, s.heap.DictOf (noneKind X.prog X.w) a [(none, .int 0 t)] := by
  obtain ⟨g, x, ⟨ep, t, d⟩, lo⟩ := noneD_inv I h
  refine ⟨lo, t, o, #[nEn t], ep, g, x, d, (fun e m => ?_), .cons rfl rfl .nil, by simp⟩
  have e' : e = nEn t := by simpa using m
  subst e'
  exact ⟨none, rfl, rfl⟩
/-- len -/
theorem call_lenN : CallR X (.builtin "len") (fun xs H Q => ∃ a o, xs = [V.ref a] ∧ H a = some (NoneD a o) ∧ Q (.int 1) H) := by
  intro pins s σ H xs us Q I r h
  obtain ⟨a, o, rfl, ha, q⟩ := h
  obtain ⟨u, rfl, ru⟩ := vals1 r
  cases (show u = Value.ref a from ru)
  obtain ⟨lo, t, dd⟩ := noneD_dict I ha
  exact call_len_dict lo dd (by show (1 : Int) < 2 ^ 63; decide) ⟨.int 1, H, I.tok _, ⟨_, rfl⟩, q⟩
end
/-- {None: 0} -/
def tDispN (tv : TE) : TE := fun σ H Q => ∀ p, H p = none → tv σ (upd H p (.dK [])) fun y H2 => H2 p = some (.dK []) ∧ y = .int 0 ∧ ∀ o, Q (.ref p) (upd H2 p (NoneD p o))
theorem empty_any {P : Program} {w : World} {h : Heap} {a : Addr} (d : h.DictOf (mixKind P w) a []) : h.DictOf (noneKind P w) a [] := by
  obtain ⟨o, es, ep, ho, hx, hd, hk, hp, hn⟩ := d
  have e : es = #[] := by
    have : es.toList = [] := by
      generalize es.toList = l at hp
      cases hp
      rfl
    exact Array.toList_eq_nil_iff.mp this
  subst e
  exact ⟨o, #[], ep, ho, hx, hd, (fun _ m => by simp at m), .nil, by simp⟩
theorem pe_dispN {X : Cx} {v : Expr} {j : Nat} {pos kp : Pos} {tv : TE} (hv : PE X v tv) : PE X (.Dict [some (.Constant .none j kp)] [v] pos) (tDispN tv) := by
  refine ⟨fun pins s σ H Q I q => ?_⟩
  have hn := I.hok.fresh (Nat.le_refl s.heap.objs.size)
  have I1 := I.laid (a := s.heap.objs.size) (o := .dK []) (h' := s.heap.push { cls := .type "dict", data := .dict #[] }) (t' := s.toks) (fun _ _ q => Heap.get?_push_of_some _ q) (Nat.le_refl _) (dk_empty s.heap I.big)
  refine wpAny_Dict_walk (knd := noneKind X.prog X.w) rfl rfl (by simp) (by simp) (pairTrees_cons_walk (Constant_none (thn (hv.run pins _ σ _ _ I1 (q _ hn)) fun w2 s2 ⟨y, H2, I2, ry, q2⟩ => pairTrees_nil_walk ?_)))
  obtain ⟨e, ey, q3⟩ := q2
  subst ey
  obtain ⟨t, rfl⟩ := ry
  obtain ⟨z, hd, vs0, r0, dd⟩ := dk_of I2.hok e
  cases r0
  refine ⟨[(none, .int 0 t)], ⟨rfl, rfl, trivial⟩, empty_any dd, fun h' dd' hs => ?_⟩
  obtain ⟨o, es, ep, ho, hx, hdt, hk, hp, hn2⟩ := dd'
  have e1 := one_pair (show Pairs (noneKind X.prog X.w) es.toList [(none, .int 0 t)] from hp) hk
  subst e1
  exact ⟨.ref s.heap.objs.size, _, d_write I2 (by rw [e]; exact True.intro) hs ⟨o, ho⟩ (noneD_ok ⟨ho, hx, ⟨ep, t, hdt⟩, hd⟩), rfl, q3 o⟩
/-! ### walked by its one key -/
def Itn (d : Addr) (o : Obj) : It := ⟨fun i H => H d = some (NoneD d o) ∧ i < 1, fun i H x H' => H' = H ∧ x = .non, fun i H => H d = some (NoneD d o) ∧ 1 ≤ i⟩
section
variable {P : Program} {w : World} {K : PySem.W.Frag} {tg : Expr} {d : Addr} {o : Obj} {ep t : Nat}
theorem turn_none (it : Addr) (hod : o.data = .dict #[nEn t] ep) : Turn P w K tg (Itn d o) [it] it (fun i h => h.IsKeyIter it d i 1 ep) where
  mem := by simp
  obj := fun i h st b hb => by
    have e : b = it := by simpa using hb
    subst e
    obtain ⟨oi, e, c, dd⟩ := st
    exact ⟨oi, e, fun v z => by rw [dd] at z; cases z⟩
  keep := fun i h h' st k => st.at fun oi e => k it (by simp) oi e
  item := by
    intro X hP hw hK hc i pins s σ H E I hf st hg
    subst hP hw hK
    obtain ⟨hd, hi⟩ := hg
    obtain ⟨f0, f1, f2, f3, f4, f5⟩ := hf it (by simp)
    obtain ⟨hgd, hx, _, lo⟩ := noneD_inv I hd
    have i0 : i = 0 := by omega
    subst i0
    refine next_key_item st hgd hod rfl (en := nEn t) rfl fun h' st' sb => ?_
    have I1 : Inv X pins σ H { s with heap := h' } := I.turned (t' := s.toks) (fun b ob hb e => (sb.2 b hb).trans e) f0 f1 f3 f4 f5
    obtain ⟨oi, e, c, dd⟩ := id st'
    exact ⟨.none, rfl, go_of (s := { s with heap := h' }) e c dd (by decide) ⟨.non, H, I1, rfl, ⟨rfl, rfl⟩, st', fun b hb => (hf b hb).1⟩⟩
  done := by
    intro X hP hw hK hc i pins s σ H E I hf st hg
    subst hP hw hK
    obtain ⟨hd, hi⟩ := hg
    obtain ⟨f0, f1, f2, f3, f4, f5⟩ := hf it (by simp)
    obtain ⟨hgd, hx, _, lo⟩ := noneD_inv I hd
    exact next_key_end (I.ok.hd hc) st hgd hod rfl hi fun h' eb => ⟨rfl, I.turned (t' := s.toks) (fun b ob hb e => eb b ob hb e) f0 f1 f3 f4 f5⟩
  self := fun A i s Q E st h => wpAny_pyIter_keyiter st h
end
def iNone (td : TE) : TI := fun σ H R => td σ H fun x H1 => ∃ d o, x = .ref d ∧ H1 d = some (NoneD d o) ∧ R (Itn d o) H1
section
variable {X : Cx} {tg e : Expr} {td : TE}
theorem pi_none (he : PE X e td) : PI X tg e (iNone td) := by
  refine ⟨fun pins s σ H R I h => ?_⟩
  refine thn (he.run pins s σ H _ I h) fun u s1 ⟨x, H1, I1, rx, d, o, ex, hd, q⟩ => ?_
  subst ex
  obtain rfl : u = Value.ref d := rx
  obtain ⟨hgd, hx, ⟨ep, t, hdt⟩, lo⟩ := noneD_inv I1 hd
  exact iter_keys lo hgd hx hdt (pi_one (tk := s1.toks) I1 _ (turn_none _ hdt) ⟨_, Heap.get?_push_size _ rfl, rfl, rfl⟩ q)
/-- either way of reading -/
theorem PI.or {ta tb : TI} (ha : PI X tg e ta) (hb : PI X tg e tb) : PI X tg e (fun σ H R => ta σ H R ∨ tb σ H R) := ⟨fun pins s σ H R I h => h.elim (ha.run pins s σ H R I) (hb.run pins s σ H R I)⟩
theorem PE.or {ta tb : TE} (ha : PE X e ta) (hb : PE X e tb) : PE X e (fun σ H Q => ta σ H Q ∨ tb σ H Q) := ⟨fun pins s σ H R I h => h.elim (ha.run pins s σ H R I) (hb.run pins s σ H R I)⟩
theorem PS.or {st : Stmt} {ta tb : TS} (ha : PS X st ta) (hb : PS X st tb) : PS X st (fun D σ H => ta D σ H ∨ tb D σ H) := ⟨fun pins s σ H D I h => h.elim (ha.run pins s σ H D I) (hb.run pins s σ H D I)⟩
end
theorem for_none {d : Addr} {o : Obj} {g : TG} {tb : TS} {D : Ends} {σ : L2.St} {H : Hp} (Pv : Nat → L2.St → Hp → Prop) (h0 : Pv 0 σ H) (hl : ∀ i σ H, i ≤ 1 → Pv i σ H → H d = some (NoneD d o))
    (hs : ∀ σ H, Pv 0 σ H → g .non σ H fun σ2 H2 => tb { D with nx := Pv 1, ct := Pv 1, bk := D.nx } σ2 H2) (hd : ∀ σ H, Pv 1 σ H → D.nx σ H) :
    ∃ W : Nat → Nat → L2.St → Hp → Prop, (∃ m, W 0 m σ H) ∧ ∀ i m σ H, W i m σ H →
      ((Itn d o).stop i H ∧ D.nx σ H) ∨ ((Itn d o).go i H ∧ ∃ N : L2.St → Hp → Prop, (∀ σ' H', N σ' H' → ∃ m', m' < m ∧ W (i + 1) m' σ' H') ∧ ∀ x H', (Itn d o).yld i H x H' → g x σ H' fun σ2 H2 => tb { D with nx := N, ct := N, bk := D.nx } σ2 H2) := by
  refine ⟨fun i m σ H => m = 1 - i ∧ i ≤ 1 ∧ Pv i σ H, ⟨1, by simp, Nat.zero_le _, h0⟩, ?_⟩
  rintro i m σ H ⟨rfl, hi, p⟩
  by_cases hlt : i < 1
  · have i0 : i = 0 := by omega
    subst i0
    refine .inr ⟨⟨hl _ _ _ hi p, hlt⟩, Pv 1, fun σ' H' p' => ⟨0, by omega, by omega, Nat.le_refl _, p'⟩, fun x H' y => ?_⟩
    obtain ⟨e, y⟩ := y
    subst e y
    exact hs σ _ p
  · have e : i = 1 := by omega
    subst e
    exact .inl ⟨⟨hl _ _ _ hi p, Nat.le_refl _⟩, hd σ H p⟩
theorem lc_none {d : Addr} {o : Obj} {g : TG} {tt : TT} {te : TE} {vs : List Nat} {σ : L2.St} {H1 : Hp} {D : Addr} {Qd : Hp → Prop} (Pv : Nat → Hp → Prop) (h0 : Pv 0 (upd H1 D (.lst []))) (hl : ∀ i H, i ≤ 1 → Pv i H → H d = some (NoneD d o))
    (hs : ∀ H, Pv 0 H → g .non (wipe σ vs) H fun σ2 H2 => wipe σ2 vs = wipe σ vs ∧ tt σ2 H2 fun b H3 =>
      if b = true then te σ2 H3 fun y H4 => ∃ acc, H4 D = some (.lst acc) ∧ acc.length < sizeLine ∧ Pv 1 (upd H4 D (.lst (acc ++ [y]))) else Pv 1 H3) (hd : ∀ H, Pv 1 H → Qd H) :
    ∃ W : Nat → Nat → Hp → Prop, (∃ m, W 0 m (upd H1 D (.lst []))) ∧ ∀ i m H, W i m H →
      ((Itn d o).stop i H ∧ Qd H) ∨ ((Itn d o).go i H ∧ ∃ Nx : Hp → Prop, (∀ H', Nx H' → ∃ m', m' < m ∧ W (i + 1) m' H') ∧ ∀ x H', (Itn d o).yld i H x H' → g x (wipe σ vs) H' fun σ2 H2 => wipe σ2 vs = wipe σ vs ∧ tt σ2 H2 fun b H3 =>
        if b = true then te σ2 H3 fun y H4 => ∃ acc, H4 D = some (.lst acc) ∧ acc.length < sizeLine ∧ Nx (upd H4 D (.lst (acc ++ [y]))) else Nx H3) := by
  refine ⟨fun i m H => m = 1 - i ∧ i ≤ 1 ∧ Pv i H, ⟨1, by simp, Nat.zero_le _, h0⟩, ?_⟩
  rintro i m H ⟨rfl, hi, p⟩
  by_cases hlt : i < 1
  · have i0 : i = 0 := by omega
    subst i0
    refine .inr ⟨⟨hl _ _ hi p, hlt⟩, Pv 1, fun H' p' => ⟨0, by omega, by omega, Nat.le_refl _, p'⟩, fun x H' y => ?_⟩
    obtain ⟨e, y⟩ := y
    subst e y
    exact hs _ p
  · have e : i = 1 := by omega
    subst e
    exact .inl ⟨⟨hl _ _ hi p, Nat.le_refl _⟩, hd H p⟩
theorem kv_vals : ∀ {kvs : List (Key × V)} {vs : List (Key × Value)}, KV kvs vs → Vals (kvs.map (·.2)) (vs.map (·.2))
  | _, _, .nil => .nil
  | _, _, .cons r t => .cons r.2 (kv_vals t)
/-! ### list(d.values()) -/
def tListVals (te : TE) : TE := fun σ H Q => te σ H fun x H1 => ∃ (d : Addr) (kvs : List (Key × V)), x = .ref d ∧ H1 d = some (.dK kvs) ∧ ∀ p, H1 p = none → Q (.ref p) (upd H1 p (.lst (kvs.map (·.2))))
section
variable {X : Cx} {e : Expr} {te : TE} {p apos cpos pos : Pos}
theorem pe_listVals (hc : X.calm = true) (he : PE X e te) (hg : Gl X "list") (hm : X.mg "list" = none) (hv : bootBuiltins "list" = some (.type "list")) (hbase : attributeBase e "values" X.env (eval e X.env) = eval e X.env := by rfl) (hline : (apos.endLine == cpos.line) = true := by rfl)
    (hs : starEach [.Call (.Attribute e "values" apos) [] [] cpos] X.env = (false, eval (.Call (.Attribute e "values" apos) [] [] cpos) X.env) :: starEach [] X.env := by rfl) :
    PE X (.Call (.Name "list" p) [.Call (.Attribute e "values" apos) [] [] cpos] [] pos) (tListVals te) := by
  refine ⟨fun pins s σ H Q I hq => ?_⟩
  refine wpAny_Call_Name_kw (ld_blt I hg hm hv ?_)
  refine PyProof.Rows.callWith_type1 ?_ hs rfl
  rw [hs]
  show wpAny _ _ (spliced ((false, eval (.Call (.Attribute e "values" apos) [] [] cpos) X.env) :: backTo pos (starEach [] X.env))) _ _ s
  refine Calls.spliced_cons ?_
  refine wpAny_Call_method (T := "dict") (id := "dict.values") hbase rfl hline F.plainAttrs_dict F.slot_dict_values F.type_dict_values (thn (he.run pins s σ H _ I hq) fun u s1 ⟨x, H1, I1, rx, d, kvs, ex, hd, q⟩ => ?_)
  subst ex
  obtain rfl : u = Value.ref d := rx
  obtain ⟨hz, hs0, vs, kv, hdo⟩ := I1.hok d _ hd
  obtain ⟨ep, hat⟩ := hdo.dictAt
  have lk : kvs.length = vs.length := Paired.length kv
  have I2 : Inv X pins σ H1 { s1 with heap := s1.heap.push { cls := .type "dict_values", data := .fields #[.ref d] } } := I1.kept (t' := s1.toks) fun b ob q => Heap.get?_push_of_some _ q
  refine ⟨hdo.typeIs, hdo.mapOf.noDict, ?_⟩
  show wpAny _ _ (callWith cpos (.builtin "dict.values") [.ref d] [] []) _ X.xe s1
  refine method_meetsIn F.slot_dict_values F.entry_dict_values rfl (PySem.evalArgs_none ⟨rfl, hdo.typeIs, F.args_dict_values_1 _, _, meets_dict_values (mixKind X.prog X.w) d hs0, ⟨vs, hdo⟩, ?_⟩)
  refine Calls.spliced_nil ?_
  refine PySem.W.kdl_call (PySem.W.kdl_values (knd := mixKind X.prog X.w) (kvs := vs) (ep := ep)) (I1.ok.hd hc) ⟨⟨_, Heap.get?_push_size _ rfl, rfl, rfl⟩, hat.push _⟩ (by rw [← lk]; exact hz) fun h' tk acc c' hk hD hacc => ?_
  have ea : acc.toList = vs.map (·.2) := by
    refine List.ext_getElem? fun j => ?_
    rw [List.getElem?_map]
    cases z : acc.toList[j]? with
    | some v =>
      obtain ⟨k, hk2⟩ := hacc.2 j v (by rw [← Array.getElem?_toList]; exact z)
      rw [hk2]; rfl
    | none =>
      have h1 : acc.toList.length ≤ j := List.getElem?_eq_none_iff.mp z
      rw [Array.length_toList, hacc.1] at h1
      rw [List.getElem?_eq_none h1]; rfl
  have hv2 : Vals (kvs.map (·.2)) acc.toList := by
    rw [ea]
    exact kv_vals kv
  exact ⟨.ref _, upd H1 _ (.lst (kvs.map (·.2))), I2.laid (t' := tk) hk (Nat.le_refl _) (show ObjOk X.prog X.w _ _ _ (.lst (kvs.map (·.2))) from ⟨by rw [List.length_map]; exact hz, acc.toList, c', hv2, by rw [Array.toArray_toList]; exact hD⟩), rfl, q _ (I2.hok.fresh (Nat.le_refl _))⟩
end
end Sk

/-! Things: data of any depth, dicts with keys ints and texts, and {None: 0}. -/
namespace Sk
open PySem PySem.Spec PyProof.Rows L2 Evl
def kPd : Key → PyData
  | .inl i => .int i
  | .inr x => .str x
def kSh : Key → Prop
  | .inl _ => True
  | .inr x => x.length ≤ 1000
mutual
inductive Dt (H : Hp) : V → PyData → Prop
  | non : Dt H .non .none
  | bl (b : Bool) : Dt H (.bl b) (.bool b)
  | int (i : Int) : Dt H (.int i) (.int i)
  | str (x : Str) (h : x.length ≤ 1000) : Dt H (.str x) (.str x)
  | lst {a xs ds} (e : H a = some (.lst xs)) (r : DtAll H xs ds) : Dt H (.ref a) (.list ds)
  | tup {a xs ds} (e : H a = some (.tup xs)) (r : DtAll H xs ds) : Dt H (.ref a) (.tuple ds)
  | dct {a kvs ds} (e : H a = some (.dK kvs)) (nd : (kvs.map (·.1)).Nodup) (r : DtKv H kvs ds) : Dt H (.ref a) (.dict ds)
  | dn {a o} (e : H a = some (NoneD a o)) : Dt H (.ref a) (.dict [(.none, .int 0)])
inductive DtAll (H : Hp) : List V → List PyData → Prop
  | nil : DtAll H [] []
  | cons {v vs d ds} (x : Dt H v d) (r : DtAll H vs ds) : DtAll H (v :: vs) (d :: ds)
inductive DtKv (H : Hp) : List (Key × V) → List (PyData × PyData) → Prop
  | nil : DtKv H [] []
  | cons {k : Key} {v d kvs ds} (hk : kSh k) (x : Dt H v d) (r : DtKv H kvs ds) : DtKv H ((k, v) :: kvs) ((kPd k, d) :: ds)
end
mutual
theorem Dt.mono {H H' : Hp} (e : Ex H H') : ∀ {v d}, Dt H v d → Dt H' v d
  | _, _, .non => .non
  | _, _, .bl b => .bl b
  | _, _, .int i => .int i
  | _, _, .str x h => .str x h
  | _, _, .lst h r => .lst (e _ _ h) (r.mono e)
  | _, _, .tup h r => .tup (e _ _ h) (r.mono e)
  | _, _, .dct h nd r => .dct (e _ _ h) nd (r.mono e)
  | _, _, .dn h => .dn (e _ _ h)
theorem DtAll.mono {H H' : Hp} (e : Ex H H') : ∀ {v d}, DtAll H v d → DtAll H' v d
  | _, _, .nil => .nil
  | _, _, .cons x r => .cons (x.mono e) (r.mono e)
theorem DtKv.mono {H H' : Hp} (e : Ex H H') : ∀ {v d}, DtKv H v d → DtKv H' v d
  | _, _, .nil => .nil
  | _, _, .cons hk x r => .cons hk (x.mono e) (r.mono e)
end
theorem DtAll.length {H : Hp} : ∀ {xs ds}, DtAll H xs ds → xs.length = ds.length
  | _, _, .nil => rfl
  | _, _, .cons _ r => congrArg Nat.succ r.length
theorem DtKv.length {H : Hp} : ∀ {xs ds}, DtKv H xs ds → xs.length = ds.length
  | _, _, .nil => rfl
  | _, _, .cons _ _ r => congrArg Nat.succ r.length
theorem DtAll.get {H : Hp} : ∀ {xs ds}, DtAll H xs ds → ∀ {i : Nat} {v : V}, xs[i]? = some v → ∃ d, ds[i]? = some d ∧ Dt H v d
  | _, _, .nil, _, _, e => by simp at e
  | _, _, .cons x r, 0, _, e => by simp at e; subst e; exact ⟨_, rfl, x⟩
  | _, _, .cons x r, i + 1, _, e => by
    obtain ⟨d, h1, h2⟩ := r.get (i := i) (by simpa using e)
    exact ⟨d, by simpa using h1, h2⟩
theorem DtAll.snoc {H : Hp} : ∀ {xs ds}, DtAll H xs ds → ∀ {v d}, Dt H v d → DtAll H (xs ++ [v]) (ds ++ [d])
  | _, _, .nil, _, _, x => .cons x .nil
  | _, _, .cons y r, _, _, x => .cons y (r.snoc x)
theorem DtAll.app {H : Hp} : ∀ {xs ds ys es}, DtAll H xs ds → DtAll H ys es → DtAll H (xs ++ ys) (ds ++ es)
  | _, _, _, _, .nil, q => q
  | _, _, _, _, .cons y r, q => .cons y (r.app q)
theorem DtKv.get {H : Hp} : ∀ {xs ds}, DtKv H xs ds → ∀ {i : Nat} {k : Key} {v : V}, xs[i]? = some (k, v) → ∃ d, ds[i]? = some (kPd k, d) ∧ kSh k ∧ Dt H v d
  | _, _, .nil, _, _, _, e => by simp at e
  | _, _, .cons hk x r, 0, _, _, e => by simp at e; obtain ⟨rfl, rfl⟩ := e; exact ⟨_, rfl, hk, x⟩
  | _, _, .cons hk x r, i + 1, _, _, e => by
    obtain ⟨d, h1, h2⟩ := r.get (i := i) (by simpa using e)
    exact ⟨d, by simpa using h1, h2⟩
theorem DtKv.vals {H : Hp} : ∀ {xs ds}, DtKv H xs ds → DtAll H (xs.map (·.2)) (ds.map (·.2))
  | _, _, .nil => .nil
  | _, _, .cons _ x r => .cons x r.vals
theorem Dt.key {H : Hp} {k : Key} (h : kSh k) : Dt H (kV k) (kPd k) := by
  cases k with
  | inl i => exact .int i
  | inr x => exact .str x h
theorem kPd_ty (k : Key) : (∀ xs, kPd k ≠ .list xs) ∧ ∀ xs, kPd k ≠ .dict xs := by
  cases k
  · exact ⟨(fun _ z => nomatch z), (fun _ z => nomatch z)⟩
  · exact ⟨(fun _ z => nomatch z), (fun _ z => nomatch z)⟩
/-! ### a thing is told by its value -/
mutual
theorem Dt.fn {H : Hp} : ∀ {v d}, Dt H v d → ∀ {d'}, Dt H v d' → d = d'
  | _, _, .non, _, h => by cases h; rfl
  | _, _, .bl b, _, h => by cases h; rfl
  | _, _, .int i, _, h => by cases h; rfl
  | _, _, .str x _, _, h => by cases h; rfl
  | _, _, .lst e r, _, h => by
    cases h with
    | lst e' r' =>
      rw [e] at e'
      cases e'
      rw [r.fn r']
    | tup e' r' => rw [e] at e'; cases e'
    | dct e' nd' r' => rw [e] at e'; cases e'
    | dn e' => rw [e] at e'; cases e'
  | _, _, .tup e r, _, h => by
    cases h with
    | tup e' r' =>
      rw [e] at e'
      cases e'
      rw [r.fn r']
    | lst e' r' => rw [e] at e'; cases e'
    | dct e' nd' r' => rw [e] at e'; cases e'
    | dn e' => rw [e] at e'; cases e'
  | _, _, .dct e nd r, _, h => by
    cases h with
    | dct e' nd' r' =>
      rw [e] at e'
      cases e'
      rw [r.fn r']
    | tup e' r' => rw [e] at e'; cases e'
    | lst e' r' => rw [e] at e'; cases e'
    | dn e' => rw [e] at e'; cases e'
  | _, _, .dn e, _, h => by
    cases h with
    | dn e' => rfl
    | tup e' r' => rw [e] at e'; cases e'
    | lst e' r' => rw [e] at e'; cases e'
    | dct e' nd' r' => rw [e] at e'; cases e'
theorem DtAll.fn {H : Hp} : ∀ {v d}, DtAll H v d → ∀ {d'}, DtAll H v d' → d = d'
  | _, _, .nil, _, h => by cases h; rfl
  | _, _, .cons x r, _, h => by
    cases h with
    | cons x' r' => rw [x.fn x', r.fn r']
theorem DtKv.fn {H : Hp} : ∀ {v d}, DtKv H v d → ∀ {d'}, DtKv H v d' → d = d'
  | _, _, .nil, _, h => by cases h; rfl
  | _, _, .cons _ x r, _, h => by
    cases h with
    | cons _ x' r' => rw [x.fn x', r.fn r']
end
/-! ### what is less deep does not hold the whole -/
mutual
theorem Dt.off {H : Hp} {a : Addr} {D : PyData} (hD : Dt H (.ref a) D) : ∀ {v d}, Dt H v d → d.depth < D.depth → Dt (Hd a H) v d
  | _, _, .non, _ => .non
  | _, _, .bl b, _ => .bl b
  | _, _, .int i, _ => .int i
  | _, _, .str x h, _ => .str x h
  | _, _, .lst (a := b) (xs := xs) (ds := ds) e r, l => by
    have n : b ≠ a := by
      intro z; subst z
      rw [hD.fn (.lst e r)] at l
      exact absurd l (Nat.lt_irrefl _)
    refine .lst (hd_of n e) (r.off hD ?_)
    simp only [PyData.depth] at l
    omega
  | _, _, .tup (a := b) (ds := ds) e r, l => by
    have n : b ≠ a := by
      intro z; subst z
      rw [hD.fn (.tup e r)] at l
      exact absurd l (Nat.lt_irrefl _)
    refine .tup (hd_of n e) (r.off hD ?_)
    simp only [PyData.depth] at l
    omega
  | _, _, .dct (a := b) (ds := ds) e nd r, l => by
    have n : b ≠ a := by
      intro z; subst z
      rw [hD.fn (.dct e nd r)] at l
      exact absurd l (Nat.lt_irrefl _)
    refine .dct (hd_of n e) nd (r.off hD ?_)
    simp only [PyData.depth] at l
    omega
  | _, _, .dn (a := b) (o := o) e, l => by
    have n : b ≠ a := by
      intro z; subst z
      rw [hD.fn (.dn e)] at l
      exact absurd l (Nat.lt_irrefl _)
    exact .dn (hd_of n e)
theorem DtAll.off {H : Hp} {a : Addr} {D : PyData} (hD : Dt H (.ref a) D) : ∀ {v d}, DtAll H v d → PyData.depthAll d < D.depth → DtAll (Hd a H) v d
  | _, _, .nil, _ => .nil
  | _, _, .cons x r, l => by
    simp only [PyData.depthAll] at l
    exact .cons (Dt.off hD x (by omega)) (r.off hD (by omega))
theorem DtKv.off {H : Hp} {a : Addr} {D : PyData} (hD : Dt H (.ref a) D) : ∀ {v d}, DtKv H v d → PyData.depthKv d < D.depth → DtKv (Hd a H) v d
  | _, _, .nil, _ => .nil
  | _, _, .cons hk x r, l => by
    simp only [PyData.depthKv] at l
    exact .cons hk (Dt.off hD x (by omega)) (r.off hD (by omega))
end
theorem DtKv.part {H : Hp} {a : Addr} {kvs : List (Key × V)} {ds : List (PyData × PyData)} (e : H a = some (.dK kvs)) (nd : (kvs.map (·.1)).Nodup) (r : DtKv H kvs ds) {i : Nat} {k : Key} {v : V} (hx : kvs[i]? = some (k, v)) : ∃ d, ds[i]? = some (kPd k, d) ∧ kSh k ∧ Dt (Hd a H) v d := by
  have r2 := r.off (.dct e nd r) (by simp only [PyData.depth]; omega)
  exact r2.get hx
theorem valV_nd : ∀ {kvs : List (Key × V)} {i : Nat} {k : Key} {v : V}, (kvs.map (·.1)).Nodup → kvs[i]? = some (k, v) → valV kvs k = some v
  | [], _, _, _, _, h => by simp at h
  | p :: r, 0, k, v, _, h => by
    simp at h
    subst h
    simp [valV]
  | p :: r, i + 1, k, v, nd, h => by
    have h' : r[i]? = some (k, v) := by simpa using h
    rw [List.map_cons, List.nodup_cons] at nd
    have hk : p.1 ≠ k := fun z => nd.1 (by rw [z]; exact List.mem_map.mpr ⟨_, List.mem_of_getElem? h', rfl⟩)
    have ih := valV_nd nd.2 h'
    rw [← ih]
    simp [valV, hk]
/-! ### repr, isinstance -/
section
variable {X : Cx} {pins : List (Addr × Obj)} {σ : L2.St} {H : Hp} {s : Shared}
mutual
theorem Dt.rx (I : Inv X pins σ H s) : ∀ {v : V} {d : PyData} {u : Value}, Dt H v d → RelV v u → Rx s.heap u d
  | _, _, _, .non, r => by cases r; exact .none
  | _, _, _, .bl b, r => by cases r; exact .bool b
  | _, _, _, .int i, r => by obtain ⟨t, rfl⟩ := r; exact .int i t
  | _, _, _, .str x _, r => by obtain ⟨t, rfl⟩ := r; exact .str x t
  | _, _, _, .lst e ra, r => by
    cases r
    obtain ⟨_, its, n, rv, z⟩ := I.hok _ _ e
    exact .list z rfl rfl (by simpa using ra.rx I rv)
  | _, _, _, .tup e ra, r => by
    cases r
    obtain ⟨_, its, rv, o, z, c, n, q⟩ := I.hok _ _ e
    exact .tuple z c q (by simpa using ra.rx I rv)
  | _, _, _, .dct e _ ra, r => by
    cases r
    obtain ⟨_, low, vs, rel, o, es, ep, z, c, q, _, pr, _⟩ := dk_of I.hok e
    obtain ⟨h1, h2⟩ := ra.rx I rel pr
    exact .dict low z c.1 q h1 h2
  | _, _, _, .dn e, r => by
    cases r
    obtain ⟨g, c, ⟨ep, t, q⟩, lo⟩ := noneD_inv I e
    exact .dict lo g c.1 q (.cons .none .nil) (.cons (.int 0 t) .nil)
theorem DtAll.rx (I : Inv X pins σ H s) : ∀ {v : List V} {d : List PyData} {u : List Value}, DtAll H v d → Vals v u → RxAll s.heap u d
  | _, _, _, .nil, r => by cases r; exact .nil
  | _, _, _, .cons x ra, r => by
    cases r with
    | cons r1 r2 => exact .cons (x.rx I r1) (ra.rx I r2)
theorem DtKv.rx (I : Inv X pins σ H s) : ∀ {kvs : List (Key × V)} {ds : List (PyData × PyData)} {vs : List (Key × Value)} {es : List DictEntry}, DtKv H kvs ds → KV kvs vs → Pairs (mixKind X.prog X.w) es vs →
    RxAll s.heap (es.map (·.key)) (ds.map (·.1)) ∧ RxAll s.heap (es.map (·.val)) (ds.map (·.2))
  | _, _, _, _, .nil, r, p => by
    cases r
    cases p
    exact ⟨.nil, .nil⟩
  | _, _, _, _, .cons (k := k) hk x ra, r, p => by
    cases r with
    | @cons a b _ _ r1 r2 =>
      obtain ⟨kb, vb⟩ := b
      obtain ⟨h1, h2⟩ := r1
      have h1' : k = kb := h1
      subst h1'
      cases p with
      | @cons e kv _ _ p1 p2 p3 =>
        obtain ⟨g1, g2⟩ := ra.rx I r2 p3
        have hk : keyIs k e.key = true := p1
        have ev : e.val = vb := p2
        simp only [List.map_cons]
        rw [ev]
        rcases keyIs_shape hk with ⟨i, t, rfl, ek⟩ | ⟨y, t, rfl, ek⟩
        · rw [ek]
          exact ⟨.cons (.int i t) g1, .cons (x.rx I h2) g2⟩
        · rw [ek]
          exact ⟨.cons (.str y t) g1, .cons (x.rx I h2) g2⟩
end
end
theorem call_reprT {X : Cx} (hg : X.A.guards = some []) (hu : X.A.units + 64 < cLine) : CallR X (.builtin "repr") (fun xs H Q => ∃ x d, xs = [x] ∧ Dt H x d ∧ d.showable = true ∧ d.shown.length ≤ sizeLine ∧ d.depth ≤ 60 ∧ Q (.str d.shown) H) := by
  intro pins s σ H xs us Q I r h
  obtain ⟨x, d, rfl, hd, hs, hz, hl, q⟩ := h
  obtain ⟨u, rfl, ru⟩ := vals1 r
  exact call_repr_rx (hd.rx I ru) hs hz hg (by omega) fun h' u' tk k => ⟨.str d.shown, H, I.kept k, ⟨_, rfl⟩, q⟩
theorem call_isT {X : Cx} : CallR X (.builtin "isinstance") (fun xs H Q => ∃ x T d b, xs = [x, .ty T] ∧ Dt H x d ∧ kitB (tyD d) T = some b ∧ Q (.bl b) H) := by
  intro pins s σ H xs us Q I r h
  obtain ⟨x, T, d, b, rfl, hd, hk, q⟩ := h
  have base : ∀ t, TyX X.K H x (.type t) → t = tyD d → wpAny (model X.prog X.w) X.A (call (.builtin "isinstance") us) (EP X pins σ Q) X.xe s := fun t ty e => by
    subst e
    exact call_isi pins s σ H _ us Q I r ⟨x, .ty T, _, _, b, rfl, .ty T, ty, kit_ty hk, q⟩
  cases hd with
  | non => exact base _ (.base .non) rfl
  | bl b => exact base _ (.base (.bl b)) rfl
  | int i => exact base _ (.base (.int i)) rfl
  | str z _ => exact base _ (.base (.str z)) rfl
  | lst e _ => exact base _ (.base (.lst e)) rfl
  | tup e _ => exact base _ (.base (.tup e)) rfl
  | dct e _ _ => exact base _ (.base (.dK e)) rfl
  | dn e =>
    obtain ⟨u1, u2, rfl, r1, r2⟩ := vals2 r
    cases (show u1 = Value.ref _ from r1)
    have e2 := (ClsV.ty T).eq r2
    subst e2
    obtain ⟨g, c, _⟩ := noneD_inv I e
    exact PySem.W.kia_one PySem.W.kitx_dict I.kIn ⟨_, g, c.1⟩ (kit_ty hk) (fun z => nomatch z) fun tk => ⟨.bl b, H, I.tok tk, rfl, q⟩
mutual
theorem Dq.t {H : Hp} {b : Bool} : ∀ {n : Nat} {v d}, Dq H v d → Gd b n d → Dt H v d
  | _, _, _, .non, _ => .non
  | _, _, _, .bl b, _ => .bl b
  | _, _, _, .int i, _ => .int i
  | n, _, _, .str x, g => by
    cases n with
    | zero => exact g.elim
    | succ n => exact .str x (Nat.le_trans g.1 (by decide))
  | n, _, _, .lst e r, g => by
    cases n with
    | zero => exact g.elim
    | succ n => exact .lst e (r.t g.2)
  | n, _, _, .tup e r, g => by
    cases n with
    | zero => exact g.elim
    | succ n => exact g.elim
  | n, _, _, .dct e r, g => by
    cases n with
    | zero => exact g.elim
    | succ n =>
      refine .dct e ?_ (r.t g.2.1)
      rw [r.keys]
      exact List.Pairwise.map Sum.inr (fun _ _ h z => h (Sum.inr.inj z)) g.2.2.1
theorem DqAll.t {H : Hp} {b : Bool} : ∀ {n : Nat} {v d}, DqAll H v d → (∀ x ∈ d, Gd b n x) → DtAll H v d
  | _, _, _, .nil, _ => .nil
  | _, _, _, .cons x r, g => .cons (x.t (g _ (by simp))) (r.t fun y m => g y (by simp [m]))
theorem DqKv.t {H : Hp} {b : Bool} : ∀ {n : Nat} {v d}, DqKv H v d → (∀ p ∈ d, p.1 = .str (keyS p.1) ∧ okS 8 (keyS p.1) ∧ Gd b n p.2) → DtKv H v d
  | _, _, _, .nil, _ => .nil
  | _, _, _, .cons x r, g => by
    obtain ⟨_, h1, h2⟩ := g _ (List.mem_cons_self)
    exact .cons (k := .inr _) (Nat.le_trans h1.1 (by decide)) (x.t h2) (r.t fun y m => g y (by simp [m]))
end
end Sk

namespace Sk
open PySem PySem.Spec PyProof.Rows L2 Evl
def topS (i : Nat) : Stmt := PySem.Challenge.pw_soonknown_k02_what_is_a_value.main.body.getD i (.Pass ⟨0, 0, 0, 0⟩)
abbrev sStream : Stmt := topS 15
abbrev sDraw : Stmt := topS 16
abbrev sChoose : Stmt := topS 17
theorem scStream : FnScope ["script", "start", "seed", "number", "digits"] ["script", "start"] (defScope sStream) := ⟨rfl, rfl, rfl, by decide +kernel, rfl, by decide +kernel, by decide +kernel⟩
theorem scDraw : FnScope ["stream", "size", "found"] ["stream", "size"] (defScope sDraw) := ⟨rfl, rfl, rfl, by decide +kernel, rfl, by decide +kernel, by decide +kernel⟩
theorem scChoose : FnScope ["stream", "items"] ["stream", "items"] (defScope sChoose) := ⟨rfl, rfl, rfl, by decide +kernel, rfl, by decide +kernel, by decide +kernel⟩
/-- a source is made of the script -/
def spStream (K : PySem.W.Frag) : Sp := fun vs H Q _ => ∃ (a : Addr) (ns : List Int) (k : Int), vs = [.ref a, .int k] ∧ SqL K H a (ns.map V.int) ∧ ns.length ≤ 63 ∧ (∀ z ∈ ns, Builtin.Int.intBits z ≤ 1048576) ∧ 0 ≤ k ∧ k ≤ 100 ∧
  ∀ (st : Addr) (H' : Hp), H st = none → Ex H H' → Strm st H' → Q (.ref st) H'
/-- a draw: some number below the size -/
def spDraw : Sp := fun vs H Q _ => ∃ (st : Addr) (n : Int), vs = [.ref st, .int n] ∧ Strm st H ∧ 1 ≤ n ∧ n ≤ 1000000000 ∧
  ∀ (k : Int) (H' : Hp), 0 ≤ k → k < n → Aft st H H' → Q (.int k) H'
/-- a choice: some item -/
def Chs (K : PySem.W.Frag) (H : Hp) (x : V) (P : V → Prop) : Prop :=
  (∃ (a : Addr) (xs : List V), x = .ref a ∧ (SqL K H a xs ∨ SqT K H a xs) ∧ xs ≠ [] ∧ xs.length ≤ 100000 ∧ ∀ v ∈ xs, P v) ∨
  ∃ z : Str, x = .str z ∧ z.cps.toList ≠ [] ∧ z.length ≤ 100000 ∧ ∀ c ∈ z.cps.toList, P (.str ⟨#[c]⟩)
def spChoose (K : PySem.W.Frag) : Sp := fun vs H Q _ => ∃ (st : Addr) (x : V) (P : V → Prop), vs = [.ref st, x] ∧ Strm st H ∧ Chs K (Hd st H) x P ∧
  ∀ (v : V) (H' : Hp), P v → Aft st H H' → Q v H'
section
variable {P : Program} {w : World} {K : PySem.W.Frag} {mg : Str → Option Value} {base : Heap} {f g : Addr} {fd gd : FuncData}
theorem seed_next {s n : Int} (hs : 0 ≤ s ∧ s < 2 ^ 31) (hn : Builtin.Int.intBits n ≤ 1048576) : CMulW s 40127 ∧ CPowB (s * 40127 + n) 3 := by
  have h1 : s.natAbs < 2 ^ 31 := by omega
  have h2 : (40127 : Int).natAbs < 2 ^ 16 := by decide
  refine ⟨wide_mul h1 h2 (by decide) (by decide) (by decide), by decide, ?_⟩
  have h3 := abs_of_bits hn
  have h4 : (s * 40127).natAbs < 2 ^ (31 + 16) := wide_lt h1 h2
  have h5 : (2 : Nat) ^ (31 + 16) ≤ 2 ^ 1048576 := Nat.pow_le_pow_right (by decide) (by decide)
  have h6 : (s * 40127 + n).natAbs < 2 ^ 1048577 := by
    have e : (2 : Nat) ^ 1048577 = 2 ^ 1048576 + 2 ^ 1048576 := by rw [Nat.pow_succ]; omega
    rw [e]
    generalize (2 : Nat) ^ 1048576 = M at *
    omega
  have h7 := bits_of h6 (by decide)
  have e : ((2 : Int) ^ 27) = 134217728 := by decide
  rw [e]
  omega
theorem ok_stream {k : Nat} (F : Fun K "_law_stream" "_law_stream" sStream f fd) (ml : mg "len" = none) : FnOk P w K mg base CX0 (k + 1) f fd ["script", "start"] (spStream K) := by
  refine F.ok scStream (fun vs H Q E h => ?_) (fun cdv A outer s H vs Q E hr h => ?_)
  · obtain ⟨a, ns, k, rfl, _⟩ := h
    rfl
  obtain ⟨a, ns, k, rfl, hS, h63, hb, h0, h1, q⟩ := h
  have nd := scStream.nd
  refine ⟨_, pss_cons (ps_set (i := 2) nd rfl (Or.inl rfl) (pe_op op_add pe_int (pv 1)))
    (pss_cons (ps_for PassesOwn.never rfl (pi_list (pv 0)) (pg_name (i := 3) nd rfl (Or.inl rfl))
      (pss_one (ps_set (i := 2) nd rfl (Or.inl rfl) (pe_op op_add (pe_op op_mod (pe_op op_powB (pe_op op_add (pe_op op_mulW (pv 2) pe_int) (pv 3)) pe_int) pe_int) pe_int))))
    (pss_cons (ps_set (i := 4) nd rfl (Or.inl rfl) pe_int)
    (pss_cons (ps_if (PW.pt (pw_and (pt_cmpR op_lt (pv 1) (pe_callB call_len_seq rfl ml PySem.boot_len (pa_cons (pv 0) pa_nil)) (nomark _)) (pw_and1 (pt_cmpR op_ge (pe_ix ix_list (pv 0) (pv 1) (fun _ _ => rfl)) (pe_op op_powB pe_int pe_int) (nomark _)))))
      (pss_one (ps_set (i := 4) nd rfl (Or.inl rfl) (pe_op op_sub (pe_ix ix_list (pv 0) (pv 1) (fun _ _ => rfl)) (pe_op op_powB pe_int pe_int)))) pss_nil)
    (pss_one (ps_ret (pe_lst (pa_cons (pv 4) (pa_cons (pv 2) pa_nil)))))))), ?_⟩
  refine ⟨_, rfl, _, _, rfl, rfl, ?_⟩
  refine ⟨_, rfl, a, rfl, ⟨_, hS⟩, for_list (xs := ns.map V.int) (fun i σ H' => ∃ (s : Int) (y : Option V), σ = [some (.ref a), some (.int k), some (.int s), y, none] ∧ 0 ≤ s ∧ s < 2 ^ 31 ∧ H' = H) ⟨13 + k, none, rfl, by omega, by omega, rfl⟩ (fun i σ H' _ hp => ?_) (fun i x σ H' hx hp => ?_) (fun σ H' hp => ?_)⟩
  · obtain ⟨_, _, _, _, _, rfl⟩ := hp
    exact hS
  · obtain ⟨s, y, rfl, hs0, hs1, rfl⟩ := hp
    rw [List.getElem?_map] at hx
    obtain ⟨n, hn, rfl⟩ := Option.map_eq_some_iff.mp hx
    have hbn := hb n (List.mem_of_getElem? hn)
    obtain ⟨c1, c2⟩ := seed_next ⟨hs0, hs1⟩ hbn
    have hm : (0 : Int) < 2147483629 := by decide
    refine ⟨_, rfl, _, _, rfl, rfl, c1, _, rfl, _, _, rfl, rfl, _, _, rfl, rfl, c2, _, _, rfl, rfl, hm, _, _, rfl, rfl, _, some (.int n), rfl, ?_, ?_, rfl⟩
    · have := Int.emod_nonneg ((s * 40127 + n) ^ (3 : Int).toNat) (show (2147483629 : Int) ≠ 0 by decide)
      omega
    · have := Int.emod_lt_of_pos ((s * 40127 + n) ^ (3 : Int).toNat) hm
      have e : ((2 : Int) ^ 31) = 2147483648 := by decide
      rw [e]
      omega
  · obtain ⟨s, y, rfl, hs0, hs1, rfl⟩ := hp
    have fin : ∀ d : Int, 0 ≤ d → d.natAbs < 2 ^ 1100000 → ([V.int d, V.int s].length ≤ sizeLine ∧ ∀ p, H' p = none → Q (.ref p) (upd H' p (.lst [.int d, .int s]))) := fun d hd1 hd2 =>
      ⟨(by show 2 ≤ sizeLine; decide), fun p hp => q p _ hp (Ex.new hp) ⟨d, s, upd_same, hd1, hd2, hs0, hs1⟩⟩
    have h18 : CPowB 10 18 := by refine ⟨by decide, by decide +kernel⟩
    refine ⟨_, rfl, _, rfl, a, _, rfl, .inl hS, _, _, rfl, rfl, _, rfl, ?_⟩
    refine ite2 (fun c => ?_) (fun c => ?_)
    · have c' : k < ((ns.map V.int).length : Int) := of_decide_eq_true c
      rw [List.length_map] at c'
      have hk : k.toNat < ns.length := by omega
      have hat : atI (ns.map V.int) k = some (.int ns[k.toNat]) := by
        have e : k = ((k.toNat : Nat) : Int) := by omega
        have z : atI (ns.map V.int) ((k.toNat : Nat) : Int) = some (.int ns[k.toNat]) := atI_nat (by rw [List.getElem?_map, List.getElem?_eq_getElem hk]; rfl)
        rw [← e] at z
        exact z
      refine ⟨_, rfl, _, rfl, a, _, _, _, rfl, rfl, hS, hat, _, _, rfl, rfl, h18, _, _, rfl, rfl, _, rfl, ?_⟩
      refine ite2 (fun c2 => ?_) (fun c2 => ?_)
      · have c2' : (10 : Int) ^ (18 : Int).toNat ≤ ns[k.toNat] := of_decide_eq_true c2
        refine ⟨_, rfl, _, rfl, a, _, _, _, rfl, rfl, hS, hat, _, _, rfl, rfl, h18, _, _, rfl, rfl, _, rfl, _, rfl, ?_⟩
        have hb2 := abs_of_bits (hb _ (List.getElem_mem hk))
        have e18 : (10 : Int) ^ (18 : Int).toNat = 1000000000000000000 := by decide
        rw [e18] at c2' ⊢
        refine fin _ (by omega) ?_
        have e : (2 : Nat) ^ 1048576 ≤ 2 ^ 1100000 := Nat.pow_le_pow_right (by decide) (by decide)
        generalize (2 : Nat) ^ 1048576 = M at *
        generalize (2 : Nat) ^ 1100000 = N at *
        omega
      · exact ⟨_, rfl, _, rfl, fin 0 (by decide) (Nat.two_pow_pos _)⟩
    · exact ⟨_, rfl, _, rfl, fin 0 (by decide) (Nat.two_pow_pos _)⟩
end
end Sk

namespace Sk
open PySem PySem.Spec PyProof.Rows L2 Evl
section
variable {P : Program} {w : World} {K : PySem.W.Frag} {mg : Str → Option Value} {base : Heap} {f g : Addr} {fd gd : FuncData}
theorem atI0 {a b : V} : atI [a, b] 0 = some a := atI_nat (j := 0) rfl
theorem atI1 {a b : V} : atI [a, b] 1 = some b := atI_nat (j := 1) rfl
theorem small31 {x : Int} (h0 : 0 ≤ x) (h : x < 2147483648) : x.natAbs < 2 ^ 31 := by
  have e : (2 : Nat) ^ 31 = 2147483648 := by decide
  rw [e]; omega
theorem powB_small {x : Int} (h0 : 0 ≤ x) (h : x < 2147483648) {j : Int} (j0 : 0 ≤ j) (j1 : j ≤ 10) : CPowB x j := by
  refine ⟨j0, ?_⟩
  have h7 := bits_of (small31 h0 h) (by decide)
  have e : ((2 : Int) ^ 27) = 134217728 := by decide
  rw [e]
  have h8 : (Builtin.Int.intBits x : Int) ≤ 31 := by omega
  have h9 : (0 : Int) ≤ (Builtin.Int.intBits x : Int) := by omega
  calc (Builtin.Int.intBits x : Int) * j ≤ 31 * 10 := Int.mul_le_mul h8 j1 j0 (by decide)
    _ ≤ 134217728 := by decide
theorem ok_draw {k : Nat} (F : Fun K "_law_draw" "_law_draw" sDraw f fd) : FnOk P w K mg base CX0 (k + 1) f fd ["stream", "size"] spDraw := by
  refine F.ok scDraw (fun vs H Q E h => ?_) (fun cdv A outer s H vs Q E hr h => ?_)
  · obtain ⟨a, n, rfl, _⟩ := h
    rfl
  obtain ⟨st, n, rfl, hst, hn, hn9, q⟩ := h
  obtain ⟨d, sd, hs, hd0, hd1, hs0, hs1⟩ := hst
  have nd := scDraw.nd
  refine ⟨_, pss_cons (ps_if (pt_cmpR op_ge (pe_ix ix_list (pv 0) pe_int (fun _ _ => rfl)) (pv 1) (nomark _))
      (pss_cons (ps_set (i := 2) nd rfl (Or.inl rfl) (pe_op op_mod (pe_ix ix_list (pv 0) pe_int (fun _ _ => rfl)) (pv 1)))
      (pss_cons (ps_asg (pe_op op_fdivW (pe_ix ix_list (pv 0) pe_int (fun _ _ => rfl)) (pv 1)) (pg_sub (pv 0) pe_int set_list))
      (pss_one (ps_ret (pv 2))))) pss_nil)
    (pss_cons (ps_asg (pe_op op_mod (pe_op op_add (pe_op op_mulW (pe_ix ix_list (pv 0) pe_int (fun _ _ => rfl)) pe_int) pe_int) pe_int) (pg_sub (pv 0) pe_int set_list))
    (pss_one (ps_ret (pe_op op_mod (pe_op op_fdiv (pe_op op_mod (pe_op op_powB (pe_op op_mod (pe_op op_powB (pe_ix ix_list (pv 0) pe_int (fun _ _ => rfl)) pe_int) pe_int) pe_int) pe_int) pe_int) (pv 1))))), ?_⟩
  have hL : SqL K H st [.int d, .int sd] := SqL.of hs
  refine ⟨_, rfl, st, _, 0, _, rfl, rfl, hL, atI0, _, rfl, _, _, rfl, rfl, _, rfl, ?_⟩
  have n31 : n.natAbs < 2 ^ 31 := small31 (by omega) (by omega)
  have up : ∀ a b : Int, 0 ≤ a → a.natAbs < 2 ^ 1100000 → 0 ≤ b → b < 2147483648 → Aft st H (upd H st (.lst [.int a, .int b])) := fun a b a0 a1 b0 b1 =>
    ⟨gr_upd, a, b, upd_same, a0, a1, b0, by have e : ((2 : Int) ^ 31) = 2147483648 := by decide
                                            rw [e]; exact b1⟩
  have e31 : ((2 : Int) ^ 31) = 2147483648 := by decide
  rw [e31] at hs1
  refine ite2 (fun c => ?_) (fun c => ?_)
  · have c' : n ≤ d := of_decide_eq_true c
    refine ⟨_, rfl, st, _, 0, _, rfl, rfl, hL, atI0, _, rfl, _, _, rfl, rfl, (by omega : (0 : Int) < n), ?_⟩
    refine ⟨_, rfl, st, _, 0, _, rfl, rfl, hL, atI0, _, rfl, _, _, rfl, rfl, wide_div (by omega) n31 (by decide) (by decide), ?_⟩
    refine ⟨_, rfl, st, _, 0, 0, rfl, rfl, hs, rfl, ?_⟩
    refine ⟨_, rfl, q _ _ (Int.emod_nonneg _ (by omega)) (Int.emod_lt_of_pos _ (by omega)) (up _ _ (Int.ediv_nonneg hd0 (by omega)) ?_ hs0 hs1)⟩
    refine Nat.lt_of_le_of_lt ?_ hd1
    have z0 : 0 ≤ d / n := Int.ediv_nonneg hd0 (by omega)
    have z1 : d / n ≤ d := Int.ediv_le_self n hd0
    omega
  · refine ⟨_, rfl, st, _, 1, _, rfl, rfl, hL, atI1, _, _, rfl, rfl, wide_mul (small31 hs0 hs1) (show (48271 : Int).natAbs < 2 ^ 16 by decide) (by decide) (by decide) (by decide), _, _, rfl, rfl, _, _, rfl, rfl, (by decide : (0 : Int) < 2147483647), ?_⟩
    refine ⟨_, rfl, st, _, 1, 1, rfl, rfl, hs, rfl, ?_⟩
    dsimp only [List.set]
    generalize hz : (sd * 48271 + 12345) % 2147483647 = z
    have z0 : 0 ≤ z := by rw [← hz]; exact Int.emod_nonneg _ (by decide)
    have z1 : z < 2147483648 := by
      have := Int.emod_lt_of_pos (sd * 48271 + 12345) (show (0 : Int) < 2147483647 by decide)
      omega
    have A1 := up d z hd0 hd1 z0 z1
    have hL2 : SqL K (upd H st (.lst [.int d, .int z])) st [.int d, .int z] := SqL.of upd_same
    refine ⟨_, rfl, st, _, 1, _, rfl, rfl, hL2, atI1, _, _, rfl, rfl, powB_small z0 z1 (by decide) (by decide), _, _, rfl, rfl, (by decide : (0 : Int) < 2147483629), ?_⟩
    dsimp only
    generalize hy : z ^ (3 : Int).toNat % 2147483629 = y
    have y0 : 0 ≤ y := by rw [← hy]; exact Int.emod_nonneg _ (by decide)
    have y1 : y < 2147483648 := by
      have := Int.emod_lt_of_pos (z ^ (3 : Int).toNat) (show (0 : Int) < 2147483629 by decide)
      omega
    refine ⟨_, _, rfl, rfl, powB_small y0 y1 (by decide) (by decide), _, _, rfl, rfl, (by decide : (0 : Int) < 1000000007), _, _, rfl, rfl, ⟨by decide, by decide⟩, _, rfl, _, _, rfl, rfl, (by omega : (0 : Int) < n), ?_⟩
    exact q _ _ (Int.emod_nonneg _ (by omega)) (Int.emod_lt_of_pos _ (by omega)) A1
/-- len of a list, a tuple, a text -/
theorem call_lenAny {X : Cx} : CallR X (.builtin "len") (fun xs H Q => (∃ p ys, xs = [.ref p] ∧ (SqL X.K H p ys ∨ SqT X.K H p ys) ∧ Q (.int ys.length) H) ∨ ∃ z, xs = [.str z] ∧ z.length ≤ sizeLine ∧ Q (.int z.length) H) := call_len_seq.or call_len_str
theorem ok_choose {k : Nat} {gd : FuncData} (F : Fun K "_law_choose" "_law_choose" sChoose f fd) (G : FnOk P w K mg base CX0 k g gd ["stream", "size"] spDraw) (bG : Binds K gd ["stream", "size"] []) (kG : PySem.W.keepIn K (.ref g) = true)
    (mG : mg "_law_draw" = some (.ref g)) (ml : mg "len" = none) : FnOk P w K mg base CX0 (k + 1) f fd ["stream", "items"] (spChoose K) := by
  refine F.ok scChoose (fun vs H Q E h => ?_) (fun cdv A outer s H vs Q E hr h => ?_)
  · obtain ⟨a, n, _, rfl, _⟩ := h
    rfl
  obtain ⟨st, x, Pv, rfl, hst, hx, q⟩ := h
  refine ⟨_, pss_one (ps_ret (pe_ix ix_seq (pv 1) (pe_call G hr rfl mG kG bG .nil pass0 (pa_cons (pv 0) (pa_cons (pe_callB call_lenAny rfl ml PySem.boot_len (pa_cons (pv 1) pa_nil)) pa_nil))) (fun _ _ => rfl))), ?_⟩
  refine ⟨_, rfl, _, rfl, _, rfl, ?_⟩
  rcases hx with ⟨a, xs, rfl, hs, hne, hl, hp⟩ | ⟨z, rfl, hne, hl, hp⟩
  · have hs' : ∀ H1, Ex (Hd st H) H1 → SqL K H1 a xs ∨ SqT K H1 a xs := fun H1 e => hs.elim (fun h => .inl (ex_l e h)) fun h => .inr (ex_t e h)
    have h1 : 1 ≤ xs.length := by cases xs with
      | nil => exact absurd rfl hne
      | cons _ _ => simp
    refine .inl ⟨a, xs, rfl, hs' _ hd_le, st, _, rfl, hst, by omega, by omega, fun i H1 i0 i1 A1 => ?_⟩
    have hi : i.toNat < xs.length := by omega
    have hat : atI xs i = some xs[i.toNat] := by
      have e : i = ((i.toNat : Nat) : Int) := by omega
      have z : atI xs ((i.toNat : Nat) : Int) = some xs[i.toNat] := atI_nat (List.getElem?_eq_getElem hi)
      rw [← e] at z
      exact z
    have fin := q _ H1 (hp _ (List.getElem_mem hi)) A1
    rcases hs' H1 (Ex.trans A1.gr hd_le) with h | h
    · exact .inl ⟨a, xs, i, _, rfl, rfl, h, hat, fin⟩
    · exact .inr (.inl ⟨a, xs, i, _, rfl, rfl, h, hat, fin⟩)
  · have e0 : z.length = z.cps.toList.length := by simp [Str.length]
    have h1 : 1 ≤ z.cps.toList.length := by
      cases h : z.cps.toList with
      | nil => exact absurd h hne
      | cons _ _ => simp
    refine .inr ⟨z, rfl, sz_of hl, st, _, rfl, hst, by omega, by omega, fun i H1 i0 i1 A1 => ?_⟩
    have hi : i.toNat < z.cps.toList.length := by omega
    have hat : atI z.cps.toList i = some z.cps.toList[i.toNat] := by
      have e : i = ((i.toNat : Nat) : Int) := by omega
      have z : atI z.cps.toList ((i.toNat : Nat) : Int) = some z.cps.toList[i.toNat] := atI_nat (List.getElem?_eq_getElem hi)
      rw [← e] at z
      exact z
    exact .inr (.inr ⟨z, i, _, rfl, rfl, sz_of hl, hat, q _ H1 (hp _ (List.getElem_mem hi)) A1⟩)
end
end Sk

namespace Sk
open PySem PySem.Spec PyProof.Rows L2 Evl
/-- the built-ins that are used -/
structure Blt (mg : Str → Option Value) : Prop where
  isi : mg "isinstance" = none
  bool : mg "bool" = none
  int : mg "int" = none
  str : mg "str" = none
  list : mg "list" = none
  dict : mg "dict" = none
  len : mg "len" = none
  range : mg "range" = none
  min : mg "min" = none
  max : mg "max" = none
  repr : mg "repr" = none
  abs : mg "abs" = none
theorem bt_abs : bootBuiltins "abs" = some (.builtin "abs") := by decide +kernel
theorem bt_bool : bootBuiltins "bool" = some (.type "bool") := by decide +kernel
theorem bt_int : bootBuiltins "int" = some (.type "int") := by decide +kernel
theorem bt_str : bootBuiltins "str" = some (.type "str") := by decide +kernel
theorem bt_list : bootBuiltins "list" = some (.type "list") := by decide +kernel
theorem bt_dict : bootBuiltins "dict" = some (.type "dict") := by decide +kernel
theorem bt_isi : bootBuiltins "isinstance" = some (.builtin "isinstance") := by decide +kernel
theorem line_le {n : Nat} (h : n ≤ 16000000) : n ≤ sizeLine := by rw [sizeLine_eq]; omega
abbrev sWord : Stmt := topS 18
theorem scWord : FnScope ["stream", "most", "size", "letters", "turn"] ["stream", "most"] (defScope sWord) := ⟨rfl, rfl, rfl, by decide +kernel, rfl, by decide +kernel, by decide +kernel⟩
/-- small letters -/
def lows (cs : List Nat) : Prop := ∀ c ∈ cs, 97 ≤ c ∧ c ≤ 122
def spWord : Sp := fun vs H Q _ => ∃ (st : Addr) (m : Int), vs = [.ref st, .int m] ∧ Strm st H ∧ 2 ≤ m ∧ m ≤ 12 ∧
  ∀ (x : Str) (H' : Hp), x.length ≤ m.toNat → lows x.cps.toList → Aft st H H' → Q (.str x) H'
end Sk

namespace Sk
open PySem PySem.Spec PyProof.Rows L2 Evl
theorem chs_new {K : PySem.W.Frag} {H : Hp} {st p : Addr} {xs : List V} {P : V → Prop} (s : Strm st H) (hp : H p = none) (hne : xs ≠ []) (hl : xs.length ≤ 100000) (h : ∀ v ∈ xs, P v) : Chs K (Hd st (upd H p (.lst xs))) (.ref p) P :=
  .inl ⟨p, xs, rfl, .inl (SqL.of (hd_of (s.ne hp) upd_same)), hne, hl, h⟩
theorem chs_str {K : PySem.W.Frag} {H : Hp} {z : Str} {P : V → Prop} (hne : z.cps.toList ≠ []) (hl : z.length ≤ 100000) (h : ∀ c ∈ z.cps.toList, P (.str ⟨#[c]⟩)) : Chs K H (.str z) P := .inr ⟨z, rfl, hne, hl, h⟩
/-- the two drawers, as the other defs call them -/
structure Drw (P : Program) (w : World) (K : PySem.W.Frag) (mg : Str → Option Value) (base : Heap) (fD fC : Addr) (dD dC : FuncData) : Prop where
  gD : FnOk P w K mg base CX0 1 fD dD ["stream", "size"] spDraw
  bD : Binds K dD ["stream", "size"] []
  kD : PySem.W.keepIn K (.ref fD) = true
  mD : mg "_law_draw" = some (.ref fD)
  gC : FnOk P w K mg base CX0 2 fC dC ["stream", "items"] (spChoose K)
  bC : Binds K dC ["stream", "items"] []
  kC : PySem.W.keepIn K (.ref fC) = true
  mC : mg "_law_choose" = some (.ref fC)
section
variable {P : Program} {w : World} {K : PySem.W.Frag} {mg : Str → Option Value} {base : Heap} {f fD fC : Addr} {fd dD dC : FuncData}
theorem isLow1 : ∀ c ∈ (Str.ofString "abcyz").cps.toList, 97 ≤ c ∧ c ≤ 122 := by decide +kernel
theorem isLow2 : ∀ c ∈ (Str.ofString "abcdefghijklmnopqrstuvwxyz").cps.toList, 97 ≤ c ∧ c ≤ 122 := by decide +kernel
theorem ok_word (F : Fun K "_law_word" "_law_word" sWord f fd) (D : Drw P w K mg base fD fC dD dC) (B : Blt mg) : FnOk P w K mg base CX0 3 f fd ["stream", "most"] spWord := by
  refine F.ok scWord (fun vs H Q E h => ?_) (fun cdv A outer s H vs Q E hr h => ?_)
  · obtain ⟨a, n, rfl, _⟩ := h
    rfl
  have nd := scWord.nd
  have hr1 : Room 1 _ := hr.mono (by decide)
  obtain ⟨st, m, rfl, hst, m0, m1, q⟩ := h
  refine ⟨_, pss_cons (ps_set (i := 2) nd rfl (Or.inl rfl) (pe_call D.gC hr rfl D.mC D.kC D.bC .nil pass0 (pa_cons (pv 0) (pa_cons (pe_lst (pa_cons pe_int (pa_cons pe_int (pa_cons pe_int (pa_cons (pv 1)
      (pa_cons (pe_call D.gD hr1 rfl D.mD D.kD D.bD .nil pass0 (pa_cons (pv 0) (pa_cons (pe_op op_add (pv 1) pe_int) pa_nil))) pa_nil)))))) pa_nil))))
    (pss_cons (ps_set (i := 3) nd rfl (Or.inr rfl) (pe_call D.gC hr rfl D.mC D.kC D.bC .nil pass0 (pa_cons (pv 0) (pa_cons (pe_lst (pa_cons pe_str (pa_cons pe_str pa_nil))) pa_nil))))
    (pss_one (ps_ret (pe_join pe_str (pe_lc (own := [("turn", 4)]) (g := gName 4) (tt := tYes) rfl nd (pi_range1 rfl B.range (pa_cons (pv 2) pa_nil)) (blkOk_by (N := ["stream", "most", "size", "letters", "turn"]) (sc := defScope sWord) (by decide +kernel))
      (fun _ _ _ _ _ => pg_name (i := 4) nd rfl (Or.inl rfl)) (fun _ _ _ _ _ => pts_nil) (fun _ _ _ _ _ => pe_call D.gC hr rfl D.mC D.kC D.bC .nil pass0 (pa_cons (pv 0) (pa_cons (pv 3) pa_nil)))))))), ?_⟩
  -- size
  refine ⟨_, rfl, _, rfl, _, rfl, _, rfl, _, _, rfl, rfl, st, _, rfl, hst, by omega, by omega, fun k H1 k0 k1 A1 => ?_⟩
  refine ⟨by show 5 ≤ sizeLine; decide, fun p np => ?_⟩
  refine ⟨st, _, fun v => ∃ i : Int, v = .int i ∧ 0 ≤ i ∧ i ≤ m, rfl, A1.sm.new np, chs_new A1.sm np (by simp) (by simp) ?_, fun v H2 hv A2 => ?_⟩
  · intro v hv
    simp only [List.mem_cons, List.not_mem_nil, or_false] at hv
    rcases hv with rfl | rfl | rfl | rfl | rfl
    · exact ⟨0, rfl, by omega, by omega⟩
    · exact ⟨1, rfl, by omega, by omega⟩
    · exact ⟨2, rfl, by omega, by omega⟩
    · exact ⟨m, rfl, by omega, by omega⟩
    · exact ⟨k, rfl, by omega, by omega⟩
  obtain ⟨size, rfl, s0, s1⟩ := hv
  have B2 : Aft st H H2 := (A1.new np).trans A2
  -- letters
  refine ⟨_, rfl, by show 2 ≤ sizeLine; decide, fun p2 np2 => ?_⟩
  refine ⟨st, _, fun v => ∃ z : Str, v = .str z ∧ z.cps.toList ≠ [] ∧ z.length ≤ 100000 ∧ lows z.cps.toList, rfl, B2.sm.new np2, chs_new B2.sm np2 (by simp) (by simp) ?_, fun v H3 hv A3 => ?_⟩
  · intro v hv
    simp only [List.mem_cons, List.not_mem_nil, or_false] at hv
    rcases hv with rfl | rfl
    · exact ⟨_, rfl, by decide +kernel, by decide +kernel, isLow1⟩
    · exact ⟨_, rfl, by decide +kernel, by decide +kernel, isLow2⟩
  obtain ⟨z, rfl, z0, z1, z2⟩ := hv
  have B3 : Aft st H H3 := (B2.new np2).trans A3
  -- the signs
  refine ⟨⟨_, rfl⟩, _, rfl, size, rfl, by omega, by omega, fun Dl hD => ?_⟩
  have nst : Dl ≠ st := B3.sm.ne hD
  have hDn : Hd st H3 Dl = none := by unfold Hd; rw [if_neg nst]; exact hD
  refine lc_range (lo := 0) (n := size.toNat) (fun i H' => Aft st H3 H' ∧ ∃ cs : List Nat, cs.length = i ∧ lows cs ∧ H' Dl = some (.lst ((cs.map one).map V.str))) ⟨(Aft.of B3.sm).new hD, [], rfl, (fun _ h => nomatch h), upd_same⟩ (fun i H' hi p => ?_) (fun H' p => ?_)
  · obtain ⟨pA, cs, c0, c1, c2⟩ := p
    refine ⟨rfl, tyes ?_⟩
    refine ⟨_, rfl, _, rfl, st, _, fun v => ∃ c : Nat, v = .str (one c) ∧ 97 ≤ c ∧ c ≤ 122, rfl, pA.sm, chs_str z0 z1 fun c hc => ⟨c, rfl, z2 c hc⟩, fun v H4 hv A4 => ?_⟩
    obtain ⟨c, rfl, c3⟩ := hv
    have at4 : H4 Dl = some (.lst ((cs.map one).map V.str)) := A4.at nst c2
    refine ⟨_, at4, ?_, ?_, cs ++ [c], ?_, ?_, ?_⟩
    · rw [List.length_map, List.length_map]
      exact small1000 (by omega)
    · exact (pA.trans A4).mut nst hDn
    · rw [List.length_append, c0]; rfl
    · intro x hx
      rcases List.mem_append.mp hx with hx | hx
      · exact c1 x hx
      · cases List.mem_singleton.mp hx
        exact c3
    · rw [upd_same, List.map_append, List.map_append]
      rfl
  · obtain ⟨pA, cs, c0, c1, c2⟩ := p
    have e0 : (Str.ofString "").length = 0 := rfl
    refine ⟨_, Dl, cs.map one, rfl, rfl, .inl (SqL.of c2), by rw [sum_one, e0]; omega, ?_⟩
    rw [TL.join_eq]
    have ee : (Str.ofString "") = Str.empty := rfl
    rw [ee]
    refine q _ H' ?_ ?_ (B3.trans pA)
    · have : (Str.join Str.empty (cs.map one)).length = (Str.join Str.empty (cs.map one)).cps.toList.length := by simp [Str.length]
      rw [this, join_one]
      omega
    · rw [join_one]
      exact c1
end
end Sk

namespace Sk
open PySem PySem.Spec PyProof.Rows L2 Evl
abbrev sVal : Stmt := topS 19
theorem scVal : FnScope ["stream", "depth", "kind", "some", "great", "amount", "parts", "found", "part", "turn"] ["stream", "depth"] (defScope sVal) := ⟨rfl, rfl, rfl, by decide +kernel, rfl, by decide +kernel, by decide +kernel⟩
def spVal (D : Nat) : Sp := fun vs H Q _ => ∃ (st : Addr) (d : Int), vs = [.ref st, .int d] ∧ Strm st H ∧ 1 ≤ d ∧ d ≤ D ∧
  ∀ (v : V) (t : PyData) (H' : Hp), Dq (Nw H H') v t → Gd false d.toNat t → Aft st H H' → Q v H'
theorem bt_min : bootBuiltins "min" = some (.builtin "min") := by decide +kernel
theorem bt_max : bootBuiltins "max" = some (.builtin "max") := by decide +kernel
def E00 : Hp := fun _ => none
theorem ex00 {H : Hp} : Ex E00 H := fun _ _ h => nomatch h
theorem lows_ok {x : Str} {m : Nat} (h : x.length ≤ m) (l : lows x.cps.toList) : okS m x := ⟨h, fun c hc => by have := l c hc; omega⟩
theorem okS_le {m n : Nat} {x : Str} (h : okS m x) (l : m ≤ n) : okS n x := ⟨Nat.le_trans h.1 l, h.2⟩
theorem okS_app {m n : Nat} {x y : Str} (h : okS m x) (g : okS n y) : okS (m + n) (x ++ y) := by
  refine ⟨?_, fun c hc => ?_⟩
  · rw [strLen_append]; have := h.1; have := g.1; omega
  · rw [tl_app] at hc
    exact (List.mem_append.mp hc).elim (h.2 c) (g.2 c)
theorem GdK.le {b : Bool} {n m k : Nat} {ds : List (PyData × PyData)} (g : GdK b n m ds) (l : m ≤ k) : GdK b n k ds := ⟨Nat.le_trans g.1 l, g.2⟩
/-- a way that holds whatever the test says, shared by two tests -/
theorem ite_share {p : Bool} {A B : Prop} (a : A) (b : p = false → A → B) : if p = true then A else B := by
  cases p with
  | true => rw [if_pos rfl]; exact a
  | false => rw [if_neg Bool.false_ne_true]; exact b rfl a
section
variable {P : Program} {w : World} {K : PySem.W.Frag} {mg : Str → Option Value} {base : Heap} {f fD fC fW : Addr} {fd dD dC dW : FuncData}
theorem ok_val0 {k : Nat} : FnOk P w K mg base CX0 k f fd ["stream", "depth"] (spVal 0) := by
  have no : ∀ vs H Q E, ¬ spVal 0 vs H Q E := fun vs H Q E ⟨_, _, _, _, h1, h2, _⟩ => by
    have h3 : ((0 : Nat) : Int) = 0 := rfl
    omega
  exact ⟨fun vs H Q E h => absurd h (no vs H Q E), fun A outer s H args us vs Q E _ _ _ _ h => absurd h (no vs H Q E)⟩
theorem ok_valS {k D : Nat} (hD5 : D ≤ 5) (F : Fun K "_law_any_value" "_law_any_value" sVal f fd) (bF : Binds K fd ["stream", "depth"] []) (mF : mg "_law_any_value" = some (.ref f)) (W : Drw P w K mg base fD fC dD dC) (B : Blt mg)
    (gW : FnOk P w K mg base CX0 3 fW dW ["stream", "most"] spWord) (bW : Binds K dW ["stream", "most"] []) (kW : PySem.W.keepIn K (.ref fW) = true) (mW : mg "_law_word" = some (.ref fW))
    (G : FnOk P w K mg base CX0 (k + 3) f fd ["stream", "depth"] (spVal D)) : FnOk P w K mg base CX0 (k + 4) f fd ["stream", "depth"] (spVal (D + 1)) := by
  refine F.ok scVal (fun vs H Q E h => ?_) (fun cdv A outer s H vs Q E hr h => ?_)
  · obtain ⟨a, n, rfl, _⟩ := h
    rfl
  have nd := scVal.nd
  have hu := hu_of hr
  have hr1 : Room 1 _ := hr.mono (by omega)
  have hr2 : Room 2 _ := hr.mono (by omega)
  have hr3 : Room 3 _ := hr.mono (by omega)
  obtain ⟨st, d, rfl, hst, d0, d1, q⟩ := h
  obtain ⟨n, hn⟩ : ∃ n, d.toNat = n + 1 := ⟨d.toNat - 1, by omega⟩
  rw [hn] at q
  refine ⟨_, pss_cons (ps_set (i := 2) nd rfl (Or.inl rfl) (pe_call W.gD hr1 rfl W.mD W.kD W.bD .nil pass0 (pa_cons (pv 0) (pa_cons pe_int pa_nil))))
    (pss_cons (ps_if (PW.pt (pw_or (pt_cmpR op_eq (pv 1) pe_int (nomark _)) (pw_or1 (pt_cmpR op_lt (pv 2) pe_int (nomark _)))))
      (pss_cons (ps_set (i := 3) nd rfl (Or.inl rfl) (pe_lst (pa_cons (pe_op op_powB pe_int pe_int) (pa_cons (pe_op op_sub pe_int (pe_op op_powB pe_int pe_int)) (pa_cons (pe_op op_sub (pe_op op_powB pe_int pe_int) pe_int) (pa_cons pe_int (pa_cons pe_int
          (pa_cons (pe_op op_sub pe_int pe_int) (pa_cons (pe_op op_sub pe_int pe_int) (pa_cons (pe_call W.gD hr1 rfl W.mD W.kD W.bD .nil pass0 (pa_cons (pv 0) (pa_cons (pe_op op_powB pe_int pe_int) pa_nil))) pa_nil))))))))))
      (pss_cons (ps_set (i := 4) nd rfl (Or.inl rfl) (pe_call W.gC hr2 rfl W.mC W.kC W.bC .nil pass0 (pa_cons (pv 0) (pa_cons (pv 3) pa_nil))))
      (pss_one (ps_ret (pe_call W.gC hr2 rfl W.mC W.kC W.bC .nil pass0 (pa_cons (pv 0) (pa_cons (pe_lst (pa_cons (pv 4) (pa_cons (pv 4) (pa_cons pe_bl (pa_cons pe_bl (pa_cons (pe_call gW hr3 rfl mW kW bW .nil pass0 (pa_cons (pv 0) (pa_cons pe_int pa_nil)))
          (pa_cons (pe_call gW hr3 rfl mW kW bW .nil pass0 (pa_cons (pv 0) (pa_cons pe_int pa_nil))) pa_nil))))))) pa_nil))))))) pss_nil)
    (pss_cons (ps_set (i := 5) nd rfl (Or.inl rfl) (pe_call W.gC hr2 rfl W.mC W.kC W.bC .nil pass0 (pa_cons (pv 0) (pa_cons (pe_lst (pa_cons pe_int (pa_cons pe_int (pa_cons pe_int (pa_cons pe_int (pa_cons pe_int
        (pa_cons (pe_call W.gD hr1 rfl W.mD W.kD W.bD .nil pass0 (pa_cons (pv 0) (pa_cons pe_int pa_nil))) pa_nil))))))) pa_nil))))
    (pss_cons (ps_if (pt_cmpR op_gt (pv 1) pe_int (nomark _)) (pss_one (ps_set (i := 5) nd rfl (Or.inl rfl) (pe_callB (call_min2 rfl) rfl B.min bt_min (pa_cons (pv 5) (pa_cons pe_int pa_nil))))) pss_nil)
    (pss_cons (ps_setLc (i := 6) (own := [("turn", 9)]) (g := gName 9) (tt := tYes) rfl nd rfl rfl (sw_true rfl rfl rfl (by decide +kernel)) (pi_range1 rfl B.range (pa_cons (pv 5) pa_nil))
        (blkOk_by (N := ["stream", "depth", "kind", "some", "great", "amount", "parts", "found", "part", "turn"]) (sc := defScope sVal) (by decide +kernel)) (fun _ _ _ _ _ => pg_name (i := 9) nd rfl (Or.inl rfl)) (fun _ _ _ _ _ => pts_nil)
        (fun _ _ _ _ _ => pe_call G hr rfl mF F.kp bF .nil pass0 (pa_cons (pv 0) (pa_cons (pe_op op_sub (pe_op op_sub (pv 1) pe_int) (pe_op op_mul (pe_call W.gD hr1 rfl W.mD W.kD W.bD .nil pass0 (pa_cons (pv 0) (pa_cons pe_int pa_nil)))
          (pe_callTy call_int1 rfl B.int bt_int (pa_cons (pe_cmpR op_gt (pv 1) pe_int (nomark _)) pa_nil)))) pa_nil))))
    (pss_cons (ps_if (pt_cmpR op_lt (pv 2) pe_int (nomark _)) (pss_one (ps_ret (pv 6))) pss_nil)
    (pss_cons (ps_set (i := 7) nd rfl (Or.inl rfl) pe_dnewK)
    (pss_cons (ps_for PassesOwn.never rfl (pi_list (pv 6)) (pg_name (i := 8) nd rfl (Or.inl rfl))
      (pss_one (ps_dput hu (pv 7) (pe_call W.gC hr2 rfl W.mC W.kC W.bC .nil pass0 (pa_cons (pv 0) (pa_cons (pe_lst (pa_cons pe_str (pa_cons pe_str (pa_cons pe_str (pa_cons pe_str
        (pa_cons (pe_op op_add_str (pe_call gW hr3 rfl mW kW bW .nil pass0 (pa_cons (pv 0) (pa_cons pe_int pa_nil))) pe_str) pa_nil)))))) pa_nil))) (pv 8) rfl)))
    (pss_one (ps_ret (pv 7)))))))))), ?_⟩
  have h9 : CPowB 10 9 := powB_small (by decide) (by decide) (by decide) (by decide)
  have e9 : (10 : Int) ^ (9 : Int).toNat = 1000000000 := by decide
  -- kind
  refine ⟨_, rfl, st, _, rfl, hst, by decide, by decide, fun kind H1 k0 k1 A1 => ?_⟩
  refine ⟨_, rfl, rfl, _, rfl, ite_share ?_ fun c1 a => ?_⟩
  -- the scalars
  · refine iteT ?_
    refine ⟨_, _, rfl, rfl, h9, _, _, rfl, rfl, h9, _, _, rfl, rfl, _, _, rfl, rfl, h9, _, _, rfl, rfl, _, _, rfl, rfl, _, _, rfl, rfl, _, rfl, _, _, rfl, rfl, h9, ?_⟩
    rw [e9]
    refine ⟨st, _, rfl, A1.sm, by decide, by decide, fun big H2 b0 b1 A2 => ?_⟩
    refine ⟨by show 8 ≤ sizeLine; decide, fun p np => ?_⟩
    have B2 := A1.trans A2
    refine ⟨_, rfl, _, rfl, st, _, fun v => ∃ i : Int, v = .int i ∧ -1000000000 ≤ i ∧ i ≤ 1000000000, rfl, A2.sm.new np, chs_new A2.sm np (by simp) (by simp) ?_, fun v H3 hv A3 => ?_⟩
    · intro v hv
      simp only [List.mem_cons, List.not_mem_nil, or_false] at hv
      rcases hv with rfl | rfl | rfl | rfl | rfl | rfl | rfl | rfl
      all_goals first | exact ⟨_, rfl, by decide, by decide⟩ | exact ⟨_, rfl, by omega, by omega⟩
    obtain ⟨great, rfl, g0, g1⟩ := hv
    have B3 := (B2.new np).trans A3
    refine ⟨_, rfl, _, rfl, _, rfl, _, rfl, st, 12, rfl, B3.sm, by decide, by decide, fun w1 H4 l1 m1 A4 => ?_⟩
    refine ⟨_, rfl, st, 4, rfl, A4.sm, by decide, by decide, fun w2 H5 l2 m2 A5 => ?_⟩
    refine ⟨by show 6 ≤ sizeLine; decide, fun p2 np2 => ?_⟩
    have B5 := (B3.trans A4).trans A5
    refine ⟨st, _, fun v => ∃ t, Dq E00 v t ∧ Gd false 1 t, rfl, B5.sm.new np2, chs_new B5.sm np2 (by simp) (by simp) ?_, fun v H6 hv A6 => ?_⟩
    · intro v hv
      simp only [List.mem_cons, List.not_mem_nil, or_false] at hv
      rcases hv with rfl | rfl | rfl | rfl | rfl | rfl
      · exact ⟨_, .int _, g0, g1⟩
      · exact ⟨_, .int _, g0, g1⟩
      · exact ⟨_, .bl _, trivial⟩
      · exact ⟨_, .bl _, trivial⟩
      · exact ⟨_, .str _, lows_ok l1 m1⟩
      · exact ⟨_, .str _, okS_le (lows_ok l2 m2) (by decide)⟩
    obtain ⟨t, t0, t1⟩ := hv
    exact q v t H6 (t0.mono ex00) (t1.le (by omega)) ((B5.new np2).trans A6)
  -- the others
  refine ⟨_, rfl, _, _, rfl, rfl, _, rfl, ite2 (fun _ => a) fun c2 => ?_⟩
  have dne : d ≠ 1 := fun z => (of_decide_eq_false c1) (by rw [z])
  refine ⟨_, rfl, _, rfl, st, 4, rfl, A1.sm, by decide, by decide, fun k4 H2 k40 k41 A2 => ?_⟩
  refine ⟨by show 6 ≤ sizeLine; decide, fun p np => ?_⟩
  have B2 := A1.trans A2
  refine ⟨st, _, fun v => ∃ i : Int, v = .int i ∧ 0 ≤ i ∧ i ≤ 8, rfl, B2.sm.new np, chs_new B2.sm np (by simp) (by simp) ?_, fun v H3 hv A3 => ?_⟩
  · intro v hv
    simp only [List.mem_cons, List.not_mem_nil, or_false] at hv
    rcases hv with rfl | rfl | rfl | rfl | rfl | rfl
    all_goals first | exact ⟨_, rfl, by decide, by decide⟩ | exact ⟨_, rfl, by omega, by omega⟩
  obtain ⟨am0, rfl, a0, a1⟩ := hv
  have B3 := (B2.new np).trans A3
  refine ⟨_, rfl, _, _, rfl, rfl, _, rfl, ite2 (fun c3 => ?_) (fun c3 => ?_)⟩
  · refine ⟨_, rfl, _, _, rfl, ?_⟩
    have hb : 0 ≤ (if (2 : Int) < am0 then (2 : Int) else am0) ∧ (if (2 : Int) < am0 then (2 : Int) else am0) ≤ 8 := by split <;> omega
    generalize hm : (if (2 : Int) < am0 then (2 : Int) else am0) = am at hb ⊢
    clear hm
    obtain ⟨m0, m1⟩ := hb
    revert m0 m1
    revert am
    exact fun am m0 m1 => by
      -- the parts
      refine ⟨_, rfl, _, rfl, by omega, by omega, fun Dl hD => ?_⟩
      have nst : Dl ≠ st := B3.sm.ne hD
      have hDn : Hd st H3 Dl = none := by unfold Hd; rw [if_neg nst]; exact hD
      have G0s : Strm st (upd H3 Dl (.lst [])) := B3.sm.new hD
      refine lc_range (lo := 0) (fun i H' => Aft st H3 H' ∧ (∀ a, H' a = none → (upd H3 Dl (.lst [])) a = none) ∧ ∃ vs ts, vs.length = i ∧ DqAll (Nw (upd H3 Dl (.lst [])) H') vs ts ∧ (∀ t ∈ ts, Gd false n t) ∧ H' Dl = some (.lst vs)) ⟨(Aft.of B3.sm).new hD, (fun _ z => z), [], [], rfl, .nil, (fun _ h => nomatch h), upd_same⟩ (fun i H' hi p => ?_) (fun H' p => ?_)
      · obtain ⟨pA, pD, vs, ts, c0, c4, c5, c6⟩ := p
        refine ⟨rfl, tyes ?_⟩
        refine ⟨_, rfl, _, rfl, _, _, rfl, rfl, _, rfl, st, 2, rfl, pA.sm, by decide, by decide, fun kk H4 kk0 kk1 A4 => ?_⟩
        refine ⟨_, rfl, _, _, rfl, rfl, .inr ⟨_, rfl, ?_⟩⟩
        have hd1 : d - 1 ≤ (D : Int) := by
          have : ((D + 1 : Nat) : Int) = (D : Int) + 1 := rfl
          omega
        have hprod : 0 ≤ kk * (if decide (2 < d) = true then (1 : Int) else 0) ∧ kk * (if decide (2 < d) = true then (1 : Int) else 0) ≤ d - 2 := by
          by_cases z : 2 < d
          · rw [if_pos (decide_eq_true z)]; omega
          · rw [if_neg (by simpa using z)]; omega
        refine ⟨_, _, rfl, rfl, .inl ⟨by omega, by omega⟩, _, _, rfl, rfl, ?_⟩
        refine ⟨st, _, rfl, A4.sm, by omega, by omega, fun v t H5 q1 q2 A5 => ?_⟩
        have A45 := A4.trans A5
        refine ⟨_, A45.at nst c6, by rw [c0]; exact small1000 (by omega), (pA.trans A45).mut nst hDn, fun a z => pD a (A45.none (upd_none z)), vs ++ [v], ts ++ [t], by rw [List.length_append, c0]; rfl, ?_, ?_, upd_same⟩
        · rw [nw_upd (u := .lst []) upd_same]
          exact (c4.mono (nw_aft G0s A45)).snoc (q1.mono (nw_back fun a z => pD a (A4.none z)))
        · intro z hz
          rcases List.mem_append.mp hz with hz | hz
          · exact c5 z hz
          · cases List.mem_singleton.mp hz
            exact q2.le (by omega)
      obtain ⟨pA, pD, vs, ts, c0, c4, c5, c6⟩ := p
      have C3 := B3.trans pA
      have hDl0 : H Dl = none := B3.none hD
      have up3 : ∀ a, (upd H3 Dl (.lst [])) a = none → H a = none := fun a z => B3.none (upd_none z)
      refine ⟨_, rfl, _, _, rfl, rfl, _, rfl, ite2 (fun c6k => ?_) (fun c6k => ?_)⟩
      · refine ⟨_, rfl, q _ (.list ts) H' (.lst (nw_of hDl0 c6) (c4.mono (nw_back up3))) ⟨by rw [← c4.length]; omega, c5⟩ C3⟩
      -- the record
      intro Fa hF
      have fst : Fa ≠ st := C3.sm.ne hF
      have hFn : Hd st H' Fa = none := by unfold Hd; rw [if_neg fst]; exact hF
      have FDl : Dl ≠ Fa := ne_of_none c6 hF
      refine ⟨_, rfl, Dl, rfl, ⟨vs, SqL.of (by rw [upd_ne FDl]; exact c6)⟩, for_list (xs := vs) (fun i σ H6 => (∃ y, σ = [some (.ref st), some (.int d), some (.int kind), none, none, some (.int _), some (.ref Dl), some (.ref Fa), y, none]) ∧ Aft st H' H6 ∧
        ∃ kvs ds, H6 Fa = some (.dK kvs) ∧ DqKv (Nw (upd H3 Dl (.lst [])) H') kvs ds ∧ GdK false n i ds) ⟨⟨none, rfl⟩, (Aft.of pA.sm).new hF, [], [], upd_same, .nil, .nil⟩ (fun i σ H6 _ p => SqL.of (p.2.1.at nst c6)) (fun i x σ H6 hx p => ?_) (fun σ H6 p => ?_)⟩
      · obtain ⟨⟨y, rfl⟩, pA6, kvs, ds, r0, r1, r2⟩ := p
        have hi := (List.getElem?_eq_some_iff.mp hx).1
        obtain ⟨t, ht, hq⟩ := c4.get hx
        refine ⟨_, rfl, _, rfl, _, rfl, _, rfl, st, 7, rfl, pA6.sm, by decide, by decide, fun w1 H7 l1 m1 A7 => ?_⟩
        have ec : (Str.ofString "c").length = 1 := rfl
        have l7 : w1.length ≤ 7 := l1
        refine ⟨_, _, rfl, rfl, line_le (by rw [ec]; omega), by show 5 ≤ sizeLine; decide, fun p np => ?_⟩
        refine ⟨st, _, fun v => ∃ k : Str, v = .str k ∧ okS 8 k, rfl, A7.sm.new np, chs_new A7.sm np (by simp) (by simp) ?_, fun v H8 hv A8 => ?_⟩
        · intro v hv
          simp only [List.mem_cons, List.not_mem_nil, or_false] at hv
          rcases hv with rfl | rfl | rfl | rfl | rfl
          · exact ⟨_, rfl, by decide +kernel, by decide +kernel⟩
          · exact ⟨_, rfl, by decide +kernel, by decide +kernel⟩
          · exact ⟨_, rfl, by decide +kernel, by decide +kernel⟩
          · exact ⟨_, rfl, by decide +kernel, by decide +kernel⟩
          · exact ⟨_, rfl, okS_app (lows_ok l7 m1) (show okS 1 "c" from ⟨by decide +kernel, by decide +kernel⟩)⟩
        obtain ⟨key, rfl, hk⟩ := hv
        have A78 := (A7.new np).trans A8
        have r8 := A78.at fst r0
        have hlen := r1.length
        have hds := r2.1
        refine ⟨Fa, _, rfl, DPut.k (k := .inr key) r8 (small1000 (by omega)), ⟨some x, rfl⟩, (pA6.trans A78).mut fst hFn, _, _, upd_same, r1.put hq, r2.put hk (c5 t (List.mem_of_getElem? ht))⟩
      · obtain ⟨⟨y, rfl⟩, pA6, kvs, ds, r0, r1, r2⟩ := p
        have r3 := r2.le (show vs.length ≤ 8 by omega)
        have n0 : n ≠ 0 := by omega
        refine ⟨_, rfl, q _ (.dict ds) H6 (.dct (nw_of (C3.none hF) r0) ((r1.mono (nw_aft G0s pA6)).mono (nw_back up3))) ⟨r3.1, r3.2.1, r3.2.2, fun z => absurd z n0⟩ (C3.trans pA6)⟩

  · exact (by
      have m0 := a0
      have m1 := a1
      -- the parts
      refine ⟨_, rfl, _, rfl, by omega, by omega, fun Dl hD => ?_⟩
      have nst : Dl ≠ st := B3.sm.ne hD
      have hDn : Hd st H3 Dl = none := by unfold Hd; rw [if_neg nst]; exact hD
      have G0s : Strm st (upd H3 Dl (.lst [])) := B3.sm.new hD
      refine lc_range (lo := 0) (fun i H' => Aft st H3 H' ∧ (∀ a, H' a = none → (upd H3 Dl (.lst [])) a = none) ∧ ∃ vs ts, vs.length = i ∧ DqAll (Nw (upd H3 Dl (.lst [])) H') vs ts ∧ (∀ t ∈ ts, Gd false n t) ∧ H' Dl = some (.lst vs)) ⟨(Aft.of B3.sm).new hD, (fun _ z => z), [], [], rfl, .nil, (fun _ h => nomatch h), upd_same⟩ (fun i H' hi p => ?_) (fun H' p => ?_)
      · obtain ⟨pA, pD, vs, ts, c0, c4, c5, c6⟩ := p
        refine ⟨rfl, tyes ?_⟩
        refine ⟨_, rfl, _, rfl, _, _, rfl, rfl, _, rfl, st, 2, rfl, pA.sm, by decide, by decide, fun kk H4 kk0 kk1 A4 => ?_⟩
        refine ⟨_, rfl, _, _, rfl, rfl, .inr ⟨_, rfl, ?_⟩⟩
        have hd1 : d - 1 ≤ (D : Int) := by
          have : ((D + 1 : Nat) : Int) = (D : Int) + 1 := rfl
          omega
        have hprod : 0 ≤ kk * (if decide (2 < d) = true then (1 : Int) else 0) ∧ kk * (if decide (2 < d) = true then (1 : Int) else 0) ≤ d - 2 := by
          by_cases z : 2 < d
          · rw [if_pos (decide_eq_true z)]; omega
          · rw [if_neg (by simpa using z)]; omega
        refine ⟨_, _, rfl, rfl, .inl ⟨by omega, by omega⟩, _, _, rfl, rfl, ?_⟩
        refine ⟨st, _, rfl, A4.sm, by omega, by omega, fun v t H5 q1 q2 A5 => ?_⟩
        have A45 := A4.trans A5
        refine ⟨_, A45.at nst c6, by rw [c0]; exact small1000 (by omega), (pA.trans A45).mut nst hDn, fun a z => pD a (A45.none (upd_none z)), vs ++ [v], ts ++ [t], by rw [List.length_append, c0]; rfl, ?_, ?_, upd_same⟩
        · rw [nw_upd (u := .lst []) upd_same]
          exact (c4.mono (nw_aft G0s A45)).snoc (q1.mono (nw_back fun a z => pD a (A4.none z)))
        · intro z hz
          rcases List.mem_append.mp hz with hz | hz
          · exact c5 z hz
          · cases List.mem_singleton.mp hz
            exact q2.le (by omega)
      obtain ⟨pA, pD, vs, ts, c0, c4, c5, c6⟩ := p
      have C3 := B3.trans pA
      have hDl0 : H Dl = none := B3.none hD
      have up3 : ∀ a, (upd H3 Dl (.lst [])) a = none → H a = none := fun a z => B3.none (upd_none z)
      refine ⟨_, rfl, _, _, rfl, rfl, _, rfl, ite2 (fun c6k => ?_) (fun c6k => ?_)⟩
      · refine ⟨_, rfl, q _ (.list ts) H' (.lst (nw_of hDl0 c6) (c4.mono (nw_back up3))) ⟨by rw [← c4.length]; omega, c5⟩ C3⟩
      -- the record
      intro Fa hF
      have fst : Fa ≠ st := C3.sm.ne hF
      have hFn : Hd st H' Fa = none := by unfold Hd; rw [if_neg fst]; exact hF
      have FDl : Dl ≠ Fa := ne_of_none c6 hF
      refine ⟨_, rfl, Dl, rfl, ⟨vs, SqL.of (by rw [upd_ne FDl]; exact c6)⟩, for_list (xs := vs) (fun i σ H6 => (∃ y, σ = [some (.ref st), some (.int d), some (.int kind), none, none, some (.int _), some (.ref Dl), some (.ref Fa), y, none]) ∧ Aft st H' H6 ∧
        ∃ kvs ds, H6 Fa = some (.dK kvs) ∧ DqKv (Nw (upd H3 Dl (.lst [])) H') kvs ds ∧ GdK false n i ds) ⟨⟨none, rfl⟩, (Aft.of pA.sm).new hF, [], [], upd_same, .nil, .nil⟩ (fun i σ H6 _ p => SqL.of (p.2.1.at nst c6)) (fun i x σ H6 hx p => ?_) (fun σ H6 p => ?_)⟩
      · obtain ⟨⟨y, rfl⟩, pA6, kvs, ds, r0, r1, r2⟩ := p
        have hi := (List.getElem?_eq_some_iff.mp hx).1
        obtain ⟨t, ht, hq⟩ := c4.get hx
        refine ⟨_, rfl, _, rfl, _, rfl, _, rfl, st, 7, rfl, pA6.sm, by decide, by decide, fun w1 H7 l1 m1 A7 => ?_⟩
        have ec : (Str.ofString "c").length = 1 := rfl
        have l7 : w1.length ≤ 7 := l1
        refine ⟨_, _, rfl, rfl, line_le (by rw [ec]; omega), by show 5 ≤ sizeLine; decide, fun p np => ?_⟩
        refine ⟨st, _, fun v => ∃ k : Str, v = .str k ∧ okS 8 k, rfl, A7.sm.new np, chs_new A7.sm np (by simp) (by simp) ?_, fun v H8 hv A8 => ?_⟩
        · intro v hv
          simp only [List.mem_cons, List.not_mem_nil, or_false] at hv
          rcases hv with rfl | rfl | rfl | rfl | rfl
          · exact ⟨_, rfl, by decide +kernel, by decide +kernel⟩
          · exact ⟨_, rfl, by decide +kernel, by decide +kernel⟩
          · exact ⟨_, rfl, by decide +kernel, by decide +kernel⟩
          · exact ⟨_, rfl, by decide +kernel, by decide +kernel⟩
          · exact ⟨_, rfl, okS_app (lows_ok l7 m1) (show okS 1 "c" from ⟨by decide +kernel, by decide +kernel⟩)⟩
        obtain ⟨key, rfl, hk⟩ := hv
        have A78 := (A7.new np).trans A8
        have r8 := A78.at fst r0
        have hlen := r1.length
        have hds := r2.1
        refine ⟨Fa, _, rfl, DPut.k (k := .inr key) r8 (small1000 (by omega)), ⟨some x, rfl⟩, (pA6.trans A78).mut fst hFn, _, _, upd_same, r1.put hq, r2.put hk (c5 t (List.mem_of_getElem? ht))⟩
      · obtain ⟨⟨y, rfl⟩, pA6, kvs, ds, r0, r1, r2⟩ := p
        have r3 := r2.le (show vs.length ≤ 8 by omega)
        have n0 : n ≠ 0 := by omega
        refine ⟨_, rfl, q _ (.dict ds) H6 (.dct (nw_of (C3.none hF) r0) ((r1.mono (nw_aft G0s pA6)).mono (nw_back up3))) ⟨r3.1, r3.2.1, r3.2.2, fun z => absurd z n0⟩ (C3.trans pA6)⟩)
theorem ok_val (F : Fun K "_law_any_value" "_law_any_value" sVal f fd) (bF : Binds K fd ["stream", "depth"] []) (mF : mg "_law_any_value" = some (.ref f)) (W : Drw P w K mg base fD fC dD dC) (B : Blt mg)
    (gW : FnOk P w K mg base CX0 3 fW dW ["stream", "most"] spWord) (bW : Binds K dW ["stream", "most"] []) (kW : PySem.W.keepIn K (.ref fW) = true) (mW : mg "_law_word" = some (.ref fW)) :
    ∀ n : Nat, n ≤ 6 → FnOk P w K mg base CX0 (n + 3) f fd ["stream", "depth"] (spVal n)
  | 0, _ => ok_val0
  | n + 1, h => ok_valS (by omega) F bF mF W B gW bW kW mW (ok_val F bF mF W B gW bW kW mW n (by omega))
end
end Sk

namespace Sk
open PySem PySem.Spec PyProof.Rows L2 Evl
abbrev sWhole : Stmt := topS 7
abbrev sLet : Stmt := topS 8
abbrev sName : Stmt := topS 9
abbrev sIsV : Stmt := topS 10
abbrev sVW : Stmt := topS 11
abbrev sVsW : Stmt := topS 12
abbrev sNms : Stmt := topS 13
theorem scWhole : FnScope ["thing"] ["thing"] (defScope sWhole) := ⟨rfl, rfl, rfl, by decide +kernel, rfl, by decide +kernel, by decide +kernel⟩
theorem scLet : FnScope ["thing", "most", "sign"] ["thing", "most"] (defScope sLet) := ⟨rfl, rfl, rfl, by decide +kernel, rfl, by decide +kernel, by decide +kernel⟩
theorem scName : FnScope ["thing"] ["thing"] (defScope sName) := ⟨rfl, rfl, rfl, by decide +kernel, rfl, by decide +kernel, by decide +kernel⟩
theorem scIsV : FnScope ["thing"] ["thing"] (defScope sIsV) := ⟨rfl, rfl, rfl, by decide +kernel, rfl, by decide +kernel, by decide +kernel⟩
theorem scVW : FnScope ["thing", "depth"] ["thing", "depth"] (defScope sVW) := ⟨rfl, rfl, rfl, by decide +kernel, rfl, by decide +kernel, by decide +kernel⟩
theorem scVsW : FnScope ["things", "depth", "thing"] ["things", "depth"] (defScope sVsW) := ⟨rfl, rfl, rfl, by decide +kernel, rfl, by decide +kernel, by decide +kernel⟩
theorem scNms : FnScope ["things", "thing"] ["things"] (defScope sNms) := ⟨rfl, rfl, rfl, by decide +kernel, rfl, by decide +kernel, by decide +kernel⟩
/-! ### what is a value -/
def lowB (c : Nat) : Bool := decide (97 ≤ c) && decide (c ≤ 122)
def okb (m : Nat) (x : Str) : Bool := decide (x.length ≤ m) && x.cps.toList.all lowB
def letB (m : Nat) : PyData → Bool
  | .str x => okb m x
  | _ => false
def nameB : PyData → Bool
  | .str x => okb 8 x && !decide (V.str x = V.str "")
  | _ => false
def goodB : Nat → PyData → Bool
  | 0, _ => false
  | _ + 1, .bool _ => true
  | _ + 1, .int i => decide (-1000000000 ≤ i) && decide (i ≤ 1000000000)
  | _ + 1, .str x => okb 12 x
  | n + 1, .list xs => decide (xs.length ≤ 8) && xs.all (goodB n)
  | n + 1, .dict kvs => decide (kvs.length ≤ 8) && (kvs.all (fun p => nameB p.1) && kvs.all (fun p => goodB n p.2))
  | _ + 1, _ => false
def abc : Str := "abcdefghijklmnopqrstuvwxyz"
theorem abc_mem (c : Nat) : decide (c ∈ abc.cps.toList) = lowB c := by
  have e : abc.cps.toList = (List.range 26).map (97 + ·) := by decide +kernel
  rw [e]
  unfold lowB
  rw [← Bool.decide_and]
  refine decide_eq_decide.mpr ?_
  simp only [List.mem_map, List.mem_range]
  constructor
  · rintro ⟨a, h, rfl⟩
    omega
  · intro h
    exact ⟨c - 97, by omega, by omega⟩
structure Glb (mg : Str → Option Value) : Prop where
  letters : ∃ t, mg "LETTERS" = some (.str abc t)
  great : ∃ t, mg "GREATEST_INTEGER" = some (.int 1000000000 t)
  lstr : ∃ t, mg "LONGEST_STRING" = some (.int 12 t)
  lname : ∃ t, mg "LONGEST_NAME" = some (.int 8 t)
  parts : ∃ t, mg "MOST_PARTS" = some (.int 8 t)
  depth : ∃ t, mg "GREATEST_DEPTH" = some (.int 6 t)
def spLet : Sp := fun vs H Q _ => ∃ v d m, vs = [v, .int ((m : Nat) : Int)] ∧ Dt H v d ∧ Q (.bl (letB m d)) H
def spName : Sp := fun vs H Q _ => ∃ v d, vs = [v] ∧ Dt H v d ∧ Q (.bl (nameB d)) H
def spWhole : Sp := fun vs H Q _ => ∃ v d, vs = [v] ∧ Dt H v d ∧ Q (.bl (match d with | .int _ => true | _ => false)) H
def spNms : Sp := fun vs H Q _ => ∃ v ds, vs = [v] ∧ Dt H v (.dict ds) ∧ Q (.bl (decide (ds.length ≤ 8) && ds.all fun p => nameB p.1)) H
theorem kitStr (d : PyData) : kitB (tyD d) "str" = some (match d with | .str _ => true | _ => false) := by
  cases d <;> first | exact kbs | exact kis | exact kss | exact kls | exact kds | exact kts | decide +kernel
section
variable {P : Program} {w : World} {K : PySem.W.Frag} {mg : Str → Option Value} {base : Heap} {f f1 f2 : Addr} {fd d1 d2 : FuncData}
theorem ok_let {k : Nat} (F : Fun K "is_letters" "is_letters" sLet f fd) (B : Blt mg) (G : Glb mg) : FnOk P w K mg base CX0 (k + 1) f fd ["thing", "most"] spLet := by
  refine F.ok scLet (fun vs H Q E h => ?_) (fun cdv A outer s H vs Q E hr h => ?_)
  · obtain ⟨a, b, c, rfl, _⟩ := h
    rfl
  have nd := scLet.nd
  obtain ⟨t, gl⟩ := G.letters
  obtain ⟨v, d, m, rfl, hd, q⟩ := h
  refine ⟨_, pss_cons (ps_if (PW.pt (pw_or (pt_not (pt_val (pe_callB call_isT rfl B.isi bt_isi (pa_cons (pv 0) (pa_cons (pe_bltn (v := .ty "str") rfl B.str bt_str rfl) pa_nil))))) (pw_or1 (pt_cmpR op_gt (pe_callB call_len_str rfl B.len PySem.boot_len (pa_cons (pv 0) pa_nil)) (pv 1) (nomark _))))) (pss_one (ps_ret pe_bl)) pss_nil)
    (pss_cons (ps_for PassesOwn.never rfl (pi_str (pv 0)) (pg_name (i := 2) nd rfl (Or.inl rfl)) (pss_one (ps_if (pt_cmpR op_notIn_sign (pv 2) (pe_glob (v := .str abc) rfl gl ⟨_, rfl⟩) (by with_unfolding_all rfl)) (pss_one (ps_ret pe_bl)) pss_nil)))
    (pss_one (ps_ret pe_bl))), ?_⟩
  have hk := kitStr d
  refine ⟨_, rfl, v, "str", d, _, rfl, hd, hk, _, rfl, ?_⟩
  cases hd with
  | str x hx =>
    refine iteF ?_
    refine ⟨_, rfl, x, rfl, Nat.le_trans hx (by decide), _, rfl, _, _, rfl, rfl, _, rfl, ite2 (fun c => ?_) (fun c => ?_)⟩
    · have c' : ((m : Nat) : Int) < (x.length : Int) := of_decide_eq_true c
      have e : letB m (.str x) = false := by
        show (decide (x.length ≤ m) && _) = false
        rw [decide_eq_false (by omega)]
        rfl
      rw [e] at q
      exact q
    · have c' : ¬ ((m : Nat) : Int) < (x.length : Int) := fun z => c (decide_eq_true z)
      have e : letB m (.str x) = x.cps.toList.all lowB := by
        show (decide (x.length ≤ m) && _) = _
        rw [decide_eq_true (by omega), Bool.true_and]
      rw [e] at q
      refine ⟨_, rfl, x, rfl, for_it walk_str (fun i σ H' => H' = H ∧ ∃ y, σ = [some (.str x), some (.int (m : Nat)), y] ∧ ∀ c ∈ x.cps.toList.take i, lowB c = true) ⟨rfl, none, rfl, by simp⟩ (fun _ _ _ _ _ => trivial) (fun i y σ H1 H2 hi p w => ?_) (fun σ H1 p => ?_)⟩
      · obtain ⟨rfl, y', rfl, hp⟩ := p
        obtain ⟨rfl, c, hc, rfl⟩ := w
        refine ⟨_, rfl, c, abc, rfl, rfl, _, rfl, ite2 (fun z => ?_) (fun z => ?_)⟩
        · rw [abc_mem] at z
          have e2 : x.cps.toList.all lowB = false := by
            cases h : x.cps.toList.all lowB with
            | false => rfl
            | true =>
              have := List.all_eq_true.mp h c (by
                have := Array.mem_of_getElem? hc
                simpa using this)
              rw [this] at z
              exact absurd z (by decide)
          rw [e2] at q
          exact q
        · rw [abc_mem] at z
          have hl : lowB c = true := by
            cases h : lowB c with
            | true => rfl
            | false => rw [h] at z; exact absurd rfl z
          refine ⟨rfl, _, rfl, fun c' m' => ?_⟩
          rw [take_snoc (x := c) (by rw [← hc]; simp)] at m'
          rcases List.mem_append.mp m' with m' | m'
          · exact hp c' m'
          · cases List.mem_singleton.mp m'
            exact hl
      · obtain ⟨rfl, y', rfl, hp⟩ := p
        have e2 : x.cps.toList.all lowB = true := List.all_eq_true.mpr fun c hc => hp c (by
          have : x.cps.size = x.cps.toList.length := by simp
          rw [this, List.take_length]; exact hc)
        rw [e2] at q
        exact q
  | _ => exact iteT (iteT q)
end
end Sk

namespace Sk
open PySem PySem.Spec PyProof.Rows L2 Evl
theorem kitInt (d : PyData) : kitB (tyD d) "int" = some (match d with | .int _ => true | .bool _ => true | _ => false) := by
  cases d <;> first | exact kbi | exact kii | exact ksi | exact kli | exact kdi | exact kti | decide +kernel
theorem kitBool (d : PyData) : kitB (tyD d) "bool" = some (match d with | .bool _ => true | _ => false) := by
  cases d <;> first | exact kbb | exact kib | exact ksb | exact klb | exact kdb | exact ktb | decide +kernel
theorem kitList (d : PyData) : kitB (tyD d) "list" = some (match d with | .list _ => true | _ => false) := by
  cases d <;> first | exact kbl | exact kil | exact ksl | exact kll | exact kdl | exact ktl | decide +kernel
theorem kitDict (d : PyData) : kitB (tyD d) "dict" = some (match d with | .dict _ => true | _ => false) := by
  cases d <;> first | exact kbd | exact kid | exact ksd | exact kld | exact kdd | exact ktd | decide +kernel
theorem upd_id {H : Hp} {a : Addr} {o : HO} (h : H a = some o) : upd H a o = H := by
  funext b
  unfold upd
  split
  · rename_i e; rw [e, h]
  · rfl
/-- what the defs of the program need of one another -/
structure Lt (P : Program) (w : World) (K : PySem.W.Frag) (mg : Str → Option Value) (base : Heap) (f : Addr) (fd : FuncData) (x : Str) (ps : List Str) (k : Nat) (sp : Sp) : Prop where
  g : FnOk P w K mg base CX0 k f fd ps sp
  b : Binds K fd ps []
  k : PySem.W.keepIn K (.ref f) = true
  m : mg x = some (.ref f)
section
variable {P : Program} {w : World} {K : PySem.W.Frag} {mg : Str → Option Value} {base : Heap} {f f1 f2 : Addr} {fd d1 d2 : FuncData}
theorem ok_name (F : Fun K "is_name" "is_name" sName f fd) (G : Glb mg) (L : Lt P w K mg base f1 d1 "is_letters" ["thing", "most"] 1 spLet) : FnOk P w K mg base CX0 2 f fd ["thing"] spName := by
  refine F.ok scName (fun vs H Q E h => ?_) (fun cdv A outer s H vs Q E hr h => ?_)
  · obtain ⟨a, b, rfl, _⟩ := h
    rfl
  have nd := scName.nd
  obtain ⟨t, gl⟩ := G.lname
  obtain ⟨v, d, rfl, hd, q⟩ := h
  refine ⟨_, pss_one (ps_ret (pe_and (pe_call L.g hr rfl L.m L.k L.b .nil pass0 (pa_cons (pv 0) (pa_cons (pe_glob (v := .int 8) rfl gl ⟨_, rfl⟩) pa_nil))) (pe_one (pe_cmpR op_ne (pv 0) pe_str (nomark _))))), ?_⟩
  refine ⟨_, rfl, v, d, 8, rfl, hd, _, rfl, ?_⟩
  cases hd with
  | str x hx =>
    have e : letB 8 (.str x) = okb 8 x := rfl
    rw [e]
    have e2 : nameB (.str x) = (okb 8 x && !decide (V.str x = V.str "")) := rfl
    rw [e2] at q
    cases h : okb 8 x with
    | false =>
      rw [h] at q
      exact iteF q
    | true =>
      rw [h] at q
      exact iteT ⟨_, rfl, rfl, q⟩
  | _ => exact iteF q
theorem ok_whole (F : Fun K "is_whole" "is_whole" sWhole f fd) (B : Blt mg) : FnOk P w K mg base CX0 1 f fd ["thing"] spWhole := by
  refine F.ok scWhole (fun vs H Q E h => ?_) (fun cdv A outer s H vs Q E hr h => ?_)
  · obtain ⟨a, b, rfl, _⟩ := h
    rfl
  have nd := scWhole.nd
  obtain ⟨v, d, rfl, hd, q⟩ := h
  refine ⟨_, pss_one (ps_ret (pe_and (pe_callB call_isT rfl B.isi bt_isi (pa_cons (pv 0) (pa_cons (pe_bltn (v := .ty "int") rfl B.int bt_int rfl) pa_nil))) (pe_one (pe_not (pe_callB call_isT rfl B.isi bt_isi (pa_cons (pv 0) (pa_cons (pe_bltn (v := .ty "bool") rfl B.bool bt_bool rfl) pa_nil))))))), ?_⟩
  have h1 := kitInt d
  have h2 := kitBool d
  refine ⟨_, rfl, v, "int", d, _, rfl, hd, h1, _, rfl, ?_⟩
  cases d with
  | int i => exact iteT ⟨_, rfl, v, "bool", _, _, rfl, hd, h2, _, rfl, q⟩
  | bool b => exact iteT ⟨_, rfl, v, "bool", _, _, rfl, hd, h2, _, rfl, q⟩
  | _ => exact iteF q
theorem ok_nms {k : Nat} (F : Fun K "are_names" "are_names" sNms f fd) (B : Blt mg) (G : Glb mg) (L : Lt P w K mg base f1 d1 "is_name" ["thing"] 2 spName) : FnOk P w K mg base CX0 3 f fd ["things"] spNms := by
  refine F.ok scNms (fun vs H Q E h => ?_) (fun cdv A outer s H vs Q E hr h => ?_)
  · obtain ⟨a, b, rfl, _⟩ := h
    rfl
  have nd := scNms.nd
  obtain ⟨t, gl⟩ := G.parts
  obtain ⟨v, ds, rfl, hd, q⟩ := h
  refine ⟨_, pss_cons (ps_if (pt_cmpR op_gt (pe_callB (call_lenD.or call_lenN) rfl B.len PySem.boot_len (pa_cons (pv 0) pa_nil)) (pe_glob (v := .int 8) rfl gl ⟨_, rfl⟩) (nomark _)) (pss_one (ps_ret pe_bl)) pss_nil)
    (pss_cons (PS.or (ps_lock (ps_for PassesOwn.never rfl (pi_keys (pv 0)) (pg_name (i := 1) nd rfl (Or.inl rfl)) (pss_one (ps_if (pt_not (pt_val (pe_call L.g hr rfl L.m L.k L.b .nil pass0 (pa_cons (pv 1) pa_nil)))) (pss_one (ps_ret pe_bl)) pss_nil))))
        (ps_for PassesOwn.never rfl (pi_none (pv 0)) (pg_name (i := 1) nd rfl (Or.inl rfl)) (pss_one (ps_if (pt_not (pt_val (pe_call L.g hr rfl L.m L.k L.b .nil pass0 (pa_cons (pv 1) pa_nil)))) (pss_one (ps_ret pe_bl)) pss_nil))))
    (pss_one (ps_ret pe_bl))), ?_⟩
  refine ⟨_, rfl, ?_⟩
  cases hd with
  | dct e nd' r =>
    rename_i a kvs
    refine .inl ⟨a, kvs, rfl, e, _, _, rfl, rfl, _, rfl, ite2 (fun c => ?_) (fun c => ?_)⟩
    · have c' : (8 : Int) < (kvs.length : Int) := of_decide_eq_true c
      rw [r.length] at c'
      rw [decide_eq_false (by omega)] at q
      exact q
    · have c' : ¬ (8 : Int) < (kvs.length : Int) := fun z => c (decide_eq_true z)
      rw [r.length] at c'
      rw [decide_eq_true (show ds.length ≤ 8 by omega), Bool.true_and] at q
      refine .inl ⟨a, .dK kvs, e, trivial, fun od => ?_⟩
      have back : upd (upd H a (.frz od (.dK kvs))) a (.dK kvs) = H := by rw [upd_upd]; exact upd_id e
      refine ⟨_, rfl, a, od, rfl, .inl ⟨kvs, upd_same, for_it walk_keys (fun i σ H' => H' = upd H a (.frz od (.dK kvs)) ∧ ∃ y, σ = [some (.ref a), y] ∧ ∀ p ∈ ds.take i, nameB p.1 = true) ⟨rfl, none, rfl, by simp⟩ (fun _ _ _ _ p => by rw [p.1]; exact upd_same) (fun i y σ H1 H2 hi p w => ?_) (fun σ H1 p => ?_)⟩⟩
      · obtain ⟨rfl, y', rfl, hp⟩ := p
        obtain ⟨rfl, k, u, hx, rfl⟩ := w
        obtain ⟨d', hd', hk, _⟩ := r.get hx
        refine ⟨_, rfl, kV k, kPd k, rfl, .key hk, _, rfl, ?_⟩
        cases z : nameB (kPd k) with
        | false =>
          refine iteT ⟨upd_same, ?_⟩
          have e2 : (ds.all fun p => nameB p.1) = false := by
            cases h : (ds.all fun p => nameB p.1) with
            | false => rfl
            | true =>
              have := List.all_eq_true.mp h _ (List.mem_of_getElem? hd')
              rw [z] at this
              exact absurd this (by decide)
          rw [e2] at q
          rw [back]
          exact q
        | true =>
          refine iteF ⟨rfl, _, rfl, fun p' m' => ?_⟩
          rw [take_snoc hd'] at m'
          rcases List.mem_append.mp m' with m' | m'
          · exact hp p' m'
          · cases List.mem_singleton.mp m'
            exact z
      · obtain ⟨rfl, y', rfl, hp⟩ := p
        refine ⟨upd_same, ?_⟩
        have e2 : (ds.all fun p => nameB p.1) = true := List.all_eq_true.mpr fun p hp' => hp p (by
          rw [r.length, List.take_length]; exact hp')
        rw [e2] at q
        rw [back]
        exact q
  | dn e =>
    rename_i a o
    have q' : Q (.bl false) H := q
    refine .inr ⟨a, o, rfl, e, _, _, rfl, rfl, _, rfl, iteF ?_⟩
    refine .inr ⟨_, rfl, a, o, rfl, e, for_none (fun i σ H' => H' = H ∧ i = 0 ∧ ∃ y, σ = [some (.ref a), y]) ⟨rfl, rfl, none, rfl⟩ (fun _ _ _ _ p => by rw [p.1]; exact e) (fun σ H1 p => ?_) (fun σ H1 p => absurd p.2.1 (by decide))⟩
    obtain ⟨rfl, _, y', rfl⟩ := p
    exact ⟨_, rfl, .non, .none, rfl, .non, _, rfl, iteT q'⟩
end
end Sk

namespace Sk
open PySem PySem.Spec PyProof.Rows L2 Evl
def spVs (n : Nat) : Sp := fun vs H Q _ => ∃ (a : Addr) (xs : List V) (ds : List PyData) (m : Int), vs = [.ref a, .int m] ∧ m = n ∧ H a = some (.lst xs) ∧ DtAll H xs ds ∧ ∀ H', Ex H H' → Q (.bl (ds.all (goodB n))) H'
def spVW (n : Nat) : Sp := fun vs H Q _ => ∃ (v : V) (d : PyData) (m : Int), vs = [v, .int m] ∧ m = n ∧ Dt H v d ∧ ∀ H', Ex H H' → Q (.bl (goodB n d)) H'
def spV : Sp := fun vs H Q _ => ∃ v d, vs = [v] ∧ Dt H v d ∧ ∀ H', Ex H H' → Q (.bl (goodB 6 d)) H'
def spNo : Sp := fun _ _ _ _ => False
theorem all_false {α : Type} {p : α → Bool} {l : List α} {x : α} (h : x ∈ l) (z : p x = false) : l.all p = false := by
  cases e : l.all p with
  | false => rfl
  | true =>
    have := List.all_eq_true.mp e x h
    rw [z] at this
    exact absurd this (by decide)
section
variable {P : Program} {w : World} {K : PySem.W.Frag} {mg : Str → Option Value} {base : Heap} {f f1 f2 f3 f4 : Addr} {fd d1 d2 d3 d4 : FuncData}
theorem ok_no {k : Nat} {ps : List Str} : FnOk P w K mg base CX0 k f fd ps spNo := ⟨fun vs H Q E h => h.elim, fun A outer s H args us vs Q E _ _ _ _ h => h.elim⟩
theorem ok_vs {k n : Nat} (F : Fun K "are_values_within" "are_values_within" sVsW f fd) (L : Lt P w K mg base f1 d1 "is_value_within" ["thing", "depth"] k (spVW n)) : FnOk P w K mg base CX0 (k + 1) f fd ["things", "depth"] (spVs n) := by
  refine F.ok scVsW (fun vs H Q E h => ?_) (fun cdv A outer s H vs Q E hr h => ?_)
  · obtain ⟨a, b, c, m, rfl, _⟩ := h
    rfl
  have nd := scVsW.nd
  obtain ⟨a, xs, ds, m, rfl, hm, e, r, q⟩ := h
  refine ⟨_, pss_cons (ps_for PassesOwn.never rfl (pi_list (pv 0)) (pg_name (i := 2) nd rfl (Or.inl rfl)) (pss_one (ps_if (pt_not (pt_val (pe_call L.g hr rfl L.m L.k L.b .nil pass0 (pa_cons (pv 2) (pa_cons (pv 1) pa_nil))))) (pss_one (ps_ret pe_bl)) pss_nil)))
    (pss_one (ps_ret pe_bl)), ?_⟩
  refine ⟨_, rfl, a, rfl, ⟨_, SqL.of e⟩, for_list (xs := xs) (fun i σ H' => Ex H H' ∧ ∃ y, σ = [some (.ref a), some (.int m), y] ∧ ∀ d ∈ ds.take i, goodB n d = true) ⟨Ex.refl _, none, rfl, by simp⟩ (fun i σ H' _ p => SqL.of (p.1 _ _ e)) (fun i x σ H' hx p => ?_) (fun σ H' p => ?_)⟩
  · obtain ⟨x1, y, rfl, hp⟩ := p
    obtain ⟨d, hd, hq⟩ := r.get hx
    refine ⟨_, rfl, _, rfl, x, d, m, rfl, hm, hq.mono x1, fun H2 x2 => ⟨_, rfl, ?_⟩⟩
    cases z : goodB n d with
    | false =>
      refine iteT ?_
      have := q H2 (x1.trans x2)
      rw [all_false (List.mem_of_getElem? hd) z] at this
      exact this
    | true =>
      refine iteF ⟨x1.trans x2, _, rfl, fun p' m' => ?_⟩
      rw [take_snoc hd] at m'
      rcases List.mem_append.mp m' with m' | m'
      · exact hp p' m'
      · cases List.mem_singleton.mp m'
        exact z
  · obtain ⟨x1, y, rfl, hp⟩ := p
    have := q H' x1
    rw [List.all_eq_true.mpr fun p hp' => hp p (by rw [r.length, List.take_length]; exact hp')] at this
    exact this
/-- the text of is_value_within, for any promise of are_values_within -/
theorem ok_vw0 {k : Nat} (F : Fun K "is_value_within" "is_value_within" sVW f fd) (B : Blt mg) (G : Glb mg) (L1 : Lt P w K mg base f1 d1 "are_values_within" ["things", "depth"] (k + 3) spNo)
    (L2 : Lt P w K mg base f2 d2 "are_names" ["things"] 3 spNms) (L3 : Lt P w K mg base f3 d3 "is_whole" ["thing"] 1 spWhole) (L4 : Lt P w K mg base f4 d4 "is_letters" ["thing", "most"] 1 spLet) : FnOk P w K mg base CX0 (k + 4) f fd ["thing", "depth"] (spVW 0) := by
  refine F.ok scVW (fun vs H Q E h => ?_) (fun cdv A outer s H vs Q E hr h => ?_)
  · obtain ⟨a, b, m, rfl, _⟩ := h
    rfl
  have nd := scVW.nd
  have hr1 : Room 1 _ := hr.mono (by omega)
  have hr3 : Room 3 _ := hr.mono (by omega)
  obtain ⟨t, gl⟩ := G.parts
  obtain ⟨t2, gl2⟩ := G.great
  obtain ⟨t3, gl3⟩ := G.lstr
  obtain ⟨v, d, m, rfl, hm, hd, q⟩ := h
  refine ⟨_, pss_cons (ps_if (pt_cmpR op_eq (pv 1) pe_int (nomark _)) (pss_one (ps_ret pe_bl)) pss_nil)
    (pss_cons (ps_if (pt_val (pe_callB call_isT rfl B.isi bt_isi (pa_cons (pv 0) (pa_cons (pe_bltn (v := .ty "list") rfl B.list bt_list rfl) pa_nil)))) (pss_one (ps_ret (pe_and (pe_cmpR op_le (pe_callB call_len_seq rfl B.len PySem.boot_len (pa_cons (pv 0) pa_nil)) (pe_glob (v := .int 8) rfl gl ⟨_, rfl⟩) (nomark _)) (pe_one (pe_call L1.g hr rfl L1.m L1.k L1.b .nil pass0 (pa_cons (pv 0) (pa_cons (pe_op op_sub (pv 1) pe_int) pa_nil))))))) pss_nil)
    (pss_cons (ps_if (pt_val (pe_callB call_isT rfl B.isi bt_isi (pa_cons (pv 0) (pa_cons (pe_bltn (v := .ty "dict") rfl B.dict bt_dict rfl) pa_nil)))) (pss_one (ps_ret (pe_and (pe_call L2.g hr3 rfl L2.m L2.k L2.b .nil pass0 (pa_cons (pv 0) pa_nil)) (pe_one (pe_call L1.g hr rfl L1.m L1.k L1.b .nil pass0 (pa_cons (pe_listVals rfl (pv 0) rfl B.list bt_list) (pa_cons (pe_op op_sub (pv 1) pe_int) pa_nil))))))) pss_nil)
    (pss_cons (ps_if (pt_val (pe_call L3.g hr1 rfl L3.m L3.k L3.b .nil pass0 (pa_cons (pv 0) pa_nil))) (pss_one (ps_ret (pe_chain op_le op_le (pe_un un_neg (pe_glob (v := .int 1000000000) rfl gl2 ⟨_, rfl⟩)) (pv 0) (pe_glob (v := .int 1000000000) rfl gl2 ⟨_, rfl⟩)))) pss_nil)
    (pss_one (ps_ret (pe_or (pe_callB call_isT rfl B.isi bt_isi (pa_cons (pv 0) (pa_cons (pe_bltn (v := .ty "bool") rfl B.bool bt_bool rfl) pa_nil))) (pe_one (pe_call L4.g hr1 rfl L4.m L4.k L4.b .nil pass0 (pa_cons (pv 0) (pa_cons (pe_glob (v := .int 12) rfl gl3 ⟨_, rfl⟩) pa_nil)))))))))), ?_⟩
  subst hm
  exact ⟨_, rfl, rfl, _, rfl, iteT (q H (Ex.refl _))⟩
theorem ok_vwS {k n : Nat} (F : Fun K "is_value_within" "is_value_within" sVW f fd) (B : Blt mg) (G : Glb mg) (L1 : Lt P w K mg base f1 d1 "are_values_within" ["things", "depth"] (k + 3) (spVs n))
    (L2 : Lt P w K mg base f2 d2 "are_names" ["things"] 3 spNms) (L3 : Lt P w K mg base f3 d3 "is_whole" ["thing"] 1 spWhole) (L4 : Lt P w K mg base f4 d4 "is_letters" ["thing", "most"] 1 spLet) : FnOk P w K mg base CX0 (k + 4) f fd ["thing", "depth"] (spVW (n + 1)) := by
  refine F.ok scVW (fun vs H Q E h => ?_) (fun cdv A outer s H vs Q E hr h => ?_)
  · obtain ⟨a, b, m, rfl, _⟩ := h
    rfl
  have nd := scVW.nd
  have hr1 : Room 1 _ := hr.mono (by omega)
  have hr3 : Room 3 _ := hr.mono (by omega)
  obtain ⟨t, gl⟩ := G.parts
  obtain ⟨t2, gl2⟩ := G.great
  obtain ⟨t3, gl3⟩ := G.lstr
  obtain ⟨v, d, m, rfl, hm, hd, q⟩ := h
  refine ⟨_, pss_cons (ps_if (pt_cmpR op_eq (pv 1) pe_int (nomark _)) (pss_one (ps_ret pe_bl)) pss_nil)
    (pss_cons (ps_if (pt_val (pe_callB call_isT rfl B.isi bt_isi (pa_cons (pv 0) (pa_cons (pe_bltn (v := .ty "list") rfl B.list bt_list rfl) pa_nil)))) (pss_one (ps_ret (pe_and (pe_cmpR op_le (pe_callB call_len_seq rfl B.len PySem.boot_len (pa_cons (pv 0) pa_nil)) (pe_glob (v := .int 8) rfl gl ⟨_, rfl⟩) (nomark _)) (pe_one (pe_call L1.g hr rfl L1.m L1.k L1.b .nil pass0 (pa_cons (pv 0) (pa_cons (pe_op op_sub (pv 1) pe_int) pa_nil))))))) pss_nil)
    (pss_cons (ps_if (pt_val (pe_callB call_isT rfl B.isi bt_isi (pa_cons (pv 0) (pa_cons (pe_bltn (v := .ty "dict") rfl B.dict bt_dict rfl) pa_nil)))) (pss_one (ps_ret (pe_and (pe_call L2.g hr3 rfl L2.m L2.k L2.b .nil pass0 (pa_cons (pv 0) pa_nil)) (pe_one (pe_call L1.g hr rfl L1.m L1.k L1.b .nil pass0 (pa_cons (pe_listVals rfl (pv 0) rfl B.list bt_list) (pa_cons (pe_op op_sub (pv 1) pe_int) pa_nil))))))) pss_nil)
    (pss_cons (ps_if (pt_val (pe_call L3.g hr1 rfl L3.m L3.k L3.b .nil pass0 (pa_cons (pv 0) pa_nil))) (pss_one (ps_ret (pe_chain op_le op_le (pe_un un_neg (pe_glob (v := .int 1000000000) rfl gl2 ⟨_, rfl⟩)) (pv 0) (pe_glob (v := .int 1000000000) rfl gl2 ⟨_, rfl⟩)))) pss_nil)
    (pss_one (ps_ret (pe_or (pe_callB call_isT rfl B.isi bt_isi (pa_cons (pv 0) (pa_cons (pe_bltn (v := .ty "bool") rfl B.bool bt_bool rfl) pa_nil))) (pe_one (pe_call L4.g hr1 rfl L4.m L4.k L4.b .nil pass0 (pa_cons (pv 0) (pa_cons (pe_glob (v := .int 12) rfl gl3 ⟨_, rfl⟩) pa_nil)))))))))), ?_⟩
  subst hm
  have hn : ((n + 1 : Nat) : Int) - 1 = (n : Int) := by omega
  have h0 : V.int ((n + 1 : Nat) : Int) ≠ V.int 0 := by
    intro z
    injection z with z
    omega
  have kl := kitList d
  have kd := kitDict d
  have kb := kitBool d
  refine ⟨_, rfl, rfl, _, rfl, ?_⟩
  rw [decide_eq_false h0]
  refine iteF ⟨_, rfl, v, "list", d, _, rfl, hd, kl, _, rfl, ?_⟩
  cases hd with
  | lst e r =>
    rename_i a xs ds
    refine iteT ⟨_, rfl, a, xs, rfl, .inl (SqL.of e), _, _, rfl, rfl, _, rfl, ?_⟩
    have e1 : goodB (n + 1) (.list ds) = (decide (ds.length ≤ 8) && ds.all (goodB n)) := rfl
    rw [e1] at q
    refine ite2 (fun c => ?_) (fun c => ?_)
    · have c' : (xs.length : Int) ≤ 8 := of_decide_eq_true c
      rw [r.length] at c'
      rw [decide_eq_true (show ds.length ≤ 8 by omega), Bool.true_and] at q
      exact ⟨_, rfl, _, rfl, _, _, rfl, rfl, a, xs, ds, _, rfl, hn, e, r, q⟩
    · have c' : ¬ (xs.length : Int) ≤ 8 := fun z => c (decide_eq_true z)
      rw [r.length] at c'
      rw [decide_eq_false (show ¬ ds.length ≤ 8 by omega), Bool.false_and] at q
      exact q H (Ex.refl _)
  | dct e nd' r =>
    rename_i a kvs ds
    refine iteF ⟨_, rfl, _, "dict", _, _, rfl, .dct e nd' r, kd, _, rfl, iteT ?_⟩
    refine ⟨_, rfl, _, ds, rfl, .dct e nd' r, _, rfl, ?_⟩
    have e1 : goodB (n + 1) (.dict ds) = (decide (ds.length ≤ 8) && (ds.all (fun p => nameB p.1) && ds.all (fun p => goodB n p.2))) := rfl
    rw [e1, ← Bool.and_assoc] at q
    cases z : (decide (ds.length ≤ 8) && ds.all fun p => nameB p.1) with
    | false =>
      rw [z] at q
      exact iteF (q H (Ex.refl _))
    | true =>
      rw [z, Bool.true_and] at q
      have e2 : (ds.map (·.2)).all (goodB n) = ds.all fun p => goodB n p.2 := by rw [List.all_map]; rfl
      refine iteT ⟨_, rfl, a, kvs, rfl, e, fun p np => ⟨_, rfl, _, _, rfl, rfl, p, kvs.map (·.2), ds.map (·.2), _, rfl, hn, upd_same, r.vals.mono (Ex.new np), fun H' x' => ?_⟩⟩
      rw [e2]
      exact q H' ((Ex.new np).trans x')
  | dn e =>
    refine iteF ⟨_, rfl, _, "dict", _, _, rfl, .dn e, kd, _, rfl, iteT ?_⟩
    exact ⟨_, rfl, _, _, rfl, .dn e, _, rfl, iteF (q H (Ex.refl _))⟩
  | tup e r =>
    refine iteF ⟨_, rfl, _, "dict", _, _, rfl, .tup e r, kd, _, rfl, iteF ?_⟩
    refine ⟨_, rfl, _, _, rfl, .tup e r, _, rfl, iteF ?_⟩
    refine ⟨_, rfl, _, "bool", _, _, rfl, .tup e r, kb, _, rfl, iteF ?_⟩
    exact ⟨_, rfl, _, _, 12, rfl, .tup e r, q H (Ex.refl _)⟩
  | non =>
    refine iteF ⟨_, rfl, _, "dict", _, _, rfl, .non, kd, _, rfl, iteF ?_⟩
    refine ⟨_, rfl, _, _, rfl, .non, _, rfl, iteF ?_⟩
    refine ⟨_, rfl, _, "bool", _, _, rfl, .non, kb, _, rfl, iteF ?_⟩
    exact ⟨_, rfl, _, _, 12, rfl, .non, q H (Ex.refl _)⟩
  | bl b =>
    refine iteF ⟨_, rfl, _, "dict", _, _, rfl, .bl b, kd, _, rfl, iteF ?_⟩
    refine ⟨_, rfl, _, _, rfl, .bl b, _, rfl, iteF ?_⟩
    exact ⟨_, rfl, _, "bool", _, _, rfl, .bl b, kb, _, rfl, iteT (q H (Ex.refl _))⟩
  | str x hx =>
    refine iteF ⟨_, rfl, _, "dict", _, _, rfl, .str x hx, kd, _, rfl, iteF ?_⟩
    refine ⟨_, rfl, _, _, rfl, .str x hx, _, rfl, iteF ?_⟩
    refine ⟨_, rfl, _, "bool", _, _, rfl, .str x hx, kb, _, rfl, iteF ?_⟩
    exact ⟨_, rfl, _, _, 12, rfl, .str x hx, q H (Ex.refl _)⟩
  | int i =>
    refine iteF ⟨_, rfl, _, "dict", _, _, rfl, .int i, kd, _, rfl, iteF ?_⟩
    refine ⟨_, rfl, _, _, rfl, .int i, _, rfl, iteT ?_⟩
    have e1 : goodB (n + 1) (.int i) = (decide (-1000000000 ≤ i) && decide (i ≤ 1000000000)) := rfl
    rw [e1] at q
    refine ⟨_, rfl, _, rfl, _, _, rfl, rfl, _, rfl, ite2 (fun c => ?_) (fun c => ?_)⟩
    · have c' : -1000000000 ≤ i := of_decide_eq_true c
      rw [decide_eq_true c', Bool.true_and] at q
      exact ⟨_, _, rfl, rfl, q H (Ex.refl _)⟩
    · have c' : ¬ -1000000000 ≤ i := fun z => c (decide_eq_true z)
      rw [decide_eq_false c', Bool.false_and] at q
      exact q H (Ex.refl _)
theorem ok_isv {k : Nat} (F : Fun K "is_value" "is_value" sIsV f fd) (G : Glb mg) (L : Lt P w K mg base f1 d1 "is_value_within" ["thing", "depth"] k (spVW 6)) : FnOk P w K mg base CX0 (k + 1) f fd ["thing"] spV := by
  refine F.ok scIsV (fun vs H Q E h => ?_) (fun cdv A outer s H vs Q E hr h => ?_)
  · obtain ⟨a, b, rfl, _⟩ := h
    rfl
  have nd := scIsV.nd
  obtain ⟨t, gl⟩ := G.depth
  obtain ⟨v, d, rfl, hd, q⟩ := h
  refine ⟨_, pss_one (ps_ret (pe_call L.g hr rfl L.m L.k L.b .nil pass0 (pa_cons (pv 0) (pa_cons (pe_glob (v := .int 6) rfl gl ⟨_, rfl⟩) pa_nil)))), ?_⟩
  exact ⟨_, rfl, v, d, 6, rfl, rfl, hd, q⟩
end
end Sk

namespace Sk
open PySem PySem.Spec PyProof.Rows L2 Evl
section
variable {X : Cx}
def rNil (f : Bool → Bool) : R2 := fun x y H Q => ∃ a b xs, x = .ref a ∧ y = .ref b ∧ H a = some (.lst xs) ∧ H b = some (.lst []) ∧ Q (.bl (f xs.isEmpty)) H
theorem op_eqNil (hu : X.A.units < cLine) : OpR X (compareOp .Eq) (rNil id) := by
  intro pins s σ H x y v u Q I rx ry h
  obtain ⟨a, b, xs, rfl, rfl, ea, eb, q⟩ := h
  cases (show v = Value.ref a from rx)
  cases (show u = Value.ref b from ry)
  obtain ⟨z, its, n, r, e⟩ := I.hok a _ ea
  obtain ⟨z2, its2, n2, r2, e2⟩ := I.hok b _ eb
  cases r2
  cases xs with
  | nil =>
    cases r
    exact SeqAt.RcAt.lists (e := fun _ => true) ⟨_, e, rfl, n, rfl⟩ ⟨_, e2, rfl, n2, rfl⟩ rfl hu (fun j h1 => absurd h1 (by simp)) _ _ _ _ ⟨.bl true, H, I, rfl, q⟩
  | cons x xs =>
    cases r with
    | cons r1 r3 =>
      exact SeqAt.RcAt.lists_lengths ⟨_, e, rfl, n, rfl⟩ ⟨_, e2, rfl, n2, rfl⟩ (by simp) hu _ _ _ _ ⟨.bl false, H, I, rfl, q⟩
theorem op_neNil (hu : X.A.units < cLine) : OpR X (compareOp .NotEq) (rNil not) := by
  intro pins s σ H x y v u Q I rx ry h
  obtain ⟨a, b, xs, rfl, rfl, ea, eb, q⟩ := h
  cases (show v = Value.ref a from rx)
  cases (show u = Value.ref b from ry)
  obtain ⟨z, its, n, r, e⟩ := I.hok a _ ea
  obtain ⟨z2, its2, n2, r2, e2⟩ := I.hok b _ eb
  cases r2
  cases xs with
  | nil =>
    cases r
    exact SeqAt.RcNeAt.lists (e := fun _ => true) ⟨_, e, rfl, n, rfl⟩ ⟨_, e2, rfl, n2, rfl⟩ rfl hu (fun j h1 => absurd h1 (by simp)) _ _ _ _ ⟨.bl false, H, I, rfl, q⟩
  | cons x xs =>
    cases r with
    | cons r1 r3 =>
      exact SeqAt.RcNeAt.lists_lengths ⟨_, e, rfl, n, rfl⟩ ⟨_, e2, rfl, n2, rfl⟩ (by simp) hu _ _ _ _ ⟨.bl true, H, I, rfl, q⟩
def rNilD : R2 := fun x y H Q => ∃ a b kvs, x = .ref a ∧ y = .ref b ∧ H a = some (.dK kvs) ∧ H b = some (.dK []) ∧ Q (.bl (!kvs.isEmpty)) H
theorem op_neNilD (hu : X.A.units < cLine) : OpR X (compareOp .NotEq) rNilD := by
  intro pins s σ H x y v u Q I rx ry h
  obtain ⟨a, b, kvs, rfl, rfl, ea, eb, q⟩ := h
  cases (show v = Value.ref a from rx)
  cases (show u = Value.ref b from ry)
  obtain ⟨_, ya, va, ra, da⟩ := (show ObjOk X.prog X.w H s.heap a (.dK kvs) from I.hok a _ ea)
  obtain ⟨_, yb, vb, rb, db⟩ := (show ObjOk X.prog X.w H s.heap b (.dK []) from I.hok b _ eb)
  cases rb
  cases kvs with
  | nil =>
    cases ra
    exact PySem.W.keq_ne (knd := mixKind X.prog X.w) (r := true) ya yb da db hu (fun _ => .nil) ⟨.bl false, H, I, rfl, q⟩
  | cons p kvs =>
    cases ra with
    | cons r1 r2 => exact PySem.W.keq_ne (knd := mixKind X.prog X.w) (r := true) ya yb da db hu (fun z => by cases z) ⟨.bl true, H, I, rfl, q⟩
end
abbrev sLetL : Stmt := topS 22
abbrev sGood : Stmt := topS 23
theorem scLetL : FnScope ["thing", "most", "sign"] ["thing", "most"] (defScope sLetL) := ⟨rfl, rfl, rfl, by decide +kernel, rfl, by decide +kernel, by decide +kernel⟩
theorem scGood : FnScope ["thing", "depth", "part", "name"] ["thing", "depth"] (defScope sGood) := ⟨rfl, rfl, rfl, by decide +kernel, rfl, by decide +kernel, by decide +kernel⟩
def spLetL : Sp := fun vs H Q _ => ∃ (v : V) (d : PyData) (m : Nat), vs = [v, .int (m : Int)] ∧ Dt H v d ∧ ∀ H', Ex H H' → Q (.bl (letB m d)) H'
theorem one_lt (a b : Nat) : decide (([a] : List Nat) < [b]) = decide (a < b) := by
  refine decide_eq_decide.mpr ?_
  simp [List.cons_lt_cons_iff]
theorem la : (Str.ofString "a").cps.toList = [97] := by decide +kernel
theorem lz : (Str.ofString "z").cps.toList = [122] := by decide +kernel
section
variable {P : Program} {w : World} {K : PySem.W.Frag} {mg : Str → Option Value} {base : Heap} {f f1 f2 f3 f4 : Addr} {fd d1 d2 d3 d4 : FuncData}
theorem ok_letL {k : Nat} (F : Fun K "_law_letters" "_law_letters" sLetL f fd) (B : Blt mg) : FnOk P w K mg base CX0 (k + 1) f fd ["thing", "most"] spLetL := by
  refine F.ok scLetL (fun vs H Q E h => ?_) (fun cdv A outer s H vs Q E hr h => ?_)
  · obtain ⟨a, b, c, rfl, _⟩ := h
    rfl
  have nd := scLetL.nd
  have hu : _ < cLine := hr.units
  have hu0 := Nat.lt_of_le_of_lt (Nat.le_add_right _ 64) hu
  obtain ⟨v, d, m, rfl, hd, q⟩ := h
  refine ⟨_, pss_one (ps_ret (pe_and (pe_callB call_isT rfl B.isi bt_isi (pa_cons (pv 0) (pa_cons (pe_bltn (v := .ty "str") rfl B.str bt_str rfl) pa_nil))) (pe_and (pe_cmpR op_le (pe_callB call_len_str rfl B.len PySem.boot_len (pa_cons (pv 0) pa_nil)) (pv 1) (nomark _))
    (pe_one (pe_cmpR (op_eqNil hu0) (pe_lc (own := [("sign", 2)]) (g := gName 2) rfl nd (pi_str (pv 0)) (blkOk_by (N := ["thing", "most", "sign"]) (sc := defScope sLetL) (by decide +kernel)) (fun _ _ _ _ _ => pg_name (i := 2) nd rfl (Or.inl rfl)) (fun _ _ _ _ _ => pts_one (pt_not (pt_chain op_le_str op_le_str pe_str (pv 2) pe_str)))
      (fun _ _ _ _ _ => pv 2)) (pe_lst pa_nil) (nomark _)))))), ?_⟩
  have hk := kitStr d
  refine ⟨_, rfl, v, "str", d, _, rfl, hd, hk, _, rfl, ?_⟩
  cases hd with
  | str x hx =>
    refine iteT ?_
    refine ⟨_, rfl, x, rfl, Nat.le_trans hx (by decide), _, rfl, _, _, rfl, rfl, _, rfl, ite2 (fun c => ?_) (fun c => ?_)⟩
    · have c' : (x.length : Int) ≤ ((m : Nat) : Int) := of_decide_eq_true c
      have e : letB m (.str x) = x.cps.toList.all lowB := by
        show (decide (x.length ≤ m) && _) = _
        rw [decide_eq_true (by omega), Bool.true_and]
      rw [e] at q
      refine ⟨_, rfl, x, rfl, fun Dl hD => ?_⟩
      refine lc_it walk_str (fun i H' => ∃ ws, H' = upd H Dl (.lst ws) ∧ ws.length ≤ i ∧ ws.isEmpty = (x.cps.toList.take i).all lowB) ⟨[], rfl, Nat.le_refl _, rfl⟩ (fun _ _ _ _ => trivial) (fun i y H1 H2 hi p w => ?_) (fun H1 p => ?_)
      · obtain ⟨ws, rfl, hl, hp⟩ := p
        obtain ⟨rfl, c, hc, rfl⟩ := w
        refine ⟨rfl, ?_⟩
        refine ⟨_, rfl, _, _, rfl, rfl, _, rfl, ?_⟩
        have e1 : (!decide ((⟨#[c]⟩ : Str).cps.toList < (Str.ofString "a").cps.toList)) = decide (97 ≤ c) := by
          rw [la]
          show (!decide (([c] : List Nat) < [97])) = _
          rw [one_lt, ← decide_not]
          exact decide_eq_decide.mpr (by omega)
        have e2 : (!decide ((Str.ofString "z").cps.toList < (⟨#[c]⟩ : Str).cps.toList)) = decide (c ≤ 122) := by
          rw [lz]
          show (!decide (([122] : List Nat) < [c])) = _
          rw [one_lt, ← decide_not]
          exact decide_eq_decide.mpr (by omega)
        have hc2 : x.cps.toList[i]? = some c := by rw [← hc]; simp
        have hs : (x.cps.toList.take (i + 1)).all lowB = ((x.cps.toList.take i).all lowB && lowB c) := by
          rw [take_snoc hc2, List.all_append]
          simp
        have hb : lowB c = (decide (97 ≤ c) && decide (c ≤ 122)) := rfl
        have keep : lowB c = true → ∃ ws', upd H Dl (.lst ws) = upd H Dl (.lst ws') ∧ ws'.length ≤ i + 1 ∧ ws'.isEmpty = (x.cps.toList.take (i + 1)).all lowB := fun z => ⟨ws, rfl, by omega, by rw [hs, z, Bool.and_true]; exact hp⟩
        have more : lowB c = false → ∃ acc, (upd H Dl (.lst ws)) Dl = some (.lst acc) ∧ acc.length < sizeLine ∧ ∃ ws', upd (upd H Dl (.lst ws)) Dl (.lst (acc ++ [V.str ⟨#[c]⟩])) = upd H Dl (.lst ws') ∧ ws'.length ≤ i + 1 ∧ ws'.isEmpty = (x.cps.toList.take (i + 1)).all lowB := fun z =>
          ⟨ws, upd_same, small1000 (by
            have h1 : x.cps.size = x.length := rfl
            omega), ws ++ [V.str ⟨#[c]⟩], upd_upd, by rw [List.length_append]; show ws.length + 1 ≤ i + 1; omega, by rw [hs, z, Bool.and_false]; simp⟩
        rw [e1]
        refine ite2 (fun z1 => ?_) (fun z1 => ?_)
        · refine ⟨_, _, rfl, rfl, _, rfl, ?_⟩
          rw [e2]
          rw [z1, Bool.true_and] at hb
          cases z2 : decide (c ≤ 122) with
          | true => exact keep (by rw [hb, z2])
          | false => exact ⟨_, rfl, more (by rw [hb, z2])⟩
        · have z0 : decide (97 ≤ c) = false := by
            cases h : decide (97 ≤ c) with
            | false => rfl
            | true => exact absurd h z1
          rw [z0, Bool.false_and] at hb
          exact ⟨_, rfl, _, rfl, more hb⟩
      · obtain ⟨ws, rfl, hl, hp⟩ := p
        have hz : x.cps.size = x.cps.toList.length := by simp
        rw [hz, List.take_length] at hp
        refine ⟨by decide, fun p2 np2 => ?_⟩
        have x2 : Ex H (upd (upd H Dl (.lst ws)) p2 (.lst [])) := (Ex.new hD).trans (Ex.new np2)
        refine ⟨Dl, p2, ws, rfl, rfl, (Ex.new np2) _ _ upd_same, upd_same, ?_⟩
        have := q _ x2
        rw [← hp] at this
        exact this
    · have c' : ¬ (x.length : Int) ≤ ((m : Nat) : Int) := fun z => c (decide_eq_true z)
      have e : letB m (.str x) = false := by
        show (decide (x.length ≤ m) && _) = false
        rw [decide_eq_false (by omega)]
        rfl
      rw [e] at q
      exact q H (Ex.refl _)
  | _ => exact iteF (q H (Ex.refl _))
end
end Sk

namespace Sk
open PySem PySem.Spec PyProof.Rows L2 Evl
theorem ex_mut {H H4 : Hp} {a : Addr} {o : HO} (x : Ex H H4) (h : H a = none) : Ex H (upd H4 a o) := fun b u e => by
  rw [upd_ne (ne_of_none e h)]
  exact x _ _ e
theorem ex_none {H H1 : Hp} {a : Addr} (x : Ex H H1) (h : H1 a = none) : H a = none := by
  cases e : H a with
  | none => rfl
  | some o => rw [x _ _ e] at h; cases h
theorem abs9 (i : Int) : decide ((if i < 0 then -i else i) ≤ (10 : Int) ^ (9 : Int).toNat) = (decide (-1000000000 ≤ i) && decide (i ≤ 1000000000)) := by
  have e : (10 : Int) ^ (9 : Int).toNat = 1000000000 := by decide
  rw [e, ← Bool.decide_and]
  refine decide_eq_decide.mpr ?_
  split <;> omega
theorem in_bools {α : Type} (f : α → Bool) : ∀ l : List α, inV (.bl false) (l.map fun p => V.bl (f p)) = !l.all f
  | [] => rfl
  | x :: r => by
    have ih := in_bools f r
    unfold inV at ih ⊢
    rw [List.map_cons, List.any_cons, ih, List.all_cons]
    cases f x with
    | true => rfl
    | false => rfl
theorem flat_bools {α : Type} (f : α → Bool) : ∀ l : List α, (l.map fun p => V.bl (f p)).all flatV = true
  | [] => rfl
  | x :: r => by rw [List.map_cons, List.all_cons, flat_bools f r]; rfl
section
variable {P : Program} {w : World} {K : PySem.W.Frag} {mg : Str → Option Value} {base : Heap} {f f1 f2 f3 f4 : Addr} {fd d1 d2 d3 d4 : FuncData}
theorem ok_goodS {k n : Nat} (F : Fun K "_law_good" "_law_good" sGood f fd) (B : Blt mg) (L : Lt P w K mg base f1 d1 "_law_letters" ["thing", "most"] 1 spLetL) (G : Lt P w K mg base f fd "_law_good" ["thing", "depth"] (k + 1) (spVW n)) : FnOk P w K mg base CX0 (k + 2) f fd ["thing", "depth"] (spVW (n + 1)) := by
  refine F.ok scGood (fun vs H Q E h => ?_) (fun cdv A outer s H vs Q E hr h => ?_)
  · obtain ⟨a, b, c, rfl, _⟩ := h
    rfl
  have nd := scGood.nd
  have hu : _ < cLine := hr.units
  have hu0 := Nat.lt_of_le_of_lt (Nat.le_add_right _ 64) hu
  have hu1 := hu_of hr
  have hr1 : Room 1 _ := hr.mono (by omega)
  obtain ⟨v, d, m, rfl, hm, hd, q⟩ := h
  refine ⟨_, pss_cons (ps_if (pt_cmpR op_eq (pv 1) pe_int (nomark _)) (pss_one (ps_ret pe_bl)) pss_nil)
    (pss_cons (ps_if (PW.pt (pw_or (pt_val (pe_callB call_isT rfl B.isi bt_isi (pa_cons (pv 0) (pa_cons (pe_bltn (v := .ty "bool") rfl B.bool bt_bool rfl) pa_nil)))) (pw_or1 (pt_val (pe_call L.g hr1 rfl L.m L.k L.b .nil pass0 (pa_cons (pv 0) (pa_cons pe_int pa_nil))))))) (pss_one (ps_ret pe_bl)) pss_nil)
    (pss_cons (ps_if (pt_val (pe_callB call_isT rfl B.isi bt_isi (pa_cons (pv 0) (pa_cons (pe_bltn (v := .ty "int") rfl B.int bt_int rfl) pa_nil)))) (pss_one (ps_ret (pe_cmpR op_le (pe_callB call_abs rfl B.abs bt_abs (pa_cons (pv 0) pa_nil)) (pe_op op_powB pe_int pe_int) (nomark _)))) pss_nil)
    (pss_cons (ps_if (pt_val (pe_callB call_isT rfl B.isi bt_isi (pa_cons (pv 0) (pa_cons (pe_bltn (v := .ty "list") rfl B.list bt_list rfl) pa_nil)))) (pss_one (ps_ret (pe_and (pe_cmpR op_lt (pe_callB call_len_seq rfl B.len PySem.boot_len (pa_cons (pv 0) pa_nil)) pe_int (nomark _))
        (pe_one (pe_cmpR op_notIn_seq pe_bl (pe_lc (own := [("part", 2)]) (g := gName 2) (tt := tYes) rfl nd (pi_list (pv 0)) (blkOk_by (N := ["thing", "depth", "part", "name"]) (sc := defScope sGood) (by decide +kernel)) (fun _ _ _ _ _ => pg_name (i := 2) nd rfl (Or.inl rfl)) (fun _ _ _ _ _ => pts_nil)
          (fun _ _ _ _ _ => pe_call G.g hr rfl G.m G.k G.b .nil pass0 (pa_cons (pv 2) (pa_cons (pe_op op_sub (pv 1) pe_int) pa_nil)))) (by with_unfolding_all rfl)))))) pss_nil)
    (pss_cons (ps_if (PW.pt (pw_or (pt_not (pt_val (pe_callB call_isT rfl B.isi bt_isi (pa_cons (pv 0) (pa_cons (pe_bltn (v := .ty "dict") rfl B.dict bt_dict rfl) pa_nil))))) (pw_or1 (pt_cmpR op_gt (pe_callB (call_lenD.or call_lenN) rfl B.len PySem.boot_len (pa_cons (pv 0) pa_nil)) pe_int (nomark _))))) (pss_one (ps_ret pe_bl)) pss_nil)
    (pss_cons (ps_if (pt_cmpR (op_neNil hu0) (PE.or
          (pe_lock (pe_lc (own := [("name", 3)]) (g := gName 3) rfl nd (pi_keys (pv 0)) (blkOk_by (N := ["thing", "depth", "part", "name"]) (sc := defScope sGood) (by decide +kernel)) (fun _ _ _ _ _ => pg_name (i := 3) nd rfl (Or.inl rfl))
            (fun _ _ _ _ _ => pts_one (PW.pt (pw_or (pt_not (pt_val (pe_call L.g hr1 rfl L.m L.k L.b .nil pass0 (pa_cons (pv 3) (pa_cons pe_int pa_nil))))) (pw_or1 (pt_cmpR op_eq (pv 3) pe_str (nomark _)))))) (fun _ _ _ _ _ => pv 3)))
          (pe_lc (own := [("name", 3)]) (g := gName 3) rfl nd (pi_none (pv 0)) (blkOk_by (N := ["thing", "depth", "part", "name"]) (sc := defScope sGood) (by decide +kernel)) (fun _ _ _ _ _ => pg_name (i := 3) nd rfl (Or.inl rfl))
            (fun _ _ _ _ _ => pts_one (PW.pt (pw_or (pt_not (pt_val (pe_call L.g hr1 rfl L.m L.k L.b .nil pass0 (pa_cons (pv 3) (pa_cons pe_int pa_nil))))) (pw_or1 (pt_cmpR op_eq (pv 3) pe_str (nomark _)))))) (fun _ _ _ _ _ => pv 3))) (pe_lst pa_nil) (nomark _)) (pss_one (ps_ret pe_bl)) pss_nil)
    (pss_one (ps_ret (pe_cmpR op_notIn_seq pe_bl (pe_lock (pe_lc (own := [("name", 3)]) (g := gName 3) (tt := tYes) rfl nd (pi_keys (pv 0)) (blkOk_by (N := ["thing", "depth", "part", "name"]) (sc := defScope sGood) (by decide +kernel)) (fun _ _ _ _ _ => pg_name (i := 3) nd rfl (Or.inl rfl)) (fun _ _ _ _ _ => pts_nil)
          (fun _ _ _ _ _ => pe_call G.g hr rfl G.m G.k G.b .nil pass0 (pa_cons (pe_dget hu1 (pv 0) (pv 3) (fun _ _ => rfl)) (pa_cons (pe_op op_sub (pv 1) pe_int) pa_nil))))) (by with_unfolding_all rfl))))))))), ?_⟩
  subst hm
  have hn : ((n + 1 : Nat) : Int) - 1 = (n : Int) := by omega
  have h0 : V.int ((n + 1 : Nat) : Int) ≠ V.int 0 := by
    intro z
    injection z with z
    omega
  have p9 : CPowB 10 9 := by refine ⟨by decide, by decide +kernel⟩
  refine ⟨_, rfl, rfl, _, rfl, ?_⟩
  rw [decide_eq_false h0]
  refine iteF ?_
  cases hd with
  | bl b => exact ⟨_, rfl, _, "bool", _, _, rfl, .bl b, kitBool _, _, rfl, iteT (iteT (q H (Ex.refl _)))⟩
  | non =>
    refine ⟨_, rfl, _, "bool", _, _, rfl, .non, kitBool _, _, rfl, iteF ?_⟩
    refine ⟨_, rfl, _, _, 12, rfl, .non, fun H1 x1 => ⟨_, rfl, ?_⟩⟩
    refine iteF ?_
    refine ⟨_, rfl, _, "int", _, _, rfl, .non, kitInt _, _, rfl, iteF ?_⟩
    refine ⟨_, rfl, _, "list", _, _, rfl, .non, kitList _, _, rfl, iteF ?_⟩
    refine ⟨_, rfl, _, "dict", _, _, rfl, .non, kitDict _, _, rfl, iteT (iteT ?_)⟩
    exact q H1 x1
  | tup e r =>
    refine ⟨_, rfl, _, "bool", _, _, rfl, (.tup e r), kitBool _, _, rfl, iteF ?_⟩
    refine ⟨_, rfl, _, _, 12, rfl, (.tup e r), fun H1 x1 => ⟨_, rfl, ?_⟩⟩
    refine iteF ?_
    refine ⟨_, rfl, _, "int", _, _, rfl, ((Dt.tup e r).mono x1), kitInt _, _, rfl, iteF ?_⟩
    refine ⟨_, rfl, _, "list", _, _, rfl, ((Dt.tup e r).mono x1), kitList _, _, rfl, iteF ?_⟩
    refine ⟨_, rfl, _, "dict", _, _, rfl, ((Dt.tup e r).mono x1), kitDict _, _, rfl, iteT (iteT ?_)⟩
    exact q H1 x1
  | str x hx =>
    refine ⟨_, rfl, _, "bool", _, _, rfl, (.str x hx), kitBool _, _, rfl, iteF ?_⟩
    refine ⟨_, rfl, _, _, 12, rfl, (.str x hx), fun H1 x1 => ⟨_, rfl, ?_⟩⟩
    have e1 : goodB (n + 1) (.str x) = okb 12 x := rfl
    have e2 : letB 12 (.str x) = okb 12 x := rfl
    rw [e1] at q
    rw [e2]
    cases z : okb 12 x with
    | true =>
      rw [z] at q
      exact iteT (q H1 x1)
    | false =>
    rw [z] at q
    refine iteF ?_
    refine ⟨_, rfl, _, "int", _, _, rfl, (.str x hx), kitInt _, _, rfl, iteF ?_⟩
    refine ⟨_, rfl, _, "list", _, _, rfl, (.str x hx), kitList _, _, rfl, iteF ?_⟩
    refine ⟨_, rfl, _, "dict", _, _, rfl, (.str x hx), kitDict _, _, rfl, iteT (iteT ?_)⟩
    exact q H1 x1
  | int i =>
    refine ⟨_, rfl, _, "bool", _, _, rfl, (.int i), kitBool _, _, rfl, iteF ?_⟩
    refine ⟨_, rfl, _, _, 12, rfl, (.int i), fun H1 x1 => ⟨_, rfl, ?_⟩⟩
    refine iteF ?_
    refine ⟨_, rfl, _, "int", _, _, rfl, .int i, kitInt _, _, rfl, iteT ?_⟩
    have e1 : goodB (n + 1) (.int i) = (decide (-1000000000 ≤ i) && decide (i ≤ 1000000000)) := rfl
    rw [e1, ← abs9] at q
    exact ⟨_, rfl, i, rfl, _, _, rfl, rfl, p9, _, _, rfl, rfl, q H1 x1⟩
  | lst e r =>
    rename_i a xs ds
    refine ⟨_, rfl, _, "bool", _, _, rfl, (.lst e r), kitBool _, _, rfl, iteF ?_⟩
    refine ⟨_, rfl, _, _, 12, rfl, (.lst e r), fun H1 x1 => ⟨_, rfl, ?_⟩⟩
    refine iteF ?_
    refine ⟨_, rfl, _, "int", _, _, rfl, .lst (x1 _ _ e) (r.mono x1), kitInt _, _, rfl, iteF ?_⟩
    refine ⟨_, rfl, _, "list", _, _, rfl, .lst (x1 _ _ e) (r.mono x1), kitList _, _, rfl, iteT ?_⟩
    refine ⟨_, rfl, a, xs, rfl, .inl (SqL.of (x1 _ _ e)), _, _, rfl, rfl, _, rfl, ?_⟩
    have e1 : goodB (n + 1) (.list ds) = (decide (ds.length ≤ 8) && ds.all (goodB n)) := rfl
    rw [e1] at q
    refine ite2 (fun c => ?_) (fun c => ?_)
    · have c' : (xs.length : Int) < 9 := of_decide_eq_true c
      rw [r.length] at c'
      rw [decide_eq_true (show ds.length ≤ 8 by omega), Bool.true_and] at q
      refine ⟨_, rfl, a, rfl, ⟨_, SqL.of (x1 _ _ e)⟩, fun Dl hD => ?_⟩
      refine lc_it (walk_list (xs := xs)) (fun i H' => Ex H H' ∧ H' Dl = some (.lst ((ds.take i).map fun p => .bl (goodB n p)))) ⟨x1.trans (Ex.new hD), upd_same⟩ (fun i H' _ p => SqL.of (p.1 _ _ e)) (fun i y H2 H3 hi p w => ?_) (fun H2 p => ?_)
      · obtain ⟨x2, l2⟩ := p
        obtain ⟨rfl, hx⟩ := w
        obtain ⟨d', hd', hq⟩ := r.get hx
        refine ⟨rfl, tyes ?_⟩
        refine ⟨_, rfl, _, rfl, _, _, rfl, rfl, y, d', _, rfl, hn, hq.mono x2, fun H4 x4 => ⟨_, x4 _ _ l2, ?_, ex_mut (x2.trans x4) (ex_none x1 hD), ?_⟩⟩
        · rw [List.length_map, List.length_take]
          exact small1000 (by omega)
        · rw [upd_same, take_snoc hd', List.map_append]
          rfl
      · obtain ⟨x2, l2⟩ := p
        rw [r.length, List.take_length] at l2
        refine ⟨Dl, _, rfl, .inl (SqL.of l2), rfl, flat_bools _ _, ?_⟩
        have := q _ x2
        rw [in_bools]
        simpa using this
    · have c' : ¬ (xs.length : Int) < 9 := fun z => c (decide_eq_true z)
      rw [r.length] at c'
      rw [decide_eq_false (show ¬ ds.length ≤ 8 by omega), Bool.false_and] at q
      exact q H1 x1
  | dn e =>
    rename_i a o
    refine ⟨_, rfl, _, "bool", _, _, rfl, .dn e, kitBool _, _, rfl, iteF ?_⟩
    refine ⟨_, rfl, _, _, 12, rfl, .dn e, fun H1 x1 => ⟨_, rfl, iteF ?_⟩⟩
    refine ⟨_, rfl, _, "int", _, _, rfl, .dn (x1 _ _ e), kitInt _, _, rfl, iteF ?_⟩
    refine ⟨_, rfl, _, "list", _, _, rfl, .dn (x1 _ _ e), kitList _, _, rfl, iteF ?_⟩
    refine ⟨_, rfl, _, "dict", _, _, rfl, .dn (x1 _ _ e), kitDict _, _, rfl, iteF ?_⟩
    refine ⟨_, rfl, .inr ⟨a, o, rfl, x1 _ _ e, _, _, rfl, rfl, _, rfl, iteF ?_⟩⟩
    refine .inr ⟨_, rfl, a, o, rfl, x1 _ _ e, fun Dl hD => ?_⟩
    refine lc_none (fun i H' => Ex H H' ∧ H' Dl = some (.lst (List.replicate i .non))) ⟨x1.trans (Ex.new hD), upd_same⟩ (fun i H' _ p => p.1 _ _ e) (fun H2 p => ?_) (fun H2 p => ?_)
    · obtain ⟨x2, l2⟩ := p
      refine ⟨rfl, _, rfl, .non, .none, 8, rfl, .non, fun H4 x4 => ⟨_, rfl, ?_⟩⟩
      refine iteT (iteT ⟨_, rfl, _, x4 _ _ l2, by decide, ex_mut (x2.trans x4) (ex_none x1 hD), upd_same⟩)
    · obtain ⟨x2, l2⟩ := p
      refine ⟨by decide, fun p2 np2 => ⟨Dl, p2, _, rfl, rfl, (Ex.new np2) _ _ l2, upd_same, _, rfl, ?_⟩⟩
      exact q _ (x2.trans (Ex.new np2))
  | dct e nd' r =>
    rename_i a kvs ds
    have hd1 : ∀ {H1}, Ex H H1 → Dt H1 (.ref a) (.dict ds) := fun x => .dct (x _ _ e) nd' (r.mono x)
    refine ⟨_, rfl, _, "bool", _, _, rfl, .dct e nd' r, kitBool _, _, rfl, iteF ?_⟩
    refine ⟨_, rfl, _, _, 12, rfl, .dct e nd' r, fun H1 x1 => ⟨_, rfl, iteF ?_⟩⟩
    refine ⟨_, rfl, _, "int", _, _, rfl, hd1 x1, kitInt _, _, rfl, iteF ?_⟩
    refine ⟨_, rfl, _, "list", _, _, rfl, hd1 x1, kitList _, _, rfl, iteF ?_⟩
    refine ⟨_, rfl, _, "dict", _, _, rfl, hd1 x1, kitDict _, _, rfl, iteF ?_⟩
    have e1 : goodB (n + 1) (.dict ds) = (decide (ds.length ≤ 8) && (ds.all (fun p => nameB p.1) && ds.all (fun p => goodB n p.2))) := rfl
    rw [e1] at q
    have eA := x1 _ _ e
    refine ⟨_, rfl, .inl ⟨a, kvs, rfl, eA, _, _, rfl, rfl, _, rfl, ite2 (fun c => ?_) (fun c => ?_)⟩⟩
    · have c' : (8 : Int) < (kvs.length : Int) := of_decide_eq_true c
      rw [r.length] at c'
      rw [decide_eq_false (show ¬ ds.length ≤ 8 by omega), Bool.false_and] at q
      exact q H1 x1
    have c' : ¬ (8 : Int) < (kvs.length : Int) := fun z => c (decide_eq_true z)
    rw [r.length] at c'
    rw [decide_eq_true (show ds.length ≤ 8 by omega), Bool.true_and] at q
    refine .inl ⟨a, .dK kvs, eA, trivial, fun od => ?_⟩
    refine ⟨_, rfl, a, od, rfl, .inl ⟨kvs, upd_same, fun Dl hD => ?_⟩⟩
    have nD : Dl ≠ a := by
      intro z; subst z
      rw [upd_same] at hD; cases hD
    have hD1 : H1 Dl = none := by rw [upd_ne nD] at hD; exact hD
    have hD0 : H Dl = none := ex_none x1 hD1
    -- what stands while the dict is locked
    have keep0 : ∀ b o, b ≠ a → H b = some o → (upd (upd H1 a (.frz od (.dK kvs))) Dl (.lst [])) b = some o := fun b o nb eb => by
      rw [upd_ne (ne_of_none eb hD0), upd_ne nb]; exact x1 _ _ eb
    have at0 : (upd (upd H1 a (.frz od (.dK kvs))) Dl (.lst [])) a = some (.frz od (.dK kvs)) := by
      rw [upd_ne (Ne.symm nD)]; exact upd_same
    refine lc_it walk_keys (fun i H' => (∀ b o, b ≠ a → H b = some o → H' b = some o) ∧ H' a = some (.frz od (.dK kvs)) ∧ ∃ ws, H' Dl = some (.lst ws) ∧ ws.length ≤ i ∧ ws.isEmpty = (ds.take i).all fun p => nameB p.1) ⟨keep0, at0, [], upd_same, Nat.le_refl _, rfl⟩ (fun i H' _ p => p.2.1) (fun i y H2 H3 hi p w => ?_) (fun H2 p => ?_)
    · obtain ⟨kp, ka, ws, l2, hl, hw⟩ := p
      obtain ⟨rfl, k, u, hx, rfl⟩ := w
      obtain ⟨d', hd', hk, _⟩ := r.get hx
      have hs : ((ds.take (i + 1)).all fun p => nameB p.1) = (((ds.take i).all fun p => nameB p.1) && nameB (kPd k)) := by
        rw [take_snoc hd', List.all_append]
        simp
      refine ⟨rfl, _, rfl, kV k, kPd k, 8, rfl, .key hk, fun H4 x4 => ⟨_, rfl, ?_⟩⟩
      have nm : ∀ (y : V), nameB (kPd k) = false → ∃ acc, H4 Dl = some (.lst acc) ∧ acc.length < sizeLine ∧ (∀ b o, b ≠ a → H b = some o → upd H4 Dl (.lst (acc ++ [y])) b = some o) ∧ upd H4 Dl (.lst (acc ++ [y])) a = some (.frz od (.dK kvs)) ∧
          ∃ ws', upd H4 Dl (.lst (acc ++ [y])) Dl = some (.lst ws') ∧ ws'.length ≤ i + 1 ∧ ws'.isEmpty = (ds.take (i + 1)).all fun p => nameB p.1 := fun y z =>
        ⟨ws, x4 _ _ l2, small1000 (by rw [r.length] at hi; omega), (fun b o nb eb => by rw [upd_ne (ne_of_none eb hD0)]; exact x4 _ _ (kp b o nb eb)), (by rw [upd_ne (Ne.symm nD)]; exact x4 _ _ ka), ws ++ [y], upd_same, (by rw [List.length_append]; show ws.length + 1 ≤ i + 1; omega), by rw [hs, z, Bool.and_false]; simp⟩
      have kpq : nameB (kPd k) = true → (∀ b o, b ≠ a → H b = some o → H4 b = some o) ∧ H4 a = some (.frz od (.dK kvs)) ∧ ∃ ws', H4 Dl = some (.lst ws') ∧ ws'.length ≤ i + 1 ∧ ws'.isEmpty = (ds.take (i + 1)).all fun p => nameB p.1 := fun z =>
        ⟨(fun b o nb eb => x4 _ _ (kp b o nb eb)), x4 _ _ ka, ws, x4 _ _ l2, by omega, by rw [hs, z, Bool.and_true]; exact hw⟩
      cases k with
      | inl j => exact iteT (iteT ⟨_, rfl, nm _ rfl⟩)
      | inr x =>
        have g1 : letB 8 (kPd (.inr x)) = okb 8 x := rfl
        have g2 : nameB (kPd (.inr x)) = (okb 8 x && !decide (V.str x = V.str "")) := rfl
        rw [g1]
        rw [g2] at nm kpq
        cases z : okb 8 x with
        | false =>
          rw [z] at nm
          exact iteT (iteT ⟨_, rfl, nm _ rfl⟩)
        | true =>
          rw [z] at nm kpq
          refine iteF ⟨_, rfl, rfl, _, rfl, ?_⟩
          refine ite2 (fun z2 => ?_) (fun z2 => ?_)
          · have z3 : decide (V.str x = V.str "") = true := z2
            rw [z3] at nm
            exact ⟨_, rfl, nm _ rfl⟩
          · have z3 : decide (V.str x = V.str "") = false := by
              cases h : decide (V.str x = V.str "") with
              | false => rfl
              | true => exact absurd h z2
            rw [z3] at kpq
            exact kpq rfl
    · obtain ⟨kp, ka, ws, l2, hl, hw⟩ := p
      rw [r.length, List.take_length] at hw
      refine ⟨ka, ?_⟩
      refine ⟨by decide, fun p2 np2 => ?_⟩
      have x2 : Ex H (upd H2 a (.dK kvs)) := fun b o eb => by
        by_cases h : b = a
        · subst h
          rw [upd_same, ← eb, e]
        · rw [upd_ne h]; exact kp b o h eb
      have l2' : (upd H2 a (.dK kvs)) Dl = some (.lst ws) := by rw [upd_ne nD]; exact l2
      refine ⟨Dl, p2, ws, rfl, rfl, (Ex.new np2) _ _ l2', upd_same, _, rfl, ?_⟩
      have x3 : Ex H (upd (upd H2 a (.dK kvs)) p2 (.lst [])) := x2.trans (Ex.new np2)
      generalize upd (upd H2 a (.dK kvs)) p2 (.lst []) = H5 at *
      rw [← hw] at q
      cases z : ws.isEmpty with
      | false =>
        rw [z, Bool.false_and] at q
        exact iteT (q H5 x3)
      | true =>
      rw [z, Bool.true_and] at q
      refine iteF ?_
      have eB := x3 _ _ e
      refine ⟨a, .dK kvs, eB, trivial, fun od => ?_⟩
      refine ⟨_, rfl, a, od, rfl, .inl ⟨kvs, upd_same, fun Dm hD => ?_⟩⟩
      have nD : Dm ≠ a := by
        intro z; subst z
        rw [upd_same] at hD; cases hD
      have hD1 : H5 Dm = none := by rw [upd_ne nD] at hD; exact hD
      have hD0 : H Dm = none := ex_none x3 hD1
      have keep0 : ∀ b o, b ≠ a → H b = some o → (upd (upd H5 a (.frz od (.dK kvs))) Dm (.lst [])) b = some o := fun b o nb eb => by
        rw [upd_ne (ne_of_none eb hD0), upd_ne nb]; exact x3 _ _ eb
      have at0 : (upd (upd H5 a (.frz od (.dK kvs))) Dm (.lst [])) a = some (.frz od (.dK kvs)) := by
        rw [upd_ne (Ne.symm nD)]; exact upd_same
      refine lc_it walk_keys (fun i H' => (∀ b o, b ≠ a → H b = some o → H' b = some o) ∧ H' a = some (.frz od (.dK kvs)) ∧ H' Dm = some (.lst ((ds.take i).map fun p => .bl (goodB n p.2)))) ⟨keep0, at0, upd_same⟩ (fun i H' _ p => p.2.1) (fun i y H2 H3 hi p w => ?_) (fun H2 p => ?_)
      · obtain ⟨kp, ka, l2⟩ := p
        obtain ⟨rfl, k, u, hx, rfl⟩ := w
        obtain ⟨d', hd', hk, hq⟩ := r.part e nd' hx
        refine ⟨rfl, tyes ?_⟩
        have hq2 : Dt H3 u d' := hq.mono fun b o eb => kp b o (hd_some eb).1 (hd_some eb).2
        refine ⟨_, rfl, _, rfl, a, u, rfl, .inl ⟨kvs, k, .inr ⟨od, ka⟩, rfl, (valV_nd nd' hx).symm⟩, _, rfl, _, _, rfl, rfl, u, d', _, rfl, hn, hq2, fun H4 x4 => ?_⟩
        refine ⟨_, x4 _ _ l2, ?_, (fun b o nb eb => by rw [upd_ne (ne_of_none eb hD0)]; exact x4 _ _ (kp b o nb eb)), (by rw [upd_ne (Ne.symm nD)]; exact x4 _ _ ka), ?_⟩
        · rw [List.length_map, List.length_take]
          exact small1000 (by omega)
        · rw [upd_same, take_snoc hd', List.map_append]
          rfl
      · obtain ⟨kp, ka, l2⟩ := p
        rw [r.length, List.take_length] at l2
        have x4 : Ex H (upd H2 a (.dK kvs)) := fun b o eb => by
          by_cases h : b = a
          · subst h
            rw [upd_same, ← eb, e]
          · rw [upd_ne h]; exact kp b o h eb
        have l3 : (upd H2 a (.dK kvs)) Dm = some (.lst (ds.map fun p => .bl (goodB n p.2))) := by rw [upd_ne nD]; exact l2
        refine ⟨ka, Dm, _, rfl, .inl (SqL.of l3), rfl, flat_bools _ _, ?_⟩
        have := q _ x4
        rw [in_bools]
        simpa using this
end
end Sk

namespace Sk
open PySem PySem.Spec PyProof.Rows L2 Evl
section
variable {P : Program} {w : World} {K : PySem.W.Frag} {mg : Str → Option Value} {base : Heap} {f f1 f2 f3 f4 : Addr} {fd d1 d2 d3 d4 : FuncData}
theorem ok_good0 (F : Fun K "_law_good" "_law_good" sGood f fd) (B : Blt mg) (L : Lt P w K mg base f1 d1 "_law_letters" ["thing", "most"] 1 spLetL) (G : Lt P w K mg base f fd "_law_good" ["thing", "depth"] 1 spNo) : FnOk P w K mg base CX0 2 f fd ["thing", "depth"] (spVW 0) := by
  refine F.ok scGood (fun vs H Q E h => ?_) (fun cdv A outer s H vs Q E hr h => ?_)
  · obtain ⟨a, b, c, rfl, _⟩ := h
    rfl
  have nd := scGood.nd
  have hu : _ < cLine := hr.units
  have hu0 := Nat.lt_of_le_of_lt (Nat.le_add_right _ 64) hu
  have hu1 := hu_of hr
  have hr1 : Room 1 _ := hr.mono (by omega)
  obtain ⟨v, d, m, rfl, hm, hd, q⟩ := h
  refine ⟨_, pss_cons (ps_if (pt_cmpR op_eq (pv 1) pe_int (nomark _)) (pss_one (ps_ret pe_bl)) pss_nil)
    (pss_cons (ps_if (PW.pt (pw_or (pt_val (pe_callB call_isT rfl B.isi bt_isi (pa_cons (pv 0) (pa_cons (pe_bltn (v := .ty "bool") rfl B.bool bt_bool rfl) pa_nil)))) (pw_or1 (pt_val (pe_call L.g hr1 rfl L.m L.k L.b .nil pass0 (pa_cons (pv 0) (pa_cons pe_int pa_nil))))))) (pss_one (ps_ret pe_bl)) pss_nil)
    (pss_cons (ps_if (pt_val (pe_callB call_isT rfl B.isi bt_isi (pa_cons (pv 0) (pa_cons (pe_bltn (v := .ty "int") rfl B.int bt_int rfl) pa_nil)))) (pss_one (ps_ret (pe_cmpR op_le (pe_callB call_abs rfl B.abs bt_abs (pa_cons (pv 0) pa_nil)) (pe_op op_powB pe_int pe_int) (nomark _)))) pss_nil)
    (pss_cons (ps_if (pt_val (pe_callB call_isT rfl B.isi bt_isi (pa_cons (pv 0) (pa_cons (pe_bltn (v := .ty "list") rfl B.list bt_list rfl) pa_nil)))) (pss_one (ps_ret (pe_and (pe_cmpR op_lt (pe_callB call_len_seq rfl B.len PySem.boot_len (pa_cons (pv 0) pa_nil)) pe_int (nomark _))
        (pe_one (pe_cmpR op_notIn_seq pe_bl (pe_lc (own := [("part", 2)]) (g := gName 2) (tt := tYes) rfl nd (pi_list (pv 0)) (blkOk_by (N := ["thing", "depth", "part", "name"]) (sc := defScope sGood) (by decide +kernel)) (fun _ _ _ _ _ => pg_name (i := 2) nd rfl (Or.inl rfl)) (fun _ _ _ _ _ => pts_nil)
          (fun _ _ _ _ _ => pe_call G.g hr rfl G.m G.k G.b .nil pass0 (pa_cons (pv 2) (pa_cons (pe_op op_sub (pv 1) pe_int) pa_nil)))) (by with_unfolding_all rfl)))))) pss_nil)
    (pss_cons (ps_if (PW.pt (pw_or (pt_not (pt_val (pe_callB call_isT rfl B.isi bt_isi (pa_cons (pv 0) (pa_cons (pe_bltn (v := .ty "dict") rfl B.dict bt_dict rfl) pa_nil))))) (pw_or1 (pt_cmpR op_gt (pe_callB (call_lenD.or call_lenN) rfl B.len PySem.boot_len (pa_cons (pv 0) pa_nil)) pe_int (nomark _))))) (pss_one (ps_ret pe_bl)) pss_nil)
    (pss_cons (ps_if (pt_cmpR (op_neNil hu0) (PE.or
          (pe_lock (pe_lc (own := [("name", 3)]) (g := gName 3) rfl nd (pi_keys (pv 0)) (blkOk_by (N := ["thing", "depth", "part", "name"]) (sc := defScope sGood) (by decide +kernel)) (fun _ _ _ _ _ => pg_name (i := 3) nd rfl (Or.inl rfl))
            (fun _ _ _ _ _ => pts_one (PW.pt (pw_or (pt_not (pt_val (pe_call L.g hr1 rfl L.m L.k L.b .nil pass0 (pa_cons (pv 3) (pa_cons pe_int pa_nil))))) (pw_or1 (pt_cmpR op_eq (pv 3) pe_str (nomark _)))))) (fun _ _ _ _ _ => pv 3)))
          (pe_lc (own := [("name", 3)]) (g := gName 3) rfl nd (pi_none (pv 0)) (blkOk_by (N := ["thing", "depth", "part", "name"]) (sc := defScope sGood) (by decide +kernel)) (fun _ _ _ _ _ => pg_name (i := 3) nd rfl (Or.inl rfl))
            (fun _ _ _ _ _ => pts_one (PW.pt (pw_or (pt_not (pt_val (pe_call L.g hr1 rfl L.m L.k L.b .nil pass0 (pa_cons (pv 3) (pa_cons pe_int pa_nil))))) (pw_or1 (pt_cmpR op_eq (pv 3) pe_str (nomark _)))))) (fun _ _ _ _ _ => pv 3))) (pe_lst pa_nil) (nomark _)) (pss_one (ps_ret pe_bl)) pss_nil)
    (pss_one (ps_ret (pe_cmpR op_notIn_seq pe_bl (pe_lock (pe_lc (own := [("name", 3)]) (g := gName 3) (tt := tYes) rfl nd (pi_keys (pv 0)) (blkOk_by (N := ["thing", "depth", "part", "name"]) (sc := defScope sGood) (by decide +kernel)) (fun _ _ _ _ _ => pg_name (i := 3) nd rfl (Or.inl rfl)) (fun _ _ _ _ _ => pts_nil)
          (fun _ _ _ _ _ => pe_call G.g hr rfl G.m G.k G.b .nil pass0 (pa_cons (pe_dget hu1 (pv 0) (pv 3) (fun _ _ => rfl)) (pa_cons (pe_op op_sub (pv 1) pe_int) pa_nil))))) (by with_unfolding_all rfl))))))))), ?_⟩
  subst hm
  exact ⟨_, rfl, rfl, _, rfl, iteT (q H (Ex.refl _))⟩
theorem ok_good (F : Fun K "_law_good" "_law_good" sGood f fd) (b : Binds K fd ["thing", "depth"] []) (k : PySem.W.keepIn K (.ref f) = true) (m : mg "_law_good" = some (.ref f)) (B : Blt mg) (L : Lt P w K mg base f1 d1 "_law_letters" ["thing", "most"] 1 spLetL) :
    ∀ n, FnOk P w K mg base CX0 (n + 2) f fd ["thing", "depth"] (spVW n)
  | 0 => ok_good0 F B L ⟨ok_no, b, k, m⟩
  | n + 1 => ok_goodS F B L ⟨ok_good F b k m B L n, b, k, m⟩
theorem ok_vw (F : Fun K "is_value_within" "is_value_within" sVW f fd) (b : Binds K fd ["thing", "depth"] []) (kk : PySem.W.keepIn K (.ref f) = true) (m : mg "is_value_within" = some (.ref f)) (B : Blt mg) (G : Glb mg)
    (F1 : Fun K "are_values_within" "are_values_within" sVsW f1 d1) (b1 : Binds K d1 ["things", "depth"] []) (k1 : PySem.W.keepIn K (.ref f1) = true) (m1 : mg "are_values_within" = some (.ref f1))
    (L2 : Lt P w K mg base f2 d2 "are_names" ["things"] 3 spNms) (L3 : Lt P w K mg base f3 d3 "is_whole" ["thing"] 1 spWhole) (L4 : Lt P w K mg base f4 d4 "is_letters" ["thing", "most"] 1 spLet) :
    ∀ n, FnOk P w K mg base CX0 (2 * n + 4) f fd ["thing", "depth"] (spVW n)
  | 0 => ok_vw0 (k := 0) F B G ⟨ok_no, b1, k1, m1⟩ L2 L3 L4
  | n + 1 => ok_vwS (k := 2 * n + 2) F B G ⟨ok_vs F1 ⟨ok_vw F b kk m B G F1 b1 k1 m1 L2 L3 L4 n, b, kk, m⟩, b1, k1, m1⟩ L2 L3 L4
end
/-- list(text) -/
theorem sign_vals {x : Str} : ∀ (l : List Value) (cs : List Nat), l.length = cs.length → (∀ (j : Nat) (v : Value), l[j]? = some v → ∃ (c : Nat) (u : Tok), cs[j]? = some c ∧ v = .str ⟨#[c]⟩ u) → Vals (cs.map fun c => V.str ⟨#[c]⟩) l
  | [], [], _, _ => .nil
  | v :: l, c :: cs, h, g => by
    obtain ⟨c', u, e, rfl⟩ := g 0 v rfl
    cases e
    exact .cons ⟨u, rfl⟩ (sign_vals (x := x) l cs (Nat.succ.inj h) fun j v e => by
      obtain ⟨c, u, h1, h2⟩ := g (j + 1) v (by simpa using e)
      exact ⟨c, u, by simpa using h1, h2⟩)
theorem call_listS {X : Cx} (hc : X.calm = true) : CallR X (.type "list") (fun xs H Q => ∃ x : Str, xs = [.str x] ∧ x.length ≤ sizeLine ∧ ∀ p, H p = none → Q (.ref p) (upd H p (.lst (x.cps.toList.map fun c => V.str ⟨#[c]⟩)))) := by
  intro pins s σ H xs us Q I r h
  obtain ⟨x, rfl, hz, q⟩ := h
  obtain ⟨u, rfl, t, rfl⟩ := vals1 r
  refine call_list_str (I.ok.hd hc) x t (fun h' tk acc' c' hk hD hacc => ?_) hz
  have hl : acc'.toList.length = x.cps.toList.length := by rw [Array.length_toList, hacc.1]; simp
  have hv := sign_vals (x := x) acc'.toList x.cps.toList hl fun j v e => by
    obtain ⟨c, u, h1, h2⟩ := hacc.2 j v (by rw [← Array.getElem?_toList]; exact e)
    exact ⟨c, u, by rw [Array.getElem?_toList]; exact h1, h2⟩
  exact ⟨.ref _, upd H _ (.lst (x.cps.toList.map fun c => V.str ⟨#[c]⟩)), I.laid (t' := tk) hk (Nat.le_refl _) (show ObjOk X.prog X.w _ _ _ (.lst (x.cps.toList.map fun c => V.str ⟨#[c]⟩)) from ⟨by rw [List.length_map, Array.length_toList]; exact hz, acc'.toList, c', hv, by rw [Array.toArray_toList]; exact hD⟩), rfl, q _ (I.hok.fresh (Nat.le_refl _))⟩
/-! ### what is written out is made of new objects -/
def Lit (te : TE) (σ : L2.St) (d : PyData) : Prop := ∀ H Q, (∀ v H', Ex H H' → Dt (Nw H H') v d → Q v H') → te σ H Q
def Lits (ta : TA) (σ : L2.St) (ds : List PyData) : Prop := ∀ H Q, (∀ vs H', Ex H H' → DtAll (Nw H H') vs ds → Q vs H') → ta σ H Q
theorem nw_up {G H H' : Hp} (x : Ex H H') : Ex (Nw G H) (Nw G H') := fun b o e => nw_of (nw_some e).1 (x _ _ (nw_some e).2)
theorem nw_dn {G G' H : Hp} (x : Ex G G') : Ex (Nw G' H) (Nw G H) := nw_back fun a h => ex_none x h
section
variable {σ : L2.St} {te tv : TE} {ta : TA} {d : PyData} {ds : List PyData}
theorem lits_nil : Lits tNil σ [] := fun H Q h => h [] H (Ex.refl _) .nil
theorem lits_cons (h : Lit te σ d) (h2 : Lits ta σ ds) : Lits (tCons te ta) σ (d :: ds) := fun H Q q => h H _ fun v H1 x1 a => h2 H1 _ fun vs H2 x2 b => q (v :: vs) H2 (x1.trans x2) (.cons (a.mono (nw_up x2)) (b.mono (nw_dn x1)))
theorem lit_int {i : Int} : Lit (tC (.int i)) σ (.int i) := fun H Q q => q _ H (Ex.refl _) (.int i)
theorem lit_bl {i : Bool} : Lit (tC (.bl i)) σ (.bool i) := fun H Q q => q _ H (Ex.refl _) (.bl i)
theorem lit_non : Lit (tC .non) σ .none := fun H Q q => q _ H (Ex.refl _) .non
theorem lit_str {x : Str} (h : x.length ≤ 1000 := by decide) : Lit (tC (.str x)) σ (.str x) := fun H Q q => q _ H (Ex.refl _) (.str x h)
theorem lit_var {i : Nat} {x : Str} (e : σ[i]? = some (some (.str x))) (h : x.length ≤ 1000) : Lit (tVar i) σ (.str x) := fun H Q q => ⟨_, e, q _ H (Ex.refl _) (.str x h)⟩
theorem lit_lst (h : Lits ta σ ds) (hl : ds.length ≤ sizeLine) : Lit (tLst ta) σ (.list ds) := fun H Q q => h H _ fun vs H1 x1 a => ⟨by rw [a.length]; exact hl, fun p np => q _ _ (x1.trans (Ex.new np)) (.lst (nw_of (ex_none x1 np) upd_same) (a.mono (nw_new np)))⟩
theorem lit_tup (h : Lits ta σ ds) (hl : ds.length ≤ sizeLine) : Lit (tTup ta) σ (.tuple ds) := fun H Q q => h H _ fun vs H1 x1 a => ⟨by rw [a.length]; exact hl, fun p np => q _ _ (x1.trans (Ex.new np)) (.tup (nw_of (ex_none x1 np) upd_same) (a.mono (nw_new np)))⟩
theorem lit_dnew : Lit tDNewK σ (.dict []) := fun H Q q p np => q _ _ (Ex.new np) (.dct (nw_of np upd_same) (by simp) .nil)
/-- a key that is reckoned without the heap -/
def Kt (tk : TE) (σ : L2.St) (k : Key) : Prop := ∀ H Q, Q (kV k) H → tk σ H Q
theorem kt_str {x : Str} : Kt (tC (.str x)) σ (.inr x) := fun H Q q => q
theorem kt_int {i : Int} : Kt (tC (.int i)) σ (.inl i) := fun H Q q => q
theorem lit_disp {tk : TE} {k : Key} (ht : Kt tk σ k) (hk : kSh k) (h : Lit tv σ d) : Lit (tDisp [(tk, tv)]) σ (.dict [(kPd k, d)]) := fun H Q q p np => ht _ _ <| h _ _ fun v H1 x1 a => by
  have hp : H1 p = some (.dK []) := x1 _ _ upd_same
  have x2 : Ex H (upd H1 p (.dK [(k, v)])) := fun b o e => by
    have n : b ≠ p := ne_of_none e np
    rw [upd_ne n]; exact x1 _ _ (by rw [upd_ne n]; exact e)
  refine ⟨hp, [(k, v)], rfl, by simp, ?_⟩
  refine q _ _ x2 (.dct (kvs := [(k, v)]) (nw_of np upd_same) (by simp) (.cons hk (a.mono fun b o e => ?_) .nil))
  obtain ⟨h1, h2⟩ := nw_some e
  have n : b ≠ p := by intro z; subst z; rw [upd_same] at h1; cases h1
  exact nw_of (by rw [upd_ne n] at h1; exact h1) (by rw [upd_ne n]; exact h2)
theorem lit_dispN : Lit (tDispN (tC (.int 0))) σ (.dict [(.none, .int 0)]) := fun H Q q p np => ⟨upd_same, rfl, fun o => q _ _ (fun b u e => by
  have n : b ≠ p := ne_of_none e np
  rw [upd_ne n, upd_ne n]; exact e) (.dn (nw_of np upd_same))⟩
end
end Sk

namespace Sk
open PySem PySem.Spec PyProof.Rows L2 Evl
abbrev sOdd : Stmt := topS 20
theorem scOdd : FnScope ["stream", "word", "some", "sign", "letter"] ["stream"] (defScope sOdd) := ⟨rfl, rfl, rfl, by decide +kernel, rfl, by decide +kernel, by decide +kernel⟩
def smB (d : PyData) : Bool := d.showable && decide (d.shown.length ≤ 122) && decide (d.depth ≤ 8)
def spOdd : Sp := fun vs H Q _ => ∃ st : Addr, vs = [.ref st] ∧ Strm st H ∧ ∀ v d H', Dt (Nw H H') v d → smB d = true → Aft st H H' → Q v H'
section
variable {σ : L2.St} {te : TE}
theorem lit_of {i : Int} (h : ∀ H Q, Q (.int i) H → te σ H Q) : Lit te σ (.int i) := fun H Q q => h H Q (q _ H (Ex.refl _) (.int i))
theorem kS {x : Str} (h : x.length ≤ 1000 := by decide) : kSh (.inr x) := h
theorem lit_one {ta : TA} {d : PyData} (h : Lits ta σ [d]) : Lit (tLst ta) σ (.list [d]) := lit_lst h (show 1 ≤ sizeLine by decide)
theorem zeros {H : Hp} : ∀ n : Nat, DtAll H (List.replicate n [V.int 0]).flatten (List.replicate n (.int 0))
  | 0 => .nil
  | n + 1 => .cons (.int 0) (zeros n)
theorem lit_rep {k : Int} (h0 : 0 ≤ k) (h1 : k ≤ 100) : Lit (tOp rRep (tLst (tCons (tC (.int 0)) tNil)) (tC (.int k))) σ (.list (List.replicate k.toNat (.int 0))) := fun H Q q =>
  ⟨by show 1 ≤ sizeLine; decide, fun p np => ⟨p, k, [.int 0], rfl, rfl, upd_same, by omega, by omega, by rw [sizeLine_eq]; show 1 * k.toNat ≤ _; omega, fun p2 np2 => q _ _ ((Ex.new np).trans (Ex.new np2)) (.lst (nw_of (upd_none np2) upd_same) (zeros _))⟩⟩
end
theorem _root_.Sk.Aft.ex {st : Addr} {H H1 H2 : Hp} (a : Aft st H H1) (x : Ex H1 H2) : Aft st H H2 := a.trans ⟨gr_ex x, by
  obtain ⟨d, sd, e, r⟩ := a.sm
  exact ⟨d, sd, x _ _ e, r⟩⟩
theorem _root_.Sk.Aft.dn {st : Addr} {G H1 H2 : Hp} (a : Aft st G H1) : Ex (Nw H1 H2) (Nw G H2) := nw_back fun _ z => a.none z
theorem paired_snoc {α β : Type} {F : α → β → Prop} : ∀ {l : List α} {m : List β}, Paired F l m → ∀ {a b}, F a b → Paired F (l ++ [a]) (m ++ [b])
  | _, _, .nil, _, _, h => .cons h .nil
  | _, _, .cons x r, _, _, h => .cons x (paired_snoc r h)
def words : List Str := ["abcdefghijklm", "aB", "a b", "a-", "abcdefghijkl", "", "a1"]
def marks : List Str := ((Str.ofString " !#&*+-./09:;<=>?@AZ[]^_{|}~").cps.toList.map fun c => (⟨#[c]⟩ : Str)) ++ (["\n", "\t", "\"", "'"] : List Str)
def dsA (w : Str) : List PyData := [.int (10 ^ (9 : Int).toNat + 1), .int (0 - 10 ^ (9 : Int).toNat - 1), .int (10 ^ (59 : Int).toNat), .none, .tuple [], .tuple [.int 1], .str w, .list [.str w], .list (List.replicate (9 : Int).toNat (.int 0)), .list (List.replicate (8 : Int).toNat (.int 0)), .dict [(.str "a", .str w)]]
def nest : Nat → PyData → PyData
  | 0, d => d
  | n + 1, d => .list [nest n d]
def dsB : List PyData := [.dict [(.str "", .int 1)], .dict [(.int 1, .int 1)], .dict [(.str "abcdefghi", .int 1)], .dict [(.str "abcdefgh", .int 1)], .dict [(.str "A", .int 1)], .dict [(.str "a", .none)], nest 6 (.list [])]
def dsC : List PyData := [nest 5 (.list []), .dict [(.str "a", .tuple [.int 1])], nest 5 (.dict [(.str "a", .dict [])]), .dict [(.none, .int 0)]]
def dsD (s : Str) : List PyData := [.str ("a" ++ s), .str (s ++ "b"), .dict [(.str ("a" ++ s), .int 1)], .str s]
def nine : List (Key × V) := (Str.ofString "abcdefghi").cps.toList.map fun c => (.inr ⟨#[c]⟩, .int 0)
def nineD : PyData := .dict ((Str.ofString "abcdefghi").cps.toList.map fun c => (.str ⟨#[c]⟩, .int 0))
theorem nine_merge : mergeK [] nine = nine := by decide +kernel
theorem nine_dt {H : Hp} : ∀ cs : List Nat, DtKv H (cs.map fun c => (.inr ⟨#[c]⟩, .int 0)) (cs.map fun c => (.str ⟨#[c]⟩, .int 0))
  | [] => .nil
  | _ :: r => .cons (k := .inr _) (show (1 : Nat) ≤ 1000 by decide) (.int 0) (nine_dt r)
theorem sm9 : smB nineD = true := by decide +kernel
theorem nine_nd : (nine.map (·.1)).Nodup := by decide +kernel
theorem smA : ∀ w ∈ words, (dsA w).all smB = true := by decide +kernel
theorem smBB : dsB.all smB = true := by decide +kernel
theorem smC : dsC.all smB = true := by decide +kernel
theorem smD : ∀ s ∈ marks, (dsD s).all smB = true := by decide +kernel
theorem words_len : ∀ w ∈ words, w.length ≤ 1000 := by decide +kernel
theorem marks_len : ∀ w ∈ marks, w.length ≤ 1 := by decide +kernel
section
variable {P : Program} {w : World} {K : PySem.W.Frag} {mg : Str → Option Value} {base : Heap} {f fD fC : Addr} {fd dD dC : FuncData}
theorem ok_odd (F : Fun K "_law_odd" "_law_odd" sOdd f fd) (W : Drw P w K mg base fD fC dD dC) (B : Blt mg) : FnOk P w K mg base CX0 3 f fd ["stream"] spOdd := by
  refine F.ok scOdd (fun vs H Q E h => ?_) (fun cdv A outer s H vs Q E hr h => ?_)
  · obtain ⟨a, rfl, _⟩ := h
    rfl
  have nd := scOdd.nd
  obtain ⟨st, rfl, hst, q⟩ := h
  refine ⟨_, pss_cons (ps_set (i := 1) nd rfl (Or.inl rfl) (pe_call W.gC hr rfl W.mC W.kC W.bC .nil pass0 (pa_cons (pv 0) (pa_cons (pe_lst (pa_cons pe_str (pa_cons pe_str (pa_cons pe_str (pa_cons pe_str (pa_cons pe_str (pa_cons pe_str (pa_cons pe_str pa_nil)))))))) pa_nil))))
    (pss_cons (ps_set (i := 2) nd rfl (Or.inl rfl) (pe_lst (pa_cons (pe_op op_add (pe_op op_powB pe_int pe_int) pe_int) (pa_cons (pe_op op_sub (pe_op op_sub pe_int (pe_op op_powB pe_int pe_int)) pe_int) (pa_cons (pe_op op_powB pe_int pe_int) (pa_cons pe_non
        (pa_cons (pe_tup pa_nil) (pa_cons (pe_tup (pa_cons pe_int pa_nil)) (pa_cons (pv 1) (pa_cons (pe_lst (pa_cons (pv 1) pa_nil)) (pa_cons (pe_op op_rep (pe_lst (pa_cons pe_int pa_nil)) pe_int) (pa_cons (pe_op op_rep (pe_lst (pa_cons pe_int pa_nil)) pe_int)
        (pa_cons (pe_disp (pps_cons pe_str (pv 1) pps_nil) rfl rfl (by simp) (by simp)) pa_nil)))))))))))))
    (pss_cons (ps_set (i := 2) nd rfl (Or.inl rfl) (pe_op op_cat (pv 2) (pe_lst (pa_cons (pe_disp (pps_cons pe_str pe_int pps_nil) rfl rfl (by simp) (by simp)) (pa_cons (pe_disp (pps_cons pe_int pe_int pps_nil) rfl rfl (by simp) (by simp))
        (pa_cons (pe_disp (pps_cons pe_str pe_int pps_nil) rfl rfl (by simp) (by simp)) (pa_cons (pe_disp (pps_cons pe_str pe_int pps_nil) rfl rfl (by simp) (by simp)) (pa_cons (pe_disp (pps_cons pe_str pe_int pps_nil) rfl rfl (by simp) (by simp))
        (pa_cons (pe_disp (pps_cons pe_str pe_non pps_nil) rfl rfl (by simp) (by simp)) (pa_cons (pe_lst (pa_cons (pe_lst (pa_cons (pe_lst (pa_cons (pe_lst (pa_cons (pe_lst (pa_cons (pe_lst (pa_cons (pe_lst pa_nil) pa_nil)) pa_nil)) pa_nil)) pa_nil)) pa_nil)) pa_nil)) pa_nil))))))))))
    (pss_cons (ps_set (i := 2) nd rfl (Or.inl rfl) (pe_op op_cat (pv 2) (pe_lst (pa_cons (pe_lst (pa_cons (pe_lst (pa_cons (pe_lst (pa_cons (pe_lst (pa_cons (pe_lst (pa_cons (pe_lst pa_nil) pa_nil)) pa_nil)) pa_nil)) pa_nil)) pa_nil))
        (pa_cons (pe_disp (pps_cons pe_str (pe_tup (pa_cons pe_int pa_nil)) pps_nil) rfl rfl (by simp) (by simp))
        (pa_cons (pe_lst (pa_cons (pe_lst (pa_cons (pe_lst (pa_cons (pe_lst (pa_cons (pe_lst (pa_cons (pe_disp (pps_cons pe_str pe_dnewK pps_nil) rfl rfl (by simp) (by simp)) pa_nil)) pa_nil)) pa_nil)) pa_nil)) pa_nil))
        (pa_cons (pe_dispN pe_int) pa_nil)))))))
    (pss_cons (ps_set (i := 3) nd rfl (Or.inl rfl) (pe_call W.gC hr rfl W.mC W.kC W.bC .nil pass0 (pa_cons (pv 0) (pa_cons (pe_op op_cat (pe_callTy (call_listS rfl) rfl B.list bt_list (pa_cons pe_str pa_nil)) (pe_lst (pa_cons pe_str (pa_cons pe_str (pa_cons pe_str (pa_cons pe_str pa_nil)))))) pa_nil))))
    (pss_cons (ps_set (i := 2) nd rfl (Or.inl rfl) (pe_op op_cat (pv 2) (pe_lst (pa_cons (pe_op op_add_str pe_str (pv 3)) (pa_cons (pe_op op_add_str (pv 3) pe_str) (pa_cons (pe_disp (pps_cons (pe_op op_add_str pe_str (pv 3)) pe_int pps_nil) rfl rfl (by simp) (by simp)) (pa_cons (pv 3) pa_nil)))))))
    (pss_one (ps_ret (pe_call W.gC hr rfl W.mC W.kC W.bC .nil pass0 (pa_cons (pv 0) (pa_cons (pe_op op_cat (pv 2) (pe_lst (pa_cons (pe_callTy (call_dictP rfl) rfl B.dict bt_dict (pa_cons (pe_lc (own := [("letter", 4)]) (g := gName 4) (tt := tYes) rfl nd (pi_str pe_str)
        (blkOk_by (N := ["stream", "word", "some", "sign", "letter"]) (sc := defScope sOdd) (by decide +kernel)) (fun _ _ _ _ _ => pg_name (i := 4) nd rfl (Or.inl rfl)) (fun _ _ _ _ _ => pts_nil) (fun _ _ _ _ _ => pe_tup (pa_cons (pv 4) (pa_cons pe_int pa_nil)))) pa_nil)) pa_nil))) pa_nil)))))))))), ?_⟩
  -- word
  refine ⟨_, rfl, by show 7 ≤ sizeLine; decide, fun p np => ?_⟩
  refine ⟨st, _, fun v => ∃ w ∈ words, v = .str w, rfl, hst.new np, chs_new hst np (by simp) (by simp) ?_, fun v H1 hv A1 => ?_⟩
  · intro v hv
    simp only [List.mem_cons, List.not_mem_nil, or_false] at hv
    rcases hv with rfl | rfl | rfl | rfl | rfl | rfl | rfl <;> exact ⟨_, by decide +kernel, rfl⟩
  obtain ⟨w, hw, rfl⟩ := hv
  have B1 : Aft st H H1 := ((Aft.of hst).new np).trans A1
  have p9 : CPowB 10 9 := by refine ⟨by decide, by decide +kernel⟩
  have p59 : CPowB 10 59 := by refine ⟨by decide, by decide +kernel⟩
  have hwl := words_len w hw
  -- some
  dsimp only [gName, tSeq, tAsg, List.set]
  refine lit_lst (ds := dsA w) ?_ (by show 11 ≤ sizeLine; decide) _ _ fun v H2 x2 a2 => ?_
  · exact lits_cons (lit_of fun H Q q => ⟨_, _, rfl, rfl, p9, _, _, rfl, rfl, q⟩) (lits_cons (lit_of fun H Q q => ⟨_, _, rfl, rfl, p9, _, _, rfl, rfl, _, _, rfl, rfl, q⟩) (lits_cons (lit_of fun H Q q => ⟨_, _, rfl, rfl, p59, q⟩) (lits_cons lit_non (lits_cons (lit_tup lits_nil (by decide))
      (lits_cons (lit_tup (lits_cons lit_int lits_nil) (by decide)) (lits_cons (lit_var rfl hwl) (lits_cons (lit_one (lits_cons (lit_var rfl hwl) lits_nil)) (lits_cons (lit_rep (by decide) (by decide)) (lits_cons (lit_rep (by decide) (by decide)) (lits_cons (lit_disp kt_str kS (lit_var rfl hwl)) lits_nil))))))))))
  cases a2 with
  | lst e2 r2 =>
  rename_i a xs
  have q2 : DtAll (Nw H H2) xs (dsA w) := r2.mono B1.dn
  have l2 := q2.length
  have A2 := B1.ex x2
  replace e2 := (nw_some e2).2
  -- some + ..
  refine ⟨_, rfl, lit_lst (ds := dsB) ?_ (by show 7 ≤ sizeLine; decide) _ _ fun v H3 x3 a3 => ?_⟩
  · exact lits_cons (lit_disp kt_str kS lit_int) (lits_cons (lit_disp kt_int trivial lit_int) (lits_cons (lit_disp kt_str kS lit_int) (lits_cons (lit_disp kt_str kS lit_int) (lits_cons (lit_disp kt_str kS lit_int) (lits_cons (lit_disp kt_str kS lit_non) (lits_cons (lit_one (lits_cons (lit_one (lits_cons (lit_one (lits_cons (lit_one (lits_cons (lit_one (lits_cons (lit_one (lits_cons (lit_lst lits_nil (by decide)) lits_nil)) lits_nil)) lits_nil)) lits_nil)) lits_nil)) lits_nil)) lits_nil))))))
  cases a3 with
  | lst e3 r3 =>
  rename_i b ys
  have l3 := r3.length
  have hl : (xs ++ ys).length = 18 := by rw [List.length_append, l2, l3]; rfl
  rw [List.length_append] at hl
  refine ⟨a, b, xs, ys, rfl, rfl, x3 _ _ e2, (nw_some e3).2, by rw [hl]; decide, fun p3 np3 => ?_⟩
  have A3 := (A2.ex x3).new (o := .lst (xs ++ ys)) np3
  have q3 : DtAll (Nw H (upd H3 p3 (.lst (xs ++ ys)))) (xs ++ ys) (dsA w ++ dsB) := ((q2.mono (nw_up x3)).app (r3.mono A2.dn)).mono (nw_new np3)
  have e4 : (upd H3 p3 (.lst (xs ++ ys))) p3 = some (.lst (xs ++ ys)) := upd_same
  have l4 := q3.length
  generalize xs ++ ys = zs at *
  generalize upd H3 p3 (.lst zs) = H4 at *
  -- some + ..
  refine ⟨_, rfl, lit_lst (ds := dsC) ?_ (by show 4 ≤ sizeLine; decide) _ _ fun v H5 x5 a5 => ?_⟩
  · exact lits_cons (lit_one (lits_cons (lit_one (lits_cons (lit_one (lits_cons (lit_one (lits_cons (lit_one (lits_cons (lit_lst lits_nil (by decide)) lits_nil)) lits_nil)) lits_nil)) lits_nil)) lits_nil)) (lits_cons (lit_disp kt_str kS (lit_tup (lits_cons lit_int lits_nil) (by decide))) (lits_cons (lit_one (lits_cons (lit_one (lits_cons (lit_one (lits_cons (lit_one (lits_cons (lit_one (lits_cons (lit_disp kt_str kS lit_dnew) lits_nil)) lits_nil)) lits_nil)) lits_nil)) lits_nil)) (lits_cons lit_dispN lits_nil)))
  cases a5 with
  | lst e5 r5 =>
  rename_i b2 ys2
  have l5 := r5.length
  have hl2 : (zs ++ ys2).length = 22 := by rw [List.length_append, l4, l5]; rfl
  rw [List.length_append] at hl2
  refine ⟨p3, b2, zs, ys2, rfl, rfl, x5 _ _ e4, (nw_some e5).2, by rw [hl2]; decide, fun p5 np5 => ?_⟩
  have A5 := (A3.ex x5).new (o := .lst (zs ++ ys2)) np5
  have q5 : DtAll (Nw H (upd H5 p5 (.lst (zs ++ ys2)))) (zs ++ ys2) (dsA w ++ dsB ++ dsC) := ((q3.mono (nw_up x5)).app (r5.mono A3.dn)).mono (nw_new np5)
  have e6 : (upd H5 p5 (.lst (zs ++ ys2))) p5 = some (.lst (zs ++ ys2)) := upd_same
  have n5 : p5 ≠ st := (A3.ex x5).sm.ne np5
  have l6 := q5.length
  generalize zs ++ ys2 = us at *
  generalize upd H5 p5 (.lst us) = H6 at *
  -- sign
  refine ⟨_, rfl, _, rfl, by decide, fun p6 np6 => ?_⟩
  refine ⟨by show 4 ≤ sizeLine; decide, fun p7 np7 => ?_⟩
  refine ⟨p6, p7, _, _, rfl, rfl, (Ex.new np7) _ _ upd_same, upd_same, by decide +kernel, fun p8 np8 => ?_⟩
  have A8 := ((A5.new (o := .lst ((Str.ofString " !#&*+-./09:;<=>?@AZ[]^_{|}~").cps.toList.map fun c => V.str ⟨#[c]⟩)) np6).new (o := .lst [V.str "\n", V.str "\t", V.str "\"", V.str "'"]) np7)
  refine ⟨st, _, fun v => ∃ s ∈ marks, v = .str s, rfl, A8.sm.new np8, chs_new A8.sm np8 (by simp) (by decide +kernel) ?_, fun v H7 hv A7 => ?_⟩
  · intro v hv
    rcases List.mem_append.mp hv with hv | hv
    · obtain ⟨c, hc, rfl⟩ := List.mem_map.mp hv
      exact ⟨_, List.mem_append.mpr (.inl (List.mem_map.mpr ⟨c, hc, rfl⟩)), rfl⟩
    · simp only [List.mem_cons, List.not_mem_nil, or_false] at hv
      rcases hv with rfl | rfl | rfl | rfl <;> exact ⟨_, List.mem_append.mpr (.inr (by decide +kernel)), rfl⟩
  obtain ⟨sg, hsg, rfl⟩ := hv
  have hs1 := marks_len sg hsg
  have hlA : (Str.ofString "a" ++ sg).length ≤ 1000 := by
    rw [strLen_append]
    have : (Str.ofString "a").length = 1 := rfl
    omega
  have hlB : (sg ++ Str.ofString "b").length ≤ 1000 := by
    rw [strLen_append]
    have : (Str.ofString "b").length = 1 := rfl
    omega
  have hz : (Str.ofString "a").length + sg.length ≤ sizeLine := by
    have : (Str.ofString "a").length = 1 := rfl
    rw [sizeLine_eq]; omega
  have hz2 : sg.length + (Str.ofString "b").length ≤ sizeLine := by
    have : (Str.ofString "b").length = 1 := rfl
    rw [sizeLine_eq]; omega
  have A67 : Aft st H6 H7 := ((((Aft.of A5.sm).new (o := .lst ((Str.ofString " !#&*+-./09:;<=>?@AZ[]^_{|}~").cps.toList.map fun c => V.str ⟨#[c]⟩)) np6).new (o := .lst [V.str "\n", V.str "\t", V.str "\"", V.str "'"]) np7).new np8).trans A7
  have A9 := A5.trans A67
  have e7 := A67.at n5 e6
  have q7 : DtAll (Nw H H7) us (dsA w ++ dsB ++ dsC) := q5.mono (nw_aft hst A67)
  -- some + ..
  refine ⟨_, rfl, lit_lst (ds := dsD sg) ?_ (by show 4 ≤ sizeLine; decide) _ _ fun v H10 x10 a10 => ?_⟩
  · exact lits_cons (fun H Q q => ⟨_, rfl, _, _, rfl, rfl, hz, q _ H (Ex.refl _) (.str _ hlA)⟩) (lits_cons (fun H Q q => ⟨_, rfl, _, _, rfl, rfl, hz2, q _ H (Ex.refl _) (.str _ hlB)⟩) (lits_cons (lit_disp (k := .inr (Str.ofString "a" ++ sg)) (fun H Q q => ⟨_, rfl, _, _, rfl, rfl, hz, q⟩) hlA lit_int) (lits_cons (lit_var rfl (by omega)) lits_nil)))
  cases a10 with
  | lst e10 r10 =>
  rename_i b3 ys3
  have l10 := r10.length
  have hl3 : (us ++ ys3).length = 26 := by rw [List.length_append, l6, l10]; rfl
  rw [List.length_append] at hl3
  refine ⟨p5, b3, us, ys3, rfl, rfl, x10 _ _ e7, (nw_some e10).2, by rw [hl3]; decide, fun p11 np11 => ?_⟩
  have A11 := (A9.ex x10).new (o := .lst (us ++ ys3)) np11
  have q11 : DtAll (Nw H (upd H10 p11 (.lst (us ++ ys3)))) (us ++ ys3) (dsA w ++ dsB ++ dsC ++ dsD sg) := ((q7.mono (nw_up x10)).app (r10.mono A9.dn)).mono (nw_new np11)
  have e11 : (upd H10 p11 (.lst (us ++ ys3))) p11 = some (.lst (us ++ ys3)) := upd_same
  have l11 := q11.length
  generalize us ++ ys3 = ts at *
  generalize upd H10 p11 (.lst ts) = H11 at *
  -- the last choice
  refine ⟨_, rfl, _, rfl, _, rfl, fun Dl hD => ?_⟩
  refine lc_it walk_str (fun i H' => Ex H11 H' ∧ ∃ ps : List Addr, H' Dl = some (.lst (ps.map V.ref)) ∧ ps.length = i ∧ Paired (fun p kv => Nw H11 H' p = some (.tup [kV kv.1, kv.2])) ps (nine.take i)) ⟨Ex.new hD, [], upd_same, rfl, .nil⟩ (fun _ _ _ _ => trivial) (fun i y H12 H' hi p w => ?_) (fun H12 p => ?_)
  · obtain ⟨x12, ps, l, hp, hP⟩ := p
    obtain ⟨rfl, c, hc, rfl⟩ := w
    refine ⟨rfl, tyes ?_⟩
    refine ⟨_, rfl, by show 2 ≤ sizeLine; decide, fun T nT => ?_⟩
    have i9 : i < 9 := hi
    have TD : Dl ≠ T := ne_of_none l nT
    have x13 : Ex H11 (upd (upd H' T (.tup [.str ⟨#[c]⟩, .int 0])) Dl (.lst (ps.map V.ref ++ [.ref T]))) := ex_mut (x12.trans (Ex.new nT)) hD
    refine ⟨_, (Ex.new nT) _ _ l, by rw [List.length_map, hp]; exact small1000 (by omega), x13, ps ++ [T], ?_, ?_, ?_⟩
    · rw [upd_same, List.map_append]; rfl
    · rw [List.length_append, hp]; rfl
    · have hn : nine[i]? = some ((.inr ⟨#[c]⟩ : Key), V.int 0) := by
        unfold nine
        rw [List.getElem?_map]
        have : (Str.ofString "abcdefghi").cps.toList[i]? = some c := by rw [← hc]; simp
        rw [this]; rfl
      rw [take_snoc hn]
      refine paired_snoc (Paired.mapP hP fun p kv z => ?_) ?_
      · obtain ⟨z1, z2⟩ := nw_some z
        refine nw_of z1 ?_
        rw [upd_ne (by intro e; subst e; rw [l] at z2; cases z2), upd_ne (ne_of_none z2 nT)]
        exact z2
      · refine nw_of (ex_none x12 nT) ?_
        rw [upd_ne (Ne.symm TD)]
        exact upd_same
  · obtain ⟨x12, ps, l, hp, hP⟩ := p
    have h9 : nine.take (Str.ofString "abcdefghi").cps.size = nine := by decide +kernel
    rw [h9] at hP
    refine ⟨Dl, ps, nine, rfl, SqL.of l, Paired.mapP hP fun p kv z => SqT.of (nw_some z).2, fun pd npd => ?_⟩
    rw [nine_merge]
    refine ⟨by show 1 ≤ sizeLine; decide, fun p12 np12 => ?_⟩
    have A12 := (A11.ex x12).new (o := .dK nine) npd
    have A13 := A12.new (o := .lst [.ref pd]) np12
    have hl4 : ts.length = 26 := by rw [l11]; rfl
    have d9 : Dt (Nw H (upd (upd H12 pd (.dK nine)) p12 (.lst [.ref pd]))) (.ref pd) nineD := .dct (nw_new np12 _ _ (nw_of ((A11.ex x12).none npd) upd_same)) nine_nd (nine_dt _)
    have q12 : DtAll (Nw H (upd (upd H12 pd (.dK nine)) p12 (.lst [.ref pd]))) ts (dsA w ++ dsB ++ dsC ++ dsD sg) := q11.mono (nw_up ((x12.trans (Ex.new npd)).trans (Ex.new np12)))
    refine ⟨p11, p12, ts, [.ref pd], rfl, rfl, ((x12.trans (Ex.new npd)).trans (Ex.new np12)) _ _ e11, upd_same, by rw [hl4]; show 27 ≤ sizeLine; decide, fun p13 np13 => ?_⟩
    refine ⟨st, _, fun v => ∃ d, Dt (Nw H (upd (upd H12 pd (.dK nine)) p12 (.lst [.ref pd]))) v d ∧ smB d = true, rfl, A13.sm.new np13, chs_new A13.sm np13 (by simp) (by rw [List.length_append, hl4]; show 27 ≤ 100000; decide) ?_, fun v H' hv A => ?_⟩
    · intro v hv
      rcases List.mem_append.mp hv with hv | hv
      · obtain ⟨i, hi⟩ := List.getElem?_of_mem hv
        obtain ⟨d, hd, hq⟩ := q12.get hi
        refine ⟨d, hq, ?_⟩
        have hm := List.mem_of_getElem? hd
        rcases List.mem_append.mp hm with hm | hm
        · rcases List.mem_append.mp hm with hm | hm
          · rcases List.mem_append.mp hm with hm | hm
            · exact List.all_eq_true.mp (smA w hw) d hm
            · exact List.all_eq_true.mp smBB d hm
          · exact List.all_eq_true.mp smC d hm
        · exact List.all_eq_true.mp (smD sg hsg) d hm
      · cases List.mem_singleton.mp hv
        exact ⟨nineD, d9, sm9⟩
    · obtain ⟨d, h1, h2⟩ := hv
      exact q v d H' (h1.mono ((nw_new np13).trans (nw_aft hst A))) h2 ((A13.new np13).trans A)
end
end Sk

namespace Sk
open PySem PySem.Spec PyProof.Rows L2 Evl
abbrev sBent : Stmt := topS 21
theorem scBent : FnScope ["stream", "value", "at", "name", "other"] ["stream", "value"] (defScope sBent) := ⟨rfl, rfl, rfl, by decide +kernel, rfl, by decide +kernel, by decide +kernel⟩
/-! ### how long it is shown -/
def Sm (n : Nat) (d : PyData) : Prop := d.showable = true ∧ d.shown.length ≤ bnd n ∧ d.depth ≤ n + 8
theorem sm_odd {n : Nat} {d : PyData} (h : smB d = true) : Sm (n + 1) d := by
  unfold smB at h
  rw [Bool.and_eq_true, Bool.and_eq_true] at h
  obtain ⟨⟨h1, h2⟩, h3⟩ := h
  have h2' := of_decide_eq_true h2
  have h3' := of_decide_eq_true h3
  exact ⟨h1, Nat.le_trans h2' (bnd_ge n), by omega⟩
theorem sm_gd {b : Bool} {n : Nat} {d : PyData} (h : Gd b n d) : Sm n d := ⟨h.show, shown_len h, Nat.le_trans h.depth (by omega)⟩
theorem sm_list {n : Nat} {xs : List PyData} (h8 : xs.length ≤ 8) (h : ∀ x ∈ xs, Sm (n + 1) x) : Sm (n + 2) (.list xs) := by
  refine ⟨?_, ?_, ?_⟩
  · simp only [PyData.showable]
    exact all_show xs fun x m => (h x m).1
  · have z := lsum_le (bnd (n + 1)) (PyData.shownAll xs) fun t m => by
      obtain ⟨x, hx, e⟩ := shownAll_mem xs t m
      rw [e]
      exact (h x hx).2.1
    have z1 := textFrom_len_le (PyData.shownAll xs) 0 "["
    rw [shownAll_len] at z z1
    have z2 : xs.length * bnd (n + 1) ≤ 8 * bnd (n + 1) := Nat.mul_le_mul_right _ h8
    have e1 : (Str.ofString "[").length = 1 := rfl
    rw [e1] at z1
    simp only [PyData.shown]
    unfold listText
    rw [strLen_append]
    show _ + 1 ≤ 690 + 8 * bnd (n + 1)
    omega
  · have := depthAll_le xs fun x m => (h x m).2.2
    simp only [PyData.depth]; omega
theorem sm_dict {n : Nat} {kvs : List (PyData × PyData)} (h8 : kvs.length ≤ 8) (h : ∀ p ∈ kvs, p.1 = .str (keyS p.1) ∧ okS 8 (keyS p.1) ∧ Sm (n + 1) p.2) : Sm (n + 2) (.dict kvs) := by
  refine ⟨?_, ?_, ?_⟩
  · simp only [PyData.showable]
    refine kv_show kvs fun p m => ?_
    obtain ⟨g1, _, g3⟩ := h p m
    exact ⟨by rw [g1]; simp [PyData.showable], g3.1⟩
  · have z := join_le ", " (bnd (n + 1) + 84) (PyData.shownKv kvs) fun t m => by
      obtain ⟨p, hp, e⟩ := shownKv_mem kvs t m
      obtain ⟨g1, g2, g3⟩ := h p hp
      have hx := g3.2.1
      have hk := rep_len g2
      rw [e, strLen_append, strLen_append, g1]
      simp only [PyData.shown]
      have e1 : (Str.ofString ": ").length = 2 := rfl
      rw [e1]
      omega
    rw [shownKv_len] at z
    have e1 : (Str.ofString ", ").length = 2 := rfl
    rw [e1] at z
    have z2 : kvs.length * (bnd (n + 1) + 84 + 2) ≤ 8 * (bnd (n + 1) + 84 + 2) := Nat.mul_le_mul_right _ h8
    simp only [PyData.shown]
    unfold dictText
    rw [strLen_append, strLen_append]
    show 1 + _ + 1 ≤ 690 + 8 * bnd (n + 1)
    omega
  · have := depthKv_le (n := n + 1 + 8) kvs fun p m => by
      obtain ⟨g1, _, g3⟩ := h p m
      refine ⟨?_, g3.2.2⟩
      rw [g1]; simp [PyData.depth]
    simp only [PyData.depth]; omega
/-! ### parts -/
theorem DtAll.take {H : Hp} : ∀ {xs ds}, DtAll H xs ds → ∀ i, DtAll H (xs.take i) (ds.take i)
  | _, _, .nil, _ => by simp only [List.take_nil]; exact .nil
  | _, _, .cons x r, 0 => .nil
  | _, _, .cons x r, i + 1 => .cons x (r.take i)
theorem DtAll.drop {H : Hp} : ∀ {xs ds}, DtAll H xs ds → ∀ i, DtAll H (xs.drop i) (ds.drop i)
  | _, _, .nil, _ => by simp only [List.drop_nil]; exact .nil
  | _, _, .cons x r, 0 => .cons x r
  | _, _, .cons x r, i + 1 => r.drop i
/-- a value under a name that is there -/
def putP (ds : List (PyData × PyData)) (k : Str) (d : PyData) : List (PyData × PyData) := ds.map fun p => if keyS p.1 = k then (p.1, d) else p
theorem put_dt {H : Hp} {k : Str} {v : V} {d : PyData} (h : Dt H v d) : ∀ {kvs : List (Key × V)} {ds : List (PyData × PyData)}, DtKv H kvs ds → (∀ p ∈ ds, p.1 = .str (keyS p.1)) → DtKv H (kvs.map fun kv => if kv.1 = (.inr k : Key) then (kv.1, v) else kv) (putP ds k d)
  | _, _, .nil, _ => .nil
  | _, _, .cons (k := k') (v := u) (d := e) hk x r, g => by
    have ih := put_dt (k := k) h r fun p m => g p (by simp [m])
    have g0 := g _ List.mem_cons_self
    unfold putP at ih ⊢
    cases k' with
    | inl i => cases g0
    | inr y =>
      have e1 : keyS (kPd (.inr y)) = y := rfl
      simp only [List.map_cons, e1]
      by_cases c : y = k
      · subst c
        rw [if_pos rfl, if_pos rfl]
        exact .cons (k := .inr y) hk h ih
      · rw [if_neg (fun z => c (Sum.inr.inj z)), if_neg c]
        exact .cons (k := .inr y) hk x ih
theorem put_keys {kvs : List (Key × V)} {k : Key} {v : V} : (kvs.map fun kv => if kv.1 = k then (kv.1, v) else kv).map (·.1) = kvs.map (·.1) := by
  rw [List.map_map]
  refine List.map_congr_left fun p _ => ?_
  show (if p.1 = k then (p.1, v) else p).1 = p.1
  split <;> rfl
theorem cut_lo {xs : List V} {i : Nat} (h : i ≤ xs.length) : cutV xs none (some (i : Int)) = xs.take i := by
  unfold cutV
  rw [HT.sIx_none, HT.sIx_nat]
  simp [Nat.min_eq_left h]
theorem cut_hi {xs : List V} {i : Nat} (h : i ≤ xs.length) : cutV xs (some (i : Int)) none = xs.drop i := by
  unfold cutV
  rw [HT.sIx_none, HT.sIx_nat, Nat.min_eq_left h]
  rw [List.take_of_length_le (by rw [List.length_drop]; exact Nat.le_refl _)]
/-- what was in U, and what is new behind H -/
def Vw (U H H' : Hp) : Hp := fun a => if U a = none then (if H a = none then H' a else none) else U a
theorem vw_u {U H H' : Hp} : Ex U (Vw U H H') := fun b o e => by
  unfold Vw
  rw [if_neg (by rw [e]; simp)]; exact e
theorem vw_new {U H H' : Hp} {b : Addr} {o : HO} (hU : Ex U H) (n : H b = none) (e : H' b = some o) : Vw U H H' b = some o := by
  unfold Vw
  rw [if_pos (ex_none hU n), if_pos n]; exact e
theorem vw_case {U H H' : Hp} {b : Addr} {o : HO} (e : Vw U H H' b = some o) : U b = some o ∨ (U b = none ∧ H b = none ∧ H' b = some o) := by
  unfold Vw at e
  split at e
  · rename_i z
    split at e
    · rename_i y
      exact .inr ⟨z, y, e⟩
    · cases e
  · exact .inl e
theorem vw_n {U H H' : Hp} (hU : Ex U H) : Ex (Nw H H') (Vw U H H') := fun b o e => vw_new hU (nw_some e).1 (nw_some e).2
theorem vw_up {U H H1 H2 : Hp} {st : Addr} (s : Strm st H) (hU : Ex U H) (A : Gr st H1 H2) : Ex (Vw U H H1) (Vw U H H2) := fun b o e => by
  rcases vw_case e with h | ⟨_, h2, h3⟩
  · exact vw_u _ _ h
  · exact vw_new hU h2 (hd_some (A _ _ (hd_of (s.ne h2) h3))).2
theorem vw_dn {U H H1 H2 : Hp} (hU : Ex U H) (d : ∀ a, H1 a = none → H a = none) : Ex (Vw U H1 H2) (Vw U H H2) := fun b o e => by
  rcases vw_case e with h | ⟨_, h2, h3⟩
  · exact vw_u _ _ h
  · exact vw_new hU (d _ h2) h3
theorem vw_mut {U H H1 H2 : Hp} {p : Addr} {o : HO} (hU : Ex U H) (d : ∀ a, H1 a = none → H a = none) (up : U p = none) (hp : H1 p ≠ none) : Ex (Vw U H1 H2) (Vw U H (upd H2 p o)) := fun b u e => by
  rcases vw_case e with h | ⟨_, h2, h3⟩
  · exact vw_u _ _ h
  · have n : b ≠ p := by intro z; subst z; exact hp h2
    exact vw_new hU (d _ h2) (by rw [upd_ne n]; exact h3)
theorem vw_hd {U H H' : Hp} {st : Addr} (s : Strm st H) (hU : Ex U (Hd st H)) (A : Aft st H H') : Ex (Vw U H H') (Hd st H') := fun b o e => by
  rcases vw_case e with h | ⟨_, h2, h3⟩
  · exact A.gr _ _ (hU _ _ h)
  · exact hd_of (s.ne h2) h3
theorem DqKv.get {H : Hp} : ∀ {xs ds}, DqKv H xs ds → ∀ {i : Nat} {k : Key} {v : V}, xs[i]? = some (k, v) → ∃ nm d, k = .inr nm ∧ ds[i]? = some (.str nm, d) ∧ Dq H v d
  | _, _, .nil, _, _, _, e => by simp at e
  | _, _, .cons x r, 0, _, _, e => by simp at e; obtain ⟨rfl, rfl⟩ := e; exact ⟨_, _, rfl, rfl, x⟩
  | _, _, .cons x r, i + 1, _, _, e => by
    obtain ⟨nm, d, h0, h1, h2⟩ := r.get (i := i) (by simpa using e)
    exact ⟨nm, d, h0, by simpa using h1, h2⟩
def spBent (n : Nat) : Sp := fun vs H Q _ => ∃ (st : Addr) (v : V) (t : PyData) (U : Hp), vs = [.ref st, v] ∧ Strm st H ∧ Ex U (Hd st H) ∧ Dq U v t ∧ Gd false n t ∧ ∀ v' d' H', Dt (Vw U H H') v' d' → Sm n d' → Aft st H H' → Q v' H'
section
variable {P : Program} {w : World} {K : PySem.W.Frag} {mg : Str → Option Value} {base : Heap} {f f1 fD fC : Addr} {fd d1 dD dC : FuncData}
theorem ok_bent0 {k : Nat} : FnOk P w K mg base CX0 k f fd ["stream", "value"] (spBent 0) := by
  have no : ∀ vs H Q E, ¬ spBent 0 vs H Q E := fun vs H Q E ⟨_, _, _, _, _, _, _, _, h, _⟩ => by cases (gd0 h).1
  exact ⟨fun vs H Q E h => absurd h (no vs H Q E), fun A outer s H args us vs Q E _ _ _ _ h => absurd h (no vs H Q E)⟩
theorem ok_bentS {k n : Nat} (F : Fun K "_law_bent" "_law_bent" sBent f fd) (W : Drw P w K mg base fD fC dD dC) (B : Blt mg) (O : Lt P w K mg base f1 d1 "_law_odd" ["stream"] 3 spOdd)
    (G : Lt P w K mg base f fd "_law_bent" ["stream", "value"] (k + 3) (spBent n)) : FnOk P w K mg base CX0 (k + 4) f fd ["stream", "value"] (spBent (n + 1)) := by
  refine F.ok scBent (fun vs H Q E h => ?_) (fun cdv A outer s H vs Q E hr h => ?_)
  · obtain ⟨a, b, c, _, rfl, _⟩ := h
    rfl
  have nd := scBent.nd
  have hu : _ < cLine := hr.units
  have hu0 := Nat.lt_of_le_of_lt (Nat.le_add_right _ 64) hu
  have hu1 := hu_of hr
  have hr1 : Room 1 _ := hr.mono (by omega)
  have hr2 : Room 2 _ := hr.mono (by omega)
  have hr3 : Room 3 _ := hr.mono (by omega)
  obtain ⟨st, v, t, U, rfl, hst, hU, hd, hg, q⟩ := h
  have hUH : Ex U H := hU.trans hd_le
  refine ⟨_, pss_cons (ps_if (PW.pt (pw_and (pt_val (pe_callB call_isD rfl B.isi bt_isi (pa_cons (pv 1) (pa_cons (pe_bltn (v := .ty "list") rfl B.list bt_list rfl) pa_nil)))) (pw_and (pt_cmpR (op_neNil hu0) (pv 1) (pe_lst pa_nil) (nomark _)) (pw_and1 (pt_cmpR op_gt (pe_call W.gD hr1 rfl W.mD W.kD W.bD .nil pass0 (pa_cons (pv 0) (pa_cons pe_int pa_nil))) pe_int (nomark _))))))
      (pss_cons (ps_set (i := 2) nd rfl (Or.inl rfl) (pe_call W.gD hr1 rfl W.mD W.kD W.bD .nil pass0 (pa_cons (pv 0) (pa_cons (pe_callB call_len_seq rfl B.len PySem.boot_len (pa_cons (pv 1) pa_nil)) pa_nil))))
      (pss_one (ps_ret (pe_op op_cat (pe_op op_cat (pe_slice sl_list (pv 1) po_none (po_some (pv 2))) (pe_lst (pa_cons (pe_call G.g hr rfl G.m G.k G.b .nil pass0 (pa_cons (pv 0) (pa_cons (pe_ix ix_list (pv 1) (pv 2) (fun _ _ => rfl)) pa_nil))) pa_nil)))
          (pe_slice sl_list (pv 1) (po_some (pe_op op_add (pv 2) pe_int)) po_none))))) pss_nil)
    (pss_cons (ps_if (PW.pt (pw_and (pt_val (pe_callB call_isD rfl B.isi bt_isi (pa_cons (pv 1) (pa_cons (pe_bltn (v := .ty "dict") rfl B.dict bt_dict rfl) pa_nil)))) (pw_and (pt_cmpR (op_neNilD hu0) (pv 1) pe_dnewK (nomark _)) (pw_and1 (pt_cmpR op_gt (pe_call W.gD hr1 rfl W.mD W.kD W.bD .nil pass0 (pa_cons (pv 0) (pa_cons pe_int pa_nil))) pe_int (nomark _))))))
      (pss_cons (ps_set (i := 3) nd rfl (Or.inl rfl) (pe_call W.gC hr2 rfl W.mC W.kC W.bC .nil pass0 (pa_cons (pv 0) (pa_cons (pe_callTy (call_listD rfl) rfl B.list bt_list (pa_cons (pv 1) pa_nil)) pa_nil))))
      (pss_cons (ps_set (i := 4) nd rfl (Or.inl rfl) (pe_callTy call_dictD rfl B.dict bt_dict (pa_cons (pv 1) pa_nil)))
      (pss_cons (ps_dput hu1 (pv 4) (pv 3) (pe_call G.g hr rfl G.m G.k G.b .nil pass0 (pa_cons (pv 0) (pa_cons (pe_dget hu1 (pv 1) (pv 3) (fun _ _ => rfl)) pa_nil))) rfl)
      (pss_one (ps_ret (pv 4)))))) pss_nil)
    (pss_one (ps_ret (pe_call O.g hr3 rfl O.m O.k O.b .nil pass0 (pa_cons (pv 0) pa_nil))))), ?_⟩
  have fin : ∀ H1, Aft st H H1 → spOdd [.ref st] H1 Q E0 := fun H1 A1 => ⟨st, rfl, A1.sm, fun v d H' h1 h2 A => q v d H' (h1.mono (A1.dn.trans (vw_n hUH))) (sm_odd h2) (A1.trans A)⟩
  have hd0 := hd.mono hUH
  by_cases isl : ∃ xs, t = .list xs
  · obtain ⟨ds, rfl⟩ := isl
    obtain ⟨a, vs, rfl, e0, r⟩ := hd.lst_inv
    obtain ⟨an, e⟩ := hd_some (hU _ _ e0)
    refine ⟨_, rfl, _, "list", _, true, rfl, hd0, kll, _, rfl, iteT ?_⟩
    refine ⟨_, rfl, by decide, fun p np => ?_⟩
    have A1 : Aft st H (upd H p (.lst [])) := (Aft.of hst).new np
    have e1 := (Ex.new (o := .lst []) np) _ _ e
    refine ⟨a, p, vs, rfl, rfl, e1, upd_same, _, rfl, ?_⟩
    have hd1 := hd0.mono (Ex.new (o := .lst []) np)
    have notD : ∀ H1, Aft st H H1 → Dq H1 (.ref a) (.list ds) := fun H1 A => (hd.mono (hU.trans A.gr)).mono hd_le
    cases vs with
    | nil => exact iteF (iteF ⟨_, rfl, _, "dict", _, false, rfl, hd1, kld, _, rfl, iteF (iteF ⟨_, rfl, fin _ A1⟩)⟩)
    | cons v0 vs =>
      refine iteT ?_
      refine ⟨_, rfl, st, 4, rfl, A1.sm, by decide, by decide, fun k4 H2 _ _ A2' => ⟨_, _, rfl, rfl, _, rfl, ite2 (fun _ => ?_) (fun _ => ?_)⟩⟩
      · have A2 := A1.trans A2'
        have hl := r.length
        have h8 : (v0 :: vs).length ≤ 8 := by rw [hl]; exact hg.1
        have hpos : 1 ≤ (v0 :: vs).length := by simp
        generalize hvs : v0 :: vs = ws at *
        refine ⟨_, rfl, _, rfl, a, ws, rfl, .inl (SqL.of (A2.at an e)), st, _, rfl, A2.sm, by omega, by omega, fun i H3 i0 i1 A3' => ?_⟩
        have A3 := A2.trans A3'
        obtain ⟨j, rfl⟩ : ∃ j : Nat, i = j := ⟨i.toNat, by omega⟩
        have hj : j < ws.length := by omega
        have ej : ((j : Int) + 1) = ((j + 1 : Nat) : Int) := by omega
        refine ⟨_, rfl, _, rfl, _, rfl, a, ws, rfl, SqL.of (A3.at an e), fun p1 np1 => ?_⟩
        have A4 := A3.new (o := .lst (cutV ws none (some (j : Int)))) np1
        have n1 : p1 ≠ st := A3.sm.ne np1
        obtain ⟨dj, hdj, hqj⟩ := r.get (List.getElem?_eq_getElem hj)
        refine ⟨_, rfl, _, rfl, _, rfl, a, ws, _, _, rfl, rfl, SqL.of (A4.at an e), atI_nat (List.getElem?_eq_getElem hj), st, _, dj, U, rfl, A4.sm, hU.trans A4.gr, hqj, hg.2 dj (List.mem_of_getElem? hdj), fun v' d' H5 b1 b2 A5' => ?_⟩
        have A5 := A4.trans A5'
        refine ⟨by show 1 ≤ sizeLine; decide, fun p2 np2 => ?_⟩
        have A6 := A5.new (o := .lst [v']) np2
        have l1 : (upd H5 p2 (.lst [v'])) p1 = some (.lst (cutV ws none (some (j : Int)))) := (Ex.new np2) _ _ (A5'.at n1 upd_same)
        have c1 := cutV_length ws none (some (j : Int))
        have c2 := cutV_length ws (some ((j : Int) + 1)) none
        refine ⟨p1, p2, _, _, rfl, rfl, l1, upd_same, by rw [sizeLine_eq]; show _ + 1 ≤ _; omega, fun p3 np3 => ?_⟩
        have A7 := A6.new (o := .lst (cutV ws none (some (j : Int)) ++ [v'])) np3
        refine ⟨_, rfl, _, rfl, _, _, rfl, rfl, _, rfl, a, ws, rfl, SqL.of (A7.at an e), fun p4 np4 => ?_⟩
        have A8 := A7.new (o := .lst (cutV ws (some ((j : Int) + 1)) none)) np4
        have n3 : p3 ≠ st := A6.sm.ne np3
        refine ⟨p3, p4, _, _, rfl, rfl, (Ex.new np4) _ _ upd_same, upd_same, by rw [List.length_append, sizeLine_eq]; show _ + 1 + _ ≤ _; omega, fun p5 np5 => ?_⟩
        have A9 := A8.new (o := .lst (cutV ws none (some (j : Int)) ++ [v'] ++ cutV ws (some ((j : Int) + 1)) none)) np5
        have n5 : p5 ≠ st := A8.sm.ne np5
        have rt := (r.t (fun x hx => hg.2 x hx)).mono (vw_u (H := H) (H' := upd (upd (upd (upd H5 p2 (.lst [v'])) p3 (.lst (cutV ws none (some (j : Int)) ++ [v']))) p4 (.lst (cutV ws (some ((j : Int) + 1)) none))) p5 (.lst (cutV ws none (some (j : Int)) ++ [v'] ++ cutV ws (some ((j : Int) + 1)) none))))
        have x59 := (vw_dn (H2 := H5) hUH fun a z => A4.none z).trans (vw_up hst hUH ((((Aft.of A5.sm).new (o := .lst [v']) np2).new (o := .lst (cutV ws none (some (j : Int)) ++ [v'])) np3).new (o := .lst (cutV ws (some ((j : Int) + 1)) none)) np4 |>.new (o := .lst (cutV ws none (some (j : Int)) ++ [v'] ++ cutV ws (some ((j : Int) + 1)) none)) np5).gr)
        have n0 : ∃ m, n = m + 1 := by
          cases n with
          | zero => cases (gd0 (hg.2 dj (List.mem_of_getElem? hdj))).1
          | succ m => exact ⟨m, rfl⟩
        obtain ⟨m, rfl⟩ := n0
        refine q _ (.list (ds.take j ++ [d'] ++ ds.drop (j + 1))) _ (.lst (vw_new hUH (A8.none np5) upd_same) ?_) ?_ A9
        · rw [cut_lo (by omega), ej, cut_hi (by omega)]
          have b2' := b1.mono x59
          rw [cut_lo (by omega), ej, cut_hi (by omega)] at rt b2'
          exact ((rt.take j).app (.cons b2' .nil)).app (rt.drop (j + 1))
        · refine sm_list ?_ fun x hx => ?_
          · have := hg.1
            rw [List.length_append, List.length_append, List.length_take, List.length_drop]
            show _ + 1 + _ ≤ 8
            rw [← hl]; omega
          · rcases List.mem_append.mp hx with hx | hx
            · rcases List.mem_append.mp hx with hx | hx
              · exact sm_gd (hg.2 x (List.mem_of_mem_take hx))
              · cases List.mem_singleton.mp hx
                exact b2
            · exact sm_gd (hg.2 x (List.mem_of_mem_drop hx))
      · exact ⟨_, rfl, _, "dict", _, false, rfl, notD _ (A1.trans A2'), kld, _, rfl, iteF (iteF ⟨_, rfl, fin _ (A1.trans A2')⟩)⟩
  have kl : kitB (tyD t) "list" = some false := by
    rw [kitList]
    cases t with
    | list xs => exact absurd ⟨xs, rfl⟩ isl
    | _ => rfl
  by_cases isd : ∃ xs, t = .dict xs
  · obtain ⟨ds, rfl⟩ := isd
    obtain ⟨a, kvs, rfl, e0, r⟩ := hd.dct_inv
    obtain ⟨an, e⟩ := hd_some (hU _ _ e0)
    refine ⟨_, rfl, _, "list", _, false, rfl, hd0, kl, _, rfl, iteF (iteF ?_)⟩
    refine ⟨_, rfl, _, "dict", _, true, rfl, hd0, kdd, _, rfl, iteT ?_⟩
    refine ⟨_, rfl, fun p np => ?_⟩
    have A1 : Aft st H (upd H p (.dK [])) := (Aft.of hst).new np
    have e1 := (Ex.new (o := .dK []) np) _ _ e
    refine ⟨a, p, kvs, rfl, rfl, e1, upd_same, _, rfl, ?_⟩
    cases kvs with
    | nil => exact iteF (iteF ⟨_, rfl, fin _ A1⟩)
    | cons v0 vs =>
      refine iteT ?_
      refine ⟨_, rfl, st, 4, rfl, A1.sm, by decide, by decide, fun k4 H2 _ _ A2' => ⟨_, _, rfl, rfl, _, rfl, ite2 (fun _ => ?_) (fun _ => ?_)⟩⟩
      · have A2 := A1.trans A2'
        have hl := r.length
        have h8 : (v0 :: vs).length ≤ 8 := by rw [hl]; exact hg.1
        have hne : (v0 :: vs) ≠ [] := by simp
        generalize hvs : v0 :: vs = ws at *
        refine ⟨_, rfl, _, rfl, a, ws, rfl, .inl (A2.at an e), fun p1 np1 => ?_⟩
        refine ⟨st, _, fun v => ∃ (k : Key) (u : V), (k, u) ∈ ws ∧ v = kV k, rfl, A2.sm.new np1, chs_new A2.sm np1 (by simpa using hne) (by rw [List.length_map]; omega) ?_, fun v H3 hv A3' => ?_⟩
        · intro v hv
          obtain ⟨kv, hm, rfl⟩ := List.mem_map.mp hv
          exact ⟨kv.1, kv.2, hm, rfl⟩
        obtain ⟨k, u, hm, rfl⟩ := hv
        have A3 := (A2.new (o := .lst (ws.map fun kv => kV kv.1)) np1).trans A3'
        obtain ⟨i, hi⟩ := List.getElem?_of_mem hm
        obtain ⟨nm, d0, rfl, hdi, hq⟩ := r.get hi
        have hmd := List.mem_of_getElem? hdi
        have ndw : (ws.map (·.1)).Nodup := by
          rw [r.keys]
          exact List.Pairwise.map Sum.inr (fun _ _ h z => h (Sum.inr.inj z)) hg.2.2.1
        refine ⟨_, rfl, a, ws, rfl, .inl (A3.at an e), fun p2 np2 => ?_⟩
        have A4 := A3.new (o := .dK ws) np2
        have n2 : p2 ≠ st := A3.sm.ne np2
        have n2H : H p2 = none := A3.none np2
        refine ⟨_, rfl, _, rfl, _, rfl, a, u, rfl, .inl ⟨ws, .inr nm, .inl (A4.at an e), rfl, (valV_nd ndw hi).symm⟩, st, u, d0, U, rfl, A4.sm, hU.trans A4.gr, hq, (hg.2.1 _ hmd).2.2, fun v' d' H5 b1 b2 A5' => ?_⟩
        have A5 := A4.trans A5'
        have l2 : H5 p2 = some (.dK ws) := A5'.at n2 upd_same
        refine ⟨_, rfl, _, rfl, p2, _, rfl, DPut.k (k := .inr nm) l2 (Nat.lt_of_le_of_lt h8 (by decide)), ?_⟩
        have A6 : Aft st H (upd H5 p2 (.dK (putK ws (.inr nm) v'))) := A5.mut n2 (by unfold Hd; rw [n2H]; simp)
        have hput : putK ws (.inr nm) v' = ws.map fun kv => if kv.1 = (.inr nm : Key) then (kv.1, v') else kv := by
          unfold putK
          rw [if_pos (List.any_eq_true.mpr ⟨_, hm, decide_eq_true rfl⟩)]
        have n0 : ∃ m, n = m + 1 := by
          cases n with
          | zero => cases (gd0 (hg.2.1 _ hmd).2.2).1
          | succ m => exact ⟨m, rfl⟩
        obtain ⟨m, rfl⟩ := n0
        refine ⟨_, rfl, q _ (.dict (putP ds nm d')) _ (.dct (vw_new hUH n2H upd_same) ?_ ?_) ?_ A6⟩
        · rw [hput, put_keys]; exact ndw
        · have rt := (r.t (fun x hx => hg.2.1 x hx)).mono (vw_u (H := H) (H' := upd H5 p2 (.dK (putK ws (.inr nm) v'))))
          have b3 := b1.mono (vw_mut (o := .dK (putK ws (.inr nm) v')) hUH (fun a z => A4.none z) (ex_none hUH n2H) (by rw [upd_same]; simp))
          have z := put_dt (k := nm) b3 rt fun x hx => (hg.2.1 x hx).1
          rw [← hput] at z
          exact z
        · refine sm_dict ?_ fun x hx => ?_
          · unfold putP
            rw [List.length_map]; exact hg.1
          · obtain ⟨y, hy, rfl⟩ := List.mem_map.mp hx
            obtain ⟨g1, g2, g3⟩ := hg.2.1 y hy
            split
            · exact ⟨g1, g2, b2⟩
            · exact ⟨g1, g2, sm_gd g3⟩
      · exact ⟨_, rfl, fin _ (A1.trans A2')⟩
  have kd : kitB (tyD t) "dict" = some false := by
    rw [kitDict]
    cases t with
    | dict xs => exact absurd ⟨xs, rfl⟩ isd
    | _ => rfl
  exact ⟨_, rfl, _, "list", _, false, rfl, hd0, kl, _, rfl, iteF (iteF ⟨_, rfl, _, "dict", _, false, rfl, hd0, kd, _, rfl, iteF (iteF ⟨_, rfl, fin _ (Aft.of hst)⟩)⟩)⟩
end
end Sk

namespace Sk
open PySem PySem.Spec PyProof.Rows L2 Evl
abbrev sLaw : Stmt := topS 24
theorem scLaw : FnScope ["script", "start", "stream", "turn", "thing", "seen"] ["script"] (defScope sLaw) := ⟨rfl, rfl, rfl, by decide +kernel, rfl, by decide +kernel, by decide +kernel⟩
def spLaw (K : PySem.W.Frag) : Sp := fun vs H Q _ => ∃ (a : Addr) (ns : List Int), vs = [.ref a] ∧ SqL K H a (ns.map V.int) ∧ ns.length ≤ 63 ∧ (∀ z ∈ ns, Builtin.Int.intBits z ≤ 1048576) ∧ ∀ H', Q (.bl true) H'
theorem share_nx {c : Bool} {A B : TS} {D : Ends} {σ : L2.St} {H : Hp} (Pq : L2.St → Hp → Prop) (h : ∀ σ' H', Pq σ' H' → D.nx σ' H') (k : (∀ σ' H', Pq σ' H' → D.nx σ' H') → if c = true then A D σ H else B D σ H) : if c = true then A D σ H else B D σ H := k h
section
variable {P : Program} {w : World} {K : PySem.W.Frag} {mg : Str → Option Value} {base : Heap} {f f1 f2 f3 f4 f5 fL fD fC : Addr} {fd d1 d2 d3 d4 d5 dL dD dC : FuncData}
theorem ok_bent (F : Fun K "_law_bent" "_law_bent" sBent f fd) (b : Binds K fd ["stream", "value"] []) (k : PySem.W.keepIn K (.ref f) = true) (m : mg "_law_bent" = some (.ref f)) (W : Drw P w K mg base fD fC dD dC) (B : Blt mg) (O : Lt P w K mg base f1 d1 "_law_odd" ["stream"] 3 spOdd) :
    ∀ n, FnOk P w K mg base CX0 (n + 3) f fd ["stream", "value"] (spBent n)
  | 0 => ok_bent0
  | n + 1 => ok_bentS (k := n) F W B O ⟨ok_bent F b k m W B O n, b, k, m⟩
theorem ok_law (F : Fun K "law" "law" sLaw fL dL) (W : Drw P w K mg base fD fC dD dC) (B : Blt mg)
    (S : Lt P w K mg base f1 d1 "_law_stream" ["script", "start"] 1 (spStream K)) (Va : Lt P w K mg base f2 d2 "_law_any_value" ["stream", "depth"] 9 (spVal 6)) (N : Lt P w K mg base f3 d3 "_law_bent" ["stream", "value"] 9 (spBent 6))
    (I : Lt P w K mg base f4 d4 "is_value" ["thing"] 17 spV) (G : Lt P w K mg base f5 d5 "_law_good" ["thing", "depth"] 8 (spVW 6)) : LawOk P w K mg base fL dL "script" (spLaw K) := by
  refine law_of (k := 17) F scLaw ⟨rfl, by decide, by decide⟩ fun cdv s H v Q hr hg h => ?_
  have nd := scLaw.nd
  have hu : (callerA.deeper (envOfC "law" (defScope sLaw) s.heap.objs.size fL cdv)).units + 64 < cLine := hr.units
  have hr1 : Room 1 _ := hr.mono (by decide)
  have hr8 : Room 8 _ := hr.mono (by decide)
  have hr9 : Room 9 _ := hr.mono (by decide)
  obtain ⟨a, ns, ev, hS, h63, hb, q⟩ := h
  cases ev
  refine ⟨_, pss_cons (ps_for PassesOwn.never rfl (pi_range1 rfl B.range (pa_cons (pe_callB (call_max2 rfl) rfl B.max bt_max (pa_cons pe_int (pa_cons (pe_callB (call_min2 rfl) rfl B.min bt_min (pa_cons pe_int (pa_cons (pe_callB call_len_seq rfl B.len PySem.boot_len (pa_cons (pv 0) pa_nil)) pa_nil))) pa_nil))) pa_nil)) (pg_name (i := 1) nd rfl (Or.inl rfl))
      (pss_cons (ps_set (i := 2) nd rfl (Or.inl rfl) (pe_call S.g hr1 rfl S.m S.k S.b .nil pass0 (pa_cons (pv 0) (pa_cons (pv 1) pa_nil))))
      (pss_one (ps_for PassesOwn.never rfl (pi_range1 rfl B.range (pa_cons pe_int pa_nil)) (pg_name (i := 3) nd rfl (Or.inl rfl))
        (pss_cons (ps_set (i := 4) nd rfl (Or.inl rfl) (pe_call Va.g hr9 rfl Va.m Va.k Va.b .nil pass0 (pa_cons (pv 2) (pa_cons (pe_op op_add pe_int (pe_call W.gD hr1 rfl W.mD W.kD W.bD .nil pass0 (pa_cons (pv 2) (pa_cons pe_int pa_nil)))) pa_nil))))
        (pss_cons (ps_if (pt_cmpR op_gt (pe_call W.gD hr1 rfl W.mD W.kD W.bD .nil pass0 (pa_cons (pv 2) (pa_cons pe_int pa_nil))) pe_int (nomark _)) (pss_one (ps_set (i := 4) nd rfl (Or.inl rfl) (pe_call N.g hr9 rfl N.m N.k N.b .nil pass0 (pa_cons (pv 2) (pa_cons (pv 4) pa_nil))))) pss_nil)
        (pss_cons (ps_set (i := 5) nd rfl (Or.inl rfl) (pe_callB (call_reprT hg hu) rfl B.repr boot_repr (pa_cons (pv 4) pa_nil)))
        (pss_one (ps_if (PW.pt (pw_or (pt_cmpR op_ne (pe_callB (call_reprT hg hu) rfl B.repr boot_repr (pa_cons (pe_call I.g hr rfl I.m I.k I.b .nil pass0 (pa_cons (pv 4) pa_nil)) pa_nil)) (pe_callB (call_reprT hg hu) rfl B.repr boot_repr (pa_cons (pe_call G.g hr8 rfl G.m G.k G.b .nil pass0 (pa_cons (pv 4) (pa_cons pe_int pa_nil))) pa_nil)) (nomark _))
            (pw_or1 (pt_cmpR op_ne (pe_callB (call_reprT hg hu) rfl B.repr boot_repr (pa_cons (pv 4) pa_nil)) (pv 5) (nomark _))))) (pss_one (ps_ret pe_bl)) pss_nil)))))))))
    (pss_one (ps_ret pe_bl)), ?_⟩
  refine ⟨_, rfl, a, _, rfl, .inl hS, _, _, rfl, _, _, rfl, ?_⟩
  rw [List.length_map]
  generalize hN : (if (if (ns.length : Int) < 4 then (ns.length : Int) else 4) > 2 then (if (ns.length : Int) < 4 then (ns.length : Int) else 4) else 2) = N'
  have N0 : 0 ≤ N' ∧ N' ≤ 4 := by
    rw [← hN]
    split <;> split at * <;> omega
  refine ⟨N', rfl, by omega, by omega, for_range (lo := 0) (n := N'.toNat) (fun i σ H' => SqL K H' a (ns.map V.int) ∧ ∃ y1 y2 y3 y4 y5, σ = [some (.ref a), y1, y2, y3, y4, y5]) ⟨hS, none, none, none, none, none, rfl⟩ (fun i σ H' hi p => ?_) (fun σ H' p => q H')⟩
  obtain ⟨p0, y1, y2, y3, y4, y5, rfl⟩ := p
  refine ⟨_, rfl, _, rfl, a, ns, _, rfl, p0, h63, hb, by omega, by omega, fun st H1 nst E1 S1 => ?_⟩
  have s1 : SqL K (Hd st H1) a (ns.map V.int) := by
    refine ex_l (H := H') (fun b o e => hd_of ?_ (E1 b o e)) p0
    intro z; subst z; rw [nst] at e; cases e
  refine ⟨8, rfl, by decide, by decide, for_range (lo := 0) (n := 8) (fun i σ H2 => SqL K (Hd st H2) a (ns.map V.int) ∧ Strm st H2 ∧ ∃ y1 y3 y4 y5, σ = [some (.ref a), y1, some (.ref st), y3, y4, y5]) ⟨s1, S1, _, y3, y4, y5, rfl⟩ (fun j σ H2 hj p => ?_) (fun σ H2 p => ?_)⟩
  · obtain ⟨p1, S2, y1, y3, y4, y5, rfl⟩ := p
    refine ⟨_, rfl, _, rfl, st, 6, rfl, S2, by decide, by decide, fun k H3 k0 k1 A3 => ?_⟩
    refine ⟨_, _, rfl, rfl, st, _, rfl, A3.sm, by omega, by omega, fun v t H4 t0 t1 A4' => ?_⟩
    have g6 : Gd false 6 t := t1.le (by omega)
    have tA : Dq (Hd st H4) v t := t0.mono (nw_hd A3.sm)
    have A4 := A3.trans A4'
    refine ⟨_, rfl, st, 3, rfl, A4.sm, by decide, by decide, fun k3 H5 _ _ A5' => ⟨_, _, rfl, rfl, _, rfl, ?_⟩⟩
    have A5 := A4.trans A5'
    have tB : Dq (Hd st H5) v t := tA.mono A5'.gr
    refine share_nx (fun σ' H' => ∃ v d, σ' = [some (.ref a), y1, some (.ref st), some (.int (0 + (j : Int))), some v, y5] ∧ Dt (Hd st H') v d ∧ Sm 6 d ∧ Aft st H2 H') (fun σ' H6 hp => ?_) (fun qq => ite2 (fun _ => ?_) (fun _ => ?_))
    · obtain ⟨v, d, rfl, hd, ⟨h1, h2, h3⟩, A6⟩ := hp
      have hz : d.shown.length ≤ sizeLine := Nat.le_trans h2 (Nat.le_trans (bnd_le (by decide)) (by decide))
      have hdp : d.depth ≤ 60 := by omega
      refine ⟨_, rfl, v, d, rfl, hd.mono hd_le, h1, hz, hdp, ?_⟩
      refine ⟨_, rfl, v, d, rfl, hd.mono hd_le, fun H7 x7 => ⟨_, .bool (goodB 6 d), rfl, .bl _, ?_, ?_, by simp [PyData.depth], ?_⟩⟩
      · simp [PyData.showable]
      · cases goodB 6 d <;> decide +kernel
      refine ⟨_, rfl, v, d, 6, rfl, rfl, (hd.mono hd_le).mono x7, fun H8 x8 => ⟨_, .bool (goodB 6 d), rfl, .bl _, ?_, ?_, by simp [PyData.depth], rfl, _, rfl, iteNS rfl ?_⟩⟩
      · simp [PyData.showable]
      · cases goodB 6 d <;> decide +kernel
      refine ⟨_, rfl, v, d, rfl, ((hd.mono hd_le).mono x7).mono x8, h1, hz, hdp, _, rfl, rfl, _, rfl, iteNS rfl ?_⟩
      have A8 := A6.ex (x7.trans x8)
      exact ⟨ex_l A8.gr p1, A8.sm, _, _, _, _, rfl⟩
    · exact ⟨_, rfl, _, rfl, st, v, t, Hd st H5, rfl, A5.sm, Ex.refl _, tB, g6, fun v' d' H6 b1 b2 A6 => qq _ _ ⟨v', d', rfl, b1.mono (vw_hd A5.sm (Ex.refl _) A6), b2, A5.trans A6⟩⟩
    · exact qq _ _ ⟨v, t, rfl, tB.t g6, sm_gd g6, A5⟩
  · obtain ⟨p1, S2, y1, y3, y4, y5, rfl⟩ := p
    exact ⟨ex_l hd_le p1, y1, _, y3, y4, y5, rfl⟩
end
end Sk

namespace Sk
open PySem PySem.Spec PyProof.Rows L2 Evl
theorem all_mk {P : Program} {w : World} {K : PySem.W.Frag} {h : Heap} {mg : Str → Option Value} {fa f0 f1 f2 f3 f4 f5 f6 f7 f8 f9 f10 f11 f12 f13 f14 f15 f16 : Addr} (X : K.In h) (G : h.Ns mainGlobals mg) (hfa : mg "law" = some (.ref fa))
    {od0 an0 od1 an1 od2 an2 od3 an3 od4 an4 od5 an5 od6 an6 od7 an7 od8 an8 od9 an9 od10 an10 od11 an11 od12 an12 od13 an13 od14 an14 od15 an15 od16 an16 : Option Addr} {sl0 sl1 sl2 sl3 sl4 sl5 sl6 sl7 sl8 sl9 sl10 sl11 sl12 sl13 sl14 sl15 sl16 : Array (Option Value)} {oc0 kV0 dc0 pm0 cd0 ct0 oc1 kV1 dc1 pm1 cd1 ct1 oc2 kV2 dc2 pm2 cd2 ct2 oc3 kV3 dc3 pm3 cd3 ct3 oc4 kV4 dc4 pm4 cd4 ct4 oc5 kV5 dc5 pm5 cd5 ct5 oc6 kV6 dc6 pm6 cd6 ct6 oc7 kV7 dc7 pm7 cd7 ct7 oc8 kV8 dc8 pm8 cd8 ct8 oc9 kV9 dc9 pm9 cd9 ct9 oc10 kV10 dc10 pm10 cd10 ct10 oc11 kV11 dc11 pm11 cd11 ct11 oc12 kV12 dc12 pm12 cd12 ct12 oc13 kV13 dc13 pm13 cd13 ct13 oc14 kV14 dc14 pm14 cd14 ct14 oc15 kV15 dc15 pm15 cd15 ct15 oc16 kV16 dc16 pm16 cd16 ct16 : Value}
    (a0 : PySem.W.nsIn K mainGlobals "is_whole" = some (some (.ref f0))) (l0 : K.lookup f0 = some ⟨oc0, od0, .func (PySem.W.fnOf "is_whole" "is_whole" (defArgs sWhole) (defBody sWhole) (defScope sWhole) .none kV0 dc0 pm0 an0 cd0 ct0), sl0⟩) (c0_ : PySem.W.codeIn K cd0 "is_whole" = true) (k0 : PySem.W.keepIn K (.ref f0) = true)
    (a1 : PySem.W.nsIn K mainGlobals "is_letters" = some (some (.ref f1))) (l1 : K.lookup f1 = some ⟨oc1, od1, .func (PySem.W.fnOf "is_letters" "is_letters" (defArgs sLet) (defBody sLet) (defScope sLet) .none kV1 dc1 pm1 an1 cd1 ct1), sl1⟩) (c1_ : PySem.W.codeIn K cd1 "is_letters" = true) (k1 : PySem.W.keepIn K (.ref f1) = true)
    (a2 : PySem.W.nsIn K mainGlobals "is_name" = some (some (.ref f2))) (l2 : K.lookup f2 = some ⟨oc2, od2, .func (PySem.W.fnOf "is_name" "is_name" (defArgs sName) (defBody sName) (defScope sName) .none kV2 dc2 pm2 an2 cd2 ct2), sl2⟩) (c2_ : PySem.W.codeIn K cd2 "is_name" = true) (k2 : PySem.W.keepIn K (.ref f2) = true)
    (a3 : PySem.W.nsIn K mainGlobals "is_value" = some (some (.ref f3))) (l3 : K.lookup f3 = some ⟨oc3, od3, .func (PySem.W.fnOf "is_value" "is_value" (defArgs sIsV) (defBody sIsV) (defScope sIsV) .none kV3 dc3 pm3 an3 cd3 ct3), sl3⟩) (c3_ : PySem.W.codeIn K cd3 "is_value" = true) (k3 : PySem.W.keepIn K (.ref f3) = true)
    (a4 : PySem.W.nsIn K mainGlobals "is_value_within" = some (some (.ref f4))) (l4 : K.lookup f4 = some ⟨oc4, od4, .func (PySem.W.fnOf "is_value_within" "is_value_within" (defArgs sVW) (defBody sVW) (defScope sVW) .none kV4 dc4 pm4 an4 cd4 ct4), sl4⟩) (c4_ : PySem.W.codeIn K cd4 "is_value_within" = true) (k4 : PySem.W.keepIn K (.ref f4) = true)
    (a5 : PySem.W.nsIn K mainGlobals "are_values_within" = some (some (.ref f5))) (l5 : K.lookup f5 = some ⟨oc5, od5, .func (PySem.W.fnOf "are_values_within" "are_values_within" (defArgs sVsW) (defBody sVsW) (defScope sVsW) .none kV5 dc5 pm5 an5 cd5 ct5), sl5⟩) (c5_ : PySem.W.codeIn K cd5 "are_values_within" = true) (k5 : PySem.W.keepIn K (.ref f5) = true)
    (a6 : PySem.W.nsIn K mainGlobals "are_names" = some (some (.ref f6))) (l6 : K.lookup f6 = some ⟨oc6, od6, .func (PySem.W.fnOf "are_names" "are_names" (defArgs sNms) (defBody sNms) (defScope sNms) .none kV6 dc6 pm6 an6 cd6 ct6), sl6⟩) (c6_ : PySem.W.codeIn K cd6 "are_names" = true) (k6 : PySem.W.keepIn K (.ref f6) = true)
    (a7 : PySem.W.nsIn K mainGlobals "_law_stream" = some (some (.ref f7))) (l7 : K.lookup f7 = some ⟨oc7, od7, .func (PySem.W.fnOf "_law_stream" "_law_stream" (defArgs sStream) (defBody sStream) (defScope sStream) .none kV7 dc7 pm7 an7 cd7 ct7), sl7⟩) (c7_ : PySem.W.codeIn K cd7 "_law_stream" = true) (k7 : PySem.W.keepIn K (.ref f7) = true)
    (a8 : PySem.W.nsIn K mainGlobals "_law_draw" = some (some (.ref f8))) (l8 : K.lookup f8 = some ⟨oc8, od8, .func (PySem.W.fnOf "_law_draw" "_law_draw" (defArgs sDraw) (defBody sDraw) (defScope sDraw) .none kV8 dc8 pm8 an8 cd8 ct8), sl8⟩) (c8_ : PySem.W.codeIn K cd8 "_law_draw" = true) (k8 : PySem.W.keepIn K (.ref f8) = true)
    (a9 : PySem.W.nsIn K mainGlobals "_law_choose" = some (some (.ref f9))) (l9 : K.lookup f9 = some ⟨oc9, od9, .func (PySem.W.fnOf "_law_choose" "_law_choose" (defArgs sChoose) (defBody sChoose) (defScope sChoose) .none kV9 dc9 pm9 an9 cd9 ct9), sl9⟩) (c9_ : PySem.W.codeIn K cd9 "_law_choose" = true) (k9 : PySem.W.keepIn K (.ref f9) = true)
    (a10 : PySem.W.nsIn K mainGlobals "_law_word" = some (some (.ref f10))) (l10 : K.lookup f10 = some ⟨oc10, od10, .func (PySem.W.fnOf "_law_word" "_law_word" (defArgs sWord) (defBody sWord) (defScope sWord) .none kV10 dc10 pm10 an10 cd10 ct10), sl10⟩) (c10_ : PySem.W.codeIn K cd10 "_law_word" = true) (k10 : PySem.W.keepIn K (.ref f10) = true)
    (a11 : PySem.W.nsIn K mainGlobals "_law_any_value" = some (some (.ref f11))) (l11 : K.lookup f11 = some ⟨oc11, od11, .func (PySem.W.fnOf "_law_any_value" "_law_any_value" (defArgs sVal) (defBody sVal) (defScope sVal) .none kV11 dc11 pm11 an11 cd11 ct11), sl11⟩) (c11_ : PySem.W.codeIn K cd11 "_law_any_value" = true) (k11 : PySem.W.keepIn K (.ref f11) = true)
    (a12 : PySem.W.nsIn K mainGlobals "_law_odd" = some (some (.ref f12))) (l12 : K.lookup f12 = some ⟨oc12, od12, .func (PySem.W.fnOf "_law_odd" "_law_odd" (defArgs sOdd) (defBody sOdd) (defScope sOdd) .none kV12 dc12 pm12 an12 cd12 ct12), sl12⟩) (c12_ : PySem.W.codeIn K cd12 "_law_odd" = true) (k12 : PySem.W.keepIn K (.ref f12) = true)
    (a13 : PySem.W.nsIn K mainGlobals "_law_bent" = some (some (.ref f13))) (l13 : K.lookup f13 = some ⟨oc13, od13, .func (PySem.W.fnOf "_law_bent" "_law_bent" (defArgs sBent) (defBody sBent) (defScope sBent) .none kV13 dc13 pm13 an13 cd13 ct13), sl13⟩) (c13_ : PySem.W.codeIn K cd13 "_law_bent" = true) (k13 : PySem.W.keepIn K (.ref f13) = true)
    (a14 : PySem.W.nsIn K mainGlobals "_law_letters" = some (some (.ref f14))) (l14 : K.lookup f14 = some ⟨oc14, od14, .func (PySem.W.fnOf "_law_letters" "_law_letters" (defArgs sLetL) (defBody sLetL) (defScope sLetL) .none kV14 dc14 pm14 an14 cd14 ct14), sl14⟩) (c14_ : PySem.W.codeIn K cd14 "_law_letters" = true) (k14 : PySem.W.keepIn K (.ref f14) = true)
    (a15 : PySem.W.nsIn K mainGlobals "_law_good" = some (some (.ref f15))) (l15 : K.lookup f15 = some ⟨oc15, od15, .func (PySem.W.fnOf "_law_good" "_law_good" (defArgs sGood) (defBody sGood) (defScope sGood) .none kV15 dc15 pm15 an15 cd15 ct15), sl15⟩) (c15_ : PySem.W.codeIn K cd15 "_law_good" = true) (k15 : PySem.W.keepIn K (.ref f15) = true)
    (a16 : PySem.W.nsIn K mainGlobals "law" = some (some (.ref f16))) (l16 : K.lookup f16 = some ⟨oc16, od16, .func (PySem.W.fnOf "law" "law" (defArgs sLaw) (defBody sLaw) (defScope sLaw) .none kV16 dc16 pm16 an16 cd16 ct16), sl16⟩) (c16_ : PySem.W.codeIn K cd16 "law" = true) (k16 : PySem.W.keepIn K (.ref f16) = true)
    {t0 t1 t2 t3 t4 t5 : Tok}
    (ex0 : PySem.W.nsIn K mainGlobals "LETTERS" = some (some (.str abc t0)))
    (ex1 : PySem.W.nsIn K mainGlobals "GREATEST_INTEGER" = some (some (.int 1000000000 t1)))
    (ex2 : PySem.W.nsIn K mainGlobals "LONGEST_STRING" = some (some (.int 12 t2)))
    (ex3 : PySem.W.nsIn K mainGlobals "LONGEST_NAME" = some (some (.int 8 t3)))
    (ex4 : PySem.W.nsIn K mainGlobals "MOST_PARTS" = some (some (.int 8 t4)))
    (ex5 : PySem.W.nsIn K mainGlobals "GREATEST_DEPTH" = some (some (.int 6 t5)))
    (z0 : PySem.W.nsIn K mainGlobals "isinstance" = some none)
    (z1 : PySem.W.nsIn K mainGlobals "bool" = some none)
    (z2 : PySem.W.nsIn K mainGlobals "int" = some none)
    (z3 : PySem.W.nsIn K mainGlobals "str" = some none)
    (z4 : PySem.W.nsIn K mainGlobals "list" = some none)
    (z5 : PySem.W.nsIn K mainGlobals "dict" = some none)
    (z6 : PySem.W.nsIn K mainGlobals "len" = some none)
    (z7 : PySem.W.nsIn K mainGlobals "range" = some none)
    (z8 : PySem.W.nsIn K mainGlobals "min" = some none)
    (z9 : PySem.W.nsIn K mainGlobals "max" = some none)
    (z10 : PySem.W.nsIn K mainGlobals "repr" = some none)
    (z11 : PySem.W.nsIn K mainGlobals "abs" = some none)
    : ∃ fd : FuncData, (∀ (s : Shared) (u : Value), BindsTo s fd ⟨[u], []⟩ [("script", u)]) ∧ ∀ base : Heap, K.In base → base.Ns mainGlobals mg → LawOk P w K mg base fa fd "script" (spLaw K) := by
  have e := hfa.symm.trans (PySem.W.mg_of X G a16)
  cases e
  have F0_ := fun_mk (st := sWhole) l0 c0_ k0
  have F1_ := fun_mk (st := sLet) l1 c1_ k1
  have F2_ := fun_mk (st := sName) l2 c2_ k2
  have F3_ := fun_mk (st := sIsV) l3 c3_ k3
  have F4_ := fun_mk (st := sVW) l4 c4_ k4
  have F5_ := fun_mk (st := sVsW) l5 c5_ k5
  have F6_ := fun_mk (st := sNms) l6 c6_ k6
  have F7_ := fun_mk (st := sStream) l7 c7_ k7
  have F8_ := fun_mk (st := sDraw) l8 c8_ k8
  have F9_ := fun_mk (st := sChoose) l9 c9_ k9
  have F10_ := fun_mk (st := sWord) l10 c10_ k10
  have F11_ := fun_mk (st := sVal) l11 c11_ k11
  have F12_ := fun_mk (st := sOdd) l12 c12_ k12
  have F13_ := fun_mk (st := sBent) l13 c13_ k13
  have F14_ := fun_mk (st := sLetL) l14 c14_ k14
  have F15_ := fun_mk (st := sGood) l15 c15_ k15
  have F16_ := fun_mk (st := sLaw) l16 c16_ k16
  have b0 := F0_.binds (ps := ["thing"]) fun _ _ _ _ _ _ us hl => match us, hl with | [_], _ => rfl
  have m0 := PySem.W.mg_of X G a0
  have b1 := F1_.binds (ps := ["thing", "most"]) fun _ _ _ _ _ _ us hl => match us, hl with | [_, _], _ => rfl
  have m1 := PySem.W.mg_of X G a1
  have b2 := F2_.binds (ps := ["thing"]) fun _ _ _ _ _ _ us hl => match us, hl with | [_], _ => rfl
  have m2 := PySem.W.mg_of X G a2
  have b3 := F3_.binds (ps := ["thing"]) fun _ _ _ _ _ _ us hl => match us, hl with | [_], _ => rfl
  have m3 := PySem.W.mg_of X G a3
  have b4 := F4_.binds (ps := ["thing", "depth"]) fun _ _ _ _ _ _ us hl => match us, hl with | [_, _], _ => rfl
  have m4 := PySem.W.mg_of X G a4
  have b5 := F5_.binds (ps := ["things", "depth"]) fun _ _ _ _ _ _ us hl => match us, hl with | [_, _], _ => rfl
  have m5 := PySem.W.mg_of X G a5
  have b6 := F6_.binds (ps := ["things"]) fun _ _ _ _ _ _ us hl => match us, hl with | [_], _ => rfl
  have m6 := PySem.W.mg_of X G a6
  have b7 := F7_.binds (ps := ["script", "start"]) fun _ _ _ _ _ _ us hl => match us, hl with | [_, _], _ => rfl
  have m7 := PySem.W.mg_of X G a7
  have b8 := F8_.binds (ps := ["stream", "size"]) fun _ _ _ _ _ _ us hl => match us, hl with | [_, _], _ => rfl
  have m8 := PySem.W.mg_of X G a8
  have b9 := F9_.binds (ps := ["stream", "items"]) fun _ _ _ _ _ _ us hl => match us, hl with | [_, _], _ => rfl
  have m9 := PySem.W.mg_of X G a9
  have b10 := F10_.binds (ps := ["stream", "most"]) fun _ _ _ _ _ _ us hl => match us, hl with | [_, _], _ => rfl
  have m10 := PySem.W.mg_of X G a10
  have b11 := F11_.binds (ps := ["stream", "depth"]) fun _ _ _ _ _ _ us hl => match us, hl with | [_, _], _ => rfl
  have m11 := PySem.W.mg_of X G a11
  have b12 := F12_.binds (ps := ["stream"]) fun _ _ _ _ _ _ us hl => match us, hl with | [_], _ => rfl
  have m12 := PySem.W.mg_of X G a12
  have b13 := F13_.binds (ps := ["stream", "value"]) fun _ _ _ _ _ _ us hl => match us, hl with | [_, _], _ => rfl
  have m13 := PySem.W.mg_of X G a13
  have b14 := F14_.binds (ps := ["thing", "most"]) fun _ _ _ _ _ _ us hl => match us, hl with | [_, _], _ => rfl
  have m14 := PySem.W.mg_of X G a14
  have b15 := F15_.binds (ps := ["thing", "depth"]) fun _ _ _ _ _ _ us hl => match us, hl with | [_, _], _ => rfl
  have m15 := PySem.W.mg_of X G a15
  have B : Blt mg := ⟨PySem.W.mg_none_of X G z0, PySem.W.mg_none_of X G z1, PySem.W.mg_none_of X G z2, PySem.W.mg_none_of X G z3, PySem.W.mg_none_of X G z4, PySem.W.mg_none_of X G z5, PySem.W.mg_none_of X G z6, PySem.W.mg_none_of X G z7, PySem.W.mg_none_of X G z8, PySem.W.mg_none_of X G z9, PySem.W.mg_none_of X G z10, PySem.W.mg_none_of X G z11⟩
  refine ⟨PySem.W.fnOf "law" "law" (defArgs sLaw) (defBody sLaw) (defScope sLaw) .none kV16 dc16 pm16 an16 cd16 ct16, fun s v => .of_eq rfl, fun base _ _ => ?_⟩
  have gl : Glb mg := ⟨⟨_, PySem.W.mg_of X G ex0⟩, ⟨_, PySem.W.mg_of X G ex1⟩, ⟨_, PySem.W.mg_of X G ex2⟩, ⟨_, PySem.W.mg_of X G ex3⟩, ⟨_, PySem.W.mg_of X G ex4⟩, ⟨_, PySem.W.mg_of X G ex5⟩⟩
  have gD : FnOk P w K mg base CX0 1 f8 _ ["stream", "size"] spDraw := ok_draw (k := 0) F8_
  have W : Drw P w K mg base f8 f9 _ _ := ⟨gD, b8, k8, m8, ok_choose F9_ gD b8 k8 m8 B.len, b9, k9, m9⟩
  have gW := ok_word F10_ W B
  have L0 : Lt P w K mg base f0 _ "is_whole" ["thing"] 1 spWhole := ⟨ok_whole F0_ B, b0, k0, m0⟩
  have L1 : Lt P w K mg base f1 _ "is_letters" ["thing", "most"] 1 spLet := ⟨ok_let (k := 0) F1_ B gl, b1, k1, m1⟩
  have L2 : Lt P w K mg base f2 _ "is_name" ["thing"] 2 spName := ⟨ok_name F2_ gl L1, b2, k2, m2⟩
  have L6 : Lt P w K mg base f6 _ "are_names" ["things"] 3 spNms := ⟨ok_nms (k := 0) F6_ B gl L2, b6, k6, m6⟩
  have L4 : Lt P w K mg base f4 _ "is_value_within" ["thing", "depth"] 16 (spVW 6) := ⟨ok_vw F4_ b4 k4 m4 B gl F5_ b5 k5 m5 L6 L0 L1 6, b4, k4, m4⟩
  have L3 : Lt P w K mg base f3 _ "is_value" ["thing"] 17 spV := ⟨ok_isv F3_ gl L4, b3, k3, m3⟩
  have S7 : Lt P w K mg base f7 _ "_law_stream" ["script", "start"] 1 (spStream K) := ⟨ok_stream (k := 0) F7_ B.len, b7, k7, m7⟩
  have V11 : Lt P w K mg base f11 _ "_law_any_value" ["stream", "depth"] 9 (spVal 6) := ⟨ok_val F11_ b11 m11 W B gW b10 k10 m10 6 (by decide), b11, k11, m11⟩
  have O12 : Lt P w K mg base f12 _ "_law_odd" ["stream"] 3 spOdd := ⟨ok_odd F12_ W B, b12, k12, m12⟩
  have N13 : Lt P w K mg base f13 _ "_law_bent" ["stream", "value"] 9 (spBent 6) := ⟨ok_bent F13_ b13 k13 m13 W B O12 6, b13, k13, m13⟩
  have L14 : Lt P w K mg base f14 _ "_law_letters" ["thing", "most"] 1 spLetL := ⟨ok_letL (k := 0) F14_ B, b14, k14, m14⟩
  have G15 : Lt P w K mg base f15 _ "_law_good" ["thing", "depth"] 8 (spVW 6) := ⟨ok_good F15_ b15 k15 m15 B L14 6, b15, k15, m15⟩
  exact ok_law F16_ W B S7 V11 N13 L3 G15
end Sk
open PySem PySem.W PyProof.Rows
set_option maxHeartbeats 0 in
theorem PySem.Challenge.cw_soonknown_k02_what_is_a_value_holds : PySem.Challenge.rw_soonknown_k02_what_is_a_value.Holds := by
  w_on; o_law; k_head; (case hw => w_witness2)
  k_fill
  refine Sk.walk_law (l := PySem.Challenge.rw_soonknown_k02_what_is_a_value) (n := 63) (x := "script") (sp := fun w => Sk.spLaw _) rfl (by decide) rfl (fun w h Y => PySem.W.kIn_of Y) ?F fun w H a ns hl hb hS => ⟨a, ns, rfl, hS, hl, hb, fun _ => rfl⟩
  case F =>
    intro w mg fa h KX G hmg
    refine' Sk.all_mk KX G hmg ?a0 ?l0 ?c0_ ?k0 ?a1 ?l1 ?c1_ ?k1 ?a2 ?l2 ?c2_ ?k2 ?a3 ?l3 ?c3_ ?k3 ?a4 ?l4 ?c4_ ?k4 ?a5 ?l5 ?c5_ ?k5 ?a6 ?l6 ?c6_ ?k6 ?a7 ?l7 ?c7_ ?k7 ?a8 ?l8 ?c8_ ?k8 ?a9 ?l9 ?c9_ ?k9 ?a10 ?l10 ?c10_ ?k10 ?a11 ?l11 ?c11_ ?k11 ?a12 ?l12 ?c12_ ?k12 ?a13 ?l13 ?c13_ ?k13 ?a14 ?l14 ?c14_ ?k14 ?a15 ?l15 ?c15_ ?k15 ?a16 ?l16 ?c16_ ?k16 ?ex0 ?ex1 ?ex2 ?ex3 ?ex4 ?ex5 ?z0 ?z1 ?z2 ?z3 ?z4 ?z5 ?z6 ?z7 ?z8 ?z9 ?z10 ?z11
    (case a0 => k_is)
    (case l0 => k_is)
    (case c0_ => k_is)
    (case k0 => k_is)
    (case a1 => k_is)
    (case l1 => k_is)
    (case c1_ => k_is)
    (case k1 => k_is)
    (case a2 => k_is)
    (case l2 => k_is)
    (case c2_ => k_is)
    (case k2 => k_is)
    (case a3 => k_is)
    (case l3 => k_is)
    (case c3_ => k_is)
    (case k3 => k_is)
    (case a4 => k_is)
    (case l4 => k_is)
    (case c4_ => k_is)
    (case k4 => k_is)
    (case a5 => k_is)
    (case l5 => k_is)
    (case c5_ => k_is)
    (case k5 => k_is)
    (case a6 => k_is)
    (case l6 => k_is)
    (case c6_ => k_is)
    (case k6 => k_is)
    (case a7 => k_is)
    (case l7 => k_is)
    (case c7_ => k_is)
    (case k7 => k_is)
    (case a8 => k_is)
    (case l8 => k_is)
    (case c8_ => k_is)
    (case k8 => k_is)
    (case a9 => k_is)
    (case l9 => k_is)
    (case c9_ => k_is)
    (case k9 => k_is)
    (case a10 => k_is)
    (case l10 => k_is)
    (case c10_ => k_is)
    (case k10 => k_is)
    (case a11 => k_is)
    (case l11 => k_is)
    (case c11_ => k_is)
    (case k11 => k_is)
    (case a12 => k_is)
    (case l12 => k_is)
    (case c12_ => k_is)
    (case k12 => k_is)
    (case a13 => k_is)
    (case l13 => k_is)
    (case c13_ => k_is)
    (case k13 => k_is)
    (case a14 => k_is)
    (case l14 => k_is)
    (case c14_ => k_is)
    (case k14 => k_is)
    (case a15 => k_is)
    (case l15 => k_is)
    (case c15_ => k_is)
    (case k15 => k_is)
    (case a16 => k_is)
    (case l16 => k_is)
    (case c16_ => k_is)
    (case k16 => k_is)
    (case ex0 => k_is)
    (case ex1 => k_is)
    (case ex2 => k_is)
    (case ex3 => k_is)
    (case ex4 => k_is)
    (case ex5 => k_is)
    (case z0 => k_is)
    (case z1 => k_is)
    (case z2 => k_is)
    (case z3 => k_is)
    (case z4 => k_is)
    (case z5 => k_is)
    (case z6 => k_is)
    (case z7 => k_is)
    (case z8 => k_is)
    (case z9 => k_is)
    (case z10 => k_is)
    (case z11 => k_is)
