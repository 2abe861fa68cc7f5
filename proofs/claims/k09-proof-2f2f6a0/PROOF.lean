import PyProof.Rows.All
import Wide.All
import OpenK.AllK
import Wide.FinOn
import HandS.ForMost
import HandS.Wide
import HandS.IsInst
import HandS.EndBits
import HandS.RaiseMore
import HandS.Evl
import HandS.Flow
import HandS.More
import HandS.ForSpec
import HandS.ExcValue
import KE.KExcIs
import PySem.Challenge.RW_soonknown_k09_errors_made_by_hand
set_option Elab.async false
set_option linter.all false
set_option maxRecDepth 100000
set_option maxHeartbeats 4000000
/-! Rules and words that the proofs of this program share. -/
namespace Sk
open PySem PySem.Spec PyProof.Rows L2 Evl

/-! ## powers of great ints -/
def CPowB (i j : Int) : Prop := 0 ≤ j ∧ (Builtin.Int.intBits i : Int) * j ≤ 2 ^ 27
theorem op_powB {X : Cx} : OpR X (binaryOp .Pow) (rI CPowB fun i j => .int (i ^ j.toNat)) := by
  intro pins s σ H x y u v Q I rx ry h
  obtain ⟨i, j, rfl, rfl, hc, q⟩ := h
  obtain ⟨t, rfl⟩ := rx
  obtain ⟨t', rfl⟩ := ry
  exact pow_int hc.1 hc.2 ⟨.int _, H, I.tok _, ⟨_, rfl⟩, q⟩
theorem bits_of {i : Int} {n : Nat} (h : i.natAbs < 2 ^ n) (h0 : 0 < n) : Builtin.Int.intBits i ≤ n := by
  unfold Builtin.Int.intBits
  split
  · omega
  · have := PySem.Flt.log2_lt_of h0 h
    omega
theorem abs_of_bits {i : Int} {n : Nat} (h : Builtin.Int.intBits i ≤ n) : i.natAbs < 2 ^ n := by
  unfold Builtin.Int.intBits at h
  split at h
  · rename_i e
    have e' : i = 0 := by simpa using e
    subst e'
    exact Nat.two_pow_pos n
  · rename_i e
    have e' : i ≠ 0 := by simpa using e
    have h1 : i.natAbs ≠ 0 := by omega
    have h2 := Nat.lt_log2_self (n := i.natAbs)
    exact Nat.lt_of_lt_of_le h2 (Nat.pow_le_pow_right (by decide) (by omega))

/-! ## the heap beside the source of draws -/
/-- the heap without what stands at st -/
def Hd (st : Addr) (H : Hp) : Hp := fun a => if a = st then none else H a
theorem hd_some {st a : Addr} {H : Hp} {o : HO} (h : Hd st H a = some o) : a ≠ st ∧ H a = some o := by
  unfold Hd at h
  split at h
  · cases h
  · exact ⟨by assumption, h⟩
theorem hd_of {st a : Addr} {H : Hp} {o : HO} (n : a ≠ st) (h : H a = some o) : Hd st H a = some o := by
  unfold Hd; rw [if_neg n]; exact h
theorem hd_le {st : Addr} {H : Hp} : Ex (Hd st H) H := fun _ _ h => (hd_some h).2
/-- what was there beside st is there -/
def Gr (st : Addr) (H H' : Hp) : Prop := Ex (Hd st H) (Hd st H')
theorem Gr.refl {st : Addr} {H : Hp} : Gr st H H := Ex.refl _
theorem Gr.trans {st : Addr} {H H1 H2 : Hp} (a : Gr st H H1) (b : Gr st H1 H2) : Gr st H H2 := Ex.trans a b
/-- the source: two numbers -/
def Strm (st : Addr) (H : Hp) : Prop := ∃ d s : Int, H st = some (.lst [.int d, .int s]) ∧ 0 ≤ d ∧ d.natAbs < 2 ^ 1100000 ∧ 0 ≤ s ∧ s < 2 ^ 31
theorem Strm.some {st : Addr} {H : Hp} (h : Strm st H) : ∃ o, H st = some o := let ⟨_, _, e, _⟩ := h; ⟨_, e⟩
theorem gr_upd {st : Addr} {H : Hp} {o : HO} : Gr st H (upd H st o) := fun a u h => by
  obtain ⟨n, e⟩ := hd_some h
  exact hd_of n (by rw [upd_ne n]; exact e)
theorem gr_new {st p : Addr} {H : Hp} {o : HO} (h : H p = none) : Gr st H (upd H p o) := fun a u e => by
  obtain ⟨n, e⟩ := hd_some e
  exact hd_of n (by rw [upd_ne (ne_of_none e h)]; exact e)
theorem gr_ex {st : Addr} {H H' : Hp} (h : Ex H H') : Gr st H H' := fun a u e => by
  obtain ⟨n, e⟩ := hd_some e
  exact hd_of n (h _ _ e)
theorem Strm.new {st p : Addr} {H : Hp} {o : HO} (h : Strm st H) (hp : H p = none) : Strm st (upd H p o) := by
  obtain ⟨d, s, e, r⟩ := h
  exact ⟨d, s, by rw [upd_ne (ne_of_none e hp)]; exact e, r⟩
theorem Strm.ne {st p : Addr} {H : Hp} (h : Strm st H) (hp : H p = none) : p ≠ st := by
  obtain ⟨o, e⟩ := h.some
  intro z; subst z; rw [e] at hp; cases hp
/-- fresh behind is fresh before -/
theorem Gr.back {st p : Addr} {H H' : Hp} (g : Gr st H H') (s : Strm st H') (h : H' p = none) : Hd st H p = none := by
  cases e : Hd st H p with
  | none => rfl
  | some o =>
    have := (hd_some (g _ _ e)).2
    rw [h] at this; cases this
/-- behind: the source still stands, the rest is there -/
structure Aft (st : Addr) (H H' : Hp) : Prop where
  gr : Gr st H H'
  sm : Strm st H'
theorem Aft.trans {st : Addr} {H H1 H2 : Hp} (a : Aft st H H1) (b : Aft st H1 H2) : Aft st H H2 := ⟨a.gr.trans b.gr, b.sm⟩
theorem Aft.of {st : Addr} {H : Hp} (s : Strm st H) : Aft st H H := ⟨.refl, s⟩
theorem Aft.new {st p : Addr} {H H1 : Hp} {o : HO} (a : Aft st H H1) (h : H1 p = none) : Aft st H (upd H1 p o) := ⟨a.gr.trans (gr_new h), a.sm.new h⟩
/-- a thing of one's own that H does not know changes -/
theorem Aft.mut {st p : Addr} {H H1 : Hp} {o : HO} (a : Aft st H H1) (n : p ≠ st) (h : Hd st H p = none) : Aft st H (upd H1 p o) := by
  refine ⟨fun b u e => ?_, ?_⟩
  · have hb : b ≠ p := by intro z; subst z; rw [h] at e; cases e
    obtain ⟨nb, e1⟩ := hd_some (a.gr _ _ e)
    exact hd_of nb (by rw [upd_ne hb]; exact e1)
  · obtain ⟨d, s, e, r⟩ := a.sm
    exact ⟨d, s, by rw [upd_ne (Ne.symm n)]; exact e, r⟩
theorem Aft.at {st p : Addr} {H H1 : Hp} {o : HO} (a : Aft st H H1) (n : p ≠ st) (h : H p = some o) : H1 p = some o := (hd_some (a.gr _ _ (hd_of n h))).2
end Sk

/-! Data of any depth in the abstract heap; its repr. -/
namespace Sk
open PySem PySem.Spec PyProof.Rows L2 Evl
mutual
inductive Rx (h : Heap) : Value → PyData → Prop
  | none : Rx h .none .none
  | bool (b) : Rx h (.bool b) (.bool b)
  | int (i t) : Rx h (.int i t) (.int i)
  | str (x t) : Rx h (.str x t) (.str x)
  | list {a o vs n ds} (e : h.get? a = some o) (c : o.cls = .type "list") (q : o.data = .seq vs n) (r : RxAll h vs.toList ds) : Rx h (.ref a) (.list ds)
  | tuple {a o vs n ds} (e : h.get? a = some o) (c : o.cls = .type "tuple") (q : o.data = .seq vs n) (r : RxAll h vs.toList ds) : Rx h (.ref a) (.tuple ds)
  | dict {a o es n kvs} (l : (a == sysModules) = false) (e : h.get? a = some o) (c : o.cls = .type "dict") (q : o.data = .dict es n) (r : RxAll h (es.toList.map (·.key)) (kvs.map (·.1)))
      (r2 : RxAll h (es.toList.map (·.val)) (kvs.map (·.2))) : Rx h (.ref a) (.dict kvs)
inductive RxAll (h : Heap) : List Value → List PyData → Prop
  | nil : RxAll h [] []
  | cons {v vs d ds} (x : Rx h v d) (r : RxAll h vs ds) : RxAll h (v :: vs) (d :: ds)
end
mutual
theorem Rx.reads {h : Heap} : ∀ {v : Value} {d : PyData}, Rx h v d → ∃ as, Reads h v d as
  | _, _, .none => ⟨_, .none⟩
  | _, _, .bool b => ⟨_, .bool b⟩
  | _, _, .int i t => ⟨_, .int i t⟩
  | _, _, .str x t => ⟨_, .str x t⟩
  | _, _, .list e c q r => let ⟨_, z⟩ := r.reads; ⟨_, .list e c q z⟩
  | _, _, .tuple e c q r => let ⟨_, z⟩ := r.reads; ⟨_, .tuple e c q z⟩
  | _, _, .dict _ e c q r r2 => let ⟨_, z⟩ := r.reads; let ⟨_, z2⟩ := r2.reads; ⟨_, .dict e c q z z2⟩
theorem RxAll.reads {h : Heap} : ∀ {v : List Value} {d : List PyData}, RxAll h v d → ∃ as, ReadsAll h v d as
  | _, _, .nil => ⟨_, .nil⟩
  | _, _, .cons x r => let ⟨_, z⟩ := x.reads; let ⟨_, z2⟩ := r.reads; ⟨_, .cons z z2⟩
end
def FitsAll (ds : List PyData) : Prop := ∀ t ∈ PyData.shownAll ds, t.length ≤ sizeLine
theorem fits_list {xs : List PyData} (h : (PyData.list xs).shown.length ≤ sizeLine) : (listText (PyData.shownAll xs)).length ≤ sizeLine ∧ FitsAll xs := by
  have z : (listText (PyData.shownAll xs)).length ≤ sizeLine := by simpa only [PyData.shown] using h
  exact ⟨z, fun t m => Nat.le_trans (listText_mem_le m) z⟩
theorem fits_tuple {xs : List PyData} (h : (PyData.tuple xs).shown.length ≤ sizeLine) : (tupleText (PyData.shownAll xs)).length ≤ sizeLine ∧ FitsAll xs := by
  have z : (tupleText (PyData.shownAll xs)).length ≤ sizeLine := by simpa only [PyData.shown] using h
  exact ⟨z, fun t m => Nat.le_trans (tupleText_mem_le m) z⟩
theorem fits_dict {kvs : List (PyData × PyData)} (h : (PyData.dict kvs).shown.length ≤ sizeLine) : (dictText (PyData.shownKv kvs)).length ≤ sizeLine ∧ FitsAll (kvs.map (·.1)) ∧ FitsAll (kvs.map (·.2)) := by
  have z : (dictText (PyData.shownKv kvs)).length ≤ sizeLine := by simpa only [PyData.shown] using h
  refine ⟨z, fun t m => ?_, fun t m => ?_⟩
  · obtain ⟨p, hp, l⟩ := PyData.shownKv_key_le kvs t m
    exact Nat.le_trans l (Nat.le_trans (dictText_mem_le hp) z)
  · obtain ⟨p, hp, l⟩ := PyData.shownKv_val_le kvs t m
    exact Nat.le_trans l (Nat.le_trans (dictText_mem_le hp) z)
/-- what is needed of the parts of a dict -/
theorem two_dict {prog : Program} {w : World} {h : Heap} {es : List DictEntry} {kvs : List (PyData × PyData)} {b1 b2 : List Addr} (k1 : ReprAllK prog w b1 h (PyData.depthAll (kvs.map (·.1))) (es.map (·.key)) (PyData.shownAll (kvs.map (·.1))))
    (k2 : ReprAllK prog w b2 h (PyData.depthAll (kvs.map (·.2))) (es.map (·.val)) (PyData.shownAll (kvs.map (·.2)))) : ReprEntriesK prog w (b1 ++ b2) h (PyData.depthKv kvs) es (PyData.shownKv kvs) := by
  rw [PyData.shownKv_eq]
  exact .of_two es _ _ (k1.more_le (fun _ m => List.mem_append.mpr (.inl m)) (PyData.depthAll_keys_le kvs)) (k2.more_le (fun _ m => List.mem_append.mpr (.inr m)) (PyData.depthAll_vals_le kvs))
mutual
theorem Rx.repr {prog : Program} {w : World} {h : Heap} : ∀ {v : Value} {d : PyData}, Rx h v d → d.showable = true → d.shown.length ≤ sizeLine → ∃ bs, ReadAtMost h d.depth bs ∧ ReprK prog w bs h d.depth v d.shown
  | _, _, .none, _, _ => ⟨[], (fun _ m => nomatch m), by simp only [PyData.shown]; exact .of_is .none _ _ _⟩
  | _, _, .bool b, _, _ => ⟨[], (fun _ m => nomatch m), by simp only [PyData.shown]; exact .of_is (.bool b) _ _ _⟩
  | _, _, .int i t, s, _ => ⟨[], (fun _ m => nomatch m), by simp only [PyData.shown]; exact .of_is (.int t (by simpa [PyData.showable] using s)) _ _ _⟩
  | _, _, .str x t, _, z => ⟨[], (fun _ m => nomatch m), by simp only [PyData.shown] at z ⊢; exact .of_is (.str x t z) _ _ _⟩
  | _, _, .list (a := a) (vs := vs) (ds := xs) e c q r, s, z => by
    obtain ⟨z1, z2⟩ := fits_list z
    obtain ⟨bs, hb, hk⟩ := r.repr (prog := prog) (w := w) (by simpa [PyData.showable] using s) z2
    obtain ⟨as, rr⟩ := (Rx.list e c q r).reads
    have na : a ∉ bs := not_mem_of_deeper rr (by simp only [PyData.depth]; omega) hb
    refine ⟨a :: bs, .cons rr (by simp only [PyData.depth]; omega) hb, ?_⟩
    simp only [PyData.depth, PyData.shown]
    obtain ⟨l⟩ := vs
    cases l with
    | nil =>
      cases (show RxAll h [] xs from r)
      simp only [PyData.shownAll, listText_nil]
      exact ReprK.listEmpty e c q
    | cons x l => exact .list e c q na (by simpa using hk.length_eq) fun i y m => hk.item i y (by simpa using m)
  | _, _, .tuple (a := a) (ds := xs) e c q r, s, z => by
    obtain ⟨z1, z2⟩ := fits_tuple z
    obtain ⟨bs, hb, hk⟩ := r.repr (prog := prog) (w := w) (by simpa [PyData.showable] using s) z2
    obtain ⟨as, rr⟩ := (Rx.tuple e c q r).reads
    have na : a ∉ bs := not_mem_of_deeper rr (by simp only [PyData.depth]; omega) hb
    refine ⟨a :: bs, .cons rr (by simp only [PyData.depth]; omega) hb, ?_⟩
    simp only [PyData.depth, PyData.shown]
    exact .tuple e c q na hk
  | _, _, .dict (a := a) (es := es) (kvs := kvs) l e c q r r2, s, z => by
    obtain ⟨z1, z2, z3⟩ := fits_dict z
    obtain ⟨s1, s2⟩ := PyData.showableKv_split kvs (by simpa [PyData.showable] using s)
    obtain ⟨b1, hb1, k1⟩ := r.repr (prog := prog) (w := w) s1 z2
    obtain ⟨b2, hb2, k2⟩ := r2.repr (prog := prog) (w := w) s2 z3
    obtain ⟨as, rr⟩ := (Rx.dict l e c q r r2).reads
    have hb : ReadAtMost h (PyData.depthKv kvs) (b1 ++ b2) := .append (hb1.mono (PyData.depthAll_keys_le kvs)) (hb2.mono (PyData.depthAll_vals_le kvs))
    have na : a ∉ b1 ++ b2 := not_mem_of_deeper rr (by simp only [PyData.depth]; omega) hb
    refine ⟨a :: (b1 ++ b2), .cons rr (by simp only [PyData.depth]; omega) hb, ?_⟩
    simp only [PyData.depth, PyData.shown]
    exact .dict e c q l na (two_dict k1 k2)
theorem RxAll.repr {prog : Program} {w : World} {h : Heap} : ∀ {vs : List Value} {ds : List PyData}, RxAll h vs ds → PyData.showableAll ds = true → FitsAll ds → ∃ bs, ReadAtMost h (PyData.depthAll ds) bs ∧ ReprAllK prog w bs h (PyData.depthAll ds) vs (PyData.shownAll ds)
  | _, _, .nil, _, _ => ⟨[], (fun _ m => nomatch m), by simp only [PyData.shownAll]; exact .nil⟩
  | _, _, .cons (d := d) (ds := ds) x r, s, z => by
    obtain ⟨s1, s2⟩ : d.showable = true ∧ PyData.showableAll ds = true := by simpa [PyData.showableAll] using s
    unfold FitsAll at z
    simp only [PyData.shownAll, List.mem_cons] at z
    obtain ⟨b1, hb1, k1⟩ := x.repr (prog := prog) (w := w) s1 (z _ (.inl rfl))
    obtain ⟨b2, hb2, k2⟩ := r.repr (prog := prog) (w := w) s2 fun t m => z t (.inr m)
    refine ⟨b1 ++ b2, .append (hb1.mono ?_) (hb2.mono ?_), ?_⟩
    · simp only [PyData.depthAll]; omega
    · simp only [PyData.depthAll]; omega
    · simp only [PyData.depthAll, PyData.shownAll]
      exact .cons ((k1.more fun _ m => List.mem_append.mpr (.inl m)).level_le (by omega)) (k2.more_le (fun _ m => List.mem_append.mpr (.inr m)) (by omega))
end
/-- repr(v), where no repr is running -/
theorem call_repr_rx {prog : Program} {w : World} {A : Around} {E : Value → Shared → Prop} {s : Shared} {v : Value} {d : PyData} {Q : Value → Shared → Prop} (r : Rx s.heap v d) (hs : d.showable = true) (hz : d.shown.length ≤ sizeLine) (hg : A.guards = some [])
    (hu : A.units + (d.depth + 1) < cLine) (hQ : ∀ h' u tk, (∀ b o, s.heap.get? b = some o → h'.get? b = some o) → Q (.str d.shown u) { s with heap := h', toks := tk }) : wpAny (model prog w) A (call (.builtin "repr") [v]) Q E s := by
  have id : ∀ b o, s.heap.get? b = some o → s.heap.get? b = some o := fun _ _ z => z
  have hg1 : A.in1.guards = some [] := hg
  have here : ∀ u tk, Q (.str d.shown u) { s with toks := tk } := fun u tk => hQ s.heap u tk id
  cases r with
  | none => simp only [PyData.shown] at here; exact PySem.P.repr_of_none (here _ _)
  | bool b => simp only [PyData.shown] at here; exact PySem.P.repr_of_bool (here _ _)
  | int i t => simp only [PyData.shown] at here; exact PySem.P.repr_of_int (by simpa [PyData.showable] using hs) (here _ _)
  | str x t => simp only [PyData.shown] at here hz; exact PySem.P.repr_of_str (here _ _) hz
  | @list a o vs n xs e c q r =>
    obtain ⟨z1, z2⟩ := fits_list hz
    obtain ⟨bs, hb, hk⟩ := r.repr (prog := prog) (w := w) (by simpa [PyData.showable] using hs) z2
    obtain ⟨as, rr⟩ := (Rx.list e c q r).reads
    have na : a ∉ bs := not_mem_of_deeper rr (by simp only [PyData.depth]; omega) hb
    simp only [PyData.depth] at hu
    simp only [PyData.shown] at hQ
    refine call_repr_slot (by omega) ⟨o, e, c⟩ F.slot_list_repr.toG ?_
    obtain ⟨l⟩ := vs
    cases l with
    | nil =>
      cases (show RxAll s.heap [] xs from r)
      simp only [PyData.shownAll, listText_nil] at hQ
      exact call_list_repr_empty ⟨o, e, c⟩ e q ⟨_, _, rfl, hQ s.heap _ _ id⟩
    | cons x l =>
      exact call_list_reprK e c q na (by simpa using hk.length_eq) (fun i y m => hk.item i y (by simpa using m)) hg1 (fun b _ => .nil b) (by show A.units + 1 + _ < cLine; omega) id (fun h' u tk k => ⟨_, _, rfl, hQ h' u tk k⟩) z1
  | @tuple a o vs n xs e c q r =>
    obtain ⟨z1, z2⟩ := fits_tuple hz
    obtain ⟨bs, hb, hk⟩ := r.repr (prog := prog) (w := w) (by simpa [PyData.showable] using hs) z2
    obtain ⟨as, rr⟩ := (Rx.tuple e c q r).reads
    have na : a ∉ bs := not_mem_of_deeper rr (by simp only [PyData.depth]; omega) hb
    simp only [PyData.depth] at hu
    simp only [PyData.shown] at hQ
    refine call_repr_slot (by omega) ⟨o, e, c⟩ F.slot_tuple_repr ?_
    exact call_tuple_reprK e c q na hk hg1 (fun b _ => .nil b) (by show A.units + 1 + _ < cLine; omega) id (fun h' u tk k => ⟨_, _, rfl, hQ h' u tk k⟩) z1
  | @dict a o es n kvs l e c q r r2 =>
    obtain ⟨z1, z2, z3⟩ := fits_dict hz
    obtain ⟨s1, s2⟩ := PyData.showableKv_split kvs (by simpa [PyData.showable] using hs)
    obtain ⟨b1, hb1, k1⟩ := r.repr (prog := prog) (w := w) s1 z2
    obtain ⟨b2, hb2, k2⟩ := r2.repr (prog := prog) (w := w) s2 z3
    obtain ⟨as, rr⟩ := (Rx.dict l e c q r r2).reads
    have hb : ReadAtMost s.heap (PyData.depthKv kvs) (b1 ++ b2) := .append (hb1.mono (PyData.depthAll_keys_le kvs)) (hb2.mono (PyData.depthAll_vals_le kvs))
    have na : a ∉ b1 ++ b2 := not_mem_of_deeper rr (by simp only [PyData.depth]; omega) hb
    simp only [PyData.depth] at hu
    simp only [PyData.shown] at hQ
    refine call_repr_slot (by omega) ⟨o, e, c⟩ F.slot_dict_repr ?_
    exact call_dict_reprK e c q l na (two_dict k1 k2) hg1 (fun b _ => .nil b) (by show A.units + 1 + _ < cLine; omega) id (fun h' u tk k => ⟨_, _, rfl, hQ h' u tk k⟩) z1
end Sk

/-! Data of any depth over the abstract heap. -/
namespace Sk
open PySem PySem.Spec PyProof.Rows L2 Evl
mutual
inductive Dq (H : Hp) : V → PyData → Prop
  | non : Dq H .non .none
  | bl (b : Bool) : Dq H (.bl b) (.bool b)
  | int (i : Int) : Dq H (.int i) (.int i)
  | str (x : Str) : Dq H (.str x) (.str x)
  | lst {a xs ds} (e : H a = some (.lst xs)) (r : DqAll H xs ds) : Dq H (.ref a) (.list ds)
  | tup {a xs ds} (e : H a = some (.tup xs)) (r : DqAll H xs ds) : Dq H (.ref a) (.tuple ds)
  | dct {a kvs ds} (e : H a = some (.dK kvs)) (r : DqKv H kvs ds) : Dq H (.ref a) (.dict ds)
inductive DqAll (H : Hp) : List V → List PyData → Prop
  | nil : DqAll H [] []
  | cons {v vs d ds} (x : Dq H v d) (r : DqAll H vs ds) : DqAll H (v :: vs) (d :: ds)
inductive DqKv (H : Hp) : List (Key × V) → List (PyData × PyData) → Prop
  | nil : DqKv H [] []
  | cons {k : Str} {v d kvs ds} (x : Dq H v d) (r : DqKv H kvs ds) : DqKv H ((.inr k, v) :: kvs) ((.str k, d) :: ds)
end
mutual
theorem Dq.mono {H H' : Hp} (e : Ex H H') : ∀ {v d}, Dq H v d → Dq H' v d
  | _, _, .non => .non
  | _, _, .bl b => .bl b
  | _, _, .int i => .int i
  | _, _, .str x => .str x
  | _, _, .lst h r => .lst (e _ _ h) (r.mono e)
  | _, _, .tup h r => .tup (e _ _ h) (r.mono e)
  | _, _, .dct h r => .dct (e _ _ h) (r.mono e)
theorem DqAll.mono {H H' : Hp} (e : Ex H H') : ∀ {v d}, DqAll H v d → DqAll H' v d
  | _, _, .nil => .nil
  | _, _, .cons x r => .cons (x.mono e) (r.mono e)
theorem DqKv.mono {H H' : Hp} (e : Ex H H') : ∀ {v d}, DqKv H v d → DqKv H' v d
  | _, _, .nil => .nil
  | _, _, .cons x r => .cons (x.mono e) (r.mono e)
end
theorem DqAll.length {H : Hp} : ∀ {xs ds}, DqAll H xs ds → xs.length = ds.length
  | _, _, .nil => rfl
  | _, _, .cons _ r => congrArg Nat.succ r.length
theorem DqAll.get {H : Hp} : ∀ {xs ds}, DqAll H xs ds → ∀ {i : Nat} {v : V}, xs[i]? = some v → ∃ d, ds[i]? = some d ∧ Dq H v d
  | _, _, .nil, _, _, e => by simp at e
  | _, _, .cons x r, 0, _, e => by simp at e; subst e; exact ⟨_, rfl, x⟩
  | _, _, .cons x r, i + 1, _, e => by
    obtain ⟨d, h1, h2⟩ := r.get (i := i) (by simpa using e)
    exact ⟨d, by simpa using h1, h2⟩
theorem DqAll.snoc {H : Hp} : ∀ {xs ds}, DqAll H xs ds → ∀ {v d}, Dq H v d → DqAll H (xs ++ [v]) (ds ++ [d])
  | _, _, .nil, _, _, x => .cons x .nil
  | _, _, .cons y r, _, _, x => .cons y (r.snoc x)
theorem DqKv.length {H : Hp} : ∀ {xs ds}, DqKv H xs ds → xs.length = ds.length
  | _, _, .nil => rfl
  | _, _, .cons _ r => congrArg Nat.succ r.length
/-- the names -/
def keyS : PyData → Str
  | .str k => k
  | _ => Str.empty
theorem DqKv.keys {H : Hp} : ∀ {xs ds}, DqKv H xs ds → xs.map (·.1) = (ds.map fun p => keyS p.1).map Sum.inr
  | _, _, .nil => rfl
  | _, _, .cons _ r => by simp only [List.map_cons, r.keys, keyS]
/-- what stands under a name -/
def getD (ds : List (PyData × PyData)) (k : Str) : Option PyData := (ds.find? fun p => decide (keyS p.1 = k)).map (·.2)
theorem DqKv.val {H : Hp} {k : Str} : ∀ {xs ds}, DqKv H xs ds → ∀ {d}, getD ds k = some d → ∃ v, valV xs (.inr k) = some v ∧ Dq H v d
  | _, _, .nil, _, e => by simp [getD] at e
  | _, _, .cons (k := k') (v := v) (d := d') (ds := ds) x r, d, e => by
    by_cases hk : k' = k
    · subst hk
      simp [getD, keyS] at e
      subst e
      exact ⟨v, by simp [valV], x⟩
    · have e' : getD ds k = some d := by simpa [getD, keyS, hk] using e
      obtain ⟨u, h1, h2⟩ := r.val e'
      refine ⟨u, ?_, h2⟩
      rw [← h1]
      simp [valV, hk]
section
variable {X : Cx} {pins : List (Addr × Obj)} {σ : L2.St} {H : Hp} {s : Shared}
mutual
theorem Dq.rx (I : Inv X pins σ H s) : ∀ {v : V} {d : PyData} {u : Value}, Dq H v d → RelV v u → Rx s.heap u d
  | _, _, _, .non, r => by cases r; exact .none
  | _, _, _, .bl b, r => by cases r; exact .bool b
  | _, _, _, .int i, r => by obtain ⟨t, rfl⟩ := r; exact .int i t
  | _, _, _, .str x, r => by obtain ⟨t, rfl⟩ := r; exact .str x t
  | _, _, _, .lst e ra, r => by
    cases r
    obtain ⟨_, its, n, rv, z⟩ := I.hok _ _ e
    exact .list z rfl rfl (by simpa using ra.rx I rv)
  | _, _, _, .tup e ra, r => by
    cases r
    obtain ⟨_, its, rv, o, z, c, n, q⟩ := I.hok _ _ e
    exact .tuple z c q (by simpa using ra.rx I rv)
  | _, _, _, .dct e ra, r => by
    cases r
    obtain ⟨_, low, vs, rel, o, es, ep, z, c, q, _, pr, _⟩ := dk_of I.hok e
    obtain ⟨h1, h2⟩ := ra.rx I rel pr
    exact .dict low z c.1 q h1 h2
theorem DqAll.rx (I : Inv X pins σ H s) : ∀ {v : List V} {d : List PyData} {u : List Value}, DqAll H v d → Vals v u → RxAll s.heap u d
  | _, _, _, .nil, r => by cases r; exact .nil
  | _, _, _, .cons x ra, r => by
    cases r with
    | cons r1 r2 => exact .cons (x.rx I r1) (ra.rx I r2)
theorem DqKv.rx (I : Inv X pins σ H s) : ∀ {kvs : List (Key × V)} {ds : List (PyData × PyData)} {vs : List (Key × Value)} {es : List DictEntry}, DqKv H kvs ds → KV kvs vs → Pairs (mixKind X.prog X.w) es vs →
    RxAll s.heap (es.map (·.key)) (ds.map (·.1)) ∧ RxAll s.heap (es.map (·.val)) (ds.map (·.2))
  | _, _, _, _, .nil, r, p => by
    cases r
    cases p
    exact ⟨.nil, .nil⟩
  | _, _, _, _, .cons (k := k) x ra, r, p => by
    cases r with
    | @cons a b _ _ r1 r2 =>
      obtain ⟨kb, vb⟩ := b
      obtain ⟨h1, h2⟩ := r1
      have h1' : (Sum.inr k : Key) = kb := h1
      subst h1'
      cases p with
      | @cons e kv _ _ p1 p2 p3 =>
        obtain ⟨g1, g2⟩ := ra.rx I r2 p3
        have hk : keyIs (.inr k) e.key = true := p1
        obtain ⟨t, ek⟩ := Value.isStrOf_shape (show Value.isStrOf k e.key = true from hk)
        have ev : e.val = vb := p2
        simp only [List.map_cons]
        rw [ek, ev]
        exact ⟨.cons (.str k t) g1, .cons (x.rx I h2) g2⟩
end
end
/-- repr(v), no repr running around -/
theorem call_reprQ {X : Cx} (hg : X.A.guards = some []) (hu : X.A.units + 64 < cLine) : CallR X (.builtin "repr") (fun xs H Q => ∃ x d, xs = [x] ∧ Dq H x d ∧ d.showable = true ∧ d.shown.length ≤ sizeLine ∧ d.depth ≤ 60 ∧ Q (.str d.shown) H) := by
  intro pins s σ H xs us Q I r h
  obtain ⟨x, d, rfl, hd, hs, hz, hl, q⟩ := h
  obtain ⟨u, rfl, ru⟩ := vals1 r
  exact call_repr_rx (hd.rx I ru) hs hz hg (by omega) fun h' u' tk k => ⟨.str d.shown, H, I.kept k, ⟨_, rfl⟩, q⟩
end Sk

/-! A law's entry where it is known that no repr runs around. -/
namespace Sk
open PySem PySem.Spec PyProof.Rows L2 Evl
/-- the promise of the law's def, called from outside -/
def LawOk (P : Program) (w : World) (K : PySem.W.Frag) (mg : Str → Option Value) (base : Heap) (f : Addr) (fd : FuncData) (x : Str) (sp : Sp) : Prop :=
  ∀ (s : Shared) (H : Hp) (args : Args) (u : Value) (v : V) (Q : VK), Env0 P w K mg base callerA [] s H → BindsTo s fd args [(x, u)] → RelV v u → sp [v] H Q E0 → codeAny (model P w) callerA (.call (.ref f) args) (CR CX0 [] P w H s Q E0) s
/-- by its body -/
theorem law_of {P : Program} {w : World} {K : PySem.W.Frag} {mg : Str → Option Value} {base : Heap} {k : Nat} {f : Addr} {fd : FuncData} {x qual : Str} {st : Stmt} {N : List Str} {y : Str} {sp : Sp} (F : Fun K x qual st f fd) (S : FnScope N [y] (defScope st)) (hr : Room (k + 1) callerA)
    (hbody : ∀ (cdv : Value) (s : Shared) (H : Hp) (v : V) (Q : VK), Room k (callerA.deeper (envOfC qual (defScope st) s.heap.objs.size f cdv)) → (callerA.deeper (envOfC qual (defScope st) s.heap.objs.size f cdv)).guards = some [] → sp [v] H Q E0 →
      ∃ t, PSs (cxOf CX0 P w K mg base N qual (defScope st) f cdv callerA [] s H E0).nox (defBody st) t ∧ t { nx := fun _ H' => Q .non H', rt := Q } (start N [v]) H) : LawOk P w K mg base f fd y sp := by
  intro s H args u v Q e0 hb rv hsp
  obtain ⟨oc, od, kV, doc, pm, an, cdv, ct, osl, rfl, lk, hcd⟩ := F.ex
  have keep : ∀ b o, base.get? b = some o → s.heap.get? b = some o := fun b o z => (e0.bs b o z).1
  have kin := e0.mod.kin.keeps keep
  have kind : ∀ q ∈ [(y, u)], (defScope st).names.lookup q.1 = some .local ∨ ((defScope st).names.lookup q.1 = some .cell ∧ ((cellsFrom (s.heap.objs.size + 1) (defScope st).names []).lookup q.1).isSome = true) := by
    intro q hq
    obtain rfl := List.mem_singleton.mp hq
    exact (S.par y (List.mem_singleton.mpr rfl)).imp (fun z => z) fun z => ⟨z, PySem.W.cellsFrom_some _ _ _ (.inl z)⟩
  refine codeAny_call_function hr.depth (kin _ _ lk) rfl S.co S.gen rfl (PySem.W.codeRec_of kin hcd) (hb _ _ _ _ (wpAny_newFunctionEnv_cells S.kind kind fun env he s1 z => ?_))
  subst he
  refine ⟨(e0.mod.nolimit.keeps keep).keeps z.toInCall.keep, codeAny_func ?_⟩
  obtain ⟨t, ht, hq⟩ := hbody cdv s H v Q (hr.deeper _) rfl hsp
  have I : Inv (cxOf CX0 P w K mg base N qual (defScope st) f cdv callerA [] s H E0) [] (start N [v]) H s1 := inv_start (us := [u]) S hr.hd e0 rfl (.cons rv .nil) z
  refine wpAny_mono (ht.nox.run [] s1 _ H _ I hq) (fun fl s' hs => ?_) fun e s' hs => hs
  cases fl with
  | ret r =>
    obtain ⟨v', _, H', J, rr, q⟩ := hs
    exact ⟨v', H', J.os, J.bare, J.base, J.hok, rr, q⟩
  | next =>
    obtain ⟨_, H', J, q⟩ := hs
    exact ⟨.non, H', J.os, J.bare, J.base, J.hok, rfl, q⟩
  | brk => obtain ⟨_, _, _, q⟩ := hs; exact q.elim
  | cont => obtain ⟨_, _, _, q⟩ := hs; exact q.elim
/-- from the heap behind the top -/
theorem law_enter {P : Program} {w : World} {K : PySem.W.Frag} {mg mb : Str → Option Value} {fa a : Addr} {fd : FuncData} {x : Str} {sp : Sp} {s : Shared} {vs : List Value} {ns : List Int} (KX : K.In s.heap) (hns : s.heap.Ns mainGlobals mg) (hb : s.heap.Ns builtinsNs mb)
    (hbb : ∀ n : Str, n ≠ "__name__" → mb n = bootBuiltins n) (hlim : s.heap.NoLimit) (hg : s.gens = #[]) (ha : s.heap.get? a = some { cls := .type "list", data := .seq vs.toArray }) (hi : IntsAre vs ns) (hl : ns.length ≤ sizeLine)
    (F : ∀ base : Heap, K.In base → base.Ns mainGlobals mg → LawOk P w K mg base fa fd x sp) (hbind : ∀ (s : Shared) (u : Value), BindsTo s fd ⟨[u], []⟩ [(x, u)])
    (hsp : ∀ H : Hp, Only H → SqL K H a (ns.map V.int) → sp [.ref a] H (fun v _ => v = .bl true) E0) :
    codeAny (model P w) callerA (.call (.ref fa) ⟨[.ref a], []⟩) (fun r s' => r = .ok (.ret (.bool true)) ∧ OldK s.heap s'.heap ∧ s'.os = s.os ∧ AllBare s'.gens) s := by
  have rv := vals_ints hi
  have lenV := hi.length
  suffices core : ∀ H : Hp, Only H → SqL K H a (ns.map V.int) → HOk P w H s.heap → (∀ b, H b ≠ none → b = a ∧ K.lookup a = none) →
      codeAny (model P w) callerA (.call (.ref fa) ⟨[.ref a], []⟩) (fun r s' => r = .ok (.ret (.bool true)) ∧ OldK s.heap s'.heap ∧ s'.os = s.os ∧ AllBare s'.gens) s by
    cases hk : K.lookup a with
    | some o =>
      have e := KX a o hk
      rw [ha] at e
      cases e
      refine core (fun _ => none) (fun _ => .inl rfl) (.inr ⟨_, vs.toArray, _, hk, rfl, rfl, rfl, ?_, by simpa using rv⟩) (fun b u z => nomatch z) fun b z => absurd rfl z
      rw [List.size_toArray, lenV]; exact hl
    | none =>
      let ob : Obj := { cls := .type "list", data := .seq vs.toArray }
      have at_ : ∀ b u, (fun b => if b = a then some (HO.frz ob (.lst (ns.map V.int))) else none : Hp) b = some u → b = a ∧ u = .frz ob (.lst (ns.map V.int)) := by
        intro b u z
        by_cases h : b = a
        · subst h; simp at z; exact ⟨rfl, z.symm⟩
        · simp [h] at z
      refine core (fun b => if b = a then some (.frz ob (.lst (ns.map V.int))) else none) (fun b => ?_) (.inl (.inr ⟨ob, by simp⟩)) (fun b u z => ?_) fun b z => ?_
      · by_cases h : b = a
        · exact .inr ⟨ob, ns.map V.int, by simp [h]⟩
        · exact .inl (by simp [h])
      · obtain ⟨rfl, rfl⟩ := at_ b u z
        exact ⟨ha, by rw [List.length_map]; exact hl, vs, _, rv, ha⟩
      · by_cases h : b = a
        · exact ⟨h, hk⟩
        · exact absurd (by simp [h]) z
  intro H hO hS hok hA
  have dictNone : ∀ {b o es ep}, s.heap.get? b = some o → o.data = .dict es ep → H b = none := by
    intro b o es ep e d
    cases q : H b with
    | none => rfl
    | some u =>
      have := (hA b (by simp [q])).1
      subst this
      rw [ha] at e; cases e; cases d
  have nsK : ∀ {b m}, s.heap.Ns b m → (hidT s.heap H).Ns b m := fun ⟨o, es, ep, e, d, r⟩ => ⟨o, es, ep, hidT_get e (dictNone e d), d, r⟩
  have kin : K.In (hidT s.heap H) := fun b o e => hidT_get (KX b o e) (by
    cases q : H b with
    | none => rfl
    | some u =>
      obtain ⟨rfl, n⟩ := hA b (by simp [q])
      rw [n] at e; cases e)
  have e0 : Env0 P w K mg (hidT s.heap H) callerA [] s H := by
    refine ⟨rfl, ⟨kin, nsK hns, ⟨mb, nsK hb, hbb⟩, ?_⟩, fun b o e => of_hidT e, Nat.le_of_eq (hidT_size _ _), trivial, fun b z => ?_, hok, .of_eq hg⟩
    · obtain ⟨mc, h1, h2⟩ := hlim
      exact ⟨mc, nsK h1, h2⟩
    · cases (show b ∈ ([] : List Addr) from z)
  refine codeAny_mono (F _ kin (nsK hns) s H ⟨[.ref a], []⟩ (.ref a) (.ref a) _ e0 (hbind s (.ref a)) rfl (hsp H hO hS)) fun r s' h => ?_
  rcases r with e | fl
  · exact (show False from h).elim
  cases fl with
  | next => exact (show False from h).elim
  | brk => exact (show False from h).elim
  | cont => exact (show False from h).elim
  | ret u =>
    obtain ⟨v, H', os, bare, un, hok', r', q⟩ := h
    cases (show v = .bl true from q)
    cases (show u = Value.bool true from r')
    refine ⟨rfl, .of_keep fun b o e => ?_, os, bare⟩
    cases q : H b with
    | none => exact un.keep b o e q (fun z => by cases (show b ∈ ([] : List Addr) from z)) (fun z => by cases z)
    | some u =>
      rcases hO b with z | ⟨ob, xs, z⟩
      · rw [q] at z; cases z
      · have e1 := (hok b _ z).1
        rw [e] at e1; cases e1
        exact (hok' b _ (un.frzs b _ _ z)).1
/-- the end of a law row: the script has at most n ints of bounded size -/
theorem walk_law {l : PySem.W.OpenLaw} {n : Nat} {q : Program} {loose : List Str} {XP : (Str → Option Value) → Heap → Prop} {YP : World → Heap → Prop} {d : DefRec} {K : Params → PySem.W.Frag} {sp : World → Sp} {x : Str} (hn : l.most = some n) (hn2 : n ≤ sizeLine) (hdf : d.params.defaults = [])
    (hY : ∀ (w : World) (h : Heap), YP w h → (K w.params).In h)
    (F : ∀ (w : World) (mg : Str → Option Value) (fa : Addr) (h : Heap), (K w.params).In h → h.Ns mainGlobals mg → mg d.name = some (.ref fa) → ∃ fd : FuncData, (∀ (s : Shared) (u : Value), BindsTo s fd ⟨[u], []⟩ [(x, u)]) ∧
        ∀ base : Heap, (K w.params).In base → base.Ns mainGlobals mg → LawOk l.prog w (K w.params) mg base fa fd x (sp w))
    (hsp : ∀ (w : World) (H : Hp) (a : Addr) (ns : List Int), ns.length ≤ n → (∀ z ∈ ns, Builtin.Int.intBits z ≤ 1048576) → SqL (K w.params) H a (ns.map V.int) → sp w [.ref a] H (fun v _ => v = .bl true) E0) :
    PySem.W.WalkO q loose XP YP l.row.toRowW d [] (fun f vs => PySem.call f vs) := by
  refine Att.attach_callB hn hdf fun w s₀ s₁ mg mb fa o pm cd doc a vs ns G Y ho hd hcd hmg hobj hints hlen hbits hg => ?_
  obtain ⟨fd, hb, hF⟩ := F w mg fa _ (hY w _ Y) G.T.g hmg
  exact law_enter (hY w _ Y) G.T.g G.T.b G.T.builtins G.T.nolimit hg hobj hints (Nat.le_trans hlen hn2) hF hb fun H _ hS => hsp w H a ns hlen hbits hS
end Sk

/-! Values and their documents, in plain Lean. -/
namespace Sk
open PySem PySem.Spec PyProof.Rows L2 Evl
/-! ## sorted names -/
def leS (a b : Str) : Bool := !ltCps b.cps.toList a.cps.toList
def sortS (ks : List Str) : List Str := ks.mergeSort leS
theorem leS_iff {a b : Str} : leS a b = true ↔ ¬ b.cps.toList < a.cps.toList := by
  unfold leS; rw [ltCps_eq]; simp
theorem leS_trans {a b c : Str} (h1 : leS a b = true) (h2 : leS b c = true) : leS a c = true := by
  rw [leS_iff] at *
  have g1 : a.cps.toList ≤ b.cps.toList := h1
  have g2 : b.cps.toList ≤ c.cps.toList := h2
  exact List.le_trans g1 g2
theorem leS_total (a b : Str) : (leS a b || leS b a) = true := by
  rw [Bool.or_eq_true, leS_iff, leS_iff]
  by_cases h : b.cps.toList < a.cps.toList
  · exact .inr fun z => List.lt_irrefl _ (List.lt_trans h z)
  · exact .inl h
theorem leS_anti {a b : Str} (h1 : leS a b = true) (h2 : leS b a = true) : a = b := by
  rw [leS_iff] at *
  exact ext_toList (List.le_antisymm (show a.cps.toList ≤ b.cps.toList from h1) h2)
theorem rising_pairwise : ∀ (p : Str) (l : List Str), risingS p l = true → (p :: l).Pairwise fun a b => leS a b = true
  | p, [], _ => by simp
  | p, x :: r, h => by
    unfold risingS at h
    rw [Bool.and_eq_true] at h
    have ih := rising_pairwise x r h.2
    refine List.pairwise_cons.mpr ⟨fun y hy => ?_, ih⟩
    rcases List.mem_cons.mp hy with rfl | hy
    · exact h.1
    · exact leS_trans h.1 (List.rel_of_pairwise_cons ih hy)
theorem sorted_eq {ys ks : List Str} (hp : ys.Perm ks) (hs : sortedS ys = true) : ys = sortS ks := by
  have h1 : ys.Pairwise fun a b => leS a b = true := by
    cases ys with
    | nil => exact .nil
    | cons x r => exact rising_pairwise x r hs
  have h2 := List.pairwise_mergeSort (le := leS) (fun a b c => leS_trans) leS_total ks
  exact List.Perm.eq_of_pairwise (fun a b _ _ => leS_anti) h1 h2 (hp.trans (List.mergeSort_perm ks leS).symm)
theorem sortS_perm (ks : List Str) : (sortS ks).Perm ks := List.mergeSort_perm ks leS
/-! ## documents -/
def quo (x : Str) : Str := ("\"" : Str) ++ x ++ "\""
def lookS (l : List (Str × Str)) (k : Str) : Str := ((l.find? fun p => decide (p.1 = k)).map (·.2)).getD Str.empty
def memS (l : List (Str × Str)) (k : Str) : Str := quo k ++ ":" ++ lookS l k
mutual
def doc : PyData → Str
  | .bool b => if b then "true" else "false"
  | .int i => Str.ofString (toString i)
  | .str x => quo x
  | .list xs => ("[" : Str) ++ Str.join "," (docAll xs) ++ "]"
  | .dict kvs => ("{" : Str) ++ Str.join "," ((sortS (kvs.map fun p => keyS p.1)).map (memS (docKv kvs))) ++ "}"
  | .none => Str.empty
  | .tuple _ => Str.empty
def docAll : List PyData → List Str
  | [] => []
  | x :: r => doc x :: docAll r
def docKv : List (PyData × PyData) → List (Str × Str)
  | [] => []
  | (k, x) :: r => (keyS k, doc x) :: docKv r
end
theorem docAll_get : ∀ (xs : List PyData) (i : Nat) (x : PyData), xs[i]? = some x → (docAll xs)[i]? = some (doc x)
  | [], _, _, h => by simp at h
  | y :: r, 0, x, h => by simp at h; subst h; simp [docAll]
  | y :: r, i + 1, x, h => by simp only [docAll, List.getElem?_cons_succ] at h ⊢; exact docAll_get r i x h
theorem docAll_len : ∀ xs : List PyData, (docAll xs).length = xs.length
  | [] => by simp [docAll]
  | x :: r => by simp [docAll, docAll_len r]
theorem docAll_mem : ∀ (xs : List PyData) (t : Str), t ∈ docAll xs → ∃ x ∈ xs, t = doc x
  | [], _, h => by simp [docAll] at h
  | y :: r, t, h => by
    simp only [docAll, List.mem_cons] at h
    rcases h with rfl | h
    · exact ⟨y, by simp, rfl⟩
    · obtain ⟨x, hx, e⟩ := docAll_mem r t h
      exact ⟨x, by simp [hx], e⟩
theorem lookS_get : ∀ (ds : List (PyData × PyData)) (k : Str) (d : PyData), getD ds k = some d → lookS (docKv ds) k = doc d
  | [], _, _, h => by simp [getD] at h
  | (a, x) :: r, k, d, h => by
    by_cases e : keyS a = k
    · simp [getD, e] at h
      subst h
      simp [docKv, lookS, e]
    · have h' : getD r k = some d := by simpa [getD, e] using h
      rw [← lookS_get r k d h']
      simp [docKv, lookS, e]
theorem getD_mem : ∀ (ds : List (PyData × PyData)) (k : Str), k ∈ ds.map (fun p => keyS p.1) → ∃ d, getD ds k = some d ∧ ∃ p ∈ ds, p.2 = d
  | [], _, h => by simp at h
  | (a, x) :: r, k, h => by
    by_cases e : keyS a = k
    · exact ⟨x, by simp [getD, e], (a, x), by simp, rfl⟩
    · simp only [List.map_cons, List.mem_cons] at h
      rcases h with h | h
      · exact absurd h.symm e
      · obtain ⟨d, h1, p, h2, h3⟩ := getD_mem r k h
        exact ⟨d, by simpa [getD, e] using h1, p, by simp [h2], h3⟩
/-! ## the values that are drawn: of depth at most n -/
def okS (m : Nat) (x : Str) : Prop := x.length ≤ m ∧ ∀ c ∈ x.cps.toList, c < 128
def Gd (b : Bool) : Nat → PyData → Prop
  | 0, .int i => b = true ∧ i = 0
  | 0, _ => False
  | _ + 1, .bool _ => True
  | _ + 1, .int i => -1000000000 ≤ i ∧ i ≤ 1000000000
  | _ + 1, .str x => okS 12 x
  | n + 1, .list xs => xs.length ≤ 8 ∧ ∀ x ∈ xs, Gd b n x
  | n + 1, .dict kvs => kvs.length ≤ 8 ∧ (∀ p ∈ kvs, p.1 = .str (keyS p.1) ∧ okS 8 (keyS p.1) ∧ Gd b n p.2) ∧ (kvs.map fun p => keyS p.1).Nodup ∧ (n = 0 → kvs = [])
  | _ + 1, .none => False
  | _ + 1, .tuple _ => False
variable {b : Bool}
theorem gd0 {d : PyData} (h : Gd b 0 d) : b = true ∧ d = .int 0 := by
  cases d with
  | int i => exact ⟨h.1, by rw [h.2]⟩
  | none => exact h.elim
  | bool _ => exact h.elim
  | str _ => exact h.elim
  | list _ => exact h.elim
  | tuple _ => exact h.elim
  | dict _ => exact h.elim
theorem Gd.up : ∀ {n : Nat} {d : PyData}, Gd b n d → Gd b (n + 1) d
  | 0, d, h => by
    obtain ⟨_, rfl⟩ := gd0 h
    exact ⟨by decide, by decide⟩
  | _ + 1, .bool _, h => h
  | _ + 1, .int i, h => h
  | _ + 1, .str x, h => h
  | n + 1, .list xs, h => ⟨h.1, fun x m => (h.2 x m).up⟩
  | n + 1, .dict kvs, h => ⟨h.1, fun p m => ⟨(h.2.1 p m).1, (h.2.1 p m).2.1, (h.2.1 p m).2.2.up⟩, h.2.2.1, fun z => nomatch z⟩
  | _ + 1, .none, h => h.elim
  | _ + 1, .tuple _, h => h.elim
theorem Gd.wide : ∀ {n : Nat} {d : PyData}, Gd false n d → Gd b n d
  | 0, _, h => by
    cases (gd0 h).1
  | _ + 1, .bool _, h => h
  | _ + 1, .int i, h => h
  | _ + 1, .str x, h => h
  | n + 1, .list xs, h => ⟨h.1, fun x m => (h.2 x m).wide⟩
  | n + 1, .dict kvs, h => ⟨h.1, fun p m => ⟨(h.2.1 p m).1, (h.2.1 p m).2.1, (h.2.1 p m).2.2.wide⟩, h.2.2⟩
  | _ + 1, .none, h => h.elim
  | _ + 1, .tuple _, h => h.elim
theorem Gd.le {n m : Nat} {d : PyData} (h : Gd b n d) (l : n ≤ m) : Gd b m d := by
  induction l with
  | refl => exact h
  | step _ ih => exact ih.up
/-! ## how long they are -/
theorem join_le (sep : Str) (B : Nat) : ∀ ts : List Str, (∀ t ∈ ts, t.length ≤ B) → (Str.join sep ts).length ≤ ts.length * (B + sep.length)
  | [], _ => by show (0 : Nat) ≤ _; omega
  | [x], h => by
    have := h x (by simp)
    show x.length ≤ 1 * (B + sep.length)
    omega
  | x :: y :: r, h => by
    have ih := join_le sep B (y :: r) fun t m => h t (List.mem_cons_of_mem _ m)
    have := h x (by simp)
    show (x ++ sep ++ Str.join sep (y :: r)).length ≤ _
    rw [strLen_append, strLen_append]
    simp only [List.length_cons] at ih ⊢
    rw [Nat.succ_mul]
    omega
def bnd : Nat → Nat
  | 0 => 1
  | 1 => 122
  | n + 2 => 690 + 8 * bnd (n + 1)
theorem bnd_ge : ∀ n : Nat, 122 ≤ bnd (n + 1)
  | 0 => Nat.le_refl _
  | n + 1 => by show 122 ≤ 690 + 8 * bnd (n + 1); omega
theorem bnd_le {n : Nat} (h : n ≤ 6) : bnd n ≤ 7300000 := by
  match n, h with
  | 0, _ => decide
  | 1, _ => decide
  | 2, _ => decide
  | 3, _ => decide
  | 4, _ => decide
  | 5, _ => decide
  | 6, _ => decide
theorem all0 : ∀ {xs : List PyData}, (∀ x ∈ xs, Gd b 0 x) → xs = List.replicate xs.length (.int 0)
  | [], _ => rfl
  | x :: r, h => by
    obtain ⟨_, e⟩ := gd0 (h x (by simp))
    have ih := all0 (xs := r) fun y m => h y (by simp [m])
    rw [List.length_cons, List.replicate_succ, ← ih, e]
theorem int_len {i : Int} (h0 : -1000000000 ≤ i) (h1 : i ≤ 1000000000) : (Str.ofString (toString i)).length ≤ 11 := by
  have e : (10 : Nat) ^ 10 = 10000000000 := by decide
  have := int_text_length_le10 (a := i) (k := 10) (by decide) (by rw [e]; omega)
  rw [PySem.ofString_length]
  exact this
theorem quo_len (x : Str) : (quo x).length = x.length + 2 := by
  unfold quo; rw [strLen_append, strLen_append]
  show 1 + x.length + 1 = x.length + 2
  omega
theorem sortS_nil : sortS [] = [] := by simp [sortS]
theorem doc_len : ∀ {n : Nat} {d : PyData}, Gd b n d → (doc d).length ≤ bnd n
  | 0, _, h => by
    obtain ⟨_, rfl⟩ := gd0 h
    simp only [doc]
    decide +kernel
  | n + 1, .bool b, _ => by
    have := bnd_ge n
    cases b
    · show 5 ≤ _; omega
    · show 4 ≤ _; omega
  | n + 1, .int i, h => by
    have := bnd_ge n
    have := int_len h.1 h.2
    simp only [doc]; omega
  | n + 1, .str x, h => by
    have := bnd_ge n
    have := h.1
    simp only [doc]; rw [quo_len]; omega
  | 1, .list xs, h => by
    have z := join_le "," 1 (docAll xs) fun t m => by
      obtain ⟨x, hx, e⟩ := docAll_mem xs t m
      obtain ⟨_, ex⟩ := gd0 (h.2 x hx)
      rw [e, ex]
      simp only [doc]
      decide +kernel
    rw [docAll_len] at z
    have e1 : (Str.ofString ",").length = 1 := rfl
    rw [e1] at z
    have := h.1
    simp only [doc]
    rw [strLen_append, strLen_append]
    show 1 + _ + 1 ≤ 122
    omega
  | n + 2, .list xs, h => by
    have z := join_le "," (bnd (n + 1)) (docAll xs) fun t m => by
      obtain ⟨x, hx, e⟩ := docAll_mem xs t m
      rw [e]
      exact doc_len (h.2 x hx)
    rw [docAll_len] at z
    have e1 : (Str.ofString ",").length = 1 := rfl
    rw [e1] at z
    have z2 : xs.length * (bnd (n + 1) + 1) ≤ 8 * (bnd (n + 1) + 1) := Nat.mul_le_mul_right _ h.1
    simp only [doc]
    rw [strLen_append, strLen_append]
    show 1 + _ + 1 ≤ 690 + 8 * bnd (n + 1)
    omega
  | 1, .dict kvs, h => by
    cases h.2.2.2 rfl
    simp only [doc, List.map_nil, sortS_nil]
    show 2 ≤ 122
    decide
  | n + 2, .dict kvs, h => by
    have z := join_le "," (bnd (n + 1) + 11) ((sortS (kvs.map fun p => keyS p.1)).map (memS (docKv kvs))) fun t m => by
      obtain ⟨k, hk, rfl⟩ := List.mem_map.mp m
      have hk' := (sortS_perm _).mem_iff.mp hk
      obtain ⟨d, hd, p, hp, ep⟩ := getD_mem kvs k hk'
      obtain ⟨q, hq, eq⟩ := List.mem_map.mp hk'
      have hl := (h.2.1 q hq).2.1.1
      rw [eq] at hl
      have hx := doc_len (h.2.1 p hp).2.2
      rw [ep] at hx
      unfold memS
      rw [strLen_append, strLen_append, quo_len, lookS_get kvs k d hd]
      have e1 : (Str.ofString ":").length = 1 := rfl
      rw [e1]
      omega
    rw [List.length_map, (sortS_perm _).length_eq, List.length_map] at z
    have e1 : (Str.ofString ",").length = 1 := rfl
    rw [e1] at z
    have z2 : kvs.length * (bnd (n + 1) + 11 + 1) ≤ 8 * (bnd (n + 1) + 11 + 1) := Nat.mul_le_mul_right _ h.1
    simp only [doc]
    rw [strLen_append, strLen_append]
    show 1 + _ + 1 ≤ 690 + 8 * bnd (n + 1)
    omega
  | _ + 1, .none, h => h.elim
  | _ + 1, .tuple _, h => h.elim
/-! ## how long their reprs are -/
theorem rep_len {m : Nat} {x : Str} (h : okS m x) : (reprText x).length ≤ 10 * m + 2 := by
  have := PySem.StrLaws.reprText_len x fun c hc => Nat.lt_of_lt_of_le (h.2 c hc) (by decide)
  have := h.1
  omega
theorem lsum_le (B : Nat) : ∀ ts : List Str, (∀ t ∈ ts, t.length ≤ B) → (ts.map (·.length)).sum ≤ ts.length * B
  | [], _ => by simp
  | x :: r, h => by
    have ih := lsum_le B r fun t m => h t (List.mem_cons_of_mem _ m)
    have := h x (by simp)
    simp only [List.map_cons, List.sum_cons, List.length_cons, Nat.succ_mul]
    omega
theorem shownAll_mem : ∀ (xs : List PyData) (t : Str), t ∈ PyData.shownAll xs → ∃ x ∈ xs, t = x.shown
  | [], _, h => by simp [PyData.shownAll] at h
  | y :: r, t, h => by
    simp only [PyData.shownAll, List.mem_cons] at h
    rcases h with rfl | h
    · exact ⟨y, by simp, rfl⟩
    · obtain ⟨x, hx, e⟩ := shownAll_mem r t h
      exact ⟨x, by simp [hx], e⟩
theorem shownAll_len : ∀ xs : List PyData, (PyData.shownAll xs).length = xs.length
  | [] => by simp [PyData.shownAll]
  | x :: r => by simp [PyData.shownAll, shownAll_len r]
theorem shownKv_mem : ∀ (xs : List (PyData × PyData)) (t : Str), t ∈ PyData.shownKv xs → ∃ p ∈ xs, t = p.1.shown ++ ": " ++ p.2.shown
  | [], _, h => by simp [PyData.shownKv] at h
  | (a, b) :: r, t, h => by
    simp only [PyData.shownKv, List.mem_cons] at h
    rcases h with rfl | h
    · exact ⟨(a, b), by simp, rfl⟩
    · obtain ⟨x, hx, e⟩ := shownKv_mem r t h
      exact ⟨x, by simp [hx], e⟩
theorem shownKv_len : ∀ xs : List (PyData × PyData), (PyData.shownKv xs).length = xs.length
  | [] => by simp [PyData.shownKv]
  | (a, b) :: r => by simp [PyData.shownKv, shownKv_len r]
theorem shown_len : ∀ {n : Nat} {d : PyData}, Gd b n d → d.shown.length ≤ bnd n
  | 0, _, h => by
    obtain ⟨_, rfl⟩ := gd0 h
    simp only [PyData.shown]
    decide +kernel
  | n + 1, .bool b, _ => by
    have := bnd_ge n
    cases b
    · simp only [PyData.shown]; show 5 ≤ _; omega
    · simp only [PyData.shown]; show 4 ≤ _; omega
  | n + 1, .int i, h => by
    have := bnd_ge n
    have := int_len h.1 h.2
    simp only [PyData.shown]; omega
  | n + 1, .str x, h => by
    have := bnd_ge n
    have := rep_len h
    simp only [PyData.shown]; omega
  | 1, .list xs, h => by
    have z := lsum_le 1 (PyData.shownAll xs) fun t m => by
      obtain ⟨x, hx, e⟩ := shownAll_mem xs t m
      obtain ⟨_, ex⟩ := gd0 (h.2 x hx)
      rw [e, ex]
      simp only [PyData.shown]
      decide +kernel
    have z1 := textFrom_len_le (PyData.shownAll xs) 0 "["
    rw [shownAll_len] at z z1
    have e1 : (Str.ofString "[").length = 1 := rfl
    rw [e1] at z1
    have := h.1
    simp only [PyData.shown]
    unfold listText
    rw [strLen_append]
    show _ + 1 ≤ 122
    omega
  | n + 2, .list xs, h => by
    have z := lsum_le (bnd (n + 1)) (PyData.shownAll xs) fun t m => by
      obtain ⟨x, hx, e⟩ := shownAll_mem xs t m
      rw [e]
      exact shown_len (h.2 x hx)
    have z1 := textFrom_len_le (PyData.shownAll xs) 0 "["
    rw [shownAll_len] at z z1
    have z2 : xs.length * bnd (n + 1) ≤ 8 * bnd (n + 1) := Nat.mul_le_mul_right _ h.1
    have e1 : (Str.ofString "[").length = 1 := rfl
    rw [e1] at z1
    have := h.1
    simp only [PyData.shown]
    unfold listText
    rw [strLen_append]
    show _ + 1 ≤ 690 + 8 * bnd (n + 1)
    omega
  | 1, .dict kvs, h => by
    cases h.2.2.2 rfl
    simp only [PyData.shown, PyData.shownKv]
    show 2 ≤ 122
    decide
  | n + 2, .dict kvs, h => by
    have z := join_le ", " (bnd (n + 1) + 84) (PyData.shownKv kvs) fun t m => by
      obtain ⟨p, hp, e⟩ := shownKv_mem kvs t m
      obtain ⟨g1, g2, g3⟩ := h.2.1 p hp
      have hx := shown_len g3
      have hk := rep_len g2
      rw [e, strLen_append, strLen_append, g1]
      simp only [PyData.shown]
      have e1 : (Str.ofString ": ").length = 2 := rfl
      rw [e1]
      omega
    rw [shownKv_len] at z
    have e1 : (Str.ofString ", ").length = 2 := rfl
    rw [e1] at z
    have z2 : kvs.length * (bnd (n + 1) + 84 + 2) ≤ 8 * (bnd (n + 1) + 84 + 2) := Nat.mul_le_mul_right _ h.1
    simp only [PyData.shown]
    unfold dictText
    rw [strLen_append, strLen_append]
    show 1 + _ + 1 ≤ 690 + 8 * bnd (n + 1)
    omega
  | _ + 1, .none, h => h.elim
  | _ + 1, .tuple _, h => h.elim
theorem all_show : ∀ xs : List PyData, (∀ x ∈ xs, x.showable = true) → PyData.showableAll xs = true
  | [], _ => by simp [PyData.showableAll]
  | x :: r, h => by simp [PyData.showableAll, h x (by simp), all_show r fun y m => h y (by simp [m])]
theorem kv_show : ∀ xs : List (PyData × PyData), (∀ p ∈ xs, p.1.showable = true ∧ p.2.showable = true) → PyData.showableKv xs = true
  | [], _ => by simp [PyData.showableKv]
  | (a, b) :: r, h => by
    have := h (a, b) (by simp)
    simp [PyData.showableKv, this.1, this.2, kv_show r fun y m => h y (by simp [m])]
theorem Gd.show : ∀ {n : Nat} {d : PyData}, Gd b n d → d.showable = true
  | 0, _, h => by
    obtain ⟨_, rfl⟩ := gd0 h
    decide +kernel
  | n + 1, .bool b, _ => by simp [PyData.showable]
  | n + 1, .int i, h => by
    have : i.natAbs.log2 < 1920 := by
      have h1 : i.natAbs < 2 ^ 1920 := Nat.lt_of_le_of_lt (show i.natAbs ≤ 1000000000 by have := h.1; have := h.2; omega) (by decide)
      exact PySem.Flt.log2_lt_of (by decide) h1
    simpa [PyData.showable] using this
  | n + 1, .str x, h => by simp [PyData.showable]
  | n + 1, .list xs, h => by
    simp only [PyData.showable]
    exact all_show xs fun x m => (h.2 x m).show
  | n + 1, .dict kvs, h => by
    simp only [PyData.showable]
    refine kv_show kvs fun p m => ?_
    obtain ⟨g1, _, g3⟩ := h.2.1 p m
    exact ⟨by rw [g1]; simp [PyData.showable], g3.show⟩
  | _ + 1, .none, h => h.elim
  | _ + 1, .tuple _, h => h.elim
theorem depthAll_le {n : Nat} : ∀ xs : List PyData, (∀ x ∈ xs, x.depth ≤ n) → PyData.depthAll xs ≤ n
  | [], _ => by simp [PyData.depthAll]
  | x :: r, h => by
    have := h x (by simp)
    have := depthAll_le r fun y m => h y (by simp [m])
    simp only [PyData.depthAll]; omega
theorem depthKv_le {n : Nat} : ∀ xs : List (PyData × PyData), (∀ p ∈ xs, p.1.depth ≤ n ∧ p.2.depth ≤ n) → PyData.depthKv xs ≤ n
  | [], _ => by simp [PyData.depthKv]
  | (a, b) :: r, h => by
    obtain ⟨g1, g2⟩ := h (a, b) (by simp)
    simp only at g1 g2
    have := depthKv_le r fun y m => h y (by simp [m])
    simp only [PyData.depthKv]; omega
theorem Gd.depth : ∀ {n : Nat} {d : PyData}, Gd b n d → d.depth ≤ n
  | 0, _, h => by
    obtain ⟨_, rfl⟩ := gd0 h
    simp [PyData.depth]
  | n + 1, .bool b, _ => by simp [PyData.depth]
  | n + 1, .int i, h => by simp [PyData.depth]
  | n + 1, .str x, h => by simp [PyData.depth]
  | n + 1, .list xs, h => by
    have := depthAll_le xs fun x m => (h.2 x m).depth
    simp only [PyData.depth]; omega
  | n + 1, .dict kvs, h => by
    have := depthKv_le (n := n) kvs fun p m => by
      obtain ⟨g1, _, g3⟩ := h.2.1 p m
      exact ⟨by rw [g1]; simp [PyData.depth], g3.depth⟩
    simp only [PyData.depth]; omega
  | _ + 1, .none, h => h.elim
  | _ + 1, .tuple _, h => h.elim
end Sk

/-! isinstance of data. -/
namespace Sk
open PySem PySem.Spec PyProof.Rows L2 Evl
theorem kbb : kitB "bool" "bool" = some true := by decide +kernel
theorem kbi : kitB "bool" "int" = some true := by decide +kernel
theorem kbs : kitB "bool" "str" = some false := by decide +kernel
theorem kbl : kitB "bool" "list" = some false := by decide +kernel
theorem kbd : kitB "bool" "dict" = some false := by decide +kernel
theorem kbt : kitB "bool" "tuple" = some false := by decide +kernel
theorem kib : kitB "int" "bool" = some false := by decide +kernel
theorem kii : kitB "int" "int" = some true := by decide +kernel
theorem kis : kitB "int" "str" = some false := by decide +kernel
theorem kil : kitB "int" "list" = some false := by decide +kernel
theorem kid : kitB "int" "dict" = some false := by decide +kernel
theorem kit : kitB "int" "tuple" = some false := by decide +kernel
theorem ksb : kitB "str" "bool" = some false := by decide +kernel
theorem ksi : kitB "str" "int" = some false := by decide +kernel
theorem kss : kitB "str" "str" = some true := by decide +kernel
theorem ksl : kitB "str" "list" = some false := by decide +kernel
theorem ksd : kitB "str" "dict" = some false := by decide +kernel
theorem kst : kitB "str" "tuple" = some false := by decide +kernel
theorem klb : kitB "list" "bool" = some false := by decide +kernel
theorem kli : kitB "list" "int" = some false := by decide +kernel
theorem kls : kitB "list" "str" = some false := by decide +kernel
theorem kll : kitB "list" "list" = some true := by decide +kernel
theorem kld : kitB "list" "dict" = some false := by decide +kernel
theorem klt : kitB "list" "tuple" = some false := by decide +kernel
theorem kdb : kitB "dict" "bool" = some false := by decide +kernel
theorem kdi : kitB "dict" "int" = some false := by decide +kernel
theorem kds : kitB "dict" "str" = some false := by decide +kernel
theorem kdl : kitB "dict" "list" = some false := by decide +kernel
theorem kdd : kitB "dict" "dict" = some true := by decide +kernel
theorem kdt : kitB "dict" "tuple" = some false := by decide +kernel
theorem ktb : kitB "tuple" "bool" = some false := by decide +kernel
theorem kti : kitB "tuple" "int" = some false := by decide +kernel
theorem kts : kitB "tuple" "str" = some false := by decide +kernel
theorem ktl : kitB "tuple" "list" = some false := by decide +kernel
theorem ktd : kitB "tuple" "dict" = some false := by decide +kernel
theorem ktt : kitB "tuple" "tuple" = some true := by decide +kernel
def tyD : PyData → String
  | .none => "NoneType"
  | .bool _ => "bool"
  | .int _ => "int"
  | .str _ => "str"
  | .list _ => "list"
  | .tuple _ => "tuple"
  | .dict _ => "dict"
theorem Dq.ty {K : PySem.W.Frag} {H : Hp} : ∀ {v : V} {d : PyData}, Dq H v d → TyX K H v (.type (tyD d))
  | _, _, .non => .base .non
  | _, _, .bl b => .base (.bl b)
  | _, _, .int i => .base (.int i)
  | _, _, .str x => .base (.str x)
  | _, _, .lst e _ => .base (.lst e)
  | _, _, .tup e _ => .base (.tup e)
  | _, _, .dct e _ => .base (.dK e)
theorem call_isD {X : Cx} : CallR X (.builtin "isinstance") (fun xs H Q => ∃ x T d b, xs = [x, .ty T] ∧ Dq H x d ∧ kitB (tyD d) T = some b ∧ Q (.bl b) H) := by
  intro pins s σ H xs us Q I r h
  obtain ⟨x, T, d, b, rfl, hd, hk, q⟩ := h
  exact call_isi pins s σ H _ us Q I r ⟨x, .ty T, _, _, b, rfl, .ty T, hd.ty, kit_ty hk, q⟩
theorem tyes {σ : L2.St} {H : Hp} {A B : Hp → Prop} (h : A H) : tYes σ H fun b H3 => if b = true then A H3 else B H3 := by
  show (if true = true then A H else B H)
  rw [if_pos rfl]
  exact h
/-- a document read off -/
theorem Dq.lst_inv {H : Hp} {v : V} {xs : List PyData} (h : Dq H v (.list xs)) : ∃ a vs, v = .ref a ∧ H a = some (.lst vs) ∧ DqAll H vs xs := by
  cases h with
  | lst e r => exact ⟨_, _, rfl, e, r⟩
theorem Dq.dct_inv {H : Hp} {v : V} {xs : List (PyData × PyData)} (h : Dq H v (.dict xs)) : ∃ a vs, v = .ref a ∧ H a = some (.dK vs) ∧ DqKv H vs xs := by
  cases h with
  | dct e r => exact ⟨_, _, rfl, e, r⟩
theorem take_snoc {α : Type} {l : List α} {i : Nat} {x : α} (h : l[i]? = some x) : l.take (i + 1) = l.take i ++ [x] := by
  rw [List.take_add_one, h]; rfl
end Sk

/-! xs[::k]; texts of one sign joined; a dict with one more name. -/
namespace Sk
open PySem PySem.Spec PyProof.Rows L2 Evl
theorem vals_pick {xs : List V} {us : List Value} (r : Vals xs us) : ∀ L : List Nat, Vals (L.filterMap (xs[·]?)) (L.filterMap (us[·]?))
  | [] => .nil
  | i :: L => by
    have ih := vals_pick r L
    simp only [List.filterMap_cons]
    cases h : xs[i]? with
    | none => rw [r.none_of h]; exact ih
    | some x =>
      obtain ⟨u, e, ru⟩ := r.get h
      rw [e]
      exact .cons ru ih
theorem pick_mem {xs : List V} (L : List Nat) : ∀ z ∈ L.filterMap (xs[·]?), z ∈ xs := by
  intro z h
  obtain ⟨i, _, e⟩ := List.mem_filterMap.mp h
  exact List.mem_of_getElem? e
def tStep (K : PySem.W.Frag) (te tk : TE) : TE := fun σ H Q => te σ H fun x H1 => tk σ H1 fun y H2 => ∃ a xs k, x = .ref a ∧ y = .int k ∧ k ≠ 0 ∧ SqL K H2 a xs ∧
  ∀ p zs, H2 p = none → (∀ z ∈ zs, z ∈ xs) → zs.length ≤ xs.length → Q (.ref p) (upd H2 p (.lst zs))
theorem pe_step {X : Cx} {e k : Expr} {te tk : TE} {p3 pos : Pos} (he : PE X e te) (hk : PE X k tk) : PE X (.Subscript e (.Slice none none (some k) p3) pos) (tStep X.K te tk) := by
  refine ⟨fun pins s σ H Q I h => Subscript_ (thn (he.run pins s σ H _ I h) fun v s1 ⟨x, H1, I1, r1, q1⟩ => ?_)⟩
  refine wpAny_Slice (thn (po_none.run pins s1 σ H1 (fun o H2 => o = none ∧ H2 = H1) I1 ⟨rfl, rfl⟩) fun vl s2 ⟨l, H2, I2, pl, el, e2⟩ => ?_)
  cases el
  cases e2
  refine thn (po_none.run pins s2 σ H1 (fun o H2 => o = none ∧ H2 = H1) I2 ⟨rfl, rfl⟩) fun vu s3 ⟨l, H2, I3, pu, el, e2⟩ => ?_
  cases el
  cases e2
  rw [evalPart_some]
  refine thn (hk.run pins s3 σ H1 _ I3 q1) fun vk s4 ⟨y, H4, I4, r4, a, xs, n, ex, ey, hn, hs, q⟩ => ?_
  subst ex
  subst ey
  cases r1
  obtain ⟨t, rfl⟩ := r4
  let s5 : Shared := { s4 with heap := s4.heap.push { cls := .type "slice", data := .fields #[vl, vu, .int n t] } }
  have I5 : Inv X pins σ H4 s5 := I4.kept (t' := s4.toks) fun b ob z => Heap.get?_push_of_some _ z
  obtain ⟨its, r, ht, hz⟩ := I5.list hs
  have hlen := r.length
  show wpAny (model X.prog X.w) X.A (subscriptTail e (.Slice none none (some k) p3) (.ref a) (.ref s4.heap.objs.size)) (EP X pins σ Q) X.xe s5
  refine tail_any (ops := [.ref a, .ref s4.heap.objs.size]) ht.isList.typeIs PySem.slot_list_getitem.lookup ?_ (by with_unfolding_all rfl)
  refine wpAny_getItem_list_slice ht.isList (.new _ vl vu _) pl pu (.int n t) (fun z => hn (Option.some.inj z)) ?_ (by rw [List.size_toArray]; omega)
  have hsz := slicePick_size_le its.toArray none none (some n)
  rw [List.size_toArray] at hsz
  generalize hL : sliceRange (sliceBounds none none (some n) its.toArray.size).1 (sliceBounds none none (some n) its.toArray.size).2.1 (sliceBounds none none (some n) its.toArray.size).2.2 = L
  have e1 : slicePick its.toArray none none (some n) = (L.filterMap (its[·]?)).toArray := by
    unfold slicePick
    rw [hL]
    simp
  rw [e1, List.size_toArray] at hsz
  rw [e1]
  have hsz2 : (L.filterMap (its[·]?)).length ≤ its.length := hsz
  have rz := vals_pick r L
  have hl2 := rz.length
  refine ⟨.ref _, _, I5.laid (t' := s4.toks) (o := .lst (L.filterMap (xs[·]?))) (fun b ob z => Heap.get?_push_of_some _ z) (Nat.le_refl _) ?_, rfl, q _ _ (I5.hok.fresh (Nat.le_refl _)) (pick_mem L) (by rw [hl2, hlen]; exact hsz2)⟩
  exact ⟨by rw [hl2]; exact Nat.le_trans hsz2 (by rw [← hlen]; exact hz), _, 0, rz, Heap.get?_push_size _ rfl⟩
/-! ## one sign each, joined -/
def one (c : Nat) : Str := ⟨#[c]⟩
theorem tl_app (a b : Str) : (a ++ b).cps.toList = a.cps.toList ++ b.cps.toList := by
  show (a.cps ++ b.cps).toList = _
  simp
theorem join_one : ∀ cs : List Nat, (Str.join Str.empty (cs.map one)).cps.toList = cs
  | [] => rfl
  | [c] => rfl
  | c :: d :: r => by
    have ih := join_one (d :: r)
    show ((one c ++ Str.empty) ++ Str.join Str.empty ((d :: r).map one)).cps.toList = c :: d :: r
    rw [tl_app, tl_app, ih]
    rfl
theorem sum_one : ∀ cs : List Nat, ((cs.map one).map (·.length)).sum = cs.length
  | [] => rfl
  | c :: r => by
    have ih := sum_one r
    simp only [List.map_cons, List.sum_cons, List.length_cons]
    rw [ih]
    show 1 + r.length = r.length + 1
    omega
/-! ## a name put into a record -/
def putD (ds : List (PyData × PyData)) (k : Str) (d : PyData) : List (PyData × PyData) :=
  if (ds.any fun p => decide (keyS p.1 = k)) = true then ds.map (fun p => if keyS p.1 = k then (p.1, d) else p) else ds ++ [(.str k, d)]
theorem any_keys {H : Hp} {k : Str} : ∀ {kvs ds}, DqKv H kvs ds → (kvs.any fun kv => decide (kv.1 = (.inr k : Key))) = ds.any fun p => decide (keyS p.1 = k)
  | _, _, .nil => rfl
  | _, _, .cons (k := k') x r => by
    simp only [List.any_cons, any_keys r, keyS]
    congr 1
    by_cases e : k' = k
    · simp [e]
    · have : ¬ (Sum.inr k' : Key) = Sum.inr k := fun z => e (Sum.inr.inj z)
      simp [e]
theorem map_put {H : Hp} {k : Str} {v : V} {d : PyData} (h : Dq H v d) : ∀ {kvs : List (Key × V)} {ds : List (PyData × PyData)}, DqKv H kvs ds → DqKv H (kvs.map fun kv => if kv.1 = (.inr k : Key) then (kv.1, v) else kv) (ds.map fun p => if keyS p.1 = k then (p.1, d) else p)
  | _, _, .nil => .nil
  | _, _, .cons (k := k') x r => by
    have ih := map_put (k := k) h r
    by_cases e : k' = k
    · subst e
      simp only [List.map_cons]
      rw [if_pos trivial, if_pos (show keyS (PyData.str k') = k' from rfl)]
      exact .cons h ih
    · have e2 : ¬ (Sum.inr k' : Key) = Sum.inr k := fun z => e (Sum.inr.inj z)
      simp only [List.map_cons]
      rw [if_neg e2, if_neg (show ¬ keyS (PyData.str k') = k from e)]
      exact .cons x ih
theorem snoc_put {H : Hp} {k : Str} {v : V} {d : PyData} (h : Dq H v d) : ∀ {kvs ds}, DqKv H kvs ds → DqKv H (kvs ++ [(.inr k, v)]) (ds ++ [(.str k, d)])
  | _, _, .nil => .cons h .nil
  | _, _, .cons x r => .cons x (snoc_put h r)
theorem DqKv.put {H : Hp} {k : Str} {v : V} {d : PyData} {kvs ds} (r : DqKv H kvs ds) (h : Dq H v d) : DqKv H (putK kvs (.inr k) v) (putD ds k d) := by
  unfold putK putD
  rw [any_keys r]
  split
  · exact map_put h r
  · exact snoc_put h r
theorem putD_len (ds : List (PyData × PyData)) (k : Str) (d : PyData) : (putD ds k d).length ≤ ds.length + 1 := by
  unfold putD
  split <;> simp
theorem putD_keys (ds : List (PyData × PyData)) (k : Str) (d : PyData) : (putD ds k d).map (fun p => keyS p.1) = if k ∈ ds.map (fun p => keyS p.1) then ds.map (fun p => keyS p.1) else ds.map (fun p => keyS p.1) ++ [k] := by
  unfold putD
  by_cases h : k ∈ ds.map fun p => keyS p.1
  · have h' : (ds.any fun p => decide (keyS p.1 = k)) = true := by
      obtain ⟨p, hp, e⟩ := List.mem_map.mp h
      exact List.any_eq_true.mpr ⟨p, hp, by simp [e]⟩
    rw [if_pos h, if_pos h', List.map_map]
    refine List.map_congr_left fun p hp => ?_
    simp only [Function.comp]
    split <;> rfl
  · have h' : ¬ (ds.any fun p => decide (keyS p.1 = k)) = true := fun z => by
      obtain ⟨p, hp, e⟩ := List.any_eq_true.mp z
      exact h (List.mem_map.mpr ⟨p, hp, by simpa using e⟩)
    rw [if_neg h, if_neg h', List.map_append]
    rfl
/-- the parts of a record: whatever it has -/
def GdK (b : Bool) (n m : Nat) (ds : List (PyData × PyData)) : Prop := ds.length ≤ m ∧ (∀ p ∈ ds, p.1 = .str (keyS p.1) ∧ okS 8 (keyS p.1) ∧ Gd b n p.2) ∧ (ds.map fun p => keyS p.1).Nodup
theorem GdK.nil {b : Bool} {n : Nat} : GdK b n 0 [] := ⟨Nat.le_refl _, (fun _ h => nomatch h), by simp⟩
theorem GdK.put {b : Bool} {n m : Nat} {ds : List (PyData × PyData)} (g : GdK b n m ds) {k : Str} {d : PyData} (hk : okS 8 k) (hd : Gd b n d) : GdK b n (m + 1) (putD ds k d) := by
  refine ⟨?_, ?_, ?_⟩
  · have := putD_len ds k d
    have := g.1
    omega
  · intro p hp
    unfold putD at hp
    split at hp
    · obtain ⟨q, hq, rfl⟩ := List.mem_map.mp hp
      have z := g.2.1 q hq
      split
      · exact ⟨z.1, z.2.1, hd⟩
      · exact z
    · rcases List.mem_append.mp hp with hp | hp
      · exact g.2.1 p hp
      · cases List.mem_singleton.mp hp
        exact ⟨rfl, hk, hd⟩
  · rw [putD_keys]
    split
    · exact g.2.2
    · rename_i h
      exact List.nodup_append.mpr ⟨g.2.2, by simp, fun a ha b hb e => by
        cases List.mem_singleton.mp hb
        exact h (e ▸ ha)⟩
end Sk

/-! What is new between two heaps. -/
namespace Sk
open PySem PySem.Spec PyProof.Rows L2 Evl
def Nw (G H : Hp) : Hp := fun a => if G a = none then H a else none
theorem nw_some {G H : Hp} {a : Addr} {o : HO} (h : Nw G H a = some o) : G a = none ∧ H a = some o := by
  unfold Nw at h
  split at h
  · exact ⟨by assumption, h⟩
  · cases h
theorem nw_of {G H : Hp} {a : Addr} {o : HO} (n : G a = none) (h : H a = some o) : Nw G H a = some o := by
  unfold Nw; rw [if_pos n]; exact h
theorem nw_le {G H : Hp} : Ex (Nw G H) H := fun _ _ h => (nw_some h).2
theorem nw_ne {G H : Hp} {st a : Addr} {o : HO} (s : Strm st G) (h : Nw G H a = some o) : a ≠ st := by
  obtain ⟨u, e⟩ := s.some
  intro z; subst z
  rw [(nw_some h).1] at e; cases e
theorem nw_hd {G H : Hp} {st : Addr} (s : Strm st G) : Ex (Nw G H) (Hd st H) := fun a o h => hd_of (nw_ne s h) (nw_some h).2
theorem nw_aft {G H H' : Hp} {st : Addr} (s : Strm st G) (a : Aft st H H') : Ex (Nw G H) (Nw G H') := fun b o h => nw_of (nw_some h).1 (a.at (nw_ne s h) (nw_some h).2)
theorem nw_back {G G' H : Hp} (d : ∀ a, G' a = none → G a = none) : Ex (Nw G' H) (Nw G H) := fun b o h => nw_of (d b (nw_some h).1) (nw_some h).2
theorem Aft.none {H H' : Hp} {st : Addr} (a : Aft st H H') {b : Addr} (h : H' b = none) : H b = none := by
  obtain ⟨u, e⟩ := a.sm.some
  have n : b ≠ st := by intro z; subst z; rw [h] at e; cases e
  cases q : H b with
  | none => rfl
  | some o => rw [a.at n q] at h; cases h
theorem nw_upd {G H : Hp} {b : Addr} {o u : HO} (h : G b = some u) : Nw G (upd H b o) = Nw G H := by
  funext a
  unfold Nw
  split
  · rename_i z
    exact upd_ne (by intro e; subst e; rw [h] at z; cases z)
  · rfl
theorem nw_new {G H : Hp} {b : Addr} {o : HO} (h : H b = none) : Ex (Nw G H) (Nw G (upd H b o)) := fun a u e => nw_of (nw_some e).1 (by rw [upd_ne (ne_of_none (nw_some e).2 h)]; exact (nw_some e).2)
theorem upd_none {H : Hp} {a b : Addr} {o : HO} (h : upd H b o a = none) : H a = none := by
  unfold upd at h
  split at h
  · cases h
  · exact h
end Sk

/-! A call by names alone. -/
namespace Sk
open PySem PySem.Spec PyProof.Rows L2 Evl
theorem pe_callK0 {X : Cx} {CX : CXT} {k : Nat} {f : Addr} {fd : FuncData} {ps ks : List Str} {sp : Sp} {E : XK} {x : Str} {p pos : Pos} {kws : List Keyword} {tk : TA} {g : List Value → List Value → List Value} {gV : List V → List V → List V} (F : FnOk X.prog X.w X.K X.mg X.base CX k f fd ps sp)
    (hr : Room k X.A) (hg : Gl X x) (hm : X.mg x = some (.ref f)) (hk : PySem.W.keepIn X.K (.ref f) = true) (hb : KBinds X.K fd ps ks g gV) (hx : Passes CX X E) (hkw : PK X kws tk) (hall : (backToKw pos (keywordEach kws X.env)).all (·.1.isSome) = true := by rfl)
    (hks : (backToKw pos (keywordEach kws X.env)).filterMap (·.1) = ks := by rfl) (hdb : (x == ("__debug__" : Str)) = false := by decide)
    (hpl : ((backTo pos (starEach [] X.env)).any (·.1) || (backToKw pos (keywordEach kws X.env)).any (·.1.isNone)) = false := by rfl) : PE X (.Call (.Name x p) [] kws pos) (tCallK sp gV E tNil tk) := by
  refine ⟨fun pins s σ H Q I h => wpAny_Call_Name_kw (ld_glob I hg hm (PySem.W.callWith_KW0 (h₀ := X.base) I.ok.mod.kin hk hall (thn (hkw.run pos pins s σ H _ I h) fun ws s2 ⟨zs, H2, I2, rz, q2⟩ => ⟨I2.kIn, ?_⟩) hpl) hdb)⟩
  rw [hks]
  exact run_fnk (us := []) (vs := []) F hr hb hx I2 .nil rz q2
def gNoPos {α : Type} (us ws : List α) : List α := if us.isEmpty = true then ws else []
theorem kb_of {K : PySem.W.Frag} {x qual : Str} {st : Stmt} {f : Addr} {fd : FuncData} {ps ks : List Str} (F : Fun K x qual st f fd) (h0 : ps ≠ [])
    (h : ∀ (kV doc pm : Value) (an : Option Addr) (cdv ct : Value) (ws : List Value), ws.length = ps.length → bindArgs (PySem.W.fnOf x qual (defArgs st) (defBody st) (defScope st) .none kV doc pm an cdv ct) ⟨[], ks.zip ws⟩ = pure (ps.zip ws)) : KBinds K fd ps ks gNoPos gNoPos := by
  obtain ⟨oc, od, kV, doc, pm, an, cdv, ct, osl, rfl, lk, hcd⟩ := F.ex
  refine ⟨fun s us ws _ hl => ?_, fun {vs us zs ws} r rz => ?_⟩
  · unfold gNoPos at hl ⊢
    cases us with
    | nil => exact .of_eq (h kV doc pm an cdv ct ws hl)
    | cons u us =>
      cases ps with
      | nil => exact absurd rfl h0
      | cons p ps => simp at hl
  · cases r with
    | nil => exact rz
    | cons _ _ => exact .nil
end Sk

/-! An own error class over ValueError whose __init__ stores its one argument: made as a value, read, asked for its class. -/
namespace PySem
namespace SkE
open PySem.W PySem.Calls PyProof.Rows PySem.HandSPX
def iA (at_ : Str) (p1 p2 : Pos) : Arguments := { posonlyargs := [], args := [{ arg := "self", annotation := none, pos := p1 }, { arg := at_, annotation := none, pos := p2 }], vararg := none, kwonlyargs := [], kw_defaults := [], kwarg := none, defaults := [] }
def iB (at_ : Str) (q1 q2 q3 q4 : Pos) : List Stmt := [.Assign [.Attribute (.Name "self" q1) at_ q2] (.Name at_ q3) q4]
def iS (at_ : Str) : Scope := { kind := .function, names := [(PySem.Str.ofString "self", .local), (at_, .local)], isGenerator := false, isCoroutine := false, more := [] }
structure ErrTxt (K : Frag) (mg : Str → Option Value) (cl at_ qn : Str) (C fI : Addr) : Prop where
  gC : mg cl = some (.ref C)
  cls : ∃ nm q N bs bm sn sub ab col dd k0 k1 k2 k3 k5, K.lookup C = some (excClassObj nm q C N bs bm true sn sub ab col dd k0 k1 k2 k3 k5 "ValueError.__new__") ∧ refsVE bm = true
  sa : findIn K (.ref C) "__setattr__" = some (some (.builtin "object.__setattr__"))
  ga : findIn K (.ref C) "__getattribute__" = some (some (.builtin "BaseException.__getattribute__"))
  gg : findIn K (.ref C) "__getattr__" = some none
  noN : findIn K (.ref C) at_ = some none
  iC : findIn K (.ref C) "__init__" = some (some (.ref fI))
  tC : typeIn K (.ref fI) = some (.type "function")
  kC : keepIn K (.ref C) = true
  exC : subIn K (.ref C) (.type "BaseException") = some true
  tyC : typeIn K (.ref C) = some (.type "type")
  hdC : hasDictIn K C = true
  fn : ∃ (oc : Value) (od : Option Addr) (doc pm : Value) (an : Option Addr) (cdv ct : Value) (osl : Array (Option Value)) (p1 p2 q1 q2 q3 q4 : Pos),
    K.lookup fI = some ⟨oc, od, .func (fnOf "__init__" qn (iA at_ p1 p2) (iB at_ q1 q2 q3 q4) (iS at_) .none .none doc pm an cdv ct), osl⟩ ∧ codeIn K cdv qn = true
  -- of isinstance
  cl_ : (clsIn K C).isSome = true
  hCl : findIn K (.ref C) "__class__" = some (some (.builtin "object.__class__"))
  hGt : specialIn K (.builtin "object.__class__") "__get__" = some (some (.builtin "getset_descriptor.__get__"))
  hTk : takesIn K (.builtin "object.__class__") = some true
  hOb : mroIn K C (.type "object") = some true
structure InitEnd (at_ : Str) (h h' : Heap) (x C dx t1 : Addr) (v : Value) : Prop where
  keep : ∀ b o, b ≠ x → h.get? b = some o → h'.get? b = some o
  obj : h'.get? x = some { cls := .ref C, dict := some dx, data := .fields #[.ref t1, .none, .none, .none, .bool false, .none] }
  dbig : h.objs.size ≤ dx
  dne : dx ≠ x
  ns : h'.Ns1 dx (fun y => if y = at_ then some v else none)
structure OwnMade (at_ : Str) (h h' : Heap) (e C d : Addr) (v : Value) : Prop where
  keep : ∀ b o, h.get? b = some o → h'.get? b = some o
  new : h.objs.size ≤ e
  obj : ∃ oe vs, h'.get? e = some oe ∧ oe.cls = .ref C ∧ oe.dict = some d ∧ oe.data = .fields vs ∧ vs[1]? = some .none
  dbig : h.objs.size ≤ d
  dne : d ≠ e
  ns : h'.Ns1 d (fun y => if y = at_ then some v else none)
theorem ldC {M : Model} {s : Shared} {name : Str} {scope : Scope} {L a : Addr} {cd : Value} {m : Str → Option Value} {x : Str} {pos : Pos} {v : Value} {Q : Value → Shared → Prop} {A : Around} {E : Value → Shared → Prop} (hn : s.heap.Ns L m) (hv : m x = some v) (h : Q v s)
    (hk : scope.kind = .function := by rfl) (hl : (envOfC name scope L a cd).kindOf x = some .local := by rfl) (hd : (x == ("__debug__" : Str)) = false := by decide) :
    wpAny M A (eval (.Name x pos) (envOfC name scope L a cd)) Q E s := wpAny_Name (wpAny_loadName_local hk hl hn hv h) hd
/-- what __init__ does, called by position or by name -/
def InitOk (K : Frag) (at_ : Str) (C fI : Addr) : Prop := ∀ (prog : Program) (w : World) (A : Around) (R : Result → Shared → Prop) (s : Shared) (args : Args) (x t0 : Addr) (v : Value), (args = ⟨[.ref x, v], []⟩ ∨ args = ⟨[.ref x], [(at_, v)]⟩) →
  K.In s.heap → s.heap.NoLimit → s.heap.get? x = some (excO C t0) → K.lookup x = none → A.depth < recursionLimit → (∀ h' tk dx, InitEnd at_ s.heap h' x C dx t0 v → R (.ok (.ret .none)) { s with heap := h', toks := tk }) → codeAny (model prog w) A (.call (.ref fI) args) R s
theorem init_position {K : Frag} {mg : Str → Option Value} {cl qn : Str} {C fI : Addr} (T : ErrTxt K mg cl "position" qn C fI) : InitOk K "position" C fI := by
  intro prog w A R s args x t0 v hargs X hlim hx hnx hroom hq
  obtain ⟨oc, od, doc, pm, an, cdv, ct, osl, p1, p2, q1, q2, q3, q4, ho, hcd⟩ := T.fn
  obtain ⟨nm, q, N, bs, bm, sn, sub, ab, col, dd, k0, k1, k2, k3, k5, hC, hbm⟩ := T.cls
  have hcl : clsIn K C = some { name := nm, bases := bs, mro := .ref C :: bm, ns := N, qualname := q, hasDict := true, slotNames := sn, subclasses := sub, abstract := ab, collection := col, hasDel := false } := by unfold clsIn; rw [hC] <;> rfl
  have hb : BindsTo s (fnOf "__init__" qn (iA "position" p1 p2) (iB "position" q1 q2 q3 q4) (iS "position") .none .none doc pm an cdv ct) args [("self", .ref x), ("position", v)] := by
    rcases hargs with rfl | rfl
    · exact .of_eq (by first | rfl | with_unfolding_all rfl)
    · exact .of_eq (by first | rfl | with_unfolding_all rfl)
  refine Att.call_fn (binds := [("self", .ref x), ("position", v)]) X hlim ho hcd hroom hb (by first | rfl | decide | with_unfolding_all rfl) (fun s₁ IC => ?_) rfl rfl rfl
  obtain ⟨h₁, tk₁, rfl⟩ := IC.toInCall.same
  have k := IC.toInCall.keep
  have hn := IC.toInCall.ns
  have X₁ : K.In h₁ := X.keeps k
  have hx₁ := k _ _ hx
  show wpAny _ _ (execs _ _) _ _ _
  refine wpAny_execs_cons (plainObj_wpAny_Assign_Attribute (ldC (v := v) hn (by first | rfl | with_unfolding_all rfl | kernel_rfl) (ldC (v := .ref x) hn (by first | rfl | with_unfolding_all rfl | kernel_rfl) ?_)))
  refine set_plain X₁ (ox := excO C t0) (od := none) ⟨hx₁, rfl, rfl, trivial⟩ T.sa (exc_osa X₁ hx₁ hcl (show refsVE (.ref C :: bm) = true from hbm) rfl T.noN fun h₃ tk₃ dx k₃ dn dne hx₃ hn₃ => ?_)
  show wpAny _ _ (execs _ _) _ _ _
  have z : s.heap.objs.size < h₁.objs.size := hn.lt
  exact wpAny_execs_nil (hq h₃ tk₃ dx ⟨fun b o nb e => k₃ b o nb (k b o e), hx₃, Nat.le_of_lt (Nat.lt_of_lt_of_le z dn), dne, hn₃⟩)
theorem init_length {K : Frag} {mg : Str → Option Value} {cl qn : Str} {C fI : Addr} (T : ErrTxt K mg cl "length" qn C fI) : InitOk K "length" C fI := by
  intro prog w A R s args x t0 v hargs X hlim hx hnx hroom hq
  obtain ⟨oc, od, doc, pm, an, cdv, ct, osl, p1, p2, q1, q2, q3, q4, ho, hcd⟩ := T.fn
  obtain ⟨nm, q, N, bs, bm, sn, sub, ab, col, dd, k0, k1, k2, k3, k5, hC, hbm⟩ := T.cls
  have hcl : clsIn K C = some { name := nm, bases := bs, mro := .ref C :: bm, ns := N, qualname := q, hasDict := true, slotNames := sn, subclasses := sub, abstract := ab, collection := col, hasDel := false } := by unfold clsIn; rw [hC] <;> rfl
  have hb : BindsTo s (fnOf "__init__" qn (iA "length" p1 p2) (iB "length" q1 q2 q3 q4) (iS "length") .none .none doc pm an cdv ct) args [("self", .ref x), ("length", v)] := by
    rcases hargs with rfl | rfl
    · exact .of_eq (by first | rfl | with_unfolding_all rfl)
    · exact .of_eq (by first | rfl | with_unfolding_all rfl)
  refine Att.call_fn (binds := [("self", .ref x), ("length", v)]) X hlim ho hcd hroom hb (by first | rfl | decide | with_unfolding_all rfl) (fun s₁ IC => ?_) rfl rfl rfl
  obtain ⟨h₁, tk₁, rfl⟩ := IC.toInCall.same
  have k := IC.toInCall.keep
  have hn := IC.toInCall.ns
  have X₁ : K.In h₁ := X.keeps k
  have hx₁ := k _ _ hx
  show wpAny _ _ (execs _ _) _ _ _
  refine wpAny_execs_cons (plainObj_wpAny_Assign_Attribute (ldC (v := v) hn (by first | rfl | with_unfolding_all rfl | kernel_rfl) (ldC (v := .ref x) hn (by first | rfl | with_unfolding_all rfl | kernel_rfl) ?_)))
  refine set_plain X₁ (ox := excO C t0) (od := none) ⟨hx₁, rfl, rfl, trivial⟩ T.sa (exc_osa X₁ hx₁ hcl (show refsVE (.ref C :: bm) = true from hbm) rfl T.noN fun h₃ tk₃ dx k₃ dn dne hx₃ hn₃ => ?_)
  show wpAny _ _ (execs _ _) _ _ _
  have z : s.heap.objs.size < h₁.objs.size := hn.lt
  exact wpAny_execs_nil (hq h₃ tk₃ dx ⟨fun b o nb e => k₃ b o nb (k b o e), hx₃, Nat.le_of_lt (Nat.lt_of_lt_of_le z dn), dne, hn₃⟩)
theorem init_count {K : Frag} {mg : Str → Option Value} {cl qn : Str} {C fI : Addr} (T : ErrTxt K mg cl "count" qn C fI) : InitOk K "count" C fI := by
  intro prog w A R s args x t0 v hargs X hlim hx hnx hroom hq
  obtain ⟨oc, od, doc, pm, an, cdv, ct, osl, p1, p2, q1, q2, q3, q4, ho, hcd⟩ := T.fn
  obtain ⟨nm, q, N, bs, bm, sn, sub, ab, col, dd, k0, k1, k2, k3, k5, hC, hbm⟩ := T.cls
  have hcl : clsIn K C = some { name := nm, bases := bs, mro := .ref C :: bm, ns := N, qualname := q, hasDict := true, slotNames := sn, subclasses := sub, abstract := ab, collection := col, hasDel := false } := by unfold clsIn; rw [hC] <;> rfl
  have hb : BindsTo s (fnOf "__init__" qn (iA "count" p1 p2) (iB "count" q1 q2 q3 q4) (iS "count") .none .none doc pm an cdv ct) args [("self", .ref x), ("count", v)] := by
    rcases hargs with rfl | rfl
    · exact .of_eq (by first | rfl | with_unfolding_all rfl)
    · exact .of_eq (by first | rfl | with_unfolding_all rfl)
  refine Att.call_fn (binds := [("self", .ref x), ("count", v)]) X hlim ho hcd hroom hb (by first | rfl | decide | with_unfolding_all rfl) (fun s₁ IC => ?_) rfl rfl rfl
  obtain ⟨h₁, tk₁, rfl⟩ := IC.toInCall.same
  have k := IC.toInCall.keep
  have hn := IC.toInCall.ns
  have X₁ : K.In h₁ := X.keeps k
  have hx₁ := k _ _ hx
  show wpAny _ _ (execs _ _) _ _ _
  refine wpAny_execs_cons (plainObj_wpAny_Assign_Attribute (ldC (v := v) hn (by first | rfl | with_unfolding_all rfl | kernel_rfl) (ldC (v := .ref x) hn (by first | rfl | with_unfolding_all rfl | kernel_rfl) ?_)))
  refine set_plain X₁ (ox := excO C t0) (od := none) ⟨hx₁, rfl, rfl, trivial⟩ T.sa (exc_osa X₁ hx₁ hcl (show refsVE (.ref C :: bm) = true from hbm) rfl T.noN fun h₃ tk₃ dx k₃ dn dne hx₃ hn₃ => ?_)
  show wpAny _ _ (execs _ _) _ _ _
  have z : s.heap.objs.size < h₁.objs.size := hn.lt
  exact wpAny_execs_nil (hq h₃ tk₃ dx ⟨fun b o nb e => k₃ b o nb (k b o e), hx₃, Nat.le_of_lt (Nat.lt_of_lt_of_le z dn), dne, hn₃⟩)
theorem init_path {K : Frag} {mg : Str → Option Value} {cl qn : Str} {C fI : Addr} (T : ErrTxt K mg cl "path" qn C fI) : InitOk K "path" C fI := by
  intro prog w A R s args x t0 v hargs X hlim hx hnx hroom hq
  obtain ⟨oc, od, doc, pm, an, cdv, ct, osl, p1, p2, q1, q2, q3, q4, ho, hcd⟩ := T.fn
  obtain ⟨nm, q, N, bs, bm, sn, sub, ab, col, dd, k0, k1, k2, k3, k5, hC, hbm⟩ := T.cls
  have hcl : clsIn K C = some { name := nm, bases := bs, mro := .ref C :: bm, ns := N, qualname := q, hasDict := true, slotNames := sn, subclasses := sub, abstract := ab, collection := col, hasDel := false } := by unfold clsIn; rw [hC] <;> rfl
  have hb : BindsTo s (fnOf "__init__" qn (iA "path" p1 p2) (iB "path" q1 q2 q3 q4) (iS "path") .none .none doc pm an cdv ct) args [("self", .ref x), ("path", v)] := by
    rcases hargs with rfl | rfl
    · exact .of_eq (by first | rfl | with_unfolding_all rfl)
    · exact .of_eq (by first | rfl | with_unfolding_all rfl)
  refine Att.call_fn (binds := [("self", .ref x), ("path", v)]) X hlim ho hcd hroom hb (by first | rfl | decide | with_unfolding_all rfl) (fun s₁ IC => ?_) rfl rfl rfl
  obtain ⟨h₁, tk₁, rfl⟩ := IC.toInCall.same
  have k := IC.toInCall.keep
  have hn := IC.toInCall.ns
  have X₁ : K.In h₁ := X.keeps k
  have hx₁ := k _ _ hx
  show wpAny _ _ (execs _ _) _ _ _
  refine wpAny_execs_cons (plainObj_wpAny_Assign_Attribute (ldC (v := v) hn (by first | rfl | with_unfolding_all rfl | kernel_rfl) (ldC (v := .ref x) hn (by first | rfl | with_unfolding_all rfl | kernel_rfl) ?_)))
  refine set_plain X₁ (ox := excO C t0) (od := none) ⟨hx₁, rfl, rfl, trivial⟩ T.sa (exc_osa X₁ hx₁ hcl (show refsVE (.ref C :: bm) = true from hbm) rfl T.noN fun h₃ tk₃ dx k₃ dn dne hx₃ hn₃ => ?_)
  show wpAny _ _ (execs _ _) _ _ _
  have z : s.heap.objs.size < h₁.objs.size := hn.lt
  exact wpAny_execs_nil (hq h₃ tk₃ dx ⟨fun b o nb e => k₃ b o nb (k b o e), hx₃, Nat.le_of_lt (Nat.lt_of_lt_of_le z dn), dne, hn₃⟩)
theorem init_bound {K : Frag} {mg : Str → Option Value} {cl qn : Str} {C fI : Addr} (T : ErrTxt K mg cl "bound" qn C fI) : InitOk K "bound" C fI := by
  intro prog w A R s args x t0 v hargs X hlim hx hnx hroom hq
  obtain ⟨oc, od, doc, pm, an, cdv, ct, osl, p1, p2, q1, q2, q3, q4, ho, hcd⟩ := T.fn
  obtain ⟨nm, q, N, bs, bm, sn, sub, ab, col, dd, k0, k1, k2, k3, k5, hC, hbm⟩ := T.cls
  have hcl : clsIn K C = some { name := nm, bases := bs, mro := .ref C :: bm, ns := N, qualname := q, hasDict := true, slotNames := sn, subclasses := sub, abstract := ab, collection := col, hasDel := false } := by unfold clsIn; rw [hC] <;> rfl
  have hb : BindsTo s (fnOf "__init__" qn (iA "bound" p1 p2) (iB "bound" q1 q2 q3 q4) (iS "bound") .none .none doc pm an cdv ct) args [("self", .ref x), ("bound", v)] := by
    rcases hargs with rfl | rfl
    · exact .of_eq (by first | rfl | with_unfolding_all rfl)
    · exact .of_eq (by first | rfl | with_unfolding_all rfl)
  refine Att.call_fn (binds := [("self", .ref x), ("bound", v)]) X hlim ho hcd hroom hb (by first | rfl | decide | with_unfolding_all rfl) (fun s₁ IC => ?_) rfl rfl rfl
  obtain ⟨h₁, tk₁, rfl⟩ := IC.toInCall.same
  have k := IC.toInCall.keep
  have hn := IC.toInCall.ns
  have X₁ : K.In h₁ := X.keeps k
  have hx₁ := k _ _ hx
  show wpAny _ _ (execs _ _) _ _ _
  refine wpAny_execs_cons (plainObj_wpAny_Assign_Attribute (ldC (v := v) hn (by first | rfl | with_unfolding_all rfl | kernel_rfl) (ldC (v := .ref x) hn (by first | rfl | with_unfolding_all rfl | kernel_rfl) ?_)))
  refine set_plain X₁ (ox := excO C t0) (od := none) ⟨hx₁, rfl, rfl, trivial⟩ T.sa (exc_osa X₁ hx₁ hcl (show refsVE (.ref C :: bm) = true from hbm) rfl T.noN fun h₃ tk₃ dx k₃ dn dne hx₃ hn₃ => ?_)
  show wpAny _ _ (execs _ _) _ _ _
  have z : s.heap.objs.size < h₁.objs.size := hn.lt
  exact wpAny_execs_nil (hq h₃ tk₃ dx ⟨fun b o nb e => k₃ b o nb (k b o e), hx₃, Nat.le_of_lt (Nat.lt_of_lt_of_le z dn), dne, hn₃⟩)
theorem init_number {K : Frag} {mg : Str → Option Value} {cl qn : Str} {C fI : Addr} (T : ErrTxt K mg cl "number" qn C fI) : InitOk K "number" C fI := by
  intro prog w A R s args x t0 v hargs X hlim hx hnx hroom hq
  obtain ⟨oc, od, doc, pm, an, cdv, ct, osl, p1, p2, q1, q2, q3, q4, ho, hcd⟩ := T.fn
  obtain ⟨nm, q, N, bs, bm, sn, sub, ab, col, dd, k0, k1, k2, k3, k5, hC, hbm⟩ := T.cls
  have hcl : clsIn K C = some { name := nm, bases := bs, mro := .ref C :: bm, ns := N, qualname := q, hasDict := true, slotNames := sn, subclasses := sub, abstract := ab, collection := col, hasDel := false } := by unfold clsIn; rw [hC] <;> rfl
  have hb : BindsTo s (fnOf "__init__" qn (iA "number" p1 p2) (iB "number" q1 q2 q3 q4) (iS "number") .none .none doc pm an cdv ct) args [("self", .ref x), ("number", v)] := by
    rcases hargs with rfl | rfl
    · exact .of_eq (by first | rfl | with_unfolding_all rfl)
    · exact .of_eq (by first | rfl | with_unfolding_all rfl)
  refine Att.call_fn (binds := [("self", .ref x), ("number", v)]) X hlim ho hcd hroom hb (by first | rfl | decide | with_unfolding_all rfl) (fun s₁ IC => ?_) rfl rfl rfl
  obtain ⟨h₁, tk₁, rfl⟩ := IC.toInCall.same
  have k := IC.toInCall.keep
  have hn := IC.toInCall.ns
  have X₁ : K.In h₁ := X.keeps k
  have hx₁ := k _ _ hx
  show wpAny _ _ (execs _ _) _ _ _
  refine wpAny_execs_cons (plainObj_wpAny_Assign_Attribute (ldC (v := v) hn (by first | rfl | with_unfolding_all rfl | kernel_rfl) (ldC (v := .ref x) hn (by first | rfl | with_unfolding_all rfl | kernel_rfl) ?_)))
  refine set_plain X₁ (ox := excO C t0) (od := none) ⟨hx₁, rfl, rfl, trivial⟩ T.sa (exc_osa X₁ hx₁ hcl (show refsVE (.ref C :: bm) = true from hbm) rfl T.noN fun h₃ tk₃ dx k₃ dn dne hx₃ hn₃ => ?_)
  show wpAny _ _ (execs _ _) _ _ _
  have z : s.heap.objs.size < h₁.objs.size := hn.lt
  exact wpAny_execs_nil (hq h₃ tk₃ dx ⟨fun b o nb e => k₃ b o nb (k b o e), hx₃, Nat.le_of_lt (Nat.lt_of_lt_of_le z dn), dne, hn₃⟩)
theorem init_command {K : Frag} {mg : Str → Option Value} {cl qn : Str} {C fI : Addr} (T : ErrTxt K mg cl "command" qn C fI) : InitOk K "command" C fI := by
  intro prog w A R s args x t0 v hargs X hlim hx hnx hroom hq
  obtain ⟨oc, od, doc, pm, an, cdv, ct, osl, p1, p2, q1, q2, q3, q4, ho, hcd⟩ := T.fn
  obtain ⟨nm, q, N, bs, bm, sn, sub, ab, col, dd, k0, k1, k2, k3, k5, hC, hbm⟩ := T.cls
  have hcl : clsIn K C = some { name := nm, bases := bs, mro := .ref C :: bm, ns := N, qualname := q, hasDict := true, slotNames := sn, subclasses := sub, abstract := ab, collection := col, hasDel := false } := by unfold clsIn; rw [hC] <;> rfl
  have hb : BindsTo s (fnOf "__init__" qn (iA "command" p1 p2) (iB "command" q1 q2 q3 q4) (iS "command") .none .none doc pm an cdv ct) args [("self", .ref x), ("command", v)] := by
    rcases hargs with rfl | rfl
    · exact .of_eq (by first | rfl | with_unfolding_all rfl)
    · exact .of_eq (by first | rfl | with_unfolding_all rfl)
  refine Att.call_fn (binds := [("self", .ref x), ("command", v)]) X hlim ho hcd hroom hb (by first | rfl | decide | with_unfolding_all rfl) (fun s₁ IC => ?_) rfl rfl rfl
  obtain ⟨h₁, tk₁, rfl⟩ := IC.toInCall.same
  have k := IC.toInCall.keep
  have hn := IC.toInCall.ns
  have X₁ : K.In h₁ := X.keeps k
  have hx₁ := k _ _ hx
  show wpAny _ _ (execs _ _) _ _ _
  refine wpAny_execs_cons (plainObj_wpAny_Assign_Attribute (ldC (v := v) hn (by first | rfl | with_unfolding_all rfl | kernel_rfl) (ldC (v := .ref x) hn (by first | rfl | with_unfolding_all rfl | kernel_rfl) ?_)))
  refine set_plain X₁ (ox := excO C t0) (od := none) ⟨hx₁, rfl, rfl, trivial⟩ T.sa (exc_osa X₁ hx₁ hcl (show refsVE (.ref C :: bm) = true from hbm) rfl T.noN fun h₃ tk₃ dx k₃ dn dne hx₃ hn₃ => ?_)
  show wpAny _ _ (execs _ _) _ _ _
  have z : s.heap.objs.size < h₁.objs.size := hn.lt
  exact wpAny_execs_nil (hq h₃ tk₃ dx ⟨fun b o nb e => k₃ b o nb (k b o e), hx₃, Nat.le_of_lt (Nat.lt_of_lt_of_le z dn), dne, hn₃⟩)
end SkE
end PySem

namespace PySem
namespace SkE
open PySem.W PySem.Calls PyProof.Rows PySem.HandSPX
section
variable {prog : Program} {w : World} {A : Around} {E : Value → Shared → Prop} {R : Result → Shared → Prop} {h : Heap} {g : Array GenState} {d : Drawn} {t : Nat} {os : OsState}
variable {nm q : Str} {C N : Addr} {bs bm bmB : List Value} {hdct : Bool} {sn : List Str} {sub : List Value} {ab : Bool} {col : Option Bool} {dd : Option Addr} {k0 k1 k2 k3 k5 : Option Value} {B newId initId : String} {kw : List (Str × Value)}
theorem checkK (F : ExcBaseFacts B newId initId bmB) (hT : ∀ X : String, bm.contains (.type X) = bmB.contains (.type X)) {Q : Unit → Shared → Prop}
    (hC : h.get? C = some (excClassObj nm q C N bs bm hdct sn sub ab col dd k0 k1 k2 k3 k5 newId)) (hq : Q () ⟨h, g, d, t, os⟩) : wpAny (model prog w) A (checkBuiltinCall newId ⟨[.ref C], kw⟩) Q E ⟨h, g, d, t, os⟩ := by
  have hcont : (Value.ref C :: bm).contains (.type B) = true := by
    rw [List.contains_cons, hT, F.hasB, Bool.or_true]
  have z := F.noStar
  simp only [checkBuiltinCall, F.newKind, F.newSplit, F.newRow]
  repeat (first
    | refine wpAny_loadPart_at hC ?_
    | (refine wpAny_isSubtype_exc hC ?_
       rw [hcont])
    | refine wpAny_staticBase_exc hC ?_
    | refine wpAny_madeBy_exc hC ?_
    | simp only [bne_self_eq_false, Bool.false_eq_true, if_false]
    | wp_step)
  exact hq
theorem newK (F : ExcBaseFacts B newId initId bmB) (hT : ∀ X : String, bm.contains (.type X) = bmB.contains (.type X))
    (hC : h.get? C = some (excClassObj nm q C N bs bm hdct sn sub ab col dd k0 k1 k2 k3 k5 newId))
    (hq : R (.ok (.ret (.ref (h.objs.size + 1)))) ⟨(h.push (kdv_tup [])).push (excO C h.objs.size), g, d, t, os⟩) :
    codeAny (model prog w) A (.builtin newId ⟨[.ref C], kw⟩) R ⟨h, g, d, t, os⟩ := by
  have ends := F.ends
  have inn : ∀ X : String, (Value.ref C :: bm).contains (.type X) = bmB.contains (.type X) := fun X => by
    rw [List.contains_cons, hT]; rfl
  have hcB := (inn B).trans F.hasB
  have hcA := (inn "AttributeError").trans F.noAttr
  have hcN := (inn "NameError").trans F.noName
  refine codeAny_builtinAt F.entry ?_
  unfold Builtin.«BaseException.__new__»
  refine wpAt_bind ?_
  show wpAt _ _ _ (stack >>= _) _ _ _
  refine wpAt_bind (wpAt_stack fun p below => wpAt_of_wpAny ?_)
  wp_walk
  refine wpAt_of_wpAny ?_
  rw [F.owner]
  repeat (first
    | with_reducible refine wpAny_madeHere_exc F.canon hC ?_
    | with_reducible refine wpAny_loadPart_at hC ?_
    | (with_reducible refine wpAny_isSubtype_exc hC ?_
       first | rw [hcB] | rw [hcA] | rw [hcN])
    | wp_step)
  show R _ _
  rw [Heap.size_push]
  exact hq
theorem typeK (F : ExcBaseFacts B newId initId bmB) (hT : ∀ X : String, bm.contains (.type X) = bmB.contains (.type X)) {fI : Addr} {Q : Fin → Shared → Prop}
    (hC : h.get? C = some (excClassObj nm q C N bs bm hdct sn sub ab col dd k0 k1 k2 k3 k5 newId)) (hi : Looks (model prog w) h (typeLookup (.ref C) "__init__") (some (.ref fI)))
    (hb : ∀ self, Looks (model prog w) h (bindSpecial (.ref fI) self) (.ref fI, [self]))
    (hq : codeAny (model prog w) A (.call (.ref fI) ⟨[.ref (h.objs.size + 1)], kw⟩) (fun r s' => match r with | .ok (.ret v) => v = .none ∧ Q (.done (.ret (.ref (h.objs.size + 1)))) s' | .ok _ => False | .error e => E e s')
      ⟨(h.push (kdv_tup [])).push (excO C h.objs.size), g, d, t, os⟩) : wpAny (model prog w) A (Builtin.«type.__call__» ⟨[.ref C], kw⟩) Q E ⟨h, g, d, t, os⟩ := by
  repeat (first
    | with_reducible refine wpAny_loadPart_at hC ?_
    | with_reducible refine wpAny_madeBy_exc hC ?_
    | wp_step)
  refine codeAny_call_builtin_code (Code.quiet_builtin _ F.quiet) (checkK F hT hC ?_)
  refine newK F hT hC ?_
  show wpAny _ _ _ _ _ _
  have k : ∀ b o, h.get? b = some o → ((h.push (kdv_tup [])).push (excO C h.objs.size)).get? b = some o := fun b o e => Heap.get?_push_of_some _ (Heap.get?_push_of_some _ e)
  have hC1 := k _ _ hC
  have hget : ((h.push (kdv_tup [])).push (excO C h.objs.size)).get? (h.objs.size + 1) = some (excO C h.objs.size) := by
    heap_get
  have me : (Value.ref C :: bm).contains (.ref C) = true := by
    simp
  have i1 := hi.keeps k
  have b1 := (hb (.ref (h.objs.size + 1))).keeps k
  unfold isInstance
  repeat (first
    | with_reducible refine wpAny_loadPart_at hget ?_
    | (with_reducible refine wpAny_isSubtype_exc hC1 ?_
       rw [me])
    | wp_step)
  show wpAny _ _ (typeLookup (.ref C) _) _ _ _
  refine i1.at (wpAny_holding (wpAny_bind (b1.at (wpAny_bind (wpAny_call (codeAny_mono hq fun r s' z => ?_))))))
  rcases r with e | fl
  · exact z
  · cases fl with
    | ret v =>
      obtain ⟨rfl, z⟩ := z
      first
        | exact wpAny_pure (wpAny_pure z)
        | (wp_walk
           exact z)
    | next => exact z.elim
    | brk => exact z.elim
    | cont => exact z.elim
theorem callK (F : ExcBaseFacts B newId initId bmB) (hT : ∀ X : String, bm.contains (.type X) = bmB.contains (.type X)) {fI : Addr}
    (hC : h.get? C = some (excClassObj nm q C N bs bm hdct sn sub ab col dd k0 k1 k2 k3 k5 newId)) (hi : Looks (model prog w) h (typeLookup (.ref C) "__init__") (some (.ref fI)))
    (hb : ∀ self, Looks (model prog w) h (bindSpecial (.ref fI) self) (.ref fI, [self]))
    (hq : codeAny (model prog w) (A.under (.builtin "type.__call__" ⟨[.ref C], kw⟩)) (.call (.ref fI) ⟨[.ref (h.objs.size + 1)], kw⟩) (InitBack (h.objs.size + 1) R) ⟨(h.push (kdv_tup [])).push (excO C h.objs.size), g, d, t, os⟩) :
    codeAny (model prog w) A (.call (.ref C) ⟨[], kw⟩) R ⟨h, g, d, t, os⟩ := by
  have f1 := tc_lookup
  have f2 := tc_bind (.ref C)
  have ty : (⟨h, g, d, t, os⟩ : Shared).TypeIs (.ref C) "type" := ⟨_, hC, rfl⟩
  refine codeAny_of_tree ?_
  show wpAny _ _ (callAny (.ref C) _) _ _ _
  repeat (any_goals (first
    | assumption
    | with_reducible refine wpAny_loadPart_at hC ?_
    | wp_step))
  refine ⟨rfl, codeAny_call_builtin_at (Code.quiet_builtin _ (by decide +kernel)) entry_typeCall ?_⟩
  refine wpAny_check_type_call_sub hC (typeK F hT hC hi hb ?_)
  refine codeAny_mono hq fun r s' z => ?_
  rcases r with e | (v | _ | _ | _)
  all_goals exact z
end
end SkE
end PySem

namespace PySem
namespace SkE
open PySem.W PySem.Calls PyProof.Rows PySem.HandSPX
section
variable {prog : Program} {w : World} {A : Around} {E : Value → Shared → Prop} {R : Result → Shared → Prop} {s : Shared} {K : Frag} {mg : Str → Option Value} {cl at_ qn : Str} {C fI : Addr}
theorem under_kw {A : Around} {C : Addr} {us : List Value} {kw : List (Str × Value)} : (A.under (.builtin "type.__call__" ⟨.ref C :: us, kw⟩)).depth = A.depth + 1 := L2.make_depth
/-- behind __init__: the error is made -/
theorem made_end {hp : Heap} {g : Array GenState} {dr : Drawn} {os : OsState} {rest : List Value} {h' : Heap} {tk : Nat} {dx : Addr} {v : Value} (M : InitEnd at_ ((hp.push (kdv_tup rest)).push (excO C hp.objs.size)) h' (hp.objs.size + 1) C dx hp.objs.size v) :
    OwnMade at_ hp h' (hp.objs.size + 1) C dx v := by
  have k : ∀ b o, hp.get? b = some o → ((hp.push (kdv_tup rest)).push (excO C hp.objs.size)).get? b = some o := fun b o e => Heap.get?_push_of_some _ (Heap.get?_push_of_some _ e)
  have z : hp.objs.size + 1 + 1 ≤ dx := by
    have q := M.dbig
    rw [Heap.size_push, Heap.size_push] at q
    exact q
  exact ⟨fun b o e => M.keep b o (Nat.ne_of_lt (Nat.lt_succ_of_lt (Heap.lt_size e))) (k b o e), Nat.le_succ _, ⟨_, _, M.obj, rfl, rfl, rfl, rfl⟩, by omega, M.dne, M.ns⟩
theorem err_made (T : ErrTxt K mg cl at_ qn C fI) (IO : InitOk K at_ C fI) {v : Value} {args : Args} (ha : args = ⟨[v], []⟩ ∨ args = ⟨[], [(at_, v)]⟩) (X : K.In s.heap) (hlim : s.heap.NoLimit) (hroom : A.depth + 1 < recursionLimit)
    (hq : ∀ h' tk e d, OwnMade at_ s.heap h' e C d v → R (.ok (.ret (.ref e))) { s with heap := h', toks := tk }) : codeAny (model prog w) A (.call (.ref C) args) R s := by
  obtain ⟨nm, q, N, bs, bm, sn, sub, ab, col, dd, k0, k1, k2, k3, k5, hC, hbm⟩ := T.cls
  obtain ⟨hp, g, dr, tk, os⟩ := s
  have start : ∀ rest : List Value, K.In ((hp.push (kdv_tup rest)).push (excO C hp.objs.size)) ∧ ((hp.push (kdv_tup rest)).push (excO C hp.objs.size)).NoLimit ∧ ((hp.push (kdv_tup rest)).push (excO C hp.objs.size)).get? (hp.objs.size + 1) = some (excO C hp.objs.size) := fun rest => by
    have k : ∀ b o, hp.get? b = some o → ((hp.push (kdv_tup rest)).push (excO C hp.objs.size)).get? b = some o := fun b o e => Heap.get?_push_of_some _ (Heap.get?_push_of_some _ e)
    exact ⟨X.keeps k, hlim.keeps k, by heap_get⟩
  have no : K.lookup (hp.objs.size + 1) = none := by
    cases e : K.lookup (hp.objs.size + 1) with
    | none => rfl
    | some o => exact absurd (Nat.lt_of_succ_lt (Heap.lt_size (show hp.get? _ = some o from X _ _ e))) (Nat.lt_irrefl _)
  rcases ha with rfl | rfl
  · obtain ⟨s1, s2, s3⟩ := start [v]
    refine call_own F.excBase_ValueError (fun Y => refsVE_contains Y bm hbm) (X _ _ hC) (looks_findIn X T.iC) (fun self => bind_fn X self T.tC) (by rw [List.length_singleton]; exact Nat.le_trans (by decide) (Nat.le_of_eq sizeLine_eq.symm)) ?_
    refine IO prog w _ _ ⟨_, g, dr, tk, os⟩ _ _ _ v (.inl rfl) s1 s2 s3 no ?_ fun h' tk' dx M => ⟨rfl, hq h' tk' _ dx (made_end (g := g) (dr := dr) (os := os) (tk := tk') M)⟩
    rw [under_kw]; exact hroom
  · obtain ⟨s1, s2, s3⟩ := start []
    refine callK F.excBase_ValueError (fun Y => refsVE_contains Y bm hbm) (X _ _ hC) (looks_findIn X T.iC) (fun self => bind_fn X self T.tC) ?_
    refine IO prog w _ _ ⟨_, g, dr, tk, os⟩ _ _ _ v (.inr rfl) s1 s2 s3 no ?_ fun h' tk' dx M => ⟨rfl, hq h' tk' _ dx (made_end (g := g) (dr := dr) (os := os) (tk := tk') M)⟩
    rw [under_kw]; exact hroom
end
end SkE
end PySem
namespace Sk
open PySem PySem.Spec PyProof.Rows L2 Evl PySem.SkE
/-- an error of the class at C, its own dict at d -/
def ErO (C d e : Addr) : HO := .ext fun h => ∃ (oe : Obj) (vs : Array Value), h.get? e = some oe ∧ oe.cls = .ref C ∧ oe.dict = some d ∧ oe.data = .fields vs ∧ vs[1]? = some .none
theorem relO_one {v : V} {v' : Value} {at_ : Str} (r : RelV v v') (f : Str) : RelO (List.lookup f [(at_, v)]) (if f = at_ then some v' else none) := by
  by_cases hw : f = at_
  · subst hw
    rw [if_pos rfl]
    simp only [List.lookup, beq_self_eq_true]
    exact r
  · have q : (f == at_) = false := by simpa using hw
    rw [if_neg hw]
    simp only [List.lookup, q]
    trivial
section
variable {X : Cx} {pins : List (Addr × Obj)} {σ : L2.St} {H : Hp} {s : Shared} {cl at_ qn : Str} {C fI : Addr}
/-- the heap behind a made error -/
theorem made_inv (I : Inv X pins σ H s) {h' : Heap} {tk : Nat} {e d : Addr} {v : V} {v' : Value} (rv : RelV v v') (M : OwnMade at_ s.heap h' e C d v') :
    H e = none ∧ H d = none ∧ d ≠ e ∧ Inv X pins σ (upd (upd H d (.xd [(at_, v)])) e (ErO C d e)) { s with heap := h', toks := tk } := by
  have he := I.hok.fresh M.new
  have hd := I.hok.fresh M.dbig
  have he2 : (upd H d (.xd [(at_, v)])) e = none := by
    rw [upd_ne (Ne.symm M.dne)]; exact he
  refine ⟨he, hd, M.dne, I.un ((Un.laid (h := s.heap) (h' := s.heap) (fun _ _ z => z) M.dbig hd).trans (Un.laid M.keep M.new he2)) ?_⟩
  have h1 : HOk X.prog X.w (upd H d (.xd [(at_, v)])) h' := I.hok.laidN M.keep hd ⟨_, M.ns, fun f => relO_one rv f⟩
  obtain ⟨oe, vs, g, r⟩ := M.obj
  exact h1.laidN (fun _ _ z => z) he2 ⟨⟨oe, vs, g, r⟩, ⟨oe, g⟩, fun _ _ ⟨o, vs, q, r⟩ k => ⟨o, vs, k o q, r⟩⟩
def tErr (C : Addr) (at_ : Str) (ta : TA) : TE := fun σ H Q => ta σ H fun vs H1 => ∃ v, vs = [v] ∧ ∀ e d, H1 e = none → H1 d = none → d ≠ e → Q (.ref e) (upd (upd H1 d (.xd [(at_, v)])) e (ErO C d e))
theorem pe_err {a : Expr} {ta : TA} {p pos : Pos} {k : Nat} (T : ErrTxt X.K X.mg cl at_ qn C fI) (IO : InitOk X.K at_ C fI) (hr : Room k X.A) (ha : PA X [a] ta) (hg : Gl X cl := by rfl) (hdb : (cl == ("__debug__" : Str)) = false := by decide)
    (he : starEach (a :: []) X.env = (false, eval a X.env) :: starEach [] X.env := by rfl) (hpl : (backTo pos (starEach [] X.env)).any (·.1) = false := by rfl) : PE X (.Call (.Name cl p) [a] [] pos) (tErr C at_ ta) := by
  refine ⟨fun pins s σ H Q I h => wpAny_Call_Name_kw (ld_glob I hg T.gC ?_ hdb)⟩
  refine PySem.W.callWith_K (h₀ := X.base) I.ok.mod.kin T.kC (thn (ha.run pos pins s σ H _ I h) fun us s1 ⟨vs, H1, I1, r1, v, ev, q⟩ => ?_) he hpl
  subst ev
  refine ⟨I1.kIn, ?_⟩
  obtain ⟨u, rfl, ru⟩ := vals1 r1
  refine wpAny_call (err_made T IO (.inl rfl) I1.kIn I1.nolimit (by have := hr.dp; omega) fun h' tk e d M => ?_)
  obtain ⟨g1, g2, g3, J⟩ := made_inv (tk := tk) I1 ru M
  exact ⟨.ref e, _, J, rfl, q e d g1 g2 g3⟩
theorem pe_errK {kws : List Keyword} {ta : TA} {p pos : Pos} {k : Nat} (T : ErrTxt X.K X.mg cl at_ qn C fI) (IO : InitOk X.K at_ C fI) (hr : Room k X.A) (ha : PK X kws ta) (hg : Gl X cl := by rfl) (hdb : (cl == ("__debug__" : Str)) = false := by decide)
    (hall : (backToKw pos (keywordEach kws X.env)).all (·.1.isSome) = true := by rfl) (hks : (backToKw pos (keywordEach kws X.env)).filterMap (·.1) = [at_] := by rfl)
    (hpl : ((backTo pos (starEach [] X.env)).any (·.1) || (backToKw pos (keywordEach kws X.env)).any (·.1.isNone)) = false := by rfl) : PE X (.Call (.Name cl p) [] kws pos) (tErr C at_ ta) := by
  refine ⟨fun pins s σ H Q I h => wpAny_Call_Name_kw (ld_glob I hg T.gC ?_ hdb)⟩
  refine PySem.W.callWith_KW0 (h₀ := X.base) I.ok.mod.kin T.kC hall (thn (ha.run pos pins s σ H _ I h) fun us s1 ⟨vs, H1, I1, r1, v, ev, q⟩ => ?_) hpl
  subst ev
  refine ⟨I1.kIn, ?_⟩
  rw [hks]
  obtain ⟨u, rfl, ru⟩ := vals1 r1
  refine wpAny_call (err_made T IO (.inr rfl) I1.kIn I1.nolimit (by have := hr.dp; omega) fun h' tk e d M => ?_)
  obtain ⟨g1, g2, g3, J⟩ := made_inv (tk := tk) I1 ru M
  exact ⟨.ref e, _, J, rfl, q e d g1 g2 g3⟩
/-- the error at e stands, with its field -/
def IsErr (H : Hp) (C : Addr) (at_ : Str) (e : Addr) (v : V) : Prop := ∃ d, H e = some (ErO C d e) ∧ H d = some (.xd [(at_, v)])
theorem IsErr.inst (I : Inv X pins σ H s) {e : Addr} {v : V} (h : IsErr H C at_ e v) : ∃ oe od, PySem.W.InstAt s.heap e oe C (some od) ∧ ∃ u, RelV v u ∧ PySem.W.lookIn at_ od = some (some u) := by
  obtain ⟨d, h1, h2⟩ := h
  obtain ⟨⟨oe, vs, g, c, dd, da, _⟩, _⟩ := (show ObjOk X.prog X.w H s.heap e (ErO C d e) from I.hok _ _ h1)
  obtain ⟨mA, hns, hr⟩ := (show ObjOk X.prog X.w H s.heap d (.xd [(at_, v)]) from I.hok _ _ h2)
  obtain ⟨od, ho, hl⟩ := lookIn_ns hns
  have l : List.lookup at_ [(at_, v)] = some v := by simp [List.lookup]
  obtain ⟨u, hu, ru⟩ := RelO.some_of (v := v) (o := mA at_) (by rw [← l]; exact hr at_)
  refine ⟨oe, od, ⟨g, c, by unfold PySem.W.notCls; rw [da] <;> rfl, by rw [dd]; exact ho⟩, u, ru, by rw [hl, hu]⟩
/-- e.attr -/
def tErrFld (C : Addr) (at_ : Str) (te : TE) : TE := fun σ H Q => te σ H fun x H1 => ∃ e v, x = .ref e ∧ IsErr H1 C at_ e v ∧ Q v H1
theorem pe_errFld {e : Expr} {te : TE} {pos : Pos} (T : ErrTxt X.K X.mg cl at_ qn C fI) (he : PE X e te) (hb : attributeBase e at_ X.env (eval e X.env) = eval e X.env := by rfl) : PE X (.Attribute e at_ pos) (tErrFld C at_ te) := by
  refine ⟨fun pins s σ H Q I h => attr_of hb (thn (he.run pins s σ H _ I h) fun u s1 hh => ?_)⟩
  obtain ⟨x, H1, I1, rx, e0, v, ex, hi, q⟩ := hh
  subst ex
  cases (show u = Value.ref e0 from rx)
  obtain ⟨oe, od, J, u, ru, hl⟩ := hi.inst I1
  exact HandSPX.exc_get I1.kIn J T.ga T.gg T.exC (PySem.W.findObj_own T.hdC T.noN rfl hl) (handed_of ru) ⟨v, H1, I1.tok _, ru, q⟩
/-- isinstance(e, class) -/
theorem call_isErr (T : ErrTxt X.K X.mg cl at_ qn C fI) : CallR X (.builtin "isinstance") (fun xs H Q => ∃ (e : Addr) (v c : V) (u : Value) (b : Bool), xs = [.ref e, c] ∧ ClsV c u ∧ IsErr H C at_ e v ∧ PySem.W.kitOne X.K (.ref C) u = some b ∧ Q (.bl b) H) := by
  intro pins s σ H xs us Q I r h
  obtain ⟨e, v, c, u, b, rfl, k, hi, hk, q⟩ := h
  obtain ⟨u1, u2, rfl, r1, r2⟩ := vals2 r
  cases (show u1 = Value.ref e from r1)
  have e2 := k.eq r2
  subst e2
  obtain ⟨oe, od, J, _⟩ := hi.inst I
  exact PySem.W.kia_one (PySem.W.kitx_exc T.cl_ T.ga T.gg T.exC T.hCl T.hGt T.hTk T.hOb) I.kIn J hk (fun z => nomatch z) fun tk => ⟨.bl b, H, I.tok tk, rfl, q⟩
end
end Sk

namespace Sk
open PySem PySem.Spec PyProof.Rows L2 Evl PySem.SkE
/-- an own error's class, which one left open -/
def ErrC (K : PySem.W.Frag) (at_ : Str) (C : Addr) : Prop := ∃ mg cl qn fI, ErrTxt K mg cl at_ qn C fI
section
variable {X : Cx}
/-- e.attr, of any own error that stores it -/
def tErrFldA (K : PySem.W.Frag) (at_ : Str) (te : TE) : TE := fun σ H Q => te σ H fun x H1 => ∃ e v C, x = .ref e ∧ ErrC K at_ C ∧ IsErr H1 C at_ e v ∧ Q v H1
theorem pe_errFldA {e : Expr} {te : TE} {at_ : Str} {pos : Pos} (he : PE X e te) (hb : attributeBase e at_ X.env (eval e X.env) = eval e X.env := by rfl) : PE X (.Attribute e at_ pos) (tErrFldA X.K at_ te) := by
  refine ⟨fun pins s σ H Q I h => attr_of hb (thn (he.run pins s σ H _ I h) fun u s1 hh => ?_)⟩
  obtain ⟨x, H1, I1, rx, e0, v, C, ex, ⟨mg, cl, qn, fI, T⟩, hi, q⟩ := hh
  subst ex
  cases (show u = Value.ref e0 from rx)
  obtain ⟨oe, od, J, u, ru, hl⟩ := hi.inst I1
  exact HandSPX.exc_get I1.kIn J T.ga T.gg T.exC (PySem.W.findObj_own T.hdC T.noN rfl hl) (handed_of ru) ⟨v, H1, I1.tok _, ru, q⟩
/-- isinstance(e, class) -/
def rIsErr (K : PySem.W.Frag) : List V → Hp → VK → Prop := fun xs H Q => ∃ (C e : Addr) (at_ : Str) (v c : V) (u : Value) (b : Bool), xs = [.ref e, c] ∧ ClsV c u ∧ ErrC K at_ C ∧ IsErr H C at_ e v ∧ PySem.W.kitOne K (.ref C) u = some b ∧ Q (.bl b) H
theorem call_isErrA : CallR X (.builtin "isinstance") (rIsErr X.K) := by
  intro pins s σ H xs us Q I r h
  obtain ⟨C, e, at_, v, c, u, b, rfl, k, ⟨mg, cl, qn, fI, T⟩, hi, hk, q⟩ := h
  obtain ⟨u1, u2, rfl, r1, r2⟩ := vals2 r
  cases (show u1 = Value.ref e from r1)
  have e2 := k.eq r2
  subst e2
  obtain ⟨oe, od, J, _⟩ := hi.inst I
  exact PySem.W.kia_one (PySem.W.kitx_exc T.cl_ T.ga T.gg T.exC T.hCl T.hGt T.hTk T.hOb) I.kIn J hk (fun z => nomatch z) fun tk => ⟨.bl b, H, I.tok tk, rfl, q⟩
end
end Sk

namespace Sk
open PySem PySem.Spec PyProof.Rows L2 Evl
def topS (i : Nat) : Stmt := PySem.Challenge.pw_soonknown_k09_errors_made_by_hand.main.body.getD i (.Pass ⟨0, 0, 0, 0⟩)
abbrev sStream : Stmt := topS 13
abbrev sDraw : Stmt := topS 14
abbrev sChoose : Stmt := topS 15
theorem scStream : FnScope ["script", "start", "seed", "entry"] ["script", "start"] (defScope sStream) := ⟨rfl, rfl, rfl, by decide +kernel, rfl, by decide +kernel, by decide +kernel⟩
theorem scDraw : FnScope ["stream", "size", "found"] ["stream", "size"] (defScope sDraw) := ⟨rfl, rfl, rfl, by decide +kernel, rfl, by decide +kernel, by decide +kernel⟩
theorem scChoose : FnScope ["stream", "items"] ["stream", "items"] (defScope sChoose) := ⟨rfl, rfl, rfl, by decide +kernel, rfl, by decide +kernel, by decide +kernel⟩
/-- a source is made of the script -/
def spStream (K : PySem.W.Frag) : Sp := fun vs H Q _ => ∃ (a : Addr) (ns : List Int) (k : Int), vs = [.ref a, .int k] ∧ SqL K H a (ns.map V.int) ∧ ns.length ≤ 63 ∧ (∀ z ∈ ns, Builtin.Int.intBits z ≤ 1048576) ∧ 0 ≤ k ∧ k ≤ 100 ∧
  ∀ (st : Addr) (H' : Hp), H st = none → Ex H H' → Strm st H' → Q (.ref st) H'
/-- a draw: some number below the size -/
def spDraw : Sp := fun vs H Q _ => ∃ (st : Addr) (n : Int), vs = [.ref st, .int n] ∧ Strm st H ∧ 1 ≤ n ∧ n ≤ 1000000000 ∧
  ∀ (k : Int) (H' : Hp), 0 ≤ k → k < n → Aft st H H' → Q (.int k) H'
/-- a choice: some item -/
def Chs (K : PySem.W.Frag) (H : Hp) (x : V) (P : V → Prop) : Prop :=
  (∃ (a : Addr) (xs : List V), x = .ref a ∧ (SqL K H a xs ∨ SqT K H a xs) ∧ xs ≠ [] ∧ xs.length ≤ 100000 ∧ ∀ v ∈ xs, P v) ∨
  ∃ z : Str, x = .str z ∧ z.cps.toList ≠ [] ∧ z.length ≤ 100000 ∧ ∀ c ∈ z.cps.toList, P (.str ⟨#[c]⟩)
def spChoose (K : PySem.W.Frag) : Sp := fun vs H Q _ => ∃ (st : Addr) (x : V) (P : V → Prop), vs = [.ref st, x] ∧ Strm st H ∧ Chs K (Hd st H) x P ∧
  ∀ (v : V) (H' : Hp), P v → Aft st H H' → Q v H'
section
variable {P : Program} {w : World} {K : PySem.W.Frag} {mg : Str → Option Value} {base : Heap} {f g : Addr} {fd gd : FuncData}
theorem seed_next {s n : Int} (hs : 0 ≤ s ∧ s < 2 ^ 31) (hn : Builtin.Int.intBits n ≤ 1048576) : CMulW s 40127 ∧ CPowB (s * 40127 + n) 3 := by
  have h1 : s.natAbs < 2 ^ 31 := by omega
  have h2 : (40127 : Int).natAbs < 2 ^ 16 := by decide
  refine ⟨wide_mul h1 h2 (by decide) (by decide) (by decide), by decide, ?_⟩
  have h3 := abs_of_bits hn
  have h4 : (s * 40127).natAbs < 2 ^ (31 + 16) := wide_lt h1 h2
  have h5 : (2 : Nat) ^ (31 + 16) ≤ 2 ^ 1048576 := Nat.pow_le_pow_right (by decide) (by decide)
  have h6 : (s * 40127 + n).natAbs < 2 ^ 1048577 := by
    have e : (2 : Nat) ^ 1048577 = 2 ^ 1048576 + 2 ^ 1048576 := by rw [Nat.pow_succ]; omega
    rw [e]
    generalize (2 : Nat) ^ 1048576 = M at *
    omega
  have h7 := bits_of h6 (by decide)
  have e : ((2 : Int) ^ 27) = 134217728 := by decide
  rw [e]
  omega
theorem ok_stream {k : Nat} (F : Fun K "_law_stream" "_law_stream" sStream f fd) : FnOk P w K mg base CX0 (k + 1) f fd ["script", "start"] (spStream K) := by
  refine F.ok scStream (fun vs H Q E h => ?_) (fun cdv A outer s H vs Q E hr h => ?_)
  · obtain ⟨a, ns, k, rfl, _⟩ := h
    rfl
  obtain ⟨a, ns, k, rfl, hS, h63, hb, h0, h1, q⟩ := h
  have nd := scStream.nd
  refine ⟨_, pss_cons (ps_set (i := 2) nd rfl (Or.inl rfl) (pe_op op_add pe_int (pv 1)))
    (pss_cons (ps_for PassesOwn.never rfl (pi_list (pv 0)) (pg_name (i := 3) nd rfl (Or.inl rfl))
      (pss_one (ps_set (i := 2) nd rfl (Or.inl rfl) (pe_op op_add (pe_op op_mod (pe_op op_powB (pe_op op_add (pe_op op_mulW (pv 2) pe_int) (pv 3)) pe_int) pe_int) pe_int))))
    (pss_one (ps_ret (pe_lst (pa_cons pe_int (pa_cons (pv 2) pa_nil)))))), ?_⟩
  refine ⟨_, rfl, _, _, rfl, rfl, ?_⟩
  refine ⟨_, rfl, a, rfl, ⟨_, hS⟩, for_list (xs := ns.map V.int) (fun i σ H' => ∃ (s : Int) (y : Option V), σ = [some (.ref a), some (.int k), some (.int s), y] ∧ 0 ≤ s ∧ s < 2 ^ 31 ∧ H' = H) ⟨13 + k, none, rfl, by omega, by omega, rfl⟩ (fun i σ H' _ hp => ?_) (fun i x σ H' hx hp => ?_) (fun σ H' hp => ?_)⟩
  · obtain ⟨_, _, _, _, _, rfl⟩ := hp
    exact hS
  · obtain ⟨s, y, rfl, hs0, hs1, rfl⟩ := hp
    rw [List.getElem?_map] at hx
    obtain ⟨n, hn, rfl⟩ := Option.map_eq_some_iff.mp hx
    have hbn := hb n (List.mem_of_getElem? hn)
    obtain ⟨c1, c2⟩ := seed_next ⟨hs0, hs1⟩ hbn
    have hm : (0 : Int) < 2147483629 := by decide
    refine ⟨_, rfl, _, _, rfl, rfl, c1, _, rfl, _, _, rfl, rfl, _, _, rfl, rfl, c2, _, _, rfl, rfl, hm, _, _, rfl, rfl, _, some (.int n), rfl, ?_, ?_, rfl⟩
    · have := Int.emod_nonneg ((s * 40127 + n) ^ (3 : Int).toNat) (show (2147483629 : Int) ≠ 0 by decide)
      omega
    · have := Int.emod_lt_of_pos ((s * 40127 + n) ^ (3 : Int).toNat) hm
      have e : ((2 : Int) ^ 31) = 2147483648 := by decide
      rw [e]
      omega
  · obtain ⟨s, y, rfl, hs0, hs1, rfl⟩ := hp
    exact ⟨_, rfl, (by show 2 ≤ sizeLine; decide), fun p hp => q p _ hp (Ex.new hp) ⟨0, s, upd_same, by decide, Nat.two_pow_pos _, hs0, hs1⟩⟩
end
end Sk

namespace Sk
open PySem PySem.Spec PyProof.Rows L2 Evl
section
variable {P : Program} {w : World} {K : PySem.W.Frag} {mg : Str → Option Value} {base : Heap} {f g : Addr} {fd gd : FuncData}
theorem atI0 {a b : V} : atI [a, b] 0 = some a := atI_nat (j := 0) rfl
theorem atI1 {a b : V} : atI [a, b] 1 = some b := atI_nat (j := 1) rfl
theorem small31 {x : Int} (h0 : 0 ≤ x) (h : x < 2147483648) : x.natAbs < 2 ^ 31 := by
  have e : (2 : Nat) ^ 31 = 2147483648 := by decide
  rw [e]; omega
theorem powB_small {x : Int} (h0 : 0 ≤ x) (h : x < 2147483648) {j : Int} (j0 : 0 ≤ j) (j1 : j ≤ 10) : CPowB x j := by
  refine ⟨j0, ?_⟩
  have h7 := bits_of (small31 h0 h) (by decide)
  have e : ((2 : Int) ^ 27) = 134217728 := by decide
  rw [e]
  have h8 : (Builtin.Int.intBits x : Int) ≤ 31 := by omega
  have h9 : (0 : Int) ≤ (Builtin.Int.intBits x : Int) := by omega
  calc (Builtin.Int.intBits x : Int) * j ≤ 31 * 10 := Int.mul_le_mul h8 j1 j0 (by decide)
    _ ≤ 134217728 := by decide
theorem ok_draw {k : Nat} (F : Fun K "_law_draw" "_law_draw" sDraw f fd) : FnOk P w K mg base CX0 (k + 1) f fd ["stream", "size"] spDraw := by
  refine F.ok scDraw (fun vs H Q E h => ?_) (fun cdv A outer s H vs Q E hr h => ?_)
  · obtain ⟨a, n, rfl, _⟩ := h
    rfl
  obtain ⟨st, n, rfl, hst, hn, hn9, q⟩ := h
  obtain ⟨d, sd, hs, hd0, hd1, hs0, hs1⟩ := hst
  have nd := scDraw.nd
  refine ⟨_, pss_cons (ps_if (pt_cmpR op_ge (pe_ix ix_list (pv 0) pe_int (fun _ _ => rfl)) (pv 1) (nomark _))
      (pss_cons (ps_set (i := 2) nd rfl (Or.inl rfl) (pe_op op_mod (pe_ix ix_list (pv 0) pe_int (fun _ _ => rfl)) (pv 1)))
      (pss_cons (ps_asg (pe_op op_fdivW (pe_ix ix_list (pv 0) pe_int (fun _ _ => rfl)) (pv 1)) (pg_sub (pv 0) pe_int set_list))
      (pss_one (ps_ret (pv 2))))) pss_nil)
    (pss_cons (ps_asg (pe_op op_mod (pe_op op_add (pe_op op_mulW (pe_ix ix_list (pv 0) pe_int (fun _ _ => rfl)) pe_int) pe_int) pe_int) (pg_sub (pv 0) pe_int set_list))
    (pss_one (ps_ret (pe_op op_mod (pe_op op_fdiv (pe_op op_mod (pe_op op_powB (pe_op op_mod (pe_op op_powB (pe_ix ix_list (pv 0) pe_int (fun _ _ => rfl)) pe_int) pe_int) pe_int) pe_int) pe_int) (pv 1))))), ?_⟩
  have hL : SqL K H st [.int d, .int sd] := SqL.of hs
  refine ⟨_, rfl, st, _, 0, _, rfl, rfl, hL, atI0, _, rfl, _, _, rfl, rfl, _, rfl, ?_⟩
  have n31 : n.natAbs < 2 ^ 31 := small31 (by omega) (by omega)
  have up : ∀ a b : Int, 0 ≤ a → a.natAbs < 2 ^ 1100000 → 0 ≤ b → b < 2147483648 → Aft st H (upd H st (.lst [.int a, .int b])) := fun a b a0 a1 b0 b1 =>
    ⟨gr_upd, a, b, upd_same, a0, a1, b0, by have e : ((2 : Int) ^ 31) = 2147483648 := by decide
                                            rw [e]; exact b1⟩
  have e31 : ((2 : Int) ^ 31) = 2147483648 := by decide
  rw [e31] at hs1
  refine ite2 (fun c => ?_) (fun c => ?_)
  · have c' : n ≤ d := of_decide_eq_true c
    refine ⟨_, rfl, st, _, 0, _, rfl, rfl, hL, atI0, _, rfl, _, _, rfl, rfl, (by omega : (0 : Int) < n), ?_⟩
    refine ⟨_, rfl, st, _, 0, _, rfl, rfl, hL, atI0, _, rfl, _, _, rfl, rfl, wide_div (by omega) n31 (by decide) (by decide), ?_⟩
    refine ⟨_, rfl, st, _, 0, 0, rfl, rfl, hs, rfl, ?_⟩
    refine ⟨_, rfl, q _ _ (Int.emod_nonneg _ (by omega)) (Int.emod_lt_of_pos _ (by omega)) (up _ _ (Int.ediv_nonneg hd0 (by omega)) ?_ hs0 hs1)⟩
    refine Nat.lt_of_le_of_lt ?_ hd1
    have z0 : 0 ≤ d / n := Int.ediv_nonneg hd0 (by omega)
    have z1 : d / n ≤ d := Int.ediv_le_self n hd0
    omega
  · refine ⟨_, rfl, st, _, 1, _, rfl, rfl, hL, atI1, _, _, rfl, rfl, wide_mul (small31 hs0 hs1) (show (48271 : Int).natAbs < 2 ^ 16 by decide) (by decide) (by decide) (by decide), _, _, rfl, rfl, _, _, rfl, rfl, (by decide : (0 : Int) < 2147483647), ?_⟩
    refine ⟨_, rfl, st, _, 1, 1, rfl, rfl, hs, rfl, ?_⟩
    dsimp only [List.set]
    generalize hz : (sd * 48271 + 12345) % 2147483647 = z
    have z0 : 0 ≤ z := by rw [← hz]; exact Int.emod_nonneg _ (by decide)
    have z1 : z < 2147483648 := by
      have := Int.emod_lt_of_pos (sd * 48271 + 12345) (show (0 : Int) < 2147483647 by decide)
      omega
    have A1 := up d z hd0 hd1 z0 z1
    have hL2 : SqL K (upd H st (.lst [.int d, .int z])) st [.int d, .int z] := SqL.of upd_same
    refine ⟨_, rfl, st, _, 1, _, rfl, rfl, hL2, atI1, _, _, rfl, rfl, powB_small z0 z1 (by decide) (by decide), _, _, rfl, rfl, (by decide : (0 : Int) < 2147483629), ?_⟩
    dsimp only
    generalize hy : z ^ (3 : Int).toNat % 2147483629 = y
    have y0 : 0 ≤ y := by rw [← hy]; exact Int.emod_nonneg _ (by decide)
    have y1 : y < 2147483648 := by
      have := Int.emod_lt_of_pos (z ^ (3 : Int).toNat) (show (0 : Int) < 2147483629 by decide)
      omega
    refine ⟨_, _, rfl, rfl, powB_small y0 y1 (by decide) (by decide), _, _, rfl, rfl, (by decide : (0 : Int) < 1000000007), _, _, rfl, rfl, ⟨by decide, by decide⟩, _, rfl, _, _, rfl, rfl, (by omega : (0 : Int) < n), ?_⟩
    exact q _ _ (Int.emod_nonneg _ (by omega)) (Int.emod_lt_of_pos _ (by omega)) A1
/-- len of a list, a tuple, a text -/
theorem call_lenAny {X : Cx} : CallR X (.builtin "len") (fun xs H Q => (∃ p ys, xs = [.ref p] ∧ (SqL X.K H p ys ∨ SqT X.K H p ys) ∧ Q (.int ys.length) H) ∨ ∃ z, xs = [.str z] ∧ z.length ≤ sizeLine ∧ Q (.int z.length) H) := call_len_seq.or call_len_str
theorem ok_choose {k : Nat} {gd : FuncData} (F : Fun K "_law_choose" "_law_choose" sChoose f fd) (G : FnOk P w K mg base CX0 k g gd ["stream", "size"] spDraw) (bG : Binds K gd ["stream", "size"] []) (kG : PySem.W.keepIn K (.ref g) = true)
    (mG : mg "_law_draw" = some (.ref g)) (ml : mg "len" = none) : FnOk P w K mg base CX0 (k + 1) f fd ["stream", "items"] (spChoose K) := by
  refine F.ok scChoose (fun vs H Q E h => ?_) (fun cdv A outer s H vs Q E hr h => ?_)
  · obtain ⟨a, n, _, rfl, _⟩ := h
    rfl
  obtain ⟨st, x, Pv, rfl, hst, hx, q⟩ := h
  refine ⟨_, pss_one (ps_ret (pe_ix ix_seq (pv 1) (pe_call G hr rfl mG kG bG .nil pass0 (pa_cons (pv 0) (pa_cons (pe_callB call_lenAny rfl ml PySem.boot_len (pa_cons (pv 1) pa_nil)) pa_nil))) (fun _ _ => rfl))), ?_⟩
  refine ⟨_, rfl, _, rfl, _, rfl, ?_⟩
  rcases hx with ⟨a, xs, rfl, hs, hne, hl, hp⟩ | ⟨z, rfl, hne, hl, hp⟩
  · have hs' : ∀ H1, Ex (Hd st H) H1 → SqL K H1 a xs ∨ SqT K H1 a xs := fun H1 e => hs.elim (fun h => .inl (ex_l e h)) fun h => .inr (ex_t e h)
    have h1 : 1 ≤ xs.length := by cases xs with
      | nil => exact absurd rfl hne
      | cons _ _ => simp
    refine .inl ⟨a, xs, rfl, hs' _ hd_le, st, _, rfl, hst, by omega, by omega, fun i H1 i0 i1 A1 => ?_⟩
    have hi : i.toNat < xs.length := by omega
    have hat : atI xs i = some xs[i.toNat] := by
      have e : i = ((i.toNat : Nat) : Int) := by omega
      have z : atI xs ((i.toNat : Nat) : Int) = some xs[i.toNat] := atI_nat (List.getElem?_eq_getElem hi)
      rw [← e] at z
      exact z
    have fin := q _ H1 (hp _ (List.getElem_mem hi)) A1
    rcases hs' H1 (Ex.trans A1.gr hd_le) with h | h
    · exact .inl ⟨a, xs, i, _, rfl, rfl, h, hat, fin⟩
    · exact .inr (.inl ⟨a, xs, i, _, rfl, rfl, h, hat, fin⟩)
  · have e0 : z.length = z.cps.toList.length := by simp [Str.length]
    have h1 : 1 ≤ z.cps.toList.length := by
      cases h : z.cps.toList with
      | nil => exact absurd h hne
      | cons _ _ => simp
    refine .inr ⟨z, rfl, sz_of hl, st, _, rfl, hst, by omega, by omega, fun i H1 i0 i1 A1 => ?_⟩
    have hi : i.toNat < z.cps.toList.length := by omega
    have hat : atI z.cps.toList i = some z.cps.toList[i.toNat] := by
      have e : i = ((i.toNat : Nat) : Int) := by omega
      have z : atI z.cps.toList ((i.toNat : Nat) : Int) = some z.cps.toList[i.toNat] := atI_nat (List.getElem?_eq_getElem hi)
      rw [← e] at z
      exact z
    exact .inr (.inr ⟨z, i, _, rfl, rfl, sz_of hl, hat, q _ H1 (hp _ (List.getElem_mem hi)) A1⟩)
end
end Sk

namespace Sk
open PySem PySem.Spec PyProof.Rows L2 Evl
abbrev sThing : Stmt := topS 16
theorem scThing : FnScope ["stream", "some"] ["stream"] (defScope sThing) := ⟨rfl, rfl, rfl, by decide +kernel, rfl, by decide +kernel, by decide +kernel⟩
/-- the two drawers, as the other defs call them -/
structure Drw (P : Program) (w : World) (K : PySem.W.Frag) (mg : Str → Option Value) (base : Heap) (fD fC : Addr) (dD dC : FuncData) : Prop where
  gD : FnOk P w K mg base CX0 1 fD dD ["stream", "size"] spDraw
  bD : Binds K dD ["stream", "size"] []
  kD : PySem.W.keepIn K (.ref fD) = true
  mD : mg "_law_draw" = some (.ref fD)
  gC : FnOk P w K mg base CX0 2 fC dC ["stream", "items"] (spChoose K)
  bC : Binds K dC ["stream", "items"] []
  kC : PySem.W.keepIn K (.ref fC) = true
  mC : mg "_law_choose" = some (.ref fC)
theorem line_le {n : Nat} (h : n ≤ 10000000) : n ≤ sizeLine := Nat.le_trans h (by decide)
theorem _root_.Sk.Strm.ne' {st a : Addr} {H : Hp} {o : HO} (h : Strm st H) (e : H a = some o) (no : ∀ xs, o = .lst xs → xs.length ≠ 2 := by intro xs e; cases e; try decide) : a ≠ st := by
  intro z; subst z
  obtain ⟨d, s, e2, _⟩ := h
  rw [e] at e2
  cases e2
  exact no _ rfl rfl
theorem chs_new {K : PySem.W.Frag} {H : Hp} {st p : Addr} {xs : List V} {P : V → Prop} (s : Strm st H) (hp : H p = none) (hne : xs ≠ []) (hl : xs.length ≤ 100000) (h : ∀ v ∈ xs, P v) : Chs K (Hd st (upd H p (.lst xs))) (.ref p) P :=
  .inl ⟨p, xs, rfl, .inl (SqL.of (hd_of (s.ne hp) upd_same)), hne, hl, h⟩
/-- a thing: shown in a short text -/
def Th (H : Hp) (v : V) : Prop := ∃ t, Dq H v t ∧ t.showable = true ∧ t.shown.length ≤ sizeLine ∧ t.depth ≤ 60
def spThing : Sp := fun vs H Q _ => ∃ st : Addr, vs = [.ref st] ∧ Strm st H ∧ ∀ v H', Th (Nw H H') v → Aft st H H' → Q v H'
theorem Th.mono {H H' : Hp} {v : V} (h : Th H v) (e : Ex H H') : Th H' v := by
  obtain ⟨t, h1, h2⟩ := h
  exact ⟨t, h1.mono e, h2⟩
theorem th_int {H : Hp} {i : Int} (h0 : -1000000000 ≤ i) (h1 : i ≤ 1000000000) : Th H (.int i) := by
  have g : Gd true 1 (.int i) := ⟨h0, h1⟩
  refine ⟨.int i, .int i, g.show, ?_, by simp [PyData.depth]⟩
  exact line_le (Nat.le_trans (shown_len g) (Nat.le_trans (bnd_le (by decide)) (by decide)))
theorem th_nil {H : Hp} : Th H .non := ⟨.none, .non, by decide, by decide +kernel, by decide⟩
section
variable {P : Program} {w : World} {K : PySem.W.Frag} {mg : Str → Option Value} {base : Heap} {f fD fC : Addr} {fd dD dC : FuncData}
theorem ok_thing (F : Fun K "_law_drawn_thing" "_law_drawn_thing" sThing f fd) (D : Drw P w K mg base fD fC dD dC) : FnOk P w K mg base CX0 3 f fd ["stream"] spThing := by
  refine F.ok scThing (fun vs H Q E h => ?_) (fun cdv A outer s H vs Q E hr h => ?_)
  · obtain ⟨a, rfl, _⟩ := h
    rfl
  have nd := scThing.nd
  have hr1 : Room 1 _ := hr.mono (by decide)
  obtain ⟨st, rfl, hst, q⟩ := h
  refine ⟨_, pss_cons (ps_set (i := 1) nd rfl (Or.inl rfl) (pe_lst (pa_cons pe_int (pa_cons pe_int (pa_cons (pe_op op_sub pe_int pe_int) (pa_cons pe_bl (pa_cons pe_non (pa_cons pe_str (pa_cons pe_str (pa_cons (pe_tup (pa_cons pe_str (pa_cons pe_int pa_nil)))
      (pa_cons (pe_lst (pa_cons pe_int pa_nil)) (pa_cons (pe_disp (pps_cons pe_str pe_int pps_nil) rfl rfl (by simp) (by simp)) (pa_cons (pe_op op_powB pe_int pe_int)
      (pa_cons (pe_call D.gD hr1 rfl D.mD D.kD D.bD .nil pass0 (pa_cons (pv 0) (pa_cons pe_int pa_nil))) pa_nil))))))))))))))
    (pss_one (ps_ret (pe_call D.gC hr rfl D.mC D.kC D.bC .nil pass0 (pa_cons (pv 0) (pa_cons (pv 1) pa_nil))))), ?_⟩
  refine ⟨_, _, rfl, rfl, by show 2 ≤ sizeLine; decide, fun p1 np1 => ?_⟩
  refine ⟨by show 1 ≤ sizeLine; decide, fun p2 np2 => fun p3 np3 => ⟨upd_same, [(.inr "a", .int 1)], rfl, by simp, ?_⟩⟩
  have h10 : CPowB 10 30 := by refine ⟨by decide, by decide +kernel⟩
  refine ⟨_, _, rfl, rfl, h10, ?_⟩
  dsimp only
  have n21 : p1 ≠ p2 := ne_of_none upd_same np2
  have n31 : p1 ≠ p3 := ne_of_none (by rw [upd_ne n21]; exact upd_same) np3
  have n32 : p2 ≠ p3 := ne_of_none upd_same np3
  have A2 : Aft st H (upd (upd H p1 (.tup [.str "a", .int 0])) p2 (.lst [.int 1])) := ((Aft.of hst).new np1).new np2
  have e2 : Ex H (upd (upd H p1 (.tup [.str "a", .int 0])) p2 (.lst [.int 1])) := (Ex.new np1).trans (Ex.new np2)
  have n3 : H p3 = none := by
    cases z : H p3 with
    | none => rfl
    | some o => rw [e2 _ _ z] at np3; cases np3
  have A3 : Aft st H (upd (upd (upd (upd H p1 (.tup [.str "a", .int 0])) p2 (.lst [.int 1])) p3 (.dK [])) p3 (.dK (mergeK [] [(.inr "a", .int 1)]))) :=
    (A2.new np3).mut (A2.sm.ne np3) (by unfold Hd; rw [n3]; simp)
  have at1 : (upd (upd (upd (upd H p1 (.tup [.str "a", .int 0])) p2 (.lst [.int 1])) p3 (.dK [])) p3 (.dK (mergeK [] [(.inr "a", .int 1)]))) p1 = some (.tup [.str "a", .int 0]) := by
    rw [upd_ne n31, upd_ne n31, upd_ne n21]; exact upd_same
  have at2 : (upd (upd (upd (upd H p1 (.tup [.str "a", .int 0])) p2 (.lst [.int 1])) p3 (.dK [])) p3 (.dK (mergeK [] [(.inr "a", .int 1)]))) p2 = some (.lst [.int 1]) := by
    rw [upd_ne n32, upd_ne n32]; exact upd_same
  have at3 : (upd (upd (upd (upd H p1 (.tup [.str "a", .int 0])) p2 (.lst [.int 1])) p3 (.dK [])) p3 (.dK (mergeK [] [(.inr "a", .int 1)]))) p3 = some (.dK [(.inr "a", .int 1)]) := upd_same
  generalize (upd (upd (upd (upd H p1 (.tup [.str "a", .int 0])) p2 (.lst [.int 1])) p3 (.dK [])) p3 (.dK (mergeK [] [(.inr "a", .int 1)]))) = G at *
  have n2 : H p2 = none := upd_none np2
  refine ⟨_, rfl, st, _, rfl, A3.sm, by decide, by decide, fun k H4 k0 k1 A4 => ⟨by show 12 ≤ sizeLine; decide, fun p np => ?_⟩⟩
  have A5 := A3.trans A4
  have w1 : Th (Nw H H4) (.ref p1) := ⟨.tuple [.str "a", .int 0], .tup (nw_of np1 (A4.at (A3.sm.ne' at1) at1)) (.cons (.str _) (.cons (.int _) .nil)), by decide +kernel, by decide +kernel, by decide⟩
  have w2 : Th (Nw H H4) (.ref p2) := ⟨.list [.int 1], .lst (nw_of n2 (A4.at (A3.sm.ne' at2) at2)) (.cons (.int _) .nil), by decide +kernel, by decide +kernel, by decide⟩
  have w3 : Th (Nw H H4) (.ref p3) := ⟨.dict [(.str "a", .int 1)], .dct (nw_of n3 (A4.at (A3.sm.ne' at3) at3)) (.cons (.int _) .nil), by decide +kernel, by decide +kernel, by decide⟩
  refine ⟨_, rfl, _, rfl, st, _, Th (Nw H H4), rfl, A5.sm.new np, chs_new A5.sm np (by simp) (by simp) ?_, fun v H6 hv A6 => q v H6 (hv.mono ((nw_new np).trans (nw_aft hst A6))) ((A5.new np).trans A6)⟩
  intro v hv
  simp only [List.mem_cons, List.not_mem_nil, or_false] at hv
  rcases hv with rfl | rfl | rfl | rfl | rfl | rfl | rfl | rfl | rfl | rfl | rfl | rfl
  · exact th_int (by decide) (by decide)
  · exact th_int (by decide) (by decide)
  · exact th_int (by decide) (by decide)
  · exact ⟨.bool true, .bl _, by decide +kernel, by decide +kernel, by decide⟩
  · exact th_nil
  · exact ⟨.str "a", .str _, by decide +kernel, by decide +kernel, by decide⟩
  · exact ⟨.str "", .str _, by decide +kernel, by decide +kernel, by decide⟩
  · exact w1
  · exact w2
  · exact w3
  · exact ⟨.int (10 ^ Int.toNat 30), .int _, by decide +kernel, by decide +kernel, by decide⟩
  · exact th_int (by omega) (by omega)
end
end Sk

namespace Sk
open PySem PySem.Spec PyProof.Rows L2 Evl PySem.SkE
abbrev sPos : Stmt := topS 17
abbrev sNam : Stmt := topS 18
abbrev sSto : Stmt := topS 19
abbrev sCls : Stmt := topS 20
theorem scPos : FnScope ["turn", "thing"] ["turn", "thing"] (defScope sPos) := ⟨rfl, rfl, rfl, by decide +kernel, rfl, by decide +kernel, by decide +kernel⟩
theorem scNam : FnScope ["turn", "thing"] ["turn", "thing"] (defScope sNam) := ⟨rfl, rfl, rfl, by decide +kernel, rfl, by decide +kernel, by decide +kernel⟩
theorem scSto : FnScope ["turn", "error"] ["turn", "error"] (defScope sSto) := ⟨rfl, rfl, rfl, by decide +kernel, rfl, by decide +kernel, by decide +kernel⟩
theorem scCls : FnScope ["error", "found"] ["error"] (defScope sCls) := ⟨rfl, rfl, rfl, by decide +kernel, rfl, by decide +kernel, by decide +kernel⟩
structure Ers (K : PySem.W.Frag) (mg : Str → Option Value) (C I : Nat → Addr) : Prop where
  t0 : ErrTxt K mg "BadDocument" "position" "BadDocument.__init__" (C 0) (I 0)
  t1 : ErrTxt K mg "BadPrefix" "position" "BadPrefix.__init__" (C 1) (I 1)
  t2 : ErrTxt K mg "BadSchema" "position" "BadSchema.__init__" (C 2) (I 2)
  t3 : ErrTxt K mg "NotOffered" "position" "NotOffered.__init__" (C 3) (I 3)
  t4 : ErrTxt K mg "NoRoom" "length" "NoRoom.__init__" (C 4) (I 4)
  t5 : ErrTxt K mg "NoSuchCompletion" "count" "NoSuchCompletion.__init__" (C 5) (I 5)
  t6 : ErrTxt K mg "NoPath" "path" "NoPath.__init__" (C 6) (I 6)
  t7 : ErrTxt K mg "TooManyStates" "bound" "TooManyStates.__init__" (C 7) (I 7)
  t8 : ErrTxt K mg "TooFar" "number" "TooFar.__init__" (C 8) (I 8)
  t9 : ErrTxt K mg "BadCommand" "command" "BadCommand.__init__" (C 9) (I 9)
def atT : Nat → Str
  | 0 => "position"
  | 1 => "position"
  | 2 => "position"
  | 3 => "position"
  | 4 => "length"
  | 5 => "count"
  | 6 => "path"
  | 7 => "bound"
  | 8 => "number"
  | _ => "command"
def spMk (C : Nat → Addr) : Sp := fun vs H Q _ => ∃ (n : Nat) (v : V), vs = [.int n, v] ∧ n < 10 ∧ ∀ e d, H e = none → H d = none → d ≠ e → Q (.ref e) (upd (upd H d (.xd [(atT n, v)])) e (ErO (C n) d e))
def spSto (C : Nat → Addr) : Sp := fun vs H Q _ => ∃ (n : Nat) (e : Addr) (v : V), vs = [.int n, .ref e] ∧ n < 10 ∧ IsErr H (C n) (atT n) e v ∧ Q v H
theorem ten {n : Nat} {p : Nat → Prop} (h : n < 10) (h0 : p 0) (h1 : p 1) (h2 : p 2) (h3 : p 3) (h4 : p 4) (h5 : p 5) (h6 : p 6) (h7 : p 7) (h8 : p 8) (h9 : p 9) : p n :=
  match n, h with
  | 0, _ => h0 | 1, _ => h1 | 2, _ => h2 | 3, _ => h3 | 4, _ => h4 | 5, _ => h5 | 6, _ => h6 | 7, _ => h7 | 8, _ => h8 | 9, _ => h9
theorem eqN {n : Nat} (k : Nat) (c : decide (V.int (n : Int) = V.int (k : Int)) = true) : n = k := by
  have := of_decide_eq_true c
  injection this with h
  omega
theorem neN {n : Nat} (k : Nat) (c : ¬ decide (V.int (n : Int) = V.int (k : Int)) = true) : n ≠ k := by
  intro e; subst e
  exact c (decide_eq_true rfl)
section
variable {P : Program} {w : World} {K : PySem.W.Frag} {mg : Str → Option Value} {base : Heap} {f fD fC : Addr} {fd dD dC : FuncData} {C I : Nat → Addr}
theorem ok_pos (F : Fun K "_law_by_position" "_law_by_position" sPos f fd) (T : Ers K mg C I) : FnOk P w K mg base CX0 3 f fd ["turn", "thing"] (spMk C) := by
  refine F.ok scPos (fun vs H Q E h => ?_) (fun cdv A outer s H vs Q E hr h => ?_)
  · obtain ⟨a, b, rfl, _⟩ := h
    rfl
  have nd := scPos.nd
  obtain ⟨n, v, rfl, hn, q⟩ := h
  refine ⟨_, pss_cons (ps_if (pt_cmpR op_eq (pv 0) pe_int (nomark _)) (pss_one (ps_ret (pe_err T.t0 (init_position T.t0) hr (pa_cons (pv 1) pa_nil)))) pss_nil)
    (pss_cons (ps_if (pt_cmpR op_eq (pv 0) pe_int (nomark _)) (pss_one (ps_ret (pe_err T.t1 (init_position T.t1) hr (pa_cons (pv 1) pa_nil)))) pss_nil)
    (pss_cons (ps_if (pt_cmpR op_eq (pv 0) pe_int (nomark _)) (pss_one (ps_ret (pe_err T.t2 (init_position T.t2) hr (pa_cons (pv 1) pa_nil)))) pss_nil)
    (pss_cons (ps_if (pt_cmpR op_eq (pv 0) pe_int (nomark _)) (pss_one (ps_ret (pe_err T.t3 (init_position T.t3) hr (pa_cons (pv 1) pa_nil)))) pss_nil)
    (pss_cons (ps_if (pt_cmpR op_eq (pv 0) pe_int (nomark _)) (pss_one (ps_ret (pe_err T.t4 (init_length T.t4) hr (pa_cons (pv 1) pa_nil)))) pss_nil)
    (pss_cons (ps_if (pt_cmpR op_eq (pv 0) pe_int (nomark _)) (pss_one (ps_ret (pe_err T.t5 (init_count T.t5) hr (pa_cons (pv 1) pa_nil)))) pss_nil)
    (pss_cons (ps_if (pt_cmpR op_eq (pv 0) pe_int (nomark _)) (pss_one (ps_ret (pe_err T.t6 (init_path T.t6) hr (pa_cons (pv 1) pa_nil)))) pss_nil)
    (pss_cons (ps_if (pt_cmpR op_eq (pv 0) pe_int (nomark _)) (pss_one (ps_ret (pe_err T.t7 (init_bound T.t7) hr (pa_cons (pv 1) pa_nil)))) pss_nil)
    (pss_one (ps_ret (pe_ifExp (pt_cmpR op_eq (pv 0) pe_int (nomark _)) (pe_err T.t8 (init_number T.t8) hr (pa_cons (pv 1) pa_nil)) (pe_err T.t9 (init_command T.t9) hr (pa_cons (pv 1) pa_nil)))))))))))), ?_⟩
  refine ⟨_, rfl, rfl, _, rfl, ite2 (fun c => ?_) (fun c0 => ?_)⟩
  · obtain rfl := eqN 0 c
    exact ⟨_, rfl, _, rfl, q⟩
  replace c0 := neN 0 c0
  refine ⟨_, rfl, rfl, _, rfl, ite2 (fun c => ?_) (fun c1 => ?_)⟩
  · obtain rfl := eqN 1 c
    exact ⟨_, rfl, _, rfl, q⟩
  replace c1 := neN 1 c1
  refine ⟨_, rfl, rfl, _, rfl, ite2 (fun c => ?_) (fun c2 => ?_)⟩
  · obtain rfl := eqN 2 c
    exact ⟨_, rfl, _, rfl, q⟩
  replace c2 := neN 2 c2
  refine ⟨_, rfl, rfl, _, rfl, ite2 (fun c => ?_) (fun c3 => ?_)⟩
  · obtain rfl := eqN 3 c
    exact ⟨_, rfl, _, rfl, q⟩
  replace c3 := neN 3 c3
  refine ⟨_, rfl, rfl, _, rfl, ite2 (fun c => ?_) (fun c4 => ?_)⟩
  · obtain rfl := eqN 4 c
    exact ⟨_, rfl, _, rfl, q⟩
  replace c4 := neN 4 c4
  refine ⟨_, rfl, rfl, _, rfl, ite2 (fun c => ?_) (fun c5 => ?_)⟩
  · obtain rfl := eqN 5 c
    exact ⟨_, rfl, _, rfl, q⟩
  replace c5 := neN 5 c5
  refine ⟨_, rfl, rfl, _, rfl, ite2 (fun c => ?_) (fun c6 => ?_)⟩
  · obtain rfl := eqN 6 c
    exact ⟨_, rfl, _, rfl, q⟩
  replace c6 := neN 6 c6
  refine ⟨_, rfl, rfl, _, rfl, ite2 (fun c => ?_) (fun c7 => ?_)⟩
  · obtain rfl := eqN 7 c
    exact ⟨_, rfl, _, rfl, q⟩
  replace c7 := neN 7 c7
  refine ⟨_, rfl, rfl, _, rfl, ite2 (fun c => ?_) (fun c8 => ?_)⟩
  · obtain rfl := eqN 8 c
    exact ⟨_, rfl, _, rfl, q⟩
  replace c8 := neN 8 c8
  obtain rfl : n = 9 := by omega
  exact ⟨_, rfl, _, rfl, q⟩
theorem ok_nam (F : Fun K "_law_by_name" "_law_by_name" sNam f fd) (T : Ers K mg C I) : FnOk P w K mg base CX0 3 f fd ["turn", "thing"] (spMk C) := by
  refine F.ok scNam (fun vs H Q E h => ?_) (fun cdv A outer s H vs Q E hr h => ?_)
  · obtain ⟨a, b, rfl, _⟩ := h
    rfl
  have nd := scNam.nd
  obtain ⟨n, v, rfl, hn, q⟩ := h
  refine ⟨_, pss_cons (ps_if (pt_cmpR op_eq (pv 0) pe_int (nomark _)) (pss_one (ps_ret (pe_errK T.t0 (init_position T.t0) hr (pk_cons (pv 1) pk_nil)))) pss_nil)
    (pss_cons (ps_if (pt_cmpR op_eq (pv 0) pe_int (nomark _)) (pss_one (ps_ret (pe_errK T.t1 (init_position T.t1) hr (pk_cons (pv 1) pk_nil)))) pss_nil)
    (pss_cons (ps_if (pt_cmpR op_eq (pv 0) pe_int (nomark _)) (pss_one (ps_ret (pe_errK T.t2 (init_position T.t2) hr (pk_cons (pv 1) pk_nil)))) pss_nil)
    (pss_cons (ps_if (pt_cmpR op_eq (pv 0) pe_int (nomark _)) (pss_one (ps_ret (pe_errK T.t3 (init_position T.t3) hr (pk_cons (pv 1) pk_nil)))) pss_nil)
    (pss_cons (ps_if (pt_cmpR op_eq (pv 0) pe_int (nomark _)) (pss_one (ps_ret (pe_errK T.t4 (init_length T.t4) hr (pk_cons (pv 1) pk_nil)))) pss_nil)
    (pss_cons (ps_if (pt_cmpR op_eq (pv 0) pe_int (nomark _)) (pss_one (ps_ret (pe_errK T.t5 (init_count T.t5) hr (pk_cons (pv 1) pk_nil)))) pss_nil)
    (pss_cons (ps_if (pt_cmpR op_eq (pv 0) pe_int (nomark _)) (pss_one (ps_ret (pe_errK T.t6 (init_path T.t6) hr (pk_cons (pv 1) pk_nil)))) pss_nil)
    (pss_cons (ps_if (pt_cmpR op_eq (pv 0) pe_int (nomark _)) (pss_one (ps_ret (pe_errK T.t7 (init_bound T.t7) hr (pk_cons (pv 1) pk_nil)))) pss_nil)
    (pss_one (ps_ret (pe_ifExp (pt_cmpR op_eq (pv 0) pe_int (nomark _)) (pe_errK T.t8 (init_number T.t8) hr (pk_cons (pv 1) pk_nil)) (pe_errK T.t9 (init_command T.t9) hr (pk_cons (pv 1) pk_nil)))))))))))), ?_⟩
  refine ⟨_, rfl, rfl, _, rfl, ite2 (fun c => ?_) (fun c0 => ?_)⟩
  · obtain rfl := eqN 0 c
    exact ⟨_, rfl, _, rfl, q⟩
  replace c0 := neN 0 c0
  refine ⟨_, rfl, rfl, _, rfl, ite2 (fun c => ?_) (fun c1 => ?_)⟩
  · obtain rfl := eqN 1 c
    exact ⟨_, rfl, _, rfl, q⟩
  replace c1 := neN 1 c1
  refine ⟨_, rfl, rfl, _, rfl, ite2 (fun c => ?_) (fun c2 => ?_)⟩
  · obtain rfl := eqN 2 c
    exact ⟨_, rfl, _, rfl, q⟩
  replace c2 := neN 2 c2
  refine ⟨_, rfl, rfl, _, rfl, ite2 (fun c => ?_) (fun c3 => ?_)⟩
  · obtain rfl := eqN 3 c
    exact ⟨_, rfl, _, rfl, q⟩
  replace c3 := neN 3 c3
  refine ⟨_, rfl, rfl, _, rfl, ite2 (fun c => ?_) (fun c4 => ?_)⟩
  · obtain rfl := eqN 4 c
    exact ⟨_, rfl, _, rfl, q⟩
  replace c4 := neN 4 c4
  refine ⟨_, rfl, rfl, _, rfl, ite2 (fun c => ?_) (fun c5 => ?_)⟩
  · obtain rfl := eqN 5 c
    exact ⟨_, rfl, _, rfl, q⟩
  replace c5 := neN 5 c5
  refine ⟨_, rfl, rfl, _, rfl, ite2 (fun c => ?_) (fun c6 => ?_)⟩
  · obtain rfl := eqN 6 c
    exact ⟨_, rfl, _, rfl, q⟩
  replace c6 := neN 6 c6
  refine ⟨_, rfl, rfl, _, rfl, ite2 (fun c => ?_) (fun c7 => ?_)⟩
  · obtain rfl := eqN 7 c
    exact ⟨_, rfl, _, rfl, q⟩
  replace c7 := neN 7 c7
  refine ⟨_, rfl, rfl, _, rfl, ite2 (fun c => ?_) (fun c8 => ?_)⟩
  · obtain rfl := eqN 8 c
    exact ⟨_, rfl, _, rfl, q⟩
  replace c8 := neN 8 c8
  obtain rfl : n = 9 := by omega
  exact ⟨_, rfl, _, rfl, q⟩
theorem Ers.c (T : Ers K mg C I) {n : Nat} (h : n < 10) : ErrC K (atT n) (C n) :=
  ten (p := fun n => ErrC K (atT n) (C n)) h ⟨_, _, _, _, T.t0⟩ ⟨_, _, _, _, T.t1⟩ ⟨_, _, _, _, T.t2⟩ ⟨_, _, _, _, T.t3⟩ ⟨_, _, _, _, T.t4⟩ ⟨_, _, _, _, T.t5⟩ ⟨_, _, _, _, T.t6⟩ ⟨_, _, _, _, T.t7⟩ ⟨_, _, _, _, T.t8⟩ ⟨_, _, _, _, T.t9⟩
theorem atT4 : ∀ {n : Nat}, n < 4 → atT n = "position"
  | 0, _ => rfl
  | 1, _ => rfl
  | 2, _ => rfl
  | 3, _ => rfl
theorem ok_sto (F : Fun K "_law_stored" "_law_stored" sSto f fd) (T : Ers K mg C I) : FnOk P w K mg base CX0 3 f fd ["turn", "error"] (spSto C) := by
  refine F.ok scSto (fun vs H Q E h => ?_) (fun cdv A outer s H vs Q E hr h => ?_)
  · obtain ⟨a, b, c, rfl, _⟩ := h
    rfl
  have nd := scSto.nd
  obtain ⟨n, e, v, rfl, hn, hi, q⟩ := h
  have hc := T.c hn
  refine ⟨_, pss_cons (ps_if (pt_cmpR op_lt (pv 0) pe_int (nomark _)) (pss_one (ps_ret (pe_errFldA (pv 1)))) pss_nil)
    (pss_cons (ps_if (pt_cmpR op_eq (pv 0) pe_int (nomark _)) (pss_one (ps_ret (pe_errFldA (pv 1)))) pss_nil)
    (pss_cons (ps_if (pt_cmpR op_eq (pv 0) pe_int (nomark _)) (pss_one (ps_ret (pe_errFldA (pv 1)))) pss_nil)
    (pss_cons (ps_if (pt_cmpR op_eq (pv 0) pe_int (nomark _)) (pss_one (ps_ret (pe_errFldA (pv 1)))) pss_nil)
    (pss_cons (ps_if (pt_cmpR op_eq (pv 0) pe_int (nomark _)) (pss_one (ps_ret (pe_errFldA (pv 1)))) pss_nil)
    (pss_one (ps_ret (pe_ifExp (pt_cmpR op_eq (pv 0) pe_int (nomark _)) (pe_errFldA (pv 1)) (pe_errFldA (pv 1))))))))), ?_⟩
  refine ⟨_, rfl, _, _, rfl, rfl, _, rfl, ite2 (fun c => ?_) (fun c0 => ?_)⟩
  · have c' : (n : Int) < 4 := of_decide_eq_true c
    have e4 := atT4 (n := n) (by omega)
    rw [e4] at hc hi
    exact ⟨_, rfl, _, _, _, rfl, hc, hi, q⟩
  have c0' : ¬ (n : Int) < 4 := fun z => c0 (decide_eq_true z)
  refine ⟨_, rfl, rfl, _, rfl, ite2 (fun c => ?_) (fun c4 => ?_)⟩
  · obtain rfl := eqN 4 c
    exact ⟨_, rfl, _, _, _, rfl, hc, hi, q⟩
  replace c4 := neN 4 c4
  refine ⟨_, rfl, rfl, _, rfl, ite2 (fun c => ?_) (fun c5 => ?_)⟩
  · obtain rfl := eqN 5 c
    exact ⟨_, rfl, _, _, _, rfl, hc, hi, q⟩
  replace c5 := neN 5 c5
  refine ⟨_, rfl, rfl, _, rfl, ite2 (fun c => ?_) (fun c6 => ?_)⟩
  · obtain rfl := eqN 6 c
    exact ⟨_, rfl, _, _, _, rfl, hc, hi, q⟩
  replace c6 := neN 6 c6
  refine ⟨_, rfl, rfl, _, rfl, ite2 (fun c => ?_) (fun c7 => ?_)⟩
  · obtain rfl := eqN 7 c
    exact ⟨_, rfl, _, _, _, rfl, hc, hi, q⟩
  replace c7 := neN 7 c7
  refine ⟨_, rfl, rfl, _, rfl, ite2 (fun c => ?_) (fun c8 => ?_)⟩
  · obtain rfl := eqN 8 c
    exact ⟨_, rfl, _, _, _, rfl, hc, hi, q⟩
  replace c8 := neN 8 c8
  obtain rfl : n = 9 := by omega
  exact ⟨_, rfl, _, _, _, rfl, hc, hi, q⟩
end
end Sk

namespace Sk
open PySem PySem.Spec PyProof.Rows L2 Evl PySem.SkE
theorem IsErr.mono {H H' : Hp} {C e : Addr} {a : Str} {v : V} (h : IsErr H C a e v) (x : Ex H H') : IsErr H' C a e v := by
  obtain ⟨d, h1, h2⟩ := h
  exact ⟨d, x _ _ h1, x _ _ h2⟩
def eqs (n : Nat) : List V := (List.range 10).map fun k => V.bl (decide (n = k))
def Kit (K : PySem.W.Frag) (C : Nat → Addr) : Prop := ∀ n k, n < 10 → k < 10 → PySem.W.kitOne K (.ref (C n)) (.ref (C k)) = some (decide (n = k))
def spCls (C : Nat → Addr) : Sp := fun vs H Q _ => ∃ (n : Nat) (e : Addr) (v : V), vs = [.ref e] ∧ n < 10 ∧ IsErr H (C n) (atT n) e v ∧ ∀ p H', Ex H H' → H' p = some (.lst (eqs n)) → Q (.ref p) H'
section
variable {P : Program} {w : World} {K : PySem.W.Frag} {mg : Str → Option Value} {base : Heap} {f fD fC : Addr} {fd dD dC : FuncData} {C I : Nat → Addr}
theorem ok_cls (F : Fun K "_law_classes" "_law_classes" sCls f fd) (T : Ers K mg C I) (kt : Kit K C) (hi : mg "isinstance" = none) : FnOk P w K mg base CX0 3 f fd ["error"] (spCls C) := by
  refine F.ok scCls (fun vs H Q E h => ?_) (fun cdv A outer s H vs Q E hr h => ?_)
  · obtain ⟨a, b, c, rfl, _⟩ := h
    rfl
  have nd := scCls.nd
  obtain ⟨n, e, v, rfl, hn, he, q⟩ := h
  have hc := T.c hn
  refine ⟨_, pss_cons (ps_set (i := 1) nd rfl (Or.inl rfl) (pe_lst (pa_cons (pe_callB call_isErrA rfl hi boot_isinstance (pa_cons (pv 0) (pa_cons (pe_glob (v := .ref (C 0)) rfl T.t0.gC rfl) pa_nil))) (pa_cons (pe_callB call_isErrA rfl hi boot_isinstance (pa_cons (pv 0) (pa_cons (pe_glob (v := .ref (C 1)) rfl T.t1.gC rfl) pa_nil))) (pa_cons (pe_callB call_isErrA rfl hi boot_isinstance (pa_cons (pv 0) (pa_cons (pe_glob (v := .ref (C 2)) rfl T.t2.gC rfl) pa_nil))) pa_nil)))))
    (pss_cons (ps_set (i := 1) nd rfl (Or.inl rfl) (pe_op op_cat (pv 1) (pe_lst (pa_cons (pe_callB call_isErrA rfl hi boot_isinstance (pa_cons (pv 0) (pa_cons (pe_glob (v := .ref (C 3)) rfl T.t3.gC rfl) pa_nil))) (pa_cons (pe_callB call_isErrA rfl hi boot_isinstance (pa_cons (pv 0) (pa_cons (pe_glob (v := .ref (C 4)) rfl T.t4.gC rfl) pa_nil))) (pa_cons (pe_callB call_isErrA rfl hi boot_isinstance (pa_cons (pv 0) (pa_cons (pe_glob (v := .ref (C 5)) rfl T.t5.gC rfl) pa_nil))) pa_nil))))))
    (pss_cons (ps_set (i := 1) nd rfl (Or.inl rfl) (pe_op op_cat (pv 1) (pe_lst (pa_cons (pe_callB call_isErrA rfl hi boot_isinstance (pa_cons (pv 0) (pa_cons (pe_glob (v := .ref (C 6)) rfl T.t6.gC rfl) pa_nil))) (pa_cons (pe_callB call_isErrA rfl hi boot_isinstance (pa_cons (pv 0) (pa_cons (pe_glob (v := .ref (C 7)) rfl T.t7.gC rfl) pa_nil))) (pa_cons (pe_callB call_isErrA rfl hi boot_isinstance (pa_cons (pv 0) (pa_cons (pe_glob (v := .ref (C 8)) rfl T.t8.gC rfl) pa_nil))) pa_nil))))))
    (pss_one (ps_ret (pe_op op_cat (pv 1) (pe_lst (pa_cons (pe_callB call_isErrA rfl hi boot_isinstance (pa_cons (pv 0) (pa_cons (pe_glob (v := .ref (C 9)) rfl T.t9.gC rfl) pa_nil))) pa_nil))))))), ?_⟩
  refine ⟨_, rfl, C n, e, _, v, _, _, _, rfl, .own _, hc, he, kt n 0 hn (by decide), ?_⟩
  refine ⟨_, rfl, C n, e, _, v, _, _, _, rfl, .own _, hc, he, kt n 1 hn (by decide), ?_⟩
  refine ⟨_, rfl, C n, e, _, v, _, _, _, rfl, .own _, hc, he, kt n 2 hn (by decide), ?_⟩
  refine ⟨by show 3 ≤ sizeLine; decide, fun p0 n0 => ?_⟩
  have x0 : Ex H (upd H p0 (.lst [.bl (decide (n = 0)), .bl (decide (n = 1)), .bl (decide (n = 2))])) := Ex.new n0
  have a0 : (upd H p0 (.lst [.bl (decide (n = 0)), .bl (decide (n = 1)), .bl (decide (n = 2))])) p0 = some (.lst [.bl (decide (n = 0)), .bl (decide (n = 1)), .bl (decide (n = 2))]) := upd_same
  have he0 := he.mono x0
  dsimp only
  generalize upd H p0 (.lst [.bl (decide (n = 0)), .bl (decide (n = 1)), .bl (decide (n = 2))]) = H0 at *
  refine ⟨_, rfl, ?_⟩
  refine ⟨_, rfl, C n, e, _, v, _, _, _, rfl, .own _, hc, he0, kt n 3 hn (by decide), ?_⟩
  refine ⟨_, rfl, C n, e, _, v, _, _, _, rfl, .own _, hc, he0, kt n 4 hn (by decide), ?_⟩
  refine ⟨_, rfl, C n, e, _, v, _, _, _, rfl, .own _, hc, he0, kt n 5 hn (by decide), ?_⟩
  refine ⟨by show 3 ≤ sizeLine; decide, fun q0 nq0 => ?_⟩
  refine ⟨_, _, _, _, rfl, rfl, (Ex.new nq0) _ _ a0, upd_same, by show 3 + 3 ≤ sizeLine; decide, fun r0 nr0 => ?_⟩
  have y0 := (x0.trans (Ex.new (o := .lst [.bl (decide (n = 3)), .bl (decide (n = 4)), .bl (decide (n = 5))]) nq0)).trans (Ex.new (o := .lst ([.bl (decide (n = 0)), .bl (decide (n = 1)), .bl (decide (n = 2))] ++ [.bl (decide (n = 3)), .bl (decide (n = 4)), .bl (decide (n = 5))])) nr0)
  have b0 : (upd (upd H0 q0 (.lst [.bl (decide (n = 3)), .bl (decide (n = 4)), .bl (decide (n = 5))])) r0 (.lst ([.bl (decide (n = 0)), .bl (decide (n = 1)), .bl (decide (n = 2))] ++ [.bl (decide (n = 3)), .bl (decide (n = 4)), .bl (decide (n = 5))]))) r0 = some (.lst [.bl (decide (n = 0)), .bl (decide (n = 1)), .bl (decide (n = 2)), .bl (decide (n = 3)), .bl (decide (n = 4)), .bl (decide (n = 5))]) := upd_same
  have hf0 := he.mono y0
  dsimp only
  generalize upd (upd H0 q0 (.lst [.bl (decide (n = 3)), .bl (decide (n = 4)), .bl (decide (n = 5))])) r0 (.lst ([.bl (decide (n = 0)), .bl (decide (n = 1)), .bl (decide (n = 2))] ++ [.bl (decide (n = 3)), .bl (decide (n = 4)), .bl (decide (n = 5))])) = G0 at *
  refine ⟨_, rfl, ?_⟩
  refine ⟨_, rfl, C n, e, _, v, _, _, _, rfl, .own _, hc, hf0, kt n 6 hn (by decide), ?_⟩
  refine ⟨_, rfl, C n, e, _, v, _, _, _, rfl, .own _, hc, hf0, kt n 7 hn (by decide), ?_⟩
  refine ⟨_, rfl, C n, e, _, v, _, _, _, rfl, .own _, hc, hf0, kt n 8 hn (by decide), ?_⟩
  refine ⟨by show 3 ≤ sizeLine; decide, fun q1 nq1 => ?_⟩
  refine ⟨_, _, _, _, rfl, rfl, (Ex.new nq1) _ _ b0, upd_same, by show 6 + 3 ≤ sizeLine; decide, fun r1 nr1 => ?_⟩
  have y1 := (y0.trans (Ex.new (o := .lst [.bl (decide (n = 6)), .bl (decide (n = 7)), .bl (decide (n = 8))]) nq1)).trans (Ex.new (o := .lst ([.bl (decide (n = 0)), .bl (decide (n = 1)), .bl (decide (n = 2)), .bl (decide (n = 3)), .bl (decide (n = 4)), .bl (decide (n = 5))] ++ [.bl (decide (n = 6)), .bl (decide (n = 7)), .bl (decide (n = 8))])) nr1)
  have b1 : (upd (upd G0 q1 (.lst [.bl (decide (n = 6)), .bl (decide (n = 7)), .bl (decide (n = 8))])) r1 (.lst ([.bl (decide (n = 0)), .bl (decide (n = 1)), .bl (decide (n = 2)), .bl (decide (n = 3)), .bl (decide (n = 4)), .bl (decide (n = 5))] ++ [.bl (decide (n = 6)), .bl (decide (n = 7)), .bl (decide (n = 8))]))) r1 = some (.lst [.bl (decide (n = 0)), .bl (decide (n = 1)), .bl (decide (n = 2)), .bl (decide (n = 3)), .bl (decide (n = 4)), .bl (decide (n = 5)), .bl (decide (n = 6)), .bl (decide (n = 7)), .bl (decide (n = 8))]) := upd_same
  have hf1 := he.mono y1
  dsimp only
  generalize upd (upd G0 q1 (.lst [.bl (decide (n = 6)), .bl (decide (n = 7)), .bl (decide (n = 8))])) r1 (.lst ([.bl (decide (n = 0)), .bl (decide (n = 1)), .bl (decide (n = 2)), .bl (decide (n = 3)), .bl (decide (n = 4)), .bl (decide (n = 5))] ++ [.bl (decide (n = 6)), .bl (decide (n = 7)), .bl (decide (n = 8))])) = G1 at *
  refine ⟨_, rfl, ?_⟩
  refine ⟨_, rfl, C n, e, _, v, _, _, _, rfl, .own _, hc, hf1, kt n 9 hn (by decide), ?_⟩
  refine ⟨by show 1 ≤ sizeLine; decide, fun q2 nq2 => ?_⟩
  refine ⟨_, _, _, _, rfl, rfl, (Ex.new nq2) _ _ b1, upd_same, by show 9 + 1 ≤ sizeLine; decide, fun r2 nr2 => ?_⟩
  have y2 := (y1.trans (Ex.new (o := .lst [.bl (decide (n = 9))]) nq2)).trans (Ex.new (o := .lst ([.bl (decide (n = 0)), .bl (decide (n = 1)), .bl (decide (n = 2)), .bl (decide (n = 3)), .bl (decide (n = 4)), .bl (decide (n = 5)), .bl (decide (n = 6)), .bl (decide (n = 7)), .bl (decide (n = 8))] ++ [.bl (decide (n = 9))])) nr2)
  exact q _ _ y2 upd_same
end
end Sk

namespace Sk
open PySem PySem.Spec PyProof.Rows L2 Evl PySem.SkE
abbrev sLaw : Stmt := topS 21
theorem scLaw : FnScope ["script", "start", "stream", "turn", "thing", "seen", "error", "at"] ["script"] (defScope sLaw) := ⟨rfl, rfl, rfl, by decide +kernel, rfl, by decide +kernel, by decide +kernel⟩
def spLaw (K : PySem.W.Frag) : Sp := fun vs H Q _ => ∃ (a : Addr) (ns : List Int), vs = [.ref a] ∧ SqL K H a (ns.map V.int) ∧ ns.length ≤ 63 ∧ (∀ z ∈ ns, Builtin.Int.intBits z ≤ 1048576) ∧ ∀ H', Q (.bl true) H'
structure Blt (mg : Str → Option Value) : Prop where
  isi : mg "isinstance" = none
  len : mg "len" = none
  range : mg "range" = none
  min : mg "min" = none
  max : mg "max" = none
  repr : mg "repr" = none
  ve : mg "ValueError" = none
theorem bt_min : bootBuiltins "min" = some (.builtin "min") := by decide +kernel
theorem bt_max : bootBuiltins "max" = some (.builtin "max") := by decide +kernel
theorem bt_ve : bootBuiltins "ValueError" = some (.type "ValueError") := by decide +kernel
/-- the classes behind: the common own one, the built-in one -/
structure Bnd (K : PySem.W.Frag) (mg : Str → Option Value) (C : Nat → Addr) (S : Addr) : Prop where
  mS : mg "SchemaError" = some (.ref S)
  own : ∀ n, n < 10 → PySem.W.kitOne K (.ref (C n)) (.ref S) = some true
  ve : ∀ n, n < 10 → PySem.W.kitOne K (.ref (C n)) (.type "ValueError") = some true
theorem dp_bools {K : PySem.W.Frag} {H : Hp} (f : Nat → Bool) : ∀ l : List Nat, DpAll K H (l.map fun k => V.bl (f k)) (l.map fun k => .bool (f k))
  | [] => .nil
  | _ :: r => .cons (.bl _) (dp_bools f r)
def flags (f : Nat → Bool) : PyData := .list ((List.range 10).map fun k => .bool (f k))
theorem flags_eq {j : Nat} : (fun k : Nat => decide (V.int (0 + (k : Int)) = V.int (j : Int))) = fun k : Nat => decide (j = k) := by
  funext k
  refine decide_eq_decide.mpr ⟨fun z => ?_, fun z => ?_⟩
  · injection z with z
    omega
  · subst z
    rw [Int.zero_add]
theorem dp_flags {K : PySem.W.Frag} {H : Hp} {j : Nat} : DpAll K H ((List.range 10).map fun k : Nat => V.bl (decide (V.int (0 + (k : Int)) = V.int (j : Int)))) ((List.range 10).map fun k : Nat => PyData.bool (decide (j = k))) := by
  have e : (fun k : Nat => V.bl (decide (V.int (0 + (k : Int)) = V.int (j : Int)))) = fun k : Nat => V.bl (decide (j = k)) := funext fun k => congrArg V.bl (congrFun flags_eq k)
  rw [e]
  exact dp_bools _ _
theorem flags_ok {j : Nat} (h : j < 10) : PyData.eqv (flags fun k => decide (j = k)) (flags fun k => decide (j = k)) = true ∧ SeqAt.shaped (flags fun k => decide (j = k)) = true :=
  ten (p := fun j => PyData.eqv (flags fun k => decide (j = k)) (flags fun k => decide (j = k)) = true ∧ SeqAt.shaped (flags fun k => decide (j = k)) = true) h (by decide +kernel) (by decide +kernel) (by decide +kernel) (by decide +kernel) (by decide +kernel) (by decide +kernel) (by decide +kernel) (by decide +kernel) (by decide +kernel) (by decide +kernel)
theorem share_if {c : Bool} {A B : VK → Prop} {Q : VK} (Pq : V → Hp → Prop) (h : ∀ v H', Pq v H' → Q v H') (k : (∀ v H', Pq v H' → Q v H') → if c = true then A Q else B Q) : if c = true then A Q else B Q := k h
theorem isErr_made {H : Hp} {C d e : Addr} {a : Str} {v : V} (n : d ≠ e) : IsErr (upd (upd H d (.xd [(a, v)])) e (ErO C d e)) C a e v := ⟨d, upd_same, by rw [upd_ne n]; exact upd_same⟩
theorem ex_made {H : Hp} {d e : Addr} {o u : HO} (he : H e = none) (hd : H d = none) (n : d ≠ e) : Ex H (upd (upd H d o) e u) := (Ex.new hd).trans (Ex.new (by rw [upd_ne (Ne.symm n)]; exact he))
section
variable {P : Program} {w : World} {K : PySem.W.Frag} {mg : Str → Option Value} {base : Heap} {fL fS fD fC fT fP fN fO fK S : Addr} {dL dS dD dC dT dP dN dO dK : FuncData} {C I : Nat → Addr}
theorem ok_law (F : Fun K "law" "law" sLaw fL dL) (W : Drw P w K mg base fD fC dD dC) (B : Blt mg) (T : Ers K mg C I) (BB : Bnd K mg C S)
    (gS : FnOk P w K mg base CX0 1 fS dS ["script", "start"] (spStream K)) (bS : Binds K dS ["script", "start"] []) (kS : PySem.W.keepIn K (.ref fS) = true) (mS : mg "_law_stream" = some (.ref fS))
    (gT : FnOk P w K mg base CX0 3 fT dT ["stream"] spThing) (bT : Binds K dT ["stream"] []) (kT : PySem.W.keepIn K (.ref fT) = true) (mT : mg "_law_drawn_thing" = some (.ref fT))
    (gP : FnOk P w K mg base CX0 3 fP dP ["turn", "thing"] (spMk C)) (bP : Binds K dP ["turn", "thing"] []) (kP : PySem.W.keepIn K (.ref fP) = true) (mP : mg "_law_by_position" = some (.ref fP))
    (gN : FnOk P w K mg base CX0 3 fN dN ["turn", "thing"] (spMk C)) (bN : Binds K dN ["turn", "thing"] []) (kN : PySem.W.keepIn K (.ref fN) = true) (mN : mg "_law_by_name" = some (.ref fN))
    (gO : FnOk P w K mg base CX0 3 fO dO ["turn", "error"] (spSto C)) (bO : Binds K dO ["turn", "error"] []) (kO : PySem.W.keepIn K (.ref fO) = true) (mO : mg "_law_stored" = some (.ref fO))
    (gK : FnOk P w K mg base CX0 3 fK dK ["error"] (spCls C)) (bK : Binds K dK ["error"] []) (kK : PySem.W.keepIn K (.ref fK) = true) (mK : mg "_law_classes" = some (.ref fK)) :
    LawOk P w K mg base fL dL "script" (spLaw K) := by
  refine law_of (k := 3) F scLaw ⟨rfl, by decide, by decide⟩ fun cdv s H v Q hr hg h => ?_
  have nd := scLaw.nd
  have hu : (callerA.deeper (envOfC "law" (defScope sLaw) s.heap.objs.size fL cdv)).units + 64 < cLine := hr.units
  have hr1 : Room 1 _ := hr.mono (by decide)
  obtain ⟨a, ns, ev, hS, h63, hb, q⟩ := h
  cases ev
  refine ⟨_, pss_cons (ps_for PassesOwn.never rfl (pi_range1 rfl B.range (pa_cons (pe_callB (call_max2 rfl) rfl B.max bt_max (pa_cons pe_int (pa_cons (pe_callB (call_min2 rfl) rfl B.min bt_min (pa_cons pe_int (pa_cons (pe_callB call_len_seq rfl B.len PySem.boot_len (pa_cons (pv 0) pa_nil)) pa_nil))) pa_nil))) pa_nil)) (pg_name (i := 1) nd rfl (Or.inl rfl))
      (pss_cons (ps_set (i := 2) nd rfl (Or.inl rfl) (pe_call gS hr1 rfl mS kS bS .nil pass0 (pa_cons (pv 0) (pa_cons (pv 1) pa_nil))))
      (pss_cons (ps_for PassesOwn.never rfl (pi_range1 rfl B.range (pa_cons pe_int pa_nil)) (pg_name (i := 3) nd rfl (Or.inr rfl))
        (pss_cons (ps_set (i := 4) nd rfl (Or.inl rfl) (pe_ifExp (pt_cmpR op_in_seq (pv 3) (pe_tup (pa_cons pe_int (pa_cons pe_int pa_nil))) (by with_unfolding_all rfl)) (pe_call gT hr rfl mT kT bT .nil pass0 (pa_cons (pv 2) pa_nil))
            (pe_op op_sub (pe_call W.gD hr1 rfl W.mD W.kD W.bD .nil pass0 (pa_cons (pv 2) (pa_cons pe_int pa_nil))) pe_int)))
        (pss_cons (ps_set (i := 5) nd rfl (Or.inl rfl) (pe_callB (call_reprQ hg hu) rfl B.repr boot_repr (pa_cons (pv 4) pa_nil)))
        (pss_one (ps_for PassesOwn.never rfl (pi_list (pe_lst (pa_cons (pe_call gP hr rfl mP kP bP .nil pass0 (pa_cons (pv 3) (pa_cons (pv 4) pa_nil))) (pa_cons (pe_call gN hr rfl mN kN bN .nil pass0 (pa_cons (pv 3) (pa_cons (pv 4) pa_nil))) pa_nil)))) (pg_name (i := 6) nd rfl (Or.inl rfl))
          (pss_cons (ps_if (PW.pt (pw_or (pt_cmpR op_ne (pe_callB (call_reprQ hg hu) rfl B.repr boot_repr (pa_cons (pe_call gO hr rfl mO kO bO .nil pass0 (pa_cons (pv 3) (pa_cons (pv 6) pa_nil))) pa_nil)) (pe_callB (call_reprQ hg hu) rfl B.repr boot_repr (pa_cons (pv 4) pa_nil)) (nomark _))
              (pw_or1 (pt_not (pt_val (pe_callB call_isErrA rfl B.isi boot_isinstance (pa_cons (pv 6) (pa_cons (pe_glob (v := .ref S) rfl BB.mS rfl) pa_nil)))))))) (pss_one (ps_ret pe_bl)) pss_nil)
          (pss_cons (ps_if (pt_cmpR op_ne (pe_callB (call_reprQ hg hu) rfl B.repr boot_repr (pa_cons (pv 4) pa_nil)) (pv 5) (nomark _)) (pss_one (ps_ret pe_bl)) pss_nil)
          (pss_one (ps_if (PW.pt (pw_or (pt_cmpR (op_neD hu) (pe_call gK hr rfl mK kK bK .nil pass0 (pa_cons (pv 6) pa_nil))
              (pe_lc (own := [("at", 7)]) (g := gName 7) (tt := tYes) rfl nd (pi_range1 rfl B.range (pa_cons pe_int pa_nil)) (blkOk_by (N := ["script", "start", "stream", "turn", "thing", "seen", "error", "at"]) (sc := defScope sLaw) (by decide +kernel))
                (fun _ _ _ _ _ => pg_name (i := 7) nd rfl (Or.inl rfl)) (fun _ _ _ _ _ => pts_nil) (fun _ _ _ _ _ => pe_cmpR op_eq (pv 7) (pv 3) (nomark _))) (nomark _))
              (pw_or1 (pt_not (pt_val (pe_callB call_isErrA rfl B.isi boot_isinstance (pa_cons (pv 6) (pa_cons (pe_bltn (v := .ty "ValueError") rfl B.ve bt_ve rfl) pa_nil)))))))) (pss_one (ps_ret pe_bl)) pss_nil)))))))))
      (pss_one (ps_for PassesOwn.never rfl (pi_list (pe_lst (pa_cons pe_int (pa_cons pe_int pa_nil)))) (pg_name (i := 3) nd rfl (Or.inr rfl))
        (pss_cons (ps_set (i := 4) nd rfl (Or.inl rfl) (pe_lst (pa_cons pe_int pa_nil)))
        (pss_cons (ps_set (i := 6) nd rfl (Or.inl rfl) (pe_call gP hr rfl mP kP bP .nil pass0 (pa_cons (pv 3) (pa_cons (pv 4) pa_nil))))
        (pss_cons (ps_expr (pe_bm PySem.F.plainAttrs_list PySem.F.slot_list_append PySem.F.type_list_append mt_append (pv 4) (pa_cons pe_int pa_nil)))
        (pss_one (ps_if (pt_cmpR op_ne (pe_callB (call_reprQ hg hu) rfl B.repr boot_repr (pa_cons (pe_call gO hr rfl mO kO bO .nil pass0 (pa_cons (pv 3) (pa_cons (pv 6) pa_nil))) pa_nil)) pe_str (nomark _)) (pss_one (ps_ret pe_bl)) pss_nil))))))))))
    (pss_one (ps_ret pe_bl)), ?_⟩
  refine ⟨_, rfl, a, _, rfl, .inl hS, _, _, rfl, _, _, rfl, ?_⟩
  rw [List.length_map]
  generalize hN : (if (if (ns.length : Int) < 4 then (ns.length : Int) else 4) > 2 then (if (ns.length : Int) < 4 then (ns.length : Int) else 4) else 2) = N
  have N0 : 0 ≤ N ∧ N ≤ 4 := by
    rw [← hN]
    split <;> split at * <;> omega
  refine ⟨N, rfl, by omega, by omega, for_range (lo := 0) (n := N.toNat) (fun i σ H' => SqL K H' a (ns.map V.int) ∧ ∃ y1 y2 y3 y4 y5 y6 y7, σ = [some (.ref a), y1, y2, y3, y4, y5, y6, y7]) ⟨hS, none, none, none, none, none, none, none, rfl⟩ (fun i σ H' hi p => ?_) (fun σ H' p => ?_)⟩
  · obtain ⟨p0, y1, y2, y3, y4, y5, y6, y7, rfl⟩ := p
    refine ⟨_, rfl, _, rfl, a, ns, _, rfl, p0, h63, hb, by omega, by omega, fun st H1 nst E1 S1 => ?_⟩
    have s1 : SqL K (Hd st H1) a (ns.map V.int) := by
      refine ex_l (H := H') (fun b o e => hd_of ?_ (E1 b o e)) p0
      intro z; subst z; rw [nst] at e; cases e
    refine ⟨10, rfl, by decide, by decide, for_range (lo := 0) (n := 10) (fun i σ H2 => SqL K (Hd st H2) a (ns.map V.int) ∧ Strm st H2 ∧ ∃ y1 y3 y4 y5 y6 y7, σ = [some (.ref a), y1, some (.ref st), y3, y4, y5, y6, y7]) ⟨s1, S1, _, y3, y4, y5, y6, y7, rfl⟩ (fun j σ H2 hj p => ?_) (fun σ H2 p => ?_)⟩
    · obtain ⟨p1, S2, y1, y3, y4, y5, y6, y7, rfl⟩ := p
      refine ⟨_, rfl, ?_⟩
      refine ⟨by show 2 ≤ sizeLine; decide, fun p np => ?_⟩
      refine ⟨p, _, rfl, .inr (SqT.of upd_same), rfl, rfl, ?_⟩
      rw [show (0 : Int) + (j : Int) = (j : Int) from Int.zero_add _]
      refine ⟨_, rfl, ?_⟩
      have A1 : Aft st H2 (upd H2 p (.tup [.int 6, .int 9])) := (Aft.of S2).new np
      refine share_if (fun v H4 => Th (Hd st H4) v ∧ Aft st H2 H4) (fun v H4 hp => ?_) (fun qq => ite2 (fun _ => ?_) (fun _ => ?_))
      · obtain ⟨⟨t, tA, tsh, tln, tdp⟩, A4⟩ := hp
        refine ⟨_, rfl, v, t, rfl, tA.mono hd_le, tsh, tln, tdp, ?_⟩
        refine ⟨_, rfl, _, rfl, j, v, rfl, hj, fun e1 d1 n1 n2 n3 => ?_⟩
        have x1 := ex_made (o := .xd [(atT j, v)]) (u := ErO (C j) d1 e1) n1 n2 n3
        have r1 := isErr_made (H := H4) (C := C j) (a := atT j) (v := v) n3
        generalize upd (upd H4 d1 (.xd [(atT j, v)])) e1 (ErO (C j) d1 e1) = H5 at *
        refine ⟨_, rfl, _, rfl, j, v, rfl, hj, fun e2 d2 m1 m2 m3 => ?_⟩
        have x2 := ex_made (o := .xd [(atT j, v)]) (u := ErO (C j) d2 e2) m1 m2 m3
        have r2 := isErr_made (H := H5) (C := C j) (a := atT j) (v := v) m3
        generalize upd (upd H5 d2 (.xd [(atT j, v)])) e2 (ErO (C j) d2 e2) = H6 at *
        refine ⟨by show 2 ≤ sizeLine; decide, fun lp nlp => ?_⟩
        have x3 : Ex H6 (upd H6 lp (.lst [.ref e1, .ref e2])) := Ex.new nlp
        have l3 : (upd H6 lp (.lst [.ref e1, .ref e2])) lp = some (.lst [.ref e1, .ref e2]) := upd_same
        generalize upd H6 lp (.lst [.ref e1, .ref e2]) = H7 at *
        have R1 : IsErr H7 (C j) (atT j) e1 v := r1.mono (x2.trans x3)
        have R2 : IsErr H7 (C j) (atT j) e2 v := r2.mono x3
        have A7 : Aft st H2 H7 := A4.trans ⟨gr_ex ((x1.trans x2).trans x3), by
          obtain ⟨d, sd, e, r⟩ := A4.sm
          exact ⟨d, sd, x3 _ _ (x2 _ _ (x1 _ _ e)), r⟩⟩
        have tB : Dq H7 v t := (tA.mono hd_le).mono ((x1.trans x2).trans x3)
        refine ⟨_, rfl, ⟨_, SqL.of l3⟩, for_list (xs := [.ref e1, .ref e2]) (fun i σ H8 => Ex H7 H8 ∧ ∃ y1 y6 y7, σ = [some (.ref a), y1, some (.ref st), some (.int j), some v, some (.str t.shown), y6, y7]) ⟨Ex.refl _, y1, y6, y7, rfl⟩ (fun i σ H8 _ p => SqL.of (p.1 _ _ l3)) (fun i x σ H8 hx p => ?_) (fun σ H8 p => ?_)⟩
        · obtain ⟨x8, y1, y6, y7, rfl⟩ := p
          have hx2 : ∃ e, x = .ref e ∧ IsErr H7 (C j) (atT j) e v := by
            match i, hx with
            | 0, hx => cases hx; exact ⟨_, rfl, R1⟩
            | 1, hx => cases hx; exact ⟨_, rfl, R2⟩
            | i + 2, hx => cases hx
          obtain ⟨e, rfl, Re⟩ := hx2
          have R8 := Re.mono x8
          have t8 : Dq H8 v t := tB.mono x8
          have hc := T.c hj
          refine ⟨_, rfl, _, rfl, j, e, v, rfl, hj, R8, v, t, rfl, t8, tsh, tln, tdp, _, rfl, v, t, rfl, t8, tsh, tln, tdp, rfl, _, rfl, iteNS rfl ?_⟩
          refine ⟨_, rfl, C j, e, _, v, _, _, _, rfl, .own _, hc, R8, BB.own j hj, _, rfl, ?_⟩
          refine ⟨_, rfl, v, t, rfl, t8, tsh, tln, tdp, _, rfl, rfl, _, rfl, iteNS rfl ?_⟩
          refine ⟨_, rfl, j, e, v, rfl, hj, R8, fun kp H9 x9 k9 => ?_⟩
          refine ⟨10, rfl, by decide, by decide, fun Dl hD => ?_⟩
          have D9 : Ex H7 (upd H9 Dl (.lst ((List.range 10).map fun k : Nat => V.bl (decide (V.int (0 + (k : Int)) = V.int (j : Int)))))) := (x8.trans x9).trans (Ex.new hD)
          refine lc_range (lo := 0) (n := 10) (fun i H' => H' = upd H9 Dl (.lst ((List.range i).map fun k : Nat => V.bl (decide (V.int (0 + (k : Int)) = V.int (j : Int)))))) rfl (fun i H' hi p => ?_) (fun H' p => ?_)
          · subst p
            refine ⟨rfl, tyes ?_⟩
            refine ⟨_, rfl, _, rfl, rfl, _, upd_same, ?_, ?_⟩
            · rw [List.length_map, List.length_range]
              exact small1000 (by omega)
            · rw [upd_upd, List.range_succ, List.map_append]
              rfl
          · subst p
            have hk : (upd H9 Dl (.lst ((List.range 10).map fun k : Nat => V.bl (decide (V.int (0 + (k : Int)) = V.int (j : Int)))))) kp = some (.lst (eqs j)) := (Ex.new hD) _ _ k9
            have hd : (upd H9 Dl (.lst ((List.range 10).map fun k : Nat => V.bl (decide (V.int (0 + (k : Int)) = V.int (j : Int)))))) Dl = some (.lst ((List.range 10).map fun k : Nat => V.bl (decide (V.int (0 + (k : Int)) = V.int (j : Int))))) := upd_same
            have R9 := Re.mono D9
            refine ⟨flags fun k => decide (j = k), flags fun k => decide (j = k), .lst (SqL.of hk) (dp_bools _ _), .lst (SqL.of hd) ?_, (flags_ok hj).2, (flags_ok hj).2, ?_⟩
            · exact dp_flags
            · rw [(flags_ok hj).1]
              refine ⟨_, rfl, ?_⟩
              refine ⟨_, rfl, C j, e, _, v, _, _, _, rfl, .ty _, hc, R9, BB.ve j hj, _, rfl, ?_⟩
              exact ⟨D9, _, _, _, rfl⟩
        · obtain ⟨x8, y1, y6, y7, rfl⟩ := p
          have A8 : Aft st H2 H8 := A7.trans ⟨gr_ex x8, by
            obtain ⟨d, sd, e, r⟩ := A7.sm
            exact ⟨d, sd, x8 _ _ e, r⟩⟩
          exact ⟨ex_l A8.gr p1, A8.sm, _, _, _, _, _, _, rfl⟩
      · exact ⟨_, rfl, st, rfl, A1.sm, fun v H4 tv A4 => qq v H4 ⟨tv.mono (nw_hd A1.sm), A1.trans A4⟩⟩
      · exact ⟨_, rfl, st, _, rfl, A1.sm, by decide, by decide, fun k H4 k0 k1 A4 => ⟨_, _, rfl, rfl, qq _ H4 ⟨th_int (by omega) (by omega), A1.trans A4⟩⟩⟩
    · obtain ⟨p1, S2, y1, y3, y4, y5, y6, y7, rfl⟩ := p
      refine ⟨by show 2 ≤ sizeLine; decide, fun lp nlp => ?_⟩
      have nst2 := S2.ne nlp
      have A1 : Aft st H2 (upd H2 lp (.lst [.int 6, .int 9])) := (Aft.of S2).new nlp
      refine ⟨_, rfl, ⟨_, SqL.of upd_same⟩, for_list (xs := [.int 6, .int 9]) (fun i σ H3 => SqL K (Hd st H3) a (ns.map V.int) ∧ Strm st H3 ∧ H3 lp = some (.lst [.int 6, .int 9]) ∧ ∃ y1 y3 y4 y5 y6 y7, σ = [some (.ref a), y1, some (.ref st), y3, y4, y5, y6, y7])
        ⟨ex_l A1.gr p1, A1.sm, upd_same, y1, y3, y4, y5, y6, y7, rfl⟩ (fun i σ H8 _ p => SqL.of p.2.2.1) (fun i x σ H3 hx p => ?_) (fun σ H3 p => ?_)⟩
      · obtain ⟨q1, S3, l3, y1, y3, y4, y5, y6, y7, rfl⟩ := p
        have hx2 : ∃ n : Nat, n < 10 ∧ x = .int n := by
          match i, hx with
          | 0, hx => cases hx; exact ⟨6, by decide, rfl⟩
          | 1, hx => cases hx; exact ⟨9, by decide, rfl⟩
          | i + 2, hx => cases hx
        obtain ⟨n, hn, rfl⟩ := hx2
        refine ⟨by show 1 ≤ sizeLine; decide, fun tp ntp => ?_⟩
        refine ⟨_, rfl, _, rfl, n, .ref tp, rfl, hn, fun e d n1 n2 n3 => ?_⟩
        have A4 : Aft st H3 (upd H3 tp (.lst [.int 1])) := (Aft.of S3).new ntp
        have t4 : (upd H3 tp (.lst [.int 1])) tp = some (.lst [.int 1]) := upd_same
        generalize upd H3 tp (.lst [.int 1]) = H4 at *
        have x5 := ex_made (o := .xd [(atT n, .ref tp)]) (u := ErO (C n) d e) n1 n2 n3
        have r5 := isErr_made (H := H4) (C := C n) (a := atT n) (v := .ref tp) n3
        have ne : e ≠ tp := by intro z; subst z; rw [t4] at n1; cases n1
        have nd2 : d ≠ tp := by intro z; subst z; rw [t4] at n2; cases n2
        generalize upd (upd H4 d (.xd [(atT n, .ref tp)])) e (ErO (C n) d e) = H5 at *
        refine ⟨_, rfl, .inl ⟨rfl, _, SqL.of (x5 _ _ t4)⟩, tp, _, _, rfl, rfl, x5 _ _ t4, by decide, ?_⟩
        have A5 : Aft st H3 H5 := A4.trans ⟨gr_ex x5, by
          obtain ⟨d, sd, e, r⟩ := A4.sm
          exact ⟨d, sd, x5 _ _ e, r⟩⟩
        have A6 : Aft st H3 (upd H5 tp (.lst ([.int 1] ++ [.int 2]))) := A5.mut (S3.ne ntp) (by unfold Hd; rw [ntp]; simp)
        have r6 : IsErr (upd H5 tp (.lst ([.int 1] ++ [.int 2]))) (C n) (atT n) e (.ref tp) := by
          obtain ⟨d', h1, h2⟩ := r5
          have t5 := x5 _ _ t4
          refine ⟨d', ?_, ?_⟩
          · rw [upd_ne (by intro z; subst z; rw [t5] at h1; cases h1)]; exact h1
          · rw [upd_ne (by intro z; subst z; rw [t5] at h2; cases h2)]; exact h2
        have hs : (PyData.list [.int 1, .int 2]).shown = "[1, 2]" := by decide +kernel
        refine ⟨_, rfl, _, rfl, n, e, .ref tp, rfl, hn, r6, .ref tp, .list [.int 1, .int 2], rfl, .lst upd_same (.cons (.int _) (.cons (.int _) .nil)), by decide +kernel, by decide +kernel, by decide, rfl, _, rfl, iteNS (congrArg V.str hs) ?_⟩
        exact ⟨ex_l A6.gr q1, A6.sm, A6.at nst2 l3, _, _, _, _, _, _, rfl⟩
      · obtain ⟨q1, S3, l3, y1, y3, y4, y5, y6, y7, rfl⟩ := p
        exact ⟨ex_l hd_le q1, y1, _, y3, y4, y5, y6, y7, rfl⟩
  · exact q H'
end
end Sk

namespace Sk
open PySem PySem.Spec PyProof.Rows L2 Evl PySem.SkE
theorem all_mk {P : Program} {w : World} {K : PySem.W.Frag} {h : Heap} {mg : Str → Option Value} {fa f0 f1 f2 f3 f4 f5 f6 f7 f8 S c0 i0 c1 i1 c2 i2 c3 i3 c4 i4 c5 i5 c6 i6 c7 i7 c8 i8 c9 i9 : Addr} (X : K.In h) (G : h.Ns mainGlobals mg) (hfa : mg "law" = some (.ref fa))
    {od0 an0 od1 an1 od2 an2 od3 an3 od4 an4 od5 an5 od6 an6 od7 an7 od8 an8 : Option Addr} {sl0 sl1 sl2 sl3 sl4 sl5 sl6 sl7 sl8 : Array (Option Value)} {oc0 kV0 dc0 pm0 cd0 ct0 oc1 kV1 dc1 pm1 cd1 ct1 oc2 kV2 dc2 pm2 cd2 ct2 oc3 kV3 dc3 pm3 cd3 ct3 oc4 kV4 dc4 pm4 cd4 ct4 oc5 kV5 dc5 pm5 cd5 ct5 oc6 kV6 dc6 pm6 cd6 ct6 oc7 kV7 dc7 pm7 cd7 ct7 oc8 kV8 dc8 pm8 cd8 ct8 : Value}
    (a0 : PySem.W.nsIn K mainGlobals "_law_stream" = some (some (.ref f0))) (l0 : K.lookup f0 = some ⟨oc0, od0, .func (PySem.W.fnOf "_law_stream" "_law_stream" (defArgs sStream) (defBody sStream) (defScope sStream) .none kV0 dc0 pm0 an0 cd0 ct0), sl0⟩) (c0_ : PySem.W.codeIn K cd0 "_law_stream" = true) (k0 : PySem.W.keepIn K (.ref f0) = true)
    (a1 : PySem.W.nsIn K mainGlobals "_law_draw" = some (some (.ref f1))) (l1 : K.lookup f1 = some ⟨oc1, od1, .func (PySem.W.fnOf "_law_draw" "_law_draw" (defArgs sDraw) (defBody sDraw) (defScope sDraw) .none kV1 dc1 pm1 an1 cd1 ct1), sl1⟩) (c1_ : PySem.W.codeIn K cd1 "_law_draw" = true) (k1 : PySem.W.keepIn K (.ref f1) = true)
    (a2 : PySem.W.nsIn K mainGlobals "_law_choose" = some (some (.ref f2))) (l2 : K.lookup f2 = some ⟨oc2, od2, .func (PySem.W.fnOf "_law_choose" "_law_choose" (defArgs sChoose) (defBody sChoose) (defScope sChoose) .none kV2 dc2 pm2 an2 cd2 ct2), sl2⟩) (c2_ : PySem.W.codeIn K cd2 "_law_choose" = true) (k2 : PySem.W.keepIn K (.ref f2) = true)
    (a3 : PySem.W.nsIn K mainGlobals "_law_drawn_thing" = some (some (.ref f3))) (l3 : K.lookup f3 = some ⟨oc3, od3, .func (PySem.W.fnOf "_law_drawn_thing" "_law_drawn_thing" (defArgs sThing) (defBody sThing) (defScope sThing) .none kV3 dc3 pm3 an3 cd3 ct3), sl3⟩) (c3_ : PySem.W.codeIn K cd3 "_law_drawn_thing" = true) (k3 : PySem.W.keepIn K (.ref f3) = true)
    (a4 : PySem.W.nsIn K mainGlobals "_law_by_position" = some (some (.ref f4))) (l4 : K.lookup f4 = some ⟨oc4, od4, .func (PySem.W.fnOf "_law_by_position" "_law_by_position" (defArgs sPos) (defBody sPos) (defScope sPos) .none kV4 dc4 pm4 an4 cd4 ct4), sl4⟩) (c4_ : PySem.W.codeIn K cd4 "_law_by_position" = true) (k4 : PySem.W.keepIn K (.ref f4) = true)
    (a5 : PySem.W.nsIn K mainGlobals "_law_by_name" = some (some (.ref f5))) (l5 : K.lookup f5 = some ⟨oc5, od5, .func (PySem.W.fnOf "_law_by_name" "_law_by_name" (defArgs sNam) (defBody sNam) (defScope sNam) .none kV5 dc5 pm5 an5 cd5 ct5), sl5⟩) (c5_ : PySem.W.codeIn K cd5 "_law_by_name" = true) (k5 : PySem.W.keepIn K (.ref f5) = true)
    (a6 : PySem.W.nsIn K mainGlobals "_law_stored" = some (some (.ref f6))) (l6 : K.lookup f6 = some ⟨oc6, od6, .func (PySem.W.fnOf "_law_stored" "_law_stored" (defArgs sSto) (defBody sSto) (defScope sSto) .none kV6 dc6 pm6 an6 cd6 ct6), sl6⟩) (c6_ : PySem.W.codeIn K cd6 "_law_stored" = true) (k6 : PySem.W.keepIn K (.ref f6) = true)
    (a7 : PySem.W.nsIn K mainGlobals "_law_classes" = some (some (.ref f7))) (l7 : K.lookup f7 = some ⟨oc7, od7, .func (PySem.W.fnOf "_law_classes" "_law_classes" (defArgs sCls) (defBody sCls) (defScope sCls) .none kV7 dc7 pm7 an7 cd7 ct7), sl7⟩) (c7_ : PySem.W.codeIn K cd7 "_law_classes" = true) (k7 : PySem.W.keepIn K (.ref f7) = true)
    (a8 : PySem.W.nsIn K mainGlobals "law" = some (some (.ref f8))) (l8 : K.lookup f8 = some ⟨oc8, od8, .func (PySem.W.fnOf "law" "law" (defArgs sLaw) (defBody sLaw) (defScope sLaw) .none kV8 dc8 pm8 an8 cd8 ct8), sl8⟩) (c8_ : PySem.W.codeIn K cd8 "law" = true) (k8 : PySem.W.keepIn K (.ref f8) = true)
    (aS : PySem.W.nsIn K mainGlobals "SchemaError" = some (some (.ref S)))
    {nm0 q0 nm1 q1 nm2 q2 nm3 q3 nm4 q4 nm5 q5 nm6 q6 nm7 q7 nm8 q8 nm9 q9 : Str} {N0 N1 N2 N3 N4 N5 N6 N7 N8 N9 : Addr} {bs0 sb0 bs1 sb1 bs2 sb2 bs3 sb3 bs4 sb4 bs5 sb5 bs6 sb6 bs7 sb7 bs8 sb8 bs9 sb9 : List Value} {sn0 sn1 sn2 sn3 sn4 sn5 sn6 sn7 sn8 sn9 : List Str} {ab0 ab1 ab2 ab3 ab4 ab5 ab6 ab7 ab8 ab9 : Bool} {cl0 cl1 cl2 cl3 cl4 cl5 cl6 cl7 cl8 cl9 : Option Bool} {dd0 eo0 en0 dd1 eo1 en1 dd2 eo2 en2 dd3 eo3 en3 dd4 eo4 en4 dd5 eo5 en5 dd6 eo6 en6 dd7 eo7 en7 dd8 eo8 en8 dd9 eo9 en9 : Option Addr} {u0 v0 w0 x0 y0 u1 v1 w1 x1 y1 u2 v2 w2 x2 y2 u3 v3 w3 x3 y3 u4 v4 w4 x4 y4 u5 v5 w5 x5 y5 u6 v6 w6 x6 y6 u7 v7 w7 x7 y7 u8 v8 w8 x8 y8 u9 v9 w9 x9 y9 : Option Value} {ec0 ed0 ep0 ev0 et0 ec1 ed1 ep1 ev1 et1 ec2 ed2 ep2 ev2 et2 ec3 ed3 ep3 ev3 et3 ec4 ed4 ep4 ev4 et4 ec5 ed5 ep5 ev5 et5 ec6 ed6 ep6 ev6 et6 ec7 ed7 ep7 ev7 et7 ec8 ed8 ep8 ev8 et8 ec9 ed9 ep9 ev9 et9 : Value} {es0 es1 es2 es3 es4 es5 es6 es7 es8 es9 : Array (Option Value)} {p0 r0 s0 t0 g0 j0 p1 r1 s1 t1 g1 j1 p2 r2 s2 t2 g2 j2 p3 r3 s3 t3 g3 j3 p4 r4 s4 t4 g4 j4 p5 r5 s5 t5 g5 j5 p6 r6 s6 t6 g6 j6 p7 r7 s7 t7 g7 j7 p8 r8 s8 t8 g8 j8 p9 r9 s9 t9 g9 j9 : Pos}
    (A0 : PySem.W.nsIn K mainGlobals "BadDocument" = some (some (.ref c0))) (B0 : K.lookup c0 = some (excClassObj nm0 q0 c0 N0 bs0 [.ref S, .type "ValueError", .type "Exception", .type "BaseException", .type "object"] true sn0 sb0 ab0 cl0 dd0 u0 v0 w0 x0 y0 "ValueError.__new__")) (C0 : PySem.W.findIn K (.ref c0) "__setattr__" = some (some (.builtin "object.__setattr__"))) (D0 : PySem.W.findIn K (.ref c0) "__getattribute__" = some (some (.builtin "BaseException.__getattribute__"))) (E0 : PySem.W.findIn K (.ref c0) "__getattr__" = some none) (F0 : PySem.W.findIn K (.ref c0) "position" = some none) (G0 : PySem.W.findIn K (.ref c0) "__init__" = some (some (.ref i0))) (H0 : PySem.W.typeIn K (.ref i0) = some (.type "function")) (I0 : PySem.W.keepIn K (.ref c0) = true) (J0 : PySem.W.subIn K (.ref c0) (.type "BaseException") = some true) (K0 : PySem.W.typeIn K (.ref c0) = some (.type "type")) (L0 : PySem.W.hasDictIn K c0 = true) (M0 : K.lookup i0 = some ⟨ec0, eo0, .func (PySem.W.fnOf "__init__" "BadDocument.__init__" (SkE.iA "position" p0 r0) (SkE.iB "position" s0 t0 g0 j0) (SkE.iS "position") .none .none ed0 ep0 en0 ev0 et0), es0⟩) (O0 : PySem.W.codeIn K ev0 "BadDocument.__init__" = true) (P0 : (PySem.W.clsIn K c0).isSome = true) (Q0 : PySem.W.findIn K (.ref c0) "__class__" = some (some (.builtin "object.__class__"))) (U0 : PySem.W.mroIn K c0 (.type "object") = some true)
    (A1 : PySem.W.nsIn K mainGlobals "BadPrefix" = some (some (.ref c1))) (B1 : K.lookup c1 = some (excClassObj nm1 q1 c1 N1 bs1 [.ref S, .type "ValueError", .type "Exception", .type "BaseException", .type "object"] true sn1 sb1 ab1 cl1 dd1 u1 v1 w1 x1 y1 "ValueError.__new__")) (C1 : PySem.W.findIn K (.ref c1) "__setattr__" = some (some (.builtin "object.__setattr__"))) (D1 : PySem.W.findIn K (.ref c1) "__getattribute__" = some (some (.builtin "BaseException.__getattribute__"))) (E1 : PySem.W.findIn K (.ref c1) "__getattr__" = some none) (F1 : PySem.W.findIn K (.ref c1) "position" = some none) (G1 : PySem.W.findIn K (.ref c1) "__init__" = some (some (.ref i1))) (H1 : PySem.W.typeIn K (.ref i1) = some (.type "function")) (I1 : PySem.W.keepIn K (.ref c1) = true) (J1 : PySem.W.subIn K (.ref c1) (.type "BaseException") = some true) (K1 : PySem.W.typeIn K (.ref c1) = some (.type "type")) (L1 : PySem.W.hasDictIn K c1 = true) (M1 : K.lookup i1 = some ⟨ec1, eo1, .func (PySem.W.fnOf "__init__" "BadPrefix.__init__" (SkE.iA "position" p1 r1) (SkE.iB "position" s1 t1 g1 j1) (SkE.iS "position") .none .none ed1 ep1 en1 ev1 et1), es1⟩) (O1 : PySem.W.codeIn K ev1 "BadPrefix.__init__" = true) (P1 : (PySem.W.clsIn K c1).isSome = true) (Q1 : PySem.W.findIn K (.ref c1) "__class__" = some (some (.builtin "object.__class__"))) (U1 : PySem.W.mroIn K c1 (.type "object") = some true)
    (A2 : PySem.W.nsIn K mainGlobals "BadSchema" = some (some (.ref c2))) (B2 : K.lookup c2 = some (excClassObj nm2 q2 c2 N2 bs2 [.ref S, .type "ValueError", .type "Exception", .type "BaseException", .type "object"] true sn2 sb2 ab2 cl2 dd2 u2 v2 w2 x2 y2 "ValueError.__new__")) (C2 : PySem.W.findIn K (.ref c2) "__setattr__" = some (some (.builtin "object.__setattr__"))) (D2 : PySem.W.findIn K (.ref c2) "__getattribute__" = some (some (.builtin "BaseException.__getattribute__"))) (E2 : PySem.W.findIn K (.ref c2) "__getattr__" = some none) (F2 : PySem.W.findIn K (.ref c2) "position" = some none) (G2 : PySem.W.findIn K (.ref c2) "__init__" = some (some (.ref i2))) (H2 : PySem.W.typeIn K (.ref i2) = some (.type "function")) (I2 : PySem.W.keepIn K (.ref c2) = true) (J2 : PySem.W.subIn K (.ref c2) (.type "BaseException") = some true) (K2 : PySem.W.typeIn K (.ref c2) = some (.type "type")) (L2 : PySem.W.hasDictIn K c2 = true) (M2 : K.lookup i2 = some ⟨ec2, eo2, .func (PySem.W.fnOf "__init__" "BadSchema.__init__" (SkE.iA "position" p2 r2) (SkE.iB "position" s2 t2 g2 j2) (SkE.iS "position") .none .none ed2 ep2 en2 ev2 et2), es2⟩) (O2 : PySem.W.codeIn K ev2 "BadSchema.__init__" = true) (P2 : (PySem.W.clsIn K c2).isSome = true) (Q2 : PySem.W.findIn K (.ref c2) "__class__" = some (some (.builtin "object.__class__"))) (U2 : PySem.W.mroIn K c2 (.type "object") = some true)
    (A3 : PySem.W.nsIn K mainGlobals "NotOffered" = some (some (.ref c3))) (B3 : K.lookup c3 = some (excClassObj nm3 q3 c3 N3 bs3 [.ref S, .type "ValueError", .type "Exception", .type "BaseException", .type "object"] true sn3 sb3 ab3 cl3 dd3 u3 v3 w3 x3 y3 "ValueError.__new__")) (C3 : PySem.W.findIn K (.ref c3) "__setattr__" = some (some (.builtin "object.__setattr__"))) (D3 : PySem.W.findIn K (.ref c3) "__getattribute__" = some (some (.builtin "BaseException.__getattribute__"))) (E3 : PySem.W.findIn K (.ref c3) "__getattr__" = some none) (F3 : PySem.W.findIn K (.ref c3) "position" = some none) (G3 : PySem.W.findIn K (.ref c3) "__init__" = some (some (.ref i3))) (H3 : PySem.W.typeIn K (.ref i3) = some (.type "function")) (I3 : PySem.W.keepIn K (.ref c3) = true) (J3 : PySem.W.subIn K (.ref c3) (.type "BaseException") = some true) (K3 : PySem.W.typeIn K (.ref c3) = some (.type "type")) (L3 : PySem.W.hasDictIn K c3 = true) (M3 : K.lookup i3 = some ⟨ec3, eo3, .func (PySem.W.fnOf "__init__" "NotOffered.__init__" (SkE.iA "position" p3 r3) (SkE.iB "position" s3 t3 g3 j3) (SkE.iS "position") .none .none ed3 ep3 en3 ev3 et3), es3⟩) (O3 : PySem.W.codeIn K ev3 "NotOffered.__init__" = true) (P3 : (PySem.W.clsIn K c3).isSome = true) (Q3 : PySem.W.findIn K (.ref c3) "__class__" = some (some (.builtin "object.__class__"))) (U3 : PySem.W.mroIn K c3 (.type "object") = some true)
    (A4 : PySem.W.nsIn K mainGlobals "NoRoom" = some (some (.ref c4))) (B4 : K.lookup c4 = some (excClassObj nm4 q4 c4 N4 bs4 [.ref S, .type "ValueError", .type "Exception", .type "BaseException", .type "object"] true sn4 sb4 ab4 cl4 dd4 u4 v4 w4 x4 y4 "ValueError.__new__")) (C4 : PySem.W.findIn K (.ref c4) "__setattr__" = some (some (.builtin "object.__setattr__"))) (D4 : PySem.W.findIn K (.ref c4) "__getattribute__" = some (some (.builtin "BaseException.__getattribute__"))) (E4 : PySem.W.findIn K (.ref c4) "__getattr__" = some none) (F4 : PySem.W.findIn K (.ref c4) "length" = some none) (G4 : PySem.W.findIn K (.ref c4) "__init__" = some (some (.ref i4))) (H4 : PySem.W.typeIn K (.ref i4) = some (.type "function")) (I4 : PySem.W.keepIn K (.ref c4) = true) (J4 : PySem.W.subIn K (.ref c4) (.type "BaseException") = some true) (K4 : PySem.W.typeIn K (.ref c4) = some (.type "type")) (L4 : PySem.W.hasDictIn K c4 = true) (M4 : K.lookup i4 = some ⟨ec4, eo4, .func (PySem.W.fnOf "__init__" "NoRoom.__init__" (SkE.iA "length" p4 r4) (SkE.iB "length" s4 t4 g4 j4) (SkE.iS "length") .none .none ed4 ep4 en4 ev4 et4), es4⟩) (O4 : PySem.W.codeIn K ev4 "NoRoom.__init__" = true) (P4 : (PySem.W.clsIn K c4).isSome = true) (Q4 : PySem.W.findIn K (.ref c4) "__class__" = some (some (.builtin "object.__class__"))) (U4 : PySem.W.mroIn K c4 (.type "object") = some true)
    (A5 : PySem.W.nsIn K mainGlobals "NoSuchCompletion" = some (some (.ref c5))) (B5 : K.lookup c5 = some (excClassObj nm5 q5 c5 N5 bs5 [.ref S, .type "ValueError", .type "Exception", .type "BaseException", .type "object"] true sn5 sb5 ab5 cl5 dd5 u5 v5 w5 x5 y5 "ValueError.__new__")) (C5 : PySem.W.findIn K (.ref c5) "__setattr__" = some (some (.builtin "object.__setattr__"))) (D5 : PySem.W.findIn K (.ref c5) "__getattribute__" = some (some (.builtin "BaseException.__getattribute__"))) (E5 : PySem.W.findIn K (.ref c5) "__getattr__" = some none) (F5 : PySem.W.findIn K (.ref c5) "count" = some none) (G5 : PySem.W.findIn K (.ref c5) "__init__" = some (some (.ref i5))) (H5 : PySem.W.typeIn K (.ref i5) = some (.type "function")) (I5 : PySem.W.keepIn K (.ref c5) = true) (J5 : PySem.W.subIn K (.ref c5) (.type "BaseException") = some true) (K5 : PySem.W.typeIn K (.ref c5) = some (.type "type")) (L5 : PySem.W.hasDictIn K c5 = true) (M5 : K.lookup i5 = some ⟨ec5, eo5, .func (PySem.W.fnOf "__init__" "NoSuchCompletion.__init__" (SkE.iA "count" p5 r5) (SkE.iB "count" s5 t5 g5 j5) (SkE.iS "count") .none .none ed5 ep5 en5 ev5 et5), es5⟩) (O5 : PySem.W.codeIn K ev5 "NoSuchCompletion.__init__" = true) (P5 : (PySem.W.clsIn K c5).isSome = true) (Q5 : PySem.W.findIn K (.ref c5) "__class__" = some (some (.builtin "object.__class__"))) (U5 : PySem.W.mroIn K c5 (.type "object") = some true)
    (A6 : PySem.W.nsIn K mainGlobals "NoPath" = some (some (.ref c6))) (B6 : K.lookup c6 = some (excClassObj nm6 q6 c6 N6 bs6 [.ref S, .type "ValueError", .type "Exception", .type "BaseException", .type "object"] true sn6 sb6 ab6 cl6 dd6 u6 v6 w6 x6 y6 "ValueError.__new__")) (C6 : PySem.W.findIn K (.ref c6) "__setattr__" = some (some (.builtin "object.__setattr__"))) (D6 : PySem.W.findIn K (.ref c6) "__getattribute__" = some (some (.builtin "BaseException.__getattribute__"))) (E6 : PySem.W.findIn K (.ref c6) "__getattr__" = some none) (F6 : PySem.W.findIn K (.ref c6) "path" = some none) (G6 : PySem.W.findIn K (.ref c6) "__init__" = some (some (.ref i6))) (H6 : PySem.W.typeIn K (.ref i6) = some (.type "function")) (I6 : PySem.W.keepIn K (.ref c6) = true) (J6 : PySem.W.subIn K (.ref c6) (.type "BaseException") = some true) (K6 : PySem.W.typeIn K (.ref c6) = some (.type "type")) (L6 : PySem.W.hasDictIn K c6 = true) (M6 : K.lookup i6 = some ⟨ec6, eo6, .func (PySem.W.fnOf "__init__" "NoPath.__init__" (SkE.iA "path" p6 r6) (SkE.iB "path" s6 t6 g6 j6) (SkE.iS "path") .none .none ed6 ep6 en6 ev6 et6), es6⟩) (O6 : PySem.W.codeIn K ev6 "NoPath.__init__" = true) (P6 : (PySem.W.clsIn K c6).isSome = true) (Q6 : PySem.W.findIn K (.ref c6) "__class__" = some (some (.builtin "object.__class__"))) (U6 : PySem.W.mroIn K c6 (.type "object") = some true)
    (A7 : PySem.W.nsIn K mainGlobals "TooManyStates" = some (some (.ref c7))) (B7 : K.lookup c7 = some (excClassObj nm7 q7 c7 N7 bs7 [.ref S, .type "ValueError", .type "Exception", .type "BaseException", .type "object"] true sn7 sb7 ab7 cl7 dd7 u7 v7 w7 x7 y7 "ValueError.__new__")) (C7 : PySem.W.findIn K (.ref c7) "__setattr__" = some (some (.builtin "object.__setattr__"))) (D7 : PySem.W.findIn K (.ref c7) "__getattribute__" = some (some (.builtin "BaseException.__getattribute__"))) (E7 : PySem.W.findIn K (.ref c7) "__getattr__" = some none) (F7 : PySem.W.findIn K (.ref c7) "bound" = some none) (G7 : PySem.W.findIn K (.ref c7) "__init__" = some (some (.ref i7))) (H7 : PySem.W.typeIn K (.ref i7) = some (.type "function")) (I7 : PySem.W.keepIn K (.ref c7) = true) (J7 : PySem.W.subIn K (.ref c7) (.type "BaseException") = some true) (K7 : PySem.W.typeIn K (.ref c7) = some (.type "type")) (L7 : PySem.W.hasDictIn K c7 = true) (M7 : K.lookup i7 = some ⟨ec7, eo7, .func (PySem.W.fnOf "__init__" "TooManyStates.__init__" (SkE.iA "bound" p7 r7) (SkE.iB "bound" s7 t7 g7 j7) (SkE.iS "bound") .none .none ed7 ep7 en7 ev7 et7), es7⟩) (O7 : PySem.W.codeIn K ev7 "TooManyStates.__init__" = true) (P7 : (PySem.W.clsIn K c7).isSome = true) (Q7 : PySem.W.findIn K (.ref c7) "__class__" = some (some (.builtin "object.__class__"))) (U7 : PySem.W.mroIn K c7 (.type "object") = some true)
    (A8 : PySem.W.nsIn K mainGlobals "TooFar" = some (some (.ref c8))) (B8 : K.lookup c8 = some (excClassObj nm8 q8 c8 N8 bs8 [.ref S, .type "ValueError", .type "Exception", .type "BaseException", .type "object"] true sn8 sb8 ab8 cl8 dd8 u8 v8 w8 x8 y8 "ValueError.__new__")) (C8 : PySem.W.findIn K (.ref c8) "__setattr__" = some (some (.builtin "object.__setattr__"))) (D8 : PySem.W.findIn K (.ref c8) "__getattribute__" = some (some (.builtin "BaseException.__getattribute__"))) (E8 : PySem.W.findIn K (.ref c8) "__getattr__" = some none) (F8 : PySem.W.findIn K (.ref c8) "number" = some none) (G8 : PySem.W.findIn K (.ref c8) "__init__" = some (some (.ref i8))) (H8 : PySem.W.typeIn K (.ref i8) = some (.type "function")) (I8 : PySem.W.keepIn K (.ref c8) = true) (J8 : PySem.W.subIn K (.ref c8) (.type "BaseException") = some true) (K8 : PySem.W.typeIn K (.ref c8) = some (.type "type")) (L8 : PySem.W.hasDictIn K c8 = true) (M8 : K.lookup i8 = some ⟨ec8, eo8, .func (PySem.W.fnOf "__init__" "TooFar.__init__" (SkE.iA "number" p8 r8) (SkE.iB "number" s8 t8 g8 j8) (SkE.iS "number") .none .none ed8 ep8 en8 ev8 et8), es8⟩) (O8 : PySem.W.codeIn K ev8 "TooFar.__init__" = true) (P8 : (PySem.W.clsIn K c8).isSome = true) (Q8 : PySem.W.findIn K (.ref c8) "__class__" = some (some (.builtin "object.__class__"))) (U8 : PySem.W.mroIn K c8 (.type "object") = some true)
    (A9 : PySem.W.nsIn K mainGlobals "BadCommand" = some (some (.ref c9))) (B9 : K.lookup c9 = some (excClassObj nm9 q9 c9 N9 bs9 [.ref S, .type "ValueError", .type "Exception", .type "BaseException", .type "object"] true sn9 sb9 ab9 cl9 dd9 u9 v9 w9 x9 y9 "ValueError.__new__")) (C9 : PySem.W.findIn K (.ref c9) "__setattr__" = some (some (.builtin "object.__setattr__"))) (D9 : PySem.W.findIn K (.ref c9) "__getattribute__" = some (some (.builtin "BaseException.__getattribute__"))) (E9 : PySem.W.findIn K (.ref c9) "__getattr__" = some none) (F9 : PySem.W.findIn K (.ref c9) "command" = some none) (G9 : PySem.W.findIn K (.ref c9) "__init__" = some (some (.ref i9))) (H9 : PySem.W.typeIn K (.ref i9) = some (.type "function")) (I9 : PySem.W.keepIn K (.ref c9) = true) (J9 : PySem.W.subIn K (.ref c9) (.type "BaseException") = some true) (K9 : PySem.W.typeIn K (.ref c9) = some (.type "type")) (L9 : PySem.W.hasDictIn K c9 = true) (M9 : K.lookup i9 = some ⟨ec9, eo9, .func (PySem.W.fnOf "__init__" "BadCommand.__init__" (SkE.iA "command" p9 r9) (SkE.iB "command" s9 t9 g9 j9) (SkE.iS "command") .none .none ed9 ep9 en9 ev9 et9), es9⟩) (O9 : PySem.W.codeIn K ev9 "BadCommand.__init__" = true) (P9 : (PySem.W.clsIn K c9).isSome = true) (Q9 : PySem.W.findIn K (.ref c9) "__class__" = some (some (.builtin "object.__class__"))) (U9 : PySem.W.mroIn K c9 (.type "object") = some true)
    (X0 : PySem.W.specialIn K (.builtin "object.__class__") "__get__" = some (some (.builtin "getset_descriptor.__get__"))) (X1 : PySem.W.takesIn K (.builtin "object.__class__") = some true)
    (X2 : ((List.range 10).all fun n => (List.range 10).all fun k => PySem.W.kitOne K (.ref ([c0, c1, c2, c3, c4, c5, c6, c7, c8, c9].getD n 0)) (.ref ([c0, c1, c2, c3, c4, c5, c6, c7, c8, c9].getD k 0)) == some (decide (n = k))) = true) (X3 : ((List.range 10).all fun n => PySem.W.kitOne K (.ref ([c0, c1, c2, c3, c4, c5, c6, c7, c8, c9].getD n 0)) (.ref S) == some true) = true) (X4 : ((List.range 10).all fun n => PySem.W.kitOne K (.ref ([c0, c1, c2, c3, c4, c5, c6, c7, c8, c9].getD n 0)) (.type "ValueError") == some true) = true)
    (z0 : PySem.W.nsIn K mainGlobals "isinstance" = some none)
    (z1 : PySem.W.nsIn K mainGlobals "len" = some none)
    (z2 : PySem.W.nsIn K mainGlobals "range" = some none)
    (z3 : PySem.W.nsIn K mainGlobals "min" = some none)
    (z4 : PySem.W.nsIn K mainGlobals "max" = some none)
    (z5 : PySem.W.nsIn K mainGlobals "repr" = some none)
    (z6 : PySem.W.nsIn K mainGlobals "ValueError" = some none)
    : ∃ fd : FuncData, (∀ (s : Shared) (u : Value), BindsTo s fd ⟨[u], []⟩ [("script", u)]) ∧ ∀ base : Heap, K.In base → base.Ns mainGlobals mg → LawOk P w K mg base fa fd "script" (spLaw K) := by
  have e := hfa.symm.trans (PySem.W.mg_of X G a8)
  cases e
  have F0_ := fun_mk (st := sStream) l0 c0_ k0
  have F1_ := fun_mk (st := sDraw) l1 c1_ k1
  have F2_ := fun_mk (st := sChoose) l2 c2_ k2
  have F3_ := fun_mk (st := sThing) l3 c3_ k3
  have F4_ := fun_mk (st := sPos) l4 c4_ k4
  have F5_ := fun_mk (st := sNam) l5 c5_ k5
  have F6_ := fun_mk (st := sSto) l6 c6_ k6
  have F7_ := fun_mk (st := sCls) l7 c7_ k7
  have F8_ := fun_mk (st := sLaw) l8 c8_ k8
  have b0 := F0_.binds (ps := ["script", "start"]) fun _ _ _ _ _ _ us hl => match us, hl with | [_, _], _ => rfl
  have m0 := PySem.W.mg_of X G a0
  have b1 := F1_.binds (ps := ["stream", "size"]) fun _ _ _ _ _ _ us hl => match us, hl with | [_, _], _ => rfl
  have m1 := PySem.W.mg_of X G a1
  have b2 := F2_.binds (ps := ["stream", "items"]) fun _ _ _ _ _ _ us hl => match us, hl with | [_, _], _ => rfl
  have m2 := PySem.W.mg_of X G a2
  have b3 := F3_.binds (ps := ["stream"]) fun _ _ _ _ _ _ us hl => match us, hl with | [_], _ => rfl
  have m3 := PySem.W.mg_of X G a3
  have b4 := F4_.binds (ps := ["turn", "thing"]) fun _ _ _ _ _ _ us hl => match us, hl with | [_, _], _ => rfl
  have m4 := PySem.W.mg_of X G a4
  have b5 := F5_.binds (ps := ["turn", "thing"]) fun _ _ _ _ _ _ us hl => match us, hl with | [_, _], _ => rfl
  have m5 := PySem.W.mg_of X G a5
  have b6 := F6_.binds (ps := ["turn", "error"]) fun _ _ _ _ _ _ us hl => match us, hl with | [_, _], _ => rfl
  have m6 := PySem.W.mg_of X G a6
  have b7 := F7_.binds (ps := ["error"]) fun _ _ _ _ _ _ us hl => match us, hl with | [_], _ => rfl
  have m7 := PySem.W.mg_of X G a7
  have B : Blt mg := ⟨PySem.W.mg_none_of X G z0, PySem.W.mg_none_of X G z1, PySem.W.mg_none_of X G z2, PySem.W.mg_none_of X G z3, PySem.W.mg_none_of X G z4, PySem.W.mg_none_of X G z5, PySem.W.mg_none_of X G z6⟩
  have T0 : SkE.ErrTxt K mg "BadDocument" "position" "BadDocument.__init__" c0 i0 := { gC := PySem.W.mg_of X G A0, cls := ⟨_, _, _, _, _, _, _, _, _, _, _, _, _, _, _, B0, rfl⟩, sa := C0, ga := D0, gg := E0, noN := F0, iC := G0, tC := H0, kC := I0, exC := J0, tyC := K0, hdC := L0, fn := ⟨_, _, _, _, _, _, _, _, _, _, _, _, _, _, M0, O0⟩, cl_ := P0, hCl := Q0, hGt := X0, hTk := X1, hOb := U0 }
  have T1 : SkE.ErrTxt K mg "BadPrefix" "position" "BadPrefix.__init__" c1 i1 := { gC := PySem.W.mg_of X G A1, cls := ⟨_, _, _, _, _, _, _, _, _, _, _, _, _, _, _, B1, rfl⟩, sa := C1, ga := D1, gg := E1, noN := F1, iC := G1, tC := H1, kC := I1, exC := J1, tyC := K1, hdC := L1, fn := ⟨_, _, _, _, _, _, _, _, _, _, _, _, _, _, M1, O1⟩, cl_ := P1, hCl := Q1, hGt := X0, hTk := X1, hOb := U1 }
  have T2 : SkE.ErrTxt K mg "BadSchema" "position" "BadSchema.__init__" c2 i2 := { gC := PySem.W.mg_of X G A2, cls := ⟨_, _, _, _, _, _, _, _, _, _, _, _, _, _, _, B2, rfl⟩, sa := C2, ga := D2, gg := E2, noN := F2, iC := G2, tC := H2, kC := I2, exC := J2, tyC := K2, hdC := L2, fn := ⟨_, _, _, _, _, _, _, _, _, _, _, _, _, _, M2, O2⟩, cl_ := P2, hCl := Q2, hGt := X0, hTk := X1, hOb := U2 }
  have T3 : SkE.ErrTxt K mg "NotOffered" "position" "NotOffered.__init__" c3 i3 := { gC := PySem.W.mg_of X G A3, cls := ⟨_, _, _, _, _, _, _, _, _, _, _, _, _, _, _, B3, rfl⟩, sa := C3, ga := D3, gg := E3, noN := F3, iC := G3, tC := H3, kC := I3, exC := J3, tyC := K3, hdC := L3, fn := ⟨_, _, _, _, _, _, _, _, _, _, _, _, _, _, M3, O3⟩, cl_ := P3, hCl := Q3, hGt := X0, hTk := X1, hOb := U3 }
  have T4 : SkE.ErrTxt K mg "NoRoom" "length" "NoRoom.__init__" c4 i4 := { gC := PySem.W.mg_of X G A4, cls := ⟨_, _, _, _, _, _, _, _, _, _, _, _, _, _, _, B4, rfl⟩, sa := C4, ga := D4, gg := E4, noN := F4, iC := G4, tC := H4, kC := I4, exC := J4, tyC := K4, hdC := L4, fn := ⟨_, _, _, _, _, _, _, _, _, _, _, _, _, _, M4, O4⟩, cl_ := P4, hCl := Q4, hGt := X0, hTk := X1, hOb := U4 }
  have T5 : SkE.ErrTxt K mg "NoSuchCompletion" "count" "NoSuchCompletion.__init__" c5 i5 := { gC := PySem.W.mg_of X G A5, cls := ⟨_, _, _, _, _, _, _, _, _, _, _, _, _, _, _, B5, rfl⟩, sa := C5, ga := D5, gg := E5, noN := F5, iC := G5, tC := H5, kC := I5, exC := J5, tyC := K5, hdC := L5, fn := ⟨_, _, _, _, _, _, _, _, _, _, _, _, _, _, M5, O5⟩, cl_ := P5, hCl := Q5, hGt := X0, hTk := X1, hOb := U5 }
  have T6 : SkE.ErrTxt K mg "NoPath" "path" "NoPath.__init__" c6 i6 := { gC := PySem.W.mg_of X G A6, cls := ⟨_, _, _, _, _, _, _, _, _, _, _, _, _, _, _, B6, rfl⟩, sa := C6, ga := D6, gg := E6, noN := F6, iC := G6, tC := H6, kC := I6, exC := J6, tyC := K6, hdC := L6, fn := ⟨_, _, _, _, _, _, _, _, _, _, _, _, _, _, M6, O6⟩, cl_ := P6, hCl := Q6, hGt := X0, hTk := X1, hOb := U6 }
  have T7 : SkE.ErrTxt K mg "TooManyStates" "bound" "TooManyStates.__init__" c7 i7 := { gC := PySem.W.mg_of X G A7, cls := ⟨_, _, _, _, _, _, _, _, _, _, _, _, _, _, _, B7, rfl⟩, sa := C7, ga := D7, gg := E7, noN := F7, iC := G7, tC := H7, kC := I7, exC := J7, tyC := K7, hdC := L7, fn := ⟨_, _, _, _, _, _, _, _, _, _, _, _, _, _, M7, O7⟩, cl_ := P7, hCl := Q7, hGt := X0, hTk := X1, hOb := U7 }
  have T8 : SkE.ErrTxt K mg "TooFar" "number" "TooFar.__init__" c8 i8 := { gC := PySem.W.mg_of X G A8, cls := ⟨_, _, _, _, _, _, _, _, _, _, _, _, _, _, _, B8, rfl⟩, sa := C8, ga := D8, gg := E8, noN := F8, iC := G8, tC := H8, kC := I8, exC := J8, tyC := K8, hdC := L8, fn := ⟨_, _, _, _, _, _, _, _, _, _, _, _, _, _, M8, O8⟩, cl_ := P8, hCl := Q8, hGt := X0, hTk := X1, hOb := U8 }
  have T9 : SkE.ErrTxt K mg "BadCommand" "command" "BadCommand.__init__" c9 i9 := { gC := PySem.W.mg_of X G A9, cls := ⟨_, _, _, _, _, _, _, _, _, _, _, _, _, _, _, B9, rfl⟩, sa := C9, ga := D9, gg := E9, noN := F9, iC := G9, tC := H9, kC := I9, exC := J9, tyC := K9, hdC := L9, fn := ⟨_, _, _, _, _, _, _, _, _, _, _, _, _, _, M9, O9⟩, cl_ := P9, hCl := Q9, hGt := X0, hTk := X1, hOb := U9 }
  have mS := PySem.W.mg_of X G aS
  let C : Nat → Addr := fun n => [c0, c1, c2, c3, c4, c5, c6, c7, c8, c9].getD n 0
  let I : Nat → Addr := fun n => [i0, i1, i2, i3, i4, i5, i6, i7, i8, i9].getD n 0
  refine ⟨PySem.W.fnOf "law" "law" (defArgs sLaw) (defBody sLaw) (defScope sLaw) .none kV8 dc8 pm8 an8 cd8 ct8, fun s v => .of_eq rfl, fun base _ _ => ?_⟩
  have gD : FnOk P w K mg base CX0 1 f1 _ ["stream", "size"] spDraw := ok_draw (k := 0) F1_
  have W : Drw P w K mg base f1 f2 _ _ := ⟨gD, b1, k1, m1, ok_choose F2_ gD b1 k1 m1 B.len, b2, k2, m2⟩
  have TT : Ers K mg C I := ⟨T0, T1, T2, T3, T4, T5, T6, T7, T8, T9⟩
  have kt : Kit K C := fun n k hn hk => eq_of_beq (List.all_eq_true.mp (List.all_eq_true.mp X2 n (List.mem_range.mpr hn)) k (List.mem_range.mpr hk))
  have BB : Bnd K mg C S := ⟨mS, fun n hn => eq_of_beq (List.all_eq_true.mp X3 n (List.mem_range.mpr hn)), fun n hn => eq_of_beq (List.all_eq_true.mp X4 n (List.mem_range.mpr hn))⟩
  exact ok_law F8_ W B TT BB (ok_stream (k := 0) F0_) b0 k0 m0 (ok_thing F3_ W) b3 k3 m3 (ok_pos F4_ TT) b4 k4 m4 (ok_nam F5_ TT) b5 k5 m5 (ok_sto F6_ TT) b6 k6 m6 (ok_cls F7_ TT kt B.isi) b7 k7 m7
end Sk
open PySem PySem.W PyProof.Rows
set_option maxHeartbeats 0 in
theorem PySem.Challenge.cw_soonknown_k09_errors_made_by_hand_holds : PySem.Challenge.rw_soonknown_k09_errors_made_by_hand.Holds := by
  w_on; o_law; k_head; (case hw => w_witness2)
  k_fill
  refine Sk.walk_law (l := PySem.Challenge.rw_soonknown_k09_errors_made_by_hand) (n := 63) (x := "script") (sp := fun w => Sk.spLaw _) rfl (by decide) rfl (fun w h Y => PySem.W.kIn_of Y) ?F fun w H a ns hl hb hS => ⟨a, ns, rfl, hS, hl, hb, fun _ => rfl⟩
  case F =>
    intro w mg fa h KX G hmg
    refine' Sk.all_mk KX G hmg ?a0 ?l0 ?c0_ ?k0 ?a1 ?l1 ?c1_ ?k1 ?a2 ?l2 ?c2_ ?k2 ?a3 ?l3 ?c3_ ?k3 ?a4 ?l4 ?c4_ ?k4 ?a5 ?l5 ?c5_ ?k5 ?a6 ?l6 ?c6_ ?k6 ?a7 ?l7 ?c7_ ?k7 ?a8 ?l8 ?c8_ ?k8 ?aS ?A0 ?B0 ?C0 ?D0 ?E0 ?F0 ?G0 ?H0 ?I0 ?J0 ?K0 ?L0 ?M0 ?O0 ?P0 ?Q0 ?U0 ?A1 ?B1 ?C1 ?D1 ?E1 ?F1 ?G1 ?H1 ?I1 ?J1 ?K1 ?L1 ?M1 ?O1 ?P1 ?Q1 ?U1 ?A2 ?B2 ?C2 ?D2 ?E2 ?F2 ?G2 ?H2 ?I2 ?J2 ?K2 ?L2 ?M2 ?O2 ?P2 ?Q2 ?U2 ?A3 ?B3 ?C3 ?D3 ?E3 ?F3 ?G3 ?H3 ?I3 ?J3 ?K3 ?L3 ?M3 ?O3 ?P3 ?Q3 ?U3 ?A4 ?B4 ?C4 ?D4 ?E4 ?F4 ?G4 ?H4 ?I4 ?J4 ?K4 ?L4 ?M4 ?O4 ?P4 ?Q4 ?U4 ?A5 ?B5 ?C5 ?D5 ?E5 ?F5 ?G5 ?H5 ?I5 ?J5 ?K5 ?L5 ?M5 ?O5 ?P5 ?Q5 ?U5 ?A6 ?B6 ?C6 ?D6 ?E6 ?F6 ?G6 ?H6 ?I6 ?J6 ?K6 ?L6 ?M6 ?O6 ?P6 ?Q6 ?U6 ?A7 ?B7 ?C7 ?D7 ?E7 ?F7 ?G7 ?H7 ?I7 ?J7 ?K7 ?L7 ?M7 ?O7 ?P7 ?Q7 ?U7 ?A8 ?B8 ?C8 ?D8 ?E8 ?F8 ?G8 ?H8 ?I8 ?J8 ?K8 ?L8 ?M8 ?O8 ?P8 ?Q8 ?U8 ?A9 ?B9 ?C9 ?D9 ?E9 ?F9 ?G9 ?H9 ?I9 ?J9 ?K9 ?L9 ?M9 ?O9 ?P9 ?Q9 ?U9 ?X0 ?X1 ?X2 ?X3 ?X4 ?z0 ?z1 ?z2 ?z3 ?z4 ?z5 ?z6
    (case a0 => k_is)
    (case l0 => k_is)
    (case c0_ => k_is)
    (case k0 => k_is)
    (case a1 => k_is)
    (case l1 => k_is)
    (case c1_ => k_is)
    (case k1 => k_is)
    (case a2 => k_is)
    (case l2 => k_is)
    (case c2_ => k_is)
    (case k2 => k_is)
    (case a3 => k_is)
    (case l3 => k_is)
    (case c3_ => k_is)
    (case k3 => k_is)
    (case a4 => k_is)
    (case l4 => k_is)
    (case c4_ => k_is)
    (case k4 => k_is)
    (case a5 => k_is)
    (case l5 => k_is)
    (case c5_ => k_is)
    (case k5 => k_is)
    (case a6 => k_is)
    (case l6 => k_is)
    (case c6_ => k_is)
    (case k6 => k_is)
    (case a7 => k_is)
    (case l7 => k_is)
    (case c7_ => k_is)
    (case k7 => k_is)
    (case a8 => k_is)
    (case l8 => k_is)
    (case c8_ => k_is)
    (case k8 => k_is)
    (case aS => k_is)
    (case A0 => k_is)
    (case B0 => k_is)
    (case C0 => k_is)
    (case D0 => k_is)
    (case E0 => k_is)
    (case F0 => k_is)
    (case G0 => k_is)
    (case H0 => k_is)
    (case I0 => k_is)
    (case J0 => k_is)
    (case K0 => k_is)
    (case L0 => k_is)
    (case M0 => k_is)
    (case O0 => k_is)
    (case P0 => first | k_is | rfl | decide +kernel)
    (case Q0 => k_is)
    (case U0 => first | k_is | rfl | decide +kernel)
    (case A1 => k_is)
    (case B1 => k_is)
    (case C1 => k_is)
    (case D1 => k_is)
    (case E1 => k_is)
    (case F1 => k_is)
    (case G1 => k_is)
    (case H1 => k_is)
    (case I1 => k_is)
    (case J1 => k_is)
    (case K1 => k_is)
    (case L1 => k_is)
    (case M1 => k_is)
    (case O1 => k_is)
    (case P1 => first | k_is | rfl | decide +kernel)
    (case Q1 => k_is)
    (case U1 => first | k_is | rfl | decide +kernel)
    (case A2 => k_is)
    (case B2 => k_is)
    (case C2 => k_is)
    (case D2 => k_is)
    (case E2 => k_is)
    (case F2 => k_is)
    (case G2 => k_is)
    (case H2 => k_is)
    (case I2 => k_is)
    (case J2 => k_is)
    (case K2 => k_is)
    (case L2 => k_is)
    (case M2 => k_is)
    (case O2 => k_is)
    (case P2 => first | k_is | rfl | decide +kernel)
    (case Q2 => k_is)
    (case U2 => first | k_is | rfl | decide +kernel)
    (case A3 => k_is)
    (case B3 => k_is)
    (case C3 => k_is)
    (case D3 => k_is)
    (case E3 => k_is)
    (case F3 => k_is)
    (case G3 => k_is)
    (case H3 => k_is)
    (case I3 => k_is)
    (case J3 => k_is)
    (case K3 => k_is)
    (case L3 => k_is)
    (case M3 => k_is)
    (case O3 => k_is)
    (case P3 => first | k_is | rfl | decide +kernel)
    (case Q3 => k_is)
    (case U3 => first | k_is | rfl | decide +kernel)
    (case A4 => k_is)
    (case B4 => k_is)
    (case C4 => k_is)
    (case D4 => k_is)
    (case E4 => k_is)
    (case F4 => k_is)
    (case G4 => k_is)
    (case H4 => k_is)
    (case I4 => k_is)
    (case J4 => k_is)
    (case K4 => k_is)
    (case L4 => k_is)
    (case M4 => k_is)
    (case O4 => k_is)
    (case P4 => first | k_is | rfl | decide +kernel)
    (case Q4 => k_is)
    (case U4 => first | k_is | rfl | decide +kernel)
    (case A5 => k_is)
    (case B5 => k_is)
    (case C5 => k_is)
    (case D5 => k_is)
    (case E5 => k_is)
    (case F5 => k_is)
    (case G5 => k_is)
    (case H5 => k_is)
    (case I5 => k_is)
    (case J5 => k_is)
    (case K5 => k_is)
    (case L5 => k_is)
    (case M5 => k_is)
    (case O5 => k_is)
    (case P5 => first | k_is | rfl | decide +kernel)
    (case Q5 => k_is)
    (case U5 => first | k_is | rfl | decide +kernel)
    (case A6 => k_is)
    (case B6 => k_is)
    (case C6 => k_is)
    (case D6 => k_is)
    (case E6 => k_is)
    (case F6 => k_is)
    (case G6 => k_is)
    (case H6 => k_is)
    (case I6 => k_is)
    (case J6 => k_is)
    (case K6 => k_is)
    (case L6 => k_is)
    (case M6 => k_is)
    (case O6 => k_is)
    (case P6 => first | k_is | rfl | decide +kernel)
    (case Q6 => k_is)
    (case U6 => first | k_is | rfl | decide +kernel)
    (case A7 => k_is)
    (case B7 => k_is)
    (case C7 => k_is)
    (case D7 => k_is)
    (case E7 => k_is)
    (case F7 => k_is)
    (case G7 => k_is)
    (case H7 => k_is)
    (case I7 => k_is)
    (case J7 => k_is)
    (case K7 => k_is)
    (case L7 => k_is)
    (case M7 => k_is)
    (case O7 => k_is)
    (case P7 => first | k_is | rfl | decide +kernel)
    (case Q7 => k_is)
    (case U7 => first | k_is | rfl | decide +kernel)
    (case A8 => k_is)
    (case B8 => k_is)
    (case C8 => k_is)
    (case D8 => k_is)
    (case E8 => k_is)
    (case F8 => k_is)
    (case G8 => k_is)
    (case H8 => k_is)
    (case I8 => k_is)
    (case J8 => k_is)
    (case K8 => k_is)
    (case L8 => k_is)
    (case M8 => k_is)
    (case O8 => k_is)
    (case P8 => first | k_is | rfl | decide +kernel)
    (case Q8 => k_is)
    (case U8 => first | k_is | rfl | decide +kernel)
    (case A9 => k_is)
    (case B9 => k_is)
    (case C9 => k_is)
    (case D9 => k_is)
    (case E9 => k_is)
    (case F9 => k_is)
    (case G9 => k_is)
    (case H9 => k_is)
    (case I9 => k_is)
    (case J9 => k_is)
    (case K9 => k_is)
    (case L9 => k_is)
    (case M9 => k_is)
    (case O9 => k_is)
    (case P9 => first | k_is | rfl | decide +kernel)
    (case Q9 => k_is)
    (case U9 => first | k_is | rfl | decide +kernel)
    (case X0 => first | k_is | rfl | decide +kernel)
    (case X1 => first | k_is | rfl | decide +kernel)
    (case X2 => first | rfl | decide +kernel)
    (case X3 => first | rfl | decide +kernel)
    (case X4 => first | rfl | decide +kernel)
    (case z0 => k_is)
    (case z1 => k_is)
    (case z2 => k_is)
    (case z3 => k_is)
    (case z4 => k_is)
    (case z5 => k_is)
    (case z6 => k_is)
