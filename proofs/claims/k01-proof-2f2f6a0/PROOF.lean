import PyProof.Rows.All
import Wide.All
import OpenK.AllK
import Wide.FinOn
import HandS.ForMost
import HandS.Wide
import HandS.IsInst
import HandS.EndBits
import HandS.RaiseMore
import HandS.Evl
import HandS.Flow
import HandS.More
import PySem.Challenge.RW_soonknown_k01_documents_of_values
set_option Elab.async false
set_option linter.all false
set_option maxRecDepth 100000
set_option maxHeartbeats 4000000
/-! Rules and words that the proofs of this program share. -/
namespace Sk
open PySem PySem.Spec PyProof.Rows L2 Evl

/-! ## powers of great ints -/
def CPowB (i j : Int) : Prop := 0 ≤ j ∧ (Builtin.Int.intBits i : Int) * j ≤ 2 ^ 27
theorem op_powB {X : Cx} : OpR X (binaryOp .Pow) (rI CPowB fun i j => .int (i ^ j.toNat)) := by
  intro pins s σ H x y u v Q I rx ry h
  obtain ⟨i, j, rfl, rfl, hc, q⟩ := h
  obtain ⟨t, rfl⟩ := rx
  obtain ⟨t', rfl⟩ := ry
  exact pow_int hc.1 hc.2 ⟨.int _, H, I.tok _, ⟨_, rfl⟩, q⟩
theorem bits_of {i : Int} {n : Nat} (h : i.natAbs < 2 ^ n) (h0 : 0 < n) : Builtin.Int.intBits i ≤ n := by
  unfold Builtin.Int.intBits
  split
  · omega
  · have := PySem.Flt.log2_lt_of h0 h
    omega
theorem abs_of_bits {i : Int} {n : Nat} (h : Builtin.Int.intBits i ≤ n) : i.natAbs < 2 ^ n := by
  unfold Builtin.Int.intBits at h
  split at h
  · rename_i e
    have e' : i = 0 := by simpa using e
    subst e'
    exact Nat.two_pow_pos n
  · rename_i e
    have e' : i ≠ 0 := by simpa using e
    have h1 : i.natAbs ≠ 0 := by omega
    have h2 := Nat.lt_log2_self (n := i.natAbs)
    exact Nat.lt_of_lt_of_le h2 (Nat.pow_le_pow_right (by decide) (by omega))

/-! ## the heap beside the source of draws -/
/-- the heap without what stands at st -/
def Hd (st : Addr) (H : Hp) : Hp := fun a => if a = st then none else H a
theorem hd_some {st a : Addr} {H : Hp} {o : HO} (h : Hd st H a = some o) : a ≠ st ∧ H a = some o := by
  unfold Hd at h
  split at h
  · cases h
  · exact ⟨by assumption, h⟩
theorem hd_of {st a : Addr} {H : Hp} {o : HO} (n : a ≠ st) (h : H a = some o) : Hd st H a = some o := by
  unfold Hd; rw [if_neg n]; exact h
theorem hd_le {st : Addr} {H : Hp} : Ex (Hd st H) H := fun _ _ h => (hd_some h).2
/-- what was there beside st is there -/
def Gr (st : Addr) (H H' : Hp) : Prop := Ex (Hd st H) (Hd st H')
theorem Gr.refl {st : Addr} {H : Hp} : Gr st H H := Ex.refl _
theorem Gr.trans {st : Addr} {H H1 H2 : Hp} (a : Gr st H H1) (b : Gr st H1 H2) : Gr st H H2 := Ex.trans a b
/-- the source: two numbers -/
def Strm (st : Addr) (H : Hp) : Prop := ∃ d s : Int, H st = some (.lst [.int d, .int s]) ∧ 0 ≤ d ∧ d.natAbs < 2 ^ 1100000 ∧ 0 ≤ s ∧ s < 2 ^ 31
theorem Strm.some {st : Addr} {H : Hp} (h : Strm st H) : ∃ o, H st = some o := let ⟨_, _, e, _⟩ := h; ⟨_, e⟩
theorem gr_upd {st : Addr} {H : Hp} {o : HO} : Gr st H (upd H st o) := fun a u h => by
  obtain ⟨n, e⟩ := hd_some h
  exact hd_of n (by rw [upd_ne n]; exact e)
theorem gr_new {st p : Addr} {H : Hp} {o : HO} (h : H p = none) : Gr st H (upd H p o) := fun a u e => by
  obtain ⟨n, e⟩ := hd_some e
  exact hd_of n (by rw [upd_ne (ne_of_none e h)]; exact e)
theorem gr_ex {st : Addr} {H H' : Hp} (h : Ex H H') : Gr st H H' := fun a u e => by
  obtain ⟨n, e⟩ := hd_some e
  exact hd_of n (h _ _ e)
theorem Strm.new {st p : Addr} {H : Hp} {o : HO} (h : Strm st H) (hp : H p = none) : Strm st (upd H p o) := by
  obtain ⟨d, s, e, r⟩ := h
  exact ⟨d, s, by rw [upd_ne (ne_of_none e hp)]; exact e, r⟩
theorem Strm.ne {st p : Addr} {H : Hp} (h : Strm st H) (hp : H p = none) : p ≠ st := by
  obtain ⟨o, e⟩ := h.some
  intro z; subst z; rw [e] at hp; cases hp
/-- fresh behind is fresh before -/
theorem Gr.back {st p : Addr} {H H' : Hp} (g : Gr st H H') (s : Strm st H') (h : H' p = none) : Hd st H p = none := by
  cases e : Hd st H p with
  | none => rfl
  | some o =>
    have := (hd_some (g _ _ e)).2
    rw [h] at this; cases this
/-- behind: the source still stands, the rest is there -/
structure Aft (st : Addr) (H H' : Hp) : Prop where
  gr : Gr st H H'
  sm : Strm st H'
theorem Aft.trans {st : Addr} {H H1 H2 : Hp} (a : Aft st H H1) (b : Aft st H1 H2) : Aft st H H2 := ⟨a.gr.trans b.gr, b.sm⟩
theorem Aft.of {st : Addr} {H : Hp} (s : Strm st H) : Aft st H H := ⟨.refl, s⟩
theorem Aft.new {st p : Addr} {H H1 : Hp} {o : HO} (a : Aft st H H1) (h : H1 p = none) : Aft st H (upd H1 p o) := ⟨a.gr.trans (gr_new h), a.sm.new h⟩
/-- a thing of one's own that H does not know changes -/
theorem Aft.mut {st p : Addr} {H H1 : Hp} {o : HO} (a : Aft st H H1) (n : p ≠ st) (h : Hd st H p = none) : Aft st H (upd H1 p o) := by
  refine ⟨fun b u e => ?_, ?_⟩
  · have hb : b ≠ p := by intro z; subst z; rw [h] at e; cases e
    obtain ⟨nb, e1⟩ := hd_some (a.gr _ _ e)
    exact hd_of nb (by rw [upd_ne hb]; exact e1)
  · obtain ⟨d, s, e, r⟩ := a.sm
    exact ⟨d, s, by rw [upd_ne (Ne.symm n)]; exact e, r⟩
theorem Aft.at {st p : Addr} {H H1 : Hp} {o : HO} (a : Aft st H H1) (n : p ≠ st) (h : H p = some o) : H1 p = some o := (hd_some (a.gr _ _ (hd_of n h))).2
end Sk

/-! Data of any depth in the abstract heap; its repr. -/
namespace Sk
open PySem PySem.Spec PyProof.Rows L2 Evl
mutual
inductive Rx (h : Heap) : Value → PyData → Prop
  | none : Rx h .none .none
  | bool (b) : Rx h (.bool b) (.bool b)
  | int (i t) : Rx h (.int i t) (.int i)
  | str (x t) : Rx h (.str x t) (.str x)
  | list {a o vs n ds} (e : h.get? a = some o) (c : o.cls = .type "list") (q : o.data = .seq vs n) (r : RxAll h vs.toList ds) : Rx h (.ref a) (.list ds)
  | tuple {a o vs n ds} (e : h.get? a = some o) (c : o.cls = .type "tuple") (q : o.data = .seq vs n) (r : RxAll h vs.toList ds) : Rx h (.ref a) (.tuple ds)
  | dict {a o es n kvs} (l : (a == sysModules) = false) (e : h.get? a = some o) (c : o.cls = .type "dict") (q : o.data = .dict es n) (r : RxAll h (es.toList.map (·.key)) (kvs.map (·.1)))
      (r2 : RxAll h (es.toList.map (·.val)) (kvs.map (·.2))) : Rx h (.ref a) (.dict kvs)
inductive RxAll (h : Heap) : List Value → List PyData → Prop
  | nil : RxAll h [] []
  | cons {v vs d ds} (x : Rx h v d) (r : RxAll h vs ds) : RxAll h (v :: vs) (d :: ds)
end
mutual
theorem Rx.reads {h : Heap} : ∀ {v : Value} {d : PyData}, Rx h v d → ∃ as, Reads h v d as
  | _, _, .none => ⟨_, .none⟩
  | _, _, .bool b => ⟨_, .bool b⟩
  | _, _, .int i t => ⟨_, .int i t⟩
  | _, _, .str x t => ⟨_, .str x t⟩
  | _, _, .list e c q r => let ⟨_, z⟩ := r.reads; ⟨_, .list e c q z⟩
  | _, _, .tuple e c q r => let ⟨_, z⟩ := r.reads; ⟨_, .tuple e c q z⟩
  | _, _, .dict _ e c q r r2 => let ⟨_, z⟩ := r.reads; let ⟨_, z2⟩ := r2.reads; ⟨_, .dict e c q z z2⟩
theorem RxAll.reads {h : Heap} : ∀ {v : List Value} {d : List PyData}, RxAll h v d → ∃ as, ReadsAll h v d as
  | _, _, .nil => ⟨_, .nil⟩
  | _, _, .cons x r => let ⟨_, z⟩ := x.reads; let ⟨_, z2⟩ := r.reads; ⟨_, .cons z z2⟩
end
def FitsAll (ds : List PyData) : Prop := ∀ t ∈ PyData.shownAll ds, t.length ≤ sizeLine
theorem fits_list {xs : List PyData} (h : (PyData.list xs).shown.length ≤ sizeLine) : (listText (PyData.shownAll xs)).length ≤ sizeLine ∧ FitsAll xs := by
  have z : (listText (PyData.shownAll xs)).length ≤ sizeLine := by simpa only [PyData.shown] using h
  exact ⟨z, fun t m => Nat.le_trans (listText_mem_le m) z⟩
theorem fits_tuple {xs : List PyData} (h : (PyData.tuple xs).shown.length ≤ sizeLine) : (tupleText (PyData.shownAll xs)).length ≤ sizeLine ∧ FitsAll xs := by
  have z : (tupleText (PyData.shownAll xs)).length ≤ sizeLine := by simpa only [PyData.shown] using h
  exact ⟨z, fun t m => Nat.le_trans (tupleText_mem_le m) z⟩
theorem fits_dict {kvs : List (PyData × PyData)} (h : (PyData.dict kvs).shown.length ≤ sizeLine) : (dictText (PyData.shownKv kvs)).length ≤ sizeLine ∧ FitsAll (kvs.map (·.1)) ∧ FitsAll (kvs.map (·.2)) := by
  have z : (dictText (PyData.shownKv kvs)).length ≤ sizeLine := by simpa only [PyData.shown] using h
  refine ⟨z, fun t m => ?_, fun t m => ?_⟩
  · obtain ⟨p, hp, l⟩ := PyData.shownKv_key_le kvs t m
    exact Nat.le_trans l (Nat.le_trans (dictText_mem_le hp) z)
  · obtain ⟨p, hp, l⟩ := PyData.shownKv_val_le kvs t m
    exact Nat.le_trans l (Nat.le_trans (dictText_mem_le hp) z)
/-- what is needed of the parts of a dict -/
theorem two_dict {prog : Program} {w : World} {h : Heap} {es : List DictEntry} {kvs : List (PyData × PyData)} {b1 b2 : List Addr} (k1 : ReprAllK prog w b1 h (PyData.depthAll (kvs.map (·.1))) (es.map (·.key)) (PyData.shownAll (kvs.map (·.1))))
    (k2 : ReprAllK prog w b2 h (PyData.depthAll (kvs.map (·.2))) (es.map (·.val)) (PyData.shownAll (kvs.map (·.2)))) : ReprEntriesK prog w (b1 ++ b2) h (PyData.depthKv kvs) es (PyData.shownKv kvs) := by
  rw [PyData.shownKv_eq]
  exact .of_two es _ _ (k1.more_le (fun _ m => List.mem_append.mpr (.inl m)) (PyData.depthAll_keys_le kvs)) (k2.more_le (fun _ m => List.mem_append.mpr (.inr m)) (PyData.depthAll_vals_le kvs))
mutual
theorem Rx.repr {prog : Program} {w : World} {h : Heap} : ∀ {v : Value} {d : PyData}, Rx h v d → d.showable = true → d.shown.length ≤ sizeLine → ∃ bs, ReadAtMost h d.depth bs ∧ ReprK prog w bs h d.depth v d.shown
  | _, _, .none, _, _ => ⟨[], (fun _ m => nomatch m), by simp only [PyData.shown]; exact .of_is .none _ _ _⟩
  | _, _, .bool b, _, _ => ⟨[], (fun _ m => nomatch m), by simp only [PyData.shown]; exact .of_is (.bool b) _ _ _⟩
  | _, _, .int i t, s, _ => ⟨[], (fun _ m => nomatch m), by simp only [PyData.shown]; exact .of_is (.int t (by simpa [PyData.showable] using s)) _ _ _⟩
  | _, _, .str x t, _, z => ⟨[], (fun _ m => nomatch m), by simp only [PyData.shown] at z ⊢; exact .of_is (.str x t z) _ _ _⟩
  | _, _, .list (a := a) (vs := vs) (ds := xs) e c q r, s, z => by
    obtain ⟨z1, z2⟩ := fits_list z
    obtain ⟨bs, hb, hk⟩ := r.repr (prog := prog) (w := w) (by simpa [PyData.showable] using s) z2
    obtain ⟨as, rr⟩ := (Rx.list e c q r).reads
    have na : a ∉ bs := not_mem_of_deeper rr (by simp only [PyData.depth]; omega) hb
    refine ⟨a :: bs, .cons rr (by simp only [PyData.depth]; omega) hb, ?_⟩
    simp only [PyData.depth, PyData.shown]
    obtain ⟨l⟩ := vs
    cases l with
    | nil =>
      cases (show RxAll h [] xs from r)
      simp only [PyData.shownAll, listText_nil]
      exact ReprK.listEmpty e c q
    | cons x l => exact .list e c q na (by simpa using hk.length_eq) fun i y m => hk.item i y (by simpa using m)
  | _, _, .tuple (a := a) (ds := xs) e c q r, s, z => by
    obtain ⟨z1, z2⟩ := fits_tuple z
    obtain ⟨bs, hb, hk⟩ := r.repr (prog := prog) (w := w) (by simpa [PyData.showable] using s) z2
    obtain ⟨as, rr⟩ := (Rx.tuple e c q r).reads
    have na : a ∉ bs := not_mem_of_deeper rr (by simp only [PyData.depth]; omega) hb
    refine ⟨a :: bs, .cons rr (by simp only [PyData.depth]; omega) hb, ?_⟩
    simp only [PyData.depth, PyData.shown]
    exact .tuple e c q na hk
  | _, _, .dict (a := a) (es := es) (kvs := kvs) l e c q r r2, s, z => by
    obtain ⟨z1, z2, z3⟩ := fits_dict z
    obtain ⟨s1, s2⟩ := PyData.showableKv_split kvs (by simpa [PyData.showable] using s)
    obtain ⟨b1, hb1, k1⟩ := r.repr (prog := prog) (w := w) s1 z2
    obtain ⟨b2, hb2, k2⟩ := r2.repr (prog := prog) (w := w) s2 z3
    obtain ⟨as, rr⟩ := (Rx.dict l e c q r r2).reads
    have hb : ReadAtMost h (PyData.depthKv kvs) (b1 ++ b2) := .append (hb1.mono (PyData.depthAll_keys_le kvs)) (hb2.mono (PyData.depthAll_vals_le kvs))
    have na : a ∉ b1 ++ b2 := not_mem_of_deeper rr (by simp only [PyData.depth]; omega) hb
    refine ⟨a :: (b1 ++ b2), .cons rr (by simp only [PyData.depth]; omega) hb, ?_⟩
    simp only [PyData.depth, PyData.shown]
    exact .dict e c q l na (two_dict k1 k2)
theorem RxAll.repr {prog : Program} {w : World} {h : Heap} : ∀ {vs : List Value} {ds : List PyData}, RxAll h vs ds → PyData.showableAll ds = true → FitsAll ds → ∃ bs, ReadAtMost h (PyData.depthAll ds) bs ∧ ReprAllK prog w bs h (PyData.depthAll ds) vs (PyData.shownAll ds)
  | _, _, .nil, _, _ => ⟨[], (fun _ m => nomatch m), by simp only [PyData.shownAll]; exact .nil⟩
  | _, _, .cons (d := d) (ds := ds) x r, s, z => by
    obtain ⟨s1, s2⟩ : d.showable = true ∧ PyData.showableAll ds = true := by simpa [PyData.showableAll] using s
    unfold FitsAll at z
    simp only [PyData.shownAll, List.mem_cons] at z
    obtain ⟨b1, hb1, k1⟩ := x.repr (prog := prog) (w := w) s1 (z _ (.inl rfl))
    obtain ⟨b2, hb2, k2⟩ := r.repr (prog := prog) (w := w) s2 fun t m => z t (.inr m)
    refine ⟨b1 ++ b2, .append (hb1.mono ?_) (hb2.mono ?_), ?_⟩
    · simp only [PyData.depthAll]; omega
    · simp only [PyData.depthAll]; omega
    · simp only [PyData.depthAll, PyData.shownAll]
      exact .cons ((k1.more fun _ m => List.mem_append.mpr (.inl m)).level_le (by omega)) (k2.more_le (fun _ m => List.mem_append.mpr (.inr m)) (by omega))
end
/-- repr(v), where no repr is running -/
theorem call_repr_rx {prog : Program} {w : World} {A : Around} {E : Value → Shared → Prop} {s : Shared} {v : Value} {d : PyData} {Q : Value → Shared → Prop} (r : Rx s.heap v d) (hs : d.showable = true) (hz : d.shown.length ≤ sizeLine) (hg : A.guards = some [])
    (hu : A.units + (d.depth + 1) < cLine) (hQ : ∀ h' u tk, (∀ b o, s.heap.get? b = some o → h'.get? b = some o) → Q (.str d.shown u) { s with heap := h', toks := tk }) : wpAny (model prog w) A (call (.builtin "repr") [v]) Q E s := by
  have id : ∀ b o, s.heap.get? b = some o → s.heap.get? b = some o := fun _ _ z => z
  have hg1 : A.in1.guards = some [] := hg
  have here : ∀ u tk, Q (.str d.shown u) { s with toks := tk } := fun u tk => hQ s.heap u tk id
  cases r with
  | none => simp only [PyData.shown] at here; exact PySem.P.repr_of_none (here _ _)
  | bool b => simp only [PyData.shown] at here; exact PySem.P.repr_of_bool (here _ _)
  | int i t => simp only [PyData.shown] at here; exact PySem.P.repr_of_int (by simpa [PyData.showable] using hs) (here _ _)
  | str x t => simp only [PyData.shown] at here hz; exact PySem.P.repr_of_str (here _ _) hz
  | @list a o vs n xs e c q r =>
    obtain ⟨z1, z2⟩ := fits_list hz
    obtain ⟨bs, hb, hk⟩ := r.repr (prog := prog) (w := w) (by simpa [PyData.showable] using hs) z2
    obtain ⟨as, rr⟩ := (Rx.list e c q r).reads
    have na : a ∉ bs := not_mem_of_deeper rr (by simp only [PyData.depth]; omega) hb
    simp only [PyData.depth] at hu
    simp only [PyData.shown] at hQ
    refine call_repr_slot (by omega) ⟨o, e, c⟩ F.slot_list_repr.toG ?_
    obtain ⟨l⟩ := vs
    cases l with
    | nil =>
      cases (show RxAll s.heap [] xs from r)
      simp only [PyData.shownAll, listText_nil] at hQ
      exact call_list_repr_empty ⟨o, e, c⟩ e q ⟨_, _, rfl, hQ s.heap _ _ id⟩
    | cons x l =>
      exact call_list_reprK e c q na (by simpa using hk.length_eq) (fun i y m => hk.item i y (by simpa using m)) hg1 (fun b _ => .nil b) (by show A.units + 1 + _ < cLine; omega) id (fun h' u tk k => ⟨_, _, rfl, hQ h' u tk k⟩) z1
  | @tuple a o vs n xs e c q r =>
    obtain ⟨z1, z2⟩ := fits_tuple hz
    obtain ⟨bs, hb, hk⟩ := r.repr (prog := prog) (w := w) (by simpa [PyData.showable] using hs) z2
    obtain ⟨as, rr⟩ := (Rx.tuple e c q r).reads
    have na : a ∉ bs := not_mem_of_deeper rr (by simp only [PyData.depth]; omega) hb
    simp only [PyData.depth] at hu
    simp only [PyData.shown] at hQ
    refine call_repr_slot (by omega) ⟨o, e, c⟩ F.slot_tuple_repr ?_
    exact call_tuple_reprK e c q na hk hg1 (fun b _ => .nil b) (by show A.units + 1 + _ < cLine; omega) id (fun h' u tk k => ⟨_, _, rfl, hQ h' u tk k⟩) z1
  | @dict a o es n kvs l e c q r r2 =>
    obtain ⟨z1, z2, z3⟩ := fits_dict hz
    obtain ⟨s1, s2⟩ := PyData.showableKv_split kvs (by simpa [PyData.showable] using hs)
    obtain ⟨b1, hb1, k1⟩ := r.repr (prog := prog) (w := w) s1 z2
    obtain ⟨b2, hb2, k2⟩ := r2.repr (prog := prog) (w := w) s2 z3
    obtain ⟨as, rr⟩ := (Rx.dict l e c q r r2).reads
    have hb : ReadAtMost s.heap (PyData.depthKv kvs) (b1 ++ b2) := .append (hb1.mono (PyData.depthAll_keys_le kvs)) (hb2.mono (PyData.depthAll_vals_le kvs))
    have na : a ∉ b1 ++ b2 := not_mem_of_deeper rr (by simp only [PyData.depth]; omega) hb
    simp only [PyData.depth] at hu
    simp only [PyData.shown] at hQ
    refine call_repr_slot (by omega) ⟨o, e, c⟩ F.slot_dict_repr ?_
    exact call_dict_reprK e c q l na (two_dict k1 k2) hg1 (fun b _ => .nil b) (by show A.units + 1 + _ < cLine; omega) id (fun h' u tk k => ⟨_, _, rfl, hQ h' u tk k⟩) z1
end Sk

/-! Data of any depth over the abstract heap. -/
namespace Sk
open PySem PySem.Spec PyProof.Rows L2 Evl
mutual
inductive Dq (H : Hp) : V → PyData → Prop
  | non : Dq H .non .none
  | bl (b : Bool) : Dq H (.bl b) (.bool b)
  | int (i : Int) : Dq H (.int i) (.int i)
  | str (x : Str) : Dq H (.str x) (.str x)
  | lst {a xs ds} (e : H a = some (.lst xs)) (r : DqAll H xs ds) : Dq H (.ref a) (.list ds)
  | tup {a xs ds} (e : H a = some (.tup xs)) (r : DqAll H xs ds) : Dq H (.ref a) (.tuple ds)
  | dct {a kvs ds} (e : H a = some (.dK kvs)) (r : DqKv H kvs ds) : Dq H (.ref a) (.dict ds)
inductive DqAll (H : Hp) : List V → List PyData → Prop
  | nil : DqAll H [] []
  | cons {v vs d ds} (x : Dq H v d) (r : DqAll H vs ds) : DqAll H (v :: vs) (d :: ds)
inductive DqKv (H : Hp) : List (Key × V) → List (PyData × PyData) → Prop
  | nil : DqKv H [] []
  | cons {k : Str} {v d kvs ds} (x : Dq H v d) (r : DqKv H kvs ds) : DqKv H ((.inr k, v) :: kvs) ((.str k, d) :: ds)
end
mutual
theorem Dq.mono {H H' : Hp} (e : Ex H H') : ∀ {v d}, Dq H v d → Dq H' v d
  | _, _, .non => .non
  | _, _, .bl b => .bl b
  | _, _, .int i => .int i
  | _, _, .str x => .str x
  | _, _, .lst h r => .lst (e _ _ h) (r.mono e)
  | _, _, .tup h r => .tup (e _ _ h) (r.mono e)
  | _, _, .dct h r => .dct (e _ _ h) (r.mono e)
theorem DqAll.mono {H H' : Hp} (e : Ex H H') : ∀ {v d}, DqAll H v d → DqAll H' v d
  | _, _, .nil => .nil
  | _, _, .cons x r => .cons (x.mono e) (r.mono e)
theorem DqKv.mono {H H' : Hp} (e : Ex H H') : ∀ {v d}, DqKv H v d → DqKv H' v d
  | _, _, .nil => .nil
  | _, _, .cons x r => .cons (x.mono e) (r.mono e)
end
theorem DqAll.length {H : Hp} : ∀ {xs ds}, DqAll H xs ds → xs.length = ds.length
  | _, _, .nil => rfl
  | _, _, .cons _ r => congrArg Nat.succ r.length
theorem DqAll.get {H : Hp} : ∀ {xs ds}, DqAll H xs ds → ∀ {i : Nat} {v : V}, xs[i]? = some v → ∃ d, ds[i]? = some d ∧ Dq H v d
  | _, _, .nil, _, _, e => by simp at e
  | _, _, .cons x r, 0, _, e => by simp at e; subst e; exact ⟨_, rfl, x⟩
  | _, _, .cons x r, i + 1, _, e => by
    obtain ⟨d, h1, h2⟩ := r.get (i := i) (by simpa using e)
    exact ⟨d, by simpa using h1, h2⟩
theorem DqAll.snoc {H : Hp} : ∀ {xs ds}, DqAll H xs ds → ∀ {v d}, Dq H v d → DqAll H (xs ++ [v]) (ds ++ [d])
  | _, _, .nil, _, _, x => .cons x .nil
  | _, _, .cons y r, _, _, x => .cons y (r.snoc x)
theorem DqKv.length {H : Hp} : ∀ {xs ds}, DqKv H xs ds → xs.length = ds.length
  | _, _, .nil => rfl
  | _, _, .cons _ r => congrArg Nat.succ r.length
/-- the names -/
def keyS : PyData → Str
  | .str k => k
  | _ => Str.empty
theorem DqKv.keys {H : Hp} : ∀ {xs ds}, DqKv H xs ds → xs.map (·.1) = (ds.map fun p => keyS p.1).map Sum.inr
  | _, _, .nil => rfl
  | _, _, .cons _ r => by simp only [List.map_cons, r.keys, keyS]
/-- what stands under a name -/
def getD (ds : List (PyData × PyData)) (k : Str) : Option PyData := (ds.find? fun p => decide (keyS p.1 = k)).map (·.2)
theorem DqKv.val {H : Hp} {k : Str} : ∀ {xs ds}, DqKv H xs ds → ∀ {d}, getD ds k = some d → ∃ v, valV xs (.inr k) = some v ∧ Dq H v d
  | _, _, .nil, _, e => by simp [getD] at e
  | _, _, .cons (k := k') (v := v) (d := d') (ds := ds) x r, d, e => by
    by_cases hk : k' = k
    · subst hk
      simp [getD, keyS] at e
      subst e
      exact ⟨v, by simp [valV], x⟩
    · have e' : getD ds k = some d := by simpa [getD, keyS, hk] using e
      obtain ⟨u, h1, h2⟩ := r.val e'
      refine ⟨u, ?_, h2⟩
      rw [← h1]
      simp [valV, hk]
section
variable {X : Cx} {pins : List (Addr × Obj)} {σ : L2.St} {H : Hp} {s : Shared}
mutual
theorem Dq.rx (I : Inv X pins σ H s) : ∀ {v : V} {d : PyData} {u : Value}, Dq H v d → RelV v u → Rx s.heap u d
  | _, _, _, .non, r => by cases r; exact .none
  | _, _, _, .bl b, r => by cases r; exact .bool b
  | _, _, _, .int i, r => by obtain ⟨t, rfl⟩ := r; exact .int i t
  | _, _, _, .str x, r => by obtain ⟨t, rfl⟩ := r; exact .str x t
  | _, _, _, .lst e ra, r => by
    cases r
    obtain ⟨_, its, n, rv, z⟩ := I.hok _ _ e
    exact .list z rfl rfl (by simpa using ra.rx I rv)
  | _, _, _, .tup e ra, r => by
    cases r
    obtain ⟨_, its, rv, o, z, c, n, q⟩ := I.hok _ _ e
    exact .tuple z c q (by simpa using ra.rx I rv)
  | _, _, _, .dct e ra, r => by
    cases r
    obtain ⟨_, low, vs, rel, o, es, ep, z, c, q, _, pr, _⟩ := dk_of I.hok e
    obtain ⟨h1, h2⟩ := ra.rx I rel pr
    exact .dict low z c.1 q h1 h2
theorem DqAll.rx (I : Inv X pins σ H s) : ∀ {v : List V} {d : List PyData} {u : List Value}, DqAll H v d → Vals v u → RxAll s.heap u d
  | _, _, _, .nil, r => by cases r; exact .nil
  | _, _, _, .cons x ra, r => by
    cases r with
    | cons r1 r2 => exact .cons (x.rx I r1) (ra.rx I r2)
theorem DqKv.rx (I : Inv X pins σ H s) : ∀ {kvs : List (Key × V)} {ds : List (PyData × PyData)} {vs : List (Key × Value)} {es : List DictEntry}, DqKv H kvs ds → KV kvs vs → Pairs (mixKind X.prog X.w) es vs →
    RxAll s.heap (es.map (·.key)) (ds.map (·.1)) ∧ RxAll s.heap (es.map (·.val)) (ds.map (·.2))
  | _, _, _, _, .nil, r, p => by
    cases r
    cases p
    exact ⟨.nil, .nil⟩
  | _, _, _, _, .cons (k := k) x ra, r, p => by
    cases r with
    | @cons a b _ _ r1 r2 =>
      obtain ⟨kb, vb⟩ := b
      obtain ⟨h1, h2⟩ := r1
      have h1' : (Sum.inr k : Key) = kb := h1
      subst h1'
      cases p with
      | @cons e kv _ _ p1 p2 p3 =>
        obtain ⟨g1, g2⟩ := ra.rx I r2 p3
        have hk : keyIs (.inr k) e.key = true := p1
        obtain ⟨t, ek⟩ := Value.isStrOf_shape (show Value.isStrOf k e.key = true from hk)
        have ev : e.val = vb := p2
        simp only [List.map_cons]
        rw [ek, ev]
        exact ⟨.cons (.str k t) g1, .cons (x.rx I h2) g2⟩
end
end
/-- repr(v), no repr running around -/
theorem call_reprQ {X : Cx} (hg : X.A.guards = some []) (hu : X.A.units + 64 < cLine) : CallR X (.builtin "repr") (fun xs H Q => ∃ x d, xs = [x] ∧ Dq H x d ∧ d.showable = true ∧ d.shown.length ≤ sizeLine ∧ d.depth ≤ 60 ∧ Q (.str d.shown) H) := by
  intro pins s σ H xs us Q I r h
  obtain ⟨x, d, rfl, hd, hs, hz, hl, q⟩ := h
  obtain ⟨u, rfl, ru⟩ := vals1 r
  exact call_repr_rx (hd.rx I ru) hs hz hg (by omega) fun h' u' tk k => ⟨.str d.shown, H, I.kept k, ⟨_, rfl⟩, q⟩
end Sk

/-! A law's entry where it is known that no repr runs around. -/
namespace Sk
open PySem PySem.Spec PyProof.Rows L2 Evl
/-- the promise of the law's def, called from outside -/
def LawOk (P : Program) (w : World) (K : PySem.W.Frag) (mg : Str → Option Value) (base : Heap) (f : Addr) (fd : FuncData) (x : Str) (sp : Sp) : Prop :=
  ∀ (s : Shared) (H : Hp) (args : Args) (u : Value) (v : V) (Q : VK), Env0 P w K mg base callerA [] s H → BindsTo s fd args [(x, u)] → RelV v u → sp [v] H Q E0 → codeAny (model P w) callerA (.call (.ref f) args) (CR CX0 [] P w H s Q E0) s
/-- by its body -/
theorem law_of {P : Program} {w : World} {K : PySem.W.Frag} {mg : Str → Option Value} {base : Heap} {k : Nat} {f : Addr} {fd : FuncData} {x qual : Str} {st : Stmt} {N : List Str} {y : Str} {sp : Sp} (F : Fun K x qual st f fd) (S : FnScope N [y] (defScope st)) (hr : Room (k + 1) callerA)
    (hbody : ∀ (cdv : Value) (s : Shared) (H : Hp) (v : V) (Q : VK), Room k (callerA.deeper (envOfC qual (defScope st) s.heap.objs.size f cdv)) → (callerA.deeper (envOfC qual (defScope st) s.heap.objs.size f cdv)).guards = some [] → sp [v] H Q E0 →
      ∃ t, PSs (cxOf CX0 P w K mg base N qual (defScope st) f cdv callerA [] s H E0).nox (defBody st) t ∧ t { nx := fun _ H' => Q .non H', rt := Q } (start N [v]) H) : LawOk P w K mg base f fd y sp := by
  intro s H args u v Q e0 hb rv hsp
  obtain ⟨oc, od, kV, doc, pm, an, cdv, ct, osl, rfl, lk, hcd⟩ := F.ex
  have keep : ∀ b o, base.get? b = some o → s.heap.get? b = some o := fun b o z => (e0.bs b o z).1
  have kin := e0.mod.kin.keeps keep
  have kind : ∀ q ∈ [(y, u)], (defScope st).names.lookup q.1 = some .local ∨ ((defScope st).names.lookup q.1 = some .cell ∧ ((cellsFrom (s.heap.objs.size + 1) (defScope st).names []).lookup q.1).isSome = true) := by
    intro q hq
    obtain rfl := List.mem_singleton.mp hq
    exact (S.par y (List.mem_singleton.mpr rfl)).imp (fun z => z) fun z => ⟨z, PySem.W.cellsFrom_some _ _ _ (.inl z)⟩
  refine codeAny_call_function hr.depth (kin _ _ lk) rfl S.co S.gen rfl (PySem.W.codeRec_of kin hcd) (hb _ _ _ _ (wpAny_newFunctionEnv_cells S.kind kind fun env he s1 z => ?_))
  subst he
  refine ⟨(e0.mod.nolimit.keeps keep).keeps z.toInCall.keep, codeAny_func ?_⟩
  obtain ⟨t, ht, hq⟩ := hbody cdv s H v Q (hr.deeper _) rfl hsp
  have I : Inv (cxOf CX0 P w K mg base N qual (defScope st) f cdv callerA [] s H E0) [] (start N [v]) H s1 := inv_start (us := [u]) S hr.hd e0 rfl (.cons rv .nil) z
  refine wpAny_mono (ht.nox.run [] s1 _ H _ I hq) (fun fl s' hs => ?_) fun e s' hs => hs
  cases fl with
  | ret r =>
    obtain ⟨v', _, H', J, rr, q⟩ := hs
    exact ⟨v', H', J.os, J.bare, J.base, J.hok, rr, q⟩
  | next =>
    obtain ⟨_, H', J, q⟩ := hs
    exact ⟨.non, H', J.os, J.bare, J.base, J.hok, rfl, q⟩
  | brk => obtain ⟨_, _, _, q⟩ := hs; exact q.elim
  | cont => obtain ⟨_, _, _, q⟩ := hs; exact q.elim
/-- from the heap behind the top -/
theorem law_enter {P : Program} {w : World} {K : PySem.W.Frag} {mg mb : Str → Option Value} {fa a : Addr} {fd : FuncData} {x : Str} {sp : Sp} {s : Shared} {vs : List Value} {ns : List Int} (KX : K.In s.heap) (hns : s.heap.Ns mainGlobals mg) (hb : s.heap.Ns builtinsNs mb)
    (hbb : ∀ n : Str, n ≠ "__name__" → mb n = bootBuiltins n) (hlim : s.heap.NoLimit) (hg : s.gens = #[]) (ha : s.heap.get? a = some { cls := .type "list", data := .seq vs.toArray }) (hi : IntsAre vs ns) (hl : ns.length ≤ sizeLine)
    (F : ∀ base : Heap, K.In base → base.Ns mainGlobals mg → LawOk P w K mg base fa fd x sp) (hbind : ∀ (s : Shared) (u : Value), BindsTo s fd ⟨[u], []⟩ [(x, u)])
    (hsp : ∀ H : Hp, Only H → SqL K H a (ns.map V.int) → sp [.ref a] H (fun v _ => v = .bl true) E0) :
    codeAny (model P w) callerA (.call (.ref fa) ⟨[.ref a], []⟩) (fun r s' => r = .ok (.ret (.bool true)) ∧ OldK s.heap s'.heap ∧ s'.os = s.os ∧ AllBare s'.gens) s := by
  have rv := vals_ints hi
  have lenV := hi.length
  suffices core : ∀ H : Hp, Only H → SqL K H a (ns.map V.int) → HOk P w H s.heap → (∀ b, H b ≠ none → b = a ∧ K.lookup a = none) →
      codeAny (model P w) callerA (.call (.ref fa) ⟨[.ref a], []⟩) (fun r s' => r = .ok (.ret (.bool true)) ∧ OldK s.heap s'.heap ∧ s'.os = s.os ∧ AllBare s'.gens) s by
    cases hk : K.lookup a with
    | some o =>
      have e := KX a o hk
      rw [ha] at e
      cases e
      refine core (fun _ => none) (fun _ => .inl rfl) (.inr ⟨_, vs.toArray, _, hk, rfl, rfl, rfl, ?_, by simpa using rv⟩) (fun b u z => nomatch z) fun b z => absurd rfl z
      rw [List.size_toArray, lenV]; exact hl
    | none =>
      let ob : Obj := { cls := .type "list", data := .seq vs.toArray }
      have at_ : ∀ b u, (fun b => if b = a then some (HO.frz ob (.lst (ns.map V.int))) else none : Hp) b = some u → b = a ∧ u = .frz ob (.lst (ns.map V.int)) := by
        intro b u z
        by_cases h : b = a
        · subst h; simp at z; exact ⟨rfl, z.symm⟩
        · simp [h] at z
      refine core (fun b => if b = a then some (.frz ob (.lst (ns.map V.int))) else none) (fun b => ?_) (.inl (.inr ⟨ob, by simp⟩)) (fun b u z => ?_) fun b z => ?_
      · by_cases h : b = a
        · exact .inr ⟨ob, ns.map V.int, by simp [h]⟩
        · exact .inl (by simp [h])
      · obtain ⟨rfl, rfl⟩ := at_ b u z
        exact ⟨ha, by rw [List.length_map]; exact hl, vs, _, rv, ha⟩
      · by_cases h : b = a
        · exact ⟨h, hk⟩
        · exact absurd (by simp [h]) z
  intro H hO hS hok hA
  have dictNone : ∀ {b o es ep}, s.heap.get? b = some o → o.data = .dict es ep → H b = none := by
    intro b o es ep e d
    cases q : H b with
    | none => rfl
    | some u =>
      have := (hA b (by simp [q])).1
      subst this
      rw [ha] at e; cases e; cases d
  have nsK : ∀ {b m}, s.heap.Ns b m → (hidT s.heap H).Ns b m := fun ⟨o, es, ep, e, d, r⟩ => ⟨o, es, ep, hidT_get e (dictNone e d), d, r⟩
  have kin : K.In (hidT s.heap H) := fun b o e => hidT_get (KX b o e) (by
    cases q : H b with
    | none => rfl
    | some u =>
      obtain ⟨rfl, n⟩ := hA b (by simp [q])
      rw [n] at e; cases e)
  have e0 : Env0 P w K mg (hidT s.heap H) callerA [] s H := by
    refine ⟨rfl, ⟨kin, nsK hns, ⟨mb, nsK hb, hbb⟩, ?_⟩, fun b o e => of_hidT e, Nat.le_of_eq (hidT_size _ _), trivial, fun b z => ?_, hok, .of_eq hg⟩
    · obtain ⟨mc, h1, h2⟩ := hlim
      exact ⟨mc, nsK h1, h2⟩
    · cases (show b ∈ ([] : List Addr) from z)
  refine codeAny_mono (F _ kin (nsK hns) s H ⟨[.ref a], []⟩ (.ref a) (.ref a) _ e0 (hbind s (.ref a)) rfl (hsp H hO hS)) fun r s' h => ?_
  rcases r with e | fl
  · exact (show False from h).elim
  cases fl with
  | next => exact (show False from h).elim
  | brk => exact (show False from h).elim
  | cont => exact (show False from h).elim
  | ret u =>
    obtain ⟨v, H', os, bare, un, hok', r', q⟩ := h
    cases (show v = .bl true from q)
    cases (show u = Value.bool true from r')
    refine ⟨rfl, .of_keep fun b o e => ?_, os, bare⟩
    cases q : H b with
    | none => exact un.keep b o e q (fun z => by cases (show b ∈ ([] : List Addr) from z)) (fun z => by cases z)
    | some u =>
      rcases hO b with z | ⟨ob, xs, z⟩
      · rw [q] at z; cases z
      · have e1 := (hok b _ z).1
        rw [e] at e1; cases e1
        exact (hok' b _ (un.frzs b _ _ z)).1
/-- the end of a law row: the script has at most n ints of bounded size -/
theorem walk_law {l : PySem.W.OpenLaw} {n : Nat} {q : Program} {loose : List Str} {XP : (Str → Option Value) → Heap → Prop} {YP : World → Heap → Prop} {d : DefRec} {K : Params → PySem.W.Frag} {sp : World → Sp} {x : Str} (hn : l.most = some n) (hn2 : n ≤ sizeLine) (hdf : d.params.defaults = [])
    (hY : ∀ (w : World) (h : Heap), YP w h → (K w.params).In h)
    (F : ∀ (w : World) (mg : Str → Option Value) (fa : Addr) (h : Heap), (K w.params).In h → h.Ns mainGlobals mg → mg d.name = some (.ref fa) → ∃ fd : FuncData, (∀ (s : Shared) (u : Value), BindsTo s fd ⟨[u], []⟩ [(x, u)]) ∧
        ∀ base : Heap, (K w.params).In base → base.Ns mainGlobals mg → LawOk l.prog w (K w.params) mg base fa fd x (sp w))
    (hsp : ∀ (w : World) (H : Hp) (a : Addr) (ns : List Int), ns.length ≤ n → (∀ z ∈ ns, Builtin.Int.intBits z ≤ 1048576) → SqL (K w.params) H a (ns.map V.int) → sp w [.ref a] H (fun v _ => v = .bl true) E0) :
    PySem.W.WalkO q loose XP YP l.row.toRowW d [] (fun f vs => PySem.call f vs) := by
  refine Att.attach_callB hn hdf fun w s₀ s₁ mg mb fa o pm cd doc a vs ns G Y ho hd hcd hmg hobj hints hlen hbits hg => ?_
  obtain ⟨fd, hb, hF⟩ := F w mg fa _ (hY w _ Y) G.T.g hmg
  exact law_enter (hY w _ Y) G.T.g G.T.b G.T.builtins G.T.nolimit hg hobj hints (Nat.le_trans hlen hn2) hF hb fun H _ hS => hsp w H a ns hlen hbits hS
end Sk

/-! Values and their documents, in plain Lean. -/
namespace Sk
open PySem PySem.Spec PyProof.Rows L2 Evl
/-! ## sorted names -/
def leS (a b : Str) : Bool := !ltCps b.cps.toList a.cps.toList
def sortS (ks : List Str) : List Str := ks.mergeSort leS
theorem leS_iff {a b : Str} : leS a b = true ↔ ¬ b.cps.toList < a.cps.toList := by
  unfold leS; rw [ltCps_eq]; simp
theorem leS_trans {a b c : Str} (h1 : leS a b = true) (h2 : leS b c = true) : leS a c = true := by
  rw [leS_iff] at *
  have g1 : a.cps.toList ≤ b.cps.toList := h1
  have g2 : b.cps.toList ≤ c.cps.toList := h2
  exact List.le_trans g1 g2
theorem leS_total (a b : Str) : (leS a b || leS b a) = true := by
  rw [Bool.or_eq_true, leS_iff, leS_iff]
  by_cases h : b.cps.toList < a.cps.toList
  · exact .inr fun z => List.lt_irrefl _ (List.lt_trans h z)
  · exact .inl h
theorem leS_anti {a b : Str} (h1 : leS a b = true) (h2 : leS b a = true) : a = b := by
  rw [leS_iff] at *
  exact ext_toList (List.le_antisymm (show a.cps.toList ≤ b.cps.toList from h1) h2)
theorem rising_pairwise : ∀ (p : Str) (l : List Str), risingS p l = true → (p :: l).Pairwise fun a b => leS a b = true
  | p, [], _ => by simp
  | p, x :: r, h => by
    unfold risingS at h
    rw [Bool.and_eq_true] at h
    have ih := rising_pairwise x r h.2
    refine List.pairwise_cons.mpr ⟨fun y hy => ?_, ih⟩
    rcases List.mem_cons.mp hy with rfl | hy
    · exact h.1
    · exact leS_trans h.1 (List.rel_of_pairwise_cons ih hy)
theorem sorted_eq {ys ks : List Str} (hp : ys.Perm ks) (hs : sortedS ys = true) : ys = sortS ks := by
  have h1 : ys.Pairwise fun a b => leS a b = true := by
    cases ys with
    | nil => exact .nil
    | cons x r => exact rising_pairwise x r hs
  have h2 := List.pairwise_mergeSort (le := leS) (fun a b c => leS_trans) leS_total ks
  exact List.Perm.eq_of_pairwise (fun a b _ _ => leS_anti) h1 h2 (hp.trans (List.mergeSort_perm ks leS).symm)
theorem sortS_perm (ks : List Str) : (sortS ks).Perm ks := List.mergeSort_perm ks leS
/-! ## documents -/
def quo (x : Str) : Str := ("\"" : Str) ++ x ++ "\""
def lookS (l : List (Str × Str)) (k : Str) : Str := ((l.find? fun p => decide (p.1 = k)).map (·.2)).getD Str.empty
def memS (l : List (Str × Str)) (k : Str) : Str := quo k ++ ":" ++ lookS l k
mutual
def doc : PyData → Str
  | .bool b => if b then "true" else "false"
  | .int i => Str.ofString (toString i)
  | .str x => quo x
  | .list xs => ("[" : Str) ++ Str.join "," (docAll xs) ++ "]"
  | .dict kvs => ("{" : Str) ++ Str.join "," ((sortS (kvs.map fun p => keyS p.1)).map (memS (docKv kvs))) ++ "}"
  | .none => Str.empty
  | .tuple _ => Str.empty
def docAll : List PyData → List Str
  | [] => []
  | x :: r => doc x :: docAll r
def docKv : List (PyData × PyData) → List (Str × Str)
  | [] => []
  | (k, x) :: r => (keyS k, doc x) :: docKv r
end
theorem docAll_get : ∀ (xs : List PyData) (i : Nat) (x : PyData), xs[i]? = some x → (docAll xs)[i]? = some (doc x)
  | [], _, _, h => by simp at h
  | y :: r, 0, x, h => by simp at h; subst h; simp [docAll]
  | y :: r, i + 1, x, h => by simp only [docAll, List.getElem?_cons_succ] at h ⊢; exact docAll_get r i x h
theorem docAll_len : ∀ xs : List PyData, (docAll xs).length = xs.length
  | [] => by simp [docAll]
  | x :: r => by simp [docAll, docAll_len r]
theorem docAll_mem : ∀ (xs : List PyData) (t : Str), t ∈ docAll xs → ∃ x ∈ xs, t = doc x
  | [], _, h => by simp [docAll] at h
  | y :: r, t, h => by
    simp only [docAll, List.mem_cons] at h
    rcases h with rfl | h
    · exact ⟨y, by simp, rfl⟩
    · obtain ⟨x, hx, e⟩ := docAll_mem r t h
      exact ⟨x, by simp [hx], e⟩
theorem lookS_get : ∀ (ds : List (PyData × PyData)) (k : Str) (d : PyData), getD ds k = some d → lookS (docKv ds) k = doc d
  | [], _, _, h => by simp [getD] at h
  | (a, x) :: r, k, d, h => by
    by_cases e : keyS a = k
    · simp [getD, e] at h
      subst h
      simp [docKv, lookS, e]
    · have h' : getD r k = some d := by simpa [getD, e] using h
      rw [← lookS_get r k d h']
      simp [docKv, lookS, e]
theorem getD_mem : ∀ (ds : List (PyData × PyData)) (k : Str), k ∈ ds.map (fun p => keyS p.1) → ∃ d, getD ds k = some d ∧ ∃ p ∈ ds, p.2 = d
  | [], _, h => by simp at h
  | (a, x) :: r, k, h => by
    by_cases e : keyS a = k
    · exact ⟨x, by simp [getD, e], (a, x), by simp, rfl⟩
    · simp only [List.map_cons, List.mem_cons] at h
      rcases h with h | h
      · exact absurd h.symm e
      · obtain ⟨d, h1, p, h2, h3⟩ := getD_mem r k h
        exact ⟨d, by simpa [getD, e] using h1, p, by simp [h2], h3⟩
/-! ## the values that are drawn: of depth at most n -/
def okS (m : Nat) (x : Str) : Prop := x.length ≤ m ∧ ∀ c ∈ x.cps.toList, c < 128
def Gd (b : Bool) : Nat → PyData → Prop
  | 0, .int i => b = true ∧ i = 0
  | 0, _ => False
  | _ + 1, .bool _ => True
  | _ + 1, .int i => -1000000000 ≤ i ∧ i ≤ 1000000000
  | _ + 1, .str x => okS 12 x
  | n + 1, .list xs => xs.length ≤ 8 ∧ ∀ x ∈ xs, Gd b n x
  | n + 1, .dict kvs => kvs.length ≤ 8 ∧ (∀ p ∈ kvs, p.1 = .str (keyS p.1) ∧ okS 8 (keyS p.1) ∧ Gd b n p.2) ∧ (kvs.map fun p => keyS p.1).Nodup ∧ (n = 0 → kvs = [])
  | _ + 1, .none => False
  | _ + 1, .tuple _ => False
variable {b : Bool}
theorem gd0 {d : PyData} (h : Gd b 0 d) : b = true ∧ d = .int 0 := by
  cases d with
  | int i => exact ⟨h.1, by rw [h.2]⟩
  | none => exact h.elim
  | bool _ => exact h.elim
  | str _ => exact h.elim
  | list _ => exact h.elim
  | tuple _ => exact h.elim
  | dict _ => exact h.elim
theorem Gd.up : ∀ {n : Nat} {d : PyData}, Gd b n d → Gd b (n + 1) d
  | 0, d, h => by
    obtain ⟨_, rfl⟩ := gd0 h
    exact ⟨by decide, by decide⟩
  | _ + 1, .bool _, h => h
  | _ + 1, .int i, h => h
  | _ + 1, .str x, h => h
  | n + 1, .list xs, h => ⟨h.1, fun x m => (h.2 x m).up⟩
  | n + 1, .dict kvs, h => ⟨h.1, fun p m => ⟨(h.2.1 p m).1, (h.2.1 p m).2.1, (h.2.1 p m).2.2.up⟩, h.2.2.1, fun z => nomatch z⟩
  | _ + 1, .none, h => h.elim
  | _ + 1, .tuple _, h => h.elim
theorem Gd.wide : ∀ {n : Nat} {d : PyData}, Gd false n d → Gd b n d
  | 0, _, h => by
    cases (gd0 h).1
  | _ + 1, .bool _, h => h
  | _ + 1, .int i, h => h
  | _ + 1, .str x, h => h
  | n + 1, .list xs, h => ⟨h.1, fun x m => (h.2 x m).wide⟩
  | n + 1, .dict kvs, h => ⟨h.1, fun p m => ⟨(h.2.1 p m).1, (h.2.1 p m).2.1, (h.2.1 p m).2.2.wide⟩, h.2.2⟩
  | _ + 1, .none, h => h.elim
  | _ + 1, .tuple _, h => h.elim
theorem Gd.le {n m : Nat} {d : PyData} (h : Gd b n d) (l : n ≤ m) : Gd b m d := by
  induction l with
  | refl => exact h
  | step _ ih => exact ih.up
/-! ## how long they are -/
theorem join_le (sep : Str) (B : Nat) : ∀ ts : List Str, (∀ t ∈ ts, t.length ≤ B) → (Str.join sep ts).length ≤ ts.length * (B + sep.length)
  | [], _ => by show (0 : Nat) ≤ _; omega
  | [x], h => by
    have := h x (by simp)
    show x.length ≤ 1 * (B + sep.length)
    omega
  | x :: y :: r, h => by
    have ih := join_le sep B (y :: r) fun t m => h t (List.mem_cons_of_mem _ m)
    have := h x (by simp)
    show (x ++ sep ++ Str.join sep (y :: r)).length ≤ _
    rw [strLen_append, strLen_append]
    simp only [List.length_cons] at ih ⊢
    rw [Nat.succ_mul]
    omega
def bnd : Nat → Nat
  | 0 => 1
  | 1 => 122
  | n + 2 => 690 + 8 * bnd (n + 1)
theorem bnd_ge : ∀ n : Nat, 122 ≤ bnd (n + 1)
  | 0 => Nat.le_refl _
  | n + 1 => by show 122 ≤ 690 + 8 * bnd (n + 1); omega
theorem bnd_le {n : Nat} (h : n ≤ 6) : bnd n ≤ 7300000 := by
  match n, h with
  | 0, _ => decide
  | 1, _ => decide
  | 2, _ => decide
  | 3, _ => decide
  | 4, _ => decide
  | 5, _ => decide
  | 6, _ => decide
theorem all0 : ∀ {xs : List PyData}, (∀ x ∈ xs, Gd b 0 x) → xs = List.replicate xs.length (.int 0)
  | [], _ => rfl
  | x :: r, h => by
    obtain ⟨_, e⟩ := gd0 (h x (by simp))
    have ih := all0 (xs := r) fun y m => h y (by simp [m])
    rw [List.length_cons, List.replicate_succ, ← ih, e]
theorem int_len {i : Int} (h0 : -1000000000 ≤ i) (h1 : i ≤ 1000000000) : (Str.ofString (toString i)).length ≤ 11 := by
  have e : (10 : Nat) ^ 10 = 10000000000 := by decide
  have := int_text_length_le10 (a := i) (k := 10) (by decide) (by rw [e]; omega)
  rw [PySem.ofString_length]
  exact this
theorem quo_len (x : Str) : (quo x).length = x.length + 2 := by
  unfold quo; rw [strLen_append, strLen_append]
  show 1 + x.length + 1 = x.length + 2
  omega
theorem sortS_nil : sortS [] = [] := by simp [sortS]
theorem doc_len : ∀ {n : Nat} {d : PyData}, Gd b n d → (doc d).length ≤ bnd n
  | 0, _, h => by
    obtain ⟨_, rfl⟩ := gd0 h
    simp only [doc]
    decide +kernel
  | n + 1, .bool b, _ => by
    have := bnd_ge n
    cases b
    · show 5 ≤ _; omega
    · show 4 ≤ _; omega
  | n + 1, .int i, h => by
    have := bnd_ge n
    have := int_len h.1 h.2
    simp only [doc]; omega
  | n + 1, .str x, h => by
    have := bnd_ge n
    have := h.1
    simp only [doc]; rw [quo_len]; omega
  | 1, .list xs, h => by
    have z := join_le "," 1 (docAll xs) fun t m => by
      obtain ⟨x, hx, e⟩ := docAll_mem xs t m
      obtain ⟨_, ex⟩ := gd0 (h.2 x hx)
      rw [e, ex]
      simp only [doc]
      decide +kernel
    rw [docAll_len] at z
    have e1 : (Str.ofString ",").length = 1 := rfl
    rw [e1] at z
    have := h.1
    simp only [doc]
    rw [strLen_append, strLen_append]
    show 1 + _ + 1 ≤ 122
    omega
  | n + 2, .list xs, h => by
    have z := join_le "," (bnd (n + 1)) (docAll xs) fun t m => by
      obtain ⟨x, hx, e⟩ := docAll_mem xs t m
      rw [e]
      exact doc_len (h.2 x hx)
    rw [docAll_len] at z
    have e1 : (Str.ofString ",").length = 1 := rfl
    rw [e1] at z
    have z2 : xs.length * (bnd (n + 1) + 1) ≤ 8 * (bnd (n + 1) + 1) := Nat.mul_le_mul_right _ h.1
    simp only [doc]
    rw [strLen_append, strLen_append]
    show 1 + _ + 1 ≤ 690 + 8 * bnd (n + 1)
    omega
  | 1, .dict kvs, h => by
    cases h.2.2.2 rfl
    simp only [doc, List.map_nil, sortS_nil]
    show 2 ≤ 122
    decide
  | n + 2, .dict kvs, h => by
    have z := join_le "," (bnd (n + 1) + 11) ((sortS (kvs.map fun p => keyS p.1)).map (memS (docKv kvs))) fun t m => by
      obtain ⟨k, hk, rfl⟩ := List.mem_map.mp m
      have hk' := (sortS_perm _).mem_iff.mp hk
      obtain ⟨d, hd, p, hp, ep⟩ := getD_mem kvs k hk'
      obtain ⟨q, hq, eq⟩ := List.mem_map.mp hk'
      have hl := (h.2.1 q hq).2.1.1
      rw [eq] at hl
      have hx := doc_len (h.2.1 p hp).2.2
      rw [ep] at hx
      unfold memS
      rw [strLen_append, strLen_append, quo_len, lookS_get kvs k d hd]
      have e1 : (Str.ofString ":").length = 1 := rfl
      rw [e1]
      omega
    rw [List.length_map, (sortS_perm _).length_eq, List.length_map] at z
    have e1 : (Str.ofString ",").length = 1 := rfl
    rw [e1] at z
    have z2 : kvs.length * (bnd (n + 1) + 11 + 1) ≤ 8 * (bnd (n + 1) + 11 + 1) := Nat.mul_le_mul_right _ h.1
    simp only [doc]
    rw [strLen_append, strLen_append]
    show 1 + _ + 1 ≤ 690 + 8 * bnd (n + 1)
    omega
  | _ + 1, .none, h => h.elim
  | _ + 1, .tuple _, h => h.elim
/-! ## how long their reprs are -/
theorem rep_len {m : Nat} {x : Str} (h : okS m x) : (reprText x).length ≤ 10 * m + 2 := by
  have := PySem.StrLaws.reprText_len x fun c hc => Nat.lt_of_lt_of_le (h.2 c hc) (by decide)
  have := h.1
  omega
theorem lsum_le (B : Nat) : ∀ ts : List Str, (∀ t ∈ ts, t.length ≤ B) → (ts.map (·.length)).sum ≤ ts.length * B
  | [], _ => by simp
  | x :: r, h => by
    have ih := lsum_le B r fun t m => h t (List.mem_cons_of_mem _ m)
    have := h x (by simp)
    simp only [List.map_cons, List.sum_cons, List.length_cons, Nat.succ_mul]
    omega
theorem shownAll_mem : ∀ (xs : List PyData) (t : Str), t ∈ PyData.shownAll xs → ∃ x ∈ xs, t = x.shown
  | [], _, h => by simp [PyData.shownAll] at h
  | y :: r, t, h => by
    simp only [PyData.shownAll, List.mem_cons] at h
    rcases h with rfl | h
    · exact ⟨y, by simp, rfl⟩
    · obtain ⟨x, hx, e⟩ := shownAll_mem r t h
      exact ⟨x, by simp [hx], e⟩
theorem shownAll_len : ∀ xs : List PyData, (PyData.shownAll xs).length = xs.length
  | [] => by simp [PyData.shownAll]
  | x :: r => by simp [PyData.shownAll, shownAll_len r]
theorem shownKv_mem : ∀ (xs : List (PyData × PyData)) (t : Str), t ∈ PyData.shownKv xs → ∃ p ∈ xs, t = p.1.shown ++ ": " ++ p.2.shown
  | [], _, h => by simp [PyData.shownKv] at h
  | (a, b) :: r, t, h => by
    simp only [PyData.shownKv, List.mem_cons] at h
    rcases h with rfl | h
    · exact ⟨(a, b), by simp, rfl⟩
    · obtain ⟨x, hx, e⟩ := shownKv_mem r t h
      exact ⟨x, by simp [hx], e⟩
theorem shownKv_len : ∀ xs : List (PyData × PyData), (PyData.shownKv xs).length = xs.length
  | [] => by simp [PyData.shownKv]
  | (a, b) :: r => by simp [PyData.shownKv, shownKv_len r]
theorem shown_len : ∀ {n : Nat} {d : PyData}, Gd b n d → d.shown.length ≤ bnd n
  | 0, _, h => by
    obtain ⟨_, rfl⟩ := gd0 h
    simp only [PyData.shown]
    decide +kernel
  | n + 1, .bool b, _ => by
    have := bnd_ge n
    cases b
    · simp only [PyData.shown]; show 5 ≤ _; omega
    · simp only [PyData.shown]; show 4 ≤ _; omega
  | n + 1, .int i, h => by
    have := bnd_ge n
    have := int_len h.1 h.2
    simp only [PyData.shown]; omega
  | n + 1, .str x, h => by
    have := bnd_ge n
    have := rep_len h
    simp only [PyData.shown]; omega
  | 1, .list xs, h => by
    have z := lsum_le 1 (PyData.shownAll xs) fun t m => by
      obtain ⟨x, hx, e⟩ := shownAll_mem xs t m
      obtain ⟨_, ex⟩ := gd0 (h.2 x hx)
      rw [e, ex]
      simp only [PyData.shown]
      decide +kernel
    have z1 := textFrom_len_le (PyData.shownAll xs) 0 "["
    rw [shownAll_len] at z z1
    have e1 : (Str.ofString "[").length = 1 := rfl
    rw [e1] at z1
    have := h.1
    simp only [PyData.shown]
    unfold listText
    rw [strLen_append]
    show _ + 1 ≤ 122
    omega
  | n + 2, .list xs, h => by
    have z := lsum_le (bnd (n + 1)) (PyData.shownAll xs) fun t m => by
      obtain ⟨x, hx, e⟩ := shownAll_mem xs t m
      rw [e]
      exact shown_len (h.2 x hx)
    have z1 := textFrom_len_le (PyData.shownAll xs) 0 "["
    rw [shownAll_len] at z z1
    have z2 : xs.length * bnd (n + 1) ≤ 8 * bnd (n + 1) := Nat.mul_le_mul_right _ h.1
    have e1 : (Str.ofString "[").length = 1 := rfl
    rw [e1] at z1
    have := h.1
    simp only [PyData.shown]
    unfold listText
    rw [strLen_append]
    show _ + 1 ≤ 690 + 8 * bnd (n + 1)
    omega
  | 1, .dict kvs, h => by
    cases h.2.2.2 rfl
    simp only [PyData.shown, PyData.shownKv]
    show 2 ≤ 122
    decide
  | n + 2, .dict kvs, h => by
    have z := join_le ", " (bnd (n + 1) + 84) (PyData.shownKv kvs) fun t m => by
      obtain ⟨p, hp, e⟩ := shownKv_mem kvs t m
      obtain ⟨g1, g2, g3⟩ := h.2.1 p hp
      have hx := shown_len g3
      have hk := rep_len g2
      rw [e, strLen_append, strLen_append, g1]
      simp only [PyData.shown]
      have e1 : (Str.ofString ": ").length = 2 := rfl
      rw [e1]
      omega
    rw [shownKv_len] at z
    have e1 : (Str.ofString ", ").length = 2 := rfl
    rw [e1] at z
    have z2 : kvs.length * (bnd (n + 1) + 84 + 2) ≤ 8 * (bnd (n + 1) + 84 + 2) := Nat.mul_le_mul_right _ h.1
    simp only [PyData.shown]
    unfold dictText
    rw [strLen_append, strLen_append]
    show 1 + _ + 1 ≤ 690 + 8 * bnd (n + 1)
    omega
  | _ + 1, .none, h => h.elim
  | _ + 1, .tuple _, h => h.elim
theorem all_show : ∀ xs : List PyData, (∀ x ∈ xs, x.showable = true) → PyData.showableAll xs = true
  | [], _ => by simp [PyData.showableAll]
  | x :: r, h => by simp [PyData.showableAll, h x (by simp), all_show r fun y m => h y (by simp [m])]
theorem kv_show : ∀ xs : List (PyData × PyData), (∀ p ∈ xs, p.1.showable = true ∧ p.2.showable = true) → PyData.showableKv xs = true
  | [], _ => by simp [PyData.showableKv]
  | (a, b) :: r, h => by
    have := h (a, b) (by simp)
    simp [PyData.showableKv, this.1, this.2, kv_show r fun y m => h y (by simp [m])]
theorem Gd.show : ∀ {n : Nat} {d : PyData}, Gd b n d → d.showable = true
  | 0, _, h => by
    obtain ⟨_, rfl⟩ := gd0 h
    decide +kernel
  | n + 1, .bool b, _ => by simp [PyData.showable]
  | n + 1, .int i, h => by
    have : i.natAbs.log2 < 1920 := by
      have h1 : i.natAbs < 2 ^ 1920 := Nat.lt_of_le_of_lt (show i.natAbs ≤ 1000000000 by have := h.1; have := h.2; omega) (by decide)
      exact PySem.Flt.log2_lt_of (by decide) h1
    simpa [PyData.showable] using this
  | n + 1, .str x, h => by simp [PyData.showable]
  | n + 1, .list xs, h => by
    simp only [PyData.showable]
    exact all_show xs fun x m => (h.2 x m).show
  | n + 1, .dict kvs, h => by
    simp only [PyData.showable]
    refine kv_show kvs fun p m => ?_
    obtain ⟨g1, _, g3⟩ := h.2.1 p m
    exact ⟨by rw [g1]; simp [PyData.showable], g3.show⟩
  | _ + 1, .none, h => h.elim
  | _ + 1, .tuple _, h => h.elim
theorem depthAll_le {n : Nat} : ∀ xs : List PyData, (∀ x ∈ xs, x.depth ≤ n) → PyData.depthAll xs ≤ n
  | [], _ => by simp [PyData.depthAll]
  | x :: r, h => by
    have := h x (by simp)
    have := depthAll_le r fun y m => h y (by simp [m])
    simp only [PyData.depthAll]; omega
theorem depthKv_le {n : Nat} : ∀ xs : List (PyData × PyData), (∀ p ∈ xs, p.1.depth ≤ n ∧ p.2.depth ≤ n) → PyData.depthKv xs ≤ n
  | [], _ => by simp [PyData.depthKv]
  | (a, b) :: r, h => by
    obtain ⟨g1, g2⟩ := h (a, b) (by simp)
    simp only at g1 g2
    have := depthKv_le r fun y m => h y (by simp [m])
    simp only [PyData.depthKv]; omega
theorem Gd.depth : ∀ {n : Nat} {d : PyData}, Gd b n d → d.depth ≤ n
  | 0, _, h => by
    obtain ⟨_, rfl⟩ := gd0 h
    simp [PyData.depth]
  | n + 1, .bool b, _ => by simp [PyData.depth]
  | n + 1, .int i, h => by simp [PyData.depth]
  | n + 1, .str x, h => by simp [PyData.depth]
  | n + 1, .list xs, h => by
    have := depthAll_le xs fun x m => (h.2 x m).depth
    simp only [PyData.depth]; omega
  | n + 1, .dict kvs, h => by
    have := depthKv_le (n := n) kvs fun p m => by
      obtain ⟨g1, _, g3⟩ := h.2.1 p m
      exact ⟨by rw [g1]; simp [PyData.depth], g3.depth⟩
    simp only [PyData.depth]; omega
  | _ + 1, .none, h => h.elim
  | _ + 1, .tuple _, h => h.elim
end Sk

/-! isinstance of data. -/
namespace Sk
open PySem PySem.Spec PyProof.Rows L2 Evl
theorem kbb : kitB "bool" "bool" = some true := by decide +kernel
theorem kbi : kitB "bool" "int" = some true := by decide +kernel
theorem kbs : kitB "bool" "str" = some false := by decide +kernel
theorem kbl : kitB "bool" "list" = some false := by decide +kernel
theorem kbd : kitB "bool" "dict" = some false := by decide +kernel
theorem kbt : kitB "bool" "tuple" = some false := by decide +kernel
theorem kib : kitB "int" "bool" = some false := by decide +kernel
theorem kii : kitB "int" "int" = some true := by decide +kernel
theorem kis : kitB "int" "str" = some false := by decide +kernel
theorem kil : kitB "int" "list" = some false := by decide +kernel
theorem kid : kitB "int" "dict" = some false := by decide +kernel
theorem kit : kitB "int" "tuple" = some false := by decide +kernel
theorem ksb : kitB "str" "bool" = some false := by decide +kernel
theorem ksi : kitB "str" "int" = some false := by decide +kernel
theorem kss : kitB "str" "str" = some true := by decide +kernel
theorem ksl : kitB "str" "list" = some false := by decide +kernel
theorem ksd : kitB "str" "dict" = some false := by decide +kernel
theorem kst : kitB "str" "tuple" = some false := by decide +kernel
theorem klb : kitB "list" "bool" = some false := by decide +kernel
theorem kli : kitB "list" "int" = some false := by decide +kernel
theorem kls : kitB "list" "str" = some false := by decide +kernel
theorem kll : kitB "list" "list" = some true := by decide +kernel
theorem kld : kitB "list" "dict" = some false := by decide +kernel
theorem klt : kitB "list" "tuple" = some false := by decide +kernel
theorem kdb : kitB "dict" "bool" = some false := by decide +kernel
theorem kdi : kitB "dict" "int" = some false := by decide +kernel
theorem kds : kitB "dict" "str" = some false := by decide +kernel
theorem kdl : kitB "dict" "list" = some false := by decide +kernel
theorem kdd : kitB "dict" "dict" = some true := by decide +kernel
theorem kdt : kitB "dict" "tuple" = some false := by decide +kernel
theorem ktb : kitB "tuple" "bool" = some false := by decide +kernel
theorem kti : kitB "tuple" "int" = some false := by decide +kernel
theorem kts : kitB "tuple" "str" = some false := by decide +kernel
theorem ktl : kitB "tuple" "list" = some false := by decide +kernel
theorem ktd : kitB "tuple" "dict" = some false := by decide +kernel
theorem ktt : kitB "tuple" "tuple" = some true := by decide +kernel
def tyD : PyData → String
  | .none => "NoneType"
  | .bool _ => "bool"
  | .int _ => "int"
  | .str _ => "str"
  | .list _ => "list"
  | .tuple _ => "tuple"
  | .dict _ => "dict"
theorem Dq.ty {K : PySem.W.Frag} {H : Hp} : ∀ {v : V} {d : PyData}, Dq H v d → TyX K H v (.type (tyD d))
  | _, _, .non => .base .non
  | _, _, .bl b => .base (.bl b)
  | _, _, .int i => .base (.int i)
  | _, _, .str x => .base (.str x)
  | _, _, .lst e _ => .base (.lst e)
  | _, _, .tup e _ => .base (.tup e)
  | _, _, .dct e _ => .base (.dK e)
theorem call_isD {X : Cx} : CallR X (.builtin "isinstance") (fun xs H Q => ∃ x T d b, xs = [x, .ty T] ∧ Dq H x d ∧ kitB (tyD d) T = some b ∧ Q (.bl b) H) := by
  intro pins s σ H xs us Q I r h
  obtain ⟨x, T, d, b, rfl, hd, hk, q⟩ := h
  exact call_isi pins s σ H _ us Q I r ⟨x, .ty T, _, _, b, rfl, .ty T, hd.ty, kit_ty hk, q⟩
theorem tyes {σ : L2.St} {H : Hp} {A B : Hp → Prop} (h : A H) : tYes σ H fun b H3 => if b = true then A H3 else B H3 := by
  show (if true = true then A H else B H)
  rw [if_pos rfl]
  exact h
/-- a document read off -/
theorem Dq.lst_inv {H : Hp} {v : V} {xs : List PyData} (h : Dq H v (.list xs)) : ∃ a vs, v = .ref a ∧ H a = some (.lst vs) ∧ DqAll H vs xs := by
  cases h with
  | lst e r => exact ⟨_, _, rfl, e, r⟩
theorem Dq.dct_inv {H : Hp} {v : V} {xs : List (PyData × PyData)} (h : Dq H v (.dict xs)) : ∃ a vs, v = .ref a ∧ H a = some (.dK vs) ∧ DqKv H vs xs := by
  cases h with
  | dct e r => exact ⟨_, _, rfl, e, r⟩
theorem take_snoc {α : Type} {l : List α} {i : Nat} {x : α} (h : l[i]? = some x) : l.take (i + 1) = l.take i ++ [x] := by
  rw [List.take_add_one, h]; rfl
end Sk

/-! xs[::k]; texts of one sign joined; a dict with one more name. -/
namespace Sk
open PySem PySem.Spec PyProof.Rows L2 Evl
theorem vals_pick {xs : List V} {us : List Value} (r : Vals xs us) : ∀ L : List Nat, Vals (L.filterMap (xs[·]?)) (L.filterMap (us[·]?))
  | [] => .nil
  | i :: L => by
    have ih := vals_pick r L
    simp only [List.filterMap_cons]
    cases h : xs[i]? with
    | none => rw [r.none_of h]; exact ih
    | some x =>
      obtain ⟨u, e, ru⟩ := r.get h
      rw [e]
      exact .cons ru ih
theorem pick_mem {xs : List V} (L : List Nat) : ∀ z ∈ L.filterMap (xs[·]?), z ∈ xs := by
  intro z h
  obtain ⟨i, _, e⟩ := List.mem_filterMap.mp h
  exact List.mem_of_getElem? e
def tStep (K : PySem.W.Frag) (te tk : TE) : TE := fun σ H Q => te σ H fun x H1 => tk σ H1 fun y H2 => ∃ a xs k, x = .ref a ∧ y = .int k ∧ k ≠ 0 ∧ SqL K H2 a xs ∧
  ∀ p zs, H2 p = none → (∀ z ∈ zs, z ∈ xs) → zs.length ≤ xs.length → Q (.ref p) (upd H2 p (.lst zs))
theorem pe_step {X : Cx} {e k : Expr} {te tk : TE} {p3 pos : Pos} (he : PE X e te) (hk : PE X k tk) : PE X (.Subscript e (.Slice none none (some k) p3) pos) (tStep X.K te tk) := by
  refine ⟨fun pins s σ H Q I h => Subscript_ (thn (he.run pins s σ H _ I h) fun v s1 ⟨x, H1, I1, r1, q1⟩ => ?_)⟩
  refine wpAny_Slice (thn (po_none.run pins s1 σ H1 (fun o H2 => o = none ∧ H2 = H1) I1 ⟨rfl, rfl⟩) fun vl s2 ⟨l, H2, I2, pl, el, e2⟩ => ?_)
  cases el
  cases e2
  refine thn (po_none.run pins s2 σ H1 (fun o H2 => o = none ∧ H2 = H1) I2 ⟨rfl, rfl⟩) fun vu s3 ⟨l, H2, I3, pu, el, e2⟩ => ?_
  cases el
  cases e2
  rw [evalPart_some]
  refine thn (hk.run pins s3 σ H1 _ I3 q1) fun vk s4 ⟨y, H4, I4, r4, a, xs, n, ex, ey, hn, hs, q⟩ => ?_
  subst ex
  subst ey
  cases r1
  obtain ⟨t, rfl⟩ := r4
  let s5 : Shared := { s4 with heap := s4.heap.push { cls := .type "slice", data := .fields #[vl, vu, .int n t] } }
  have I5 : Inv X pins σ H4 s5 := I4.kept (t' := s4.toks) fun b ob z => Heap.get?_push_of_some _ z
  obtain ⟨its, r, ht, hz⟩ := I5.list hs
  have hlen := r.length
  show wpAny (model X.prog X.w) X.A (subscriptTail e (.Slice none none (some k) p3) (.ref a) (.ref s4.heap.objs.size)) (EP X pins σ Q) X.xe s5
  refine tail_any (ops := [.ref a, .ref s4.heap.objs.size]) ht.isList.typeIs PySem.slot_list_getitem.lookup ?_ (by with_unfolding_all rfl)
  refine wpAny_getItem_list_slice ht.isList (.new _ vl vu _) pl pu (.int n t) (fun z => hn (Option.some.inj z)) ?_ (by rw [List.size_toArray]; omega)
  have hsz := slicePick_size_le its.toArray none none (some n)
  rw [List.size_toArray] at hsz
  generalize hL : sliceRange (sliceBounds none none (some n) its.toArray.size).1 (sliceBounds none none (some n) its.toArray.size).2.1 (sliceBounds none none (some n) its.toArray.size).2.2 = L
  have e1 : slicePick its.toArray none none (some n) = (L.filterMap (its[·]?)).toArray := by
    unfold slicePick
    rw [hL]
    simp
  rw [e1, List.size_toArray] at hsz
  rw [e1]
  have hsz2 : (L.filterMap (its[·]?)).length ≤ its.length := hsz
  have rz := vals_pick r L
  have hl2 := rz.length
  refine ⟨.ref _, _, I5.laid (t' := s4.toks) (o := .lst (L.filterMap (xs[·]?))) (fun b ob z => Heap.get?_push_of_some _ z) (Nat.le_refl _) ?_, rfl, q _ _ (I5.hok.fresh (Nat.le_refl _)) (pick_mem L) (by rw [hl2, hlen]; exact hsz2)⟩
  exact ⟨by rw [hl2]; exact Nat.le_trans hsz2 (by rw [← hlen]; exact hz), _, 0, rz, Heap.get?_push_size _ rfl⟩
/-! ## one sign each, joined -/
def one (c : Nat) : Str := ⟨#[c]⟩
theorem tl_app (a b : Str) : (a ++ b).cps.toList = a.cps.toList ++ b.cps.toList := by
  show (a.cps ++ b.cps).toList = _
  simp
theorem join_one : ∀ cs : List Nat, (Str.join Str.empty (cs.map one)).cps.toList = cs
  | [] => rfl
  | [c] => rfl
  | c :: d :: r => by
    have ih := join_one (d :: r)
    show ((one c ++ Str.empty) ++ Str.join Str.empty ((d :: r).map one)).cps.toList = c :: d :: r
    rw [tl_app, tl_app, ih]
    rfl
theorem sum_one : ∀ cs : List Nat, ((cs.map one).map (·.length)).sum = cs.length
  | [] => rfl
  | c :: r => by
    have ih := sum_one r
    simp only [List.map_cons, List.sum_cons, List.length_cons]
    rw [ih]
    show 1 + r.length = r.length + 1
    omega
/-! ## a name put into a record -/
def putD (ds : List (PyData × PyData)) (k : Str) (d : PyData) : List (PyData × PyData) :=
  if (ds.any fun p => decide (keyS p.1 = k)) = true then ds.map (fun p => if keyS p.1 = k then (p.1, d) else p) else ds ++ [(.str k, d)]
theorem any_keys {H : Hp} {k : Str} : ∀ {kvs ds}, DqKv H kvs ds → (kvs.any fun kv => decide (kv.1 = (.inr k : Key))) = ds.any fun p => decide (keyS p.1 = k)
  | _, _, .nil => rfl
  | _, _, .cons (k := k') x r => by
    simp only [List.any_cons, any_keys r, keyS]
    congr 1
    by_cases e : k' = k
    · simp [e]
    · have : ¬ (Sum.inr k' : Key) = Sum.inr k := fun z => e (Sum.inr.inj z)
      simp [e]
theorem map_put {H : Hp} {k : Str} {v : V} {d : PyData} (h : Dq H v d) : ∀ {kvs : List (Key × V)} {ds : List (PyData × PyData)}, DqKv H kvs ds → DqKv H (kvs.map fun kv => if kv.1 = (.inr k : Key) then (kv.1, v) else kv) (ds.map fun p => if keyS p.1 = k then (p.1, d) else p)
  | _, _, .nil => .nil
  | _, _, .cons (k := k') x r => by
    have ih := map_put (k := k) h r
    by_cases e : k' = k
    · subst e
      simp only [List.map_cons]
      rw [if_pos trivial, if_pos (show keyS (PyData.str k') = k' from rfl)]
      exact .cons h ih
    · have e2 : ¬ (Sum.inr k' : Key) = Sum.inr k := fun z => e (Sum.inr.inj z)
      simp only [List.map_cons]
      rw [if_neg e2, if_neg (show ¬ keyS (PyData.str k') = k from e)]
      exact .cons x ih
theorem snoc_put {H : Hp} {k : Str} {v : V} {d : PyData} (h : Dq H v d) : ∀ {kvs ds}, DqKv H kvs ds → DqKv H (kvs ++ [(.inr k, v)]) (ds ++ [(.str k, d)])
  | _, _, .nil => .cons h .nil
  | _, _, .cons x r => .cons x (snoc_put h r)
theorem DqKv.put {H : Hp} {k : Str} {v : V} {d : PyData} {kvs ds} (r : DqKv H kvs ds) (h : Dq H v d) : DqKv H (putK kvs (.inr k) v) (putD ds k d) := by
  unfold putK putD
  rw [any_keys r]
  split
  · exact map_put h r
  · exact snoc_put h r
theorem putD_len (ds : List (PyData × PyData)) (k : Str) (d : PyData) : (putD ds k d).length ≤ ds.length + 1 := by
  unfold putD
  split <;> simp
theorem putD_keys (ds : List (PyData × PyData)) (k : Str) (d : PyData) : (putD ds k d).map (fun p => keyS p.1) = if k ∈ ds.map (fun p => keyS p.1) then ds.map (fun p => keyS p.1) else ds.map (fun p => keyS p.1) ++ [k] := by
  unfold putD
  by_cases h : k ∈ ds.map fun p => keyS p.1
  · have h' : (ds.any fun p => decide (keyS p.1 = k)) = true := by
      obtain ⟨p, hp, e⟩ := List.mem_map.mp h
      exact List.any_eq_true.mpr ⟨p, hp, by simp [e]⟩
    rw [if_pos h, if_pos h', List.map_map]
    refine List.map_congr_left fun p hp => ?_
    simp only [Function.comp]
    split <;> rfl
  · have h' : ¬ (ds.any fun p => decide (keyS p.1 = k)) = true := fun z => by
      obtain ⟨p, hp, e⟩ := List.any_eq_true.mp z
      exact h (List.mem_map.mpr ⟨p, hp, by simpa using e⟩)
    rw [if_neg h, if_neg h', List.map_append]
    rfl
/-- the parts of a record: whatever it has -/
def GdK (b : Bool) (n m : Nat) (ds : List (PyData × PyData)) : Prop := ds.length ≤ m ∧ (∀ p ∈ ds, p.1 = .str (keyS p.1) ∧ okS 8 (keyS p.1) ∧ Gd b n p.2) ∧ (ds.map fun p => keyS p.1).Nodup
theorem GdK.nil {b : Bool} {n : Nat} : GdK b n 0 [] := ⟨Nat.le_refl _, (fun _ h => nomatch h), by simp⟩
theorem GdK.put {b : Bool} {n m : Nat} {ds : List (PyData × PyData)} (g : GdK b n m ds) {k : Str} {d : PyData} (hk : okS 8 k) (hd : Gd b n d) : GdK b n (m + 1) (putD ds k d) := by
  refine ⟨?_, ?_, ?_⟩
  · have := putD_len ds k d
    have := g.1
    omega
  · intro p hp
    unfold putD at hp
    split at hp
    · obtain ⟨q, hq, rfl⟩ := List.mem_map.mp hp
      have z := g.2.1 q hq
      split
      · exact ⟨z.1, z.2.1, hd⟩
      · exact z
    · rcases List.mem_append.mp hp with hp | hp
      · exact g.2.1 p hp
      · cases List.mem_singleton.mp hp
        exact ⟨rfl, hk, hd⟩
  · rw [putD_keys]
    split
    · exact g.2.2
    · rename_i h
      exact List.nodup_append.mpr ⟨g.2.2, by simp, fun a ha b hb e => by
        cases List.mem_singleton.mp hb
        exact h (e ▸ ha)⟩
end Sk

/-! What is new between two heaps. -/
namespace Sk
open PySem PySem.Spec PyProof.Rows L2 Evl
def Nw (G H : Hp) : Hp := fun a => if G a = none then H a else none
theorem nw_some {G H : Hp} {a : Addr} {o : HO} (h : Nw G H a = some o) : G a = none ∧ H a = some o := by
  unfold Nw at h
  split at h
  · exact ⟨by assumption, h⟩
  · cases h
theorem nw_of {G H : Hp} {a : Addr} {o : HO} (n : G a = none) (h : H a = some o) : Nw G H a = some o := by
  unfold Nw; rw [if_pos n]; exact h
theorem nw_le {G H : Hp} : Ex (Nw G H) H := fun _ _ h => (nw_some h).2
theorem nw_ne {G H : Hp} {st a : Addr} {o : HO} (s : Strm st G) (h : Nw G H a = some o) : a ≠ st := by
  obtain ⟨u, e⟩ := s.some
  intro z; subst z
  rw [(nw_some h).1] at e; cases e
theorem nw_hd {G H : Hp} {st : Addr} (s : Strm st G) : Ex (Nw G H) (Hd st H) := fun a o h => hd_of (nw_ne s h) (nw_some h).2
theorem nw_aft {G H H' : Hp} {st : Addr} (s : Strm st G) (a : Aft st H H') : Ex (Nw G H) (Nw G H') := fun b o h => nw_of (nw_some h).1 (a.at (nw_ne s h) (nw_some h).2)
theorem nw_back {G G' H : Hp} (d : ∀ a, G' a = none → G a = none) : Ex (Nw G' H) (Nw G H) := fun b o h => nw_of (d b (nw_some h).1) (nw_some h).2
theorem Aft.none {H H' : Hp} {st : Addr} (a : Aft st H H') {b : Addr} (h : H' b = none) : H b = none := by
  obtain ⟨u, e⟩ := a.sm.some
  have n : b ≠ st := by intro z; subst z; rw [h] at e; cases e
  cases q : H b with
  | none => rfl
  | some o => rw [a.at n q] at h; cases h
theorem nw_upd {G H : Hp} {b : Addr} {o u : HO} (h : G b = some u) : Nw G (upd H b o) = Nw G H := by
  funext a
  unfold Nw
  split
  · rename_i z
    exact upd_ne (by intro e; subst e; rw [h] at z; cases z)
  · rfl
theorem nw_new {G H : Hp} {b : Addr} {o : HO} (h : H b = none) : Ex (Nw G H) (Nw G (upd H b o)) := fun a u e => nw_of (nw_some e).1 (by rw [upd_ne (ne_of_none (nw_some e).2 h)]; exact (nw_some e).2)
theorem upd_none {H : Hp} {a b : Addr} {o : HO} (h : upd H b o a = none) : H a = none := by
  unfold upd at h
  split at h
  · cases h
  · exact h
end Sk

/-! A call by names alone. -/
namespace Sk
open PySem PySem.Spec PyProof.Rows L2 Evl
theorem pe_callK0 {X : Cx} {CX : CXT} {k : Nat} {f : Addr} {fd : FuncData} {ps ks : List Str} {sp : Sp} {E : XK} {x : Str} {p pos : Pos} {kws : List Keyword} {tk : TA} {g : List Value → List Value → List Value} {gV : List V → List V → List V} (F : FnOk X.prog X.w X.K X.mg X.base CX k f fd ps sp)
    (hr : Room k X.A) (hg : Gl X x) (hm : X.mg x = some (.ref f)) (hk : PySem.W.keepIn X.K (.ref f) = true) (hb : KBinds X.K fd ps ks g gV) (hx : Passes CX X E) (hkw : PK X kws tk) (hall : (backToKw pos (keywordEach kws X.env)).all (·.1.isSome) = true := by rfl)
    (hks : (backToKw pos (keywordEach kws X.env)).filterMap (·.1) = ks := by rfl) (hdb : (x == ("__debug__" : Str)) = false := by decide)
    (hpl : ((backTo pos (starEach [] X.env)).any (·.1) || (backToKw pos (keywordEach kws X.env)).any (·.1.isNone)) = false := by rfl) : PE X (.Call (.Name x p) [] kws pos) (tCallK sp gV E tNil tk) := by
  refine ⟨fun pins s σ H Q I h => wpAny_Call_Name_kw (ld_glob I hg hm (PySem.W.callWith_KW0 (h₀ := X.base) I.ok.mod.kin hk hall (thn (hkw.run pos pins s σ H _ I h) fun ws s2 ⟨zs, H2, I2, rz, q2⟩ => ⟨I2.kIn, ?_⟩) hpl) hdb)⟩
  rw [hks]
  exact run_fnk (us := []) (vs := []) F hr hb hx I2 .nil rz q2
def gNoPos {α : Type} (us ws : List α) : List α := if us.isEmpty = true then ws else []
theorem kb_of {K : PySem.W.Frag} {x qual : Str} {st : Stmt} {f : Addr} {fd : FuncData} {ps ks : List Str} (F : Fun K x qual st f fd) (h0 : ps ≠ [])
    (h : ∀ (kV doc pm : Value) (an : Option Addr) (cdv ct : Value) (ws : List Value), ws.length = ps.length → bindArgs (PySem.W.fnOf x qual (defArgs st) (defBody st) (defScope st) .none kV doc pm an cdv ct) ⟨[], ks.zip ws⟩ = pure (ps.zip ws)) : KBinds K fd ps ks gNoPos gNoPos := by
  obtain ⟨oc, od, kV, doc, pm, an, cdv, ct, osl, rfl, lk, hcd⟩ := F.ex
  refine ⟨fun s us ws _ hl => ?_, fun {vs us zs ws} r rz => ?_⟩
  · unfold gNoPos at hl ⊢
    cases us with
    | nil => exact .of_eq (h kV doc pm an cdv ct ws hl)
    | cons u us =>
      cases ps with
      | nil => exact absurd rfl h0
      | cons p ps => simp at hl
  · cases r with
    | nil => exact rz
    | cons _ _ => exact .nil
end Sk

namespace Sk
open PySem PySem.Spec PyProof.Rows L2 Evl
def topS (i : Nat) : Stmt := PySem.Challenge.pw_soonknown_k01_documents_of_values.main.body.getD i (.Pass ⟨0, 0, 0, 0⟩)
abbrev sStream : Stmt := topS 5
abbrev sDraw : Stmt := topS 6
abbrev sChoose : Stmt := topS 7
theorem scStream : FnScope ["script", "start", "seed", "number", "digits"] ["script", "start"] (defScope sStream) := ⟨rfl, rfl, rfl, by decide +kernel, rfl, by decide +kernel, by decide +kernel⟩
theorem scDraw : FnScope ["stream", "size", "found"] ["stream", "size"] (defScope sDraw) := ⟨rfl, rfl, rfl, by decide +kernel, rfl, by decide +kernel, by decide +kernel⟩
theorem scChoose : FnScope ["stream", "items"] ["stream", "items"] (defScope sChoose) := ⟨rfl, rfl, rfl, by decide +kernel, rfl, by decide +kernel, by decide +kernel⟩
/-- a source is made of the script -/
def spStream (K : PySem.W.Frag) : Sp := fun vs H Q _ => ∃ (a : Addr) (ns : List Int) (k : Int), vs = [.ref a, .int k] ∧ SqL K H a (ns.map V.int) ∧ ns.length ≤ 63 ∧ (∀ z ∈ ns, Builtin.Int.intBits z ≤ 1048576) ∧ 0 ≤ k ∧ k ≤ 100 ∧
  ∀ (st : Addr) (H' : Hp), H st = none → Ex H H' → Strm st H' → Q (.ref st) H'
/-- a draw: some number below the size -/
def spDraw : Sp := fun vs H Q _ => ∃ (st : Addr) (n : Int), vs = [.ref st, .int n] ∧ Strm st H ∧ 1 ≤ n ∧ n ≤ 1000000000 ∧
  ∀ (k : Int) (H' : Hp), 0 ≤ k → k < n → Aft st H H' → Q (.int k) H'
/-- a choice: some item -/
def Chs (K : PySem.W.Frag) (H : Hp) (x : V) (P : V → Prop) : Prop :=
  (∃ (a : Addr) (xs : List V), x = .ref a ∧ (SqL K H a xs ∨ SqT K H a xs) ∧ xs ≠ [] ∧ xs.length ≤ 100000 ∧ ∀ v ∈ xs, P v) ∨
  ∃ z : Str, x = .str z ∧ z.cps.toList ≠ [] ∧ z.length ≤ 100000 ∧ ∀ c ∈ z.cps.toList, P (.str ⟨#[c]⟩)
def spChoose (K : PySem.W.Frag) : Sp := fun vs H Q _ => ∃ (st : Addr) (x : V) (P : V → Prop), vs = [.ref st, x] ∧ Strm st H ∧ Chs K (Hd st H) x P ∧
  ∀ (v : V) (H' : Hp), P v → Aft st H H' → Q v H'
section
variable {P : Program} {w : World} {K : PySem.W.Frag} {mg : Str → Option Value} {base : Heap} {f g : Addr} {fd gd : FuncData}
theorem seed_next {s n : Int} (hs : 0 ≤ s ∧ s < 2 ^ 31) (hn : Builtin.Int.intBits n ≤ 1048576) : CMulW s 40127 ∧ CPowB (s * 40127 + n) 3 := by
  have h1 : s.natAbs < 2 ^ 31 := by omega
  have h2 : (40127 : Int).natAbs < 2 ^ 16 := by decide
  refine ⟨wide_mul h1 h2 (by decide) (by decide) (by decide), by decide, ?_⟩
  have h3 := abs_of_bits hn
  have h4 : (s * 40127).natAbs < 2 ^ (31 + 16) := wide_lt h1 h2
  have h5 : (2 : Nat) ^ (31 + 16) ≤ 2 ^ 1048576 := Nat.pow_le_pow_right (by decide) (by decide)
  have h6 : (s * 40127 + n).natAbs < 2 ^ 1048577 := by
    have e : (2 : Nat) ^ 1048577 = 2 ^ 1048576 + 2 ^ 1048576 := by rw [Nat.pow_succ]; omega
    rw [e]
    generalize (2 : Nat) ^ 1048576 = M at *
    omega
  have h7 := bits_of h6 (by decide)
  have e : ((2 : Int) ^ 27) = 134217728 := by decide
  rw [e]
  omega
theorem ok_stream {k : Nat} (F : Fun K "_law_stream" "_law_stream" sStream f fd) (ml : mg "len" = none) : FnOk P w K mg base CX0 (k + 1) f fd ["script", "start"] (spStream K) := by
  refine F.ok scStream (fun vs H Q E h => ?_) (fun cdv A outer s H vs Q E hr h => ?_)
  · obtain ⟨a, ns, k, rfl, _⟩ := h
    rfl
  obtain ⟨a, ns, k, rfl, hS, h63, hb, h0, h1, q⟩ := h
  have nd := scStream.nd
  refine ⟨_, pss_cons (ps_set (i := 2) nd rfl (Or.inl rfl) (pe_op op_add pe_int (pv 1)))
    (pss_cons (ps_for PassesOwn.never rfl (pi_list (pv 0)) (pg_name (i := 3) nd rfl (Or.inl rfl))
      (pss_one (ps_set (i := 2) nd rfl (Or.inl rfl) (pe_op op_add (pe_op op_mod (pe_op op_powB (pe_op op_add (pe_op op_mulW (pv 2) pe_int) (pv 3)) pe_int) pe_int) pe_int))))
    (pss_cons (ps_set (i := 4) nd rfl (Or.inl rfl) pe_int)
    (pss_cons (ps_if (PW.pt (pw_and (pt_cmpR op_lt (pv 1) (pe_callB call_len_seq rfl ml PySem.boot_len (pa_cons (pv 0) pa_nil)) (nomark _)) (pw_and1 (pt_cmpR op_ge (pe_ix ix_list (pv 0) (pv 1) (fun _ _ => rfl)) (pe_op op_powB pe_int pe_int) (nomark _)))))
      (pss_one (ps_set (i := 4) nd rfl (Or.inl rfl) (pe_op op_sub (pe_ix ix_list (pv 0) (pv 1) (fun _ _ => rfl)) (pe_op op_powB pe_int pe_int)))) pss_nil)
    (pss_one (ps_ret (pe_lst (pa_cons (pv 4) (pa_cons (pv 2) pa_nil)))))))), ?_⟩
  refine ⟨_, rfl, _, _, rfl, rfl, ?_⟩
  refine ⟨_, rfl, a, rfl, ⟨_, hS⟩, for_list (xs := ns.map V.int) (fun i σ H' => ∃ (s : Int) (y : Option V), σ = [some (.ref a), some (.int k), some (.int s), y, none] ∧ 0 ≤ s ∧ s < 2 ^ 31 ∧ H' = H) ⟨13 + k, none, rfl, by omega, by omega, rfl⟩ (fun i σ H' _ hp => ?_) (fun i x σ H' hx hp => ?_) (fun σ H' hp => ?_)⟩
  · obtain ⟨_, _, _, _, _, rfl⟩ := hp
    exact hS
  · obtain ⟨s, y, rfl, hs0, hs1, rfl⟩ := hp
    rw [List.getElem?_map] at hx
    obtain ⟨n, hn, rfl⟩ := Option.map_eq_some_iff.mp hx
    have hbn := hb n (List.mem_of_getElem? hn)
    obtain ⟨c1, c2⟩ := seed_next ⟨hs0, hs1⟩ hbn
    have hm : (0 : Int) < 2147483629 := by decide
    refine ⟨_, rfl, _, _, rfl, rfl, c1, _, rfl, _, _, rfl, rfl, _, _, rfl, rfl, c2, _, _, rfl, rfl, hm, _, _, rfl, rfl, _, some (.int n), rfl, ?_, ?_, rfl⟩
    · have := Int.emod_nonneg ((s * 40127 + n) ^ (3 : Int).toNat) (show (2147483629 : Int) ≠ 0 by decide)
      omega
    · have := Int.emod_lt_of_pos ((s * 40127 + n) ^ (3 : Int).toNat) hm
      have e : ((2 : Int) ^ 31) = 2147483648 := by decide
      rw [e]
      omega
  · obtain ⟨s, y, rfl, hs0, hs1, rfl⟩ := hp
    have fin : ∀ d : Int, 0 ≤ d → d.natAbs < 2 ^ 1100000 → ([V.int d, V.int s].length ≤ sizeLine ∧ ∀ p, H' p = none → Q (.ref p) (upd H' p (.lst [.int d, .int s]))) := fun d hd1 hd2 =>
      ⟨(by show 2 ≤ sizeLine; decide), fun p hp => q p _ hp (Ex.new hp) ⟨d, s, upd_same, hd1, hd2, hs0, hs1⟩⟩
    have h18 : CPowB 10 18 := by refine ⟨by decide, by decide +kernel⟩
    refine ⟨_, rfl, _, rfl, a, _, rfl, .inl hS, _, _, rfl, rfl, _, rfl, ?_⟩
    refine ite2 (fun c => ?_) (fun c => ?_)
    · have c' : k < ((ns.map V.int).length : Int) := of_decide_eq_true c
      rw [List.length_map] at c'
      have hk : k.toNat < ns.length := by omega
      have hat : atI (ns.map V.int) k = some (.int ns[k.toNat]) := by
        have e : k = ((k.toNat : Nat) : Int) := by omega
        have z : atI (ns.map V.int) ((k.toNat : Nat) : Int) = some (.int ns[k.toNat]) := atI_nat (by rw [List.getElem?_map, List.getElem?_eq_getElem hk]; rfl)
        rw [← e] at z
        exact z
      refine ⟨_, rfl, _, rfl, a, _, _, _, rfl, rfl, hS, hat, _, _, rfl, rfl, h18, _, _, rfl, rfl, _, rfl, ?_⟩
      refine ite2 (fun c2 => ?_) (fun c2 => ?_)
      · have c2' : (10 : Int) ^ (18 : Int).toNat ≤ ns[k.toNat] := of_decide_eq_true c2
        refine ⟨_, rfl, _, rfl, a, _, _, _, rfl, rfl, hS, hat, _, _, rfl, rfl, h18, _, _, rfl, rfl, _, rfl, _, rfl, ?_⟩
        have hb2 := abs_of_bits (hb _ (List.getElem_mem hk))
        have e18 : (10 : Int) ^ (18 : Int).toNat = 1000000000000000000 := by decide
        rw [e18] at c2' ⊢
        refine fin _ (by omega) ?_
        have e : (2 : Nat) ^ 1048576 ≤ 2 ^ 1100000 := Nat.pow_le_pow_right (by decide) (by decide)
        generalize (2 : Nat) ^ 1048576 = M at *
        generalize (2 : Nat) ^ 1100000 = N at *
        omega
      · exact ⟨_, rfl, _, rfl, fin 0 (by decide) (Nat.two_pow_pos _)⟩
    · exact ⟨_, rfl, _, rfl, fin 0 (by decide) (Nat.two_pow_pos _)⟩
end
end Sk

namespace Sk
open PySem PySem.Spec PyProof.Rows L2 Evl
section
variable {P : Program} {w : World} {K : PySem.W.Frag} {mg : Str → Option Value} {base : Heap} {f g : Addr} {fd gd : FuncData}
theorem atI0 {a b : V} : atI [a, b] 0 = some a := atI_nat (j := 0) rfl
theorem atI1 {a b : V} : atI [a, b] 1 = some b := atI_nat (j := 1) rfl
theorem small31 {x : Int} (h0 : 0 ≤ x) (h : x < 2147483648) : x.natAbs < 2 ^ 31 := by
  have e : (2 : Nat) ^ 31 = 2147483648 := by decide
  rw [e]; omega
theorem powB_small {x : Int} (h0 : 0 ≤ x) (h : x < 2147483648) {j : Int} (j0 : 0 ≤ j) (j1 : j ≤ 10) : CPowB x j := by
  refine ⟨j0, ?_⟩
  have h7 := bits_of (small31 h0 h) (by decide)
  have e : ((2 : Int) ^ 27) = 134217728 := by decide
  rw [e]
  have h8 : (Builtin.Int.intBits x : Int) ≤ 31 := by omega
  have h9 : (0 : Int) ≤ (Builtin.Int.intBits x : Int) := by omega
  calc (Builtin.Int.intBits x : Int) * j ≤ 31 * 10 := Int.mul_le_mul h8 j1 j0 (by decide)
    _ ≤ 134217728 := by decide
theorem ok_draw {k : Nat} (F : Fun K "_law_draw" "_law_draw" sDraw f fd) : FnOk P w K mg base CX0 (k + 1) f fd ["stream", "size"] spDraw := by
  refine F.ok scDraw (fun vs H Q E h => ?_) (fun cdv A outer s H vs Q E hr h => ?_)
  · obtain ⟨a, n, rfl, _⟩ := h
    rfl
  obtain ⟨st, n, rfl, hst, hn, hn9, q⟩ := h
  obtain ⟨d, sd, hs, hd0, hd1, hs0, hs1⟩ := hst
  have nd := scDraw.nd
  refine ⟨_, pss_cons (ps_if (pt_cmpR op_ge (pe_ix ix_list (pv 0) pe_int (fun _ _ => rfl)) (pv 1) (nomark _))
      (pss_cons (ps_set (i := 2) nd rfl (Or.inl rfl) (pe_op op_mod (pe_ix ix_list (pv 0) pe_int (fun _ _ => rfl)) (pv 1)))
      (pss_cons (ps_asg (pe_op op_fdivW (pe_ix ix_list (pv 0) pe_int (fun _ _ => rfl)) (pv 1)) (pg_sub (pv 0) pe_int set_list))
      (pss_one (ps_ret (pv 2))))) pss_nil)
    (pss_cons (ps_asg (pe_op op_mod (pe_op op_add (pe_op op_mulW (pe_ix ix_list (pv 0) pe_int (fun _ _ => rfl)) pe_int) pe_int) pe_int) (pg_sub (pv 0) pe_int set_list))
    (pss_one (ps_ret (pe_op op_mod (pe_op op_fdiv (pe_op op_mod (pe_op op_powB (pe_op op_mod (pe_op op_powB (pe_ix ix_list (pv 0) pe_int (fun _ _ => rfl)) pe_int) pe_int) pe_int) pe_int) pe_int) (pv 1))))), ?_⟩
  have hL : SqL K H st [.int d, .int sd] := SqL.of hs
  refine ⟨_, rfl, st, _, 0, _, rfl, rfl, hL, atI0, _, rfl, _, _, rfl, rfl, _, rfl, ?_⟩
  have n31 : n.natAbs < 2 ^ 31 := small31 (by omega) (by omega)
  have up : ∀ a b : Int, 0 ≤ a → a.natAbs < 2 ^ 1100000 → 0 ≤ b → b < 2147483648 → Aft st H (upd H st (.lst [.int a, .int b])) := fun a b a0 a1 b0 b1 =>
    ⟨gr_upd, a, b, upd_same, a0, a1, b0, by have e : ((2 : Int) ^ 31) = 2147483648 := by decide
                                            rw [e]; exact b1⟩
  have e31 : ((2 : Int) ^ 31) = 2147483648 := by decide
  rw [e31] at hs1
  refine ite2 (fun c => ?_) (fun c => ?_)
  · have c' : n ≤ d := of_decide_eq_true c
    refine ⟨_, rfl, st, _, 0, _, rfl, rfl, hL, atI0, _, rfl, _, _, rfl, rfl, (by omega : (0 : Int) < n), ?_⟩
    refine ⟨_, rfl, st, _, 0, _, rfl, rfl, hL, atI0, _, rfl, _, _, rfl, rfl, wide_div (by omega) n31 (by decide) (by decide), ?_⟩
    refine ⟨_, rfl, st, _, 0, 0, rfl, rfl, hs, rfl, ?_⟩
    refine ⟨_, rfl, q _ _ (Int.emod_nonneg _ (by omega)) (Int.emod_lt_of_pos _ (by omega)) (up _ _ (Int.ediv_nonneg hd0 (by omega)) ?_ hs0 hs1)⟩
    refine Nat.lt_of_le_of_lt ?_ hd1
    have z0 : 0 ≤ d / n := Int.ediv_nonneg hd0 (by omega)
    have z1 : d / n ≤ d := Int.ediv_le_self n hd0
    omega
  · refine ⟨_, rfl, st, _, 1, _, rfl, rfl, hL, atI1, _, _, rfl, rfl, wide_mul (small31 hs0 hs1) (show (48271 : Int).natAbs < 2 ^ 16 by decide) (by decide) (by decide) (by decide), _, _, rfl, rfl, _, _, rfl, rfl, (by decide : (0 : Int) < 2147483647), ?_⟩
    refine ⟨_, rfl, st, _, 1, 1, rfl, rfl, hs, rfl, ?_⟩
    dsimp only [List.set]
    generalize hz : (sd * 48271 + 12345) % 2147483647 = z
    have z0 : 0 ≤ z := by rw [← hz]; exact Int.emod_nonneg _ (by decide)
    have z1 : z < 2147483648 := by
      have := Int.emod_lt_of_pos (sd * 48271 + 12345) (show (0 : Int) < 2147483647 by decide)
      omega
    have A1 := up d z hd0 hd1 z0 z1
    have hL2 : SqL K (upd H st (.lst [.int d, .int z])) st [.int d, .int z] := SqL.of upd_same
    refine ⟨_, rfl, st, _, 1, _, rfl, rfl, hL2, atI1, _, _, rfl, rfl, powB_small z0 z1 (by decide) (by decide), _, _, rfl, rfl, (by decide : (0 : Int) < 2147483629), ?_⟩
    dsimp only
    generalize hy : z ^ (3 : Int).toNat % 2147483629 = y
    have y0 : 0 ≤ y := by rw [← hy]; exact Int.emod_nonneg _ (by decide)
    have y1 : y < 2147483648 := by
      have := Int.emod_lt_of_pos (z ^ (3 : Int).toNat) (show (0 : Int) < 2147483629 by decide)
      omega
    refine ⟨_, _, rfl, rfl, powB_small y0 y1 (by decide) (by decide), _, _, rfl, rfl, (by decide : (0 : Int) < 1000000007), _, _, rfl, rfl, ⟨by decide, by decide⟩, _, rfl, _, _, rfl, rfl, (by omega : (0 : Int) < n), ?_⟩
    exact q _ _ (Int.emod_nonneg _ (by omega)) (Int.emod_lt_of_pos _ (by omega)) A1
/-- len of a list, a tuple, a text -/
theorem call_lenAny {X : Cx} : CallR X (.builtin "len") (fun xs H Q => (∃ p ys, xs = [.ref p] ∧ (SqL X.K H p ys ∨ SqT X.K H p ys) ∧ Q (.int ys.length) H) ∨ ∃ z, xs = [.str z] ∧ z.length ≤ sizeLine ∧ Q (.int z.length) H) := call_len_seq.or call_len_str
theorem ok_choose {k : Nat} {gd : FuncData} (F : Fun K "_law_choose" "_law_choose" sChoose f fd) (G : FnOk P w K mg base CX0 k g gd ["stream", "size"] spDraw) (bG : Binds K gd ["stream", "size"] []) (kG : PySem.W.keepIn K (.ref g) = true)
    (mG : mg "_law_draw" = some (.ref g)) (ml : mg "len" = none) : FnOk P w K mg base CX0 (k + 1) f fd ["stream", "items"] (spChoose K) := by
  refine F.ok scChoose (fun vs H Q E h => ?_) (fun cdv A outer s H vs Q E hr h => ?_)
  · obtain ⟨a, n, _, rfl, _⟩ := h
    rfl
  obtain ⟨st, x, Pv, rfl, hst, hx, q⟩ := h
  refine ⟨_, pss_one (ps_ret (pe_ix ix_seq (pv 1) (pe_call G hr rfl mG kG bG .nil pass0 (pa_cons (pv 0) (pa_cons (pe_callB call_lenAny rfl ml PySem.boot_len (pa_cons (pv 1) pa_nil)) pa_nil))) (fun _ _ => rfl))), ?_⟩
  refine ⟨_, rfl, _, rfl, _, rfl, ?_⟩
  rcases hx with ⟨a, xs, rfl, hs, hne, hl, hp⟩ | ⟨z, rfl, hne, hl, hp⟩
  · have hs' : ∀ H1, Ex (Hd st H) H1 → SqL K H1 a xs ∨ SqT K H1 a xs := fun H1 e => hs.elim (fun h => .inl (ex_l e h)) fun h => .inr (ex_t e h)
    have h1 : 1 ≤ xs.length := by cases xs with
      | nil => exact absurd rfl hne
      | cons _ _ => simp
    refine .inl ⟨a, xs, rfl, hs' _ hd_le, st, _, rfl, hst, by omega, by omega, fun i H1 i0 i1 A1 => ?_⟩
    have hi : i.toNat < xs.length := by omega
    have hat : atI xs i = some xs[i.toNat] := by
      have e : i = ((i.toNat : Nat) : Int) := by omega
      have z : atI xs ((i.toNat : Nat) : Int) = some xs[i.toNat] := atI_nat (List.getElem?_eq_getElem hi)
      rw [← e] at z
      exact z
    have fin := q _ H1 (hp _ (List.getElem_mem hi)) A1
    rcases hs' H1 (Ex.trans A1.gr hd_le) with h | h
    · exact .inl ⟨a, xs, i, _, rfl, rfl, h, hat, fin⟩
    · exact .inr (.inl ⟨a, xs, i, _, rfl, rfl, h, hat, fin⟩)
  · have e0 : z.length = z.cps.toList.length := by simp [Str.length]
    have h1 : 1 ≤ z.cps.toList.length := by
      cases h : z.cps.toList with
      | nil => exact absurd h hne
      | cons _ _ => simp
    refine .inr ⟨z, rfl, sz_of hl, st, _, rfl, hst, by omega, by omega, fun i H1 i0 i1 A1 => ?_⟩
    have hi : i.toNat < z.cps.toList.length := by omega
    have hat : atI z.cps.toList i = some z.cps.toList[i.toNat] := by
      have e : i = ((i.toNat : Nat) : Int) := by omega
      have z : atI z.cps.toList ((i.toNat : Nat) : Int) = some z.cps.toList[i.toNat] := atI_nat (List.getElem?_eq_getElem hi)
      rw [← e] at z
      exact z
    exact .inr (.inr ⟨z, i, _, rfl, rfl, sz_of hl, hat, q _ H1 (hp _ (List.getElem_mem hi)) A1⟩)
end
end Sk

namespace Sk
open PySem PySem.Spec PyProof.Rows L2 Evl
abbrev sDoc : Stmt := topS 1
abbrev sQuo : Stmt := topS 2
abbrev sSame : Stmt := topS 3
abbrev sText : Stmt := topS 8
theorem scDoc : FnScope ["value", "members", "item", "name"] ["value"] (defScope sDoc) := ⟨rfl, rfl, rfl, by decide +kernel, rfl, by decide +kernel, by decide +kernel⟩
theorem scQuo : FnScope ["letters"] ["letters"] (defScope sQuo) := ⟨rfl, rfl, rfl, by decide +kernel, rfl, by decide +kernel, by decide +kernel⟩
theorem scSame : FnScope ["first", "second"] ["first", "second"] (defScope sSame) := ⟨rfl, rfl, rfl, by decide +kernel, rfl, by decide +kernel, by decide +kernel⟩
theorem scText : FnScope ["value", "item", "name"] ["value"] (defScope sText) := ⟨rfl, rfl, rfl, by decide +kernel, rfl, by decide +kernel, by decide +kernel⟩
def spQuo : Sp := fun vs H Q _ => ∃ x : Str, vs = [.str x] ∧ x.length ≤ 100 ∧ Q (.str (quo x)) H
def spDoc (n : Nat) : Sp := fun vs H Q _ => ∃ v d, vs = [v] ∧ Dq H v d ∧ Gd true n d ∧ ∀ H', Ex H H' → Q (.str (doc d)) H'
/-- the built-ins that are used -/
structure Blt (mg : Str → Option Value) : Prop where
  isi : mg "isinstance" = none
  bool : mg "bool" = none
  int : mg "int" = none
  str : mg "str" = none
  list : mg "list" = none
  dict : mg "dict" = none
  sorted : mg "sorted" = none
  len : mg "len" = none
  range : mg "range" = none
  min : mg "min" = none
  max : mg "max" = none
  repr : mg "repr" = none
theorem bt_bool : bootBuiltins "bool" = some (.type "bool") := by decide +kernel
theorem bt_int : bootBuiltins "int" = some (.type "int") := by decide +kernel
theorem bt_str : bootBuiltins "str" = some (.type "str") := by decide +kernel
theorem bt_list : bootBuiltins "list" = some (.type "list") := by decide +kernel
theorem bt_dict : bootBuiltins "dict" = some (.type "dict") := by decide +kernel
theorem bt_isi : bootBuiltins "isinstance" = some (.builtin "isinstance") := by decide +kernel
theorem line_le {n : Nat} (h : n ≤ 16000000) : n ≤ sizeLine := by rw [sizeLine_eq]; omega
section
variable {P : Program} {w : World} {K : PySem.W.Frag} {mg : Str → Option Value} {base : Heap} {f g : Addr} {fd gd : FuncData}
theorem ok_quo {k : Nat} (F : Fun K "quoted" "quoted" sQuo f fd) : FnOk P w K mg base CX0 (k + 1) f fd ["letters"] spQuo := by
  refine F.ok scQuo (fun vs H Q E h => ?_) (fun cdv A outer s H vs Q E hr h => ?_)
  · obtain ⟨x, rfl, _⟩ := h
    rfl
  obtain ⟨x, rfl, hl, q⟩ := h
  refine ⟨_, pss_one (ps_ret (pe_op op_add_str (pe_op op_add_str pe_str (pv 0)) pe_str)), ?_⟩
  have e1 : (Str.ofString "\"").length = 1 := rfl
  exact ⟨_, rfl, _, _, rfl, rfl, line_le (by rw [e1]; omega), _, _, rfl, rfl, line_le (by rw [strLen_append, e1]; omega), q⟩
/-- the parts of a record, in the order of their names -/
theorem memS_len {n : Nat} {ds : List (PyData × PyData)} (hn : n ≤ 5) (h : Gd true (n + 1) (.dict ds)) : ∀ t ∈ (sortS (ds.map fun p => keyS p.1)).map (memS (docKv ds)), t.length ≤ 904000 := by
  intro t m
  obtain ⟨k, hk, rfl⟩ := List.mem_map.mp m
  have hk' := (sortS_perm _).mem_iff.mp hk
  obtain ⟨d, hd, p, hp, ep⟩ := getD_mem ds k hk'
  obtain ⟨q, hq, eq⟩ := List.mem_map.mp hk'
  have hl := (h.2.1 q hq).2.1.1
  rw [eq] at hl
  have hx := doc_len (h.2.1 p hp).2.2
  rw [ep] at hx
  have hb : bnd n ≤ 903600 := by
    match n, hn with
    | 0, _ => decide
    | 1, _ => decide
    | 2, _ => decide
    | 3, _ => decide
    | 4, _ => decide
    | 5, _ => decide
  unfold memS
  rw [strLen_append, strLen_append, quo_len, lookS_get ds k d hd]
  have e1 : (Str.ofString ":").length = 1 := rfl
  rw [e1]
  omega
theorem docAll_le {n : Nat} {ds : List PyData} (hn : n ≤ 5) (h : Gd true (n + 1) (.list ds)) : ∀ t ∈ docAll ds, t.length ≤ 904000 := by
  intro t m
  obtain ⟨x, hx, rfl⟩ := docAll_mem ds t m
  have hx := doc_len (h.2 x hx)
  have hb : bnd n ≤ 903600 := by
    match n, hn with
    | 0, _ => decide
    | 1, _ => decide
    | 2, _ => decide
    | 3, _ => decide
    | 4, _ => decide
    | 5, _ => decide
  omega
theorem sum8 {ts : List Str} (hl : ts.length ≤ 8) (h : ∀ t ∈ ts, t.length ≤ 904000) : (ts.map (·.length)).sum + ts.length * (Str.ofString ",").length ≤ 16777216 ∧ (Str.join "," ts).length ≤ 7300000 := by
  have h1 := lsum_le 904000 ts h
  have h2 := join_le "," 904000 ts h
  have e1 : (Str.ofString ",").length = 1 := rfl
  rw [e1] at h2 ⊢
  constructor <;> omega
/-- the dict of a record read by a name that stands in it -/
theorem rec_at {H : Hp} {a : Addr} {vs : List (Key × V)} {ds : List (PyData × PyData)} (e : H a = some (.dK vs)) (r : DqKv H vs ds) {k : Str} (hk : k ∈ ds.map fun p => keyS p.1) : ∃ d v, getD ds k = some d ∧ (∃ p ∈ ds, p.2 = d) ∧ DGet H a (.str k) (some v) ∧ Dq H v d := by
  obtain ⟨d, hd, hp⟩ := getD_mem ds k hk
  obtain ⟨v, hv, hq⟩ := r.val hd
  refine ⟨d, v, hd, hp, ?_, hq⟩
  rw [← hv]
  exact DGet.k (k := Sum.inr k) e
def spNo : Sp := fun _ _ _ _ => False
theorem ok_no {ps : List Str} {f : Addr} {fd : FuncData} {k : Nat} : FnOk P w K mg base CX0 k f fd ps spNo := ⟨fun vs H Q E h => h.elim, fun A outer s H args us vs Q E _ _ _ _ h => h.elim⟩
theorem ok_doc0 {k : Nat} (F : Fun K "document" "document" sDoc f fd) (bF : Binds K fd ["value"] []) (mF : mg "document" = some (.ref f)) (FQ : Fun K "quoted" "quoted" sQuo g gd) (bQ : Binds K gd ["letters"] []) (mQ : mg "quoted" = some (.ref g)) (B : Blt mg) : FnOk P w K mg base CX0 (k + 2) f fd ["value"] (spDoc 0) := by
  have G : FnOk P w K mg base CX0 (k + 1) f fd ["value"] spNo := ok_no
  refine F.ok scDoc (fun vs H Q E h => ?_) (fun cdv A outer s H vs Q E hr h => ?_)
  · obtain ⟨a, d, rfl, _⟩ := h
    rfl
  have nd := scDoc.nd
  have hu := hu_of hr
  have GQ : FnOk P w K mg base CX0 (k + 1) g gd ["letters"] spQuo := ok_quo FQ
  obtain ⟨v, d, rfl, hd, hg, q⟩ := h
  refine ⟨_, pss_cons (ps_if (pt_val (pe_callB call_isD rfl B.isi bt_isi (pa_cons (pv 0) (pa_cons (pe_bltn (v := .ty "bool") rfl B.bool bt_bool rfl) pa_nil)))) (pss_one (ps_ret (pe_ifExp (pt_val (pv 0)) pe_str pe_str))) pss_nil)
    (pss_cons (ps_if (pt_val (pe_callB call_isD rfl B.isi bt_isi (pa_cons (pv 0) (pa_cons (pe_bltn (v := .ty "int") rfl B.int bt_int rfl) pa_nil)))) (pss_one (ps_ret (pe_callTy call_str_int rfl B.str bt_str (pa_cons (pv 0) pa_nil)))) pss_nil)
    (pss_cons (ps_if (pt_val (pe_callB call_isD rfl B.isi bt_isi (pa_cons (pv 0) (pa_cons (pe_bltn (v := .ty "str") rfl B.str bt_str rfl) pa_nil)))) (pss_one (ps_ret (pe_call GQ hr rfl mQ FQ.kp bQ .nil pass0 (pa_cons (pv 0) pa_nil)))) pss_nil)
    (pss_cons (ps_if (pt_val (pe_callB call_isD rfl B.isi bt_isi (pa_cons (pv 0) (pa_cons (pe_bltn (v := .ty "list") rfl B.list bt_list rfl) pa_nil)))) (pss_one (ps_ret (pe_op op_add_str (pe_op op_add_str pe_str (pe_join pe_str
        (pe_lc (own := [("item", 2)]) (g := gName 2) (tt := tYes) rfl nd (pi_list (pv 0)) (blkOk_by (N := ["value", "members", "item", "name"]) (sc := defScope sDoc) (by decide +kernel)) (fun _ _ _ _ _ => pg_name (i := 2) nd rfl (Or.inl rfl)) (fun _ _ _ _ _ => pts_nil)
          (fun _ _ _ _ _ => pe_call G hr rfl mF F.kp bF .nil pass0 (pa_cons (pv 2) pa_nil))))) pe_str))) pss_nil)
    (pss_cons (ps_setLc (i := 1) (own := [("name", 3)]) (g := gName 3) (tt := tYes) rfl nd rfl rfl (sw_true rfl rfl rfl (by decide +kernel)) (pi_list (pe_callB (call_sortedD rfl) rfl B.sorted boot_sorted (pa_cons (pv 0) pa_nil))) (blkOk_by (N := ["value", "members", "item", "name"]) (sc := defScope sDoc) (by decide +kernel))
          (fun _ _ _ _ _ => pg_name (i := 3) nd rfl (Or.inl rfl)) (fun _ _ _ _ _ => pts_nil)
          (fun _ _ _ _ _ => pe_op op_add_str (pe_op op_add_str (pe_call GQ hr rfl mQ FQ.kp bQ .nil pass0 (pa_cons (pv 3) pa_nil)) pe_str) (pe_call G hr rfl mF F.kp bF .nil pass0 (pa_cons (pe_dget hu (pv 0) (pv 3) (fun _ _ => rfl)) pa_nil))))
    (pss_one (ps_ret (pe_op op_add_str (pe_op op_add_str pe_str (pe_join pe_str (pv 1))) pe_str))))))), ?_⟩
  obtain ⟨_, rfl⟩ := gd0 hg
  cases hd
  refine ⟨_, rfl, _, "bool", _, false, rfl, .int 0, kib, _, rfl, iteF ⟨_, rfl, _, "int", _, true, rfl, .int 0, kii, _, rfl, iteT ⟨_, rfl, _, rfl, ?_, q H (Ex.refl H)⟩⟩⟩
  decide
theorem ok_docS {k n : Nat} (hn : n ≤ 5) (F : Fun K "document" "document" sDoc f fd) (bF : Binds K fd ["value"] []) (mF : mg "document" = some (.ref f)) (FQ : Fun K "quoted" "quoted" sQuo g gd) (bQ : Binds K gd ["letters"] []) (mQ : mg "quoted" = some (.ref g)) (B : Blt mg)
    (G : FnOk P w K mg base CX0 (k + 1) f fd ["value"] (spDoc n)) : FnOk P w K mg base CX0 (k + 2) f fd ["value"] (spDoc (n + 1)) := by
  refine F.ok scDoc (fun vs H Q E h => ?_) (fun cdv A outer s H vs Q E hr h => ?_)
  · obtain ⟨a, d, rfl, _⟩ := h
    rfl
  have nd := scDoc.nd
  have hu := hu_of hr
  have GQ : FnOk P w K mg base CX0 (k + 1) g gd ["letters"] spQuo := ok_quo FQ
  obtain ⟨v, d, rfl, hd, hg, q⟩ := h
  refine ⟨_, pss_cons (ps_if (pt_val (pe_callB call_isD rfl B.isi bt_isi (pa_cons (pv 0) (pa_cons (pe_bltn (v := .ty "bool") rfl B.bool bt_bool rfl) pa_nil)))) (pss_one (ps_ret (pe_ifExp (pt_val (pv 0)) pe_str pe_str))) pss_nil)
    (pss_cons (ps_if (pt_val (pe_callB call_isD rfl B.isi bt_isi (pa_cons (pv 0) (pa_cons (pe_bltn (v := .ty "int") rfl B.int bt_int rfl) pa_nil)))) (pss_one (ps_ret (pe_callTy call_str_int rfl B.str bt_str (pa_cons (pv 0) pa_nil)))) pss_nil)
    (pss_cons (ps_if (pt_val (pe_callB call_isD rfl B.isi bt_isi (pa_cons (pv 0) (pa_cons (pe_bltn (v := .ty "str") rfl B.str bt_str rfl) pa_nil)))) (pss_one (ps_ret (pe_call GQ hr rfl mQ FQ.kp bQ .nil pass0 (pa_cons (pv 0) pa_nil)))) pss_nil)
    (pss_cons (ps_if (pt_val (pe_callB call_isD rfl B.isi bt_isi (pa_cons (pv 0) (pa_cons (pe_bltn (v := .ty "list") rfl B.list bt_list rfl) pa_nil)))) (pss_one (ps_ret (pe_op op_add_str (pe_op op_add_str pe_str (pe_join pe_str
        (pe_lc (own := [("item", 2)]) (g := gName 2) (tt := tYes) rfl nd (pi_list (pv 0)) (blkOk_by (N := ["value", "members", "item", "name"]) (sc := defScope sDoc) (by decide +kernel)) (fun _ _ _ _ _ => pg_name (i := 2) nd rfl (Or.inl rfl)) (fun _ _ _ _ _ => pts_nil)
          (fun _ _ _ _ _ => pe_call G hr rfl mF F.kp bF .nil pass0 (pa_cons (pv 2) pa_nil))))) pe_str))) pss_nil)
    (pss_cons (ps_setLc (i := 1) (own := [("name", 3)]) (g := gName 3) (tt := tYes) rfl nd rfl rfl (sw_true rfl rfl rfl (by decide +kernel)) (pi_list (pe_callB (call_sortedD rfl) rfl B.sorted boot_sorted (pa_cons (pv 0) pa_nil))) (blkOk_by (N := ["value", "members", "item", "name"]) (sc := defScope sDoc) (by decide +kernel))
          (fun _ _ _ _ _ => pg_name (i := 3) nd rfl (Or.inl rfl)) (fun _ _ _ _ _ => pts_nil)
          (fun _ _ _ _ _ => pe_op op_add_str (pe_op op_add_str (pe_call GQ hr rfl mQ FQ.kp bQ .nil pass0 (pa_cons (pv 3) pa_nil)) pe_str) (pe_call G hr rfl mF F.kp bF .nil pass0 (pa_cons (pe_dget hu (pv 0) (pv 3) (fun _ _ => rfl)) pa_nil))))
    (pss_one (ps_ret (pe_op op_add_str (pe_op op_add_str pe_str (pe_join pe_str (pv 1))) pe_str))))))), ?_⟩
  have eb : (Str.ofString "[").length = 1 := rfl
  have eb2 : (Str.ofString "]").length = 1 := rfl
  have ec : (Str.ofString "{").length = 1 := rfl
  have ec2 : (Str.ofString "}").length = 1 := rfl
  have no : ∀ {T : String}, kitB (tyD d) T = some false → True := fun _ => trivial
  cases d with
  | none => exact hg.elim
  | tuple _ => exact hg.elim
  | bool b =>
    cases hd
    refine ⟨_, rfl, _, "bool", _, true, rfl, .bl b, kbb, _, rfl, iteT ⟨_, rfl, _, rfl, ?_⟩⟩
    have z := q H (Ex.refl H)
    cases b <;> exact z
  | int i =>
    cases hd
    refine ⟨_, rfl, _, "bool", _, false, rfl, .int i, kib, _, rfl, iteF ⟨_, rfl, _, "int", _, true, rfl, .int i, kii, _, rfl, iteT ⟨_, rfl, _, rfl, ?_, q H (Ex.refl H)⟩⟩⟩
    simpa [PyData.showable] using hg.show
  | str x =>
    cases hd
    refine ⟨_, rfl, _, "bool", _, false, rfl, .str x, ksb, _, rfl, iteF ⟨_, rfl, _, "int", _, false, rfl, .str x, ksi, _, rfl, iteF ⟨_, rfl, _, "str", _, true, rfl, .str x, kss, _, rfl, iteT ⟨_, rfl, x, rfl, ?_, q H (Ex.refl H)⟩⟩⟩⟩
    have := hg.1
    omega
  | list ds =>
    obtain ⟨a, vs, rfl, e, r⟩ := hd.lst_inv
    refine ⟨_, rfl, _, "bool", _, false, rfl, hd, klb, _, rfl, iteF ⟨_, rfl, _, "int", _, false, rfl, hd, kli, _, rfl, iteF ⟨_, rfl, _, "str", _, false, rfl, hd, kls, _, rfl, iteF ⟨_, rfl, _, "list", _, true, rfl, hd, kll, _, rfl, iteT ?_⟩⟩⟩⟩
    refine ⟨⟨_, rfl⟩, _, rfl, a, rfl, ⟨_, SqL.of e⟩, fun D hD => ?_⟩
    refine lc_list (xs := vs) (fun i H' => Ex H H' ∧ H' D = some (.lst (((docAll ds).take i).map V.str))) ⟨Ex.new hD, upd_same⟩ (fun i H' _ p => SqL.of (p.1 _ _ e)) (fun i x H' hx p => ?_) (fun H' p => ?_)
    · obtain ⟨z, hz, hq⟩ := r.get hx
      have hgz : Gd true n z := hg.2 z (List.mem_of_getElem? hz)
      refine ⟨rfl, tyes ?_⟩
      refine ⟨_, rfl, x, z, rfl, hq.mono p.1, hgz, fun H4 e4 => ?_⟩
      refine ⟨_, e4 _ _ p.2, ?_, ?_, ?_⟩
      · have h8 := hg.1
        rw [List.length_map, List.length_take, docAll_len]
        exact small1000 (by omega)
      · exact (p.1.trans e4).mut hD
      · rw [upd_same, take_snoc (docAll_get ds i z hz), List.map_append]
        rfl
    · have h8 := hg.1
      rw [r.length, List.take_of_length_le (by rw [docAll_len]; exact Nat.le_refl _)] at p
      obtain ⟨s1, s2⟩ := sum8 (ts := docAll ds) (by rw [docAll_len]; exact h8) (docAll_le hn hg)
      refine ⟨_, D, docAll ds, rfl, rfl, .inl (SqL.of p.2), s1, ?_⟩
      rw [TL.join_eq]
      refine ⟨_, _, rfl, rfl, line_le (by rw [eb]; omega), _, _, rfl, rfl, line_le (by rw [strLen_append, eb, eb2]; omega), ?_⟩
      have z := q H' p.1
      simp only [doc] at z
      exact z
  | dict ds =>
    obtain ⟨a, vs, rfl, e, r⟩ := hd.dct_inv
    refine ⟨_, rfl, _, "bool", _, false, rfl, hd, kdb, _, rfl, iteF ⟨_, rfl, _, "int", _, false, rfl, hd, kdi, _, rfl, iteF ⟨_, rfl, _, "str", _, false, rfl, hd, kds, _, rfl, iteF ⟨_, rfl, _, "list", _, false, rfl, hd, kdl, _, rfl, iteF ?_⟩⟩⟩⟩
    have h8 := hg.1
    refine ⟨_, rfl, a, vs, ds.map (fun p => keyS p.1), rfl, .inl e, r.keys, by rw [List.length_map]; omega, fun ys p hp hs np => ?_⟩
    have ey := sorted_eq hp hs
    subst ey
    have x1 : Ex H (upd H p (.lst ((sortS (ds.map fun p => keyS p.1)).map V.str))) := Ex.new np
    refine ⟨p, rfl, ⟨_, SqL.of upd_same⟩, fun D hD => ?_⟩
    refine lc_list (xs := (sortS (ds.map fun p => keyS p.1)).map V.str) (fun i H' => Ex H H' ∧ Ex (upd H p (.lst ((sortS (ds.map fun p => keyS p.1)).map V.str))) H' ∧ H' D = some (.lst ((((sortS (ds.map fun p => keyS p.1)).map (memS (docKv ds))).take i).map V.str)))
      ⟨x1.trans (Ex.new hD), Ex.new hD, upd_same⟩ (fun i H' _ p => SqL.of (p.2.1 _ _ upd_same)) (fun i x H' hx p => ?_) (fun H' p => ?_)
    · rw [List.getElem?_map] at hx
      obtain ⟨nm, hnm, rfl⟩ := Option.map_eq_some_iff.mp hx
      have hmem : nm ∈ ds.map fun p => keyS p.1 := (sortS_perm _).mem_iff.mp (List.mem_of_getElem? hnm)
      obtain ⟨dd, vv, h1, ⟨pp, hpp, epp⟩, h2, h3⟩ := rec_at (p.1 _ _ e) (r.mono p.1) hmem
      obtain ⟨qq, hqq, eqq⟩ := List.mem_map.mp hmem
      have hl := (hg.2.1 qq hqq).2.1.1
      rw [eqq] at hl
      have hgd := (hg.2.1 pp hpp).2.2
      rw [epp] at hgd
      have hdl := doc_len hgd
      have hbn : bnd n ≤ 7300000 := bnd_le (by omega)
      have e1 : (Str.ofString ":").length = 1 := rfl
      refine ⟨rfl, tyes ?_⟩
      refine ⟨_, rfl, nm, rfl, by omega, _, _, rfl, rfl, line_le (by rw [quo_len, e1]; omega), _, rfl, _, rfl, a, vv, rfl, h2, vv, dd, rfl, h3, hgd, fun H4 e4 => ?_⟩
      refine ⟨_, _, rfl, rfl, line_le (by rw [strLen_append, quo_len, e1]; omega), _, e4 _ _ p.2.2, ?_, ?_, ?_, ?_⟩
      · rw [List.length_map, List.length_take, List.length_map, (sortS_perm _).length_eq, List.length_map]
        exact small1000 (by omega)
      · refine (p.1.trans e4).mut ?_
        exact fresh_back x1 hD
      · exact (p.2.1.trans e4).mut hD
      · rw [upd_same, take_snoc (l := (sortS (ds.map fun p => keyS p.1)).map (memS (docKv ds))) (x := memS (docKv ds) nm) (by rw [List.getElem?_map, hnm]; rfl), List.map_append]
        unfold memS
        rw [lookS_get ds nm dd h1]
        rfl
    · have hlen : ((sortS (ds.map fun p => keyS p.1)).map (memS (docKv ds))).length = ds.length := by rw [List.length_map, (sortS_perm _).length_eq, List.length_map]
      rw [List.length_map, (sortS_perm _).length_eq, List.length_map, List.take_of_length_le (by rw [hlen]; exact Nat.le_refl _)] at p
      obtain ⟨s1, s2⟩ := sum8 (by rw [hlen]; exact h8) (memS_len hn hg)
      refine ⟨⟨_, rfl⟩, _, rfl, _, D, _, rfl, rfl, .inl (SqL.of p.2.2), s1, ?_⟩
      rw [TL.join_eq]
      refine ⟨_, _, rfl, rfl, line_le (by rw [ec]; omega), _, _, rfl, rfl, line_le (by rw [strLen_append, ec, ec2]; omega), ?_⟩
      have z := q H' p.1
      simp only [doc] at z
      exact z
end
end Sk

namespace Sk
open PySem PySem.Spec PyProof.Rows L2 Evl
abbrev sWord : Stmt := topS 9
theorem scWord : FnScope ["stream", "most", "size", "letters", "turn"] ["stream", "most"] (defScope sWord) := ⟨rfl, rfl, rfl, by decide +kernel, rfl, by decide +kernel, by decide +kernel⟩
def spSame : Sp := fun vs H Q _ => ∃ v d v' d', vs = [v, v'] ∧ Dq H v d ∧ Dq H v' d' ∧ Gd true 6 d ∧ Gd true 6 d' ∧ ∀ H', Ex H H' → Q (.bl (decide (V.str (doc d) = V.str (doc d')))) H'
/-- small letters -/
def lows (cs : List Nat) : Prop := ∀ c ∈ cs, 97 ≤ c ∧ c ≤ 122
def spWord : Sp := fun vs H Q _ => ∃ (st : Addr) (m : Int), vs = [.ref st, .int m] ∧ Strm st H ∧ 2 ≤ m ∧ m ≤ 12 ∧
  ∀ (x : Str) (H' : Hp), x.length ≤ m.toNat → lows x.cps.toList → Aft st H H' → Q (.str x) H'
theorem colon (k : Str) : ("\"" : Str) ++ k ++ "\":" = quo k ++ ":" := by
  unfold quo
  rw [Str.append_assoc (("\"" : Str) ++ k)]
  have e : (Str.ofString "\"" ++ Str.ofString ":") = Str.ofString "\":" := by decide +kernel
  rw [e]
section
variable {P : Program} {w : World} {K : PySem.W.Frag} {mg : Str → Option Value} {base : Heap} {f g : Addr} {fd gd : FuncData}
theorem ok_text0 {k : Nat} (F : Fun K "_law_text" "_law_text" sText f fd) (bF : Binds K fd ["value"] []) (mF : mg "_law_text" = some (.ref f)) (B : Blt mg) : FnOk P w K mg base CX0 (k + 2) f fd ["value"] (spDoc 0) := by
  have G : FnOk P w K mg base CX0 (k + 1) f fd ["value"] spNo := ok_no
  refine F.ok scText (fun vs H Q E h => ?_) (fun cdv A outer s H vs Q E hr h => ?_)
  · obtain ⟨a, d, rfl, _⟩ := h
    rfl
  have nd := scText.nd
  have hu := hu_of hr
  obtain ⟨v, d, rfl, hd, hg, q⟩ := h
  refine ⟨_, pss_cons (ps_if (pt_val (pe_callB call_isD rfl B.isi bt_isi (pa_cons (pv 0) (pa_cons (pe_bltn (v := .ty "bool") rfl B.bool bt_bool rfl) pa_nil)))) (pss_one (ps_ret (pe_ifExp (pt_val (pv 0)) pe_str pe_str))) pss_nil)
    (pss_cons (ps_if (pt_val (pe_callB call_isD rfl B.isi bt_isi (pa_cons (pv 0) (pa_cons (pe_bltn (v := .ty "int") rfl B.int bt_int rfl) pa_nil)))) (pss_one (ps_ret (pe_callTy call_str_int rfl B.str bt_str (pa_cons (pv 0) pa_nil)))) pss_nil)
    (pss_cons (ps_if (pt_val (pe_callB call_isD rfl B.isi bt_isi (pa_cons (pv 0) (pa_cons (pe_bltn (v := .ty "str") rfl B.str bt_str rfl) pa_nil)))) (pss_one (ps_ret (pe_op op_add_str (pe_op op_add_str pe_str (pv 0)) pe_str))) pss_nil)
    (pss_cons (ps_if (pt_val (pe_callB call_isD rfl B.isi bt_isi (pa_cons (pv 0) (pa_cons (pe_bltn (v := .ty "list") rfl B.list bt_list rfl) pa_nil)))) (pss_one (ps_ret (pe_op op_add_str (pe_op op_add_str pe_str (pe_join pe_str
        (pe_lc (own := [("item", 1)]) (g := gName 1) (tt := tYes) rfl nd (pi_list (pv 0)) (blkOk_by (N := ["value", "item", "name"]) (sc := defScope sText) (by decide +kernel)) (fun _ _ _ _ _ => pg_name (i := 1) nd rfl (Or.inl rfl)) (fun _ _ _ _ _ => pts_nil)
          (fun _ _ _ _ _ => pe_call G hr rfl mF F.kp bF .nil pass0 (pa_cons (pv 1) pa_nil))))) pe_str))) pss_nil)
    (pss_one (ps_ret (pe_op op_add_str (pe_op op_add_str pe_str (pe_join pe_str
        (pe_lc (own := [("name", 2)]) (g := gName 2) (tt := tYes) rfl nd (pi_list (pe_callB (call_sortedD rfl) rfl B.sorted boot_sorted (pa_cons (pv 0) pa_nil))) (blkOk_by (N := ["value", "item", "name"]) (sc := defScope sText) (by decide +kernel))
          (fun _ _ _ _ _ => pg_name (i := 2) nd rfl (Or.inl rfl)) (fun _ _ _ _ _ => pts_nil)
          (fun _ _ _ _ _ => pe_op op_add_str (pe_op op_add_str (pe_op op_add_str pe_str (pv 2)) pe_str) (pe_call G hr rfl mF F.kp bF .nil pass0 (pa_cons (pe_dget hu (pv 0) (pv 2) (fun _ _ => rfl)) pa_nil)))))) pe_str)))))), ?_⟩
  obtain ⟨_, rfl⟩ := gd0 hg
  cases hd
  refine ⟨_, rfl, _, "bool", _, false, rfl, .int 0, kib, _, rfl, iteF ⟨_, rfl, _, "int", _, true, rfl, .int 0, kii, _, rfl, iteT ⟨_, rfl, _, rfl, ?_, q H (Ex.refl H)⟩⟩⟩
  decide
theorem ok_textS {k n : Nat} (hn : n ≤ 5) (F : Fun K "_law_text" "_law_text" sText f fd) (bF : Binds K fd ["value"] []) (mF : mg "_law_text" = some (.ref f)) (B : Blt mg)
    (G : FnOk P w K mg base CX0 (k + 1) f fd ["value"] (spDoc n)) : FnOk P w K mg base CX0 (k + 2) f fd ["value"] (spDoc (n + 1)) := by
  refine F.ok scText (fun vs H Q E h => ?_) (fun cdv A outer s H vs Q E hr h => ?_)
  · obtain ⟨a, d, rfl, _⟩ := h
    rfl
  have nd := scText.nd
  have hu := hu_of hr
  obtain ⟨v, d, rfl, hd, hg, q⟩ := h
  refine ⟨_, pss_cons (ps_if (pt_val (pe_callB call_isD rfl B.isi bt_isi (pa_cons (pv 0) (pa_cons (pe_bltn (v := .ty "bool") rfl B.bool bt_bool rfl) pa_nil)))) (pss_one (ps_ret (pe_ifExp (pt_val (pv 0)) pe_str pe_str))) pss_nil)
    (pss_cons (ps_if (pt_val (pe_callB call_isD rfl B.isi bt_isi (pa_cons (pv 0) (pa_cons (pe_bltn (v := .ty "int") rfl B.int bt_int rfl) pa_nil)))) (pss_one (ps_ret (pe_callTy call_str_int rfl B.str bt_str (pa_cons (pv 0) pa_nil)))) pss_nil)
    (pss_cons (ps_if (pt_val (pe_callB call_isD rfl B.isi bt_isi (pa_cons (pv 0) (pa_cons (pe_bltn (v := .ty "str") rfl B.str bt_str rfl) pa_nil)))) (pss_one (ps_ret (pe_op op_add_str (pe_op op_add_str pe_str (pv 0)) pe_str))) pss_nil)
    (pss_cons (ps_if (pt_val (pe_callB call_isD rfl B.isi bt_isi (pa_cons (pv 0) (pa_cons (pe_bltn (v := .ty "list") rfl B.list bt_list rfl) pa_nil)))) (pss_one (ps_ret (pe_op op_add_str (pe_op op_add_str pe_str (pe_join pe_str
        (pe_lc (own := [("item", 1)]) (g := gName 1) (tt := tYes) rfl nd (pi_list (pv 0)) (blkOk_by (N := ["value", "item", "name"]) (sc := defScope sText) (by decide +kernel)) (fun _ _ _ _ _ => pg_name (i := 1) nd rfl (Or.inl rfl)) (fun _ _ _ _ _ => pts_nil)
          (fun _ _ _ _ _ => pe_call G hr rfl mF F.kp bF .nil pass0 (pa_cons (pv 1) pa_nil))))) pe_str))) pss_nil)
    (pss_one (ps_ret (pe_op op_add_str (pe_op op_add_str pe_str (pe_join pe_str
        (pe_lc (own := [("name", 2)]) (g := gName 2) (tt := tYes) rfl nd (pi_list (pe_callB (call_sortedD rfl) rfl B.sorted boot_sorted (pa_cons (pv 0) pa_nil))) (blkOk_by (N := ["value", "item", "name"]) (sc := defScope sText) (by decide +kernel))
          (fun _ _ _ _ _ => pg_name (i := 2) nd rfl (Or.inl rfl)) (fun _ _ _ _ _ => pts_nil)
          (fun _ _ _ _ _ => pe_op op_add_str (pe_op op_add_str (pe_op op_add_str pe_str (pv 2)) pe_str) (pe_call G hr rfl mF F.kp bF .nil pass0 (pa_cons (pe_dget hu (pv 0) (pv 2) (fun _ _ => rfl)) pa_nil)))))) pe_str)))))), ?_⟩
  have eb : (Str.ofString "[").length = 1 := rfl
  have eb2 : (Str.ofString "]").length = 1 := rfl
  have ec : (Str.ofString "{").length = 1 := rfl
  have ec2 : (Str.ofString "}").length = 1 := rfl
  have eq1 : (Str.ofString "\"").length = 1 := rfl
  have eq2 : (Str.ofString "\":").length = 2 := rfl
  cases d with
  | none => exact hg.elim
  | tuple _ => exact hg.elim
  | bool b =>
    cases hd
    refine ⟨_, rfl, _, "bool", _, true, rfl, .bl b, kbb, _, rfl, iteT ⟨_, rfl, _, rfl, ?_⟩⟩
    have z := q H (Ex.refl H)
    cases b <;> exact z
  | int i =>
    cases hd
    refine ⟨_, rfl, _, "bool", _, false, rfl, .int i, kib, _, rfl, iteF ⟨_, rfl, _, "int", _, true, rfl, .int i, kii, _, rfl, iteT ⟨_, rfl, _, rfl, ?_, q H (Ex.refl H)⟩⟩⟩
    simpa [PyData.showable] using hg.show
  | str x =>
    cases hd
    have := hg.1
    refine ⟨_, rfl, _, "bool", _, false, rfl, .str x, ksb, _, rfl, iteF ⟨_, rfl, _, "int", _, false, rfl, .str x, ksi, _, rfl, iteF ⟨_, rfl, _, "str", _, true, rfl, .str x, kss, _, rfl, iteT ⟨_, rfl, _, _, rfl, rfl, line_le (by rw [eq1]; omega), _, _, rfl, rfl, line_le (by rw [strLen_append, eq1]; omega), q H (Ex.refl H)⟩⟩⟩⟩
  | list ds =>
    obtain ⟨a, vs, rfl, e, r⟩ := hd.lst_inv
    refine ⟨_, rfl, _, "bool", _, false, rfl, hd, klb, _, rfl, iteF ⟨_, rfl, _, "int", _, false, rfl, hd, kli, _, rfl, iteF ⟨_, rfl, _, "str", _, false, rfl, hd, kls, _, rfl, iteF ⟨_, rfl, _, "list", _, true, rfl, hd, kll, _, rfl, iteT ?_⟩⟩⟩⟩
    refine ⟨⟨_, rfl⟩, _, rfl, a, rfl, ⟨_, SqL.of e⟩, fun D hD => ?_⟩
    refine lc_list (xs := vs) (fun i H' => Ex H H' ∧ H' D = some (.lst (((docAll ds).take i).map V.str))) ⟨Ex.new hD, upd_same⟩ (fun i H' _ p => SqL.of (p.1 _ _ e)) (fun i x H' hx p => ?_) (fun H' p => ?_)
    · obtain ⟨z, hz, hq⟩ := r.get hx
      have hgz : Gd true n z := hg.2 z (List.mem_of_getElem? hz)
      refine ⟨rfl, tyes ?_⟩
      refine ⟨_, rfl, x, z, rfl, hq.mono p.1, hgz, fun H4 e4 => ?_⟩
      refine ⟨_, e4 _ _ p.2, ?_, ?_, ?_⟩
      · have h8 := hg.1
        rw [List.length_map, List.length_take, docAll_len]
        exact small1000 (by omega)
      · exact (p.1.trans e4).mut hD
      · rw [upd_same, take_snoc (docAll_get ds i z hz), List.map_append]
        rfl
    · have h8 := hg.1
      rw [r.length, List.take_of_length_le (by rw [docAll_len]; exact Nat.le_refl _)] at p
      obtain ⟨s1, s2⟩ := sum8 (ts := docAll ds) (by rw [docAll_len]; exact h8) (docAll_le hn hg)
      refine ⟨_, D, docAll ds, rfl, rfl, .inl (SqL.of p.2), s1, ?_⟩
      rw [TL.join_eq]
      refine ⟨_, _, rfl, rfl, line_le (by rw [eb]; omega), _, _, rfl, rfl, line_le (by rw [strLen_append, eb, eb2]; omega), ?_⟩
      have z := q H' p.1
      simp only [doc] at z
      exact z
  | dict ds =>
    obtain ⟨a, vs, rfl, e, r⟩ := hd.dct_inv
    refine ⟨_, rfl, _, "bool", _, false, rfl, hd, kdb, _, rfl, iteF ⟨_, rfl, _, "int", _, false, rfl, hd, kdi, _, rfl, iteF ⟨_, rfl, _, "str", _, false, rfl, hd, kds, _, rfl, iteF ⟨_, rfl, _, "list", _, false, rfl, hd, kdl, _, rfl, iteF ?_⟩⟩⟩⟩
    have h8 := hg.1
    refine ⟨⟨_, rfl⟩, _, rfl, a, vs, ds.map (fun p => keyS p.1), rfl, .inl e, r.keys, by rw [List.length_map]; omega, fun ys p hp hs np => ?_⟩
    have ey := sorted_eq hp hs
    subst ey
    have x1 : Ex H (upd H p (.lst ((sortS (ds.map fun p => keyS p.1)).map V.str))) := Ex.new np
    refine ⟨p, rfl, ⟨_, SqL.of upd_same⟩, fun D hD => ?_⟩
    refine lc_list (xs := (sortS (ds.map fun p => keyS p.1)).map V.str) (fun i H' => Ex H H' ∧ Ex (upd H p (.lst ((sortS (ds.map fun p => keyS p.1)).map V.str))) H' ∧ H' D = some (.lst ((((sortS (ds.map fun p => keyS p.1)).map (memS (docKv ds))).take i).map V.str)))
      ⟨x1.trans (Ex.new hD), Ex.new hD, upd_same⟩ (fun i H' _ p => SqL.of (p.2.1 _ _ upd_same)) (fun i x H' hx p => ?_) (fun H' p => ?_)
    · rw [List.getElem?_map] at hx
      obtain ⟨nm, hnm, rfl⟩ := Option.map_eq_some_iff.mp hx
      have hmem : nm ∈ ds.map fun p => keyS p.1 := (sortS_perm _).mem_iff.mp (List.mem_of_getElem? hnm)
      obtain ⟨dd, vv, h1, ⟨pp, hpp, epp⟩, h2, h3⟩ := rec_at (p.1 _ _ e) (r.mono p.1) hmem
      obtain ⟨qq, hqq, eqq⟩ := List.mem_map.mp hmem
      have hl := (hg.2.1 qq hqq).2.1.1
      rw [eqq] at hl
      have hgd := (hg.2.1 pp hpp).2.2
      rw [epp] at hgd
      have hdl := doc_len hgd
      have hbn : bnd n ≤ 7300000 := bnd_le (by omega)
      refine ⟨rfl, tyes ?_⟩
      refine ⟨_, rfl, _, _, rfl, rfl, line_le (by rw [eq1]; omega), _, _, rfl, rfl, line_le (by rw [strLen_append, eq1, eq2]; omega), _, rfl, _, rfl, a, vv, rfl, h2, vv, dd, rfl, h3, hgd, fun H4 e4 => ?_⟩
      refine ⟨_, _, rfl, rfl, line_le (by rw [strLen_append, strLen_append, eq1, eq2]; omega), _, e4 _ _ p.2.2, ?_, ?_, ?_, ?_⟩
      · rw [List.length_map, List.length_take, List.length_map, (sortS_perm _).length_eq, List.length_map]
        exact small1000 (by omega)
      · refine (p.1.trans e4).mut ?_
        exact fresh_back x1 hD
      · exact (p.2.1.trans e4).mut hD
      · rw [upd_same, take_snoc (l := (sortS (ds.map fun p => keyS p.1)).map (memS (docKv ds))) (x := memS (docKv ds) nm) (by rw [List.getElem?_map, hnm]; rfl), List.map_append, colon]
        unfold memS
        rw [lookS_get ds nm dd h1]
        rfl
    · have hlen : ((sortS (ds.map fun p => keyS p.1)).map (memS (docKv ds))).length = ds.length := by rw [List.length_map, (sortS_perm _).length_eq, List.length_map]
      rw [List.length_map, (sortS_perm _).length_eq, List.length_map, List.take_of_length_le (by rw [hlen]; exact Nat.le_refl _)] at p
      obtain ⟨s1, s2⟩ := sum8 (by rw [hlen]; exact h8) (memS_len hn hg)
      refine ⟨_, D, _, rfl, rfl, .inl (SqL.of p.2.2), s1, ?_⟩
      rw [TL.join_eq]
      refine ⟨_, _, rfl, rfl, line_le (by rw [ec]; omega), _, _, rfl, rfl, line_le (by rw [strLen_append, ec, ec2]; omega), ?_⟩
      have z := q H' p.1
      simp only [doc] at z
      exact z
theorem ok_doc {k : Nat} (F : Fun K "document" "document" sDoc f fd) (bF : Binds K fd ["value"] []) (mF : mg "document" = some (.ref f)) (FQ : Fun K "quoted" "quoted" sQuo g gd) (bQ : Binds K gd ["letters"] []) (mQ : mg "quoted" = some (.ref g)) (B : Blt mg) :
    ∀ n : Nat, n ≤ 6 → FnOk P w K mg base CX0 (n + 2) f fd ["value"] (spDoc n)
  | 0, _ => ok_doc0 F bF mF FQ bQ mQ B
  | n + 1, h => ok_docS (by omega) F bF mF FQ bQ mQ B (ok_doc (k := k) F bF mF FQ bQ mQ B n (by omega))
theorem ok_text {k : Nat} (F : Fun K "_law_text" "_law_text" sText f fd) (bF : Binds K fd ["value"] []) (mF : mg "_law_text" = some (.ref f)) (B : Blt mg) :
    ∀ n : Nat, n ≤ 6 → FnOk P w K mg base CX0 (n + 2) f fd ["value"] (spDoc n)
  | 0, _ => ok_text0 F bF mF B
  | n + 1, h => ok_textS (by omega) F bF mF B (ok_text (k := k) F bF mF B n (by omega))
theorem ok_same (F : Fun K "same" "same" sSame f fd) (G : FnOk P w K mg base CX0 8 g gd ["value"] (spDoc 6)) (bG : Binds K gd ["value"] []) (kG : PySem.W.keepIn K (.ref g) = true) (mG : mg "document" = some (.ref g)) : FnOk P w K mg base CX0 9 f fd ["first", "second"] spSame := by
  refine F.ok scSame (fun vs H Q E h => ?_) (fun cdv A outer s H vs Q E hr h => ?_)
  · obtain ⟨a, d, b, d', rfl, _⟩ := h
    rfl
  obtain ⟨v, d, v', d', rfl, h1, h2, g1, g2, q⟩ := h
  refine ⟨_, pss_one (ps_ret (pe_cmpR op_eq (pe_call G hr rfl mG kG bG .nil pass0 (pa_cons (pv 0) pa_nil)) (pe_call G hr rfl mG kG bG .nil pass0 (pa_cons (pv 1) pa_nil)) (nomark _))), ?_⟩
  exact ⟨_, rfl, v, d, rfl, h1, g1, fun H1 e1 => ⟨_, rfl, v', d', rfl, h2.mono e1, g2, fun H2 e2 => ⟨rfl, q H2 (e1.trans e2)⟩⟩⟩
end
end Sk

namespace Sk
open PySem PySem.Spec PyProof.Rows L2 Evl
theorem chs_new {K : PySem.W.Frag} {H : Hp} {st p : Addr} {xs : List V} {P : V → Prop} (s : Strm st H) (hp : H p = none) (hne : xs ≠ []) (hl : xs.length ≤ 100000) (h : ∀ v ∈ xs, P v) : Chs K (Hd st (upd H p (.lst xs))) (.ref p) P :=
  .inl ⟨p, xs, rfl, .inl (SqL.of (hd_of (s.ne hp) upd_same)), hne, hl, h⟩
theorem chs_str {K : PySem.W.Frag} {H : Hp} {z : Str} {P : V → Prop} (hne : z.cps.toList ≠ []) (hl : z.length ≤ 100000) (h : ∀ c ∈ z.cps.toList, P (.str ⟨#[c]⟩)) : Chs K H (.str z) P := .inr ⟨z, rfl, hne, hl, h⟩
/-- the two drawers, as the other defs call them -/
structure Drw (P : Program) (w : World) (K : PySem.W.Frag) (mg : Str → Option Value) (base : Heap) (fD fC : Addr) (dD dC : FuncData) : Prop where
  gD : FnOk P w K mg base CX0 1 fD dD ["stream", "size"] spDraw
  bD : Binds K dD ["stream", "size"] []
  kD : PySem.W.keepIn K (.ref fD) = true
  mD : mg "_law_draw" = some (.ref fD)
  gC : FnOk P w K mg base CX0 2 fC dC ["stream", "items"] (spChoose K)
  bC : Binds K dC ["stream", "items"] []
  kC : PySem.W.keepIn K (.ref fC) = true
  mC : mg "_law_choose" = some (.ref fC)
section
variable {P : Program} {w : World} {K : PySem.W.Frag} {mg : Str → Option Value} {base : Heap} {f fD fC : Addr} {fd dD dC : FuncData}
theorem isLow1 : ∀ c ∈ (Str.ofString "abcyz").cps.toList, 97 ≤ c ∧ c ≤ 122 := by decide +kernel
theorem isLow2 : ∀ c ∈ (Str.ofString "abcdefghijklmnopqrstuvwxyz").cps.toList, 97 ≤ c ∧ c ≤ 122 := by decide +kernel
theorem ok_word (F : Fun K "_law_word" "_law_word" sWord f fd) (D : Drw P w K mg base fD fC dD dC) (B : Blt mg) : FnOk P w K mg base CX0 3 f fd ["stream", "most"] spWord := by
  refine F.ok scWord (fun vs H Q E h => ?_) (fun cdv A outer s H vs Q E hr h => ?_)
  · obtain ⟨a, n, rfl, _⟩ := h
    rfl
  have nd := scWord.nd
  have hr1 : Room 1 _ := hr.mono (by decide)
  obtain ⟨st, m, rfl, hst, m0, m1, q⟩ := h
  refine ⟨_, pss_cons (ps_set (i := 2) nd rfl (Or.inl rfl) (pe_call D.gC hr rfl D.mC D.kC D.bC .nil pass0 (pa_cons (pv 0) (pa_cons (pe_lst (pa_cons pe_int (pa_cons pe_int (pa_cons pe_int (pa_cons (pv 1)
      (pa_cons (pe_call D.gD hr1 rfl D.mD D.kD D.bD .nil pass0 (pa_cons (pv 0) (pa_cons (pe_op op_add (pv 1) pe_int) pa_nil))) pa_nil)))))) pa_nil))))
    (pss_cons (ps_set (i := 3) nd rfl (Or.inr rfl) (pe_call D.gC hr rfl D.mC D.kC D.bC .nil pass0 (pa_cons (pv 0) (pa_cons (pe_lst (pa_cons pe_str (pa_cons pe_str pa_nil))) pa_nil))))
    (pss_one (ps_ret (pe_join pe_str (pe_lc (own := [("turn", 4)]) (g := gName 4) (tt := tYes) rfl nd (pi_range1 rfl B.range (pa_cons (pv 2) pa_nil)) (blkOk_by (N := ["stream", "most", "size", "letters", "turn"]) (sc := defScope sWord) (by decide +kernel))
      (fun _ _ _ _ _ => pg_name (i := 4) nd rfl (Or.inl rfl)) (fun _ _ _ _ _ => pts_nil) (fun _ _ _ _ _ => pe_call D.gC hr rfl D.mC D.kC D.bC .nil pass0 (pa_cons (pv 0) (pa_cons (pv 3) pa_nil)))))))), ?_⟩
  -- size
  refine ⟨_, rfl, _, rfl, _, rfl, _, rfl, _, _, rfl, rfl, st, _, rfl, hst, by omega, by omega, fun k H1 k0 k1 A1 => ?_⟩
  refine ⟨by show 5 ≤ sizeLine; decide, fun p np => ?_⟩
  refine ⟨st, _, fun v => ∃ i : Int, v = .int i ∧ 0 ≤ i ∧ i ≤ m, rfl, A1.sm.new np, chs_new A1.sm np (by simp) (by simp) ?_, fun v H2 hv A2 => ?_⟩
  · intro v hv
    simp only [List.mem_cons, List.not_mem_nil, or_false] at hv
    rcases hv with rfl | rfl | rfl | rfl | rfl
    · exact ⟨0, rfl, by omega, by omega⟩
    · exact ⟨1, rfl, by omega, by omega⟩
    · exact ⟨2, rfl, by omega, by omega⟩
    · exact ⟨m, rfl, by omega, by omega⟩
    · exact ⟨k, rfl, by omega, by omega⟩
  obtain ⟨size, rfl, s0, s1⟩ := hv
  have B2 : Aft st H H2 := (A1.new np).trans A2
  -- letters
  refine ⟨_, rfl, by show 2 ≤ sizeLine; decide, fun p2 np2 => ?_⟩
  refine ⟨st, _, fun v => ∃ z : Str, v = .str z ∧ z.cps.toList ≠ [] ∧ z.length ≤ 100000 ∧ lows z.cps.toList, rfl, B2.sm.new np2, chs_new B2.sm np2 (by simp) (by simp) ?_, fun v H3 hv A3 => ?_⟩
  · intro v hv
    simp only [List.mem_cons, List.not_mem_nil, or_false] at hv
    rcases hv with rfl | rfl
    · exact ⟨_, rfl, by decide +kernel, by decide +kernel, isLow1⟩
    · exact ⟨_, rfl, by decide +kernel, by decide +kernel, isLow2⟩
  obtain ⟨z, rfl, z0, z1, z2⟩ := hv
  have B3 : Aft st H H3 := (B2.new np2).trans A3
  -- the signs
  refine ⟨⟨_, rfl⟩, _, rfl, size, rfl, by omega, by omega, fun Dl hD => ?_⟩
  have nst : Dl ≠ st := B3.sm.ne hD
  have hDn : Hd st H3 Dl = none := by unfold Hd; rw [if_neg nst]; exact hD
  refine lc_range (lo := 0) (n := size.toNat) (fun i H' => Aft st H3 H' ∧ ∃ cs : List Nat, cs.length = i ∧ lows cs ∧ H' Dl = some (.lst ((cs.map one).map V.str))) ⟨(Aft.of B3.sm).new hD, [], rfl, (fun _ h => nomatch h), upd_same⟩ (fun i H' hi p => ?_) (fun H' p => ?_)
  · obtain ⟨pA, cs, c0, c1, c2⟩ := p
    refine ⟨rfl, tyes ?_⟩
    refine ⟨_, rfl, _, rfl, st, _, fun v => ∃ c : Nat, v = .str (one c) ∧ 97 ≤ c ∧ c ≤ 122, rfl, pA.sm, chs_str z0 z1 fun c hc => ⟨c, rfl, z2 c hc⟩, fun v H4 hv A4 => ?_⟩
    obtain ⟨c, rfl, c3⟩ := hv
    have at4 : H4 Dl = some (.lst ((cs.map one).map V.str)) := A4.at nst c2
    refine ⟨_, at4, ?_, ?_, cs ++ [c], ?_, ?_, ?_⟩
    · rw [List.length_map, List.length_map]
      exact small1000 (by omega)
    · exact (pA.trans A4).mut nst hDn
    · rw [List.length_append, c0]; rfl
    · intro x hx
      rcases List.mem_append.mp hx with hx | hx
      · exact c1 x hx
      · cases List.mem_singleton.mp hx
        exact c3
    · rw [upd_same, List.map_append, List.map_append]
      rfl
  · obtain ⟨pA, cs, c0, c1, c2⟩ := p
    have e0 : (Str.ofString "").length = 0 := rfl
    refine ⟨_, Dl, cs.map one, rfl, rfl, .inl (SqL.of c2), by rw [sum_one, e0]; omega, ?_⟩
    rw [TL.join_eq]
    have ee : (Str.ofString "") = Str.empty := rfl
    rw [ee]
    refine q _ H' ?_ ?_ (B3.trans pA)
    · have : (Str.join Str.empty (cs.map one)).length = (Str.join Str.empty (cs.map one)).cps.toList.length := by simp [Str.length]
      rw [this, join_one]
      omega
    · rw [join_one]
      exact c1
end
end Sk

namespace Sk
open PySem PySem.Spec PyProof.Rows L2 Evl
abbrev sVal : Stmt := topS 10
theorem scVal : FnScope ["stream", "depth", "kind", "some", "great", "amount", "parts", "found", "part", "turn"] ["stream", "depth"] (defScope sVal) := ⟨rfl, rfl, rfl, by decide +kernel, rfl, by decide +kernel, by decide +kernel⟩
def spVal (D : Nat) : Sp := fun vs H Q _ => ∃ (st : Addr) (d : Int), vs = [.ref st, .int d] ∧ Strm st H ∧ 1 ≤ d ∧ d ≤ D ∧
  ∀ (v : V) (t : PyData) (H' : Hp), Dq (Nw H H') v t → Gd false d.toNat t → Aft st H H' → Q v H'
theorem bt_min : bootBuiltins "min" = some (.builtin "min") := by decide +kernel
theorem bt_max : bootBuiltins "max" = some (.builtin "max") := by decide +kernel
def E00 : Hp := fun _ => none
theorem ex00 {H : Hp} : Ex E00 H := fun _ _ h => nomatch h
theorem lows_ok {x : Str} {m : Nat} (h : x.length ≤ m) (l : lows x.cps.toList) : okS m x := ⟨h, fun c hc => by have := l c hc; omega⟩
theorem okS_le {m n : Nat} {x : Str} (h : okS m x) (l : m ≤ n) : okS n x := ⟨Nat.le_trans h.1 l, h.2⟩
theorem okS_app {m n : Nat} {x y : Str} (h : okS m x) (g : okS n y) : okS (m + n) (x ++ y) := by
  refine ⟨?_, fun c hc => ?_⟩
  · rw [strLen_append]; have := h.1; have := g.1; omega
  · rw [tl_app] at hc
    exact (List.mem_append.mp hc).elim (h.2 c) (g.2 c)
theorem GdK.le {b : Bool} {n m k : Nat} {ds : List (PyData × PyData)} (g : GdK b n m ds) (l : m ≤ k) : GdK b n k ds := ⟨Nat.le_trans g.1 l, g.2⟩
/-- a way that holds whatever the test says, shared by two tests -/
theorem ite_share {p : Bool} {A B : Prop} (a : A) (b : p = false → A → B) : if p = true then A else B := by
  cases p with
  | true => rw [if_pos rfl]; exact a
  | false => rw [if_neg Bool.false_ne_true]; exact b rfl a
section
variable {P : Program} {w : World} {K : PySem.W.Frag} {mg : Str → Option Value} {base : Heap} {f fD fC fW : Addr} {fd dD dC dW : FuncData}
theorem ok_val0 {k : Nat} : FnOk P w K mg base CX0 k f fd ["stream", "depth"] (spVal 0) := by
  have no : ∀ vs H Q E, ¬ spVal 0 vs H Q E := fun vs H Q E ⟨_, _, _, _, h1, h2, _⟩ => by
    have h3 : ((0 : Nat) : Int) = 0 := rfl
    omega
  exact ⟨fun vs H Q E h => absurd h (no vs H Q E), fun A outer s H args us vs Q E _ _ _ _ h => absurd h (no vs H Q E)⟩
theorem ok_valS {k D : Nat} (hD5 : D ≤ 5) (F : Fun K "_law_any_value" "_law_any_value" sVal f fd) (bF : Binds K fd ["stream", "depth"] []) (mF : mg "_law_any_value" = some (.ref f)) (W : Drw P w K mg base fD fC dD dC) (B : Blt mg)
    (gW : FnOk P w K mg base CX0 3 fW dW ["stream", "most"] spWord) (bW : Binds K dW ["stream", "most"] []) (kW : PySem.W.keepIn K (.ref fW) = true) (mW : mg "_law_word" = some (.ref fW))
    (G : FnOk P w K mg base CX0 (k + 3) f fd ["stream", "depth"] (spVal D)) : FnOk P w K mg base CX0 (k + 4) f fd ["stream", "depth"] (spVal (D + 1)) := by
  refine F.ok scVal (fun vs H Q E h => ?_) (fun cdv A outer s H vs Q E hr h => ?_)
  · obtain ⟨a, n, rfl, _⟩ := h
    rfl
  have nd := scVal.nd
  have hu := hu_of hr
  have hr1 : Room 1 _ := hr.mono (by omega)
  have hr2 : Room 2 _ := hr.mono (by omega)
  have hr3 : Room 3 _ := hr.mono (by omega)
  obtain ⟨st, d, rfl, hst, d0, d1, q⟩ := h
  obtain ⟨n, hn⟩ : ∃ n, d.toNat = n + 1 := ⟨d.toNat - 1, by omega⟩
  rw [hn] at q
  refine ⟨_, pss_cons (ps_set (i := 2) nd rfl (Or.inl rfl) (pe_call W.gD hr1 rfl W.mD W.kD W.bD .nil pass0 (pa_cons (pv 0) (pa_cons pe_int pa_nil))))
    (pss_cons (ps_if (PW.pt (pw_or (pt_cmpR op_eq (pv 1) pe_int (nomark _)) (pw_or1 (pt_cmpR op_lt (pv 2) pe_int (nomark _)))))
      (pss_cons (ps_set (i := 3) nd rfl (Or.inl rfl) (pe_lst (pa_cons (pe_op op_powB pe_int pe_int) (pa_cons (pe_op op_sub pe_int (pe_op op_powB pe_int pe_int)) (pa_cons (pe_op op_sub (pe_op op_powB pe_int pe_int) pe_int) (pa_cons pe_int (pa_cons pe_int
          (pa_cons (pe_op op_sub pe_int pe_int) (pa_cons (pe_op op_sub pe_int pe_int) (pa_cons (pe_call W.gD hr1 rfl W.mD W.kD W.bD .nil pass0 (pa_cons (pv 0) (pa_cons (pe_op op_powB pe_int pe_int) pa_nil))) pa_nil))))))))))
      (pss_cons (ps_set (i := 4) nd rfl (Or.inl rfl) (pe_call W.gC hr2 rfl W.mC W.kC W.bC .nil pass0 (pa_cons (pv 0) (pa_cons (pv 3) pa_nil))))
      (pss_one (ps_ret (pe_call W.gC hr2 rfl W.mC W.kC W.bC .nil pass0 (pa_cons (pv 0) (pa_cons (pe_lst (pa_cons (pv 4) (pa_cons (pv 4) (pa_cons pe_bl (pa_cons pe_bl (pa_cons (pe_call gW hr3 rfl mW kW bW .nil pass0 (pa_cons (pv 0) (pa_cons pe_int pa_nil)))
          (pa_cons (pe_call gW hr3 rfl mW kW bW .nil pass0 (pa_cons (pv 0) (pa_cons pe_int pa_nil))) pa_nil))))))) pa_nil))))))) pss_nil)
    (pss_cons (ps_set (i := 5) nd rfl (Or.inl rfl) (pe_call W.gC hr2 rfl W.mC W.kC W.bC .nil pass0 (pa_cons (pv 0) (pa_cons (pe_lst (pa_cons pe_int (pa_cons pe_int (pa_cons pe_int (pa_cons pe_int (pa_cons pe_int
        (pa_cons (pe_call W.gD hr1 rfl W.mD W.kD W.bD .nil pass0 (pa_cons (pv 0) (pa_cons pe_int pa_nil))) pa_nil))))))) pa_nil))))
    (pss_cons (ps_if (pt_cmpR op_gt (pv 1) pe_int (nomark _)) (pss_one (ps_set (i := 5) nd rfl (Or.inl rfl) (pe_callB (call_min2 rfl) rfl B.min bt_min (pa_cons (pv 5) (pa_cons pe_int pa_nil))))) pss_nil)
    (pss_cons (ps_setLc (i := 6) (own := [("turn", 9)]) (g := gName 9) (tt := tYes) rfl nd rfl rfl (sw_true rfl rfl rfl (by decide +kernel)) (pi_range1 rfl B.range (pa_cons (pv 5) pa_nil))
        (blkOk_by (N := ["stream", "depth", "kind", "some", "great", "amount", "parts", "found", "part", "turn"]) (sc := defScope sVal) (by decide +kernel)) (fun _ _ _ _ _ => pg_name (i := 9) nd rfl (Or.inl rfl)) (fun _ _ _ _ _ => pts_nil)
        (fun _ _ _ _ _ => pe_call G hr rfl mF F.kp bF .nil pass0 (pa_cons (pv 0) (pa_cons (pe_op op_sub (pe_op op_sub (pv 1) pe_int) (pe_op op_mul (pe_call W.gD hr1 rfl W.mD W.kD W.bD .nil pass0 (pa_cons (pv 0) (pa_cons pe_int pa_nil)))
          (pe_callTy call_int1 rfl B.int bt_int (pa_cons (pe_cmpR op_gt (pv 1) pe_int (nomark _)) pa_nil)))) pa_nil))))
    (pss_cons (ps_if (pt_cmpR op_lt (pv 2) pe_int (nomark _)) (pss_one (ps_ret (pv 6))) pss_nil)
    (pss_cons (ps_set (i := 7) nd rfl (Or.inl rfl) pe_dnewK)
    (pss_cons (ps_for PassesOwn.never rfl (pi_list (pv 6)) (pg_name (i := 8) nd rfl (Or.inl rfl))
      (pss_one (ps_dput hu (pv 7) (pe_call W.gC hr2 rfl W.mC W.kC W.bC .nil pass0 (pa_cons (pv 0) (pa_cons (pe_lst (pa_cons pe_str (pa_cons pe_str (pa_cons pe_str (pa_cons pe_str
        (pa_cons (pe_op op_add_str (pe_call gW hr3 rfl mW kW bW .nil pass0 (pa_cons (pv 0) (pa_cons pe_int pa_nil))) pe_str) pa_nil)))))) pa_nil))) (pv 8) rfl)))
    (pss_one (ps_ret (pv 7)))))))))), ?_⟩
  have h9 : CPowB 10 9 := powB_small (by decide) (by decide) (by decide) (by decide)
  have e9 : (10 : Int) ^ (9 : Int).toNat = 1000000000 := by decide
  -- kind
  refine ⟨_, rfl, st, _, rfl, hst, by decide, by decide, fun kind H1 k0 k1 A1 => ?_⟩
  refine ⟨_, rfl, rfl, _, rfl, ite_share ?_ fun c1 a => ?_⟩
  -- the scalars
  · refine iteT ?_
    refine ⟨_, _, rfl, rfl, h9, _, _, rfl, rfl, h9, _, _, rfl, rfl, _, _, rfl, rfl, h9, _, _, rfl, rfl, _, _, rfl, rfl, _, _, rfl, rfl, _, rfl, _, _, rfl, rfl, h9, ?_⟩
    rw [e9]
    refine ⟨st, _, rfl, A1.sm, by decide, by decide, fun big H2 b0 b1 A2 => ?_⟩
    refine ⟨by show 8 ≤ sizeLine; decide, fun p np => ?_⟩
    have B2 := A1.trans A2
    refine ⟨_, rfl, _, rfl, st, _, fun v => ∃ i : Int, v = .int i ∧ -1000000000 ≤ i ∧ i ≤ 1000000000, rfl, A2.sm.new np, chs_new A2.sm np (by simp) (by simp) ?_, fun v H3 hv A3 => ?_⟩
    · intro v hv
      simp only [List.mem_cons, List.not_mem_nil, or_false] at hv
      rcases hv with rfl | rfl | rfl | rfl | rfl | rfl | rfl | rfl
      all_goals first | exact ⟨_, rfl, by decide, by decide⟩ | exact ⟨_, rfl, by omega, by omega⟩
    obtain ⟨great, rfl, g0, g1⟩ := hv
    have B3 := (B2.new np).trans A3
    refine ⟨_, rfl, _, rfl, _, rfl, _, rfl, st, 12, rfl, B3.sm, by decide, by decide, fun w1 H4 l1 m1 A4 => ?_⟩
    refine ⟨_, rfl, st, 4, rfl, A4.sm, by decide, by decide, fun w2 H5 l2 m2 A5 => ?_⟩
    refine ⟨by show 6 ≤ sizeLine; decide, fun p2 np2 => ?_⟩
    have B5 := (B3.trans A4).trans A5
    refine ⟨st, _, fun v => ∃ t, Dq E00 v t ∧ Gd false 1 t, rfl, B5.sm.new np2, chs_new B5.sm np2 (by simp) (by simp) ?_, fun v H6 hv A6 => ?_⟩
    · intro v hv
      simp only [List.mem_cons, List.not_mem_nil, or_false] at hv
      rcases hv with rfl | rfl | rfl | rfl | rfl | rfl
      · exact ⟨_, .int _, g0, g1⟩
      · exact ⟨_, .int _, g0, g1⟩
      · exact ⟨_, .bl _, trivial⟩
      · exact ⟨_, .bl _, trivial⟩
      · exact ⟨_, .str _, lows_ok l1 m1⟩
      · exact ⟨_, .str _, okS_le (lows_ok l2 m2) (by decide)⟩
    obtain ⟨t, t0, t1⟩ := hv
    exact q v t H6 (t0.mono ex00) (t1.le (by omega)) ((B5.new np2).trans A6)
  -- the others
  refine ⟨_, rfl, _, _, rfl, rfl, _, rfl, ite2 (fun _ => a) fun c2 => ?_⟩
  have dne : d ≠ 1 := fun z => (of_decide_eq_false c1) (by rw [z])
  refine ⟨_, rfl, _, rfl, st, 4, rfl, A1.sm, by decide, by decide, fun k4 H2 k40 k41 A2 => ?_⟩
  refine ⟨by show 6 ≤ sizeLine; decide, fun p np => ?_⟩
  have B2 := A1.trans A2
  refine ⟨st, _, fun v => ∃ i : Int, v = .int i ∧ 0 ≤ i ∧ i ≤ 8, rfl, B2.sm.new np, chs_new B2.sm np (by simp) (by simp) ?_, fun v H3 hv A3 => ?_⟩
  · intro v hv
    simp only [List.mem_cons, List.not_mem_nil, or_false] at hv
    rcases hv with rfl | rfl | rfl | rfl | rfl | rfl
    all_goals first | exact ⟨_, rfl, by decide, by decide⟩ | exact ⟨_, rfl, by omega, by omega⟩
  obtain ⟨am0, rfl, a0, a1⟩ := hv
  have B3 := (B2.new np).trans A3
  refine ⟨_, rfl, _, _, rfl, rfl, _, rfl, ite2 (fun c3 => ?_) (fun c3 => ?_)⟩
  · refine ⟨_, rfl, _, _, rfl, ?_⟩
    have hb : 0 ≤ (if (2 : Int) < am0 then (2 : Int) else am0) ∧ (if (2 : Int) < am0 then (2 : Int) else am0) ≤ 8 := by split <;> omega
    generalize hm : (if (2 : Int) < am0 then (2 : Int) else am0) = am at hb ⊢
    clear hm
    obtain ⟨m0, m1⟩ := hb
    revert m0 m1
    revert am
    exact fun am m0 m1 => by
      -- the parts
      refine ⟨_, rfl, _, rfl, by omega, by omega, fun Dl hD => ?_⟩
      have nst : Dl ≠ st := B3.sm.ne hD
      have hDn : Hd st H3 Dl = none := by unfold Hd; rw [if_neg nst]; exact hD
      have G0s : Strm st (upd H3 Dl (.lst [])) := B3.sm.new hD
      refine lc_range (lo := 0) (fun i H' => Aft st H3 H' ∧ (∀ a, H' a = none → (upd H3 Dl (.lst [])) a = none) ∧ ∃ vs ts, vs.length = i ∧ DqAll (Nw (upd H3 Dl (.lst [])) H') vs ts ∧ (∀ t ∈ ts, Gd false n t) ∧ H' Dl = some (.lst vs)) ⟨(Aft.of B3.sm).new hD, (fun _ z => z), [], [], rfl, .nil, (fun _ h => nomatch h), upd_same⟩ (fun i H' hi p => ?_) (fun H' p => ?_)
      · obtain ⟨pA, pD, vs, ts, c0, c4, c5, c6⟩ := p
        refine ⟨rfl, tyes ?_⟩
        refine ⟨_, rfl, _, rfl, _, _, rfl, rfl, _, rfl, st, 2, rfl, pA.sm, by decide, by decide, fun kk H4 kk0 kk1 A4 => ?_⟩
        refine ⟨_, rfl, _, _, rfl, rfl, .inr ⟨_, rfl, ?_⟩⟩
        have hd1 : d - 1 ≤ (D : Int) := by
          have : ((D + 1 : Nat) : Int) = (D : Int) + 1 := rfl
          omega
        have hprod : 0 ≤ kk * (if decide (2 < d) = true then (1 : Int) else 0) ∧ kk * (if decide (2 < d) = true then (1 : Int) else 0) ≤ d - 2 := by
          by_cases z : 2 < d
          · rw [if_pos (decide_eq_true z)]; omega
          · rw [if_neg (by simpa using z)]; omega
        refine ⟨_, _, rfl, rfl, .inl ⟨by omega, by omega⟩, _, _, rfl, rfl, ?_⟩
        refine ⟨st, _, rfl, A4.sm, by omega, by omega, fun v t H5 q1 q2 A5 => ?_⟩
        have A45 := A4.trans A5
        refine ⟨_, A45.at nst c6, by rw [c0]; exact small1000 (by omega), (pA.trans A45).mut nst hDn, fun a z => pD a (A45.none (upd_none z)), vs ++ [v], ts ++ [t], by rw [List.length_append, c0]; rfl, ?_, ?_, upd_same⟩
        · rw [nw_upd (u := .lst []) upd_same]
          exact (c4.mono (nw_aft G0s A45)).snoc (q1.mono (nw_back fun a z => pD a (A4.none z)))
        · intro z hz
          rcases List.mem_append.mp hz with hz | hz
          · exact c5 z hz
          · cases List.mem_singleton.mp hz
            exact q2.le (by omega)
      obtain ⟨pA, pD, vs, ts, c0, c4, c5, c6⟩ := p
      have C3 := B3.trans pA
      have hDl0 : H Dl = none := B3.none hD
      have up3 : ∀ a, (upd H3 Dl (.lst [])) a = none → H a = none := fun a z => B3.none (upd_none z)
      refine ⟨_, rfl, _, _, rfl, rfl, _, rfl, ite2 (fun c6k => ?_) (fun c6k => ?_)⟩
      · refine ⟨_, rfl, q _ (.list ts) H' (.lst (nw_of hDl0 c6) (c4.mono (nw_back up3))) ⟨by rw [← c4.length]; omega, c5⟩ C3⟩
      -- the record
      intro Fa hF
      have fst : Fa ≠ st := C3.sm.ne hF
      have hFn : Hd st H' Fa = none := by unfold Hd; rw [if_neg fst]; exact hF
      have FDl : Dl ≠ Fa := ne_of_none c6 hF
      refine ⟨_, rfl, Dl, rfl, ⟨vs, SqL.of (by rw [upd_ne FDl]; exact c6)⟩, for_list (xs := vs) (fun i σ H6 => (∃ y, σ = [some (.ref st), some (.int d), some (.int kind), none, none, some (.int _), some (.ref Dl), some (.ref Fa), y, none]) ∧ Aft st H' H6 ∧
        ∃ kvs ds, H6 Fa = some (.dK kvs) ∧ DqKv (Nw (upd H3 Dl (.lst [])) H') kvs ds ∧ GdK false n i ds) ⟨⟨none, rfl⟩, (Aft.of pA.sm).new hF, [], [], upd_same, .nil, .nil⟩ (fun i σ H6 _ p => SqL.of (p.2.1.at nst c6)) (fun i x σ H6 hx p => ?_) (fun σ H6 p => ?_)⟩
      · obtain ⟨⟨y, rfl⟩, pA6, kvs, ds, r0, r1, r2⟩ := p
        have hi := (List.getElem?_eq_some_iff.mp hx).1
        obtain ⟨t, ht, hq⟩ := c4.get hx
        refine ⟨_, rfl, _, rfl, _, rfl, _, rfl, st, 7, rfl, pA6.sm, by decide, by decide, fun w1 H7 l1 m1 A7 => ?_⟩
        have ec : (Str.ofString "c").length = 1 := rfl
        have l7 : w1.length ≤ 7 := l1
        refine ⟨_, _, rfl, rfl, line_le (by rw [ec]; omega), by show 5 ≤ sizeLine; decide, fun p np => ?_⟩
        refine ⟨st, _, fun v => ∃ k : Str, v = .str k ∧ okS 8 k, rfl, A7.sm.new np, chs_new A7.sm np (by simp) (by simp) ?_, fun v H8 hv A8 => ?_⟩
        · intro v hv
          simp only [List.mem_cons, List.not_mem_nil, or_false] at hv
          rcases hv with rfl | rfl | rfl | rfl | rfl
          · exact ⟨_, rfl, by decide +kernel, by decide +kernel⟩
          · exact ⟨_, rfl, by decide +kernel, by decide +kernel⟩
          · exact ⟨_, rfl, by decide +kernel, by decide +kernel⟩
          · exact ⟨_, rfl, by decide +kernel, by decide +kernel⟩
          · exact ⟨_, rfl, okS_app (lows_ok l7 m1) (show okS 1 "c" from ⟨by decide +kernel, by decide +kernel⟩)⟩
        obtain ⟨key, rfl, hk⟩ := hv
        have A78 := (A7.new np).trans A8
        have r8 := A78.at fst r0
        have hlen := r1.length
        have hds := r2.1
        refine ⟨Fa, _, rfl, DPut.k (k := .inr key) r8 (small1000 (by omega)), ⟨some x, rfl⟩, (pA6.trans A78).mut fst hFn, _, _, upd_same, r1.put hq, r2.put hk (c5 t (List.mem_of_getElem? ht))⟩
      · obtain ⟨⟨y, rfl⟩, pA6, kvs, ds, r0, r1, r2⟩ := p
        have r3 := r2.le (show vs.length ≤ 8 by omega)
        have n0 : n ≠ 0 := by omega
        refine ⟨_, rfl, q _ (.dict ds) H6 (.dct (nw_of (C3.none hF) r0) ((r1.mono (nw_aft G0s pA6)).mono (nw_back up3))) ⟨r3.1, r3.2.1, r3.2.2, fun z => absurd z n0⟩ (C3.trans pA6)⟩

  · exact (by
      have m0 := a0
      have m1 := a1
      -- the parts
      refine ⟨_, rfl, _, rfl, by omega, by omega, fun Dl hD => ?_⟩
      have nst : Dl ≠ st := B3.sm.ne hD
      have hDn : Hd st H3 Dl = none := by unfold Hd; rw [if_neg nst]; exact hD
      have G0s : Strm st (upd H3 Dl (.lst [])) := B3.sm.new hD
      refine lc_range (lo := 0) (fun i H' => Aft st H3 H' ∧ (∀ a, H' a = none → (upd H3 Dl (.lst [])) a = none) ∧ ∃ vs ts, vs.length = i ∧ DqAll (Nw (upd H3 Dl (.lst [])) H') vs ts ∧ (∀ t ∈ ts, Gd false n t) ∧ H' Dl = some (.lst vs)) ⟨(Aft.of B3.sm).new hD, (fun _ z => z), [], [], rfl, .nil, (fun _ h => nomatch h), upd_same⟩ (fun i H' hi p => ?_) (fun H' p => ?_)
      · obtain ⟨pA, pD, vs, ts, c0, c4, c5, c6⟩ := p
        refine ⟨rfl, tyes ?_⟩
        refine ⟨_, rfl, _, rfl, _, _, rfl, rfl, _, rfl, st, 2, rfl, pA.sm, by decide, by decide, fun kk H4 kk0 kk1 A4 => ?_⟩
        refine ⟨_, rfl, _, _, rfl, rfl, .inr ⟨_, rfl, ?_⟩⟩
        have hd1 : d - 1 ≤ (D : Int) := by
          have : ((D + 1 : Nat) : Int) = (D : Int) + 1 := rfl
          omega
        have hprod : 0 ≤ kk * (if decide (2 < d) = true then (1 : Int) else 0) ∧ kk * (if decide (2 < d) = true then (1 : Int) else 0) ≤ d - 2 := by
          by_cases z : 2 < d
          · rw [if_pos (decide_eq_true z)]; omega
          · rw [if_neg (by simpa using z)]; omega
        refine ⟨_, _, rfl, rfl, .inl ⟨by omega, by omega⟩, _, _, rfl, rfl, ?_⟩
        refine ⟨st, _, rfl, A4.sm, by omega, by omega, fun v t H5 q1 q2 A5 => ?_⟩
        have A45 := A4.trans A5
        refine ⟨_, A45.at nst c6, by rw [c0]; exact small1000 (by omega), (pA.trans A45).mut nst hDn, fun a z => pD a (A45.none (upd_none z)), vs ++ [v], ts ++ [t], by rw [List.length_append, c0]; rfl, ?_, ?_, upd_same⟩
        · rw [nw_upd (u := .lst []) upd_same]
          exact (c4.mono (nw_aft G0s A45)).snoc (q1.mono (nw_back fun a z => pD a (A4.none z)))
        · intro z hz
          rcases List.mem_append.mp hz with hz | hz
          · exact c5 z hz
          · cases List.mem_singleton.mp hz
            exact q2.le (by omega)
      obtain ⟨pA, pD, vs, ts, c0, c4, c5, c6⟩ := p
      have C3 := B3.trans pA
      have hDl0 : H Dl = none := B3.none hD
      have up3 : ∀ a, (upd H3 Dl (.lst [])) a = none → H a = none := fun a z => B3.none (upd_none z)
      refine ⟨_, rfl, _, _, rfl, rfl, _, rfl, ite2 (fun c6k => ?_) (fun c6k => ?_)⟩
      · refine ⟨_, rfl, q _ (.list ts) H' (.lst (nw_of hDl0 c6) (c4.mono (nw_back up3))) ⟨by rw [← c4.length]; omega, c5⟩ C3⟩
      -- the record
      intro Fa hF
      have fst : Fa ≠ st := C3.sm.ne hF
      have hFn : Hd st H' Fa = none := by unfold Hd; rw [if_neg fst]; exact hF
      have FDl : Dl ≠ Fa := ne_of_none c6 hF
      refine ⟨_, rfl, Dl, rfl, ⟨vs, SqL.of (by rw [upd_ne FDl]; exact c6)⟩, for_list (xs := vs) (fun i σ H6 => (∃ y, σ = [some (.ref st), some (.int d), some (.int kind), none, none, some (.int _), some (.ref Dl), some (.ref Fa), y, none]) ∧ Aft st H' H6 ∧
        ∃ kvs ds, H6 Fa = some (.dK kvs) ∧ DqKv (Nw (upd H3 Dl (.lst [])) H') kvs ds ∧ GdK false n i ds) ⟨⟨none, rfl⟩, (Aft.of pA.sm).new hF, [], [], upd_same, .nil, .nil⟩ (fun i σ H6 _ p => SqL.of (p.2.1.at nst c6)) (fun i x σ H6 hx p => ?_) (fun σ H6 p => ?_)⟩
      · obtain ⟨⟨y, rfl⟩, pA6, kvs, ds, r0, r1, r2⟩ := p
        have hi := (List.getElem?_eq_some_iff.mp hx).1
        obtain ⟨t, ht, hq⟩ := c4.get hx
        refine ⟨_, rfl, _, rfl, _, rfl, _, rfl, st, 7, rfl, pA6.sm, by decide, by decide, fun w1 H7 l1 m1 A7 => ?_⟩
        have ec : (Str.ofString "c").length = 1 := rfl
        have l7 : w1.length ≤ 7 := l1
        refine ⟨_, _, rfl, rfl, line_le (by rw [ec]; omega), by show 5 ≤ sizeLine; decide, fun p np => ?_⟩
        refine ⟨st, _, fun v => ∃ k : Str, v = .str k ∧ okS 8 k, rfl, A7.sm.new np, chs_new A7.sm np (by simp) (by simp) ?_, fun v H8 hv A8 => ?_⟩
        · intro v hv
          simp only [List.mem_cons, List.not_mem_nil, or_false] at hv
          rcases hv with rfl | rfl | rfl | rfl | rfl
          · exact ⟨_, rfl, by decide +kernel, by decide +kernel⟩
          · exact ⟨_, rfl, by decide +kernel, by decide +kernel⟩
          · exact ⟨_, rfl, by decide +kernel, by decide +kernel⟩
          · exact ⟨_, rfl, by decide +kernel, by decide +kernel⟩
          · exact ⟨_, rfl, okS_app (lows_ok l7 m1) (show okS 1 "c" from ⟨by decide +kernel, by decide +kernel⟩)⟩
        obtain ⟨key, rfl, hk⟩ := hv
        have A78 := (A7.new np).trans A8
        have r8 := A78.at fst r0
        have hlen := r1.length
        have hds := r2.1
        refine ⟨Fa, _, rfl, DPut.k (k := .inr key) r8 (small1000 (by omega)), ⟨some x, rfl⟩, (pA6.trans A78).mut fst hFn, _, _, upd_same, r1.put hq, r2.put hk (c5 t (List.mem_of_getElem? ht))⟩
      · obtain ⟨⟨y, rfl⟩, pA6, kvs, ds, r0, r1, r2⟩ := p
        have r3 := r2.le (show vs.length ≤ 8 by omega)
        have n0 : n ≠ 0 := by omega
        refine ⟨_, rfl, q _ (.dict ds) H6 (.dct (nw_of (C3.none hF) r0) ((r1.mono (nw_aft G0s pA6)).mono (nw_back up3))) ⟨r3.1, r3.2.1, r3.2.2, fun z => absurd z n0⟩ (C3.trans pA6)⟩)
end
end Sk

namespace Sk
open PySem PySem.Spec PyProof.Rows L2 Evl
abbrev sOth : Stmt := topS 11
theorem scOth : FnScope ["stream", "value", "parts", "names", "part", "name"] ["stream", "value"] (defScope sOth) := ⟨rfl, rfl, rfl, by decide +kernel, rfl, by decide +kernel, by decide +kernel⟩
def spOth (n : Nat) : Sp := fun vs H Q _ => ∃ (st : Addr) (v : V) (d : PyData), vs = [.ref st, v] ∧ Strm st H ∧ Dq (Hd st H) v d ∧ Gd false n d ∧
  ∀ (v' : V) (d' : PyData) (H' : Hp), Dq (Nw H H') v' d' → Gd true n d' → Aft st H H' → Q v' H'
def mergeD (acc ds : List (PyData × PyData)) : List (PyData × PyData) := ds.foldl (fun a p => putD a (keyS p.1) p.2) acc
theorem merge_ok {G : Hp} {n : Nat} : ∀ {kvs ds}, DqKv G kvs ds → (∀ p ∈ ds, okS 8 (keyS p.1) ∧ Gd true n p.2) → ∀ {acc accD m}, DqKv G acc accD → GdK true n m accD → DqKv G (mergeK acc kvs) (mergeD accD ds) ∧ GdK true n (m + ds.length) (mergeD accD ds)
  | _, _, .nil, _, _, _, _, a, g => ⟨a, g⟩
  | _, _, .cons (k := k) (v := v) (d := d) (kvs := kvs) (ds := ds) x r, h, acc, accD, m, a, g => by
    have h0 := h (.str k, d) (by simp)
    obtain ⟨z1, z2⟩ := merge_ok r (fun p hp => h p (by simp [hp])) (a.put (k := k) x) (g.put h0.1 h0.2)
    refine ⟨z1, ?_⟩
    rw [List.length_cons, show m + (ds.length + 1) = m + 1 + ds.length by omega]
    exact z2
theorem Dq.leafE {H : Hp} {v : V} {d : PyData} (h : Dq H v d) (n1 : ∀ xs, d ≠ .list xs) (n2 : ∀ xs, d ≠ .dict xs) (n3 : ∀ xs, d ≠ .tuple xs) : Dq E00 v d := by
  cases h with
  | non => exact .non
  | bl b => exact .bl b
  | int i => exact .int i
  | str x => exact .str x
  | lst _ _ => exact absurd rfl (n1 _)
  | tup _ _ => exact absurd rfl (n3 _)
  | dct _ _ => exact absurd rfl (n2 _)
theorem gdz : ∀ {n : Nat}, Gd true n (.int 0)
  | 0 => ⟨rfl, rfl⟩
  | _ + 1 => ⟨by decide, by decide⟩
theorem paired_snoc {α β : Type} {F : α → β → Prop} : ∀ {l : List α} {m : List β}, Paired F l m → ∀ {a b}, F a b → Paired F (l ++ [a]) (m ++ [b])
  | _, _, .nil, _, _, h => .cons h .nil
  | _, _, .cons x r, _, _, h => .cons x (paired_snoc r h)
section
variable {P : Program} {w : World} {K : PySem.W.Frag} {mg : Str → Option Value} {base : Heap} {f fD fC : Addr} {fd dD dC : FuncData}
theorem ok_oth0 {k : Nat} : FnOk P w K mg base CX0 k f fd ["stream", "value"] (spOth 0) := by
  have no : ∀ vs H Q E, ¬ spOth 0 vs H Q E := fun vs H Q E ⟨_, _, _, _, _, _, h, _⟩ => by cases (gd0 h).1
  exact ⟨fun vs H Q E h => absurd h (no vs H Q E), fun A outer s H args us vs Q E _ _ _ _ h => absurd h (no vs H Q E)⟩
theorem ok_othS {k n : Nat} (F : Fun K "_law_other" "_law_other" sOth f fd) (bF : Binds K fd ["stream", "value"] []) (mF : mg "_law_other" = some (.ref f)) (W : Drw P w K mg base fD fC dD dC) (B : Blt mg)
    (G : FnOk P w K mg base CX0 (k + 2) f fd ["stream", "value"] (spOth n)) : FnOk P w K mg base CX0 (k + 3) f fd ["stream", "value"] (spOth (n + 1)) := by
  refine F.ok scOth (fun vs H Q E h => ?_) (fun cdv A outer s H vs Q E hr h => ?_)
  · obtain ⟨a, v, d, rfl, _⟩ := h
    rfl
  have nd := scOth.nd
  have hu := hu_of hr
  have hr1 : Room 1 _ := hr.mono (by omega)
  have hr2 : Room 2 _ := hr.mono (by omega)
  obtain ⟨st, v, d, rfl, hst, hd, hg, q⟩ := h
  refine ⟨_, pss_cons (ps_if (pt_val (pe_callB call_isD rfl B.isi bt_isi (pa_cons (pv 1) (pa_cons (pe_bltn (v := .ty "list") rfl B.list bt_list rfl) pa_nil))))
      (pss_cons (ps_setLc (i := 2) (own := [("part", 4)]) (g := gName 4) (tt := tYes) rfl nd rfl rfl (sw_true rfl rfl rfl (by decide +kernel)) (pi_list (pv 1)) (blkOk_by (N := ["stream", "value", "parts", "names", "part", "name"]) (sc := defScope sOth) (by decide +kernel))
          (fun _ _ _ _ _ => pg_name (i := 4) nd rfl (Or.inl rfl)) (fun _ _ _ _ _ => pts_nil) (fun _ _ _ _ _ => pe_call G hr rfl mF F.kp bF .nil pass0 (pa_cons (pv 0) (pa_cons (pv 4) pa_nil))))
      (pss_one (ps_ret (pe_op op_cat (pv 2) (pe_op op_rep (pe_lst (pa_cons pe_int pa_nil)) (pe_callTy call_int1 rfl B.int bt_int (pa_cons (pe_and (pe_cmpR op_lt (pe_callB call_len_seq rfl B.len PySem.boot_len (pa_cons (pv 2) pa_nil)) pe_int (nomark _))
          (pe_one (pe_cmpR op_eq (pe_call W.gD hr1 rfl W.mD W.kD W.bD .nil pass0 (pa_cons (pv 0) (pa_cons pe_int pa_nil))) pe_int (nomark _)))) pa_nil))))))) pss_nil)
    (pss_cons (ps_if (pt_val (pe_callB call_isD rfl B.isi bt_isi (pa_cons (pv 1) (pa_cons (pe_bltn (v := .ty "dict") rfl B.dict bt_dict rfl) pa_nil))))
      (pss_cons (ps_set (i := 3) nd rfl (Or.inl rfl) (pe_step (pe_callTy (call_listD rfl) rfl B.list bt_list (pa_cons (pv 1) pa_nil)) (pe_ix ix_list (pe_lst (pa_cons pe_int (pa_cons (pe_op op_sub pe_int pe_int) pa_nil))) (pe_call W.gD hr1 rfl W.mD W.kD W.bD .nil pass0 (pa_cons (pv 0) (pa_cons pe_int pa_nil))) (fun _ _ => rfl))))
      (pss_one (ps_ret (pe_callTy (call_dictP rfl) rfl B.dict bt_dict (pa_cons (pe_lc (own := [("name", 5)]) (g := gName 5) (tt := tYes) rfl nd (pi_list (pv 3)) (blkOk_by (N := ["stream", "value", "parts", "names", "part", "name"]) (sc := defScope sOth) (by decide +kernel))
          (fun _ _ _ _ _ => pg_name (i := 5) nd rfl (Or.inl rfl)) (fun _ _ _ _ _ => pts_nil)
          (fun _ _ _ _ _ => pe_tup (pa_cons (pv 5) (pa_cons (pe_call G hr rfl mF F.kp bF .nil pass0 (pa_cons (pv 0) (pa_cons (pe_dget hu (pv 1) (pv 5) (fun _ _ => rfl)) pa_nil))) pa_nil)))) pa_nil))))) pss_nil)
    (pss_cons (ps_if (pt_cmpR op_gt (pe_call W.gD hr1 rfl W.mD W.kD W.bD .nil pass0 (pa_cons (pv 0) (pa_cons pe_int pa_nil))) pe_int (nomark _)) (pss_one (ps_ret (pv 1))) pss_nil)
    (pss_one (ps_ret (pe_call W.gC hr2 rfl W.mC W.kC W.bC .nil pass0 (pa_cons (pv 0) (pa_cons (pe_lst (pa_cons pe_bl (pa_cons pe_int (pa_cons pe_int (pa_cons pe_bl (pa_cons pe_str (pa_cons pe_str (pa_cons (pe_lst pa_nil) (pa_cons pe_dnewK (pa_cons pe_int pa_nil)))))))))) pa_nil))))))), ?_⟩
  -- what is no list and no record
  have leaf : (∀ xs, d ≠ .list xs) → (∀ xs, d ≠ .dict xs) → (∀ xs, d ≠ .tuple xs) → kitB (tyD d) "list" = some false → kitB (tyD d) "dict" = some false → True := fun _ _ _ _ _ => trivial
  have hd0 := hd.mono hd_le
  have big : (∃ b, d = .bool b) ∨ (∃ i, d = .int i) ∨ (∃ x, d = .str x) ∨ (∃ xs, d = .list xs) ∨ ∃ xs, d = .dict xs := by
    cases d with
    | none => exact hg.elim
    | tuple _ => exact hg.elim
    | bool b => exact .inl ⟨b, rfl⟩
    | int b => exact .inr (.inl ⟨b, rfl⟩)
    | str b => exact .inr (.inr (.inl ⟨b, rfl⟩))
    | list b => exact .inr (.inr (.inr (.inl ⟨b, rfl⟩)))
    | dict b => exact .inr (.inr (.inr (.inr ⟨b, rfl⟩)))
  by_cases isl : ∃ xs, d = .list xs
  · obtain ⟨ds, rfl⟩ := isl
    obtain ⟨a, vs, rfl, e0, r⟩ := hd.lst_inv
    obtain ⟨an, e⟩ := hd_some e0
    refine ⟨_, rfl, _, "list", _, true, rfl, hd0, kll, _, rfl, iteT ?_⟩
    refine ⟨_, rfl, a, rfl, ⟨_, SqL.of e⟩, fun Dl hD => ?_⟩
    have nst : Dl ≠ st := hst.ne hD
    have hDn : Hd st H Dl = none := by unfold Hd; rw [if_neg nst]; exact hD
    have G0s : Strm st (upd H Dl (.lst [])) := hst.new hD
    have Dla : a ≠ Dl := ne_of_none e hD
    refine lc_list (xs := vs) (fun i H' => Aft st H H' ∧ (∀ a, H' a = none → (upd H Dl (.lst [])) a = none) ∧ ∃ ws ts, ws.length = i ∧ DqAll (Nw (upd H Dl (.lst [])) H') ws ts ∧ (∀ t ∈ ts, Gd true n t) ∧ H' Dl = some (.lst ws)) ⟨(Aft.of hst).new hD, (fun _ z => z), [], [], rfl, .nil, (fun _ h => nomatch h), upd_same⟩
      (fun i H' _ p => SqL.of (p.1.at an e)) (fun i x H' hx p => ?_) (fun H' p => ?_)
    · obtain ⟨pA, pD, ws, ts, c0, c4, c5, c6⟩ := p
      obtain ⟨t, ht, hq⟩ := r.get hx
      refine ⟨rfl, tyes ?_⟩
      refine ⟨_, rfl, _, rfl, st, x, t, rfl, pA.sm, hq.mono pA.gr, hg.2 t (List.mem_of_getElem? ht), fun v' t' H5 q1 q2 A5 => ?_⟩
      have hi := (List.getElem?_eq_some_iff.mp hx).1
      have hv8 : vs.length ≤ 8 := by rw [r.length]; exact hg.1
      refine ⟨_, A5.at nst c6, by rw [c0]; exact small1000 (by omega), (pA.trans A5).mut nst hDn, fun a z => pD a (A5.none (upd_none z)), ws ++ [v'], ts ++ [t'], by rw [List.length_append, c0]; rfl, ?_, ?_, upd_same⟩
      · rw [nw_upd (u := .lst []) upd_same]
        exact (c4.mono (nw_aft G0s A5)).snoc (q1.mono (nw_back fun a z => pD a z))
      · intro z hz
        rcases List.mem_append.mp hz with hz | hz
        · exact c5 z hz
        · cases List.mem_singleton.mp hz
          exact q2
    · obtain ⟨pA, pD, ws, ts, c0, c4, c5, c6⟩ := p
      have hv8 : vs.length ≤ 8 := by rw [r.length]; exact hg.1
      have hDl0 : H Dl = none := hD
      -- return parts + ..
      refine ⟨_, rfl, by show 1 ≤ sizeLine; decide, fun p np => ?_⟩
      have pst : p ≠ st := pA.sm.ne np
      have pDl : Dl ≠ p := ne_of_none c6 np
      have A1 : Aft st H' (upd H' p (.lst [.int 0])) := (Aft.of pA.sm).new np
      have c6' : (upd H' p (.lst [.int 0])) Dl = some (.lst ws) := by rw [upd_ne pDl]; exact c6
      -- the end, whatever the number
      have fin : ∀ (b : Bool) (H4 : Hp), Aft st (upd H' p (.lst [.int 0])) H4 → (b = true → ws.length < 8) → rRep (.ref p) (.int (if b = true then 1 else 0)) H4 fun y H5 => rCat (.ref Dl) y H5 Q := by
        intro b H4 A4 hb
        have p4 := A4.at pst upd_same
        have d4 := A4.at nst c6'
        refine ⟨p, _, _, rfl, rfl, p4, by split <;> decide, by split <;> decide, ?_, fun p2 np2 => ?_⟩
        · cases b <;> decide
        have p2Dl : Dl ≠ p2 := ne_of_none d4 np2
        have p2st : p2 ≠ st := A4.sm.ne np2
        refine ⟨Dl, p2, _, _, rfl, rfl, by rw [upd_ne p2Dl]; exact d4, upd_same, ?_, fun p3 np3 => ?_⟩
        · have : ((List.replicate (if b = true then (1 : Int) else 0).toNat [V.int 0]).flatten).length ≤ 1 := by cases b <;> decide
          exact sz_of (by omega)
        have zl : ((List.replicate (if b = true then (1 : Int) else 0).toNat [V.int 0]).flatten) = if b = true then [V.int 0] else [] := by cases b <;> rfl
        rw [zl] at np3 ⊢
        have AA := (((pA.trans A1).trans A4).new (o := .lst (if b = true then [V.int 0] else [])) np2).new (o := .lst (ws ++ if b = true then [V.int 0] else [])) np3
        refine q _ (.list (ts ++ if b = true then [.int 0] else [])) _ (.lst (nw_of ?_ upd_same) ?_) ?_ AA
        · exact pA.none (A1.none (A4.none (upd_none np3)))
        · have m2 := c4.mono (((nw_aft G0s (A1.trans A4)).trans ((nw_new (o := .lst (if b = true then [V.int 0] else [])) np2).trans (nw_new (o := .lst (ws ++ if b = true then [V.int 0] else [])) np3))).trans (nw_back (G := H) fun a z => upd_none z))
          cases b with
          | true => exact m2.snoc (.int 0)
          | false =>
            have z : ws ++ (if (false = true) then [V.int 0] else []) = ws := by simp
            have z2 : ts ++ (if (false = true) then [PyData.int 0] else []) = ts := by simp
            rw [z2]
            rw [z] at m2 ⊢
            exact m2
        · have hl := c4.length
          constructor
          · cases b with
            | true => have := hb rfl; simp; omega
            | false => simp; omega
          · intro x hx
            rcases List.mem_append.mp hx with hx | hx
            · exact c5 x hx
            · cases b with
              | true =>
                cases (show x = .int 0 by simpa using hx)
                exact gdz
              | false => simp at hx
      refine ⟨_, rfl, Dl, ws, rfl, .inl (SqL.of c6'), _, _, rfl, rfl, _, rfl, ite2 (fun c => ?_) (fun c => ?_)⟩
      · have c' : (ws.length : Int) < 8 := of_decide_eq_true c
        refine ⟨_, rfl, st, 6, rfl, A1.sm, by decide, by decide, fun k6 H4 _ _ A4 => ⟨rfl, ?_⟩⟩
        exact .inr ⟨_, rfl, fin _ H4 A4 fun _ => by omega⟩
      · exact .inr ⟨false, rfl, fin false _ (Aft.of A1.sm) fun z => nomatch z⟩
  by_cases isd : ∃ xs, d = .dict xs
  · obtain ⟨ds, rfl⟩ := isd
    obtain ⟨a, vs, rfl, e0, r⟩ := hd.dct_inv
    obtain ⟨an, e⟩ := hd_some e0
    refine ⟨_, rfl, _, "list", _, false, rfl, hd0, kdl, _, rfl, iteF ⟨_, rfl, _, "dict", _, true, rfl, hd0, kdd, _, rfl, iteT ?_⟩⟩
    -- the names, in one order or the other
    refine ⟨_, rfl, a, vs, rfl, .inl e, fun p1 np1 => ?_⟩
    refine ⟨_, _, rfl, rfl, by show 2 ≤ sizeLine; decide, fun p2 np2 => ?_⟩
    have A1 := ((Aft.of hst).new (o := .lst (vs.map fun kv => kV kv.1)) np1).new (o := .lst [.int 1, .int (0 - 1)]) np2
    have p1n : p1 ≠ st := hst.ne np1
    have p2n : p2 ≠ st := (hst.new np1).ne np2
    refine ⟨_, rfl, st, 2, rfl, A1.sm, by decide, by decide, fun k2 H3 k20 k21 A3 => ?_⟩
    have at1 : (upd (upd H p1 (.lst (vs.map fun kv => kV kv.1))) p2 (.lst [.int 1, .int (0 - 1)])) p1 = some (.lst (vs.map fun kv => kV kv.1)) := by
      rw [upd_ne (ne_of_none upd_same np2)]; exact upd_same
    have at3 := A3.at p1n at1
    have at32 := A3.at p2n upd_same
    have hstep : ∃ k, k ≠ 0 ∧ atI [V.int 1, V.int (0 - 1)] k2 = some (.int k) := by
      rcases (show k2 = 0 ∨ k2 = 1 by omega) with rfl | rfl
      · exact ⟨1, by decide, atI0⟩
      · exact ⟨0 - 1, by decide, atI1⟩
    obtain ⟨kk, kk0, hat⟩ := hstep
    refine ⟨p2, _, k2, _, rfl, rfl, SqL.of at32, hat, p1, _, kk, rfl, rfl, kk0, SqL.of at3, fun p4 zs np4 zs1 zs2 => ?_⟩
    have A4 := (A1.trans A3).new (o := .lst zs) np4
    have p4n : p4 ≠ st := A3.sm.ne np4
    rw [List.length_map] at zs2
    have hv8 : vs.length ≤ 8 := by rw [r.length]; exact hg.1
    -- the new record
    refine ⟨_, rfl, p4, rfl, ⟨zs, SqL.of upd_same⟩, fun Dl hD => ?_⟩
    have nst : Dl ≠ st := A4.sm.ne hD
    have p4D : p4 ≠ Dl := ne_of_none upd_same hD
    have G0s : Strm st (upd (upd H3 p4 (.lst zs)) Dl (.lst [])) := A4.sm.new hD
    have hDn : Hd st (upd H3 p4 (.lst zs)) Dl = none := by unfold Hd; rw [if_neg nst]; exact hD
    have up0 : ∀ b, (upd (upd H3 p4 (.lst zs)) Dl (.lst [])) b = none → H b = none := fun b z => A4.none (upd_none z)
    refine lc_list (xs := zs) (fun i H' => Aft st (upd H3 p4 (.lst zs)) H' ∧ (∀ a, H' a = none → (upd (upd H3 p4 (.lst zs)) Dl (.lst [])) a = none) ∧ ∃ (ps : List Addr) (kvs : List (Key × V)) (ts : List (PyData × PyData)), ps.length = i ∧ kvs.length = i ∧
        Paired (fun p kv => Nw (upd (upd H3 p4 (.lst zs)) Dl (.lst [])) H' p = some (.tup [kV kv.1, kv.2])) ps kvs ∧ DqKv (Nw (upd (upd H3 p4 (.lst zs)) Dl (.lst [])) H') kvs ts ∧ (∀ p ∈ ts, okS 8 (keyS p.1) ∧ Gd true n p.2) ∧ H' Dl = some (.lst (ps.map V.ref)))
      ⟨(Aft.of A4.sm).new hD, (fun _ z => z), [], [], [], rfl, rfl, .nil, .nil, (fun _ h => nomatch h), upd_same⟩ (fun i H' _ p => SqL.of (p.1.at p4n upd_same)) (fun i x H' hx p => ?_) (fun H' p => ?_)
    · obtain ⟨pA, pD, ps, kvs, ts, c0, c1, c2, c3, c4, c5⟩ := p
      have hxm := zs1 x (List.mem_of_getElem? hx)
      obtain ⟨kv, hkv, ekv⟩ := List.mem_map.mp hxm
      have hkm : kv.1 ∈ vs.map (·.1) := List.mem_map.mpr ⟨kv, hkv, rfl⟩
      rw [r.keys] at hkm
      obtain ⟨nm, hnm, enm⟩ := List.mem_map.mp hkm
      have ex : x = .str nm := by rw [← ekv, ← enm]; rfl
      subst ex
      have A5 := A4.trans pA
      obtain ⟨dd, vv, h1, ⟨pp, hpp, epp⟩, h2, h3⟩ := rec_at (H := Hd st H') (A5.gr _ _ e0) (r.mono A5.gr) hnm
      have h2' : DGet H' a (.str nm) (some vv) := by
        rcases h2 with ⟨kvs', k', hh, ek, ev⟩ | ⟨kvs', k', b, hh, ek, _⟩
        · refine .inl ⟨kvs', k', ?_, ek, ev⟩
          rcases hh with hh | ⟨ob, hh⟩
          · exact .inl (hd_some hh).2
          · exact .inr ⟨ob, (hd_some hh).2⟩
        · cases ek
      have hgd := (hg.2.1 pp hpp).2.2
      rw [epp] at hgd
      obtain ⟨qq, hqq, eqq⟩ := List.mem_map.mp hnm
      have hok := (hg.2.1 qq hqq).2.1
      rw [eqq] at hok
      refine ⟨rfl, tyes ?_⟩
      refine ⟨_, rfl, _, rfl, _, rfl, _, rfl, a, vv, rfl, h2', st, vv, dd, rfl, pA.sm, h3, hgd, fun v' d' H5 q1 q2 A6 => ?_⟩
      refine ⟨by show 2 ≤ sizeLine; decide, fun T nT => ?_⟩
      have TD : Dl ≠ T := ne_of_none (A6.at nst c5) nT
      have i8 := (List.getElem?_eq_some_iff.mp hx).1
      have A7 := A6.new (o := .tup [V.str nm, v']) nT
      refine ⟨_, A7.at nst c5, by rw [List.length_map, c0]; exact small1000 (by omega), (pA.trans A7).mut nst hDn, fun b z => pD b (A7.none (upd_none z)), ps ++ [T], kvs ++ [(.inr nm, v')], ts ++ [(.str nm, d')], by rw [List.length_append, c0]; rfl, by rw [List.length_append, c1]; rfl, ?_, ?_, ?_, ?_⟩
      · rw [nw_upd (u := .lst []) upd_same]
        refine paired_snoc (Paired.mapP c2 fun p kv z => nw_aft G0s A7 _ _ z) ?_
        exact nw_of (pD T (A6.none nT)) upd_same
      · rw [nw_upd (u := .lst []) upd_same]
        exact snoc_put (k := nm) (q1.mono ((nw_back fun b z => pD b z).trans (nw_new nT))) (c3.mono (nw_aft G0s A7))
      · intro p hp
        rcases List.mem_append.mp hp with hp | hp
        · exact c4 p hp
        · cases List.mem_singleton.mp hp
          exact ⟨hok, q2⟩
      · rw [upd_same, List.map_append]
        rfl
    · obtain ⟨pA, pD, ps, kvs, ts, c0, c1, c2, c3, c4, c5⟩ := p
      refine ⟨Dl, ps, kvs, rfl, SqL.of c5, Paired.mapP c2 fun p kv z => SqT.of (nw_some z).2, fun Fa hF => ?_⟩
      have A5 := (A4.trans pA).new (o := .dK (mergeK [] kvs)) hF
      obtain ⟨z1, z2⟩ := merge_ok c3 c4 (acc := []) (accD := []) .nil GdK.nil
      have hl := c3.length
      refine q _ (.dict (mergeD [] ts)) _ (.dct (nw_of ((A4.trans pA).none hF) upd_same) (z1.mono ((nw_new hF).trans (nw_back up0)))) ⟨Nat.le_trans z2.1 (by omega), z2.2.1, z2.2.2, fun z => ?_⟩ A5
      have : ds = [] := hg.2.2.2 z
      have : ds.length = 0 := by rw [this]; rfl
      have hr0 := r.length
      have := z2.1
      exact List.eq_nil_of_length_eq_zero (by omega)
  -- neither
  have k1 : kitB (tyD d) "list" = some false ∧ kitB (tyD d) "dict" = some false := by
    rcases big with ⟨b, rfl⟩ | ⟨b, rfl⟩ | ⟨b, rfl⟩ | h | h
    · exact ⟨kbl, kbd⟩
    · exact ⟨kil, kid⟩
    · exact ⟨ksl, ksd⟩
    · exact absurd h isl
    · exact absurd h isd
  have hlf : Dq E00 v d := hd.leafE (fun xs z => isl ⟨xs, z⟩) (fun xs z => isd ⟨xs, z⟩) fun xs z => by
    subst z; exact hg.elim
  refine ⟨_, rfl, _, "list", _, false, rfl, hd0, k1.1, _, rfl, iteF ⟨_, rfl, _, "dict", _, false, rfl, hd0, k1.2, _, rfl, iteF ?_⟩⟩
  refine ⟨_, rfl, st, 6, rfl, hst, by decide, by decide, fun k6 H1 _ _ A1 => ⟨_, _, rfl, rfl, _, rfl, ite2 (fun _ => ?_) (fun _ => ?_)⟩⟩
  · exact ⟨_, rfl, q v d H1 (hlf.mono ex00) hg.wide A1⟩
  refine ⟨_, rfl, Nat.zero_le _, fun p1 np1 => ?_⟩
  intro p2 np2
  refine ⟨by show 9 ≤ sizeLine; decide, fun p3 np3 => ?_⟩
  have A2 := (A1.new (o := .lst []) np1).new (o := .dK []) np2
  have A3 := A2.new (o := .lst [.bl true, .int 1, .int 0, .bl false, .str "", .str "a", .ref p1, .ref p2, .int 2]) np3
  have h1 : H p1 = none := A1.none np1
  have h2 : H p2 = none := (A1.new (o := .lst []) np1).none np2
  have at1 : (upd (upd (upd H1 p1 (.lst [])) p2 (.dK [])) p3 (.lst [.bl true, .int 1, .int 0, .bl false, .str "", .str "a", .ref p1, .ref p2, .int 2])) p1 = some (.lst []) := by
    have n2 : p1 ≠ p2 := ne_of_none upd_same np2
    have n3 : p1 ≠ p3 := ne_of_none (H := upd (upd H1 p1 (.lst [])) p2 (.dK [])) (o := .lst []) (by rw [upd_ne n2]; exact upd_same) np3
    rw [upd_ne n3, upd_ne n2]; exact upd_same
  have at2 : (upd (upd (upd H1 p1 (.lst [])) p2 (.dK [])) p3 (.lst [.bl true, .int 1, .int 0, .bl false, .str "", .str "a", .ref p1, .ref p2, .int 2])) p2 = some (.dK []) := by
    rw [upd_ne (ne_of_none upd_same np3)]; exact upd_same
  refine ⟨st, _, fun v => ∃ t, Dq (Nw H (upd (upd (upd H1 p1 (.lst [])) p2 (.dK [])) p3 (.lst [.bl true, .int 1, .int 0, .bl false, .str "", .str "a", .ref p1, .ref p2, .int 2]))) v t ∧ Gd true 1 t, rfl, A2.sm.new np3, chs_new A2.sm np3 (by simp) (by simp) ?_, fun v' H4 hv A4 => ?_⟩
  · intro v hv
    simp only [List.mem_cons, List.not_mem_nil, or_false] at hv
    rcases hv with rfl | rfl | rfl | rfl | rfl | rfl | rfl | rfl | rfl
    · exact ⟨_, .bl _, trivial⟩
    · exact ⟨_, .int _, by decide, by decide⟩
    · exact ⟨_, .int _, by decide, by decide⟩
    · exact ⟨_, .bl _, trivial⟩
    · exact ⟨_, .str _, by decide +kernel, by decide +kernel⟩
    · exact ⟨_, .str _, by decide +kernel, by decide +kernel⟩
    · exact ⟨_, .lst (nw_of h1 at1) .nil, Nat.zero_le _, fun _ h => nomatch h⟩
    · exact ⟨_, .dct (nw_of h2 at2) .nil, Nat.zero_le _, (fun _ h => nomatch h), by simp, fun _ => rfl⟩
    · exact ⟨_, .int _, by decide, by decide⟩
  obtain ⟨t, t0, t1⟩ := hv
  exact q v' t H4 (t0.mono (nw_aft hst A4)) (t1.le (by omega)) (A3.trans A4)
theorem ok_oth {k : Nat} (F : Fun K "_law_other" "_law_other" sOth f fd) (bF : Binds K fd ["stream", "value"] []) (mF : mg "_law_other" = some (.ref f)) (W : Drw P w K mg base fD fC dD dC) (B : Blt mg) :
    ∀ n : Nat, FnOk P w K mg base CX0 (n + 2) f fd ["stream", "value"] (spOth n)
  | 0 => ok_oth0
  | n + 1 => ok_othS F bF mF W B (ok_oth (k := k) F bF mF W B n)
theorem ok_val {k : Nat} {fW : Addr} {dW : FuncData} (F : Fun K "_law_any_value" "_law_any_value" sVal f fd) (bF : Binds K fd ["stream", "depth"] []) (mF : mg "_law_any_value" = some (.ref f)) (W : Drw P w K mg base fD fC dD dC) (B : Blt mg)
    (gW : FnOk P w K mg base CX0 3 fW dW ["stream", "most"] spWord) (bW : Binds K dW ["stream", "most"] []) (kW : PySem.W.keepIn K (.ref fW) = true) (mW : mg "_law_word" = some (.ref fW)) :
    ∀ n : Nat, n ≤ 6 → FnOk P w K mg base CX0 (n + 3) f fd ["stream", "depth"] (spVal n)
  | 0, _ => ok_val0
  | n + 1, h => ok_valS (by omega) F bF mF W B gW bW kW mW (ok_val (k := k) F bF mF W B gW bW kW mW n (by omega))
end
end Sk

namespace Sk
open PySem PySem.Spec PyProof.Rows L2 Evl
abbrev sLaw : Stmt := topS 12
theorem scLaw : FnScope ["script", "start", "stream", "turn", "value", "seen", "other", "expected"] ["script"] (defScope sLaw) := ⟨rfl, rfl, rfl, by decide +kernel, rfl, by decide +kernel, by decide +kernel⟩
def spLaw (K : PySem.W.Frag) : Sp := fun vs H Q _ => ∃ (a : Addr) (ns : List Int), vs = [.ref a] ∧ SqL K H a (ns.map V.int) ∧ ns.length ≤ 63 ∧ (∀ z ∈ ns, Builtin.Int.intBits z ≤ 1048576) ∧ ∀ H', Q (.bl true) H'
theorem tup_len {a b : PyData} (ha : Gd true 6 a) (hb : Gd true 6 b) : (PyData.tuple [a, b]).shown.length ≤ sizeLine := by
  have h1 := shown_len ha
  have h2 := shown_len hb
  have h3 : bnd 6 ≤ 7300000 := bnd_le (by decide)
  simp only [PyData.shown, PyData.shownAll]
  have e : tupleText [a.shown, b.shown] = (("(" : Str) ++ (a.shown ++ ", " ++ b.shown)) ++ ")" := rfl
  rw [e, strLen_append, strLen_append, strLen_append, strLen_append]
  have e1 : (Str.ofString "(").length = 1 := rfl
  have e2 : (Str.ofString ")").length = 1 := rfl
  have e3 : (Str.ofString ", ").length = 2 := rfl
  rw [e1, e2, e3]
  exact line_le (by omega)
section
variable {P : Program} {w : World} {K : PySem.W.Frag} {mg : Str → Option Value} {base : Heap} {fL fS fD fC fV fO fA fT fM : Addr} {dL dS dD dC dV dO dA dT dM : FuncData}
theorem ok_law (F : Fun K "law" "law" sLaw fL dL) (W : Drw P w K mg base fD fC dD dC) (B : Blt mg)
    (gS : FnOk P w K mg base CX0 1 fS dS ["script", "start"] (spStream K)) (bS : Binds K dS ["script", "start"] []) (kS : PySem.W.keepIn K (.ref fS) = true) (mS : mg "_law_stream" = some (.ref fS))
    (gV : FnOk P w K mg base CX0 9 fV dV ["stream", "depth"] (spVal 6)) (bV : Binds K dV ["stream", "depth"] []) (kV : PySem.W.keepIn K (.ref fV) = true) (mV : mg "_law_any_value" = some (.ref fV))
    (gO : FnOk P w K mg base CX0 8 fO dO ["stream", "value"] (spOth 6)) (bO : Binds K dO ["stream", "value"] []) (kO : PySem.W.keepIn K (.ref fO) = true) (mO : mg "_law_other" = some (.ref fO))
    (gA : FnOk P w K mg base CX0 8 fA dA ["value"] (spDoc 6)) (bA : Binds K dA ["value"] []) (kA : PySem.W.keepIn K (.ref fA) = true) (mA : mg "document" = some (.ref fA))
    (gT : FnOk P w K mg base CX0 8 fT dT ["value"] (spDoc 6)) (bT : Binds K dT ["value"] []) (kT : PySem.W.keepIn K (.ref fT) = true) (mT : mg "_law_text" = some (.ref fT))
    (gM : FnOk P w K mg base CX0 9 fM dM ["first", "second"] spSame) (bM : Binds K dM ["first", "second"] []) (kbM : KBinds K dM ["first", "second"] ["first", "second"] gNoPos gNoPos) (kM : PySem.W.keepIn K (.ref fM) = true) (mM : mg "same" = some (.ref fM)) :
    LawOk P w K mg base fL dL "script" (spLaw K) := by
  refine law_of (k := 9) F scLaw ⟨rfl, by decide, by decide⟩ fun cdv s H v Q hr hg h => ?_
  have nd := scLaw.nd
  have hu : (callerA.deeper (envOfC "law" (defScope sLaw) s.heap.objs.size fL cdv)).units + 64 < cLine := hr.units
  have hr1 : Room 1 _ := hr.mono (by decide)
  have hr8 : Room 8 _ := hr.mono (by decide)
  obtain ⟨a, ns, ev, hS, h63, hb, q⟩ := h
  cases ev
  refine ⟨_, pss_cons (ps_for PassesOwn.never rfl (pi_range1 rfl B.range (pa_cons (pe_callB (call_max2 rfl) rfl B.max bt_max (pa_cons pe_int (pa_cons (pe_callB (call_min2 rfl) rfl B.min bt_min (pa_cons pe_int (pa_cons (pe_callB call_len_seq rfl B.len PySem.boot_len (pa_cons (pv 0) pa_nil)) pa_nil))) pa_nil))) pa_nil)) (pg_name (i := 1) nd rfl (Or.inl rfl))
      (pss_cons (ps_set (i := 2) nd rfl (Or.inl rfl) (pe_call gS hr1 rfl mS kS bS .nil pass0 (pa_cons (pv 0) (pa_cons (pv 1) pa_nil))))
      (pss_one (ps_for PassesOwn.never rfl (pi_range1 rfl B.range (pa_cons pe_int pa_nil)) (pg_name (i := 3) nd rfl (Or.inl rfl))
        (pss_cons (ps_set (i := 4) nd rfl (Or.inl rfl) (pe_call gV hr rfl mV kV bV .nil pass0 (pa_cons (pv 2) (pa_cons (pe_op op_add pe_int (pe_call W.gD hr1 rfl W.mD W.kD W.bD .nil pass0 (pa_cons (pv 2) (pa_cons pe_int pa_nil)))) pa_nil))))
        (pss_cons (ps_set (i := 5) nd rfl (Or.inl rfl) (pe_callB (call_reprQ hg hu) rfl B.repr boot_repr (pa_cons (pv 4) pa_nil)))
        (pss_cons (ps_if (PW.pt (pw_or (pt_cmpR op_ne (pe_call gA hr8 rfl mA kA bA .nil pass0 (pa_cons (pv 4) pa_nil)) (pe_call gT hr8 rfl mT kT bT .nil pass0 (pa_cons (pv 4) pa_nil)) (nomark _))
            (pw_or1 (pt_cmpR op_ne (pe_callB (call_reprQ hg hu) rfl B.repr boot_repr (pa_cons (pv 4) pa_nil)) (pv 5) (nomark _))))) (pss_one (ps_ret pe_bl)) pss_nil)
        (pss_cons (ps_set (i := 6) nd rfl (Or.inl rfl) (pe_call gO hr8 rfl mO kO bO .nil pass0 (pa_cons (pv 2) (pa_cons (pv 4) pa_nil))))
        (pss_cons (ps_set (i := 7) nd rfl (Or.inl rfl) (pe_cmpR op_eq (pe_call gT hr8 rfl mT kT bT .nil pass0 (pa_cons (pv 4) pa_nil)) (pe_call gT hr8 rfl mT kT bT .nil pass0 (pa_cons (pv 6) pa_nil)) (nomark _)))
        (pss_cons (ps_set (i := 5) nd rfl (Or.inl rfl) (pe_callB (call_reprQ hg hu) rfl B.repr boot_repr (pa_cons (pe_tup (pa_cons (pv 4) (pa_cons (pv 6) pa_nil))) pa_nil)))
        (pss_cons (ps_if (PW.pt (pw_or (pt_cmpR op_ne (pe_callB (call_reprQ hg hu) rfl B.repr boot_repr (pa_cons (pe_call gM hr rfl mM kM bM .nil pass0 (pa_cons (pv 4) (pa_cons (pv 6) pa_nil))) pa_nil)) (pe_callB (call_reprQ hg hu) rfl B.repr boot_repr (pa_cons (pv 7) pa_nil)) (nomark _))
            (pw_or1 (pt_cmpR op_ne (pe_callK0 gM hr rfl mM kM kbM pass0 (pk_cons (pv 6) (pk_cons (pv 4) pk_nil))) (pv 7) (nomark _))))) (pss_one (ps_ret pe_bl)) pss_nil)
        (pss_one (ps_if (pt_cmpR op_ne (pe_callB (call_reprQ hg hu) rfl B.repr boot_repr (pa_cons (pe_tup (pa_cons (pv 4) (pa_cons (pv 6) pa_nil))) pa_nil)) (pv 5) (nomark _)) (pss_one (ps_ret pe_bl)) pss_nil)))))))))))))
    (pss_one (ps_ret pe_bl)), ?_⟩
  -- how often
  refine ⟨_, rfl, a, _, rfl, .inl hS, _, _, rfl, _, _, rfl, ?_⟩
  rw [List.length_map]
  generalize hN : (if (if (ns.length : Int) < 4 then (ns.length : Int) else 4) > 2 then (if (ns.length : Int) < 4 then (ns.length : Int) else 4) else 2) = N
  have N0 : 0 ≤ N ∧ N ≤ 4 := by
    rw [← hN]
    split <;> split at * <;> omega
  refine ⟨N, rfl, by omega, by omega, for_range (lo := 0) (n := N.toNat) (fun i σ H' => SqL K H' a (ns.map V.int) ∧ ∃ y1 y2 y3 y4 y5 y6 y7, σ = [some (.ref a), y1, y2, y3, y4, y5, y6, y7]) ⟨hS, none, none, none, none, none, none, none, rfl⟩ (fun i σ H' hi p => ?_) (fun σ H' p => ?_)⟩
  · obtain ⟨p0, y1, y2, y3, y4, y5, y6, y7, rfl⟩ := p
    refine ⟨_, rfl, _, rfl, a, ns, _, rfl, p0, h63, hb, by omega, by omega, fun st H1 nst E1 S1 => ?_⟩
    have s1 : SqL K (Hd st H1) a (ns.map V.int) := by
      refine ex_l (H := H') (fun b o e => hd_of ?_ (E1 b o e)) p0
      intro z; subst z; rw [nst] at e; cases e
    refine ⟨8, rfl, by decide, by decide, for_range (lo := 0) (n := 8) (fun i σ H2 => SqL K (Hd st H2) a (ns.map V.int) ∧ Strm st H2 ∧ ∃ y1 y3 y4 y5 y6 y7, σ = [some (.ref a), y1, some (.ref st), y3, y4, y5, y6, y7]) ⟨s1, S1, _, y3, y4, y5, y6, y7, rfl⟩ (fun j σ H2 hj p => ?_) (fun σ H2 p => ?_)⟩
    · obtain ⟨p1, S2, y1, y3, y4, y5, y6, y7, rfl⟩ := p
      refine ⟨_, rfl, _, rfl, st, 6, rfl, S2, by decide, by decide, fun k H3 k0 k1 A3 => ?_⟩
      refine ⟨_, _, rfl, rfl, st, _, rfl, A3.sm, by omega, by omega, fun v t H4 t0 t1 A4 => ?_⟩
      have g6 : Gd false 6 t := t1.le (by omega)
      have tA : Dq (Hd st H4) v t := t0.mono (nw_hd A3.sm)
      have hz : t.shown.length ≤ sizeLine := line_le (Nat.le_trans (shown_len (b := true) g6.wide) (Nat.le_trans (bnd_le (by decide)) (by decide)))
      have hdp : t.depth ≤ 60 := Nat.le_trans (Gd.depth g6) (by decide)
      -- seen = repr(value)
      refine ⟨_, rfl, v, t, rfl, tA.mono hd_le, g6.show, hz, hdp, ?_⟩
      -- document(value) != _law_text(value) or repr(value) != seen
      refine ⟨_, rfl, v, t, rfl, tA.mono hd_le, g6.wide, fun H5 E5 => ?_⟩
      have tB : Dq H5 v t := (tA.mono hd_le).mono E5
      refine ⟨_, rfl, v, t, rfl, tB, g6.wide, fun H6 E6 => ⟨rfl, _, rfl, iteNS rfl ?_⟩⟩
      have tC : Dq H6 v t := tB.mono E6
      refine ⟨_, rfl, v, t, rfl, tC, g6.show, hz, hdp, _, rfl, rfl, _, rfl, iteNS rfl ?_⟩
      have A6 : Aft st H4 H6 := ⟨gr_ex (E5.trans E6), by
        obtain ⟨d, sd, e, r⟩ := A4.sm
        exact ⟨d, sd, E6 _ _ (E5 _ _ e), r⟩⟩
      have tD : Dq (Hd st H6) v t := tA.mono A6.gr
      refine ⟨_, rfl, _, rfl, st, v, t, rfl, A6.sm, tD, g6, fun v' t' H7 q1 q2 A7 => ?_⟩
      have tE : Dq (Hd st H7) v t := tD.mono A7.gr
      have uE : Dq (Hd st H7) v' t' := q1.mono (nw_hd A6.sm)
      -- expected
      refine ⟨_, rfl, v, t, rfl, tE.mono hd_le, g6.wide, fun H8 E8 => ?_⟩
      have tF : Dq H8 v t := (tE.mono hd_le).mono E8
      have uF : Dq H8 v' t' := (uE.mono hd_le).mono E8
      refine ⟨_, rfl, v', t', rfl, uF, q2, fun H9 E9 => ⟨rfl, ?_⟩⟩
      have tG : Dq H9 v t := tF.mono E9
      have uG : Dq H9 v' t' := uF.mono E9
      have zt := tup_len (g6.wide (b := true)) q2
      have ws : (PyData.tuple [t, t']).showable = true := by simp [PyData.showable, PyData.showableAll, g6.show, q2.show]
      have wd : (PyData.tuple [t, t']).depth ≤ 60 := by
        have d1 := Gd.depth g6
        have d2 := Gd.depth q2
        simp only [PyData.depth, PyData.depthAll]
        omega
      -- seen = repr((value, other))
      refine ⟨_, rfl, _, rfl, by show 2 ≤ sizeLine; decide, fun p np => ?_⟩
      refine ⟨.ref p, _, rfl, .tup upd_same (.cons (tG.mono (Ex.new np)) (.cons (uG.mono (Ex.new np)) .nil)), ws, zt, wd, ?_⟩
      have tH : Dq (upd H9 p (.tup [v, v'])) v t := tG.mono (Ex.new np)
      have uH : Dq (upd H9 p (.tup [v, v'])) v' t' := uG.mono (Ex.new np)
      -- same, twice
      refine ⟨_, rfl, _, rfl, v, t, v', t', rfl, tH, uH, g6.wide, q2, fun H10 E10 => ?_⟩
      refine ⟨_, _, rfl, .bl _, rfl, ?_, by simp [PyData.depth], ?_⟩
      · cases (decide (V.str (doc t) = V.str (doc t'))) <;> decide +kernel
      refine ⟨_, rfl, _, _, rfl, .bl _, rfl, ?_, by simp [PyData.depth], rfl, _, rfl, iteNS rfl ?_⟩
      · cases (decide (V.str (doc t) = V.str (doc t'))) <;> decide +kernel
      have tI : Dq H10 v t := tH.mono E10
      have uI : Dq H10 v' t' := uH.mono E10
      refine ⟨_, rfl, _, rfl, v', t', v, t, rfl, uI, tI, q2, g6.wide, fun H11 E11 => ?_⟩
      have esym : V.bl (decide (V.str (doc t') = V.str (doc t))) = V.bl (decide (V.str (doc t) = V.str (doc t'))) := by
        congr 1
        exact decide_eq_decide.mpr ⟨fun z => z.symm, fun z => z.symm⟩
      refine ⟨_, rfl, rfl, _, rfl, iteNS esym ?_⟩
      have tJ : Dq H11 v t := tI.mono E11
      have uJ : Dq H11 v' t' := uI.mono E11
      refine ⟨_, rfl, _, rfl, by show 2 ≤ sizeLine; decide, fun p2 np2 => ?_⟩
      refine ⟨.ref p2, _, rfl, .tup upd_same (.cons (tJ.mono (Ex.new np2)) (.cons (uJ.mono (Ex.new np2)) .nil)), ws, zt, wd, _, rfl, rfl, _, rfl, iteNS rfl ?_⟩
      have EE : Ex H7 (upd H11 p2 (.tup [v, v'])) := ((((E8.trans E9).trans (Ex.new np)).trans E10).trans E11).trans (Ex.new np2)
      have A12 : Aft st H2 (upd H11 p2 (.tup [v, v'])) := by
        refine ((((A3.trans A4).trans A6).trans A7).trans ⟨gr_ex EE, ?_⟩)
        obtain ⟨d, sd, e, r⟩ := A7.sm
        exact ⟨d, sd, EE _ _ e, r⟩
      exact ⟨ex_l A12.gr p1, A12.sm, _, _, _, _, _, _, rfl⟩
    · obtain ⟨p1, S2, y1, y3, y4, y5, y6, y7, rfl⟩ := p
      exact ⟨ex_l hd_le p1, y1, _, y3, y4, y5, y6, y7, rfl⟩
  · exact q H'
end
end Sk

namespace Sk
open PySem PySem.Spec PyProof.Rows L2 Evl
theorem all_mk {P : Program} {w : World} {K : PySem.W.Frag} {h : Heap} {mg : Str → Option Value} {fa f0 f1 f2 f3 f4 f5 f6 f7 f8 f9 f10 : Addr} (X : K.In h) (G : h.Ns mainGlobals mg) (hfa : mg "law" = some (.ref fa))
    {od0 an0 od1 an1 od2 an2 od3 an3 od4 an4 od5 an5 od6 an6 od7 an7 od8 an8 od9 an9 od10 an10 : Option Addr} {sl0 sl1 sl2 sl3 sl4 sl5 sl6 sl7 sl8 sl9 sl10 : Array (Option Value)} {oc0 kV0 dc0 pm0 cd0 ct0 oc1 kV1 dc1 pm1 cd1 ct1 oc2 kV2 dc2 pm2 cd2 ct2 oc3 kV3 dc3 pm3 cd3 ct3 oc4 kV4 dc4 pm4 cd4 ct4 oc5 kV5 dc5 pm5 cd5 ct5 oc6 kV6 dc6 pm6 cd6 ct6 oc7 kV7 dc7 pm7 cd7 ct7 oc8 kV8 dc8 pm8 cd8 ct8 oc9 kV9 dc9 pm9 cd9 ct9 oc10 kV10 dc10 pm10 cd10 ct10 : Value}
    (a0 : PySem.W.nsIn K mainGlobals "document" = some (some (.ref f0))) (l0 : K.lookup f0 = some ⟨oc0, od0, .func (PySem.W.fnOf "document" "document" (defArgs sDoc) (defBody sDoc) (defScope sDoc) .none kV0 dc0 pm0 an0 cd0 ct0), sl0⟩) (c0 : PySem.W.codeIn K cd0 "document" = true) (k0 : PySem.W.keepIn K (.ref f0) = true)
    (a1 : PySem.W.nsIn K mainGlobals "quoted" = some (some (.ref f1))) (l1 : K.lookup f1 = some ⟨oc1, od1, .func (PySem.W.fnOf "quoted" "quoted" (defArgs sQuo) (defBody sQuo) (defScope sQuo) .none kV1 dc1 pm1 an1 cd1 ct1), sl1⟩) (c1 : PySem.W.codeIn K cd1 "quoted" = true) (k1 : PySem.W.keepIn K (.ref f1) = true)
    (a2 : PySem.W.nsIn K mainGlobals "same" = some (some (.ref f2))) (l2 : K.lookup f2 = some ⟨oc2, od2, .func (PySem.W.fnOf "same" "same" (defArgs sSame) (defBody sSame) (defScope sSame) .none kV2 dc2 pm2 an2 cd2 ct2), sl2⟩) (c2 : PySem.W.codeIn K cd2 "same" = true) (k2 : PySem.W.keepIn K (.ref f2) = true)
    (a3 : PySem.W.nsIn K mainGlobals "_law_stream" = some (some (.ref f3))) (l3 : K.lookup f3 = some ⟨oc3, od3, .func (PySem.W.fnOf "_law_stream" "_law_stream" (defArgs sStream) (defBody sStream) (defScope sStream) .none kV3 dc3 pm3 an3 cd3 ct3), sl3⟩) (c3 : PySem.W.codeIn K cd3 "_law_stream" = true) (k3 : PySem.W.keepIn K (.ref f3) = true)
    (a4 : PySem.W.nsIn K mainGlobals "_law_draw" = some (some (.ref f4))) (l4 : K.lookup f4 = some ⟨oc4, od4, .func (PySem.W.fnOf "_law_draw" "_law_draw" (defArgs sDraw) (defBody sDraw) (defScope sDraw) .none kV4 dc4 pm4 an4 cd4 ct4), sl4⟩) (c4 : PySem.W.codeIn K cd4 "_law_draw" = true) (k4 : PySem.W.keepIn K (.ref f4) = true)
    (a5 : PySem.W.nsIn K mainGlobals "_law_choose" = some (some (.ref f5))) (l5 : K.lookup f5 = some ⟨oc5, od5, .func (PySem.W.fnOf "_law_choose" "_law_choose" (defArgs sChoose) (defBody sChoose) (defScope sChoose) .none kV5 dc5 pm5 an5 cd5 ct5), sl5⟩) (c5 : PySem.W.codeIn K cd5 "_law_choose" = true) (k5 : PySem.W.keepIn K (.ref f5) = true)
    (a6 : PySem.W.nsIn K mainGlobals "_law_text" = some (some (.ref f6))) (l6 : K.lookup f6 = some ⟨oc6, od6, .func (PySem.W.fnOf "_law_text" "_law_text" (defArgs sText) (defBody sText) (defScope sText) .none kV6 dc6 pm6 an6 cd6 ct6), sl6⟩) (c6 : PySem.W.codeIn K cd6 "_law_text" = true) (k6 : PySem.W.keepIn K (.ref f6) = true)
    (a7 : PySem.W.nsIn K mainGlobals "_law_word" = some (some (.ref f7))) (l7 : K.lookup f7 = some ⟨oc7, od7, .func (PySem.W.fnOf "_law_word" "_law_word" (defArgs sWord) (defBody sWord) (defScope sWord) .none kV7 dc7 pm7 an7 cd7 ct7), sl7⟩) (c7 : PySem.W.codeIn K cd7 "_law_word" = true) (k7 : PySem.W.keepIn K (.ref f7) = true)
    (a8 : PySem.W.nsIn K mainGlobals "_law_any_value" = some (some (.ref f8))) (l8 : K.lookup f8 = some ⟨oc8, od8, .func (PySem.W.fnOf "_law_any_value" "_law_any_value" (defArgs sVal) (defBody sVal) (defScope sVal) .none kV8 dc8 pm8 an8 cd8 ct8), sl8⟩) (c8 : PySem.W.codeIn K cd8 "_law_any_value" = true) (k8 : PySem.W.keepIn K (.ref f8) = true)
    (a9 : PySem.W.nsIn K mainGlobals "_law_other" = some (some (.ref f9))) (l9 : K.lookup f9 = some ⟨oc9, od9, .func (PySem.W.fnOf "_law_other" "_law_other" (defArgs sOth) (defBody sOth) (defScope sOth) .none kV9 dc9 pm9 an9 cd9 ct9), sl9⟩) (c9 : PySem.W.codeIn K cd9 "_law_other" = true) (k9 : PySem.W.keepIn K (.ref f9) = true)
    (a10 : PySem.W.nsIn K mainGlobals "law" = some (some (.ref f10))) (l10 : K.lookup f10 = some ⟨oc10, od10, .func (PySem.W.fnOf "law" "law" (defArgs sLaw) (defBody sLaw) (defScope sLaw) .none kV10 dc10 pm10 an10 cd10 ct10), sl10⟩) (c10 : PySem.W.codeIn K cd10 "law" = true) (k10 : PySem.W.keepIn K (.ref f10) = true)
    (z0 : PySem.W.nsIn K mainGlobals "isinstance" = some none)
    (z1 : PySem.W.nsIn K mainGlobals "bool" = some none)
    (z2 : PySem.W.nsIn K mainGlobals "int" = some none)
    (z3 : PySem.W.nsIn K mainGlobals "str" = some none)
    (z4 : PySem.W.nsIn K mainGlobals "list" = some none)
    (z5 : PySem.W.nsIn K mainGlobals "dict" = some none)
    (z6 : PySem.W.nsIn K mainGlobals "sorted" = some none)
    (z7 : PySem.W.nsIn K mainGlobals "len" = some none)
    (z8 : PySem.W.nsIn K mainGlobals "range" = some none)
    (z9 : PySem.W.nsIn K mainGlobals "min" = some none)
    (z10 : PySem.W.nsIn K mainGlobals "max" = some none)
    (z11 : PySem.W.nsIn K mainGlobals "repr" = some none)
    : ∃ fd : FuncData, (∀ (s : Shared) (u : Value), BindsTo s fd ⟨[u], []⟩ [("script", u)]) ∧ ∀ base : Heap, K.In base → base.Ns mainGlobals mg → LawOk P w K mg base fa fd "script" (spLaw K) := by
  have e := hfa.symm.trans (PySem.W.mg_of X G a10)
  cases e
  have F0 := fun_mk (st := sDoc) l0 c0 k0
  have F1 := fun_mk (st := sQuo) l1 c1 k1
  have F2 := fun_mk (st := sSame) l2 c2 k2
  have F3 := fun_mk (st := sStream) l3 c3 k3
  have F4 := fun_mk (st := sDraw) l4 c4 k4
  have F5 := fun_mk (st := sChoose) l5 c5 k5
  have F6 := fun_mk (st := sText) l6 c6 k6
  have F7 := fun_mk (st := sWord) l7 c7 k7
  have F8 := fun_mk (st := sVal) l8 c8 k8
  have F9 := fun_mk (st := sOth) l9 c9 k9
  have F10 := fun_mk (st := sLaw) l10 c10 k10
  have b0 := F0.binds (ps := ["value"]) fun _ _ _ _ _ _ us hl => match us, hl with | [_], _ => rfl
  have m0 := PySem.W.mg_of X G a0
  have b1 := F1.binds (ps := ["letters"]) fun _ _ _ _ _ _ us hl => match us, hl with | [_], _ => rfl
  have m1 := PySem.W.mg_of X G a1
  have b2 := F2.binds (ps := ["first", "second"]) fun _ _ _ _ _ _ us hl => match us, hl with | [_, _], _ => rfl
  have m2 := PySem.W.mg_of X G a2
  have b3 := F3.binds (ps := ["script", "start"]) fun _ _ _ _ _ _ us hl => match us, hl with | [_, _], _ => rfl
  have m3 := PySem.W.mg_of X G a3
  have b4 := F4.binds (ps := ["stream", "size"]) fun _ _ _ _ _ _ us hl => match us, hl with | [_, _], _ => rfl
  have m4 := PySem.W.mg_of X G a4
  have b5 := F5.binds (ps := ["stream", "items"]) fun _ _ _ _ _ _ us hl => match us, hl with | [_, _], _ => rfl
  have m5 := PySem.W.mg_of X G a5
  have b6 := F6.binds (ps := ["value"]) fun _ _ _ _ _ _ us hl => match us, hl with | [_], _ => rfl
  have m6 := PySem.W.mg_of X G a6
  have b7 := F7.binds (ps := ["stream", "most"]) fun _ _ _ _ _ _ us hl => match us, hl with | [_, _], _ => rfl
  have m7 := PySem.W.mg_of X G a7
  have b8 := F8.binds (ps := ["stream", "depth"]) fun _ _ _ _ _ _ us hl => match us, hl with | [_, _], _ => rfl
  have m8 := PySem.W.mg_of X G a8
  have b9 := F9.binds (ps := ["stream", "value"]) fun _ _ _ _ _ _ us hl => match us, hl with | [_, _], _ => rfl
  have m9 := PySem.W.mg_of X G a9
  have B : Blt mg := ⟨PySem.W.mg_none_of X G z0, PySem.W.mg_none_of X G z1, PySem.W.mg_none_of X G z2, PySem.W.mg_none_of X G z3, PySem.W.mg_none_of X G z4, PySem.W.mg_none_of X G z5, PySem.W.mg_none_of X G z6, PySem.W.mg_none_of X G z7, PySem.W.mg_none_of X G z8, PySem.W.mg_none_of X G z9, PySem.W.mg_none_of X G z10, PySem.W.mg_none_of X G z11⟩
  refine ⟨PySem.W.fnOf "law" "law" (defArgs sLaw) (defBody sLaw) (defScope sLaw) .none kV10 dc10 pm10 an10 cd10 ct10, fun s v => .of_eq rfl, fun base _ _ => ?_⟩
  have gD : FnOk P w K mg base CX0 1 f4 _ ["stream", "size"] spDraw := ok_draw (k := 0) F4
  have W : Drw P w K mg base f4 f5 _ _ := ⟨gD, b4, k4, m4, ok_choose F5 gD b4 k4 m4 B.len, b5, k5, m5⟩
  have gW := ok_word F7 W B
  have kb := kb_of (ps := ["first", "second"]) (ks := ["first", "second"]) F2 (by simp) fun _ _ _ _ _ _ ws hl => match ws, hl with | [_, _], _ => rfl
  have gA := ok_doc (k := 0) (P := P) (w := w) (base := base) F0 b0 m0 F1 b1 m1 B 6 (by decide)
  exact ok_law F10 W B (ok_stream (k := 0) F3 B.len) b3 k3 m3 (ok_val (k := 0) F8 b8 m8 W B gW b7 k7 m7 6 (by decide)) b8 k8 m8 (ok_oth (k := 0) F9 b9 m9 W B 6) b9 k9 m9 gA b0 k0 m0 (ok_text (k := 0) F6 b6 m6 B 6 (by decide)) b6 k6 m6 (ok_same F2 gA b0 k0 m0) b2 kb k2 m2
end Sk
open PySem PySem.W PyProof.Rows
set_option maxHeartbeats 0 in
theorem PySem.Challenge.cw_soonknown_k01_documents_of_values_holds : PySem.Challenge.rw_soonknown_k01_documents_of_values.Holds := by
  w_on; o_law; k_head; (case hw => w_witness2)
  k_fill
  refine Sk.walk_law (l := PySem.Challenge.rw_soonknown_k01_documents_of_values) (n := 63) (x := "script") (sp := fun w => Sk.spLaw _) rfl (by decide) rfl (fun w h Y => PySem.W.kIn_of Y) ?F fun w H a ns hl hb hS => ⟨a, ns, rfl, hS, hl, hb, fun _ => rfl⟩
  case F =>
    intro w mg fa h KX G hmg
    refine' Sk.all_mk KX G hmg ?a0 ?l0 ?c0 ?k0 ?a1 ?l1 ?c1 ?k1 ?a2 ?l2 ?c2 ?k2 ?a3 ?l3 ?c3 ?k3 ?a4 ?l4 ?c4 ?k4 ?a5 ?l5 ?c5 ?k5 ?a6 ?l6 ?c6 ?k6 ?a7 ?l7 ?c7 ?k7 ?a8 ?l8 ?c8 ?k8 ?a9 ?l9 ?c9 ?k9 ?a10 ?l10 ?c10 ?k10 ?z0 ?z1 ?z2 ?z3 ?z4 ?z5 ?z6 ?z7 ?z8 ?z9 ?z10 ?z11
    (case a0 => k_is)
    (case l0 => k_is)
    (case c0 => k_is)
    (case k0 => k_is)
    (case a1 => k_is)
    (case l1 => k_is)
    (case c1 => k_is)
    (case k1 => k_is)
    (case a2 => k_is)
    (case l2 => k_is)
    (case c2 => k_is)
    (case k2 => k_is)
    (case a3 => k_is)
    (case l3 => k_is)
    (case c3 => k_is)
    (case k3 => k_is)
    (case a4 => k_is)
    (case l4 => k_is)
    (case c4 => k_is)
    (case k4 => k_is)
    (case a5 => k_is)
    (case l5 => k_is)
    (case c5 => k_is)
    (case k5 => k_is)
    (case a6 => k_is)
    (case l6 => k_is)
    (case c6 => k_is)
    (case k6 => k_is)
    (case a7 => k_is)
    (case l7 => k_is)
    (case c7 => k_is)
    (case k7 => k_is)
    (case a8 => k_is)
    (case l8 => k_is)
    (case c8 => k_is)
    (case k8 => k_is)
    (case a9 => k_is)
    (case l9 => k_is)
    (case c9 => k_is)
    (case k9 => k_is)
    (case a10 => k_is)
    (case l10 => k_is)
    (case c10 => k_is)
    (case k10 => k_is)
    (case z0 => k_is)
    (case z1 => k_is)
    (case z2 => k_is)
    (case z3 => k_is)
    (case z4 => k_is)
    (case z5 => k_is)
    (case z6 => k_is)
    (case z7 => k_is)
    (case z8 => k_is)
    (case z9 => k_is)
    (case z10 => k_is)
    (case z11 => k_is)
