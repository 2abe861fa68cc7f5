import PyProof.Rows.All
import Wide.All
import OpenK.AllK
import Wide.FinOn
import HandS.ForMost
import HandS.Wide
import HandS.IsInst
import HandS.EndBits
import HandS.RaiseMore
import HandS.Evl
import HandS.Flow
import HandS.More
import HandS.Set
import HandS.SetFor
import HandS.Star
import HandS.OwnEq
import HandS.ClsMeth
import HandS.SlotsOwn
import HandS.MethStar
import KE.KOpsOwn
import HandS.CallLocal
import HandS.Codes
import HandS.Walk
import HandS.Defaults
import HandS.MakeKwOnly
import HandS.Flt
import HandS.ForSpec
import HandS.ExcValue
import KE.KExcIs
import PySem.Challenge.RW_soonknown_k46_scripts_by_name_and_errors
set_option Elab.async false
set_option linter.all false
set_option maxRecDepth 100000
set_option maxHeartbeats 8000000
/-! Rules and words that the proofs of this program share. -/
namespace Sk
open PySem PySem.Spec PyProof.Rows L2 Evl

/-! ## powers of great ints -/
def CPowB (i j : Int) : Prop := 0 ≤ j ∧ (Builtin.Int.intBits i : Int) * j ≤ 2 ^ 27
theorem op_powB {X : Cx} : OpR X (binaryOp .Pow) (rI CPowB fun i j => .int (i ^ j.toNat)) := by
  intro pins s σ H x y u v Q I rx ry h
  obtain ⟨i, j, rfl, rfl, hc, q⟩ := h
  obtain ⟨t, rfl⟩ := rx
  obtain ⟨t', rfl⟩ := ry
  exact pow_int hc.1 hc.2 ⟨.int _, H, I.tok _, ⟨_, rfl⟩, q⟩
theorem bits_of {i : Int} {n : Nat} (h : i.natAbs < 2 ^ n) (h0 : 0 < n) : Builtin.Int.intBits i ≤ n := by
  unfold Builtin.Int.intBits
  split
  · omega
  · have := PySem.Flt.log2_lt_of h0 h
    omega
theorem abs_of_bits {i : Int} {n : Nat} (h : Builtin.Int.intBits i ≤ n) : i.natAbs < 2 ^ n := by
  unfold Builtin.Int.intBits at h
  split at h
  · rename_i e
    have e' : i = 0 := by simpa using e
    subst e'
    exact Nat.two_pow_pos n
  · rename_i e
    have e' : i ≠ 0 := by simpa using e
    have h1 : i.natAbs ≠ 0 := by omega
    have h2 := Nat.lt_log2_self (n := i.natAbs)
    exact Nat.lt_of_lt_of_le h2 (Nat.pow_le_pow_right (by decide) (by omega))

/-! ## the heap beside the source of draws -/
/-- the heap without what stands at st -/
def Hd (st : Addr) (H : Hp) : Hp := fun a => if a = st then none else H a
theorem hd_some {st a : Addr} {H : Hp} {o : HO} (h : Hd st H a = some o) : a ≠ st ∧ H a = some o := by
  unfold Hd at h
  split at h
  · cases h
  · exact ⟨by assumption, h⟩
theorem hd_of {st a : Addr} {H : Hp} {o : HO} (n : a ≠ st) (h : H a = some o) : Hd st H a = some o := by
  unfold Hd; rw [if_neg n]; exact h
theorem hd_le {st : Addr} {H : Hp} : Ex (Hd st H) H := fun _ _ h => (hd_some h).2
/-- what was there beside st is there -/
def Gr (st : Addr) (H H' : Hp) : Prop := Ex (Hd st H) (Hd st H')
theorem Gr.refl {st : Addr} {H : Hp} : Gr st H H := Ex.refl _
theorem Gr.trans {st : Addr} {H H1 H2 : Hp} (a : Gr st H H1) (b : Gr st H1 H2) : Gr st H H2 := Ex.trans a b
/-- the source: two numbers -/
def Strm (st : Addr) (H : Hp) : Prop := ∃ d s : Int, H st = some (.lst [.int d, .int s]) ∧ 0 ≤ d ∧ d.natAbs < 2 ^ 1100000 ∧ 0 ≤ s ∧ s < 2 ^ 31
theorem Strm.some {st : Addr} {H : Hp} (h : Strm st H) : ∃ o, H st = some o := let ⟨_, _, e, _⟩ := h; ⟨_, e⟩
theorem gr_upd {st : Addr} {H : Hp} {o : HO} : Gr st H (upd H st o) := fun a u h => by
  obtain ⟨n, e⟩ := hd_some h
  exact hd_of n (by rw [upd_ne n]; exact e)
theorem gr_new {st p : Addr} {H : Hp} {o : HO} (h : H p = none) : Gr st H (upd H p o) := fun a u e => by
  obtain ⟨n, e⟩ := hd_some e
  exact hd_of n (by rw [upd_ne (ne_of_none e h)]; exact e)
theorem gr_ex {st : Addr} {H H' : Hp} (h : Ex H H') : Gr st H H' := fun a u e => by
  obtain ⟨n, e⟩ := hd_some e
  exact hd_of n (h _ _ e)
theorem Strm.new {st p : Addr} {H : Hp} {o : HO} (h : Strm st H) (hp : H p = none) : Strm st (upd H p o) := by
  obtain ⟨d, s, e, r⟩ := h
  exact ⟨d, s, by rw [upd_ne (ne_of_none e hp)]; exact e, r⟩
theorem Strm.ne {st p : Addr} {H : Hp} (h : Strm st H) (hp : H p = none) : p ≠ st := by
  obtain ⟨o, e⟩ := h.some
  intro z; subst z; rw [e] at hp; cases hp
/-- fresh behind is fresh before -/
theorem Gr.back {st p : Addr} {H H' : Hp} (g : Gr st H H') (s : Strm st H') (h : H' p = none) : Hd st H p = none := by
  cases e : Hd st H p with
  | none => rfl
  | some o =>
    have := (hd_some (g _ _ e)).2
    rw [h] at this; cases this
/-- behind: the source still stands, the rest is there -/
structure Aft (st : Addr) (H H' : Hp) : Prop where
  gr : Gr st H H'
  sm : Strm st H'
theorem Aft.trans {st : Addr} {H H1 H2 : Hp} (a : Aft st H H1) (b : Aft st H1 H2) : Aft st H H2 := ⟨a.gr.trans b.gr, b.sm⟩
theorem Aft.of {st : Addr} {H : Hp} (s : Strm st H) : Aft st H H := ⟨.refl, s⟩
theorem Aft.new {st p : Addr} {H H1 : Hp} {o : HO} (a : Aft st H H1) (h : H1 p = none) : Aft st H (upd H1 p o) := ⟨a.gr.trans (gr_new h), a.sm.new h⟩
/-- a thing of one's own that H does not know changes -/
theorem Aft.mut {st p : Addr} {H H1 : Hp} {o : HO} (a : Aft st H H1) (n : p ≠ st) (h : Hd st H p = none) : Aft st H (upd H1 p o) := by
  refine ⟨fun b u e => ?_, ?_⟩
  · have hb : b ≠ p := by intro z; subst z; rw [h] at e; cases e
    obtain ⟨nb, e1⟩ := hd_some (a.gr _ _ e)
    exact hd_of nb (by rw [upd_ne hb]; exact e1)
  · obtain ⟨d, s, e, r⟩ := a.sm
    exact ⟨d, s, by rw [upd_ne (Ne.symm n)]; exact e, r⟩
theorem Aft.at {st p : Addr} {H H1 : Hp} {o : HO} (a : Aft st H H1) (n : p ≠ st) (h : H p = some o) : H1 p = some o := (hd_some (a.gr _ _ (hd_of n h))).2
end Sk

/-! Data of any depth in the abstract heap; its repr. -/
namespace Sk
open PySem PySem.Spec PyProof.Rows L2 Evl
mutual
inductive Rx (h : Heap) : Value → PyData → Prop
  | none : Rx h .none .none
  | bool (b) : Rx h (.bool b) (.bool b)
  | int (i t) : Rx h (.int i t) (.int i)
  | str (x t) : Rx h (.str x t) (.str x)
  | list {a o vs n ds} (e : h.get? a = some o) (c : o.cls = .type "list") (q : o.data = .seq vs n) (r : RxAll h vs.toList ds) : Rx h (.ref a) (.list ds)
  | tuple {a o vs n ds} (e : h.get? a = some o) (c : o.cls = .type "tuple") (q : o.data = .seq vs n) (r : RxAll h vs.toList ds) : Rx h (.ref a) (.tuple ds)
  | dict {a o es n kvs} (l : (a == sysModules) = false) (e : h.get? a = some o) (c : o.cls = .type "dict") (q : o.data = .dict es n) (r : RxAll h (es.toList.map (·.key)) (kvs.map (·.1)))
      (r2 : RxAll h (es.toList.map (·.val)) (kvs.map (·.2))) : Rx h (.ref a) (.dict kvs)
inductive RxAll (h : Heap) : List Value → List PyData → Prop
  | nil : RxAll h [] []
  | cons {v vs d ds} (x : Rx h v d) (r : RxAll h vs ds) : RxAll h (v :: vs) (d :: ds)
end
mutual
theorem Rx.reads {h : Heap} : ∀ {v : Value} {d : PyData}, Rx h v d → ∃ as, Reads h v d as
  | _, _, .none => ⟨_, .none⟩
  | _, _, .bool b => ⟨_, .bool b⟩
  | _, _, .int i t => ⟨_, .int i t⟩
  | _, _, .str x t => ⟨_, .str x t⟩
  | _, _, .list e c q r => let ⟨_, z⟩ := r.reads; ⟨_, .list e c q z⟩
  | _, _, .tuple e c q r => let ⟨_, z⟩ := r.reads; ⟨_, .tuple e c q z⟩
  | _, _, .dict _ e c q r r2 => let ⟨_, z⟩ := r.reads; let ⟨_, z2⟩ := r2.reads; ⟨_, .dict e c q z z2⟩
theorem RxAll.reads {h : Heap} : ∀ {v : List Value} {d : List PyData}, RxAll h v d → ∃ as, ReadsAll h v d as
  | _, _, .nil => ⟨_, .nil⟩
  | _, _, .cons x r => let ⟨_, z⟩ := x.reads; let ⟨_, z2⟩ := r.reads; ⟨_, .cons z z2⟩
end
def FitsAll (ds : List PyData) : Prop := ∀ t ∈ PyData.shownAll ds, t.length ≤ sizeLine
theorem fits_list {xs : List PyData} (h : (PyData.list xs).shown.length ≤ sizeLine) : (listText (PyData.shownAll xs)).length ≤ sizeLine ∧ FitsAll xs := by
  have z : (listText (PyData.shownAll xs)).length ≤ sizeLine := by simpa only [PyData.shown] using h
  exact ⟨z, fun t m => Nat.le_trans (listText_mem_le m) z⟩
theorem fits_tuple {xs : List PyData} (h : (PyData.tuple xs).shown.length ≤ sizeLine) : (tupleText (PyData.shownAll xs)).length ≤ sizeLine ∧ FitsAll xs := by
  have z : (tupleText (PyData.shownAll xs)).length ≤ sizeLine := by simpa only [PyData.shown] using h
  exact ⟨z, fun t m => Nat.le_trans (tupleText_mem_le m) z⟩
theorem fits_dict {kvs : List (PyData × PyData)} (h : (PyData.dict kvs).shown.length ≤ sizeLine) : (dictText (PyData.shownKv kvs)).length ≤ sizeLine ∧ FitsAll (kvs.map (·.1)) ∧ FitsAll (kvs.map (·.2)) := by
  have z : (dictText (PyData.shownKv kvs)).length ≤ sizeLine := by simpa only [PyData.shown] using h
  refine ⟨z, fun t m => ?_, fun t m => ?_⟩
  · obtain ⟨p, hp, l⟩ := PyData.shownKv_key_le kvs t m
    exact Nat.le_trans l (Nat.le_trans (dictText_mem_le hp) z)
  · obtain ⟨p, hp, l⟩ := PyData.shownKv_val_le kvs t m
    exact Nat.le_trans l (Nat.le_trans (dictText_mem_le hp) z)
/-- what is needed of the parts of a dict -/
theorem two_dict {prog : Program} {w : World} {h : Heap} {es : List DictEntry} {kvs : List (PyData × PyData)} {b1 b2 : List Addr} (k1 : ReprAllK prog w b1 h (PyData.depthAll (kvs.map (·.1))) (es.map (·.key)) (PyData.shownAll (kvs.map (·.1))))
    (k2 : ReprAllK prog w b2 h (PyData.depthAll (kvs.map (·.2))) (es.map (·.val)) (PyData.shownAll (kvs.map (·.2)))) : ReprEntriesK prog w (b1 ++ b2) h (PyData.depthKv kvs) es (PyData.shownKv kvs) := by
  rw [PyData.shownKv_eq]
  exact .of_two es _ _ (k1.more_le (fun _ m => List.mem_append.mpr (.inl m)) (PyData.depthAll_keys_le kvs)) (k2.more_le (fun _ m => List.mem_append.mpr (.inr m)) (PyData.depthAll_vals_le kvs))
mutual
theorem Rx.repr {prog : Program} {w : World} {h : Heap} : ∀ {v : Value} {d : PyData}, Rx h v d → d.showable = true → d.shown.length ≤ sizeLine → ∃ bs, ReadAtMost h d.depth bs ∧ ReprK prog w bs h d.depth v d.shown
  | _, _, .none, _, _ => ⟨[], (fun _ m => nomatch m), by simp only [PyData.shown]; exact .of_is .none _ _ _⟩
  | _, _, .bool b, _, _ => ⟨[], (fun _ m => nomatch m), by simp only [PyData.shown]; exact .of_is (.bool b) _ _ _⟩
  | _, _, .int i t, s, _ => ⟨[], (fun _ m => nomatch m), by simp only [PyData.shown]; exact .of_is (.int t (by simpa [PyData.showable] using s)) _ _ _⟩
  | _, _, .str x t, _, z => ⟨[], (fun _ m => nomatch m), by simp only [PyData.shown] at z ⊢; exact .of_is (.str x t z) _ _ _⟩
  | _, _, .list (a := a) (vs := vs) (ds := xs) e c q r, s, z => by
    obtain ⟨z1, z2⟩ := fits_list z
    obtain ⟨bs, hb, hk⟩ := r.repr (prog := prog) (w := w) (by simpa [PyData.showable] using s) z2
    obtain ⟨as, rr⟩ := (Rx.list e c q r).reads
    have na : a ∉ bs := not_mem_of_deeper rr (by simp only [PyData.depth]; omega) hb
    refine ⟨a :: bs, .cons rr (by simp only [PyData.depth]; omega) hb, ?_⟩
    simp only [PyData.depth, PyData.shown]
    obtain ⟨l⟩ := vs
    cases l with
    | nil =>
      cases (show RxAll h [] xs from r)
      simp only [PyData.shownAll, listText_nil]
      exact ReprK.listEmpty e c q
    | cons x l => exact .list e c q na (by simpa using hk.length_eq) fun i y m => hk.item i y (by simpa using m)
  | _, _, .tuple (a := a) (ds := xs) e c q r, s, z => by
    obtain ⟨z1, z2⟩ := fits_tuple z
    obtain ⟨bs, hb, hk⟩ := r.repr (prog := prog) (w := w) (by simpa [PyData.showable] using s) z2
    obtain ⟨as, rr⟩ := (Rx.tuple e c q r).reads
    have na : a ∉ bs := not_mem_of_deeper rr (by simp only [PyData.depth]; omega) hb
    refine ⟨a :: bs, .cons rr (by simp only [PyData.depth]; omega) hb, ?_⟩
    simp only [PyData.depth, PyData.shown]
    exact .tuple e c q na hk
  | _, _, .dict (a := a) (es := es) (kvs := kvs) l e c q r r2, s, z => by
    obtain ⟨z1, z2, z3⟩ := fits_dict z
    obtain ⟨s1, s2⟩ := PyData.showableKv_split kvs (by simpa [PyData.showable] using s)
    obtain ⟨b1, hb1, k1⟩ := r.repr (prog := prog) (w := w) s1 z2
    obtain ⟨b2, hb2, k2⟩ := r2.repr (prog := prog) (w := w) s2 z3
    obtain ⟨as, rr⟩ := (Rx.dict l e c q r r2).reads
    have hb : ReadAtMost h (PyData.depthKv kvs) (b1 ++ b2) := .append (hb1.mono (PyData.depthAll_keys_le kvs)) (hb2.mono (PyData.depthAll_vals_le kvs))
    have na : a ∉ b1 ++ b2 := not_mem_of_deeper rr (by simp only [PyData.depth]; omega) hb
    refine ⟨a :: (b1 ++ b2), .cons rr (by simp only [PyData.depth]; omega) hb, ?_⟩
    simp only [PyData.depth, PyData.shown]
    exact .dict e c q l na (two_dict k1 k2)
theorem RxAll.repr {prog : Program} {w : World} {h : Heap} : ∀ {vs : List Value} {ds : List PyData}, RxAll h vs ds → PyData.showableAll ds = true → FitsAll ds → ∃ bs, ReadAtMost h (PyData.depthAll ds) bs ∧ ReprAllK prog w bs h (PyData.depthAll ds) vs (PyData.shownAll ds)
  | _, _, .nil, _, _ => ⟨[], (fun _ m => nomatch m), by simp only [PyData.shownAll]; exact .nil⟩
  | _, _, .cons (d := d) (ds := ds) x r, s, z => by
    obtain ⟨s1, s2⟩ : d.showable = true ∧ PyData.showableAll ds = true := by simpa [PyData.showableAll] using s
    unfold FitsAll at z
    simp only [PyData.shownAll, List.mem_cons] at z
    obtain ⟨b1, hb1, k1⟩ := x.repr (prog := prog) (w := w) s1 (z _ (.inl rfl))
    obtain ⟨b2, hb2, k2⟩ := r.repr (prog := prog) (w := w) s2 fun t m => z t (.inr m)
    refine ⟨b1 ++ b2, .append (hb1.mono ?_) (hb2.mono ?_), ?_⟩
    · simp only [PyData.depthAll]; omega
    · simp only [PyData.depthAll]; omega
    · simp only [PyData.depthAll, PyData.shownAll]
      exact .cons ((k1.more fun _ m => List.mem_append.mpr (.inl m)).level_le (by omega)) (k2.more_le (fun _ m => List.mem_append.mpr (.inr m)) (by omega))
end
/-- repr(v), where no repr is running -/
theorem call_repr_rx {prog : Program} {w : World} {A : Around} {E : Value → Shared → Prop} {s : Shared} {v : Value} {d : PyData} {Q : Value → Shared → Prop} (r : Rx s.heap v d) (hs : d.showable = true) (hz : d.shown.length ≤ sizeLine) (hg : A.guards = some [])
    (hu : A.units + (d.depth + 1) < cLine) (hQ : ∀ h' u tk, (∀ b o, s.heap.get? b = some o → h'.get? b = some o) → Q (.str d.shown u) { s with heap := h', toks := tk }) : wpAny (model prog w) A (call (.builtin "repr") [v]) Q E s := by
  have id : ∀ b o, s.heap.get? b = some o → s.heap.get? b = some o := fun _ _ z => z
  have hg1 : A.in1.guards = some [] := hg
  have here : ∀ u tk, Q (.str d.shown u) { s with toks := tk } := fun u tk => hQ s.heap u tk id
  cases r with
  | none => simp only [PyData.shown] at here; exact PySem.P.repr_of_none (here _ _)
  | bool b => simp only [PyData.shown] at here; exact PySem.P.repr_of_bool (here _ _)
  | int i t => simp only [PyData.shown] at here; exact PySem.P.repr_of_int (by simpa [PyData.showable] using hs) (here _ _)
  | str x t => simp only [PyData.shown] at here hz; exact PySem.P.repr_of_str (here _ _) hz
  | @list a o vs n xs e c q r =>
    obtain ⟨z1, z2⟩ := fits_list hz
    obtain ⟨bs, hb, hk⟩ := r.repr (prog := prog) (w := w) (by simpa [PyData.showable] using hs) z2
    obtain ⟨as, rr⟩ := (Rx.list e c q r).reads
    have na : a ∉ bs := not_mem_of_deeper rr (by simp only [PyData.depth]; omega) hb
    simp only [PyData.depth] at hu
    simp only [PyData.shown] at hQ
    refine call_repr_slot (by omega) ⟨o, e, c⟩ F.slot_list_repr.toG ?_
    obtain ⟨l⟩ := vs
    cases l with
    | nil =>
      cases (show RxAll s.heap [] xs from r)
      simp only [PyData.shownAll, listText_nil] at hQ
      exact call_list_repr_empty ⟨o, e, c⟩ e q ⟨_, _, rfl, hQ s.heap _ _ id⟩
    | cons x l =>
      exact call_list_reprK e c q na (by simpa using hk.length_eq) (fun i y m => hk.item i y (by simpa using m)) hg1 (fun b _ => .nil b) (by show A.units + 1 + _ < cLine; omega) id (fun h' u tk k => ⟨_, _, rfl, hQ h' u tk k⟩) z1
  | @tuple a o vs n xs e c q r =>
    obtain ⟨z1, z2⟩ := fits_tuple hz
    obtain ⟨bs, hb, hk⟩ := r.repr (prog := prog) (w := w) (by simpa [PyData.showable] using hs) z2
    obtain ⟨as, rr⟩ := (Rx.tuple e c q r).reads
    have na : a ∉ bs := not_mem_of_deeper rr (by simp only [PyData.depth]; omega) hb
    simp only [PyData.depth] at hu
    simp only [PyData.shown] at hQ
    refine call_repr_slot (by omega) ⟨o, e, c⟩ F.slot_tuple_repr ?_
    exact call_tuple_reprK e c q na hk hg1 (fun b _ => .nil b) (by show A.units + 1 + _ < cLine; omega) id (fun h' u tk k => ⟨_, _, rfl, hQ h' u tk k⟩) z1
  | @dict a o es n kvs l e c q r r2 =>
    obtain ⟨z1, z2, z3⟩ := fits_dict hz
    obtain ⟨s1, s2⟩ := PyData.showableKv_split kvs (by simpa [PyData.showable] using hs)
    obtain ⟨b1, hb1, k1⟩ := r.repr (prog := prog) (w := w) s1 z2
    obtain ⟨b2, hb2, k2⟩ := r2.repr (prog := prog) (w := w) s2 z3
    obtain ⟨as, rr⟩ := (Rx.dict l e c q r r2).reads
    have hb : ReadAtMost s.heap (PyData.depthKv kvs) (b1 ++ b2) := .append (hb1.mono (PyData.depthAll_keys_le kvs)) (hb2.mono (PyData.depthAll_vals_le kvs))
    have na : a ∉ b1 ++ b2 := not_mem_of_deeper rr (by simp only [PyData.depth]; omega) hb
    simp only [PyData.depth] at hu
    simp only [PyData.shown] at hQ
    refine call_repr_slot (by omega) ⟨o, e, c⟩ F.slot_dict_repr ?_
    exact call_dict_reprK e c q l na (two_dict k1 k2) hg1 (fun b _ => .nil b) (by show A.units + 1 + _ < cLine; omega) id (fun h' u tk k => ⟨_, _, rfl, hQ h' u tk k⟩) z1
end Sk

/-! Data of any depth over the abstract heap. -/
namespace Sk
open PySem PySem.Spec PyProof.Rows L2 Evl
mutual
inductive Dq (H : Hp) : V → PyData → Prop
  | non : Dq H .non .none
  | bl (b : Bool) : Dq H (.bl b) (.bool b)
  | int (i : Int) : Dq H (.int i) (.int i)
  | str (x : Str) : Dq H (.str x) (.str x)
  | lst {a xs ds} (e : H a = some (.lst xs)) (r : DqAll H xs ds) : Dq H (.ref a) (.list ds)
  | tup {a xs ds} (e : H a = some (.tup xs)) (r : DqAll H xs ds) : Dq H (.ref a) (.tuple ds)
  | dct {a kvs ds} (e : H a = some (.dK kvs)) (r : DqKv H kvs ds) : Dq H (.ref a) (.dict ds)
inductive DqAll (H : Hp) : List V → List PyData → Prop
  | nil : DqAll H [] []
  | cons {v vs d ds} (x : Dq H v d) (r : DqAll H vs ds) : DqAll H (v :: vs) (d :: ds)
inductive DqKv (H : Hp) : List (Key × V) → List (PyData × PyData) → Prop
  | nil : DqKv H [] []
  | cons {k : Str} {v d kvs ds} (x : Dq H v d) (r : DqKv H kvs ds) : DqKv H ((.inr k, v) :: kvs) ((.str k, d) :: ds)
end
mutual
theorem Dq.mono {H H' : Hp} (e : Ex H H') : ∀ {v d}, Dq H v d → Dq H' v d
  | _, _, .non => .non
  | _, _, .bl b => .bl b
  | _, _, .int i => .int i
  | _, _, .str x => .str x
  | _, _, .lst h r => .lst (e _ _ h) (r.mono e)
  | _, _, .tup h r => .tup (e _ _ h) (r.mono e)
  | _, _, .dct h r => .dct (e _ _ h) (r.mono e)
theorem DqAll.mono {H H' : Hp} (e : Ex H H') : ∀ {v d}, DqAll H v d → DqAll H' v d
  | _, _, .nil => .nil
  | _, _, .cons x r => .cons (x.mono e) (r.mono e)
theorem DqKv.mono {H H' : Hp} (e : Ex H H') : ∀ {v d}, DqKv H v d → DqKv H' v d
  | _, _, .nil => .nil
  | _, _, .cons x r => .cons (x.mono e) (r.mono e)
end
theorem DqAll.length {H : Hp} : ∀ {xs ds}, DqAll H xs ds → xs.length = ds.length
  | _, _, .nil => rfl
  | _, _, .cons _ r => congrArg Nat.succ r.length
theorem DqAll.get {H : Hp} : ∀ {xs ds}, DqAll H xs ds → ∀ {i : Nat} {v : V}, xs[i]? = some v → ∃ d, ds[i]? = some d ∧ Dq H v d
  | _, _, .nil, _, _, e => by simp at e
  | _, _, .cons x r, 0, _, e => by simp at e; subst e; exact ⟨_, rfl, x⟩
  | _, _, .cons x r, i + 1, _, e => by
    obtain ⟨d, h1, h2⟩ := r.get (i := i) (by simpa using e)
    exact ⟨d, by simpa using h1, h2⟩
theorem DqAll.snoc {H : Hp} : ∀ {xs ds}, DqAll H xs ds → ∀ {v d}, Dq H v d → DqAll H (xs ++ [v]) (ds ++ [d])
  | _, _, .nil, _, _, x => .cons x .nil
  | _, _, .cons y r, _, _, x => .cons y (r.snoc x)
theorem DqKv.length {H : Hp} : ∀ {xs ds}, DqKv H xs ds → xs.length = ds.length
  | _, _, .nil => rfl
  | _, _, .cons _ r => congrArg Nat.succ r.length
/-- the names -/
def keyS : PyData → Str
  | .str k => k
  | _ => Str.empty
theorem DqKv.keys {H : Hp} : ∀ {xs ds}, DqKv H xs ds → xs.map (·.1) = (ds.map fun p => keyS p.1).map Sum.inr
  | _, _, .nil => rfl
  | _, _, .cons _ r => by simp only [List.map_cons, r.keys, keyS]
/-- what stands under a name -/
def getD (ds : List (PyData × PyData)) (k : Str) : Option PyData := (ds.find? fun p => decide (keyS p.1 = k)).map (·.2)
theorem DqKv.val {H : Hp} {k : Str} : ∀ {xs ds}, DqKv H xs ds → ∀ {d}, getD ds k = some d → ∃ v, valV xs (.inr k) = some v ∧ Dq H v d
  | _, _, .nil, _, e => by simp [getD] at e
  | _, _, .cons (k := k') (v := v) (d := d') (ds := ds) x r, d, e => by
    by_cases hk : k' = k
    · subst hk
      simp [getD, keyS] at e
      subst e
      exact ⟨v, by simp [valV], x⟩
    · have e' : getD ds k = some d := by simpa [getD, keyS, hk] using e
      obtain ⟨u, h1, h2⟩ := r.val e'
      refine ⟨u, ?_, h2⟩
      rw [← h1]
      simp [valV, hk]
section
variable {X : Cx} {pins : List (Addr × Obj)} {σ : L2.St} {H : Hp} {s : Shared}
mutual
theorem Dq.rx (I : Inv X pins σ H s) : ∀ {v : V} {d : PyData} {u : Value}, Dq H v d → RelV v u → Rx s.heap u d
  | _, _, _, .non, r => by cases r; exact .none
  | _, _, _, .bl b, r => by cases r; exact .bool b
  | _, _, _, .int i, r => by obtain ⟨t, rfl⟩ := r; exact .int i t
  | _, _, _, .str x, r => by obtain ⟨t, rfl⟩ := r; exact .str x t
  | _, _, _, .lst e ra, r => by
    cases r
    obtain ⟨_, its, n, rv, z⟩ := I.hok _ _ e
    exact .list z rfl rfl (by simpa using ra.rx I rv)
  | _, _, _, .tup e ra, r => by
    cases r
    obtain ⟨_, its, rv, o, z, c, n, q⟩ := I.hok _ _ e
    exact .tuple z c q (by simpa using ra.rx I rv)
  | _, _, _, .dct e ra, r => by
    cases r
    obtain ⟨_, low, vs, rel, o, es, ep, z, c, q, _, pr, _⟩ := dk_of I.hok e
    obtain ⟨h1, h2⟩ := ra.rx I rel pr
    exact .dict low z c.1 q h1 h2
theorem DqAll.rx (I : Inv X pins σ H s) : ∀ {v : List V} {d : List PyData} {u : List Value}, DqAll H v d → Vals v u → RxAll s.heap u d
  | _, _, _, .nil, r => by cases r; exact .nil
  | _, _, _, .cons x ra, r => by
    cases r with
    | cons r1 r2 => exact .cons (x.rx I r1) (ra.rx I r2)
theorem DqKv.rx (I : Inv X pins σ H s) : ∀ {kvs : List (Key × V)} {ds : List (PyData × PyData)} {vs : List (Key × Value)} {es : List DictEntry}, DqKv H kvs ds → KV kvs vs → Pairs (mixKind X.prog X.w) es vs →
    RxAll s.heap (es.map (·.key)) (ds.map (·.1)) ∧ RxAll s.heap (es.map (·.val)) (ds.map (·.2))
  | _, _, _, _, .nil, r, p => by
    cases r
    cases p
    exact ⟨.nil, .nil⟩
  | _, _, _, _, .cons (k := k) x ra, r, p => by
    cases r with
    | @cons a b _ _ r1 r2 =>
      obtain ⟨kb, vb⟩ := b
      obtain ⟨h1, h2⟩ := r1
      have h1' : (Sum.inr k : Key) = kb := h1
      subst h1'
      cases p with
      | @cons e kv _ _ p1 p2 p3 =>
        obtain ⟨g1, g2⟩ := ra.rx I r2 p3
        have hk : keyIs (.inr k) e.key = true := p1
        obtain ⟨t, ek⟩ := Value.isStrOf_shape (show Value.isStrOf k e.key = true from hk)
        have ev : e.val = vb := p2
        simp only [List.map_cons]
        rw [ek, ev]
        exact ⟨.cons (.str k t) g1, .cons (x.rx I h2) g2⟩
end
end
/-- repr(v), no repr running around -/
theorem call_reprQ {X : Cx} (hg : X.A.guards = some []) (hu : X.A.units + 64 < cLine) : CallR X (.builtin "repr") (fun xs H Q => ∃ x d, xs = [x] ∧ Dq H x d ∧ d.showable = true ∧ d.shown.length ≤ sizeLine ∧ d.depth ≤ 60 ∧ Q (.str d.shown) H) := by
  intro pins s σ H xs us Q I r h
  obtain ⟨x, d, rfl, hd, hs, hz, hl, q⟩ := h
  obtain ⟨u, rfl, ru⟩ := vals1 r
  exact call_repr_rx (hd.rx I ru) hs hz hg (by omega) fun h' u' tk k => ⟨.str d.shown, H, I.kept k, ⟨_, rfl⟩, q⟩
end Sk

/-! A law's entry where it is known that no repr runs around. -/
namespace Sk
open PySem PySem.Spec PyProof.Rows L2 Evl
/-- the promise of the law's def, called from outside -/
def LawOk (P : Program) (w : World) (K : PySem.W.Frag) (mg : Str → Option Value) (base : Heap) (f : Addr) (fd : FuncData) (x : Str) (sp : Sp) : Prop :=
  ∀ (s : Shared) (H : Hp) (args : Args) (u : Value) (v : V) (Q : VK), Env0 P w K mg base callerA [] s H → BindsTo s fd args [(x, u)] → RelV v u → sp [v] H Q E0 → codeAny (model P w) callerA (.call (.ref f) args) (CR CX0 [] P w H s Q E0) s
/-- by its body -/
theorem law_of {P : Program} {w : World} {K : PySem.W.Frag} {mg : Str → Option Value} {base : Heap} {k : Nat} {f : Addr} {fd : FuncData} {x qual : Str} {st : Stmt} {N : List Str} {y : Str} {sp : Sp} (F : Fun K x qual st f fd) (S : FnScope N [y] (defScope st)) (hr : Room (k + 1) callerA)
    (hbody : ∀ (cdv : Value) (s : Shared) (H : Hp) (v : V) (Q : VK), Room k (callerA.deeper (envOfC qual (defScope st) s.heap.objs.size f cdv)) → (callerA.deeper (envOfC qual (defScope st) s.heap.objs.size f cdv)).guards = some [] → sp [v] H Q E0 →
      ∃ t, PSs (cxOf CX0 P w K mg base N qual (defScope st) f cdv callerA [] s H E0).nox (defBody st) t ∧ t { nx := fun _ H' => Q .non H', rt := Q } (start N [v]) H) : LawOk P w K mg base f fd y sp := by
  intro s H args u v Q e0 hb rv hsp
  obtain ⟨oc, od, kV, doc, pm, an, cdv, ct, osl, rfl, lk, hcd⟩ := F.ex
  have keep : ∀ b o, base.get? b = some o → s.heap.get? b = some o := fun b o z => (e0.bs b o z).1
  have kin := e0.mod.kin.keeps keep
  have kind : ∀ q ∈ [(y, u)], (defScope st).names.lookup q.1 = some .local ∨ ((defScope st).names.lookup q.1 = some .cell ∧ ((cellsFrom (s.heap.objs.size + 1) (defScope st).names []).lookup q.1).isSome = true) := by
    intro q hq
    obtain rfl := List.mem_singleton.mp hq
    exact (S.par y (List.mem_singleton.mpr rfl)).imp (fun z => z) fun z => ⟨z, PySem.W.cellsFrom_some _ _ _ (.inl z)⟩
  refine codeAny_call_function hr.depth (kin _ _ lk) rfl S.co S.gen rfl (PySem.W.codeRec_of kin hcd) (hb _ _ _ _ (wpAny_newFunctionEnv_cells S.kind kind fun env he s1 z => ?_))
  subst he
  refine ⟨(e0.mod.nolimit.keeps keep).keeps z.toInCall.keep, codeAny_func ?_⟩
  obtain ⟨t, ht, hq⟩ := hbody cdv s H v Q (hr.deeper _) rfl hsp
  have I : Inv (cxOf CX0 P w K mg base N qual (defScope st) f cdv callerA [] s H E0) [] (start N [v]) H s1 := inv_start (us := [u]) S hr.hd e0 rfl (.cons rv .nil) z
  refine wpAny_mono (ht.nox.run [] s1 _ H _ I hq) (fun fl s' hs => ?_) fun e s' hs => hs
  cases fl with
  | ret r =>
    obtain ⟨v', _, H', J, rr, q⟩ := hs
    exact ⟨v', H', J.os, J.bare, J.base, J.hok, rr, q⟩
  | next =>
    obtain ⟨_, H', J, q⟩ := hs
    exact ⟨.non, H', J.os, J.bare, J.base, J.hok, rfl, q⟩
  | brk => obtain ⟨_, _, _, q⟩ := hs; exact q.elim
  | cont => obtain ⟨_, _, _, q⟩ := hs; exact q.elim
/-- from the heap behind the top -/
theorem law_enter {P : Program} {w : World} {K : PySem.W.Frag} {mg mb : Str → Option Value} {fa a : Addr} {fd : FuncData} {x : Str} {sp : Sp} {s : Shared} {vs : List Value} {ns : List Int} (KX : K.In s.heap) (hns : s.heap.Ns mainGlobals mg) (hb : s.heap.Ns builtinsNs mb)
    (hbb : ∀ n : Str, n ≠ "__name__" → mb n = bootBuiltins n) (hlim : s.heap.NoLimit) (hg : s.gens = #[]) (ha : s.heap.get? a = some { cls := .type "list", data := .seq vs.toArray }) (hi : IntsAre vs ns) (hl : ns.length ≤ sizeLine)
    (F : ∀ base : Heap, K.In base → base.Ns mainGlobals mg → LawOk P w K mg base fa fd x sp) (hbind : ∀ (s : Shared) (u : Value), BindsTo s fd ⟨[u], []⟩ [(x, u)])
    (hsp : ∀ H : Hp, Only H → SqL K H a (ns.map V.int) → sp [.ref a] H (fun v _ => v = .bl true) E0) :
    codeAny (model P w) callerA (.call (.ref fa) ⟨[.ref a], []⟩) (fun r s' => r = .ok (.ret (.bool true)) ∧ OldK s.heap s'.heap ∧ s'.os = s.os ∧ AllBare s'.gens) s := by
  have rv := vals_ints hi
  have lenV := hi.length
  suffices core : ∀ H : Hp, Only H → SqL K H a (ns.map V.int) → HOk P w H s.heap → (∀ b, H b ≠ none → b = a ∧ K.lookup a = none) →
      codeAny (model P w) callerA (.call (.ref fa) ⟨[.ref a], []⟩) (fun r s' => r = .ok (.ret (.bool true)) ∧ OldK s.heap s'.heap ∧ s'.os = s.os ∧ AllBare s'.gens) s by
    cases hk : K.lookup a with
    | some o =>
      have e := KX a o hk
      rw [ha] at e
      cases e
      refine core (fun _ => none) (fun _ => .inl rfl) (.inr ⟨_, vs.toArray, _, hk, rfl, rfl, rfl, ?_, by simpa using rv⟩) (fun b u z => nomatch z) fun b z => absurd rfl z
      rw [List.size_toArray, lenV]; exact hl
    | none =>
      let ob : Obj := { cls := .type "list", data := .seq vs.toArray }
      have at_ : ∀ b u, (fun b => if b = a then some (HO.frz ob (.lst (ns.map V.int))) else none : Hp) b = some u → b = a ∧ u = .frz ob (.lst (ns.map V.int)) := by
        intro b u z
        by_cases h : b = a
        · subst h; simp at z; exact ⟨rfl, z.symm⟩
        · simp [h] at z
      refine core (fun b => if b = a then some (.frz ob (.lst (ns.map V.int))) else none) (fun b => ?_) (.inl (.inr ⟨ob, by simp⟩)) (fun b u z => ?_) fun b z => ?_
      · by_cases h : b = a
        · exact .inr ⟨ob, ns.map V.int, by simp [h]⟩
        · exact .inl (by simp [h])
      · obtain ⟨rfl, rfl⟩ := at_ b u z
        exact ⟨ha, by rw [List.length_map]; exact hl, vs, _, rv, ha⟩
      · by_cases h : b = a
        · exact ⟨h, hk⟩
        · exact absurd (by simp [h]) z
  intro H hO hS hok hA
  have dictNone : ∀ {b o es ep}, s.heap.get? b = some o → o.data = .dict es ep → H b = none := by
    intro b o es ep e d
    cases q : H b with
    | none => rfl
    | some u =>
      have := (hA b (by simp [q])).1
      subst this
      rw [ha] at e; cases e; cases d
  have nsK : ∀ {b m}, s.heap.Ns b m → (hidT s.heap H).Ns b m := fun ⟨o, es, ep, e, d, r⟩ => ⟨o, es, ep, hidT_get e (dictNone e d), d, r⟩
  have kin : K.In (hidT s.heap H) := fun b o e => hidT_get (KX b o e) (by
    cases q : H b with
    | none => rfl
    | some u =>
      obtain ⟨rfl, n⟩ := hA b (by simp [q])
      rw [n] at e; cases e)
  have e0 : Env0 P w K mg (hidT s.heap H) callerA [] s H := by
    refine ⟨rfl, ⟨kin, nsK hns, ⟨mb, nsK hb, hbb⟩, ?_⟩, fun b o e => of_hidT e, Nat.le_of_eq (hidT_size _ _), trivial, fun b z => ?_, hok, .of_eq hg⟩
    · obtain ⟨mc, h1, h2⟩ := hlim
      exact ⟨mc, nsK h1, h2⟩
    · cases (show b ∈ ([] : List Addr) from z)
  refine codeAny_mono (F _ kin (nsK hns) s H ⟨[.ref a], []⟩ (.ref a) (.ref a) _ e0 (hbind s (.ref a)) rfl (hsp H hO hS)) fun r s' h => ?_
  rcases r with e | fl
  · exact (show False from h).elim
  cases fl with
  | next => exact (show False from h).elim
  | brk => exact (show False from h).elim
  | cont => exact (show False from h).elim
  | ret u =>
    obtain ⟨v, H', os, bare, un, hok', r', q⟩ := h
    cases (show v = .bl true from q)
    cases (show u = Value.bool true from r')
    refine ⟨rfl, .of_keep fun b o e => ?_, os, bare⟩
    cases q : H b with
    | none => exact un.keep b o e q (fun z => by cases (show b ∈ ([] : List Addr) from z)) (fun z => by cases z)
    | some u =>
      rcases hO b with z | ⟨ob, xs, z⟩
      · rw [q] at z; cases z
      · have e1 := (hok b _ z).1
        rw [e] at e1; cases e1
        exact (hok' b _ (un.frzs b _ _ z)).1
/-- the end of a law row: the script has at most n ints of bounded size -/
theorem walk_law {l : PySem.W.OpenLaw} {n : Nat} {q : Program} {loose : List Str} {XP : (Str → Option Value) → Heap → Prop} {YP : World → Heap → Prop} {d : DefRec} {K : Params → PySem.W.Frag} {sp : World → Sp} {x : Str} (hn : l.most = some n) (hn2 : n ≤ sizeLine) (hdf : d.params.defaults = [])
    (hY : ∀ (w : World) (h : Heap), YP w h → (K w.params).In h)
    (F : ∀ (w : World) (mg : Str → Option Value) (fa : Addr) (h : Heap), (K w.params).In h → h.Ns mainGlobals mg → mg d.name = some (.ref fa) → ∃ fd : FuncData, (∀ (s : Shared) (u : Value), BindsTo s fd ⟨[u], []⟩ [(x, u)]) ∧
        ∀ base : Heap, (K w.params).In base → base.Ns mainGlobals mg → LawOk l.prog w (K w.params) mg base fa fd x (sp w))
    (hsp : ∀ (w : World) (H : Hp) (a : Addr) (ns : List Int), ns.length ≤ n → (∀ z ∈ ns, Builtin.Int.intBits z ≤ 1048576) → SqL (K w.params) H a (ns.map V.int) → sp w [.ref a] H (fun v _ => v = .bl true) E0) :
    PySem.W.WalkO q loose XP YP l.row.toRowW d [] (fun f vs => PySem.call f vs) := by
  refine Att.attach_callB hn hdf fun w s₀ s₁ mg mb fa o pm cd doc a vs ns G Y ho hd hcd hmg hobj hints hlen hbits hg => ?_
  obtain ⟨fd, hb, hF⟩ := F w mg fa _ (hY w _ Y) G.T.g hmg
  exact law_enter (hY w _ Y) G.T.g G.T.b G.T.builtins G.T.nolimit hg hobj hints (Nat.le_trans hlen hn2) hF hb fun H _ hS => hsp w H a ns hlen hbits hS
end Sk

/-! Values and their documents, in plain Lean. -/
namespace Sk
open PySem PySem.Spec PyProof.Rows L2 Evl
/-! ## sorted names -/
def leS (a b : Str) : Bool := !ltCps b.cps.toList a.cps.toList
def sortS (ks : List Str) : List Str := ks.mergeSort leS
theorem leS_iff {a b : Str} : leS a b = true ↔ ¬ b.cps.toList < a.cps.toList := by
  unfold leS; rw [ltCps_eq]; simp
theorem leS_trans {a b c : Str} (h1 : leS a b = true) (h2 : leS b c = true) : leS a c = true := by
  rw [leS_iff] at *
  have g1 : a.cps.toList ≤ b.cps.toList := h1
  have g2 : b.cps.toList ≤ c.cps.toList := h2
  exact List.le_trans g1 g2
theorem leS_total (a b : Str) : (leS a b || leS b a) = true := by
  rw [Bool.or_eq_true, leS_iff, leS_iff]
  by_cases h : b.cps.toList < a.cps.toList
  · exact .inr fun z => List.lt_irrefl _ (List.lt_trans h z)
  · exact .inl h
theorem leS_anti {a b : Str} (h1 : leS a b = true) (h2 : leS b a = true) : a = b := by
  rw [leS_iff] at *
  exact ext_toList (List.le_antisymm (show a.cps.toList ≤ b.cps.toList from h1) h2)
theorem rising_pairwise : ∀ (p : Str) (l : List Str), risingS p l = true → (p :: l).Pairwise fun a b => leS a b = true
  | p, [], _ => by simp
  | p, x :: r, h => by
    unfold risingS at h
    rw [Bool.and_eq_true] at h
    have ih := rising_pairwise x r h.2
    refine List.pairwise_cons.mpr ⟨fun y hy => ?_, ih⟩
    rcases List.mem_cons.mp hy with rfl | hy
    · exact h.1
    · exact leS_trans h.1 (List.rel_of_pairwise_cons ih hy)
theorem sorted_eq {ys ks : List Str} (hp : ys.Perm ks) (hs : sortedS ys = true) : ys = sortS ks := by
  have h1 : ys.Pairwise fun a b => leS a b = true := by
    cases ys with
    | nil => exact .nil
    | cons x r => exact rising_pairwise x r hs
  have h2 := List.pairwise_mergeSort (le := leS) (fun a b c => leS_trans) leS_total ks
  exact List.Perm.eq_of_pairwise (fun a b _ _ => leS_anti) h1 h2 (hp.trans (List.mergeSort_perm ks leS).symm)
theorem sortS_perm (ks : List Str) : (sortS ks).Perm ks := List.mergeSort_perm ks leS
/-! ## documents -/
def quo (x : Str) : Str := ("\"" : Str) ++ x ++ "\""
def lookS (l : List (Str × Str)) (k : Str) : Str := ((l.find? fun p => decide (p.1 = k)).map (·.2)).getD Str.empty
def memS (l : List (Str × Str)) (k : Str) : Str := quo k ++ ":" ++ lookS l k
mutual
def doc : PyData → Str
  | .bool b => if b then "true" else "false"
  | .int i => Str.ofString (toString i)
  | .str x => quo x
  | .list xs => ("[" : Str) ++ Str.join "," (docAll xs) ++ "]"
  | .dict kvs => ("{" : Str) ++ Str.join "," ((sortS (kvs.map fun p => keyS p.1)).map (memS (docKv kvs))) ++ "}"
  | .none => Str.empty
  | .tuple _ => Str.empty
def docAll : List PyData → List Str
  | [] => []
  | x :: r => doc x :: docAll r
def docKv : List (PyData × PyData) → List (Str × Str)
  | [] => []
  | (k, x) :: r => (keyS k, doc x) :: docKv r
end
theorem docAll_get : ∀ (xs : List PyData) (i : Nat) (x : PyData), xs[i]? = some x → (docAll xs)[i]? = some (doc x)
  | [], _, _, h => by simp at h
  | y :: r, 0, x, h => by simp at h; subst h; simp [docAll]
  | y :: r, i + 1, x, h => by simp only [docAll, List.getElem?_cons_succ] at h ⊢; exact docAll_get r i x h
theorem docAll_len : ∀ xs : List PyData, (docAll xs).length = xs.length
  | [] => by simp [docAll]
  | x :: r => by simp [docAll, docAll_len r]
theorem docAll_mem : ∀ (xs : List PyData) (t : Str), t ∈ docAll xs → ∃ x ∈ xs, t = doc x
  | [], _, h => by simp [docAll] at h
  | y :: r, t, h => by
    simp only [docAll, List.mem_cons] at h
    rcases h with rfl | h
    · exact ⟨y, by simp, rfl⟩
    · obtain ⟨x, hx, e⟩ := docAll_mem r t h
      exact ⟨x, by simp [hx], e⟩
theorem lookS_get : ∀ (ds : List (PyData × PyData)) (k : Str) (d : PyData), getD ds k = some d → lookS (docKv ds) k = doc d
  | [], _, _, h => by simp [getD] at h
  | (a, x) :: r, k, d, h => by
    by_cases e : keyS a = k
    · simp [getD, e] at h
      subst h
      simp [docKv, lookS, e]
    · have h' : getD r k = some d := by simpa [getD, e] using h
      rw [← lookS_get r k d h']
      simp [docKv, lookS, e]
theorem getD_mem : ∀ (ds : List (PyData × PyData)) (k : Str), k ∈ ds.map (fun p => keyS p.1) → ∃ d, getD ds k = some d ∧ ∃ p ∈ ds, p.2 = d
  | [], _, h => by simp at h
  | (a, x) :: r, k, h => by
    by_cases e : keyS a = k
    · exact ⟨x, by simp [getD, e], (a, x), by simp, rfl⟩
    · simp only [List.map_cons, List.mem_cons] at h
      rcases h with h | h
      · exact absurd h.symm e
      · obtain ⟨d, h1, p, h2, h3⟩ := getD_mem r k h
        exact ⟨d, by simpa [getD, e] using h1, p, by simp [h2], h3⟩
/-! ## the values that are drawn: of depth at most n -/
def okS (m : Nat) (x : Str) : Prop := x.length ≤ m ∧ ∀ c ∈ x.cps.toList, c < 128
def Gd (b : Bool) : Nat → PyData → Prop
  | 0, .int i => b = true ∧ i = 0
  | 0, _ => False
  | _ + 1, .bool _ => True
  | _ + 1, .int i => -1000000000 ≤ i ∧ i ≤ 1000000000
  | _ + 1, .str x => okS 12 x
  | n + 1, .list xs => xs.length ≤ 8 ∧ ∀ x ∈ xs, Gd b n x
  | n + 1, .dict kvs => kvs.length ≤ 8 ∧ (∀ p ∈ kvs, p.1 = .str (keyS p.1) ∧ okS 8 (keyS p.1) ∧ Gd b n p.2) ∧ (kvs.map fun p => keyS p.1).Nodup ∧ (n = 0 → kvs = [])
  | _ + 1, .none => False
  | _ + 1, .tuple _ => False
variable {b : Bool}
theorem gd0 {d : PyData} (h : Gd b 0 d) : b = true ∧ d = .int 0 := by
  cases d with
  | int i => exact ⟨h.1, by rw [h.2]⟩
  | none => exact h.elim
  | bool _ => exact h.elim
  | str _ => exact h.elim
  | list _ => exact h.elim
  | tuple _ => exact h.elim
  | dict _ => exact h.elim
theorem Gd.up : ∀ {n : Nat} {d : PyData}, Gd b n d → Gd b (n + 1) d
  | 0, d, h => by
    obtain ⟨_, rfl⟩ := gd0 h
    exact ⟨by decide, by decide⟩
  | _ + 1, .bool _, h => h
  | _ + 1, .int i, h => h
  | _ + 1, .str x, h => h
  | n + 1, .list xs, h => ⟨h.1, fun x m => (h.2 x m).up⟩
  | n + 1, .dict kvs, h => ⟨h.1, fun p m => ⟨(h.2.1 p m).1, (h.2.1 p m).2.1, (h.2.1 p m).2.2.up⟩, h.2.2.1, fun z => nomatch z⟩
  | _ + 1, .none, h => h.elim
  | _ + 1, .tuple _, h => h.elim
theorem Gd.wide : ∀ {n : Nat} {d : PyData}, Gd false n d → Gd b n d
  | 0, _, h => by
    cases (gd0 h).1
  | _ + 1, .bool _, h => h
  | _ + 1, .int i, h => h
  | _ + 1, .str x, h => h
  | n + 1, .list xs, h => ⟨h.1, fun x m => (h.2 x m).wide⟩
  | n + 1, .dict kvs, h => ⟨h.1, fun p m => ⟨(h.2.1 p m).1, (h.2.1 p m).2.1, (h.2.1 p m).2.2.wide⟩, h.2.2⟩
  | _ + 1, .none, h => h.elim
  | _ + 1, .tuple _, h => h.elim
theorem Gd.le {n m : Nat} {d : PyData} (h : Gd b n d) (l : n ≤ m) : Gd b m d := by
  induction l with
  | refl => exact h
  | step _ ih => exact ih.up
/-! ## how long they are -/
theorem join_le (sep : Str) (B : Nat) : ∀ ts : List Str, (∀ t ∈ ts, t.length ≤ B) → (Str.join sep ts).length ≤ ts.length * (B + sep.length)
  | [], _ => by show (0 : Nat) ≤ _; omega
  | [x], h => by
    have := h x (by simp)
    show x.length ≤ 1 * (B + sep.length)
    omega
  | x :: y :: r, h => by
    have ih := join_le sep B (y :: r) fun t m => h t (List.mem_cons_of_mem _ m)
    have := h x (by simp)
    show (x ++ sep ++ Str.join sep (y :: r)).length ≤ _
    rw [strLen_append, strLen_append]
    simp only [List.length_cons] at ih ⊢
    rw [Nat.succ_mul]
    omega
def bnd : Nat → Nat
  | 0 => 1
  | 1 => 122
  | n + 2 => 690 + 8 * bnd (n + 1)
theorem bnd_ge : ∀ n : Nat, 122 ≤ bnd (n + 1)
  | 0 => Nat.le_refl _
  | n + 1 => by show 122 ≤ 690 + 8 * bnd (n + 1); omega
theorem bnd_le {n : Nat} (h : n ≤ 6) : bnd n ≤ 7300000 := by
  match n, h with
  | 0, _ => decide
  | 1, _ => decide
  | 2, _ => decide
  | 3, _ => decide
  | 4, _ => decide
  | 5, _ => decide
  | 6, _ => decide
theorem all0 : ∀ {xs : List PyData}, (∀ x ∈ xs, Gd b 0 x) → xs = List.replicate xs.length (.int 0)
  | [], _ => rfl
  | x :: r, h => by
    obtain ⟨_, e⟩ := gd0 (h x (by simp))
    have ih := all0 (xs := r) fun y m => h y (by simp [m])
    rw [List.length_cons, List.replicate_succ, ← ih, e]
theorem int_len {i : Int} (h0 : -1000000000 ≤ i) (h1 : i ≤ 1000000000) : (Str.ofString (toString i)).length ≤ 11 := by
  have e : (10 : Nat) ^ 10 = 10000000000 := by decide
  have := int_text_length_le10 (a := i) (k := 10) (by decide) (by rw [e]; omega)
  rw [PySem.ofString_length]
  exact this
theorem quo_len (x : Str) : (quo x).length = x.length + 2 := by
  unfold quo; rw [strLen_append, strLen_append]
  show 1 + x.length + 1 = x.length + 2
  omega
theorem sortS_nil : sortS [] = [] := by simp [sortS]
theorem doc_len : ∀ {n : Nat} {d : PyData}, Gd b n d → (doc d).length ≤ bnd n
  | 0, _, h => by
    obtain ⟨_, rfl⟩ := gd0 h
    simp only [doc]
    decide +kernel
  | n + 1, .bool b, _ => by
    have := bnd_ge n
    cases b
    · show 5 ≤ _; omega
    · show 4 ≤ _; omega
  | n + 1, .int i, h => by
    have := bnd_ge n
    have := int_len h.1 h.2
    simp only [doc]; omega
  | n + 1, .str x, h => by
    have := bnd_ge n
    have := h.1
    simp only [doc]; rw [quo_len]; omega
  | 1, .list xs, h => by
    have z := join_le "," 1 (docAll xs) fun t m => by
      obtain ⟨x, hx, e⟩ := docAll_mem xs t m
      obtain ⟨_, ex⟩ := gd0 (h.2 x hx)
      rw [e, ex]
      simp only [doc]
      decide +kernel
    rw [docAll_len] at z
    have e1 : (Str.ofString ",").length = 1 := rfl
    rw [e1] at z
    have := h.1
    simp only [doc]
    rw [strLen_append, strLen_append]
    show 1 + _ + 1 ≤ 122
    omega
  | n + 2, .list xs, h => by
    have z := join_le "," (bnd (n + 1)) (docAll xs) fun t m => by
      obtain ⟨x, hx, e⟩ := docAll_mem xs t m
      rw [e]
      exact doc_len (h.2 x hx)
    rw [docAll_len] at z
    have e1 : (Str.ofString ",").length = 1 := rfl
    rw [e1] at z
    have z2 : xs.length * (bnd (n + 1) + 1) ≤ 8 * (bnd (n + 1) + 1) := Nat.mul_le_mul_right _ h.1
    simp only [doc]
    rw [strLen_append, strLen_append]
    show 1 + _ + 1 ≤ 690 + 8 * bnd (n + 1)
    omega
  | 1, .dict kvs, h => by
    cases h.2.2.2 rfl
    simp only [doc, List.map_nil, sortS_nil]
    show 2 ≤ 122
    decide
  | n + 2, .dict kvs, h => by
    have z := join_le "," (bnd (n + 1) + 11) ((sortS (kvs.map fun p => keyS p.1)).map (memS (docKv kvs))) fun t m => by
      obtain ⟨k, hk, rfl⟩ := List.mem_map.mp m
      have hk' := (sortS_perm _).mem_iff.mp hk
      obtain ⟨d, hd, p, hp, ep⟩ := getD_mem kvs k hk'
      obtain ⟨q, hq, eq⟩ := List.mem_map.mp hk'
      have hl := (h.2.1 q hq).2.1.1
      rw [eq] at hl
      have hx := doc_len (h.2.1 p hp).2.2
      rw [ep] at hx
      unfold memS
      rw [strLen_append, strLen_append, quo_len, lookS_get kvs k d hd]
      have e1 : (Str.ofString ":").length = 1 := rfl
      rw [e1]
      omega
    rw [List.length_map, (sortS_perm _).length_eq, List.length_map] at z
    have e1 : (Str.ofString ",").length = 1 := rfl
    rw [e1] at z
    have z2 : kvs.length * (bnd (n + 1) + 11 + 1) ≤ 8 * (bnd (n + 1) + 11 + 1) := Nat.mul_le_mul_right _ h.1
    simp only [doc]
    rw [strLen_append, strLen_append]
    show 1 + _ + 1 ≤ 690 + 8 * bnd (n + 1)
    omega
  | _ + 1, .none, h => h.elim
  | _ + 1, .tuple _, h => h.elim
/-! ## how long their reprs are -/
theorem rep_len {m : Nat} {x : Str} (h : okS m x) : (reprText x).length ≤ 10 * m + 2 := by
  have := PySem.StrLaws.reprText_len x fun c hc => Nat.lt_of_lt_of_le (h.2 c hc) (by decide)
  have := h.1
  omega
theorem lsum_le (B : Nat) : ∀ ts : List Str, (∀ t ∈ ts, t.length ≤ B) → (ts.map (·.length)).sum ≤ ts.length * B
  | [], _ => by simp
  | x :: r, h => by
    have ih := lsum_le B r fun t m => h t (List.mem_cons_of_mem _ m)
    have := h x (by simp)
    simp only [List.map_cons, List.sum_cons, List.length_cons, Nat.succ_mul]
    omega
theorem shownAll_mem : ∀ (xs : List PyData) (t : Str), t ∈ PyData.shownAll xs → ∃ x ∈ xs, t = x.shown
  | [], _, h => by simp [PyData.shownAll] at h
  | y :: r, t, h => by
    simp only [PyData.shownAll, List.mem_cons] at h
    rcases h with rfl | h
    · exact ⟨y, by simp, rfl⟩
    · obtain ⟨x, hx, e⟩ := shownAll_mem r t h
      exact ⟨x, by simp [hx], e⟩
theorem shownAll_len : ∀ xs : List PyData, (PyData.shownAll xs).length = xs.length
  | [] => by simp [PyData.shownAll]
  | x :: r => by simp [PyData.shownAll, shownAll_len r]
theorem shownKv_mem : ∀ (xs : List (PyData × PyData)) (t : Str), t ∈ PyData.shownKv xs → ∃ p ∈ xs, t = p.1.shown ++ ": " ++ p.2.shown
  | [], _, h => by simp [PyData.shownKv] at h
  | (a, b) :: r, t, h => by
    simp only [PyData.shownKv, List.mem_cons] at h
    rcases h with rfl | h
    · exact ⟨(a, b), by simp, rfl⟩
    · obtain ⟨x, hx, e⟩ := shownKv_mem r t h
      exact ⟨x, by simp [hx], e⟩
theorem shownKv_len : ∀ xs : List (PyData × PyData), (PyData.shownKv xs).length = xs.length
  | [] => by simp [PyData.shownKv]
  | (a, b) :: r => by simp [PyData.shownKv, shownKv_len r]
theorem shown_len : ∀ {n : Nat} {d : PyData}, Gd b n d → d.shown.length ≤ bnd n
  | 0, _, h => by
    obtain ⟨_, rfl⟩ := gd0 h
    simp only [PyData.shown]
    decide +kernel
  | n + 1, .bool b, _ => by
    have := bnd_ge n
    cases b
    · simp only [PyData.shown]; show 5 ≤ _; omega
    · simp only [PyData.shown]; show 4 ≤ _; omega
  | n + 1, .int i, h => by
    have := bnd_ge n
    have := int_len h.1 h.2
    simp only [PyData.shown]; omega
  | n + 1, .str x, h => by
    have := bnd_ge n
    have := rep_len h
    simp only [PyData.shown]; omega
  | 1, .list xs, h => by
    have z := lsum_le 1 (PyData.shownAll xs) fun t m => by
      obtain ⟨x, hx, e⟩ := shownAll_mem xs t m
      obtain ⟨_, ex⟩ := gd0 (h.2 x hx)
      rw [e, ex]
      simp only [PyData.shown]
      decide +kernel
    have z1 := textFrom_len_le (PyData.shownAll xs) 0 "["
    rw [shownAll_len] at z z1
    have e1 : (Str.ofString "[").length = 1 := rfl
    rw [e1] at z1
    have := h.1
    simp only [PyData.shown]
    unfold listText
    rw [strLen_append]
    show _ + 1 ≤ 122
    omega
  | n + 2, .list xs, h => by
    have z := lsum_le (bnd (n + 1)) (PyData.shownAll xs) fun t m => by
      obtain ⟨x, hx, e⟩ := shownAll_mem xs t m
      rw [e]
      exact shown_len (h.2 x hx)
    have z1 := textFrom_len_le (PyData.shownAll xs) 0 "["
    rw [shownAll_len] at z z1
    have z2 : xs.length * bnd (n + 1) ≤ 8 * bnd (n + 1) := Nat.mul_le_mul_right _ h.1
    have e1 : (Str.ofString "[").length = 1 := rfl
    rw [e1] at z1
    have := h.1
    simp only [PyData.shown]
    unfold listText
    rw [strLen_append]
    show _ + 1 ≤ 690 + 8 * bnd (n + 1)
    omega
  | 1, .dict kvs, h => by
    cases h.2.2.2 rfl
    simp only [PyData.shown, PyData.shownKv]
    show 2 ≤ 122
    decide
  | n + 2, .dict kvs, h => by
    have z := join_le ", " (bnd (n + 1) + 84) (PyData.shownKv kvs) fun t m => by
      obtain ⟨p, hp, e⟩ := shownKv_mem kvs t m
      obtain ⟨g1, g2, g3⟩ := h.2.1 p hp
      have hx := shown_len g3
      have hk := rep_len g2
      rw [e, strLen_append, strLen_append, g1]
      simp only [PyData.shown]
      have e1 : (Str.ofString ": ").length = 2 := rfl
      rw [e1]
      omega
    rw [shownKv_len] at z
    have e1 : (Str.ofString ", ").length = 2 := rfl
    rw [e1] at z
    have z2 : kvs.length * (bnd (n + 1) + 84 + 2) ≤ 8 * (bnd (n + 1) + 84 + 2) := Nat.mul_le_mul_right _ h.1
    simp only [PyData.shown]
    unfold dictText
    rw [strLen_append, strLen_append]
    show 1 + _ + 1 ≤ 690 + 8 * bnd (n + 1)
    omega
  | _ + 1, .none, h => h.elim
  | _ + 1, .tuple _, h => h.elim
theorem all_show : ∀ xs : List PyData, (∀ x ∈ xs, x.showable = true) → PyData.showableAll xs = true
  | [], _ => by simp [PyData.showableAll]
  | x :: r, h => by simp [PyData.showableAll, h x (by simp), all_show r fun y m => h y (by simp [m])]
theorem kv_show : ∀ xs : List (PyData × PyData), (∀ p ∈ xs, p.1.showable = true ∧ p.2.showable = true) → PyData.showableKv xs = true
  | [], _ => by simp [PyData.showableKv]
  | (a, b) :: r, h => by
    have := h (a, b) (by simp)
    simp [PyData.showableKv, this.1, this.2, kv_show r fun y m => h y (by simp [m])]
theorem Gd.show : ∀ {n : Nat} {d : PyData}, Gd b n d → d.showable = true
  | 0, _, h => by
    obtain ⟨_, rfl⟩ := gd0 h
    decide +kernel
  | n + 1, .bool b, _ => by simp [PyData.showable]
  | n + 1, .int i, h => by
    have : i.natAbs.log2 < 1920 := by
      have h1 : i.natAbs < 2 ^ 1920 := Nat.lt_of_le_of_lt (show i.natAbs ≤ 1000000000 by have := h.1; have := h.2; omega) (by decide)
      exact PySem.Flt.log2_lt_of (by decide) h1
    simpa [PyData.showable] using this
  | n + 1, .str x, h => by simp [PyData.showable]
  | n + 1, .list xs, h => by
    simp only [PyData.showable]
    exact all_show xs fun x m => (h.2 x m).show
  | n + 1, .dict kvs, h => by
    simp only [PyData.showable]
    refine kv_show kvs fun p m => ?_
    obtain ⟨g1, _, g3⟩ := h.2.1 p m
    exact ⟨by rw [g1]; simp [PyData.showable], g3.show⟩
  | _ + 1, .none, h => h.elim
  | _ + 1, .tuple _, h => h.elim
theorem depthAll_le {n : Nat} : ∀ xs : List PyData, (∀ x ∈ xs, x.depth ≤ n) → PyData.depthAll xs ≤ n
  | [], _ => by simp [PyData.depthAll]
  | x :: r, h => by
    have := h x (by simp)
    have := depthAll_le r fun y m => h y (by simp [m])
    simp only [PyData.depthAll]; omega
theorem depthKv_le {n : Nat} : ∀ xs : List (PyData × PyData), (∀ p ∈ xs, p.1.depth ≤ n ∧ p.2.depth ≤ n) → PyData.depthKv xs ≤ n
  | [], _ => by simp [PyData.depthKv]
  | (a, b) :: r, h => by
    obtain ⟨g1, g2⟩ := h (a, b) (by simp)
    simp only at g1 g2
    have := depthKv_le r fun y m => h y (by simp [m])
    simp only [PyData.depthKv]; omega
theorem Gd.depth : ∀ {n : Nat} {d : PyData}, Gd b n d → d.depth ≤ n
  | 0, _, h => by
    obtain ⟨_, rfl⟩ := gd0 h
    simp [PyData.depth]
  | n + 1, .bool b, _ => by simp [PyData.depth]
  | n + 1, .int i, h => by simp [PyData.depth]
  | n + 1, .str x, h => by simp [PyData.depth]
  | n + 1, .list xs, h => by
    have := depthAll_le xs fun x m => (h.2 x m).depth
    simp only [PyData.depth]; omega
  | n + 1, .dict kvs, h => by
    have := depthKv_le (n := n) kvs fun p m => by
      obtain ⟨g1, _, g3⟩ := h.2.1 p m
      exact ⟨by rw [g1]; simp [PyData.depth], g3.depth⟩
    simp only [PyData.depth]; omega
  | _ + 1, .none, h => h.elim
  | _ + 1, .tuple _, h => h.elim
end Sk

/-! isinstance of data. -/
namespace Sk
open PySem PySem.Spec PyProof.Rows L2 Evl
theorem kbb : kitB "bool" "bool" = some true := by decide +kernel
theorem kbi : kitB "bool" "int" = some true := by decide +kernel
theorem kbs : kitB "bool" "str" = some false := by decide +kernel
theorem kbl : kitB "bool" "list" = some false := by decide +kernel
theorem kbd : kitB "bool" "dict" = some false := by decide +kernel
theorem kbt : kitB "bool" "tuple" = some false := by decide +kernel
theorem kib : kitB "int" "bool" = some false := by decide +kernel
theorem kii : kitB "int" "int" = some true := by decide +kernel
theorem kis : kitB "int" "str" = some false := by decide +kernel
theorem kil : kitB "int" "list" = some false := by decide +kernel
theorem kid : kitB "int" "dict" = some false := by decide +kernel
theorem kit : kitB "int" "tuple" = some false := by decide +kernel
theorem ksb : kitB "str" "bool" = some false := by decide +kernel
theorem ksi : kitB "str" "int" = some false := by decide +kernel
theorem kss : kitB "str" "str" = some true := by decide +kernel
theorem ksl : kitB "str" "list" = some false := by decide +kernel
theorem ksd : kitB "str" "dict" = some false := by decide +kernel
theorem kst : kitB "str" "tuple" = some false := by decide +kernel
theorem klb : kitB "list" "bool" = some false := by decide +kernel
theorem kli : kitB "list" "int" = some false := by decide +kernel
theorem kls : kitB "list" "str" = some false := by decide +kernel
theorem kll : kitB "list" "list" = some true := by decide +kernel
theorem kld : kitB "list" "dict" = some false := by decide +kernel
theorem klt : kitB "list" "tuple" = some false := by decide +kernel
theorem kdb : kitB "dict" "bool" = some false := by decide +kernel
theorem kdi : kitB "dict" "int" = some false := by decide +kernel
theorem kds : kitB "dict" "str" = some false := by decide +kernel
theorem kdl : kitB "dict" "list" = some false := by decide +kernel
theorem kdd : kitB "dict" "dict" = some true := by decide +kernel
theorem kdt : kitB "dict" "tuple" = some false := by decide +kernel
theorem ktb : kitB "tuple" "bool" = some false := by decide +kernel
theorem kti : kitB "tuple" "int" = some false := by decide +kernel
theorem kts : kitB "tuple" "str" = some false := by decide +kernel
theorem ktl : kitB "tuple" "list" = some false := by decide +kernel
theorem ktd : kitB "tuple" "dict" = some false := by decide +kernel
theorem ktt : kitB "tuple" "tuple" = some true := by decide +kernel
def tyD : PyData → String
  | .none => "NoneType"
  | .bool _ => "bool"
  | .int _ => "int"
  | .str _ => "str"
  | .list _ => "list"
  | .tuple _ => "tuple"
  | .dict _ => "dict"
theorem Dq.ty {K : PySem.W.Frag} {H : Hp} : ∀ {v : V} {d : PyData}, Dq H v d → TyX K H v (.type (tyD d))
  | _, _, .non => .base .non
  | _, _, .bl b => .base (.bl b)
  | _, _, .int i => .base (.int i)
  | _, _, .str x => .base (.str x)
  | _, _, .lst e _ => .base (.lst e)
  | _, _, .tup e _ => .base (.tup e)
  | _, _, .dct e _ => .base (.dK e)
theorem call_isD {X : Cx} : CallR X (.builtin "isinstance") (fun xs H Q => ∃ x T d b, xs = [x, .ty T] ∧ Dq H x d ∧ kitB (tyD d) T = some b ∧ Q (.bl b) H) := by
  intro pins s σ H xs us Q I r h
  obtain ⟨x, T, d, b, rfl, hd, hk, q⟩ := h
  exact call_isi pins s σ H _ us Q I r ⟨x, .ty T, _, _, b, rfl, .ty T, hd.ty, kit_ty hk, q⟩
theorem tyes {σ : L2.St} {H : Hp} {A B : Hp → Prop} (h : A H) : tYes σ H fun b H3 => if b = true then A H3 else B H3 := by
  show (if true = true then A H else B H)
  rw [if_pos rfl]
  exact h
/-- a document read off -/
theorem Dq.lst_inv {H : Hp} {v : V} {xs : List PyData} (h : Dq H v (.list xs)) : ∃ a vs, v = .ref a ∧ H a = some (.lst vs) ∧ DqAll H vs xs := by
  cases h with
  | lst e r => exact ⟨_, _, rfl, e, r⟩
theorem Dq.dct_inv {H : Hp} {v : V} {xs : List (PyData × PyData)} (h : Dq H v (.dict xs)) : ∃ a vs, v = .ref a ∧ H a = some (.dK vs) ∧ DqKv H vs xs := by
  cases h with
  | dct e r => exact ⟨_, _, rfl, e, r⟩
theorem take_snoc {α : Type} {l : List α} {i : Nat} {x : α} (h : l[i]? = some x) : l.take (i + 1) = l.take i ++ [x] := by
  rw [List.take_add_one, h]; rfl
end Sk

/-! xs[::k]; texts of one sign joined; a dict with one more name. -/
namespace Sk
open PySem PySem.Spec PyProof.Rows L2 Evl
theorem vals_pick {xs : List V} {us : List Value} (r : Vals xs us) : ∀ L : List Nat, Vals (L.filterMap (xs[·]?)) (L.filterMap (us[·]?))
  | [] => .nil
  | i :: L => by
    have ih := vals_pick r L
    simp only [List.filterMap_cons]
    cases h : xs[i]? with
    | none => rw [r.none_of h]; exact ih
    | some x =>
      obtain ⟨u, e, ru⟩ := r.get h
      rw [e]
      exact .cons ru ih
theorem pick_mem {xs : List V} (L : List Nat) : ∀ z ∈ L.filterMap (xs[·]?), z ∈ xs := by
  intro z h
  obtain ⟨i, _, e⟩ := List.mem_filterMap.mp h
  exact List.mem_of_getElem? e
def tStep (K : PySem.W.Frag) (te tk : TE) : TE := fun σ H Q => te σ H fun x H1 => tk σ H1 fun y H2 => ∃ a xs k, x = .ref a ∧ y = .int k ∧ k ≠ 0 ∧ SqL K H2 a xs ∧
  ∀ p zs, H2 p = none → (∀ z ∈ zs, z ∈ xs) → zs.length ≤ xs.length → Q (.ref p) (upd H2 p (.lst zs))
theorem pe_step {X : Cx} {e k : Expr} {te tk : TE} {p3 pos : Pos} (he : PE X e te) (hk : PE X k tk) : PE X (.Subscript e (.Slice none none (some k) p3) pos) (tStep X.K te tk) := by
  refine ⟨fun pins s σ H Q I h => Subscript_ (thn (he.run pins s σ H _ I h) fun v s1 ⟨x, H1, I1, r1, q1⟩ => ?_)⟩
  refine wpAny_Slice (thn (po_none.run pins s1 σ H1 (fun o H2 => o = none ∧ H2 = H1) I1 ⟨rfl, rfl⟩) fun vl s2 ⟨l, H2, I2, pl, el, e2⟩ => ?_)
  cases el
  cases e2
  refine thn (po_none.run pins s2 σ H1 (fun o H2 => o = none ∧ H2 = H1) I2 ⟨rfl, rfl⟩) fun vu s3 ⟨l, H2, I3, pu, el, e2⟩ => ?_
  cases el
  cases e2
  rw [evalPart_some]
  refine thn (hk.run pins s3 σ H1 _ I3 q1) fun vk s4 ⟨y, H4, I4, r4, a, xs, n, ex, ey, hn, hs, q⟩ => ?_
  subst ex
  subst ey
  cases r1
  obtain ⟨t, rfl⟩ := r4
  let s5 : Shared := { s4 with heap := s4.heap.push { cls := .type "slice", data := .fields #[vl, vu, .int n t] } }
  have I5 : Inv X pins σ H4 s5 := I4.kept (t' := s4.toks) fun b ob z => Heap.get?_push_of_some _ z
  obtain ⟨its, r, ht, hz⟩ := I5.list hs
  have hlen := r.length
  show wpAny (model X.prog X.w) X.A (subscriptTail e (.Slice none none (some k) p3) (.ref a) (.ref s4.heap.objs.size)) (EP X pins σ Q) X.xe s5
  refine tail_any (ops := [.ref a, .ref s4.heap.objs.size]) ht.isList.typeIs PySem.slot_list_getitem.lookup ?_ (by with_unfolding_all rfl)
  refine wpAny_getItem_list_slice ht.isList (.new _ vl vu _) pl pu (.int n t) (fun z => hn (Option.some.inj z)) ?_ (by rw [List.size_toArray]; omega)
  have hsz := slicePick_size_le its.toArray none none (some n)
  rw [List.size_toArray] at hsz
  generalize hL : sliceRange (sliceBounds none none (some n) its.toArray.size).1 (sliceBounds none none (some n) its.toArray.size).2.1 (sliceBounds none none (some n) its.toArray.size).2.2 = L
  have e1 : slicePick its.toArray none none (some n) = (L.filterMap (its[·]?)).toArray := by
    unfold slicePick
    rw [hL]
    simp
  rw [e1, List.size_toArray] at hsz
  rw [e1]
  have hsz2 : (L.filterMap (its[·]?)).length ≤ its.length := hsz
  have rz := vals_pick r L
  have hl2 := rz.length
  refine ⟨.ref _, _, I5.laid (t' := s4.toks) (o := .lst (L.filterMap (xs[·]?))) (fun b ob z => Heap.get?_push_of_some _ z) (Nat.le_refl _) ?_, rfl, q _ _ (I5.hok.fresh (Nat.le_refl _)) (pick_mem L) (by rw [hl2, hlen]; exact hsz2)⟩
  exact ⟨by rw [hl2]; exact Nat.le_trans hsz2 (by rw [← hlen]; exact hz), _, 0, rz, Heap.get?_push_size _ rfl⟩
/-! ## one sign each, joined -/
def one (c : Nat) : Str := ⟨#[c]⟩
theorem tl_app (a b : Str) : (a ++ b).cps.toList = a.cps.toList ++ b.cps.toList := by
  show (a.cps ++ b.cps).toList = _
  simp
theorem join_one : ∀ cs : List Nat, (Str.join Str.empty (cs.map one)).cps.toList = cs
  | [] => rfl
  | [c] => rfl
  | c :: d :: r => by
    have ih := join_one (d :: r)
    show ((one c ++ Str.empty) ++ Str.join Str.empty ((d :: r).map one)).cps.toList = c :: d :: r
    rw [tl_app, tl_app, ih]
    rfl
theorem sum_one : ∀ cs : List Nat, ((cs.map one).map (·.length)).sum = cs.length
  | [] => rfl
  | c :: r => by
    have ih := sum_one r
    simp only [List.map_cons, List.sum_cons, List.length_cons]
    rw [ih]
    show 1 + r.length = r.length + 1
    omega
/-! ## a name put into a record -/
def putD (ds : List (PyData × PyData)) (k : Str) (d : PyData) : List (PyData × PyData) :=
  if (ds.any fun p => decide (keyS p.1 = k)) = true then ds.map (fun p => if keyS p.1 = k then (p.1, d) else p) else ds ++ [(.str k, d)]
theorem any_keys {H : Hp} {k : Str} : ∀ {kvs ds}, DqKv H kvs ds → (kvs.any fun kv => decide (kv.1 = (.inr k : Key))) = ds.any fun p => decide (keyS p.1 = k)
  | _, _, .nil => rfl
  | _, _, .cons (k := k') x r => by
    simp only [List.any_cons, any_keys r, keyS]
    congr 1
    by_cases e : k' = k
    · simp [e]
    · have : ¬ (Sum.inr k' : Key) = Sum.inr k := fun z => e (Sum.inr.inj z)
      simp [e]
theorem map_put {H : Hp} {k : Str} {v : V} {d : PyData} (h : Dq H v d) : ∀ {kvs : List (Key × V)} {ds : List (PyData × PyData)}, DqKv H kvs ds → DqKv H (kvs.map fun kv => if kv.1 = (.inr k : Key) then (kv.1, v) else kv) (ds.map fun p => if keyS p.1 = k then (p.1, d) else p)
  | _, _, .nil => .nil
  | _, _, .cons (k := k') x r => by
    have ih := map_put (k := k) h r
    by_cases e : k' = k
    · subst e
      simp only [List.map_cons]
      rw [if_pos trivial, if_pos (show keyS (PyData.str k') = k' from rfl)]
      exact .cons h ih
    · have e2 : ¬ (Sum.inr k' : Key) = Sum.inr k := fun z => e (Sum.inr.inj z)
      simp only [List.map_cons]
      rw [if_neg e2, if_neg (show ¬ keyS (PyData.str k') = k from e)]
      exact .cons x ih
theorem snoc_put {H : Hp} {k : Str} {v : V} {d : PyData} (h : Dq H v d) : ∀ {kvs ds}, DqKv H kvs ds → DqKv H (kvs ++ [(.inr k, v)]) (ds ++ [(.str k, d)])
  | _, _, .nil => .cons h .nil
  | _, _, .cons x r => .cons x (snoc_put h r)
theorem DqKv.put {H : Hp} {k : Str} {v : V} {d : PyData} {kvs ds} (r : DqKv H kvs ds) (h : Dq H v d) : DqKv H (putK kvs (.inr k) v) (putD ds k d) := by
  unfold putK putD
  rw [any_keys r]
  split
  · exact map_put h r
  · exact snoc_put h r
theorem putD_len (ds : List (PyData × PyData)) (k : Str) (d : PyData) : (putD ds k d).length ≤ ds.length + 1 := by
  unfold putD
  split <;> simp
theorem putD_keys (ds : List (PyData × PyData)) (k : Str) (d : PyData) : (putD ds k d).map (fun p => keyS p.1) = if k ∈ ds.map (fun p => keyS p.1) then ds.map (fun p => keyS p.1) else ds.map (fun p => keyS p.1) ++ [k] := by
  unfold putD
  by_cases h : k ∈ ds.map fun p => keyS p.1
  · have h' : (ds.any fun p => decide (keyS p.1 = k)) = true := by
      obtain ⟨p, hp, e⟩ := List.mem_map.mp h
      exact List.any_eq_true.mpr ⟨p, hp, by simp [e]⟩
    rw [if_pos h, if_pos h', List.map_map]
    refine List.map_congr_left fun p hp => ?_
    simp only [Function.comp]
    split <;> rfl
  · have h' : ¬ (ds.any fun p => decide (keyS p.1 = k)) = true := fun z => by
      obtain ⟨p, hp, e⟩ := List.any_eq_true.mp z
      exact h (List.mem_map.mpr ⟨p, hp, by simpa using e⟩)
    rw [if_neg h, if_neg h', List.map_append]
    rfl
/-- the parts of a record: whatever it has -/
def GdK (b : Bool) (n m : Nat) (ds : List (PyData × PyData)) : Prop := ds.length ≤ m ∧ (∀ p ∈ ds, p.1 = .str (keyS p.1) ∧ okS 8 (keyS p.1) ∧ Gd b n p.2) ∧ (ds.map fun p => keyS p.1).Nodup
theorem GdK.nil {b : Bool} {n : Nat} : GdK b n 0 [] := ⟨Nat.le_refl _, (fun _ h => nomatch h), by simp⟩
theorem GdK.put {b : Bool} {n m : Nat} {ds : List (PyData × PyData)} (g : GdK b n m ds) {k : Str} {d : PyData} (hk : okS 8 k) (hd : Gd b n d) : GdK b n (m + 1) (putD ds k d) := by
  refine ⟨?_, ?_, ?_⟩
  · have := putD_len ds k d
    have := g.1
    omega
  · intro p hp
    unfold putD at hp
    split at hp
    · obtain ⟨q, hq, rfl⟩ := List.mem_map.mp hp
      have z := g.2.1 q hq
      split
      · exact ⟨z.1, z.2.1, hd⟩
      · exact z
    · rcases List.mem_append.mp hp with hp | hp
      · exact g.2.1 p hp
      · cases List.mem_singleton.mp hp
        exact ⟨rfl, hk, hd⟩
  · rw [putD_keys]
    split
    · exact g.2.2
    · rename_i h
      exact List.nodup_append.mpr ⟨g.2.2, by simp, fun a ha b hb e => by
        cases List.mem_singleton.mp hb
        exact h (e ▸ ha)⟩
end Sk

/-! What is new between two heaps. -/
namespace Sk
open PySem PySem.Spec PyProof.Rows L2 Evl
def Nw (G H : Hp) : Hp := fun a => if G a = none then H a else none
theorem nw_some {G H : Hp} {a : Addr} {o : HO} (h : Nw G H a = some o) : G a = none ∧ H a = some o := by
  unfold Nw at h
  split at h
  · exact ⟨by assumption, h⟩
  · cases h
theorem nw_of {G H : Hp} {a : Addr} {o : HO} (n : G a = none) (h : H a = some o) : Nw G H a = some o := by
  unfold Nw; rw [if_pos n]; exact h
theorem nw_le {G H : Hp} : Ex (Nw G H) H := fun _ _ h => (nw_some h).2
theorem nw_ne {G H : Hp} {st a : Addr} {o : HO} (s : Strm st G) (h : Nw G H a = some o) : a ≠ st := by
  obtain ⟨u, e⟩ := s.some
  intro z; subst z
  rw [(nw_some h).1] at e; cases e
theorem nw_hd {G H : Hp} {st : Addr} (s : Strm st G) : Ex (Nw G H) (Hd st H) := fun a o h => hd_of (nw_ne s h) (nw_some h).2
theorem nw_aft {G H H' : Hp} {st : Addr} (s : Strm st G) (a : Aft st H H') : Ex (Nw G H) (Nw G H') := fun b o h => nw_of (nw_some h).1 (a.at (nw_ne s h) (nw_some h).2)
theorem nw_back {G G' H : Hp} (d : ∀ a, G' a = none → G a = none) : Ex (Nw G' H) (Nw G H) := fun b o h => nw_of (d b (nw_some h).1) (nw_some h).2
theorem Aft.none {H H' : Hp} {st : Addr} (a : Aft st H H') {b : Addr} (h : H' b = none) : H b = none := by
  obtain ⟨u, e⟩ := a.sm.some
  have n : b ≠ st := by intro z; subst z; rw [h] at e; cases e
  cases q : H b with
  | none => rfl
  | some o => rw [a.at n q] at h; cases h
theorem nw_upd {G H : Hp} {b : Addr} {o u : HO} (h : G b = some u) : Nw G (upd H b o) = Nw G H := by
  funext a
  unfold Nw
  split
  · rename_i z
    exact upd_ne (by intro e; subst e; rw [h] at z; cases z)
  · rfl
theorem nw_new {G H : Hp} {b : Addr} {o : HO} (h : H b = none) : Ex (Nw G H) (Nw G (upd H b o)) := fun a u e => nw_of (nw_some e).1 (by rw [upd_ne (ne_of_none (nw_some e).2 h)]; exact (nw_some e).2)
theorem upd_none {H : Hp} {a b : Addr} {o : HO} (h : upd H b o a = none) : H a = none := by
  unfold upd at h
  split at h
  · cases h
  · exact h
end Sk

/-! A call by names alone. -/
namespace Sk
open PySem PySem.Spec PyProof.Rows L2 Evl
theorem pe_callK0 {X : Cx} {CX : CXT} {k : Nat} {f : Addr} {fd : FuncData} {ps ks : List Str} {sp : Sp} {E : XK} {x : Str} {p pos : Pos} {kws : List Keyword} {tk : TA} {g : List Value → List Value → List Value} {gV : List V → List V → List V} (F : FnOk X.prog X.w X.K X.mg X.base CX k f fd ps sp)
    (hr : Room k X.A) (hg : Gl X x) (hm : X.mg x = some (.ref f)) (hk : PySem.W.keepIn X.K (.ref f) = true) (hb : KBinds X.K fd ps ks g gV) (hx : Passes CX X E) (hkw : PK X kws tk) (hall : (backToKw pos (keywordEach kws X.env)).all (·.1.isSome) = true := by rfl)
    (hks : (backToKw pos (keywordEach kws X.env)).filterMap (·.1) = ks := by rfl) (hdb : (x == ("__debug__" : Str)) = false := by decide)
    (hpl : ((backTo pos (starEach [] X.env)).any (·.1) || (backToKw pos (keywordEach kws X.env)).any (·.1.isNone)) = false := by rfl) : PE X (.Call (.Name x p) [] kws pos) (tCallK sp gV E tNil tk) := by
  refine ⟨fun pins s σ H Q I h => wpAny_Call_Name_kw (ld_glob I hg hm (PySem.W.callWith_KW0 (h₀ := X.base) I.ok.mod.kin hk hall (thn (hkw.run pos pins s σ H _ I h) fun ws s2 ⟨zs, H2, I2, rz, q2⟩ => ⟨I2.kIn, ?_⟩) hpl) hdb)⟩
  rw [hks]
  exact run_fnk (us := []) (vs := []) F hr hb hx I2 .nil rz q2
def gNoPos {α : Type} (us ws : List α) : List α := if us.isEmpty = true then ws else []
theorem kb_of {K : PySem.W.Frag} {x qual : Str} {st : Stmt} {f : Addr} {fd : FuncData} {ps ks : List Str} (F : Fun K x qual st f fd) (h0 : ps ≠ [])
    (h : ∀ (kV doc pm : Value) (an : Option Addr) (cdv ct : Value) (ws : List Value), ws.length = ps.length → bindArgs (PySem.W.fnOf x qual (defArgs st) (defBody st) (defScope st) .none kV doc pm an cdv ct) ⟨[], ks.zip ws⟩ = pure (ps.zip ws)) : KBinds K fd ps ks gNoPos gNoPos := by
  obtain ⟨oc, od, kV, doc, pm, an, cdv, ct, osl, rfl, lk, hcd⟩ := F.ex
  refine ⟨fun s us ws _ hl => ?_, fun {vs us zs ws} r rz => ?_⟩
  · unfold gNoPos at hl ⊢
    cases us with
    | nil => exact .of_eq (h kV doc pm an cdv ct ws hl)
    | cons u us =>
      cases ps with
      | nil => exact absurd rfl h0
      | cons p ps => simp at hl
  · cases r with
    | nil => exact rz
    | cons _ _ => exact .nil
end Sk

/-! Sets of texts: set(xs), sorted(set), len(set). -/
namespace Sk
open PySem PySem.Spec PyProof.Rows L2 Evl
abbrev tk_ (P : Program) (w : World) : PySem.KeyKind P w Str := PySem.strKind P w
def nmE (e : Int × Value) : Str := strOf e.2
def TxE (P : Program) (w : World) (e : Int × Value) : Prop := ∃ x t, e.2 = Value.str x t ∧ e.1 = (tk_ P w).hash x
/-- a set of texts at a: its members are those of M -/
def TxSet (P : Program) (w : World) (M : List Str) (a : Addr) (h : Heap) : Prop :=
  ∃ ob es ep tb, h.get? a = some ob ∧ ob.ExactSet ∧ ob.data = .set es ep tb ∧ (∀ e ∈ es.toList, TxE P w e) ∧ (es.toList.map nmE).Nodup ∧ (∀ x, x ∈ es.toList.map nmE ↔ x ∈ M) ∧ es.size ≤ M.length ∧
    M.length < scanBound ∧ tb.fits es.size = true ∧ Ris tb.place.toList ∧ (w.params.followText "set-order" = true ∨ tb.led = true)
section
variable {P : Program} {w : World} {A : Around} {E : Value → Shared → Prop} {s : Shared} {a : Addr} {M : List Str}
theorem TxSet.on {h h' : Heap} (R : TxSet P w M a h) (k : ∀ o, h.get? a = some o → h'.get? a = some o) : TxSet P w M a h' := by
  obtain ⟨ob, es, ep, tb, h0, r⟩ := R
  exact ⟨ob, es, ep, tb, k ob h0, r⟩
theorem txE_is {e : Int × Value} (g : TxE P w e) (x : Str) : (tk_ P w).is x e.2 = true ↔ nmE e = x := by
  obtain ⟨y, t, q, _⟩ := g
  unfold nmE
  rw [q]
  have z := (tk_ P w).strs y y t (.str x t) (strKind_is P w y t)
  constructor
  · intro h
    exact (tk_ P w).inj _ _ _ (strKind_is P w y t) h
  · intro h
    have h' : y = x := h
    subst h'
    exact strKind_is P w y t
theorem txE_el {l : List (Int × Value)} (g : ∀ e ∈ l, TxE P w e) : ElemsOf (tk_ P w) l := fun e he => by
  obtain ⟨x, t, q, q2⟩ := g e he
  refine ⟨⟨x, ?_, q2⟩, ?_⟩
  · rw [q]; exact strKind_is P w x t
  · rw [q]; rfl
/-- what stands behind the table's writing -/
theorem tx_end {dm : Bool → Sem Unit} (hdm : ∀ (b : Bool) (s1 : Shared) (Z : Unit → Shared → Prop), Z () s1 → wpAny (model P w) A (dm b) Z E s1) {ob : Obj} {es es1 : Array (Int × Value)} {ep : Nat} {tb tb2 : SetTable}
    (h0 : s.heap.get? a = some ob) (hx : ob.ExactSet) (hd : ob.data = .set es ep tb) (g1 : ∀ e ∈ es1.toList, TxE P w e) (nd1 : (es1.toList.map nmE).Nodup) (m1 : ∀ x, x ∈ es1.toList.map nmE ↔ x ∈ M) (z1 : es1.size ≤ M.length)
    (zb : M.length < scanBound) (f2 : tb2.fits es1.size = true) (r2 : Ris tb2.place.toList) (l2 : w.params.followText "set-order" = true ∨ tb2.led = true) {wd : Bool} {R : Option Bool → Shared → Prop}
    (hR : ∀ h', Heap.SameBut a s.heap h' → TxSet P w M a h' → R (some true) { s with heap := h' }) :
    wpAny (model P w) A (do storeSet a es1 tb2
                            if (!wd && tb2.tooFull) = true then do
                                dm (relayAll tb2 es1 (SetTable.grown es1.size)).2.2
                                storeSet a (relayAll tb2 es1 (SetTable.grown es1.size)).1 (relayAll tb2 es1 (SetTable.grown es1.size)).2.1
                                pure (some true)
                              else pure (some true)) R E s := by
  have b1 : es1.size < scanBound := Nat.lt_of_le_of_lt z1 zb
  have at1 := store_at (es' := es1) (t' := tb2) h0 hd
  have same1 := Heap.SameBut.update s.heap a (Obj.putSet es1 tb2)
  refine wpAny_bind (wpAny_storeSet_of h0 hd ?_ (fits_of_scanBound b1))
  split
  · have pm := relayAll_perm tb2 es1 (SetTable.grown es1.size)
    have f3 := relayAll_fits tb2 es1 (SetTable.grown es1.size)
    have r3 := relayAll_ris tb2 es1 (SetTable.grown es1.size)
    have l3 := relayAll_led tb2 es1 (SetTable.grown es1.size)
    generalize relayAll tb2 es1 (SetTable.grown es1.size) = Y at pm f3 r3 l3 ⊢
    obtain ⟨es2, tb3, gv⟩ := Y
    dsimp only at pm f3 r3 l3 ⊢
    have sz : es2.size = es1.size := by simpa using pm.length_eq
    refine wpAny_bind (hdm _ _ _ (wpAny_bind (wpAny_storeSet_of at1 rfl ?_ (fits_of_scanBound (by omega)))))
    have at2 := store_at (es' := es2) (t' := tb3) at1 rfl
    refine wpAny_pure (hR _ (same1.trans (Heap.SameBut.update _ a _)) ⟨_, es2, _, tb3, at2, hx, rfl, fun e he => g1 e (pm.mem_iff.mp he), ?_, fun x => ?_, by omega, zb, f3, r3, ?_⟩)
    · exact (pm.map nmE).nodup_iff.mpr nd1
    · exact ((pm.map nmE).mem_iff).trans (m1 x)
    · exact l2.imp id fun z => l3.trans z
  · exact wpAny_pure (hR _ same1 ⟨_, es1, _, tb2, at1, hx, rfl, g1, nd1, m1, z1, zb, f2, r2, l2⟩)
theorem tx_add {x : Str} {t : Tok} {Q : Bool → Shared → Prop} (R : TxSet P w M a s.heap) (room : M.length + 1 < scanBound)
    (hQ : ∀ b h', Heap.SameBut a s.heap h' → TxSet P w (M ++ [x]) a h' → Q b { s with heap := h' }) : wpAny (model P w) A (setAddHashed a (.str x t) ((tk_ P w).hash x)) Q E s := by
  obtain ⟨ob, es, ep, tb, h0, hx, hd, g, nd, hm, hz, hb, hf, hr, hl⟩ := R
  have isx : (tk_ P w).is x (.str x t) = true := strKind_is P w x t
  have scn : (Value.str x t).scannable = true := rfl
  have elm := txE_el g
  have lenM : (M ++ [x]).length = M.length + 1 := by simp
  have esb : es.size < scanBound := Nat.lt_of_le_of_lt hz hb
  unfold setAddHashed setAddHashedIn
  refine wpAny_holding (wpAny_bind (wpAny_setState_of h0 hd hf ?_))
  dsimp only
  rw [byScan_of scn esb elm]
  simp only [↓reduceIte]
  unfold setAddByScan
  refine wpAny_bind (wpAny_bind (wpAny_rule (wpAny_bind (wpAny_setScan_of isx h0 hd hf elm ?_))))
  cases hfi : List.findIdx? (fun e => (tk_ P w).is x e.2) es.toList with
  | some j =>
    dsimp only
    obtain ⟨hj, pj, _⟩ := List.findIdx?_eq_some_iff_getElem.mp hfi
    have xin : x ∈ M := (hm x).mp (List.mem_map.mpr ⟨es.toList[j], List.getElem_mem hj, (txE_is (g _ (List.getElem_mem hj)) x).mp pj⟩)
    refine wpAny_pure (wpAny_pure (hQ _ s.heap (Heap.SameBut.refl a s.heap) ⟨ob, es, ep, tb, h0, hx, hd, g, nd, fun y => ?_, by omega, by omega, hf, hr, hl⟩))
    rw [hm y, List.mem_append, List.mem_singleton]
    exact ⟨.inl, fun z => z.elim id fun e => e ▸ xin⟩
  | none =>
    dsimp only
    have xout : x ∉ es.toList.map nmE := fun z => by
      obtain ⟨e, he, q⟩ := List.mem_map.mp z
      have c := List.findIdx?_eq_none_iff.mp hfi e he
      rw [(txE_is (g e he) x).mpr q] at c
      cases c
    have gave : ∀ (b : Bool) {s1 : Shared} {Z : Unit → Shared → Prop}, Z () s1 → wpAny (model P w) A (match b with | true => rule "set.scan.the-table-gave-way" | false => pure ()) Z E s1 :=
      fun b s1 Z q => by cases b <;> first | exact wpAny_pure q | exact wpAny_rule q
    have pm := layNew_perm tb es ((tk_ P w).hash x) (.str x t)
    have f1 := layNew_fits tb es ((tk_ P w).hash x) (.str x t)
    have r1 := layNew_ris tb es ((tk_ P w).hash x) (.str x t) hr
    have l1 := layNew_led tb es ((tk_ P w).hash x) (.str x t)
    generalize layNew tb es ((tk_ P w).hash x) (.str x t) = Y at pm f1 r1 l1 ⊢
    obtain ⟨es1, tb1, wd, gv⟩ := Y
    dsimp only at pm f1 r1 l1 ⊢
    rw [Array.toList_push] at pm
    have pc : es1.toList.Perm (((tk_ P w).hash x, Value.str x t) :: es.toList) := pm.trans (List.perm_append_singleton _ _)
    have pk : (es1.toList.map nmE).Perm (x :: es.toList.map nmE) := pc.map nmE
    have g1 : ∀ e ∈ es1.toList, TxE P w e := fun e he => by
      rcases List.mem_cons.mp (pc.mem_iff.mp he) with z | z
      · subst z; exact ⟨x, t, rfl, rfl⟩
      · exact g e z
    have nd1 : (es1.toList.map nmE).Nodup := pk.nodup_iff.mpr (List.nodup_cons.mpr ⟨xout, nd⟩)
    have m1 : ∀ y, y ∈ es1.toList.map nmE ↔ y ∈ M ++ [x] := fun y => by
      rw [pk.mem_iff, List.mem_cons, hm y, List.mem_append, List.mem_singleton]
      exact Or.comm
    have z1 : es1.size ≤ (M ++ [x]).length := by
      have e1 : es1.size = es.size + 1 := by simpa using pc.length_eq
      omega
    have l1' : w.params.followText "set-order" = true ∨ tb1.led = true := hl.imp id fun z => l1.trans z
    have zb : (M ++ [x]).length < scanBound := by omega
    refine wpAny_bind (gave _ ?_)
    split
    · refine wpAny_bind ?_
      rw [hashByValue_scannable 8 scn]
      refine wpAny_pure (tx_end (fun b s1 Z q => by cases b <;> first | exact wpAny_pure q | exact wpAny_rule q) h0 hx hd g1 nd1 m1 z1 zb ?_ ?_ ?_ fun h' sb r => ?_)
      · first | (split <;> first | exact f1 | exact SetTable.fits_plain_off f1) | exact f1
      · first | (split <;> exact r1) | exact r1
      · first | (split <;> exact l1') | exact l1'
      · dsimp only
        exact wpAny_pure (hQ _ h' sb r)
    · refine wpAny_bind (wpAny_pure ?_)
      simp only [↓reduceIte]
      refine tx_end (fun b s1 Z q => by cases b <;> first | exact wpAny_pure q | exact wpAny_rule q) h0 hx hd g1 nd1 m1 z1 zb f1 r1 l1' fun h' sb r => ?_
      dsimp only
      exact wpAny_pure (hQ _ h' sb r)
theorem tx_new {h : Heap} (h0 : h.get? a = some { cls := .type "set", dict := none, data := .set #[] 0 (.fresh 0 0 (!w.params.followText "set-order")) }) : TxSet P w [] a h := by
  refine ⟨_, #[], 0, _, h0, ⟨rfl, rfl, rfl⟩, rfl, (fun _ m => absurd m (by simp)), by simp, (fun x => by simp), Nat.le_refl _, by decide, rfl, List.Pairwise.nil, ?_⟩
  cases q : w.params.followText "set-order" with
  | true => exact .inl rfl
  | false => exact .inr rfl
/-- the members come one by one -/
theorem tx_loop {I : Addr} {fp wr : List Addr} {G : Array GenState → Array GenState → Prop} {n : Nat} {Pv : Nat → Value → Prop} {St : Nat → Shared → Prop} {R : Result → Shared → Prop} (W : WalksS P w A.in1 I fp wr G n Pv St) (S : Addr) (out : S ∉ fp)
    (xs : List Str) (len : n = xs.length) (room : xs.length + 1 < scanBound) (vals : ∀ i v, Pv i v → ∃ x t, xs[i]? = some x ∧ v = .str x t) : ∀ (m i : Nat) (s : Shared), n - i = m → i ≤ n → St i s → TxSet P w (xs.take i) S s.heap →
      (∀ s', Moved (S :: wr) G s s' → TxSet P w xs S s'.heap → R (.ok (.ret .none)) s') → codeAny (model P w) A (.builtin "set.update.loop" ⟨[.ref S, .ref I], []⟩) R s := by
  have outw : S ∉ wr := fun z => out (W.sub _ z)
  have more : ∀ b ∈ wr, b ∈ S :: wr := fun b z => List.mem_cons_of_mem _ z
  intro m
  induction m with
  | zero =>
    intro i s e0 le st hS hR
    refine codeAny_builtin F.entry_set_update_loop ?_
    rw [Around.under_plainId F.plain_set_update_loop _]
    have ei : i = n := by omega
    subst ei
    rw [List.take_of_length_le (Nat.le_of_eq len.symm)] at hS
    show wpAny _ A.in1 (pyNext (.ref I) >>= _) _ _ s
    refine wpAny_bind (W.done s _ _ st fun s' mv => ?_)
    show wpAny _ A.in1 (ret Value.none) _ _ s'
    exact wpAny_pure (hR s' (mv.mono more) (hS.on fun o e => mv.heap S o outw e))
  | succ m ih =>
    intro i s e0 le st hS hR
    have lt : i < n := by omega
    refine codeAny_builtin F.entry_set_update_loop ?_
    rw [Around.under_plainId F.plain_set_update_loop _]
    show wpAny _ A.in1 (pyNext (.ref I) >>= _) _ _ s
    refine wpAny_bind (W.item i s _ _ lt st fun v s' hv st' mv => ?_)
    obtain ⟨x, t, hx, rfl⟩ := vals i v hv
    have hS' : TxSet P w (xs.take i) S s'.heap := hS.on fun o e => mv.heap S o outw e
    show wpAny _ A.in1 (holding [Value.str x t] (setAdd S (.str x t)) >>= _) _ _ s'
    refine wpAny_bind (wpAny_holding ?_)
    unfold setAdd
    refine wpAny_holding (wpAny_bind ((tk_ P w).pyHash (k := x) (strKind_is _ _ _ _) ?_))
    refine tx_add (s := { s' with toks := s'.toks + 1 }) hS' (by rw [List.length_take]; omega) fun b h' sb hS2 => ?_
    rw [← take_snoc hx] at hS2
    refine wpAny_pure ⟨plainId_quiet F.plain_set_update_loop _, ih (i + 1) _ (by omega) lt (W.frame _ s' _ _ st' (Nat.le_succ _) fun c hc o e => ?_) hS2 fun s2 mv2 hS3 => hR s2 (Moved.trans W.gtrans ((mv.mono more).then_heap (Nat.le_succ _) fun c o hc e => ?_) mv2) hS3⟩
    · exact (sb.2 c fun z : c = S => out (z ▸ hc)).trans e
    · exact (sb.2 c fun z : c = S => hc (z ▸ List.mem_cons_self)).trans e
set_option maxHeartbeats 3200000 in
/-- set(xs), a list of texts -/
theorem tx_call {l : Addr} {its : Array Value} (xs : List Str) {Q : Value → Shared → Prop} (calm : A.handled = none) (hl : s.heap.IsList l its) (hi : StrsAre its.toList xs) (room : xs.length + 1 < scanBound)
    (hQ : ∀ (h' : Heap) (k : Nat), TxSet P w xs s.heap.objs.size h' → (∀ b o, s.heap.get? b = some o → h'.get? b = some o) → Q (.ref s.heap.objs.size) { s with heap := h', toks := k }) : wpAny (model P w) A (call (.type "set") [.ref l]) Q E s := by
  have zi : its.size = xs.length := by simpa using hi.len_eq
  have ⟨c, tl, hmro⟩ := F.called_set.mro
  have hmade := F.called_set.made
  have hsub := F.called_set.sub
  refine wpAny_call (codeAny_of_tree ?_)
  show wpAny _ _ (callAny (.type "set") _) _ _ _
  refine wpAny_pure ⟨Code.quiet_builtin _ (by decide +kernel), codeAny_builtin F.entry_type_call ?_⟩
  rw [Around.under_plain (weight_type_call_type "set" [.ref l] []) rfl]
  have u1 := F.called_set.notType
  have u2 := F.called_set.canCreate
  have u3 := F.typeCall_set_1 (.ref l)
  repeat (any_goals (first | assumption | wp_step))
  refine codeAny_mono (code_set_led1 (.ref l) (E := E) (Q₁ := fun v s1 => v = .ref s.heap.objs.size ∧ s1 = { s with heap := s.heap.push { cls := .type "set", dict := none, data := .set #[] 0 (.fresh 0 0 (!w.params.followText "set-order")) } }) ⟨rfl, rfl⟩) fun r s1 hr => ?_
  rcases r with er | fl
  · exact hr
  cases fl with
  | ret v =>
    obtain ⟨rfl, rfl⟩ := hr
    have hS : (s.heap.push { cls := .type "set", dict := none, data := .set #[] 0 (.fresh 0 0 (!w.params.followText "set-order")) }).get? s.heap.objs.size = some { cls := .type "set", dict := none, data := .set #[] 0 (.fresh 0 0 (!w.params.followText "set-order")) } := Heap.get?_push_size _ rfl
    have hT : Shared.TypeIs { s with heap := s.heap.push { cls := .type "set", dict := none, data := .set #[] 0 (.fresh 0 0 (!w.params.followText "set-order")) } } (.ref s.heap.objs.size) "set" := ⟨_, hS, rfl⟩
    have u4 := F.called_set.init.lookup
    have u5 := F.called_set.init.bind (.ref s.heap.objs.size)
    repeat (any_goals (first | assumption | wp_step))
    refine codeAny_mono (codeAny_call_builtin (R := wants (fun r s2 => r = .none ∧ ∃ h' k, s2 = { s with heap := h', toks := k } ∧ TxSet P w xs s.heap.objs.size h' ∧ (∀ b o, s.heap.get? b = some o → h'.get? b = some o)) E)
      F.called_set.init.plain F.entry_set_init (check_set_init_1 hT ?_)) fun r2 s2 hr2 => ?_
    · obtain ⟨ol, hol, hcl, nl, hdl⟩ := hl
      obtain ⟨ocls, odict, odata, oslots⟩ := ol
      simp only at hcl hdl
      subst hcl
      subst hdl
      have hol2 : (s.heap.push { cls := .type "set", dict := none, data := .set #[] 0 (.fresh 0 0 (!w.params.followText "set-order")) }).get? l = some { cls := .type "list", dict := odict, data := .seq its nl, slots := oslots } := Heap.get?_push_of_some _ hol
      have u6 := F.sub_list_set
      have u7 := F.sub_list_frozenset
      have u8 : (Value.type "list" == Value.type "dict") = false := by decide
      have il : (s.heap.push { cls := .type "set", dict := none, data := .set #[] 0 (.fresh 0 0 (!w.params.followText "set-order")) }).IsList l its := ⟨_, hol2, rfl, nl, rfl⟩
      unfold Builtin.«set.__init__» noKeywords Builtin.Frozenset.updateFrom
      generalize hPI : pyIter = PI
      wp_walk
      subst hPI
      refine wpAny_pyIter_list il (wpAny_bind (wpAny_runValue ?_))
      have ltl : l < s.heap.objs.size := Heap.lt_size hol
      have calm3 : A.in1.in1.in1.handled = none := by simp [calm]
      have zp : (s.heap.push { cls := .type "set", dict := none, data := .set #[] 0 (.fresh 0 0 (!w.params.followText "set-order")) }).objs.size = s.heap.objs.size + 1 := Heap.size_push ..
      have neI : l ≠ (s.heap.push { cls := .type "set", dict := none, data := .set #[] 0 (.fresh 0 0 (!w.params.followText "set-order")) }).objs.size := by
        rw [zp]; exact Nat.ne_of_lt (Nat.lt_succ_of_lt ltl)
      have outS : s.heap.objs.size ∉ [(s.heap.push { cls := .type "set", dict := none, data := .set #[] 0 (.fresh 0 0 (!w.params.followText "set-order")) }).objs.size, l] := fun z => by
        rw [zp] at z
        rcases List.mem_cons.mp z with z | z
        · exact absurd z (Nat.ne_of_lt (Nat.lt_succ_self _))
        · exact absurd (List.mem_singleton.mp z) (Nat.ne_of_gt ltl)
      have vals : ∀ (i : Nat) (v : Value), its[i]? = some v → ∃ x t, xs[i]? = some x ∧ v = .str x t := fun i v hv => by
        obtain ⟨y, t, q1, q2⟩ := StrsAre.item hi i v (by rw [Array.getElem?_toList]; exact hv)
        exact ⟨y, t, q2, q1⟩
      refine tx_loop ((Walks.list calm3 _ l neI its).toS) s.heap.objs.size outS xs zi room vals (its.size - 0) 0 _ (by omega) (Nat.zero_le _) ⟨⟨_, Heap.get?_push_size _ rfl, rfl, rfl⟩, (il.push _)⟩ ?hS0 ?hR
      case hS0 => exact tx_new (Heap.get?_push_of_some _ hS)
      case hR =>
        intro s' mv hS'
        obtain ⟨h', g', d', k', os'⟩ := s'
        have e1 : g' = s.gens := mv.gens
        have e2 : d' = s.drawn := mv.drawn
        have e3 : os' = s.os := mv.os
        subst e1
        subst e2
        subst e3
        show wpAny _ _ _ _ _ _
        refine wpAny_pure ?_
        show wpAny _ _ (ret Value.none) _ _ _
        refine wpAny_pure ⟨rfl, h', k', rfl, hS', fun b o e => ?_⟩
        have b0 : b < s.heap.objs.size := Heap.lt_size e
        refine mv.heap b o (fun z => ?_) (Heap.get?_push_of_some _ (Heap.get?_push_of_some _ e))
        rcases List.mem_cons.mp z with z | z
        · exact absurd z (Nat.ne_of_lt b0)
        · exact absurd (List.mem_singleton.mp z) (by rw [zp]; exact Nat.ne_of_lt (Nat.lt_succ_of_lt b0))
    · rcases r2 with er | fl2
      · exact hr2
      cases fl2 with
      | ret r =>
        obtain ⟨rfl, h', k, rfl, q1, q2⟩ := hr2
        repeat (any_goals (first | assumption | wp_step))
        exact hQ _ _ q1 q2
      | _ => exact hr2.elim
  | _ => exact hr.elim
/-- sorted(found), a set of texts -/
theorem tx_sorted {Q : Value → Shared → Prop} (R : TxSet P w M a s.heap) (calm : A.handled = none) (few : ∃ L : List Str, L.length < 64 ∧ ∀ x ∈ M, x ∈ L)
    (hQ : ∀ s' p (out : Array Value) (c : Nat) (ys : List Str), (∀ b o, s.heap.get? b = some o → s'.heap.get? b = some o) → s'.gens = s.gens → s'.os = s.os → s.heap.objs.size ≤ p → s'.heap.get? p = some (seqObj "list" out c) →
      StrsAre out.toList ys → ys.Nodup → sortedS ys = true → (∀ x, x ∈ ys ↔ x ∈ M) → ys.length ≤ M.length → Q (.ref p) s') : wpAny (model P w) A (call (.builtin "sorted") [.ref a]) Q E s := by
  obtain ⟨ob, es, ep, tb, h0, hx, hd, g, nd, hm, hz, hb, hf, hr, hl⟩ := R
  have esb : es.size < scanBound := Nat.lt_of_le_of_lt hz hb
  have es64 : es.size < 64 := by
    obtain ⟨L, l1, l2⟩ := few
    have z := length_le_of_nodup_of_subset (es.toList.map nmE) L nd fun x m => l2 x ((hm x).mp m)
    rw [List.length_map, Array.length_toList] at z
    omega
  refine Calls.call_function_entry kind_sorted plain_sorted entry_sorted (args_sorted1 _) ?_
  unfold Builtin.«sorted»
  refine wpAny_bind (m := checkCount "sorted" 1 1 _) (wpAny_pure (wpAny_bind (collect_set (A := A.in1) calm ⟨ob, h0, hx.1, hd⟩ hf esb hr hl fun s1 vs k1 z1 g1 o1 pm => ?_)))
  have len : vs.length = es.size := by simpa using pm.length_eq
  have hS : StrsAre vs (vs.map strOf) := by
    have key : ∀ us : List Value, (∀ v ∈ us, ∃ x t, v = Value.str x t) → StrsAre us (us.map strOf) := by
      intro us
      induction us with
      | nil => exact fun _ => .nil
      | cons u us ih =>
        intro q
        obtain ⟨x, t, rfl⟩ := q u List.mem_cons_self
        exact .cons x t (ih fun v m => q v (List.mem_cons_of_mem _ m))
    refine key vs fun v hv => ?_
    obtain ⟨e, he, q⟩ := List.mem_map.mp (pm.mem_iff.mp hv)
    obtain ⟨x, t, q2, _⟩ := g e he
    exact ⟨x, t, q ▸ q2⟩
  have pk : (vs.map strOf).Perm (es.toList.map nmE) := by
    have q := pm.map strOf
    rw [List.map_map] at q
    exact q
  refine wpAny_bind (wpAny_newList ?_ (by rw [len, sizeLine_eq]; omega))
  have hoL : (s1.heap.push (seqObj "list" vs.toArray 0)).get? s1.heap.objs.size = some (seqObj "list" vs.toArray 0) := Heap.get?_push_size _ rfl
  refine wpAny_bind (wpAny_holding (wpAny_call_entry slot_list_sort ⟨_, hoL, rfl⟩ entry_list_sort
    (list_sort_treeK strKind_oneLt hoL hS.keysOf (fun v1 v2 rest e => keyKind_strs (by rw [← e]; exact hS)) (by omega) fun st' hp hs => ⟨_, rfl, ?_⟩) (args_list_sort _)))
  obtain ⟨ys, y1, y2, y3⟩ := sorted_out_str hS hp hs
  obtain ⟨c, hc⟩ := sortedHeap_at (vs := vs) (out := (arrOf st').map (·.2)) hoL
  have pn : ys.Perm (es.toList.map nmE) := y2.trans pk
  refine wpAny_pure ⟨_, rfl, hQ _ s1.heap.objs.size _ c ys (fun b u e => ?_) g1 o1 z1 hc y1 (pn.nodup_iff.mpr nd) y3 (fun x => by rw [pn.mem_iff, hm x]) (by have := pn.length_eq; simp at this; omega)⟩
  have lt := Heap.lt_size (k1 b u e)
  exact (sortedHeap_old (Nat.ne_of_lt lt) (by rw [size_push']; exact Nat.lt_succ_of_lt lt)).trans (Heap.get?_push_of_some _ (k1 b u e))
end
end Sk

/-! The operators that an own class says: +, ~, len, ==, !=. -/
namespace Sk
open PySem PySem.Spec PyProof.Rows L2 Evl
section
variable {X : Cx} {pins : List (Addr × Obj)} {σ : L2.St} {H : Hp} {s : Shared} {CX : CXT} {n : Nat} {C g : Addr} {sp : Sp} {E : XK}
/-- an instance as the heap has it -/
theorem ins_at {a dx : Addr} {fs : List (Str × V)} (I : Inv X pins σ H s) (h : H a = some (.ins C dx fs)) : ∃ ox od, PySem.W.InstAt s.heap a ox C od := by
  obtain ⟨mA, O, _⟩ := ins_get I.hok h
  obtain ⟨od, J, _⟩ := O.look
  exact ⟨_, _, J⟩
/-- x op y, both of one class -/
def rBinI (C : Addr) (sp : Sp) (E : XK) : R2 := fun x y H Q => ∃ a b dx dy fs gs, x = .ref a ∧ y = .ref b ∧ H a = some (.ins C dx fs) ∧ H b = some (.ins C dy gs) ∧ sp [x, y] H Q E
theorem op_binI {op : Operator} (hc : PySem.W.selfFirst X.K C = true) (hs : PySem.W.findIn X.K (.ref C) (PySem.dunder op.info.2) = some (some (.ref g))) (hf : PySem.W.isFn X.K (.ref g) = true) (F : FnR X.prog X.w X.K X.mg X.base CX n g sp)
    (hr : Room n X.A) (hx : Passes CX X E) : OpR X (binaryOp op) (rBinI C sp E) := by
  intro pins s σ H x y v u Q I rx ry h
  obtain ⟨a, b, dx, dy, fs, gs, rfl, rfl, ha, hb, q⟩ := h
  cases (show v = Value.ref a from rx)
  cases (show u = Value.ref b from ry)
  obtain ⟨ox, od, J⟩ := ins_at I ha
  obtain ⟨oy, od', J'⟩ := ins_at I hb
  obtain ⟨m, hF⟩ := I.fr
  refine PySem.W.binop_K hF I.ok.mod.kin J J'.type hc hs hf ?_
  refine wpAny_mono (wpAny_call (run_fnR (us := [.ref a, .ref b]) (vs := [.ref a, .ref b]) F hr hx I (.cons rfl (.cons rfl .nil)) q)) (fun w s' z => ?_) fun _ _ x => x
  obtain ⟨z', H', I', rz, qz⟩ := z
  exact SlX.cmpback rz ⟨z', H', I', rz, qz⟩
/-- x == y (and the other comparisons), both of one class -/
theorem op_cmpI {op : CmpOp} (hop : ∀ a b, compareOp op a b = richCompare op a b) (hs : PySem.W.findIn X.K (.ref C) (cmpInfo op).2.1 = some (some (.ref g))) (hf : PySem.W.isFn X.K (.ref g) = true) (F : FnR X.prog X.w X.K X.mg X.base CX n g sp)
    (hr : Room n X.A) (hx : Passes CX X E) : OpR X (compareOp op) (rBinI C sp E) := by
  intro pins s σ H x y v u Q I rx ry h
  obtain ⟨a, b, dx, dy, fs, gs, rfl, rfl, ha, hb, q⟩ := h
  cases (show v = Value.ref a from rx)
  cases (show u = Value.ref b from ry)
  obtain ⟨ox, od, J⟩ := ins_at I ha
  obtain ⟨oy, od', J'⟩ := ins_at I hb
  obtain ⟨m, hF⟩ := I.fr
  rw [hop]
  refine PySem.W.cmp_K (op := op) (tb := .ref C) hr.units0 hF I.ok.mod.kin J J'.type (by simp [PySem.W.notFirst]) hs hf ?_
  refine wpAny_mono (wpAny_call (run_fnR (us := [.ref a, .ref b]) (vs := [.ref a, .ref b]) F hr hx I (.cons rfl (.cons rfl .nil)) q)) (fun w s' z => ?_) fun _ _ x => x
  obtain ⟨z', H', I', rz, qz⟩ := z
  exact SlX.cmpback rz ⟨z', H', I', rz, qz⟩
/-- ~x -/
def rUnI (C : Addr) (sp : Sp) (E : XK) : V → Hp → VK → Prop := fun x H Q => ∃ a dx fs, x = .ref a ∧ H a = some (.ins C dx fs) ∧ sp [x] H Q E
theorem un_invI (hs : PySem.W.findIn X.K (.ref C) "__invert__" = some (some (.ref g))) (hf : PySem.W.isFn X.K (.ref g) = true) (F : FnR X.prog X.w X.K X.mg X.base CX n g sp)
    (hr : Room n X.A) (hx : Passes CX X E) : UnR X (unaryOp .Invert) (rUnI C sp E) := by
  intro pins s σ H x v Q I rx h
  obtain ⟨a, dx, fs, rfl, ha, q⟩ := h
  cases (show v = Value.ref a from rx)
  obtain ⟨ox, od, J⟩ := ins_at I ha
  obtain ⟨m, hF⟩ := I.fr
  refine PySem.W.ksp_inv hF I.ok.mod.kin J hs hf ?_
  exact wpAny_call (run_fnR (us := [.ref a]) (vs := [.ref a]) F hr hx I (.cons rfl .nil) q)
/-- len(x) -/
theorem call_lenI (hs : PySem.W.findIn X.K (.ref C) "__len__" = some (some (.ref g))) (hf : PySem.W.isFn X.K (.ref g) = true) (F : FnR X.prog X.w X.K X.mg X.base CX n g sp)
    (hr : Room (n + 1) X.A) (hx : Passes CX X E) : CallR X (.builtin "len") (fun xs H Q => ∃ a dx fs, xs = [.ref a] ∧ H a = some (.ins C dx fs) ∧ sp [.ref a] H (fun z H' => ∃ k : Int, z = .int k ∧ 0 ≤ k ∧ k < 2 ^ 63 ∧ Q (.int k) H') E) := by
  intro pins s σ H xs us Q I r h
  obtain ⟨a, dx, fs, rfl, ha, q⟩ := h
  obtain ⟨u1, rfl, rx⟩ := vals1 r
  cases (show u1 = Value.ref a from rx)
  obtain ⟨ox, od, J⟩ := ins_at I ha
  obtain ⟨m, hF⟩ := I.fr
  refine PySem.W.len_K hF I.ok.mod.kin J hs hf ?_
  refine wpAny_mono (wpAny_call (SlX.run_at (us := [.ref a]) (ws := [.ref a]) F hr.in1 I.env0.in1 hx I (.cons rfl .nil) q)) (fun w s' z => ?_) fun _ _ x => x
  obtain ⟨z', H', I', rz, k, ez, h0, h1, qz⟩ := z
  subst ez
  obtain ⟨t, e⟩ := (show ∃ t, w = Value.int k t from rz)
  cases e
  exact ⟨⟨h0, h1⟩, .int k, H', I'.tok _, ⟨_, rfl⟩, qz⟩
end
section
variable {prog : Program} {w : World} {A : Around} {E : Value → Shared → Prop} {s : Shared} {K : PySem.W.Frag} {x C L f : Addr} {h₀ : Heap} {m : Str → Option Value} {ox : Obj} {od : Option Obj} {b : Value}
/-- object.__ne__ over an own __eq__ -/
theorem ne_call {Q : Value → Shared → Prop} (hu : A.in1.units < cLine) (X : K.In s.heap) (I : PySem.W.InstAt s.heap x ox C od) (hm : PySem.W.mroIn K C (.type "object") = some true) (hs : PySem.W.findIn K (.ref C) "__eq__" = some (some (.ref f))) (hf : PySem.W.isFn K (.ref f) = true)
    (h : wpAny (model prog w) A.in1 (call (.ref f) [.ref x, b]) (fun v s' => ∃ k, v = .bool k ∧ Q (.bool (!k)) s') E s) : wpAny (model prog w) A (call (.builtin "object.__ne__") [.ref x, b]) Q E s := by
  refine wpAny_call (codeAny_call_builtin F.cmp_object.ne.plain F.cmpEntry_ne (PySem.W.check_slot F.cmpKind_ne F.cmpSplit_ne (I.type.andThen (PySem.W.looks_mroIn X hm)) (F.cmpArgs_ne _ _) ?_))
  unfold Builtin.«object.__ne__»
  repeat (first
    | with_reducible refine wpAny_cRoomFor hu ?_
    | (refine wpAny_bind (m := callSpecialIfBound? (.ref x) (Str.ofString "__eq__") [b])
        (PySem.W.ifBound_K X I hs hf (wpAny_mono h (fun r s' hr => by
          obtain ⟨k, rfl, hq⟩ := hr
          repeat (first | exact hq | exact wpAny_pure hq | exact wpAny_truthy_bool hq | (refine wpAny_bind (m := truthy (.bool _)) (wpAny_truthy_bool ?_)) | wp_step)) fun _ _ e => e)))
    | wp_step)
theorem ifBound_ne {args : List Value} {Q : Option Value → Shared → Prop} (X : K.In s.heap) (I : PySem.W.InstAt s.heap x ox C od) (hs : PySem.W.findIn K (.ref C) "__ne__" = some (some (.builtin "object.__ne__")))
    (h : wpAny (model prog w) A (call (.builtin "object.__ne__") (.ref x :: args)) (fun v => Q (some v)) E s) : wpAny (model prog w) A (callSpecialIfBound? (.ref x) "__ne__" args) Q E s := by
  simp only [callSpecialIfBound?, bindSpecialIfBound?]
  refine wpAny_holding (wpAny_bind (wpAny_bind (wpAny_bind (I.type.here ((PySem.W.looks_findIn X hs).here ?_)))))
  refine wpAny_bind (wpAny_askSetting (wpAny_ite ?_))
  have fin : wpAny (model prog w) A (call (.builtin "object.__ne__") ([.ref x] ++ args) >>= fun v => pure (some v)) Q E s := wpAny_bind (wpAny_mono h (fun v s' h' => wpAny_pure h') fun _ _ h' => h')
  split
  · exact wpAny_bind (wpAny_of_eq (F.cmp_object.ne.bind _) (wpAny_pure (by exact fin)))
  · exact wpAny_tryCatch (wpAny_bind (wpAny_of_eq (F.cmp_object.ne.bind _) (wpAny_pure (by exact fin))))
theorem ne_K {tb : Value} {Q : Value → Shared → Prop} (hu : A.in1.units < cLine) (Fh : Fr h₀ L s.heap m) (X₀ : K.In h₀) (I : PySem.W.InstAt s.heap x ox C od) (hb : PySem.W.Looks (model prog w) s.heap (typeOf b) (.ref C))
    (hm : PySem.W.mroIn K C (.type "object") = some true) (hn : PySem.W.findIn K (.ref C) "__ne__" = some (some (.builtin "object.__ne__"))) (hs : PySem.W.findIn K (.ref C) "__eq__" = some (some (.ref f))) (hf : PySem.W.isFn K (.ref f) = true)
    (h : wpAny (model prog w) A.in1 (call (.ref f) [.ref x, b]) (fun v s' => ∃ k, v = .bool k ∧ Q (.bool (!k)) s') E s) : wpAny (model prog w) A (richCompare .NotEq (.ref x) b) Q E s := by
  have X := X₀.keeps Fh.keep
  have hu0 : A.units < cLine := by
    have : A.in1.units = A.units + 1 := rfl
    omega
  have one : wpAny (model prog w) A (tryCompare (.ref x) "__ne__" b) (fun r s' => ∃ v, r = some v ∧ Q v s') E s := by
    unfold tryCompare
    refine wpAny_bind (ifBound_ne X I hn (ne_call hu X I hm hs hf (wpAny_mono h (fun v s' hv => ?_) fun _ _ e => e)))
    obtain ⟨k, rfl, hq⟩ := hv
    exact ⟨k, rfl, wpAny_pure ⟨_, rfl, hq⟩⟩
  unfold richCompare
  simp only [oneThing_ref]
  refine wpAny_holding (wpAny_bind (wpAny_cRoomFor hu0 ?_))
  refine wpAny_bind (I.type.here (wpAny_bind (hb.here ?_)))
  rw [show (Value.ref C != Value.ref C) = false from by simp]
  simp only [Bool.false_eq_true, if_false]
  refine wpAny_bind (wpAny_pure ?_)
  simp only [Bool.false_eq_true, if_false]
  refine wpAny_bind (wpAny_mono one (fun r s' z => ?_) fun _ _ e => e)
  obtain ⟨v, rfl, hq⟩ := z
  exact wpAny_pure hq
end
section
variable {X : Cx} {pins : List (Addr × Obj)} {σ : L2.St} {H : Hp} {s : Shared} {CX : CXT} {n : Nat} {C g : Addr} {sp : Sp} {E : XK}
/-- x != y over an own __eq__ -/
def rNeI (C : Addr) (sp : Sp) (E : XK) : R2 := fun x y H Q => ∃ a b dx dy fs gs, x = .ref a ∧ y = .ref b ∧ H a = some (.ins C dx fs) ∧ H b = some (.ins C dy gs) ∧ sp [x, y] H (fun z H' => ∃ k, z = .bl k ∧ Q (.bl (!k)) H') E
theorem op_neI (hm : PySem.W.mroIn X.K C (.type "object") = some true) (hn : PySem.W.findIn X.K (.ref C) "__ne__" = some (some (.builtin "object.__ne__"))) (hs : PySem.W.findIn X.K (.ref C) "__eq__" = some (some (.ref g))) (hf : PySem.W.isFn X.K (.ref g) = true) (F : FnR X.prog X.w X.K X.mg X.base CX n g sp)
    (hr : Room (n + 1) X.A) (hx : Passes CX X E) : OpR X (compareOp .NotEq) (rNeI C sp E) := by
  intro pins s σ H x y v u Q I rx ry h
  obtain ⟨a, b, dx, dy, fs, gs, rfl, rfl, ha, hb, q⟩ := h
  cases (show v = Value.ref a from rx)
  cases (show u = Value.ref b from ry)
  obtain ⟨ox, od, J⟩ := ins_at I ha
  obtain ⟨oy, od', J'⟩ := ins_at I hb
  obtain ⟨m, hF⟩ := I.fr
  show wpAny (model X.prog X.w) X.A (richCompare .NotEq (.ref a) (.ref b)) (EP X pins σ Q) X.xe s
  refine ne_K (tb := .ref C) hr.in1.units0 hF I.ok.mod.kin J J'.type hm hn hs hf ?_
  refine wpAny_mono (wpAny_call (SlX.run_at (us := [.ref a, .ref b]) (ws := [.ref a, .ref b]) F hr.in1 I.env0.in1 hx I (.cons rfl (.cons rfl .nil)) q)) (fun w s' z => ?_) fun _ _ x => x
  obtain ⟨z', H', I', rz, k, ez, qz⟩ := z
  subst ez
  cases (show w = Value.bool k from rz)
  exact ⟨k, rfl, .bl (!k), H', I', rfl, qz⟩
end
end Sk

/-! Changes of texts: their sums. -/
namespace Sk
inductive Ed (α : Type) where
  | keep (c : α) | put (c : α) | drop (c : α) | swap (a b : α)
  deriving DecidableEq
namespace Ed
variable {α : Type} [DecidableEq α]
def ok : Ed α → Prop
  | swap a b => a ≠ b
  | _ => True
def isDrop : Ed α → Bool
  | drop _ => true
  | _ => false
def isPut : Ed α → Bool
  | put _ => true
  | _ => false
def inn : Ed α → List α
  | keep c => [c]
  | put _ => []
  | drop c => [c]
  | swap a _ => [a]
def out : Ed α → List α
  | keep c => [c]
  | put c => [c]
  | drop _ => []
  | swap _ b => [b]
def turn : Ed α → Ed α
  | keep c => keep c
  | put c => drop c
  | drop c => put c
  | swap a b => swap b a
def comp : Ed α → Ed α → List (Ed α)
  | keep _, s => [s]
  | f, keep _ => [f]
  | put _, drop _ => []
  | put _, put _ => []
  | put _, swap _ c => [put c]
  | drop a, drop _ => [drop a]
  | swap a _, drop _ => [drop a]
  | drop _, put _ => []
  | swap _ _, put _ => []
  | drop a, swap _ c => if a = c then [keep a] else [swap a c]
  | swap a _, swap _ c => if a = c then [keep a] else [swap a c]
end Ed
open Ed
variable {α : Type} [DecidableEq α]
def givenE (f : List (Ed α)) : List α := f.flatMap inn
def madeE (f : List (Ed α)) : List α := f.flatMap out
def sumE : List (Ed α) → List (Ed α) → List (Ed α)
  | .drop a :: f, s => .drop a :: sumE f s
  | f, .put b :: s => .put b :: sumE f s
  | a :: f, b :: s => comp a b ++ sumE f s
  | _, _ => []
termination_by f s => f.length + s.length
theorem sumE_drop (a : α) (f s : List (Ed α)) : sumE (.drop a :: f) s = .drop a :: sumE f s := by rw [sumE]
theorem sumE_nil_put (b : α) (s : List (Ed α)) : sumE [] (.put b :: s) = .put b :: sumE [] s := by rw [sumE]; simp
theorem sumE_put {x : Ed α} (h : isDrop x = false) (b : α) (f s : List (Ed α)) : sumE (x :: f) (.put b :: s) = .put b :: sumE (x :: f) s := by
  cases x <;> first | (cases h; done) | (rw [sumE]; simp)
theorem sumE_comp {x y : Ed α} (h : isDrop x = false) (g : isPut y = false) (f s : List (Ed α)) : sumE (x :: f) (y :: s) = comp x y ++ sumE f s := by
  cases x <;> cases y <;> first | (cases h; done) | (cases g; done) | (rw [sumE] <;> simp)
theorem sumE_nil : sumE ([] : List (Ed α)) [] = [] := by rw [sumE] <;> simp
/-- a row that can be put together -/
def Mt (f s : List (Ed α)) : Prop := madeE f = givenE s
theorem given_cons (x : Ed α) (f : List (Ed α)) : givenE (x :: f) = inn x ++ givenE f := rfl
theorem made_cons (x : Ed α) (f : List (Ed α)) : madeE (x :: f) = out x ++ madeE f := rfl
/-- the ways of a matched pair -/
inductive Mtd : List (Ed α) → List (Ed α) → Prop
  | nil : Mtd [] []
  | drop (a : α) {f s} : Mtd f s → Mtd (.drop a :: f) s
  | put (b : α) {f s} : (∀ x ∈ f.head?, isDrop x = false) → Mtd f s → Mtd f (.put b :: s)
  | both {x y : Ed α} {f s} (h : isDrop x = false) (g : isPut y = false) (e : out x = inn y) : Mtd f s → Mtd (x :: f) (y :: s)
theorem mtd_of : ∀ (n : Nat) (f s : List (Ed α)), f.length + s.length ≤ n → Mt f s → Mtd f s
  | 0, [], [], _, _ => .nil
  | 0, _ :: _, _, l, _ => by simp at l
  | 0, [], _ :: _, l, _ => by simp at l
  | n + 1, .drop a :: f, s, l, h => .drop a (mtd_of n f s (by simp at l; omega) h)
  | n + 1, [], [], _, _ => .nil
  | n + 1, [], y :: s, l, h => by
    cases y with
    | put b => exact .put b (by simp) (mtd_of n [] s (by simp at l ⊢; omega) h)
    | _ => exact absurd h (by simp [Mt, madeE, givenE, inn])
  | n + 1, x :: f, s, l, h => by
    cases hx : isDrop x with
    | true =>
      cases x <;> first | (cases hx; done) | skip
      case drop a => exact .drop a (mtd_of n f s (by simp at l; omega) h)
    | false =>
      cases s with
      | nil => cases x <;> first | (cases hx; done) | exact absurd h (by simp [Mt, madeE, givenE, out])
      | cons y s =>
        cases hy : isPut y with
        | true =>
          cases y <;> first | (cases hy; done) | skip
          case put b => exact .put b (fun z hz => by simp at hz; subst hz; exact hx) (mtd_of n _ s (by simp at l ⊢; omega) h)
        | false =>
          have e : out x = inn y ∧ Mt f s := by
            unfold Mt at h ⊢
            rw [made_cons, given_cons] at h
            cases x <;> cases y <;> first | (cases hx; done) | (cases hy; done) | (simp [out, inn] at h ⊢; exact h)
          exact .both hx hy e.1 (mtd_of n f s (by simp at l; omega) e.2)
theorem Mtd.mt {f s : List (Ed α)} (h : Mtd f s) : Mt f s := by
  induction h with
  | nil => rfl
  | drop a _ ih => exact ih
  | put b _ _ ih => exact ih
  | both h g e _ ih =>
    unfold Mt at ih ⊢
    rw [made_cons, given_cons, e, ih]
theorem Mtd.sum_put {f s : List (Ed α)} (b : α) (h : ∀ x ∈ f.head?, isDrop x = false) : sumE f (.put b :: s) = .put b :: sumE f s := by
  cases f with
  | nil => exact sumE_nil_put b s
  | cons x f => exact sumE_put (h x (by simp)) b f s
/-- one step behind another -/
theorem comp_io {x y : Ed α} (h : isDrop x = false) (g : isPut y = false) (e : out x = inn y) (oy : ok y) : givenE (comp x y) = inn x ∧ madeE (comp x y) = out y := by
  cases x <;> cases y <;> first | (cases h; done) | (cases g; done) | skip
  all_goals simp [out, inn] at e
  all_goals try subst e
  all_goals simp only [comp]
  all_goals try split
  all_goals simp_all [givenE, madeE, inn, out]
theorem comp_ok {x y : Ed α} (ox : ok x) (oy : ok y) : ∀ z ∈ comp x y, ok z := by
  cases x <;> cases y <;> simp only [comp] <;> (try split) <;> simp_all [ok]
theorem comp_turn {x y : Ed α} (h : isDrop x = false) (g : isPut y = false) (e : out x = inn y) : (comp x y).map turn = comp (turn y) (turn x) := by
  cases x <;> cases y <;> first | (cases h; done) | (cases g; done) | skip
  all_goals simp [out, inn] at e
  all_goals try subst e
  all_goals simp only [comp, turn]
  all_goals try rfl
  case swap.swap a b c =>
    by_cases z : a = c
    · subst z; simp [turn]
    · rw [if_neg z, if_neg (fun q => z q.symm)]; rfl
theorem given_app (f s : List (Ed α)) : givenE (f ++ s) = givenE f ++ givenE s := by simp [givenE]
theorem made_app (f s : List (Ed α)) : madeE (f ++ s) = madeE f ++ madeE s := by simp [madeE]
/-- (A) what a sum reads and writes -/
theorem sum_io {f s : List (Ed α)} (m : Mtd f s) (os : ∀ x ∈ s, ok x) : givenE (sumE f s) = givenE f ∧ madeE (sumE f s) = madeE s := by
  induction m with
  | nil => rw [sumE_nil]; exact ⟨rfl, rfl⟩
  | drop a _ ih =>
    rw [sumE_drop, given_cons, given_cons, (ih os).1, made_cons, (ih os).2]
    exact ⟨rfl, rfl⟩
  | put b h _ ih =>
    have o := ih fun x hx => os x (List.mem_cons_of_mem _ hx)
    rw [Mtd.sum_put b h, given_cons, o.1, made_cons, made_cons, o.2]
    exact ⟨rfl, rfl⟩
  | both h g e _ ih =>
    have o := ih fun x hx => os x (List.mem_cons_of_mem _ hx)
    have c := comp_io h g e (os _ List.mem_cons_self)
    rw [sumE_comp h g, given_app, made_app, o.1, o.2, c.1, c.2]
    exact ⟨rfl, rfl⟩
theorem sum_ok {f s : List (Ed α)} (m : Mtd f s) (of : ∀ x ∈ f, ok x) (os : ∀ x ∈ s, ok x) : ∀ x ∈ sumE f s, ok x := by
  induction m with
  | nil => rw [sumE_nil]; exact of
  | drop a _ ih =>
    rw [sumE_drop]
    intro x hx
    rcases List.mem_cons.mp hx with rfl | hx
    · trivial
    · exact ih (fun x hx => of x (List.mem_cons_of_mem _ hx)) os x hx
  | put b h _ ih =>
    rw [Mtd.sum_put b h]
    intro x hx
    rcases List.mem_cons.mp hx with rfl | hx
    · trivial
    · exact ih of (fun x hx => os x (List.mem_cons_of_mem _ hx)) x hx
  | both h g e _ ih =>
    rw [sumE_comp h g]
    intro x hx
    rcases List.mem_append.mp hx with hx | hx
    · exact comp_ok (of _ List.mem_cons_self) (os _ List.mem_cons_self) x hx
    · exact ih (fun x hx => of x (List.mem_cons_of_mem _ hx)) (fun x hx => os x (List.mem_cons_of_mem _ hx)) x hx
/-- the pairs that meet -/
def metE (f s : List (Ed α)) : List (Ed α × Ed α) := (f.filter fun x => !isDrop x).zip (s.filter fun y => !isPut y)
theorem sum_perm {f s : List (Ed α)} (m : Mtd f s) : (sumE f s).Perm ((f.filter isDrop) ++ (s.filter isPut) ++ (metE f s).flatMap fun p => comp p.1 p.2) := by
  induction m with
  | nil => rw [sumE_nil]; exact List.Perm.refl _
  | drop a _ ih =>
    rw [sumE_drop]
    exact ih.cons _
  | @put b f s h _ ih =>
    rw [Mtd.sum_put b h]
    have e : metE f (.put b :: s) = metE f s := by simp [metE, isPut]
    rw [e]
    refine (ih.cons _).trans ?_
    simp only [List.filter_cons, isPut, if_true, List.append_assoc]
    exact (List.perm_middle (a := Ed.put b) (l₁ := f.filter isDrop) (l₂ := s.filter isPut ++ (metE f s).flatMap fun p => comp p.1 p.2)).symm
  | @both x y f s h g e _ ih =>
    rw [sumE_comp h g]
    have e : metE (x :: f) (y :: s) = (x, y) :: metE f s := by simp [metE, h, g]
    rw [e, List.flatMap_cons]
    simp only [List.filter_cons, h, g]
    refine (ih.append_left _).trans ?_
    simp only [Bool.false_eq_true, if_false]
    have z := (List.perm_append_comm (l₁ := comp x y) (l₂ := f.filter isDrop ++ s.filter isPut)).append_right ((metE f s).flatMap fun p => comp p.1 p.2)
    simpa only [List.append_assoc] using z
theorem turn_turn (x : Ed α) : turn (turn x) = x := by cases x <;> rfl
theorem turn_ok {x : Ed α} (h : ok x) : ok (turn x) := by
  cases x <;> first | trivial | exact fun e => h e.symm
theorem turn_in (x : Ed α) : inn (turn x) = out x := by cases x <;> rfl
theorem turn_out (x : Ed α) : out (turn x) = inn x := by cases x <;> rfl
theorem turn_put (x : Ed α) : isPut (turn x) = isDrop x := by cases x <;> rfl
theorem turn_drop (x : Ed α) : isDrop (turn x) = isPut x := by cases x <;> rfl
theorem given_turn (f : List (Ed α)) : givenE (f.map turn) = madeE f := by
  simp only [givenE, madeE, List.flatMap_map, turn_in]
theorem made_turn (f : List (Ed α)) : madeE (f.map turn) = givenE f := by
  simp only [givenE, madeE, List.flatMap_map, turn_out]
theorem met_turn (f s : List (Ed α)) : metE (s.map turn) (f.map turn) = (metE f s).map fun p => (turn p.2, turn p.1) := by
  simp only [metE, List.filter_map, Function.comp_def, turn_put, turn_drop, List.zip_map, List.map_map]
  generalize f.filter _ = F
  generalize s.filter _ = S
  induction F generalizing S with
  | nil => cases S <;> rfl
  | cons x F ih => cases S with
    | nil => rfl
    | cons y S => simp only [List.zip_cons_cons, List.map_cons]; rw [ih S]; rfl
theorem met_ok {f s : List (Ed α)} (m : Mtd f s) : ∀ p ∈ metE f s, isDrop p.1 = false ∧ isPut p.2 = false ∧ out p.1 = inn p.2 := by
  induction m with
  | nil => intro p h; simp [metE] at h
  | drop a _ ih => exact ih
  | @put b f s h _ ih =>
    have e : metE f (.put b :: s) = metE f s := by simp [metE, isPut]
    rw [e]; exact ih
  | @both x y f s h g e _ ih =>
    have e' : metE (x :: f) (y :: s) = (x, y) :: metE f s := by simp [metE, h, g]
    rw [e']
    intro p hp
    rcases List.mem_cons.mp hp with rfl | hp
    · exact ⟨h, g, e⟩
    · exact ih p hp
/-- (F) turned round, a sum's steps are those of the turned sum -/
theorem turn_perm {f s : List (Ed α)} (m : Mtd f s) : ((sumE f s).map turn).Perm (sumE (s.map turn) (f.map turn)) := by
  have mt : Mt (s.map turn) (f.map turn) := by unfold Mt; rw [made_turn, given_turn]; exact m.mt.symm
  have a := (sum_perm m).map turn
  have b := sum_perm (mtd_of _ _ _ (Nat.le_refl _) mt)
  refine a.trans (List.Perm.trans ?_ b.symm)
  rw [met_turn, List.flatMap_map, List.map_append, List.map_append]
  have e1 : (f.filter isDrop).map turn = (f.map turn).filter isPut := by simp only [List.filter_map, Function.comp_def, turn_put]
  have e2 : (s.filter isPut).map turn = (s.map turn).filter isDrop := by simp only [List.filter_map, Function.comp_def, turn_drop]
  have e3 : ((metE f s).flatMap fun p => comp p.1 p.2).map turn = (metE f s).flatMap fun p => comp (turn p.2) (turn p.1) := by
    rw [List.map_flatMap]
    have : ∀ l : List (Ed α × Ed α), (∀ p ∈ l, isDrop p.1 = false ∧ isPut p.2 = false ∧ out p.1 = inn p.2) → (l.flatMap fun p => (comp p.1 p.2).map turn) = l.flatMap fun p => comp (turn p.2) (turn p.1) := by
      intro l
      induction l with
      | nil => intro _; rfl
      | cons p l ih =>
        intro h
        obtain ⟨h1, h2, h3⟩ := h p List.mem_cons_self
        rw [List.flatMap_cons, List.flatMap_cons, comp_turn h1 h2 h3, ih fun q hq => h q (List.mem_cons_of_mem _ hq)]
    exact this _ (met_ok m)
  rw [e1, e2, e3]
  exact List.perm_append_comm.append_right _
/-- (D, E) what is paid -/
theorem sum_cost {f s : List (Ed α)} (m : Mtd f s) (c : Ed α → Nat) (hk : ∀ a, c (.keep a) = 0) (h : ∀ x y z, isDrop x = false → isPut y = false → z ∈ comp x y → (comp x y = [z]) ∧ c z ≤ c x + c y) : ((sumE f s).map c).sum ≤ (f.map c).sum + (s.map c).sum := by
  induction m with
  | nil => rw [sumE_nil]; simp
  | drop a _ ih =>
    rw [sumE_drop]
    simp only [List.map_cons, List.sum_cons]
    omega
  | put b h' _ ih =>
    rw [Mtd.sum_put b h']
    simp only [List.map_cons, List.sum_cons]
    omega
  | @both x y f s h' g e _ ih =>
    rw [sumE_comp h' g, List.map_append, List.sum_append]
    simp only [List.map_cons, List.sum_cons]
    have : ((comp x y).map c).sum ≤ c x + c y := by
      cases hc : comp x y with
      | nil => simp
      | cons z l =>
        obtain ⟨h1, h2⟩ := h x y z h' g (by rw [hc]; exact List.mem_cons_self)
        rw [hc] at h1
        rw [h1]
        simpa using h2
    omega

theorem comp_head {x y : Ed α} (h : isDrop x = false) (g : isPut y = false) : (isPut y = false ∧ isDrop y = false → comp x y ≠ [] ∧ ∀ z ∈ comp x y, isDrop z = false) ∧ (isPut x = false → comp x y ≠ [] ∧ ∀ z ∈ comp x y, isPut z = false) := by
  cases x <;> cases y <;> first | (cases h; done) | (cases g; done) | skip
  all_goals simp only [comp]
  all_goals try split
  all_goals simp [isDrop, isPut]
theorem cs_eq (a b b' : α) : comp (.swap a b) (.swap b' a) = [.keep a] := by simp only [comp]; simp
theorem cs_ne {a c : α} (h : a ≠ c) (b b' : α) : comp (.swap a b) (.swap b' c) = [.swap a c] := by simp only [comp]; rw [if_neg h]
/-- three steps in a row -/
theorem comp_assoc {x y z : Ed α} (hx : isDrop x = false) (hy : isDrop y = false ∧ isPut y = false) (hz : isPut z = false) (e1 : out x = inn y) (e2 : out y = inn z) (ox : ok x) (oy : ok y) (oz : ok z) : ∃ a b, comp x y = [a] ∧ comp y z = [b] ∧ isDrop a = false ∧ isPut b = false ∧ comp a z = comp x b := by
  obtain ⟨hy1, hy2⟩ := hy
  cases x <;> cases y <;> cases z <;> first | (cases hx; done) | (cases hy1; done) | (cases hy2; done) | (cases hz; done) | skip
  all_goals simp [out, inn] at e1 e2
  all_goals try subst e1
  all_goals try subst e2
  all_goals try exact ⟨_, _, rfl, rfl, rfl, rfl, rfl⟩
  all_goals simp only [ok] at ox oy oz
  case keep.swap.swap c b d =>
    by_cases w : c = d
    · subst w; exact ⟨_, _, rfl, cs_eq _ _ _, rfl, rfl, cs_eq _ _ _⟩
    · exact ⟨_, _, rfl, cs_ne w _ _, rfl, rfl, cs_ne w _ _⟩
  case put.swap.swap c b d =>
    by_cases w : c = d
    · subst w; exact ⟨_, _, rfl, cs_eq _ _ _, rfl, rfl, rfl⟩
    · exact ⟨_, _, rfl, cs_ne w _ _, rfl, rfl, rfl⟩
  case swap.swap.keep a b d =>
    by_cases w : a = d
    · subst w; exact ⟨_, _, cs_eq _ _ _, rfl, rfl, rfl, (cs_eq _ _ _).symm⟩
    · exact ⟨_, _, cs_ne w _ _, rfl, rfl, rfl, (cs_ne w _ _).symm⟩
  case swap.swap.drop a b d =>
    by_cases w : a = d
    · subst w; exact ⟨_, _, cs_eq _ _ _, rfl, rfl, rfl, rfl⟩
    · exact ⟨_, _, cs_ne w _ _, rfl, rfl, rfl, rfl⟩
  case swap.swap.swap a b c d =>
    by_cases w : a = c
    · subst w
      by_cases v : b = d
      · subst v
        exact ⟨_, _, cs_eq _ _ _, cs_eq _ _ _, rfl, rfl, rfl⟩
      · exact ⟨_, _, cs_eq _ _ _, cs_ne v _ _, rfl, rfl, (cs_ne oz _ _).symm⟩
    · by_cases v : b = d
      · subst v
        exact ⟨_, _, cs_ne w _ _, cs_eq _ _ _, rfl, rfl, cs_ne ox _ _⟩
      · exact ⟨_, _, cs_ne w _ _, cs_ne v _ _, rfl, rfl, rfl⟩
/-- (B) sums may be put together in any way -/
theorem sum_assoc : ∀ (n : Nat) (f g h : List (Ed α)), f.length + g.length + h.length ≤ n → Mtd f g → Mtd g h → (∀ x ∈ f, ok x) → (∀ x ∈ g, ok x) → (∀ x ∈ h, ok x) → sumE (sumE f g) h = sumE f (sumE g h)
  | 0, f, g, h, l, _, _, _, _, _ => by
    have a : f = [] := List.length_eq_zero_iff.mp (by omega)
    have b : g = [] := List.length_eq_zero_iff.mp (by omega)
    have c : h = [] := List.length_eq_zero_iff.mp (by omega)
    subst a; subst b; subst c
    simp only [sumE_nil]
  | n + 1, f, g, h, l, m1, m2, o1, o2, o3 => by
    have tl : ∀ {x : Ed α} {r : List (Ed α)}, (∀ y ∈ x :: r, ok y) → ∀ y ∈ r, ok y := fun q y m => q y (List.mem_cons_of_mem _ m)
    cases m1 with
    | @drop a f g m1 =>
      rw [sumE_drop, sumE_drop, sumE_drop, sum_assoc n f g h (by simp at l; omega) m1 m2 (tl o1) o2 o3]
    | nil =>
      cases m2 with
      | nil => simp only [sumE_nil]
      | @put c _ h' p m2 =>
        have ih := sum_assoc n [] [] h' (by simp at l ⊢; omega) .nil m2 o1 o2 (tl o3)
        rw [sumE_nil] at ih
        rw [sumE_nil, sumE_nil_put, sumE_nil_put, ← ih]
    | @put b _ g' p m1 =>
      cases m2 with
      | @put c _ h' p2 m2 =>
        rw [Mtd.sum_put b p, Mtd.sum_put c p2, sumE_put rfl, Mtd.sum_put c p, ← Mtd.sum_put b p]
        rw [sum_assoc n f (.put b :: g') h' (by simp at l ⊢; omega) (.put b p m1) m2 o1 o2 (tl o3)]
      | @both _ y _ h' hx hy e m2 =>
        rw [Mtd.sum_put b p, sumE_comp rfl hy, sumE_comp rfl hy, sum_assoc n f g' h' (by simp at l ⊢; omega) m1 m2 o1 (tl o2) (tl o3)]
        cases y <;> first | (cases hy; done) | skip
        case keep d => exact (Mtd.sum_put b p).symm
        case drop d => rfl
        case swap d e' => exact (Mtd.sum_put e' p).symm
    | @both x y f' g' hx hy e m1 =>
      cases m2 with
      | @drop a _ _ m2 =>
        rw [sumE_drop, sumE_comp hx hy, sumE_comp hx rfl]
        have ih := sum_assoc n f' g' h (by simp at l ⊢; omega) m1 m2 (tl o1) (tl o2) o3
        cases x <;> first | (cases hx; done) | skip
        case keep d => simp only [comp, List.cons_append, List.nil_append]; rw [sumE_drop, ih]
        case put d => simp only [comp, List.nil_append]; exact ih
        case swap d e' => simp only [comp, List.cons_append, List.nil_append]; rw [sumE_drop, ih]
      | @put c _ h' p2 m2 =>
        have p : ∀ z ∈ (x :: f').head?, isDrop z = false := fun z hz => by simp at hz; subst hz; exact hx
        have dy := p2 y (by simp)
        rw [Mtd.sum_put c p2, Mtd.sum_put c p, Mtd.sum_put c, sum_assoc n (x :: f') (y :: g') h' (by simp at l ⊢; omega) (.both hx hy e m1) m2 o1 o2 (tl o3)]
        intro z hz
        rw [sumE_comp hx hy] at hz
        obtain ⟨q1, q2⟩ := (comp_head hx hy).1 ⟨hy, dy⟩
        cases hc : comp x y with
        | nil => exact absurd hc q1
        | cons w r =>
          rw [hc] at hz q2
          simp at hz
          subst hz
          exact q2 _ List.mem_cons_self
      | @both _ z _ h' hy' hz e2 m2 =>
        obtain ⟨a, b, c1, c2, d1, d2, c3⟩ := comp_assoc hx ⟨hy', hy⟩ hz e e2 (o1 _ List.mem_cons_self) (o2 _ List.mem_cons_self) (o3 _ List.mem_cons_self)
        rw [sumE_comp hx hy, sumE_comp hy' hz, c1, c2, List.singleton_append, List.singleton_append, sumE_comp d1 hz, sumE_comp hx d2, c3]
        rw [sum_assoc n f' g' h' (by simp at l ⊢; omega) m1 m2 (tl o1) (tl o2) (tl o3)]
def keptE (s : List α) : List (Ed α) := s.map .keep
theorem given_kept (s : List α) : givenE (keptE s) = s := by
  induction s with
  | nil => rfl
  | cons c s ih => simp only [keptE, List.map_cons] at ih ⊢; rw [given_cons, ih]; rfl
theorem made_kept (s : List α) : madeE (keptE s) = s := by
  induction s with
  | nil => rfl
  | cons c s ih => simp only [keptE, List.map_cons] at ih ⊢; rw [made_cons, ih]; rfl
theorem kept_ok (s : List α) : ∀ x ∈ keptE s, ok x := fun x h => by
  obtain ⟨c, _, rfl⟩ := List.mem_map.mp h
  trivial
/-- (C) what keeps all changes nothing -/
theorem kept_sum : ∀ f : List (Ed α), sumE (keptE (givenE f)) f = f
  | [] => sumE_nil
  | .put b :: f => by
    have e : givenE (.put b :: f) = givenE f := rfl
    rw [e, Mtd.sum_put b, kept_sum f]
    intro x hx
    cases h : givenE f with
    | nil => rw [h] at hx; simp [keptE] at hx
    | cons c r => rw [h] at hx; simp [keptE] at hx; subst hx; rfl
  | .keep a :: f => by
    have e : keptE (givenE (.keep a :: f)) = .keep a :: keptE (givenE f) := rfl
    rw [e, sumE_comp rfl rfl, kept_sum f]; rfl
  | .drop a :: f => by
    have e : keptE (givenE (.drop a :: f)) = .keep a :: keptE (givenE f) := rfl
    rw [e, sumE_comp rfl rfl, kept_sum f]; rfl
  | .swap a b :: f => by
    have e : keptE (givenE (.swap a b :: f)) = .keep a :: keptE (givenE f) := rfl
    rw [e, sumE_comp rfl rfl, kept_sum f]; rfl
theorem sum_kept : ∀ f : List (Ed α), sumE f (keptE (madeE f)) = f
  | [] => sumE_nil
  | .drop b :: f => by
    have e : madeE (.drop b :: f) = madeE f := rfl
    rw [e, sumE_drop, sum_kept f]
  | .keep a :: f => by
    have e : keptE (madeE (.keep a :: f)) = .keep a :: keptE (madeE f) := rfl
    rw [e, sumE_comp rfl rfl, sum_kept f]; rfl
  | .put a :: f => by
    have e : keptE (madeE (.put a :: f)) = .keep a :: keptE (madeE f) := rfl
    rw [e, sumE_comp rfl rfl, sum_kept f]; rfl
  | .swap a b :: f => by
    have e : keptE (madeE (.swap a b :: f)) = .keep b :: keptE (madeE f) := rfl
    rw [e, sumE_comp rfl rfl, sum_kept f]; rfl
theorem sum_len : ∀ {f s : List (Ed α)}, Mtd f s → (sumE f s).length ≤ f.length + s.length := by
  intro f s m
  induction m with
  | nil => rw [sumE_nil]; simp
  | drop a _ ih => rw [sumE_drop]; simp; omega
  | put b h _ ih => rw [Mtd.sum_put b h]; simp; omega
  | @both x y f s h g e _ ih =>
    rw [sumE_comp h g]
    have : (comp x y).length ≤ 1 := by
      cases x <;> cases y <;> simp only [comp] <;> (try split) <;> simp
    simp only [List.length_append, List.length_cons]
    omega
end Sk

/-! The program's defs and the law's, by their places. -/
namespace Sk
open PySem PySem.Spec PyProof.Rows L2 Evl
def topS (i : Nat) : Stmt := PySem.Challenge.pw_soonknown_k46_scripts_by_name_and_errors.main.body.getD i (.Pass ⟨0, 0, 0, 0⟩)
abbrev sSign : Stmt := topS 20
abbrev sStep : Stmt := topS 21
abbrev sAre : Stmt := topS 22
abbrev sTurn : Stmt := topS 23
abbrev sSumd : Stmt := topS 24
abbrev sComp : Stmt := topS 25
abbrev sInit : Stmt := inClass (topS 26) 0
abbrev sKept : Stmt := inClass (topS 26) 1
abbrev sCall : Stmt := inClass (topS 26) 2
abbrev sLen : Stmt := inClass (topS 26) 3
abbrev sInv : Stmt := inClass (topS 26) 4
abbrev sAdd : Stmt := inClass (topS 26) 5
abbrev sEq : Stmt := inClass (topS 26) 6
abbrev sCost : Stmt := inClass (topS 26) 7
abbrev sLeast : Stmt := topS 27
abbrev sBehind : Stmt := topS 28
abbrev sStream : Stmt := topS 30
abbrev sDraw : Stmt := topS 31
abbrev sChoose : Stmt := topS 32
abbrev sWord : Stmt := topS 33
abbrev sSigns : Stmt := topS 34
abbrev sSteps : Stmt := topS 35
abbrev sKinds : Stmt := topS 36
abbrev sErrR : Stmt := topS 37
abbrev sNamR : Stmt := topS 38
abbrev sLaw : Stmt := topS 39
end Sk

/-! The built-ins that are used. -/
namespace Sk
open PySem PySem.Spec PyProof.Rows L2 Evl
structure Blt (mg : Str → Option Value) : Prop where
  isi : mg "isinstance" = none
  bool : mg "bool" = none
  int : mg "int" = none
  str : mg "str" = none
  list : mg "list" = none
  dict : mg "dict" = none
  sorted : mg "sorted" = none
  len : mg "len" = none
  range : mg "range" = none
  min : mg "min" = none
  max : mg "max" = none
  repr : mg "repr" = none
theorem bt_bool : bootBuiltins "bool" = some (.type "bool") := by decide +kernel
theorem bt_int : bootBuiltins "int" = some (.type "int") := by decide +kernel
theorem bt_str : bootBuiltins "str" = some (.type "str") := by decide +kernel
theorem bt_list : bootBuiltins "list" = some (.type "list") := by decide +kernel
theorem bt_dict : bootBuiltins "dict" = some (.type "dict") := by decide +kernel
theorem bt_isi : bootBuiltins "isinstance" = some (.builtin "isinstance") := by decide +kernel
theorem line_le {n : Nat} (h : n ≤ 16000000) : n ≤ sizeLine := by rw [sizeLine_eq]; omega
structure Blt2 (mg : Str → Option Value) : Prop where
  tuple : mg "tuple" = none
  set : mg "set" = none
  zip : mg "zip" = none
theorem bt_tuple : bootBuiltins "tuple" = some (.type "tuple") := by decide +kernel
theorem bt_min : bootBuiltins "min" = some (.builtin "min") := by decide +kernel
theorem bt_max : bootBuiltins "max" = some (.builtin "max") := by decide +kernel
theorem bt_sum : bootBuiltins "sum" = some (.builtin "sum") := by decide +kernel
structure Lt (P : Program) (w : World) (K : PySem.W.Frag) (mg : Str → Option Value) (base : Heap) (f : Addr) (fd : FuncData) (x : Str) (ps : List Str) (k : Nat) (sp : Sp) : Prop where
  g : FnOk P w K mg base CX0 k f fd ps sp
  b : Binds K fd ps []
  k : PySem.W.keepIn K (.ref f) = true
  m : mg x = some (.ref f)
end Sk

namespace Sk
open PySem PySem.Spec PyProof.Rows L2 Evl
theorem scStream : FnScope ["script", "start", "seed", "entry", "digits"] ["script", "start"] (defScope sStream) := ⟨rfl, rfl, rfl, by decide +kernel, rfl, by decide +kernel, by decide +kernel⟩
theorem scDraw : FnScope ["stream", "size", "found", "mixed"] ["stream", "size"] (defScope sDraw) := ⟨rfl, rfl, rfl, by decide +kernel, rfl, by decide +kernel, by decide +kernel⟩
theorem scChoose : FnScope ["stream", "items"] ["stream", "items"] (defScope sChoose) := ⟨rfl, rfl, rfl, by decide +kernel, rfl, by decide +kernel, by decide +kernel⟩
/-- a source is made of the script -/
def spStream (K : PySem.W.Frag) : Sp := fun vs H Q _ => ∃ (a : Addr) (ns : List Int) (k : Int), vs = [.ref a, .int k] ∧ SqL K H a (ns.map V.int) ∧ ns.length ≤ 63 ∧ (∀ z ∈ ns, Builtin.Int.intBits z ≤ 1048576) ∧ 0 ≤ k ∧ k ≤ 100 ∧
  ∀ (st : Addr) (H' : Hp), H st = none → Ex H H' → Strm st H' → Q (.ref st) H'
/-- a draw: some number below the size -/
def spDraw : Sp := fun vs H Q _ => ∃ (st : Addr) (n : Int), vs = [.ref st, .int n] ∧ Strm st H ∧ 1 ≤ n ∧ n ≤ 1000000000 ∧
  ∀ (k : Int) (H' : Hp), 0 ≤ k → k < n → Aft st H H' → Q (.int k) H'
/-- a choice: some item -/
def Chs (K : PySem.W.Frag) (H : Hp) (x : V) (P : V → Prop) : Prop :=
  (∃ (a : Addr) (xs : List V), x = .ref a ∧ (SqL K H a xs ∨ SqT K H a xs) ∧ xs ≠ [] ∧ xs.length ≤ 100000 ∧ ∀ v ∈ xs, P v) ∨
  ∃ z : Str, x = .str z ∧ z.cps.toList ≠ [] ∧ z.length ≤ 100000 ∧ ∀ c ∈ z.cps.toList, P (.str ⟨#[c]⟩)
def spChoose (K : PySem.W.Frag) : Sp := fun vs H Q _ => ∃ (st : Addr) (x : V) (P : V → Prop), vs = [.ref st, x] ∧ Strm st H ∧ Chs K (Hd st H) x P ∧
  ∀ (v : V) (H' : Hp), P v → Aft st H H' → Q v H'
section
variable {P : Program} {w : World} {K : PySem.W.Frag} {mg : Str → Option Value} {base : Heap} {f g : Addr} {fd gd : FuncData}
theorem seed_next {s n : Int} (hs : 0 ≤ s ∧ s < 2 ^ 31) (hn : Builtin.Int.intBits n ≤ 1048576) : CMulW s 40127 ∧ CPowB (s * 40127 + n) 3 := by
  have h1 : s.natAbs < 2 ^ 31 := by omega
  have h2 : (40127 : Int).natAbs < 2 ^ 16 := by decide
  refine ⟨wide_mul h1 h2 (by decide) (by decide) (by decide), by decide, ?_⟩
  have h3 := abs_of_bits hn
  have h4 : (s * 40127).natAbs < 2 ^ (31 + 16) := wide_lt h1 h2
  have h5 : (2 : Nat) ^ (31 + 16) ≤ 2 ^ 1048576 := Nat.pow_le_pow_right (by decide) (by decide)
  have h6 : (s * 40127 + n).natAbs < 2 ^ 1048577 := by
    have e : (2 : Nat) ^ 1048577 = 2 ^ 1048576 + 2 ^ 1048576 := by rw [Nat.pow_succ]; omega
    rw [e]
    generalize (2 : Nat) ^ 1048576 = M at *
    omega
  have h7 := bits_of h6 (by decide)
  have e : ((2 : Int) ^ 27) = 134217728 := by decide
  rw [e]
  omega
theorem ok_stream {k : Nat} (F : Fun K "_law_stream" "_law_stream" sStream f fd) (B : Blt mg) : FnOk P w K mg base CX0 (k + 1) f fd ["script", "start"] (spStream K) := by
  refine F.ok scStream (fun vs H Q E h => ?_) (fun cdv A outer s H vs Q E hr h => ?_)
  · obtain ⟨a, ns, k, rfl, _⟩ := h
    rfl
  obtain ⟨a, ns, k, rfl, hS, h63, hb, h0, h1, q⟩ := h
  have nd := scStream.nd
  refine ⟨_, pss_cons (ps_set (i := 2) nd rfl (Or.inl rfl) (pe_op op_add pe_int (pv 1)))
    (pss_cons (ps_for PassesOwn.never rfl (pi_list (pv 0)) (pg_name (i := 3) nd rfl (Or.inl rfl))
      (pss_one (ps_set (i := 2) nd rfl (Or.inl rfl) (pe_op op_add (pe_op op_mod (pe_callTy call_int1 rfl B.int bt_int (pa_cons (pe_op op_powB (pe_callTy call_int1 rfl B.int bt_int (pa_cons (pe_op op_add (pe_op op_mulW (pv 2) pe_int) (pe_callTy call_int1 rfl B.int bt_int (pa_cons (pv 3) pa_nil))) pa_nil)) pe_int) pa_nil)) pe_int) pe_int))))
    (pss_cons (ps_set (i := 4) nd rfl (Or.inl rfl) pe_int)
    (pss_cons (ps_if (PW.pt (pw_and (pt_cmpR op_lt (pv 1) (pe_callB call_len_seq rfl B.len PySem.boot_len (pa_cons (pv 0) pa_nil)) (nomark _)) (pw_and1 (pt_cmpR op_ge (pe_ix ix_list (pv 0) (pv 1) (fun _ _ => rfl)) (pe_op op_powB pe_int pe_int) (nomark _)))))
      (pss_one (ps_set (i := 4) nd rfl (Or.inl rfl) (pe_op op_sub (pe_ix ix_list (pv 0) (pv 1) (fun _ _ => rfl)) (pe_op op_powB pe_int pe_int)))) pss_nil)
    (pss_one (ps_ret (pe_lst (pa_cons (pv 4) (pa_cons (pv 2) pa_nil)))))))), ?_⟩
  refine ⟨_, rfl, _, _, rfl, rfl, ?_⟩
  refine ⟨_, rfl, a, rfl, ⟨_, hS⟩, for_list (xs := ns.map V.int) (fun i σ H' => ∃ (s : Int) (y : Option V), σ = [some (.ref a), some (.int k), some (.int s), y, none] ∧ 0 ≤ s ∧ s < 2 ^ 31 ∧ H' = H) ⟨41 + k, none, rfl, by omega, by omega, rfl⟩ (fun i σ H' _ hp => ?_) (fun i x σ H' hx hp => ?_) (fun σ H' hp => ?_)⟩
  · obtain ⟨_, _, _, _, _, rfl⟩ := hp
    exact hS
  · obtain ⟨s, y, rfl, hs0, hs1, rfl⟩ := hp
    rw [List.getElem?_map] at hx
    obtain ⟨n, hn, rfl⟩ := Option.map_eq_some_iff.mp hx
    have hbn := hb n (List.mem_of_getElem? hn)
    obtain ⟨c1, c2⟩ := seed_next ⟨hs0, hs1⟩ hbn
    have hm : (0 : Int) < 2147483629 := by decide
    refine ⟨_, rfl, _, _, rfl, rfl, c1, _, rfl, .inl ⟨_, rfl, _, _, rfl, rfl, .inl ⟨_, rfl, _, _, rfl, rfl, c2, .inl ⟨_, rfl, _, _, rfl, rfl, hm, _, _, rfl, rfl, _, some (.int n), rfl, ?_, ?_, rfl⟩⟩⟩⟩
    · have := Int.emod_nonneg ((s * 40127 + n) ^ (3 : Int).toNat) (show (2147483629 : Int) ≠ 0 by decide)
      omega
    · have := Int.emod_lt_of_pos ((s * 40127 + n) ^ (3 : Int).toNat) hm
      have e : ((2 : Int) ^ 31) = 2147483648 := by decide
      rw [e]
      omega
  · obtain ⟨s, y, rfl, hs0, hs1, rfl⟩ := hp
    have fin : ∀ d : Int, 0 ≤ d → d.natAbs < 2 ^ 1100000 → ([V.int d, V.int s].length ≤ sizeLine ∧ ∀ p, H' p = none → Q (.ref p) (upd H' p (.lst [.int d, .int s]))) := fun d hd1 hd2 =>
      ⟨(by show 2 ≤ sizeLine; decide), fun p hp => q p _ hp (Ex.new hp) ⟨d, s, upd_same, hd1, hd2, hs0, hs1⟩⟩
    have h18 : CPowB 10 18 := by refine ⟨by decide, by decide +kernel⟩
    refine ⟨_, rfl, _, rfl, a, _, rfl, .inl hS, _, _, rfl, rfl, _, rfl, ?_⟩
    refine ite2 (fun c => ?_) (fun c => ?_)
    · have c' : k < ((ns.map V.int).length : Int) := of_decide_eq_true c
      rw [List.length_map] at c'
      have hk : k.toNat < ns.length := by omega
      have hat : atI (ns.map V.int) k = some (.int ns[k.toNat]) := by
        have e : k = ((k.toNat : Nat) : Int) := by omega
        have z : atI (ns.map V.int) ((k.toNat : Nat) : Int) = some (.int ns[k.toNat]) := atI_nat (by rw [List.getElem?_map, List.getElem?_eq_getElem hk]; rfl)
        rw [← e] at z
        exact z
      refine ⟨_, rfl, _, rfl, a, _, _, _, rfl, rfl, hS, hat, _, _, rfl, rfl, h18, _, _, rfl, rfl, _, rfl, ?_⟩
      refine ite2 (fun c2 => ?_) (fun c2 => ?_)
      · have c2' : (10 : Int) ^ (18 : Int).toNat ≤ ns[k.toNat] := of_decide_eq_true c2
        refine ⟨_, rfl, _, rfl, a, _, _, _, rfl, rfl, hS, hat, _, _, rfl, rfl, h18, _, _, rfl, rfl, _, rfl, _, rfl, ?_⟩
        have hb2 := abs_of_bits (hb _ (List.getElem_mem hk))
        have e18 : (10 : Int) ^ (18 : Int).toNat = 1000000000000000000 := by decide
        rw [e18] at c2' ⊢
        refine fin _ (by omega) ?_
        have e : (2 : Nat) ^ 1048576 ≤ 2 ^ 1100000 := Nat.pow_le_pow_right (by decide) (by decide)
        generalize (2 : Nat) ^ 1048576 = M at *
        generalize (2 : Nat) ^ 1100000 = N at *
        omega
      · exact ⟨_, rfl, _, rfl, fin 0 (by decide) (Nat.two_pow_pos _)⟩
    · exact ⟨_, rfl, _, rfl, fin 0 (by decide) (Nat.two_pow_pos _)⟩
end
end Sk

namespace Sk
open PySem PySem.Spec PyProof.Rows L2 Evl
section
variable {P : Program} {w : World} {K : PySem.W.Frag} {mg : Str → Option Value} {base : Heap} {f g : Addr} {fd gd : FuncData}
theorem atI0 {a b : V} : atI [a, b] 0 = some a := atI_nat (j := 0) rfl
theorem atI1 {a b : V} : atI [a, b] 1 = some b := atI_nat (j := 1) rfl
theorem small31 {x : Int} (h0 : 0 ≤ x) (h : x < 2147483648) : x.natAbs < 2 ^ 31 := by
  have e : (2 : Nat) ^ 31 = 2147483648 := by decide
  rw [e]; omega
theorem powB_small {x : Int} (h0 : 0 ≤ x) (h : x < 2147483648) {j : Int} (j0 : 0 ≤ j) (j1 : j ≤ 10) : CPowB x j := by
  refine ⟨j0, ?_⟩
  have h7 := bits_of (small31 h0 h) (by decide)
  have e : ((2 : Int) ^ 27) = 134217728 := by decide
  rw [e]
  have h8 : (Builtin.Int.intBits x : Int) ≤ 31 := by omega
  have h9 : (0 : Int) ≤ (Builtin.Int.intBits x : Int) := by omega
  calc (Builtin.Int.intBits x : Int) * j ≤ 31 * 10 := Int.mul_le_mul h8 j1 j0 (by decide)
    _ ≤ 134217728 := by decide
theorem ok_draw {k : Nat} (F : Fun K "_law_draw" "_law_draw" sDraw f fd) (B : Blt mg) : FnOk P w K mg base CX0 (k + 1) f fd ["stream", "size"] spDraw := by
  refine F.ok scDraw (fun vs H Q E h => ?_) (fun cdv A outer s H vs Q E hr h => ?_)
  · obtain ⟨a, n, rfl, _⟩ := h
    rfl
  obtain ⟨st, n, rfl, hst, hn, hn9, q⟩ := h
  obtain ⟨d, sd, hs, hd0, hd1, hs0, hs1⟩ := hst
  have nd := scDraw.nd
  refine ⟨_, pss_cons (ps_if (pt_cmpR op_ge (pe_ix ix_list (pv 0) pe_int (fun _ _ => rfl)) (pv 1) (nomark _))
      (pss_cons (ps_set (i := 2) nd rfl (Or.inl rfl) (pe_op op_mod (pe_callTy call_int1 rfl B.int bt_int (pa_cons (pe_ix ix_list (pv 0) pe_int (fun _ _ => rfl)) pa_nil)) (pv 1)))
      (pss_cons (ps_asg (pe_op op_fdivW (pe_ix ix_list (pv 0) pe_int (fun _ _ => rfl)) (pv 1)) (pg_sub (pv 0) pe_int set_list))
      (pss_one (ps_ret (pv 2))))) pss_nil)
    (pss_cons (ps_asg (pe_op op_mod (pe_callTy call_int1 rfl B.int bt_int (pa_cons (pe_op op_add (pe_op op_mulW (pe_ix ix_list (pv 0) pe_int (fun _ _ => rfl)) pe_int) pe_int) pa_nil)) pe_int) (pg_sub (pv 0) pe_int set_list))
    (pss_cons (ps_set (i := 3) nd rfl (Or.inl rfl) (pe_op op_mod (pe_callTy call_int1 rfl B.int bt_int (pa_cons (pe_op op_powB (pe_callTy call_int1 rfl B.int bt_int (pa_cons (pe_ix ix_list (pv 0) pe_int (fun _ _ => rfl)) pa_nil)) pe_int) pa_nil)) pe_int))
    (pss_one (ps_ret (pe_op op_mod (pe_callTy call_int1 rfl B.int bt_int (pa_cons (pe_op op_fdiv (pe_op op_mod (pe_callTy call_int1 rfl B.int bt_int (pa_cons (pe_op op_powB (pv 3) pe_int) pa_nil)) pe_int) pe_int) pa_nil)) (pv 1)))))), ?_⟩
  have hL : SqL K H st [.int d, .int sd] := SqL.of hs
  refine ⟨_, rfl, st, _, 0, _, rfl, rfl, hL, atI0, _, rfl, _, _, rfl, rfl, _, rfl, ?_⟩
  have n31 : n.natAbs < 2 ^ 31 := small31 (by omega) (by omega)
  have up : ∀ a b : Int, 0 ≤ a → a.natAbs < 2 ^ 1100000 → 0 ≤ b → b < 2147483648 → Aft st H (upd H st (.lst [.int a, .int b])) := fun a b a0 a1 b0 b1 =>
    ⟨gr_upd, a, b, upd_same, a0, a1, b0, by have e : ((2 : Int) ^ 31) = 2147483648 := by decide
                                            rw [e]; exact b1⟩
  have e31 : ((2 : Int) ^ 31) = 2147483648 := by decide
  rw [e31] at hs1
  refine ite2 (fun c => ?_) (fun c => ?_)
  · have c' : n ≤ d := of_decide_eq_true c
    refine ⟨_, rfl, st, _, 0, _, rfl, rfl, hL, atI0, .inl ⟨_, rfl, _, rfl, _, _, rfl, rfl, (by omega : (0 : Int) < n), ?_⟩⟩
    refine ⟨_, rfl, st, _, 0, _, rfl, rfl, hL, atI0, _, rfl, _, _, rfl, rfl, wide_div (by omega) n31 (by decide) (by decide), ?_⟩
    refine ⟨_, rfl, st, _, 0, 0, rfl, rfl, hs, rfl, ?_⟩
    refine ⟨_, rfl, q _ _ (Int.emod_nonneg _ (by omega)) (Int.emod_lt_of_pos _ (by omega)) (up _ _ (Int.ediv_nonneg hd0 (by omega)) ?_ hs0 hs1)⟩
    refine Nat.lt_of_le_of_lt ?_ hd1
    have z0 : 0 ≤ d / n := Int.ediv_nonneg hd0 (by omega)
    have z1 : d / n ≤ d := Int.ediv_le_self n hd0
    omega
  · refine ⟨_, rfl, st, _, 1, _, rfl, rfl, hL, atI1, _, _, rfl, rfl, wide_mul (small31 hs0 hs1) (show (48271 : Int).natAbs < 2 ^ 16 by decide) (by decide) (by decide) (by decide), _, _, rfl, rfl, .inl ⟨_, rfl, _, _, rfl, rfl, (by decide : (0 : Int) < 2147483647), ?_⟩⟩
    refine ⟨_, rfl, st, _, 1, 1, rfl, rfl, hs, rfl, ?_⟩
    dsimp only [List.set]
    generalize hz : (sd * 48271 + 12345) % 2147483647 = z
    have z0 : 0 ≤ z := by rw [← hz]; exact Int.emod_nonneg _ (by decide)
    have z1 : z < 2147483648 := by
      have := Int.emod_lt_of_pos (sd * 48271 + 12345) (show (0 : Int) < 2147483647 by decide)
      omega
    have A1 := up d z hd0 hd1 z0 z1
    have hL2 : SqL K (upd H st (.lst [.int d, .int z])) st [.int d, .int z] := SqL.of upd_same
    refine ⟨_, rfl, st, _, 1, _, rfl, rfl, hL2, atI1, .inl ⟨_, rfl, _, _, rfl, rfl, powB_small z0 z1 (by decide) (by decide), .inl ⟨_, rfl, _, _, rfl, rfl, (by decide : (0 : Int) < 2147483629), ?_⟩⟩⟩
    dsimp only
    generalize hy : z ^ (3 : Int).toNat % 2147483629 = y
    have y0 : 0 ≤ y := by rw [← hy]; exact Int.emod_nonneg _ (by decide)
    have y1 : y < 2147483648 := by
      have := Int.emod_lt_of_pos (z ^ (3 : Int).toNat) (show (0 : Int) < 2147483629 by decide)
      omega
    refine ⟨_, rfl, _, _, rfl, rfl, powB_small y0 y1 (by decide) (by decide), .inl ⟨_, rfl, _, _, rfl, rfl, (by decide : (0 : Int) < 1000000007), _, _, rfl, rfl, ⟨by decide, by decide⟩, .inl ⟨_, rfl, _, rfl, _, _, rfl, rfl, (by omega : (0 : Int) < n), ?_⟩⟩⟩
    exact q _ _ (Int.emod_nonneg _ (by omega)) (Int.emod_lt_of_pos _ (by omega)) A1
/-- len of a list, a tuple, a text -/
theorem call_lenAny {X : Cx} : CallR X (.builtin "len") (fun xs H Q => (∃ p ys, xs = [.ref p] ∧ (SqL X.K H p ys ∨ SqT X.K H p ys) ∧ Q (.int ys.length) H) ∨ ∃ z, xs = [.str z] ∧ z.length ≤ sizeLine ∧ Q (.int z.length) H) := call_len_seq.or call_len_str
theorem ok_choose {k : Nat} {gd : FuncData} (F : Fun K "_law_choose" "_law_choose" sChoose f fd) (G : FnOk P w K mg base CX0 k g gd ["stream", "size"] spDraw) (bG : Binds K gd ["stream", "size"] []) (kG : PySem.W.keepIn K (.ref g) = true)
    (mG : mg "_law_draw" = some (.ref g)) (ml : mg "len" = none) : FnOk P w K mg base CX0 (k + 1) f fd ["stream", "items"] (spChoose K) := by
  refine F.ok scChoose (fun vs H Q E h => ?_) (fun cdv A outer s H vs Q E hr h => ?_)
  · obtain ⟨a, n, _, rfl, _⟩ := h
    rfl
  obtain ⟨st, x, Pv, rfl, hst, hx, q⟩ := h
  refine ⟨_, pss_one (ps_ret (pe_ix ix_seq (pv 1) (pe_call G hr rfl mG kG bG .nil pass0 (pa_cons (pv 0) (pa_cons (pe_callB call_lenAny rfl ml PySem.boot_len (pa_cons (pv 1) pa_nil)) pa_nil))) (fun _ _ => rfl))), ?_⟩
  refine ⟨_, rfl, _, rfl, _, rfl, ?_⟩
  rcases hx with ⟨a, xs, rfl, hs, hne, hl, hp⟩ | ⟨z, rfl, hne, hl, hp⟩
  · have hs' : ∀ H1, Ex (Hd st H) H1 → SqL K H1 a xs ∨ SqT K H1 a xs := fun H1 e => hs.elim (fun h => .inl (ex_l e h)) fun h => .inr (ex_t e h)
    have h1 : 1 ≤ xs.length := by cases xs with
      | nil => exact absurd rfl hne
      | cons _ _ => simp
    refine .inl ⟨a, xs, rfl, hs' _ hd_le, st, _, rfl, hst, by omega, by omega, fun i H1 i0 i1 A1 => ?_⟩
    have hi : i.toNat < xs.length := by omega
    have hat : atI xs i = some xs[i.toNat] := by
      have e : i = ((i.toNat : Nat) : Int) := by omega
      have z : atI xs ((i.toNat : Nat) : Int) = some xs[i.toNat] := atI_nat (List.getElem?_eq_getElem hi)
      rw [← e] at z
      exact z
    have fin := q _ H1 (hp _ (List.getElem_mem hi)) A1
    rcases hs' H1 (Ex.trans A1.gr hd_le) with h | h
    · exact .inl ⟨a, xs, i, _, rfl, rfl, h, hat, fin⟩
    · exact .inr (.inl ⟨a, xs, i, _, rfl, rfl, h, hat, fin⟩)
  · have e0 : z.length = z.cps.toList.length := by simp [Str.length]
    have h1 : 1 ≤ z.cps.toList.length := by
      cases h : z.cps.toList with
      | nil => exact absurd h hne
      | cons _ _ => simp
    refine .inr ⟨z, rfl, sz_of hl, st, _, rfl, hst, by omega, by omega, fun i H1 i0 i1 A1 => ?_⟩
    have hi : i.toNat < z.cps.toList.length := by omega
    have hat : atI z.cps.toList i = some z.cps.toList[i.toNat] := by
      have e : i = ((i.toNat : Nat) : Int) := by omega
      have z : atI z.cps.toList ((i.toNat : Nat) : Int) = some z.cps.toList[i.toNat] := atI_nat (List.getElem?_eq_getElem hi)
      rw [← e] at z
      exact z
    exact .inr (.inr ⟨z, i, _, rfl, rfl, sz_of hl, hat, q _ H1 (hp _ (List.getElem_mem hi)) A1⟩)
end
end Sk

/-! Steps as the program has them. -/
namespace Sk
open PySem PySem.Spec PyProof.Rows L2 Evl
theorem tup_inv {H : Hp} {v : V} {xs : List PyData} (h : Dq H v (.tuple xs)) : ∃ a vs, v = .ref a ∧ H a = some (.tup vs) ∧ DqAll H vs xs := by
  cases h with
  | tup e r => exact ⟨_, _, rfl, e, r⟩
theorem all_cons {H : Hp} {vs : List V} {d : PyData} {ds : List PyData} (h : DqAll H vs (d :: ds)) : ∃ v r, vs = v :: r ∧ Dq H v d ∧ DqAll H r ds := by
  cases h with
  | cons x r => exact ⟨_, _, rfl, x, r⟩
theorem all_nil {H : Hp} {vs : List V} (h : DqAll H vs []) : vs = [] := by cases h; rfl
theorem str_inv {H : Hp} {v : V} {x : Str} (h : Dq H v (.str x)) : v = .str x := by cases h; rfl
/-- a text of signs -/
def tx (cs : List Nat) : Str := ⟨cs.toArray⟩
theorem tx_len (cs : List Nat) : (tx cs).length = cs.length := by simp [tx, Str.length]
theorem tx_inj {a b : List Nat} (h : tx a = tx b) : a = b := by
  have := congrArg (fun z : Str => z.cps.toList) h
  simpa [tx] using this
theorem tx_of (z : Str) : tx z.cps.toList = z := by cases z; simp [tx]
theorem join_tx (cs : List Nat) : Str.join Str.empty (cs.map one) = tx cs := by
  rw [← tx_of (Str.join Str.empty (cs.map one)), join_one]
theorem one_len (c : Nat) : (one c).length = 1 := rfl
theorem one_inj {a b : Nat} (h : one a = one b) : a = b := by
  have := congrArg (fun z : Str => z.cps.toList) h
  simpa [one] using this
def edD : Ed Nat → PyData
  | .keep c => .tuple [.str "keep", .str (one c)]
  | .put c => .tuple [.str "put", .str (one c)]
  | .drop c => .tuple [.str "drop", .str (one c)]
  | .swap a b => .tuple [.str "swap", .str (one a), .str (one b)]
def edV : Ed Nat → List V
  | .keep c => [.str "keep", .str (one c)]
  | .put c => [.str "put", .str (one c)]
  | .drop c => [.str "drop", .str (one c)]
  | .swap a b => [.str "swap", .str (one a), .str (one b)]
theorem ed_inv {H : Hp} {v : V} {e : Ed Nat} (h : Dq H v (edD e)) : ∃ a, v = .ref a ∧ H a = some (.tup (edV e)) := by
  cases e
  case swap x y =>
    obtain ⟨a, vs, rfl, ha, r⟩ := tup_inv h
    obtain ⟨v1, r1, rfl, h1, r⟩ := all_cons r
    obtain ⟨v2, r2, rfl, h2, r⟩ := all_cons r
    obtain ⟨v3, r3, rfl, h3, r⟩ := all_cons r
    cases all_nil r
    cases str_inv h1; cases str_inv h2; cases str_inv h3
    exact ⟨a, rfl, ha⟩
  all_goals
    obtain ⟨a, vs, rfl, ha, r⟩ := tup_inv h
    obtain ⟨v1, r1, rfl, h1, r⟩ := all_cons r
    obtain ⟨v2, r2, rfl, h2, r⟩ := all_cons r
    cases all_nil r
    cases str_inv h1; cases str_inv h2
    exact ⟨a, rfl, ha⟩
theorem ed_of {H : Hp} {a : Addr} {e : Ed Nat} (h : H a = some (.tup (edV e))) : Dq H (.ref a) (edD e) := by
  cases e <;> exact .tup h (by repeat (first | exact .nil | refine .cons (.str _) ?_))
theorem scSign : FnScope ["thing"] ["thing"] (defScope sSign) := ⟨rfl, rfl, rfl, by decide +kernel, rfl, by decide +kernel, by decide +kernel⟩
theorem scStep : FnScope ["thing"] ["thing"] (defScope sStep) := ⟨rfl, rfl, rfl, by decide +kernel, rfl, by decide +kernel, by decide +kernel⟩
theorem scAre : FnScope ["thing", "step"] ["thing"] (defScope sAre) := ⟨rfl, rfl, rfl, by decide +kernel, rfl, by decide +kernel, by decide +kernel⟩
def spSign : Sp := fun vs H Q _ => ∃ c : Nat, vs = [.str (one c)] ∧ Q (.bl true) H
def spStep : Sp := fun vs H Q _ => ∃ (v : V) (e : Ed Nat), vs = [v] ∧ Dq H v (edD e) ∧ Ed.ok e ∧ ∀ H', Ex H H' → Q (.bl true) H'
def spAre : Sp := fun vs H Q _ => ∃ (a : Addr) (ws : List V) (es : List (Ed Nat)), vs = [.ref a] ∧ H a = some (.lst ws) ∧ DqAll H ws (es.map edD) ∧ (∀ e ∈ es, Ed.ok e) ∧ ∀ H', Ex H H' → Q (.bl true) H'
section
variable {P : Program} {w : World} {K : PySem.W.Frag} {mg : Str → Option Value} {base : Heap} {f g : Addr} {fd gd : FuncData}
theorem ok_sign {k : Nat} (F : Fun K "is_sign" "is_sign" sSign f fd) (B : Blt mg) : FnOk P w K mg base CX0 (k + 1) f fd ["thing"] spSign := by
  refine F.ok scSign (fun vs H Q E h => ?_) (fun cdv A outer s H vs Q E hr h => ?_)
  · obtain ⟨_, rfl, _⟩ := h
    rfl
  obtain ⟨c, rfl, q⟩ := h
  have nd := scSign.nd
  refine ⟨_, pss_one (ps_ret (pe_and (pe_callB call_isD rfl B.isi bt_isi (pa_cons (pv 0) (pa_cons (pe_bltn (v := .ty "str") rfl B.str bt_str rfl) pa_nil)))
    (pe_one (pe_cmpR op_eq (pe_callB call_len_str rfl B.len PySem.boot_len (pa_cons (pv 0) pa_nil)) pe_int (nomark _))))), ?_⟩
  refine ⟨_, rfl, _, _, _, _, rfl, .str _, kss, true, rfl, ?_⟩
  refine (if_pos rfl).mpr ?_
  exact ⟨_, rfl, _, rfl, line_le (by rw [one_len]; decide), rfl, q⟩
theorem ok_step (F : Fun K "is_step" "is_step" sStep f fd) (B : Blt mg) (B2 : Blt2 mg) (Sg : Lt P w K mg base g gd "is_sign" ["thing"] 1 spSign) : FnOk P w K mg base CX0 2 f fd ["thing"] spStep := by
  refine F.ok scStep (fun vs H Q E h => ?_) (fun cdv A outer s H vs Q E hr h => ?_)
  · obtain ⟨_, _, rfl, _⟩ := h
    rfl
  obtain ⟨v, e, rfl, hd, oe, q⟩ := h
  have nd := scStep.nd
  have hr1 : Room 1 _ := hr
  refine ⟨_, pss_cons (ps_if (PW.pt (pw_or (pt_not (pt_val (pe_callB call_isD rfl B.isi bt_isi (pa_cons (pv 0) (pa_cons (pe_bltn (v := .ty "tuple") rfl B2.tuple bt_tuple rfl) pa_nil)))))
      (pw_or (pt_cmpR op_lt (pe_callB call_len_seq rfl B.len PySem.boot_len (pa_cons (pv 0) pa_nil)) pe_int (nomark _)) (pw_or1 (pt_not (pt_val (pe_callB call_isD rfl B.isi bt_isi (pa_cons (pe_ix ix_tup (pv 0) pe_int (fun _ _ => rfl)) (pa_cons (pe_bltn (v := .ty "str") rfl B.str bt_str rfl) pa_nil))))))))) (pss_one (ps_ret pe_bl)) pss_nil)
    (pss_cons (ps_if (pt_cmpR op_eq (pe_ix ix_tup (pv 0) pe_int (fun _ _ => rfl)) pe_str (nomark _)) (pss_one (ps_ret (pe_and (pe_cmpR op_eq (pe_callB call_len_seq rfl B.len PySem.boot_len (pa_cons (pv 0) pa_nil)) pe_int (nomark _)) (pe_and (pe_call Sg.g hr1 rfl Sg.m Sg.k Sg.b .nil pass0 (pa_cons (pe_ix ix_tup (pv 0) pe_int (fun _ _ => rfl)) pa_nil)) (pe_and (pe_call Sg.g hr1 rfl Sg.m Sg.k Sg.b .nil pass0 (pa_cons (pe_ix ix_tup (pv 0) pe_int (fun _ _ => rfl)) pa_nil)) (pe_one (pe_cmpR op_ne (pe_ix ix_tup (pv 0) pe_int (fun _ _ => rfl)) (pe_ix ix_tup (pv 0) pe_int (fun _ _ => rfl)) (nomark _)))))))) pss_nil)
    (pss_one (ps_ret (pe_and (pe_cmpR op_in_seq (pe_ix ix_tup (pv 0) pe_int (fun _ _ => rfl)) (pe_tup (pa_cons pe_str (pa_cons pe_str (pa_cons pe_str pa_nil)))) (by with_unfolding_all rfl)) (pe_and (pe_cmpR op_eq (pe_callB call_len_seq rfl B.len PySem.boot_len (pa_cons (pv 0) pa_nil)) pe_int (nomark _)) (pe_one (pe_call Sg.g hr1 rfl Sg.m Sg.k Sg.b .nil pass0 (pa_cons (pe_ix ix_tup (pv 0) pe_int (fun _ _ => rfl)) pa_nil)))))))), ?_⟩
  obtain ⟨a, rfl, ha⟩ := ed_inv hd
  have hT : SqT K H a (edV e) := SqT.of ha
  refine ⟨_, rfl, _, _, _, _, rfl, hd, (by cases e <;> exact ktt : kitB (tyD (edD e)) "tuple" = some true), true, rfl, ?_⟩
  refine iteF ?_
  cases e
  case swap x y =>
    refine ⟨_, rfl, a, _, rfl, .inr hT, _, _, rfl, rfl, _, rfl, iteF ?_⟩
    refine ⟨_, rfl, a, _, _, _, rfl, rfl, hT, atI_nat (j := 0) rfl, _, _, _, _, rfl, .str _, kss, true, rfl, iteF ?_⟩
    refine ⟨_, rfl, a, _, _, _, rfl, rfl, hT, atI_nat (j := 0) rfl, rfl, _, rfl, iteT ?_⟩
    refine ⟨_, rfl, a, _, rfl, .inr hT, rfl, _, rfl, iteT ?_⟩
    refine ⟨_, rfl, a, _, _, _, rfl, rfl, hT, atI_nat (j := 1) rfl, x, rfl, _, rfl, iteT ?_⟩
    refine ⟨_, rfl, a, _, _, _, rfl, rfl, hT, atI_nat (j := 2) rfl, y, rfl, _, rfl, iteT ?_⟩
    refine ⟨_, rfl, a, _, _, _, rfl, rfl, hT, atI_nat (j := 1) rfl, _, rfl, a, _, _, _, rfl, rfl, hT, atI_nat (j := 2) rfl, rfl, ?_⟩
    have n : ¬ (V.str (one x) = V.str (one y)) := fun z => oe (one_inj (by injection z))
    rw [decide_eq_false n]
    exact q H (Ex.refl _)
  all_goals
    refine ⟨_, rfl, a, _, rfl, .inr hT, _, _, rfl, rfl, _, rfl, iteF ?_⟩
    refine ⟨_, rfl, a, _, _, _, rfl, rfl, hT, atI_nat (j := 0) rfl, _, _, _, _, rfl, .str _, kss, true, rfl, iteF ?_⟩
    refine ⟨_, rfl, a, _, _, _, rfl, rfl, hT, atI_nat (j := 0) rfl, rfl, _, rfl, iteF ?_⟩
    refine ⟨_, rfl, a, _, _, _, rfl, rfl, hT, atI_nat (j := 0) rfl, line_le (by show 3 ≤ 16000000; decide), fun p np => ?_⟩
    have x1 := Ex.new (o := HO.tup [.str "keep", .str "put", .str "drop"]) np
    have hT1 : SqT K (upd H p (HO.tup [.str "keep", .str "put", .str "drop"])) a _ := SqT.of (x1 _ _ ha)
    refine ⟨p, _, rfl, .inr (SqT.of upd_same), rfl, rfl, _, rfl, iteT ?_⟩
    refine ⟨_, rfl, a, _, rfl, .inr hT1, rfl, _, rfl, iteT ?_⟩
    exact ⟨_, rfl, a, _, _, _, rfl, rfl, hT1, atI_nat (j := 1) rfl, _, rfl, q _ x1⟩
theorem kit2 {K : PySem.W.Frag} {ty a b : String} {x y : Bool} (h1 : kitB ty a = some x) (h2 : kitB ty b = some y) : PySem.W.kitAny K (.type ty) [.type a, .type b] = some (x || y) := by
  cases x with
  | true => exact kitAny_cons (kit_ty h1) (fun z => nomatch z) fun _ => rfl
  | false =>
    refine kitAny_cons (kit_ty h1) (fun _ => ?_) fun z => nomatch z
    cases y with
    | true => exact kitAny_cons (kit_ty h2) (fun z => nomatch z) fun _ => rfl
    | false => exact kitAny_cons (kit_ty h2) (fun _ => kitAny_nil) fun z => nomatch z
theorem nle' {n : Nat} (h : n ≤ 1000) : n ≤ sizeLine := line_le (Nat.le_trans h (by decide))
theorem ok_are (F : Fun K "are_steps" "are_steps" sAre f fd) (B : Blt mg) (B2 : Blt2 mg) (St : Lt P w K mg base g gd "is_step" ["thing"] 2 spStep) : FnOk P w K mg base CX0 3 f fd ["thing"] spAre := by
  refine F.ok scAre (fun vs H Q E h => ?_) (fun cdv A outer s H vs Q E hr h => ?_)
  · obtain ⟨_, _, _, rfl, _⟩ := h
    rfl
  obtain ⟨a, ws, es, rfl, ha, hd, oe, q⟩ := h
  have nd := scAre.nd
  have hr2 : Room 2 _ := hr
  refine ⟨_, pss_cons (ps_if (pt_not (pt_val (pe_callB call_isiT rfl B.isi bt_isi (pa_cons (pv 0) (pa_cons (pe_tup (pa_cons (pe_bltn (v := .ty "list") rfl B.list bt_list rfl) (pa_cons (pe_bltn (v := .ty "tuple") rfl B2.tuple bt_tuple rfl) pa_nil))) pa_nil))))) (pss_one (ps_ret pe_bl)) pss_nil)
    (pss_one (ps_ret (pe_cmpR (op_eqD hr.units) (pe_lc (own := [("step", 1)]) (g := gName 1) rfl nd (pi_list (pv 0)) (blkOk_by (N := ["thing", "step"]) (sc := defScope sAre) (by decide +kernel)) (fun _ _ _ _ _ => pg_name (i := 1) nd rfl (Or.inl rfl))
      (fun _ _ _ _ _ => pts_one (pt_not (pt_val (pe_call St.g hr2 rfl St.m St.k St.b .nil pass0 (pa_cons (pv 1) pa_nil))))) (fun _ _ _ _ _ => pv 1)) (pe_lst pa_nil) (nomark _)))), ?_⟩
  refine ⟨_, rfl, nle' (by show 2 ≤ 1000; decide), fun T hT => ⟨_, T, _, _, _, true, rfl, upd_same, .cons (.ty _) (.cons (.ty _) .nil), .base (.lst ((Ex.new hT) _ _ ha)), kit2 kll klt, _, rfl, ?_⟩⟩
  have xT := Ex.new (o := HO.tup [.ty "list", .ty "tuple"]) hT
  generalize upd H T (HO.tup [.ty "list", .ty "tuple"]) = H1 at xT ⊢
  refine ⟨_, rfl, a, rfl, ⟨_, SqL.of (xT _ _ ha)⟩, fun D hD => ?_⟩
  refine lc_list (xs := ws) (fun i H' => Ex H1 H' ∧ H' D = some (.lst [])) ⟨Ex.new hD, upd_same⟩ (fun i H' _ p => SqL.of (p.1 _ _ (xT _ _ ha))) (fun i x H' hx p => ?_) (fun H' p => ?_)
  · obtain ⟨p1, p2⟩ := p
    obtain ⟨d, hdd, hq⟩ := hd.get hx
    rw [List.getElem?_map] at hdd
    obtain ⟨e, he, rfl⟩ := Option.map_eq_some_iff.mp hdd
    refine ⟨rfl, _, rfl, _, e, rfl, hq.mono (xT.trans p1), oe e (List.mem_of_getElem? he), fun H2 x2 => ⟨_, rfl, ?_⟩⟩
    exact iteF ⟨p1.trans x2, x2 _ _ p2⟩
  · obtain ⟨p1, p2⟩ := p
    refine ⟨nle' (by show 0 ≤ 1000; decide), fun l hl => ⟨.list [], .list [], .lst (SqL.of ((Ex.new hl) _ _ p2)) .nil, .lst (SqL.of upd_same) .nil, rfl, rfl, ?_⟩⟩
    exact q _ (xT.trans (p1.trans (Ex.new hl)))
end
end Sk

/-! Steps turned round, put together. -/
namespace Sk
open PySem PySem.Spec PyProof.Rows L2 Evl
theorem scTurn : FnScope ["step"] ["step"] (defScope sTurn) := ⟨rfl, rfl, rfl, by decide +kernel, rfl, by decide +kernel, by decide +kernel⟩
theorem scComp : FnScope ["first", "second"] ["first", "second"] (defScope sComp) := ⟨rfl, rfl, rfl, by decide +kernel, rfl, by decide +kernel, by decide +kernel⟩
def spTurn : Sp := fun vs H Q _ => ∃ (v : V) (e : Ed Nat), vs = [v] ∧ Dq H v (edD e) ∧ ∀ u H', Ex H H' → Dq H' u (edD e.turn) → Q u H'
def spComp : Sp := fun vs H Q _ => ∃ (v v' : V) (x y : Ed Nat), vs = [v, v'] ∧ Dq H v (edD x) ∧ Dq H v' (edD y) ∧ x.isDrop = false ∧ y.isPut = false ∧ ∀ p H' ws, Ex H H' → H p = none → H' p = some (.lst ws) → DqAll H' ws ((x.comp y).map edD) → Q (.ref p) H'
section
variable {P : Program} {w : World} {K : PySem.W.Frag} {mg : Str → Option Value} {base : Heap} {f g : Addr} {fd gd : FuncData}
theorem ok_turn {k : Nat} (F : Fun K "turned" "turned" sTurn f fd) : FnOk P w K mg base CX0 (k + 1) f fd ["step"] spTurn := by
  refine F.ok scTurn (fun vs H Q E h => ?_) (fun cdv A outer s H vs Q E hr h => ?_)
  · obtain ⟨_, _, rfl, _⟩ := h
    rfl
  obtain ⟨v, e, rfl, hd, q⟩ := h
  have nd := scTurn.nd
  refine ⟨_, pss_cons (ps_if (pt_cmpR op_eq (pe_ix ix_tup (pv 0) pe_int (fun _ _ => rfl)) pe_str (nomark _)) (pss_one (ps_ret (pe_tup (pa_cons pe_str (pa_cons (pe_ix ix_tup (pv 0) pe_int (fun _ _ => rfl)) pa_nil))))) pss_nil)
    (pss_cons (ps_if (pt_cmpR op_eq (pe_ix ix_tup (pv 0) pe_int (fun _ _ => rfl)) pe_str (nomark _)) (pss_one (ps_ret (pe_tup (pa_cons pe_str (pa_cons (pe_ix ix_tup (pv 0) pe_int (fun _ _ => rfl)) pa_nil))))) pss_nil)
    (pss_one (ps_ret (pe_ifExp (pt_cmpR op_eq (pe_ix ix_tup (pv 0) pe_int (fun _ _ => rfl)) pe_str (nomark _)) (pe_tup (pa_cons pe_str (pa_cons (pe_ix ix_tup (pv 0) pe_int (fun _ _ => rfl)) (pa_cons (pe_ix ix_tup (pv 0) pe_int (fun _ _ => rfl)) pa_nil)))) (pv 0))))), ?_⟩
  obtain ⟨a, rfl, ha⟩ := ed_inv hd
  have hT : SqT K H a (edV e) := SqT.of ha
  cases e with
  | put c =>
    refine ⟨_, rfl, a, _, _, _, rfl, rfl, hT, atI_nat (j := 0) rfl, rfl, _, rfl, iteT ?_⟩
    exact ⟨_, rfl, a, _, _, _, rfl, rfl, hT, atI_nat (j := 1) rfl, nle' (by show 2 ≤ 1000; decide), fun p np => q _ _ (Ex.new np) (ed_of (e := .drop c) upd_same)⟩
  | drop c =>
    refine ⟨_, rfl, a, _, _, _, rfl, rfl, hT, atI_nat (j := 0) rfl, rfl, _, rfl, iteF ?_⟩
    refine ⟨_, rfl, a, _, _, _, rfl, rfl, hT, atI_nat (j := 0) rfl, rfl, _, rfl, iteT ?_⟩
    exact ⟨_, rfl, a, _, _, _, rfl, rfl, hT, atI_nat (j := 1) rfl, nle' (by show 2 ≤ 1000; decide), fun p np => q _ _ (Ex.new np) (ed_of (e := .put c) upd_same)⟩
  | keep c =>
    refine ⟨_, rfl, a, _, _, _, rfl, rfl, hT, atI_nat (j := 0) rfl, rfl, _, rfl, iteF ?_⟩
    refine ⟨_, rfl, a, _, _, _, rfl, rfl, hT, atI_nat (j := 0) rfl, rfl, _, rfl, iteF ?_⟩
    refine ⟨_, rfl, a, _, _, _, rfl, rfl, hT, atI_nat (j := 0) rfl, rfl, _, rfl, iteF ?_⟩
    exact ⟨_, rfl, q _ _ (Ex.refl _) hd⟩
  | swap x y =>
    refine ⟨_, rfl, a, _, _, _, rfl, rfl, hT, atI_nat (j := 0) rfl, rfl, _, rfl, iteF ?_⟩
    refine ⟨_, rfl, a, _, _, _, rfl, rfl, hT, atI_nat (j := 0) rfl, rfl, _, rfl, iteF ?_⟩
    refine ⟨_, rfl, a, _, _, _, rfl, rfl, hT, atI_nat (j := 0) rfl, rfl, _, rfl, iteT ?_⟩
    exact ⟨_, rfl, a, _, _, _, rfl, rfl, hT, atI_nat (j := 2) rfl, _, rfl, a, _, _, _, rfl, rfl, hT, atI_nat (j := 1) rfl, nle' (by show 3 ≤ 1000; decide), fun p np => q _ _ (Ex.new np) (ed_of (e := .swap y x) upd_same)⟩
theorem ok_comp {k : Nat} (F : Fun K "composed" "composed" sComp f fd) : FnOk P w K mg base CX0 (k + 1) f fd ["first", "second"] spComp := by
  refine F.ok scComp (fun vs H Q E h => ?_) (fun cdv A outer s H vs Q E hr h => ?_)
  · obtain ⟨_, _, _, _, rfl, _⟩ := h
    rfl
  obtain ⟨v, v', x, y, rfl, hx, hy, dx, py, q⟩ := h
  have nd := scComp.nd
  refine ⟨_, pss_cons (ps_if (pt_cmpR op_eq (pe_ix ix_tup (pv 0) pe_int (fun _ _ => rfl)) pe_str (nomark _)) (pss_one (ps_ret (pe_lst (pa_cons (pv 1) pa_nil)))) pss_nil)
    (pss_cons (ps_if (pt_cmpR op_eq (pe_ix ix_tup (pv 1) pe_int (fun _ _ => rfl)) pe_str (nomark _)) (pss_one (ps_ret (pe_lst (pa_cons (pv 0) pa_nil)))) pss_nil)
    (pss_cons (ps_if (pt_cmpR op_eq (pe_ix ix_tup (pv 0) pe_int (fun _ _ => rfl)) pe_str (nomark _)) (pss_one (ps_ret (pe_ifExp (pt_cmpR op_eq (pe_ix ix_tup (pv 1) pe_int (fun _ _ => rfl)) pe_str (nomark _)) (pe_lst pa_nil)
        (pe_lst (pa_cons (pe_tup (pa_cons pe_str (pa_cons (pe_ix ix_tup (pv 1) pe_int (fun _ _ => rfl)) pa_nil))) pa_nil))))) pss_nil)
    (pss_cons (ps_if (pt_cmpR op_eq (pe_ix ix_tup (pv 1) pe_int (fun _ _ => rfl)) pe_str (nomark _)) (pss_one (ps_ret (pe_lst (pa_cons (pe_tup (pa_cons pe_str (pa_cons (pe_ix ix_tup (pv 0) pe_int (fun _ _ => rfl)) pa_nil))) pa_nil)))) pss_nil)
    (pss_one (ps_ret (pe_ifExp (pt_cmpR op_eq (pe_ix ix_tup (pv 0) pe_int (fun _ _ => rfl)) (pe_ix ix_tup (pv 1) pe_int (fun _ _ => rfl)) (nomark _)) (pe_lst (pa_cons (pe_tup (pa_cons pe_str (pa_cons (pe_ix ix_tup (pv 0) pe_int (fun _ _ => rfl)) pa_nil))) pa_nil))
        (pe_lst (pa_cons (pe_tup (pa_cons pe_str (pa_cons (pe_ix ix_tup (pv 0) pe_int (fun _ _ => rfl)) (pa_cons (pe_ix ix_tup (pv 1) pe_int (fun _ _ => rfl)) pa_nil)))) pa_nil)))))))), ?_⟩
  obtain ⟨a, rfl, ha⟩ := ed_inv hx
  obtain ⟨b, rfl, hb⟩ := ed_inv hy
  have hT : SqT K H a (edV x) := SqT.of ha
  have hU : SqT K H b (edV y) := SqT.of hb
  have one_ : ∀ (e : Ed Nat), x.comp y = [e] → ∀ p r, H p = none → upd H p (.tup (edV e)) r = none → Q (.ref r) (upd (upd H p (.tup (edV e))) r (.lst [.ref p])) := fun e he p r np nr => by
    have xp := Ex.new (o := HO.tup (edV e)) np
    have xr := Ex.new (o := HO.lst [V.ref p]) nr
    refine q r _ [.ref p] (xp.trans xr) (upd_none nr) upd_same ?_
    rw [he]
    exact .cons (ed_of (xr _ _ upd_same)) .nil
  have old : ∀ (c : Addr) (e : Ed Nat), x.comp y = [e] → Dq H (.ref c) (edD e) → ∀ r, H r = none → Q (.ref r) (upd H r (.lst [.ref c])) := fun c e he hc r nr => by
    have xr := Ex.new (o := HO.lst [V.ref c]) nr
    refine q r _ [.ref c] xr nr upd_same ?_
    rw [he]
    exact .cons (hc.mono xr) .nil
  cases x with
  | drop c => cases dx
  | keep c =>
    refine ⟨_, rfl, a, _, _, _, rfl, rfl, hT, atI_nat (j := 0) rfl, rfl, _, rfl, iteT ?_⟩
    exact ⟨_, rfl, nle' (by show 1 ≤ 1000; decide), fun r nr => old b y rfl hy r nr⟩
  | put c =>
    refine ⟨_, rfl, a, _, _, _, rfl, rfl, hT, atI_nat (j := 0) rfl, rfl, _, rfl, iteF ?_⟩
    cases y with
    | put d => cases py
    | keep d =>
      refine ⟨_, rfl, b, _, _, _, rfl, rfl, hU, atI_nat (j := 0) rfl, rfl, _, rfl, iteT ?_⟩
      exact ⟨_, rfl, nle' (by show 1 ≤ 1000; decide), fun r nr => old a _ rfl hx r nr⟩
    | drop d =>
      refine ⟨_, rfl, b, _, _, _, rfl, rfl, hU, atI_nat (j := 0) rfl, rfl, _, rfl, iteF ?_⟩
      refine ⟨_, rfl, a, _, _, _, rfl, rfl, hT, atI_nat (j := 0) rfl, rfl, _, rfl, iteT ?_⟩
      refine ⟨_, rfl, b, _, _, _, rfl, rfl, hU, atI_nat (j := 0) rfl, rfl, _, rfl, iteT ?_⟩
      exact ⟨nle' (by show 0 ≤ 1000; decide), fun r nr => q r _ [] (Ex.new nr) nr upd_same .nil⟩
    | swap d e =>
      refine ⟨_, rfl, b, _, _, _, rfl, rfl, hU, atI_nat (j := 0) rfl, rfl, _, rfl, iteF ?_⟩
      refine ⟨_, rfl, a, _, _, _, rfl, rfl, hT, atI_nat (j := 0) rfl, rfl, _, rfl, iteT ?_⟩
      refine ⟨_, rfl, b, _, _, _, rfl, rfl, hU, atI_nat (j := 0) rfl, rfl, _, rfl, iteF ?_⟩
      refine ⟨_, rfl, b, _, _, _, rfl, rfl, hU, atI_nat (j := 2) rfl, nle' (by show 2 ≤ 1000; decide), fun p np => ⟨nle' (by show 1 ≤ 1000; decide), fun r nr => one_ (.put e) rfl p r np nr⟩⟩
  | swap c d =>
    refine ⟨_, rfl, a, _, _, _, rfl, rfl, hT, atI_nat (j := 0) rfl, rfl, _, rfl, iteF ?_⟩
    cases y with
    | put d => cases py
    | keep d =>
      refine ⟨_, rfl, b, _, _, _, rfl, rfl, hU, atI_nat (j := 0) rfl, rfl, _, rfl, iteT ?_⟩
      exact ⟨_, rfl, nle' (by show 1 ≤ 1000; decide), fun r nr => old a _ rfl hx r nr⟩
    | drop d' =>
      refine ⟨_, rfl, b, _, _, _, rfl, rfl, hU, atI_nat (j := 0) rfl, rfl, _, rfl, iteF ?_⟩
      refine ⟨_, rfl, a, _, _, _, rfl, rfl, hT, atI_nat (j := 0) rfl, rfl, _, rfl, iteF ?_⟩
      refine ⟨_, rfl, b, _, _, _, rfl, rfl, hU, atI_nat (j := 0) rfl, rfl, _, rfl, iteT ?_⟩
      refine ⟨_, rfl, a, _, _, _, rfl, rfl, hT, atI_nat (j := 1) rfl, nle' (by show 2 ≤ 1000; decide), fun p np => ⟨nle' (by show 1 ≤ 1000; decide), fun r nr => one_ (.drop c) rfl p r np nr⟩⟩
    | swap d' e =>
      refine ⟨_, rfl, b, _, _, _, rfl, rfl, hU, atI_nat (j := 0) rfl, rfl, _, rfl, iteF ?_⟩
      refine ⟨_, rfl, a, _, _, _, rfl, rfl, hT, atI_nat (j := 0) rfl, rfl, _, rfl, iteF ?_⟩
      refine ⟨_, rfl, b, _, _, _, rfl, rfl, hU, atI_nat (j := 0) rfl, rfl, _, rfl, iteF ?_⟩
      refine ⟨_, rfl, a, _, _, _, rfl, rfl, hT, atI_nat (j := 1) rfl, _, rfl, b, _, _, _, rfl, rfl, hU, atI_nat (j := 2) rfl, rfl, _, rfl, ?_⟩
      by_cases z : c = e
      · subst z
        rw [decide_eq_true rfl]
        exact iteT ⟨_, rfl, a, _, _, _, rfl, rfl, hT, atI_nat (j := 1) rfl, nle' (by show 2 ≤ 1000; decide), fun p np => ⟨nle' (by show 1 ≤ 1000; decide), fun r nr => one_ (.keep c) (cs_eq _ _ _) p r np nr⟩⟩
      · rw [decide_eq_false fun q => z (one_inj (by injection q))]
        exact iteF ⟨_, rfl, a, _, _, _, rfl, rfl, hT, atI_nat (j := 1) rfl, _, rfl, b, _, _, _, rfl, rfl, hU, atI_nat (j := 2) rfl, nle' (by show 3 ≤ 1000; decide), fun p np => ⟨nle' (by show 1 ≤ 1000; decide), fun r nr => one_ (.swap c e) (cs_ne z _ _) p r np nr⟩⟩
end
end Sk

/-! Two rows of steps, one behind the other. -/
namespace Sk
open PySem PySem.Spec PyProof.Rows L2 Evl
theorem hd_upd_ {D : Addr} {H : Hp} {o : HO} : Hd D (upd H D o) = Hd D H := by
  funext a
  unfold Hd
  split
  · rfl
  · rename_i n
    rw [upd_ne n]
theorem DqAll.getI {H : Hp} : ∀ {xs ds}, DqAll H xs ds → ∀ {i : Nat} {d : PyData}, ds[i]? = some d → ∃ v, xs[i]? = some v ∧ Dq H v d
  | _, _, .nil, _, _, e => by simp at e
  | _, _, .cons x r, 0, _, e => by simp at e; subst e; exact ⟨_, rfl, x⟩
  | _, _, .cons x r, i + 1, _, e => by
    obtain ⟨v, h1, h2⟩ := r.getI (i := i) (by simpa using e)
    exact ⟨v, by simpa using h1, h2⟩
theorem DqAll.app {H : Hp} : ∀ {xs ds}, DqAll H xs ds → ∀ {ys es}, DqAll H ys es → DqAll H (xs ++ ys) (ds ++ es)
  | _, _, .nil, _, _, y => y
  | _, _, .cons x r, _, _, y => .cons x (r.app y)
def tag : Ed Nat → Str
  | .keep _ => "keep"
  | .put _ => "put"
  | .drop _ => "drop"
  | .swap _ _ => "swap"
theorem tag_drop (e : Ed Nat) : decide (V.str (tag e) = V.str "drop") = e.isDrop := by cases e <;> rfl
theorem tag_put (e : Ed Nat) : decide (V.str (tag e) = V.str "put") = e.isPut := by cases e <;> rfl
theorem edV_tag (e : Ed Nat) : ∃ r, edV e = .str (tag e) :: r := by cases e <;> exact ⟨_, rfl⟩
theorem hd_eds {L : Addr} {H : Hp} {l : List V} (hL : H L = some (.lst l)) : ∀ {cs : List V} {es : List (Ed Nat)}, DqAll H cs (es.map edD) → DqAll (Hd L H) cs (es.map edD)
  | _, [], h => by cases h; exact .nil
  | _, e :: es, h => by
    obtain ⟨v, r, rfl, h1, h2⟩ := all_cons h
    obtain ⟨a, rfl, ha⟩ := ed_inv h1
    exact .cons (ed_of (hd_of (fun z => by subst z; rw [hL] at ha; cases ha) ha)) (hd_eds hL h2)
theorem drop_cons {α : Type} {f : List α} {i : Nat} {x : α} {r : List α} (h : f.drop i = x :: r) : i < f.length ∧ f[i]? = some x ∧ f.drop (i + 1) = r := by
  have l : i < f.length := by
    rcases Nat.lt_or_ge i f.length with z | z
    · exact z
    · rw [List.drop_of_length_le z] at h; cases h
  rw [List.drop_eq_getElem_cons l] at h
  injection h with h1 h2
  exact ⟨l, by rw [List.getElem?_eq_getElem l, h1], h2⟩
abbrev NSum : List Str := ["firsts", "seconds", "found", "at", "place"]
theorem scSumd : FnScope NSum ["firsts", "seconds"] (defScope sSumd) := ⟨rfl, rfl, rfl, by decide +kernel, rfl, by decide +kernel, by decide +kernel⟩
def spSumd : Sp := fun vs H Q _ => ∃ (a b : Addr) (us ws : List V) (f s : List (Ed Nat)), vs = [.ref a, .ref b] ∧ H a = some (.tup us) ∧ DqAll H us (f.map edD) ∧ H b = some (.tup ws) ∧ DqAll H ws (s.map edD) ∧ Mtd f s ∧ f.length + s.length ≤ 100000 ∧
  ∀ p H' xs, Ex H H' → H p = none → H' p = some (.lst xs) → DqAll H' xs ((sumE f s).map edD) → Q (.ref p) H'
section
variable {P : Program} {w : World} {K : PySem.W.Frag} {mg : Str → Option Value} {base : Heap} {f g : Addr} {fd gd : FuncData}
theorem ok_sumd (F : Fun K "summed" "summed" sSumd f fd) (B : Blt mg) (Cm : Lt P w K mg base g gd "composed" ["first", "second"] 1 spComp) : FnOk P w K mg base CX0 2 f fd ["firsts", "seconds"] spSumd := by
  refine F.ok scSumd (fun vs H Q E h => ?_) (fun cdv A outer s H vs Q E hr h => ?_)
  · obtain ⟨_, _, _, _, _, _, rfl, _⟩ := h
    rfl
  obtain ⟨a, b, us, ws, ff, ss, rfl, ha, hf, hb, hs, mt, lm, q⟩ := h
  have nd := scSumd.nd
  have hr1 : Room 1 _ := hr
  refine ⟨_, pss_cons (ps_set (i := 2) nd rfl (Or.inl rfl) (pe_lst pa_nil)) (pss_cons (ps_set (i := 3) nd rfl (Or.inl rfl) pe_int) (pss_cons (ps_set (i := 4) nd rfl (Or.inl rfl) pe_int)
    (pss_cons (ps_while PassesOwn.never (PW.pt (pw_or (pt_cmpR op_lt (pv 3) (pe_callB call_len_seq rfl B.len PySem.boot_len (pa_cons (pv 0) pa_nil)) (nomark _)) (pw_or1 (pt_cmpR op_lt (pv 4) (pe_callB call_len_seq rfl B.len PySem.boot_len (pa_cons (pv 1) pa_nil)) (nomark _)))))
      (pss_one (ps_if (PW.pt (pw_and (pt_cmpR op_lt (pv 3) (pe_callB call_len_seq rfl B.len PySem.boot_len (pa_cons (pv 0) pa_nil)) (nomark _)) (pw_and1 (pt_cmpR op_eq (pe_ix ix_tup (pe_ix ix_tup (pv 0) (pv 3) (fun _ _ => rfl)) pe_int (fun _ _ => rfl)) pe_str (nomark _)))))
        (pss_cons (ps_expr (pe_bm PySem.F.plainAttrs_list PySem.F.slot_list_append PySem.F.type_list_append mt_append (pv 2) (pa_cons (pe_ix ix_tup (pv 0) (pv 3) (fun _ _ => rfl)) pa_nil))) (pss_one (ps_set (i := 3) nd rfl (Or.inl rfl) (pe_op op_add (pv 3) pe_int))))
        (pss_one (ps_if (PW.pt (pw_and (pt_cmpR op_lt (pv 4) (pe_callB call_len_seq rfl B.len PySem.boot_len (pa_cons (pv 1) pa_nil)) (nomark _)) (pw_and1 (pt_cmpR op_eq (pe_ix ix_tup (pe_ix ix_tup (pv 1) (pv 4) (fun _ _ => rfl)) pe_int (fun _ _ => rfl)) pe_str (nomark _)))))
          (pss_cons (ps_expr (pe_bm PySem.F.plainAttrs_list PySem.F.slot_list_append PySem.F.type_list_append mt_append (pv 2) (pa_cons (pe_ix ix_tup (pv 1) (pv 4) (fun _ _ => rfl)) pa_nil))) (pss_one (ps_set (i := 4) nd rfl (Or.inl rfl) (pe_op op_add (pv 4) pe_int))))
          (pss_cons (ps_expr (pe_bm PySem.F.plainAttrs_list PySem.F.slot_list_extend PySem.F.type_list_extend mt_extend (pv 2) (pa_cons (pe_call Cm.g hr1 rfl Cm.m Cm.k Cm.b .nil pass0 (pa_cons (pe_ix ix_tup (pv 0) (pv 3) (fun _ _ => rfl)) (pa_cons (pe_ix ix_tup (pv 1) (pv 4) (fun _ _ => rfl)) pa_nil))) pa_nil)))
          (pss_cons (ps_set (i := 3) nd rfl (Or.inl rfl) (pe_op op_add (pv 3) pe_int)) (pss_one (ps_set (i := 4) nd rfl (Or.inl rfl) (pe_op op_add (pv 4) pe_int))))))))))
    (pss_one (ps_ret (pv 2)))))), ?_⟩
  have lu : us.length = ff.length := by rw [hf.length, List.length_map]
  have lw : ws.length = ss.length := by rw [hs.length, List.length_map]
  refine ⟨nle' (by show 0 ≤ 1000; decide), fun L hL => ?_⟩
  refine ⟨fun m σ H' => ∃ (i j : Nat) (acc : List V) (done : List (Ed Nat)), m = (ff.length - i) + (ss.length - j) ∧ i ≤ ff.length ∧ j ≤ ss.length ∧ σ = [some (.ref a), some (.ref b), some (.ref L), some (.int i), some (.int j)] ∧ Ex H (Hd L H') ∧ H' L = some (.lst acc) ∧
      DqAll (Hd L H') acc (done.map edD) ∧ done ++ sumE (ff.drop i) (ss.drop j) = sumE ff ss ∧ Mtd (ff.drop i) (ss.drop j) ∧ acc.length ≤ i + j, ⟨_, 0, 0, [], [], rfl, Nat.zero_le _, Nat.zero_le _, rfl, fun c o e => hd_of (ne_of_none e hL) (by rw [upd_ne (ne_of_none e hL)]; exact e), upd_same, .nil, rfl, mt, Nat.le_refl _⟩, ?_⟩
  rintro m σ H' ⟨i, j, acc, done, rfl, li, lj, rfl, x0, hL', hacc, hsum, mm, la⟩
  have xx : Ex H H' := x0.trans hd_le
  have hT : SqT K H' a us := SqT.of (xx _ _ ha)
  have hU : SqT K H' b ws := SqT.of (xx _ _ hb)
  have el : ∀ {x : Ed Nat} {r : List (Ed Nat)}, ff.drop i = x :: r → ∃ v p, us[i]? = some v ∧ v = .ref p ∧ Dq H v (edD x) ∧ SqT K H' p (edV x) := fun {x r} h => by
    obtain ⟨v, h1, h2⟩ := hf.getI (i := i) (d := edD x) (by rw [List.getElem?_map, (drop_cons h).2.1]; rfl)
    obtain ⟨p, rfl, h3⟩ := ed_inv h2
    exact ⟨_, p, h1, rfl, h2, SqT.of (xx _ _ h3)⟩
  have er : ∀ {x : Ed Nat} {r : List (Ed Nat)}, ss.drop j = x :: r → ∃ v p, ws[j]? = some v ∧ v = .ref p ∧ Dq H v (edD x) ∧ SqT K H' p (edV x) := fun {x r} h => by
    obtain ⟨v, h1, h2⟩ := hs.getI (i := j) (d := edD x) (by rw [List.getElem?_map, (drop_cons h).2.1]; rfl)
    obtain ⟨p, rfl, h3⟩ := ed_inv h2
    exact ⟨_, p, h1, rfl, h2, SqT.of (xx _ _ h3)⟩
  have lti : i < ff.length → decide ((i : Int) < ((us.length : Nat) : Int)) = true := fun z => decide_eq_true (by omega)
  have ltj : j < ss.length → decide ((j : Int) < ((ws.length : Nat) : Int)) = true := fun z => decide_eq_true (by omega)
  have gei : ff.drop i = [] → decide ((i : Int) < ((us.length : Nat) : Int)) = false := fun z => decide_eq_false (by have := congrArg List.length z; simp at this; omega)
  have gej : ss.drop j = [] → decide ((j : Int) < ((ws.length : Nat) : Int)) = false := fun z => decide_eq_false (by have := congrArg List.length z; simp at this; omega)
  have lsz : acc.length < sizeLine := by rw [sizeLine_eq]; omega
  generalize hF : ff.drop i = FF at mm hsum el gei
  generalize hS : ss.drop j = SS' at mm hsum er gej
  cases mm with
  | nil =>
    refine ⟨_, rfl, _, rfl, a, _, rfl, .inr hT, _, _, rfl, rfl, _, rfl, ?_⟩
    rw [gei rfl]
    refine iteF ⟨_, rfl, _, rfl, b, _, rfl, .inr hU, _, _, rfl, rfl, _, rfl, ?_⟩
    rw [gej rfl]
    refine iteF ⟨_, rfl, q L H' acc xx hL hL' ?_⟩
    rw [← hsum, sumE_nil, List.append_nil]
    exact hacc.mono hd_le
  | @drop c F' _ mm =>
    obtain ⟨v, p, h1, rfl, hd, hp⟩ := el rfl
    obtain ⟨l1, l2, l3⟩ := drop_cons hF
    refine ⟨_, rfl, _, rfl, a, _, rfl, .inr hT, _, _, rfl, rfl, _, rfl, ?_⟩
    rw [lti l1]
    refine iteT ⟨_, fun σ' H'' z => z, ?_⟩
    refine ⟨_, rfl, _, rfl, a, _, rfl, .inr hT, _, _, rfl, rfl, _, rfl, ?_⟩
    rw [lti l1]
    refine iteT ⟨_, rfl, _, rfl, a, _, _, _, rfl, rfl, hT, atI_nat h1, p, _, _, _, rfl, rfl, hp, atI_nat (j := 0) rfl, rfl, _, rfl, iteT ?_⟩
    refine ⟨_, rfl, .inl ⟨rfl, _, SqL.of hL'⟩, _, rfl, _, rfl, a, _, _, _, rfl, rfl, hT, atI_nat h1, L, _, _, rfl, rfl, hL', lsz, ?_⟩
    refine ⟨_, rfl, _, _, rfl, rfl, ?_⟩
    refine ⟨(ff.length - (i + 1)) + (ss.length - j), by omega, i + 1, j, acc ++ [.ref p], done ++ [.drop c], rfl, l1, lj, rfl, by rw [hd_upd_]; exact x0, upd_same, ?_, ?_, ?_, by simp; omega⟩
    · rw [hd_upd_, List.map_append]
      exact hacc.snoc (hd.mono x0)
    · rw [l3, hS, ← hsum, sumE_drop]
      simp
    · rw [l3, hS]; exact mm
  | @put c _ S' hh mm =>
    obtain ⟨v, p, h1, rfl, hd, hp⟩ := er rfl
    obtain ⟨l1, l2, l3⟩ := drop_cons hS
    have nxt : ∀ {N : L2.St → Hp → Prop}, (∀ σ' H'', (∃ m', m' < (ff.length - i) + (ss.length - j) ∧ ∃ (i j : Nat) (acc : List V) (done : List (Ed Nat)), m' = (ff.length - i) + (ss.length - j) ∧ i ≤ ff.length ∧ j ≤ ss.length ∧ σ' = [some (.ref a), some (.ref b), some (.ref L), some (.int i), some (.int j)] ∧ Ex H (Hd L H'') ∧ H'' L = some (.lst acc) ∧
        DqAll (Hd L H'') acc (done.map edD) ∧ done ++ sumE (ff.drop i) (ss.drop j) = sumE ff ss ∧ Mtd (ff.drop i) (ss.drop j) ∧ acc.length ≤ i + j) → N σ' H'') → N [some (.ref a), some (.ref b), some (.ref L), some (.int i), some (.int ((j + 1 : Nat) : Int))] (upd H' L (.lst (acc ++ [.ref p]))) := fun {N} k => by
      refine k _ _ ⟨(ff.length - i) + (ss.length - (j + 1)), by omega, i, j + 1, acc ++ [.ref p], done ++ [.put c], rfl, li, l1, rfl, by rw [hd_upd_]; exact x0, upd_same, ?_, ?_, ?_, by simp; omega⟩
      · rw [hd_upd_, List.map_append]
        exact hacc.snoc (hd.mono x0)
      · rw [l3, hF, ← hsum, Mtd.sum_put c hh]
        simp
      · rw [l3, hF]; exact mm
    cases FF with
    | nil =>
      refine ⟨_, rfl, _, rfl, a, _, rfl, .inr hT, _, _, rfl, rfl, _, rfl, ?_⟩
      rw [gei rfl]
      refine iteF ⟨_, rfl, _, rfl, b, _, rfl, .inr hU, _, _, rfl, rfl, _, rfl, ?_⟩
      rw [ltj l1]
      refine iteT ⟨_, fun σ' H'' z => z, ?_⟩
      refine ⟨_, rfl, _, rfl, a, _, rfl, .inr hT, _, _, rfl, rfl, _, rfl, ?_⟩
      rw [gei rfl]
      refine iteF ?_
      refine ⟨_, rfl, _, rfl, b, _, rfl, .inr hU, _, _, rfl, rfl, _, rfl, ?_⟩
      rw [ltj l1]
      refine iteT ⟨_, rfl, _, rfl, b, _, _, _, rfl, rfl, hU, atI_nat h1, p, _, _, _, rfl, rfl, hp, atI_nat (j := 0) rfl, rfl, _, rfl, iteT ?_⟩
      refine ⟨_, rfl, .inl ⟨rfl, _, SqL.of hL'⟩, _, rfl, _, rfl, b, _, _, _, rfl, rfl, hU, atI_nat h1, L, _, _, rfl, rfl, hL', lsz, ?_⟩
      refine ⟨_, rfl, _, _, rfl, rfl, ?_⟩
      exact nxt fun _ _ z => z
    | cons x FF =>
      have dx := hh x (by simp)
      obtain ⟨v', p', h1', rfl, hd', hp'⟩ := el rfl
      obtain ⟨l1', l2', l3'⟩ := drop_cons hF
      obtain ⟨r, er'⟩ := edV_tag x
      rw [er'] at hp'
      refine ⟨_, rfl, _, rfl, a, _, rfl, .inr hT, _, _, rfl, rfl, _, rfl, ?_⟩
      rw [lti l1']
      refine iteT ⟨_, fun σ' H'' z => z, ?_⟩
      refine ⟨_, rfl, _, rfl, a, _, rfl, .inr hT, _, _, rfl, rfl, _, rfl, ?_⟩
      rw [lti l1']
      refine iteT ⟨_, rfl, _, rfl, a, _, _, _, rfl, rfl, hT, atI_nat h1', p', _, _, _, rfl, rfl, hp', atI_nat (j := 0) rfl, rfl, _, rfl, ?_⟩
      rw [tag_drop, dx]
      refine iteF ?_
      refine ⟨_, rfl, _, rfl, b, _, rfl, .inr hU, _, _, rfl, rfl, _, rfl, ?_⟩
      rw [ltj l1]
      refine iteT ⟨_, rfl, _, rfl, b, _, _, _, rfl, rfl, hU, atI_nat h1, p, _, _, _, rfl, rfl, hp, atI_nat (j := 0) rfl, rfl, _, rfl, iteT ?_⟩
      refine ⟨_, rfl, .inl ⟨rfl, _, SqL.of hL'⟩, _, rfl, _, rfl, b, _, _, _, rfl, rfl, hU, atI_nat h1, L, _, _, rfl, rfl, hL', lsz, ?_⟩
      refine ⟨_, rfl, _, _, rfl, rfl, ?_⟩
      exact nxt fun _ _ z => z
  | @both x y F' S' hx hy e mm =>
    obtain ⟨v, p, h1, rfl, hd, hp⟩ := el rfl
    obtain ⟨l1, l2, l3⟩ := drop_cons hF
    obtain ⟨v', p', h1', rfl, hd', hp'⟩ := er rfl
    obtain ⟨l1', l2', l3'⟩ := drop_cons hS
    obtain ⟨r, eg⟩ := edV_tag x
    rw [eg] at hp
    obtain ⟨r', eg'⟩ := edV_tag y
    rw [eg'] at hp'
    refine ⟨_, rfl, _, rfl, a, _, rfl, .inr hT, _, _, rfl, rfl, _, rfl, ?_⟩
    rw [lti l1]
    refine iteT ⟨_, fun σ' H'' z => z, ?_⟩
    refine ⟨_, rfl, _, rfl, a, _, rfl, .inr hT, _, _, rfl, rfl, _, rfl, ?_⟩
    rw [lti l1]
    refine iteT ⟨_, rfl, _, rfl, a, _, _, _, rfl, rfl, hT, atI_nat h1, p, _, _, _, rfl, rfl, hp, atI_nat (j := 0) rfl, rfl, _, rfl, ?_⟩
    rw [tag_drop, hx]
    refine iteF ?_
    refine ⟨_, rfl, _, rfl, b, _, rfl, .inr hU, _, _, rfl, rfl, _, rfl, ?_⟩
    rw [ltj l1']
    refine iteT ⟨_, rfl, _, rfl, b, _, _, _, rfl, rfl, hU, atI_nat h1', p', _, _, _, rfl, rfl, hp', atI_nat (j := 0) rfl, rfl, _, rfl, ?_⟩
    rw [tag_put, hy]
    refine iteF ?_
    refine ⟨_, rfl, .inl ⟨rfl, _, SqL.of hL'⟩, _, rfl, _, rfl, a, _, _, _, rfl, rfl, hT, atI_nat h1, _, rfl, _, rfl, b, _, _, _, rfl, rfl, hU, atI_nat h1', _, _, x, y, rfl, hd.mono xx, hd'.mono xx, hx, hy, fun c H2 cs x2 nc hc hcs => ?_⟩
    have nLc : L ≠ c := fun z => by subst z; rw [hL'] at nc; cases nc
    have nst : ∀ d o, Hd L H' d = some o → Hd L H2 d = some o := fun d o e => hd_of (hd_some e).1 (x2 _ _ (hd_some e).2)
    have lc : cs.length ≤ 1 := by
      have := hcs.length
      rw [List.length_map] at this
      rw [this]
      cases x <;> cases y <;> simp only [Ed.comp] <;> (try split) <;> simp
    refine ⟨L, c, _, _, rfl, rfl, x2 _ _ hL', hc, by rw [sizeLine_eq]; omega, ?_⟩
    refine ⟨_, rfl, _, _, rfl, rfl, _, rfl, _, _, rfl, rfl, ?_⟩
    refine ⟨(ff.length - (i + 1)) + (ss.length - (j + 1)), by omega, i + 1, j + 1, acc ++ cs, done ++ x.comp y, rfl, l1, l1', rfl, by rw [hd_upd_]; exact x0.trans nst, upd_same, ?_, ?_, ?_, by simp; omega⟩
    · rw [hd_upd_, List.map_append]
      exact (hacc.mono nst).app (hd_eds (x2 _ _ hL') hcs)
    · rw [l3, l3', ← hsum, sumE_comp hx hy]
      simp
    · rw [l3, l3']; exact mm
end
end Sk

/-! The class: how a script is made. -/
namespace Sk
open PySem PySem.Spec PyProof.Rows L2 Evl
theorem sg_ : ¬ (("steps" : Str) = "given") := by decide +kernel
theorem sm_ : ¬ (("steps" : Str) = "made") := by decide +kernel
theorem gm_ : ¬ (("given" : Str) = "made") := by decide +kernel
/-- the fields -/
def sf (t : Addr) (g m : Str) : List (Str × V) := putF "made" (.str m) (putF "given" (.str g) (putF "steps" (.ref t) []))
theorem sf_steps (t : Addr) (g m : Str) : (sf t g m).lookup ("steps" : Str) = some (.ref t) := by
  unfold sf
  rw [lookup_putF, if_neg sm_, lookup_putF, if_neg sg_, lookup_putF, if_pos rfl]
theorem sf_given (t : Addr) (g m : Str) : (sf t g m).lookup ("given" : Str) = some (.str g) := by
  unfold sf
  rw [lookup_putF, if_neg gm_, lookup_putF, if_pos rfl]
theorem sf_made (t : Addr) (g m : Str) : (sf t g m).lookup ("made" : Str) = some (.str m) := by
  unfold sf
  rw [lookup_putF, if_pos rfl]
/-- a script of these steps -/
def ScAt (C : Addr) (H : Hp) (p : Addr) (es : List (Ed Nat)) : Prop := ∃ dx t us, H p = some (.ins C dx (sf t (tx (givenE es)) (tx (madeE es)))) ∧ H t = some (.tup us) ∧ DqAll H us (es.map edD)
theorem ScAt.mono {C : Addr} {H H' : Hp} {p : Addr} {es : List (Ed Nat)} (x : Ex H H') (h : ScAt C H p es) : ScAt C H' p es := by
  obtain ⟨dx, t, us, h1, h2, h3⟩ := h
  exact ⟨dx, t, us, x _ _ h1, x _ _ h2, h3.mono x⟩
structure ScT (K : PySem.W.Frag) (mg : Str → Option Value) (C : Addr) : Prop where
  cl : Cls K C
  nS : NoAttr K C "steps"
  nG : NoAttr K C "given"
  nM : NoAttr K C "made"
  mC : mg "Script" = some (.ref C)
theorem at1 {e : Ed Nat} (h : e.isPut = false) : ∃ c, e.inn = [c] ∧ atI (edV e) (1 : Int) = some (.str (one c)) := by
  cases e <;> first | (cases h; done) | exact ⟨_, rfl, atI_nat (j := 1) rfl⟩
theorem atL {e : Ed Nat} (h : e.isDrop = false) : ∃ c, e.out = [c] ∧ atI (edV e) (-1 : Int) = some (.str (one c)) := by
  cases e with
  | drop c => cases h
  | keep c => exact ⟨c, rfl, atI_last [V.str "keep"] (V.str (one c))⟩
  | put c => exact ⟨c, rfl, atI_last [V.str "put"] (V.str (one c))⟩
  | swap a b => exact ⟨b, rfl, atI_last [V.str "swap", V.str (one a)] (V.str (one b))⟩
theorem inn_put {e : Ed Nat} (h : e.isPut = true) : e.inn = [] := by cases e <;> first | (cases h; done) | rfl
theorem out_drop {e : Ed Nat} (h : e.isDrop = true) : e.out = [] := by cases e <;> first | (cases h; done) | rfl
theorem given_snoc {es : List (Ed Nat)} {i : Nat} {e : Ed Nat} (h : es[i]? = some e) : givenE (es.take (i + 1)) = givenE (es.take i) ++ e.inn := by
  rw [take_snoc h, given_app]; simp [givenE]
theorem made_snoc {es : List (Ed Nat)} {i : Nat} {e : Ed Nat} (h : es[i]? = some e) : madeE (es.take (i + 1)) = madeE (es.take i) ++ e.out := by
  rw [take_snoc h, made_app]; simp [madeE]
theorem given_len (es : List (Ed Nat)) : (givenE es).length ≤ es.length := by
  induction es with
  | nil => simp [givenE]
  | cons e es ih => rw [given_cons, List.length_append, List.length_cons]; have : e.inn.length ≤ 1 := by cases e <;> simp [Ed.inn]
                    omega
theorem made_len (es : List (Ed Nat)) : (madeE es).length ≤ es.length := by
  induction es with
  | nil => simp [madeE]
  | cons e es ih => rw [made_cons, List.length_append, List.length_cons]; have : e.out.length ≤ 1 := by cases e <;> simp [Ed.out]
                    omega
abbrev NIni : List Str := ["self", "steps", "step"]
theorem scIni : FnScope NIni ["self", "steps"] (defScope sInit) := ⟨rfl, rfl, rfl, by decide +kernel, rfl, by decide +kernel, by decide +kernel⟩
def spIni (C : Addr) : Sp := fun vs H Q _ => ∃ (p l dx : Addr) (ws : List V) (es : List (Ed Nat)), vs = [.ref p, .ref l] ∧ H p = some (.ins C dx []) ∧ H l = some (.lst ws) ∧ DqAll (Hd p H) ws (es.map edD) ∧ (∀ e ∈ es, Ed.ok e) ∧ es.length ≤ 100000 ∧
  ∀ H', Ex (Hd p H) H' → ScAt C H' p es → Q .non H'
section
variable {P : Program} {w : World} {K : PySem.W.Frag} {mg : Str → Option Value} {base : Heap} {f g : Addr} {fd gd : FuncData} {C : Addr}
theorem ok_ini (F : Fun K "__init__" "Script.__init__" sInit f fd) (B : Blt mg) (B2 : Blt2 mg) (T : ScT K mg C) (Ar : Lt P w K mg base g gd "are_steps" ["thing"] 3 spAre) : FnOk P w K mg base CX0 4 f fd ["self", "steps"] (spIni C) := by
  refine F.ok scIni (fun vs H Q E h => ?_) (fun cdv A outer s H vs Q E hr h => ?_)
  · obtain ⟨_, _, _, _, _, rfl, _⟩ := h
    rfl
  obtain ⟨p, l, dx, ws, es, rfl, hp, hl, hd, oe, le, q⟩ := h
  have nd := scIni.nd
  have hr3 : Room 3 _ := hr
  refine ⟨_, pss_cons (ps_if (pt_not (pt_val (pe_call Ar.g hr3 rfl Ar.m Ar.k Ar.b .nil pass0 (pa_cons (pv 1) pa_nil)))) (pss_one ps_never) pss_nil)
    (pss_cons (ps_fld (pv 0) (pe_callTy call_tuple_of rfl B2.tuple bt_tuple (pa_cons (pv 1) pa_nil)) rfl)
    (pss_cons (ps_fld (pv 0) (pe_join pe_str (pe_lc (own := [("step", 2)]) (g := gName 2) (tt := tTest (tOp rNe (tOp (rIxT K) (tVar 2) (tC (.int 0))) (tC (.str "put")))) (te := tOp (rIxT K) (tVar 2) (tC (.int 1))) rfl nd (pi_tup (pe_fld (pv 0) rfl)) (blkOk_by (N := NIni) (sc := defScope sInit) (by decide +kernel)) (fun _ _ _ _ _ => pg_name (i := 2) nd rfl (Or.inl rfl))
        (fun _ _ _ _ _ => pts_one (pt_cmpR op_ne (pe_ix ix_tup (pv 2) pe_int (fun _ _ => rfl)) pe_str (nomark _))) (fun _ _ _ _ _ => pe_ix ix_tup (pv 2) pe_int (fun _ _ => rfl)))) rfl)
    (pss_one (ps_fld (pv 0) (pe_join pe_str (pe_lc (own := [("step", 2)]) (g := gName 2) (tt := tTest (tOp rNe (tOp (rIxT K) (tVar 2) (tC (.int 0))) (tC (.str "drop")))) (te := tOp (rIxT K) (tVar 2) (tUn (rU fun i => .int (-i)) (tC (.int 1)))) rfl nd (pi_tup (pe_fld (pv 0) rfl)) (blkOk_by (N := NIni) (sc := defScope sInit) (by decide +kernel)) (fun _ _ _ _ _ => pg_name (i := 2) nd rfl (Or.inl rfl))
        (fun _ _ _ _ _ => pts_one (pt_cmpR op_ne (pe_ix ix_tup (pv 2) pe_int (fun _ _ => rfl)) pe_str (nomark _))) (fun _ _ _ _ _ => pe_ix ix_tup (pv 2) (pe_un un_neg pe_int) (fun _ _ => rfl)))) rfl)))), ?_⟩
  refine ⟨_, rfl, l, ws, es, rfl, hl, hd.mono hd_le, oe, fun H1 x1 => ⟨_, rfl, ?_⟩⟩
  refine iteF ?_
  have hp1 := x1 _ _ hp
  have hl1 := x1 _ _ hl
  have pl : l ≠ p := fun z => by subst z; rw [hl] at hp; cases hp
  refine ⟨_, rfl, l, ws, rfl, .inl ⟨SqL.of hl1, fun t nt => ⟨_, rfl, p, C, dx, [], rfl, (by rw [upd_ne (ne_of_none hp1 nt)]; exact hp1), T.cl, T.nS, (by show 0 < 1000; decide), ?_⟩⟩⟩
  have ntp : t ≠ p := fun z => by subst z; rw [hp1] at nt; cases nt
  have x2 : Ex (Hd p H) (Hd p (upd (upd H1 t (.tup ws)) p (.ins C dx (putF "steps" (.ref t) [])))) := fun b o e => by
    obtain ⟨n, e'⟩ := hd_some e
    have e1 := x1 _ _ e'
    exact hd_of n (by rw [upd_ne n, upd_ne (ne_of_none e1 nt)]; exact e1)
  have ht2 : Hd p (upd (upd H1 t (.tup ws)) p (.ins C dx (putF "steps" (.ref t) []))) t = some (.tup ws) := hd_of ntp (by rw [upd_ne ntp, upd_same])
  have hp2 : upd (upd H1 t (.tup ws)) p (.ins C dx (putF "steps" (.ref t) [])) p = some (.ins C dx (putF "steps" (.ref t) [])) := upd_same
  generalize upd (upd H1 t (.tup ws)) p (.ins C dx (putF "steps" (.ref t) [])) = H2 at x2 ht2 hp2 ⊢
  have lk : (putF "steps" (V.ref t) []).lookup ("steps" : Str) = some (.ref t) := by rw [lookup_putF, if_pos rfl]
  -- what it reads
  refine ⟨⟨_, rfl⟩, _, rfl, p, C, dx, _, _, rfl, hp2, T.cl, T.nS, lk, t, rfl, ⟨_, SqT.of (hd_le _ _ ht2)⟩, fun D hD => ?_⟩
  refine lc_tup (xs := ws) (fun i H' => Ex H2 H' ∧ H' D = some (.lst ((givenE (es.take i)).map fun c => V.str (one c)))) ⟨Ex.new hD, upd_same⟩ (fun i H' _ z => SqT.of (z.1 _ _ (hd_le _ _ ht2))) (fun i x H' hx z => ?_) (fun H3 z => ?_)
  · obtain ⟨z1, z2⟩ := z
    obtain ⟨d, hdd, hq⟩ := hd.get hx
    rw [List.getElem?_map] at hdd
    obtain ⟨e, he, rfl⟩ := Option.map_eq_some_iff.mp hdd
    obtain ⟨a, rfl, ha⟩ := ed_inv (hq.mono (x2.trans (hd_le.trans z1)))
    obtain ⟨r, er⟩ := edV_tag e
    refine ⟨rfl, _, rfl, a, _, _, _, rfl, rfl, SqT.of ha, (by rw [er]; exact atI_nat (j := 0) rfl), rfl, _, rfl, ?_⟩
    rw [tag_put]
    cases hpe : e.isPut with
    | true => exact iteF ⟨z1, by rw [given_snoc he, inn_put hpe, List.append_nil]; exact z2⟩
    | false =>
      obtain ⟨c, ec, hc⟩ := at1 hpe
      refine iteT ⟨_, rfl, a, _, _, _, rfl, rfl, SqT.of ha, hc, _, z2, ?_, z1.mut hD, ?_⟩
      · rw [sizeLine_eq, List.length_map]
        have := given_len (es.take i)
        rw [List.length_take] at this
        omega
      · rw [upd_same, given_snoc he, ec, List.map_append]; rfl
  obtain ⟨x3, hD3⟩ := z
  have lw : ws.length = es.length := by rw [hd.length, List.length_map]
  rw [lw, List.take_length] at hD3
  have jn : ∀ cs : List Nat, Txt.join (Str.ofString "") (cs.map one) = tx cs := fun cs => (TL.join_eq _ _).trans (join_tx cs)
  have bn : ∀ cs : List Nat, cs.length ≤ 100000 → ((cs.map one).map (·.length)).sum + (cs.map one).length * (Str.ofString "").length ≤ 16777216 := fun cs h => by
    have e0 : (Str.ofString "").length = 0 := rfl
    rw [sum_one, e0]; omega
  have gl := given_len es
  have ml := made_len es
  refine ⟨_, D, (givenE es).map one, rfl, rfl, .inl (SqL.of (by rw [hD3, List.map_map]; rfl)), bn _ (by omega), ?_⟩
  rw [jn]
  refine ⟨_, rfl, p, C, dx, _, rfl, x3 _ _ hp2, T.cl, T.nG, (by show 1 < 1000; decide), ?_⟩
  have x4 : Ex (Hd p H2) (Hd p (upd H3 p (.ins C dx (putF "given" (.str (tx (givenE es))) (putF "steps" (.ref t) []))))) := fun b o e => by
    obtain ⟨n, e'⟩ := hd_some e
    exact hd_of n (by rw [upd_ne n]; exact x3 _ _ e')
  have hp4 : upd H3 p (.ins C dx (putF "given" (.str (tx (givenE es))) (putF "steps" (.ref t) []))) p = some (.ins C dx (putF "given" (.str (tx (givenE es))) (putF "steps" (.ref t) []))) := upd_same
  generalize upd H3 p (.ins C dx (putF "given" (.str (tx (givenE es))) (putF "steps" (.ref t) []))) = H4 at x4 hp4 ⊢
  have ht4 := x4 _ _ ht2
  have lk2 : (putF "given" (.str (tx (givenE es))) (putF "steps" (V.ref t) [])).lookup ("steps" : Str) = some (.ref t) := by rw [lookup_putF, if_neg sg_, lookup_putF, if_pos rfl]
  -- what it writes
  refine ⟨⟨_, rfl⟩, _, rfl, p, C, dx, _, _, rfl, hp4, T.cl, T.nS, lk2, t, rfl, ⟨_, SqT.of (hd_le _ _ ht4)⟩, fun D' hD' => ?_⟩
  refine lc_tup (xs := ws) (fun i H' => Ex H4 H' ∧ H' D' = some (.lst ((madeE (es.take i)).map fun c => V.str (one c)))) ⟨Ex.new hD', upd_same⟩ (fun i H' _ z => SqT.of (z.1 _ _ (hd_le _ _ ht4))) (fun i x H' hx z => ?_) (fun H5 z => ?_)
  · obtain ⟨z1, z2⟩ := z
    obtain ⟨d, hdd, hq⟩ := hd.get hx
    rw [List.getElem?_map] at hdd
    obtain ⟨e, he, rfl⟩ := Option.map_eq_some_iff.mp hdd
    obtain ⟨a, rfl, ha⟩ := ed_inv (hq.mono ((x2.trans x4).trans (hd_le.trans z1)))
    obtain ⟨r, er⟩ := edV_tag e
    refine ⟨rfl, _, rfl, a, _, _, _, rfl, rfl, SqT.of ha, (by rw [er]; exact atI_nat (j := 0) rfl), rfl, _, rfl, ?_⟩
    rw [tag_drop]
    cases hpe : e.isDrop with
    | true => exact iteF ⟨z1, by rw [made_snoc he, out_drop hpe, List.append_nil]; exact z2⟩
    | false =>
      obtain ⟨c, ec, hc⟩ := atL hpe
      refine iteT ⟨_, rfl, _, rfl, a, _, _, _, rfl, rfl, SqT.of ha, hc, _, z2, ?_, z1.mut hD', ?_⟩
      · rw [sizeLine_eq, List.length_map]
        have := made_len (es.take i)
        rw [List.length_take] at this
        omega
      · rw [upd_same, made_snoc he, ec, List.map_append]; rfl
  obtain ⟨x5, hD5⟩ := z
  rw [lw, List.take_length] at hD5
  refine ⟨_, D', (madeE es).map one, rfl, rfl, .inl (SqL.of (by rw [hD5, List.map_map]; rfl)), bn _ (by omega), ?_⟩
  rw [jn]
  refine ⟨_, rfl, p, C, dx, _, rfl, x5 _ _ hp4, T.cl, T.nM, ?_, ?_⟩
  · show (putF "given" (.str (tx (givenE es))) (putF "steps" (V.ref t) [])).length < 1000
    show (if ("steps" : Str) = "given" then _ else _ : List (Str × V)).length < 1000
    rw [if_neg sg_]
    show 2 < 1000
    decide
  have x6 : Ex (Hd p H4) (upd H5 p (.ins C dx (sf t (tx (givenE es)) (tx (madeE es))))) := fun b o e => by
    obtain ⟨n, e'⟩ := hd_some e
    rw [upd_ne n]; exact x5 _ _ e'
  have xA : Ex (Hd p H) (upd H5 p (.ins C dx (sf t (tx (givenE es)) (tx (madeE es))))) := (x2.trans x4).trans x6
  exact q _ xA ⟨dx, t, ws, upd_same, x6 _ _ ht4, hd.mono xA⟩
end
end Sk

/-! The class: called, measured, turned, added, compared. -/
namespace Sk
open PySem PySem.Spec PyProof.Rows L2 Evl
section
variable {X : Cx} {CX : CXT} {k i : Nat} {C f : Addr} {fd : FuncData} {ps : List Str} {sp : Sp} {dvs : List V} {ds : List Value} {E : XK} {x : Str} {p pos : Pos} {e : Expr} {es : List Expr} {t : TA}
/-- cls(..): a local name that holds the class -/
def tMakeL (i : Nat) (C : Addr) (sp : Sp) (dvs : List V) (E : XK) (t : TA) : TE := fun σ H Q => σ[i]? = some (some (.ref C)) ∧ tMake C sp dvs E t σ H Q
theorem pe_makeL (M : Mk X.K C f) (F : FnOk X.prog X.w X.K X.mg X.base CX k f fd ps sp) (hr : Room (k + 1) X.A) (hN : X.N[i]? = some x) (hv : Vis X.env.scope x) (hb : Binds X.K fd ps ds) (hd : Vals dvs ds) (hx : Passes CX X E) (ha : PA X (e :: es) t)
    (hdb : (x == ("__debug__" : Str)) = false := by decide) (hcd : (x == ("__classdict__" : Str)) = false := by decide)
    (he : starEach (e :: es) X.env = (false, eval e X.env) :: starEach es X.env := by rfl) (hpl : (backTo pos (starEach es X.env)).any (·.1) = false := by rfl) : PE X (.Call (.Name x p) (e :: es) [] pos) (tMakeL i C sp dvs E t) := by
  refine ⟨fun pins s σ H Q I h => ?_⟩
  obtain ⟨hs, ht⟩ := h
  refine wpAny_Call_Name_kw (thn ((pe_var (pos := p) hN hv hdb hcd).run pins s σ H (fun v H1 => v = .ref C ∧ H1 = H) I ⟨.ref C, hs, rfl, rfl⟩) fun u s1 ⟨v, H1, I1, r1, q1⟩ => ?_)
  obtain ⟨rfl, rfl⟩ := q1
  cases r1
  refine PySem.W.callWith_K (h₀ := X.base) I.ok.mod.kin M.kp (thn (ha.run pos pins s1 σ _ _ I1 ht) fun us s2 ⟨vs, H2, I2, r, q⟩ => ⟨I2.kIn, ?_⟩) he hpl
  exact run_make M F hr hb hd hx I2 r q
end
/-- a new script -/
theorem mk_sc {C l : Addr} {H1 : Hp} {ws : List V} {es : List (Ed Nat)} {Q : VK} {E : XK} (hl : H1 l = some (.lst ws)) (hd : DqAll H1 ws (es.map edD)) (oe : ∀ e ∈ es, Ed.ok e) (le : es.length ≤ 100000)
    (q : ∀ x H2, Ex H1 H2 → H1 x = none → ScAt C H2 x es → Q (.ref x) H2) : ∀ x dx, H1 x = none → H1 dx = none → dx ≠ x → spIni C (.ref x :: ([.ref l] ++ [])) (upd (upd H1 dx (.own x)) x (.ins C dx [])) (fun v H2 => v = .non ∧ Q (.ref x) H2) E := by
  intro x dx nx ndx ne
  have e1 : Ex H1 (upd (upd H1 dx (.own x)) x (.ins C dx [])) := fun b o e => by
    rw [upd_ne (ne_of_none e nx), upd_ne (ne_of_none e ndx)]; exact e
  have e2 : Ex H1 (Hd x (upd (upd H1 dx (.own x)) x (.ins C dx []))) := fun b o e => hd_of (ne_of_none e nx) (e1 _ _ e)
  exact ⟨x, l, dx, ws, es, rfl, upd_same, e1 _ _ hl, hd.mono e2, oe, le, fun H' x' sc => ⟨rfl, q x H' (e2.trans x') nx sc⟩⟩
def notKeep : Ed Nat → Bool
  | .keep _ => false
  | _ => true
theorem tag_keep (e : Ed Nat) : decide (V.str (tag e) = V.str "keep") = !notKeep e := by cases e <;> rfl
def cntE (es : List (Ed Nat)) : Nat := (es.filter notKeep).length
abbrev NInv : List Str := ["self", "step"]
theorem scCall : FnScope ["self", "text"] ["self", "text"] (defScope sCall) := ⟨rfl, rfl, rfl, by decide +kernel, rfl, by decide +kernel, by decide +kernel⟩
theorem scLen : FnScope NInv ["self"] (defScope sLen) := ⟨rfl, rfl, rfl, by decide +kernel, rfl, by decide +kernel, by decide +kernel⟩
theorem scInv : FnScope NInv ["self"] (defScope sInv) := ⟨rfl, rfl, rfl, by decide +kernel, rfl, by decide +kernel, by decide +kernel⟩
theorem scAdd : FnScope ["self", "other"] ["self", "other"] (defScope sAdd) := ⟨rfl, rfl, rfl, by decide +kernel, rfl, by decide +kernel, by decide +kernel⟩
theorem scEq : FnScope ["self", "other"] ["self", "other"] (defScope sEq) := ⟨rfl, rfl, rfl, by decide +kernel, rfl, by decide +kernel, by decide +kernel⟩
def spCal (C : Addr) : Sp := fun vs H Q _ => ∃ (p : Addr) (es : List (Ed Nat)), vs = [.ref p, .str (tx (givenE es))] ∧ ScAt C H p es ∧ Q (.str (tx (madeE es))) H
def spLen (C : Addr) : Sp := fun vs H Q _ => ∃ (p : Addr) (es : List (Ed Nat)), vs = [.ref p] ∧ ScAt C H p es ∧ es.length ≤ 100000 ∧ ∀ H', Ex H H' → Q (.int (cntE es)) H'
def spInv (C : Addr) : Sp := fun vs H Q _ => ∃ (p : Addr) (es : List (Ed Nat)), vs = [.ref p] ∧ ScAt C H p es ∧ (∀ e ∈ es, Ed.ok e) ∧ es.length ≤ 100000 ∧ ∀ x H', Ex H H' → H x = none → ScAt C H' x (es.map Ed.turn) → Q (.ref x) H'
def spAdd (C : Addr) : Sp := fun vs H Q _ => ∃ (p r : Addr) (es fs : List (Ed Nat)), vs = [.ref p, .ref r] ∧ ScAt C H p es ∧ ScAt C H r fs ∧ Mtd es fs ∧ (∀ e ∈ es, Ed.ok e) ∧ (∀ e ∈ fs, Ed.ok e) ∧ es.length + fs.length ≤ 100000 ∧ ∀ x H', Ex H H' → H x = none → ScAt C H' x (sumE es fs) → Q (.ref x) H'
def spEqT (C : Addr) : Sp := fun vs H Q _ => ∃ (p r : Addr) (es : List (Ed Nat)), vs = [.ref p, .ref r] ∧ ScAt C H p es ∧ ScAt C H r es ∧ ∀ H', Ex H H' → Q (.bl true) H'
structure ScM (K : PySem.W.Frag) (mg : Str → Option Value) (C : Addr) : Prop where
  T : ScT K mg C
  hCl : PySem.W.findIn K (.ref C) "__class__" = some (some (.builtin "object.__class__"))
  hGt : PySem.W.specialIn K (.builtin "object.__class__") "__get__" = some (some (.builtin "getset_descriptor.__get__"))
  hTk : PySem.W.takesIn K (.builtin "object.__class__") = some true
  hOb : PySem.W.mroIn K C (.type "object") = some true
  kit : PySem.W.kitOne K (.ref C) (.ref C) = some true
section
variable {P : Program} {w : World} {K : PySem.W.Frag} {mg : Str → Option Value} {base : Heap} {f g fi : Addr} {fd gd fid : FuncData} {C : Addr}
theorem ok_cal {k : Nat} (F : Fun K "__call__" "Script.__call__" sCall f fd) (B : Blt mg) (T : ScT K mg C) : FnOk P w K mg base CX0 (k + 1) f fd ["self", "text"] (spCal C) := by
  refine F.ok scCall (fun vs H Q E h => ?_) (fun cdv A outer s H vs Q E hr h => ?_)
  · obtain ⟨_, _, rfl, _⟩ := h
    rfl
  obtain ⟨p, es, rfl, ⟨dx, t, us, h1, h2, h3⟩, q⟩ := h
  have nd := scCall.nd
  refine ⟨_, pss_cons (ps_if (PW.pt (pw_or (pt_not (pt_val (pe_callB call_isD rfl B.isi bt_isi (pa_cons (pv 1) (pa_cons (pe_bltn (v := .ty "str") rfl B.str bt_str rfl) pa_nil))))) (pw_or1 (pt_cmpR op_ne (pv 1) (pe_fld (pv 0) rfl) (nomark _))))) (pss_one ps_never) pss_nil)
    (pss_one (ps_ret (pe_fld (pv 0) rfl))), ?_⟩
  refine ⟨_, rfl, _, _, _, _, rfl, .str _, kss, true, rfl, ?_⟩
  refine iteF ⟨_, rfl, _, rfl, p, C, dx, _, _, rfl, h1, T.cl, T.nG, sf_given _ _ _, rfl, _, rfl, iteNS rfl ?_⟩
  exact ⟨_, rfl, p, C, dx, _, _, rfl, h1, T.cl, T.nM, sf_made _ _ _, q⟩
theorem ok_len {k : Nat} (F : Fun K "__len__" "Script.__len__" sLen f fd) (B : Blt mg) (T : ScT K mg C) : FnOk P w K mg base CX0 (k + 1) f fd ["self"] (spLen C) := by
  refine F.ok scLen (fun vs H Q E h => ?_) (fun cdv A outer s H vs Q E hr h => ?_)
  · obtain ⟨_, _, rfl, _⟩ := h
    rfl
  obtain ⟨p, es, rfl, ⟨dx, t, us, h1, h2, h3⟩, le, q⟩ := h
  have nd := scLen.nd
  refine ⟨_, pss_one (ps_ret (pe_callB call_len_seq rfl B.len PySem.boot_len (pa_cons (pe_lc (own := [("step", 1)]) (g := gName 1) (tt := tTest (tOp rNe (tOp (rIxT K) (tVar 1) (tC (.int 0))) (tC (.str "keep")))) (te := tVar 1) rfl nd (pi_tup (pe_fld (pv 0) rfl)) (blkOk_by (N := NInv) (sc := defScope sLen) (by decide +kernel)) (fun _ _ _ _ _ => pg_name (i := 1) nd rfl (Or.inl rfl))
      (fun _ _ _ _ _ => pts_one (pt_cmpR op_ne (pe_ix ix_tup (pv 1) pe_int (fun _ _ => rfl)) pe_str (nomark _))) (fun _ _ _ _ _ => pv 1)) pa_nil))), ?_⟩
  refine ⟨_, rfl, p, C, dx, _, _, rfl, h1, T.cl, T.nS, sf_steps _ _ _, t, rfl, ⟨_, SqT.of h2⟩, fun D hD => ?_⟩
  refine lc_tup (xs := us) (fun i H' => Ex H H' ∧ ∃ acc, H' D = some (.lst acc) ∧ acc.length = cntE (es.take i)) ⟨Ex.new hD, [], upd_same, rfl⟩ (fun i H' _ z => SqT.of (z.1 _ _ h2)) (fun i x H' hx z => ?_) (fun H3 z => ?_)
  · obtain ⟨z1, acc, z2, z3⟩ := z
    obtain ⟨d, hdd, hq⟩ := h3.get hx
    rw [List.getElem?_map] at hdd
    obtain ⟨e, he, rfl⟩ := Option.map_eq_some_iff.mp hdd
    obtain ⟨a, rfl, ha⟩ := ed_inv (hq.mono z1)
    obtain ⟨r, er⟩ := edV_tag e
    have cs : cntE (es.take (i + 1)) = cntE (es.take i) + (if notKeep e then 1 else 0) := by
      rw [take_snoc he]; unfold cntE
      rw [List.filter_append, List.length_append]
      cases hk : notKeep e <;> simp [List.filter_cons, hk]
    refine ⟨rfl, _, rfl, a, _, _, _, rfl, rfl, SqT.of ha, (by rw [er]; exact atI_nat (j := 0) rfl), rfl, _, rfl, ?_⟩
    rw [tag_keep]
    cases hk : notKeep e with
    | false => exact iteF ⟨z1, acc, z2, by rw [cs, hk]; exact z3⟩
    | true =>
      refine iteT ⟨_, rfl, acc, z2, ?_, z1.mut hD, acc ++ [.ref a], upd_same, by rw [cs, hk, List.length_append, z3]; rfl⟩
      rw [z3, sizeLine_eq]
      have : cntE (es.take i) ≤ es.length := Nat.le_trans (List.length_filter_le _ _) (by rw [List.length_take]; omega)
      omega
  obtain ⟨z1, acc, z2, z3⟩ := z
  have lu : us.length = es.length := by rw [h3.length, List.length_map]
  rw [lu, List.take_length] at z3
  refine ⟨D, acc, rfl, .inl (SqL.of z2), ?_⟩
  rw [z3]
  exact q _ z1
theorem ok_inv (F : Fun K "__invert__" "Script.__invert__" sInv f fd) (T : ScT K mg C) (M : Mk K C fi) (Gi : FnOk P w K mg base CX0 4 fi fid ["self", "steps"] (spIni C)) (bi : Binds K fid ["self", "steps"] []) (Tu : Lt P w K mg base g gd "turned" ["step"] 1 spTurn) : FnOk P w K mg base CX0 6 f fd ["self"] (spInv C) := by
  refine F.ok scInv (fun vs H Q E h => ?_) (fun cdv A outer s H vs Q E hr h => ?_)
  · obtain ⟨_, _, rfl, _⟩ := h
    rfl
  obtain ⟨p, es, rfl, ⟨dx, t, us, h1, h2, h3⟩, oe, le, q⟩ := h
  have nd := scInv.nd
  have hr1 : Room 1 _ := hr.mono (by decide)
  refine ⟨_, pss_one (ps_ret (pe_make M Gi hr rfl T.mC bi .nil pass0 (pa_cons (pe_lc (own := [("step", 1)]) (g := gName 1) (tt := tYes) (te := tCall spTurn [] E0 (tCons (tVar 1) tNil)) rfl nd (pi_tup (pe_fld (pv 0) rfl)) (blkOk_by (N := NInv) (sc := defScope sInv) (by decide +kernel)) (fun _ _ _ _ _ => pg_name (i := 1) nd rfl (Or.inl rfl))
      (fun _ _ _ _ _ => pts_nil) (fun _ _ _ _ _ => pe_call Tu.g hr1 rfl Tu.m Tu.k Tu.b .nil pass0 (pa_cons (pv 1) pa_nil))) pa_nil))), ?_⟩
  refine ⟨_, rfl, p, C, dx, _, _, rfl, h1, T.cl, T.nS, sf_steps _ _ _, t, rfl, ⟨_, SqT.of h2⟩, fun D hD => ?_⟩
  refine lc_tup (xs := us) (fun i H' => Ex H H' ∧ ∃ acc, H' D = some (.lst acc) ∧ acc.length = i ∧ DqAll (Hd D H') acc (((es.map Ed.turn).take i).map edD)) ⟨Ex.new hD, [], upd_same, rfl, .nil⟩ (fun i H' _ z => SqT.of (z.1 _ _ h2)) (fun i x H' hx z => ?_) (fun H3 z => ?_)
  · obtain ⟨z1, acc, z2, z3, z4⟩ := z
    obtain ⟨d, hdd, hq⟩ := h3.get hx
    rw [List.getElem?_map] at hdd
    obtain ⟨e, he, rfl⟩ := Option.map_eq_some_iff.mp hdd
    have jl := (List.getElem?_eq_some_iff.mp he).1
    refine ⟨rfl, tyes ⟨_, rfl, _, e, rfl, hq.mono z1, fun u H2 x2 du => ?_⟩⟩
    have z2' := x2 _ _ z2
    refine ⟨acc, z2', by rw [sizeLine_eq]; omega, (z1.trans x2).mut hD, acc ++ [u], upd_same, by simp [z3], ?_⟩
    rw [hd_upd_, take_snoc (show (es.map Ed.turn)[i]? = some e.turn by rw [List.getElem?_map, he]; rfl), List.map_append]
    refine (z4.mono fun b o e => hd_of (hd_some e).1 (x2 _ _ (hd_some e).2)).snoc ?_
    obtain ⟨a, rfl, ha⟩ := ed_inv du
    exact ed_of (hd_of (fun z => by subst z; rw [z2'] at ha; cases ha) ha)
  obtain ⟨z1, acc, z2, z3, z4⟩ := z
  have lu : us.length = es.length := by rw [h3.length, List.length_map]
  rw [List.take_of_length_le (by rw [List.length_map, lu]; exact Nat.le_refl _)] at z4
  refine mk_sc z2 (z4.mono hd_le) (fun e m => ?_) (by rw [List.length_map]; exact le) fun x H2 x2 nx sc => q x H2 (z1.trans x2) (by
    cases h : H x with
    | none => rfl
    | some o => rw [z1 _ _ h] at nx; cases nx) sc
  obtain ⟨e', m', rfl⟩ := List.mem_map.mp m
  exact turn_ok (oe e' m')
theorem ok_add (F : Fun K "__add__" "Script.__add__" sAdd f fd) (T : ScT K mg C) (M : Mk K C fi) (Gi : FnOk P w K mg base CX0 4 fi fid ["self", "steps"] (spIni C)) (bi : Binds K fid ["self", "steps"] []) (Sm : Lt P w K mg base g gd "summed" ["firsts", "seconds"] 2 spSumd) : FnOk P w K mg base CX0 6 f fd ["self", "other"] (spAdd C) := by
  refine F.ok scAdd (fun vs H Q E h => ?_) (fun cdv A outer s H vs Q E hr h => ?_)
  · obtain ⟨_, _, _, _, rfl, _⟩ := h
    rfl
  obtain ⟨p, r, es, fs, rfl, ⟨dx, t, us, h1, h2, h3⟩, ⟨dy, t', us', h1', h2', h3'⟩, mt, oe, of, le, q⟩ := h
  have nd := scAdd.nd
  have hr2 : Room 2 _ := hr.mono (by decide)
  refine ⟨_, pss_cons (ps_if (pt_cmpR op_ne (pe_fld (pv 1) rfl) (pe_fld (pv 0) rfl) (nomark _)) (pss_one ps_never) pss_nil)
    (pss_one (ps_ret (pe_make M Gi hr rfl T.mC bi .nil pass0 (pa_cons (pe_call Sm.g hr2 rfl Sm.m Sm.k Sm.b .nil pass0 (pa_cons (pe_fld (pv 0) rfl) (pa_cons (pe_fld (pv 1) rfl) pa_nil))) pa_nil)))), ?_⟩
  refine ⟨_, rfl, r, C, dy, _, _, rfl, h1', T.cl, T.nG, sf_given _ _ _, _, rfl, p, C, dx, _, _, rfl, h1, T.cl, T.nM, sf_made _ _ _, rfl, _, rfl, iteNS (by rw [mt.mt]) ?_⟩
  refine ⟨_, rfl, p, C, dx, _, _, rfl, h1, T.cl, T.nS, sf_steps _ _ _, _, rfl, r, C, dy, _, _, rfl, h1', T.cl, T.nS, sf_steps _ _ _, t, t', us, us', es, fs, rfl, h2, h3, h2', h3', mt, le, fun l H1 xs x1 nl hl hxs => ?_⟩
  refine mk_sc hl hxs (sum_ok mt oe of) (Nat.le_trans (sum_len mt) le) fun x H2 x2 nx sc => q x H2 (x1.trans x2) (by
    cases h : H x with
    | none => rfl
    | some o => rw [x1 _ _ h] at nx; cases nx) sc
theorem edV_str (e : Ed Nat) : ∀ x ∈ edV e, ∃ z, x = V.str z := by
  cases e <;> simp [edV]
theorem prs_ed {H : Hp} (e : Ed Nat) : Prs DFlat (edV e) (edV e) H := ⟨rfl, fun i x y h1 h2 => by
  rw [h1] at h2
  cases h2
  obtain ⟨z, rfl⟩ := edV_str e x (List.mem_of_getElem? h1)
  exact ⟨rfl, rfl, by simp [eqV]⟩⟩
theorem prs_eds {K : PySem.W.Frag} {H : Hp} {us us' : List V} {es : List (Ed Nat)} (h : DqAll H us (es.map edD)) (h' : DqAll H us' (es.map edD)) : Prs (DTup K DFlat) us us' H := ⟨by rw [h.length, h'.length], fun i x y h1 h2 => by
  obtain ⟨d, hd, q⟩ := h.get h1
  obtain ⟨d', hd', q'⟩ := h'.get h2
  rw [hd] at hd'
  cases hd'
  rw [List.getElem?_map] at hd
  obtain ⟨e, _, rfl⟩ := Option.map_eq_some_iff.mp hd
  obtain ⟨a, rfl, ha⟩ := ed_inv q
  obtain ⟨b, rfl, hb⟩ := ed_inv q'
  exact ⟨a, b, _, _, rfl, rfl, SqT.of ha, SqT.of hb, prs_ed e⟩⟩
theorem ok_eq (F : Fun K "__eq__" "Script.__eq__" sEq f fd) (B : Blt mg) (T : ScM K mg C) : FnOk P w K mg base CX0 3 f fd ["self", "other"] (spEqT C) := by
  refine F.ok scEq (fun vs H Q E h => ?_) (fun cdv A outer s H vs Q E hr h => ?_)
  · obtain ⟨_, _, _, rfl, _⟩ := h
    rfl
  obtain ⟨p, r, es, rfl, ⟨dx, t, us, h1, h2, h3⟩, ⟨dy, t', us', h1', h2', h3'⟩, q⟩ := h
  have nd := scEq.nd
  have hr2 : Room 2 _ := hr
  refine ⟨_, pss_one (ps_ret (pe_and (pe_callB call_isi rfl B.isi bt_isi (pa_cons (pv 1) (pa_cons (pe_glob (v := .ref C) rfl T.T.mC rfl) pa_nil))) (pe_one (pe_cmpR (op_eqG (rcG_tup (mon_tup mon_flat) (eqG_tup mon_flat eqG_flat)) hr2) (pe_fld (pv 0) rfl) (pe_fld (pv 1) rfl) (nomark _))))), ?_⟩
  refine ⟨_, rfl, .ref r, .ref C, _, _, true, rfl, .own C, .base (.ins h1' T.T.cl T.hCl T.hGt T.hTk T.hOb), T.kit, true, rfl, iteT ?_⟩
  refine ⟨_, rfl, p, C, dx, _, _, rfl, h1, T.T.cl, T.T.nS, sf_steps _ _ _, _, rfl, r, C, dy, _, _, rfl, h1', T.T.cl, T.T.nS, sf_steps _ _ _, ⟨t, t', us, us', rfl, rfl, SqT.of h2, SqT.of h2', prs_eds h3 h3'⟩, fun H' x => q H' x⟩
end
end Sk

/-! The class: its cost, by keywords; what keeps all. -/
namespace Sk
open PySem PySem.Spec PyProof.Rows L2 Evl
section
variable {X : Cx} {CX : CXT} {k n : Nat} {C f : Addr} {fd : FuncData} {ps ks : List Str} {sp : Sp} {E : XK} {m : Str} {apos pos : Pos} {o : Expr} {kws : List Keyword} {ta : TE} {tk : TA} {g : List Value → List Value → List Value} {gV : List V → List V → List V}
/-- o.m(k = v, ..) -/
def tMethN (C : Addr) (m : Str) (n : Nat) (sp : Sp) (gV : List V → List V → List V) (E : XK) (ta : TE) (tk : TA) : TE := fun σ H Q => ta σ H fun x H1 => ∃ a dx fs, x = V.ref a ∧ H1 a = some (.ins C dx fs) ∧ fs.lookup m = none ∧ tk σ H1 fun zs H2 => zs.length = n ∧ sp (gV [.ref a] zs) H2 Q E
theorem pe_methN {pl : Sem Bool} (he : PE X o ta) (c : Cls X.K C) (hm : Meth X.K C m f) (F : FnOk X.prog X.w X.K X.mg X.base CX k f fd ps sp) (hr : Room k X.A) (hb : KBn X.K fd ps 1 ks g gV) (hx : Passes CX X E) (hkw : PK X kws tk)
    (hall : (backToKw pos (keywordEach kws X.env)).all (·.1.isSome) = true := by rfl) (hks : (backToKw pos (keywordEach kws X.env)).filterMap (·.1) = ks := by rfl)
    (hpl : ((backTo pos (starEach [] X.env)).any (·.1) || (backToKw pos (keywordEach kws X.env)).any (·.1.isNone)) = false := by rfl)
    (ht : eval (.Call (.Attribute o m apos) [] kws pos) X.env = (do
      let ov ← eval o X.env
      standAt apos.atName
      let (f, first) ← holding [ov] (getMethod ov m pl)
      callWith pos f first (backTo pos (starEach [] X.env)) (backToKw pos (keywordEach kws X.env))) := by rfl) :
    PE X (.Call (.Attribute o m apos) [] kws pos) (tMethN C m ks.length sp gV E ta tk) := by
  refine ⟨fun pins s σ H Q I h => ?_⟩
  refine PySem.W.methodCall_KW (pl := pl) (thn (he.run pins s σ H _ I h) fun u s1 ⟨x, H1, I1, rx, a, dx, fs, ex, ea, l, q⟩ => ?_) ht
  subst ex
  obtain rfl : u = Value.ref a := rx
  refine getmeth_ok I1 ea c hm l ?_
  refine PySem.W.callWith_KW0 (h₀ := X.base) (first := [.ref a]) I1.ok.mod.kin hm.kp hall (thn (hkw.run pos pins s1 σ H1 _ I1 q) fun ws s2 ⟨zs, H2, I2, rz, l2, q2⟩ => ⟨I2.kIn, ?_⟩) hpl
  rw [hks]
  exact run_fnN (us := [.ref a]) (vs := [.ref a]) F hr hb hx I2 (.cons rfl .nil) rz rfl l2 q2
end
def priceE (a b c : Int) : Ed Nat → Int
  | .keep _ => 0
  | .put _ => a
  | .drop _ => b
  | .swap _ _ => c
def costE (a b c : Int) (es : List (Ed Nat)) : Int := (es.map (priceE a b c)).sum
abbrev NCos : List Str := ["self", "put", "drop", "swap", "prices", "step"]
theorem scCos : FnScope NCos ["self", "put", "drop", "swap"] (defScope sCost) := ⟨rfl, rfl, rfl, by decide +kernel, rfl, by decide +kernel, by decide +kernel⟩
abbrev NKep : List Str := ["cls", "text", "sign"]
theorem scKep : FnScope NKep ["cls", "text"] (defScope sKept) := ⟨rfl, rfl, rfl, by decide +kernel, rfl, by decide +kernel, by decide +kernel⟩
def spCos (C : Addr) : Sp := fun vs H Q _ => ∃ (p : Addr) (a b c : Int) (es : List (Ed Nat)), vs = [.ref p, .int a, .int b, .int c] ∧ ScAt C H p es ∧ es.length ≤ 100000 ∧ ∀ H', Ex H H' → Q (.int (costE a b c es)) H'
def spKep (C : Addr) : Sp := fun vs H Q _ => ∃ cs : List Nat, vs = [.ref C, .str (tx cs)] ∧ cs.length ≤ 100000 ∧ ∀ x H', Ex H H' → H x = none → ScAt C H' x (keptE cs) → Q (.ref x) H'
theorem val_price (a b c : Int) (e : Ed Nat) : valV (mergeK [] [((.inr "keep" : Key), V.int 0), (.inr "put", V.int a), (.inr "drop", V.int b), (.inr "swap", V.int c)]) (.inr (tag e)) = some (.int (priceE a b c e)) := by cases e <;> rfl
section
variable {P : Program} {w : World} {K : PySem.W.Frag} {mg : Str → Option Value} {base : Heap} {f g fi : Addr} {fd gd fid : FuncData} {C : Addr}
theorem ok_cos {k : Nat} (F : Fun K "cost" "Script.cost" sCost f fd) (ms : mg "sum" = none) (T : ScT K mg C) : FnOk P w K mg base CX0 (k + 1) f fd ["self", "put", "drop", "swap"] (spCos C) := by
  refine F.ok scCos (fun vs H Q E h => ?_) (fun cdv A outer s H vs Q E hr h => ?_)
  · obtain ⟨_, _, _, _, _, rfl, _⟩ := h
    rfl
  have hu := hu_of hr
  obtain ⟨p, a, b, c, es, rfl, ⟨dx, t, us, h1, h2, h3⟩, le, q⟩ := h
  have nd := scCos.nd
  refine ⟨_, pss_cons (ps_set (i := 4) nd rfl (Or.inr rfl) (pe_disp (pps_cons pe_str pe_int (pps_cons pe_str (pv 1) (pps_cons pe_str (pv 2) (pps_cons pe_str (pv 3) pps_nil)))) rfl rfl (by simp) (by simp)))
    (pss_one (ps_ret (pe_callB (cr_sum rfl) rfl ms bt_sum (pa_cons (pe_lc (own := [("step", 5)]) (g := gName 5) (tt := tYes) (te := tDGet (tVar 4) (tOp (rIxT K) (tVar 5) (tC (.int 0)))) rfl nd (pi_tup (pe_fld (pv 0) rfl)) (blkOk_by (N := NCos) (sc := defScope sCost) (by decide +kernel)) (fun _ _ _ _ _ => pg_name (i := 5) nd rfl (Or.inl rfl))
      (fun _ _ _ _ _ => pts_nil) (fun _ _ _ _ _ => pe_dget hu (pv 4) (pe_ix ix_tup (pv 5) pe_int (fun _ _ => rfl)) (fun _ _ => rfl))) pa_nil)))), ?_⟩
  refine fun d nd' => ⟨_, rfl, _, rfl, _, rfl, upd_same, [(.inr "keep", .int 0), (.inr "put", .int a), (.inr "drop", .int b), (.inr "swap", .int c)], rfl, by simp, ?_⟩
  have x1 : Ex H (upd (upd H d (.dK [])) d (.dK (mergeK [] [(.inr "keep", .int 0), (.inr "put", .int a), (.inr "drop", .int b), (.inr "swap", .int c)]))) := fun z o e => by
    have nb : z ≠ d := ne_of_none e nd'
    rw [upd_ne nb, upd_ne nb]; exact e
  have hd1 : upd (upd H d (.dK [])) d (.dK (mergeK [] [(.inr "keep", .int 0), (.inr "put", .int a), (.inr "drop", .int b), (.inr "swap", .int c)])) d = some (.dK (mergeK [] [(.inr "keep", .int 0), (.inr "put", .int a), (.inr "drop", .int b), (.inr "swap", .int c)])) := upd_same
  generalize upd (upd H d (.dK [])) d (.dK (mergeK [] [(.inr "keep", .int 0), (.inr "put", .int a), (.inr "drop", .int b), (.inr "swap", .int c)])) = H1 at x1 hd1 ⊢
  refine ⟨_, rfl, p, C, dx, _, _, rfl, x1 _ _ h1, T.cl, T.nS, sf_steps _ _ _, t, rfl, ⟨_, SqT.of (x1 _ _ h2)⟩, fun D hD => ?_⟩
  refine lc_tup (xs := us) (fun i H' => Ex H1 H' ∧ H' D = some (.lst ((((es.map (priceE a b c)).take i)).map V.int))) ⟨Ex.new hD, upd_same⟩ (fun i H' _ z => SqT.of (z.1 _ _ (x1 _ _ h2))) (fun i x H' hx z => ?_) (fun H3 z => ?_)
  · obtain ⟨z1, z2⟩ := z
    obtain ⟨dd, hdd, hq⟩ := h3.get hx
    rw [List.getElem?_map] at hdd
    obtain ⟨e, he, rfl⟩ := Option.map_eq_some_iff.mp hdd
    have jl := (List.getElem?_eq_some_iff.mp he).1
    obtain ⟨r, rfl, hr'⟩ := ed_inv (hq.mono (x1.trans z1))
    obtain ⟨rr, er⟩ := edV_tag e
    refine ⟨rfl, tyes ⟨_, rfl, _, rfl, r, _, _, _, rfl, rfl, SqT.of hr', (by rw [er]; exact atI_nat (j := 0) rfl), d, _, rfl, (by have z := DGet.k (k := Sum.inr (tag e)) (z1 _ _ hd1); rw [val_price] at z; exact z), _, z2, ?_, z1.mut hD, ?_⟩⟩
    · rw [List.length_map, List.length_take, List.length_map, sizeLine_eq]; omega
    · rw [upd_same, take_snoc (show (es.map (priceE a b c))[i]? = some (priceE a b c e) by rw [List.getElem?_map, he]; rfl), List.map_append]; rfl
  obtain ⟨z1, z2⟩ := z
  have lu : us.length = es.length := by rw [h3.length, List.length_map]
  rw [List.take_of_length_le (by rw [List.length_map, lu]; exact Nat.le_refl _)] at z2
  exact ⟨D, es.map (priceE a b c), rfl, SqL.of z2, q _ (x1.trans z1)⟩
theorem ok_kep (F : Fun K "kept" "Script.kept" sKept f fd) (M : Mk K C fi) (Gi : FnOk P w K mg base CX0 4 fi fid ["self", "steps"] (spIni C)) (bi : Binds K fid ["self", "steps"] []) : FnOk P w K mg base CX0 6 f fd ["cls", "text"] (spKep C) := by
  refine F.ok scKep (fun vs H Q E h => ?_) (fun cdv A outer s H vs Q E hr h => ?_)
  · obtain ⟨_, rfl, _⟩ := h
    rfl
  obtain ⟨cs, rfl, le, q⟩ := h
  have nd := scKep.nd
  refine ⟨_, pss_one (ps_ret (pe_makeL (i := 0) M Gi hr rfl (Or.inl rfl) bi .nil pass0 (pa_cons (pe_lc (own := [("sign", 2)]) (g := gName 2) (tt := tYes) (te := tTup (tCons (tC (.str "keep")) (tCons (tVar 2) tNil))) rfl nd (pi_str (pv 1)) (blkOk_by (N := NKep) (sc := defScope sKept) (by decide +kernel)) (fun _ _ _ _ _ => pg_name (i := 2) nd rfl (Or.inl rfl))
      (fun _ _ _ _ _ => pts_nil) (fun _ _ _ _ _ => pe_tup (pa_cons pe_str (pa_cons (pv 2) pa_nil)))) pa_nil))), ?_⟩
  refine ⟨rfl, _, rfl, tx cs, rfl, fun D hD => ?_⟩
  refine lc_it walk_str (fun i H' => Ex H H' ∧ ∃ acc, H' D = some (.lst acc) ∧ acc.length = i ∧ DqAll (Hd D H') acc (((keptE cs).take i).map edD)) ⟨Ex.new hD, [], upd_same, rfl, .nil⟩ (fun _ _ _ _ => trivial) (fun i y H1 H2 hi z wv => ?_) (fun H3 z => ?_)
  · obtain ⟨z1, acc, z2, z3, z4⟩ := z
    obtain ⟨rfl, c, hc, rfl⟩ := wv
    have hc' : cs[i]? = some c := by simpa [tx] using hc
    have jl := (List.getElem?_eq_some_iff.mp hc').1
    refine ⟨rfl, tyes ⟨_, rfl, nle' (by show 2 ≤ 1000; decide), fun r nr => ?_⟩⟩
    have xr := Ex.new (o := HO.tup [.str "keep", .str ⟨#[c]⟩]) nr
    have nD : D ≠ r := ne_of_none z2 nr
    refine ⟨acc, xr _ _ z2, by rw [sizeLine_eq]; omega, (z1.trans xr).mut hD, acc ++ [.ref r], upd_same, by simp [z3], ?_⟩
    rw [hd_upd_, take_snoc (show (keptE cs)[i]? = some (.keep c) by rw [keptE, List.getElem?_map, hc']; rfl), List.map_append]
    refine (z4.mono fun b o e => hd_of (hd_some e).1 (xr _ _ (hd_some e).2)).snoc ?_
    exact ed_of (e := .keep c) (hd_of nD.symm upd_same)
  obtain ⟨z1, acc, z2, z3, z4⟩ := z
  rw [List.take_of_length_le (by simp [keptE, tx])] at z4
  refine mk_sc z2 (z4.mono hd_le) (kept_ok cs) (by rw [keptE, List.length_map]; exact le) fun x H2 x2 nx sc => q x H2 (z1.trans x2) (by
    cases h : H x with
    | none => rfl
    | some o => rw [z1 _ _ h] at nx; cases nx) sc
end
end Sk

/-! cost, some of its keywords left out. -/
namespace Sk
open PySem PySem.Spec PyProof.Rows L2 Evl
abbrev kwC : List (Str × V) := [("put", .int 1), ("drop", .int 1), ("swap", .int 1)]
abbrev psC : List Str := ["self", "put", "drop", "swap"]
section
variable {K : PySem.W.Frag} {f : Addr} {fd : FuncData}
/-- cost(swap = ..) -/
theorem kb_swap (F : FunD K "cost" "Script.cost" (defArgs sCost) (defBody sCost) (defScope sCost) [] kwC f fd) : ∃ mv : List Value, KBn K fd psC 1 ["swap"] (fun us ws => us ++ mv ++ ws) (fun vs zs => vs ++ [.int 1, .int 1] ++ zs) :=
  F.kbinds0 1 ["swap"] [("put", .int 1), ("drop", .int 1)] (fun a b c => a ++ b ++ c) (by simp) (by simp) (fun r1 r2 r3 => (r1.append r2).append r3) fun D doc pm an cdv ct us mv ws l1 l2 l3 => by
    match us, l1, mv, l2, ws, l3 with
    | [a], _, [b, c], _, [d], _ => exact ⟨_, _, _, _, _, _, rfl, rfl, _, _, _, _, _, _, rfl, rfl, rfl⟩
/-- cost(put = ..) -/
theorem kb_put (F : FunD K "cost" "Script.cost" (defArgs sCost) (defBody sCost) (defScope sCost) [] kwC f fd) : ∃ mv : List Value, KBn K fd psC 1 ["put"] (fun us ws => us ++ ws ++ mv) (fun vs zs => vs ++ zs ++ [.int 1, .int 1]) :=
  F.kbinds0 1 ["put"] [("drop", .int 1), ("swap", .int 1)] (fun a b c => a ++ c ++ b) (by simp) (by simp) (fun r1 r2 r3 => (r1.append r3).append r2) fun D doc pm an cdv ct us mv ws l1 l2 l3 => by
    match us, l1, mv, l2, ws, l3 with
    | [a], _, [b, c], _, [d], _ => exact ⟨_, _, _, _, _, _, rfl, rfl, _, _, _, _, _, _, rfl, rfl, rfl⟩
/-- cost(drop = ..) -/
theorem kb_drop (F : FunD K "cost" "Script.cost" (defArgs sCost) (defBody sCost) (defScope sCost) [] kwC f fd) : ∃ mv : List Value, KBn K fd psC 1 ["drop"] (fun us ws => us ++ mv.take 1 ++ ws ++ mv.drop 1) (fun vs zs => vs ++ [V.int 1] ++ zs ++ [.int 1]) :=
  F.kbinds0 1 ["drop"] [("put", .int 1), ("swap", .int 1)] (fun a b c => a ++ b.take 1 ++ c ++ b.drop 1) (by simp) (by simp) (fun r1 r2 r3 => ((r1.append (r2.take 1)).append r3).append (r2.drop 1)) fun D doc pm an cdv ct us mv ws l1 l2 l3 => by
    match us, l1, mv, l2, ws, l3 with
    | [a], _, [b, c], _, [d], _ => exact ⟨_, _, _, _, _, _, rfl, rfl, _, _, _, _, _, _, rfl, rfl, rfl⟩
/-- cost(drop = .., put = ..) -/
theorem kb_dp (F : FunD K "cost" "Script.cost" (defArgs sCost) (defBody sCost) (defScope sCost) [] kwC f fd) : ∃ mv : List Value, KBn K fd psC 1 ["drop", "put"] (fun us ws => us ++ ws.reverse ++ mv) (fun vs zs => vs ++ zs.reverse ++ [.int 1]) :=
  F.kbinds0 1 ["drop", "put"] [("swap", .int 1)] (fun a b c => a ++ c.reverse ++ b) (by simp) (by simp) (fun r1 r2 r3 => (r1.append r3.reverse).append r2) fun D doc pm an cdv ct us mv ws l1 l2 l3 => by
    match us, l1, mv, l2, ws, l3 with
    | [a], _, [b], _, [c, d], _ => exact ⟨_, _, _, _, _, _, rfl, rfl, rfl⟩
end
end Sk

/-! The least costs: the mathematics. -/
namespace Sk
open PySem PySem.Spec PyProof.Rows L2 Evl
def imin (p q : Int) : Int := if q < p then q else p
theorem imin_l {p q : Int} : imin p q ≤ p := by unfold imin; split <;> omega
theorem imin_r {p q : Int} : imin p q ≤ q := by unfold imin; split <;> omega
theorem imin_or {p q : Int} : imin p q = p ∨ imin p q = q := by unfold imin; split <;> simp
/-- the least cost from one text to another one -/
def dist (a b c : Int) : List Nat → List Nat → Int
  | [], m => a * (m.length : Int)
  | _ :: g, [] => dist a b c g [] + b
  | x :: g, y :: m => imin (imin (dist a b c (x :: g) m + a) (dist a b c g (y :: m) + b)) (if y = x then dist a b c g m else dist a b c g m + c)
termination_by g m => g.length + m.length
variable {a b c : Int}
theorem dist_nil (m : List Nat) : dist a b c [] m = a * (m.length : Int) := by rw [dist]
theorem dist_dn (x : Nat) (g : List Nat) : dist a b c (x :: g) [] = dist a b c g [] + b := by rw [dist]
theorem dist_cc (x y : Nat) (g m : List Nat) : dist a b c (x :: g) (y :: m) = imin (imin (dist a b c (x :: g) m + a) (dist a b c g (y :: m) + b)) (if y = x then dist a b c g m else dist a b c g m + c) := by rw [dist]
theorem dist_np (y : Nat) (m : List Nat) : dist a b c [] (y :: m) = dist a b c [] m + a := by
  rw [dist_nil, dist_nil, List.length_cons, Int.natCast_add, Int.mul_add]; simp
theorem dist_put (y : Nat) : ∀ (g m : List Nat), dist a b c g (y :: m) ≤ dist a b c g m + a
  | [], m => by rw [dist_np]; exact Int.le_refl _
  | x :: g, m => by rw [dist_cc]; exact Int.le_trans imin_l imin_l
theorem dist_drop (x : Nat) : ∀ (g m : List Nat), dist a b c (x :: g) m ≤ dist a b c g m + b
  | g, [] => by rw [dist_dn]; exact Int.le_refl _
  | g, y :: m => by rw [dist_cc]; exact Int.le_trans imin_l imin_r
/-- no script costs less -/
theorem dist_le (hc : 0 ≤ c) : ∀ es : List (Ed Nat), dist a b c (givenE es) (madeE es) ≤ costE a b c es
  | [] => by simp [givenE, madeE, dist_nil, costE]
  | e :: es => by
    have ih := dist_le hc es
    have ce : costE a b c (e :: es) = priceE a b c e + costE a b c es := by simp [costE]
    rw [ce, given_cons, made_cons]
    cases e with
    | keep x =>
      simp only [Ed.inn, Ed.out, List.cons_append, List.nil_append, priceE]
      rw [dist_cc]
      have := @imin_r (imin (dist a b c (x :: givenE es) (madeE es) + a) (dist a b c (givenE es) (x :: madeE es) + b)) (if x = x then dist a b c (givenE es) (madeE es) else dist a b c (givenE es) (madeE es) + c)
      rw [if_pos rfl] at this ⊢
      omega
    | put y =>
      simp only [Ed.inn, Ed.out, List.cons_append, List.nil_append, priceE]
      have := dist_put (a := a) (b := b) (c := c) y (givenE es) (madeE es)
      omega
    | drop x =>
      simp only [Ed.inn, Ed.out, List.cons_append, List.nil_append, priceE]
      have := dist_drop (a := a) (b := b) (c := c) x (givenE es) (madeE es)
      omega
    | swap x y =>
      simp only [Ed.inn, Ed.out, List.cons_append, List.nil_append, priceE]
      rw [dist_cc]
      have := @imin_r (imin (dist a b c (x :: givenE es) (madeE es) + a) (dist a b c (givenE es) (y :: madeE es) + b)) (if y = x then dist a b c (givenE es) (madeE es) else dist a b c (givenE es) (madeE es) + c)
      have h2 : (if y = x then dist a b c (givenE es) (madeE es) else dist a b c (givenE es) (madeE es) + c) ≤ dist a b c (givenE es) (madeE es) + c := by split <;> omega
      omega
/-- the steps, as the program takes them -/
def walkE (a b c : Int) : List Nat → List Nat → List (Ed Nat)
  | [], [] => []
  | [], y :: m => .put y :: walkE a b c [] m
  | x :: g, [] => .drop x :: walkE a b c g []
  | x :: g, y :: m =>
    if dist a b c (x :: g) (y :: m) = b + dist a b c g (y :: m) then .drop x :: walkE a b c g (y :: m)
    else if dist a b c (x :: g) (y :: m) = a + dist a b c (x :: g) m then .put y :: walkE a b c (x :: g) m
    else (if x = y then .keep x else .swap x y) :: walkE a b c g m
termination_by g m => g.length + m.length
structure Wk (a b c : Int) (g m : List Nat) (es : List (Ed Nat)) : Prop where
  wg : givenE es = g
  wm : madeE es = m
  wo : ∀ e ∈ es, Ed.ok e
  wc : costE a b c es = dist a b c g m
  wl : es.length ≤ g.length + m.length
theorem wk_put {y : Nat} {g m : List Nat} {es : List (Ed Nat)} (h : Wk a b c g m es) (e : dist a b c g (y :: m) = a + dist a b c g m) : Wk a b c g (y :: m) (.put y :: es) :=
  ⟨by rw [given_cons, h.wg]; rfl, by rw [made_cons, h.wm]; rfl, fun x mx => by
    rcases List.mem_cons.mp mx with rfl | mx
    · trivial
    · exact h.wo x mx, by rw [e, ← h.wc]; simp [costE, priceE], by have := h.wl; simp only [List.length_cons]; omega⟩
theorem wk_drop {x : Nat} {g m : List Nat} {es : List (Ed Nat)} (h : Wk a b c g m es) (e : dist a b c (x :: g) m = b + dist a b c g m) : Wk a b c (x :: g) m (.drop x :: es) :=
  ⟨by rw [given_cons, h.wg]; rfl, by rw [made_cons, h.wm]; rfl, fun z mx => by
    rcases List.mem_cons.mp mx with rfl | mx
    · trivial
    · exact h.wo z mx, by rw [e, ← h.wc]; simp [costE, priceE], by have := h.wl; simp only [List.length_cons]; omega⟩
theorem wk_both {x y : Nat} {g m : List Nat} {es : List (Ed Nat)} (h : Wk a b c g m es) (e : dist a b c (x :: g) (y :: m) = if y = x then dist a b c g m else dist a b c g m + c) : Wk a b c (x :: g) (y :: m) ((if x = y then .keep x else .swap x y) :: es) := by
  by_cases k : x = y
  · subst k
    rw [if_pos rfl] at e ⊢
    exact ⟨by rw [given_cons, h.wg]; rfl, by rw [made_cons, h.wm]; rfl, fun z mx => by
      rcases List.mem_cons.mp mx with rfl | mx
      · trivial
      · exact h.wo z mx, by rw [e, ← h.wc]; simp [costE, priceE], by have := h.wl; simp only [List.length_cons]; omega⟩
  · rw [if_neg (fun z => k z.symm)] at e
    rw [if_neg k]
    exact ⟨by rw [given_cons, h.wg]; rfl, by rw [made_cons, h.wm]; rfl, fun z mx => by
      rcases List.mem_cons.mp mx with rfl | mx
      · exact k
      · exact h.wo z mx, by rw [e, ← h.wc]; simp [costE, priceE]; omega, by have := h.wl; simp only [List.length_cons]; omega⟩
theorem walk_ok : ∀ (n : Nat) (g m : List Nat), g.length + m.length ≤ n → Wk a b c g m (walkE a b c g m)
  | _, [], [], _ => by rw [walkE]; exact ⟨rfl, rfl, (fun e m => nomatch m), by simp [costE, dist_nil], Nat.zero_le _⟩
  | 0, [], _ :: _, h => by simp at h
  | 0, _ :: _, _, h => by simp at h
  | n + 1, [], y :: m, h => by
    rw [walkE]
    exact wk_put (walk_ok n [] m (by simp at h ⊢; omega)) (by rw [dist_np]; omega)
  | n + 1, x :: g, [], h => by
    rw [walkE]
    exact wk_drop (walk_ok n g [] (by simp at h ⊢; omega)) (by rw [dist_dn]; omega)
  | n + 1, x :: g, y :: m, h => by
    rw [walkE]
    by_cases h1 : dist a b c (x :: g) (y :: m) = b + dist a b c g (y :: m)
    · rw [if_pos h1]
      exact wk_drop (walk_ok n g (y :: m) (by simp at h ⊢; omega)) h1
    · rw [if_neg h1]
      by_cases h2 : dist a b c (x :: g) (y :: m) = a + dist a b c (x :: g) m
      · rw [if_pos h2]
        exact wk_put (walk_ok n (x :: g) m (by simp at h ⊢; omega)) h2
      · rw [if_neg h2]
        refine wk_both (walk_ok n g m (by simp at h ⊢; omega)) ?_
        have d := dist_cc (a := a) (b := b) (c := c) x y g m
        rcases @imin_or (imin (dist a b c (x :: g) m + a) (dist a b c g (y :: m) + b)) (if y = x then dist a b c g m else dist a b c g m + c) with e | e
        · rw [e] at d
          rcases @imin_or (dist a b c (x :: g) m + a) (dist a b c g (y :: m) + b) with e' | e'
          · rw [e'] at d; omega
          · rw [e'] at d; omega
        · rw [e] at d; exact d
theorem given_rev (es : List (Ed Nat)) : givenE es.reverse = (givenE es).reverse := by
  induction es with
  | nil => rfl
  | cons e es ih => rw [List.reverse_cons, given_app, ih, given_cons]; cases e <;> simp [givenE, Ed.inn]
theorem made_rev (es : List (Ed Nat)) : madeE es.reverse = (madeE es).reverse := by
  induction es with
  | nil => rfl
  | cons e es ih => rw [List.reverse_cons, made_app, ih, made_cons]; cases e <;> simp [madeE, Ed.out]
theorem cost_rev (es : List (Ed Nat)) : costE a b c es.reverse = costE a b c es := by
  unfold costE
  rw [List.map_reverse, List.sum_reverse]
theorem dist_rev (hc : 0 ≤ c) (g m : List Nat) : dist a b c g.reverse m.reverse = dist a b c g m := by
  have le : ∀ g m : List Nat, dist a b c g.reverse m.reverse ≤ dist a b c g m := fun g m => by
    have w := walk_ok (a := a) (b := b) (c := c) _ g m (Nat.le_refl _)
    have := dist_le (a := a) (b := b) hc (walkE a b c g m).reverse
    rwa [given_rev, made_rev, w.wg, w.wm, cost_rev, w.wc] at this
  have h2 := le g.reverse m.reverse
  rw [List.reverse_reverse, List.reverse_reverse] at h2
  have h1 := le g m
  omega
/-! ### three long ones -/
theorem diff_cost : ∀ es : List (Ed Nat), ((givenE es).length : Int) - ((madeE es).length : Int) ≤ costE 1 1 1 es
  | [] => by simp [givenE, madeE, costE]
  | e :: es => by
    have ih := diff_cost es
    rw [given_cons, made_cons, List.length_append, List.length_append]
    have : costE 1 1 1 (e :: es) = priceE 1 1 1 e + costE 1 1 1 es := by simp [costE]
    rw [this]
    cases e <;> simp [Ed.inn, Ed.out, priceE] <;> omega
theorem dist_diff (g m : List Nat) : (g.length : Int) - (m.length : Int) ≤ dist 1 1 1 g m := by
  have w := walk_ok (a := 1) (b := 1) (c := 1) _ g m (Nat.le_refl _)
  have h := diff_cost (walkE 1 1 1 g m)
  rwa [w.wc, w.wg, w.wm] at h
theorem dist_one (x y : Nat) (h : y ≠ x) : ∀ n : Nat, dist 1 1 1 [x] (List.replicate (n + 1) y) = ((n + 1 : Nat) : Int)
  | 0 => by
    rw [List.replicate_succ, List.replicate_zero, dist_cc, dist_dn, dist_nil, dist_nil, if_neg h]
    simp [imin]
  | n + 1 => by
    have ih := dist_one x y h n
    rw [List.replicate_succ, dist_cc, ih, dist_nil, dist_nil, if_neg h, List.length_cons, List.length_replicate]
    unfold imin
    split <;> split <;> omega
theorem drops_cost : ∀ r : List Nat, costE 1 1 1 (r.map Ed.drop) = (r.length : Int)
  | [] => rfl
  | x :: r => by
    have ih := drops_cost r
    unfold costE at ih ⊢
    rw [List.map_cons, List.map_cons, List.sum_cons, ih, List.length_cons]
    simp [priceE]; omega
theorem drops_io : ∀ r : List Nat, givenE (r.map Ed.drop) = r ∧ madeE (r.map Ed.drop) = []
  | [] => ⟨rfl, rfl⟩
  | x :: r => by
    rw [List.map_cons, given_cons, made_cons, (drops_io r).1, (drops_io r).2]
    exact ⟨rfl, rfl⟩
theorem dist_rest (r : List Nat) : dist 1 1 1 ([97, 98, 97] ++ r) [97, 98, 97] = (r.length : Int) := by
  have h1 := dist_diff ([97, 98, 97] ++ r) [97, 98, 97]
  have h2 := dist_le (a := 1) (b := 1) (c := 1) (by decide) ([Ed.keep 97, .keep 98, .keep 97] ++ r.map Ed.drop)
  have k : costE 1 1 1 ([Ed.keep 97, .keep 98, .keep 97] ++ r.map Ed.drop) = (r.length : Int) := by
    have := drops_cost r
    unfold costE at this ⊢
    rw [List.map_append, List.sum_append, this]
    simp [priceE]
  have g : givenE ([Ed.keep 97, .keep 98, .keep 97] ++ r.map Ed.drop) = [97, 98, 97] ++ r := by
    rw [given_app, (drops_io r).1]; rfl
  have m : madeE ([Ed.keep 97, .keep 98, .keep 97] ++ r.map Ed.drop) = [97, 98, 97] := by
    rw [made_app, (drops_io r).2]; rfl
  have hl : ([97, 98, 97] ++ r).length = r.length + 3 := by simp
  have e3 : ([97, 98, 97] : List Nat).length = 3 := rfl
  rw [g, m, k] at h2
  rw [hl, e3] at h1
  generalize dist 1 1 1 ([97, 98, 97] ++ r) [97, 98, 97] = D at *
  omega
end Sk

/-! xs[::-1], text[::-1]. -/
namespace Sk
open PySem PySem.Spec PyProof.Rows L2 Evl
theorem range_rev (n : Nat) : sliceRange ((n : Int) - 1) (-1) (-1) = (List.range n).map fun k => n - 1 - k := by
  unfold sliceRange
  rw [if_neg (by decide)]
  have e : (if ((n : Int) - 1 > -1) then ((n : Int) - 1 - (-1) - (-1) - 1) / (-(-1)) else 0).toNat = n := by
    by_cases h : ((n : Int) - 1 > -1)
    · rw [if_pos h]
      have : ((n : Int) - 1 - (-1) - (-1) - 1) / (-(-1)) = n := by
        rw [show (-(-1) : Int) = 1 by decide, Int.ediv_one]; omega
      rw [this]; simp
    · rw [if_neg h]
      have : n = 0 := by omega
      subst this; rfl
  show (List.range (if ((n : Int) - 1 > -1) then ((n : Int) - 1 - (-1) - (-1) - 1) / (-(-1)) else 0).toNat).map _ = _
  rw [e]
  refine List.map_congr_left fun k hk => ?_
  have := List.mem_range.mp hk
  omega
theorem pick_take {α : Type} (xs : List α) : ∀ n : Nat, (List.range n).filterMap (xs[·]?) = xs.take n
  | 0 => rfl
  | n + 1 => by
    rw [List.range_succ, List.filterMap_append, pick_take xs n, List.take_add_one]
    cases h : xs[n]? <;> simp [h]
theorem pick_rev {α : Type} (xs : List α) : ((List.range xs.length).map fun k => xs.length - 1 - k).filterMap (xs[·]?) = xs.reverse := by
  have : ((List.range xs.length).map fun k => xs.length - 1 - k) = (List.range xs.length).reverse := by
    refine List.ext_getElem (by simp) fun i h1 h2 => ?_
    simp
  rw [this, List.filterMap_reverse, pick_take, List.take_length]
theorem bounds_rev (n : Nat) : sliceBounds none none (some (-1)) n = ((n : Int) - 1, -1, -1) := rfl
/-- xs[::-1] -/
def tRevL (K : PySem.W.Frag) (te tk : TE) : TE := fun σ H Q => te σ H fun x H1 => tk σ H1 fun y H2 => ∃ a xs, x = .ref a ∧ y = .int (-1) ∧ SqL K H2 a xs ∧ ∀ p, H2 p = none → Q (.ref p) (upd H2 p (.lst xs.reverse))
/-- text[::-1] -/
def tRevS (te tk : TE) : TE := fun σ H Q => te σ H fun x H1 => tk σ H1 fun y H2 => ∃ z : Str, x = .str z ∧ y = .int (-1) ∧ z.length ≤ sizeLine ∧ Q (.str ⟨z.cps.toList.reverse.toArray⟩) H2
theorem vals_rev : ∀ {xs : List V} {us : List Value}, Vals xs us → Vals xs.reverse us.reverse
  | _, _, .nil => .nil
  | _, _, .cons r t => by
    rw [List.reverse_cons, List.reverse_cons]
    exact (vals_rev t).append (.cons r .nil)
theorem pe_revL {X : Cx} {e k : Expr} {te tk : TE} {p3 pos : Pos} (he : PE X e te) (hk : PE X k tk) : PE X (.Subscript e (.Slice none none (some k) p3) pos) (tRevL X.K te tk) := by
  refine ⟨fun pins s σ H Q I h => Subscript_ (thn (he.run pins s σ H _ I h) fun v s1 ⟨x, H1, I1, r1, q1⟩ => ?_)⟩
  refine wpAny_Slice (thn (po_none.run pins s1 σ H1 (fun o H2 => o = none ∧ H2 = H1) I1 ⟨rfl, rfl⟩) fun vl s2 ⟨l, H2, I2, pl, el, e2⟩ => ?_)
  cases el
  cases e2
  refine thn (po_none.run pins s2 σ H1 (fun o H2 => o = none ∧ H2 = H1) I2 ⟨rfl, rfl⟩) fun vu s3 ⟨l, H2, I3, pu, el, e2⟩ => ?_
  cases el
  cases e2
  rw [evalPart_some]
  refine thn (hk.run pins s3 σ H1 _ I3 q1) fun vk s4 ⟨y, H4, I4, r4, a, xs, ex, ey, hs, q⟩ => ?_
  subst ex
  subst ey
  cases r1
  obtain ⟨t, rfl⟩ := r4
  let s5 : Shared := { s4 with heap := s4.heap.push { cls := .type "slice", data := .fields #[vl, vu, .int (-1) t] } }
  have I5 : Inv X pins σ H4 s5 := I4.kept (t' := s4.toks) fun b ob z => Heap.get?_push_of_some _ z
  obtain ⟨its, r, ht, hz⟩ := I5.list hs
  have hlen := r.length
  show wpAny (model X.prog X.w) X.A (subscriptTail e (.Slice none none (some k) p3) (.ref a) (.ref s4.heap.objs.size)) (EP X pins σ Q) X.xe s5
  refine tail_any (ops := [.ref a, .ref s4.heap.objs.size]) ht.isList.typeIs PySem.slot_list_getitem.lookup ?_ (by with_unfolding_all rfl)
  refine wpAny_getItem_list_slice ht.isList (.new _ vl vu _) pl pu (.int (-1) t) (fun z => by cases z) ?_ (by rw [List.size_toArray]; omega)
  have e1 : slicePick its.toArray none none (some (-1)) = its.reverse.toArray := by
    unfold slicePick
    rw [bounds_rev, List.size_toArray, range_rev]
    simp only [List.getElem?_toArray]
    rw [pick_rev]
  rw [e1]
  refine ⟨.ref _, _, I5.laid (t' := s4.toks) (o := .lst xs.reverse) (fun b ob z => Heap.get?_push_of_some _ z) (Nat.le_refl _) ?_, rfl, q _ (I5.hok.fresh (Nat.le_refl _))⟩
  refine ⟨by rw [List.length_reverse]; exact hz, its.reverse, 0, ?_, Heap.get?_push_size _ rfl⟩
  exact vals_rev r
theorem pe_revS {X : Cx} {e k : Expr} {te tk : TE} {p3 pos : Pos} (he : PE X e te) (hk : PE X k tk) : PE X (.Subscript e (.Slice none none (some k) p3) pos) (tRevS te tk) := by
  refine ⟨fun pins s σ H Q I h => Subscript_ (thn (he.run pins s σ H _ I h) fun v s1 ⟨x, H1, I1, r1, q1⟩ => ?_)⟩
  refine wpAny_Slice (thn (po_none.run pins s1 σ H1 (fun o H2 => o = none ∧ H2 = H1) I1 ⟨rfl, rfl⟩) fun vl s2 ⟨l, H2, I2, pl, el, e2⟩ => ?_)
  cases el
  cases e2
  refine thn (po_none.run pins s2 σ H1 (fun o H2 => o = none ∧ H2 = H1) I2 ⟨rfl, rfl⟩) fun vu s3 ⟨l, H2, I3, pu, el, e2⟩ => ?_
  cases el
  cases e2
  rw [evalPart_some]
  refine thn (hk.run pins s3 σ H1 _ I3 q1) fun vk s4 ⟨y, H4, I4, r4, z, ex, ey, hz, q⟩ => ?_
  subst ex
  subst ey
  obtain ⟨tz, rfl⟩ := r1
  obtain ⟨t, rfl⟩ := r4
  let s5 : Shared := { s4 with heap := s4.heap.push { cls := .type "slice", data := .fields #[vl, vu, .int (-1) t] } }
  have I5 : Inv X pins σ H4 s5 := I4.kept (t' := s4.toks) fun b ob z => Heap.get?_push_of_some _ z
  show wpAny (model X.prog X.w) X.A (subscriptTail e (.Slice none none (some k) p3) (.str z tz) (.ref s4.heap.objs.size)) (EP X pins σ Q) X.xe s5
  refine tail_any (ops := [.str z tz, .ref s4.heap.objs.size]) (typeIs_str _ _ _) F.slot_str_getitem.lookup ?_ (by with_unfolding_all rfl)
  obtain ⟨l, rfl, el⟩ := IsPart.raw pl
  obtain ⟨u, rfl, eu⟩ := IsPart.raw pu
  have hsl : s5.heap.IsSlice s4.heap.objs.size l u (some (-1, t)) := ⟨_, Heap.get?_push_size _ rfl, rfl, rfl⟩
  refine wpAny_getItem_str_slice hsl rfl ?_
  have l0 : l = none := by simpa using el
  have u0 : u = none := by simpa using eu
  subst l0
  subst u0
  have e : ((slicePicked z none none (some (-1, t))).filterMap (z.cps[·]?)) = z.cps.toList.reverse := by
    have h1 : slicePicked z none none (some (-1, t)) = sliceRange ((z.length : Int) - 1) (-1) (-1) := rfl
    have h2 : z.length = z.cps.toList.length := by simp [Str.length]
    rw [h1, range_rev, h2, ← pick_rev z.cps.toList]
    simp
  show Made.post (if ((-1 : Int) == 1 && (slicePicked z none none (some (-1, t))).length == z.length) = true then Made.val (.str z tz) else Made.str ⟨((slicePicked z none none (some (-1, t))).filterMap (z.cps[·]?)).toArray⟩) (EP X pins σ Q) s5
  rw [if_neg (by simp), e]
  have hl : (⟨z.cps.toList.reverse.toArray⟩ : Str).length ≤ sizeLine := by
    have : (⟨z.cps.toList.reverse.toArray⟩ : Str).length = z.length := by simp [Str.length]
    rw [this]; exact hz
  exact ⟨hl, .str _, H4, I5.tok _, ⟨_, rfl⟩, q⟩
end Sk

/-! The program's table of costs. -/
namespace Sk
open PySem PySem.Spec PyProof.Rows L2 Evl
abbrev NBeh : List Str := ["given", "made", "put", "drop", "swap", "many", "place", "row", "rows", "sign", "cost", "found", "beside"]
theorem scBeh : FnScope NBeh ["given", "made", "put", "drop", "swap"] (defScope sBehind) := ⟨rfl, rfl, rfl, by decide +kernel, rfl, by decide +kernel, by decide +kernel⟩
/-- a row: the costs from g to the ends of m -/
def rowD (a b c : Int) (g m : List Nat) : List Int := (List.range (m.length + 1)).map fun j => dist a b c g (m.drop j)
theorem rowD_len (a b c : Int) (g m : List Nat) : (rowD a b c g m).length = m.length + 1 := by simp [rowD]
theorem rowD_at {a b c : Int} {g m : List Nat} {j : Nat} (h : j ≤ m.length) : (rowD a b c g m)[j]? = some (dist a b c g (m.drop j)) := by
  unfold rowD
  rw [List.getElem?_map, List.getElem?_range (by omega)]; rfl
def TabAt (a b c : Int) (H : Hp) (p : Addr) (g m : List Nat) : Prop := ∃ rs : List Addr, H p = some (.lst (rs.map V.ref)) ∧ rs.length = g.length + 1 ∧ ∀ (i : Nat) r, rs[i]? = some r → H r = some (.lst ((rowD a b c (g.drop i) m).map V.int))
def spBeh : Sp := fun vs H Q _ => ∃ (g m : List Nat) (a b c : Int), vs = [.str (tx g), .str (tx m), .int a, .int b, .int c] ∧ g.length ≤ 1000 ∧ m.length ≤ 1000 ∧ ∀ p H', Ex H H' → TabAt a b c H' p g m → Q (.ref p) H'
/-- found after k turns -/
def fndD (a b c : Int) (g m : List Nat) (k : Nat) : List Int := (List.range (k + 1)).map fun t => dist a b c g (m.drop (m.length - t))
theorem fnd_snoc (a b c : Int) (g m : List Nat) (k : Nat) : fndD a b c g m (k + 1) = fndD a b c g m k ++ [dist a b c g (m.drop (m.length - (k + 1)))] := by
  unfold fndD
  rw [List.range_succ, List.map_append]; rfl
theorem fnd_rev (a b c : Int) (g m : List Nat) : (fndD a b c g m m.length).reverse = rowD a b c g m := by
  unfold fndD rowD
  refine List.ext_getElem (by simp) fun i h1 h2 => ?_
  simp only [List.length_reverse, List.length_map, List.length_range] at h1
  rw [List.getElem_reverse]
  simp only [List.getElem_map, List.getElem_range, List.length_map, List.length_range]
  congr 1
  congr 1
  omega
theorem min3_int (p q r : Int) : nuMin3 (.int p) (.int q) (.int r) = some (.int (imin (imin p q) r)) := by
  have h : ∀ x y : Int, nuMin2 (.int x) (.int y) = some (.int (imin x y)) := fun x y => by
    have e : nuLt (.int y) (.int x) = some (decide (y < x)) := rfl
    unfold nuMin2 imin
    rw [e]
    by_cases k : y < x <;> simp [k]
  unfold nuMin3
  rw [h]
  exact h _ _
theorem vint_map (xs : List Int) (x : Int) : xs.map V.int ++ [.int x] = (xs ++ [x]).map V.int := by simp
section
variable {P : Program} {w : World} {K : PySem.W.Frag} {mg : Str → Option Value} {base : Heap} {f g : Addr} {fd gd : FuncData}
theorem ok_beh {k : Nat} (F : Fun K "costs_behind" "costs_behind" sBehind f fd) (B : Blt mg) : FnOk P w K mg base CX0 (k + 1) f fd ["given", "made", "put", "drop", "swap"] spBeh := by
  refine F.ok scBeh (fun vs H Q E h => ?_) (fun cdv A outer s H vs Q E hr h => ?_)
  · obtain ⟨_, _, _, _, _, rfl, _⟩ := h
    rfl
  have nd := scBeh.nd
  obtain ⟨gs, ms, a, b, c, rfl, lg, lm, q⟩ := h
  refine ⟨_, pss_cons (ps_set (i := 5) nd rfl (Or.inr rfl) (pe_callB call_len_str rfl B.len PySem.boot_len (pa_cons (pv 1) pa_nil)))
    (pss_cons (ps_setLc (i := 7) (own := [("place", 6)]) (g := gName 6) (tt := tYes) (te := tOp (rI CMul fun i j => .int (i * j)) (tVar 2) (tOp (rI0 fun i j => .int (i - j)) (tVar 5) (tVar 6))) rfl nd rfl rfl (sw_true rfl rfl rfl (by decide +kernel)) (pi_range1 rfl B.range (pa_cons (pe_op op_add (pv 5) pe_int) pa_nil)) (blkOk_by (N := NBeh) (sc := defScope sBehind) (by decide +kernel)) (fun _ _ _ _ _ => pg_name (i := 6) nd rfl (Or.inl rfl)) (fun _ _ _ _ _ => pts_nil)
        (fun _ _ _ _ _ => pe_op op_mul (pv 2) (pe_op op_sub (pv 5) (pv 6))))
    (pss_cons (ps_set (i := 8) nd rfl (Or.inl rfl) (pe_lst (pa_cons (pv 7) pa_nil)))
    (pss_cons (ps_for PassesOwn.never rfl (pi_str (pe_revS (pv 0) (pe_un un_neg pe_int))) (pg_name (i := 9) nd rfl (Or.inl rfl))
      (pss_cons (ps_set (i := 10) nd rfl (Or.inl rfl) (pe_op op_add (pe_ix ix_list (pv 7) (pv 5) (fun _ _ => rfl)) (pv 3)))
      (pss_cons (ps_set (i := 11) nd rfl (Or.inl rfl) (pe_lst (pa_cons (pv 10) pa_nil)))
      (pss_cons (ps_for PassesOwn.never rfl (pi_range3 rfl B.range (pa_cons (pe_op op_sub (pv 5) pe_int) (pa_cons (pe_un un_neg pe_int) (pa_cons (pe_un un_neg pe_int) pa_nil)))) (pg_name (i := 6) nd rfl (Or.inl rfl))
        (pss_cons (ps_set (i := 12) nd rfl (Or.inl rfl) (pe_ifExp (pt_cmpR op_eq (pe_ix ix_str (pv 1) (pv 6) (fun _ _ => rfl)) (pv 9) (nomark _)) (pe_ix ix_list (pv 7) (pe_op op_add (pv 6) pe_int) (fun _ _ => rfl)) (pe_op op_add (pe_ix ix_list (pv 7) (pe_op op_add (pv 6) pe_int) (fun _ _ => rfl)) (pv 4))))
        (pss_cons (ps_set (i := 10) nd rfl (Or.inl rfl) (pe_callB (call_min3Nu rfl) rfl B.min bt_min (pa_cons (pe_op op_add (pv 10) (pv 2)) (pa_cons (pe_op op_add (pe_ix ix_list (pv 7) (pv 6) (fun _ _ => rfl)) (pv 3)) (pa_cons (pv 12) pa_nil)))))
        (pss_one (ps_expr (pe_bm PySem.F.plainAttrs_list PySem.F.slot_list_append PySem.F.type_list_append mt_append (pv 11) (pa_cons (pv 10) pa_nil)))))))
      (pss_cons (ps_set (i := 7) nd rfl (Or.inl rfl) (pe_revL (pv 11) (pe_un un_neg pe_int)))
      (pss_one (ps_expr (pe_bm PySem.F.plainAttrs_list PySem.F.slot_list_append PySem.F.type_list_append mt_append (pv 8) (pa_cons (pv 7) pa_nil)))))))))
    (pss_one (ps_ret (pe_revL (pv 8) (pe_un un_neg pe_int))))))), ?_⟩
  have lt1 : (tx ms).length ≤ sizeLine := line_le (by rw [tx_len]; omega)
  have lt0 : (tx gs).length ≤ sizeLine := line_le (by rw [tx_len]; omega)
  refine ⟨_, rfl, _, rfl, lt1, ?_⟩
  rw [tx_len]
  refine ⟨_, rfl, _, _, rfl, rfl, (ms.length : Int) + 1, rfl, by omega, by omega, fun D nD => ?_⟩
  refine lc_range (lo := 0) (fun i H' => Ex H H' ∧ H' D = some (.lst (((rowD a b c [] ms).take i).map V.int))) ⟨Ex.new nD, upd_same⟩ (fun i H' hi p => ?_) (fun H1 p => ?_)
  · obtain ⟨z1, z2⟩ := p
    have hi' : i < ms.length + 1 := by omega
    refine ⟨rfl, tyes ⟨_, rfl, _, rfl, _, rfl, _, _, rfl, rfl, _, _, rfl, rfl, .inr ⟨by omega, by omega⟩, _, z2, ?_, z1.mut nD, ?_⟩⟩
    · rw [List.length_map, List.length_take, rowD_len, sizeLine_eq]; omega
    · have e : ((ms.length - i : Nat) : Int) = (ms.length : Int) - (0 + (i : Int)) := by omega
      rw [upd_same, take_snoc (rowD_at (by omega)), List.map_append, dist_nil, List.length_drop, e]
      rfl
  obtain ⟨x1, hD1⟩ := p
  have en : ((ms.length : Int) + 1).toNat = ms.length + 1 := by omega
  rw [en, List.take_of_length_le (by rw [rowD_len]; exact Nat.le_refl _)] at hD1
  refine ⟨_, rfl, nle' (by show 1 ≤ 1000; decide), fun R nR => ?_⟩
  have nR0 : H R = none := by
    cases h : H R with
    | none => rfl
    | some o => rw [x1 _ _ h] at nR; cases nR
  have x2 := x1.trans (Ex.new (o := HO.lst [V.ref D]) nR)
  have hR2 : upd H1 R (HO.lst [V.ref D]) R = some (.lst [V.ref D]) := upd_same
  have hD2 : upd H1 R (HO.lst [V.ref D]) D = some (.lst ((rowD a b c [] ms).map V.int)) := (Ex.new nR) _ _ hD1
  generalize upd H1 R (HO.lst [V.ref D]) = H2 at x2 hR2 hD2 ⊢
  clear nR x1 hD1 nD
  refine ⟨_, rfl, _, rfl, tx gs, rfl, rfl, lt0, _, rfl, ?_⟩
  have tl : (tx gs).cps.toList = gs := by simp [tx]
  rw [tl]
  have sz : (⟨gs.reverse.toArray⟩ : Str).cps.size = gs.length := by simp
  refine for_it walk_str (fun i σ H' => Ex H H' ∧ ∃ (rs : List Addr) (rw' : Addr) (y6 y9 y10 y11 y12 : Option V), σ = [some (.str (tx gs)), some (.str (tx ms)), some (.int a), some (.int b), some (.int c), some (.int (ms.length : Int)), y6, some (.ref rw'), some (.ref R), y9, y10, y11, y12] ∧ H' R = some (.lst (rs.map V.ref)) ∧ rs.length = i + 1 ∧ (∀ (j : Nat) r, rs[j]? = some r → H' r = some (.lst ((rowD a b c (gs.drop (gs.length - j)) ms).map V.int))) ∧ rs[i]? = some rw')
    ⟨x2, [D], D, none, none, none, none, none, rfl, hR2, rfl, fun j r e => ?_, rfl⟩ (fun _ _ _ _ _ => trivial) (fun i v σ G0 G hi p wv => ?_) (fun σ H3 p => ?_)
  · match j, e with
    | 0, e =>
      cases e
      rw [Nat.sub_zero, List.drop_length]
      exact hD2
  · obtain ⟨z1, rs, rw', y6, y9, y10, y11, y12, rfl, hR, lr, hrs, hrw⟩ := p
    obtain ⟨rfl, x, hx, rfl⟩ := wv
    rw [sz] at hi
    have hx' : gs[gs.length - 1 - i]? = some x := by
      have : gs.reverse[i]? = some x := by simpa using hx
      rw [List.getElem?_reverse hi] at this
      exact this
    have hrow := hrs i rw' hrw
    have es : gs.drop (gs.length - (i + 1)) = x :: gs.drop (gs.length - i) := by
      have h1 : gs.length - (i + 1) < gs.length := by omega
      rw [List.drop_eq_getElem_cons h1]
      congr 1
      · have : gs.length - 1 - i = gs.length - (i + 1) := by omega
        rw [this, List.getElem?_eq_getElem h1] at hx'
        exact Option.some.inj hx'
      · congr 1; omega
    generalize gs.drop (gs.length - i) = s at hrow es
    have e0 : ms.drop ms.length = [] := List.drop_length ..
    refine ⟨_, rfl, _, rfl, rw', _, _, _, rfl, rfl, SqL.of hrow, atI_nat (by rw [List.getElem?_map, rowD_at (Nat.le_refl _)]; rfl), _, rfl, _, _, rfl, rfl, ?_⟩
    have hf0 : [V.int (dist a b c s (ms.drop ms.length) + b)] = (fndD a b c (x :: s) ms 0).map V.int := by
      simp [fndD, dist_dn]
    refine ⟨_, rfl, nle' (by show 1 ≤ 1000; decide), fun F nF => ?_⟩
    refine ⟨_, rfl, _, _, rfl, rfl, _, rfl, _, rfl, (ms.length : Int) - 1, -1, -1, ms.length, rfl, ?_, ?_⟩
    · have := RgC.neg (i := (ms.length : Int) - 1) (j := -1) (by omega) (by omega) (by omega) (by omega)
      have e : ((ms.length : Int) - 1 - (-1)).toNat = ms.length := by omega
      rwa [e] at this
    refine for_rangeC (lo := (ms.length : Int) - 1) (c := -1) (n := ms.length) (fun k σ H' => Ex G H' ∧ H' F = some (.lst ((fndD a b c (x :: s) ms k).map V.int)) ∧ ∃ y6 y12, σ = [some (.str (tx gs)), some (.str (tx ms)), some (.int a), some (.int b), some (.int c), some (.int (ms.length : Int)), y6, some (.ref rw'), some (.ref R), some (.str ⟨#[x]⟩), some (.int (dist a b c (x :: s) (ms.drop (ms.length - k)))), some (.ref F), y12])
      ⟨Ex.new nF, ?_, y6, y12, ?_⟩ (fun k σ H' hk p => ?_) (fun σ H' p => ?_)
    · rw [upd_same, ← hf0]
    · rw [Nat.sub_zero, e0, dist_dn]; rfl
    · obtain ⟨w1, w2, y6, y12, rfl⟩ := p
      have ep : (ms.length : Int) - 1 + (k : Nat) * (-1) = ((ms.length - 1 - k : Nat) : Int) := by omega
      rw [ep]
      have kp : ms.length - 1 - k < ms.length := by omega
      have hm : ms[ms.length - 1 - k]? = some ms[ms.length - 1 - k] := List.getElem?_eq_getElem kp
      have ed : ms.drop (ms.length - 1 - k) = ms[ms.length - 1 - k] :: ms.drop (ms.length - 1 - k + 1) := List.drop_eq_getElem_cons kp
      have ek : ms.length - k = ms.length - 1 - k + 1 := by omega
      have ek2 : ms.length - (k + 1) = ms.length - 1 - k := by omega
      have hrow' := w1 _ _ hrow
      have tl2 : (tx ms).cps.toList = ms := by simp [tx]
      generalize hy : ms[ms.length - 1 - k] = y at hm ed
      have d := dist_cc (a := a) (b := b) (c := c) x y s (ms.drop (ms.length - 1 - k + 1))
      rw [← ed] at d
      -- what stands beside
      have eb : decide (V.str (one y) = V.str (one x)) = decide (y = x) := by
        by_cases h : y = x
        · subst h; simp
        · rw [decide_eq_false h, decide_eq_false (fun z => h (one_inj (by injection z)))]
      have a1 : ((ms.length - 1 - k : Nat) : Int) + 1 = ((ms.length - 1 - k + 1 : Nat) : Int) := by omega
      refine ⟨_, rfl, _, rfl, _, _, y, rfl, rfl, lt1, ?_, _, rfl, rfl, _, rfl, ?_⟩
      · rw [tl2]; exact atI_nat hm
      rw [show decide (V.str ⟨#[y]⟩ = V.str ⟨#[x]⟩) = decide (y = x) from eb]
      by_cases hyx : y = x
      · rw [decide_eq_true hyx]
        refine iteT ⟨_, rfl, _, rfl, _, _, rfl, rfl, rw', _, _, _, rfl, rfl, SqL.of hrow', by rw [a1]; exact atI_nat (by rw [List.getElem?_map, rowD_at (by omega)]; rfl), ?_⟩
        refine ⟨_, rfl, _, rfl, _, _, rfl, rfl, _, rfl, _, rfl, rw', _, _, _, rfl, rfl, SqL.of hrow', atI_nat (by rw [List.getElem?_map, rowD_at (by omega)]; rfl), _, rfl, _, _, rfl, rfl, _, rfl, _, _, _, _, rfl, min3_int _ _ _, ?_⟩
        have nc : imin (imin (dist a b c (x :: s) (ms.drop (ms.length - k)) + a) (dist a b c s (ms.drop (ms.length - 1 - k)) + b)) (dist a b c s (ms.drop (ms.length - 1 - k + 1))) = dist a b c (x :: s) (ms.drop (ms.length - (k + 1))) := by
          rw [ek2, d, ek, if_pos hyx]
        rw [nc]
        refine ⟨_, rfl, .inl ⟨rfl, _, SqL.of w2⟩, _, rfl, F, _, _, rfl, rfl, w2, ?_, w1.mut nF, ?_, _, _, rfl⟩
        · rw [List.length_map, sizeLine_eq]; simp [fndD]; omega
        · rw [upd_same, fnd_snoc, vint_map]
      · rw [decide_eq_false hyx]
        refine iteF ⟨_, rfl, _, rfl, _, _, rfl, rfl, rw', _, _, _, rfl, rfl, SqL.of hrow', by rw [a1]; exact atI_nat (by rw [List.getElem?_map, rowD_at (by omega)]; rfl), _, rfl, _, _, rfl, rfl, ?_⟩
        refine ⟨_, rfl, _, rfl, _, _, rfl, rfl, _, rfl, _, rfl, rw', _, _, _, rfl, rfl, SqL.of hrow', atI_nat (by rw [List.getElem?_map, rowD_at (by omega)]; rfl), _, rfl, _, _, rfl, rfl, _, rfl, _, _, _, _, rfl, min3_int _ _ _, ?_⟩
        have nc : imin (imin (dist a b c (x :: s) (ms.drop (ms.length - k)) + a) (dist a b c s (ms.drop (ms.length - 1 - k)) + b)) (dist a b c s (ms.drop (ms.length - 1 - k + 1)) + c) = dist a b c (x :: s) (ms.drop (ms.length - (k + 1))) := by
          rw [ek2, d, ek, if_neg hyx]
        rw [nc]
        refine ⟨_, rfl, .inl ⟨rfl, _, SqL.of w2⟩, _, rfl, F, _, _, rfl, rfl, w2, ?_, w1.mut nF, ?_, _, _, rfl⟩
        · rw [List.length_map, sizeLine_eq]; simp [fndD]; omega
        · rw [upd_same, fnd_snoc, vint_map]
    · obtain ⟨w1, w2, y6, y12, rfl⟩ := p
      refine ⟨_, rfl, _, rfl, F, _, rfl, rfl, SqL.of w2, fun r nr => ?_⟩
      rw [← List.map_reverse, fnd_rev, ← es]
      have xr := Ex.new (o := HO.lst ((rowD a b c (gs.drop (gs.length - (i + 1))) ms).map V.int)) nr
      have hr2 : upd H' r (HO.lst ((rowD a b c (gs.drop (gs.length - (i + 1))) ms).map V.int)) r = some (.lst ((rowD a b c (gs.drop (gs.length - (i + 1))) ms).map V.int)) := upd_same
      generalize upd H' r (HO.lst ((rowD a b c (gs.drop (gs.length - (i + 1))) ms).map V.int)) = H5 at xr hr2 ⊢
      have x5 := w1.trans xr
      have hR5 := x5 _ _ hR
      refine ⟨_, rfl, .inl ⟨rfl, _, SqL.of hR5⟩, _, rfl, R, _, _, rfl, rfl, hR5, ?_, (z1.trans x5).mut nR0, rs ++ [r], r, _, _, _, _, _, rfl, ?_, ?_, ?_, ?_⟩
      · rw [List.length_map, sizeLine_eq]; omega
      · rw [upd_same, List.map_append]; rfl
      · rw [List.length_append, lr]; rfl
      · have ne : ∀ q : Addr, ∀ t : List Int, t ≠ [] → H5 q = some (.lst (t.map V.int)) → q ≠ R := fun q t ht h z => by
          subst z
          rw [hR5] at h
          match rs, lr, t, ht, h with
          | u :: us, _, v :: vs, _, h => simp at h
        have nz : ∀ g, rowD a b c g ms ≠ [] := fun g h => by
          have := congrArg List.length h
          rw [rowD_len] at this
          simp at this
        intro j q e
        rcases Nat.lt_trichotomy j rs.length with h | h | h
        · rw [List.getElem?_append_left h] at e
          have hq := x5 _ _ (hrs j q e)
          rw [upd_ne (ne _ _ (nz _) hq)]
          exact hq
        · subst h
          rw [List.getElem?_append_right (Nat.le_refl _), Nat.sub_self] at e
          cases e
          rw [upd_ne (ne _ _ (nz _) hr2), lr]
          exact hr2
        · rw [List.getElem?_append_right (by omega)] at e
          have : ([r] : List Addr)[j - rs.length]? = none := List.getElem?_eq_none (by simp; omega)
          rw [this] at e; cases e
      · rw [List.getElem?_append_right (by omega), lr, Nat.sub_self]; rfl
  · obtain ⟨z1, rs, rw', y6, y9, y10, y11, y12, rfl, hR, lr, hrs, hrw⟩ := p
    rw [sz] at lr
    refine ⟨_, rfl, _, rfl, R, _, rfl, rfl, SqL.of hR, fun p np => q p _ (z1.trans (Ex.new np)) ⟨rs.reverse, ?_, ?_, fun i r e => ?_⟩⟩
    · rw [upd_same, List.map_reverse]
    · rw [List.length_reverse, lr]
    · have il : i < rs.length := by
        have := (List.getElem?_eq_some_iff.mp e).1
        rwa [List.length_reverse] at this
      rw [List.getElem?_reverse il] at e
      have := hrs _ r e
      have e2 : gs.length - (rs.length - 1 - i) = i := by omega
      rw [e2] at this
      exact (Ex.new np) _ _ this
end
end Sk

/-! least_script. -/
namespace Sk
open PySem PySem.Spec PyProof.Rows L2 Evl
abbrev NLea : List Str := ["given", "made", "put", "drop", "swap", "costs", "steps", "at", "place", "cost", "same"]
theorem scLea : FnScope NLea ["given", "made", "put", "drop", "swap"] (defScope sLeast) := ⟨rfl, rfl, rfl, by decide +kernel, rfl, by decide +kernel, by decide +kernel⟩
def spLea (C : Addr) : Sp := fun vs H Q _ => ∃ (g m : List Nat) (a b c : Int), vs = [.str (tx g), .str (tx m), .int a, .int b, .int c] ∧ g.length ≤ 1000 ∧ m.length ≤ 1000 ∧ ∀ x H', Ex H H' → ScAt C H' x (walkE a b c g m) → Q (.ref x) H'
theorem walk_np (a b c : Int) (y : Nat) (m : List Nat) : walkE a b c [] (y :: m) = .put y :: walkE a b c [] m := by rw [walkE]
theorem walk_dn (a b c : Int) (x : Nat) (g : List Nat) : walkE a b c (x :: g) [] = .drop x :: walkE a b c g [] := by rw [walkE]
theorem walk_nn (a b c : Int) : walkE a b c [] [] = [] := by rw [walkE]
theorem walk_cc (a b c : Int) (x y : Nat) (g m : List Nat) : walkE a b c (x :: g) (y :: m) = if dist a b c (x :: g) (y :: m) = b + dist a b c g (y :: m) then .drop x :: walkE a b c g (y :: m) else if dist a b c (x :: g) (y :: m) = a + dist a b c (x :: g) m then .put y :: walkE a b c (x :: g) m else (if x = y then .keep x else .swap x y) :: walkE a b c g m := by rw [walkE]
abbrev kwL : List (Str × V) := [("put", .int 1), ("drop", .int 1), ("swap", .int 1)]
section
variable {P : Program} {w : World} {K : PySem.W.Frag} {mg : Str → Option Value} {base : Heap} {f fB fi : Addr} {fd dB fid : FuncData} {C : Addr}
theorem ok_lea (F : Fun K "least_script" "least_script" sLeast f fd) (B : Blt mg) (mC : mg "Script" = some (.ref C)) (M : Mk K C fi) (Gi : FnOk P w K mg base CX0 4 fi fid ["self", "steps"] (spIni C)) (bi : Binds K fid ["self", "steps"] []) (Bh : Lt P w K mg base fB dB "costs_behind" ["given", "made", "put", "drop", "swap"] 1 spBeh) :
    FnOk P w K mg base CX0 6 f fd ["given", "made", "put", "drop", "swap"] (spLea C) := by
  refine F.ok scLea (fun vs H Q E h => ?_) (fun cdv A outer s H vs Q E hr h => ?_)
  · obtain ⟨_, _, _, _, _, rfl, _⟩ := h
    rfl
  have nd := scLea.nd
  have hr1 : Room 1 _ := hr.mono (by decide)
  obtain ⟨gs, ms, a, b, c, rfl, lg, lm, q⟩ := h
  refine ⟨_, pss_cons (ps_set (i := 5) nd rfl (Or.inl rfl) (pe_call Bh.g hr1 rfl Bh.m Bh.k Bh.b .nil pass0 (pa_cons (pv 0) (pa_cons (pv 1) (pa_cons (pv 2) (pa_cons (pv 3) (pa_cons (pv 4) pa_nil)))))))
    (pss_cons (ps_set (i := 6) nd rfl (Or.inl rfl) (pe_lst pa_nil)) (pss_cons (ps_set (i := 7) nd rfl (Or.inl rfl) pe_int) (pss_cons (ps_set (i := 8) nd rfl (Or.inl rfl) pe_int)
    (pss_cons (ps_while PassesOwn.never (PW.pt (pw_or (pt_cmpR op_lt (pv 7) (pe_callB call_len_str rfl B.len PySem.boot_len (pa_cons (pv 0) pa_nil)) (nomark _)) (pw_or1 (pt_cmpR op_lt (pv 8) (pe_callB call_len_str rfl B.len PySem.boot_len (pa_cons (pv 1) pa_nil)) (nomark _)))))
      (pss_cons (ps_set (i := 9) nd rfl (Or.inl rfl) (pe_ix ix_list (pe_ix ix_list (pv 5) (pv 7) (fun _ _ => rfl)) (pv 8) (fun _ _ => rfl)))
      (pss_one (ps_if (PW.pt (pw_and (pt_cmpR op_lt (pv 7) (pe_callB call_len_str rfl B.len PySem.boot_len (pa_cons (pv 0) pa_nil)) (nomark _)) (pw_and1 (pt_cmpR op_eq (pv 9) (pe_op op_add (pv 3) (pe_ix ix_list (pe_ix ix_list (pv 5) (pe_op op_add (pv 7) pe_int) (fun _ _ => rfl)) (pv 8) (fun _ _ => rfl))) (nomark _)))))
        (pss_cons (ps_expr (pe_bm PySem.F.plainAttrs_list PySem.F.slot_list_append PySem.F.type_list_append mt_append (pv 6) (pa_cons (pe_tup (pa_cons pe_str (pa_cons (pe_ix ix_str (pv 0) (pv 7) (fun _ _ => rfl)) pa_nil))) pa_nil))) (pss_one (ps_aug (i := 7) nd rfl (Or.inl rfl) pe_int ip_add)))
        (pss_one (ps_if (PW.pt (pw_and (pt_cmpR op_lt (pv 8) (pe_callB call_len_str rfl B.len PySem.boot_len (pa_cons (pv 1) pa_nil)) (nomark _)) (pw_and1 (pt_cmpR op_eq (pv 9) (pe_op op_add (pv 2) (pe_ix ix_list (pe_ix ix_list (pv 5) (pv 7) (fun _ _ => rfl)) (pe_op op_add (pv 8) pe_int) (fun _ _ => rfl))) (nomark _)))))
          (pss_cons (ps_expr (pe_bm PySem.F.plainAttrs_list PySem.F.slot_list_append PySem.F.type_list_append mt_append (pv 6) (pa_cons (pe_tup (pa_cons pe_str (pa_cons (pe_ix ix_str (pv 1) (pv 8) (fun _ _ => rfl)) pa_nil))) pa_nil))) (pss_one (ps_aug (i := 8) nd rfl (Or.inl rfl) pe_int ip_add)))
          (pss_cons (ps_set (i := 10) nd rfl (Or.inl rfl) (pe_cmpR op_eq (pe_ix ix_str (pv 0) (pv 7) (fun _ _ => rfl)) (pe_ix ix_str (pv 1) (pv 8) (fun _ _ => rfl)) (nomark _)))
          (pss_cons (ps_expr (pe_bm PySem.F.plainAttrs_list PySem.F.slot_list_append PySem.F.type_list_append mt_append (pv 6) (pa_cons (pe_ifExp (pt_val (pv 10)) (pe_tup (pa_cons pe_str (pa_cons (pe_ix ix_str (pv 0) (pv 7) (fun _ _ => rfl)) pa_nil))) (pe_tup (pa_cons pe_str (pa_cons (pe_ix ix_str (pv 0) (pv 7) (fun _ _ => rfl)) (pa_cons (pe_ix ix_str (pv 1) (pv 8) (fun _ _ => rfl)) pa_nil))))) pa_nil)))
          (pss_cons (ps_aug (i := 7) nd rfl (Or.inl rfl) pe_int ip_add) (pss_one (ps_aug (i := 8) nd rfl (Or.inl rfl) pe_int ip_add)))))))))))
    (pss_one (ps_ret (pe_make M Gi hr rfl mC bi .nil pass0 (pa_cons (pv 6) pa_nil)))))))), ?_⟩
  have lt0 : (tx gs).length ≤ sizeLine := line_le (by rw [tx_len]; omega)
  have lt1 : (tx ms).length ≤ sizeLine := line_le (by rw [tx_len]; omega)
  refine ⟨_, rfl, _, rfl, _, rfl, _, rfl, _, rfl, gs, ms, a, b, c, rfl, lg, lm, fun p H1 x1 ⟨rs, hp, lr, hrs⟩ => ?_⟩
  refine ⟨nle' (by show 0 ≤ 1000; decide), fun L nL => ?_⟩
  refine ⟨fun m σ H' => ∃ (i j : Nat) (acc : List V) (done : List (Ed Nat)) (y9 y10 : Option V), m = (gs.length - i) + (ms.length - j) ∧ i ≤ gs.length ∧ j ≤ ms.length ∧ σ = [some (.str (tx gs)), some (.str (tx ms)), some (.int a), some (.int b), some (.int c), some (.ref p), some (.ref L), some (.int (i : Int)), some (.int (j : Int)), y9, y10] ∧ Ex H1 (Hd L H') ∧ H' L = some (.lst acc) ∧
      DqAll (Hd L H') acc (done.map edD) ∧ done ++ walkE a b c (gs.drop i) (ms.drop j) = walkE a b c gs ms ∧ acc.length ≤ i + j, ⟨_, 0, 0, [], [], none, none, rfl, Nat.zero_le _, Nat.zero_le _, rfl, fun c o e => hd_of (ne_of_none e nL) (by rw [upd_ne (ne_of_none e nL)]; exact e), upd_same, .nil, rfl, Nat.le_refl _⟩, ?_⟩
  rintro m σ H' ⟨i, j, acc, done, y9, y10, rfl, li, lj, rfl, x0, hL', hacc, hsum, la⟩
  have i1 : (i : Int) + 1 = ((i + 1 : Nat) : Int) := by omega
  have j1 : (j : Int) + 1 = ((j + 1 : Nat) : Int) := by omega
  have hp' : H' p = some (.lst (rs.map V.ref)) := hd_le _ _ (x0 _ _ hp)
  have cell : ∀ i', i' ≤ gs.length → ∃ r, (rs.map V.ref)[i']? = some (.ref r) ∧ H' r = some (.lst ((rowD a b c (gs.drop i') ms).map V.int)) ∧ ∀ j', j' ≤ ms.length → ((rowD a b c (gs.drop i') ms).map V.int)[j']? = some (.int (dist a b c (gs.drop i') (ms.drop j'))) := fun i' h => by
    have hi : i' < rs.length := by omega
    exact ⟨rs[i'], by rw [List.getElem?_map, List.getElem?_eq_getElem hi]; rfl, hd_le _ _ (x0 _ _ (hrs _ _ (List.getElem?_eq_getElem hi))), fun j' h' => by rw [List.getElem?_map, rowD_at h']; rfl⟩
  obtain ⟨rI, cI⟩ := cell i li
  have tlg : (tx gs).cps.toList = gs := by simp [tx]
  have tlm : (tx ms).cps.toList = ms := by simp [tx]
  have lti : i < gs.length → decide ((i : Int) < (((tx gs).length : Nat) : Int)) = true := fun z => decide_eq_true (by rw [tx_len]; omega)
  have ltj : j < ms.length → decide ((j : Int) < (((tx ms).length : Nat) : Int)) = true := fun z => decide_eq_true (by rw [tx_len]; omega)
  have gei : gs.drop i = [] → decide ((i : Int) < (((tx gs).length : Nat) : Int)) = false := fun z => decide_eq_false (by have := congrArg List.length z; rw [tx_len]; simp at this; omega)
  have gej : ms.drop j = [] → decide ((j : Int) < (((tx ms).length : Nat) : Int)) = false := fun z => decide_eq_false (by have := congrArg List.length z; rw [tx_len]; simp at this; omega)
  have lsz : acc.length < sizeLine := by rw [sizeLine_eq]; omega
  have hdX : ∀ {t : Addr} {o : HO}, H' t = none → Ex (Hd L H') (Hd L (upd H' t o)) := fun nt b o e => hd_of (hd_some e).1 ((Ex.new nt) _ _ (hd_some e).2)
  have atG : ∀ {x g'}, gs.drop i = x :: g' → i < gs.length ∧ atI (tx gs).cps.toList (i : Int) = some x ∧ gs.drop (i + 1) = g' := fun h => by
    obtain ⟨l1, l2, l3⟩ := drop_cons h
    exact ⟨l1, by rw [tlg]; exact atI_nat l2, l3⟩
  have atM : ∀ {y m'}, ms.drop j = y :: m' → j < ms.length ∧ atI (tx ms).cps.toList (j : Int) = some y ∧ ms.drop (j + 1) = m' := fun h => by
    obtain ⟨l1, l2, l3⟩ := drop_cons h
    exact ⟨l1, by rw [tlm]; exact atI_nat l2, l3⟩
  -- what a turn leaves
  have nxt : ∀ (e : Ed Nat) (i' j' : Nat) (t : Addr) (y9 y10 : Option V), H' t = none → (gs.length - i') + (ms.length - j') < (gs.length - i) + (ms.length - j) → i' ≤ gs.length → j' ≤ ms.length → i + j + 1 ≤ i' + j' → walkE a b c (gs.drop i) (ms.drop j) = e :: walkE a b c (gs.drop i') (ms.drop j') →
      ∃ m', m' < gs.length - i + (ms.length - j) ∧ ∃ (i j : Nat) (acc' : List V) (done : List (Ed Nat)) (z9 z10 : Option V), m' = (gs.length - i) + (ms.length - j) ∧ i ≤ gs.length ∧ j ≤ ms.length ∧ [some (V.str (tx gs)), some (.str (tx ms)), some (.int a), some (.int b), some (.int c), some (.ref p), some (.ref L), some (.int ((i' : Nat) : Int)), some (.int ((j' : Nat) : Int)), y9, y10] = [some (.str (tx gs)), some (.str (tx ms)), some (.int a), some (.int b), some (.int c), some (.ref p), some (.ref L), some (.int (i : Int)), some (.int (j : Int)), z9, z10] ∧
        Ex H1 (Hd L (upd (upd H' t (.tup (edV e))) L (.lst (acc ++ [.ref t])))) ∧ upd (upd H' t (.tup (edV e))) L (.lst (acc ++ [.ref t])) L = some (.lst acc') ∧ DqAll (Hd L (upd (upd H' t (.tup (edV e))) L (.lst (acc ++ [.ref t])))) acc' (done.map edD) ∧ done ++ walkE a b c (gs.drop i) (ms.drop j) = walkE a b c gs ms ∧ acc'.length ≤ i + j := fun e i' j' t y9 y10 nt lt h1 h2 h3 ew => by
    refine ⟨_, lt, i', j', acc ++ [.ref t], done ++ [e], y9, y10, rfl, h1, h2, rfl, ?_, upd_same, ?_, ?_, by simp; omega⟩
    · rw [hd_upd_]; exact x0.trans (hdX nt)
    · rw [hd_upd_, List.map_append]
      exact (hacc.mono (hdX nt)).snoc (ed_of (hd_of (ne_of_none hL' nt).symm upd_same))
    · rw [← hsum, ew, List.append_assoc]; rfl
  cases hG : gs.drop i with
  | nil =>
    refine ⟨_, rfl, _, rfl, _, rfl, lt0, _, _, rfl, rfl, _, rfl, ?_⟩
    rw [gei hG]
    refine iteF ⟨_, rfl, _, rfl, _, rfl, lt1, _, _, rfl, rfl, _, rfl, ?_⟩
    cases hM : ms.drop j with
    | nil =>
      rw [gej hM]
      refine iteF ⟨_, rfl, ?_⟩
      rw [hG, hM, walk_nn, List.append_nil] at hsum
      subst hsum
      have wk := walk_ok (a := a) (b := b) (c := c) _ gs ms (Nat.le_refl _)
      exact mk_sc hL' (hacc.mono hd_le) wk.wo (by have := wk.wl; omega) fun x H2 x2 nx sc => q x H2 ((x1.trans (x0.trans hd_le)).trans x2) sc
    | cons y m' =>
      obtain ⟨jl, my, mj⟩ := atM hM
      rw [ltj jl]
      refine iteT ⟨_, fun σ' H'' z => z, ?_⟩
      refine ⟨_, rfl, _, rfl, p, _, _, _, rfl, rfl, SqL.of hp', atI_nat cI.1, _, rfl, _, _, _, _, rfl, rfl, SqL.of cI.2.1, atI_nat (cI.2.2 _ lj), ?_⟩
      refine ⟨_, rfl, _, rfl, _, rfl, lt0, _, _, rfl, rfl, _, rfl, ?_⟩
      rw [gei hG]
      refine iteF ⟨_, rfl, _, rfl, _, rfl, lt1, _, _, rfl, rfl, _, rfl, ?_⟩
      rw [ltj jl]
      refine iteT ⟨_, rfl, _, rfl, _, rfl, _, rfl, p, _, _, _, rfl, rfl, SqL.of hp', atI_nat cI.1, _, rfl, _, _, rfl, rfl, _, _, _, _, rfl, rfl, SqL.of cI.2.1, by rw [j1]; exact atI_nat (cI.2.2 _ jl), _, _, rfl, rfl, rfl, _, rfl, ?_⟩
      have eq1 : dist a b c (gs.drop i) (ms.drop j) = a + dist a b c (gs.drop i) (ms.drop (j + 1)) := by rw [hG, hM, mj, dist_np]; omega
      rw [decide_eq_true (by rw [eq1])]
      refine iteT ⟨_, rfl, .inl ⟨rfl, _, SqL.of hL'⟩, _, rfl, _, rfl, _, _, y, rfl, rfl, lt1, my, nle' (by show 2 ≤ 1000; decide), fun t nt => ⟨L, acc, _, rfl, rfl, (Ex.new nt) _ _ hL', lsz, _, rfl, _, _, rfl, rfl, ?_⟩⟩
      exact nxt (.put y) i (j + 1) t _ _ nt (by omega) li (by omega) (by omega) (by rw [hG, hM, mj, walk_np])
  | cons x g' =>
    obtain ⟨il, gx, gi⟩ := atG hG
    obtain ⟨rJ, cJ⟩ := cell (i + 1) il
    refine ⟨_, rfl, _, rfl, _, rfl, lt0, _, _, rfl, rfl, _, rfl, ?_⟩
    rw [lti il]
    refine iteT ⟨_, fun σ' H'' z => z, ?_⟩
    refine ⟨_, rfl, _, rfl, p, _, _, _, rfl, rfl, SqL.of hp', atI_nat cI.1, _, rfl, _, _, _, _, rfl, rfl, SqL.of cI.2.1, atI_nat (cI.2.2 _ lj), ?_⟩
    refine ⟨_, rfl, _, rfl, _, rfl, lt0, _, _, rfl, rfl, _, rfl, ?_⟩
    rw [lti il]
    refine iteT ⟨_, rfl, _, rfl, _, rfl, _, rfl, _, _, rfl, rfl, p, _, _, _, rfl, rfl, SqL.of hp', by rw [i1]; exact atI_nat cJ.1, _, rfl, _, _, _, _, rfl, rfl, SqL.of cJ.2.1, atI_nat (cJ.2.2 _ lj), _, _, rfl, rfl, rfl, _, rfl, ?_⟩
    by_cases k1 : dist a b c (gs.drop i) (ms.drop j) = b + dist a b c (gs.drop (i + 1)) (ms.drop j)
    · rw [decide_eq_true (by rw [k1])]
      refine iteT ⟨_, rfl, .inl ⟨rfl, _, SqL.of hL'⟩, _, rfl, _, rfl, _, _, x, rfl, rfl, lt0, gx, nle' (by show 2 ≤ 1000; decide), fun t nt => ⟨L, acc, _, rfl, rfl, (Ex.new nt) _ _ hL', lsz, _, rfl, _, _, rfl, rfl, ?_⟩⟩
      exact nxt (.drop x) (i + 1) j t _ _ nt (by omega) (by omega) lj (by omega) (by cases hM : ms.drop j with | nil => rw [hG, gi, walk_dn] | cons y m' => rw [hG, gi, walk_cc, if_pos (by rw [← hM, ← hG, k1, gi])])
    · rw [decide_eq_false (fun z => k1 (by injection z))]
      refine iteF ⟨_, rfl, _, rfl, _, rfl, lt1, _, _, rfl, rfl, _, rfl, ?_⟩
      cases hM : ms.drop j with
      | nil => exact absurd (by rw [hG, gi, hM, dist_dn]; omega) k1
      | cons y m' =>
        obtain ⟨jl, my, mj⟩ := atM hM
        rw [ltj jl]
        refine iteT ⟨_, rfl, _, rfl, _, rfl, _, rfl, p, _, _, _, rfl, rfl, SqL.of hp', atI_nat cI.1, _, rfl, _, _, rfl, rfl, _, _, _, _, rfl, rfl, SqL.of cI.2.1, by rw [j1]; exact atI_nat (cI.2.2 _ jl), _, _, rfl, rfl, rfl, _, rfl, ?_⟩
        rw [hG, gi, hM] at k1
        by_cases k2 : dist a b c (gs.drop i) (y :: m') = a + dist a b c (gs.drop i) (ms.drop (j + 1))
        · rw [decide_eq_true (by rw [k2])]
          refine iteT ⟨_, rfl, .inl ⟨rfl, _, SqL.of hL'⟩, _, rfl, _, rfl, _, _, y, rfl, rfl, lt1, my, nle' (by show 2 ≤ 1000; decide), fun t nt => ⟨L, acc, _, rfl, rfl, (Ex.new nt) _ _ hL', lsz, _, rfl, _, _, rfl, rfl, ?_⟩⟩
          exact nxt (.put y) i (j + 1) t _ _ nt (by omega) li (by omega) (by omega) (by rw [hG, mj] at k2; rw [hG, hM, mj, walk_cc, if_neg k1, if_pos k2])
        · rw [decide_eq_false (fun z => k2 (by injection z))]
          refine iteF ?_
          rw [hG, mj] at k2
          refine ⟨_, rfl, _, rfl, _, _, x, rfl, rfl, lt0, gx, _, rfl, _, rfl, _, _, y, rfl, rfl, lt1, my, rfl, ?_⟩
          by_cases e : x = y
          · subst e
            rw [decide_eq_true rfl]
            refine ⟨_, rfl, .inl ⟨rfl, _, SqL.of hL'⟩, _, rfl, true, rfl, iteT ⟨_, rfl, _, rfl, _, _, x, rfl, rfl, lt0, gx, nle' (by show 2 ≤ 1000; decide), fun t nt => ⟨L, acc, _, rfl, rfl, (Ex.new nt) _ _ hL', lsz, _, rfl, _, _, rfl, rfl, _, rfl, _, _, rfl, rfl, ?_⟩⟩⟩
            exact nxt (.keep x) (i + 1) (j + 1) t _ _ nt (by omega) (by omega) (by omega) (by omega) (by rw [hG, hM, gi, mj, walk_cc, if_neg k1, if_neg k2, if_pos rfl])
          · rw [decide_eq_false (fun z => e (one_inj (by injection z)))]
            refine ⟨_, rfl, .inl ⟨rfl, _, SqL.of hL'⟩, _, rfl, false, rfl, iteF ⟨_, rfl, _, rfl, _, _, x, rfl, rfl, lt0, gx, _, rfl, _, rfl, _, _, y, rfl, rfl, lt1, my, nle' (by show 3 ≤ 1000; decide), fun t nt => ⟨L, acc, _, rfl, rfl, (Ex.new nt) _ _ hL', lsz, _, rfl, _, _, rfl, rfl, _, rfl, _, _, rfl, rfl, ?_⟩⟩⟩
            exact nxt (.swap x y) (i + 1) (j + 1) t _ _ nt (by omega) (by omega) (by omega) (by omega) (by rw [hG, hM, gi, mj, walk_cc, if_neg k1, if_neg k2, if_neg e])
end
end Sk


/-! What the law draws: words, signs, prices. -/
namespace Sk
open PySem PySem.Spec PyProof.Rows L2 Evl
theorem chs_new {K : PySem.W.Frag} {H : Hp} {st p : Addr} {xs : List V} {P : V → Prop} (s : Strm st H) (hp : H p = none) (hne : xs ≠ []) (hl : xs.length ≤ 100000) (h : ∀ v ∈ xs, P v) : Chs K (Hd st (upd H p (.lst xs))) (.ref p) P :=
  .inl ⟨p, xs, rfl, .inl (SqL.of (hd_of (s.ne hp) upd_same)), hne, hl, h⟩
structure Drw (P : Program) (w : World) (K : PySem.W.Frag) (mg : Str → Option Value) (base : Heap) (fD fC : Addr) (dD dC : FuncData) : Prop where
  gD : FnOk P w K mg base CX0 1 fD dD ["stream", "size"] spDraw
  bD : Binds K dD ["stream", "size"] []
  kD : PySem.W.keepIn K (.ref fD) = true
  mD : mg "_law_draw" = some (.ref fD)
  gC : FnOk P w K mg base CX0 2 fC dC ["stream", "items"] (spChoose K)
  bC : Binds K dC ["stream", "items"] []
  kC : PySem.W.keepIn K (.ref fC) = true
  mC : mg "_law_choose" = some (.ref fC)
theorem scWord : FnScope ["stream", "high", "signs", "nth"] ["stream", "high", "signs"] (defScope sWord) := ⟨rfl, rfl, rfl, by decide +kernel, rfl, by decide +kernel, by decide +kernel⟩
theorem scSigns : FnScope ["stream", "some"] ["stream"] (defScope sSigns) := ⟨rfl, rfl, rfl, by decide +kernel, rfl, by decide +kernel, by decide +kernel⟩
def SgOk (z : Str) : Prop := z.cps.toList ≠ [] ∧ z.length ≤ 100 ∧ ∀ c ∈ z.cps.toList, c < 1114112
def spWord : Sp := fun vs H Q _ => ∃ (st : Addr) (h : Nat) (z : Str), vs = [.ref st, .int h, .str z] ∧ Strm st H ∧ h ≤ 1000 ∧ SgOk z ∧ ∀ cs H', cs.length ≤ h → (∀ c ∈ cs, c < 1114112) → Aft st H H' → Q (.str (tx cs)) H'
def spSigns : Sp := fun vs H Q _ => ∃ st : Addr, vs = [.ref st] ∧ Strm st H ∧ ∀ z H', SgOk z → Aft st H H' → Q (.str z) H'
def PriOk (H : Hp) (v : V) (a b c : Int) : Prop := ∃ p, v = .ref p ∧ H p = some (.tup [.int a, .int b, .int c])
def spPri : Sp := fun vs H Q _ => ∃ st : Addr, vs = [.ref st] ∧ Strm st H ∧ ∀ v a b c H', 0 ≤ a → 0 ≤ b → 0 ≤ c → PriOk (Hd st H') v a b c → Aft st H H' → Q v H'
def spMade : Sp := fun vs H Q _ => ∃ (l : Addr) (ws : List V) (es : List (Ed Nat)), vs = [.ref l] ∧ H l = some (.lst ws) ∧ DqAll H ws (es.map edD) ∧ es.length ≤ 100000 ∧ ∀ H', Ex H H' → Q (.str (tx (madeE es))) H'
section
variable {P : Program} {w : World} {K : PySem.W.Frag} {mg : Str → Option Value} {base : Heap} {f g fD fC : Addr} {fd gd dD dC : FuncData}
theorem ok_word (F : Fun K "_law_word" "_law_word" sWord f fd) (W : Drw P w K mg base fD fC dD dC) (B : Blt mg) : FnOk P w K mg base CX0 3 f fd ["stream", "high", "signs"] spWord := by
  refine F.ok scWord (fun vs H Q E h => ?_) (fun cdv A outer s H vs Q E hr h => ?_)
  · obtain ⟨_, _, _, rfl, _⟩ := h
    rfl
  obtain ⟨st, h, z, rfl, hst, lh, hz, q⟩ := h
  have nd := scWord.nd
  have hr1 : Room 1 _ := hr.mono (by decide)
  refine ⟨_, pss_one (ps_ret (pe_join pe_str (pe_lc (own := [("nth", 3)]) (g := gName 3) (tt := tYes) (te := tCall (spChoose K) [] E0 (tCons (tVar 0) (tCons (tVar 2) tNil))) rfl nd (pi_range1 rfl B.range (pa_cons (pe_call W.gD hr1 rfl W.mD W.kD W.bD .nil pass0 (pa_cons (pv 0) (pa_cons (pe_op op_add (pv 1) pe_int) pa_nil))) pa_nil))
      (blkOk_by (N := ["stream", "high", "signs", "nth"]) (sc := defScope sWord) (by decide +kernel)) (fun _ _ _ _ _ => pg_name (i := 3) nd rfl (Or.inl rfl)) (fun _ _ _ _ _ => pts_nil) (fun _ _ _ _ _ => pe_call W.gC hr rfl W.mC W.kC W.bC .nil pass0 (pa_cons (pv 0) (pa_cons (pv 2) pa_nil)))))), ?_⟩
  refine ⟨⟨_, rfl⟩, _, rfl, _, rfl, _, _, rfl, rfl, st, _, rfl, hst, by omega, by omega, fun k H1 k0 k1 A1 => ⟨k, rfl, by omega, by omega, fun L hL => ?_⟩⟩
  have nst := A1.sm.ne hL
  refine lc_range (lo := 0) (fun i H' => Aft st H1 H' ∧ ∃ cs : List Nat, cs.length = i ∧ (∀ c ∈ cs, c < 1114112) ∧ H' L = some (.lst (cs.map fun c => V.str (one c)))) ⟨(Aft.of A1.sm).new hL, [], rfl, (fun _ m => nomatch m), upd_same⟩ (fun i H' hi p => ?_) (fun H' p => ?_)
  · obtain ⟨pA, cs, c1, cv, c2⟩ := p
    refine ⟨rfl, tyes ⟨_, rfl, _, rfl, st, _, fun v => ∃ c, v = .str (one c) ∧ c < 1114112, rfl, pA.sm, .inr ⟨z, rfl, hz.1, by have := hz.2.1; omega, fun c m => ⟨c, rfl, hz.2.2 c m⟩⟩, fun v H2 hv A2 => ?_⟩⟩
    obtain ⟨c, rfl, hc⟩ := hv
    have hL2 : H2 L = some (.lst (cs.map fun c => V.str (one c))) := hd_le _ _ (A2.gr _ _ (hd_of nst c2))
    refine ⟨_, hL2, by rw [sizeLine_eq, List.length_map]; omega, (pA.trans A2).mut nst (by unfold Hd; rw [if_neg nst]; exact hL), cs ++ [c], by simp [c1], (fun x m => (List.mem_append.mp m).elim (cv x) fun m => by cases List.mem_singleton.mp m; exact hc), by rw [upd_same, List.map_append]; rfl⟩
  · obtain ⟨pA, cs, c1, cv, c2⟩ := p
    have e0 : (Str.ofString "").length = 0 := rfl
    refine ⟨_, L, cs.map one, rfl, rfl, .inl (SqL.of (by rw [c2, List.map_map]; rfl)), by rw [sum_one, e0]; omega, ?_⟩
    rw [TL.join_eq]
    have e : Str.join (Str.ofString "") (cs.map one) = tx cs := join_tx cs
    rw [e]
    exact q cs H' (by omega) cv (A1.trans pA)
theorem ok_signs (F : Fun K "_law_signs" "_law_signs" sSigns f fd) (W : Drw P w K mg base fD fC dD dC) : FnOk P w K mg base CX0 3 f fd ["stream"] spSigns := by
  refine F.ok scSigns (fun vs H Q E h => ?_) (fun cdv A outer s H vs Q E hr h => ?_)
  · obtain ⟨_, rfl, _⟩ := h
    rfl
  obtain ⟨st, rfl, hst, q⟩ := h
  have nd := scSigns.nd
  refine ⟨_, pss_cons (ps_set (i := 1) nd rfl (Or.inl rfl) (pe_lst (pa_cons pe_str (pa_cons pe_str (pa_cons pe_str (pa_cons pe_str (pa_cons pe_str (pa_cons pe_str (pa_cons pe_str (pa_cons pe_str (pa_cons pe_str pa_nil)))))))))))
    (pss_one (ps_ret (pe_call W.gC hr rfl W.mC W.kC W.bC .nil pass0 (pa_cons (pv 0) (pa_cons (pe_op op_cat (pv 1) (pe_lst (pa_cons pe_str (pa_cons pe_str (pa_cons pe_str pa_nil))))) pa_nil))))), ?_⟩
  refine ⟨nle' (by show 9 ≤ 1000; decide), fun p np => ⟨_, rfl, _, rfl, nle' (by show 3 ≤ 1000; decide), fun r nr => ⟨p, r, _, _, rfl, rfl, (Ex.new nr) _ _ upd_same, upd_same, nle' (by show 12 ≤ 1000; decide), fun t nt => ?_⟩⟩⟩
  have A1 := (((Aft.of hst).new (o := HO.lst [.str "ab", .str "abc", .str "a", .str "xyz", .str "01", .str "a\n", .str "\"{}", .str "abcdefghijklmnopqrstuvwxyz", .str " !&~-"]) np).new (o := HO.lst [.str "aAbB", .str "Z_a^", .str "9,;B"]) nr)
  refine ⟨st, _, fun v => ∃ z, v = .str z ∧ SgOk z, rfl, (A1.new nt).sm, chs_new A1.sm nt (by simp) (by show 12 ≤ 100000; decide) (fun v m => ?_), fun v H2 hv A2 => ?_⟩
  · have m' : v ∈ ([V.str "ab", .str "abc", .str "a", .str "xyz", .str "01", .str "a\n", .str "\"{}", .str "abcdefghijklmnopqrstuvwxyz", .str " !&~-", .str "aAbB", .str "Z_a^", .str "9,;B"] : List V) := m
    simp only [List.mem_cons, List.not_mem_nil, or_false] at m'
    rcases m' with rfl | rfl | rfl | rfl | rfl | rfl | rfl | rfl | rfl | rfl | rfl | rfl <;> exact ⟨_, rfl, by decide +kernel, by decide +kernel, by decide +kernel⟩
  · obtain ⟨z, rfl, hz⟩ := hv
    exact q z H2 hz ((A1.new nt).trans A2)
end
end Sk


/-! What the law draws: steps from a text. -/
namespace Sk
open PySem PySem.Spec PyProof.Rows L2 Evl
theorem hdE {L : Addr} {A B : Hp} (x : Ex A B) : Ex (Hd L A) (Hd L B) := fun b o e => hd_of (hd_some e).1 (x _ _ (hd_some e).2)
theorem newR {st L p : Addr} {H : Hp} {o u : HO} (hL : H L = some u) (s : Strm st H) (np : H p = none) : Hd L (Hd st (upd H p o)) p = some o :=
  hd_of (ne_of_none hL np).symm (hd_of (s.ne np) upd_same)
theorem upR {st L p : Addr} {H : Hp} {o : HO} (np : H p = none) : Ex (Hd L (Hd st H)) (Hd L (Hd st (upd H p o))) := hdE (hdE (Ex.new np))
abbrev NSte : List Str := ["stream", "own", "signs", "found", "nth", "turn", "new", "some", "other"]
theorem scSte : FnScope NSte ["stream", "own", "signs"] (defScope sSteps) := ⟨rfl, rfl, rfl, by decide +kernel, rfl, by decide +kernel, by decide +kernel⟩
def ChOk (e : Ed Nat) : Prop := ∀ c ∈ e.inn ++ e.out, c < 1114112
def spSte : Sp := fun vs H Q _ => ∃ (st : Addr) (cs : List Nat) (z : Str), vs = [.ref st, .str (tx cs), .str z] ∧ Strm st H ∧ cs.length ≤ 1000 ∧ SgOk z ∧ (∀ c ∈ cs, c < 1114112) ∧
  ∀ p H' ws es, Aft st H H' → H p = none → p ≠ st → H' p = some (.lst ws) → DqAll (Hd p (Hd st H')) ws (es.map edD) → givenE es = cs → (∀ e ∈ es, Ed.ok e ∧ ChOk e) → es.length ≤ 3 * (cs.length + 1) → Q (.ref p) H'
/-- steps so far -/
def SteI (st L : Addr) (H' : Hp) (gv : List Nat) (m : Nat) : Prop := ∃ acc es, H' L = some (.lst acc) ∧ DqAll (Hd L (Hd st H')) acc (es.map edD) ∧ givenE es = gv ∧ (∀ e ∈ es, Ed.ok e ∧ ChOk e) ∧ es.length ≤ m
theorem SteI.snoc {st L : Addr} {H1 H2 : Hp} {gv : List Nat} {m : Nat} {e : Ed Nat} {v : V} (h : SteI st L H1 gv m) (nL : L ≠ st) (x : Ex (Hd st H1) (Hd st H2)) (hv : Dq (Hd L (Hd st H2)) v (edD e)) (oe : Ed.ok e ∧ ChOk e) (lm : m ≤ 100000) :
    ∃ acc, H2 L = some (.lst acc) ∧ acc.length < sizeLine ∧ SteI st L (upd H2 L (.lst (acc ++ [v]))) (gv ++ e.inn) (m + 1) := by
  obtain ⟨acc, es, h1, h2, h3, h4, h5⟩ := h
  have l : acc.length = es.length := by rw [h2.length, List.length_map]
  refine ⟨acc, hd_le _ _ (x _ _ (hd_of nL h1)), by rw [sizeLine_eq]; omega, acc ++ [v], es ++ [e], upd_same, ?_, by rw [given_app, h3]; simp [givenE], fun y m => ?_, by simp; omega⟩
  · have e1 : Hd L (Hd st (upd H2 L (.lst (acc ++ [v])))) = Hd L (Hd st H2) := by
      funext b
      unfold Hd
      split
      · rfl
      · split
        · rfl
        · rename_i n _
          rw [upd_ne n]
    rw [e1, List.map_append]
    exact (h2.mono (hdE x)).snoc hv
  · rcases List.mem_append.mp m with m | m
    · exact h4 y m
    · cases List.mem_singleton.mp m; exact oe
theorem SteI.up {st L : Addr} {H1 H2 : Hp} {gv : List Nat} {m : Nat} (h : SteI st L H1 gv m) (nL : L ≠ st) (x : Ex (Hd st H1) (Hd st H2)) : SteI st L H2 gv m := by
  obtain ⟨acc, es, h1, h2, h3, h4, h5⟩ := h
  exact ⟨acc, es, hd_le _ _ (x _ _ (hd_of nL h1)), h2.mono (hdE x), h3, h4, h5⟩
section
variable {P : Program} {w : World} {K : PySem.W.Frag} {mg : Str → Option Value} {base : Heap} {f g fD fC : Addr} {fd gd dD dC : FuncData}
theorem ok_ste (F : Fun K "_law_steps" "_law_steps" sSteps f fd) (W : Drw P w K mg base fD fC dD dC) (B : Blt mg) : FnOk P w K mg base CX0 3 f fd ["stream", "own", "signs"] spSte := by
  refine F.ok scSte (fun vs H Q E h => ?_) (fun cdv A outer s H vs Q E hr h => ?_)
  · obtain ⟨_, _, _, rfl, _⟩ := h
    rfl
  obtain ⟨st, cs, z, rfl, hst, lc, hz, hcs, q⟩ := h
  have nd := scSte.nd
  refine ⟨_, pss_cons (ps_set (i := 3) nd rfl (Or.inl rfl) (pe_lst pa_nil))
    (pss_cons (ps_for PassesOwn.never rfl (pi_range1 rfl B.range (pa_cons (pe_op op_add (pe_callB call_len_str rfl B.len PySem.boot_len (pa_cons (pv 1) pa_nil)) pe_int) pa_nil)) (pg_name (i := 4) nd rfl (Or.inl rfl))
      (pss_cons (ps_for PassesOwn.never rfl (pi_range1 rfl B.range (pa_cons (pe_call W.gC hr rfl W.mC W.kC W.bC .nil pass0 (pa_cons (pv 0) (pa_cons (pe_lst (pa_cons pe_int (pa_cons pe_int (pa_cons pe_int (pa_cons pe_int (pa_cons pe_int pa_nil)))))) pa_nil))) pa_nil)) (pg_name (i := 5) nd rfl (Or.inl rfl))
          (pss_one (ps_expr (pe_bm PySem.F.plainAttrs_list PySem.F.slot_list_append PySem.F.type_list_append mt_append (pv 3) (pa_cons (pe_tup (pa_cons pe_str (pa_cons (pe_call W.gC hr rfl W.mC W.kC W.bC .nil pass0 (pa_cons (pv 0) (pa_cons (pv 2) pa_nil))) pa_nil))) pa_nil)))))
      (pss_one (ps_if (pt_cmpR op_lt (pv 4) (pe_callB call_len_str rfl B.len PySem.boot_len (pa_cons (pv 1) pa_nil)) (nomark _))
        (pss_cons (ps_set (i := 6) nd rfl (Or.inl rfl) (pe_call W.gC hr rfl W.mC W.kC W.bC .nil pass0 (pa_cons (pv 0) (pa_cons (pv 2) pa_nil))))
        (pss_cons (ps_set (i := 7) nd rfl (Or.inl rfl) (pe_lst (pa_cons (pe_tup (pa_cons pe_str (pa_cons (pe_ix ix_str (pv 1) (pv 4) (fun _ _ => rfl)) pa_nil))) (pa_cons (pe_tup (pa_cons pe_str (pa_cons (pe_ix ix_str (pv 1) (pv 4) (fun _ _ => rfl)) pa_nil))) pa_nil))))
        (pss_cons (ps_set (i := 8) nd rfl (Or.inl rfl) (pe_op op_rep (pe_lst (pa_cons (pe_tup (pa_cons pe_str (pa_cons (pe_ix ix_str (pv 1) (pv 4) (fun _ _ => rfl)) (pa_cons (pv 6) pa_nil)))) pa_nil)) (pe_callTy call_int1 rfl B.int bt_int (pa_cons (pe_cmpR op_ne (pv 6) (pe_ix ix_str (pv 1) (pv 4) (fun _ _ => rfl)) (nomark _)) pa_nil))))
        (pss_one (ps_expr (pe_bm PySem.F.plainAttrs_list PySem.F.slot_list_append PySem.F.type_list_append mt_append (pv 3) (pa_cons (pe_call W.gC hr rfl W.mC W.kC W.bC .nil pass0 (pa_cons (pv 0) (pa_cons (pe_op op_cat (pv 7) (pv 8)) pa_nil))) pa_nil))))))) pss_nil))))
    (pss_one (ps_ret (pv 3)))), ?_⟩
  refine ⟨nle' (by show 0 ≤ 1000; decide), fun L hL => ?_⟩
  have nL := hst.ne hL
  have hLn : Hd st H L = none := by unfold Hd; rw [if_neg nL]; exact hL
  have tl : (tx cs).length ≤ sizeLine := line_le (by rw [tx_len]; omega)
  refine ⟨_, rfl, _, rfl, tl, _, _, rfl, rfl, _, rfl, by rw [tx_len]; omega, by rw [tx_len]; omega, for_range (lo := 0) (n := cs.length + 1) (fun i σ H' => Aft st H H' ∧ SteI st L H' (cs.take i) (3 * i) ∧ ∃ y4 y5 y6 y7 y8, σ = [some (.ref st), some (.str (tx cs)), some (.str z), some (.ref L), y4, y5, y6, y7, y8])
    ⟨(Aft.of hst).new hL, ⟨[], [], upd_same, .nil, rfl, (fun e m => nomatch m), Nat.zero_le _⟩, none, none, none, none, none, rfl⟩ (fun i σ H1 hi p => ?_) (fun σ H1 p => ?_)⟩
  · obtain ⟨A1, I1, y4, y5, y6, y7, y8, rfl⟩ := p
    -- some that are put
    refine ⟨_, rfl, nle' (by show 5 ≤ 1000; decide), fun p np => ⟨st, _, fun v => ∃ k : Int, v = .int k ∧ 0 ≤ k ∧ k ≤ 2, rfl, (A1.new np).sm, chs_new A1.sm np (by simp) (by show 5 ≤ 100000; decide) (fun v m => ?_), fun v H2 hv A2 => ?_⟩⟩
    · have m' : v ∈ ([V.int 0, .int 0, .int 0, .int 1, .int 2] : List V) := m
      simp only [List.mem_cons, List.not_mem_nil, or_false] at m'
      rcases m' with rfl | rfl | rfl | rfl | rfl <;> exact ⟨_, rfl, by decide, by decide⟩
    obtain ⟨k, rfl, k0, k2⟩ := hv
    have A12 := (A1.new np).trans A2
    have I2 := (I1.up nL (hdE (Ex.new np))).up nL A2.gr
    refine ⟨k, rfl, by omega, by omega, for_range (lo := 0) (n := k.toNat) (fun j σ H' => Aft st H H' ∧ SteI st L H' (cs.take i) (3 * i + j) ∧ ∃ y5, σ = [some (.ref st), some (.str (tx cs)), some (.str z), some (.ref L), some (.int ((0 : Nat) + (i : Nat) : Int)), y5, y6, y7, y8]) ⟨A12, I2, y5, rfl⟩ (fun j σ H3 hj p => ?_) (fun σ H3 p => ?_)⟩
    · obtain ⟨A3, I3, y5', rfl⟩ := p
      obtain ⟨acc, _, e1, _⟩ := id I3
      refine ⟨_, rfl, .inl ⟨rfl, _, SqL.of e1⟩, _, rfl, _, rfl, st, _, fun v => ∃ c, v = .str (one c) ∧ c < 1114112, rfl, A3.sm, .inr ⟨z, rfl, hz.1, by have := hz.2.1; omega, fun c m => ⟨c, rfl, hz.2.2 c m⟩⟩, fun v H4 hv A4 => ?_⟩
      obtain ⟨c, rfl, hcc⟩ := hv
      refine ⟨nle' (by show 2 ≤ 1000; decide), fun r nr => ?_⟩
      have A5 := (A3.trans A4).new (o := HO.tup [.str "put", .str (one c)]) nr
      have I4 := I3.up nL A4.gr
      obtain ⟨acc4, _, e4, _⟩ := id I4
      obtain ⟨acc', g1, g2, g3⟩ := I4.snoc (e := .put c) (v := .ref r) nL (hdE (Ex.new (o := HO.tup [.str "put", .str (one c)]) nr)) (ed_of (newR e4 A4.sm nr)) ⟨trivial, fun x m => by simp [Ed.inn, Ed.out] at m; subst m; exact hcc⟩ (by omega)
      refine ⟨L, acc', _, rfl, rfl, g1, g2, ?_⟩
      exact ⟨A5.mut nL hLn, by simpa [Ed.inn, Nat.add_assoc] using g3, _, rfl⟩
    obtain ⟨A3, I3, y5', rfl⟩ := p
    have lk : k.toNat ≤ 2 := by omega
    refine ⟨_, rfl, _, rfl, _, rfl, tl, _, _, rfl, rfl, _, rfl, ite2 (fun c => ?_) (fun c => ?_)⟩
    · have c' := of_decide_eq_true c
      rw [tx_len] at c'
      have ic : i < cs.length := by omega
      obtain ⟨a, ha⟩ : ∃ a, cs[i]? = some a := ⟨_, List.getElem?_eq_getElem ic⟩
      have hat : atI (tx cs).cps.toList (((0 : Nat) : Int) + ((i : Nat) : Int)) = some a := by
        have e : ((0 : Nat) : Int) + ((i : Nat) : Int) = ((i : Nat) : Int) := by omega
        rw [e]
        exact atI_nat (by simpa [tx] using ha)
      refine ⟨_, rfl, _, rfl, st, _, fun v => ∃ c, v = .str (one c) ∧ c < 1114112, rfl, A3.sm, .inr ⟨z, rfl, hz.1, by have := hz.2.1; omega, fun c m => ⟨c, rfl, hz.2.2 c m⟩⟩, fun v H4 hv A4 => ?_⟩
      obtain ⟨b, rfl, hbc⟩ := hv
      have hac : a < 1114112 := hcs a (List.mem_of_getElem? ha)
      have A34 := A3.trans A4
      have I4 := I3.up nL A4.gr
      obtain ⟨acc4, _, e4, _⟩ := id I4
      refine ⟨_, rfl, _, rfl, _, _, _, rfl, rfl, tl, hat, nle' (by show 2 ≤ 1000; decide), fun p1 n1 => ?_⟩
      refine ⟨_, rfl, _, rfl, _, _, _, rfl, rfl, tl, hat, nle' (by show 2 ≤ 1000; decide), fun p2 n2 => ⟨nle' (by show 2 ≤ 1000; decide), fun p3 n3 => ?_⟩⟩
      have d1 : Dq (Hd L (Hd st (upd H4 p1 (.tup (edV (.keep a)))))) (.ref p1) (edD (.keep a)) := ed_of (newR e4 A4.sm n1)
      have B1 := A34.new (o := HO.tup (edV (.keep a))) n1
      have e5 := (Ex.new (o := HO.tup (edV (.keep a))) n1) _ _ e4
      have d2 : Dq (Hd L (Hd st (upd (upd H4 p1 (.tup (edV (.keep a)))) p2 (.tup (edV (.drop a)))))) (.ref p2) (edD (.drop a)) := ed_of (newR e5 B1.sm n2)
      have B2 := B1.new (o := HO.tup (edV (.drop a))) n2
      have B3 : Aft st H (upd (upd (upd H4 p1 (.tup (edV (.keep a)))) p2 (.tup (edV (.drop a)))) p3 (.lst [.ref p1, .ref p2])) := B2.new (o := HO.lst [.ref p1, .ref p2]) n3
      have d1' : Dq (Hd L (Hd st (upd (upd (upd H4 p1 (.tup (edV (.keep a)))) p2 (.tup (edV (.drop a)))) p3 (.lst [.ref p1, .ref p2])))) (.ref p1) (edD (.keep a)) := (d1.mono (upR (o := HO.tup (edV (.drop a))) n2)).mono (upR (o := HO.lst [.ref p1, .ref p2]) n3)
      have d2' : Dq (Hd L (Hd st (upd (upd (upd H4 p1 (.tup (edV (.keep a)))) p2 (.tup (edV (.drop a)))) p3 (.lst [.ref p1, .ref p2])))) (.ref p2) (edD (.drop a)) := d2.mono (upR (o := HO.lst [.ref p1, .ref p2]) n3)
      have I5 : SteI st L (upd (upd (upd H4 p1 (.tup (edV (.keep a)))) p2 (.tup (edV (.drop a)))) p3 (.lst [.ref p1, .ref p2])) (cs.take i) (3 * i + k.toNat) := ((I4.up nL (hdE (Ex.new (o := HO.tup (edV (.keep a))) n1))).up nL (hdE (Ex.new (o := HO.tup (edV (.drop a))) n2))).up nL (hdE (Ex.new (o := HO.lst [.ref p1, .ref p2]) n3))
      have h3 : upd (upd (upd H4 p1 (.tup (edV (.keep a)))) p2 (.tup (edV (.drop a)))) p3 (.lst [.ref p1, .ref p2]) p3 = some (.lst [.ref p1, .ref p2]) := upd_same
      change (upd (upd H4 p1 (.tup (edV (.keep a)))) p2 (.tup (edV (.drop a)))) p3 = none at n3
      dsimp only [List.set, gName]
      show tAsg _ _ _ _ (upd (upd (upd H4 p1 (.tup (edV (.keep a)))) p2 (.tup (edV (.drop a)))) p3 (.lst [.ref p1, .ref p2]))
      generalize upd (upd (upd H4 p1 (.tup (edV (.keep a)))) p2 (.tup (edV (.drop a)))) p3 (.lst [.ref p1, .ref p2]) = H5 at B3 d1' d2' I5 h3 ⊢
      clear d1 d2 e4 e5 I4 I3 A34 B1 B2 n1 n2 n3
      obtain ⟨acc5, _, e5, _⟩ := id I5
      refine ⟨_, rfl, _, rfl, _, _, _, rfl, rfl, tl, hat, _, rfl, nle' (by show 3 ≤ 1000; decide), fun p4 n4 => ⟨nle' (by show 1 ≤ 1000; decide), fun p5 n5 => ?_⟩⟩
      have d4 : Dq (Hd L (Hd st (upd H5 p4 (.tup (edV (.swap a b)))))) (.ref p4) (edD (.swap a b)) := ed_of (newR e5 B3.sm n4)
      have u4 := upR (st := st) (L := L) (o := HO.tup (edV (.swap a b))) n4
      have u5 := upR (st := st) (L := L) (o := HO.lst [.ref p4]) n5
      have B4 := (B3.new (o := HO.tup (edV (.swap a b))) n4).new (o := HO.lst [.ref p4]) n5
      have I6 := (I5.up nL (hdE (Ex.new (o := HO.tup (edV (.swap a b))) n4))).up nL (hdE (Ex.new (o := HO.lst [.ref p4]) n5))
      have h3' := (Ex.new (o := HO.lst [.ref p4]) n5) _ _ ((Ex.new (o := HO.tup (edV (.swap a b))) n4) _ _ h3)
      have d1'' := (d1'.mono u4).mono u5
      have d2'' := (d2'.mono u4).mono u5
      have d4'' := d4.mono u5
      have h5 : upd (upd H5 p4 (.tup (edV (.swap a b)))) p5 (.lst [.ref p4]) p5 = some (.lst [.ref p4]) := upd_same
      have hk : (!decide (V.str (one b) = V.str (⟨#[a]⟩ : Str))) = decide (b ≠ a) := by
        by_cases ba : b = a
        · subst ba; simp [one]
        · rw [decide_eq_false (fun z => ba (one_inj (by injection z))), decide_eq_true ba]; rfl
      refine ⟨_, rfl, _, rfl, _, rfl, _, _, _, rfl, rfl, tl, hat, rfl, ?_⟩
      rw [hk]
      refine .inr ⟨_, rfl, p5, _, [.ref p4], rfl, rfl, h5, by split <;> decide, by split <;> decide, by rw [sizeLine_eq]; split <;> simp, fun p6 n6 => ?_⟩
      have hos : ∀ v ∈ (List.replicate (if decide (b ≠ a) = true then (1 : Int) else 0).toNat [V.ref p4]).flatten, v = .ref p4 ∧ b ≠ a := fun v m => by
        by_cases ba : b = a
        · rw [decide_eq_false (fun z => z ba)] at m; simp at m
        · rw [decide_eq_true ba] at m; simp at m; exact ⟨m, ba⟩
      have los : ((List.replicate (if decide (b ≠ a) = true then (1 : Int) else 0).toNat [V.ref p4]).flatten).length ≤ 1 := by
        by_cases ba : b = a
        · rw [decide_eq_false (fun z => z ba)]; simp
        · rw [decide_eq_true ba]; simp
      generalize (List.replicate (if decide (b ≠ a) = true then (1 : Int) else 0).toNat [V.ref p4]).flatten = os at hos los ⊢
      have u6 := upR (st := st) (L := L) (o := HO.lst os) n6
      have B5 := B4.new (o := HO.lst os) n6
      have I7 := I6.up nL (hdE (Ex.new (o := HO.lst os) n6))
      have h3'' := (Ex.new (o := HO.lst os) n6) _ _ h3'
      obtain ⟨acc7, _, e7, _⟩ := id I7
      refine ⟨_, rfl, .inl ⟨rfl, _, SqL.of e7⟩, _, rfl, _, rfl, _, rfl, p3, p6, _, _, rfl, rfl, h3'', upd_same, nle' (by simp; omega), fun p7 n7 => ?_⟩
      have u7 := upR (st := st) (L := L) (o := HO.lst ([.ref p1, .ref p2] ++ os)) n7
      have B6 := B5.new (o := HO.lst ([.ref p1, .ref p2] ++ os)) n7
      have I8 := I7.up nL (hdE (Ex.new (o := HO.lst ([.ref p1, .ref p2] ++ os)) n7))
      refine ⟨st, _, fun v => ∃ e, Dq (Hd L (Hd st (upd (upd (upd (upd H5 p4 (.tup (edV (.swap a b)))) p5 (.lst [.ref p4])) p6 (.lst os)) p7 (.lst ([.ref p1, .ref p2] ++ os))))) v (edD e) ∧ e.inn = [a] ∧ e.ok ∧ ChOk e, rfl, B6.sm, chs_new B5.sm n7 (by simp) (by simp; omega) (fun v m => ?_), fun v H9 hv A9 => ?_⟩
      · simp only [List.cons_append, List.nil_append, List.mem_cons] at m
        rcases m with rfl | rfl | m
        · exact ⟨.keep a, (d1''.mono u6).mono u7, rfl, trivial, fun x m => by simp [Ed.inn, Ed.out] at m; subst m; exact hac⟩
        · exact ⟨.drop a, (d2''.mono u6).mono u7, rfl, trivial, fun x m => by simp [Ed.inn, Ed.out] at m; subst m; exact hac⟩
        · obtain ⟨rfl, ba⟩ := hos v m
          exact ⟨.swap a b, (d4''.mono u6).mono u7, rfl, (fun z => ba z.symm), fun x m => by simp [Ed.inn, Ed.out] at m; rcases m with rfl | rfl; exact hac; exact hbc⟩
      · obtain ⟨e, de, ei, oe⟩ := hv
        obtain ⟨acc', g1, g2, g3⟩ := I8.snoc (e := e) (v := v) nL A9.gr (de.mono (hdE A9.gr)) oe (by omega)
        refine ⟨L, acc', _, rfl, rfl, g1, g2, (B6.trans A9).mut nL hLn, ?_, _, _, _, _, _, rfl⟩
        obtain ⟨acc9, es9, k1, k2, k3, k4, k5⟩ := g3
        exact ⟨acc9, es9, k1, k2, by rw [k3, ei, take_snoc ha], k4, by omega⟩
    · have c' : (tx cs).length ≤ i := by simpa using c
      rw [tx_len] at c'
      have ei : i = cs.length := by omega
      subst ei
      obtain ⟨acc, es, f1, f2, f3, f4, f5⟩ := I3
      exact ⟨A3, ⟨acc, es, f1, f2, by rw [f3, List.take_of_length_le (Nat.le_refl _), List.take_of_length_le (by omega)], f4, by omega⟩, _, _, _, _, _, rfl⟩
  · obtain ⟨A1, ⟨acc, es, h1, h2, h3, h4, h5⟩, y4, y5, y6, y7, y8, rfl⟩ := p
    exact ⟨_, rfl, q L H1 acc es A1 hL nL h1 h2 (by rw [h3, List.take_of_length_le (by omega)]) h4 (by omega)⟩
end
end Sk

/-! An instance called, a classmethod called, by keywords alone. -/
namespace Sk
open PySem PySem.Spec PyProof.Rows L2 Evl
theorem callO_ofK {M : Model} {A : Around} {E : Value → Shared → Prop} {s : Shared} {a : Addr} {pos : Pos} {Q : Value → Shared → Prop} {args : List (Bool × Sem Value)} {kws : List (Option Str × Sem Value)} (hplain : (args.any (·.1) || kws.any (·.1.isNone)) = false)
    (h : wpAny M A (evalArgs (.ref a) true args kws) (fun z s₁ => (∃ C ox od, PySem.W.InstAt s₁.heap a ox C od ∧ ox.data = .plain) ∧ wpAny M A (call (.ref a) ([] ++ z.pos) z.kw) Q E s₁) E s) : wpAny M A (callWith pos (.ref a) [] args kws) Q E s := by
  unfold callWith
  refine wpAny_bind (wpAny_holding (wpAny_mono h (fun z s₁ h₁ => wpAny_bind (wpAny_standAt ?_)) fun _ _ y => y))
  obtain ⟨⟨C, ox, od, J, hd⟩, h₁⟩ := h₁
  simp only [hplain]
  refine wpAny_bind ((PySem.W.kco_keeper (M := M) J hd).here ?_)
  exact wpAny_bind (wpAny_mono (wpAny_operateT h₁) (fun r s₂ hr => wpAny_bind (wpAny_holding (wpAny_point (wpAny_pure hr)))) fun _ _ y => y)
section
variable {X : Cx} {CX : CXT} {k n : Nat} {C p g : Addr} {fd : FuncData} {mc : Value} {ps ks : List Str} {sp : Sp} {E : XK} {o fe : Expr} {m : Str} {pos apos : Pos} {ta tf : TE} {tk : TA} {kws : List Keyword} {pl : Sem Bool} {gK : List Value → List Value → List Value} {gV : List V → List V → List V}
theorem run_fnNT {pins : List (Addr × Obj)} {σ : L2.St} {H : Hp} {s : Shared} {Q : VK} {us ws : List Value} {vs zs : List V} (F : FnOk X.prog X.w X.K X.mg X.base CX k g fd ps sp) (hr : Room k X.A) (hb : KBn X.K fd ps n ks gK gV) (hx : Passes CX X E)
    (I : Inv X pins σ H s) (r : Vals vs us) (rz : Vals zs ws) (l1 : vs.length = n) (l2 : zs.length = ks.length) (h : sp (gV vs zs) H Q E) :
    codeAny (model X.prog X.w) X.A (.call (.ref g) ⟨us, ks.zip ws⟩) (fun r s' => match r with | .ok (.ret v) => EP X pins σ Q v s' | .ok _ => False | .error e => X.xe e s') s := by
  have r2 := hb.rel r rz
  refine codeAny_mono (F.run X.A X.stack s H ⟨us, ks.zip ws⟩ (gK us ws) (gV vs zs) Q E hr I.env0 (hb.to s us ws I.kIn (r.length.symm.trans l1) (rz.length.symm.trans l2)) r2 h) fun r s' hq => ?_
  cases r with
  | error e => exact hx pins σ H s e s' I hq
  | ok fl =>
    cases fl with
    | ret u => exact I.after hq
    | next => exact False.elim hq
    | brk => exact False.elim hq
    | cont => exact False.elim hq
def tCallOK (X : Cx) (C : Addr) (m : Nat) (sp : Sp) (gV : List V → List V → List V) (E : XK) (tf : TE) (tk : TA) : TE := fun σ H Q => tf σ H fun y H1 => ∃ a, y = V.ref a ∧ tk σ H1 fun zs H2 => StX.InsC X H2 a C ∧ zs.length = m ∧ sp (gV [V.ref a] zs) H2 Q E
theorem pe_callOK (hf : PE X fe tf) (c : StX.CallO X.K C g) (F : FnOk X.prog X.w X.K X.mg X.base CX k g fd ps sp) (hr : Room k X.A) (hb : KBn X.K fd ps 1 ks gK gV) (hx : Passes CX X E) (hkw : PK X kws tk)
    (ht : eval (.Call fe [] kws pos) X.env = (do callWith pos (← eval fe X.env) [] (backTo pos (starEach [] X.env)) (backToKw pos (keywordEach kws X.env))) := by rfl)
    (hall : (backToKw pos (keywordEach kws X.env)).all (·.1.isSome) = true := by rfl) (hks : (backToKw pos (keywordEach kws X.env)).filterMap (·.1) = ks := by rfl)
    (hpl : ((backTo pos (starEach [] X.env)).any (·.1) || (backToKw pos (keywordEach kws X.env)).any (·.1.isNone)) = false := by rfl) : PE X (.Call fe [] kws pos) (tCallOK X C ks.length sp gV E tf tk) := by
  refine ⟨fun pins s σ H Q I h => ?_⟩
  rw [ht]
  refine wpAny_bind (thn (hf.run pins s σ H _ I h) fun u s1 ⟨y, H1, I1, ry, a, ey, q⟩ => ?_)
  subst ey
  obtain rfl : u = Value.ref a := ry
  refine callO_ofK hpl (evalArgs_kw2_nil hall (thn (hkw.run pos pins s1 σ H1 _ I1 q) fun ws s2 ⟨zs, H2, I2, rz, hi, l2, q2⟩ => ?_))
  obtain ⟨ox, od, J, hd⟩ := StX.insC_at I2 hi
  refine ⟨⟨C, ox, od, J, hd⟩, ?_⟩
  rw [hks]
  exact wpAny_call (PySem.W.kco_code I2.kIn J hd c.at_ c.fn c.fi (run_fnNT (us := [.ref a]) (vs := [.ref a]) F hr hb hx I2 (.cons rfl .nil) rz rfl l2 q2))
def tCMethK (C : Addr) (m : Nat) (sp : Sp) (gV : List V → List V → List V) (E : XK) (ta : TE) (tk : TA) : TE := fun σ H Q => ta σ H fun x H1 => x = .ref C ∧ tk σ H1 fun zs H2 => zs.length = m ∧ sp (gV [V.ref C] zs) H2 Q E
theorem pe_cmethK (he : PE X o ta) (r : ClX.CRead X.K C mc) (c : ClX.CMet X.K C mc m p g) (F : FnOk X.prog X.w X.K X.mg X.base CX k g fd ps sp) (hr : Room k X.A) (hb : KBn X.K fd ps 1 ks gK gV) (hx : Passes CX X E) (hkw : PK X kws tk)
    (hall : (backToKw pos (keywordEach kws X.env)).all (·.1.isSome) = true := by rfl) (hks : (backToKw pos (keywordEach kws X.env)).filterMap (·.1) = ks := by rfl)
    (hpl : ((backTo pos (starEach [] X.env)).any (·.1) || (backToKw pos (keywordEach kws X.env)).any (·.1.isNone)) = false := by rfl)
    (ht : eval (.Call (.Attribute o m apos) [] kws pos) X.env = (do
      let ov ← eval o X.env
      standAt apos.atName
      let (f, first) ← holding [ov] (getMethod ov m pl)
      callWith pos f first (backTo pos (starEach [] X.env)) (backToKw pos (keywordEach kws X.env))) := by rfl) :
    PE X (.Call (.Attribute o m apos) [] kws pos) (tCMethK C ks.length sp gV E ta tk) := by
  refine ⟨fun pins s σ H Q I h => ?_⟩
  refine PySem.W.methodCall_KW (pl := pl) (thn (he.run pins s σ H _ I h) fun u s1 ⟨x, H1, I1, rx, ex, q⟩ => ?_) ht
  subst ex
  obtain rfl : u = Value.ref C := rx
  refine ClX.getmethcm_ok I1 r c fun s2 I2 => ?_
  refine PySem.W.callWith_of (P := PySem.W.MethP X.K _ g (.ref C)) hpl (PySem.W.keeps_M c.fi) (evalArgs_kw2_nil hall (thn (hkw.run pos _ s2 σ H1 _ I2 q) fun ws s3 ⟨zs, H2, I3, rz, l2, q2⟩ => ⟨⟨ClX.pin_at I3, I3.kIn⟩, ?_⟩))
  rw [hks]
  exact thn (wpAny_call (PySem.W.method_call (ClX.pin_at I3) (run_fnNT (us := [.ref C]) (vs := [.ref C]) F hr hb hx I3 (.cons rfl .nil) rz rfl l2 q2))) fun _ _ y => ClX.unpinE y
end
end Sk

/-! Scripts made, run, priced by name. -/
namespace Sk
open PySem PySem.Spec PyProof.Rows L2 Evl
abbrev psL : List Str := ["given", "made", "put", "drop", "swap"]
abbrev psS : List Str := ["self", "steps"]
/-- all five, in another order -/
def gFive {α : Type} (us ws : List α) : List α := match us, ws with
  | [], [m, g, s, p, d] => [g, m, p, d, s]
  | _, _ => []
theorem five_rel {vs : List V} {us : List Value} {zs : List V} {ws : List Value} (r : Vals vs us) (rz : Vals zs ws) : Vals (gFive vs zs) (gFive us ws) := by
  cases r with
  | cons _ _ => cases rz <;> exact .nil
  | nil =>
    cases rz with
    | nil => exact .nil
    | cons a r => cases r with
      | nil => exact .nil
      | cons b r => cases r with
        | nil => exact .nil
        | cons c r => cases r with
          | nil => exact .nil
          | cons d r => cases r with
            | nil => exact .nil
            | cons e r => cases r with
              | nil => exact .cons b (.cons a (.cons d (.cons e (.cons c .nil))))
              | cons _ _ => exact .nil
/-- two before, three behind, in another order -/
def gTwo {α : Type} (us ws : List α) : List α := match us, ws with
  | [g, m], [d, s, p] => [g, m, p, d, s]
  | _, _ => []
def gOne {α : Type} (us ws : List α) : List α := match us, ws with
  | [x], [d, p, s] => [x, p, d, s]
  | _, _ => []
theorem two_rel {vs : List V} {us : List Value} {zs : List V} {ws : List Value} (r : Vals vs us) (rz : Vals zs ws) : Vals (gTwo vs zs) (gTwo us ws) := by
  cases r with
  | nil => exact .nil
  | cons a r => cases r with
    | nil => exact .nil
    | cons b r => cases r with
      | cons _ _ => exact .nil
      | nil => cases rz with
        | nil => exact .nil
        | cons c rz => cases rz with
          | nil => exact .nil
          | cons d rz => cases rz with
            | nil => exact .nil
            | cons e rz => cases rz with
              | nil => exact .cons a (.cons b (.cons e (.cons c (.cons d .nil))))
              | cons _ _ => exact .nil
theorem one_rel {vs : List V} {us : List Value} {zs : List V} {ws : List Value} (r : Vals vs us) (rz : Vals zs ws) : Vals (gOne vs zs) (gOne us ws) := by
  cases r with
  | nil => exact .nil
  | cons a r => cases r with
    | cons _ _ => exact .nil
    | nil => cases rz with
      | nil => exact .nil
      | cons c rz => cases rz with
        | nil => exact .nil
        | cons d rz => cases rz with
          | nil => exact .nil
          | cons e rz => cases rz with
            | nil => exact .cons a (.cons d (.cons c (.cons e .nil)))
            | cons _ _ => exact .nil
structure Sc6 (P : Program) (w : World) (K : PySem.W.Frag) (mg : Str → Option Value) (base : Heap) (C : Addr) : Prop where
  M : ScM K mg C
  mkS : ∃ fi fid, Mk K C fi ∧ FnOk P w K mg base CX0 4 fi fid psS (spIni C) ∧ KBn K fid psS 1 ["steps"] (fun us ws => us ++ ws) (fun vs zs => vs ++ zs)
  eq : ∃ g, PySem.W.findIn K (.ref C) "__eq__" = some (some (.ref g)) ∧ PySem.W.isFn K (.ref g) = true ∧ FnR P w K mg base CX0 3 g (spEqT C)
  cal : ∃ g gd, StX.CallO K C g ∧ FnR P w K mg base CX0 1 g (spCal C) ∧ FnOk P w K mg base CX0 1 g gd ["self", "text"] (spCal C) ∧ KBn K gd ["self", "text"] 1 ["text"] (fun us ws => us ++ ws) (fun vs zs => vs ++ zs)
  kep : ∃ p g gd mc, ClX.CRead K C mc ∧ ClX.CMet K C mc "kept" p g ∧ FnR P w K mg base CX0 6 g (spKep C) ∧ FnOk P w K mg base CX0 6 g gd ["cls", "text"] (spKep C) ∧ KBn K gd ["cls", "text"] 1 ["text"] (fun us ws => us ++ ws) (fun vs zs => vs ++ zs)
  cos : ∃ g gd, Meth K C "cost" g ∧ FnOk P w K mg base CX0 1 g gd psC (spCos C) ∧ KBn K gd psC 1 ["drop", "put", "swap"] gOne gOne ∧ (∃ mv : List Value, KBn K gd psC 1 ["put", "swap"] (fun us ws => us ++ ws.take 1 ++ mv ++ ws.drop 1) (fun vs zs => vs ++ zs.take 1 ++ [.int 1] ++ zs.drop 1))
  lea : ∃ g gd, FnOk P w K mg base CX0 6 g gd psL (spLea C) ∧ PySem.W.keepIn K (.ref g) = true ∧ mg "least_script" = some (.ref g) ∧ KBinds K gd psL ["made", "given", "swap", "put", "drop"] gFive gFive ∧ KBn K gd psL 2 ["drop", "swap", "put"] gTwo gTwo
def rEqS (C : Addr) : R2 := fun x y H Q => ∃ (p r : Addr) (es : List (Ed Nat)), x = .ref p ∧ y = .ref r ∧ ScAt C H p es ∧ ScAt C H r es ∧ ∀ H', Ex H H' → Q (.bl true) H'
section
variable {X : Cx} {C : Addr}
theorem op_eqS (S : Sc6 X.prog X.w X.K X.mg X.base C) (hr : Room 3 X.A) : OpR X (compareOp .Eq) (rEqS C) := by
  obtain ⟨g, h1, h2, h3⟩ := S.eq
  intro pins s σ H x y v u Q I rx ry h
  obtain ⟨p, r, es, rfl, rfl, ⟨dx, t, us, a1, a2, a3⟩, ⟨dy, t', us', b1, b2, b3⟩, q⟩ := h
  exact op_cmpI (op := .Eq) (E := E0) (fun _ _ => rfl) h1 h2 h3 hr pass0 pins s σ H _ _ v u Q I rx ry ⟨p, r, dx, dy, _, _, rfl, rfl, a1, b1, p, r, es, rfl, ⟨dx, t, us, a1, a2, a3⟩, ⟨dy, t', us', b1, b2, b3⟩, q⟩
end
theorem sf_no (t : Addr) (g m : Str) {x : Str} (h1 : ¬ x = "made") (h2 : ¬ x = "given") (h3 : ¬ x = "steps") : (sf t g m).lookup x = none := by
  unfold sf
  rw [lookup_putF, if_neg h1, lookup_putF, if_neg h2, lookup_putF, if_neg h3]
  rfl
theorem ScAt.hd {C D : Addr} {H : Hp} {l : List V} {x : Addr} {es : List (Ed Nat)} (hD : H D = some (.lst l)) (h : ScAt C H x es) : ScAt C (Hd D H) x es := by
  obtain ⟨dx, t, us, h1, h2, h3⟩ := h
  exact ⟨dx, t, us, hd_of (fun z => by subst z; rw [hD] at h1; cases h1) h1, hd_of (fun z => by subst z; rw [hD] at h2; cases h2) h2, hd_eds hD h3⟩
theorem aft_x {st : Addr} {H H1 : Hp} (s : Strm st H) (x : Ex H H1) : Aft st H H1 := ⟨hdE x, by
  obtain ⟨d, sd, e, r⟩ := s
  exact ⟨d, sd, x _ _ e, r⟩⟩
theorem mk_ex {C x dx : Addr} {H1 : Hp} (nx : H1 x = none) (ndx : H1 dx = none) : Ex H1 (upd (upd H1 dx (.own x)) x (.ins C dx [])) ∧ Ex H1 (Hd x (upd (upd H1 dx (.own x)) x (.ins C dx []))) := by
  have e1 : Ex H1 (upd (upd H1 dx (.own x)) x (.ins C dx [])) := fun b o e => by
    rw [upd_ne (ne_of_none e nx), upd_ne (ne_of_none e ndx)]; exact e
  exact ⟨e1, fun b o e => hd_of (ne_of_none e nx) (e1 _ _ e)⟩
theorem made_le : ∀ es : List (Ed Nat), (madeE es).length ≤ es.length
  | [] => Nat.le_refl _
  | e :: es => by
    have ih := made_le es
    rw [made_cons, List.length_append, List.length_cons]
    cases e <;> simp [Ed.out] <;> omega
abbrev NNR : List Str := ["stream", "signs", "word", "rows", "one", "back", "other"]
theorem scNR : FnScope NNR ["stream", "signs"] (defScope sNamR) := ⟨rfl, rfl, rfl, by decide +kernel, rfl, by decide +kernel, by decide +kernel⟩
def spNR : Sp := fun vs H Q _ => ∃ (st : Addr) (z : Str), vs = [.ref st, .str z] ∧ Strm st H ∧ SgOk z ∧ ∀ H', Aft st H H' → Q (.bl true) H'
section
variable {P : Program} {w : World} {K : PySem.W.Frag} {mg : Str → Option Value} {base : Heap} {C f fW fS : Addr} {fd dW dS : FuncData}
theorem ok_nr (F : Fun K "_law_names_right" "_law_names_right" sNamR f fd) (S : Sc6 P w K mg base C)
    (Wo : Lt P w K mg base fW dW "_law_word" ["stream", "high", "signs"] 3 spWord) (Ts : Lt P w K mg base fS dS "_law_steps" ["stream", "own", "signs"] 3 spSte) : FnOk P w K mg base CX0 7 f fd ["stream", "signs"] spNR := by
  obtain ⟨fi, fid, MK, Gi, ki⟩ := S.mkS
  obtain ⟨gl, gld, cO, Gl, Glk, kl⟩ := S.cal
  obtain ⟨kp, kg, kgd, kmc, cR, cM, Gk, Gkk, kk⟩ := S.kep
  obtain ⟨gc, gcd, hm, Gc, kc, ⟨mv, kc2⟩⟩ := S.cos
  obtain ⟨gz, gzd, Gz, kZ, mZ, kb5, kb2⟩ := S.lea
  refine F.ok scNR (fun vs H Q E h => ?_) (fun cdv A outer s H vs Q E hr h => ?_)
  · obtain ⟨_, _, rfl, _⟩ := h
    rfl
  have nd := scNR.nd
  have hr1 : Room 1 _ := hr.mono (by decide)
  have hr3 : Room 3 _ := hr.mono (by decide)
  have hr5 : Room 5 _ := hr.mono (by decide)
  have hr6 : Room 6 _ := hr.mono (by decide)
  obtain ⟨st, z, rfl, hst, hz, q⟩ := h
  refine ⟨_, pss_cons (ps_set (i := 2) nd rfl (Or.inl rfl) (pe_call Wo.g hr3 rfl Wo.m Wo.k Wo.b .nil pass0 (pa_cons (pv 0) (pa_cons pe_int (pa_cons (pv 1) pa_nil)))))
    (pss_cons (ps_set (i := 3) nd rfl (Or.inl rfl) (pe_call Ts.g hr3 rfl Ts.m Ts.k Ts.b .nil pass0 (pa_cons (pv 0) (pa_cons (pv 2) (pa_cons (pv 1) pa_nil)))))
    (pss_cons (ps_set (i := 4) nd rfl (Or.inl rfl) (pe_makeK0 MK Gi hr5 rfl S.M.T.mC ki pass0 (pk_cons (pv 3) pk_nil)))
    (pss_cons (ps_if (PW.pt (pw_or (pt_cmpR op_ne (pe_callOK (pv 4) cO Glk hr1 kl pass0 (pk_cons (pe_fld (pv 4) rfl) pk_nil)) (pe_fld (pv 4) rfl) (nomark _))
        (pw_or1 (pt_not (pt_cmpR (op_eqS S hr3) (pe_cmethK (pe_glob (v := .ref C) rfl S.M.T.mC rfl) cR cM Gkk hr6 kk pass0 (pk_cons (pv 2) pk_nil)) (ClX.pe_cmeth (pe_glob (v := .ref C) rfl S.M.T.mC rfl) cR cM Gk hr6 pass0 (pa_cons (pv 2) pa_nil)) (nomark _)))))) (pss_one (ps_ret pe_bl)) pss_nil)
    (pss_cons (ps_set (i := 5) nd rfl (Or.inl rfl) (pe_callK0 Gz hr6 rfl mZ kZ kb5 pass0 (pk_cons (pe_fld (pv 4) rfl) (pk_cons (pe_fld (pv 4) rfl) (pk_cons pe_int (pk_cons pe_int (pk_cons pe_int pk_nil)))))))
    (pss_cons (ps_set (i := 6) nd rfl (Or.inl rfl) (pe_callN Gz hr6 rfl mZ kZ kb2 pass0 (pa_cons (pe_fld (pv 4) rfl) (pa_cons (pe_fld (pv 4) rfl) pa_nil)) (pk_cons pe_int (pk_cons pe_int (pk_cons pe_int pk_nil)))))
    (pss_one (ps_ret (pe_and (pe_cmpR op_eq (StX.pe_callO (pv 5) cO Gl hr1 pass0 (pa_cons (pe_fld (pv 4) rfl) pa_nil)) (pe_fld (pv 4) rfl) (nomark _))
      (pe_one (pe_cmpR op_eq (pe_methN (pv 5) S.M.T.cl hm Gc hr1 kc pass0 (pk_cons pe_int (pk_cons pe_int (pk_cons pe_int pk_nil)))) (pe_methN (pv 6) S.M.T.cl hm Gc hr1 kc2 pass0 (pk_cons pe_int (pk_cons pe_int pk_nil))) (nomark _))))))))))), ?_⟩
  have T := S.M.T
  refine ⟨_, rfl, _, rfl, st, 5, z, rfl, hst, by omega, hz, fun cs H1 lc hcs A1 => ?_⟩
  refine ⟨_, rfl, _, rfl, _, rfl, st, cs, z, rfl, A1.sm, by omega, hz, hcs, fun l H2 ws es A2 nl nls hl hd hgv hok hle => ?_⟩
  have oe : ∀ e ∈ es, Ed.ok e := fun e m => (hok e m).1
  have le : es.length ≤ 100 := by omega
  have lg : (givenE es).length ≤ 100 := by rw [hgv]; omega
  have lm : (madeE es).length ≤ 100 := Nat.le_trans (made_le es) le
  have hd2 : DqAll H2 ws (es.map edD) := (hd.mono hd_le).mono hd_le
  have B2 := A1.trans A2
  refine ⟨_, rfl, rfl, rfl, ?_⟩
  intro one dx no ndx ne
  obtain ⟨e1, e2⟩ := mk_ex (C := C) no ndx
  refine ⟨one, l, dx, ws, es, rfl, upd_same, e1 _ _ hl, hd2.mono e2, oe, by omega, fun H3 x3 s3 => ⟨rfl, ?_⟩⟩
  have y3 : Ex H2 H3 := e2.trans x3
  obtain ⟨dx1, t1, u1, f1, f2, f3⟩ := id s3
  refine ⟨_, rfl, one, rfl, _, rfl, one, C, dx1, _, _, rfl, f1, T.cl, T.nG, sf_given _ _ _, .inr ⟨_, _, f1⟩, rfl, one, es, rfl, s3, ?_⟩
  refine ⟨_, rfl, one, C, dx1, _, _, rfl, f1, T.cl, T.nM, sf_made _ _ _, rfl, _, rfl, iteNS rfl ?_⟩
  refine ⟨rfl, _, rfl, rfl, cs, rfl, by omega, fun k1 H4 x4 nk1 sk1 => ?_⟩
  refine ⟨rfl, _, rfl, cs, rfl, by omega, fun k2 H5 x5 nk2 sk2 => ?_⟩
  refine ⟨k1, k2, keptE cs, rfl, rfl, sk1.mono x5, sk2, fun H6 x6 => ⟨_, rfl, ?_⟩⟩
  refine iteF ?_
  have y6 := (x4.trans x5).trans x6
  have g1 := y6 _ _ f1
  refine ⟨_, rfl, one, C, dx1, _, _, rfl, g1, T.cl, T.nG, sf_given _ _ _, _, rfl, one, C, dx1, _, _, rfl, g1, T.cl, T.nM, sf_made _ _ _, madeE es, givenE es, 2, 1, 3, rfl, by omega, by omega, fun bk H7 x7 sb => ?_⟩
  have g7 := x7 _ _ g1
  refine ⟨_, rfl, one, C, dx1, _, _, rfl, g7, T.cl, T.nM, sf_made _ _ _, _, rfl, one, C, dx1, _, _, rfl, g7, T.cl, T.nG, sf_given _ _ _, rfl, rfl, madeE es, givenE es, 2, 1, 3, rfl, by omega, by omega, fun ot H8 x8 so => ?_⟩
  have g8 := x8 _ _ g7
  have wk := walk_ok (a := 2) (b := 1) (c := 3) _ (madeE es) (givenE es) (Nat.le_refl _)
  have sb8 := sb.mono x8
  generalize walkE 2 1 3 (madeE es) (givenE es) = ks at sb8 so wk
  have lk := wk.wl
  obtain ⟨db, tb, ub, b1, b2, b3⟩ := id sb8
  refine ⟨_, rfl, bk, rfl, _, rfl, one, C, dx1, _, _, rfl, g8, T.cl, T.nM, sf_made _ _ _, .inr ⟨_, _, b1⟩, bk, ks, by rw [wk.wg], sb8, ?_⟩
  refine ⟨_, rfl, one, C, dx1, _, _, rfl, g8, T.cl, T.nG, sf_given _ _ _, rfl, ?_⟩
  rw [wk.wm]
  refine ⟨true, by rw [decide_eq_true rfl], iteT ?_⟩
  have no' : ∀ t g m, (sf t g m).lookup ("cost" : Str) = none := fun t g m => sf_no t g m (by decide +kernel) (by decide +kernel) (by decide +kernel)
  refine ⟨_, rfl, bk, db, _, rfl, b1, no' _ _ _, rfl, bk, 2, 1, 3, ks, rfl, sb8, by omega, fun H9 x9 => ?_⟩
  have so9 := so.mono x9
  obtain ⟨do_, to, uo, o1, o2, o3⟩ := id so9
  refine ⟨_, rfl, ot, do_, _, rfl, o1, no' _ _ _, rfl, ot, 2, 1, 3, ks, rfl, so9, by omega, fun H10 x10 => ⟨rfl, ?_⟩⟩
  rw [decide_eq_true rfl]
  exact q H10 (B2.trans (aft_x B2.sm (((((y3.trans y6).trans x7).trans x8).trans x9).trans x10)))
end
end Sk

/-! An own error class over ValueError whose __init__ stores its one argument: made as a value, read, asked for its class. -/
namespace PySem
namespace SkE
open PySem.W PySem.Calls PyProof.Rows PySem.HandSPX
def iA (at_ : Str) (p1 p2 : Pos) : Arguments := { posonlyargs := [], args := [{ arg := "self", annotation := none, pos := p1 }, { arg := at_, annotation := none, pos := p2 }], vararg := none, kwonlyargs := [], kw_defaults := [], kwarg := none, defaults := [] }
def iB (at_ : Str) (q1 q2 q3 q4 : Pos) : List Stmt := [.Assign [.Attribute (.Name "self" q1) at_ q2] (.Name at_ q3) q4]
def iS (at_ : Str) : Scope := { kind := .function, names := [(PySem.Str.ofString "self", .local), (at_, .local)], isGenerator := false, isCoroutine := false, more := [] }
structure ErrTxt (K : Frag) (mg : Str → Option Value) (cl at_ qn : Str) (C fI : Addr) : Prop where
  gC : mg cl = some (.ref C)
  cls : ∃ nm q N bs bm sn sub ab col dd k0 k1 k2 k3 k5, K.lookup C = some (excClassObj nm q C N bs bm true sn sub ab col dd k0 k1 k2 k3 k5 "ValueError.__new__") ∧ refsVE bm = true
  sa : findIn K (.ref C) "__setattr__" = some (some (.builtin "object.__setattr__"))
  ga : findIn K (.ref C) "__getattribute__" = some (some (.builtin "BaseException.__getattribute__"))
  gg : findIn K (.ref C) "__getattr__" = some none
  noN : findIn K (.ref C) at_ = some none
  iC : findIn K (.ref C) "__init__" = some (some (.ref fI))
  tC : typeIn K (.ref fI) = some (.type "function")
  kC : keepIn K (.ref C) = true
  exC : subIn K (.ref C) (.type "BaseException") = some true
  tyC : typeIn K (.ref C) = some (.type "type")
  hdC : hasDictIn K C = true
  fn : ∃ (oc : Value) (od : Option Addr) (doc pm : Value) (an : Option Addr) (cdv ct : Value) (osl : Array (Option Value)) (p1 p2 q1 q2 q3 q4 : Pos),
    K.lookup fI = some ⟨oc, od, .func (fnOf "__init__" qn (iA at_ p1 p2) (iB at_ q1 q2 q3 q4) (iS at_) .none .none doc pm an cdv ct), osl⟩ ∧ codeIn K cdv qn = true
  -- of isinstance
  cl_ : (clsIn K C).isSome = true
  hCl : findIn K (.ref C) "__class__" = some (some (.builtin "object.__class__"))
  hGt : specialIn K (.builtin "object.__class__") "__get__" = some (some (.builtin "getset_descriptor.__get__"))
  hTk : takesIn K (.builtin "object.__class__") = some true
  hOb : mroIn K C (.type "object") = some true
structure InitEnd (at_ : Str) (h h' : Heap) (x C dx t1 : Addr) (v : Value) : Prop where
  keep : ∀ b o, b ≠ x → h.get? b = some o → h'.get? b = some o
  obj : h'.get? x = some { cls := .ref C, dict := some dx, data := .fields #[.ref t1, .none, .none, .none, .bool false, .none] }
  dbig : h.objs.size ≤ dx
  dne : dx ≠ x
  ns : h'.Ns1 dx (fun y => if y = at_ then some v else none)
structure OwnMade (at_ : Str) (h h' : Heap) (e C d : Addr) (v : Value) : Prop where
  keep : ∀ b o, h.get? b = some o → h'.get? b = some o
  new : h.objs.size ≤ e
  obj : ∃ oe vs, h'.get? e = some oe ∧ oe.cls = .ref C ∧ oe.dict = some d ∧ oe.data = .fields vs ∧ vs[1]? = some .none
  dbig : h.objs.size ≤ d
  dne : d ≠ e
  ns : h'.Ns1 d (fun y => if y = at_ then some v else none)
theorem ldC {M : Model} {s : Shared} {name : Str} {scope : Scope} {L a : Addr} {cd : Value} {m : Str → Option Value} {x : Str} {pos : Pos} {v : Value} {Q : Value → Shared → Prop} {A : Around} {E : Value → Shared → Prop} (hn : s.heap.Ns L m) (hv : m x = some v) (h : Q v s)
    (hk : scope.kind = .function := by rfl) (hl : (envOfC name scope L a cd).kindOf x = some .local := by rfl) (hd : (x == ("__debug__" : Str)) = false := by decide) :
    wpAny M A (eval (.Name x pos) (envOfC name scope L a cd)) Q E s := wpAny_Name (wpAny_loadName_local hk hl hn hv h) hd
/-- what __init__ does, called by position or by name -/
def InitOk (K : Frag) (at_ : Str) (C fI : Addr) : Prop := ∀ (prog : Program) (w : World) (A : Around) (R : Result → Shared → Prop) (s : Shared) (args : Args) (x t0 : Addr) (v : Value), (args = ⟨[.ref x, v], []⟩ ∨ args = ⟨[.ref x], [(at_, v)]⟩) →
  K.In s.heap → s.heap.NoLimit → s.heap.get? x = some (excO C t0) → K.lookup x = none → A.depth < recursionLimit → (∀ h' tk dx, InitEnd at_ s.heap h' x C dx t0 v → R (.ok (.ret .none)) { s with heap := h', toks := tk }) → codeAny (model prog w) A (.call (.ref fI) args) R s
theorem init_position {K : Frag} {mg : Str → Option Value} {cl qn : Str} {C fI : Addr} (T : ErrTxt K mg cl "position" qn C fI) : InitOk K "position" C fI := by
  intro prog w A R s args x t0 v hargs X hlim hx hnx hroom hq
  obtain ⟨oc, od, doc, pm, an, cdv, ct, osl, p1, p2, q1, q2, q3, q4, ho, hcd⟩ := T.fn
  obtain ⟨nm, q, N, bs, bm, sn, sub, ab, col, dd, k0, k1, k2, k3, k5, hC, hbm⟩ := T.cls
  have hcl : clsIn K C = some { name := nm, bases := bs, mro := .ref C :: bm, ns := N, qualname := q, hasDict := true, slotNames := sn, subclasses := sub, abstract := ab, collection := col, hasDel := false } := by unfold clsIn; rw [hC] <;> rfl
  have hb : BindsTo s (fnOf "__init__" qn (iA "position" p1 p2) (iB "position" q1 q2 q3 q4) (iS "position") .none .none doc pm an cdv ct) args [("self", .ref x), ("position", v)] := by
    rcases hargs with rfl | rfl
    · exact .of_eq (by first | rfl | with_unfolding_all rfl)
    · exact .of_eq (by first | rfl | with_unfolding_all rfl)
  refine Att.call_fn (binds := [("self", .ref x), ("position", v)]) X hlim ho hcd hroom hb (by first | rfl | decide | with_unfolding_all rfl) (fun s₁ IC => ?_) rfl rfl rfl
  obtain ⟨h₁, tk₁, rfl⟩ := IC.toInCall.same
  have k := IC.toInCall.keep
  have hn := IC.toInCall.ns
  have X₁ : K.In h₁ := X.keeps k
  have hx₁ := k _ _ hx
  show wpAny _ _ (execs _ _) _ _ _
  refine wpAny_execs_cons (plainObj_wpAny_Assign_Attribute (ldC (v := v) hn (by first | rfl | with_unfolding_all rfl | kernel_rfl) (ldC (v := .ref x) hn (by first | rfl | with_unfolding_all rfl | kernel_rfl) ?_)))
  refine set_plain X₁ (ox := excO C t0) (od := none) ⟨hx₁, rfl, rfl, trivial⟩ T.sa (exc_osa X₁ hx₁ hcl (show refsVE (.ref C :: bm) = true from hbm) rfl T.noN fun h₃ tk₃ dx k₃ dn dne hx₃ hn₃ => ?_)
  show wpAny _ _ (execs _ _) _ _ _
  have z : s.heap.objs.size < h₁.objs.size := hn.lt
  exact wpAny_execs_nil (hq h₃ tk₃ dx ⟨fun b o nb e => k₃ b o nb (k b o e), hx₃, Nat.le_of_lt (Nat.lt_of_lt_of_le z dn), dne, hn₃⟩)
theorem init_length {K : Frag} {mg : Str → Option Value} {cl qn : Str} {C fI : Addr} (T : ErrTxt K mg cl "length" qn C fI) : InitOk K "length" C fI := by
  intro prog w A R s args x t0 v hargs X hlim hx hnx hroom hq
  obtain ⟨oc, od, doc, pm, an, cdv, ct, osl, p1, p2, q1, q2, q3, q4, ho, hcd⟩ := T.fn
  obtain ⟨nm, q, N, bs, bm, sn, sub, ab, col, dd, k0, k1, k2, k3, k5, hC, hbm⟩ := T.cls
  have hcl : clsIn K C = some { name := nm, bases := bs, mro := .ref C :: bm, ns := N, qualname := q, hasDict := true, slotNames := sn, subclasses := sub, abstract := ab, collection := col, hasDel := false } := by unfold clsIn; rw [hC] <;> rfl
  have hb : BindsTo s (fnOf "__init__" qn (iA "length" p1 p2) (iB "length" q1 q2 q3 q4) (iS "length") .none .none doc pm an cdv ct) args [("self", .ref x), ("length", v)] := by
    rcases hargs with rfl | rfl
    · exact .of_eq (by first | rfl | with_unfolding_all rfl)
    · exact .of_eq (by first | rfl | with_unfolding_all rfl)
  refine Att.call_fn (binds := [("self", .ref x), ("length", v)]) X hlim ho hcd hroom hb (by first | rfl | decide | with_unfolding_all rfl) (fun s₁ IC => ?_) rfl rfl rfl
  obtain ⟨h₁, tk₁, rfl⟩ := IC.toInCall.same
  have k := IC.toInCall.keep
  have hn := IC.toInCall.ns
  have X₁ : K.In h₁ := X.keeps k
  have hx₁ := k _ _ hx
  show wpAny _ _ (execs _ _) _ _ _
  refine wpAny_execs_cons (plainObj_wpAny_Assign_Attribute (ldC (v := v) hn (by first | rfl | with_unfolding_all rfl | kernel_rfl) (ldC (v := .ref x) hn (by first | rfl | with_unfolding_all rfl | kernel_rfl) ?_)))
  refine set_plain X₁ (ox := excO C t0) (od := none) ⟨hx₁, rfl, rfl, trivial⟩ T.sa (exc_osa X₁ hx₁ hcl (show refsVE (.ref C :: bm) = true from hbm) rfl T.noN fun h₃ tk₃ dx k₃ dn dne hx₃ hn₃ => ?_)
  show wpAny _ _ (execs _ _) _ _ _
  have z : s.heap.objs.size < h₁.objs.size := hn.lt
  exact wpAny_execs_nil (hq h₃ tk₃ dx ⟨fun b o nb e => k₃ b o nb (k b o e), hx₃, Nat.le_of_lt (Nat.lt_of_lt_of_le z dn), dne, hn₃⟩)
theorem init_count {K : Frag} {mg : Str → Option Value} {cl qn : Str} {C fI : Addr} (T : ErrTxt K mg cl "count" qn C fI) : InitOk K "count" C fI := by
  intro prog w A R s args x t0 v hargs X hlim hx hnx hroom hq
  obtain ⟨oc, od, doc, pm, an, cdv, ct, osl, p1, p2, q1, q2, q3, q4, ho, hcd⟩ := T.fn
  obtain ⟨nm, q, N, bs, bm, sn, sub, ab, col, dd, k0, k1, k2, k3, k5, hC, hbm⟩ := T.cls
  have hcl : clsIn K C = some { name := nm, bases := bs, mro := .ref C :: bm, ns := N, qualname := q, hasDict := true, slotNames := sn, subclasses := sub, abstract := ab, collection := col, hasDel := false } := by unfold clsIn; rw [hC] <;> rfl
  have hb : BindsTo s (fnOf "__init__" qn (iA "count" p1 p2) (iB "count" q1 q2 q3 q4) (iS "count") .none .none doc pm an cdv ct) args [("self", .ref x), ("count", v)] := by
    rcases hargs with rfl | rfl
    · exact .of_eq (by first | rfl | with_unfolding_all rfl)
    · exact .of_eq (by first | rfl | with_unfolding_all rfl)
  refine Att.call_fn (binds := [("self", .ref x), ("count", v)]) X hlim ho hcd hroom hb (by first | rfl | decide | with_unfolding_all rfl) (fun s₁ IC => ?_) rfl rfl rfl
  obtain ⟨h₁, tk₁, rfl⟩ := IC.toInCall.same
  have k := IC.toInCall.keep
  have hn := IC.toInCall.ns
  have X₁ : K.In h₁ := X.keeps k
  have hx₁ := k _ _ hx
  show wpAny _ _ (execs _ _) _ _ _
  refine wpAny_execs_cons (plainObj_wpAny_Assign_Attribute (ldC (v := v) hn (by first | rfl | with_unfolding_all rfl | kernel_rfl) (ldC (v := .ref x) hn (by first | rfl | with_unfolding_all rfl | kernel_rfl) ?_)))
  refine set_plain X₁ (ox := excO C t0) (od := none) ⟨hx₁, rfl, rfl, trivial⟩ T.sa (exc_osa X₁ hx₁ hcl (show refsVE (.ref C :: bm) = true from hbm) rfl T.noN fun h₃ tk₃ dx k₃ dn dne hx₃ hn₃ => ?_)
  show wpAny _ _ (execs _ _) _ _ _
  have z : s.heap.objs.size < h₁.objs.size := hn.lt
  exact wpAny_execs_nil (hq h₃ tk₃ dx ⟨fun b o nb e => k₃ b o nb (k b o e), hx₃, Nat.le_of_lt (Nat.lt_of_lt_of_le z dn), dne, hn₃⟩)
theorem init_path {K : Frag} {mg : Str → Option Value} {cl qn : Str} {C fI : Addr} (T : ErrTxt K mg cl "path" qn C fI) : InitOk K "path" C fI := by
  intro prog w A R s args x t0 v hargs X hlim hx hnx hroom hq
  obtain ⟨oc, od, doc, pm, an, cdv, ct, osl, p1, p2, q1, q2, q3, q4, ho, hcd⟩ := T.fn
  obtain ⟨nm, q, N, bs, bm, sn, sub, ab, col, dd, k0, k1, k2, k3, k5, hC, hbm⟩ := T.cls
  have hcl : clsIn K C = some { name := nm, bases := bs, mro := .ref C :: bm, ns := N, qualname := q, hasDict := true, slotNames := sn, subclasses := sub, abstract := ab, collection := col, hasDel := false } := by unfold clsIn; rw [hC] <;> rfl
  have hb : BindsTo s (fnOf "__init__" qn (iA "path" p1 p2) (iB "path" q1 q2 q3 q4) (iS "path") .none .none doc pm an cdv ct) args [("self", .ref x), ("path", v)] := by
    rcases hargs with rfl | rfl
    · exact .of_eq (by first | rfl | with_unfolding_all rfl)
    · exact .of_eq (by first | rfl | with_unfolding_all rfl)
  refine Att.call_fn (binds := [("self", .ref x), ("path", v)]) X hlim ho hcd hroom hb (by first | rfl | decide | with_unfolding_all rfl) (fun s₁ IC => ?_) rfl rfl rfl
  obtain ⟨h₁, tk₁, rfl⟩ := IC.toInCall.same
  have k := IC.toInCall.keep
  have hn := IC.toInCall.ns
  have X₁ : K.In h₁ := X.keeps k
  have hx₁ := k _ _ hx
  show wpAny _ _ (execs _ _) _ _ _
  refine wpAny_execs_cons (plainObj_wpAny_Assign_Attribute (ldC (v := v) hn (by first | rfl | with_unfolding_all rfl | kernel_rfl) (ldC (v := .ref x) hn (by first | rfl | with_unfolding_all rfl | kernel_rfl) ?_)))
  refine set_plain X₁ (ox := excO C t0) (od := none) ⟨hx₁, rfl, rfl, trivial⟩ T.sa (exc_osa X₁ hx₁ hcl (show refsVE (.ref C :: bm) = true from hbm) rfl T.noN fun h₃ tk₃ dx k₃ dn dne hx₃ hn₃ => ?_)
  show wpAny _ _ (execs _ _) _ _ _
  have z : s.heap.objs.size < h₁.objs.size := hn.lt
  exact wpAny_execs_nil (hq h₃ tk₃ dx ⟨fun b o nb e => k₃ b o nb (k b o e), hx₃, Nat.le_of_lt (Nat.lt_of_lt_of_le z dn), dne, hn₃⟩)
theorem init_bound {K : Frag} {mg : Str → Option Value} {cl qn : Str} {C fI : Addr} (T : ErrTxt K mg cl "bound" qn C fI) : InitOk K "bound" C fI := by
  intro prog w A R s args x t0 v hargs X hlim hx hnx hroom hq
  obtain ⟨oc, od, doc, pm, an, cdv, ct, osl, p1, p2, q1, q2, q3, q4, ho, hcd⟩ := T.fn
  obtain ⟨nm, q, N, bs, bm, sn, sub, ab, col, dd, k0, k1, k2, k3, k5, hC, hbm⟩ := T.cls
  have hcl : clsIn K C = some { name := nm, bases := bs, mro := .ref C :: bm, ns := N, qualname := q, hasDict := true, slotNames := sn, subclasses := sub, abstract := ab, collection := col, hasDel := false } := by unfold clsIn; rw [hC] <;> rfl
  have hb : BindsTo s (fnOf "__init__" qn (iA "bound" p1 p2) (iB "bound" q1 q2 q3 q4) (iS "bound") .none .none doc pm an cdv ct) args [("self", .ref x), ("bound", v)] := by
    rcases hargs with rfl | rfl
    · exact .of_eq (by first | rfl | with_unfolding_all rfl)
    · exact .of_eq (by first | rfl | with_unfolding_all rfl)
  refine Att.call_fn (binds := [("self", .ref x), ("bound", v)]) X hlim ho hcd hroom hb (by first | rfl | decide | with_unfolding_all rfl) (fun s₁ IC => ?_) rfl rfl rfl
  obtain ⟨h₁, tk₁, rfl⟩ := IC.toInCall.same
  have k := IC.toInCall.keep
  have hn := IC.toInCall.ns
  have X₁ : K.In h₁ := X.keeps k
  have hx₁ := k _ _ hx
  show wpAny _ _ (execs _ _) _ _ _
  refine wpAny_execs_cons (plainObj_wpAny_Assign_Attribute (ldC (v := v) hn (by first | rfl | with_unfolding_all rfl | kernel_rfl) (ldC (v := .ref x) hn (by first | rfl | with_unfolding_all rfl | kernel_rfl) ?_)))
  refine set_plain X₁ (ox := excO C t0) (od := none) ⟨hx₁, rfl, rfl, trivial⟩ T.sa (exc_osa X₁ hx₁ hcl (show refsVE (.ref C :: bm) = true from hbm) rfl T.noN fun h₃ tk₃ dx k₃ dn dne hx₃ hn₃ => ?_)
  show wpAny _ _ (execs _ _) _ _ _
  have z : s.heap.objs.size < h₁.objs.size := hn.lt
  exact wpAny_execs_nil (hq h₃ tk₃ dx ⟨fun b o nb e => k₃ b o nb (k b o e), hx₃, Nat.le_of_lt (Nat.lt_of_lt_of_le z dn), dne, hn₃⟩)
theorem init_number {K : Frag} {mg : Str → Option Value} {cl qn : Str} {C fI : Addr} (T : ErrTxt K mg cl "number" qn C fI) : InitOk K "number" C fI := by
  intro prog w A R s args x t0 v hargs X hlim hx hnx hroom hq
  obtain ⟨oc, od, doc, pm, an, cdv, ct, osl, p1, p2, q1, q2, q3, q4, ho, hcd⟩ := T.fn
  obtain ⟨nm, q, N, bs, bm, sn, sub, ab, col, dd, k0, k1, k2, k3, k5, hC, hbm⟩ := T.cls
  have hcl : clsIn K C = some { name := nm, bases := bs, mro := .ref C :: bm, ns := N, qualname := q, hasDict := true, slotNames := sn, subclasses := sub, abstract := ab, collection := col, hasDel := false } := by unfold clsIn; rw [hC] <;> rfl
  have hb : BindsTo s (fnOf "__init__" qn (iA "number" p1 p2) (iB "number" q1 q2 q3 q4) (iS "number") .none .none doc pm an cdv ct) args [("self", .ref x), ("number", v)] := by
    rcases hargs with rfl | rfl
    · exact .of_eq (by first | rfl | with_unfolding_all rfl)
    · exact .of_eq (by first | rfl | with_unfolding_all rfl)
  refine Att.call_fn (binds := [("self", .ref x), ("number", v)]) X hlim ho hcd hroom hb (by first | rfl | decide | with_unfolding_all rfl) (fun s₁ IC => ?_) rfl rfl rfl
  obtain ⟨h₁, tk₁, rfl⟩ := IC.toInCall.same
  have k := IC.toInCall.keep
  have hn := IC.toInCall.ns
  have X₁ : K.In h₁ := X.keeps k
  have hx₁ := k _ _ hx
  show wpAny _ _ (execs _ _) _ _ _
  refine wpAny_execs_cons (plainObj_wpAny_Assign_Attribute (ldC (v := v) hn (by first | rfl | with_unfolding_all rfl | kernel_rfl) (ldC (v := .ref x) hn (by first | rfl | with_unfolding_all rfl | kernel_rfl) ?_)))
  refine set_plain X₁ (ox := excO C t0) (od := none) ⟨hx₁, rfl, rfl, trivial⟩ T.sa (exc_osa X₁ hx₁ hcl (show refsVE (.ref C :: bm) = true from hbm) rfl T.noN fun h₃ tk₃ dx k₃ dn dne hx₃ hn₃ => ?_)
  show wpAny _ _ (execs _ _) _ _ _
  have z : s.heap.objs.size < h₁.objs.size := hn.lt
  exact wpAny_execs_nil (hq h₃ tk₃ dx ⟨fun b o nb e => k₃ b o nb (k b o e), hx₃, Nat.le_of_lt (Nat.lt_of_lt_of_le z dn), dne, hn₃⟩)
theorem init_command {K : Frag} {mg : Str → Option Value} {cl qn : Str} {C fI : Addr} (T : ErrTxt K mg cl "command" qn C fI) : InitOk K "command" C fI := by
  intro prog w A R s args x t0 v hargs X hlim hx hnx hroom hq
  obtain ⟨oc, od, doc, pm, an, cdv, ct, osl, p1, p2, q1, q2, q3, q4, ho, hcd⟩ := T.fn
  obtain ⟨nm, q, N, bs, bm, sn, sub, ab, col, dd, k0, k1, k2, k3, k5, hC, hbm⟩ := T.cls
  have hcl : clsIn K C = some { name := nm, bases := bs, mro := .ref C :: bm, ns := N, qualname := q, hasDict := true, slotNames := sn, subclasses := sub, abstract := ab, collection := col, hasDel := false } := by unfold clsIn; rw [hC] <;> rfl
  have hb : BindsTo s (fnOf "__init__" qn (iA "command" p1 p2) (iB "command" q1 q2 q3 q4) (iS "command") .none .none doc pm an cdv ct) args [("self", .ref x), ("command", v)] := by
    rcases hargs with rfl | rfl
    · exact .of_eq (by first | rfl | with_unfolding_all rfl)
    · exact .of_eq (by first | rfl | with_unfolding_all rfl)
  refine Att.call_fn (binds := [("self", .ref x), ("command", v)]) X hlim ho hcd hroom hb (by first | rfl | decide | with_unfolding_all rfl) (fun s₁ IC => ?_) rfl rfl rfl
  obtain ⟨h₁, tk₁, rfl⟩ := IC.toInCall.same
  have k := IC.toInCall.keep
  have hn := IC.toInCall.ns
  have X₁ : K.In h₁ := X.keeps k
  have hx₁ := k _ _ hx
  show wpAny _ _ (execs _ _) _ _ _
  refine wpAny_execs_cons (plainObj_wpAny_Assign_Attribute (ldC (v := v) hn (by first | rfl | with_unfolding_all rfl | kernel_rfl) (ldC (v := .ref x) hn (by first | rfl | with_unfolding_all rfl | kernel_rfl) ?_)))
  refine set_plain X₁ (ox := excO C t0) (od := none) ⟨hx₁, rfl, rfl, trivial⟩ T.sa (exc_osa X₁ hx₁ hcl (show refsVE (.ref C :: bm) = true from hbm) rfl T.noN fun h₃ tk₃ dx k₃ dn dne hx₃ hn₃ => ?_)
  show wpAny _ _ (execs _ _) _ _ _
  have z : s.heap.objs.size < h₁.objs.size := hn.lt
  exact wpAny_execs_nil (hq h₃ tk₃ dx ⟨fun b o nb e => k₃ b o nb (k b o e), hx₃, Nat.le_of_lt (Nat.lt_of_lt_of_le z dn), dne, hn₃⟩)
end SkE
end PySem

/-! An error with a pair. -/
namespace PySem
namespace SkE
open PySem.W PySem.Calls PyProof.Rows PySem.HandSPX
theorem init_pair {K : Frag} {mg : Str → Option Value} {cl qn : Str} {C fI : Addr} (T : ErrTxt K mg cl "pair" qn C fI) : InitOk K "pair" C fI := by
  intro prog w A R s args x t0 v hargs X hlim hx hnx hroom hq
  obtain ⟨oc, od, doc, pm, an, cdv, ct, osl, p1, p2, q1, q2, q3, q4, ho, hcd⟩ := T.fn
  obtain ⟨nm, q, N, bs, bm, sn, sub, ab, col, dd, k0, k1, k2, k3, k5, hC, hbm⟩ := T.cls
  have hcl : clsIn K C = some { name := nm, bases := bs, mro := .ref C :: bm, ns := N, qualname := q, hasDict := true, slotNames := sn, subclasses := sub, abstract := ab, collection := col, hasDel := false } := by unfold clsIn; rw [hC] <;> rfl
  have hb : BindsTo s (fnOf "__init__" qn (iA "pair" p1 p2) (iB "pair" q1 q2 q3 q4) (iS "pair") .none .none doc pm an cdv ct) args [("self", .ref x), ("pair", v)] := by
    rcases hargs with rfl | rfl
    · exact .of_eq (by first | rfl | with_unfolding_all rfl)
    · exact .of_eq (by first | rfl | with_unfolding_all rfl)
  refine Att.call_fn (binds := [("self", .ref x), ("pair", v)]) X hlim ho hcd hroom hb (by first | rfl | decide | with_unfolding_all rfl) (fun s₁ IC => ?_) rfl rfl rfl
  obtain ⟨h₁, tk₁, rfl⟩ := IC.toInCall.same
  have k := IC.toInCall.keep
  have hn := IC.toInCall.ns
  have X₁ : K.In h₁ := X.keeps k
  have hx₁ := k _ _ hx
  show wpAny _ _ (execs _ _) _ _ _
  refine wpAny_execs_cons (plainObj_wpAny_Assign_Attribute (ldC (v := v) hn (by first | rfl | with_unfolding_all rfl | kernel_rfl) (ldC (v := .ref x) hn (by first | rfl | with_unfolding_all rfl | kernel_rfl) ?_)))
  refine set_plain X₁ (ox := excO C t0) (od := none) ⟨hx₁, rfl, rfl, trivial⟩ T.sa (exc_osa X₁ hx₁ hcl (show refsVE (.ref C :: bm) = true from hbm) rfl T.noN fun h₃ tk₃ dx k₃ dn dne hx₃ hn₃ => ?_)
  show wpAny _ _ (execs _ _) _ _ _
  have z : s.heap.objs.size < h₁.objs.size := hn.lt
  exact wpAny_execs_nil (hq h₃ tk₃ dx ⟨fun b o nb e => k₃ b o nb (k b o e), hx₃, Nat.le_of_lt (Nat.lt_of_lt_of_le z dn), dne, hn₃⟩)
end SkE
end PySem

/-! The errors of scripts: how they are made. -/
namespace PySem
namespace SkE
open PySem.W PySem.Calls PyProof.Rows PySem.HandSPX
theorem init_wrong {K : Frag} {mg : Str → Option Value} {cl qn : Str} {C fI : Addr} (T : ErrTxt K mg cl "wrong" qn C fI) : InitOk K "wrong" C fI := by
  intro prog w A R s args x t0 v hargs X hlim hx hnx hroom hq
  obtain ⟨oc, od, doc, pm, an, cdv, ct, osl, p1, p2, q1, q2, q3, q4, ho, hcd⟩ := T.fn
  obtain ⟨nm, q, N, bs, bm, sn, sub, ab, col, dd, k0, k1, k2, k3, k5, hC, hbm⟩ := T.cls
  have hcl : clsIn K C = some { name := nm, bases := bs, mro := .ref C :: bm, ns := N, qualname := q, hasDict := true, slotNames := sn, subclasses := sub, abstract := ab, collection := col, hasDel := false } := by unfold clsIn; rw [hC] <;> rfl
  have hb : BindsTo s (fnOf "__init__" qn (iA "wrong" p1 p2) (iB "wrong" q1 q2 q3 q4) (iS "wrong") .none .none doc pm an cdv ct) args [("self", .ref x), ("wrong", v)] := by
    rcases hargs with rfl | rfl
    · exact .of_eq (by first | rfl | with_unfolding_all rfl)
    · exact .of_eq (by first | rfl | with_unfolding_all rfl)
  refine Att.call_fn (binds := [("self", .ref x), ("wrong", v)]) X hlim ho hcd hroom hb (by first | rfl | decide | with_unfolding_all rfl) (fun s₁ IC => ?_) rfl rfl rfl
  obtain ⟨h₁, tk₁, rfl⟩ := IC.toInCall.same
  have k := IC.toInCall.keep
  have hn := IC.toInCall.ns
  have X₁ : K.In h₁ := X.keeps k
  have hx₁ := k _ _ hx
  show wpAny _ _ (execs _ _) _ _ _
  refine wpAny_execs_cons (plainObj_wpAny_Assign_Attribute (ldC (v := v) hn (by first | rfl | with_unfolding_all rfl | kernel_rfl) (ldC (v := .ref x) hn (by first | rfl | with_unfolding_all rfl | kernel_rfl) ?_)))
  refine set_plain X₁ (ox := excO C t0) (od := none) ⟨hx₁, rfl, rfl, trivial⟩ T.sa (exc_osa X₁ hx₁ hcl (show refsVE (.ref C :: bm) = true from hbm) rfl T.noN fun h₃ tk₃ dx k₃ dn dne hx₃ hn₃ => ?_)
  show wpAny _ _ (execs _ _) _ _ _
  have z : s.heap.objs.size < h₁.objs.size := hn.lt
  exact wpAny_execs_nil (hq h₃ tk₃ dx ⟨fun b o nb e => k₃ b o nb (k b o e), hx₃, Nat.le_of_lt (Nat.lt_of_lt_of_le z dn), dne, hn₃⟩)
theorem init_steps {K : Frag} {mg : Str → Option Value} {cl qn : Str} {C fI : Addr} (T : ErrTxt K mg cl "steps" qn C fI) : InitOk K "steps" C fI := by
  intro prog w A R s args x t0 v hargs X hlim hx hnx hroom hq
  obtain ⟨oc, od, doc, pm, an, cdv, ct, osl, p1, p2, q1, q2, q3, q4, ho, hcd⟩ := T.fn
  obtain ⟨nm, q, N, bs, bm, sn, sub, ab, col, dd, k0, k1, k2, k3, k5, hC, hbm⟩ := T.cls
  have hcl : clsIn K C = some { name := nm, bases := bs, mro := .ref C :: bm, ns := N, qualname := q, hasDict := true, slotNames := sn, subclasses := sub, abstract := ab, collection := col, hasDel := false } := by unfold clsIn; rw [hC] <;> rfl
  have hb : BindsTo s (fnOf "__init__" qn (iA "steps" p1 p2) (iB "steps" q1 q2 q3 q4) (iS "steps") .none .none doc pm an cdv ct) args [("self", .ref x), ("steps", v)] := by
    rcases hargs with rfl | rfl
    · exact .of_eq (by first | rfl | with_unfolding_all rfl)
    · exact .of_eq (by first | rfl | with_unfolding_all rfl)
  refine Att.call_fn (binds := [("self", .ref x), ("steps", v)]) X hlim ho hcd hroom hb (by first | rfl | decide | with_unfolding_all rfl) (fun s₁ IC => ?_) rfl rfl rfl
  obtain ⟨h₁, tk₁, rfl⟩ := IC.toInCall.same
  have k := IC.toInCall.keep
  have hn := IC.toInCall.ns
  have X₁ : K.In h₁ := X.keeps k
  have hx₁ := k _ _ hx
  show wpAny _ _ (execs _ _) _ _ _
  refine wpAny_execs_cons (plainObj_wpAny_Assign_Attribute (ldC (v := v) hn (by first | rfl | with_unfolding_all rfl | kernel_rfl) (ldC (v := .ref x) hn (by first | rfl | with_unfolding_all rfl | kernel_rfl) ?_)))
  refine set_plain X₁ (ox := excO C t0) (od := none) ⟨hx₁, rfl, rfl, trivial⟩ T.sa (exc_osa X₁ hx₁ hcl (show refsVE (.ref C :: bm) = true from hbm) rfl T.noN fun h₃ tk₃ dx k₃ dn dne hx₃ hn₃ => ?_)
  show wpAny _ _ (execs _ _) _ _ _
  have z : s.heap.objs.size < h₁.objs.size := hn.lt
  exact wpAny_execs_nil (hq h₃ tk₃ dx ⟨fun b o nb e => k₃ b o nb (k b o e), hx₃, Nat.le_of_lt (Nat.lt_of_lt_of_le z dn), dne, hn₃⟩)
end SkE
end PySem

namespace PySem
namespace SkE
open PySem.W PySem.Calls PyProof.Rows PySem.HandSPX
section
variable {prog : Program} {w : World} {A : Around} {E : Value → Shared → Prop} {R : Result → Shared → Prop} {h : Heap} {g : Array GenState} {d : Drawn} {t : Nat} {os : OsState}
variable {nm q : Str} {C N : Addr} {bs bm bmB : List Value} {hdct : Bool} {sn : List Str} {sub : List Value} {ab : Bool} {col : Option Bool} {dd : Option Addr} {k0 k1 k2 k3 k5 : Option Value} {B newId initId : String} {kw : List (Str × Value)}
theorem checkK (F : ExcBaseFacts B newId initId bmB) (hT : ∀ X : String, bm.contains (.type X) = bmB.contains (.type X)) {Q : Unit → Shared → Prop}
    (hC : h.get? C = some (excClassObj nm q C N bs bm hdct sn sub ab col dd k0 k1 k2 k3 k5 newId)) (hq : Q () ⟨h, g, d, t, os⟩) : wpAny (model prog w) A (checkBuiltinCall newId ⟨[.ref C], kw⟩) Q E ⟨h, g, d, t, os⟩ := by
  have hcont : (Value.ref C :: bm).contains (.type B) = true := by
    rw [List.contains_cons, hT, F.hasB, Bool.or_true]
  have z := F.noStar
  simp only [checkBuiltinCall, F.newKind, F.newSplit, F.newRow]
  repeat (first
    | refine wpAny_loadPart_at hC ?_
    | (refine wpAny_isSubtype_exc hC ?_
       rw [hcont])
    | refine wpAny_staticBase_exc hC ?_
    | refine wpAny_madeBy_exc hC ?_
    | simp only [bne_self_eq_false, Bool.false_eq_true, if_false]
    | wp_step)
  exact hq
theorem newK (F : ExcBaseFacts B newId initId bmB) (hT : ∀ X : String, bm.contains (.type X) = bmB.contains (.type X))
    (hC : h.get? C = some (excClassObj nm q C N bs bm hdct sn sub ab col dd k0 k1 k2 k3 k5 newId))
    (hq : R (.ok (.ret (.ref (h.objs.size + 1)))) ⟨(h.push (kdv_tup [])).push (excO C h.objs.size), g, d, t, os⟩) :
    codeAny (model prog w) A (.builtin newId ⟨[.ref C], kw⟩) R ⟨h, g, d, t, os⟩ := by
  have ends := F.ends
  have inn : ∀ X : String, (Value.ref C :: bm).contains (.type X) = bmB.contains (.type X) := fun X => by
    rw [List.contains_cons, hT]; rfl
  have hcB := (inn B).trans F.hasB
  have hcA := (inn "AttributeError").trans F.noAttr
  have hcN := (inn "NameError").trans F.noName
  refine codeAny_builtinAt F.entry ?_
  unfold Builtin.«BaseException.__new__»
  refine wpAt_bind ?_
  show wpAt _ _ _ (stack >>= _) _ _ _
  refine wpAt_bind (wpAt_stack fun p below => wpAt_of_wpAny ?_)
  wp_walk
  refine wpAt_of_wpAny ?_
  rw [F.owner]
  repeat (first
    | with_reducible refine wpAny_madeHere_exc F.canon hC ?_
    | with_reducible refine wpAny_loadPart_at hC ?_
    | (with_reducible refine wpAny_isSubtype_exc hC ?_
       first | rw [hcB] | rw [hcA] | rw [hcN])
    | wp_step)
  show R _ _
  rw [Heap.size_push]
  exact hq
theorem typeK (F : ExcBaseFacts B newId initId bmB) (hT : ∀ X : String, bm.contains (.type X) = bmB.contains (.type X)) {fI : Addr} {Q : Fin → Shared → Prop}
    (hC : h.get? C = some (excClassObj nm q C N bs bm hdct sn sub ab col dd k0 k1 k2 k3 k5 newId)) (hi : Looks (model prog w) h (typeLookup (.ref C) "__init__") (some (.ref fI)))
    (hb : ∀ self, Looks (model prog w) h (bindSpecial (.ref fI) self) (.ref fI, [self]))
    (hq : codeAny (model prog w) A (.call (.ref fI) ⟨[.ref (h.objs.size + 1)], kw⟩) (fun r s' => match r with | .ok (.ret v) => v = .none ∧ Q (.done (.ret (.ref (h.objs.size + 1)))) s' | .ok _ => False | .error e => E e s')
      ⟨(h.push (kdv_tup [])).push (excO C h.objs.size), g, d, t, os⟩) : wpAny (model prog w) A (Builtin.«type.__call__» ⟨[.ref C], kw⟩) Q E ⟨h, g, d, t, os⟩ := by
  repeat (first
    | with_reducible refine wpAny_loadPart_at hC ?_
    | with_reducible refine wpAny_madeBy_exc hC ?_
    | wp_step)
  refine codeAny_call_builtin_code (Code.quiet_builtin _ F.quiet) (checkK F hT hC ?_)
  refine newK F hT hC ?_
  show wpAny _ _ _ _ _ _
  have k : ∀ b o, h.get? b = some o → ((h.push (kdv_tup [])).push (excO C h.objs.size)).get? b = some o := fun b o e => Heap.get?_push_of_some _ (Heap.get?_push_of_some _ e)
  have hC1 := k _ _ hC
  have hget : ((h.push (kdv_tup [])).push (excO C h.objs.size)).get? (h.objs.size + 1) = some (excO C h.objs.size) := by
    heap_get
  have me : (Value.ref C :: bm).contains (.ref C) = true := by
    simp
  have i1 := hi.keeps k
  have b1 := (hb (.ref (h.objs.size + 1))).keeps k
  unfold isInstance
  repeat (first
    | with_reducible refine wpAny_loadPart_at hget ?_
    | (with_reducible refine wpAny_isSubtype_exc hC1 ?_
       rw [me])
    | wp_step)
  show wpAny _ _ (typeLookup (.ref C) _) _ _ _
  refine i1.at (wpAny_holding (wpAny_bind (b1.at (wpAny_bind (wpAny_call (codeAny_mono hq fun r s' z => ?_))))))
  rcases r with e | fl
  · exact z
  · cases fl with
    | ret v =>
      obtain ⟨rfl, z⟩ := z
      first
        | exact wpAny_pure (wpAny_pure z)
        | (wp_walk
           exact z)
    | next => exact z.elim
    | brk => exact z.elim
    | cont => exact z.elim
theorem callK (F : ExcBaseFacts B newId initId bmB) (hT : ∀ X : String, bm.contains (.type X) = bmB.contains (.type X)) {fI : Addr}
    (hC : h.get? C = some (excClassObj nm q C N bs bm hdct sn sub ab col dd k0 k1 k2 k3 k5 newId)) (hi : Looks (model prog w) h (typeLookup (.ref C) "__init__") (some (.ref fI)))
    (hb : ∀ self, Looks (model prog w) h (bindSpecial (.ref fI) self) (.ref fI, [self]))
    (hq : codeAny (model prog w) (A.under (.builtin "type.__call__" ⟨[.ref C], kw⟩)) (.call (.ref fI) ⟨[.ref (h.objs.size + 1)], kw⟩) (InitBack (h.objs.size + 1) R) ⟨(h.push (kdv_tup [])).push (excO C h.objs.size), g, d, t, os⟩) :
    codeAny (model prog w) A (.call (.ref C) ⟨[], kw⟩) R ⟨h, g, d, t, os⟩ := by
  have f1 := tc_lookup
  have f2 := tc_bind (.ref C)
  have ty : (⟨h, g, d, t, os⟩ : Shared).TypeIs (.ref C) "type" := ⟨_, hC, rfl⟩
  refine codeAny_of_tree ?_
  show wpAny _ _ (callAny (.ref C) _) _ _ _
  repeat (any_goals (first
    | assumption
    | with_reducible refine wpAny_loadPart_at hC ?_
    | wp_step))
  refine ⟨rfl, codeAny_call_builtin_at (Code.quiet_builtin _ (by decide +kernel)) entry_typeCall ?_⟩
  refine wpAny_check_type_call_sub hC (typeK F hT hC hi hb ?_)
  refine codeAny_mono hq fun r s' z => ?_
  rcases r with e | (v | _ | _ | _)
  all_goals exact z
end
end SkE
end PySem

namespace PySem
namespace SkE
open PySem.W PySem.Calls PyProof.Rows PySem.HandSPX
section
variable {prog : Program} {w : World} {A : Around} {E : Value → Shared → Prop} {R : Result → Shared → Prop} {s : Shared} {K : Frag} {mg : Str → Option Value} {cl at_ qn : Str} {C fI : Addr}
theorem under_kw {A : Around} {C : Addr} {us : List Value} {kw : List (Str × Value)} : (A.under (.builtin "type.__call__" ⟨.ref C :: us, kw⟩)).depth = A.depth + 1 := L2.make_depth
/-- behind __init__: the error is made -/
theorem made_end {hp : Heap} {g : Array GenState} {dr : Drawn} {os : OsState} {rest : List Value} {h' : Heap} {tk : Nat} {dx : Addr} {v : Value} (M : InitEnd at_ ((hp.push (kdv_tup rest)).push (excO C hp.objs.size)) h' (hp.objs.size + 1) C dx hp.objs.size v) :
    OwnMade at_ hp h' (hp.objs.size + 1) C dx v := by
  have k : ∀ b o, hp.get? b = some o → ((hp.push (kdv_tup rest)).push (excO C hp.objs.size)).get? b = some o := fun b o e => Heap.get?_push_of_some _ (Heap.get?_push_of_some _ e)
  have z : hp.objs.size + 1 + 1 ≤ dx := by
    have q := M.dbig
    rw [Heap.size_push, Heap.size_push] at q
    exact q
  exact ⟨fun b o e => M.keep b o (Nat.ne_of_lt (Nat.lt_succ_of_lt (Heap.lt_size e))) (k b o e), Nat.le_succ _, ⟨_, _, M.obj, rfl, rfl, rfl, rfl⟩, by omega, M.dne, M.ns⟩
theorem err_made (T : ErrTxt K mg cl at_ qn C fI) (IO : InitOk K at_ C fI) {v : Value} {args : Args} (ha : args = ⟨[v], []⟩ ∨ args = ⟨[], [(at_, v)]⟩) (X : K.In s.heap) (hlim : s.heap.NoLimit) (hroom : A.depth + 1 < recursionLimit)
    (hq : ∀ h' tk e d, OwnMade at_ s.heap h' e C d v → R (.ok (.ret (.ref e))) { s with heap := h', toks := tk }) : codeAny (model prog w) A (.call (.ref C) args) R s := by
  obtain ⟨nm, q, N, bs, bm, sn, sub, ab, col, dd, k0, k1, k2, k3, k5, hC, hbm⟩ := T.cls
  obtain ⟨hp, g, dr, tk, os⟩ := s
  have start : ∀ rest : List Value, K.In ((hp.push (kdv_tup rest)).push (excO C hp.objs.size)) ∧ ((hp.push (kdv_tup rest)).push (excO C hp.objs.size)).NoLimit ∧ ((hp.push (kdv_tup rest)).push (excO C hp.objs.size)).get? (hp.objs.size + 1) = some (excO C hp.objs.size) := fun rest => by
    have k : ∀ b o, hp.get? b = some o → ((hp.push (kdv_tup rest)).push (excO C hp.objs.size)).get? b = some o := fun b o e => Heap.get?_push_of_some _ (Heap.get?_push_of_some _ e)
    exact ⟨X.keeps k, hlim.keeps k, by heap_get⟩
  have no : K.lookup (hp.objs.size + 1) = none := by
    cases e : K.lookup (hp.objs.size + 1) with
    | none => rfl
    | some o => exact absurd (Nat.lt_of_succ_lt (Heap.lt_size (show hp.get? _ = some o from X _ _ e))) (Nat.lt_irrefl _)
  rcases ha with rfl | rfl
  · obtain ⟨s1, s2, s3⟩ := start [v]
    refine call_own F.excBase_ValueError (fun Y => refsVE_contains Y bm hbm) (X _ _ hC) (looks_findIn X T.iC) (fun self => bind_fn X self T.tC) (by rw [List.length_singleton]; exact Nat.le_trans (by decide) (Nat.le_of_eq sizeLine_eq.symm)) ?_
    refine IO prog w _ _ ⟨_, g, dr, tk, os⟩ _ _ _ v (.inl rfl) s1 s2 s3 no ?_ fun h' tk' dx M => ⟨rfl, hq h' tk' _ dx (made_end (g := g) (dr := dr) (os := os) (tk := tk') M)⟩
    rw [under_kw]; exact hroom
  · obtain ⟨s1, s2, s3⟩ := start []
    refine callK F.excBase_ValueError (fun Y => refsVE_contains Y bm hbm) (X _ _ hC) (looks_findIn X T.iC) (fun self => bind_fn X self T.tC) ?_
    refine IO prog w _ _ ⟨_, g, dr, tk, os⟩ _ _ _ v (.inr rfl) s1 s2 s3 no ?_ fun h' tk' dx M => ⟨rfl, hq h' tk' _ dx (made_end (g := g) (dr := dr) (os := os) (tk := tk') M)⟩
    rw [under_kw]; exact hroom
end
end SkE
end PySem
namespace Sk
open PySem PySem.Spec PyProof.Rows L2 Evl PySem.SkE
/-- an error of the class at C, its own dict at d -/
def ErO (C d e : Addr) : HO := .ext fun h => ∃ (oe : Obj) (vs : Array Value), h.get? e = some oe ∧ oe.cls = .ref C ∧ oe.dict = some d ∧ oe.data = .fields vs ∧ vs[1]? = some .none
theorem relO_one {v : V} {v' : Value} {at_ : Str} (r : RelV v v') (f : Str) : RelO (List.lookup f [(at_, v)]) (if f = at_ then some v' else none) := by
  by_cases hw : f = at_
  · subst hw
    rw [if_pos rfl]
    simp only [List.lookup, beq_self_eq_true]
    exact r
  · have q : (f == at_) = false := by simpa using hw
    rw [if_neg hw]
    simp only [List.lookup, q]
    trivial
section
variable {X : Cx} {pins : List (Addr × Obj)} {σ : L2.St} {H : Hp} {s : Shared} {cl at_ qn : Str} {C fI : Addr}
/-- the heap behind a made error -/
theorem made_inv (I : Inv X pins σ H s) {h' : Heap} {tk : Nat} {e d : Addr} {v : V} {v' : Value} (rv : RelV v v') (M : OwnMade at_ s.heap h' e C d v') :
    H e = none ∧ H d = none ∧ d ≠ e ∧ Inv X pins σ (upd (upd H d (.xd [(at_, v)])) e (ErO C d e)) { s with heap := h', toks := tk } := by
  have he := I.hok.fresh M.new
  have hd := I.hok.fresh M.dbig
  have he2 : (upd H d (.xd [(at_, v)])) e = none := by
    rw [upd_ne (Ne.symm M.dne)]; exact he
  refine ⟨he, hd, M.dne, I.un ((Un.laid (h := s.heap) (h' := s.heap) (fun _ _ z => z) M.dbig hd).trans (Un.laid M.keep M.new he2)) ?_⟩
  have h1 : HOk X.prog X.w (upd H d (.xd [(at_, v)])) h' := I.hok.laidN M.keep hd ⟨_, M.ns, fun f => relO_one rv f⟩
  obtain ⟨oe, vs, g, r⟩ := M.obj
  exact h1.laidN (fun _ _ z => z) he2 ⟨⟨oe, vs, g, r⟩, ⟨oe, g⟩, fun _ _ ⟨o, vs, q, r⟩ k => ⟨o, vs, k o q, r⟩⟩
def tErr (C : Addr) (at_ : Str) (ta : TA) : TE := fun σ H Q => ta σ H fun vs H1 => ∃ v, vs = [v] ∧ ∀ e d, H1 e = none → H1 d = none → d ≠ e → Q (.ref e) (upd (upd H1 d (.xd [(at_, v)])) e (ErO C d e))
theorem pe_err {a : Expr} {ta : TA} {p pos : Pos} {k : Nat} (T : ErrTxt X.K X.mg cl at_ qn C fI) (IO : InitOk X.K at_ C fI) (hr : Room k X.A) (ha : PA X [a] ta) (hg : Gl X cl := by rfl) (hdb : (cl == ("__debug__" : Str)) = false := by decide)
    (he : starEach (a :: []) X.env = (false, eval a X.env) :: starEach [] X.env := by rfl) (hpl : (backTo pos (starEach [] X.env)).any (·.1) = false := by rfl) : PE X (.Call (.Name cl p) [a] [] pos) (tErr C at_ ta) := by
  refine ⟨fun pins s σ H Q I h => wpAny_Call_Name_kw (ld_glob I hg T.gC ?_ hdb)⟩
  refine PySem.W.callWith_K (h₀ := X.base) I.ok.mod.kin T.kC (thn (ha.run pos pins s σ H _ I h) fun us s1 ⟨vs, H1, I1, r1, v, ev, q⟩ => ?_) he hpl
  subst ev
  refine ⟨I1.kIn, ?_⟩
  obtain ⟨u, rfl, ru⟩ := vals1 r1
  refine wpAny_call (err_made T IO (.inl rfl) I1.kIn I1.nolimit (by have := hr.dp; omega) fun h' tk e d M => ?_)
  obtain ⟨g1, g2, g3, J⟩ := made_inv (tk := tk) I1 ru M
  exact ⟨.ref e, _, J, rfl, q e d g1 g2 g3⟩
theorem pe_errK {kws : List Keyword} {ta : TA} {p pos : Pos} {k : Nat} (T : ErrTxt X.K X.mg cl at_ qn C fI) (IO : InitOk X.K at_ C fI) (hr : Room k X.A) (ha : PK X kws ta) (hg : Gl X cl := by rfl) (hdb : (cl == ("__debug__" : Str)) = false := by decide)
    (hall : (backToKw pos (keywordEach kws X.env)).all (·.1.isSome) = true := by rfl) (hks : (backToKw pos (keywordEach kws X.env)).filterMap (·.1) = [at_] := by rfl)
    (hpl : ((backTo pos (starEach [] X.env)).any (·.1) || (backToKw pos (keywordEach kws X.env)).any (·.1.isNone)) = false := by rfl) : PE X (.Call (.Name cl p) [] kws pos) (tErr C at_ ta) := by
  refine ⟨fun pins s σ H Q I h => wpAny_Call_Name_kw (ld_glob I hg T.gC ?_ hdb)⟩
  refine PySem.W.callWith_KW0 (h₀ := X.base) I.ok.mod.kin T.kC hall (thn (ha.run pos pins s σ H _ I h) fun us s1 ⟨vs, H1, I1, r1, v, ev, q⟩ => ?_) hpl
  subst ev
  refine ⟨I1.kIn, ?_⟩
  rw [hks]
  obtain ⟨u, rfl, ru⟩ := vals1 r1
  refine wpAny_call (err_made T IO (.inr rfl) I1.kIn I1.nolimit (by have := hr.dp; omega) fun h' tk e d M => ?_)
  obtain ⟨g1, g2, g3, J⟩ := made_inv (tk := tk) I1 ru M
  exact ⟨.ref e, _, J, rfl, q e d g1 g2 g3⟩
/-- the error at e stands, with its field -/
def IsErr (H : Hp) (C : Addr) (at_ : Str) (e : Addr) (v : V) : Prop := ∃ d, H e = some (ErO C d e) ∧ H d = some (.xd [(at_, v)])
theorem IsErr.inst (I : Inv X pins σ H s) {e : Addr} {v : V} (h : IsErr H C at_ e v) : ∃ oe od, PySem.W.InstAt s.heap e oe C (some od) ∧ ∃ u, RelV v u ∧ PySem.W.lookIn at_ od = some (some u) := by
  obtain ⟨d, h1, h2⟩ := h
  obtain ⟨⟨oe, vs, g, c, dd, da, _⟩, _⟩ := (show ObjOk X.prog X.w H s.heap e (ErO C d e) from I.hok _ _ h1)
  obtain ⟨mA, hns, hr⟩ := (show ObjOk X.prog X.w H s.heap d (.xd [(at_, v)]) from I.hok _ _ h2)
  obtain ⟨od, ho, hl⟩ := lookIn_ns hns
  have l : List.lookup at_ [(at_, v)] = some v := by simp [List.lookup]
  obtain ⟨u, hu, ru⟩ := RelO.some_of (v := v) (o := mA at_) (by rw [← l]; exact hr at_)
  refine ⟨oe, od, ⟨g, c, by unfold PySem.W.notCls; rw [da] <;> rfl, by rw [dd]; exact ho⟩, u, ru, by rw [hl, hu]⟩
/-- e.attr -/
def tErrFld (C : Addr) (at_ : Str) (te : TE) : TE := fun σ H Q => te σ H fun x H1 => ∃ e v, x = .ref e ∧ IsErr H1 C at_ e v ∧ Q v H1
theorem pe_errFld {e : Expr} {te : TE} {pos : Pos} (T : ErrTxt X.K X.mg cl at_ qn C fI) (he : PE X e te) (hb : attributeBase e at_ X.env (eval e X.env) = eval e X.env := by rfl) : PE X (.Attribute e at_ pos) (tErrFld C at_ te) := by
  refine ⟨fun pins s σ H Q I h => attr_of hb (thn (he.run pins s σ H _ I h) fun u s1 hh => ?_)⟩
  obtain ⟨x, H1, I1, rx, e0, v, ex, hi, q⟩ := hh
  subst ex
  cases (show u = Value.ref e0 from rx)
  obtain ⟨oe, od, J, u, ru, hl⟩ := hi.inst I1
  exact HandSPX.exc_get I1.kIn J T.ga T.gg T.exC (PySem.W.findObj_own T.hdC T.noN rfl hl) (handed_of ru) ⟨v, H1, I1.tok _, ru, q⟩
/-- isinstance(e, class) -/
theorem call_isErr (T : ErrTxt X.K X.mg cl at_ qn C fI) : CallR X (.builtin "isinstance") (fun xs H Q => ∃ (e : Addr) (v c : V) (u : Value) (b : Bool), xs = [.ref e, c] ∧ ClsV c u ∧ IsErr H C at_ e v ∧ PySem.W.kitOne X.K (.ref C) u = some b ∧ Q (.bl b) H) := by
  intro pins s σ H xs us Q I r h
  obtain ⟨e, v, c, u, b, rfl, k, hi, hk, q⟩ := h
  obtain ⟨u1, u2, rfl, r1, r2⟩ := vals2 r
  cases (show u1 = Value.ref e from r1)
  have e2 := k.eq r2
  subst e2
  obtain ⟨oe, od, J, _⟩ := hi.inst I
  exact PySem.W.kia_one (PySem.W.kitx_exc T.cl_ T.ga T.gg T.exC T.hCl T.hGt T.hTk T.hOb) I.kIn J hk (fun z => nomatch z) fun tk => ⟨.bl b, H, I.tok tk, rfl, q⟩
end
end Sk

namespace Sk
open PySem PySem.Spec PyProof.Rows L2 Evl PySem.SkE
/-- an own error's class, which one left open -/
def ErrC (K : PySem.W.Frag) (at_ : Str) (C : Addr) : Prop := ∃ mg cl qn fI, ErrTxt K mg cl at_ qn C fI
section
variable {X : Cx}
/-- e.attr, of any own error that stores it -/
def tErrFldA (K : PySem.W.Frag) (at_ : Str) (te : TE) : TE := fun σ H Q => te σ H fun x H1 => ∃ e v C, x = .ref e ∧ ErrC K at_ C ∧ IsErr H1 C at_ e v ∧ Q v H1
theorem pe_errFldA {e : Expr} {te : TE} {at_ : Str} {pos : Pos} (he : PE X e te) (hb : attributeBase e at_ X.env (eval e X.env) = eval e X.env := by rfl) : PE X (.Attribute e at_ pos) (tErrFldA X.K at_ te) := by
  refine ⟨fun pins s σ H Q I h => attr_of hb (thn (he.run pins s σ H _ I h) fun u s1 hh => ?_)⟩
  obtain ⟨x, H1, I1, rx, e0, v, C, ex, ⟨mg, cl, qn, fI, T⟩, hi, q⟩ := hh
  subst ex
  cases (show u = Value.ref e0 from rx)
  obtain ⟨oe, od, J, u, ru, hl⟩ := hi.inst I1
  exact HandSPX.exc_get I1.kIn J T.ga T.gg T.exC (PySem.W.findObj_own T.hdC T.noN rfl hl) (handed_of ru) ⟨v, H1, I1.tok _, ru, q⟩
/-- isinstance(e, class) -/
def rIsErr (K : PySem.W.Frag) : List V → Hp → VK → Prop := fun xs H Q => ∃ (C e : Addr) (at_ : Str) (v c : V) (u : Value) (b : Bool), xs = [.ref e, c] ∧ ClsV c u ∧ ErrC K at_ C ∧ IsErr H C at_ e v ∧ PySem.W.kitOne K (.ref C) u = some b ∧ Q (.bl b) H
theorem call_isErrA : CallR X (.builtin "isinstance") (rIsErr X.K) := by
  intro pins s σ H xs us Q I r h
  obtain ⟨C, e, at_, v, c, u, b, rfl, k, ⟨mg, cl, qn, fI, T⟩, hi, hk, q⟩ := h
  obtain ⟨u1, u2, rfl, r1, r2⟩ := vals2 r
  cases (show u1 = Value.ref e from r1)
  have e2 := k.eq r2
  subst e2
  obtain ⟨oe, od, J, _⟩ := hi.inst I
  exact PySem.W.kia_one (PySem.W.kitx_exc T.cl_ T.ga T.gg T.exC T.hCl T.hGt T.hTk T.hOb) I.kIn J hk (fun z => nomatch z) fun tk => ⟨.bl b, H, I.tok tk, rfl, q⟩
end
end Sk

/-! The errors of changes: which of sixteen classes they are of. -/
namespace Sk
open PySem PySem.Spec PyProof.Rows L2 Evl PySem.SkE
structure Er6 (K : PySem.W.Frag) (mg : Str → Option Value) (C I : Nat → Addr) : Prop where
  t0 : ErrTxt K mg "BadScript" "steps" "BadScript.__init__" (C 0) (I 0)
  t1 : ErrTxt K mg "WrongText" "wrong" "WrongText.__init__" (C 1) (I 1)
  t2 : ErrTxt K mg "NotInside" "wrong" "NotInside.__init__" (C 2) (I 2)
  t3 : ErrTxt K mg "NoSuchText" "count" "NoSuchText.__init__" (C 3) (I 3)
  t4 : ErrTxt K mg "NothingBetween" "pair" "NothingBetween.__init__" (C 4) (I 4)
  t5 : ErrTxt K mg "NoTexts" "wrong" "NoTexts.__init__" (C 5) (I 5)
  m6 : mg "BadDocument" = some (.ref (C 6))
  m7 : mg "BadPrefix" = some (.ref (C 7))
  m8 : mg "NoRoom" = some (.ref (C 8))
  m9 : mg "NoSuchCompletion" = some (.ref (C 9))
  m10 : mg "NoPath" = some (.ref (C 10))
  m11 : mg "NotOffered" = some (.ref (C 11))
  m12 : mg "TooFar" = some (.ref (C 12))
  m13 : mg "BadSchema" = some (.ref (C 13))
  m14 : mg "TooManyStates" = some (.ref (C 14))
  m15 : mg "BadCommand" = some (.ref (C 15))
def atE : Nat → Str
  | 0 => "steps"
  | 3 => "count"
  | 4 => "pair"
  | _ => "wrong"
theorem six {n : Nat} {p : Nat → Prop} (h : n < 6) (h0 : p 0) (h1 : p 1) (h2 : p 2) (h3 : p 3) (h4 : p 4) (h5 : p 5) : p n :=
  match n, h with
  | 0, _ => h0 | 1, _ => h1 | 2, _ => h2 | 3, _ => h3 | 4, _ => h4 | 5, _ => h5
theorem Er6.c {K : PySem.W.Frag} {mg : Str → Option Value} {C I : Nat → Addr} (T : Er6 K mg C I) {n : Nat} (h : n < 6) : ErrC K (atE n) (C n) :=
  six (p := fun n => ErrC K (atE n) (C n)) h ⟨_, _, _, _, T.t0⟩ ⟨_, _, _, _, T.t1⟩ ⟨_, _, _, _, T.t2⟩ ⟨_, _, _, _, T.t3⟩ ⟨_, _, _, _, T.t4⟩ ⟨_, _, _, _, T.t5⟩
theorem IsErr.mono {H H' : Hp} {C e : Addr} {a : Str} {v : V} (h : IsErr H C a e v) (x : Ex H H') : IsErr H' C a e v := by
  obtain ⟨d, h1, h2⟩ := h
  exact ⟨d, x _ _ h1, x _ _ h2⟩
def eqs (n : Nat) : List V := (List.range 16).map fun k => V.bl (decide (n = k))
def Kit6 (K : PySem.W.Frag) (C : Nat → Addr) : Prop := ∀ n k, n < 6 → k < 16 → PySem.W.kitOne K (.ref (C n)) (.ref (C k)) = some (decide (n = k))
theorem scKnd : FnScope ["error", "found"] ["error"] (defScope sKinds) := ⟨rfl, rfl, rfl, by decide +kernel, rfl, by decide +kernel, by decide +kernel⟩
def spKnd (C : Nat → Addr) : Sp := fun vs H Q _ => ∃ (n : Nat) (e : Addr) (v : V), vs = [.ref e] ∧ n < 6 ∧ IsErr H (C n) (atE n) e v ∧ ∀ p H', Ex H H' → H' p = some (.lst (eqs n)) → Q (.ref p) H'
section
variable {P : Program} {w : World} {K : PySem.W.Frag} {mg : Str → Option Value} {base : Heap} {f : Addr} {fd : FuncData} {C I : Nat → Addr}
theorem ok_knd {kk : Nat} (F : Fun K "_law_kinds" "_law_kinds" sKinds f fd) (T : Er6 K mg C I) (kt : Kit6 K C) (hi : mg "isinstance" = none) : FnOk P w K mg base CX0 (kk + 1) f fd ["error"] (spKnd C) := by
  refine F.ok scKnd (fun vs H Q E h => ?_) (fun cdv A outer s H vs Q E hr h => ?_)
  · obtain ⟨a, b, c, rfl, _⟩ := h
    rfl
  have nd := scKnd.nd
  obtain ⟨n, e, v, rfl, hn, he, q⟩ := h
  have hc := T.c hn
  refine ⟨_, pss_cons (ps_set (i := 1) nd rfl (Or.inl rfl) (pe_lst (pa_cons (pe_callB call_isErrA rfl hi boot_isinstance (pa_cons (pv 0) (pa_cons (pe_glob (v := .ref (C 0)) rfl (T.t0.gC) rfl) pa_nil))) (pa_cons (pe_callB call_isErrA rfl hi boot_isinstance (pa_cons (pv 0) (pa_cons (pe_glob (v := .ref (C 1)) rfl (T.t1.gC) rfl) pa_nil))) (pa_cons (pe_callB call_isErrA rfl hi boot_isinstance (pa_cons (pv 0) (pa_cons (pe_glob (v := .ref (C 2)) rfl (T.t2.gC) rfl) pa_nil))) pa_nil)))))
    (pss_cons (ps_set (i := 1) nd rfl (Or.inl rfl) (pe_op op_cat (pv 1) (pe_lst (pa_cons (pe_callB call_isErrA rfl hi boot_isinstance (pa_cons (pv 0) (pa_cons (pe_glob (v := .ref (C 3)) rfl (T.t3.gC) rfl) pa_nil))) (pa_cons (pe_callB call_isErrA rfl hi boot_isinstance (pa_cons (pv 0) (pa_cons (pe_glob (v := .ref (C 4)) rfl (T.t4.gC) rfl) pa_nil))) (pa_cons (pe_callB call_isErrA rfl hi boot_isinstance (pa_cons (pv 0) (pa_cons (pe_glob (v := .ref (C 5)) rfl (T.t5.gC) rfl) pa_nil))) pa_nil))))))
    (pss_cons (ps_set (i := 1) nd rfl (Or.inl rfl) (pe_op op_cat (pv 1) (pe_lst (pa_cons (pe_callB call_isErrA rfl hi boot_isinstance (pa_cons (pv 0) (pa_cons (pe_glob (v := .ref (C 6)) rfl (T.m6) rfl) pa_nil))) (pa_cons (pe_callB call_isErrA rfl hi boot_isinstance (pa_cons (pv 0) (pa_cons (pe_glob (v := .ref (C 7)) rfl (T.m7) rfl) pa_nil))) (pa_cons (pe_callB call_isErrA rfl hi boot_isinstance (pa_cons (pv 0) (pa_cons (pe_glob (v := .ref (C 8)) rfl (T.m8) rfl) pa_nil))) pa_nil))))))
    (pss_cons (ps_set (i := 1) nd rfl (Or.inl rfl) (pe_op op_cat (pv 1) (pe_lst (pa_cons (pe_callB call_isErrA rfl hi boot_isinstance (pa_cons (pv 0) (pa_cons (pe_glob (v := .ref (C 9)) rfl (T.m9) rfl) pa_nil))) (pa_cons (pe_callB call_isErrA rfl hi boot_isinstance (pa_cons (pv 0) (pa_cons (pe_glob (v := .ref (C 10)) rfl (T.m10) rfl) pa_nil))) (pa_cons (pe_callB call_isErrA rfl hi boot_isinstance (pa_cons (pv 0) (pa_cons (pe_glob (v := .ref (C 11)) rfl (T.m11) rfl) pa_nil))) pa_nil))))))
    (pss_cons (ps_set (i := 1) nd rfl (Or.inl rfl) (pe_op op_cat (pv 1) (pe_lst (pa_cons (pe_callB call_isErrA rfl hi boot_isinstance (pa_cons (pv 0) (pa_cons (pe_glob (v := .ref (C 12)) rfl (T.m12) rfl) pa_nil))) (pa_cons (pe_callB call_isErrA rfl hi boot_isinstance (pa_cons (pv 0) (pa_cons (pe_glob (v := .ref (C 13)) rfl (T.m13) rfl) pa_nil))) (pa_cons (pe_callB call_isErrA rfl hi boot_isinstance (pa_cons (pv 0) (pa_cons (pe_glob (v := .ref (C 14)) rfl (T.m14) rfl) pa_nil))) pa_nil))))))
    (pss_one (ps_ret (pe_op op_cat (pv 1) (pe_lst (pa_cons (pe_callB call_isErrA rfl hi boot_isinstance (pa_cons (pv 0) (pa_cons (pe_glob (v := .ref (C 15)) rfl (T.m15) rfl) pa_nil))) pa_nil))))))))), ?_⟩
  refine ⟨_, rfl, C n, e, _, v, _, _, _, rfl, .own _, hc, he, kt n 0 hn (by decide), ?_⟩
  refine ⟨_, rfl, C n, e, _, v, _, _, _, rfl, .own _, hc, he, kt n 1 hn (by decide), ?_⟩
  refine ⟨_, rfl, C n, e, _, v, _, _, _, rfl, .own _, hc, he, kt n 2 hn (by decide), ?_⟩
  refine ⟨by show 3 ≤ sizeLine; decide, fun p0 n0 => ?_⟩
  have y0 : Ex H (upd H p0 (.lst [.bl (decide (n = 0)), .bl (decide (n = 1)), .bl (decide (n = 2))])) := Ex.new n0
  have b0 : (upd H p0 (.lst [.bl (decide (n = 0)), .bl (decide (n = 1)), .bl (decide (n = 2))])) p0 = some (.lst [.bl (decide (n = 0)), .bl (decide (n = 1)), .bl (decide (n = 2))]) := upd_same
  have hf0 := he.mono y0
  dsimp only
  generalize upd H p0 (.lst [.bl (decide (n = 0)), .bl (decide (n = 1)), .bl (decide (n = 2))]) = G0 at *
  refine ⟨_, rfl, ?_⟩
  refine ⟨_, rfl, C n, e, _, v, _, _, _, rfl, .own _, hc, hf0, kt n 3 hn (by decide), ?_⟩
  refine ⟨_, rfl, C n, e, _, v, _, _, _, rfl, .own _, hc, hf0, kt n 4 hn (by decide), ?_⟩
  refine ⟨_, rfl, C n, e, _, v, _, _, _, rfl, .own _, hc, hf0, kt n 5 hn (by decide), ?_⟩
  refine ⟨by show 3 ≤ sizeLine; decide, fun q0 nq0 => ?_⟩
  refine ⟨_, _, _, _, rfl, rfl, (Ex.new nq0) _ _ b0, upd_same, by show 3 + 3 ≤ sizeLine; decide, fun r0 nr0 => ?_⟩
  have y1 := (y0.trans (Ex.new (o := .lst [.bl (decide (n = 3)), .bl (decide (n = 4)), .bl (decide (n = 5))]) nq0)).trans (Ex.new (o := .lst ([.bl (decide (n = 0)), .bl (decide (n = 1)), .bl (decide (n = 2))] ++ [.bl (decide (n = 3)), .bl (decide (n = 4)), .bl (decide (n = 5))])) nr0)
  have b1 : (upd (upd G0 q0 (.lst [.bl (decide (n = 3)), .bl (decide (n = 4)), .bl (decide (n = 5))])) r0 (.lst ([.bl (decide (n = 0)), .bl (decide (n = 1)), .bl (decide (n = 2))] ++ [.bl (decide (n = 3)), .bl (decide (n = 4)), .bl (decide (n = 5))]))) r0 = some (.lst [.bl (decide (n = 0)), .bl (decide (n = 1)), .bl (decide (n = 2)), .bl (decide (n = 3)), .bl (decide (n = 4)), .bl (decide (n = 5))]) := upd_same
  have hf1 := he.mono y1
  dsimp only
  generalize upd (upd G0 q0 (.lst [.bl (decide (n = 3)), .bl (decide (n = 4)), .bl (decide (n = 5))])) r0 (.lst ([.bl (decide (n = 0)), .bl (decide (n = 1)), .bl (decide (n = 2))] ++ [.bl (decide (n = 3)), .bl (decide (n = 4)), .bl (decide (n = 5))])) = G1 at *
  refine ⟨_, rfl, ?_⟩
  refine ⟨_, rfl, C n, e, _, v, _, _, _, rfl, .own _, hc, hf1, kt n 6 hn (by decide), ?_⟩
  refine ⟨_, rfl, C n, e, _, v, _, _, _, rfl, .own _, hc, hf1, kt n 7 hn (by decide), ?_⟩
  refine ⟨_, rfl, C n, e, _, v, _, _, _, rfl, .own _, hc, hf1, kt n 8 hn (by decide), ?_⟩
  refine ⟨by show 3 ≤ sizeLine; decide, fun q1 nq1 => ?_⟩
  refine ⟨_, _, _, _, rfl, rfl, (Ex.new nq1) _ _ b1, upd_same, by show 6 + 3 ≤ sizeLine; decide, fun r1 nr1 => ?_⟩
  have y2 := (y1.trans (Ex.new (o := .lst [.bl (decide (n = 6)), .bl (decide (n = 7)), .bl (decide (n = 8))]) nq1)).trans (Ex.new (o := .lst ([.bl (decide (n = 0)), .bl (decide (n = 1)), .bl (decide (n = 2)), .bl (decide (n = 3)), .bl (decide (n = 4)), .bl (decide (n = 5))] ++ [.bl (decide (n = 6)), .bl (decide (n = 7)), .bl (decide (n = 8))])) nr1)
  have b2 : (upd (upd G1 q1 (.lst [.bl (decide (n = 6)), .bl (decide (n = 7)), .bl (decide (n = 8))])) r1 (.lst ([.bl (decide (n = 0)), .bl (decide (n = 1)), .bl (decide (n = 2)), .bl (decide (n = 3)), .bl (decide (n = 4)), .bl (decide (n = 5))] ++ [.bl (decide (n = 6)), .bl (decide (n = 7)), .bl (decide (n = 8))]))) r1 = some (.lst [.bl (decide (n = 0)), .bl (decide (n = 1)), .bl (decide (n = 2)), .bl (decide (n = 3)), .bl (decide (n = 4)), .bl (decide (n = 5)), .bl (decide (n = 6)), .bl (decide (n = 7)), .bl (decide (n = 8))]) := upd_same
  have hf2 := he.mono y2
  dsimp only
  generalize upd (upd G1 q1 (.lst [.bl (decide (n = 6)), .bl (decide (n = 7)), .bl (decide (n = 8))])) r1 (.lst ([.bl (decide (n = 0)), .bl (decide (n = 1)), .bl (decide (n = 2)), .bl (decide (n = 3)), .bl (decide (n = 4)), .bl (decide (n = 5))] ++ [.bl (decide (n = 6)), .bl (decide (n = 7)), .bl (decide (n = 8))])) = G2 at *
  refine ⟨_, rfl, ?_⟩
  refine ⟨_, rfl, C n, e, _, v, _, _, _, rfl, .own _, hc, hf2, kt n 9 hn (by decide), ?_⟩
  refine ⟨_, rfl, C n, e, _, v, _, _, _, rfl, .own _, hc, hf2, kt n 10 hn (by decide), ?_⟩
  refine ⟨_, rfl, C n, e, _, v, _, _, _, rfl, .own _, hc, hf2, kt n 11 hn (by decide), ?_⟩
  refine ⟨by show 3 ≤ sizeLine; decide, fun q2 nq2 => ?_⟩
  refine ⟨_, _, _, _, rfl, rfl, (Ex.new nq2) _ _ b2, upd_same, by show 9 + 3 ≤ sizeLine; decide, fun r2 nr2 => ?_⟩
  have y3 := (y2.trans (Ex.new (o := .lst [.bl (decide (n = 9)), .bl (decide (n = 10)), .bl (decide (n = 11))]) nq2)).trans (Ex.new (o := .lst ([.bl (decide (n = 0)), .bl (decide (n = 1)), .bl (decide (n = 2)), .bl (decide (n = 3)), .bl (decide (n = 4)), .bl (decide (n = 5)), .bl (decide (n = 6)), .bl (decide (n = 7)), .bl (decide (n = 8))] ++ [.bl (decide (n = 9)), .bl (decide (n = 10)), .bl (decide (n = 11))])) nr2)
  have b3 : (upd (upd G2 q2 (.lst [.bl (decide (n = 9)), .bl (decide (n = 10)), .bl (decide (n = 11))])) r2 (.lst ([.bl (decide (n = 0)), .bl (decide (n = 1)), .bl (decide (n = 2)), .bl (decide (n = 3)), .bl (decide (n = 4)), .bl (decide (n = 5)), .bl (decide (n = 6)), .bl (decide (n = 7)), .bl (decide (n = 8))] ++ [.bl (decide (n = 9)), .bl (decide (n = 10)), .bl (decide (n = 11))]))) r2 = some (.lst [.bl (decide (n = 0)), .bl (decide (n = 1)), .bl (decide (n = 2)), .bl (decide (n = 3)), .bl (decide (n = 4)), .bl (decide (n = 5)), .bl (decide (n = 6)), .bl (decide (n = 7)), .bl (decide (n = 8)), .bl (decide (n = 9)), .bl (decide (n = 10)), .bl (decide (n = 11))]) := upd_same
  have hf3 := he.mono y3
  dsimp only
  generalize upd (upd G2 q2 (.lst [.bl (decide (n = 9)), .bl (decide (n = 10)), .bl (decide (n = 11))])) r2 (.lst ([.bl (decide (n = 0)), .bl (decide (n = 1)), .bl (decide (n = 2)), .bl (decide (n = 3)), .bl (decide (n = 4)), .bl (decide (n = 5)), .bl (decide (n = 6)), .bl (decide (n = 7)), .bl (decide (n = 8))] ++ [.bl (decide (n = 9)), .bl (decide (n = 10)), .bl (decide (n = 11))])) = G3 at *
  refine ⟨_, rfl, ?_⟩
  refine ⟨_, rfl, C n, e, _, v, _, _, _, rfl, .own _, hc, hf3, kt n 12 hn (by decide), ?_⟩
  refine ⟨_, rfl, C n, e, _, v, _, _, _, rfl, .own _, hc, hf3, kt n 13 hn (by decide), ?_⟩
  refine ⟨_, rfl, C n, e, _, v, _, _, _, rfl, .own _, hc, hf3, kt n 14 hn (by decide), ?_⟩
  refine ⟨by show 3 ≤ sizeLine; decide, fun q3 nq3 => ?_⟩
  refine ⟨_, _, _, _, rfl, rfl, (Ex.new nq3) _ _ b3, upd_same, by show 12 + 3 ≤ sizeLine; decide, fun r3 nr3 => ?_⟩
  have y4 := (y3.trans (Ex.new (o := .lst [.bl (decide (n = 12)), .bl (decide (n = 13)), .bl (decide (n = 14))]) nq3)).trans (Ex.new (o := .lst ([.bl (decide (n = 0)), .bl (decide (n = 1)), .bl (decide (n = 2)), .bl (decide (n = 3)), .bl (decide (n = 4)), .bl (decide (n = 5)), .bl (decide (n = 6)), .bl (decide (n = 7)), .bl (decide (n = 8)), .bl (decide (n = 9)), .bl (decide (n = 10)), .bl (decide (n = 11))] ++ [.bl (decide (n = 12)), .bl (decide (n = 13)), .bl (decide (n = 14))])) nr3)
  have b4 : (upd (upd G3 q3 (.lst [.bl (decide (n = 12)), .bl (decide (n = 13)), .bl (decide (n = 14))])) r3 (.lst ([.bl (decide (n = 0)), .bl (decide (n = 1)), .bl (decide (n = 2)), .bl (decide (n = 3)), .bl (decide (n = 4)), .bl (decide (n = 5)), .bl (decide (n = 6)), .bl (decide (n = 7)), .bl (decide (n = 8)), .bl (decide (n = 9)), .bl (decide (n = 10)), .bl (decide (n = 11))] ++ [.bl (decide (n = 12)), .bl (decide (n = 13)), .bl (decide (n = 14))]))) r3 = some (.lst [.bl (decide (n = 0)), .bl (decide (n = 1)), .bl (decide (n = 2)), .bl (decide (n = 3)), .bl (decide (n = 4)), .bl (decide (n = 5)), .bl (decide (n = 6)), .bl (decide (n = 7)), .bl (decide (n = 8)), .bl (decide (n = 9)), .bl (decide (n = 10)), .bl (decide (n = 11)), .bl (decide (n = 12)), .bl (decide (n = 13)), .bl (decide (n = 14))]) := upd_same
  have hf4 := he.mono y4
  dsimp only
  generalize upd (upd G3 q3 (.lst [.bl (decide (n = 12)), .bl (decide (n = 13)), .bl (decide (n = 14))])) r3 (.lst ([.bl (decide (n = 0)), .bl (decide (n = 1)), .bl (decide (n = 2)), .bl (decide (n = 3)), .bl (decide (n = 4)), .bl (decide (n = 5)), .bl (decide (n = 6)), .bl (decide (n = 7)), .bl (decide (n = 8)), .bl (decide (n = 9)), .bl (decide (n = 10)), .bl (decide (n = 11))] ++ [.bl (decide (n = 12)), .bl (decide (n = 13)), .bl (decide (n = 14))])) = G4 at *
  refine ⟨_, rfl, ?_⟩
  refine ⟨_, rfl, C n, e, _, v, _, _, _, rfl, .own _, hc, hf4, kt n 15 hn (by decide), ?_⟩
  refine ⟨by show 1 ≤ sizeLine; decide, fun q2 nq2 => ?_⟩
  refine ⟨_, _, _, _, rfl, rfl, (Ex.new nq2) _ _ b4, upd_same, by show 15 + 1 ≤ sizeLine; decide, fun r2 nr2 => ?_⟩
  have y5 := (y4.trans (Ex.new (o := .lst [.bl (decide (n = 15))]) nq2)).trans (Ex.new (o := .lst ([.bl (decide (n = 0)), .bl (decide (n = 1)), .bl (decide (n = 2)), .bl (decide (n = 3)), .bl (decide (n = 4)), .bl (decide (n = 5)), .bl (decide (n = 6)), .bl (decide (n = 7)), .bl (decide (n = 8)), .bl (decide (n = 9)), .bl (decide (n = 10)), .bl (decide (n = 11)), .bl (decide (n = 12)), .bl (decide (n = 13)), .bl (decide (n = 14))] ++ [.bl (decide (n = 15))])) nr2)
  exact q _ _ y5 upd_same
end
end Sk

/-! What may be shown: small data. -/
namespace Sk
open PySem PySem.Spec PyProof.Rows L2 Evl
theorem line_le' {n : Nat} (h : n ≤ 16000000) : n ≤ sizeLine := Nat.le_trans h (by decide)
/-! ### what may be shown -/
structure Shw (d : PyData) : Prop where
  s : d.showable = true
  z : d.shown.length ≤ sizeLine
  d : d.depth ≤ 60
theorem lsum_mul (B : Nat) : ∀ ts : List Nat, (∀ t ∈ ts, t ≤ B) → ts.sum ≤ ts.length * B
  | [], _ => by simp
  | x :: r, h => by
    have ih := lsum_mul B r fun t m => h t (List.mem_cons_of_mem _ m)
    have := h x List.mem_cons_self
    simp only [List.sum_cons, List.length_cons, Nat.succ_mul]
    omega
theorem shownAll_map : ∀ l : List PyData, PyData.shownAll l = l.map PyData.shown
  | [] => by simp [PyData.shownAll]
  | x :: r => by simp [PyData.shownAll, shownAll_map r]
theorem showAll_of : ∀ l : List PyData, (∀ d ∈ l, d.showable = true) → PyData.showableAll l = true
  | [], _ => by simp [PyData.showableAll]
  | x :: r, h => by simp [PyData.showableAll, h x List.mem_cons_self, showAll_of r fun d m => h d (List.mem_cons_of_mem _ m)]
/-- a list or a tuple of small things -/
theorem shw_seq {xs : List PyData} {m B : Nat} (h : ∀ x ∈ xs, x.showable = true ∧ x.shown.length ≤ B ∧ x.depth ≤ 30) (l : xs.length ≤ m) (b : m * (B + 2) ≤ 15000000) : Shw (.list xs) ∧ Shw (.tuple xs) := by
  have s := lsum_mul B (xs.map fun x => x.shown.length) fun y hy => by
    obtain ⟨x, hx, rfl⟩ := List.mem_map.mp hy
    exact (h x hx).2.1
  rw [List.length_map] at s
  have m1 : xs.length * B ≤ m * B := Nat.mul_le_mul_right _ l
  rw [Nat.mul_add] at b
  have dp : PyData.depthAll xs ≤ 30 := depthAll_le xs fun x m => (h x m).2.2
  have z1 := listText_len_le (PyData.shownAll xs)
  have z2 := tupleText_len_le (PyData.shownAll xs)
  rw [shownAll_map, List.map_map, List.length_map] at z1 z2
  have e : (List.map ((fun x => x.length) ∘ PyData.shown) xs).sum = (xs.map fun x => x.shown.length).sum := rfl
  rw [e] at z1 z2
  refine ⟨⟨by simp only [PyData.showable]; exact showAll_of xs fun d m => (h d m).1, line_le' ?_, by simp only [PyData.depth]; omega⟩, ⟨by simp only [PyData.showable]; exact showAll_of xs fun d m => (h d m).1, line_le' ?_, by simp only [PyData.depth]; omega⟩⟩
  · simp only [PyData.shown]
    rw [shownAll_map]
    omega
  · simp only [PyData.shown]
    rw [shownAll_map]
    omega
/-- a text of signs -/
theorem shw_str {x : Str} (h : ∀ c ∈ x.cps.toList, c < 1114112) : (PyData.str x).showable = true ∧ (PyData.str x).shown.length ≤ 10 * x.length + 2 ∧ (PyData.str x).depth ≤ 30 := by
  refine ⟨rfl, ?_, by simp [PyData.depth]⟩
  simp only [PyData.shown]
  exact PySem.StrLaws.reprText_len x fun c hc => Nat.lt_trans (h c hc) (by decide)
theorem shw_txt {x : Str} (h : ∀ c ∈ x.cps.toList, c < 1114112) (l : x.length ≤ 100000) : Shw (.str x) := by
  obtain ⟨a, b, c⟩ := shw_str h
  exact ⟨a, line_le' (by omega), by omega⟩
end Sk

/-! Small data, bounded as written. -/
namespace Sk
open PySem PySem.Spec PyProof.Rows L2 Evl
structure Sm (n : Nat) (d : PyData) : Prop where
  s : d.showable = true
  z : d.shown.length ≤ n
  d : d.depth ≤ 20
theorem sm_seq {xs : List PyData} {m B : Nat} (h : ∀ x ∈ xs, x.showable = true ∧ x.shown.length ≤ B ∧ x.depth ≤ 19) (l : xs.length ≤ m) : Sm (m * B + 2 * m + 10) (.list xs) ∧ Sm (m * B + 2 * m + 10) (.tuple xs) := by
  have s := lsum_mul B (xs.map fun x => x.shown.length) fun y hy => by
    obtain ⟨x, hx, rfl⟩ := List.mem_map.mp hy
    exact (h x hx).2.1
  rw [List.length_map] at s
  have m1 : xs.length * B ≤ m * B := Nat.mul_le_mul_right _ l
  have dp : PyData.depthAll xs ≤ 19 := depthAll_le xs fun x m => (h x m).2.2
  have z1 := listText_len_le (PyData.shownAll xs)
  have z2 := tupleText_len_le (PyData.shownAll xs)
  rw [shownAll_map, List.map_map, List.length_map] at z1 z2
  have e : (List.map ((fun x => x.length) ∘ PyData.shown) xs).sum = (xs.map fun x => x.shown.length).sum := rfl
  rw [e] at z1 z2
  refine ⟨⟨by simp only [PyData.showable]; exact showAll_of xs fun d m => (h d m).1, ?_, by simp only [PyData.depth]; omega⟩, ⟨by simp only [PyData.showable]; exact showAll_of xs fun d m => (h d m).1, ?_, by simp only [PyData.depth]; omega⟩⟩
  · simp only [PyData.shown]
    rw [shownAll_map]
    omega
  · simp only [PyData.shown]
    rw [shownAll_map]
    omega
theorem Sm.le {n m : Nat} {d : PyData} (h : Sm n d) (l : n ≤ m) : Sm m d := ⟨h.s, Nat.le_trans h.z l, h.d⟩
theorem sm_int {i : Int} (h0 : -1000000000 ≤ i) (h1 : i ≤ 1000000000) : Sm 200 (.int i) := by
  have g : Gd true 1 (.int i) := ⟨h0, h1⟩
  exact ⟨g.show, Nat.le_trans (shown_len g) (by decide), by simp [PyData.depth]⟩
theorem sm_non : Sm 10 .none := ⟨rfl, by decide +kernel, by decide⟩
theorem sm_str {x : Str} {n : Nat} (h : ∀ c ∈ x.cps.toList, c < 1114112) (l : x.length ≤ n) : Sm (10 * n + 2) (.str x) := by
  obtain ⟨a, b, c⟩ := shw_str h
  exact ⟨a, by omega, by simp [PyData.depth]⟩
theorem sm_of {xs : List PyData} {m B : Nat} (h : ∀ x ∈ xs, x.showable = true ∧ x.shown.length ≤ B ∧ x.depth ≤ 19) (l : xs.length ≤ m) (b : m * B + 2 * m + 10 ≤ 10000000) : (PyData.list xs).showable = true ∧ (PyData.list xs).shown.length ≤ sizeLine ∧ (PyData.list xs).depth ≤ 60 := by
  obtain ⟨h1, _⟩ := sm_seq h l
  exact ⟨h1.s, line_le' (Nat.le_trans h1.z (by omega)), by have := h1.d; omega⟩
end Sk

/-! A def called where it is known that no repr runs around. -/
namespace Sk
open PySem PySem.Spec PyProof.Rows L2 Evl
structure FnG (P : Program) (w : World) (K : PySem.W.Frag) (mg : Str → Option Value) (base : Heap) (k : Nat) (f : Addr) (fd : FuncData) (ps : List Str) (sp : Sp) : Prop where
  len : ∀ vs H Q E, sp vs H Q E → vs.length = ps.length
  run : ∀ (A : Around) (outer : List Env) (s : Shared) (H : Hp) (args : Args) (us : List Value) (vs : List V) (Q : VK), A.guards = some [] → Room k A → Env0 P w K mg base A outer s H → BindsTo s fd args (ps.zip us) → Vals vs us → sp vs H Q E0 →
    codeAny (model P w) A (.call (.ref f) args) (CR CX0 outer P w H s Q E0) s
theorem fng_of {P : Program} {w : World} {K : PySem.W.Frag} {mg : Str → Option Value} {base : Heap} {x qual : Str} {st : Stmt} {f : Addr} {fd : FuncData} {N ps : List Str} {k : Nat} {sp : Sp} (F : Fun K x qual st f fd) (S : FnScope N ps (defScope st)) (len : ∀ vs H Q E, sp vs H Q E → vs.length = ps.length)
    (hbody : ∀ (cdv : Value) (A : Around) (outer : List Env) (s : Shared) (H : Hp) (vs : List V) (Q : VK), Room k (A.deeper (envOfC qual (defScope st) s.heap.objs.size f cdv)) → (A.deeper (envOfC qual (defScope st) s.heap.objs.size f cdv)).guards = some [] → sp vs H Q E0 →
      ∃ t, PSs (cxOf CX0 P w K mg base N qual (defScope st) f cdv A outer s H E0).nox (defBody st) t ∧ t { nx := fun _ H' => Q .non H', rt := Q } (start N vs) H) : FnG P w K mg base (k + 1) f fd ps sp := by
  obtain ⟨oc, od, kV, doc, pm, an, cdv, ct, osl, rfl, lk, hcd⟩ := F.ex
  refine ⟨len, fun A outer s H args us vs Q hgd hr e0 hb r hsp => ?_⟩
  have hl := len _ _ _ _ hsp
  have kp : ∀ b o, base.get? b = some o → s.heap.get? b = some o := fun b o z => (e0.bs b o z).1
  have kin := e0.mod.kin.keeps kp
  have kind : ∀ q ∈ ps.zip us, (defScope st).names.lookup q.1 = some .local ∨ ((defScope st).names.lookup q.1 = some .cell ∧ ((cellsFrom (s.heap.objs.size + 1) (defScope st).names []).lookup q.1).isSome = true) := by
    intro q hq
    exact (S.par q.1 (List.of_mem_zip (show (q.1, q.2) ∈ ps.zip us from hq)).1).imp (fun z => z) fun z => ⟨z, PySem.W.cellsFrom_some _ _ _ (.inl z)⟩
  refine codeAny_call_function hr.depth (kin _ _ lk) rfl S.co S.gen rfl (PySem.W.codeRec_of kin hcd) (hb _ _ _ _ (wpAny_newFunctionEnv_cells S.kind kind fun env he s1 z => ?_))
  subst he
  refine ⟨(e0.mod.nolimit.keeps kp).keeps z.toInCall.keep, codeAny_func ?_⟩
  obtain ⟨t, ht, hq⟩ := hbody cdv A outer s H vs Q (hr.deeper _) hgd hsp
  have I : Inv (cxOf CX0 P w K mg base N qual (defScope st) f cdv A outer s H E0) [] (start N vs) H s1 := inv_start S hr.hd e0 hl r z
  refine wpAny_mono (ht.nox.run [] s1 _ H _ I hq) (fun fl s' hs => ?_) fun e s' hs => hs
  cases fl with
  | ret r =>
    obtain ⟨v', _, H', J, rr, q⟩ := hs
    exact ⟨v', H', J.os, J.bare, J.base, J.hok, rr, q⟩
  | next =>
    obtain ⟨_, H', J, q⟩ := hs
    exact ⟨.non, H', J.os, J.bare, J.base, J.hok, rfl, q⟩
  | brk => obtain ⟨_, _, _, q⟩ := hs; exact q.elim
  | cont => obtain ⟨_, _, _, q⟩ := hs; exact q.elim
theorem pe_callG {X : Cx} {k : Nat} {f : Addr} {fd : FuncData} {ps : List Str} {sp : Sp} {x : Str} {p pos : Pos} {e : Expr} {es : List Expr} {t : TA} (hgd : X.A.guards = some []) (F : FnG X.prog X.w X.K X.mg X.base k f fd ps sp) (hr : Room k X.A) (hg : Gl X x) (hm : X.mg x = some (.ref f)) (hk : PySem.W.keepIn X.K (.ref f) = true) (hb : Binds X.K fd ps [])
    (hx : Passes CX0 X E0) (ha : PA X (e :: es) t) (hdb : (x == ("__debug__" : Str)) = false := by decide) (he : starEach (e :: es) X.env = (false, eval e X.env) :: starEach es X.env := by rfl) (hpl : (backTo pos (starEach es X.env)).any (·.1) = false := by rfl) :
    PE X (.Call (.Name x p) (e :: es) [] pos) (tCall sp [] E0 t) := by
  refine ⟨fun pins s σ H Q I h => wpAny_Call_Name_kw (ld_glob I hg hm (PySem.W.callWith_K (h₀ := X.base) I.ok.mod.kin hk (thn (ha.run pos pins s σ H _ I h) fun us s1 ⟨vs, H1, I1, r, q⟩ => ⟨I1.kIn, ?_⟩) he hpl) hdb)⟩
  have q' : sp vs H1 Q E0 := by simpa using q
  have hl : us.length = ps.length := by rw [← r.length]; exact F.len _ _ _ _ q'
  have hb' := hb s1 us I1.kIn (by simpa using hl)
  rw [List.append_nil] at hb'
  refine wpAny_call (codeAny_mono (F.run X.A X.stack s1 H1 ⟨us, []⟩ us vs Q hgd hr I1.env0 hb' r q') fun r s' hq => ?_)
  cases r with
  | error e => exact hx pins σ H1 s1 e s' I1 hq
  | ok fl =>
    cases fl with
    | ret u => exact I1.after hq
    | next => exact False.elim hq
    | brk => exact False.elim hq
    | cont => exact False.elim hq
end Sk

/-! Whether the errors of changes are right. -/
namespace Sk
open PySem PySem.Spec PyProof.Rows L2 Evl PySem.SkE
abbrev NER : List Str := ["stream", "signs", "word", "other", "total", "odd", "rows", "last", "more", "at", "error", "told", "number"]
theorem scER : FnScope NER ["stream", "signs"] (defScope sErrR) := ⟨rfl, rfl, rfl, by decide +kernel, rfl, by decide +kernel, by decide +kernel⟩
structure Bnd6 (K : PySem.W.Frag) (mg : Str → Option Value) (C : Nat → Addr) (S : Addr) : Prop where
  mS : mg "SchemaError" = some (.ref S)
  own : ∀ n, n < 6 → PySem.W.kitOne K (.ref (C n)) (.ref S) = some true
  ve : ∀ n, n < 6 → PySem.W.kitOne K (.ref (C n)) (.type "ValueError") = some true
  nve : mg "ValueError" = none
theorem bt_ve : bootBuiltins "ValueError" = some (.type "ValueError") := by decide +kernel
theorem isErr_made {H : Hp} {C d e : Addr} {a : Str} {v : V} (n : d ≠ e) : IsErr (upd (upd H d (.xd [(a, v)])) e (ErO C d e)) C a e v := ⟨d, upd_same, by rw [upd_ne n]; exact upd_same⟩
theorem ex_made {H : Hp} {d e : Addr} {o u : HO} (he : H e = none) (hd : H d = none) (n : d ≠ e) : Ex H (upd (upd H d o) e u) := (Ex.new hd).trans (Ex.new (by rw [upd_ne (Ne.symm n)]; exact he))
theorem IsErr.mut {H : Hp} {C e R : Addr} {a : Str} {v : V} {l : List V} {o : HO} (hR : H R = some (.lst l)) (h : IsErr H C a e v) : IsErr (upd H R o) C a e v := by
  obtain ⟨d, h1, h2⟩ := h
  refine ⟨d, ?_, ?_⟩
  · rw [upd_ne (by intro z; subst z; rw [hR] at h1; cases h1)]; exact h1
  · rw [upd_ne (by intro z; subst z; rw [hR] at h2; cases h2)]; exact h2
theorem IsErr.hd {st : Addr} {H : Hp} {C e : Addr} {a : Str} {v : V} (s : Strm st H) (h : IsErr H C a e v) : IsErr (Hd st H) C a e v := by
  obtain ⟨d, h1, h2⟩ := h
  obtain ⟨x, y, hs, _⟩ := s
  refine ⟨d, hd_of ?_ h1, hd_of ?_ h2⟩
  · intro z; subst z; rw [hs] at h1; cases h1
  · intro z; subst z; rw [hs] at h2; cases h2
theorem dp_bools {K : PySem.W.Frag} {H : Hp} (f : Nat → Bool) : ∀ l : List Nat, DpAll K H (l.map fun k => V.bl (f k)) (l.map fun k => .bool (f k))
  | [] => .nil
  | _ :: r => .cons (.bl _) (dp_bools f r)
def flags (f : Nat → Bool) : PyData := .list ((List.range 16).map fun k => .bool (f k))
theorem flags_eq {j : Nat} : (fun k : Nat => decide (V.int (0 + (k : Int)) = V.int (j : Int))) = fun k : Nat => decide (j = k) := by
  funext k
  refine decide_eq_decide.mpr ⟨fun z => ?_, fun z => ?_⟩
  · injection z with z
    omega
  · subst z
    rw [Int.zero_add]
theorem dp_flags {K : PySem.W.Frag} {H : Hp} {j : Nat} : DpAll K H ((List.range 16).map fun k : Nat => V.bl (decide (V.int (0 + (k : Int)) = V.int (j : Int)))) ((List.range 16).map fun k : Nat => PyData.bool (decide (j = k))) := by
  have e : (fun k : Nat => V.bl (decide (V.int (0 + (k : Int)) = V.int (j : Int)))) = fun k : Nat => V.bl (decide (j = k)) := funext fun k => congrArg V.bl (congrFun flags_eq k)
  rw [e]
  exact dp_bools _ _
theorem flags_ok {j : Nat} (h : j < 6) : PyData.eqv (flags fun k => decide (j = k)) (flags fun k => decide (j = k)) = true ∧ SeqAt.shaped (flags fun k => decide (j = k)) = true :=
  six (p := fun j => PyData.eqv (flags fun k => decide (j = k)) (flags fun k => decide (j = k)) = true ∧ SeqAt.shaped (flags fun k => decide (j = k)) = true) h (by decide +kernel) (by decide +kernel) (by decide +kernel) (by decide +kernel) (by decide +kernel) (by decide +kernel)
theorem share_nx {c : Bool} {A B : TS} {D : Ends} {σ : L2.St} {H : Hp} (Pq : L2.St → Hp → Prop) (h : ∀ σ' H', Pq σ' H' → D.nx σ' H') (k : (∀ σ' H', Pq σ' H' → D.nx σ' H') → if c = true then A D σ H else B D σ H) : if c = true then A D σ H else B D σ H := k h
theorem tx_cps (cs : List Nat) : (tx cs).cps.toList = cs := by simp [tx]
theorem kll' : kitB "list" "list" = some true := by decide +kernel
theorem kxl : ∀ T ∈ ["NoneType", "int", "tuple", "str", "bool"], kitB T "list" = some false := by
  intro T m
  simp only [List.mem_cons, List.not_mem_nil, or_false] at m
  rcases m with rfl | rfl | rfl | rfl | rfl <;> decide +kernel
theorem sm_tx {cs : List Nat} (l : cs.length ≤ 4) (h : ∀ c ∈ cs, c < 1114112) : Sm 42 (.str (tx cs)) := sm_str (n := 4) (by rw [tx_cps]; exact h) (by rw [tx_len]; exact l)
theorem sm1 {n : Nat} {d : PyData} (h : Sm n d) (l : n ≤ 200) (dd : d.depth ≤ 19) : d.showable = true ∧ d.shown.length ≤ 200 ∧ d.depth ≤ 19 := ⟨h.s, Nat.le_trans h.z l, dd⟩
/-- the odd thing -/
theorem odd_dq {H : Hp} {qq t : Addr} {cs : List Nat} {odd : V} (l : cs.length ≤ 4) (h : ∀ c ∈ cs, c < 1114112) (hq : H qq = some (.lst [.str (tx cs)])) (ht : H t = some (.tup [.str "keep", .str "ab"])) (m : odd ∈ [V.non, .int 5, .ref qq, .ref t, .str (tx cs), .bl true]) :
    ∃ d b, Dq H odd d ∧ (d.showable = true ∧ d.shown.length ≤ 300 ∧ d.depth ≤ 18) ∧ kitB (tyD d) "list" = some b ∧ (b = true → odd = .ref qq) := by
  have z := sm_tx l h
  simp only [List.mem_cons, List.not_mem_nil, or_false] at m
  rcases m with rfl | rfl | rfl | rfl | rfl | rfl
  · exact ⟨.none, false, .non, ⟨rfl, by decide +kernel, by decide⟩, kxl _ (by simp [tyD]), nofun⟩
  · exact ⟨.int 5, false, .int 5, ⟨by decide +kernel, by decide +kernel, by decide⟩, kxl _ (by simp [tyD]), nofun⟩
  · have w := (sm_seq (xs := [.str (tx cs)]) (m := 1) (B := 42) (fun x m => by cases List.mem_singleton.mp m; exact ⟨z.s, z.z, by simp [PyData.depth]⟩) (by simp)).1
    exact ⟨.list [.str (tx cs)], true, .lst hq (.cons (.str _) .nil), ⟨w.s, Nat.le_trans w.z (by decide), by simp [PyData.depth, PyData.depthAll]⟩, kll', fun _ => rfl⟩
  · exact ⟨.tuple [.str "keep", .str "ab"], false, .tup ht (.cons (.str _) (.cons (.str _) .nil)), ⟨by decide +kernel, by decide +kernel, by decide⟩, kxl _ (by simp [tyD]), nofun⟩
  · exact ⟨.str (tx cs), false, .str _, ⟨z.s, Nat.le_trans z.z (by decide), by simp [PyData.depth]⟩, kxl _ (by simp [tyD]), nofun⟩
  · exact ⟨.bool true, false, .bl _, ⟨by decide +kernel, by decide +kernel, by decide⟩, kxl _ (by simp [tyD]), nofun⟩
theorem odd_dq2 {H : Hp} {qq : Addr} {cs : List Nat} (l : cs.length ≤ 4) (h : ∀ c ∈ cs, c < 1114112) (hq : H qq = some (.lst [.str (tx cs), .int 0])) : ∃ d, Dq H (.ref qq) d ∧ (d.showable = true ∧ d.shown.length ≤ 300 ∧ d.depth ≤ 18) := by
  have z := sm_tx l h
  have w := (sm_seq (xs := [.str (tx cs), .int 0]) (m := 2) (B := 100) (fun x m => by
    simp only [List.mem_cons, List.not_mem_nil, or_false] at m
    rcases m with rfl | rfl
    · exact ⟨z.s, Nat.le_trans z.z (by decide), by simp [PyData.depth]⟩
    · exact ⟨by decide +kernel, by decide +kernel, by decide⟩) (by simp)).1
  exact ⟨.list [.str (tx cs), .int 0], .lst hq (.cons (.str _) (.cons (.int _) .nil)), w.s, Nat.le_trans w.z (by decide), by simp [PyData.depth, PyData.depthAll]⟩
theorem last_dq {H : Hp} {cs : List Nat} {v : V} (l : cs.length ≤ 4) (h : ∀ c ∈ cs, c < 1114112) (m : v ∈ [V.str (tx cs), .non]) : ∃ d, (∀ H, Dq H v d) ∧ (d.showable = true ∧ d.shown.length ≤ 300 ∧ d.depth ≤ 18) := by
  have z := sm_tx l h
  simp only [List.mem_cons, List.not_mem_nil, or_false] at m
  rcases m with rfl | rfl
  · exact ⟨.str (tx cs), fun _ => .str _, z.s, Nat.le_trans z.z (by decide), by simp [PyData.depth]⟩
  · exact ⟨.none, fun _ => .non, rfl, by decide +kernel, by decide⟩
theorem pow6 : CPowB 10 6 := by refine ⟨by decide, by decide +kernel⟩
section
variable {P : Program} {w : World} {K : PySem.W.Frag} {mg : Str → Option Value} {base : Heap} {f fW fD fC fK S : Addr} {fd dW dD dC dK : FuncData} {C I : Nat → Addr}
theorem ok_er (F : Fun K "_law_errors_right" "_law_errors_right" sErrR f fd) (B : Blt mg) (T : Er6 K mg C I) (BB : Bnd6 K mg C S) (W : Drw P w K mg base fD fC dD dC)
    (Wo : Lt P w K mg base fW dW "_law_word" ["stream", "high", "signs"] 3 spWord) (Kn : Lt P w K mg base fK dK "_law_kinds" ["error"] 1 (spKnd C)) : FnG P w K mg base 4 f fd ["stream", "signs"] spNR := by
  refine fng_of F scER (fun vs H Q E h => ?_) (fun cdv A outer s H vs Q hr hgd h => ?_)
  · obtain ⟨_, _, rfl, _⟩ := h
    rfl
  have nd := scER.nd
  have hu := hr.units
  have hr1 : Room 1 _ := hr.mono (by decide)
  have hr2 : Room 2 _ := hr.mono (by decide)
  obtain ⟨st, z, rfl, hst, hz, q⟩ := h
  refine ⟨_, pss_cons (ps_par (i := 2) (j := 3) rfl nd rfl rfl (by decide) rfl rfl (pa_cons (pe_call Wo.g hr rfl Wo.m Wo.k Wo.b .nil pass0 (pa_cons (pv 0) (pa_cons pe_int (pa_cons (pv 1) pa_nil)))) (pa_cons (pe_call Wo.g hr rfl Wo.m Wo.k Wo.b .nil pass0 (pa_cons (pv 0) (pa_cons pe_int (pa_cons (pv 1) pa_nil)))) pa_nil)) (by rfl))
    (pss_cons (ps_set (i := 4) nd rfl (Or.inl rfl) (pe_call W.gD hr1 rfl W.mD W.kD W.bD .nil pass0 (pa_cons (pv 0) (pa_cons (pe_op op_powB pe_int pe_int) pa_nil))))
    (pss_cons (ps_set (i := 5) nd rfl (Or.inl rfl) (pe_call W.gC hr2 rfl W.mC W.kC W.bC .nil pass0 (pa_cons (pv 0) (pa_cons (pe_lst (pa_cons pe_non (pa_cons pe_int (pa_cons (pe_lst (pa_cons (pv 2) pa_nil)) (pa_cons (pe_tup (pa_cons pe_str (pa_cons pe_str pa_nil))) (pa_cons (pv 2) (pa_cons pe_bl pa_nil))))))) pa_nil))))
    (pss_cons (ps_set (i := 6) nd rfl (Or.inl rfl) (pe_lst (pa_cons (pe_err T.t0 (init_steps T.t0) hr (pa_cons (pv 5) pa_nil)) (pa_cons (pe_err T.t1 (init_wrong T.t1) hr (pa_cons (pv 5) pa_nil)) (pa_cons (pe_err T.t2 (init_wrong T.t2) hr (pa_cons (pv 5) pa_nil))
        (pa_cons (pe_err T.t3 (init_count T.t3) hr (pa_cons (pv 4) pa_nil)) (pa_cons (pe_err T.t4 (init_pair T.t4) hr (pa_cons (pe_tup (pa_cons (pv 2) (pa_cons (pv 3) pa_nil))) pa_nil)) pa_nil)))))))
    (pss_cons (ps_set (i := 7) nd rfl (Or.inl rfl) (pe_call W.gC hr2 rfl W.mC W.kC W.bC .nil pass0 (pa_cons (pv 0) (pa_cons (pe_lst (pa_cons (pv 2) (pa_cons pe_non pa_nil))) pa_nil))))
    (pss_cons (ps_expr (pe_bm PySem.F.plainAttrs_list PySem.F.slot_list_append PySem.F.type_list_append mt_append (pv 6) (pa_cons (pe_err T.t5 (init_wrong T.t5) hr (pa_cons (pv 7) pa_nil)) pa_nil)))
    (pss_cons (ps_set (i := 8) nd rfl (Or.inl rfl) (pe_lst (pa_cons (pe_errK T.t0 (init_steps T.t0) hr (pk_cons (pe_lst pa_nil) pk_nil)) (pa_cons (pe_errK T.t1 (init_wrong T.t1) hr (pk_cons pe_int pk_nil)) (pa_cons (pe_errK T.t2 (init_wrong T.t2) hr (pk_cons pe_non pk_nil)) (pa_cons (pe_errK T.t3 (init_count T.t3) hr (pk_cons pe_int pk_nil)) pa_nil))))))
    (pss_cons (ps_set (i := 8) nd rfl (Or.inl rfl) (pe_op op_cat (pv 8) (pe_lst (pa_cons (pe_errK T.t4 (init_pair T.t4) hr (pk_cons (pe_tup (pa_cons pe_str (pa_cons pe_str pa_nil))) pk_nil)) (pa_cons (pe_errK T.t5 (init_wrong T.t5) hr (pk_cons pe_str pk_nil)) pa_nil)))))
    (pss_cons (ps_for PassesOwn.never rfl (pi_range1 rfl B.range (pa_cons pe_int pa_nil)) (pg_name (i := 9) nd rfl (Or.inr rfl))
      (pss_one (ps_for PassesOwn.never rfl (pi_list (pe_lst (pa_cons (pe_ix ix_list (pv 6) (pv 9) (fun _ _ => rfl)) (pa_cons (pe_ix ix_list (pv 8) (pv 9) (fun _ _ => rfl)) pa_nil)))) (pg_name (i := 10) nd rfl (Or.inl rfl))
        (pss_cons (ps_if (PW.pt (pw_or (pt_not (pt_val (pe_callB call_isErrA rfl B.isi boot_isinstance (pa_cons (pv 10) (pa_cons (pe_glob (v := .ref S) rfl BB.mS rfl) pa_nil))))) (pw_or1 (pt_not (pt_val (pe_callB call_isErrA rfl B.isi boot_isinstance (pa_cons (pv 10) (pa_cons (pe_bltn (v := .ty "ValueError") rfl BB.nve bt_ve rfl) pa_nil)))))))) (pss_one (ps_ret pe_bl)) pss_nil)
        (pss_one (ps_if (pt_cmpR (op_neD hu) (pe_call Kn.g hr1 rfl Kn.m Kn.k Kn.b .nil pass0 (pa_cons (pv 10) pa_nil)) (pe_lc (own := [("number", 12)]) (g := gName 12) (tt := tYes) (te := tOp rEq (tVar 12) (tVar 9)) rfl nd (pi_range1 rfl B.range (pa_cons pe_int pa_nil)) (blkOk_by (N := NER) (sc := defScope sErrR) (by decide +kernel))
            (fun _ _ _ _ _ => pg_name (i := 12) nd rfl (Or.inl rfl)) (fun _ _ _ _ _ => pts_nil) (fun _ _ _ _ _ => pe_cmpR op_eq (pv 12) (pv 9) (nomark _))) (nomark _)) (pss_one (ps_ret pe_bl)) pss_nil))))))
    (pss_cons (ps_set (i := 11) nd rfl (Or.inl rfl) (pe_lst (pa_cons (pe_errFldA (pe_ix ix_list (pv 6) pe_int (fun _ _ => rfl))) (pa_cons (pe_errFldA (pe_ix ix_list (pv 6) pe_int (fun _ _ => rfl))) (pa_cons (pe_errFldA (pe_ix ix_list (pv 6) pe_int (fun _ _ => rfl))) (pa_cons (pe_errFldA (pe_ix ix_list (pv 6) pe_int (fun _ _ => rfl))) (pa_cons (pe_errFldA (pe_ix ix_list (pv 6) pe_int (fun _ _ => rfl))) (pa_cons (pe_errFldA (pe_ix ix_list (pv 6) pe_int (fun _ _ => rfl))) pa_nil))))))))
    (pss_cons (ps_if (pt_cmpR op_ne (pe_callB (call_reprQ hgd hu) rfl B.repr boot_repr (pa_cons (pv 11) pa_nil)) (pe_callB (call_reprQ hgd hu) rfl B.repr boot_repr (pa_cons (pe_lst (pa_cons (pv 5) (pa_cons (pv 5) (pa_cons (pv 5) (pa_cons (pv 4) (pa_cons (pe_tup (pa_cons (pv 2) (pa_cons (pv 3) pa_nil))) (pa_cons (pv 7) pa_nil))))))) pa_nil)) (nomark _)) (pss_one (ps_ret pe_bl)) pss_nil)
    (pss_cons (ps_if (pt_val (pe_callB call_isD rfl B.isi bt_isi (pa_cons (pv 5) (pa_cons (pe_bltn (v := .ty "list") rfl B.list bt_list rfl) pa_nil)))) (pss_one (ps_expr (pe_bm PySem.F.plainAttrs_list PySem.F.slot_list_append PySem.F.type_list_append mt_append (pv 5) (pa_cons pe_int pa_nil)))) pss_nil)
    (pss_cons (ps_if (pt_cmpR op_ne (pe_callB (call_reprQ hgd hu) rfl B.repr boot_repr (pa_cons (pe_lst (pa_cons (pe_errFldA (pe_ix ix_list (pv 6) pe_int (fun _ _ => rfl))) (pa_cons (pe_errFldA (pe_ix ix_list (pv 6) pe_int (fun _ _ => rfl))) pa_nil))) pa_nil)) (pe_callB (call_reprQ hgd hu) rfl B.repr boot_repr (pa_cons (pe_lst (pa_cons (pv 5) (pa_cons (pv 5) pa_nil))) pa_nil)) (nomark _)) (pss_one (ps_ret pe_bl)) pss_nil)
    (pss_cons (ps_set (i := 11) nd rfl (Or.inl rfl) (pe_lst (pa_cons (pe_errFldA (pe_ix ix_list (pv 8) pe_int (fun _ _ => rfl))) (pa_cons (pe_errFldA (pe_ix ix_list (pv 8) pe_int (fun _ _ => rfl))) (pa_cons (pe_errFldA (pe_ix ix_list (pv 8) pe_int (fun _ _ => rfl))) (pa_cons (pe_errFldA (pe_ix ix_list (pv 8) pe_int (fun _ _ => rfl))) (pa_cons (pe_errFldA (pe_ix ix_list (pv 8) pe_int (fun _ _ => rfl))) (pa_cons (pe_errFldA (pe_ix ix_list (pv 8) pe_int (fun _ _ => rfl))) pa_nil))))))))
    (pss_one (ps_ret (pe_cmpR op_eq (pe_callB (call_reprQ hgd hu) rfl B.repr boot_repr (pa_cons (pv 11) pa_nil)) (pe_callB (call_reprQ hgd hu) rfl B.repr boot_repr (pa_cons (pe_lst (pa_cons (pe_lst pa_nil) (pa_cons pe_int (pa_cons pe_non (pa_cons pe_int (pa_cons (pe_tup (pa_cons pe_str (pa_cons pe_str pa_nil))) (pa_cons pe_str pa_nil))))))) pa_nil)) (nomark _))))))))))))))))), ?_⟩
  refine ⟨_, rfl, _, rfl, st, 4, z, rfl, hst, by omega, hz, fun cs H1 lc hcs A1 => ?_⟩
  refine ⟨_, rfl, _, rfl, st, 4, z, rfl, A1.sm, by omega, hz, fun ds H2 ld hds A2 => ⟨_, _, rfl, ?_⟩⟩
  refine ⟨_, rfl, _, _, rfl, rfl, pow6, st, _, rfl, A2.sm, by decide, by decide, fun k H3 k0 k1 A3 => ?_⟩
  have AH := (A1.trans A2).trans A3
  have S3 := A3.sm
  clear A1 A2 A3
  -- a thing
  refine ⟨_, rfl, _, rfl, nle' (by show 1 ≤ 1000; decide), fun qq nq => ⟨nle' (by show 2 ≤ 1000; decide), fun t nt => ⟨_, rfl, nle' (by show 6 ≤ 1000; decide), fun p np => ?_⟩⟩⟩
  have hq3 : upd H3 qq (HO.lst [.str (tx cs)]) qq = some (.lst [.str (tx cs)]) := upd_same
  have a3 := (Aft.of S3).new (o := HO.lst [.str (tx cs)]) nq
  generalize upd H3 qq (HO.lst [.str (tx cs)]) = G1 at hq3 a3 nt np ⊢
  have ht3 : upd G1 t (HO.tup [.str "keep", .str "ab"]) t = some (.tup [.str "keep", .str "ab"]) := upd_same
  have hq3' := (Ex.new (o := HO.tup [.str "keep", .str "ab"]) nt) _ _ hq3
  have a3' := a3.new (o := HO.tup [.str "keep", .str "ab"]) nt
  generalize upd G1 t (HO.tup [.str "keep", .str "ab"]) = G2 at ht3 hq3' a3' np ⊢
  have a4 := a3'.new (o := HO.lst [.non, .int 5, .ref qq, .ref t, .str (tx cs), .bl true]) np
  have hq4 : Hd st G2 qq = some (.lst [.str (tx cs)]) := hd_of (S3.ne nq) hq3'
  have ht4 : Hd st G2 t = some (.tup [.str "keep", .str "ab"]) := hd_of (a3.sm.ne nt) ht3
  have e4 : Ex (Hd st G2) (Hd st (upd G2 p (HO.lst [.non, .int 5, .ref qq, .ref t, .str (tx cs), .bl true]))) := hdE (Ex.new np)
  refine ⟨st, .ref p, (fun v => v ∈ [V.non, .int 5, .ref qq, .ref t, .str (tx cs), .bl true]), rfl, a4.sm, .inl ⟨p, _, rfl, .inl (SqL.of (hd_of (a3'.sm.ne np) upd_same)), by simp, by show 6 ≤ 100000; decide, fun v m => m⟩, fun odd H5 hodd A5 => ?_⟩
  have A35 : Aft st H3 H5 := a4.trans A5
  have hq5 := A5.gr _ _ (e4 _ _ hq4)
  have ht5 := A5.gr _ _ (e4 _ _ ht4)
  clear hq3 a3 ht3 hq3' a3' a4 hq4 ht4 e4 A5 nt np
  -- six errors
  refine ⟨_, rfl, _, rfl, fun e0 de0 ae0 be0 ce0 => ?_⟩
  have xe0 := ex_made (o := .xd [("steps", odd)]) (u := ErO (C 0) de0 e0) ae0 be0 ce0
  have Ee0 : IsErr (upd (upd H5 de0 (.xd [("steps", odd)])) e0 (ErO (C 0) de0 e0)) (C 0) (atE 0) e0 odd := isErr_made ce0
  generalize upd (upd H5 de0 (.xd [("steps", odd)])) e0 (ErO (C 0) de0 e0) = I0 at xe0 Ee0 ⊢
  refine ⟨_, rfl, _, rfl, fun e1 de1 ae1 be1 ce1 => ?_⟩
  have xe1 := ex_made (o := .xd [("wrong", odd)]) (u := ErO (C 1) de1 e1) ae1 be1 ce1
  have Ee1 : IsErr (upd (upd I0 de1 (.xd [("wrong", odd)])) e1 (ErO (C 1) de1 e1)) (C 1) (atE 1) e1 odd := isErr_made ce1
  generalize upd (upd I0 de1 (.xd [("wrong", odd)])) e1 (ErO (C 1) de1 e1) = I1 at xe1 Ee1 ⊢
  refine ⟨_, rfl, _, rfl, fun e2 de2 ae2 be2 ce2 => ?_⟩
  have xe2 := ex_made (o := .xd [("wrong", odd)]) (u := ErO (C 2) de2 e2) ae2 be2 ce2
  have Ee2 : IsErr (upd (upd I1 de2 (.xd [("wrong", odd)])) e2 (ErO (C 2) de2 e2)) (C 2) (atE 2) e2 odd := isErr_made ce2
  generalize upd (upd I1 de2 (.xd [("wrong", odd)])) e2 (ErO (C 2) de2 e2) = I2 at xe2 Ee2 ⊢
  refine ⟨_, rfl, _, rfl, fun e3 de3 ae3 be3 ce3 => ?_⟩
  have xe3 := ex_made (o := .xd [("count", (.int k))]) (u := ErO (C 3) de3 e3) ae3 be3 ce3
  have Ee3 : IsErr (upd (upd I2 de3 (.xd [("count", (.int k))])) e3 (ErO (C 3) de3 e3)) (C 3) (atE 3) e3 (.int k) := isErr_made ce3
  generalize upd (upd I2 de3 (.xd [("count", (.int k))])) e3 (ErO (C 3) de3 e3) = I3 at xe3 Ee3 ⊢
  refine ⟨_, rfl, _, rfl, nle' (by show 2 ≤ 1000; decide), fun pt npt => ?_⟩
  have xpt := Ex.new (o := HO.tup [.str (tx cs), .str (tx ds)]) npt
  have hpt : upd I3 pt (HO.tup [.str (tx cs), .str (tx ds)]) pt = some (.tup [.str (tx cs), .str (tx ds)]) := upd_same
  generalize upd I3 pt (HO.tup [.str (tx cs), .str (tx ds)]) = I4 at xpt hpt ⊢
  refine ⟨_, rfl, fun e4 de4 ae4 be4 ce4 => ?_⟩
  have xe4 := ex_made (o := .xd [("pair", (.ref pt))]) (u := ErO (C 4) de4 e4) ae4 be4 ce4
  have Ee4 : IsErr (upd (upd I4 de4 (.xd [("pair", (.ref pt))])) e4 (ErO (C 4) de4 e4)) (C 4) (atE 4) e4 (.ref pt) := isErr_made ce4
  generalize upd (upd I4 de4 (.xd [("pair", (.ref pt))])) e4 (ErO (C 4) de4 e4) = I5 at xe4 Ee4 ⊢
  refine ⟨nle' (by show 5 ≤ 1000; decide), fun R nR => ?_⟩
  have x05 : Ex H5 I5 := ((((xe0.trans xe1).trans xe2).trans xe3).trans xpt).trans xe4
  have S5 : Strm st I5 := (aft_x A35.sm x05).sm
  have xR := Ex.new (o := HO.lst [.ref e0, .ref e1, .ref e2, .ref e3, .ref e4]) nR
  have hR : upd I5 R (HO.lst [.ref e0, .ref e1, .ref e2, .ref e3, .ref e4]) R = some (.lst [.ref e0, .ref e1, .ref e2, .ref e3, .ref e4]) := upd_same
  have aR : Aft st I5 (upd I5 R (HO.lst [.ref e0, .ref e1, .ref e2, .ref e3, .ref e4])) := (Aft.of S5).new nR
  have nRs := S5.ne nR
  generalize upd I5 R (HO.lst [.ref e0, .ref e1, .ref e2, .ref e3, .ref e4]) = I6 at xR hR aR ⊢
  have S6 := aR.sm
  have y4 := xe4.trans xR
  have y3 := (xpt.trans y4)
  have y2 := xe3.trans y3
  have y1 := xe2.trans y2
  have y0 := xe1.trans y1
  have F0 := (Ee0.mono y0).hd S6
  have F1 := (Ee1.mono y1).hd S6
  have F2 := (Ee2.mono y2).hd S6
  have F3 := (Ee3.mono y3).hd S6
  have F4 := (Ee4.mono xR).hd S6
  have gR := hd_of nRs hR
  have gpt : Hd st I6 pt = some (.tup [.str (tx cs), .str (tx ds)]) := hd_of (fun e => by
    obtain ⟨u, v, hs, _⟩ := S6
    rw [e] at hpt
    have := y4 _ _ hpt
    rw [hs] at this
    cases this) (y4 _ _ hpt)
  have h56 := hdE (L := st) (x05.trans xR)
  have gq := h56 _ _ hq5
  have gt := h56 _ _ ht5
  clear Ee0 Ee1 Ee2 Ee3 Ee4 y0 y1 y2 y3 y4 xe0 xe1 xe2 xe3 xe4 xpt xR hR hpt h56 hq5 ht5 ae0 be0 ce0 ae1 be1 ce1 ae2 be2 ce2 ae3 be3 ce3 ae4 be4 ce4 npt
  -- the last one
  refine ⟨_, rfl, _, rfl, nle' (by show 2 ≤ 1000; decide), fun p2 np2 => ?_⟩
  have a7 := (Aft.of S6).new (o := HO.lst [.str (tx cs), .non]) np2
  refine ⟨st, .ref p2, (fun v => v ∈ [V.str (tx cs), .non]), rfl, a7.sm, .inl ⟨p2, _, rfl, .inl (SqL.of (hd_of (S6.ne np2) upd_same)), by simp, by show 2 ≤ 100000; decide, fun v m => m⟩, fun last H7 hlast A7 => ?_⟩
  have a67 : Aft st I6 H7 := a7.trans A7
  have g7 : Ex (Hd st I6) H7 := (show Ex (Hd st I6) (Hd st H7) from a67.gr).trans hd_le
  have a57 : Aft st I5 H7 := aR.trans a67
  clear a7 A7 aR a67 np2
  have hR7 := g7 _ _ gR
  refine ⟨_, rfl, .inl ⟨rfl, _, SqL.of hR7⟩, _, rfl, _, rfl, fun e5 d5 n1 n2 n3 => ?_⟩
  have x5 := ex_made (o := .xd [("wrong", last)]) (u := ErO (C 5) d5 e5) n1 n2 n3
  have E5 : IsErr (upd (upd H7 d5 (.xd [("wrong", last)])) e5 (ErO (C 5) d5 e5)) (C 5) (atE 5) e5 last := isErr_made n3
  generalize upd (upd H7 d5 (.xd [("wrong", last)])) e5 (ErO (C 5) d5 e5) = H8 at x5 E5 ⊢
  have hR8 := x5 _ _ hR7
  have g8 := g7.trans x5
  have a58 := a57.trans (aft_x a57.sm x5)
  refine ⟨R, _, _, rfl, rfl, hR8, by show 5 < sizeLine; decide, ?_⟩
  have J0 := (F0.mono g8).mut (o := HO.lst ([.ref e0, .ref e1, .ref e2, .ref e3, .ref e4] ++ [.ref e5])) hR8
  have J1 := (F1.mono g8).mut (o := HO.lst ([.ref e0, .ref e1, .ref e2, .ref e3, .ref e4] ++ [.ref e5])) hR8
  have J2 := (F2.mono g8).mut (o := HO.lst ([.ref e0, .ref e1, .ref e2, .ref e3, .ref e4] ++ [.ref e5])) hR8
  have J3 := (F3.mono g8).mut (o := HO.lst ([.ref e0, .ref e1, .ref e2, .ref e3, .ref e4] ++ [.ref e5])) hR8
  have J4 := (F4.mono g8).mut (o := HO.lst ([.ref e0, .ref e1, .ref e2, .ref e3, .ref e4] ++ [.ref e5])) hR8
  have J5 := E5.mut (o := HO.lst ([.ref e0, .ref e1, .ref e2, .ref e3, .ref e4] ++ [.ref e5])) hR8
  have mR : ∀ {x : Addr} {u : HO}, H8 x = some u → u ≠ .lst [.ref e0, .ref e1, .ref e2, .ref e3, .ref e4] → upd H8 R (HO.lst ([.ref e0, .ref e1, .ref e2, .ref e3, .ref e4] ++ [.ref e5])) x = some u := fun h n => by
    rw [upd_ne (by intro z; subst z; rw [hR8] at h; exact n (Option.some.inj h).symm)]; exact h
  have hpt9 := mR (g8 _ _ gpt) (fun z => by cases z)
  have hq9 := mR (g8 _ _ gq) (fun z => by cases z)
  have ht9 := mR (g8 _ _ gt) (fun z => by cases z)
  have a59 : Aft st I5 (upd H8 R (HO.lst ([.ref e0, .ref e1, .ref e2, .ref e3, .ref e4] ++ [.ref e5]))) := a58.mut nRs (by unfold Hd; rw [nR]; simp)
  have hR9 : upd H8 R (HO.lst ([.ref e0, .ref e1, .ref e2, .ref e3, .ref e4] ++ [.ref e5])) R = some (.lst [.ref e0, .ref e1, .ref e2, .ref e3, .ref e4, .ref e5]) := upd_same
  have A39 := (A35.trans (aft_x A35.sm x05)).trans a59
  generalize upd H8 R (HO.lst ([.ref e0, .ref e1, .ref e2, .ref e3, .ref e4] ++ [.ref e5])) = H9 at J0 J1 J2 J3 J4 J5 hpt9 hq9 ht9 a59 hR9 A39 ⊢
  clear mR a58 a57 g7 g8 x5 E5 hR7 hR8 F0 F1 F2 F3 F4 gR gpt gq gt n1 n2 n3 S6 S5 nR nRs a59 A35 x05
  refine ⟨nle' (by show 0 ≤ 1000; decide), fun z0 nz0 => ?_⟩
  have xz := Ex.new (o := HO.lst []) nz0
  have hz0 : upd H9 z0 (HO.lst []) z0 = some (.lst []) := upd_same
  generalize upd H9 z0 (HO.lst []) = K0 at xz hz0 ⊢
  refine ⟨_, rfl, fun m0 dm0 am0 bm0 cm0 => ?_⟩
  have xm0 := ex_made (o := .xd [("steps", (.ref z0))]) (u := ErO (C 0) dm0 m0) am0 bm0 cm0
  have Em0 : IsErr (upd (upd K0 dm0 (.xd [("steps", (.ref z0))])) m0 (ErO (C 0) dm0 m0)) (C 0) (atE 0) m0 (.ref z0) := isErr_made cm0
  generalize upd (upd K0 dm0 (.xd [("steps", (.ref z0))])) m0 (ErO (C 0) dm0 m0) = K1 at xm0 Em0 ⊢
  refine ⟨_, rfl, fun m1 dm1 am1 bm1 cm1 => ?_⟩
  have xm1 := ex_made (o := .xd [("wrong", (.int 0))]) (u := ErO (C 1) dm1 m1) am1 bm1 cm1
  have Em1 : IsErr (upd (upd K1 dm1 (.xd [("wrong", (.int 0))])) m1 (ErO (C 1) dm1 m1)) (C 1) (atE 1) m1 (.int 0) := isErr_made cm1
  generalize upd (upd K1 dm1 (.xd [("wrong", (.int 0))])) m1 (ErO (C 1) dm1 m1) = K2 at xm1 Em1 ⊢
  refine ⟨_, rfl, fun m2 dm2 am2 bm2 cm2 => ?_⟩
  have xm2 := ex_made (o := .xd [("wrong", .non)]) (u := ErO (C 2) dm2 m2) am2 bm2 cm2
  have Em2 : IsErr (upd (upd K2 dm2 (.xd [("wrong", .non)])) m2 (ErO (C 2) dm2 m2)) (C 2) (atE 2) m2 .non := isErr_made cm2
  generalize upd (upd K2 dm2 (.xd [("wrong", .non)])) m2 (ErO (C 2) dm2 m2) = K3 at xm2 Em2 ⊢
  refine ⟨_, rfl, fun m3 dm3 am3 bm3 cm3 => ?_⟩
  have xm3 := ex_made (o := .xd [("count", (.int 0))]) (u := ErO (C 3) dm3 m3) am3 bm3 cm3
  have Em3 : IsErr (upd (upd K3 dm3 (.xd [("count", (.int 0))])) m3 (ErO (C 3) dm3 m3)) (C 3) (atE 3) m3 (.int 0) := isErr_made cm3
  generalize upd (upd K3 dm3 (.xd [("count", (.int 0))])) m3 (ErO (C 3) dm3 m3) = K4 at xm3 Em3 ⊢
  refine ⟨nle' (by show 4 ≤ 1000; decide), fun L1 nL1 => ?_⟩
  have xL1 := Ex.new (o := HO.lst [.ref m0, .ref m1, .ref m2, .ref m3]) nL1
  have hL1 : upd K4 L1 (HO.lst [.ref m0, .ref m1, .ref m2, .ref m3]) L1 = some (.lst [.ref m0, .ref m1, .ref m2, .ref m3]) := upd_same
  generalize upd K4 L1 (HO.lst [.ref m0, .ref m1, .ref m2, .ref m3]) = K5 at xL1 hL1 ⊢
  refine ⟨_, rfl, nle' (by show 2 ≤ 1000; decide), fun pu npu => ?_⟩
  have xpu := Ex.new (o := HO.tup [.str "", .str ""]) npu
  have hpu : upd K5 pu (HO.tup [.str "", .str ""]) pu = some (.tup [.str "", .str ""]) := upd_same
  generalize upd K5 pu (HO.tup [.str "", .str ""]) = K6 at xpu hpu ⊢
  refine ⟨_, rfl, fun m4 dm4 am4 bm4 cm4 => ?_⟩
  have xm4 := ex_made (o := .xd [("pair", (.ref pu))]) (u := ErO (C 4) dm4 m4) am4 bm4 cm4
  have Em4 : IsErr (upd (upd K6 dm4 (.xd [("pair", (.ref pu))])) m4 (ErO (C 4) dm4 m4)) (C 4) (atE 4) m4 (.ref pu) := isErr_made cm4
  generalize upd (upd K6 dm4 (.xd [("pair", (.ref pu))])) m4 (ErO (C 4) dm4 m4) = K7 at xm4 Em4 ⊢
  refine ⟨_, rfl, fun m5 dm5 am5 bm5 cm5 => ?_⟩
  have xm5 := ex_made (o := .xd [("wrong", (.str ""))]) (u := ErO (C 5) dm5 m5) am5 bm5 cm5
  have Em5 : IsErr (upd (upd K7 dm5 (.xd [("wrong", (.str ""))])) m5 (ErO (C 5) dm5 m5)) (C 5) (atE 5) m5 (.str "") := isErr_made cm5
  generalize upd (upd K7 dm5 (.xd [("wrong", (.str ""))])) m5 (ErO (C 5) dm5 m5) = K8 at xm5 Em5 ⊢
  refine ⟨nle' (by show 2 ≤ 1000; decide), fun L2 nL2 => ?_⟩
  have xL2 := Ex.new (o := HO.lst [.ref m4, .ref m5]) nL2
  have hL2 : upd K8 L2 (HO.lst [.ref m4, .ref m5]) L2 = some (.lst [.ref m4, .ref m5]) := upd_same
  generalize upd K8 L2 (HO.lst [.ref m4, .ref m5]) = K9 at xL2 hL2 ⊢
  have w5 := xpu.trans (xm4.trans (xm5.trans xL2))
  refine ⟨_, _, _, _, rfl, rfl, w5 _ _ hL1, hL2, by show 4 + 2 ≤ sizeLine; decide, fun M nM => ?_⟩
  have xM := Ex.new (o := HO.lst ([.ref m0, .ref m1, .ref m2, .ref m3] ++ [.ref m4, .ref m5])) nM
  have hM : upd K9 M (HO.lst ([.ref m0, .ref m1, .ref m2, .ref m3] ++ [.ref m4, .ref m5])) M = some (.lst [.ref m0, .ref m1, .ref m2, .ref m3, .ref m4, .ref m5]) := upd_same
  generalize upd K9 M (HO.lst ([.ref m0, .ref m1, .ref m2, .ref m3] ++ [.ref m4, .ref m5])) = G at xM hM ⊢
  have v5 := xL2.trans xM
  have v4 := xm5.trans v5
  have v3 := xL1.trans (xpu.trans (xm4.trans v4))
  have v2 := xm3.trans v3
  have v1 := xm2.trans v2
  have v0 := xm1.trans v1
  have N0 := Em0.mono v0
  have N1 := Em1.mono v1
  have N2 := Em2.mono v2
  have N3 := Em3.mono v3
  have N4 := Em4.mono v4
  have N5 := Em5.mono v5
  have hz1 := v0 _ _ (xm0 _ _ hz0)
  have hpu1 := v4 _ _ (xm4 _ _ hpu)
  have g9 : Ex H9 G := xz.trans (xm0.trans v0)
  have R0 := J0.mono g9
  have R1 := J1.mono g9
  have R2 := J2.mono g9
  have R3 := J3.mono g9
  have R4 := J4.mono g9
  have R5 := J5.mono g9
  have hR := g9 _ _ hR9
  have hpt := g9 _ _ hpt9
  have hq := g9 _ _ hq9
  have ht := g9 _ _ ht9
  have A3 := A39.trans (aft_x A39.sm g9)
  clear xz hz0 xm0 xm1 xm2 xm3 xm4 xm5 xL1 hL1 xpu hpu xL2 hL2 w5 xM v0 v1 v2 v3 v4 v5 g9 Em0 Em1 Em2 Em3 Em4 Em5 J0 J1 J2 J3 J4 J5 hR9 hpt9 hq9 ht9 A39 am0 bm0 cm0 am1 bm1 cm1 am2 bm2 cm2 am3 bm3 cm3 am4 bm4 cm4 am5 bm5 cm5 nz0 nL1 npu nL2 nM
  have rows : ∀ j, j < 6 → (∃ e v, [V.ref e0, .ref e1, .ref e2, .ref e3, .ref e4, .ref e5][j]? = some (.ref e) ∧ IsErr G (C j) (atE j) e v) ∧ ∃ e v, [V.ref m0, .ref m1, .ref m2, .ref m3, .ref m4, .ref m5][j]? = some (.ref e) ∧ IsErr G (C j) (atE j) e v := fun j hj =>
    six (p := fun j => (∃ e v, [V.ref e0, .ref e1, .ref e2, .ref e3, .ref e4, .ref e5][j]? = some (.ref e) ∧ IsErr G (C j) (atE j) e v) ∧ ∃ e v, [V.ref m0, .ref m1, .ref m2, .ref m3, .ref m4, .ref m5][j]? = some (.ref e) ∧ IsErr G (C j) (atE j) e v) hj
      ⟨⟨_, _, rfl, R0⟩, _, _, rfl, N0⟩ ⟨⟨_, _, rfl, R1⟩, _, _, rfl, N1⟩ ⟨⟨_, _, rfl, R2⟩, _, _, rfl, N2⟩ ⟨⟨_, _, rfl, R3⟩, _, _, rfl, N3⟩ ⟨⟨_, _, rfl, R4⟩, _, _, rfl, N4⟩ ⟨⟨_, _, rfl, R5⟩, _, _, rfl, N5⟩
  -- of their class, of no other one
  refine ⟨6, rfl, by decide, by decide, for_range (lo := 0) (n := 6) (fun i σ H' => Ex G H' ∧ ∃ y9 y10 y11 y12, σ = [some (.ref st), some (.str z), some (.str (tx cs)), some (.str (tx ds)), some (.int k), some odd, some (.ref R), some last, some (.ref M), y9, y10, y11, y12]) ⟨Ex.refl _, none, none, none, none, rfl⟩ (fun j σ H' hj p => ?_) (fun σ H' p => ?_)⟩
  · obtain ⟨x1, y9, y10, y11, y12, rfl⟩ := p
    obtain ⟨⟨ea, va, ha, ra⟩, eb, vb, hb, rb⟩ := rows j hj
    rw [show (0 : Int) + (j : Int) = (j : Int) from Int.zero_add _]
    refine ⟨_, rfl, _, rfl, R, _, _, _, rfl, rfl, SqL.of (x1 _ _ hR), atI_nat ha, _, rfl, _, rfl, M, _, _, _, rfl, rfl, SqL.of (x1 _ _ hM), atI_nat hb, nle' (by show 2 ≤ 1000; decide), fun lp nlp => ?_⟩
    have x2 := x1.trans (Ex.new (o := HO.lst [.ref ea, .ref eb]) nlp)
    have l2 : upd H' lp (HO.lst [.ref ea, .ref eb]) lp = some (.lst [.ref ea, .ref eb]) := upd_same
    generalize upd H' lp (HO.lst [.ref ea, .ref eb]) = H2' at x2 l2 ⊢
    refine ⟨_, rfl, ⟨_, SqL.of l2⟩, for_list (xs := [.ref ea, .ref eb]) (fun i σ H8 => Ex H2' H8 ∧ ∃ y10 y11 y12, σ = [some (.ref st), some (.str z), some (.str (tx cs)), some (.str (tx ds)), some (.int k), some odd, some (.ref R), some last, some (.ref M), some (.int j), y10, y11, y12]) ⟨Ex.refl _, _, _, _, rfl⟩ (fun i σ H8 _ p => SqL.of (p.1 _ _ l2)) (fun i x σ H8 hx p => ?_) (fun σ H8 p => ?_)⟩
    · obtain ⟨x8, y10, y11, y12, rfl⟩ := p
      have hx2 : ∃ e v, x = .ref e ∧ IsErr G (C j) (atE j) e v := by
        match i, hx with
        | 0, hx => cases hx; exact ⟨_, _, rfl, ra⟩
        | 1, hx => cases hx; exact ⟨_, _, rfl, rb⟩
        | i + 2, hx => cases hx
      obtain ⟨e, v, rfl, Re⟩ := hx2
      have x8' := x2.trans x8
      have R8 := Re.mono x8'
      have hc := T.c hj
      refine ⟨_, rfl, C j, e, _, v, _, _, _, rfl, .own _, hc, R8, BB.own j hj, _, rfl, iteF ?_⟩
      refine ⟨_, rfl, C j, e, _, v, _, _, _, rfl, .ty _, hc, R8, BB.ve j hj, _, rfl, iteF ?_⟩
      refine ⟨_, rfl, j, e, v, rfl, hj, R8, fun kp H9 x9 k9 => ?_⟩
      refine ⟨16, rfl, by decide, by decide, fun Dl hD => ?_⟩
      have D9 : Ex H2' (upd H9 Dl (.lst ((List.range 16).map fun k : Nat => V.bl (decide (V.int (0 + (k : Int)) = V.int (j : Int)))))) := (x8.trans x9).trans (Ex.new hD)
      refine lc_range (lo := 0) (n := 16) (fun i H' => H' = upd H9 Dl (.lst ((List.range i).map fun k : Nat => V.bl (decide (V.int (0 + (k : Int)) = V.int (j : Int)))))) rfl (fun i H' hi p => ?_) (fun H' p => ?_)
      · subst p
        refine ⟨rfl, tyes ?_⟩
        refine ⟨_, rfl, _, rfl, rfl, _, upd_same, ?_, ?_⟩
        · rw [List.length_map, List.length_range]
          exact small1000 (by omega)
        · rw [upd_upd, List.range_succ, List.map_append]
          rfl
      · subst p
        have hk : (upd H9 Dl (.lst ((List.range 16).map fun k : Nat => V.bl (decide (V.int (0 + (k : Int)) = V.int (j : Int)))))) kp = some (.lst (eqs j)) := (Ex.new hD) _ _ k9
        have hd : (upd H9 Dl (.lst ((List.range 16).map fun k : Nat => V.bl (decide (V.int (0 + (k : Int)) = V.int (j : Int)))))) Dl = some (.lst ((List.range 16).map fun k : Nat => V.bl (decide (V.int (0 + (k : Int)) = V.int (j : Int))))) := upd_same
        refine ⟨flags fun k => decide (j = k), flags fun k => decide (j = k), .lst (SqL.of hk) (dp_bools _ _), .lst (SqL.of hd) dp_flags, (flags_ok hj).2, (flags_ok hj).2, ?_⟩
        rw [(flags_ok hj).1]
        refine ⟨_, rfl, iteF ?_⟩
        exact ⟨D9, _, _, _, rfl⟩
    · obtain ⟨x8, y10, y11, y12, rfl⟩ := p
      exact ⟨x2.trans x8, _, _, _, _, rfl⟩
  obtain ⟨x1, y9, y10, y11, y12, rfl⟩ := p
  obtain ⟨dO, bO, qO, sO, kO, wO⟩ := odd_dq lc hcs hq ht hodd
  obtain ⟨dL, qL, sL⟩ := last_dq (H := G) lc hcs hlast
  have R0' := R0.mono x1
  have hR' := x1 _ _ hR
  refine ⟨_, rfl, R, _, _, _, rfl, rfl, SqL.of hR', atI_nat (j := 0) rfl, e0, odd, C 0, rfl, T.c (n := 0) (by decide), R0.mono x1, _, rfl, R, _, _, _, rfl, rfl, SqL.of hR', atI_nat (j := 1) rfl, e1, odd, C 1, rfl, T.c (n := 1) (by decide), R1.mono x1, _, rfl, R, _, _, _, rfl, rfl, SqL.of hR', atI_nat (j := 2) rfl, e2, odd, C 2, rfl, T.c (n := 2) (by decide), R2.mono x1, _, rfl, R, _, _, _, rfl, rfl, SqL.of hR', atI_nat (j := 3) rfl, e3, .int k, C 3, rfl, T.c (n := 3) (by decide), R3.mono x1, _, rfl, R, _, _, _, rfl, rfl, SqL.of hR', atI_nat (j := 4) rfl, e4, .ref pt, C 4, rfl, T.c (n := 4) (by decide), R4.mono x1, _, rfl, R, _, _, _, rfl, rfl, SqL.of hR', atI_nat (j := 5) rfl, e5, last, C 5, rfl, T.c (n := 5) (by decide), R5.mono x1, nle' (by show 6 ≤ 1000; decide), fun tl ntl => ?_⟩
  have x2 := x1.trans (Ex.new (o := HO.lst [odd, odd, odd, .int k, .ref pt, last]) ntl)
  have htl : upd H' tl (HO.lst [odd, odd, odd, .int k, .ref pt, last]) tl = some (.lst [odd, odd, odd, .int k, .ref pt, last]) := upd_same
  generalize upd H' tl (HO.lst [odd, odd, odd, .int k, .ref pt, last]) = H2' at x2 htl ⊢
  have kk : k ≤ 1000000000 := by
    have : (10 : Int) ^ Int.toNat 6 = 1000000 := by decide
    omega
  have sk := sm_int (i := k) (by omega) kk
  have sp2 := (sm_seq (xs := [.str (tx cs), .str (tx ds)]) (m := 2) (B := 42) (fun x m => by
    simp only [List.mem_cons, List.not_mem_nil, or_false] at m
    rcases m with rfl | rfl
    · exact ⟨(sm_tx lc hcs).s, (sm_tx lc hcs).z, by simp [PyData.depth]⟩
    · exact ⟨(sm_tx ld hds).s, (sm_tx ld hds).z, by simp [PyData.depth]⟩) (by simp)).2
  have sT := sm_of (xs := [dO, dO, dO, .int k, .tuple [.str (tx cs), .str (tx ds)], dL]) (m := 6) (B := 300) (fun x m => by
    simp only [List.mem_cons, List.not_mem_nil, or_false] at m
    rcases m with rfl | rfl | rfl | rfl | rfl | rfl
    · exact ⟨sO.1, sO.2.1, by omega⟩
    · exact ⟨sO.1, sO.2.1, by omega⟩
    · exact ⟨sO.1, sO.2.1, by omega⟩
    · exact ⟨sk.s, Nat.le_trans sk.z (by decide), by simp [PyData.depth]⟩
    · exact ⟨sp2.s, Nat.le_trans sp2.z (by decide), by simp [PyData.depth, PyData.depthAll]⟩
    · exact ⟨sL.1, sL.2.1, by omega⟩) (by simp) (by decide)
  have qO2 := qO.mono x2
  have dT : ∀ {HH : Hp} {pp : Addr}, Ex H2' HH → HH pp = some (.tup [.str (tx cs), .str (tx ds)]) → DqAll HH [odd, odd, odd, .int k, .ref pp, last] [dO, dO, dO, .int k, .tuple [.str (tx cs), .str (tx ds)], dL] := fun x h =>
    .cons (qO2.mono x) (.cons (qO2.mono x) (.cons (qO2.mono x) (.cons (.int _) (.cons (.tup h (.cons (.str _) (.cons (.str _) .nil))) (.cons (qL _) .nil)))))
  refine ⟨_, rfl, .ref tl, _, rfl, .lst htl (dT (Ex.refl _) (x2 _ _ hpt)), sT.1, sT.2.1, sT.2.2, ?_⟩
  refine ⟨_, rfl, _, rfl, _, rfl, _, rfl, _, rfl, _, rfl, nle' (by show 2 ≤ 1000; decide), fun pv' npv => ⟨_, rfl, nle' (by show 6 ≤ 1000; decide), fun tl2 ntl2 => ?_⟩⟩
  have x3 := Ex.new (o := HO.tup [.str (tx cs), .str (tx ds)]) npv
  have hpv : upd H2' pv' (HO.tup [.str (tx cs), .str (tx ds)]) pv' = some (.tup [.str (tx cs), .str (tx ds)]) := upd_same
  generalize upd H2' pv' (HO.tup [.str (tx cs), .str (tx ds)]) = H3' at x3 hpv ntl2 ⊢
  have x4 := Ex.new (o := HO.lst [odd, odd, odd, .int k, .ref pv', last]) ntl2
  have hl2 : upd H3' tl2 (HO.lst [odd, odd, odd, .int k, .ref pv', last]) tl2 = some (.lst [odd, odd, odd, .int k, .ref pv', last]) := upd_same
  generalize upd H3' tl2 (HO.lst [odd, odd, odd, .int k, .ref pv', last]) = H4' at x4 hl2 ⊢
  refine ⟨_, _, rfl, .lst hl2 (dT (x3.trans x4) (x4 _ _ hpv)), sT.1, sT.2.1, sT.2.2, rfl, _, rfl, iteNS rfl ?_⟩
  have xT := (x2.trans x3).trans x4
  refine ⟨_, rfl, _, _, _, _, rfl, qO.mono xT, kO, _, rfl, ?_⟩
  have hqT := xT _ _ hq
  have AT := A3.trans (aft_x A3.sm xT)
  have T0 := R0.mono xT
  have T1 := R1.mono xT
  have U0 := N0.mono xT
  have U1 := N1.mono xT
  have U2 := N2.mono xT
  have U3 := N3.mono xT
  have U4 := N4.mono xT
  have U5 := N5.mono xT
  have hRT := xT _ _ hR
  have hMT := xT _ _ hM
  have hzT := xT _ _ hz1
  have huT := xT _ _ hpu1
  have qOT := qO.mono xT
  clear R0 R1 R2 R3 R4 R5 N0 N1 N2 N3 N4 N5 hR hM hz1 hpu1 hq ht hpt hpv hl2 htl x2 x3 x4 dT qO2 R0' hR' x1 rows xT qO A3
  refine share_nx (fun σ' HH => (∃ y9 y10 y11 y12, σ' = [some (.ref st), some (.str z), some (.str (tx cs)), some (.str (tx ds)), some (.int k), some odd, some (.ref R), some last, some (.ref M), y9, y10, y11, y12]) ∧ Aft st H3 HH ∧ IsErr HH (C 0) (atE 0) e0 odd ∧ IsErr HH (C 1) (atE 1) e1 odd ∧ IsErr HH (C 0) (atE 0) m0 (.ref z0) ∧ IsErr HH (C 1) (atE 1) m1 (.int 0) ∧ IsErr HH (C 2) (atE 2) m2 .non ∧ IsErr HH (C 3) (atE 3) m3 (.int 0) ∧ IsErr HH (C 4) (atE 4) m4 (.ref pu) ∧ IsErr HH (C 5) (atE 5) m5 (.str "") ∧
      HH R = some (.lst [.ref e0, .ref e1, .ref e2, .ref e3, .ref e4, .ref e5]) ∧ HH M = some (.lst [.ref m0, .ref m1, .ref m2, .ref m3, .ref m4, .ref m5]) ∧ HH z0 = some (.lst []) ∧ HH pu = some (.tup [.str "", .str ""]) ∧ ∃ d, Dq HH odd d ∧ (d.showable = true ∧ d.shown.length ≤ 300 ∧ d.depth ≤ 18)) (fun σ' HH hp => ?_) (fun qq' => ite2 (fun hb => ?_) (fun hb => ?_))
  case refine_2 =>
    cases wO hb
    refine ⟨_, rfl, .inl ⟨rfl, _, SqL.of hqT⟩, qq, _, _, rfl, rfl, hqT, by show 1 < sizeLine; decide, ?_⟩
    have mR : ∀ {x : Addr} {u : HO}, H4' x = some u → u ≠ .lst [.str (tx cs)] → upd H4' qq (HO.lst ([.str (tx cs)] ++ [.int 0])) x = some u := fun h n => by
      rw [upd_ne (by intro z; subst z; rw [hqT] at h; exact n (Option.some.inj h).symm)]; exact h
    obtain ⟨d, q1, q2⟩ := odd_dq2 (H := upd H4' qq (HO.lst ([.str (tx cs)] ++ [.int 0]))) lc hcs upd_same
    exact qq' _ _ ⟨⟨_, _, _, _, rfl⟩, AT.mut (S3.ne nq) (by unfold Hd; rw [nq]; simp), T0.mut hqT, T1.mut hqT, U0.mut hqT, U1.mut hqT, U2.mut hqT, U3.mut hqT, U4.mut hqT, U5.mut hqT, mR hRT (fun z => by cases z), mR hMT (fun z => by cases z), mR hzT (fun z => by cases z), mR huT (fun z => by cases z), d, q1, q2⟩
  case refine_3 =>
    exact qq' _ _ ⟨⟨_, _, _, _, rfl⟩, AT, T0, T1, U0, U1, U2, U3, U4, U5, hRT, hMT, hzT, huT, dO, qOT, sO⟩
  clear AT T0 T1 U0 U1 U2 U3 U4 U5 hRT hMT hzT huT qOT hqT wO kO
  obtain ⟨⟨y9, y10, y11, y12, rfl⟩, AT, T0, T1, U0, U1, U2, U3, U4, U5, hRT, hMT, hzT, huT, d, qd, sd⟩ := hp
  -- what is stored is the thing itself
  refine ⟨_, rfl, R, _, _, _, rfl, rfl, SqL.of hRT, atI_nat (j := 0) rfl, e0, odd, C 0, rfl, T.c (n := 0) (by decide), T0, _, rfl, R, _, _, _, rfl, rfl, SqL.of hRT, atI_nat (j := 1) rfl, e1, odd, C 1, rfl, T.c (n := 1) (by decide), T1, nle' (by show 2 ≤ 1000; decide), fun ta nta => ?_⟩
  have xa := Ex.new (o := HO.lst [odd, odd]) nta
  have hta : upd HH ta (HO.lst [odd, odd]) ta = some (.lst [odd, odd]) := upd_same
  generalize upd HH ta (HO.lst [odd, odd]) = W1 at xa hta ⊢
  have s2 := sm_of (xs := [d, d]) (m := 2) (B := 300) (fun x m => by
    simp only [List.mem_cons, List.not_mem_nil, or_false] at m
    rcases m with rfl | rfl <;> exact ⟨sd.1, sd.2.1, by omega⟩) (by simp) (by decide)
  refine ⟨_, _, rfl, .lst hta (.cons (qd.mono xa) (.cons (qd.mono xa) .nil)), s2.1, s2.2.1, s2.2.2, ?_⟩
  refine ⟨_, rfl, _, rfl, nle' (by show 2 ≤ 1000; decide), fun tb ntb => ?_⟩
  have xb := Ex.new (o := HO.lst [odd, odd]) ntb
  have htb : upd W1 tb (HO.lst [odd, odd]) tb = some (.lst [odd, odd]) := upd_same
  generalize upd W1 tb (HO.lst [odd, odd]) = W2 at xb htb ⊢
  have xab := xa.trans xb
  refine ⟨_, _, rfl, .lst htb (.cons (qd.mono xab) (.cons (qd.mono xab) .nil)), s2.1, s2.2.1, s2.2.2, rfl, _, rfl, iteNS rfl ?_⟩
  have hMW := xab _ _ hMT
  refine ⟨_, rfl, M, _, _, _, rfl, rfl, SqL.of hMW, atI_nat (j := 0) rfl, m0, .ref z0, C 0, rfl, T.c (n := 0) (by decide), U0.mono xab, _, rfl, M, _, _, _, rfl, rfl, SqL.of hMW, atI_nat (j := 1) rfl, m1, .int 0, C 1, rfl, T.c (n := 1) (by decide), U1.mono xab, _, rfl, M, _, _, _, rfl, rfl, SqL.of hMW, atI_nat (j := 2) rfl, m2, .non, C 2, rfl, T.c (n := 2) (by decide), U2.mono xab, _, rfl, M, _, _, _, rfl, rfl, SqL.of hMW, atI_nat (j := 3) rfl, m3, .int 0, C 3, rfl, T.c (n := 3) (by decide), U3.mono xab, _, rfl, M, _, _, _, rfl, rfl, SqL.of hMW, atI_nat (j := 4) rfl, m4, .ref pu, C 4, rfl, T.c (n := 4) (by decide), U4.mono xab, _, rfl, M, _, _, _, rfl, rfl, SqL.of hMW, atI_nat (j := 5) rfl, m5, .str "", C 5, rfl, T.c (n := 5) (by decide), U5.mono xab, nle' (by show 6 ≤ 1000; decide), fun tc ntc => ?_⟩
  have xc := Ex.new (o := HO.lst [.ref z0, .int 0, .non, .int 0, .ref pu, .str ""]) ntc
  have htc : upd W2 tc (HO.lst [.ref z0, .int 0, .non, .int 0, .ref pu, .str ""]) tc = some (.lst [.ref z0, .int 0, .non, .int 0, .ref pu, .str ""]) := upd_same
  generalize upd W2 tc (HO.lst [.ref z0, .int 0, .non, .int 0, .ref pu, .str ""]) = W3 at xc htc ⊢
  have xac := xab.trans xc
  have dM : ∀ {HH : Hp} {a b : Addr}, HH a = some (.lst []) → HH b = some (.tup [.str "", .str ""]) → DqAll HH [.ref a, .int 0, .non, .int 0, .ref b, .str ""] [.list [], .int 0, .none, .int 0, .tuple [.str "", .str ""], .str ""] := fun h1 h2 =>
    .cons (.lst h1 .nil) (.cons (.int _) (.cons .non (.cons (.int _) (.cons (.tup h2 (.cons (.str _) (.cons (.str _) .nil))) (.cons (.str _) .nil)))))
  have sM : (PyData.list [.list [], .int 0, .none, .int 0, .tuple [.str "", .str ""], .str ""]).showable = true ∧ (PyData.list [.list [], .int 0, .none, .int 0, .tuple [.str "", .str ""], .str ""]).shown.length ≤ sizeLine ∧ (PyData.list [.list [], .int 0, .none, .int 0, .tuple [.str "", .str ""], .str ""]).depth ≤ 60 := ⟨by decide +kernel, by decide +kernel, by decide +kernel⟩
  refine ⟨_, rfl, _, _, rfl, .lst htc (dM (xac _ _ hzT) (xac _ _ huT)), sM.1, sM.2.1, sM.2.2, ?_⟩
  refine ⟨nle' (by show 0 ≤ 1000; decide), fun z2 nz2 => ⟨nle' (by show 2 ≤ 1000; decide), fun p3 np3 => ⟨nle' (by show 6 ≤ 1000; decide), fun td ntd => ?_⟩⟩⟩
  have xd := Ex.new (o := HO.lst []) nz2
  have hz2 : upd W3 z2 (HO.lst []) z2 = some (.lst []) := upd_same
  generalize upd W3 z2 (HO.lst []) = W4 at xd hz2 np3 ntd ⊢
  have xe := Ex.new (o := HO.tup [.str "", .str ""]) np3
  have hp3 : upd W4 p3 (HO.tup [.str "", .str ""]) p3 = some (.tup [.str "", .str ""]) := upd_same
  generalize upd W4 p3 (HO.tup [.str "", .str ""]) = W5 at xe hp3 ntd ⊢
  have xf := Ex.new (o := HO.lst [.ref z2, .int 0, .non, .int 0, .ref p3, .str ""]) ntd
  have htd : upd W5 td (HO.lst [.ref z2, .int 0, .non, .int 0, .ref p3, .str ""]) td = some (.lst [.ref z2, .int 0, .non, .int 0, .ref p3, .str ""]) := upd_same
  generalize upd W5 td (HO.lst [.ref z2, .int 0, .non, .int 0, .ref p3, .str ""]) = W6 at xf htd ⊢
  refine ⟨_, _, rfl, .lst htd (dM (xf _ _ (xe _ _ hz2)) (xf _ _ hp3)), sM.1, sM.2.1, sM.2.2, rfl, ?_⟩
  rw [decide_eq_true rfl]
  exact q W6 ((AH.trans AT).trans (aft_x AT.sm (((xac.trans xd).trans xe).trans xf)))
end
end Sk

/-! The law. -/
namespace Sk
open PySem PySem.Spec PyProof.Rows L2 Evl
abbrev NLaw : List Str := ["script", "start", "stream", "turn", "signs"]
theorem scLaw : FnScope NLaw ["script"] (defScope sLaw) := ⟨rfl, rfl, rfl, by decide +kernel, rfl, by decide +kernel, by decide +kernel⟩
def spLaw (K : PySem.W.Frag) : Sp := fun vs H Q _ => ∃ (a : Addr) (ns : List Int), vs = [.ref a] ∧ SqL K H a (ns.map V.int) ∧ ns.length ≤ 63 ∧ (∀ z ∈ ns, Builtin.Int.intBits z ≤ 1048576) ∧ ∀ H', Q (.bl true) H'
section
variable {P : Program} {w : World} {K : PySem.W.Frag} {mg : Str → Option Value} {base : Heap} {fL fS fG fE fN : Addr} {dL dS dG dE dN : FuncData}
theorem ok_law (F : Fun K "law" "law" sLaw fL dL) (B : Blt mg)
    (St : Lt P w K mg base fS dS "_law_stream" ["script", "start"] 1 (spStream K))
    (Sg : Lt P w K mg base fG dG "_law_signs" ["stream"] 3 spSigns)
    (Er : FnG P w K mg base 4 fE dE ["stream", "signs"] spNR) (bE : Binds K dE ["stream", "signs"] []) (kE : PySem.W.keepIn K (.ref fE) = true) (mE : mg "_law_errors_right" = some (.ref fE))
    (Nr : Lt P w K mg base fN dN "_law_names_right" ["stream", "signs"] 7 spNR) :
    LawOk P w K mg base fL dL "script" (spLaw K) := by
  refine law_of (k := 7) F scLaw ⟨rfl, by decide, by decide⟩ fun cdv s H v Q hr hg h => ?_
  have nd := scLaw.nd
  have hr1 : Room 1 _ := hr.mono (by decide)
  have hr3 : Room 3 _ := hr.mono (by decide)
  have hr4 : Room 4 _ := hr.mono (by decide)
  obtain ⟨a, ns, ev, hS, h63, hb, q⟩ := h
  cases ev
  refine ⟨_, pss_cons (ps_for PassesOwn.never rfl (pi_range1 rfl B.range (pa_cons (pe_callB (call_max2 rfl) rfl B.max bt_max (pa_cons pe_int (pa_cons (pe_callB (call_min2 rfl) rfl B.min bt_min (pa_cons pe_int (pa_cons (pe_callB call_len_seq rfl B.len PySem.boot_len (pa_cons (pv 0) pa_nil)) pa_nil))) pa_nil))) pa_nil)) (pg_name (i := 1) nd rfl (Or.inl rfl))
      (pss_cons (ps_set (i := 2) nd rfl (Or.inl rfl) (pe_call St.g hr1 rfl St.m St.k St.b .nil pass0 (pa_cons (pv 0) (pa_cons (pv 1) pa_nil))))
      (pss_one (ps_for PassesOwn.never rfl (pi_range1 rfl B.range (pa_cons pe_int pa_nil)) (pg_name (i := 3) nd rfl (Or.inl rfl))
        (pss_cons (ps_set (i := 4) nd rfl (Or.inl rfl) (pe_call Sg.g hr3 rfl Sg.m Sg.k Sg.b .nil pass0 (pa_cons (pv 2) pa_nil)))
        (pss_one (ps_if (PW.pt (pw_or (pt_not (pt_val (pe_callG hg Er hr4 rfl mE kE bE pass0 (pa_cons (pv 2) (pa_cons (pv 4) pa_nil))))) (pw_or1 (pt_not (pt_val (pe_call Nr.g hr rfl Nr.m Nr.k Nr.b .nil pass0 (pa_cons (pv 2) (pa_cons (pv 4) pa_nil)))))))) (pss_one (ps_ret pe_bl)) pss_nil)))))))
    (pss_one (ps_ret pe_bl)), ?_⟩
  have lns : (ns.map V.int).length = ns.length := List.length_map _
  refine ⟨_, rfl, a, _, rfl, .inl hS, _, _, rfl, _, _, rfl, ?_⟩
  have mm : ∃ m : Nat, m ≤ 4 ∧ (if (if (((ns.map V.int).length : Nat) : Int) < 4 then (((ns.map V.int).length : Nat) : Int) else 4) > 1 then (if (((ns.map V.int).length : Nat) : Int) < 4 then (((ns.map V.int).length : Nat) : Int) else 4) else 1) = (m : Int) := by
    rw [lns]
    by_cases h4 : ((ns.length : Nat) : Int) < 4
    · rw [if_pos h4]
      by_cases h1 : ((ns.length : Nat) : Int) > 1
      · rw [if_pos h1]; exact ⟨ns.length, by omega, rfl⟩
      · rw [if_neg h1]; exact ⟨1, by omega, rfl⟩
    · rw [if_neg h4]; exact ⟨4, by omega, rfl⟩
  obtain ⟨m, m4, em⟩ := mm
  rw [em]
  refine ⟨_, rfl, by omega, by omega, for_range (lo := 0) (n := m) (fun i σ H2 => SqL K H2 a (ns.map V.int) ∧ ∃ y1 y2 y3 y4, σ = [some (.ref a), y1, y2, y3, y4]) ⟨hS, none, none, none, none, rfl⟩ (fun j σ H0 hj p => ?_) (fun σ H2 p => ?_)⟩
  · obtain ⟨p0, y1, y2, y3, y4, rfl⟩ := p
    refine ⟨_, rfl, _, rfl, a, ns, _, rfl, p0, h63, hb, by omega, by omega, fun st H1 nst E1 S1 => ?_⟩
    have s1 : SqL K (Hd st H1) a (ns.map V.int) := by
      refine ex_l (H := H0) (fun b o e => hd_of ?_ (E1 b o e)) p0
      intro z; subst z; rw [nst] at e; cases e
    refine ⟨4, rfl, by decide, by decide, for_range (lo := 0) (n := 4) (fun i σ H' => Aft st H1 H' ∧ ∃ y3 y4, σ = [some (.ref a), some (.int ((0 : Nat) + (j : Nat) : Int)), some (.ref st), y3, y4]) ⟨Aft.of S1, _, _, rfl⟩ (fun t σ H' ht p => ?_) (fun σ H' p => ?_)⟩
    case refine_2 =>
      obtain ⟨A, y3, y4, rfl⟩ := p
      exact ⟨ex_l (Ex.trans (show Ex (Hd st H1) (Hd st H') from A.gr) hd_le) s1, _, _, _, _, rfl⟩
    obtain ⟨A1, y3, y4, rfl⟩ := p
    refine ⟨_, rfl, st, rfl, A1.sm, fun z H2 hz A2 => ?_⟩
    refine ⟨_, rfl, _, rfl, st, z, rfl, A2.sm, hz, fun H3 A3 => ⟨_, rfl, ?_⟩⟩
    refine iteF ?_
    refine ⟨_, rfl, _, rfl, st, z, rfl, A3.sm, hz, fun H4 A4 => ⟨_, rfl, ?_⟩⟩
    refine iteF ?_
    exact ⟨((A1.trans A2).trans A3).trans A4, _, _, rfl⟩
  · exact q H2
end
/-! ### calls by keywords -/
section
variable {K : PySem.W.Frag} {f : Addr} {fd : FuncData}
theorem kw_cos {D : Addr} {a b c : Tok} (h1 : PySem.W.nsIn K D "put" = some (some (.int 1 a))) (h2 : PySem.W.nsIn K D "drop" = some (some (.int 1 b))) (h3 : PySem.W.nsIn K D "swap" = some (some (.int 1 c))) : KwdV K (.ref D) kwC :=
  .inr ⟨D, rfl, fun q m => by
    simp only [List.mem_cons, List.not_mem_nil, or_false] at m
    rcases m with rfl | rfl | rfl
    · exact ⟨_, h1, _, rfl⟩
    · exact ⟨_, h2, _, rfl⟩
    · exact ⟨_, h3, _, rfl⟩⟩
theorem kb_ps (F : FunD K "cost" "Script.cost" (defArgs sCost) (defBody sCost) (defScope sCost) [] kwC f fd) : ∃ mv : List Value, KBn K fd psC 1 ["put", "swap"] (fun us ws => us ++ ws.take 1 ++ mv ++ ws.drop 1) (fun vs zs => vs ++ zs.take 1 ++ [.int 1] ++ zs.drop 1) :=
  F.kbinds0 1 ["put", "swap"] [("drop", .int 1)] (fun a b c => a ++ c.take 1 ++ b ++ c.drop 1) (by simp) (by simp) (fun r1 r2 r3 => ((r1.append (r3.take 1)).append r2).append (r3.drop 1)) fun D doc pm an cdv ct us mv ws l1 l2 l3 => by
    match us, l1, mv, l2, ws, l3 with
    | [a], _, [b], _, [c, d], _ => exact ⟨_, _, _, _, _, _, rfl, rfl, rfl⟩
end
end Sk

namespace Sk
open PySem PySem.Spec PyProof.Rows L2 Evl
theorem five_of {us ws : List Value} (h : (gFive us ws).length = 5) : us = [] ∧ ∃ m g s p d, ws = [m, g, s, p, d] := by
  unfold gFive at h
  split at h
  · exact ⟨rfl, _, _, _, _, _, rfl⟩
  · cases h
end Sk

namespace Sk
open PySem PySem.Spec PyProof.Rows L2 Evl PySem.SkE
theorem all_mk {P : Program} {w : World} {K : PySem.W.Frag} {h : Heap} {mg : Str → Option Value} {fa f0 f1 f2 f3 f4 f5 f6 f7 f8 f9 f10 f11 f12 f13 S c0 i0 c1 i1 c2 i2 c3 i3 c4 i4 c5 i5 : Addr} (X : K.In h) (G : h.Ns mainGlobals mg) (hfa : mg "law" = some (.ref fa))
    {od0 an0 od1 an1 od2 an2 od3 an3 od4 an4 od5 an5 od6 an6 od7 an7 od8 an8 od9 an9 od10 an10 od11 an11 od12 an12 od13 an13 : Option Addr} {sl0 sl1 sl2 sl3 sl4 sl5 sl6 sl7 sl8 sl9 sl10 sl11 sl12 sl13 : Array (Option Value)} {oc0 kV0 dc0 pm0 cd0 ct0 oc1 kV1 dc1 pm1 cd1 ct1 oc2 kV2 dc2 pm2 cd2 ct2 oc3 kV3 dc3 pm3 cd3 ct3 oc4 kV4 dc4 pm4 cd4 ct4 oc5 kV5 dc5 pm5 cd5 ct5 oc6 kV6 dc6 pm6 cd6 ct6 oc7 kV7 dc7 pm7 cd7 ct7 oc8 kV8 dc8 pm8 cd8 ct8 oc9 kV9 dc9 pm9 cd9 ct9 oc10 kV10 dc10 pm10 cd10 ct10 oc11 kV11 dc11 pm11 cd11 ct11 oc12 kV12 dc12 pm12 cd12 ct12 oc13 kV13 dc13 pm13 cd13 ct13 : Value}
    (a0 : PySem.W.nsIn K mainGlobals "is_sign" = some (some (.ref f0))) (l0 : K.lookup f0 = some ⟨oc0, od0, .func (PySem.W.fnOf "is_sign" "is_sign" (defArgs sSign) (defBody sSign) (defScope sSign) .none kV0 dc0 pm0 an0 cd0 ct0), sl0⟩) (c0_ : PySem.W.codeIn K cd0 "is_sign" = true) (k0 : PySem.W.keepIn K (.ref f0) = true)
    (a1 : PySem.W.nsIn K mainGlobals "is_step" = some (some (.ref f1))) (l1 : K.lookup f1 = some ⟨oc1, od1, .func (PySem.W.fnOf "is_step" "is_step" (defArgs sStep) (defBody sStep) (defScope sStep) .none kV1 dc1 pm1 an1 cd1 ct1), sl1⟩) (c1_ : PySem.W.codeIn K cd1 "is_step" = true) (k1 : PySem.W.keepIn K (.ref f1) = true)
    (a2 : PySem.W.nsIn K mainGlobals "are_steps" = some (some (.ref f2))) (l2 : K.lookup f2 = some ⟨oc2, od2, .func (PySem.W.fnOf "are_steps" "are_steps" (defArgs sAre) (defBody sAre) (defScope sAre) .none kV2 dc2 pm2 an2 cd2 ct2), sl2⟩) (c2_ : PySem.W.codeIn K cd2 "are_steps" = true) (k2 : PySem.W.keepIn K (.ref f2) = true)
    (a3 : PySem.W.nsIn K mainGlobals "costs_behind" = some (some (.ref f3))) (l3 : K.lookup f3 = some ⟨oc3, od3, .func (PySem.W.fnOf "costs_behind" "costs_behind" (defArgs sBehind) (defBody sBehind) (defScope sBehind) .none kV3 dc3 pm3 an3 cd3 ct3), sl3⟩) (c3_ : PySem.W.codeIn K cd3 "costs_behind" = true) (k3 : PySem.W.keepIn K (.ref f3) = true)
    (a4 : PySem.W.nsIn K mainGlobals "_law_stream" = some (some (.ref f4))) (l4 : K.lookup f4 = some ⟨oc4, od4, .func (PySem.W.fnOf "_law_stream" "_law_stream" (defArgs sStream) (defBody sStream) (defScope sStream) .none kV4 dc4 pm4 an4 cd4 ct4), sl4⟩) (c4_ : PySem.W.codeIn K cd4 "_law_stream" = true) (k4 : PySem.W.keepIn K (.ref f4) = true)
    (a5 : PySem.W.nsIn K mainGlobals "_law_draw" = some (some (.ref f5))) (l5 : K.lookup f5 = some ⟨oc5, od5, .func (PySem.W.fnOf "_law_draw" "_law_draw" (defArgs sDraw) (defBody sDraw) (defScope sDraw) .none kV5 dc5 pm5 an5 cd5 ct5), sl5⟩) (c5_ : PySem.W.codeIn K cd5 "_law_draw" = true) (k5 : PySem.W.keepIn K (.ref f5) = true)
    (a6 : PySem.W.nsIn K mainGlobals "_law_choose" = some (some (.ref f6))) (l6 : K.lookup f6 = some ⟨oc6, od6, .func (PySem.W.fnOf "_law_choose" "_law_choose" (defArgs sChoose) (defBody sChoose) (defScope sChoose) .none kV6 dc6 pm6 an6 cd6 ct6), sl6⟩) (c6_ : PySem.W.codeIn K cd6 "_law_choose" = true) (k6 : PySem.W.keepIn K (.ref f6) = true)
    (a7 : PySem.W.nsIn K mainGlobals "_law_word" = some (some (.ref f7))) (l7 : K.lookup f7 = some ⟨oc7, od7, .func (PySem.W.fnOf "_law_word" "_law_word" (defArgs sWord) (defBody sWord) (defScope sWord) .none kV7 dc7 pm7 an7 cd7 ct7), sl7⟩) (c7_ : PySem.W.codeIn K cd7 "_law_word" = true) (k7 : PySem.W.keepIn K (.ref f7) = true)
    (a8 : PySem.W.nsIn K mainGlobals "_law_signs" = some (some (.ref f8))) (l8 : K.lookup f8 = some ⟨oc8, od8, .func (PySem.W.fnOf "_law_signs" "_law_signs" (defArgs sSigns) (defBody sSigns) (defScope sSigns) .none kV8 dc8 pm8 an8 cd8 ct8), sl8⟩) (c8_ : PySem.W.codeIn K cd8 "_law_signs" = true) (k8 : PySem.W.keepIn K (.ref f8) = true)
    (a9 : PySem.W.nsIn K mainGlobals "_law_steps" = some (some (.ref f9))) (l9 : K.lookup f9 = some ⟨oc9, od9, .func (PySem.W.fnOf "_law_steps" "_law_steps" (defArgs sSteps) (defBody sSteps) (defScope sSteps) .none kV9 dc9 pm9 an9 cd9 ct9), sl9⟩) (c9_ : PySem.W.codeIn K cd9 "_law_steps" = true) (k9 : PySem.W.keepIn K (.ref f9) = true)
    (a10 : PySem.W.nsIn K mainGlobals "_law_kinds" = some (some (.ref f10))) (l10 : K.lookup f10 = some ⟨oc10, od10, .func (PySem.W.fnOf "_law_kinds" "_law_kinds" (defArgs sKinds) (defBody sKinds) (defScope sKinds) .none kV10 dc10 pm10 an10 cd10 ct10), sl10⟩) (c10_ : PySem.W.codeIn K cd10 "_law_kinds" = true) (k10 : PySem.W.keepIn K (.ref f10) = true)
    (a11 : PySem.W.nsIn K mainGlobals "_law_errors_right" = some (some (.ref f11))) (l11 : K.lookup f11 = some ⟨oc11, od11, .func (PySem.W.fnOf "_law_errors_right" "_law_errors_right" (defArgs sErrR) (defBody sErrR) (defScope sErrR) .none kV11 dc11 pm11 an11 cd11 ct11), sl11⟩) (c11_ : PySem.W.codeIn K cd11 "_law_errors_right" = true) (k11 : PySem.W.keepIn K (.ref f11) = true)
    (a12 : PySem.W.nsIn K mainGlobals "_law_names_right" = some (some (.ref f12))) (l12 : K.lookup f12 = some ⟨oc12, od12, .func (PySem.W.fnOf "_law_names_right" "_law_names_right" (defArgs sNamR) (defBody sNamR) (defScope sNamR) .none kV12 dc12 pm12 an12 cd12 ct12), sl12⟩) (c12_ : PySem.W.codeIn K cd12 "_law_names_right" = true) (k12 : PySem.W.keepIn K (.ref f12) = true)
    (a13 : PySem.W.nsIn K mainGlobals "law" = some (some (.ref f13))) (l13 : K.lookup f13 = some ⟨oc13, od13, .func (PySem.W.fnOf "law" "law" (defArgs sLaw) (defBody sLaw) (defScope sLaw) .none kV13 dc13 pm13 an13 cd13 ct13), sl13⟩) (c13_ : PySem.W.codeIn K cd13 "law" = true) (k13 : PySem.W.keepIn K (.ref f13) = true)
    (aS : PySem.W.nsIn K mainGlobals "SchemaError" = some (some (.ref S)))
    {nm0 q0 nm1 q1 nm2 q2 nm3 q3 nm4 q4 nm5 q5 : Str} {N0 N1 N2 N3 N4 N5 : Addr} {bs0 sb0 bs1 sb1 bs2 sb2 bs3 sb3 bs4 sb4 bs5 sb5 : List Value} {sn0 sn1 sn2 sn3 sn4 sn5 : List Str} {ab0 ab1 ab2 ab3 ab4 ab5 : Bool} {cl0 cl1 cl2 cl3 cl4 cl5 : Option Bool} {dd0 eo0 en0 dd1 eo1 en1 dd2 eo2 en2 dd3 eo3 en3 dd4 eo4 en4 dd5 eo5 en5 : Option Addr} {u0 v0 w0 x0 y0 u1 v1 w1 x1 y1 u2 v2 w2 x2 y2 u3 v3 w3 x3 y3 u4 v4 w4 x4 y4 u5 v5 w5 x5 y5 : Option Value} {ec0 ed0 ep0 ev0 et0 ec1 ed1 ep1 ev1 et1 ec2 ed2 ep2 ev2 et2 ec3 ed3 ep3 ev3 et3 ec4 ed4 ep4 ev4 et4 ec5 ed5 ep5 ev5 et5 : Value} {es0 es1 es2 es3 es4 es5 : Array (Option Value)} {p0 r0 s0 t0 g0 j0 p1 r1 s1 t1 g1 j1 p2 r2 s2 t2 g2 j2 p3 r3 s3 t3 g3 j3 p4 r4 s4 t4 g4 j4 p5 r5 s5 t5 g5 j5 : Pos}
    (A0 : PySem.W.nsIn K mainGlobals "BadScript" = some (some (.ref c0))) (B0 : K.lookup c0 = some (excClassObj nm0 q0 c0 N0 bs0 [.ref S, .type "ValueError", .type "Exception", .type "BaseException", .type "object"] true sn0 sb0 ab0 cl0 dd0 u0 v0 w0 x0 y0 "ValueError.__new__")) (C0 : PySem.W.findIn K (.ref c0) "__setattr__" = some (some (.builtin "object.__setattr__"))) (D0 : PySem.W.findIn K (.ref c0) "__getattribute__" = some (some (.builtin "BaseException.__getattribute__"))) (E0 : PySem.W.findIn K (.ref c0) "__getattr__" = some none) (F0 : PySem.W.findIn K (.ref c0) "steps" = some none) (G0 : PySem.W.findIn K (.ref c0) "__init__" = some (some (.ref i0))) (H0 : PySem.W.typeIn K (.ref i0) = some (.type "function")) (I0 : PySem.W.keepIn K (.ref c0) = true) (J0 : PySem.W.subIn K (.ref c0) (.type "BaseException") = some true) (K0 : PySem.W.typeIn K (.ref c0) = some (.type "type")) (L0 : PySem.W.hasDictIn K c0 = true) (M0 : K.lookup i0 = some ⟨ec0, eo0, .func (PySem.W.fnOf "__init__" "BadScript.__init__" (SkE.iA "steps" p0 r0) (SkE.iB "steps" s0 t0 g0 j0) (SkE.iS "steps") .none .none ed0 ep0 en0 ev0 et0), es0⟩) (O0 : PySem.W.codeIn K ev0 "BadScript.__init__" = true) (P0 : (PySem.W.clsIn K c0).isSome = true) (Q0 : PySem.W.findIn K (.ref c0) "__class__" = some (some (.builtin "object.__class__"))) (U0 : PySem.W.mroIn K c0 (.type "object") = some true)
    (A1 : PySem.W.nsIn K mainGlobals "WrongText" = some (some (.ref c1))) (B1 : K.lookup c1 = some (excClassObj nm1 q1 c1 N1 bs1 [.ref S, .type "ValueError", .type "Exception", .type "BaseException", .type "object"] true sn1 sb1 ab1 cl1 dd1 u1 v1 w1 x1 y1 "ValueError.__new__")) (C1 : PySem.W.findIn K (.ref c1) "__setattr__" = some (some (.builtin "object.__setattr__"))) (D1 : PySem.W.findIn K (.ref c1) "__getattribute__" = some (some (.builtin "BaseException.__getattribute__"))) (E1 : PySem.W.findIn K (.ref c1) "__getattr__" = some none) (F1 : PySem.W.findIn K (.ref c1) "wrong" = some none) (G1 : PySem.W.findIn K (.ref c1) "__init__" = some (some (.ref i1))) (H1 : PySem.W.typeIn K (.ref i1) = some (.type "function")) (I1 : PySem.W.keepIn K (.ref c1) = true) (J1 : PySem.W.subIn K (.ref c1) (.type "BaseException") = some true) (K1 : PySem.W.typeIn K (.ref c1) = some (.type "type")) (L1 : PySem.W.hasDictIn K c1 = true) (M1 : K.lookup i1 = some ⟨ec1, eo1, .func (PySem.W.fnOf "__init__" "WrongText.__init__" (SkE.iA "wrong" p1 r1) (SkE.iB "wrong" s1 t1 g1 j1) (SkE.iS "wrong") .none .none ed1 ep1 en1 ev1 et1), es1⟩) (O1 : PySem.W.codeIn K ev1 "WrongText.__init__" = true) (P1 : (PySem.W.clsIn K c1).isSome = true) (Q1 : PySem.W.findIn K (.ref c1) "__class__" = some (some (.builtin "object.__class__"))) (U1 : PySem.W.mroIn K c1 (.type "object") = some true)
    (A2 : PySem.W.nsIn K mainGlobals "NotInside" = some (some (.ref c2))) (B2 : K.lookup c2 = some (excClassObj nm2 q2 c2 N2 bs2 [.ref S, .type "ValueError", .type "Exception", .type "BaseException", .type "object"] true sn2 sb2 ab2 cl2 dd2 u2 v2 w2 x2 y2 "ValueError.__new__")) (C2 : PySem.W.findIn K (.ref c2) "__setattr__" = some (some (.builtin "object.__setattr__"))) (D2 : PySem.W.findIn K (.ref c2) "__getattribute__" = some (some (.builtin "BaseException.__getattribute__"))) (E2 : PySem.W.findIn K (.ref c2) "__getattr__" = some none) (F2 : PySem.W.findIn K (.ref c2) "wrong" = some none) (G2 : PySem.W.findIn K (.ref c2) "__init__" = some (some (.ref i2))) (H2 : PySem.W.typeIn K (.ref i2) = some (.type "function")) (I2 : PySem.W.keepIn K (.ref c2) = true) (J2 : PySem.W.subIn K (.ref c2) (.type "BaseException") = some true) (K2 : PySem.W.typeIn K (.ref c2) = some (.type "type")) (L2 : PySem.W.hasDictIn K c2 = true) (M2 : K.lookup i2 = some ⟨ec2, eo2, .func (PySem.W.fnOf "__init__" "NotInside.__init__" (SkE.iA "wrong" p2 r2) (SkE.iB "wrong" s2 t2 g2 j2) (SkE.iS "wrong") .none .none ed2 ep2 en2 ev2 et2), es2⟩) (O2 : PySem.W.codeIn K ev2 "NotInside.__init__" = true) (P2 : (PySem.W.clsIn K c2).isSome = true) (Q2 : PySem.W.findIn K (.ref c2) "__class__" = some (some (.builtin "object.__class__"))) (U2 : PySem.W.mroIn K c2 (.type "object") = some true)
    (A3 : PySem.W.nsIn K mainGlobals "NoSuchText" = some (some (.ref c3))) (B3 : K.lookup c3 = some (excClassObj nm3 q3 c3 N3 bs3 [.ref S, .type "ValueError", .type "Exception", .type "BaseException", .type "object"] true sn3 sb3 ab3 cl3 dd3 u3 v3 w3 x3 y3 "ValueError.__new__")) (C3 : PySem.W.findIn K (.ref c3) "__setattr__" = some (some (.builtin "object.__setattr__"))) (D3 : PySem.W.findIn K (.ref c3) "__getattribute__" = some (some (.builtin "BaseException.__getattribute__"))) (E3 : PySem.W.findIn K (.ref c3) "__getattr__" = some none) (F3 : PySem.W.findIn K (.ref c3) "count" = some none) (G3 : PySem.W.findIn K (.ref c3) "__init__" = some (some (.ref i3))) (H3 : PySem.W.typeIn K (.ref i3) = some (.type "function")) (I3 : PySem.W.keepIn K (.ref c3) = true) (J3 : PySem.W.subIn K (.ref c3) (.type "BaseException") = some true) (K3 : PySem.W.typeIn K (.ref c3) = some (.type "type")) (L3 : PySem.W.hasDictIn K c3 = true) (M3 : K.lookup i3 = some ⟨ec3, eo3, .func (PySem.W.fnOf "__init__" "NoSuchText.__init__" (SkE.iA "count" p3 r3) (SkE.iB "count" s3 t3 g3 j3) (SkE.iS "count") .none .none ed3 ep3 en3 ev3 et3), es3⟩) (O3 : PySem.W.codeIn K ev3 "NoSuchText.__init__" = true) (P3 : (PySem.W.clsIn K c3).isSome = true) (Q3 : PySem.W.findIn K (.ref c3) "__class__" = some (some (.builtin "object.__class__"))) (U3 : PySem.W.mroIn K c3 (.type "object") = some true)
    (A4 : PySem.W.nsIn K mainGlobals "NothingBetween" = some (some (.ref c4))) (B4 : K.lookup c4 = some (excClassObj nm4 q4 c4 N4 bs4 [.ref S, .type "ValueError", .type "Exception", .type "BaseException", .type "object"] true sn4 sb4 ab4 cl4 dd4 u4 v4 w4 x4 y4 "ValueError.__new__")) (C4 : PySem.W.findIn K (.ref c4) "__setattr__" = some (some (.builtin "object.__setattr__"))) (D4 : PySem.W.findIn K (.ref c4) "__getattribute__" = some (some (.builtin "BaseException.__getattribute__"))) (E4 : PySem.W.findIn K (.ref c4) "__getattr__" = some none) (F4 : PySem.W.findIn K (.ref c4) "pair" = some none) (G4 : PySem.W.findIn K (.ref c4) "__init__" = some (some (.ref i4))) (H4 : PySem.W.typeIn K (.ref i4) = some (.type "function")) (I4 : PySem.W.keepIn K (.ref c4) = true) (J4 : PySem.W.subIn K (.ref c4) (.type "BaseException") = some true) (K4 : PySem.W.typeIn K (.ref c4) = some (.type "type")) (L4 : PySem.W.hasDictIn K c4 = true) (M4 : K.lookup i4 = some ⟨ec4, eo4, .func (PySem.W.fnOf "__init__" "NothingBetween.__init__" (SkE.iA "pair" p4 r4) (SkE.iB "pair" s4 t4 g4 j4) (SkE.iS "pair") .none .none ed4 ep4 en4 ev4 et4), es4⟩) (O4 : PySem.W.codeIn K ev4 "NothingBetween.__init__" = true) (P4 : (PySem.W.clsIn K c4).isSome = true) (Q4 : PySem.W.findIn K (.ref c4) "__class__" = some (some (.builtin "object.__class__"))) (U4 : PySem.W.mroIn K c4 (.type "object") = some true)
    (A5 : PySem.W.nsIn K mainGlobals "NoTexts" = some (some (.ref c5))) (B5 : K.lookup c5 = some (excClassObj nm5 q5 c5 N5 bs5 [.ref S, .type "ValueError", .type "Exception", .type "BaseException", .type "object"] true sn5 sb5 ab5 cl5 dd5 u5 v5 w5 x5 y5 "ValueError.__new__")) (C5 : PySem.W.findIn K (.ref c5) "__setattr__" = some (some (.builtin "object.__setattr__"))) (D5 : PySem.W.findIn K (.ref c5) "__getattribute__" = some (some (.builtin "BaseException.__getattribute__"))) (E5 : PySem.W.findIn K (.ref c5) "__getattr__" = some none) (F5 : PySem.W.findIn K (.ref c5) "wrong" = some none) (G5 : PySem.W.findIn K (.ref c5) "__init__" = some (some (.ref i5))) (H5 : PySem.W.typeIn K (.ref i5) = some (.type "function")) (I5 : PySem.W.keepIn K (.ref c5) = true) (J5 : PySem.W.subIn K (.ref c5) (.type "BaseException") = some true) (K5 : PySem.W.typeIn K (.ref c5) = some (.type "type")) (L5 : PySem.W.hasDictIn K c5 = true) (M5 : K.lookup i5 = some ⟨ec5, eo5, .func (PySem.W.fnOf "__init__" "NoTexts.__init__" (SkE.iA "wrong" p5 r5) (SkE.iB "wrong" s5 t5 g5 j5) (SkE.iS "wrong") .none .none ed5 ep5 en5 ev5 et5), es5⟩) (O5 : PySem.W.codeIn K ev5 "NoTexts.__init__" = true) (P5 : (PySem.W.clsIn K c5).isSome = true) (Q5 : PySem.W.findIn K (.ref c5) "__class__" = some (some (.builtin "object.__class__"))) (U5 : PySem.W.mroIn K c5 (.type "object") = some true)
    (X0 : PySem.W.specialIn K (.builtin "object.__class__") "__get__" = some (some (.builtin "getset_descriptor.__get__"))) (X1 : PySem.W.takesIn K (.builtin "object.__class__") = some true)
    (X2 : ((List.range 6).all fun n => (List.range 6).all fun k => PySem.W.kitOne K (.ref ([c0, c1, c2, c3, c4, c5].getD n 0)) (.ref ([c0, c1, c2, c3, c4, c5].getD k 0)) == some (decide (n = k))) = true) (X3 : ((List.range 6).all fun n => PySem.W.kitOne K (.ref ([c0, c1, c2, c3, c4, c5].getD n 0)) (.ref S) == some true) = true) (X4 : ((List.range 6).all fun n => PySem.W.kitOne K (.ref ([c0, c1, c2, c3, c4, c5].getD n 0)) (.type "ValueError") == some true) = true)
    {SC pK kD d6 d7 d8 d9 d10 d11 d12 d13 d14 d15 gI gK gA gE gC gZ : Addr} {tP tD tS : Tok} {rK : List Value} {odI anI odK anK odA anA odE anE odC anC odZ anZ : Option Addr} {slI slK slA slE slC slZ : Array (Option Value)} {ocI kVI dcI pmI cdI ctI ocK kVK dcK pmK cdK ctK ocA kVA dcA pmA cdA ctA ocE kVE dcE pmE cdE ctE ocC dcC pmC cdC ctC ocZ kVZ dcZ pmZ cdZ ctZ : Value}
    (ex0 : PySem.W.nsIn K mainGlobals "tuple" = some none)
    (ex1 : PySem.W.nsIn K mainGlobals "set" = some none)
    (ex2 : PySem.W.nsIn K mainGlobals "zip" = some none)
    (ex3 : PySem.W.nsIn K mainGlobals "sum" = some none)
    (ex4 : PySem.W.nsIn K mainGlobals "ValueError" = some none)
    (X10 : PySem.W.nsIn K mainGlobals "Script" = some (some (.ref SC)))
    (X11 : PySem.W.plainGet K SC Str.empty = true)
    (X12 : PySem.W.hasDictIn K SC = true)
    (X13 : PySem.W.plainOver K SC = true)
    (X14 : PySem.W.findIn K (.ref SC) "__setattr__" = some (some (.builtin "object.__setattr__")))
    (X15 : PySem.W.findIn K (.ref SC) "steps" = some none)
    (X16 : PySem.W.findIn K (.ref SC) "given" = some none)
    (X17 : PySem.W.findIn K (.ref SC) "made" = some none)
    (X18 : PySem.W.findIn K (.ref SC) "__class__" = some (some (.builtin "object.__class__")))
    (X19 : PySem.W.specialIn K (.builtin "object.__class__") "__get__" = some (some (.builtin "getset_descriptor.__get__")))
    (X20 : PySem.W.takesIn K (.builtin "object.__class__") = some true)
    (X21 : PySem.W.mroIn K SC (.type "object") = some true)
    (X22 : PySem.W.kitOne K (.ref SC) (.ref SC) = some true)
    (X23 : PySem.W.makesIn K SC = true)
    (X24 : PySem.W.keepIn K (.ref SC) = true)
    (X25 : PySem.W.findIn K (.ref SC) "__init__" = some (some (.ref gI)))
    (X26 : PySem.W.isFn K (.ref gI) = true)
    (X27 : K.lookup gI = some ⟨ocI, odI, .func (PySem.W.fnOf "__init__" "Script.__init__" (defArgs sInit) (defBody sInit) (defScope sInit) .none kVI dcI pmI anI cdI ctI), slI⟩)
    (X28 : PySem.W.codeIn K cdI "Script.__init__" = true)
    (X29 : PySem.W.keepIn K (.ref gI) = true)
    (X30 : PySem.W.findCls K (.ref SC) (.type "type") "kept" = some (.get (.builtin "classmethod.__get__") (.ref pK) .none (.ref SC)))
    (X31 : PySem.W.recIn K pK "classmethod" = some (.ref gK :: rK))
    (X32 : PySem.W.isFn K (.ref gK) = true)
    (X33 : K.lookup gK = some ⟨ocK, odK, .func (PySem.W.fnOf "kept" "Script.kept" (defArgs sKept) (defBody sKept) (defScope sKept) .none kVK dcK pmK anK cdK ctK), slK⟩)
    (X34 : PySem.W.codeIn K cdK "Script.kept" = true)
    (X35 : PySem.W.keepIn K (.ref gK) = true)
    (X36 : PySem.W.findIn K (.ref SC) "__call__" = some (some (.ref gA)))
    (X37 : PySem.W.isFn K (.ref gA) = true)
    (X38 : K.lookup gA = some ⟨ocA, odA, .func (PySem.W.fnOf "__call__" "Script.__call__" (defArgs sCall) (defBody sCall) (defScope sCall) .none kVA dcA pmA anA cdA ctA), slA⟩)
    (X39 : PySem.W.codeIn K cdA "Script.__call__" = true)
    (X40 : PySem.W.keepIn K (.ref gA) = true)
    (X41 : PySem.W.findIn K (.ref SC) "__eq__" = some (some (.ref gE)))
    (X42 : PySem.W.isFn K (.ref gE) = true)
    (X43 : K.lookup gE = some ⟨ocE, odE, .func (PySem.W.fnOf "__eq__" "Script.__eq__" (defArgs sEq) (defBody sEq) (defScope sEq) .none kVE dcE pmE anE cdE ctE), slE⟩)
    (X44 : PySem.W.codeIn K cdE "Script.__eq__" = true)
    (X45 : PySem.W.keepIn K (.ref gE) = true)
    (X46 : PySem.W.findIn K (.ref SC) "cost" = some (some (.ref gC)))
    (X47 : PySem.W.isFn K (.ref gC) = true)
    (X48 : K.lookup gC = some ⟨ocC, odC, .func (PySem.W.fnOf "cost" "Script.cost" (defArgs sCost) (defBody sCost) (defScope sCost) .none (.ref kD) dcC pmC anC cdC ctC), slC⟩)
    (X49 : PySem.W.codeIn K cdC "Script.cost" = true)
    (X50 : PySem.W.keepIn K (.ref gC) = true)
    (X51 : PySem.W.nsIn K mainGlobals "least_script" = some (some (.ref gZ)))
    (X52 : K.lookup gZ = some ⟨ocZ, odZ, .func (PySem.W.fnOf "least_script" "least_script" (defArgs sLeast) (defBody sLeast) (defScope sLeast) .none kVZ dcZ pmZ anZ cdZ ctZ), slZ⟩)
    (X53 : PySem.W.codeIn K cdZ "least_script" = true)
    (X54 : PySem.W.keepIn K (.ref gZ) = true)
    (X55 : PySem.W.fnIn K gA = true)
    (X56 : PySem.W.fnIn K gK = true)
    (X57 : PySem.W.readsIn K SC (.type "type") = true)
    (X58 : PySem.W.specialIn K (.ref SC) "__getattribute__" = some (some (.builtin "type.__getattribute__")))
    (X59 : PySem.W.nsIn K kD "put" = some (some (.int 1 tP)))
    (X60 : PySem.W.nsIn K kD "drop" = some (some (.int 1 tD)))
    (X61 : PySem.W.nsIn K kD "swap" = some (some (.int 1 tS)))
    (Y6 : PySem.W.nsIn K mainGlobals "BadDocument" = some (some (.ref d6)))
    (Y7 : PySem.W.nsIn K mainGlobals "BadPrefix" = some (some (.ref d7)))
    (Y8 : PySem.W.nsIn K mainGlobals "NoRoom" = some (some (.ref d8)))
    (Y9 : PySem.W.nsIn K mainGlobals "NoSuchCompletion" = some (some (.ref d9)))
    (Y10 : PySem.W.nsIn K mainGlobals "NoPath" = some (some (.ref d10)))
    (Y11 : PySem.W.nsIn K mainGlobals "NotOffered" = some (some (.ref d11)))
    (Y12 : PySem.W.nsIn K mainGlobals "TooFar" = some (some (.ref d12)))
    (Y13 : PySem.W.nsIn K mainGlobals "BadSchema" = some (some (.ref d13)))
    (Y14 : PySem.W.nsIn K mainGlobals "TooManyStates" = some (some (.ref d14)))
    (Y15 : PySem.W.nsIn K mainGlobals "BadCommand" = some (some (.ref d15)))
    (ZK : ((List.range 6).all fun n => (List.range 16).all fun k => PySem.W.kitOne K (.ref ([c0, c1, c2, c3, c4, c5, d6, d7, d8, d9, d10, d11, d12, d13, d14, d15].getD n 0)) (.ref ([c0, c1, c2, c3, c4, c5, d6, d7, d8, d9, d10, d11, d12, d13, d14, d15].getD k 0)) == some (decide (n = k))) = true)
    (z0 : PySem.W.nsIn K mainGlobals "isinstance" = some none)
    (z1 : PySem.W.nsIn K mainGlobals "bool" = some none)
    (z2 : PySem.W.nsIn K mainGlobals "int" = some none)
    (z3 : PySem.W.nsIn K mainGlobals "str" = some none)
    (z4 : PySem.W.nsIn K mainGlobals "list" = some none)
    (z5 : PySem.W.nsIn K mainGlobals "dict" = some none)
    (z6 : PySem.W.nsIn K mainGlobals "sorted" = some none)
    (z7 : PySem.W.nsIn K mainGlobals "len" = some none)
    (z8 : PySem.W.nsIn K mainGlobals "range" = some none)
    (z9 : PySem.W.nsIn K mainGlobals "min" = some none)
    (z10 : PySem.W.nsIn K mainGlobals "max" = some none)
    (z11 : PySem.W.nsIn K mainGlobals "repr" = some none)
    : ∃ fd : FuncData, (∀ (s : Shared) (u : Value), BindsTo s fd ⟨[u], []⟩ [("script", u)]) ∧ ∀ base : Heap, K.In base → base.Ns mainGlobals mg → LawOk P w K mg base fa fd "script" (spLaw K) := by
  have e := hfa.symm.trans (PySem.W.mg_of X G a13)
  cases e
  have F0_ := fun_mk (st := sSign) l0 c0_ k0
  have F1_ := fun_mk (st := sStep) l1 c1_ k1
  have F2_ := fun_mk (st := sAre) l2 c2_ k2
  have F3_ := fun_mk (st := sBehind) l3 c3_ k3
  have F4_ := fun_mk (st := sStream) l4 c4_ k4
  have F5_ := fun_mk (st := sDraw) l5 c5_ k5
  have F6_ := fun_mk (st := sChoose) l6 c6_ k6
  have F7_ := fun_mk (st := sWord) l7 c7_ k7
  have F8_ := fun_mk (st := sSigns) l8 c8_ k8
  have F9_ := fun_mk (st := sSteps) l9 c9_ k9
  have F10_ := fun_mk (st := sKinds) l10 c10_ k10
  have F11_ := fun_mk (st := sErrR) l11 c11_ k11
  have F12_ := fun_mk (st := sNamR) l12 c12_ k12
  have F13_ := fun_mk (st := sLaw) l13 c13_ k13
  have b0 := F0_.binds (ps := ["thing"]) fun _ _ _ _ _ _ us hl => match us, hl with | [_], _ => rfl
  have m0 := PySem.W.mg_of X G a0
  have b1 := F1_.binds (ps := ["thing"]) fun _ _ _ _ _ _ us hl => match us, hl with | [_], _ => rfl
  have m1 := PySem.W.mg_of X G a1
  have b2 := F2_.binds (ps := ["thing"]) fun _ _ _ _ _ _ us hl => match us, hl with | [_], _ => rfl
  have m2 := PySem.W.mg_of X G a2
  have b3 := F3_.binds (ps := ["given", "made", "put", "drop", "swap"]) fun _ _ _ _ _ _ us hl => match us, hl with | [_, _, _, _, _], _ => rfl
  have m3 := PySem.W.mg_of X G a3
  have b4 := F4_.binds (ps := ["script", "start"]) fun _ _ _ _ _ _ us hl => match us, hl with | [_, _], _ => rfl
  have m4 := PySem.W.mg_of X G a4
  have b5 := F5_.binds (ps := ["stream", "size"]) fun _ _ _ _ _ _ us hl => match us, hl with | [_, _], _ => rfl
  have m5 := PySem.W.mg_of X G a5
  have b6 := F6_.binds (ps := ["stream", "items"]) fun _ _ _ _ _ _ us hl => match us, hl with | [_, _], _ => rfl
  have m6 := PySem.W.mg_of X G a6
  have b7 := F7_.binds (ps := ["stream", "high", "signs"]) fun _ _ _ _ _ _ us hl => match us, hl with | [_, _, _], _ => rfl
  have m7 := PySem.W.mg_of X G a7
  have b8 := F8_.binds (ps := ["stream"]) fun _ _ _ _ _ _ us hl => match us, hl with | [_], _ => rfl
  have m8 := PySem.W.mg_of X G a8
  have b9 := F9_.binds (ps := ["stream", "own", "signs"]) fun _ _ _ _ _ _ us hl => match us, hl with | [_, _, _], _ => rfl
  have m9 := PySem.W.mg_of X G a9
  have b10 := F10_.binds (ps := ["error"]) fun _ _ _ _ _ _ us hl => match us, hl with | [_], _ => rfl
  have m10 := PySem.W.mg_of X G a10
  have b11 := F11_.binds (ps := ["stream", "signs"]) fun _ _ _ _ _ _ us hl => match us, hl with | [_, _], _ => rfl
  have m11 := PySem.W.mg_of X G a11
  have b12 := F12_.binds (ps := ["stream", "signs"]) fun _ _ _ _ _ _ us hl => match us, hl with | [_, _], _ => rfl
  have m12 := PySem.W.mg_of X G a12
  have B : Blt mg := ⟨PySem.W.mg_none_of X G z0, PySem.W.mg_none_of X G z1, PySem.W.mg_none_of X G z2, PySem.W.mg_none_of X G z3, PySem.W.mg_none_of X G z4, PySem.W.mg_none_of X G z5, PySem.W.mg_none_of X G z6, PySem.W.mg_none_of X G z7, PySem.W.mg_none_of X G z8, PySem.W.mg_none_of X G z9, PySem.W.mg_none_of X G z10, PySem.W.mg_none_of X G z11⟩
  have T0 : SkE.ErrTxt K mg "BadScript" "steps" "BadScript.__init__" c0 i0 := { gC := PySem.W.mg_of X G A0, cls := ⟨_, _, _, _, _, _, _, _, _, _, _, _, _, _, _, B0, rfl⟩, sa := C0, ga := D0, gg := E0, noN := F0, iC := G0, tC := H0, kC := I0, exC := J0, tyC := K0, hdC := L0, fn := ⟨_, _, _, _, _, _, _, _, _, _, _, _, _, _, M0, O0⟩, cl_ := P0, hCl := Q0, hGt := X0, hTk := X1, hOb := U0 }
  have T1 : SkE.ErrTxt K mg "WrongText" "wrong" "WrongText.__init__" c1 i1 := { gC := PySem.W.mg_of X G A1, cls := ⟨_, _, _, _, _, _, _, _, _, _, _, _, _, _, _, B1, rfl⟩, sa := C1, ga := D1, gg := E1, noN := F1, iC := G1, tC := H1, kC := I1, exC := J1, tyC := K1, hdC := L1, fn := ⟨_, _, _, _, _, _, _, _, _, _, _, _, _, _, M1, O1⟩, cl_ := P1, hCl := Q1, hGt := X0, hTk := X1, hOb := U1 }
  have T2 : SkE.ErrTxt K mg "NotInside" "wrong" "NotInside.__init__" c2 i2 := { gC := PySem.W.mg_of X G A2, cls := ⟨_, _, _, _, _, _, _, _, _, _, _, _, _, _, _, B2, rfl⟩, sa := C2, ga := D2, gg := E2, noN := F2, iC := G2, tC := H2, kC := I2, exC := J2, tyC := K2, hdC := L2, fn := ⟨_, _, _, _, _, _, _, _, _, _, _, _, _, _, M2, O2⟩, cl_ := P2, hCl := Q2, hGt := X0, hTk := X1, hOb := U2 }
  have T3 : SkE.ErrTxt K mg "NoSuchText" "count" "NoSuchText.__init__" c3 i3 := { gC := PySem.W.mg_of X G A3, cls := ⟨_, _, _, _, _, _, _, _, _, _, _, _, _, _, _, B3, rfl⟩, sa := C3, ga := D3, gg := E3, noN := F3, iC := G3, tC := H3, kC := I3, exC := J3, tyC := K3, hdC := L3, fn := ⟨_, _, _, _, _, _, _, _, _, _, _, _, _, _, M3, O3⟩, cl_ := P3, hCl := Q3, hGt := X0, hTk := X1, hOb := U3 }
  have T4 : SkE.ErrTxt K mg "NothingBetween" "pair" "NothingBetween.__init__" c4 i4 := { gC := PySem.W.mg_of X G A4, cls := ⟨_, _, _, _, _, _, _, _, _, _, _, _, _, _, _, B4, rfl⟩, sa := C4, ga := D4, gg := E4, noN := F4, iC := G4, tC := H4, kC := I4, exC := J4, tyC := K4, hdC := L4, fn := ⟨_, _, _, _, _, _, _, _, _, _, _, _, _, _, M4, O4⟩, cl_ := P4, hCl := Q4, hGt := X0, hTk := X1, hOb := U4 }
  have T5 : SkE.ErrTxt K mg "NoTexts" "wrong" "NoTexts.__init__" c5 i5 := { gC := PySem.W.mg_of X G A5, cls := ⟨_, _, _, _, _, _, _, _, _, _, _, _, _, _, _, B5, rfl⟩, sa := C5, ga := D5, gg := E5, noN := F5, iC := G5, tC := H5, kC := I5, exC := J5, tyC := K5, hdC := L5, fn := ⟨_, _, _, _, _, _, _, _, _, _, _, _, _, _, M5, O5⟩, cl_ := P5, hCl := Q5, hGt := X0, hTk := X1, hOb := U5 }
  have mS := PySem.W.mg_of X G aS
  let C : Nat → Addr := fun n => [c0, c1, c2, c3, c4, c5].getD n 0
  let I : Nat → Addr := fun n => [i0, i1, i2, i3, i4, i5].getD n 0
  refine ⟨PySem.W.fnOf "law" "law" (defArgs sLaw) (defBody sLaw) (defScope sLaw) .none kV13 dc13 pm13 an13 cd13 ct13, fun s v => .of_eq rfl, fun base _ _ => ?_⟩
  have B2 : Blt2 mg := ⟨PySem.W.mg_none_of X G ex0, PySem.W.mg_none_of X G ex1, PySem.W.mg_none_of X G ex2⟩
  have ms : mg "sum" = none := PySem.W.mg_none_of X G ex3
  have gDr : FnOk P w K mg base CX0 1 f5 _ ["stream", "size"] spDraw := ok_draw (k := 0) F5_ B
  have W : Drw P w K mg base f5 f6 _ _ := ⟨gDr, b5, k5, m5, ok_choose (k := 1) F6_ gDr b5 k5 m5 B.len, b6, k6, m6⟩
  have Sgn : Lt P w K mg base f0 _ "is_sign" ["thing"] 1 spSign := ⟨ok_sign (k := 0) F0_ B, b0, k0, m0⟩
  have Stp : Lt P w K mg base f1 _ "is_step" ["thing"] 2 spStep := ⟨ok_step F1_ B B2 Sgn, b1, k1, m1⟩
  have Are : Lt P w K mg base f2 _ "are_steps" ["thing"] 3 spAre := ⟨ok_are F2_ B B2 Stp, b2, k2, m2⟩
  have Bh : Lt P w K mg base f3 _ "costs_behind" ["given", "made", "put", "drop", "swap"] 1 spBeh := ⟨ok_beh (k := 0) F3_ B, b3, k3, m3⟩
  have MMI := fun_mk (st := sInit) X27 X28 X29
  have bMI := MMI.binds (ps := ["self", "steps"]) fun _ _ _ _ _ _ us hl => match us, hl with | [_, _], _ => rfl
  have MMK := fun_mk (st := sKept) X33 X34 X35
  have bMK := MMK.binds (ps := ["cls", "text"]) fun _ _ _ _ _ _ us hl => match us, hl with | [_, _], _ => rfl
  have MMA := fun_mk (st := sCall) X38 X39 X40
  have bMA := MMA.binds (ps := ["self", "text"]) fun _ _ _ _ _ _ us hl => match us, hl with | [_, _], _ => rfl
  have MME := fun_mk (st := sEq) X43 X44 X45
  have bME := MME.binds (ps := ["self", "other"]) fun _ _ _ _ _ _ us hl => match us, hl with | [_, _], _ => rfl
  have MMC := fun_mk (st := sCost) X48 X49 X50
  have MZ := fun_mk (st := sLeast) X52 X53 X54
  have mZ := PySem.W.mg_of X G X51
  have TT : ScT K mg SC := ⟨⟨X11, X12, X13, X14⟩, X15, X16, X17, PySem.W.mg_of X G X10⟩
  have MM : ScM K mg SC := ⟨TT, X18, X19, X20, X21, X22⟩
  have MK : Mk K SC gI := ⟨X23, X25, X26, X24⟩
  have Gi : FnOk P w K mg base CX0 4 gI _ ["self", "steps"] (spIni SC) := ok_ini MMI B B2 TT Are
  have Ga : FnOk P w K mg base CX0 1 gA _ ["self", "text"] (spCal SC) := ok_cal (k := 0) MMA B TT
  have Gk : FnOk P w K mg base CX0 6 gK _ ["cls", "text"] (spKep SC) := ok_kep MMK MK Gi bMI
  have Ge : FnOk P w K mg base CX0 3 gE _ ["self", "other"] (spEqT SC) := ok_eq MME B MM
  have QE : FnR P w K mg base CX0 3 gE (spEqT SC) := (Ge.raw bME .nil).imp fun vs H Q E h => by rw [List.append_nil]; exact h
  have QA : FnR P w K mg base CX0 1 gA (spCal SC) := (Ga.raw bMA .nil).imp fun vs H Q E h => by rw [List.append_nil]; exact h
  have QK : FnR P w K mg base CX0 6 gK (spKep SC) := (Gk.raw bMK .nil).imp fun vs H Q E h => by rw [List.append_nil]; exact h
  have Gc : FnOk P w K mg base CX0 1 gC _ ["self", "put", "drop", "swap"] (spCos SC) := ok_cos (k := 0) MMC ms TT
  have Gl : FnOk P w K mg base CX0 6 gZ _ psL (spLea SC) := ok_lea MZ B TT.mC MK Gi bMI Bh
  have hbI : KBn K (PySem.W.fnOf "__init__" "Script.__init__" (defArgs sInit) (defBody sInit) (defScope sInit) .none kVI dcI pmI anI cdI ctI) psS 1 ["steps"] (fun us ws => us ++ ws) (fun vs zs => vs ++ zs) := ⟨fun s us ws _ l1 l2 => match us, l1, ws, l2 with | [a], _, [b], _ => .of_eq rfl, fun r1 r2 => r1.append r2⟩
  have hbA : KBn K (PySem.W.fnOf "__call__" "Script.__call__" (defArgs sCall) (defBody sCall) (defScope sCall) .none kVA dcA pmA anA cdA ctA) ["self", "text"] 1 ["text"] (fun us ws => us ++ ws) (fun vs zs => vs ++ zs) := ⟨fun s us ws _ l1 l2 => match us, l1, ws, l2 with | [a], _, [b], _ => .of_eq rfl, fun r1 r2 => r1.append r2⟩
  have hbK : KBn K (PySem.W.fnOf "kept" "Script.kept" (defArgs sKept) (defBody sKept) (defScope sKept) .none kVK dcK pmK anK cdK ctK) ["cls", "text"] 1 ["text"] (fun us ws => us ++ ws) (fun vs zs => vs ++ zs) := ⟨fun s us ws _ l1 l2 => match us, l1, ws, l2 with | [a], _, [b], _ => .of_eq rfl, fun r1 r2 => r1.append r2⟩
  have hbC : KBn K (PySem.W.fnOf "cost" "Script.cost" (defArgs sCost) (defBody sCost) (defScope sCost) .none (.ref kD) dcC pmC anC cdC ctC) psC 1 ["drop", "put", "swap"] gOne gOne := ⟨fun s us ws _ l1 l2 => match us, l1, ws, l2 with | [a], _, [d, p, q], _ => .of_eq rfl, one_rel⟩
  have hb5 : KBinds K (PySem.W.fnOf "least_script" "least_script" (defArgs sLeast) (defBody sLeast) (defScope sLeast) .none kVZ dcZ pmZ anZ cdZ ctZ) psL ["made", "given", "swap", "put", "drop"] gFive gFive := ⟨fun s us ws _ hl => by
    obtain ⟨rfl, m, g, s', p, d, rfl⟩ := five_of hl
    exact .of_eq rfl, five_rel⟩
  have hb2 : KBn K (PySem.W.fnOf "least_script" "least_script" (defArgs sLeast) (defBody sLeast) (defScope sLeast) .none kVZ dcZ pmZ anZ cdZ ctZ) psL 2 ["drop", "swap", "put"] gTwo gTwo := ⟨fun s us ws _ l1 l2 => match us, l1, ws, l2 with | [a, b], _, [d, q, p], _ => .of_eq rfl, two_rel⟩
  have FD : FunD K "cost" "Script.cost" (defArgs sCost) (defBody sCost) (defScope sCost) [] kwC gC (PySem.W.fnOf "cost" "Script.cost" (defArgs sCost) (defBody sCost) (defScope sCost) .none (.ref kD) dcC pmC anC cdC ctC) := ⟨⟨_, _, _, _, _, _, _, _, _, _, rfl, X48, X49, .inl ⟨rfl, rfl⟩, kw_cos X59 X60 X61⟩, X50⟩
  have cO : StX.CallO K SC gA := ⟨X36, X37, X55⟩
  have S6 : Sc6 P w K mg base SC := { M := MM, mkS := ⟨gI, _, MK, Gi, hbI⟩, eq := ⟨gE, X41, X42, QE⟩, cal := ⟨gA, _, cO, QA, Ga, hbA⟩, kep := ⟨pK, gK, _, .type "type", ⟨X57, X58⟩, ⟨X30, ⟨_, X31⟩, X56⟩, QK, Gk, hbK⟩, cos := ⟨gC, _, ⟨X46, X47, X50⟩, Gc, hbC, kb_ps FD⟩, lea := ⟨gZ, _, Gl, X54, mZ, hb5, hb2⟩ }
  let CC : Nat → Addr := fun n => [c0, c1, c2, c3, c4, c5, d6, d7, d8, d9, d10, d11, d12, d13, d14, d15].getD n 0
  have eC : ∀ n, n < 6 → CC n = [c0, c1, c2, c3, c4, c5].getD n 0 := fun n hn => six (p := fun n => CC n = [c0, c1, c2, c3, c4, c5].getD n 0) hn rfl rfl rfl rfl rfl rfl
  have TE : Er6 K mg CC I := ⟨T0, T1, T2, T3, T4, T5, PySem.W.mg_of X G Y6, PySem.W.mg_of X G Y7, PySem.W.mg_of X G Y8, PySem.W.mg_of X G Y9, PySem.W.mg_of X G Y10, PySem.W.mg_of X G Y11, PySem.W.mg_of X G Y12, PySem.W.mg_of X G Y13, PySem.W.mg_of X G Y14, PySem.W.mg_of X G Y15⟩
  have kt : Kit6 K CC := fun n k hn hk => eq_of_beq (List.all_eq_true.mp (List.all_eq_true.mp ZK n (List.mem_range.mpr hn)) k (List.mem_range.mpr hk))
  have BB : Bnd6 K mg CC S := ⟨mS, fun n hn => by rw [eC n hn]; exact eq_of_beq (List.all_eq_true.mp X3 n (List.mem_range.mpr hn)), fun n hn => by rw [eC n hn]; exact eq_of_beq (List.all_eq_true.mp X4 n (List.mem_range.mpr hn)), PySem.W.mg_none_of X G ex4⟩
  have St : Lt P w K mg base f4 _ "_law_stream" ["script", "start"] 1 (spStream K) := ⟨ok_stream (k := 0) F4_ B, b4, k4, m4⟩
  have Sg : Lt P w K mg base f8 _ "_law_signs" ["stream"] 3 spSigns := ⟨ok_signs F8_ W, b8, k8, m8⟩
  have Wo : Lt P w K mg base f7 _ "_law_word" ["stream", "high", "signs"] 3 spWord := ⟨ok_word F7_ W B, b7, k7, m7⟩
  have Ts : Lt P w K mg base f9 _ "_law_steps" ["stream", "own", "signs"] 3 spSte := ⟨ok_ste F9_ W B, b9, k9, m9⟩
  have Kn : Lt P w K mg base f10 _ "_law_kinds" ["error"] 1 (spKnd CC) := ⟨ok_knd (kk := 0) F10_ TE kt B.isi, b10, k10, m10⟩
  have Nr : Lt P w K mg base f12 _ "_law_names_right" ["stream", "signs"] 7 spNR := ⟨ok_nr F12_ S6 Wo Ts, b12, k12, m12⟩
  exact ok_law F13_ B St Sg (ok_er F11_ B TE BB W Wo Kn) b11 k11 m11 Nr
end Sk
open PySem PySem.W PyProof.Rows
set_option maxHeartbeats 0 in
theorem PySem.Challenge.cw_soonknown_k46_scripts_by_name_and_errors_holds : PySem.Challenge.rw_soonknown_k46_scripts_by_name_and_errors.Holds := by
  w_on; o_law; k_head; (case hw => w_witness2)
  k_fill
  refine Sk.walk_law (l := PySem.Challenge.rw_soonknown_k46_scripts_by_name_and_errors) (n := 63) (x := "script") (sp := fun w => Sk.spLaw _) rfl (by decide) rfl (fun w h Y => PySem.W.kIn_of Y) ?F fun w H a ns hl hb hS => ⟨a, ns, rfl, hS, hl, hb, fun _ => rfl⟩
  case F =>
    intro w mg fa h KX G hmg
    refine' Sk.all_mk KX G hmg ?a0 ?l0 ?c0_ ?k0 ?a1 ?l1 ?c1_ ?k1 ?a2 ?l2 ?c2_ ?k2 ?a3 ?l3 ?c3_ ?k3 ?a4 ?l4 ?c4_ ?k4 ?a5 ?l5 ?c5_ ?k5 ?a6 ?l6 ?c6_ ?k6 ?a7 ?l7 ?c7_ ?k7 ?a8 ?l8 ?c8_ ?k8 ?a9 ?l9 ?c9_ ?k9 ?a10 ?l10 ?c10_ ?k10 ?a11 ?l11 ?c11_ ?k11 ?a12 ?l12 ?c12_ ?k12 ?a13 ?l13 ?c13_ ?k13 ?aS ?A0 ?B0 ?C0 ?D0 ?E0 ?F0 ?G0 ?H0 ?I0 ?J0 ?K0 ?L0 ?M0 ?O0 ?P0 ?Q0 ?U0 ?A1 ?B1 ?C1 ?D1 ?E1 ?F1 ?G1 ?H1 ?I1 ?J1 ?K1 ?L1 ?M1 ?O1 ?P1 ?Q1 ?U1 ?A2 ?B2 ?C2 ?D2 ?E2 ?F2 ?G2 ?H2 ?I2 ?J2 ?K2 ?L2 ?M2 ?O2 ?P2 ?Q2 ?U2 ?A3 ?B3 ?C3 ?D3 ?E3 ?F3 ?G3 ?H3 ?I3 ?J3 ?K3 ?L3 ?M3 ?O3 ?P3 ?Q3 ?U3 ?A4 ?B4 ?C4 ?D4 ?E4 ?F4 ?G4 ?H4 ?I4 ?J4 ?K4 ?L4 ?M4 ?O4 ?P4 ?Q4 ?U4 ?A5 ?B5 ?C5 ?D5 ?E5 ?F5 ?G5 ?H5 ?I5 ?J5 ?K5 ?L5 ?M5 ?O5 ?P5 ?Q5 ?U5 ?X0 ?X1 ?X2 ?X3 ?X4 ?ex0 ?ex1 ?ex2 ?ex3 ?ex4 ?X10 ?X11 ?X12 ?X13 ?X14 ?X15 ?X16 ?X17 ?X18 ?X19 ?X20 ?X21 ?X22 ?X23 ?X24 ?X25 ?X26 ?X27 ?X28 ?X29 ?X30 ?X31 ?X32 ?X33 ?X34 ?X35 ?X36 ?X37 ?X38 ?X39 ?X40 ?X41 ?X42 ?X43 ?X44 ?X45 ?X46 ?X47 ?X48 ?X49 ?X50 ?X51 ?X52 ?X53 ?X54 ?X55 ?X56 ?X57 ?X58 ?X59 ?X60 ?X61 ?Y6 ?Y7 ?Y8 ?Y9 ?Y10 ?Y11 ?Y12 ?Y13 ?Y14 ?Y15 ?ZK ?z0 ?z1 ?z2 ?z3 ?z4 ?z5 ?z6 ?z7 ?z8 ?z9 ?z10 ?z11
    (case a0 => k_is)
    (case l0 => k_is)
    (case c0_ => k_is)
    (case k0 => k_is)
    (case a1 => k_is)
    (case l1 => k_is)
    (case c1_ => k_is)
    (case k1 => k_is)
    (case a2 => k_is)
    (case l2 => k_is)
    (case c2_ => k_is)
    (case k2 => k_is)
    (case a3 => k_is)
    (case l3 => k_is)
    (case c3_ => k_is)
    (case k3 => k_is)
    (case a4 => k_is)
    (case l4 => k_is)
    (case c4_ => k_is)
    (case k4 => k_is)
    (case a5 => k_is)
    (case l5 => k_is)
    (case c5_ => k_is)
    (case k5 => k_is)
    (case a6 => k_is)
    (case l6 => k_is)
    (case c6_ => k_is)
    (case k6 => k_is)
    (case a7 => k_is)
    (case l7 => k_is)
    (case c7_ => k_is)
    (case k7 => k_is)
    (case a8 => k_is)
    (case l8 => k_is)
    (case c8_ => k_is)
    (case k8 => k_is)
    (case a9 => k_is)
    (case l9 => k_is)
    (case c9_ => k_is)
    (case k9 => k_is)
    (case a10 => k_is)
    (case l10 => k_is)
    (case c10_ => k_is)
    (case k10 => k_is)
    (case a11 => k_is)
    (case l11 => k_is)
    (case c11_ => k_is)
    (case k11 => k_is)
    (case a12 => k_is)
    (case l12 => k_is)
    (case c12_ => k_is)
    (case k12 => k_is)
    (case a13 => k_is)
    (case l13 => k_is)
    (case c13_ => k_is)
    (case k13 => k_is)
    (case aS => k_is)
    (case A0 => k_is)
    (case B0 => k_is)
    (case C0 => k_is)
    (case D0 => k_is)
    (case E0 => k_is)
    (case F0 => k_is)
    (case G0 => k_is)
    (case H0 => k_is)
    (case I0 => k_is)
    (case J0 => k_is)
    (case K0 => k_is)
    (case L0 => k_is)
    (case M0 => k_is)
    (case O0 => k_is)
    (case P0 => first | k_is | rfl | decide +kernel)
    (case Q0 => k_is)
    (case U0 => first | k_is | rfl | decide +kernel)
    (case A1 => k_is)
    (case B1 => k_is)
    (case C1 => k_is)
    (case D1 => k_is)
    (case E1 => k_is)
    (case F1 => k_is)
    (case G1 => k_is)
    (case H1 => k_is)
    (case I1 => k_is)
    (case J1 => k_is)
    (case K1 => k_is)
    (case L1 => k_is)
    (case M1 => k_is)
    (case O1 => k_is)
    (case P1 => first | k_is | rfl | decide +kernel)
    (case Q1 => k_is)
    (case U1 => first | k_is | rfl | decide +kernel)
    (case A2 => k_is)
    (case B2 => k_is)
    (case C2 => k_is)
    (case D2 => k_is)
    (case E2 => k_is)
    (case F2 => k_is)
    (case G2 => k_is)
    (case H2 => k_is)
    (case I2 => k_is)
    (case J2 => k_is)
    (case K2 => k_is)
    (case L2 => k_is)
    (case M2 => k_is)
    (case O2 => k_is)
    (case P2 => first | k_is | rfl | decide +kernel)
    (case Q2 => k_is)
    (case U2 => first | k_is | rfl | decide +kernel)
    (case A3 => k_is)
    (case B3 => k_is)
    (case C3 => k_is)
    (case D3 => k_is)
    (case E3 => k_is)
    (case F3 => k_is)
    (case G3 => k_is)
    (case H3 => k_is)
    (case I3 => k_is)
    (case J3 => k_is)
    (case K3 => k_is)
    (case L3 => k_is)
    (case M3 => k_is)
    (case O3 => k_is)
    (case P3 => first | k_is | rfl | decide +kernel)
    (case Q3 => k_is)
    (case U3 => first | k_is | rfl | decide +kernel)
    (case A4 => k_is)
    (case B4 => k_is)
    (case C4 => k_is)
    (case D4 => k_is)
    (case E4 => k_is)
    (case F4 => k_is)
    (case G4 => k_is)
    (case H4 => k_is)
    (case I4 => k_is)
    (case J4 => k_is)
    (case K4 => k_is)
    (case L4 => k_is)
    (case M4 => k_is)
    (case O4 => k_is)
    (case P4 => first | k_is | rfl | decide +kernel)
    (case Q4 => k_is)
    (case U4 => first | k_is | rfl | decide +kernel)
    (case A5 => k_is)
    (case B5 => k_is)
    (case C5 => k_is)
    (case D5 => k_is)
    (case E5 => k_is)
    (case F5 => k_is)
    (case G5 => k_is)
    (case H5 => k_is)
    (case I5 => k_is)
    (case J5 => k_is)
    (case K5 => k_is)
    (case L5 => k_is)
    (case M5 => k_is)
    (case O5 => k_is)
    (case P5 => first | k_is | rfl | decide +kernel)
    (case Q5 => k_is)
    (case U5 => first | k_is | rfl | decide +kernel)
    (case X0 => first | k_is | rfl | decide +kernel)
    (case X1 => first | k_is | rfl | decide +kernel)
    (case X2 => first | rfl | decide +kernel)
    (case X3 => first | rfl | decide +kernel)
    (case X4 => first | rfl | decide +kernel)
    (case ex0 => k_is)
    (case ex1 => k_is)
    (case ex2 => k_is)
    (case ex3 => k_is)
    (case ex4 => k_is)
    (case X10 => first | k_is | rfl | decide +kernel)
    (case X11 => first | k_is | rfl | decide +kernel)
    (case X12 => first | k_is | rfl | decide +kernel)
    (case X13 => first | k_is | rfl | decide +kernel)
    (case X14 => first | k_is | rfl | decide +kernel)
    (case X15 => first | k_is | rfl | decide +kernel)
    (case X16 => first | k_is | rfl | decide +kernel)
    (case X17 => first | k_is | rfl | decide +kernel)
    (case X18 => first | k_is | rfl | decide +kernel)
    (case X19 => first | k_is | rfl | decide +kernel)
    (case X20 => first | k_is | rfl | decide +kernel)
    (case X21 => first | k_is | rfl | decide +kernel)
    (case X22 => first | k_is | rfl | decide +kernel)
    (case X23 => first | k_is | rfl | decide +kernel)
    (case X24 => first | k_is | rfl | decide +kernel)
    (case X25 => first | k_is | rfl | decide +kernel)
    (case X26 => first | k_is | rfl | decide +kernel)
    (case X27 => first | k_is | rfl | decide +kernel)
    (case X28 => first | k_is | rfl | decide +kernel)
    (case X29 => first | k_is | rfl | decide +kernel)
    (case X30 => first | k_is | rfl | decide +kernel)
    (case X31 => first | k_is | rfl | decide +kernel)
    (case X32 => first | k_is | rfl | decide +kernel)
    (case X33 => first | k_is | rfl | decide +kernel)
    (case X34 => first | k_is | rfl | decide +kernel)
    (case X35 => first | k_is | rfl | decide +kernel)
    (case X36 => first | k_is | rfl | decide +kernel)
    (case X37 => first | k_is | rfl | decide +kernel)
    (case X38 => first | k_is | rfl | decide +kernel)
    (case X39 => first | k_is | rfl | decide +kernel)
    (case X40 => first | k_is | rfl | decide +kernel)
    (case X41 => first | k_is | rfl | decide +kernel)
    (case X42 => first | k_is | rfl | decide +kernel)
    (case X43 => first | k_is | rfl | decide +kernel)
    (case X44 => first | k_is | rfl | decide +kernel)
    (case X45 => first | k_is | rfl | decide +kernel)
    (case X46 => first | k_is | rfl | decide +kernel)
    (case X47 => first | k_is | rfl | decide +kernel)
    (case X48 => first | k_is | rfl | decide +kernel)
    (case X49 => first | k_is | rfl | decide +kernel)
    (case X50 => first | k_is | rfl | decide +kernel)
    (case X51 => first | k_is | rfl | decide +kernel)
    (case X52 => first | k_is | rfl | decide +kernel)
    (case X53 => first | k_is | rfl | decide +kernel)
    (case X54 => first | k_is | rfl | decide +kernel)
    (case X55 => first | k_is | rfl | decide +kernel)
    (case X56 => first | k_is | rfl | decide +kernel)
    (case X57 => first | k_is | rfl | decide +kernel)
    (case X58 => first | k_is | rfl | decide +kernel)
    (case X59 => first | k_is | rfl | decide +kernel)
    (case X60 => first | k_is | rfl | decide +kernel)
    (case X61 => first | k_is | rfl | decide +kernel)
    (case Y6 => k_is)
    (case Y7 => k_is)
    (case Y8 => k_is)
    (case Y9 => k_is)
    (case Y10 => k_is)
    (case Y11 => k_is)
    (case Y12 => k_is)
    (case Y13 => k_is)
    (case Y14 => k_is)
    (case Y15 => k_is)
    (case ZK => first | rfl | decide +kernel)
    (case z0 => k_is)
    (case z1 => k_is)
    (case z2 => k_is)
    (case z3 => k_is)
    (case z4 => k_is)
    (case z5 => k_is)
    (case z6 => k_is)
    (case z7 => k_is)
    (case z8 => k_is)
    (case z9 => k_is)
    (case z10 => k_is)
    (case z11 => k_is)
